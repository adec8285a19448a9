/- Own work. -/
import Derived.Deep.AppendLies
import Derived.Test.YtoblgjledefdbabGreatDoorQs23
set_option maxRecDepth 100000
set_option maxHeartbeats 8000000
namespace Go.Proofs.YtoblgjledefdbabGreatDoor
open Go.RowKit
attribute [local go_sem ↓] Go.wp_at_zero Go.wp_at_succ
open Go.Proofs.Tryz
theorem Qif(w:World)(ht:Tr w)(k:Int)(ao:OA)(b off cap H n:Nat)(hH:H<=40)(hn:2^H=n)(L:LB)(hr:RdS w ao b off n L)(hsz:∀s∈L,s.size<=140737488351232)(r:BA)(hq:Hid (nd (clk k) L H 0=r)) :
  Calls prog 68 #[.int .i64 k,.slice ao n cap] w fun e w'=>e= .returned (.string r)∧Below w.heap.size w w':=by
 have hn0:0<n:=by rw[<-hn];exact LM H
 have hmx:n<=1099511627776:=by rw[<-hn];exact Ng (n:=2) (by decide) hH
 obtain rfl:=hr.ptr hn0;have HT:Hid (Tr w∧RdS w (some ⟨b,off,none⟩) b off n L∧(∀s∈L,s.size<=140737488351232)):=⟨ht,hr,hsz⟩;have hmx':(n:Int)<=1099511627776:=by omega
 have hb:=Lc w.heap.size w;have HN:Hid (2^H=n∧n<=1099511627776):=⟨hn,hmx⟩;have hc:=Qn k;have HC:Hid (clk k<=32):=hc;clear ht hr hsz hn hH hmx hc
 go_enter func68,ntmps68;go_wp2
 go_loopg [5,6] n (fun gg v i0 wr=> ∃i:Nat,i<=n∧gg=n-i∧i0= .int .i64 i∧Qg wr w.heap.size v (Y2 (clk k) L 0 i)∧Below w.heap.size w wr)
 case atStart=>go_light;exact⟨0,Lm _,rfl,rfl,Uc _ _,hb⟩
 case round=>
  clear hb;obtain⟨i,hi,rfl,rfl,ho,hb⟩:=hrel;have hi0:(0:Int)<=(i:Int):=Lf _
  by_cases hlt:i<n
  ·have hlt':(i:Int)<(n:Int):=by omega
   obtain⟨t1,t2,t3⟩:=HT.out;obtain⟨s,hs⟩:∃s,L.getD i ByteArray.empty=s:=⟨_,rfl⟩;have ci:=(t2.next hb (Lb _)).at hlt;rw[hs] at ci;obtain⟨x,hx⟩:∃x,nd (clk k) L 0 i=x:=⟨_,rfl⟩;have HLf:=QeT wr (t1.next hb) k s (by rw[<-hs];have:=t3 _ (QI (ss:=L) (k:=i) (by rw[t2.hl];exact hlt));omega) x (by rw[<-hx,nd,hs])
   have HX:Hid (Qg wr w.heap.size u5 (Y2 (clk k) L 0 i)∧Below w.heap.size w wr∧i+1<=n∧x.size<=9223372036854775807∧Y2 (clk k) L 0 i++[x]=Y2 (clk k) L 0 (i+1)):=⟨ho,hb,hlt,by rw[<-hx,QG HC.out];have:=HC.out;omega,by rw[<-hx];exact QcF _ _ _ _⟩
   clear ho hb hi hlt hs hx t1 t2 t3
   go_wp2_with (first
    | (go_at_call 112;with_reducible refine HLf.mono ?_;rintro e w2 ⟨rfl,hb2⟩)
    | (at_builtin;refine QM _ rfl _ _ rfl w.heap.size _ (Y2 (clk k) L 0 i) rfl (Q4 (Qv HX.out.1 hb2 (Lb _)) _) (Zp w2.heap.size) w2.heap.size 0 1 [x] rfl (YT w2 x HX.out.2.2.2.1) (fun h=>by cases h) ?c1 ?c2 ?_))
   case c1=>have h1:=HX.out.2.2.1;have h2:=HN.out.2;rw[Ys];simp;omega
   case c2=>have:=(Qa HX.out.2.1 hb2).size;simp;omega
   intro v2 w3 h3 hb3;have HY:Hid (Qg w3 w.heap.size v2 (Y2 (clk k) L 0 (i+1))∧Below w.heap.size w w3):=⟨by rw[<-HX.out.2.2.2.2];exact h3,(bal (Qa HX.out.2.1 hb2) _).trans hb3⟩
   clear h3 hb3 hb2;go_wp2
   go_roundg (n-(i+1))
   case rel=>go_light;exact⟨i+1,HX.out.2.2.1,rfl,by go_num,HY.out.1,HY.out.2⟩
   case measure=>go_light;have:=HX.out.2.2.1;omega
  ·obtain rfl:i=n:=by omega
   have hlt':¬((i:Int)<(i:Int)):=by omega
   have HX:Hid (Qg wr w.heap.size u5 (Y2 (clk k) L 0 i)∧Below w.heap.size w wr):=⟨ho,hb⟩;clear ho hb hi hlt;go_wp2
   go_loopg [5] H (fun gg v wx=> ∃(j N:Nat),j<=H∧gg=H-j∧Hid (2^(H-j)=N∧N<=1099511627776)∧Qg wx w.heap.size v (Y2 (clk k) L j N)∧Below w.heap.size w wx)
   case atStart=>go_light;exact⟨0,i,Lm _,rfl,HN.out,HX.out.1,HX.out.2⟩
   case round=>
    clear HX;obtain⟨j,N,hj,rfl,HJ,ho,hb⟩:=hrel;have hNN:=HJ.out;have hN0:0<N:=by rw[<-hNN.1];exact LM _
    obtain⟨g,cp,rfl,hg,hcp,hcm⟩:=QeJ ho (by rw[Ys];exact hN0)
    rw[Ys] at hcp ⊢
    by_cases hjl:j<H
    ·obtain⟨M,hM⟩:∃M,2^(H-(j+1))=M:=⟨_,rfl⟩;have hNM:N=2*M:=by rw[<-hNN.1,<-hM,show H-j=H-(j+1)+1 by omega,LO];omega
     have hM0:0<M:=by rw[<-hM];exact LM _
     have h1N:(1:Int)<(N:Int):=by omega
     have hN':(N:Int)<=1099511627776:=by omega
     have HX:Hid (Qg wr w.heap.size (.slice (Zp g) (Y2 (clk k) L j N).length cp) (Y2 (clk k) L j N)∧Below w.heap.size w wr∧N=2*M∧2^(H-(j+1))=M∧j+1<=H∧N<=1099511627776):=⟨ho,hb,hNM,hM,hjl,hNN.2⟩;clear ho hb hNN hN0 hg hcp hcm hNM hM hM0 hjl hj HJ;obtain⟨W0,hW0⟩:∃W0,W0=wr:=⟨wr,rfl⟩;subst hW0;go_wp2
     go_loopg [7,8] M (fun gg v i0 wx=> ∃m:Nat,m<=M∧gg=M-m∧i0= .int .i64 (2*(m:Int))∧Qg wx W0.heap.size v (Y2 (clk k) L (j+1) m)∧Below W0.heap.size W0 wx)
     case atStart=>go_light;exact⟨0,Lm _,rfl,rfl,Uc _ _,Lc _ _⟩
     case round=>
      obtain⟨m,hm,rfl,rfl,ho,hb⟩:=hrel;have hm0:(0:Int)<=(m:Int):=Lf _;obtain⟨y1,y2,y3,y4,y5,y6⟩:=HX.out
      by_cases hlt:m<M
      ·have hlt':2*(m:Int)+1<(N:Int):=by omega
       have hlt2:2*(m:Int)<(N:Int):=by omega
       obtain⟨a,ha⟩:∃a,2*m=a:=⟨_,rfl⟩;have ea:2*(m:Int)=(a:Int):=by omega
       have k1:=(UK (Qv y1 hb (Lb _)) (j:=a) (by rw[Ys];omega)).1
       have k2:=(UK (Qv y1 hb (Lb _)) (j:=a+1) (by rw[Ys];omega)).1
       rw[QdG _ _ _ _ (by omega)] at k1 k2
       obtain⟨x,hx⟩:∃x,nd (clk k) L j a=x:=⟨_,rfl⟩;obtain⟨y,hy⟩:∃y,nd (clk k) L j (a+1)=y:=⟨_,rfl⟩;obtain⟨z,hz⟩:∃z,nd (clk k) L (j+1) m=z:=⟨_,rfl⟩;rw[hx] at k1;rw[hy] at k2;have zx:x.size=clk k:=by rw[<-hx];exact QG HC.out _ _ _
       have zy:y.size=clk k:=by rw[<-hy];exact QG HC.out _ _ _
       have hcc:=HC.out;have HNd:Hid (∀W,Below wr.heap.size wr W->Calls prog 113 #[.int .i64 k,.string x,.string y] W fun e w'=>e= .returned (.string z)∧Below W.heap.size W w'):=fun W h=>QeU W (HT.out.1.next (Qa (Qa y2 hb) h)) k x y (by omega) (by omega) z (by rw[<-hz,nd,ha,hx,hy])
       have HK:Hid (∀W,Below wr.heap.size wr W->W.cell? ⟨g,a,none⟩=some (.string x)∧W.cell? ⟨g,a+1,none⟩=some (.string y)):=fun W h=>by
        have l1:=Ll wr _ k1;exact⟨(h.cell (p:=⟨g,a,none⟩) l1).trans k1,(h.cell (p:=⟨g,a+1,none⟩) l1).trans k2⟩
       have HK0:Hid (∀W,Below W0.heap.size W0 W->W.cell? ⟨g,a,none⟩=some (.string x)∧W.cell? ⟨g,a+1,none⟩=some (.string y)):=fun W h=>by
        have r1:=(UK (Qv y1 h (Lb _)) (j:=a) (by rw[Ys];omega)).1
        have r2:=(UK (Qv y1 h (Lb _)) (j:=a+1) (by rw[Ys];omega)).1
        rw[QdG _ _ _ _ (by omega)] at r1 r2
        rw[hx] at r1;rw[hy] at r2;exact⟨r1,r2⟩
       have HY:Hid (Qg wr W0.heap.size u7 (Y2 (clk k) L (j+1) m)∧Below W0.heap.size W0 wr∧Y2 (clk k) L (j+1) m++[z]=Y2 (clk k) L (j+1) (m+1)∧z.size<=9223372036854775807∧m+1<=M∧N=2*M∧N<=1099511627776):=⟨ho,hb,by rw[<-hz];exact QcF _ _ _ _,by rw[<-hz,QG HC.out];omega,hlt,y3,y6⟩
       have e1:IntKind.i64.wrap ((a:Int)+1)=(a:Int)+1:=by rw[LE];omega
       have h0a:(0:Int)<=(a:Int):=by omega
       have h0b:(0:Int)<=(a:Int)+1:=by omega
       have hd:Below wr.heap.size wr wr.drew:=(Lc _ _).drew;rw[ea] at hlt' hlt2 ⊢;clear y1 y2 y3 y4 y5 y6 ho hb hm hlt hx hy hz zx zy hcc ha
       go_upto_region 11 with (fail)
       obtain⟨i0,hi0,hz0,hz1,hz2⟩:=info_parts Tryz.infoS;have HO:Hid (∀W,Below wr.heap.size wr W->(W.alloc (.cells #[.string z] 9)).ownsRow W0.heap.size 9 1 u7 m ((Y2 (clk k) L (j+1) m).map Value.string)):=fun W h=>by
        have:=Q4 (Qv HY.out.1 h (Lb _)) (.cells #[.string z] 9);rw[Qg,Ys] at this;exact this
       have HM1:Hid (m+1<=maxLen∧(m+1)*16<=140737488355328):=by have:=HY.out;refine⟨?_,?_⟩;unfold maxLen;omega;omega
       have HS0:Hid (∀W,Below wr.heap.size wr W->W0.heap.size<=(W.alloc (.cells #[.string z] 9)).heap.size):=fun W h=>by have:=(Qa HY.out.2.1 h).size;simp;omega
       have kk:=HK.out wr.drew hd;have HG:Hid (∀w2 w3,Below wr.drew.heap.size wr.drew w2->(w2.alloc (.cells #[.string z] 9)).grownBy w3 u7.ownBlock->Below W0.heap.size W0 w3):=fun w2 w3 h1 h2=>(bal (Qa (Qa HY.out.2.1 hd) h1) _).grown h2 (by have:=(Qa (Qa HY.out.2.1 hd) h1).size;simp;omega) (fun q hq=>(HY.out.1.lt q hq).1)
       have HK3:Hid (∀w2 w3,Below wr.drew.heap.size wr.drew w2->(w2.alloc (.cells #[.string z] 9)).grownBy w3 u7.ownBlock->w3.cell? ⟨g,a,none⟩=some (.string x)∧w3.cell? ⟨g,a+1,none⟩=some (.string y)):=fun w2 w3 h1 h2=>HK0.out w3 (HG.out w2 w3 h1 h2)
       go_region_held3 (fun w'=>w'.cell? ⟨g,a,none⟩=some (.string x)∧w'.cell? ⟨g,a+1,none⟩=some (.string y)) (first|assumption|(exact HK3.out _ _ hb2 hgrow)|(exact HK.out _ (Qa hd hb2))|(exact HK.out _ (bal (Qa hd hb2) _))) (first
        | (go_at_call 113;with_reducible refine(HNd.out _ hd).mono ?_;rintro e w2 ⟨rfl,hb2⟩)
        | (refine step_append_lies _ (by rfl) _ _ _ (by rfl) W0.heap.size 9 i0 _ 1 16 underlying22 hi0 hz0 hz1 hz2 rfl (by omega) u7 m ((Y2 (clk k) L (j+1) m).map Value.string) (by rfl) (HO.out _ (Qa hd hb2)) ⟨w2.heap.size,0,none⟩ 1 1 [.string z] (by rfl) (by rfl) (World.news_of_block (cs:=#[.string z]) (t:=9) (fr:=(0,0)) (Lr w2 _)) (by simp[Value.oneCell']) (by omega) HM1.out.1 HM1.out.2 (HS0.out _ (Qa hd hb2)) (w2.heap.size+1) (by simp) ?_;intro gg cap_1 w3 hown3 hgrow hat hlt3))
       have HZ:Hid (Qg w3 W0.heap.size (.slice (Zp gg) (m+1) cap_1) (Y2 (clk k) L (j+1) (m+1))∧Below W0.heap.size W0 w3):=⟨by
        rw[Qg,Ys,<-HY.out.2.2.1,Nd];exact hown3,HG.out _ _ hb2 hgrow⟩
       clear hown3 hgrow hat hlt3 HG HK3 HK HK0 HNd HO HS0 kk;have HEa:=Qc ea;clear ea;go_wp2
       go_roundg (M-(m+1))
       case rel=>go_light;exact⟨m+1,HY.out.2.2.2.2.1,rfl,by have:=HEa.out;rw[show 2*((m+1:Nat):Int)=(a:Int)+2 by omega],HZ.out.1,HZ.out.2⟩
       case measure=>go_light;have:=HY.out.2.2.2.2.1;omega
      ·obtain rfl:m=M:=by omega
       obtain⟨a,ha⟩:∃a,2*m=a:=⟨_,rfl⟩;have ea:2*(m:Int)=(a:Int):=by omega
       have hlt':¬((a:Int)+1<(N:Int)):=by omega
       have e1:IntKind.i64.wrap ((a:Int)+1)=(a:Int)+1:=by rw[LE];omega
       rw[ea];have HY:Hid (Qg wr w.heap.size u7 (Y2 (clk k) L (j+1) m)∧Below w.heap.size w wr∧2^(H-(j+1))=m∧j+1<=H∧m<=1099511627776):=⟨World.ownsRow.mono ho y2.size,Qa y2 hb,y4,y5,by omega⟩
       clear y1 y2 y3 y4 y5 y6 ho hb hm hlt HX ha ea;go_wp2
       go_roundg (H-(j+1))
       case rel=>go_light;obtain⟨k1,k2,k3,k4,k5⟩:=HY.out;exact⟨j+1,m,k4,rfl,⟨k3,k5⟩,k1,k2⟩
       case measure=>go_light;have:=HY.out.2.2.2.1;omega
    ·obtain rfl:j=H:=by omega
     obtain⟨n1,n2⟩:=hNN;rw[NK,ND] at n1;subst n1;have k1:=(UK ho (j:=0) (by rw[Ys];decide)).1
     rw[QdG _ _ _ _ (by decide),hq.out] at k1
     have h1:¬((1:Int)<1):=by decide
     have HB:Hid (Below w.heap.size w wr):=hb;clear ho hb hcp hcm hg HJ n2 hN0 hj hjl;go_wp2
     go_ret
     exact⟨rfl,HB.out⟩
theorem RdS.cut{w:World}{b off len:Nat}{ss:LB}(h:RdS w (some ⟨b,off,none⟩) b off len ss)(i n:Nat)(hn:i+n<=len):RdS w (some ⟨b,off+i,none⟩) b (off+i) n ((ss.drop i).take n):=by
 refine⟨by rw[Lv,LD,h.hl];omega,fun _=>rfl,fun j v hv=> ?_,fun s hs=>h.sz s (Nm (Nn hs))⟩
 rw[N8,Nf] at hv
 split at hv
 ·rw[IJ,Nx] at hv;rw[NR];exact h.rng (i+j) v hv
 ·cases hv
def gen{α:Type}(f:Nat->α)(n:Nat):Nat->List α
 | 0=>[]
 | h+1=>(if n/2^h%2=1 then [f h] else [])++gen f n h
theorem QgN(c:Nat)(L:LB):∀h,gen (fun s=>nd c L s (L.length/2^s-1)) L.length h=pks c L h
 | 0=>rfl
 | h+1=>by rw[gen,pks,QgN c L h]
theorem Qdd{α β:Type}(g:α->β)(f:Nat->α)(n:Nat):∀h,(gen f n h).map g=gen (fun s=>g (f s)) n h
 | 0=>rfl
 | h+1=>by
  rw[gen,gen,Nd,Qdd g f n h]
  by_cases e:n/2^h%2=1
  ·rw[Lo e,Lo e];rfl
  ·rw[Le e,Le e];rfl
theorem Qbm{α:Type}{f:Nat->α}{n h:Nat}(e:n/2^h%2≠1):gen f n (h+1)=gen f n h:=by rw[gen,Le e];rfl
theorem Qdf{α:Type}{f:Nat->α}{n h:Nat}(e:n/2^h%2=1):gen f n (h+1)=f h::gen f n h:=by rw[gen,Lo e];rfl
theorem Qbn{α:Type}{f:Nat->α}{n s:Nat} : ∀d,n%2^(s+d)<2^s->gen f n (s+d)=gen f n s
 | 0,_=>rfl
 | d+1,h=>by
  have hs:2^s<=2^(s+d):=Ng (by decide) (by omega)
  have h2:n%2^(s+(d+1))/2^(s+d)%2≠1:=Qho (by omega)
  rw[Qgs (by omega)] at h2
  rw[show s+(d+1)=s+d+1 by omega,Qbm h2]
  refine Qbn d ?_
  have:n%2^(s+d)=n%2^(s+(d+1))%2^(s+d):=by
   rw[show s+(d+1)=(s+d)+1 by omega,LO,Nat.mod_mul_right_mod]
  rw[this,NJ (LL h hs)];exact h
theorem Qjt{α:Type}{f:Nat->α}{n g s:Nat}(h1:2^s<=n%2^g)(h2:n%2^g<2^(s+1)):gen f n g=f s::gen f n s:=by
 obtain⟨hsg,e2,e1,_⟩:=Qhe h1 h2;obtain⟨d,rfl⟩:∃d,g=s+1+d:=⟨g-s-1,by omega⟩
 rw[Qbn d (by rw[e1,<-e1];exact h2),Qdf e2]
theorem Qju{α:Type}{f:Nat->α}{n g:Nat}(h:n%2^g=0):gen f n g=[]:=by
 have:=Qbn (f:=f) (n:=n) (s:=0) g (by rw[Lp,h];decide)
 rw[Lp] at this;rw[this,gen]
theorem Qdc{α:Type}(f:Nat->α)(n:Nat):∀h,(gen f n h).length<=h
 | 0=>Lb _
 | h+1=>by
  have:=Qdc f n h
  by_cases e:n/2^h%2=1
  ·rw[Qdf e,LJ];omega
  ·rw[Qbm e];omega
theorem Qde{n:Nat} : ∀h s,s∈gen id n h->s<h∧n/2^s%2=1
 | 0,s,hs=>by cases hs
 | h+1,s,hs=>by
  by_cases e:n/2^h%2=1
  ·rw[Qdf e] at hs
   rcases List.mem_cons.1 hs with rfl|hs
   ·exact⟨I1 _,e⟩
   ·have:=Qde h s hs;exact⟨by omega,this.2⟩
  ·rw[Qbm e] at hs;have:=Qde h s hs;exact⟨by omega,this.2⟩
def cP:List (Nat×Nat)->List Value
 | []=>[]
 | p::r=> .int .i64 p.1 :: .int .i64 p.2::cP r
theorem Qn5(l m:List (Nat×Nat)):cP (l++m)=cP l++cP m:=by
 induction l with
 | nil=>rfl
 | cons b r ih=>simp[cP,ih]
theorem Qn6(l:List (Nat×Nat))(j:Nat)(hj:j<l.length):(cP l)[j*2]? = some (.int .i64 ((l.getD j (0,0)).1:Int))∧(cP l)[j*2+1]? = some (.int .i64 ((l.getD j (0,0)).2:Int)):=by
 induction l generalizing j with
 | nil=>simp at hj
 | cons b r ih=>
  cases j with
  | zero=>exact⟨rfl,rfl⟩
  | succ j=>
   have:=ih j (by simpa using hj)
   rw[show(j+1)*2=j*2+1+1 by omega]
   simpa [cP] using this
theorem Tryz.infoP:(prog.info? 148).map (fun i=>(i.zero,i.size,i.bytes))=some (some (.agg #[.int .i64 0,.int .i64 0]),2,16):=by kernel_rfl
def OwnP(w:World)(B:Nat)(v:Value)(l:List (Nat×Nat)):Prop:=w.ownsRow B 148 2 v l.length (cP l)
theorem Qcz{w W:World}{B:Nat}{v:Value}{l:List (Nat×Nat)}(h:OwnP w B v l)(hb:Below w.heap.size w W):OwnP W B v l:=by
 obtain⟨h1,h2⟩:=h;refine⟨h1,?_⟩
 rcases h2 with h2|⟨g,cap,cur,rfl,hg,hh,r⟩
 ·exact .inl h2
 ·exact .inr ⟨g,cap,cur,rfl,hg,by rw[hb.block g (Array.getElem?_eq_some_iff.1 hh).1];exact hh,r⟩
theorem Qkc(w:World)(B:Nat):OwnP w B (.slice none 0 0) []:=⟨rfl,.inl ⟨rfl,rfl⟩⟩
theorem QhY{w:World}{B g n cap:Nat}{l:List (Nat×Nat)}(h:OwnP w B (.slice (Zp g) n cap) l){j:Nat}(hj:j<l.length):w.cell? ⟨g,j*2,none⟩=some (.int .i64 ((l.getD j (0,0)).1:Int))∧w.cell? ⟨g,j*2+1,none⟩=some (.int .i64 ((l.getD j (0,0)).2:Int)):=by
 obtain⟨k1,k2⟩:=Qn6 l j hj;have h1:=IH h (g:=g) rfl _ _ k1;have h2:=IH h (g:=g) rfl _ _ k2;rw[Addr.add_mid,Lp] at h1 h2;exact⟨h1,h2⟩
theorem QaD(w:World){ops:Array Oper}{rest:List Oper}{o:Oper}{a:Act}{Q:Exit->Act->World->Prop}
  (hg:o.guard=none) (s x:Operand) (hop:o.op=Op.call { callee:=Callee.builtin Builtin.append,args:=#[s,x],argTypes:=#[146,146] })
  (B:Nat) (v:Value) (L:List (Nat×Nat)) (w0:World) (p q:Nat) (hw:w=w0.alloc (.cells #[.int .i64 p,.int .i64 q] 148)) (hs:a.eval s=v) (hown:OwnP w B v L) (hx:a.eval x= .slice (Zp w0.heap.size) 1 1)
  (hlen:L.length+1<=1048576) (hB:B<=w.heap.size)
  (hK:∀v' w',OwnP w' B v' (L++[(p,q)])->Below B w w'->wpList prog ops Q rest (a.put o.dst v') w'):wpList prog ops Q (o::rest) a w:=by
 obtain⟨i0,hi,hz0,hz1,hz2⟩:=info_parts Tryz.infoP;have hlt:∀k,v.ownBlock=some k->B<=k:=by
  obtain⟨_,h2⟩:=hown
  rcases h2 with ⟨rfl,_⟩|⟨g,cp,cur,rfl,hg,_⟩
  ·intro k hk;cases hk
  ·intro k hk;cases hk;exact hg
 have hnews:∀j u,([.int .i64 p,.int .i64 q]:List Value)[j]? = some u->w.cell? ((⟨w0.heap.size,0,none⟩:Addr).add j)=some u:=by
  subst hw;exact World.news_of_block (cs:=#[.int .i64 p,.int .i64 q]) (t:=148) (fr:=(0,0)) (Lr w0 _)
 refine wpList_append_own w hg s x _ hop B 148 i0 (.agg #[.int .i64 0,.int .i64 0]) 2 16 underlying146 hi hz0 hz1 hz2 rfl (by decide) _ _ _ hs hown ⟨w0.heap.size,0,none⟩ 1 1 [.int .i64 p,.int .i64 q] hx rfl hnews (by intro u hu;simp at hu;rcases hu with rfl|rfl <;> rfl) (by unfold maxLen;omega) (by omega) hB ?_
 intro v' w' h1 h2 _;refine hK v' w' ?_ ((Lc _ _).grown h2 hB hlt)
 rw[OwnP,Lh,Qn5];exact h1
def mtP(n s:Nat):Nat×Nat:=((n/2^s-1)*2^s,2^s)
theorem Q8(w:World)(n:Nat)(hn:n<=1099511627776)(P:List (Nat×Nat))(hP:Hid (gen (mtP n) n 41=P)) :
  Calls prog 67 #[.int .i64 n] w fun e w'=> ∃v,e= .returned v∧OwnP w' w.heap.size v P∧Below w.heap.size w w':=by
 have hb:=Lc w.heap.size w;have HS:Hid ([]++gen (mtP n) n 41=P):=by rw[NE];exact hP
 have HPl:Hid (P.length<=41):=by show _<=_;rw[<-hP.out];exact Qdc _ _ _
 have HN:Hid (n<=1099511627776):=hn;have hn':(n:Int)<=1099511627776:=by omega
 clear hn hP
 go_enter func67,ntmps67;go_wp2
 go_loopg [3,4] n (fun gg v a wr=> ∃(g t:Nat) (A:List (Nat×Nat)),t<=n∧gg=n-t∧a= .int .i64 t∧Hid (t+n%2^g=n∧A++gen (mtP n) n g=P)∧OwnP wr w.heap.size v A∧Below w.heap.size w wr)
 case atStart=>go_light;exact⟨41,0,[],Lm _,rfl,rfl,⟨by have:=HN.out;omega,HS.out⟩,Qkc _ _,hb⟩
 case round=>
  clear hb HS;obtain⟨g,t,A,htn,rfl,rfl,HE,ho,hb⟩:=hrel;have ht0:(0:Int)<=(t:Int):=Lf _
  by_cases hlt:t<n
  ·have hlt':(t:Int)<(n:Int):=by omega
   have HX:Hid (OwnP wr w.heap.size u3 A∧Below w.heap.size w wr∧t<n):=⟨ho,hb,hlt⟩;obtain⟨m,hm⟩:∃m,n-t=m:=⟨_,rfl⟩;have em:IntKind.i64.wrap ((n:Int)-(t:Int))=(m:Int):=by rw[LE];omega
   have HMn:Hid (t+m=n):=by show _=_;omega
   clear ho hb htn hlt hm;go_wp2
   go_loopg [5] 64 (fun gg zv wx=> ∃(h z:Nat),h<=64∧gg=64-h∧zv= .int .i64 z∧Hid (2^h=z∧z<=m)∧wr=wx)
   case atStart=>go_light;exact⟨0,1,by omega,rfl,rfl,⟨rfl,by have:=HX.out.2.2;have:=HMn.out;omega⟩,rfl⟩
   case round=>
    obtain⟨h,z,hh64,rfl,rfl,HH,rfl⟩:=hrel;have hz:=HH.out;have hmm:=HMn.out;have hnn:=HN.out;have hh40:h<=40:=by
     apply NW
     intro h9;have:=Ng (n:=2) (by decide) (show 41<=h from h9)
     omega
    obtain⟨q,hq⟩:∃q,2*z=q:=⟨_,rfl⟩;have e1:IntKind.i64.wrap (2*(z:Int))=(q:Int):=by rw[LE];omega
    by_cases hgo:q<=m
    ·have hgo':(q:Int)<=(m:Int):=by omega
     have HY:Hid (2^(h+1)=q∧q<=m∧h<=40):=⟨by rw[LO,hz.1];omega,hgo,hh40⟩
     clear HH hq hgo hh64 hh40 hz hmm hnn;go_wp2
     go_roundg (64-(h+1))
     case rel=>go_light;exact⟨h+1,q,by have:=HY.out.2.2;omega,rfl,rfl,⟨HY.out.1,HY.out.2.1⟩,rfl⟩
     case measure=>go_light;have:=HY.out.2.2;omega
    ·have hgo':¬((q:Int)<=(m:Int)):=by omega
     have hE:=HE.out;have hg1:2^h<=n%2^g:=by omega
     have hg2:n%2^g<2^(h+1):=by rw[LO];omega
     obtain⟨hsg,hbit,hm1,hm2⟩:=Qhe hg1 hg2;obtain⟨hat,hge⟩:=QeB hbit;have hat2:(n/2^h-1)*2^h=t:=by omega
     have e7:IntKind.i64.wrap ((t:Int)+(z:Int))=(t:Int)+(z:Int):=by rw[LE];omega
     have HNx:Hid (t+z<=n∧t+z+n%2^h=n∧A++[(t,z)]++gen (mtP n) n h=P∧1<=z):=by
      refine⟨by omega,by omega,?_,?_⟩
      ·have h3:=Qjt (f:=mtP n) hg1 hg2;rw[mtP,hat2,hz.1] at h3;rw[<-hE.2,h3];simp
      ·rw[<-hz.1];exact LM h
     clear hgo hg1 hg2 hsg hbit hm1 hm2 hat hge hat2 hE HE HH hz hmm hnn hh40 hh64 hq
     go_wp2_with (at_builtin;refine QaD _ rfl _ _ rfl w.heap.size _ A wr t z rfl rfl (Qcz HX.out.1 (bal (Lc _ _) _)) rfl ?c1 ?c2 ?_)
     case c1=>have h1:=LZ List.length HNx.out.2.2.1;have h2:=HPl.out;simp at h1;omega
     case c2=>have:=HX.out.2.1.size;simp;omega
     intro v2 w6 h6 hb6;have HY:Hid (OwnP w6 w.heap.size v2 (A++[(t,z)])∧Below w.heap.size w w6):=⟨h6,(bal HX.out.2.1 _).trans hb6⟩;clear h6 hb6;go_wp2
     go_roundg (n-(t+z))
     case rel=>go_light;obtain⟨k1,k2,k3,k4⟩:=HNx.out;exact⟨h,t+z,A++[(t,z)],k1,rfl,by go_num,⟨k2,k3⟩,HY.out.1,HY.out.2⟩
     case measure=>go_light;obtain⟨k1,k2,k3,k4⟩:=HNx.out;have:=HX.out.2.2;omega
  ·obtain rfl:t=n:=by omega
   have hlt':¬((t:Int)<(t:Int)):=by omega
   have HA:Hid (A=P):=by
    obtain⟨k1,k2⟩:=HE.out;rw[Qju (by omega),L7] at k2
    exact k2
   clear HE;go_wp2
   go_ret
   exact⟨_,rfl,by rw[<-HA.out];exact ho,hb⟩
theorem Qim{α:Type}(d:α)(l:List α)(i:Nat)(h:i<l.length):l.take i++[l.getD i d]=l.take (i+1):=by
 rw[LQ h,La,Ld h];rfl
theorem Qey{α β:Type}(f:α->β)(d:α)(e:β)(l:List α)(i:Nat)(h:i<l.length):(l.map f).getD i e=f (l.getD i d):=by
 simp[List.getD_eq_getElem?_getD,List.getElem?_eq_getElem h]
theorem Qf2(w:World)(ht:Tr w)(k:Int)(ao:OA)(b off len cap:Nat)(L:LB)(hr:RdS w ao b off len L)(hsz:∀s∈L,s.size<=140737488351232)(hmx:len<=1099511627776)(hc:len<=cap)(P:LB)(hP:Hid (pks (clk k) L 41=P)) :
  Calls prog 34 #[.int .i64 k,.slice ao len cap] w fun e w'=> ∃v,e= .returned v∧Qg w' w.heap.size v P∧Below w.heap.size w w':=by
 obtain⟨Hs,hHs⟩:∃Hs,Hid (gen id len 41=Hs):=⟨_,rfl⟩;obtain⟨M,hM⟩:∃M,Hid (gen (mtP len) len 41=M):=⟨_,rfl⟩;have HMt:=fun W=>Q8 W len hmx M hM
 have hLl:=hr.hl;have eM:M=Hs.map (mtP len):=by
  have h1:=Qdd (mtP len) id len 41;rw[hHs.out] at h1;rw[h1];exact hM.out.symm
 have eP:P=Hs.map (fun s=>nd (clk k) L s (len/2^s-1)):=by
  have h1:=Qdd (fun s=>nd (clk k) L s (len/2^s-1)) id len 41
  have h2:=QgN (clk k) L 41;rw[hHs.out] at h1;rw[hLl] at h2;rw[h1];exact hP.out.symm.trans h2.symm
 have lH:Hs.length<=41:=by rw[<-hHs.out];exact Qdc _ _ _
 have lM:M.length=Hs.length:=by rw[eM];simp
 have lP:P.length=Hs.length:=by rw[eP];simp
 have HT:Hid (Tr w∧RdS w ao b off len L∧(∀s∈L,s.size<=140737488351232)∧len<=1099511627776∧len<=cap):=⟨ht,hr,hsz,hmx,hc⟩;have HV:Hid (∀i,i<Hs.length -> ∃s t z i',s<=40∧2^s=z∧M.getD i (0,0)=(t,z)∧t+z<=len∧t=i' * 2^s∧P.getD i ByteArray.empty=nd (clk k) L s i'):=fun i hi=>by
  obtain⟨s,hs⟩:∃s,Hs.getD i 0=s:=⟨_,rfl⟩;have hmem:s∈gen id len 41:=by
   rw[hHs.out,<-hs,La,Ld hi];exact LN _
  obtain⟨hs41,hbit⟩:=Qde 41 s hmem;obtain⟨hat,hge⟩:=QeB hbit;refine⟨s,(len/2^s-1)*2^s,2^s,len/2^s-1,by omega,rfl,?_,?_,rfl,?_⟩
  ·rw[eM,Qey _ 0 _ _ _ hi,hs,mtP]
  ·have h5:=I7 len (2^s);rw[Nat.sub_mul,Na];have:1*2^s<=len/2^s*2^s:=LT _ hge;omega
  ·rw[eP,Qey _ 0 _ _ _ hi,hs]
 have HSz:Hid (∀s∈P,s.size<=9223372036854775807):=fun s hs=>by rw[<-hP.out] at hs;rw[QbN (Qn k) _ _ s hs];have:=Qn k;omega
 have hb:=Lc w.heap.size w;have HL:Hid (Hs.length<=41∧M.length=Hs.length∧P.length=Hs.length):=⟨lH,lM,lP⟩;clear ht hr hsz hmx hc hP hHs hM hLl eM eP lH lM lP
 go_enter func34,ntmps34
 go_wp2_with (go_at_call 67;with_reducible refine(HMt _).mono ?_;rintro e w1 ⟨vM,rfl,hoM,hb1⟩)
 clear HMt;obtain⟨q,hq⟩:∃q,Hs.length=q:=⟨_,rfl⟩;obtain⟨aoM,cM,hvM,hoM2⟩:∃aoM cM,vM= .slice aoM q cM∧(0<q -> ∃g,aoM=Zp g∧OwnP w1 w.heap.size (.slice (Zp g) q cM) M):=by
  have hl:=HL.out.2.1
  rcases hoM.2 with ⟨hv,h0⟩|⟨g,cp,cur,hv,_⟩
  ·refine⟨none,0,?_,fun h=> ?_⟩
   ·rw[hv,show q=0 by omega]
   ·omega
  ·refine⟨Zp g,cp,?_,fun _=>⟨g,rfl,?_⟩⟩
   ·rw[hv,hl,hq]
   ·have:=hoM;rw[hv,hl,hq] at this;exact this
 subst hvM;rw[hq] at HL HV;have HO:Hid (0<q -> ∃g,aoM=Zp g∧OwnP w1 w.heap.size (.slice (Zp g) q cM) M):=hoM2;have HB1:Hid (Below w.heap.size w w1):=hb1;have hq41:(q:Int)<=41:=by have:=HL.out.1;omega
 clear hoM hoM2 hb1 hq
 go_loopg [6,7] q (fun gg v i0 wr=> ∃i:Nat,i<=q∧gg=q-i∧i0= .int .i64 i∧Qg wr w1.heap.size v (P.take i)∧Below w1.heap.size w1 wr)
 case atStart=>go_light;exact⟨0,Lm _,rfl,rfl,Uc _ _,Lc _ _⟩
 case round=>
  obtain⟨i,hi,rfl,rfl,ho,hb2⟩:=hrel;have hi0:(0:Int)<=(i:Int):=Lf _
  by_cases hlt:i<q
  ·have hlt':(i:Int)<(q:Int):=by omega
   obtain⟨g,rfl,hoM⟩:=HO.out (by omega)
   obtain⟨s,t,z,i',hs40,hz,hM,htz,hti,hPi⟩:=HV.out i hlt;obtain⟨t1,t2,t3,t4,t5⟩:=HT.out;have hz0:0<z:=by rw[<-hz];exact LM s
   obtain rfl:=t2.ptr (by omega)
   obtain⟨x,hx⟩:∃x,P.getD i ByteArray.empty=x:=⟨_,rfl⟩;rw[hx] at hPi;have HTr:Hid (∀W,Below w1.heap.size w1 W->Calls prog 68 #[.int .i64 k,.slice (some ⟨b,off+t,none⟩) z (cap-t)] W fun e w'=>e= .returned (.string x)∧Below W.heap.size W w'):=fun W hb=>by
    refine Qif W (t1.next (Qa HB1.out hb)) k _ b (off+t) (cap-t) s z hs40 hz ((L.drop t).take z) ((t2.next (Qa HB1.out hb) (Lb _)).cut t z (by omega)) (fun y hy=>t3 y (Nm (Nn hy))) x ?_
    show _=_
    rw[hti,<-hz,QoJ];exact hPi.symm
   have hlM:=HL.out;have HK0:Hid (∀W,Below w1.heap.size w1 W->W.cell? ⟨g,i*2,none⟩=some (.int .i64 t)∧W.cell? ⟨g,i*2+1,none⟩=some (.int .i64 z)):=fun W h=>by
    have:=QhY (Qcz hoM h) (j:=i) (by omega)
    rw[hM] at this;exact this
   have HY:Hid (Qg wr w1.heap.size u6 (P.take i)∧Below w1.heap.size w1 wr∧P.take i++[x]=P.take (i+1)∧i+1<=q∧q<=41∧(P.take i).length=i):=⟨ho,hb2,by rw[<-hx];exact Qim _ _ _ (by omega),hlt,by omega,by rw[Lv];omega⟩
   obtain⟨y,hy⟩:∃y,t+z=y:=⟨_,rfl⟩;have e1:IntKind.i64.wrap ((t:Int)+(z:Int))=(y:Int):=by rw[LE];omega
   have s0:(0:Int)<=(t:Int):=Lf _;have s1:(t:Int)<=(y:Int):=by omega
   have s2:(y:Int)<=(cap:Int):=by omega
   have s3:¬(cap=t):=by omega
   have s4:y-t=z:=by omega
   have hd:Below w1.heap.size w1 wr.drew:=(hb2).drew;obtain⟨i0,hi0',hz0',hz1,hz2⟩:=info_parts Tryz.infoS;have HO2:Hid (∀W,Below wr.drew.heap.size wr.drew W->(W.alloc (.cells #[.string x] 9)).ownsRow w1.heap.size 9 1 u6 i ((P.take i).map Value.string)):=fun W h=>by
    have:=Q4 (Qv HY.out.1 (Qa ((Lc _ _).drew) h) (Lb _)) (.cells #[.string x] 9);rw[Qg,HY.out.2.2.2.2.2] at this;exact this
   have HM1:Hid (i+1<=maxLen∧(i+1)*16<=140737488355328):=by have:=HY.out;refine⟨?_,?_⟩;unfold maxLen;omega;omega
   have HS0:Hid (∀W,Below wr.drew.heap.size wr.drew W->w1.heap.size<=(W.alloc (.cells #[.string x] 9)).heap.size):=fun W h=>by have:=(Qa hd h).size;simp;omega
   have HG:Hid (∀w2 w3,Below wr.drew.heap.size wr.drew w2->(w2.alloc (.cells #[.string x] 9)).grownBy w3 u6.ownBlock->Below w1.heap.size w1 w3):=fun w2 w3 h1 h2=>(bal (Qa hd h1) _).grown h2 (by have:=(Qa hd h1).size;simp;omega) (fun q hq=>(HY.out.1.lt q hq).1)
   have HK:Hid (∀W,Below wr.drew.heap.size wr.drew W->W.cell? ⟨g,i*2,none⟩=some (.int .i64 t)∧W.cell? ⟨g,i*2+1,none⟩=some (.int .i64 z)):=fun W h=>HK0.out W (Qa hd h)
   have HK3:Hid (∀w2 w3,Below wr.drew.heap.size wr.drew w2->(w2.alloc (.cells #[.string x] 9)).grownBy w3 u6.ownBlock->w3.cell? ⟨g,i*2,none⟩=some (.int .i64 t)∧w3.cell? ⟨g,i*2+1,none⟩=some (.int .i64 z)):=fun w2 w3 h1 h2=>HK0.out w3 (HG.out w2 w3 h1 h2)
   have kk:=HK0.out wr.drew hd;have HD:Hid (Below w1.heap.size w1 wr.drew):=hd;clear ho hb2 hoM hs40 hz hM htz hti hPi t1 t2 t3 t4 t5 hz0 hx hlM hi hlt hd hy
   go_upto_region 6 with (fail)
   go_region_held3 (fun w'=>w'.cell? ⟨g,i*2,none⟩=some (.int .i64 t)∧w'.cell? ⟨g,i*2+1,none⟩=some (.int .i64 z)) (first|assumption|(exact HK3.out _ _ hb2 hgrow)|(exact HK.out _ hb2)|(exact HK.out _ (bal hb2 _))) (first
    | (go_at_call 68;with_reducible refine(HTr.out _ HD.out).mono ?_;rintro e w2 ⟨rfl,hb2⟩)
    | (refine step_append_lies _ (by rfl) _ _ _ (by rfl) w1.heap.size 9 i0 _ 1 16 underlying22 hi0' hz0' hz1 hz2 rfl (by omega) u6 i ((P.take i).map Value.string) (by rfl) (HO2.out _ hb2) ⟨w2.heap.size,0,none⟩ 1 1 [.string x] (by rfl) (by rfl) (World.news_of_block (cs:=#[.string x]) (t:=9) (fr:=(0,0)) (Lr w2 _)) (by simp[Value.oneCell']) (by omega) HM1.out.1 HM1.out.2 (HS0.out _ hb2) (w2.heap.size+1) (by simp) ?_;intro gg cap_1 w3 hown3 hgrow hat hlt3))
   have HZ:Hid (Qg w3 w1.heap.size (.slice (Zp gg) (i+1) cap_1) (P.take (i+1))∧Below w1.heap.size w1 w3):=⟨by
    obtain⟨y1,y2,y3,y4,y5,y6⟩:=HY.out;rw[Qg,<-y3,Lh,y6,Nd];exact hown3,HG.out _ _ hb2 hgrow⟩
   clear hown3 hgrow hat hlt3 HG HK3 HK HK0 HTr HO2 HS0 kk;go_wp2
   go_roundg (q-(i+1))
   case rel=>go_light;exact⟨i+1,HY.out.2.2.2.1,rfl,by go_num,HZ.out.1,HZ.out.2⟩
   case measure=>go_light;have:=HY.out.2.2.2.1;omega
  ·obtain rfl:i=q:=by omega
   have hlt':¬((i:Int)<(i:Int)):=by omega
   have HZ:Hid (Qg wr w.heap.size u6 P∧Below w.heap.size w wr):=⟨by
    rw[Lu (by have:=HL.out;omega)] at ho
    exact World.ownsRow.mono ho HB1.out.size,Qa HB1.out hb2⟩
   clear ho hb2 hi hlt HO HV;go_wp2
   go_ret
   exact⟨_,rfl,HZ.out.1,HZ.out.2⟩
theorem QkD(w:World)(ht:Tr w)(k:Int)(h1:1<=k)(h2:k<=32)(ao:OA)(b off len cap:Nat)(L:LB)(hr:RdS w ao b off len L)(hsz:∀s∈L,s.size<=140737488351232)(hmx:len<=1099511627776)(hc:len<=cap)(n:Nat)(hn:n<=len)(r:BA)(hq:Hid (rtD (clk k) L n=r)) :
  Calls prog 11 #[.int .i64 k,.slice ao len cap,.int .u64 n] w fun e w'=>e= .returned (.tuple #[.agg #[.int .u64 n,.string r],.int .i64 0])∧Below w.heap.size w w':=by
 have HC:=fun W=>QdB W k
 rw[QiS h1 h2] at HC;have e0:IntKind.u64.wrap (len:Int)=(len:Int):=Yz _ (by omega) (by omega)
 have hn':¬((len:Int)<(n:Int)):=by omega
 have hn2:(n:Int)<=(cap:Int):=by omega
 obtain⟨P,hP⟩:∃P,Hid (pks (clk k) (L.take n) 41=P):=⟨_,rfl⟩;have HPk:Hid (∀W,Below w.heap.size w W->Calls prog 34 #[.int .i64 k,.slice ao n cap] W fun e w'=> ∃v,e= .returned v∧Qg w' W.heap.size v P∧Below W.heap.size W w'):=fun W hb=>Qf2 W (ht.next hb) k ao b off n cap (L.take n) ((hr.next hb (Lb _)).take hn) (fun s hs=>hsz s (Nn hs)) (by omega) (by omega) P hP
 have zP:∀s∈P,s.size<=140737488351232:=by rw[<-hP.out];exact small (Qn k)
 have lP:P.length<=41:=by rw[<-hP.out];exact OQ _ _ _
 have HQ:Hid (dg (clk k) (QO n (Qx (clk k) P))=r):=by rw[<-hP.out];exact hq
 have HRo:Hid (∀W,Below w.heap.size w W -> ∀ao' b' cap',RdS W ao' b' 0 P.length P->Calls prog 33 #[.int .i64 k,.int .u64 n,.slice ao' P.length cap'] W fun e w'=>e= .returned (.string r)∧Below W.heap.size W w'):=fun W hb ao' b' cap' hr'=>QeV W (ht.next hb) k n (by omega) ao' b' 0 P.length cap' P hr' zP (by omega) r HQ.out
 have HZ:Hid (∀s∈P,s.size<=9223372036854775807):=fun s hs=>Lt (zP s hs) (by decide)
 have hb:=Lc w.heap.size w;have HN:=QdJ w 0 ⟨#[]⟩ 33;rw[show((0:Nat):Int)=0 from rfl] at HN
 have HN2:=Qc HN;clear h1 h2 hn hmx hc hr hsz ht hq hP zP lP HQ HN
 go_enter func11,ntmps11
 go_wp2_with (first
  | (go_at_call 32;with_reducible refine(HC _).mono ?_;rintro e w1 ⟨rfl,rfl⟩)
  | (go_at_call 34;with_reducible refine(HPk.out _ (bal hb _)).mono ?_;rintro e w2 ⟨v,rfl,ho,hb2⟩;obtain⟨ao',b',cap',rfl,hr',_,_⟩:=QJ ho HZ.out)
  | (go_at_call 33;with_reducible refine(HRo.out _ (Qa (bal hb _) hb2) _ _ _ hr').mono ?_;rintro e w3 ⟨rfl,hb3⟩;have hR:=(HN2.out.below hb2 (by simp)).below hb3 (by have:=hb2.size;simp at this;omega);have k0:=hR.c0;have k1:=hR.c1;have f0:=hR.f0;have f1:=hR.f1))
 have s0:(w3.setCell ⟨w.heap.size,0,none⟩ (.int .u64 n)).cell? ⟨w.heap.size,0,none⟩=some (.int .u64 n):=LU _ _ _ k0;have s1:((w3.setCell ⟨w.heap.size,0,none⟩ (.int .u64 n)).setCell ⟨w.heap.size,1,none⟩ (.string r)).cell? ⟨w.heap.size,1,none⟩=some (.string r) :=
  LU _ _ _ ((Lz _ _ _ _ (by simp)).trans k1)
 refine LA (v := .tuple #[.agg #[.int .u64 n,.string r],.int .i64 0]) (by simp[results,results11,go_sem,s0,s1]) rfl ⟨rfl,?_⟩
 exact((Qa (Qa (bal hb _) hb2) hb3).setCell (p:=⟨w.heap.size,0,none⟩) (Lb _) _).setCell (p:=⟨w.heap.size,1,none⟩) (Lb _) _
section
attribute [local go_sem ↓] St.JO
def selI(xs:LB)(i:Nat):LB:=(xs.take i).filter fun s=>decide (s.size<=3000)
theorem QkJ{xs:LB}{i:Nat}(hi:i<xs.length)(hs:(xs.getD i ByteArray.empty).size<=3000):selI xs (i+1)=selI xs i++[xs.getD i ByteArray.empty]:=by
 rw[La,Ld hi] at hs ⊢;unfold selI;rw[LQ hi,Wa]
 congr 1
 simpa using hs
theorem Qm4{xs:LB}{i:Nat}(hi:i<xs.length)(hs:¬(xs.getD i ByteArray.empty).size<=3000):selI xs (i+1)=selI xs i:=by
 rw[La,Ld hi] at hs;unfold selI;rw[LQ hi,Wa];have:List.filter (fun s=>decide (s.size<=3000)) [xs[i]]=[]:=by simpa using hs
 rw[this,L7]
def LsT(w W:World)(a p:Nat)(v:Value)(k i:Nat)(K:LB)(D:St.DV):Prop :=
 Jl w W a p D (St.sA k (itL k K)) K v K∧K.length<=i∧(∀s∈K,s.size<=3000)∧St.Qt 134217728 D∧St.Ext k (itL k K) D.L∧D.acts<=6+6*i∧1<=k∧k<=32
theorem QjO{k:Nat}{K:LB}(k1:1<=k)(k2:k<=32)(h1:K.length<=101)(h2:∀s∈K,s.size<=3000):Fit k 134217728 3000 K :=
 ⟨k1,k2,by decide,by omega,h2,by omega,by decide⟩
theorem Qmj{K:LB}{x:BA}{c:Nat}(h2:∀s∈K,s.size<=c)(hx:x.size<=c):∀s∈K++[x],s.size<=c:=fun s hs=>by
 rcases List.mem_append.1 hs with e|e
 ·exact h2 s e
 ·rw[IM] at e;subst e;exact hx
section
variable {w W W1:World} {a p i k:Nat} {v:Value} {K:LB} {D:St.DV}
theorem LsT.own(h:LsT w W a p v k i K D):Qg W w.heap.size v K:=h.1.own
theorem LsT.below(h:LsT w W a p v k i K D):Below w.heap.size w W:=h.1.nl.below
theorem LsT.keep(h:LsT w W a p v k i K D):LsT w W a p v k (i+1) K D:=by
 obtain⟨h1,h2,h3,h4,h5,h6,h7⟩:=h;exact⟨h1,by omega,h3,h4,h5,by omega,h7⟩
theorem LsT.one(h:LsT w W a p v k i K D)(ht:Tb w)(hi:i<100)(x:BA)(hx:x.size<=3000) :
  ∃D',Calls prog 14 #[Zv a,.slice (Zp W.heap.size) 1 1] (W.alloc (.cells #[.string x] 9)) (fun e w'=>e= .returned (.tuple #[.int .i64 1,.int .i64 0])∧Jl w w' a p D' (St.sA k (itL k (K++[x]))) (K++[x]) v K) ∧
   ∀W' v',Jl w W' a p D' (St.sA k (itL k (K++[x]))) (K++[x]) v' (K++[x])->LsT w W' a p v' k (i+1) (K++[x]) D':=by
 obtain⟨h1,h2,h3,h4,h5,h6,k1,k2⟩:=h;have hs:=Qmj h3 hx;have hl:(K++[x]).length=K.length+1:=by simp
 have hf:=QjO (K:=K++[x]) k1 k2 (by omega) hs
 obtain⟨D',a1,a2,a3,a4,a5⟩:=QnC [x] K D hf h4 h5 (by simp only[List.length_cons,List.length_nil];omega)
 refine⟨D',?_,fun W' v' hJ=>⟨hJ,by omega,hs,a2,a3,by rw[a4];simp only[List.length_cons,List.length_nil];omega,k1,k2⟩⟩
 exact h1.append ht (QkH hf.init) (bal (Lc _ _) _) _ W.heap.size 1 1 [x] (YT W x (by omega)) (by decide) (fun _=> .inr (Lb _)) a5 1 0 a1
end
def StoQ(w:World)(k:Nat)(xs:LB)(e:Ending)(w':World):Prop :=
 ∃p a v i D,e= .returned (.tuple #[Zv p,Zv a,v])∧i<=100∧i<=xs.length∧(i=100∨i=xs.length)∧LsT w w' a p v k i (selI xs i) D
theorem QbW(w:World)(ht:Tb w)(k:Nat)(k1:1<=k)(k2:k<=32)(ao:OA)(b off len cap:Nat)(xs:LB)(hr:RdS w ao b off len xs)(hmx:len<=9223372036854775807) :
  Calls prog 5 #[.int .i64 k,.slice ao len cap] w (StoQ w k xs):=by
 obtain⟨D0,hD0⟩:∃D,St.nD 134217728 3=D:=⟨_,rfl⟩;have hxl:=hr.hl;obtain⟨r,hrl⟩:∃r,min len 100=r:=⟨_,rfl⟩;have hr100:r<=100∧r<=len∧(r=100∨r=len):=by omega
 have HN:Hid (Calls prog 12 #[.int .i64 134217728] w fun e w'=> ∃p,e= .returned (Zv p)∧Dw w w' p (St.U8 134217728)):=QoM w 134217728 (by decide)
 have HO:Hid (∀W p,Dw w W p (St.U8 134217728)->Calls prog 13 #[Zv p,.int .i64 k] W fun e w'=> ∃a,e= .returned (.tuple #[Zv a,.int .i64 0])∧LsT w w' a p (.slice none 0 0) k 0 [] D0):=fun W p h=>(h.open ht (by decide) k k1 k2).mono fun e w' z=>by
  obtain⟨a,z1,z2⟩:=z;rw[hD0] at z2;obtain⟨q1,q2⟩:=St.QoH k 134217728 3;rw[hD0] at q1 q2;exact⟨a,z1,z2.jn,Lb _,(fun s hs=>by cases hs),q2,q1,by rw[<-hD0];show 3<=_;omega,k1,k2⟩
 have HR:=Qc hr;have HTb:=Qc ht;have HXl:=Qc hxl;have hptr:=hr.ptr;clear hD0 ht hr hrl k1 k2 hxl
 go_enter func5,ntmps5
 go_upto_region 7 with (first
  | (go_at_call 12;(with_reducible refine HN.out.mono ?_);rintro e w1 ⟨p,rfl,t1⟩)
  | (go_at_call 13;(with_reducible refine(HO.out _ _ t1).mono ?_);rintro e w2 ⟨a,rfl,t2⟩))
 have HS3:=Qc t2;clear HN HO t1 t2
 go_loopg [10,11] r (fun g v x wr=> ∃(i:Nat) (D:St.DV),i<=r∧g=r-i∧x= .int .i64 i∧Hid (LsT w wr a p v k i (selI xs i) D))
 case atStart=>go_light;exact⟨0,D0,Lm _,rfl,rfl,HS3⟩
 case round=>
  clear HS3;obtain⟨i,D,hi,rfl,rfl,HS⟩:=hrel;obtain⟨va,vn,vc,rfl⟩:=YP HS.out.own
  by_cases hlt:i<r
  ·have hz:(i:Int)<(len:Int):=by omega
   have hz1:(i:Int)<100:=by omega
   obtain rfl:=hptr (by omega)
   have hB:=HS.out.below;have hil:i<xs.length:=by have:=HXl.out;omega
   obtain⟨s,hs⟩:∃s,xs.getD i ByteArray.empty=s:=⟨_,rfl⟩;have HC:Hid (∀W,Below w.heap.size w W->W.cell? ⟨b,off+i,none⟩=some (.string s)):=fun W hW=>by
    have:=(HR.out.next hW (Lb _)).at (k:=i) (by omega)
    rw[hs] at this;exact this
   have ew:IntKind.i64.wrap ((i:Int)+1)=(i:Int)+1:=by rw[LE];omega
   have c0:=HC.out wr hB
   by_cases hg:s.size<=3000
   ·have hg1:¬(3000:Int)<(s.size:Int):=by omega
    have hsel:selI xs (i+1)=selI xs i++[s]:=by rw[QkJ hil (by rw[hs];exact hg),hs]
    have HSel:=Qc hsel;obtain⟨D',hap,hnx⟩:=HS.out.one HTb.out (by omega) s hg
    have hkl:=HS.out.2.1;have HAp:=Qc hap;have HNx:=Qc hnx;generalize selI xs i=K at *;have HAp2:Hid (∀W1,Jl w W1 a p D' (St.sA k (itL k (K++[s]))) (K++[s]) (.slice va vn vc) K->W1.cell? ⟨b,off+i,none⟩=some (.string s) ∧ ∃ao n cap w5,(Builtin.append_ #[22,22] 22 #[.slice va vn vc,.slice (Zp W1.heap.size) 1 1]).run prog (W1.alloc (.cells #[.string s] 9))= .ok (.slice ao n cap) w5∧LsT w w5 a p (.slice ao n cap) k (i+1) (K++[s]) D'):=fun W1 hJ=>by
     refine⟨HC.out W1 hJ.nl.below,?_⟩
     obtain⟨v',w5,q1,q2⟩:=hJ.app (bal (Lc _ _) (.cells #[.string s] 9)) 22 ⟨W1.heap.size,0,none⟩ 1 s (St.Qdt W1 _ _) (by omega)
     obtain⟨ao,n,cap,rfl⟩:=YP q2.own;exact⟨ao,n,cap,w5,q1,HNx.out w5 _ q2⟩
    clear hap hnx hB hg HC HNx HS hs hsel hkl hil
    go_wp2_with (go_at_call 14;(with_reducible refine HAp.out.mono ?_);rintro e w4 ⟨rfl,t4⟩;obtain⟨c4,ea,en,ec,w5,h5,t5⟩:=HAp2.out w4 t4;have ha:=St.QcT h5;have T5:=Qc t5;clear HAp HAp2 c0 t4 t5 h5)
    go_roundg (r-(i+1))
    case rel=>go_light;exact⟨i+1,D',by omega,rfl,by go_num,by rw[HSel.out];exact T5⟩
    case measure=>go_light;omega
   ·have hg1:(3000:Int)<(s.size:Int):=by omega
    have HNx:Hid (LsT w wr a p (.slice va vn vc) k (i+1) (selI xs (i+1)) D):=by
     rw[Qm4 hil (by rw[hs];exact hg)]
     exact HS.out.keep
    clear hB hg HC HS hs hil;go_wp2
    go_roundg (r-(i+1))
    case rel=>go_light;exact⟨i+1,D,by omega,rfl,by go_num,HNx⟩
    case measure=>go_light;omega
  ·obtain rfl:i=r:=by omega
   have hex:¬((i:Int)<(len:Int))∨(((i:Int)<(len:Int)) ∧ ¬(i:Int)<100):=by omega
   have HE:Hid (StoQ w k xs (.returned (.tuple #[Zv p,Zv a,.slice va vn vc])) wr):=⟨p,a,_,i,D,rfl,by omega,by rw[HXl.out];omega,by rw[HXl.out];omega,HS.out⟩
   clear HS hlt hi hptr HR
   rcases hex with hz|⟨hz,hz1⟩
   all_goals
    go_wp2
    go_ret3
    exact HE.out
theorem Qnn{w9 w10:World}{x y:Value}{T:Nat}(v:Below (w9.alloc (.cells #[x,y] T)).heap.size (w9.alloc (.cells #[x,y] T)) w10):(w10.alloc (.cells #[x,y] T)).cell? ⟨w9.heap.size,0,none⟩=some x∧(w10.alloc (.cells #[x,y] T)).cell? ⟨w9.heap.size,1,none⟩=some y:=by
 have k0:=(Qa v (bal (Lc _ _) (.cells #[x,y] T))).block w9.heap.size (by simp)
 rw[Lr] at k0;exact⟨by rw[cell_of_row _ _ 0 _ _ (0,0) k0];rfl,by rw[cell_of_row _ _ 1 _ _ (0,0) k0];rfl⟩
theorem Qhn(w:World)(ht:Tb w)(hT:Tr w):Calls prog 4 #[] w fun e w'=>e= .returned (.bool true)∧Below w.heap.size w w':=by
 obtain⟨W0,hW0⟩:∃W,w.alloc (.cells #[.string ⟨#[97]⟩] 9)=W:=⟨_,rfl⟩;have hb0:Below w.heap.size w W0:=by rw[<-hW0];exact bal (Lc _ _) _
 have hr0:RdS W0 (Zp w.heap.size) w.heap.size 0 1 [⟨#[97]⟩]:=by rw[<-hW0];exact YT w _ (by decide)
 obtain⟨rt,hrt⟩:∃r,rtD 8 [⟨#[97]⟩] 1=r:=⟨_,rfl⟩;have HS:Hid (Calls prog 5 #[.int .i64 8,.slice (Zp w.heap.size) 1 1] W0 fun e w'=> ∃p a va vc,e= .returned (.tuple #[Zv p,Zv a,.slice va 1 vc])∧Hid (Below w.heap.size w w')∧(Calls prog 6 #[Zv a,.int .u64 1] w' fun e w''=>e= .returned (.tuple #[.agg #[.int .u64 1,.string rt],.int .i64 0])∧Below w'.heap.size w' w'') ∧ ∀W,Below w'.heap.size w' W->Calls prog 11 #[.int .i64 8,.slice va 1 vc,.int .u64 1] W fun e w''=>e= .returned (.tuple #[.agg #[.int .u64 1,.string rt],.int .i64 0])∧Below W.heap.size W w''):=by
  refine(QbW W0 (ht.next hb0) 8 (by decide) (by decide) _ _ _ _ 1 _ hr0 (by decide)).mono fun e w' z=> ?_
  obtain⟨p,a,v,i,D,z1,z2,z3,z4,z5⟩:=z;obtain rfl:i=1:=by
   have h1:([⟨#[97]⟩]:LB).length=1:=rfl;rw[h1] at z3 z4;omega
  have hK:selI [⟨#[97]⟩] 1=[⟨#[97]⟩]:=rfl;rw[hK] at z5;obtain⟨ao,bb,cc,q1,q2,q3,_⟩:=QJ z5.own (fun s hs=>by rw[IM] at hs;subst hs;decide)
  subst q1;have hbW:=Qa hb0 z5.below;refine⟨p,a,ao,cc,z1,hbW,?_,fun W hW=> ?_⟩
  ·exact z5.1.nl.root (ht.next hb0) 1 (Lb _) rt hrt
  ·exact QkD W (hT.next (Qa hbW hW)) 8 (by decide) (by decide) ao bb 0 _ cc _ (q2.next hW (Lb _)) (fun s hs=>by rw[IM] at hs;subst hs;decide) (by decide) q3 1 (Lb _) rt (Qc hrt)
 have HW0:=Qc hW0;have hxx:(rt.toList == rt.toList)=true:=by simp
 clear hrt ht hT hb0 hr0 hW0
 go_enter func4,ntmps4
 go_upto_region 1 with (fail)
 go_upto_region 5 with (first
  | ((try rw[HW0.out]);go_at_call 5;(with_reducible refine HS.out.mono ?_);rintro e w1 ⟨p,a,va,vc,rfl,HB1,hRo,hRf⟩;have HRo:=Qc hRo;have HRf:=Qc hRf;clear hRo hRf)
  | (go_at_call 6;(with_reducible refine HRo.out.mono ?_);rintro e w2 ⟨rfl,u2⟩))
 go_upto_region 6 with (go_at_call 11;(with_reducible refine(HRf.out _ (bal u2 _)).mono ?_);rintro e w3 ⟨rfl,u3⟩)
 obtain⟨k1,k2⟩:=Qnn u3;have HB:=Qc (Qa HB1.out (bal (Qa (bal u2 (.cells #[.int .u64 1,.string rt] 33)) u3) (.cells #[.int .u64 1,.string rt] 33)));clear u2 u3 HB1 HRo HRf HS;go_wp2
 go_ret
 exact⟨rfl,HB.out⟩
end
theorem Qaa{a b x y:BA}(hs:a.size=b.size)(h:a++x=b++y):a=b∧x=y:=by
 have h1:=LZ (fun z:BA=>z.data.toList) h
 simp only[ByteArray.data_append,Array.toList_append] at h1;have hl:a.data.toList.length=b.data.toList.length:=by simpa using hs
 obtain⟨e1,e2⟩:=List.append_inj h1 hl;exact⟨II (Array.toList_inj.1 e1),II (Array.toList_inj.1 e2)⟩
theorem Qcx{a b x y:BA}(hs:a.size=b.size)(h:Qz a x=Qz b y):a=b∧x=y:=by
 obtain⟨h1,h2⟩:=Qaa (by rw[Np,Np,hs]) h
 exact⟨(Qaa rfl h1).2,h2⟩
theorem Qd5{a b x y:BA}(hs:a.size=b.size)(h:Jn a x=Jn b y):a=b∧x=y:=by
 obtain⟨h1,h2⟩:=Qaa (by rw[Np,Np,hs]) h
 exact⟨(Qaa rfl h1).2,h2⟩
theorem QhQ{x y:BA}(h:Qw x=Qw y):x=y:=(Qaa rfl h).2
theorem QcE{n:Nat}{x y:BA}(h:QO n x=QO n y):x=y:=(Qaa rfl h).2
abbrev Pq:Type:=Option (BA×BA)
def un(a b:BA):Pq:=if a=b then none else some (a,b)
theorem Jj{a b:BA}(h:un a b=none):a=b:=by
 unfold un at h
 split at h
 ·assumption
 ·cases h
theorem O6{a b:BA}{q:BA×BA}(h:un a b=some q):a≠b∧q=(a,b):=by
 unfold un at h
 split at h
 ·cases h
 ·rename_i hn;exact⟨hn,(NN h).symm⟩
theorem Qnq(a:BA):un a a=none:=Lo rfl
theorem ON{x y:Pq}(h:x.or y=none):x=none∧y=none:=by
 cases x with
 | none=>exact⟨rfl,h⟩
 | some q=>cases h
theorem YS{x y:Pq}{q:BA×BA}(h:x.or y=some q):x=some q∨(x=none∧y=some q):=by
 cases x with
 | none=>exact .inr ⟨rfl,h⟩
 | some p=>exact .inl h
def Clx(c:Nat)(q:BA×BA):Prop:=q.1≠q.2∧dg c q.1=dg c q.2
end Go.Proofs.YtoblgjledefdbabGreatDoor
