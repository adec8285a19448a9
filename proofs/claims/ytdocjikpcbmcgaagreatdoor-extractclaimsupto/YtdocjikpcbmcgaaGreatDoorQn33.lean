/- Own work. -/
import Derived.Deep.AppendLies
import Derived.Test.YtdocjikpcbmcgaaGreatDoorQn32
set_option maxRecDepth 100000
set_option maxHeartbeats 2000000
namespace Go.Proofs.YtdocjikpcbmcgaaGreatDoor
open Go.RowKit
attribute [local go_sem ↓] Go.wp_at_zero Go.wp_at_succ
open Go.Proofs.Tryz
theorem Qdg(w:World)(ht:Tr w)(k:Int)(ao:OA)(b off cap H n:Nat)(hH:H<=40)(hn:2^H=n)(L:LB)(hr:RdS w ao b off n L)(hsz : ∀s∈L,s.size<=140737488351232)(r:BA)(hq:Hid (nd (clk k) L H 0=r)) :
  Zr 55 #[.int .i64 k,.slice ao n cap] w (.string r):=by
 have xV:0<n:=by rw[<-hn];exact LQ H
 have xO:n<=1099511627776:=by rw[<-hn];exact L7 (n:=2) (by decide) hH
 obtain rfl:=hr.ptr xV;have HT:Hid (Tr w∧RdS w (some ⟨b,off,none⟩) b off n L∧(∀s∈L,s.size<=140737488351232)):=⟨ht,hr,hsz⟩;have xU:(n:Int)<=1099511627776:=by omega
 have hb:=Lb w.heap.size w;have HN:Hid (2^H=n∧n<=1099511627776):=⟨hn,xO⟩;have hc:=Qp k;have HC:Hid (clk k<=32):=hc;clear ht hr hsz hn hH xO hc
 go_enter func55,ntmps55;go_wp2
 go_loopg [5,6] n (fun gg v i0 wr => ∃i:Nat,i<=n∧gg=n - i∧i0 = .int .i64 (i:Int)∧Qk wr w.heap.size v (Ur (clk k) L 0 i)∧Zb w wr)
 case atStart=>go_light;exact⟨0,Ll _,rfl,rfl,Um _ _,hb⟩
 case round =>
  clear hb;obtain⟨i,hi,rfl,rfl,ho,hb⟩:=hrel;have xN:(0:Int)<=(i:Int):=Lf _
  by_cases hlt:i<n
  ·have xB:(i:Int)<(n:Int):=by omega
   obtain⟨t1,t2,t3⟩:=HT.out;obtain⟨s,hs⟩:=Ze (L.getD i ByteArray.empty);have ci:=(t2.next hb (Ld _)).at hlt;rw[hs] at ci;obtain⟨x,hx⟩:=Ze (nd (clk k) L 0 i);have xQ:=JQ wr (t1.next hb) k s (by rw[<-hs];have:=t3 _ (Qv (ss:=L) (k:=i) (by rw[t2.hl];exact hlt));omega) x (by rw[<-hx,nd,hs])
   have HX:Hid (Qk wr w.heap.size u5 (Ur (clk k) L 0 i)∧Zb w wr∧i+1<=n∧x.size<=9223372036854775807∧Ur (clk k) L 0 i++[x]=Ur (clk k) L 0 (i+1)):=⟨ho,hb,hlt,by rw[<-hx,Q7 HC.out];have:=HC.out;omega,by rw[<-hx];exact Qdc _ _ _ _⟩
   clear ho hb hi hlt hs hx t1 t2 t3
   go_wp2_with (first
    | (go_at_call 98;with_reducible refine xQ.mono ?_;rintro e w2 ⟨rfl,xA⟩)
    | (at_builtin;refine QE _ rfl _ _ rfl w.heap.size _ (Ur (clk k) L 0 i) rfl (Y0 (Qm HX.out.1 xA (Ld _)) _) (some ⟨w2.heap.size,0,none⟩) w2.heap.size 0 1 [x] rfl (YO w2 x HX.out.2.2.2.1) (fun h=>by cases h) ?c1 ?c2 ?_))
   case c1=>have h1:=HX.out.2.2.1;have h2:=HN.out.2;rw[YK];simp;omega
   case c2=>have:=(Qa HX.out.2.1 xA).size;simp;omega
   intro v2 w3 h3 hb3;have HY:Hid (Qk w3 w.heap.size v2 (Ur (clk k) L 0 (i+1))∧Zb w w3):=⟨by rw[<-HX.out.2.2.2.2];exact h3,(bal (Qa HX.out.2.1 xA) _).trans hb3⟩
   clear h3 hb3 xA;go_wp2
   go_roundg (n - (i+1))
   case rel=>go_light;exact⟨i+1,HX.out.2.2.1,rfl,by go_num,HY.out.1,HY.out.2⟩
   case measure=>go_light;have:=HX.out.2.2.1;omega
  ·obtain rfl:i=n:=by omega
   have xB : ¬((i:Int)<(i:Int)):=by omega
   have HX:Hid (Qk wr w.heap.size u5 (Ur (clk k) L 0 i)∧Zb w wr):=⟨ho,hb⟩;clear ho hb hi hlt;go_wp2
   go_loopg [5] H (fun gg v wx => ∃(j N:Nat),j<=H∧gg=H - j∧Hid (2^(H - j)=N∧N<=1099511627776)∧Qk wx w.heap.size v (Ur (clk k) L j N)∧Zb w wx)
   case atStart=>go_light;exact⟨0,i,Ll _,rfl,HN.out,HX.out.1,HX.out.2⟩
   case round =>
    clear HX;obtain⟨j,N,hj,rfl,HJ,ho,hb⟩:=hrel;have xC:=HJ.out;have xD:0<N:=by rw[<-xC.1];exact LQ _
    obtain⟨g,cp,rfl,hg,xE,xM⟩:=Qcc ho (by rw[YK];exact xD)
    rw[YK] at xE ⊢
    by_cases hjl:j<H
    ·obtain⟨M,hM⟩:=Ze (2^(H - (j+1)));have xL:N=2*M:=by rw[<-xC.1,<-hM,show H - j=H - (j+1)+1 by omega,LM];omega
     have xR:0<M:=by rw[<-hM];exact LQ _
     have yB:(1:Int)<(N:Int):=by omega
     have yC:(N:Int)<=1099511627776:=by omega
     have HX:Hid (Qk wr w.heap.size (.slice (some ⟨g,0,none⟩) (Ur (clk k) L j N).length cp) (Ur (clk k) L j N)∧Zb w wr∧N=2*M∧2^(H - (j+1))=M∧j+1<=H∧N<=1099511627776):=⟨ho,hb,xL,hM,hjl,xC.2⟩;clear ho hb xC xD hg xE xM xL hM xR hjl hj HJ;obtain⟨W0,xS⟩ : ∃W0,W0=wr:=⟨wr,rfl⟩;subst xS;go_wp2
     go_loopg [7,8] M (fun gg v i0 wx => ∃m:Nat,m<=M∧gg=M - m∧i0 = .int .i64 (2*(m:Int))∧Qk wx W0.heap.size v (Ur (clk k) L (j+1) m)∧Zb W0 wx)
     case atStart=>go_light;exact⟨0,Ll _,rfl,rfl,Um _ _,Lb _ _⟩
     case round =>
      obtain⟨m,hm,rfl,rfl,ho,hb⟩:=hrel;have yD:(0:Int)<=(m:Int):=Lf _;obtain⟨y1,y2,y3,y4,y5,y6⟩:=HX.out
      by_cases hlt:m<M
      ·have xB:2*(m:Int)+1<(N:Int):=by omega
       have xF:2*(m:Int)<(N:Int):=by omega
       obtain⟨a,ha⟩:=Ze (2*m);have ea:2*(m:Int)=(a:Int):=by omega
       have k1:=(Ul (Qm y1 hb (Ld _)) (j:=a) (by rw[YK];omega)).1
       have k2:=(Ul (Qm y1 hb (Ld _)) (j:=a+1) (by rw[YK];omega)).1
       rw[Qd6 _ _ _ _ (by omega)] at k1 k2
       obtain⟨x,hx⟩:=Ze (nd (clk k) L j a);obtain⟨y,hy⟩:=Ze (nd (clk k) L j (a+1));obtain⟨z,hz⟩:=Ze (nd (clk k) L (j+1) m);rw[hx] at k1;rw[hy] at k2;have zx:x.size=clk k:=by rw[<-hx];exact Q7 HC.out _ _ _
       have zy:y.size=clk k:=by rw[<-hy];exact Q7 HC.out _ _ _
       have xT:=HC.out;have xJ:Hr wr 101 #[.int .i64 k,.string x,.string y] (.string z):=fun W h=>QaS W (HT.out.1.next (Qa (Qa y2 hb) h)) k x y (by omega) (by omega) z (by rw[<-hz,nd,ha,hx,hy])
       have HK:Hid (∀W,Zb wr W->W.cell? ⟨g,a,none⟩=some (.string x)∧W.cell? ⟨g,a+1,none⟩=some (.string y)):=fun W h=>by
        have l1:=Lh wr _ k1;exact⟨(h.cell (p:=⟨g,a,none⟩) l1).trans k1,(h.cell (p:=⟨g,a+1,none⟩) l1).trans k2⟩
       have xG:Hid (∀W,Zb W0 W->W.cell? ⟨g,a,none⟩=some (.string x)∧W.cell? ⟨g,a+1,none⟩=some (.string y)):=fun W h=>by
        have r1:=(Ul (Qm y1 h (Ld _)) (j:=a) (by rw[YK];omega)).1
        have r2:=(Ul (Qm y1 h (Ld _)) (j:=a+1) (by rw[YK];omega)).1
        rw[Qd6 _ _ _ _ (by omega)] at r1 r2
        rw[hx] at r1;rw[hy] at r2;exact⟨r1,r2⟩
       have HY:Hid (Qk wr W0.heap.size u7 (Ur (clk k) L (j+1) m)∧Zb W0 wr∧Ur (clk k) L (j+1) m++[z]=Ur (clk k) L (j+1) (m+1)∧z.size<=9223372036854775807∧m+1<=M∧N=2*M∧N<=1099511627776):=⟨ho,hb,by rw[<-hz];exact Qdc _ _ _ _,by rw[<-hz,Q7 HC.out];omega,hlt,y3,y6⟩
       have e1:IntKind.i64.wrap ((a:Int)+1)=(a:Int)+1:=by rw[Nd];omega
       have xZ:(0:Int)<=(a:Int):=by omega
       have yA:(0:Int)<=(a:Int)+1:=by omega
       have hd:Zb wr wr.drew:=(Lb _ _).drew;rw[ea] at xB xF ⊢;clear y1 y2 y3 y4 y5 y6 ho hb hm hlt hx hy hz zx zy xT ha
       go_upto_region 11 with (fail)
       obtain⟨i0,xN,xW,xX,xY⟩:=info_parts Tryz.infoS;have HO:Hid (∀W,Zb wr W->(W.alloc (.cells #[.string z] 9)).ownsRow W0.heap.size 9 1 u7 m ((Ur (clk k) L (j+1) m).map Value.string)):=fun W h=>by
        have:=Y0 (Qm HY.out.1 h (Ld _)) (.cells #[.string z] 9);rw[Qk,YK] at this;exact this
       have xI:Hid (m+1<=maxLen∧(m+1)*16<=140737488355328):=by have:=HY.out;refine⟨?_,?_⟩;unfold maxLen;omega;omega
       have xK:Hid (∀W,Zb wr W->W0.heap.size<=(W.alloc (.cells #[.string z] 9)).heap.size):=fun W h=>by have:=(Qa HY.out.2.1 h).size;simp;omega
       have kk:=HK.out wr.drew hd;have HG:Hid (∀w2 w3,Below wr.drew.heap.size wr.drew w2->(w2.alloc (.cells #[.string z] 9)).grownBy w3 u7.ownBlock->Zb W0 w3):=fun w2 w3 h1 h2=>(bal (Qa (Qa HY.out.2.1 hd) h1) _).grown h2 (by have:=(Qa (Qa HY.out.2.1 hd) h1).size;simp;omega) (fun q hq=>(HY.out.1.lt q hq).1)
       have xH:Hid (∀w2 w3,Below wr.drew.heap.size wr.drew w2->(w2.alloc (.cells #[.string z] 9)).grownBy w3 u7.ownBlock->w3.cell? ⟨g,a,none⟩=some (.string x)∧w3.cell? ⟨g,a+1,none⟩=some (.string y)):=fun w2 w3 h1 h2=>xG.out w3 (HG.out w2 w3 h1 h2)
       go_region_held3 (fun w'=>w'.cell? ⟨g,a,none⟩=some (.string x)∧w'.cell? ⟨g,a+1,none⟩=some (.string y)) (first|assumption|(exact xH.out _ _ xA hgrow)|(exact HK.out _ (Qa hd xA))|(exact HK.out _ (bal (Qa hd xA) _))) (first
        | (go_at_call 101;with_reducible refine(xJ.out _ hd).mono ?_;rintro e w2 ⟨rfl,xA⟩)
        | (refine step_append_lies _ (by rfl) _ _ _ (by rfl) W0.heap.size 9 i0 _ 1 16 underlying22 xN xW xX xY rfl (by omega) u7 m ((Ur (clk k) L (j+1) m).map Value.string) (by rfl) (HO.out _ (Qa hd xA)) ⟨w2.heap.size,0,none⟩ 1 1 [.string z] (by rfl) (by rfl) (World.news_of_block (cs:=#[.string z]) (t:=9) (fr:=(0,0)) (Lu w2 _)) (by simp[Value.oneCell']) (by omega) xI.out.1 xI.out.2 (xK.out _ (Qa hd xA)) (w2.heap.size+1) (by simp) ?_;intro gg cap_1 w3 hown3 hgrow hat hlt3))
       have HZ:Hid (Qk w3 W0.heap.size (.slice (some ⟨gg,0,none⟩) (m+1) cap_1) (Ur (clk k) L (j+1) (m+1))∧Zb W0 w3):=⟨by
        rw[Qk,YK,<-HY.out.2.2.1,L8];exact hown3,HG.out _ _ xA hgrow⟩
       clear hown3 hgrow hat hlt3 HG xH HK xG xJ HO xK kk;have xP:=Qe ea;clear ea;go_wp2
       go_roundg (M - (m+1))
       case rel=>go_light;exact⟨m+1,HY.out.2.2.2.2.1,rfl,by have:=xP.out;rw[show 2*((m+1:Nat):Int)=(a:Int)+2 by omega],HZ.out.1,HZ.out.2⟩
       case measure=>go_light;have:=HY.out.2.2.2.2.1;omega
      ·obtain rfl:m=M:=by omega
       obtain⟨a,ha⟩:=Ze (2*m);have ea:2*(m:Int)=(a:Int):=by omega
       have xB : ¬((a:Int)+1<(N:Int)):=by omega
       have e1:IntKind.i64.wrap ((a:Int)+1)=(a:Int)+1:=by rw[Nd];omega
       rw[ea];have HY:Hid (Qk wr w.heap.size u7 (Ur (clk k) L (j+1) m)∧Zb w wr∧2^(H - (j+1))=m∧j+1<=H∧m<=1099511627776):=⟨World.ownsRow.mono ho y2.size,Qa y2 hb,y4,y5,by omega⟩
       clear y1 y2 y3 y4 y5 y6 ho hb hm hlt HX ha ea;go_wp2
       go_roundg (H - (j+1))
       case rel=>go_light;obtain⟨k1,k2,k3,k4,k5⟩:=HY.out;exact⟨j+1,m,k4,rfl,⟨k3,k5⟩,k1,k2⟩
       case measure=>go_light;have:=HY.out.2.2.2.1;omega
    ·obtain rfl:j=H:=by omega
     obtain⟨n1,n2⟩:=xC;rw[NJ,NC] at n1;subst n1;have k1:=(Ul ho (j:=0) (by rw[YK];decide)).1
     rw[Qd6 _ _ _ _ (by decide),hq.out] at k1
     have h1 : ¬((1:Int)<1):=by decide
     have HB:Hid (Zb w wr):=hb;clear ho hb xE xM hg HJ n2 xD hj hjl;go_wp2
     go_ret
     exact⟨rfl,HB.out⟩
theorem RdS.cut{w:World}{b off len:Nat}{ss:LB}(h:RdS w (some ⟨b,off,none⟩) b off len ss)(i n:Nat)(hn:i+n<=len):RdS w (some ⟨b,off+i,none⟩) b (off+i) n ((ss.drop i).take n):=by
 refine⟨by rw[Lq,Lv,h.hl];omega,fun _=>rfl,fun j v hv => ?_,fun s hs=>h.sz s (LV (Nf hs))⟩
 rw[IX,Nc] at hv
 split at hv
 ·rw[IW,Np] at hv;rw[Ik];exact h.rng (i+j) v hv
 ·cases hv
theorem Qiv(w:World)(ht:Tr w)(k:Int)(ao:OA)(b off len cap:Nat)(L:LB)(hr:RdS w ao b off len L)(hsz : ∀s∈L,s.size<=140737488351232)(hmx:len<=8796093022208)(hc:len<=cap)(h i:Nat)(hh:h<=40)(hi:(i+1)*2^h<=len)(r:BA)(hq:nd (clk k) L h i=r) :
  Zr 142 #[.int .i64 k,.slice ao len cap,.agg #[.int .i64 (h:Int),.int .u64 (i:Int)]] w (.tuple #[.string r,.bool true]):=by
 obtain⟨N,hN⟩:=Ze (2^h);have xC:0<N:=by rw[<-hN];exact LQ h
 rw[hN] at hi;have xD:i*N+N<=len:=by rw[LR,LX] at hi;exact hi
 obtain rfl:=hr.ptr (by omega)
 obtain⟨lo,xA⟩:=Ze (i*N);rw[xA] at xD;have xJ:i<=lo:=by rw[<-xA];exact Ny i xC
 have xF:Hr w 55 #[.int .i64 k,.slice (some ⟨b,off+lo,none⟩) N (cap - lo)] (.string r):=fun W hb=>by
  refine Qdg W (ht.next hb) k _ b (off+lo) (cap - lo) h N hh hN ((L.drop lo).take N) ((hr.next hb (Ld _)).cut lo N xD) (fun s hs=>hsz s (LV (Nf hs))) r ?_
  show _=_
  rw[<-xA,<-hN,QjN];exact hq
 obtain⟨q,xB⟩:=Ze (len / N);have xK:i+1<=q:=by rw[<-xB,IR xC];exact hi
 have xL:q<=len:=by rw[<-xB];exact Nt _ _
 obtain⟨p,rfl⟩ : ∃p,q=p+1:=⟨q - 1,by omega⟩
 have t1 : ¬((h:Int)<0):=by omega
 have t2 : ¬((40:Int)<(h:Int)):=by omega
 have e0:IntKind.u64.wrap (len:Int)=(len:Int):=Uf _ (by omega) (by omega)
 have eq:(len:Int) / (N:Int)=(p:Int)+1:=by
  have:(len:Int) / (N:Int)=((len / N:Nat):Int):=by simp
  rw[this,xB];rfl
 have ep:IntKind.u64.wrap (p:Int)=(p:Int):=Uf _ (by omega) (by omega)
 have xN:IntKind.u64.wrap ((p:Int)+1)=(p:Int)+1:=Uf _ (by omega) (by omega)
 have t3:decide (p<i)=false:=by simp;omega
 have t4:decide (len<N)=false:=by simp;omega
 have xG:(i:Int)*(N:Int)=(lo:Int):=by rw[<-xA];simp
 have xM:((i:Int)+1)*(N:Int)=(lo:Int)+(N:Int):=by rw[Int.add_mul,xG,Int.one_mul]
 have ei:IntKind.u64.wrap ((i:Int)+1)=(i:Int)+1:=Uf _ (by omega) (by omega)
 have el:IntKind.u64.wrap (lo:Int)=(lo:Int):=Uf _ (by omega) (by omega)
 have eh:IntKind.u64.wrap ((lo:Int)+(N:Int))=(lo:Int)+(N:Int):=Uf _ (by omega) (by omega)
 have xO : ¬((N:Int)=0):=by omega
 have s1:(lo:Int)<=(lo:Int)+(N:Int):=by omega
 have s2:(lo:Int)+(N:Int)<=(cap:Int):=by omega
 have s3 : ¬(cap=lo):=by omega
 have s4:lo+N - lo=N:=by omega
 have HN:Hid (2^h=N∧N<=1099511627776∧h<=40):=⟨hN,by rw[<-hN];exact L7 (n:=2) (by decide) hh,hh⟩
 have hb:=Lb w.heap.size w;clear hN xC hi xD xA xJ xB xK xL hq ht hr hsz hmx hc hh
 go_enter func142,ntmps142;go_wp2
 go_loopg [8,9] h (fun gg v i0 wr => ∃(j M:Nat),j<=h∧gg=h - j∧v = .int .u64 (M:Int)∧i0 = .int .i64 (j:Int)∧Hid (2^j=M)∧w.alloc (.cells #[.int .i64 (h:Int),.int .u64 (i:Int)] 83)=wr)
 case atStart=>go_light;exact⟨0,1,Ll _,rfl,rfl,rfl,rfl,rfl⟩
 case round =>
  obtain⟨j,M,hj,rfl,rfl,rfl,HM,rfl⟩:=hrel
  by_cases hlt:j<h
  ·have xE:(j:Int)<(h:Int):=by omega
   obtain⟨M2,xH⟩:=Ze (2*M);have e2:IntKind.u64.wrap (2*(M:Int))=(M2:Int):=by
    have h1:=HM.out;have h2:=L7 (n:=2) (by decide) (show j<=40 by have:=HN.out.2.2;omega)
    rw[Uf _ (by omega) (by omega)];omega
   have HX:Hid (2^(j+1)=M2∧j+1<=h):=⟨by rw[LM,HM.out];omega,hlt⟩
   clear hlt hj HM xH;go_wp2
   go_roundg (h - (j+1))
   case rel=>go_light;exact⟨j+1,M2,HX.out.2,rfl,rfl,by go_num,HX.out.1,rfl⟩
   case measure=>go_light;have:=HX.out.2;omega
  ·obtain rfl:j=h:=by omega
   obtain rfl:M=N:=by rw[<-HM.out];exact HN.out.1
   have xE : ¬((j:Int)<(j:Int)):=by omega
   clear hj hlt HM
   go_upto_region 9 with (fail)
   go_quiet (fail)
   go_wp2_with (go_at_call 55;with_reducible refine(xF.out _ (Qd (bal hb _) _)).mono ?_;rintro e w2 ⟨rfl,xI⟩)
   go_ret2
   exact⟨rfl,Qa (Qd (bal hb _) _) xI⟩
theorem Qgd(w:World)(pa:OA)(pb po pc:Nat)(A:LB)(hA:RdS w pa pb po A.length A)(qa:OA)(qb qo qc:Nat)(B:LB)(hB:RdS w qa qb qo B.length B)(hmA:A.length<=8796093022208)(hmB:B.length<=8796093022208)(T:Pq)(hT:fr A B=T) :
  Zr 42 #[.slice pa A.length pc,.slice qa B.length qc] w (tri T):=by
 have xG:Hid (∀W,Zb w W->RdS W pa pb po A.length A∧RdS W qa qb qo B.length B):=fun W hb=>⟨hA.next hb (Ld _),hB.next hb (Ld _)⟩
 have H0:Hid (fr (A.drop 0) (B.drop 0)=T∧Zb w w):=⟨hT,Lb _ _⟩;have zA:(A.length:Int)<=8796093022208:=by omega
 have zB:(B.length:Int)<=8796093022208:=by omega
 clear hA hB hT hmA hmB
 go_enter func42,ntmps42;go_wp2
 go_loopg [7] A.length (fun g i wr => ∃j:Nat,g=A.length - j∧j<=A.length∧i = .int .i64 (j:Int)∧Hid (fr (A.drop j) (B.drop j)=T∧Zb w wr))
 case atStart=>go_light;exact⟨0,rfl,Ll _,rfl,H0⟩
 case round =>
  clear H0;obtain⟨j,rfl,hj,rfl,HI⟩:=hrel
  by_cases hlt:j<A.length
  ·by_cases hlb:j<B.length
   ·have y0:(0:Int)<=(j:Int):=Lf _;have y1:(j:Int)<(A.length:Int):=by omega
    have y2:(j:Int)<(B.length:Int):=by omega
    obtain⟨xB,xC⟩:=xG.out wr HI.out.2;obtain rfl:=xB.ptr (by omega)
    obtain rfl:=xC.ptr (by omega)
    have ca:=xB.at hlt;have cb:=xC.at hlb;have xA:=Qlp hlt hlb;obtain⟨x,hx⟩:=Ze (A.getD j ByteArray.empty);obtain⟨y,hy⟩:=Ze (B.getD j ByteArray.empty);rw[hx] at ca xA;rw[hy] at cb xA;have xF:Hid (∀t,Zb w (wr.drewN t)):=fun t=>Qd HI.out.2 t
    by_cases he:x=y
    ·have HN:Hid (fr (A.drop (j+1)) (B.drop (j+1))=T):=by
      rw[<-HI.out.1,xA,Qhm he];rfl
     subst he;clear xB xC hx hy xA HI
     go_upto_region 4 with (fail)
     go_quiet (fail)
     go_wp2
     go_roundg (A.length - (j+1))
     case rel=>go_light;exact⟨j+1,rfl,by omega,by go_num,HN.out,xF.out _⟩
     case measure=>go_light;omega
    ·have xH:T=some (x,y):=by
      rw[<-HI.out.1,xA,un,Le he];rfl
     subst xH;have xK:=YZ he;have hz:=Uu he;have HX:Hid (∀t,(wr.drewN t).cell? ⟨pb,po+j,none⟩=some (.string x)∧(wr.drewN t).cell? ⟨qb,qo+j,none⟩=some (.string y)):=fun t=>⟨ca,cb⟩
     clear xB xC hx hy xA HI he
     go_upto_region 4 with (fail)
     go_quiet (fail)
     go_upto_region 5 with (fail)
     go_quiet (fail)
     go_wp2;exact Lp (v:=tri (some (x,y))) (by simp[results,results42,go_sem,pA,pB']) rfl ⟨rfl,Qd (xF.out _) _⟩
   ·have xE:T=none:=by rw[<-HI.out.1,Nm (show B.length<=j by omega),Qlq]
    subst xE;have xI:(j:Int)<(A.length:Int):=by omega
    have xJ : ¬(j:Int)<(B.length:Int):=by omega
    have xD:=HI.out.2;clear HI hlt hlb hj;go_wp2;exact Lp (v:=tri none) (by simp[results,results42,go_sem,pA,pB']) rfl ⟨rfl,xD⟩
  ·obtain rfl:j=A.length:=by omega
   have xE:T=none:=by rw[<-HI.out.1,Nm (Ld _),Qnk]
   subst xE;have xI : ¬(A.length:Int)<(A.length:Int):=by omega
   have xD:=HI.out.2;clear HI hlt hj;go_wp2;exact Lp (v:=tri none) (by simp[results,results42,go_sem,pA,pB']) rfl ⟨rfl,xD⟩
theorem Qg6(w:World)(ht:Tr w)(k:Int)(la:OA)(lb lo lc:Nat)(L:LB)(hr:RdS w la lb lo L.length L)(hsz : ∀s∈L,s.size<=140737488351232)(hm:L.length<=8796093022208)(hlc:L.length<=lc)(h i:Nat)(hh:h<=40)(hi:(i+1)*2^h<=L.length)(r:BA)(hq:nd (clk k) L h i=r) :
  Zr 92 #[.int .i64 k,.slice la L.length lc,bkV h i] w (.string r):=by
 have HT:Hr w 142 #[.int .i64 k,.slice la L.length lc,.agg #[.int .i64 (h:Int),.int .u64 (i:Int)]] (.tuple #[.string r,.bool true]):=fun W hb=>Qiv W (ht.next hb) k la lb lo L.length lc L (hr.next hb (Ld _)) hsz hm hlc h i hh hi r hq
 obtain⟨F,xA,hd,xB⟩ : ∃F,w.alloc (.cells #[.int .i64 (h:Int),.int .u64 (i:Int)] 83)=F∧F.heap[w.heap.size]? = some (.cells #[.int .i64 (h:Int),.int .u64 (i:Int)] 83 (0,0))∧Zb w F:=⟨_,rfl,Lu w _,bal (Lb _ _) _⟩;have d0:F.cell? ⟨w.heap.size,0,none⟩=some (.int .i64 (h:Int)):=by rw[cell_of_row F w.heap.size 0 _ _ (0,0) hd];rfl
 have d1:F.cell? ⟨w.heap.size,1,none⟩=some (.int .u64 (i:Int)):=by rw[cell_of_row F w.heap.size 1 _ _ (0,0) hd];rfl
 unfold bkV;clear hr hsz hm hlc hh hi hq ht hd
 go_enter func92,ntmps92
 go_upto_region 1 with (fail)
 try rw[xA]
 clear xA
 go_wp2_with (go_at_call 142;with_reducible refine(HT.out _ xB).mono ?_;rintro e w1 ⟨rfl,xC⟩)
 go_ret
 exact⟨rfl,Qa xB xC⟩
theorem QgZ(w:World)(s:BA){B:Nat}(hB:B<=w.heap.size):Qk (w.alloc (.cells #[.string s] 9)) B (.slice (some ⟨w.heap.size,0,none⟩) 1 1) [s] :=
 ⟨rfl,.inr ⟨w.heap.size,1,#[.string s],rfl,hB,Lu w _,Ld _,by decide,rfl,rfl⟩⟩
theorem rtop_any (w:World) (ht:Tr w) (k:Int) (n:Nat) (hn:n<18446744073709551616) (pa:OA) (pb po pc:Nat) (P:LB) (hP:RdS w pa pb po P.length P) (hpc:P.length<=pc) (hm:P.length<=100) (hsz : ∀s∈P,s.size<=32) (R:LB) (hR:tx (clk k) n P=R) :
    Ro 43 #[.int .i64 k,.int .u64 (n:Int),.slice pa P.length pc] w R:=by
  have hc:=Qp k;obtain⟨x,hx⟩:=Ze (Qr (clk k) P);obtain⟨r0,hr0⟩:=Ze (QI n x);have hxs:x.size<=32:=by rw[<-hx];exact Q3 hc (Ld _) _ hsz
  have HB0:Hr w 53 #[.int .i64 k,.slice pa P.length pc] (.string x):=fun W hb=>U0 W (ht.next hb) k pa pb po P.length pc P (hP.next hb (Ld _)) (fun s hs=>Lz (hsz s hs) (by decide)) (by omega) x hx
  have HR0:Hid (∀W,Zr 52 #[.int .u64 (n:Int),.string x] W (.string r0)):=fun W=>O5 W n hn x (by omega) r0 hr0
  have HS:Hid (∀j,j+1<P.length -> ∃a y t,pa=some ⟨pb,po,none⟩∧(∀W,Zb w W->W.cell? ⟨pb,po+j,none⟩=some (.string a))∧(∀W,Zb w W->Zr 53 #[.int .i64 k,.slice (some ⟨pb,po+(j+1),none⟩) (P.length - (j+1)) (pc - (j+1))] W (.string y))∧(∀W,Zr 88 #[.string a,.string y] W (.string t))∧(bx (clk k) P).take (j+1)=(bx (clk k) P).take j++[t]):=fun j hj=>by
    have hptr:=hP.ptr (by omega)
    obtain⟨a,ha⟩:=Ze (P.getD j ByteArray.empty);obtain⟨y,hy⟩:=Ze (Qr (clk k) (P.drop (j+1)));have hys:y.size<=32:=by rw[<-hy];exact Q3 hc (Ld _) _ (fun s hs=>hsz s (LV hs))
    have has:a.size<=32:=by rw[<-ha];exact hsz _ (Qv (by omega))
    refine⟨a,y,Uq a y,hptr,fun W hb => ?_,fun W hb => ?_,fun W=>QaR W a y (by omega) (by omega) _ rfl,?_⟩
    · have:=(hP.next hb (Ld _)).at (k:=j) (by omega)
      rw[ha] at this;exact this
    · have hd:=Uo (H:=j+1) (dc:=pc) hP hpc (by omega) (fun h=>by rw[hptr] at h;cases h) (ax:=some ⟨pb,po+(j+1),none⟩) (by rw[Le (by omega),hptr];simp[Addr.add_mid])
      have:=U0 W (ht.next hb) k (some ⟨pb,po+(j+1),none⟩) pb (po+(j+1)) _ (pc - (j+1)) _ (hd.1.next hb (Ld _)) (fun s hs=>Lz (hsz s (LV hs)) (by decide)) (by rw[Lv];omega) y hy
      rwa [Lv] at this
    · rw[Qk6 _ _ _ hj,ha,hy]
  have HEnd:Hid (∀j,P.length<=j+1->[r0]++(bx (clk k) P).take j=R):=fun j hj=>by
    rw[LD (by rw[QbA];omega),<-hR,tx,hx,hr0];rfl
  have HLn:Hid (∀j,([r0]++(bx (clk k) P).take j).length<=1000):=fun j=>by
    rw[Lg,Lq,QbA];simp;omega
  have zc:(P.length:Int)<=(pc:Int):=by omega
  have zm:(P.length:Int)<=100:=by omega
  have hpc':=Qe hpc;clear hP hpc hm hsz hR hx hr0 hxs hc ht hn
  go_enter func43,ntmps43
  go_upto_region 2 with (first
    | (go_at_call 53;with_reducible refine(HB0.out _ (Lb _ _)).mono ?_;rintro e w1 ⟨rfl,hb1⟩)
    | (go_at_call 52;with_reducible refine(HR0.out _).mono ?_;rintro e w2 ⟨rfl,hb2⟩))
  have hb12:=Qa hb1 hb2;obtain⟨F,hFe,oF,hbF⟩ : ∃F,w2.alloc (.cells #[.string r0] 9)=F∧Qk F w.heap.size (.slice (some ⟨w2.heap.size,0,none⟩) 1 1) ([r0]++(bx (clk k) P).take 0)∧Zb w F:=⟨_,rfl,QgZ w2 r0 hb12.size,bal hb12 _⟩
  try rw[hFe]
  clear hFe hb1 hb2 hb12 HB0 HR0;have HO:=Qe (Lo oF hbF);clear oF hbF;go_wp2
  go_loopg [7,8] P.length (fun g v i wr => ∃j:Nat,g=P.length - j∧j<=P.length∧i = .int .i64 (j:Int)∧Hid (Qk wr w.heap.size v ([r0]++(bx (clk k) P).take j)∧Zb w wr))
  case atStart=>go_light;exact⟨0,rfl,Ll _,rfl,HO⟩
  case round =>
    clear HO;obtain⟨j,rfl,hj,rfl,HI⟩:=hrel
    by_cases hlt:j+1<P.length
    · obtain⟨a,y,t,rfl,ca,hB,hT,htk⟩:=HS.out j hlt;have HB:=Qe hB;have HT:=Qe hT;have HC:=Qe ca;have HN:=Qe htk;have z0:(0:Int)<=(j:Int):=Lf _;have z1:(j:Int)+1<(P.length:Int):=by omega
      have z2:(j:Int)<(P.length:Int):=by omega
      have z3 : ¬pc=j+1:=by have:=hpc'.out;omega
      have z4:(j:Int)+1<=(pc:Int):=by omega
      have z5:(j:Int)+1<=(P.length:Int):=by omega
      have z6:(0:Int)<=(j:Int)+1:=by omega
      have z7:((j:Int)+1).toNat=j+1:=by omega
      have zw:IntKind.i64.wrap ((j:Int)+1)=(j:Int)+1:=by rw[Nd];omega
      have z8 : ¬(pc:Int)=(j:Int)+1:=by omega
      have z9 : ¬pc<=j+1:=by omega
      have z10:j+1<=P.length:=by omega
      have z11:P.length<=pc:=hpc'.out;have z12:j+1<=pc:=by omega
      have cc:=ca wr HI.out.2;clear hB hT ca htk
      go_upto_region 5 with (fail)
      have hc9:=(Lb wr.heap.size wr).drew;have HL:=Qe (HLn.out j)
      go_region_held3 (fun V=>V.cell? ⟨pb,po+j,none⟩=some (.string a))
        (first|with_reducible exact HC.out _ hq7.out|with_reducible exact HC.out _ (Qa HI.out.2 hc9)|with_reducible exact HC.out _ (bal (Qa HI.out.2 hc9) _)|with_reducible exact HC.out _ HI.out.2)
        (first
        | (go_at_call 53;with_reducible refine(HB.out _ (Qa HI.out.2 hc9)).mono ?_;rintro e w5 ⟨rfl,hb5⟩;replace hc9:=Qa hc9 hb5)
        | (go_at_call 88;with_reducible refine(HT.out _).mono ?_;rintro e w6 ⟨rfl,hb6⟩;replace hc9:=Qa hc9 hb6)
        | (refine Qcy _ (by rfl) _ _ (by rfl) w.heap.size u7 ([r0]++(bx (clk k) P).take j) (by rfl) (Qm HI.out.1 (bal hc9 _) (Ld _)) _ t (by rfl) (cell_of_one (Lu _ _)) HL.out (bal (Qa HI.out.2 hc9) _).size ?_
           intro v7 w7 o7 g7 f7;have hq7:=Qe ((bal (Qa HI.out.2 hc9) (.cells #[.string t] 9)).grown g7 (bal (Qa HI.out.2 hc9) _).size (fun b hb=>(LP HI.out.1 b hb).1))))
      all_goals
        have HF:Hid (Qk w7 w.heap.size v7 ([r0]++(bx (clk k) P).take (j+1))∧Zb w w7):=by
          exact⟨by rw[HN.out,<-LH];exact o7,hq7.out⟩
        clear o7 g7 f7 hq7;go_wp2
        go_roundg (P.length - (j+1))
        case rel=>go_light;exact⟨j+1,rfl,by omega,by go_num,HF⟩
        case measure=>go_light;omega
    · have hz1 : ¬(j:Int)+1<(P.length:Int):=by omega
      have he:=HEnd.out j (by omega)
      have hB':=HI.out;rw[he] at hB';clear HI HEnd HLn HS;go_wp2
      go_ret
      exact⟨_,rfl,hB'.1,hB'.2⟩
theorem Qf1(c:Nat)(L:LB)(M:Nat->Nat->Option Nat) : ∀h k,(ra c L M h k).length+1<=2^(h+1):=by
 intro h
 induction h with
 | zero =>
  intro k
  cases e:M 0 k with
  | some j=>rw[QaP e];simp
  | none=>rw[Qbh e];simp
 | succ h ih =>
  intro k
  cases e:M (h+1) k with
  | some j=>rw[QaP e];exact IE
  | none =>
   have h1:=ih (2*k);have h2:=ih (2*k+1);rw[Qbi e,Lt,Lg];have:2^(h+1+1)=2*2^(h+1):=by rw[LM,Nb]
   omega
def Bk(w:World)(g:Nat)(h i:Int):Prop:=w.heap[g]? = some (.cells #[.int .i64 h,.int .u64 i] 83 (0,0))
section
variable {w W:World} {g:Nat} {h i:Int}
theorem Bk.cells(t:Bk w g h i):w.cell? ⟨g,0,none⟩=some (.int .i64 h)∧w.cell? ⟨g,1,none⟩=some (.int .u64 i) :=
 ⟨by rw[cell_of_row w g 0 _ _ (0,0) t];rfl,by rw[cell_of_row w g 1 _ _ (0,0) t];rfl⟩
theorem Bk.lt(t:Bk w g h i):g<w.heap.size:=(Array.getElem?_eq_some_iff.1 t).1
theorem Bk.next(t:Bk w g h i)(hb:Zb w W):Bk W g h i:=(hb.block g t.lt).trans t
theorem Qan(w:World)(h i:Int) : ∃W,w.alloc (.cells #[.int .i64 h,.int .u64 i] 83)=W∧Bk W w.heap.size h i∧Zb w W:=⟨_,rfl,Lu w _,bal (Lb _ _) _⟩
end
theorem JN(w:World)(s:BA){B g:Nat}(hg:w.heap.size=g)(hB:B<=g):Qk (w.alloc (.cells #[.string s] 9)) B (.slice (some ⟨g,0,none⟩) 1 1) [s]:=by
 subst hg;exact QgZ w s hB
theorem Qef{w:World}(ht:Tb w){k:Int}{la:OA}{lb lo lc:Nat}{L:LB}(hr:RdS w la lb lo L.length L)(hsz : ∀s∈L,s.size<=140737488351232)(hm:L.length<=1099511627776){n:Nat}{Bs:List (Nat×Nat)}{D:LB}{K:List He}{R:LB}{V:Nat->BA}{Q:Nat->Prop}(T:Tre (clk k) n Bs D V Q K R)(hD:D.length<=8796093022208){da:OA}{db dc:Nat}(hd:RdS w da db 0 D.length D)
  {ca:OA} {cb co cc:Nat} {l:List (Nat×BA)} (hc:RdK w ca cb co l.length l) (hl:l.length<=8796093022208) (hp:Asc (ixs l)) (hv : ∀x∈vls l,x.size<2305843009213693952) (hQ : ∀i,Q i -> ∃p,p<l.length∧l.getD p noC=(i,V i)) {mb:Nat} (hM:Mi w mb (fun h i=>if 0<=h then ixM Bs h.toNat i else none)) :
  SdP w k L (ixM Bs) D V Q (lsV k la L.length lc (some mb)) (prV' da D.length dc ca l.length cc (some mb)):=by
 have xA:Cm w (some mb) (ixM Bs) := .inl ⟨mb,rfl,hM⟩;refine⟨ht,fun W h i hb hh hi => ?_,fun W h i hb hh hi hq => ?_,hsz,fun i hq => ?_,T.lt,T.dsz,hm⟩
 ·exact QjE W (ht.next hb) k la lb lo lc L (hr.next hb (Ld _)) hsz hm (some mb) (ixM Bs) (xA.next hb) h i hh hi _ rfl
 ·exact Qj6 W da db 0 dc D (hd.next hb (Ld _)) hD ca cb co cc l (hc.next hb) hl hp hv V (some mb) (ixM Bs) (xA.next hb) h i hh (by have:=QbW hi;omega) (T.lt h i) (fun h0 e=>hQ i (hq h0 e)) _ rfl
 ·obtain⟨p,h1,h2⟩:=hQ i hq;refine hv _ (List.mem_map.2 ⟨(i,V i),?_,rfl⟩)
  rw[<-h2,La,Lc h1];exact LG _
theorem OF{k:Int}{L:LB}(hm:L.length<=5000)(hsz : ∀s∈L,s.size<=140737488351232){l:List (Nat×BA)}{s:BA}{P:PV}{Bs:List (Nat×Nat)}{K:List He}{R:LB}{c1:BA}(A:Acc k L.length c1 l s P)(T:AccT k L.length c1 l P Bs K R)(hl:l.length<=8796093021952){W:World}(ht:Tb W){sa:OA}{sb sc:Nat}{da:OA}{db dc:Nat}(hF:RdF W sa sb sc da db dc P){la:OA}{lb lo lc:Nat}(hr:RdS W la lb lo L.length L){ca:OA}{cb co cc:Nat}(hc:RdK W ca cb co l.length l) :
  Zr 26 #[vP P.kd P.k P.old P.size (.slice sa P.S.length sc) (.slice da P.D.length dc),.slice la L.length lc,.slice ca l.length cc] W (pv (wk (clk k) L.length L (ixM Bs) P.D (vlC l) (Cv.dnL 41 0 L.length))):=by
 have xA:=T.len;rw[A.hk,A.size];refine Qe0 W P.kd k P.old L.length _ da P.D.length dc la L.length lc ca l.length cc Bs T.tre.fit (by omega) T.tre.nodup (fun W' hb => ?_) _ (fun W' mb hb hM => ?_)
 ·have:=T.call W' sa sb sc da db dc hm (hF.next hb)
  rwa [A.size] at this
 ·have S:=Qef (k:=k) (la:=la) (lc:=lc) (dc:=dc) (cc:=cc) (ht.next hb) (hr.next hb (Ld _)) hsz (by omega) T.tre (by rw[T.tre.len];omega) (hF.next hb).p.rd (hc.next hb) (by omega) T.asc (fun x hx=>by have:=A.hv x hx;omega) (fun i hi=>⟨_,QkP hi⟩) hM
  exact QiK S L.length (Ld _) _ rfl T.tre.vis _ rfl
structure ClmX(k:Int)(L:LB)(l:List (Nat×BA))(s:BA)(o:Nat)(c:BA)(r:Int)(T:Pq):Prop where
 ext : ∀W la lb lo lc ca cb co cc,Tb W->RdS W la lb lo L.length L->L.length<=lc->RdK W ca cb co l.length l->Zr 10 #[.int .i64 k,.slice la L.length lc,.slice ca l.length cc,.string s] W (tri T)
 light : ∀W ca cb co cc,Tb W->RdK W ca cb co l.length l->Zr 11 #[.int .i64 k,.agg #[.int .u64 (o:Int),.string c],.slice ca l.length cc,.string s] W (.int .i64 r)
 good:1<=k->k<=32->o=L.length∧c=rtD (clk k) L L.length
 no:r≠0->T=none
 bad : ¬(1<=k∧k<=32)->r≠0
 yes:r=0->(1<=k∧k<=32) ∧ ∃P Bs K R,Acc k L.length (rtD (clk k) L L.length) l s P∧AccT k L.length (rtD (clk k) L L.length) l P Bs K R∧(soC L l->T=none)∧(¬soC L l->T=wk (clk k) L.length L (ixM Bs) P.D (vlC l) (Cv.dnL 41 0 L.length))
theorem QbL(k:Int)(hk:1<=k∧k<=32)(L:LB)(hm:L.length<=5000)(hsz : ∀s∈L,s.size<=140737488351232)(l:List (Nat×BA))(hl:l.length<=8796093021952)(s:BA)(hs:s.size<=281474976710656)(c:BA)(hc:rtD (clk k) L L.length=c)(r:Int)
  (h1 : ∀W ca cb co cc,Tb W->RdK W ca cb co l.length l->Zr 11 #[.int .i64 k,.agg #[.int .u64 (L.length:Int),.string c],.slice ca l.length cc,.string s] W (.int .i64 r))
  (h2:r=0 -> ∃P,Acc k L.length c l s P) : ∃T,ClmX k L l s L.length c r T:=by
 have xA : ∀ {W la lb lo lc},Tb W->RdS W la lb lo L.length L->L.length<=lc->Hid (∀V,Zb W V->Zr 23 #[.int .i64 k,.slice la L.length lc] V (.agg #[.int .u64 (L.length:Int),.string c])):=fun {W la lb lo lc} ht hr hlc V hb=>Qgz V (ht.next hb) k hk.1 hk.2 la lb lo lc L (hr.next hb (Ld _)) hsz (by omega) hlc c hc
 by_cases h0:r=0
 ·subst h0;obtain⟨P,A⟩:=h2 rfl;obtain⟨Bs,K,R,T⟩:=QiO A;have xB : ∀x∈l,x.1<L.length:=fun x hx=>(T.free x.1 (List.mem_map.2 ⟨x,hx,rfl⟩)).1
  have xC:l.length<=1099511627776:=by
   have h5:(ixs l).length<=L.length:=by
    have hb : ∀i∈ixs l,i<L.length:=fun i hi=>(T.free i hi).1
    have:=Qhu T.asc hb;exact this
   rw[Lx] at h5;omega
  by_cases hso:soC L l
  ·refine⟨none,fun W la lb lo lc ca cb co cc ht hr hlc hK => ?_,fun W ca cb co cc ht hK=>h1 W ca cb co cc ht hK,fun _ _=>⟨rfl,hc.symm⟩,fun _=>rfl,fun h=>absurd hk h,fun _=>⟨hk,P,Bs,K,R,by rw[hc];exact A,by rw[hc];exact T,fun _=>rfl,fun h=>absurd hso h⟩⟩
   refine Qjg W k la L.length lc ca l.length cc s L.length c (xA ht hr hlc) (fun V hb=>h1 V ca cb co cc (ht.next hb) (hK.next hb)) (fun V hb => ?_)
   exact JW V ca cb co cc l (hK.next hb) xC la lb lo lc L (hr.next hb (Ld _)) (by omega) xB true (Ln hso)
  ·refine⟨wk (clk k) L.length L (ixM Bs) P.D (vlC l) (Cv.dnL 41 0 L.length),fun W la lb lo lc ca cb co cc ht hr hlc hK => ?_,fun W ca cb co cc ht hK=>h1 W ca cb co cc ht hK,fun _ _=>⟨rfl,hc.symm⟩,fun h=>absurd rfl h,fun h=>absurd hk h,fun _=>⟨hk,P,Bs,K,R,by rw[hc];exact A,by rw[hc];exact T,fun h=>absurd h hso,fun _=>rfl⟩⟩
   refine QgC W k la L.length lc ca l.length cc s L.length c (xA ht hr hlc) P _ (fun V hb=>h1 V ca cb co cc (ht.next hb) (hK.next hb)) (fun V hb => ?_) (fun V=>(UP V s hs P A.hd).mono fun e w' ⟨sa,sb,sc,da,db,dc,h1,h2,_,h3⟩=>⟨sa,sb,sc,da,db,dc,h1,h2,h3⟩) (fun V sa sb sc da db dc hb hF => ?_)
   ·exact JW V ca cb co cc l (hK.next hb) xC la lb lo lc L (hr.next hb (Ld _)) (by omega) xB false (Lj hso)
   ·exact OF hm hsz A T hl (ht.next hb) hF (hr.next hb (Ld _)) (hK.next hb)
 ·refine⟨none,fun W la lb lo lc ca cb co cc ht hr hlc hK => ?_,fun W ca cb co cc ht hK=>h1 W ca cb co cc ht hK,fun _ _=>⟨rfl,hc.symm⟩,fun _=>rfl,fun h=>absurd hk h,fun h=>absurd h h0⟩
  exact Qjf W k la L.length lc ca l.length cc s L.length c (xA ht hr hlc) r h0 (fun V hb=>h1 V ca cb co cc (ht.next hb) (hK.next hb))
theorem QfO(k:Int)(L:LB)(hm:L.length<=5000)(hsz : ∀s∈L,s.size<=140737488351232)(l:List (Nat×BA))(hl:l.length<=8796093021952)(hv : ∀x∈vls l,x.size<=9223372036854775807)(s:BA)(hs:s.size<=281474976710656) : ∃o c r T,ClmX k L l s o c r T:=by
 by_cases hk:1<=k∧k<=32
 ·obtain⟨c,hc⟩:=Ze (rtD (clk k) L L.length);obtain⟨r,h1,h2⟩:=Ol k L.length c l hl hv s hs;obtain⟨T,hT⟩:=QbL k hk L hm hsz l hl s hs c hc r h1 h2;exact⟨_,_,r,T,hT⟩
 ·have xA:k<1∨32<k:=by omega
  obtain⟨r,h1,h2⟩:=Ol k 0 ⟨#[]⟩ l hl hv s hs;have h0:r≠0:=fun h=>by
   obtain⟨P,A⟩:=h2 h;exact hk ⟨A.k1,A.k2⟩
  refine⟨0,⟨#[]⟩,r,none,fun W la lb lo lc ca cb co cc ht hr hlc hK => ?_,fun W ca cb co cc ht hK=>h1 W ca cb co cc ht hK,fun a b=>absurd ⟨a,b⟩ hk,fun _=>rfl,fun _=>h0,fun h=>absurd h h0⟩
  exact Qjf W k la L.length lc ca l.length cc s 0 ⟨#[]⟩ (fun V hb=>Qi0 V k xA la L.length lc (by omega)) r h0 (fun V hb=>h1 V ca cb co cc (ht.next hb) (hK.next hb))
theorem QhD{k:Int}{L:LB}{l:List (Nat×BA)}{s:BA}{o:Nat}{c:BA}{T:Pq}(X:ClmX k L l s o c 0 T):(∀x∈l,x.1<L.length)∧(soC L l->T=none)∧(¬soC L l -> ∃q,T=some q∧Clx (clk k) q):=by
 obtain⟨_,P,Bs,K,R,A,Tr,h1,h2⟩:=X.yes rfl;refine⟨fun x hx=>(Tr.free x.1 (List.mem_map.2 ⟨x,hx,rfl⟩)).1,h1,fun hso => ?_⟩
 rcases Qds A Tr with ⟨q,hq,hc⟩|h
 ·exact⟨q,by rw[h2 hso,hq],hc⟩
 ·exact absurd h hso
theorem QgO{L:LB}{N:Nat}(h : ∀s∈L,s.size<=N)(i:Nat):(L.getD i ByteArray.empty).size<=N:=by
 by_cases hi:i<L.length
 ·exact h _ (Qv hi)
 ·rw[La,N8 (by omega)];exact Ll _
theorem QnT{l:List (Nat×BA)}{N:Nat}(h : ∀x∈vls l,x.size<=N)(i:Nat):(vlC l i).size<=N:=by
 unfold vlC
 by_cases hi:(ixs l).idxOf i<l.length
 ·refine h _ (List.mem_map.2 ⟨_,?_,rfl⟩)
  rw[La,Lc hi];exact LG _
 ·rw[La,N8 (by omega)];exact Ll _
theorem Qkf{c:Nat}{L:LB}{M:Nat->Nat->Option Nat}{N:Nat}(hc:c<=32)(hN:65<=N)(hL : ∀i,(L.getD i ByteArray.empty).size+1<=N) : ∀h k,∀s∈ra c L M h k,s.size<=N:=by
 intro h
 induction h with
 | zero =>
  intro k s hs
  cases e:M 0 k with
  | some j=>rw[QaP e] at hs;cases hs
  | none=>rw[Qbh e,N6] at hs;subst hs;rw[Yu];have:=hL k;omega
 | succ h ih =>
  intro k s hs
  cases e:M (h+1) k with
  | some j=>rw[QaP e] at hs;cases hs
  | none =>
   rw[Qbi e,Wu,NV] at hs
   rcases hs with rfl|hs|hs
   ·rw[Yw,Q7 hc,Q7 hc];omega
   ·exact ih _ s hs
   ·exact ih _ s hs
theorem Qkg{c:Nat}{M:Nat->Nat->Option Nat}{D:LB}{V:Nat->BA}{N:Nat}(hx : ∀h k,(xd c M D V h k).size<=32)(hN:65<=N)(hV : ∀k,M 0 k=none->(V k).size+1<=N) : ∀h k,∀s∈rb c M D V h k,s.size<=N:=by
 intro h
 induction h with
 | zero =>
  intro k s hs
  cases e:M 0 k with
  | some j=>rw[Qc8 e] at hs;cases hs
  | none=>rw[QdV e,N6] at hs;subst hs;rw[Yu];have:=hV k e;omega
 | succ h ih =>
  intro k s hs
  cases e:M (h+1) k with
  | some j=>rw[Qc8 e] at hs;cases hs
  | none =>
   rw[QdW e,Wu,NV] at hs
   rcases hs with rfl|hs|hs
   ·have h1:=hx h (2*k);have h2:=hx h (2*k+1);rw[Yw];omega
   ·exact ih _ s hs
   ·exact ih _ s hs
theorem UZ{B s:Nat}{w1 w2:World}{a x:Value}{PA L:LB}(ho:Qk w1 B a PA)(hs:w1.heap.size<=s)(hx:Qk w2 s x L)(hb:Zb w1 w2)(hBs:B<=s):Pr B w2 a x PA L :=
 ⟨Qm ho hb (Ld _),World.ownsRow.mono hx hBs,fun g h1 h2=>by have:=(LP ho g h1).2;have:=(LP hx g h2).1;omega⟩
theorem Qg4{B B':Nat}{w:World}{v u:Value}{P Q:LB}(h:Pr B w v u P Q)(hB:B'<=B):Pr B' w v u P Q:=⟨World.ownsRow.mono h.ov hB,World.ownsRow.mono h.ou hB,h.ap⟩
theorem OY{w:World}{B n cap:Nat}{ao:OA}{L:LB}(h:Qk w B (.slice ao n cap) L)(hs : ∀s∈L,s.size<=9223372036854775807) : ∃b,RdS w ao b 0 L.length L∧(ao=none->cap=0):=by
 obtain⟨xB,b,xA,e,r,_,hn⟩:=Qt h hs;injection e with e1 e2 e3
 subst e1 e2 e3;exact⟨b,r,hn⟩
theorem Qco(w:World)(h i:Nat)(hh:h<=40)(sa:OA)(sb so cap:Nat)(S:List Nat)(hS:RdU w sa sb so S.length S)(hm:S.length<=100000000)(r:Bool)(hr:decide (∃s∈S,s / 2^h=i)=r) :
  Zr 99 #[bkV h i,.slice sa S.length cap] w (.bool r):=by
 unfold bkV;obtain⟨F,xG,xH,xC⟩:=Qan w (h:Int) (i:Int);have HX:Hid (∀V,Zb F V->(V.cell? ⟨w.heap.size,0,none⟩=some (.int .i64 (h:Int))∧V.cell? ⟨w.heap.size,1,none⟩=some (.int .u64 (i:Int)))∧RdU V sa sb so S.length S∧Zb w V):=fun V hb=>⟨(xH.next hb).cells,hS.next (Qa xC hb),Qa xC hb⟩
 have HR:=Qe hr;have H0:Hid ((∀s∈S.take 0,s / 2^h≠i)∧Zb F F):=⟨fun e he=>(by simp at he),Lb _ _⟩
 have zm:(S.length:Int)<=100000000:=by omega
 have zh:(h:Int)<=40:=by omega
 have xL:(0:Int)<=(h:Int):=Lf _;have zw:IntKind.u64.wrap (h:Int)=(h:Int):=by rw[IntKind.wrap_u64];omega
 clear hS hm hr xH xC
 go_enter func99,ntmps99
 go_upto_region 1 with (fail)
 try rw[xG]
 clear xG;go_wp2
 go_loopg [5] S.length (fun t x wr => ∃j:Nat,t=S.length - j∧j<=S.length∧x = .int .i64 (j:Int)∧Hid ((∀s∈S.take j,s / 2^h≠i)∧Zb F wr))
 case atStart=>go_light;exact⟨0,rfl,Ll _,rfl,H0⟩
 case round =>
  clear H0;obtain⟨j,rfl,hj,rfl,HI⟩:=hrel
  by_cases hlt:j<S.length
  ·have z0:(0:Int)<=(j:Int):=Lf _;have z1:(j:Int)<(S.length:Int):=by omega
   obtain⟨⟨d0,d1⟩,xB,_⟩:=HX.out wr HI.out.2;obtain rfl:=xB.ptr (by omega)
   have c0:=xB.at hlt;obtain⟨s,he⟩:=Ze (S.getD j 0);rw[he] at c0;have xD:s∈S:=by rw[<-he,La,Lc hlt];exact LG _
   have xE:S.take (j+1)=S.take j++[s]:=by rw[LW hlt,<-he,La,Lc hlt];rfl
   have xF:Hid (∀t,Zb F (wr.drewN t)):=fun t=>Qd HI.out.2 t
   have xA:(s:Int) / 2^h=((s / 2^h:Nat):Int):=by simp
   by_cases hq:s / 2^h=i
   ·have hz:(s:Int) / 2^h=(i:Int):=by rw[xA,hq]
    obtain rfl:true=r:=by rw[<-HR.out];exact(Ln ⟨_,xD,hq⟩).symm
    clear xB he xD xE HI HR hq xA
    go_upto_region 4 with (fail)
    go_quiet (fail)
    go_wp2
    go_ret
    exact⟨rfl,(HX.out _ (xF.out _)).2.2⟩
   ·have hz : ¬(s:Int) / 2^h=(i:Int):=by rw[xA];omega
    have xK:((s:Int) / 2^h == (i:Int))=false:=by simpa using hz
    have HN:Hid (∀s∈S.take (j+1),s / 2^h≠i):=fun e he=>by
     rw[xE,NV,N6] at he
     rcases he with he|rfl
     ·exact HI.out.1 e he
     ·exact hq
    clear xB he xD xE HI HR hq xA
    go_upto_region 4 with (fail)
    go_quiet (fail)
    go_wp2
    go_roundg (S.length - (j+1))
    case rel=>go_light;exact⟨j+1,rfl,by omega,by go_num,HN.out,xF.out _⟩
    case measure=>go_light;omega
  ·obtain rfl:j=S.length:=by omega
   have xJ : ¬(S.length:Int)<(S.length:Int):=by omega
   obtain rfl:false=r:=by
    rw[<-HR.out];refine(Lj fun⟨e,he,h1⟩ => ?_).symm
    have:=HI.out.1 e (by rw[LY];exact he)
    exact this h1
   have xI:=(HX.out _ HI.out.2).2.2;clear HI HR hlt hj;go_wp2
   go_ret
   exact⟨rfl,xI⟩
end Go.Proofs.YtdocjikpcbmcgaaGreatDoor
