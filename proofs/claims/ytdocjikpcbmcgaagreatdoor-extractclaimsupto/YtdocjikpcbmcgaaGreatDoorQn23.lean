/- Own work. -/
import Derived.Test.YtdocjikpcbmcgaaGreatDoorQn16
import Derived.Test.YtdocjikpcbmcgaaGreatDoorQn22
set_option maxRecDepth 100000
set_option maxHeartbeats 2000000
namespace Go.Proofs.YtdocjikpcbmcgaaGreatDoor
open Go.RowKit
attribute [local go_sem ↓] Go.wp_at_zero Go.wp_at_succ
open Go.Proofs.Tryz
theorem QaE(x:Int)(l:List Int):Q4 [x]++Q4 l=Q4 (x::l):=by
 apply Iz
 rw[IQ]
 apply Array.toList_inj.1
 rw[Array.toList_append,YV,YV,YV]
 rfl
def tlL(n k:Nat):List Int:=(nbL n 8).drop (8 - k)
theorem QkD(n k:Nat)(h:k<8):((n / 256^k % 256:Nat):Int)::tlL n k=tlL n (k+1):=by
 unfold tlL;have hl:8 - (k+1)<(nbL n 8).length:=by rw[Qa9];omega
 rw[LO hl,show 8 - (k+1)+1=8 - k by omega]
 congr 1
 have:(nbL n 8)[8 - (k+1)]=((n / 256^(7 - (8 - (k+1))) % 256:Nat):Int):=by simp[nbL]
 rw[this,show 7 - (8 - (k+1))=k by omega]
theorem QmC(x:Int)(h0:0<=x)(h1:x<18446744073709551616):IntKind.u64.wrap x=x:=by
 simp[IntKind.wrap,IntKind.signed,IntKind.bits];omega
theorem O5(w:World)(n:Nat)(hn:n<18446744073709551616)(d:BA)(hs:d.size<2305843009213693952)(r:BA)(hr:QI n d=r) :
  Zr 52 #[.int .u64 (n:Int),.string d] w (.string r):=by
 have hB:=Lb w.heap.size w
 go_enter func52,ntmps52;go_wp2
 go_loopg [0,5,6] 8 (fun g a s i wr => ∃(k N:Nat) (z:BA),k<=8∧g=8 - k∧a = .int .u64 (N:Int)∧s = .string z∧i = .int .i64 (k:Int)∧Hid (N=n / 256^k∧z=Q4 (tlL n k))∧z.size=k∧Zb w wr)
 case atStart=>go_light;exact⟨0,n,⟨#[]⟩,Ll _,rfl,rfl,rfl,rfl,⟨by simp,rfl⟩,rfl,hB⟩
 case round =>
  clear hB;obtain⟨k,N,z,hk,rfl,rfl,rfl,rfl,HE,hz,hb⟩:=hrel
  by_cases hlt:k<8
  ·have h1:(k:Int)<8:=by omega
   obtain⟨y,hy⟩:=Ze (Q4 [(N:Int) % 256]);have cv:=fun W=>JE W ((N:Int) % 256)
   have zy:=Uk ((N:Int) % 256);rw[hy] at zy;simp only[hy] at cv;have HN:Hid ((N:Int) / 256=((n / 256^(k+1):Nat):Int)∧y++z=Q4 (tlL n (k+1))):=by
    have h:=HE.out;refine⟨?_,?_⟩
    ·rw[h.1,LM,<-Nh];omega
    ·rw[<-hy,h.2,QaE,<-QkD n k hlt,h.1];congr 2
   have xC : ¬(9223372036854775807<1+k):=by omega
   have ew:IntKind.u64.wrap ((N:Int) / 256)=(N:Int) / 256:=by
    have h:=HE.out.1;have:N<=n:=by rw[h];exact Nt _ _
    exact QmC _ (by omega) (by omega)
   have xA:(y++z).size=k+1:=by rw[L3,zy,hz];omega
   have HZ:=Qe xA;clear hy HE xA;go_wp2
   go_roundg (8 - (k+1))
   case rel=>go_light;exact⟨k+1,n / 256^(k+1),y++z,by omega,rfl,by rw[<-HN.out.1],rfl,by go_num,⟨rfl,HN.out.2⟩,HZ.out,bal hb _⟩
   case measure=>go_light;omega
  ·obtain rfl:k=8:=by omega
   have xD : ¬((8:Int)<8):=by decide
   have HT:=fun W=>UU W 3 z d (by omega) hs r (by
    rw[<-hr,HE.out.2,QI,QaE];rfl)
   rw[show((8:Nat):Int)=8 from rfl]
   clear HE hlt hk
   go_wp2_with (go_at_call 100;with_reducible refine(HT _).mono ?_;rintro e w1 ⟨rfl,xB⟩)
   go_ret
   exact⟨rfl,Qa hb xB⟩
theorem U0(w:World)(ht:Tr w)(k:Int)(ao:OA)(b off len cap:Nat)(ss:LB)(hr:RdS w ao b off len ss)(hsz : ∀s∈ss,s.size<=140737488351232)(hmx:len<=8796093022208)(r:BA)(hq:Qr (clk k) ss=r) :
  Zr 53 #[.int .i64 k,.slice ao len cap] w (.string r):=by
 by_cases h0:len=0
 ·subst h0;have:ss=[]:=List.length_eq_zero_iff.1 hr.hl;subst this;subst hq
  go_enter func53,ntmps53;go_wp2
  go_ret
  exact⟨rfl,Lb _ _⟩
 ·have xA:0<len:=by omega
  obtain rfl:=hr.ptr xA;obtain⟨m,rfl⟩ : ∃m,len=m+1:=⟨len - 1,by omega⟩
  have hc:=Qp k;have xJ : ¬((m:Int)+1=0):=by omega
  have cm:=hr.at (k:=m) (by omega)
  have HL:Hid (Qr (clk k) (ss.drop m)=ss.getD m ByteArray.empty):=by
   have:=Qal (clk k) ss (by rw[hr.hl];omega)
   rw[hr.hl] at this;exact this
  have xH:Hid (∀d,d=Qr (clk k) ss->True):=fun _ _=>trivial
  have HM:Hid (∀j,j<m+1->(ss.getD j ByteArray.empty).size<=140737488351232):=fun j hj=>hsz _ (Qv (by rw[hr.hl];exact hj))
  have HD:Hid (∀j,(Qr (clk k) (ss.drop j)).size<=140737488351232):=fun j=>Q3 hc (by decide) _ (fun s hs=>hsz s (LV hs))
  have HN:Hid (∀j,j<m->Qr (clk k) (ss.drop j)=dg (clk k) (Uq (ss.getD j ByteArray.empty) (Qr (clk k) (ss.drop (j+1))))):=fun j hj=>Qak _ _ _ (by rw[hr.hl];omega)
  have HT:Hid (Tr w):=ht;have HR:Hid (RdS w (some ⟨b,off,none⟩) b off (m+1) ss):=hr;have HQ:Hid (Qr (clk k) (ss.drop 0)=r):=hq;obtain⟨d0,xC⟩:=Ze (ss.getD m ByteArray.empty);rw[xC] at cm;have xD:Hid (Qr (clk k) (ss.drop m)=d0):=by rw[<-xC];exact HL
  clear xC HL ht hr hq hsz xH h0 xA
  go_enter func53,ntmps53;go_wp2
  go_loopg [5,6] m (fun g x i wr => ∃(j:Nat) (d:BA),j=g∧x = .string d∧i = .int .i64 ((j:Int) - 1)∧j<=m∧Hid (Qr (clk k) (ss.drop j)=d)∧Zb w wr)
  case atStart=>go_light;exact⟨m,d0,rfl,rfl,by go_num,Ld _,xD,Lb _ _⟩
  case round =>
   obtain⟨j,d,hg,rfl,rfl,hj,HE,hb⟩:=hrel;subst hg
   cases j with
   | zero =>
    have hz : ¬((0:Int) <= -1):=by decide
    rw[show((0:Nat):Int) - 1 = -1 from rfl]
    have HF:Hid (d=r):=HE.out.symm.trans HQ.out;clear HE HN HQ HM HD HR HT cm;obtain rfl:=HF.out;go_wp2
    go_ret
    exact⟨rfl,hb⟩
   | succ j =>
    have e1:((j+1:Nat):Int) - 1=(j:Int):=by omega
    have hz:(0:Int)<=(j:Int):=by omega
    have xK:(j:Int)<(m:Int)+1:=by omega
    have xI:j<m:=by omega
    have cj:=(HR.out.next hb (Ld _)).at (k:=j) (by omega)
    have z1:=HM.out j (by omega)
    have z2:=HD.out (j+1);have hn:=HN.out j xI;rw[HE.out] at z2 hn;generalize ss.getD j ByteArray.empty=p at *;have HG:=fun W=>QaR W p d (by omega) (by omega) _ rfl
    obtain⟨t,ht⟩:=Ze (Uq p d);have zt:=JX p d;rw[ht] at zt;simp only[ht] at HG hn;obtain⟨d',xB⟩ : ∃d',dg (clk k) t=d':=⟨_,rfl⟩;have HO:Hr w 51 #[.int .i64 k,.string t] (.string d'):=fun W hb=>J9 W (HT.out.next hb) k t (by omega) d' xB
    have xG:Hid (Qr (clk k) (ss.drop j)=d'):=hn.trans xB;rw[e1];clear HE hn xB ht zt z1 z2 e1 cm xD
    go_wp2_with (first
     | (go_at_call 88;with_reducible refine(HG _).mono ?_;rintro e w1 ⟨rfl,xE⟩;replace hb:=Qa hb xE;clear xE)
     | (go_at_call 51;with_reducible refine(HO.out _ hb).mono ?_;rintro e w2 ⟨rfl,xF⟩;replace hb:=Qa hb xF;clear xF))
    go_roundg j
    case rel=>go_light;exact⟨j,d',rfl,rfl,by go_num,by omega,xG.out,hb⟩
    case measure=>go_light;omega
theorem QaT(w:World)(ht:Tr w)(k:Int)(n:Nat)(hn:n<18446744073709551616)(ao:OA)(b off len cap:Nat)(ss:LB)(hr:RdS w ao b off len ss)(hsz : ∀s∈ss,s.size<=140737488351232)(hmx:len<=8796093022208)(r:BA)(hq:dg (clk k) (QI n (Qr (clk k) ss))=r) :
  Zr 21 #[.int .i64 k,.int .u64 (n:Int),.slice ao len cap] w (.string r):=by
 have hz:(Qr (clk k) ss).size<=140737488351232:=Q3 (Qp k) (by decide) _ hsz
 obtain⟨d,hd⟩:=Ze (Qr (clk k) ss);have xD:=U0 w ht k ao b off len cap ss hr hsz hmx d hd;rw[hd] at hq hz;obtain⟨t,xB⟩:=Ze (QI n d);have xE:=fun W=>O5 W n hn d (by omega) t xB
 have zt:=Jq n d;rw[xB] at hq zt;have HO:Hr w 51 #[.int .i64 k,.string t] (.string r):=fun W hb=>J9 W (ht.next hb) k t (by omega) r hq
 have hb:=Lb w.heap.size w;clear hq ht hd xB zt hz hr hsz hmx
 go_enter func21,ntmps21
 go_wp2_with (first
  | (go_at_call 53;with_reducible refine xD.mono ?_;rintro e w1 ⟨rfl,xA⟩;replace hb:=Qa hb xA;clear xA)
  | (go_at_call 52;with_reducible refine(xE _).mono ?_;rintro e w1 ⟨rfl,xA⟩;replace hb:=Qa hb xA;clear xA)
  | (go_at_call 51;with_reducible refine(HO.out _ hb).mono ?_;rintro e w2 ⟨rfl,xC⟩;replace hb:=Qa hb xC;clear xC))
 go_ret
 exact⟨rfl,hb⟩
section
open Cv (RdC)
theorem QA{w W:World}{B T s n:Nat}{v:Value}{xs:List Value}(h:w.ownsRow B T s v n xs)(hb:Zb w W):W.ownsRow B T s v n xs :=
 Qi h fun g hg _=>hb.block g (LP h g hg).2
theorem Tryz.infoH:(prog.info? 85).map (fun i=>(i.zero,i.size,i.bytes))=some (some (.agg #[.int .i64 0,.int .u64 0,.string ByteArray.empty]),3,32):=by kernel_rfl
def cH:List He->List Value
 | []=>[]
 | e::r => .int .i64 (e.1.1:Int) :: .int .u64 (e.1.2:Int) :: .string e.2::cH r
theorem Qm2(l:List He):(cH l).length=l.length*3:=by
 induction l with
 | nil=>rfl
 | cons b r ih=>simp[cH,ih];omega
theorem QiR(l m:List He):cH (l++m)=cH l++cH m:=by
 induction l with
 | nil=>rfl
 | cons b r ih=>simp[cH,ih]
theorem QiS(l:List He) : ∀u∈cH l,u.oneCell'=true:=by
 induction l with
 | nil=>intro u hu;cases hu
 | cons b r ih =>
  intro u hu;simp[cH] at hu
  rcases hu with rfl|rfl|rfl|hu
  ·rfl
  ·rfl
  ·rfl
  ·exact ih u hu
theorem Qm1(l:List He)(j:Nat)(e:He)(hj:l[j]? = some e):(cH l)[j*3]? = some (.int .i64 (e.1.1:Int))∧(cH l)[j*3+1]? = some (.int .u64 (e.1.2:Int))∧(cH l)[j*3+2]? = some (.string e.2):=by
 induction l generalizing j with
 | nil=>simp at hj
 | cons b r ih =>
  cases j with
  | zero=>simp at hj;subst hj;exact⟨rfl,rfl,rfl⟩
  | succ j =>
   have:=ih j (by simpa using hj)
   rw[show(j+1)*3=j*3+1+1+1 by omega]
   simpa [cH] using this
abbrev Up(w:World)(B:Nat)(v:Value)(l:List He):Prop:=w.ownsRow B 85 3 v l.length (cH l)
abbrev dH:He:=((0,0),ByteArray.empty)
structure RdH(w:World)(ao:OA)(g n:Nat)(l:List He):Prop where
 len:l.length=n
 addr:0<n->ao=some ⟨g,0,none⟩
 cell : ∀j,j<n->w.cell? ⟨g,j*3,none⟩=some (.int .i64 ((l.getD j dH).1.1:Nat))∧w.cell? ⟨g,j*3+1,none⟩=some (.int .u64 ((l.getD j dH).1.2:Nat))∧w.cell? ⟨g,j*3+2,none⟩=some (.string (l.getD j dH).2)
theorem RdH.next{w W:World}{ao:OA}{g n:Nat}{l:List He}(r:RdH w ao g n l)(h:Zb w W):RdH W ao g n l :=
 ⟨r.len,r.addr,fun j hj=>by
  obtain⟨h1,h2,h3⟩:=r.cell j hj;exact⟨(h.cell (p:=⟨g,j*3,none⟩) (Lh w _ h1)).trans h1,(h.cell (p:=⟨g,j*3+1,none⟩) (Lh w _ h2)).trans h2,(h.cell (p:=⟨g,j*3+2,none⟩) (Lh w _ h3)).trans h3⟩⟩
theorem QdR{w:World}{B:Nat}{v:Value}{l:List He}(h:Up w B v l) : ∃ao g cap,v = .slice ao l.length cap∧RdH w ao g l.length l:=by
 have h0:=h;obtain⟨h1,h2⟩:=h
 rcases h2 with ⟨rfl,h2⟩|⟨g,cap,cur,rfl,hg,hh,hc1,hc2,hc3,hc4⟩
 ·exact⟨none,0,0,by rw[h2],rfl,fun h=>by omega,fun j hj=>by omega⟩
 ·refine⟨some ⟨g,0,none⟩,g,cap,rfl,rfl,fun _=>rfl,fun j hj => ?_⟩
  have he:l[j]? = some (l.getD j dH):=by rw[La,Lc hj];rfl
  obtain⟨g1,g2,g3⟩:=Qm1 l j _ he;have xA:=h0.cells (g:=g) rfl;have k1:=xA _ _ g1;have k2:=xA _ _ g2;have k3:=xA _ _ g3;rw[Addr.add_mid,Lr] at k1 k2 k3;exact⟨k1,k2,k3⟩
theorem QmR(w:World)(e:He):RdC (w.alloc (.cells #[.int .i64 (e.1.1:Int),.int .u64 (e.1.2:Int),.string e.2] 85)) (.slice (some ⟨w.heap.size,0,none⟩) 1 1) 1 (cH [e]):=by
 refine⟨some ⟨w.heap.size,0,none⟩,1,rfl,(fun h=>by cases h),fun ad ha j c hj => ?_⟩
 cases ha;rw[Addr.add_mid,Lr,cell_of_row _ _ _ _ _ (0,0) (Lu w _)]
 match j,hj with
 | 0,hj=>exact hj
 | 1,hj=>exact hj
 | 2,hj=>exact hj
theorem Jz(w:World){ops:Array Oper}{rest:List Oper}{o:Oper}{a:Act}{Q:Exit->Act->World->Prop}
  (hg:o.guard=none) (s x:Operand) (hop:o.op=Op.call { callee:=Callee.builtin Builtin.append,args:=#[s,x],argTypes:=#[81,81] })
  (B:Nat) (v:Value) (L:List He) (hs:a.eval s=v) (hown:Up w B v L) (u:Value) (M:List He) (hx:a.eval x=u) (hr:RdC w u M.length (cH M))
  (hlen:L.length+M.length<=1099511627776) (hB:B<=w.heap.size)
  (hK : ∀v' w',Up w' B v' (L++M)->w.grownBy w' v.ownBlock->wpList prog ops Q rest (a.put o.dst v') w'):wpList prog ops Q (o::rest) a w:=by
 obtain⟨i0,hi,xA,xB,xC⟩:=info_parts Tryz.infoH;refine Cv.QG w hg s x _ hop B 85 i0 (.agg #[.int .i64 0,.int .u64 0,.string ByteArray.empty]) 3 32 underlying81 hi xA xB xC rfl (by decide) v L.length (cH L) hs hown u M.length (cH M) hx hr (Qm2 M) (QiS M) (by unfold maxLen;omega) (by omega) hB ?_
 intro v' w' h;refine hK v' w' ?_ h.grown
 rw[Up,QiR,Lg];exact h.own
theorem QeM{p:He->Bool}(K:List He)(j:Nat)(h:j<K.length):(K.take (j+1)).filter p=(K.take j).filter p++(if p (K.getD j dH) then [K.getD j dH] else []):=by
 have e:K.take (j+1)=K.take j++[K.getD j dH]:=by rw[Nz,La,Lc h];rfl
 rw[e,N5]
 congr 1
 by_cases hp:p (K.getD j dH)=true
 ·rw[NE hp,Lm hp];rfl
 ·rw[Ng hp,Le hp];rfl
def UpC(k:Int)(h:Nat):Prop := ∀(kk:Nat),(kk+1)*2^h<=2^40 -> ∀(K:List He) (v:BA) (w:World) (ao:OA) (g cap:Nat),Tr w->RdH w ao g K.length K->K.length<=100000000->Fn K->Tl (clk k) K h kk v->(∀e∈K,e.1.1<=40∧e.1.2<2^40∧e.2.size<=32) ->
 Zr 89 #[.int .i64 k,.agg #[.int .i64 (h:Int),.int .u64 (kk:Int)],.slice ao K.length cap] w (.tuple #[.string v,.bool true])
theorem Qfm(k:Int)(h:Nat)(hh:h<=40)(HI : ∀g,h=g+1->UpC k g):UpC k h:=by
  intro kk hk K v w ao g cap hT hR hKl hF hTl hKb;have hb:=bal (Lb w.heap.size w) (.cells #[.int .i64 (h:Int),.int .u64 (kk:Int)] 83);have e0:=Lu w (.cells #[.int .i64 (h:Int),.int .u64 (kk:Int)] 83);obtain⟨W0,yB⟩:=Ze (w.alloc (.cells #[.int .i64 (h:Int),.int .u64 (kk:Int)] 83));rw[yB] at hb e0;have c0:W0.cell? ⟨w.heap.size,0,none⟩=some (.int .i64 (h:Int)):=by rw[cell_of_row _ _ 0 _ _ (0,0) e0];rfl
  have c1:W0.cell? ⟨w.heap.size,1,none⟩=some (.int .u64 (kk:Int)):=by rw[cell_of_row _ _ 1 _ _ (0,0) e0];rfl
  have HS:Hid (∀W,Zb W0 W->W.cell? ⟨w.heap.size,0,none⟩=some (.int .i64 (h:Int))∧W.cell? ⟨w.heap.size,1,none⟩=some (.int .u64 (kk:Int))∧RdH W ao g K.length K∧Tr W∧Zb w W):=fun W hW =>
    ⟨(hW.cell (p:=⟨w.heap.size,0,none⟩) (Lh W0 _ c0)).trans c0,(hW.cell (p:=⟨w.heap.size,1,none⟩) (Lh W0 _ c1)).trans c1,hR.next (Qa hb hW),hT.next (Qa hb hW),Qa hb hW⟩
  have yH:(K.length:Int)<=100000000:=by omega
  have HQ:Hid (K.length<=100000000∧Fn K∧Tl (clk k) K h kk v∧(∀e∈K,e.1.1<=40∧e.1.2<2^40∧e.2.size<=32)∧(kk+1)*2^h<=2^40∧h<=40):=⟨hKl,hF,hTl,hKb,hk,hh⟩;have HI:=Qe HI;have xW:kk<2^40:=by
    have:=Ny (kk+1) (LQ h);omega
  have zA:(kk:Int)<1099511627776:=by omega
  have yY:(h:Int)<=40:=by omega
  clear hT hR hKl hF hTl hKb hk hh hb e0 c0 c1 xW
  go_enter func89,ntmps89
  go_upto_region 1 with (fail)
  try rw[yB]
  clear yB;go_wp2
  go_loopg [8] K.length (fun gh jj wr => ∃j:Nat,j<=K.length∧gh=K.length - j∧jj = .int .i64 (j:Int)∧Hid (∀t,t<j->(K.getD t dH).1≠(h,kk))∧Hid (Zb W0 wr))
  case atStart=>go_light;exact⟨0,Ll _,rfl,rfl,fun t ht=>absurd ht (Nu _),Lb _ _⟩
  case round =>
    obtain⟨j,hj,rfl,rfl,HA,HB⟩:=hrel;obtain⟨c0,c1,hR,hT,xD⟩:=HS.out wr HB.out
    by_cases hlt:j<K.length
    · have hz:(j:Int)<(K.length:Int):=by omega
      have zE:(0:Int)<=(j:Int):=Lf _;obtain rfl:=hR.addr (by omega)
      obtain⟨m0,m1,m2⟩:=hR.cell j hlt;have xA:K.getD j dH∈K:=by rw[La,Lc hlt];exact LG _
      obtain⟨⟨⟨eh,ek⟩,ed⟩,xB⟩ : ∃e,K.getD j dH=e:=⟨_,rfl⟩;rw[xB] at m0 m1 m2 xA;simp only at m0 m1 m2;have yL:=Qe xD
      by_cases heq:eh=h∧ek=kk
      · obtain⟨rfl,rfl⟩:=heq;obtain rfl:ed=v:=HQ.out.2.2.1.some HQ.out.2.1 _ xA rfl;clear hR hT xD xA xB HA;go_wp2
        go_quiet (fail)
        go_wp2
        go_ret2
        exact⟨rfl,Qd yL.out _⟩
      · have HA':Hid (∀t,t<j+1->(K.getD t dH).1≠(h,kk)):=fun t ht=>by
          rcases NB (NL ht) with h1|rfl
          · exact HA.out t h1
          · rw[xB];intro e;exact heq ⟨LU Prod.fst e,LU Prod.snd e⟩
        by_cases x1:eh=h
        · have x2 : ¬ek=kk:=fun e=>heq ⟨x1,e⟩
          have x3 : ¬(ek:Int)=(kk:Int):=by omega
          subst x1;clear hR hT xD xA xB HA heq;go_wp2
          go_quiet (fail)
          go_wp2
          go_roundg (K.length - (j+1))
          case rel=>go_light;exact⟨j+1,by omega,rfl,by go_num,HA'.out,Qd HB.out _⟩
          case measure=>go_light;omega
        · have x3 : ¬(eh:Int)=(h:Int):=by omega
          clear hR hT xD xA xB HA heq
          by_cases x2:ek=kk
          · subst x2;go_wp2
            go_quiet (fail)
            go_wp2
            go_roundg (K.length - (j+1))
            case rel=>go_light;exact⟨j+1,by omega,rfl,by go_num,HA'.out,Qd HB.out _⟩
            case measure=>go_light;omega
          · have x4 : ¬(ek:Int)=(kk:Int):=by omega
            go_wp2
            go_quiet (fail)
            go_wp2
            go_roundg (K.length - (j+1))
            case rel=>go_light;exact⟨j+1,by omega,rfl,by go_num,HA'.out,Qd HB.out _⟩
            case measure=>go_light;omega
    · obtain rfl:j=K.length:=by omega
      have hz : ¬((K.length:Int)<(K.length:Int)):=by omega
      have xE : ∀e∈K,e.1≠(h,kk):=fun e he=>by
        obtain⟨t,ht,rfl⟩:=LS he;have:=HA.out t ht;rw[La,Lc ht] at this;exact this
      obtain⟨f,x,y,hf,hv,hx,hy⟩:=HQ.out.2.2.1.down xE;rw[<-hf] at hx hy;have zH : ¬(h:Int)=0:=by omega
      have zI:(h:Int) - 1=(f:Int):=by omega
      obtain⟨Bl,xJ⟩:=Ze (K.filter (JB h kk));rw[xJ] at hx hy;have xP:Bl.length<=K.length:=by rw[<-xJ];exact NM _ _
      have xO:0<Bl.length:=by obtain⟨e,he⟩:=hx.mem;exact List.length_pos_of_mem he
      have xN : ∀e∈Bl,e.1.1<=40∧e.1.2<2^40∧e.2.size<=32:=fun e he=>HQ.out.2.2.2.1 e (by rw[<-xJ] at he;exact(List.mem_filter.1 he).1)
      have xZ:Fn Bl:=by rw[<-xJ];exact HQ.out.2.1.filter _
      have xI:=HQ.out.2.2.2.2.1;have yC:2^h=2*2^f:=by rw[hf,LM];omega
      have yJ:(2*kk+1)*2^f<=2^40:=by
        refine Lz ?_ xI
        rw[yC,<-L9];exact LE _ (by omega)
      have yK:(2*kk+1+1)*2^f<=2^40:=by
        refine Lz ?_ xI
        rw[yC,<-L9];exact LE _ (by omega)
      have zC:=hx.size (Qp k) (fun e he=>(xN e he).2.2)
      have zD:=hy.size (Qp k) (fun e he=>(xN e he).2.2)
      have yF:Hid (∀W ao g cap,Tr W->RdH W ao g Bl.length Bl->Zr 89 #[.int .i64 k,.agg #[.int .i64 (f:Int),.int .u64 ((2*kk:Nat):Int)],.slice ao Bl.length cap] W (.tuple #[.string x,.bool true])):=fun W ao g cap hT hR=>HI.out f hf (2*kk) yJ Bl x W ao g cap hT hR (by have:=HQ.out.1;omega) xZ hx xN
      have yG:Hid (∀W ao g cap,Tr W->RdH W ao g Bl.length Bl->Zr 89 #[.int .i64 k,.agg #[.int .i64 (f:Int),.int .u64 ((2*kk+1:Nat):Int)],.slice ao Bl.length cap] W (.tuple #[.string y,.bool true])):=fun W ao g cap hT hR=>HI.out f hf (2*kk+1) yK Bl y W ao g cap hT hR (by have:=HQ.out.1;omega) xZ hy xN
      have yM:Hid (∀W,Tr W->Zr 101 #[.int .i64 k,.string x,.string y] W (.string v)):=fun W hT=>QaS W hT k x y (by omega) (by omega) v hv.symm
      have HX:Hid (K.filter (JB h kk)=Bl∧Bl.length<=K.length∧0<Bl.length):=⟨xJ,xP,xO⟩;have xK:=Qe HB.out;have HF:=Qe hf;clear xE hv hx hy xJ xP xO xN xZ xI yC yJ yK zC zD hR hT xD HA HI hf;obtain⟨w1,zB⟩ : ∃w1,w1=wr:=⟨_,rfl⟩;subst zB;clear hlt hj yY zA yH;go_wp2
      go_loopg [9,10] K.length (fun gh vv jj wr => ∃j:Nat,j<=K.length∧gh=K.length - j∧jj = .int .i64 (j:Int)∧Hid (Up wr w1.heap.size vv ((K.take j).filter (JB h kk)))∧Hid (Zb w1 wr))
      case atStart=>go_light;exact⟨0,Ll _,rfl,rfl,LT _ _ _ _,Lb _ _⟩
      case round =>
        obtain⟨j,hj,rfl,rfl,HO,HB⟩:=hrel;obtain⟨c0,c1,hR,hT,xD⟩:=HS.out wr (Qa xK.out HB.out)
        by_cases hlt:j<K.length
        · have hz:(j:Int)<(K.length:Int):=by omega
          have zE:(0:Int)<=(j:Int):=Lf _;obtain rfl:=hR.addr (by omega)
          obtain⟨m0,m1,m2⟩:=hR.cell j hlt;have xC:=QeM (p:=JB h kk) K j hlt;have xS:((K.take j).filter (JB h kk)).length<=100000000:=by
            have:=NM (JB h kk) (K.take j);rw[Lq] at this;have:=HQ.out.1;omega
          have xA:K.getD j dH∈K:=by rw[La,Lc hlt];exact LG _
          have xR:=HQ.out.2.2.2.1 _ xA;obtain⟨⟨⟨eh,ek⟩,ed⟩,xB⟩ : ∃e,K.getD j dH=e:=⟨_,rfl⟩;rw[xB] at m0 m1 m2 xC xR;simp only at m0 m1 m2 xR;obtain⟨P,hP⟩:=Ze ((K.take j).filter (JB h kk));rw[hP] at xC xS;have xM:=HO;rw[hP] at xM;have zG:(eh:Int)<=40:=by omega
          have xG:=HQ.out.2.2.2.2.2;have yH:(K.length:Int)<=100000000:=by have:=HQ.out.1;omega
          by_cases hel:eh<h
          · have yV:decide ((eh:Int)<(h:Int))=true:=Ln (by omega)
            have yW:decide (eh<h)=true:=Ln hel
            obtain⟨sh,yD⟩:=Ze (h - eh);have zJ:(h:Int) - (eh:Int)=(sh:Int):=by omega
            have zK:IntKind.u64.wrap (sh:Int)=(sh:Int):=by rw[IntKind.wrap_u64];omega
            have zL:(sh:Int)<64:=by omega
            have zM:(0:Int)<=(sh:Int):=Lf _;obtain⟨qq,xX⟩:=Ze (ek / 2^sh);have zN:(ek:Int) / (2:Int)^sh=(qq:Int):=by rw[<-xX];simp
            have xH:JB h kk ((eh,ek),ed)=decide (qq=kk):=by
              rw[JB];simp only[yD,xX,decide_eq_true hel,Bool.true_and]
            by_cases hqk:qq=kk
            · have g1:((qq:Int) == (kk:Int))=true:=by rw[hqk];simp
              have g2:decide ((qq:Int)=(kk:Int))=true:=Ln (by rw[hqk])
              have xL:Hid ((K.take (j+1)).filter (JB h kk)=P++[((eh,ek),ed)]):=by rw[xH,Ln hqk] at xC;exact xC
              have HJ:=Qe hlt;have yN:=Qe xS;have HE:=Qe xB;subst hqk;clear hR hT xD xC xS xA xR xB hP HO hel yD xX xH xG hlt hj
              go_upto_region 12 with (fail)
              go_quiet (fail)
              go_upto_region 13 with (fail)
              have hq:Zb wr (wr.drewN nq):=Qd (Lb _ _) _;obtain⟨_,_,yI,_,_⟩:=HS.out _ (Qa (Qa xK.out HB.out) hq);obtain⟨n0,n1,n2⟩:=yI.cell j HJ.out;rw[HE.out] at n0 n1 n2;simp only at n0 n1 n2;have xY:=Qe (QA xM.out hq);have xF:=Qe (Qa HB.out hq);clear hq yI m0 m1 m2 c0 c1 xM;generalize wr.drewN nq=wq at *
              go_upto_region 11 with (at_builtin;refine Jz _ rfl _ _ rfl w1.heap.size _ P rfl (NP xY.out _) _ [((eh,ek),ed)] rfl (QmR _ ((eh,ek),ed)) ?c1 ?c2 ?_)
              case c1=>have:=yN.out;simp;omega
              case c2=>have:=xF.out.size;simp;omega
              intro v' w3 o3 g3;have xQ:Zb w1 w3:=(bal xF.out _).trans ((Lb _ _).grown g3 (by have:=xF.out.size;rw[LA];omega) (fun t ht=>(LP xY.out t ht).1))
              have yE:=Qe (Lo o3 xQ);clear o3 g3 xQ xY;go_wp2
              go_roundg (K.length - (j+1))
              case rel=>go_light;exact⟨j+1,HJ.out,rfl,by go_num,by rw[xL.out];exact yE.out.1,yE.out.2⟩
              case measure=>go_light;have:=HJ.out;omega
            · have xL:Hid ((K.take (j+1)).filter (JB h kk)=P):=by rw[xH,Lj hqk] at xC;rw[xC];exact Na _
              have g1:((qq:Int) == (kk:Int))=false:=by simp;omega
              have g2:decide ((qq:Int)=(kk:Int))=false:=Lj (by omega)
              have g3:decide (qq=kk)=false:=Lj hqk
              have HJ:=Qe hlt;clear hR hT xD xC xS xA xR xB hP HO hel yD xX xH xG hlt hj
              go_upto_region 12 with (fail)
              go_quiet (fail)
              go_wp2
              go_roundg (K.length - (j+1))
              case rel=>go_light;exact⟨j+1,HJ.out,rfl,by go_num,by rw[xL.out];exact QA xM.out (Qd (Lb _ _) _),Qd HB.out _⟩
              case measure=>go_light;have:=HJ.out;omega
          · have yV:decide ((eh:Int)<(h:Int))=false:=Lj (by omega)
            have yW:decide (eh<h)=false:=Lj hel
            have xH:JB h kk ((eh,ek),ed)=false:=by rw[JB];simp only[decide_eq_false hel,Bool.false_and]
            have xL:Hid ((K.take (j+1)).filter (JB h kk)=P):=by rw[xH] at xC;rw[xC];exact Na _
            have HJ:=Qe hlt;clear hR hT xD xC xS xA xR xB hP HO hel xH xG hlt hj
            go_upto_region 12 with (fail)
            go_quiet (fail)
            go_wp2
            go_roundg (K.length - (j+1))
            case rel=>go_light;exact⟨j+1,HJ.out,rfl,by go_num,by rw[xL.out];exact QA xM.out (Qd (Lb _ _) _),Qd HB.out _⟩
            case measure=>go_light;have:=HJ.out;omega
        · obtain rfl:j=K.length:=by omega
          have hz : ¬((K.length:Int)<(K.length:Int)):=by omega
          have hO:=HO.out;rw[LD (Ld _),HX.out.1] at hO;obtain⟨ba,bg,bc,rfl,yA⟩:=QdR hO;have zF : ¬(Bl.length:Int)=0:=by have:=HX.out.2.2;omega
          have yT:((Bl.length:Int) == 0)=false:=by simp;have:=HX.out.2.2;intro e;rw[e] at this;exact absurd this (NG _)
          have xW:=HQ.out.2.2.2.2.1;have yZ:kk+1<=2^40:=Lz (Ny (kk+1) (LQ h)) xW;have yX:(f:Int)<=40:=by have:=HQ.out.2.2.2.2.2;have:=HF.out;omega
          obtain⟨k2,xT⟩:=Ze (2*kk);obtain⟨k3,xU⟩:=Ze (2*kk+1);have e1:IntKind.u64.wrap (2*(kk:Int))=(k2:Int):=by rw[IntKind.wrap_u64];omega
          have e2:IntKind.u64.wrap ((k2:Int)+1)=(k3:Int):=by rw[IntKind.wrap_u64];omega
          rw[xT] at yF;rw[xU] at yG;have yP:=yF.out wr ba bg bc hT yA;have yO:=Qe yA;have xF:=Qe HB.out;clear hO yA xW yZ xT xU hR hT xD HO hlt hj
          go_wp2_with (first
            | (go_at_call 89;with_reducible refine yP.mono ?_;rintro e w2 ⟨rfl,xV⟩
               obtain⟨d0,d1,_,yR,_⟩:=HS.out w2 (Qa xK.out (Qa xF.out xV));have yQ:=yG.out w2 ba bg bc yR (yO.out.next xV))
            | (go_at_call 89;with_reducible refine yQ.mono ?_;rintro e w3 ⟨rfl,xQ⟩
               obtain⟨_,_,_,yS,_⟩:=HS.out w3 (Qa xK.out (Qa (Qa xF.out xV) xQ)))
            | (go_at_call 101;with_reducible refine(yM.out _ yS).mono ?_;rintro e w4 ⟨rfl,yU⟩))
          go_ret2
          exact⟨rfl,(HS.out w4 (Qa xK.out (Qa (Qa (Qa xF.out xV) xQ) yU))).2.2.2.2⟩
theorem Qbm(k:Int) : ∀h,h<=40->UpC k h
 | 0,_=>Qfm k 0 (Ll _) (fun g e=>by cases e)
 | h+1,hh=>Qfm k (h+1) hh (fun g e=>by cases e;exact Qbm k h (by omega))
end
section
open Cv (RdC zl cU)
theorem QcB{α:Type}(d:α)(l:List α)(j:Nat)(h:j<l.length):l.take (j+1)=l.take j++[l.getD j d]:=by
 rw[Nz,La,Lc h];rfl
theorem Qg9(w:World)(hT:Tr w)(k:Int)(n:Nat)(h40:n<=2^40)(ao:OA)(g cap:Nat)(K:List He)(hR:RdH w ao g K.length K)(hKl:K.length<=100000000)(hF:Fn K)(hKb : ∀e∈K,e.1.1<=40∧e.1.2<2^40∧e.2.size<=32)(P:LB)(M:List (Nat×Nat))(hM:Cv.dnL 41 0 n=M)(hP:P.length=M.length)(hTl : ∀j,j<M.length->Tl (clk k) K (M.getD j (0,0)).1 (M.getD j (0,0)).2 (P.getD j ByteArray.empty)) :
  Ro 44 #[.int .i64 k,.int .u64 (n:Int),.slice ao K.length cap] w P:=by
 have xA : ∀b∈M,(b.2+1)*2^b.1<=n:=by rw[<-hM];exact U4 n h40
 have xG:M.length<=41:=by rw[<-hM];exact Cv.YS 41 0 n
 have HM:Hid (∀W,Calls prog 40 #[.int .u64 (n:Int)] W fun e w' => ∃ao g cap,e = .returned (.tuple #[.slice ao M.length cap,.int .i64 0])∧RdB w' ao g 0 M.length (zl M)∧Zb W w'):=fun W=>by
  have h:=Cv.UJ n W;rw[(YM n h40).1,(YM n h40).2,hM] at h;refine h.mono fun e w' ⟨v,e1,e2,e3⟩ => ?_
  obtain⟨ao,g,n',cap,rfl,xK,_⟩:=Y4 e2 (fun b hb=>by
   obtain⟨b0,xM,rfl⟩:=List.mem_map.1 hb;exact(UF (xA b0 xM) h40).1)
  have hl:=xK.len;rw[Cv.QC] at hl;subst hl;exact⟨ao,g,cap,e1,xK,e3⟩
 have xH : ∀s∈P,s.size<=32:=fun s hs=>by
  obtain⟨j,hj,rfl⟩:=LS hs;have:=(hTl j (by omega)).size (Qp k) (fun e he=>(hKb e he).2.2)
  rwa [La,Lc hj] at this
 have HU:Hid (∀W,Zb w W -> ∀j,j<M.length->Zr 89 #[.int .i64 k,.agg #[.int .i64 ((M.getD j (0,0)).1:Nat),.int .u64 ((M.getD j (0,0)).2:Nat)],.slice ao K.length cap] W (.tuple #[.string (P.getD j ByteArray.empty),.bool true])):=fun W hb j hj=>by
  have hm:M.getD j (0,0)∈M:=by rw[La,Lc hj];exact LG _
  have h1:=xA _ hm;exact Qbm k _ (UF h1 h40).2.1 _ (Lz h1 h40) K _ W ao g cap (hT.next hb) (hR.next hb) hKl hF (hTl j hj) hKb
 have HQ:Hid (P.length=M.length∧M.length<=41∧(∀s∈P,s.size<=32)):=⟨hP,xG,xH⟩;have xN:(M.length:Int)<=41:=by omega
 clear hT hR hKl hF hKb hM hP hTl xA xG xH h40
 go_enter func44,ntmps44
 go_upto_region 2 with (go_at_call 40;with_reducible refine(HM.out _).mono ?_;rintro e w1 ⟨ma,mg,mc,rfl,xI,xJ⟩)
 have HR:=Qe (Lo xI xJ);clear xI xJ HM;go_wp2
 go_loopg [9,10] M.length (fun gh v jj wr => ∃j:Nat,j<=M.length∧gh=M.length - j∧jj = .int .i64 (j:Int)∧Hid (Qk wr w1.heap.size v (P.take j))∧Hid (Zb w1 wr))
 case atStart=>go_light;exact⟨0,Ll _,rfl,rfl,Um _ _,Lb _ _⟩
 case round =>
  obtain⟨j,hj,rfl,rfl,HO,HB⟩:=hrel
  by_cases hlt:j<M.length
  ·have hz:(j:Int)<(M.length:Int):=by omega
   have xO:(0:Int)<=(j:Int):=Lf _;have xD:=HR.out.1.below HB.out;obtain rfl:=xD.addr (by omega)
   obtain⟨c0,c1⟩:=xD.cell j hlt;have xB:=HU.out wr (Qa HR.out.2 HB.out) j hlt;have xE:=QcB ByteArray.empty P j (by rw[HQ.out.1];exact hlt)
   have xL:=HQ.out.2.2 _ (Qv (show j<P.length by rw[HQ.out.1];exact hlt))
   obtain⟨y,hy⟩:=Ze (P.getD j ByteArray.empty);obtain⟨⟨mh,mk⟩,hx⟩ : ∃x,M.getD j (0,0)=x:=⟨_,rfl⟩;rw[Cv.Uz,hx] at c0 c1;rw[Lr] at c0 c1;rw[hx,hy] at xB;rw[hy] at xE xL;simp only at xB;have HG:Hid (P.take (j+1)=P.take j++[y]∧y.size<=9223372036854775807∧(P.take j).length<=41∧j<M.length):=⟨xE,by omega,by rw[Lq];have:=HQ.out.1;have:=HQ.out.2.1;omega,hlt⟩
   clear xD xE xL hy hx hlt hj
   go_wp2_with (first
    | (go_at_call 89;with_reducible refine xB.mono ?_;rintro e w2 ⟨rfl,xC⟩)
    | (at_builtin;refine QE _ rfl _ _ rfl w1.heap.size _ (P.take j) rfl (Y0 (Qm HO.out xC (Ld _)) _) (some ⟨w2.heap.size,0,none⟩) w2.heap.size 0 1 [y] rfl (YO w2 y HG.out.2.1) (fun h=>by cases h) ?c1 ?c2 ?_))
   case c1=>have:=HG.out.2.2.1;simp;omega
   case c2=>have:=(Qa HB.out xC).size;simp;omega
   intro v' w3 o1 o2;have xF:=Qe (Lo o1 ((bal (Qa HB.out xC) (.cells #[.string y] 9)).trans o2));clear o1 o2 xB;go_wp2
   go_roundg (M.length - (j+1))
   case rel=>go_light;exact⟨j+1,HG.out.2.2.2,rfl,by go_num,by rw[HG.out.1];exact xF.out.1,xF.out.2⟩
   case measure=>go_light;have:=HG.out.2.2.2;omega
  ·obtain rfl:j=M.length:=by omega
   have hz : ¬((M.length:Int)<(M.length:Int)):=by omega
   have hO:=HO.out;rw[LD (by rw[HQ.out.1];exact Ld _)] at hO
   obtain⟨pa,pn,pc,rfl⟩:=Cv.Qj hO;have HF:=Qe (Lo (World.ownsRow.mono hO HR.out.2.size) (Qa HR.out.2 HB.out));clear hO hlt hj HU;go_wp2
   go_ret
   exact⟨_,rfl,HF.out.1,HF.out.2⟩
theorem Ql7(w:World)(hT:Tr w)(k:Int)(n:Nat)(h40:n<=2^40)(ao:OA)(g cap:Nat)(K:List He)(hR:RdH w ao g K.length K)(hKl:K.length<=100000000)(hF:Fn K)(hKb : ∀e∈K,e.1.1<=40∧e.1.2<2^40∧e.2.size<=32)(P:LB)(M:List (Nat×Nat))(hM:Cv.dnL 41 0 n=M)(hP:P.length=M.length)(hTl : ∀j,j<M.length->Tl (clk k) K (M.getD j (0,0)).1 (M.getD j (0,0)).2 (P.getD j ByteArray.empty)) :
  Calls prog 44 #[.int .i64 k,.int .u64 (n:Int),.slice ao K.length cap] w fun e w' => ∃pa pb pc,e = .returned (.slice pa P.length pc)∧RdS w' pa pb 0 P.length P∧Zb w w':=by
 refine(Qg9 w hT k n h40 ao g cap K hR hKl hF hKb P M hM hP hTl).mono fun e w' ⟨v,e1,e2,e3⟩ => ?_
 obtain⟨pa,pb,pc,rfl,h1,_⟩:=Qt e2 (fun s hs=>by
  obtain⟨j,hj,rfl⟩:=LS hs;have:=(hTl j (by omega)).size (Qp k) (fun e he=>(hKb e he).2.2)
  rw[La,Lc hj] at this;exact Lz this (by decide))
 exact⟨pa,pb,pc,e1,h1,e3⟩
theorem Qig(w:World)(k:Int)(da:OA)(db dO dc:Nat)(D:LB)(hr:RdS w da db dO D.length D)(hm:D.length<=8796093022208)(n:Nat)(r:Bool)(hq:decide (fil k n D)=r) :
  Zr 175 #[.int .i64 k,.slice da D.length dc,.int .i64 (n:Int)] w (.bool r):=by
 have HR:=Qe hr;have HQ:=Qe hq;have xA:(D.length:Int)<=8796093022208:=by omega
 clear hr hm hq
 go_enter func175,ntmps175;go_wp2
 go_loopg [7] D.length (fun g i wr => ∃j:Nat,j<=D.length∧g=D.length - j∧i = .int .i64 (j:Int)∧Hid (∀t,t<j->((D.getD t ByteArray.empty).size:Int)=k)∧w=wr)
 case atStart=>go_light;exact⟨0,Ll _,rfl,rfl,fun t ht=>absurd ht (Nu _),rfl⟩
 case round =>
  obtain⟨j,hj,rfl,rfl,HA,rfl⟩:=hrel
  by_cases hlt:j<D.length
  ·have hz:(j:Int)<(D.length:Int):=by omega
   have xE:(0:Int)<=(j:Int):=Lf _;obtain rfl:=HR.out.ptr (by omega)
   have cj:=HR.out.at hlt;obtain⟨x,hx⟩:=Ze (D.getD j ByteArray.empty);rw[hx] at cj
   by_cases hxs:(x.size:Int)=k
   ·have HN:Hid (∀t,t<j+1->((D.getD t ByteArray.empty).size:Int)=k):=fun t ht=>by
     rcases NB (NL ht) with h|rfl
     ·exact HA.out t h
     ·rw[hx];exact hxs
    have xD:((x.size:Int) == k)=true:=by rw[hxs];simp
    clear hx HA;go_wp2
    go_roundg (D.length - (j+1))
    case rel=>go_light;exact⟨j+1,by omega,rfl,by go_num,HN.out,rfl⟩
    case measure=>go_light;omega
   ·obtain rfl:false=r:=by
     rw[<-HQ.out];refine(Lj fun h=>hxs ?_).symm
     rw[<-hx];exact h.2 _ (Qv hlt)
    clear hx HA;go_wp2
    go_ret
    exact⟨rfl,Lb _ _⟩
  ·obtain rfl:j=D.length:=by omega
   have hz : ¬((D.length:Int)<(D.length:Int)):=by omega
   have hE:decide (D.length=n)=r:=by
    rw[<-HQ.out];have:fil k n D↔D.length=n:=⟨fun h=>h.1,fun h=>⟨h,fun d hd=>by
     obtain⟨t,ht,rfl⟩:=LS hd;have:=HA.out t ht
     rwa [La,Lc ht] at this⟩⟩
    simp only[this]
   clear HA hlt hj
   by_cases hDn:D.length=n
   ·obtain rfl:true=r:=by rw[<-hE];exact(Ln hDn).symm
    subst hDn;clear hE;go_wp2
    go_ret
    exact⟨rfl,Lb _ _⟩
   ·obtain rfl:false=r:=by rw[<-hE];exact(Lj hDn).symm
    have xC : ¬(D.length:Int)=(n:Int):=by omega
    have xB:((D.length:Int) == (n:Int))=false:=by simp;omega
    clear hE;go_wp2
    go_ret
    exact⟨rfl,Lb _ _⟩
theorem Qif(n:Nat)(w:World)(ao:OA)(b off m cap:Nat)(l:List Nat)(r:Cv.Rd w ao b off m l)(hm:m<=1048576)(he:Cv.QR n l=0)(q:Nat)(hq:(Cv.rst 0 n l).length=q) :
  Calls prog 174 #[.int .u64 (n:Int),.slice ao m cap] w fun x w'=>x = .returned (.tuple #[.int .u64 (q:Int),.int .i64 0])∧Zb w w':=by
 obtain⟨xA,_,_,hc⟩:=Cv.QJ he;have hl:=Cv.O7 n xA l 0 hc;have xC:=r.len;have eq:IntKind.u64.wrap (q:Int)=(q:Int):=by rw[IntKind.wrap_u64];omega
 have HR:Calls prog 150 #[.int .u64 (n:Int),.slice ao m cap] w fun e w' => ∃a c,e = .returned (.tuple #[.slice a q c,.int .i64 0])∧Zb w w':=(Cv.Qfj n w ao b off m cap l r hm he).mono fun e w' ⟨v,e1,e2,e3⟩=>by
  have hf:(zl (Cv.rst 0 n l)).length=q:=by rw[Cv.QC];exact hq
  rcases e2.2 with ⟨hv,h0⟩|⟨g,cp,cur,hv,_⟩
  ·exact⟨none,0,by rw[e1,hv,show q=0 by omega],e3⟩
  ·exact⟨_,cp,by rw[e1,hv,hf],e3⟩
 clear r hm he hq xA hc hl xC
 go_enter func174,ntmps174
 go_wp2_with (go_at_call 150;with_reducible refine HR.mono ?_;rintro e w1 ⟨a1,c1,rfl,xB⟩)
 go_ret2
 exact⟨rfl,xB⟩
end
end Go.Proofs.YtdocjikpcbmcgaaGreatDoor
