/- Own work. -/
import Derived.Test.YtdocjikpcbmcgaaGreatDoorQn28
set_option maxRecDepth 100000
set_option maxHeartbeats 2000000
namespace Go.Proofs.YtdocjikpcbmcgaaGreatDoor
open Go.RowKit
attribute [local go_sem ↓] Go.wp_at_zero Go.wp_at_succ
open Go.Proofs.Tryz
structure Acc(k:Int)(o1:Nat)(c1:BA)(l:List (Nat×BA))(s:BA)(P:PV):Prop where
 k1:1<=k
 k2:k<=32
 hd:dec s.data.toList=some P
 hk:P.k=k
 old:P.old=0
 size:P.size=o1
 hS:P.S=ixs l
 n40:o1<=2^40
 hv : ∀x∈vls l,x.size<=1048576
 how:(P.kd=1 ∧ ∃i A H B,P.S=[i]∧Wy o1 i A H B∧i<o1∧fil k (H+A.length+B.length) P.D∧rtP (clk k) o1 i A.length H P.D ((vls l).getD 0 ByteArray.empty)=c1) ∨
  (P.kd=2∧okB 2 k 0 o1 P.S P.D∧dg (clk k) (QI o1 (Qr (clk k) (pB (clk k) (Cv.dnL 41 0 o1) P.S (vls l) P.D)))=c1)
theorem QcQ{n:Nat}{d:BA}{er:Int}{o1:Nat}{c1:BA}(h:clmD n d er o1 c1=0):er=0∧n=o1∧d=c1:=by
 unfold clmD at h
 split at h
 ·assumption
 ·cases h
theorem Qj3(kd k:Int)(old size:Nat)(S:List Nat)(D:LB)(hD:D.length<=9223372036854775807)(x:BA) : ∃(n:Nat) (r:BA) (er:Int),
  (∀W sa sb so sc da db dO dc,Tb W->RdU W sa sb so S.length S->RdS W da db dO D.length D->D.length<=dc->dc<=9223372036854775807->(da=none->dc=0)->Zr 63 #[.agg #[.int .i64 kd,.int .i64 k,.int .u64 (old:Int),.int .u64 (size:Int),.slice sa S.length sc,.slice da D.length dc],.string x] W (.tuple #[.agg #[.int .u64 (n:Int),.string r],.int .i64 er])) ∧
  (er=0->n=size∧old=0∧size<=2^40∧x.size<=1048576 ∧ ∃i A H B,S=[i]∧Wy size i A H B∧i<size∧fil k (H+A.length+B.length) D∧rtP (clk k) size i A.length H D x=r):=by
 by_cases hp:kd=1∧(1<=k∧k<=32)∧size<=2^40∧old=0∧S.length=1∧S.getD 0 0<size
 ·obtain⟨rfl,hk,hn,rfl,hS,hi⟩:=hp;obtain⟨i,xA⟩:=Ze (S.getD 0 0);rw[xA] at hi;obtain⟨A,H,B,wy⟩:=Qhn size i hn hi;have xB:S=[i]:=by
   match S,hS,xA with
   | [a],_,h=>rw[show a=i from h]
  have ra : ∀ {W sa sb so},RdU W sa sb so S.length S->sa=some ⟨sb,so,none⟩∧RA W k size sb so i H A B:=fun {W sa sb so} u=>by
   refine⟨u.ptr (by omega),hk,hn,hi,wy,?_⟩
   have:=u.at (j:=0) (by omega)
   rw[xA] at this;exact this
  by_cases hf:fil k (H+A.length+B.length) D
  ·by_cases hx:1048576<x.size
   ·refine⟨0,⟨#[]⟩,100,fun W sa sb so sc da db dO dc tb u d h1 h2 h3 => ?_,fun h=>absurd h (by decide)⟩
    obtain⟨rfl,a⟩:=ra u;rw[hS];exact Qci W k size sb so sc i H A B a da db dO dc D d hD x hf hx
   ·obtain⟨r,hr⟩:=Ze (rtP (clk k) size i A.length H D x);refine⟨size,r,0,fun W sa sb so sc da db dO dc tb u d h1 h2 h3 => ?_,fun _=>⟨rfl,rfl,hn,by omega,i,A,H,B,xB,wy,hi,hf,hr⟩⟩
    obtain⟨rfl,a⟩:=ra u;rw[hS];exact Qax W k size sb so sc i H A B a da db dO dc D d hD x hf (by omega) tb h1 h2 h3 r hr
  ·refine⟨0,⟨#[]⟩,150,fun W sa sb so sc da db dO dc tb u d h1 h2 h3 => ?_,fun h=>absurd h (by decide)⟩
   obtain⟨rfl,a⟩:=ra u;rw[hS];exact Qcg W k size sb so sc i H A B a da db dO dc D d hD x hf
 ·have hc : ∀ {W sa sb so},RdU W sa sb so S.length S->S.length=1 -> ∃b o,sa=some ⟨b,o,none⟩∧W.cell? ⟨b,o,none⟩=some (.int .u64 ((S.getD 0 0:Nat):Int)):=fun {W sa sb so} u h=>⟨sb,so,u.ptr (by omega),u.at (j:=0) (by omega)⟩
  exact⟨0,⟨#[]⟩,150,fun W sa sb so sc da db dO dc tb u d h1 h2 h3=>Qch W kd k old size sa S.length sc da D.length dc (S.getD 0 0) (hc u) hp x,fun h=>absurd h (by decide)⟩
theorem Qhv(kd k:Int)(old size:Nat)(S:List Nat)(hS:S.length<=8796093022208)(D X:LB)(hD:D.length<=8796093022208) : ∃(n:Nat) (rr:BA) (er:Int),
  (∀W sa sb so sc da db dO dc xa xb xo xc,Tb W->RdU W sa sb so S.length S->S.length<=sc->(sa=none->sc=0)->RdS W da db dO D.length D->D.length<=dc->(da=none->dc=0)->RdS W xa xb xo X.length X->X.length<=xc->(xa=none->xc=0)->Zr 64 #[vP kd k old size (.slice sa S.length sc) (.slice da D.length dc),.slice xa X.length xc] W (.tuple #[.agg #[.int .u64 (n:Int),.string rr],.int .i64 er])) ∧
  (er=0->n=size∧old=0∧(∀s∈X,s.size<=1048576)∧okB 2 k 0 size S D∧dg (clk k) (QI size (Qr (clk k) (pB (clk k) (Cv.dnL 41 0 size) S X D)))=rr):=by
 by_cases h1:okB kd k old size S D∧X.length=S.length
 ·obtain⟨xB,xA⟩:=h1;obtain rfl:kd=2:=xB.1.1;obtain rfl:old=0:=xB.1.2.2
  by_cases h2 : ∀s∈X,s.size<=1048576
  ·refine⟨size,dg (clk k) (QI size (Qr (clk k) (pB (clk k) (Cv.dnL 41 0 size) S X D))),0,fun W sa sb so sc da db dO dc xa xb xo xc hT hU u1 u2 hR r1 r2 hx x1 x2 => ?_,fun _=>⟨rfl,rfl,h2,xB,rfl⟩⟩
   have:=broot_ok W hT k size sa sb so sc S X (by rw[xA];exact hU) (by omega) (by omega) u2 da db dO dc D hR hD r1 r2 xa xb xo xc hx x1 x2 xB h2 _ rfl
   rw[xA] at this;rw[xA];exact this
  ·refine⟨0,⟨#[]⟩,100,fun W sa sb so sc da db dO dc xa xb xo xc hT hU u1 u2 hR r1 r2 hx x1 x2 => ?_,fun h=>absurd h (by decide)⟩
   have:=Qby W k size sa sb so sc S X (by rw[xA];exact hU) (by omega) da db dO dc D hR hD xa xb xo xc hx xB h2
   rw[xA] at this;rw[xA];exact this
 ·exact⟨0,⟨#[]⟩,150,fun W sa sb so sc da db dO dc xa xb xo xc hT hU u1 u2 hR r1 r2 hx x1 x2=>QeC W kd k old size sa sb so S.length sc S hU (by omega) da db dO D.length dc D hR hD xa X.length xc h1,fun h=>absurd h (by decide)⟩
theorem QlK : ∀ {l:List (Nat×BA)},l.length=1->(l.getD 0 noC).2.size<=1048576 -> ∀x∈vls l,x.size<=1048576
 | [c],_,n4,x,hx=>by
  simp only[List.map_cons,List.map_nil,List.mem_singleton] at hx;subst hx;exact n4
theorem Ol(k:Int)(o1:Nat)(c1:BA)(l:List (Nat×BA))(hl:l.length<=8796093021952)(hv : ∀x∈vls l,x.size<=9223372036854775807)(s:BA)(hs2:s.size<=281474976710656) : ∃r:Int,
  (∀W ca cb co cc,Tb W->RdK W ca cb co l.length l->Zr 11 #[.int .i64 k,.agg #[.int .u64 (o1:Int),.string c1],.slice ca l.length cc,.string s] W (.int .i64 r)) ∧
  (r=0 -> ∃P,Acc k o1 c1 l s P):=by
 by_cases h0:tkE k s=0
 ·obtain⟨⟨k1,k2⟩,P,hd,hk⟩:=Qft h0;have xB:=QK (J3 hd).1.1;have hD:P.D.length<=8796093022208:=by have:=xB.hc;omega
  by_cases hS:P.S=ixs l
  ·have xH:P.S.length=l.length:=by rw[hS,Lx]
   have xI:(vls l).length=l.length:=Lx ..
   by_cases h1:P.kd=1
   ·have xJ:0<l.length:=by have:=(xB.one h1).1;omega
    have xG:l.length=1:=by have:=(xB.one h1).1;omega
    obtain⟨n,d,er,g1,g2⟩:=Qj3 1 k P.old P.size P.S P.D (by omega) (l.getD 0 noC).2
    refine⟨clmD n d er o1 c1,fun W ca cb co cc hT hc => ?_,fun h => ?_⟩
    ·refine UD W k k1 k2 o1 c1 ca cb co l.length cc l hc (by omega) s hs2 P hd hk ⟨.inl h1,hS⟩ n d er (fun V sa sb sc da db dc ao m c hb hF ho => ?_) _ rfl
     obtain⟨xF,xb,c',xC,hx,xD,xE⟩:=Qt ho hv;injection xC with e1 e2 e3
     subst e1 e2 e3;rw[h1];refine Ot V k P.old P.size sa P.S.length sc da P.D.length dc ao xb 0 (vls l).length c (vls l) hx (by omega) n d er fun Z hbZ => ?_
     have xA:=hF.next hbZ;rw[QaH];exact g1 Z sa sb 0 sc da db 0 dc (hT.next (Qa hb hbZ)) xA.p.rs xA.p.rd xA.p.cD xA.mC xA.nD
    ·obtain⟨e0,e1,e2⟩:=QcQ h;obtain⟨n1,n2,n3,n4,i,A,H,B,n5,n6,n7,n8,n9⟩:=g2 e0;have hn:P.size=o1:=by rw[<-n1,e1]
     rw[hn] at n3 n6 n7 n9;refine⟨P,k1,k2,hd,hk,n2,hn,hS,n3,QlK xG n4,.inl ⟨h1,i,A,H,B,n5,n6,n7,n8,?_⟩⟩
     rw[QaH,n9,e2]
   ·by_cases h2:P.kd=2
    ·obtain⟨n,d,er,g1,g2⟩:=Qhv 2 k P.old P.size P.S (by omega) P.D (vls l) hD
     refine⟨clmD n d er o1 c1,fun W ca cb co cc hT hc => ?_,fun h => ?_⟩
     ·refine UD W k k1 k2 o1 c1 ca cb co l.length cc l hc (by omega) s hs2 P hd hk ⟨.inr h2,hS⟩ n d er (fun V sa sb sc da db dc ao m c hb hF ho => ?_) _ rfl
      obtain⟨xF,xb,c',xC,hx,xD,xE⟩:=Qt ho hv;injection xC with e1 e2 e3
      subst e1 e2 e3;refine QaM V P.kd k h1 P.old P.size sa P.S.length sc da P.D.length dc ao (vls l).length c n d er fun Z hbZ => ?_
      have xA:=hF.next hbZ;rw[h2];exact g1 Z sa sb 0 sc da db 0 dc ao xb 0 c (hT.next (Qa hb hbZ)) xA.p.rs xA.cS xA.nS xA.p.rd xA.p.cD xA.nD (hx.next hbZ (Ld _)) xD xE
     ·obtain⟨e0,e1,e2⟩:=QcQ h;obtain⟨n1,n2,n3,n4,n5⟩:=g2 e0;have hn:P.size=o1:=by rw[<-n1,e1]
      rw[hn] at n4 n5;exact⟨P,k1,k2,hd,hk,n2,hn,hS,(Cv.QJ n4.2.1).1,n3,.inr ⟨h2,n4,by rw[n5,e2]⟩⟩
    ·exact⟨150,fun W ca cb co cc hT hc=>UE W k k1 k2 o1 c1 ca cb co l.length cc l hc s hs2 P hd hk (fun h=>h.1.elim h1 h2),fun h=>absurd h (by decide)⟩
  ·exact⟨150,fun W ca cb co cc hT hc=>UE W k k1 k2 o1 c1 ca cb co l.length cc l hc s hs2 P hd hk (fun h=>hS h.2),fun h=>absurd h (by decide)⟩
 ·exact⟨tkE k s,fun W ca cb co cc hT hc=>QcP W k o1 c1 ca l.length cc s hs2 _ rfl h0,fun h=>absurd h h0⟩
section
open Pl (pw QM QF Ui)
open Cv (Row All Til But)
theorem QfV{h k i:Nat} : i / 2^h=k↔k*pw h<=i∧i<(k+1)*pw h:=by
 unfold pw;rw[Wr (LQ h)];have:=LQ h;rw[LR,LX];omega
theorem Qbs{i h g:Nat}(hg:h<=g):i / 2^g=i / 2^h / 2^(g - h):=by
 rw[Nh,<-Wh,show h+(g - h)=g by omega]
theorem Qg8{q:Nat} : ∀ {L:List (Nat×Nat)} {p:Nat},Row q p L -> ∀b∈L,∀b'∈L,∀i,i / 2^b.1=b.2->i / 2^b'.1=b'.2->b=b'
 | [],_,_,b,hb,_,_,_,_,_=>by cases hb
 | m::L,p,h,b,hb,b',hb',i,e,e'=>by
  have hf:=O6 h.2.2.2;have x:=QfV.1 e;have x':=QfV.1 e'
  rcases List.mem_cons.1 hb with h1|h1
  ·rcases List.mem_cons.1 hb' with h2|h2
   ·rw[h1,h2]
   ·have:=hf b' h2;rw[h1] at x;omega
  ·rcases List.mem_cons.1 hb' with h2|h2
   ·have:=hf b h1;rw[h2] at x';omega
   ·exact Qg8 h.2.2.2 b h1 b' h2 i e e'
theorem Qde{q:Nat} : ∀ {L:List (Nat×Nat)} {p:Nat},Row q p L->L.Nodup
 | [],_,_=>List.nodup_nil
 | m::L,p,h=>List.nodup_cons.2 ⟨fun hm=>by have:=O6 h.2.2.2 m hm;have:=Cv.YR m.1 m.2;omega,Qde h.2.2.2⟩
theorem Qnf(n:Nat)(hn:n<=2^40):Row n 0 (Cv.dnL 41 0 n):=by rw[<-Cv.QX n hn];exact Cv.OI 0 n (Ll _) hn
theorem Qet{Bs:List (Nat×Nat)}{D:LB}(h:D.length=Bs.length){j:Nat}(hj:j<Bs.length):(Bs.getD j (0,0),D.getD j ByteArray.empty)∈Bs.zip D:=Ni (QaK h hj)
theorem US{Bs:List (Nat×Nat)}{D:LB}(h:D.length=Bs.length){e:He}(he:e∈Bs.zip D) : ∃j,j<Bs.length∧e=(Bs.getD j (0,0),D.getD j ByteArray.empty):=by
 obtain⟨j,hj,hv⟩:=LS he;rw[Uy h] at hj;refine⟨j,hj,?_⟩
 have:=QaK h hj;rw[Lc (by rw[Uy h];exact hj),hv] at this
 exact Nx this
theorem QeZ{L:List (Nat×Nat)}(hn:L.Nodup){i j:Nat}(hi:i<L.length)(hj:j<L.length)(h:L[i]=L[j]):i=j:=by
 have hw:=List.pairwise_iff_getElem.1 hn
 rcases NO i j with h1|h1|h1
 ·exact absurd h (hw i j hi hj h1)
 ·exact h1
 ·exact absurd h.symm (hw j i hj hi h1)
theorem Qjz{Bs:List (Nat×Nat)}(hn:Bs.Nodup){j:Nat}(hj:j<Bs.length):ixM Bs (Bs.getD j (0,0)).1 (Bs.getD j (0,0)).2=some j:=by
 have hm:Bs.getD j (0,0)∈Bs:=Yv hj;have e:((Bs.getD j (0,0)).1,(Bs.getD j (0,0)).2)=Bs.getD j (0,0):=rfl;unfold ixM;rw[e,Lm hm]
 congr 1
 have xA:=N4 hm;have h1:Bs[Bs.idxOf (Bs.getD j (0,0))]=Bs[j]:=by
  rw[Wb xA,La,Lc hj];rfl
 exact QeZ hn xA hj h1
theorem QgT{Bs:List (Nat×Nat)}{D:LB}(h:D.length=Bs.length){x k j:Nat}(e:ixM Bs x k=some j):((x,k),D.getD j ByteArray.empty)∈Bs.zip D:=by
 have:=Qet h (QjA e)
 rwa [Qns e] at this
def vlC(l:List (Nat×BA))(i:Nat):BA:=(l.getD ((ixs l).idxOf i) noC).2
theorem QkP{l:List (Nat×BA)}{i:Nat}(h:i∈ixs l):(ixs l).idxOf i<l.length∧l.getD ((ixs l).idxOf i) noC=(i,vlC l i):=by
 have xB:=N4 h;have xA:(ixs l).idxOf i<l.length:=by rwa [Lx] at xB
 refine⟨xA,Prod.ext ?_ rfl⟩
 have:=Wb xB;rw[Wi] at this;rw[La,Lc xA];exact this
theorem Qer{l:List (Nat×BA)}(hp:Asc (ixs l)){j:Nat}(hj:j<l.length):vlC l (l.getD j noC).1=(l.getD j noC).2:=by
 have hm:(l.getD j noC).1∈ixs l:=List.mem_map.2 ⟨_,by rw[La,Lc hj];exact LG _,rfl⟩
 obtain⟨h1,h2⟩:=QkP hm;have e:(ixs l).idxOf (l.getD j noC).1=j:=by
  refine Qbt hp (by rw[Lx];exact h1) (by rw[Lx];exact hj) ?_
  rw[JK,JK,h2]
 rw[vlC,e]
structure Tre(c n:Nat)(Bs:List (Nat×Nat))(D:LB)(V:Nat->BA)(Q:Nat->Prop)(K:List He)(R:LB):Prop where
 nodup:Bs.Nodup
 fit : ∀b∈Bs,b.1<=40∧b.2<2^40
 len:D.length=Bs.length
 dsz : ∀d∈D,d.size=c
 fn:Fn K
 tl : ∀b∈Cv.dnL 41 0 n,Tl c K b.1 b.2 (xd c (ixM Bs) D V b.1 b.2)
 vis : ∀b∈Cv.dnL 41 0 n,Vis (ixM Bs) Q b.1 b.2
 pk:(Cv.dnL 41 0 n).map (fun b=>xd c (ixM Bs) D V b.1 b.2)=R
theorem Tre.lt{c n:Nat}{Bs:List (Nat×Nat)}{D:LB}{V:Nat->BA}{Q:Nat->Prop}{K:List He}{R:LB}(t:Tre c n Bs D V Q K R) : ∀h k j,ixM Bs h k=some j->j<D.length:=fun h k j e=>by rw[t.len];exact QjA e
theorem QkM{c n:Nat}{Bs:List (Nat×Nat)}{D:LB}{V:Nat->BA}{Q:Nat->Prop}{K:List He}{R:LB}(nodup:Bs.Nodup)(fit : ∀b∈Bs,b.1<=40∧b.2<2^40)(len:D.length=Bs.length)(dsz : ∀d∈D,d.size=c)(fn:Fn K)
  (h1 : ∀e∈K,e∈Bs.zip D∨(e.1 ∉ Bs∧e.1.1=0∧Q e.1.2∧e.2=dg c (Qh (V e.1.2)))) (h2 : ∀e∈Bs.zip D,e∈K)
  (hR:R.length=(Cv.dnL 41 0 n).length) (ht : ∀j,j<(Cv.dnL 41 0 n).length->Tl c K ((Cv.dnL 41 0 n).getD j (0,0)).1 ((Cv.dnL 41 0 n).getD j (0,0)).2 (R.getD j ByteArray.empty)):Tre c n Bs D V Q K R:=by
 have xA:=QmW (c:=c) (M:=ixM Bs) (D:=D) (V:=V) (Q:=Q) (K:=K) (fun e he=>by
  rcases h1 e he with h|⟨h,h'⟩
  ·obtain⟨j,hj,rfl⟩:=US len h;exact .inl ⟨j,Qjz nodup hj,rfl⟩
  ·exact .inr ⟨YG.2 h,h'⟩) (fun h k j e=>⟨_,h2 _ (QgT len e)⟩)
 have xB : ∀b∈Cv.dnL 41 0 n,∃j,j<(Cv.dnL 41 0 n).length∧(Cv.dnL 41 0 n).getD j (0,0)=b:=fun b hb=>by
  obtain⟨j,hj,rfl⟩:=LS hb;exact⟨j,hj,by rw[La,Lc hj];rfl⟩
 refine⟨nodup,fit,len,dsz,fn,fun b hb => ?_,fun b hb => ?_,?_⟩
 ·obtain⟨j,hj,rfl⟩:=xB b hb;have:=ht j hj;rw[(xA _ _ _ this).2];exact this
 ·obtain⟨j,hj,rfl⟩:=xB b hb;exact(xA _ _ _ (ht j hj)).1
 ·refine List.ext_getElem (by rw[Lx,hR]) fun j a b => ?_
  rw[Lx] at a;have:=(xA _ _ _ (ht j a)).2;rw[Wi];rw[La,Lc a,La,Lc b] at this;exact this
section
variable {k:Int} {n:Nat} {l:List (Nat×BA)} {D:LB}
theorem Qdn(hok:okB 2 k 0 n (ixs l) D):Tre (clk k) n (Cv.rst 0 n (ixs l)) D (vlC l) (fun i=>i∈ixs l) (knS (clk k) (ixs l) (vls l)++(Cv.rst 0 n (ixs l)).zip D) (pB (clk k) (Cv.dnL 41 0 n) (ixs l) (vls l) D):=by
 obtain⟨⟨_,hk,_⟩,he,hf⟩:=hok;obtain⟨xB,_,_,hc⟩:=Cv.QJ he;have hp:=Y8 hc;have ht:=Cv.YP n (ixs l) xB hc;have xF:(clk k:Int)=k:=Qdu hk.1 hk.2;have hX:(vls l).length=(ixs l).length:=by rw[Lx,Lx]
 have xA:D.length=(Cv.rst 0 n (ixs l)).length:=by rw[hf.1,Cv.rstS,Lm he]
 have xE:(Cv.rst 0 n (ixs l)).Nodup:=List.pairwise_iff_getElem.2 fun i j hi hj hij=>by
  have:=Ju ht i j hij hj
  rwa [La,Lc hi,La,Lc hj] at this
 refine QkM xE (fun b hb => ?_) xA (fun d hd=>by have:=hf.2 d hd;omega) (QmM he hX xA) (fun e he' => ?_) (fun e he'=>NQ _ he') (QdT ..) (QmN he hX xA)
 ·have:=(Cv.Jt ht b hb).2;unfold pw at this;have h1:b.2<n:=QbW this;refine⟨Cv.pw40 (Lz (by have:=LE (pw b.1) (show 1<=b.2+1 by omega);rw[LX] at this;exact this) (Lz this xB)),by omega⟩
 ·rcases List.mem_append.1 he' with h|h
  ·obtain⟨j,hj,hv⟩:=LS h;rw[Ut _ _ _ hX] at hj;have xC:=QbZ (clk k) hX hj;rw[Lc (by rw[Ut _ _ _ hX];exact hj),hv] at xC
   obtain rfl:=Nx xC;have xD:j<l.length:=by rwa [Lx] at hj
   have hm:(ixs l).getD j 0∈ixs l:=by rw[La,Lc hj];exact LG _
   refine .inr ⟨fun hb => ?_,rfl,hm,?_⟩
   ·have h2:=(Js ht _ hb).2 ((ixs l).getD j 0) (by simp[pw]) (by simp[pw])
    exact h2.2 hm
   ·show dg (clk k) (Qh ((vls l).getD j ByteArray.empty))=dg (clk k) (Qh (vlC l ((ixs l).getD j 0)))
    rw[JK,Qer hp xD]
    congr 2
    rw[La,No,La]
    cases l[j]? <;> rfl
  ·exact .inl h
theorem Qbv(hok:okB 2 k 0 n (ixs l) D){i:Nat}(hi:i∈ixs l)(t:Nat):ixM (Cv.rst 0 n (ixs l)) t (i / 2^t)=none:=by
 obtain⟨_,he,_⟩:=hok;obtain⟨xA,_,_,hc⟩:=Cv.QJ he;have ht:=Cv.YP n (ixs l) xA hc;refine YG.2 fun hb => ?_
 have x:=QfV.1 (show i / 2^t=i / 2^t from rfl)
 exact((Js ht _ hb).2 i x.1 x.2).2 hi
end
end
section
open Pl (pw QM QF Ui)
open Cv (Row All Til But cov)
theorem Qoo(q:Nat):sb q≠q:=by unfold sb;split <;> omega
theorem Qmb(q:Nat):sb q / 2=q / 2:=by unfold sb;split <;> omega
section
variable {n i H:Nat} {A B:List (Nat×Nat)}
theorem Wy.top(h:Wy n i A H B):(H,i / 2^H)∈Cv.dnL 41 0 n:=by rw[h.all];simp
theorem Wy.free(h:Wy n i A H B)(t:Nat):(t,i / 2^t) ∉ wyB i H A B:=fun hm=>by
 rw[wyB,NV,NV] at hm
 rcases hm with hm|hm|hm
 ·obtain⟨g,_,e⟩:=List.mem_map.1 hm;injection e with e1 e2
  subst e1;exact Qoo _ e2
 ·have:=h.no_left hm;simp at this
 ·have:=h.no_right hm;simp at this
theorem Wy.others(h:Wy n i A H B){b:Nat×Nat}(hb:b∈A++B):b∈Cv.dnL 41 0 n∧b≠(H,i / 2^H):=by
 refine⟨?_,fun e => ?_⟩
 ·rw[h.all]
  rcases List.mem_append.1 hb with hb|hb
  ·exact Iv _ hb
  ·exact NQ _ (L4 _ hb)
 ·refine h.free H ?_
  rw[wyB,<-e];exact NQ _ hb
theorem Wy.nodup(h:Wy n i A H B)(hn:n<=2^40):(wyB i H A B).Nodup:=by
 have hr:=Qnf n hn;refine List.nodup_append.2 ⟨?_,?_,fun a ha b hb e => ?_⟩
 ·refine List.pairwise_iff_getElem.2 fun x y hx hy hxy e => ?_
  simp only[bes,List.getElem_map,List.getElem_range] at e;injection e with e1 _
  omega
 ·have:=Qde hr;rw[h.all] at this;exact this.sublist ((List.Sublist.refl A).append (List.sublist_cons_self _ _))
 ·subst e;obtain⟨o1,o2⟩:=h.others hb;obtain⟨g,hg,e⟩:=List.mem_map.1 ha;have hg:=List.mem_range.1 hg;subst e;have hi:(sb (i / 2^g)*2^g) / 2^g=sb (i / 2^g):=NF _ (LQ g);have hH:(sb (i / 2^g)*2^g) / 2^H=i / 2^H:=by
   rw[Qbs (show g+1<=H by omega),Qbs (i:=i) (show g+1<=H by omega)]
   congr 1
   rw[Qbs (show g<=g+1 by omega),hi,Qbs (i:=i) (show g<=g+1 by omega),show g+1 - g=1 by omega,Nat.pow_one]
   exact Qmb _
  exact o2 (Qg8 hr _ o1 _ h.top _ hi hH)
end
theorem Qk3{i H:Nat} : ∀b∈bes i H,(b.2+1)*2^b.1<=(i / 2^H+1)*2^H:=by
 intro b hb;obtain⟨h,hh,rfl⟩:=List.mem_map.1 hb;have hh:=List.mem_range.1 hh;obtain⟨d,rfl⟩ : ∃d,H=h+1+d:=⟨H - h - 1,by omega⟩
 have h1:(sb (i / 2^h)+1)<=(i / 2^(h+1)+1)*2:=by
  rw[<-J7];generalize i / 2^h=q;unfold sb
  split <;> omega
 have h2:(sb (i / 2^h)+1)*2^h<=(i / 2^(h+1)+1)*2^(h+1):=by
  rw[LM,<-L9,Nat.mul_right_comm];exact LE _ (by rw[<-LM];exact h1)
 refine Lz h2 ?_
 have h3:i / 2^(h+1)+1<=(i / 2^(h+1+d)+1)*2^d:=by
  have e:i / 2^(h+1+d)=i / 2^(h+1) / 2^d:=by rw[Nh,<-Wh]
  rw[e];exact Ii (NR _) (LQ d)
 calc (i / 2^(h+1)+1)*2^(h+1)<=(i / 2^(h+1+d)+1)*2^d*2^(h+1):=LE _ h3
  _=(i / 2^(h+1+d)+1)*2^(h+1+d):=by rw[L9,<-Wh,Wn d]
theorem Wy.innX{n i H:Nat}{A B:List (Nat×Nat)}(h:Wy n i A H B)(hn:n<=2^40) : ∀b∈wyB i H A B,(b.2+1)*2^b.1<=n:=by
 have xA:=U4 n hn;rw[h.all] at xA;intro b hb;rw[wyB,NV,NV] at hb
 rcases hb with hb|hb|hb
 ·exact Lz (Qk3 b hb) (xA (H,i / 2^H) (by simp))
 ·exact xA b (by simp[hb])
 ·exact xA b (by simp[hb])
section
variable {n i H:Nat} {A B:List (Nat×Nat)}
def knP(c:Nat)(i:Nat)(x:BA)(Bs:List (Nat×Nat))(D:LB):List He:=((0,i),dg c (Qh x))::Bs.zip D
theorem QnW(h:Wy n i A H B)(c:Nat)(x:BA){D:LB}(hD:D.length=(wyB i H A B).length) : ∀g,g<=H->Tl c (knP c i x (wyB i H A B) D) g (i / 2^g) (rs c i (dg c (Qh x)) (D.take g)):=by
 have xF:=Of i H A B;intro g
 induction g with
 | zero =>
  intro _;rw[NC,Ih,NS,rs];exact Nq ..
 | succ g ih =>
  intro hg;have xD:g<D.length:=by omega
  have xB:((g,sb (i / 2^g)),D.getD g ByteArray.empty)∈knP c i x (wyB i H A B) D:=by
   refine L4 _ ?_
   have:=Qet hD (show g<(wyB i H A B).length by omega)
   have e:(wyB i H A B).getD g (0,0)=(g,sb (i / 2^g)):=by
    rw[wyB,Uj _ _ _ (by rw[Us];omega),La,bes,No,List.getElem?_range (by omega)];rfl
   rwa [e] at this
  have xA:i / 2^(g+1)=i / 2^g / 2:=by rw[J7]
  rw[LW xD,Qd8,Lq,If (by omega)]
  have xE:D[g]=D.getD g ByteArray.empty:=by rw[La,Lc xD];rfl
  rw[xE];refine .inr ⟨fun u hu => ?_,?_⟩
  ·rcases List.mem_cons.1 hu with e|hu
   ·injection e with e _
    injection e with e _
    cases e
   ·obtain⟨j,hj,e⟩:=US hD hu;injection e with e _
    exact h.free (g+1) (by rw[e];exact Yv hj)
  ·have xG:=ih (by omega)
   have xC:=Tl.at (c:=c) xB;generalize i / 2^g=q at *;rw[xA];unfold stT;unfold sb at xC
   by_cases hq:q % 2=1
   ·rw[Lm hq] at xC ⊢;refine⟨_,_,?_,?_,rfl⟩
    ·rwa [show 2*(q / 2)=q - 1 by omega]
    ·rwa [show 2*(q / 2)+1=q by omega]
   ·rw[Le hq] at xC ⊢;refine⟨_,_,?_,?_,rfl⟩
    ·rwa [show 2*(q / 2)=q by omega]
    ·rwa [show 2*(q / 2)+1=q+1 by omega]
theorem Qfu{k:Int}(h:Wy n i A H B)(hn:n<=2^40)(hk:1<=k∧k<=32){D:LB}(hf:fil k (H+A.length+B.length) D){V:Nat->BA}(x:BA)(hx:V i=x):Tre (clk k) n (wyB i H A B) D V (fun t=>t=i) (knP (clk k) i x (wyB i H A B) D) (pkP (clk k) i A.length H D x):=by
 have xC:=Of i H A B;have hD:D.length=(wyB i H A B).length:=by rw[hf.1,xC];omega
 have xG:(clk k:Int)=k:=Qdu hk.1 hk.2;have xD:=h.nodup hn;have xE:=h.innX hn;have xA : ∀e∈(wyB i H A B).zip D,e.1≠(0,i):=fun e he e0=>by
  obtain⟨j,hj,rfl⟩:=US hD he;refine h.free 0 ?_
  rw[NC,Ih,<-e0];exact Yv hj
 have xH:A.length+B.length+H=D.length:=by omega
 have hM:(Cv.dnL 41 0 n).length=A.length+(B.length+1):=by rw[h.all,Lg,Lt]
 refine QkM xD (fun b hb => ?_) hD (fun d hd=>by have:=hf.2 d hd;omega) (fun e he e' he' heq => ?_) (fun e he => ?_) (fun e he=>L4 _ he) ?_ (fun j hj => ?_)
 ·have:=xE b hb;have h1:b.2<n:=QbW this;refine⟨Cv.pw40 (Lz (by have:=LE (pw b.1) (show 1<=b.2+1 by omega);rw[LX] at this;exact this) (Lz this hn)),by omega⟩
 ·rcases List.mem_cons.1 he with rfl|he <;> rcases List.mem_cons.1 he' with rfl|he'
  ·rfl
  ·exact absurd heq.symm (xA e' he')
  ·exact absurd heq (xA e he)
  ·obtain⟨a,ha,rfl⟩:=US hD he;obtain⟨b,hb,rfl⟩:=US hD he';have heq:(wyB i H A B).getD a (0,0)=(wyB i H A B).getD b (0,0):=heq;rw[La,Lc ha,La,Lc hb] at heq;obtain rfl:=QeZ xD ha hb heq
   rfl
 ·rcases List.mem_cons.1 he with rfl|he
  ·refine .inr ⟨fun hb=>h.free 0 ?_,rfl,rfl,?_⟩
   ·rw[NC,Ih];exact hb
   ·show dg (clk k) (Qh x)=dg (clk k) (Qh (V i))
    rw[hx]
  ·exact .inl he
 ·rw[pkP,Lg,Lt,Lq,Lv,Lv,Lv,hM];omega
 ·have xB : ∀t,t<A.length+B.length->((A++B).getD t (0,0),D.getD (H+t) ByteArray.empty)∈knP (clk k) i x (wyB i H A B) D:=fun t ht=>by
   have:=Qet hD (show H+t<(wyB i H A B).length by omega)
   have e:(wyB i H A B).getD (H+t) (0,0)=(A++B).getD t (0,0):=by
    rw[wyB];have:=YD (0,0) (bes i H) (A++B) t
    rwa [Us] at this
   rw[e] at this;exact L4 _ this
  rw[hM] at hj;have xF:=QdU (c:=clk k) (i:=i) (a:=A.length) (H:=H) (D:=D) (x:=x) (by omega) j
  rw[xF,h.all]
  by_cases h1:j<A.length
  ·rw[Lm h1,Uj _ _ _ h1];have:=xB j (by omega)
   rw[Uj _ _ _ h1] at this;exact Tl.at this
  ·rw[Le h1]
   by_cases h2:j=A.length
   ·rw[Lm h2,h2];have e:(A++(H,i / 2^H)::B).getD A.length (0,0)=(H,i / 2^H):=by
     have:=YD (0,0) A ((H,i / 2^H)::B) 0
     rwa [Ix] at this
    rw[e];exact QnW h (clk k) x hD H (Ld _)
   ·rw[Le h2];obtain⟨t,rfl⟩ : ∃t,j=A.length+(t+1):=⟨j - A.length - 1,by omega⟩
    have e:(A++(H,i / 2^H)::B).getD (A.length+(t+1)) (0,0)=B.getD t (0,0):=by rw[YD,I4]
    have:=xB (A.length+t) (by omega)
    rw[YD] at this;rw[e,show H+(A.length+(t+1) - 1)=H+(A.length+t) by omega]
    exact Tl.at this
end
section
variable {k:Int} {m n:Nat} {D:LB}
end
end
def pA(x:Pq):BA:=match x with|some q=>q.1|none=>⟨#[]⟩
def pB'(x:Pq):BA:=match x with|some q=>q.2|none=>⟨#[]⟩
abbrev pv(x:Pq):Value := .agg #[.string (pA x),.string (pB' x),.bool x.isSome]
def P3(w:World)(g:Nat)(x:Pq):Prop:=w.heap[g]? = some (.cells #[.string (pA x),.string (pB' x),.bool x.isSome] 59 (0,0))
theorem P3.cells{w:World}{g:Nat}{x:Pq}(h:P3 w g x):w.cell? ⟨g,0,none⟩=some (.string (pA x))∧w.cell? ⟨g,1,none⟩=some (.string (pB' x))∧w.cell? ⟨g,2,none⟩=some (.bool x.isSome):=by
 refine⟨?_,?_,?_⟩
 ·rw[cell_of_row w g 0 _ _ (0,0) h];rfl
 ·rw[cell_of_row w g 1 _ _ (0,0) h];rfl
 ·rw[cell_of_row w g 2 _ _ (0,0) h];rfl
theorem P3.lt{w:World}{g:Nat}{x:Pq}(h:P3 w g x):g<w.heap.size:=(Array.getElem?_eq_some_iff.1 h).1
theorem P3.next{w W:World}{g:Nat}{x:Pq}(h:P3 w g x)(hb:Zb w W):P3 W g x:=(hb.block g h.lt).trans h
theorem Qj0(w:World)(x:Pq) : ∃W,w.alloc (.cells #[.string (pA x),.string (pB' x),.bool x.isSome] 59)=W∧P3 W w.heap.size x∧Zb w W∧W.heap.size=w.heap.size+1 :=
 ⟨_,rfl,Lu w _,bal (Lb _ _) _,LA ..⟩
theorem Qoi{a b:BA}(h:a≠b):pv (un a b) = .agg #[.string a,.string b,.bool true]:=by rw[un,Le h];rfl
theorem Qhm{a b:BA}(h:a=b):un a b=none:=Lm h
theorem QnB(w:World)(x y:Pq):Zr 73 #[pv x,pv y] w (pv (x.or y)):=by
 cases x with
 | none =>
  go_enter func73,ntmps73;go_wp2;refine Lp (v:=pv y) (by simp[results,results73,go_sem]) rfl ⟨rfl,?_⟩
  exact bal (bal (bal (Lb _ _) _) _) _
 | some q =>
  go_enter func73,ntmps73;go_wp2;refine Lp (v:=pv (some q)) (by simp[results,results73,go_sem]) rfl ⟨rfl,?_⟩
  exact bal (bal (bal (Lb _ _) _) _) _
theorem QcF(w:World)(a b:BA):Zr 70 #[.string a,.string b] w (pv (un a b)):=by
 by_cases h:a=b
 ·subst h;rw[Qhm rfl]
  go_enter func70,ntmps70;go_wp2;refine Lp (v:=pv none) (by simp[results,results70,go_sem,pA,pB']) rfl ⟨rfl,?_⟩
  exact bal (Lb _ _) _
 ·rw[Qoi h];have hz:=Uu h;have xA:=YZ h;clear h
  go_enter func70,ntmps70;go_wp2;refine Lp (v := .agg #[.string a,.string b,.bool true]) (by simp[results,results70,go_sem]) rfl ⟨rfl,?_⟩
  exact bal (Lb _ _) _
theorem Qb9(w:World)(x y r:Pq)(hr:x.or y=r):Zr 73 #[pv x,pv y] w (pv r):=by subst hr;exact QnB w x y
theorem Oc(w:World)(a b:BA)(r:Pq)(hr:un a b=r):Zr 70 #[.string a,.string b] w (pv r):=by subst hr;exact QcF w a b
abbrev wo(t:BA):Value := .iface 173 (.string t)
abbrev ba(d:BA):Value := .iface 207 (.string d)
theorem Qn1(t:BA)(w:World):(Instr.typeAssert (wo t) 171 173 true).run prog w = .ok (.tuple #[.string t,.bool true]) w:=by kernel_rfl
theorem Qn0(t:BA)(w:World):(Instr.typeAssert (ba t) 171 173 true).run prog w = .ok (.tuple #[.string ⟨#[]⟩,.bool false]) w:=by kernel_rfl
theorem QmY(t:BA)(w:World):(Instr.typeAssert (ba t) 171 207 true).run prog w = .ok (.tuple #[.string t,.bool true]) w:=by kernel_rfl
theorem Qbq(w:World)(t:BA):Zr 129 #[wo t] w (.string t):=by
 have h1:=Qn1 t
 go_enter func129,ntmps129;go_wp2
 go_ret
 exact⟨rfl,Lb _ _⟩
theorem Qhj(w:World)(t:BA):Zr 129 #[ba t] w (.string ⟨#[]⟩):=by
 have h1:=Qn0 t;have h2:=QmY t
 go_enter func129,ntmps129;go_wp2
 go_ret
 exact⟨rfl,Lb _ _⟩
theorem Oe(w:World)(ht:Tb w)(k:Int)(t:BA)(hs:t.size<4611686018427387904)(r:BA)(hr:dg (clk k) t=r):Zr 222 #[.string t,.int .i64 k] w (.string r):=by
 have HO:=OP w ht k t hs r hr
 go_enter func222,ntmps222
 go_wp2_with (go_at_call 126;with_reducible refine HO.mono ?_;rintro e w1 ⟨rfl,xA⟩)
 go_ret
 exact⟨rfl,xA⟩
theorem QcL(w:World)(k:Int)(t:BA):Zr 223 #[.string t,.int .i64 k] w (.string t):=by
 go_enter func223,ntmps223;go_wp2
 go_ret
 exact⟨rfl,Lb _ _⟩
abbrev putP(w:World)(g:Nat)(y:Pq):World:=((w.setCell ⟨g,0,none⟩ (.string (pA y))).setCell ⟨g,1,none⟩ (.string (pB' y))).setCell ⟨g,2,none⟩ (.bool y.isSome)
theorem P3.put{w:World}{g:Nat}{x:Pq}(h:P3 w g x)(y:Pq):P3 (putP w g y) g y:=LI _ g 2 _ _ _ (LI _ g 1 _ _ _ (LI w g 0 _ _ _ h))
theorem J8(w:World)(g:Nat)(y:Pq):ChT (fun b=>b=g) w (putP w g y):=(((ChT.refl (fun b=>b=g) w).set g 0 _ rfl).set g 1 _ rfl).set g 2 _ rfl
theorem P3.fz{w:World}{g:Nat}{x:Pq}(h:P3 w g x) : ∀j,w.frozen? ⟨g,j,none⟩=false:=fun j=>frozen_of_row w g j _ _ h
theorem QaL(w:World)(ht:Tb w)(k:Int)(b off n cap:Nat)(P:LB)(hr:RdS w (some ⟨b,off,none⟩) b off n P)(h2:2<=n)(hn:n<=cap)(hnm:n<=1000)(hsz : ∀s∈P,s.size<=32)(r:BA)(hq:Uq (P.getD 0 ByteArray.empty) (Qr (clk k) (P.drop 1))=r) :
  Zr 74 #[.int .i64 k,.slice (some ⟨b,off,none⟩) n cap] w (.string r):=by
 have hl:=hr.hl;subst hl;obtain⟨x,hx⟩:=Ze (P.getD 0 ByteArray.empty);obtain⟨y,hy⟩:=Ze (Qr (clk k) (P.drop 1));have xD:x.size<=32:=by rw[<-hx];exact hsz _ (Qv (by omega))
 have xE:y.size<=32:=by rw[<-hy];exact Q3 (Qp k) (Ld _) _ (fun s hs=>hsz s (LV hs))
 have hd:=Uo (H:=1) (dc:=cap) hr hn (by omega) (fun h=>by cases h) (ax:=some ⟨b,off+1,none⟩) (by rw[Le (by omega)];simp[Addr.add_mid])
 have HB:Hr w 72 #[.int .i64 k,.slice (some ⟨b,off+1,none⟩) (P.length - 1) (cap - 1)] (.string y):=fun W hb=>by
  have:=Jf W (ht.next hb) k (some ⟨b,off+1,none⟩) b (off+1) _ (cap - 1) _ (hd.1.next hb (Ld _)) (fun s hs=>Lz (hsz s (LV hs)) (by decide)) (by rw[Lv];omega) y hy
  rwa [Lv] at this
 have HT:Hid (∀W,Zr 127 #[.string x,.string y] W (.string r)):=fun W=>Qev W x y (by omega) (by omega) r (by rw[<-hx,<-hy];exact hq)
 have c0 : ∀W,Zb w W->W.cell? ⟨b,off,none⟩=some (.string x):=fun W hb=>by
  have:=(hr.next hb (Ld _)).at (k:=0) (by omega)
  rw[hx] at this;exact this
 have C0:=Qe c0;have cc:=c0 w (Lb _ _);have xG:=Lb w.heap.size w;have z1:(1:Int)<=(P.length:Int):=by omega
 have z2:(P.length:Int)<=(cap:Int):=by omega
 have z3 : ¬cap=1:=by omega
 have z4:(0:Int)<(P.length:Int):=by omega
 have z5:(P.length:Int)<=1000:=by omega
 clear hr hsz hq hx hy hd ht h2 hn hnm xD xE c0
 go_enter func74,ntmps74
 go_upto_region 1 with (fail)
 go_region_with (first
  | (go_at_call 72;with_reducible refine(HB.out _ (Lb _ w).drew).mono ?_;rintro e w1 ⟨rfl,xA⟩;have xF:=C0.out _ (Qa (Lb _ w).drew xA);have xC:=Qa (Lb _ w).drew xA)
  | (go_at_call 127;with_reducible refine(HT.out _).mono ?_;rintro e w2 ⟨rfl,xB⟩))
 all_goals
  go_wp2
  go_ret
  exact⟨rfl,Qa xC xB⟩
theorem Qk4{c:Nat}{P Q:LB}(hl:P.length=Q.length){i:Nat}(hi:i+1<P.length):bg c (P.drop i) (Q.drop i)=(un (Uq ((P.drop i).getD 0 ByteArray.empty) (Qr c ((P.drop i).drop 1))) (Uq ((Q.drop i).getD 0 ByteArray.empty) (Qr c ((Q.drop i).drop 1)))).or (bg c (P.drop (i+1)) (Q.drop (i+1))):=by
 rw[LO (show i<P.length by omega),LO (show i<Q.length by omega),LO hi,LO (show i+1<Q.length by omega),bg]
 rfl
theorem QmZ{c:Nat}{P Q:LB}(hl:P.length=Q.length){i:Nat}(hi:P.length<=i+1):bg c (P.drop i) (Q.drop i)=none:=by
 by_cases h:i<P.length
 ·rw[LO h,Nm (show P.length<=i+1 by omega)]
  simp[bg]
 ·rw[Nm (show P.length<=i by omega)]
  simp[bg]
theorem aboveall_any (w:World) (ht:Tb w) (k:Int) (n:Nat) (pa:OA) (pb po pc:Nat) (P:LB) (hP:RdS w pa pb po P.length P) (hpc:P.length<=pc) (hpn:pa=none->pc=0) (qa:OA) (qb qo qc:Nat) (Q:LB) (hQ:RdS w qa qb qo P.length Q) (hqc:P.length<=qc) (hqn:qa=none->qc=0) (hm:P.length<=100) (hPs : ∀s∈P,s.size<=32) (hQs : ∀s∈Q,s.size<=32) (T:Pq) (hT:tp (clk k) n P Q=T) :
    Zr 34 #[.int .i64 k,.int .u64 (n:Int),.slice pa P.length pc,.slice qa P.length qc] w (pv T):=by
  have hl:P.length=Q.length:=hQ.hl.symm;obtain⟨x,hx⟩:=Ze (Qr (clk k) P);obtain⟨y,hy⟩:=Ze (Qr (clk k) Q);obtain⟨x1,hx1⟩:=Ze (QI n x);obtain⟨y1,hy1⟩:=Ze (QI n y);have hxs:x.size<=32:=by rw[<-hx];exact Q3 (Qp k) (Ld _) _ hPs
  have hys:y.size<=32:=by rw[<-hy];exact Q3 (Qp k) (Ld _) _ hQs
  have HB1:Hr w 72 #[.int .i64 k,.slice pa P.length pc] (.string x):=fun W hb=>Jf W (ht.next hb) k pa pb po _ pc P (hP.next hb (Ld _)) (fun s hs=>Lz (hPs s hs) (by decide)) (by omega) x hx
  have HB2:Hr w 72 #[.int .i64 k,.slice qa P.length qc] (.string y):=fun W hb=>Jf W (ht.next hb) k qa qb qo _ qc Q (hQ.next hb (Ld _)) (fun s hs=>Lz (hQs s hs) (by decide)) (by omega) y hy
  have HR1:Hid (∀W,Zr 71 #[.int .u64 (n:Int),.string x] W (.string x1)):=fun W=>Qaz W n x (by omega) x1 hx1
  have HR2:Hid (∀W,Zr 71 #[.int .u64 (n:Int),.string y] W (.string y1)):=fun W=>Qaz W n y (by omega) y1 hy1
  have HE:Hid ((un x1 y1).or (bg (clk k) (P.drop 0) (Q.drop 0))=T):=by rw[<-hx1,<-hy1,<-hx,<-hy,It,It];exact hT
  have HS:Hid (∀i,i+1<P.length -> ∃s t:BA,bg (clk k) (P.drop i) (Q.drop i)=(un s t).or (bg (clk k) (P.drop (i+1)) (Q.drop (i+1)))∧pa=some ⟨pb,po,none⟩∧qa=some ⟨qb,qo,none⟩∧(∀W,Zb w W->Zr 74 #[.int .i64 k,.slice (some ⟨pb,po+i,none⟩) (P.length - i) (pc - i)] W (.string s))∧(∀W,Zb w W->Zr 74 #[.int .i64 k,.slice (some ⟨qb,qo+i,none⟩) (P.length - i) (qc - i)] W (.string t))):=fun i hi=>by
    have ea:=hP.ptr (by omega)
    have eb:=hQ.ptr (by omega)
    subst ea eb;refine⟨_,_,Qk4 hl hi,rfl,rfl,fun W hb => ?_,fun W hb => ?_⟩
    · have hd:=Uo (H:=i) (dc:=pc) (hP.next hb (Ld _)) hpc (by omega) (fun h=>by cases h) (ax:=some ⟨pb,po+i,none⟩) (by rw[Le (by omega)];simp[Addr.add_mid])
      have:=QaL W (ht.next hb) k pb (po+i) _ (pc - i) _ hd.1 (by rw[Lv];omega) (by rw[Lv];omega) (by rw[Lv];omega) (fun s hs=>hPs s (LV hs)) _ rfl
      rwa [Lv] at this
    · have hQ':=hQ;rw[hl] at hQ';have hd:=Uo (H:=i) (dc:=qc) (hQ'.next hb (Ld _)) (by omega) (by omega) (fun h=>by cases h) (ax:=some ⟨qb,qo+i,none⟩) (by rw[Le (by omega)];simp[Addr.add_mid])
      have:=QaL W (ht.next hb) k qb (qo+i) _ (qc - i) _ hd.1 (by rw[Lv];omega) (by rw[Lv];omega) (by rw[Lv];omega) (fun s hs=>hQs s (LV hs)) _ rfl
      rwa [Lv,<-hl] at this
  have HF:Hid (∀i,P.length<=i+1->bg (clk k) (P.drop i) (Q.drop i)=none):=fun i hi=>QmZ hl hi
  have HC:Hid (P.length<=pc∧P.length<=qc):=⟨hpc,hqc⟩;have z5:(P.length:Int)<=100:=by omega
  have hb0:=bal (Lb w.heap.size w) (.cells #[.string ⟨#[]⟩,.string ⟨#[]⟩,.bool false] 59);clear hx hy hx1 hy1 hxs hys ht hP hQ hPs hQs hT hpc hqc hpn hqn hl
  go_enter func34,ntmps34
  go_upto_region 1 with (fail)
  go_upto_region 2 with (first
    | (go_at_call 72;with_reducible refine(HB1.out _ hb0).mono ?_;rintro e w1 ⟨rfl,hb1⟩)
    | (go_at_call 72;with_reducible refine(HB2.out _ (Qa (Qa hb0 hb1) hb2)).mono ?_;rintro e w3 ⟨rfl,hb3⟩)
    | (go_at_call 71;with_reducible refine(HR1.out _).mono ?_;rintro e w2 ⟨rfl,hb2⟩)
    | (go_at_call 71;with_reducible refine(HR2.out _).mono ?_;rintro e w4 ⟨rfl,hb4⟩)
    | (go_at_call 70;with_reducible refine(QcF _ _ _).mono ?_;rintro e w5 ⟨rfl,hb5⟩))
  obtain⟨F,hFe,h3,hb6,_⟩:=Qj0 w5 (un x1 y1)
  try rw[hFe]
  clear hFe;have hbF:=Qa (Qa (Qa (Qa (Qa (Qa hb0 hb1) hb2) hb3) hb4) hb5) hb6;have hR:F.heap[w.heap.size]? = some (.cells #[.string ⟨#[]⟩,.string ⟨#[]⟩,.bool false] 59 (0,0)):=by
    have:=Lu w (.cells #[.string ⟨#[]⟩,.string ⟨#[]⟩,.bool false] 59);exact((Qa (Qa (Qa (Qa (Qa hb1 hb2) hb3) hb4) hb5) hb6).block _ (by rw[LA];omega)).trans this
  obtain⟨g5,hg5⟩:=Ze w5.heap.size;have hgw:w.heap.size<g5:=by
    have h1:=hb0.size;have h2:=hb1.size;have h3:=hb2.size;have h4:=hb3.size;have h5:=hb4.size;have h6:=hb5.size;rw[LA] at h2;omega
  rw[hg5] at h3
  try rw[hg5]
  clear hg5 hb0 hb1 hb2 hb3 hb4 hb5 hb6 HB1 HB2 HR1 HR2;have H3:=Qe h3;have HR:=Qe hR;clear h3 hR;go_wp2
  go_loopg [25] P.length (fun g i wr => ∃(j:Nat) (X:Pq),g=P.length - j∧j<=P.length∧i = .int .i64 (j:Int)∧Hid (X.or (bg (clk k) (P.drop j) (Q.drop j))=T)∧Hid (P3 wr g5 X)∧Hid (Zb w wr∧wr.heap[w.heap.size]? = some (.cells #[.string ⟨#[]⟩,.string ⟨#[]⟩,.bool false] 59 (0,0))))
  case atStart=>go_light;exact⟨0,_,rfl,Ll _,rfl,HE,H3,Qe ⟨hbF,HR.out⟩⟩
  case round =>
    clear hbF HE H3 HR;obtain⟨j,X,rfl,hj,rfl,HE,H3,HW⟩:=hrel;have h3:=H3.out;obtain⟨c0,c1,c2⟩:=h3.cells;have fz:=h3.fz
    by_cases hlt:j+1<P.length
    · have hz:(j:Int)<(P.length:Int) - 1:=by omega
      have z0:(0:Int)<=(j:Int):=Lf _;obtain⟨s,t,e1,rfl,rfl,HS1,HS2⟩:=HS.out j hlt;have HS1:=Qe HS1;have HS2:=Qe HS2;have z1:(j:Int)<=(P.length:Int):=by omega
      have z2:(P.length:Int)<=(pc:Int):=by have:=HC.out.1;omega
      have z3:(P.length:Int)<=(qc:Int):=by have:=HC.out.2;omega
      have z4 : ¬pc=j:=by have:=HC.out.1;omega
      have z6 : ¬qc=j:=by have:=HC.out.2;omega
      obtain⟨U,hU⟩:=Ze (un s t);obtain⟨Y,hY⟩:=Ze (X.or U);have HUn:Hid (∀W,Zr 70 #[.string s,.string t] W (pv U)):=fun W=>Oc W s t U hU
      have HOr:Hid (∀W,Zr 73 #[pv X,pv U] W (pv Y)):=fun W=>Qb9 W X U Y hY
      have HE2:Hid (Y.or (bg (clk k) (P.drop (j+1)) (Q.drop (j+1)))=T):=by
        have:=HE.out;rw[e1,hU] at this;rw[<-this,<-hY]
        show _=_
        cases X <;> rfl
      have hbw:=HW.out.1;have HK:Hid (∀W,Zb wr W->W.cell? ⟨g5,0,none⟩=some (.string (pA X))∧W.cell? ⟨g5,1,none⟩=some (.string (pB' X))∧W.cell? ⟨g5,2,none⟩=some (.bool X.isSome) ∧ ∀j,W.frozen? ⟨g5,j,none⟩=false):=fun W hb=>by
        have:=H3.out.next hb;obtain⟨a,b,c⟩:=this.cells;exact⟨a,b,c,this.fz⟩
      have hc9:=(Lb wr.heap.size wr).drew;clear e1 HE h3 hU hY
      go_upto_region 5 with (fail)
      go_region_with (first
        | (go_at_call 74;first
            | (with_reducible refine(HS1.out _ (Qa hbw hc9)).mono ?_)
            | (with_reducible refine(HS2.out _ (Qa hbw hc9)).mono ?_)
           rintro e w1 ⟨rfl,hb1⟩;replace hc9:=Qa hc9 hb1;obtain⟨c0,c1,c2,fz⟩:=HK.out _ hc9)
        | (go_at_call 70;with_reducible refine(HUn.out _).mono ?_;rintro e w3 ⟨rfl,hb3⟩;replace hc9:=Qa hc9 hb3;obtain⟨c0,c1,c2,fz⟩:=HK.out _ hc9)
        | (go_at_call 73;with_reducible refine(HOr.out _).mono ?_;rintro e w4 ⟨rfl,hb4⟩;replace hc9:=Qa hc9 hb4;obtain⟨c0,c1,c2,fz⟩:=HK.out _ hc9))
      all_goals
        have hp:=(H3.out.next hc9).put Y;have hch:=J8 w4 g5 Y;have HP:=Qe hp;have HCh:=Qe hch;clear hp hch c0 c1 c2 fz;go_wp2
        go_roundg (P.length - (j+1))
        case rel=>go_light;exact⟨j+1,Y,rfl,by omega,by go_num,HE2,HP,Qe ⟨(Qa hbw hc9).trans (HCh.out.below (by rintro b rfl;omega)),(HCh.out.block _ (by omega)).trans ((hc9.block _ (by have:=(Array.getElem?_eq_some_iff.1 HW.out.2).1;exact this)).trans HW.out.2)⟩⟩
        case measure=>go_light;omega
    · have hz : ¬(j:Int)<(P.length:Int) - 1:=by omega
      have e1:=HF.out j (by omega)
      have e2:X=T:=by
        have:=HE.out;rw[e1] at this;rw[<-this]
        cases X <;> rfl
      subst e2;have hW:=HW.out;have r0:wr.cell? ⟨w.heap.size,0,none⟩=some (.string ⟨#[]⟩):=by rw[cell_of_row wr w.heap.size 0 _ _ (0,0) hW.2];rfl
      have r1:wr.cell? ⟨w.heap.size,1,none⟩=some (.string ⟨#[]⟩):=by rw[cell_of_row wr w.heap.size 1 _ _ (0,0) hW.2];rfl
      have r2:wr.cell? ⟨w.heap.size,2,none⟩=some (.bool false):=by rw[cell_of_row wr w.heap.size 2 _ _ (0,0) hW.2];rfl
      have rf : ∀j,wr.frozen? ⟨w.heap.size,j,none⟩=false:=fun j=>frozen_of_row wr w.heap.size j _ _ hW.2
      have hp:=P3.put (x:=none) (show P3 wr w.heap.size none from hW.2) X
      have hch:=J8 wr w.heap.size X;obtain⟨d0,d1,d2⟩:=hp.cells;clear e1 HE HF HS hp;go_wp2;refine Lp (v:=pv X) (by simp[results,results34,go_sem,d0,d1,d2]) rfl ⟨rfl,?_⟩
      exact hW.1.trans (hch.below (by rintro b rfl;omega))
end Go.Proofs.YtdocjikpcbmcgaaGreatDoor
