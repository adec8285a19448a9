/- Own work. -/
import Derived.Test.YtoblgjledefdbabGreatDoorQs22
set_option maxRecDepth 100000
set_option maxHeartbeats 2000000
namespace Go.Proofs.YtoblgjledefdbabGreatDoor
open Go.RowKit
attribute [local go_sem ↓] Go.wp_at_zero Go.wp_at_succ
open Go.Proofs.Tryz
section
open Cv (RdC zl)
theorem Qf9{w:World}{s:Nat}{a b c:Value}(h0:w.cell? ⟨s,0,none⟩=some a)(h1:w.cell? ⟨s,1,none⟩=some b)(h2:w.cell? ⟨s,2,none⟩=some c)(x y z:Value) :
  (((w.setCell ⟨s,0,none⟩ x).setCell ⟨s,1,none⟩ y).setCell ⟨s,2,none⟩ z).cell? ⟨s,0,none⟩=some x∧(((w.setCell ⟨s,0,none⟩ x).setCell ⟨s,1,none⟩ y).setCell ⟨s,2,none⟩ z).cell? ⟨s,1,none⟩=some y∧(((w.setCell ⟨s,0,none⟩ x).setCell ⟨s,1,none⟩ y).setCell ⟨s,2,none⟩ z).cell? ⟨s,2,none⟩=some z:=by
 have n1:(⟨s,0,none⟩:Addr)≠⟨s,1,none⟩:=by simp
 have n2:(⟨s,0,none⟩:Addr)≠⟨s,2,none⟩:=by simp
 have n3:(⟨s,1,none⟩:Addr)≠⟨s,2,none⟩:=by simp
 have m1:(w.setCell ⟨s,0,none⟩ x).cell? ⟨s,1,none⟩=some b:=(Lz _ _ _ _ (by simp)).trans h1
 have m2:((w.setCell ⟨s,0,none⟩ x).setCell ⟨s,1,none⟩ y).cell? ⟨s,2,none⟩=some c:=(Lz _ _ _ _ (by simp)).trans ((Lz _ _ _ _ (by simp)).trans h2)
 refine⟨?_,?_,LU _ _ _ m2⟩
 ·refine(Lz _ _ _ _ (by simp)).trans ((Lz _ _ _ _ (by simp)).trans (LU _ _ _ h0))
 ·exact(Lz _ _ _ _ (by simp)).trans (LU _ _ _ m1)
theorem fin3{W0 WF:World}{p s:Nat}(hps:s≠p){a b c:Value}(h0:W0.cell? ⟨s,0,none⟩=some a)(h1:W0.cell? ⟨s,1,none⟩=some b)(h2:W0.cell? ⟨s,2,none⟩=some c)(v1 v2 x y z:Value)
  (hWF:(((((W0.setCell ⟨p,1,none⟩ v1).setCell ⟨p,2,none⟩ v2).setCell ⟨s,0,none⟩ x).setCell ⟨s,1,none⟩ y).setCell ⟨s,2,none⟩ z).drew=WF) :
  (WF.cell? ⟨s,0,none⟩=some x∧WF.cell? ⟨s,1,none⟩=some y∧WF.cell? ⟨s,2,none⟩=some z)∧ChT (fun b=>b=p∨b=s) W0 WF:=by
 obtain⟨V,hV⟩:∃V,(W0.setCell ⟨p,1,none⟩ v1).setCell ⟨p,2,none⟩ v2=V:=⟨_,rfl⟩;have hq3:∀t,V.cell? ⟨s,t,none⟩=W0.cell? ⟨s,t,none⟩:=fun t=>by
  rw[<-hV,Lz _ _ _ _ (fun e=>hps (LZ Addr.block e).symm),Lz _ _ _ _ (fun e=>hps (LZ Addr.block e).symm)]
 have hc:=((ChT.refl (fun b=>b=p∨b=s) W0).set p 1 v1 (.inl rfl)).set p 2 v2 (.inl rfl)
 rw[hV] at hc hWF;have r:=Qf9 ((hq3 0).trans h0) ((hq3 1).trans h1) ((hq3 2).trans h2) x y z;have hc2:=((hc.set s 0 x (.inr rfl)).set s 1 y (.inr rfl)).set s 2 z (.inr rfl);generalize ((V.setCell ⟨s,0,none⟩ x).setCell ⟨s,1,none⟩ y).setCell ⟨s,2,none⟩ z=U at r hc2 hWF;subst hWF;exact⟨by rw[Ns,Ns,Ns];exact r,hc2.drew⟩
def Ly(w:World)(g:Nat)(M:List (Nat×Nat)):Prop := ∀t c,(Cv.cB (zl M))[t]? = some c->w.cell? ⟨g,t,none⟩=some c
theorem Ly.same{w W:World}{g:Nat}{M:List (Nat×Nat)}(h:Ly w g M)(hb:W.heap[g]? = w.heap[g]?):Ly W g M:=fun t c ht=>(Lq (a:=⟨g,t,none⟩) hb).trans (h t c ht)
theorem QoS{W:World}{g cap:Nat}{M A B:List (Nat×Nat)}{x:Nat×Nat}(h:Ly W g M)(hM:M=A++x::B):RdC W (.slice (Zp g) A.length cap) A.length (Cv.cB (zl A)):=by
 refine⟨_,_,rfl,(fun e=>by cases e),fun ad ha t c ht=> ?_⟩
 cases ha;rw[Addr.add_mid,Lp];refine h t c ?_
 rw[hM,Cv.Qav,Cv.QcU,LG ((List.getElem?_eq_some_iff.1 ht).1)]
 exact ht
theorem QoT{W:World}{g cap c':Nat}{M A B:List (Nat×Nat)}{x:Nat×Nat}(h:Ly W g M)(hM:M=A++x::B)(hc:M.length<=cap){ax:OA}(hax:(if cap=A.length+1 then some (⟨g,0,none⟩:Addr) else some ⟨g,(A.length+1)*2,none⟩)=ax):RdC W (.slice ax B.length c') B.length (Cv.cB (zl B)):=by
 refine⟨_,_,rfl,(fun e=>by rw[e] at hax;split at hax <;> cases hax),fun ad ha t c ht=> ?_⟩
 have htl:=(List.getElem?_eq_some_iff.1 ht).1
 rw[Cv.Qu,Cv.Yd] at htl;have hml:=LZ List.length hM;rw[Lh,LJ] at hml;rw[Le (by omega),ha] at hax
 cases hax;rw[Addr.add_mid];refine h _ c ?_
 have e:zl M=zl (A++[x])++zl B:=by rw[<-Cv.Qav,hM,LP];rfl
 rw[e,Cv.QcU,LW (by rw[Cv.Qu,Cv.Yd];simp),Cv.Qu,Cv.Yd]
 rw[show(A.length+1)*2+t-(A++[x]).length*2=t by simp]
 exact ht
structure WS(w1 wr:World)(p h q:Nat)(vb:Value)(l:List (Int×Nat)):Prop where
 c7:wr.heap[p]? = some (.cells #[vb,.slice none 0 0,.slice none 0 0] 161 (0,0))
 c8:wr.heap[p+1]? = some (.cells #[.int .i64 h,.int .u64 q] 131 (0,0))
 own:Cv.Yp wr (p+2) vb l
 bl:Below p w1 wr
theorem WS.sz{w1 wr:World}{p h q:Nat}{vb:Value}{l:List (Int×Nat)}(h1:WS w1 wr p h q vb l):p+2<=wr.heap.size:=(Array.getElem?_eq_some_iff.1 h1.c8).1
theorem WS.next{w1 wr W:World}{p h q:Nat}{vb:Value}{l:List (Int×Nat)}(h1:WS w1 wr p h q vb l)(hb:Below wr.heap.size wr W):WS w1 W p h q vb l:=by
 have:=h1.sz;exact⟨(hb.block p (by omega)).trans h1.c7,(hb.block (p+1) (by omega)).trans h1.c8,Cv.Qcy h1.own hb,h1.bl.trans (hb.mono (by omega))⟩
theorem WS.cells{w1 wr:World}{p h q:Nat}{vb:Value}{l:List (Int×Nat)}(h1:WS w1 wr p h q vb l):(wr.cell? ⟨p,0,none⟩=some vb∧wr.cell? ⟨p,1,none⟩=some (.slice none 0 0)∧wr.cell? ⟨p,2,none⟩=some (.slice none 0 0))∧(wr.cell? ⟨p+1,0,none⟩=some (.int .i64 h)∧wr.cell? ⟨p+1,1,none⟩=some (.int .u64 q)) ∧ ∀j,wr.frozen? ⟨p,j,none⟩=false∧wr.frozen? ⟨p+1,j,none⟩=false :=
  ⟨⟨by rw[cell_of_row wr p 0 _ _ (0,0) h1.c7];rfl,by rw[cell_of_row wr p 1 _ _ (0,0) h1.c7];rfl,by rw[cell_of_row wr p 2 _ _ (0,0) h1.c7];rfl⟩,
   ⟨by rw[cell_of_row wr (p+1) 0 _ _ (0,0) h1.c8];rfl,by rw[cell_of_row wr (p+1) 1 _ _ (0,0) h1.c8];rfl⟩,fun j=>⟨frozen_of_row wr p j _ _ h1.c7,frozen_of_row wr (p+1) j _ _ h1.c8⟩⟩
theorem WS.step{w1 wr w2:World}{p h q:Nat}{vb v':Value}{l l':List (Int×Nat)}{o:Obj}(h1:WS w1 wr p h q vb l)(hg:(wr.alloc o).grownBy w2 vb.ownBlock)(ho:Cv.Yp w2 (p+2) v' l')(h' q':Nat) :
  (w2.cell? ⟨p,0,none⟩=some vb∧w2.cell? ⟨p+1,0,none⟩=some (.int .i64 h)∧w2.cell? ⟨p+1,1,none⟩=some (.int .u64 q)∧w2.frozen? ⟨p,0,none⟩=false∧w2.frozen? ⟨p+1,0,none⟩=false∧w2.frozen? ⟨p+1,1,none⟩=false) ∧
  WS w1 (((w2.setCell ⟨p,0,none⟩ v').setCell ⟨p+1,0,none⟩ (.int .i64 h')).setCell ⟨p+1,1,none⟩ (.int .u64 q')) p h' q' v' l':=by
 have hs:=h1.sz;have hbl:∀b,b<p+2->w2.heap[b]? = wr.heap[b]? := fun b hb=>by
  rw[hg.block b (by simp;omega) (fun e=>by have:=(h1.own.lt b e.symm).1;omega)]
  exact Below.heap_alloc _ _ _ (by omega)
 have e7:=(hbl p (by omega)).trans h1.c7
 have e8:=(hbl (p+1) (by omega)).trans h1.c8
 refine⟨⟨by rw[cell_of_row w2 p 0 _ _ (0,0) e7];rfl,by rw[cell_of_row w2 (p+1) 0 _ _ (0,0) e8];rfl,by rw[cell_of_row w2 (p+1) 1 _ _ (0,0) e8];rfl,frozen_of_row w2 p 0 _ _ e7,frozen_of_row w2 (p+1) 0 _ _ e8,frozen_of_row w2 (p+1) 1 _ _ e8⟩,?_⟩
 have s7:(w2.setCell ⟨p,0,none⟩ v').heap[p]? = some (.cells #[v',.slice none 0 0,.slice none 0 0] 161 (0,0)):=Ln w2 p 0 _ _ _ e7;have s8:(w2.setCell ⟨p,0,none⟩ v').heap[p+1]? = some (.cells #[.int .i64 h,.int .u64 q] 131 (0,0)):=(Below.heap_setCell _ _ _ _ (by show p+1≠p;omega)).trans e8
 have t8:((w2.setCell ⟨p,0,none⟩ v').setCell ⟨p+1,0,none⟩ (.int .i64 h')).heap[p+1]? = some (.cells #[.int .i64 h',.int .u64 q] 131 (0,0)):=Ln _ (p+1) 0 _ _ _ s8;have t7:=(Below.heap_setCell (w2.setCell ⟨p,0,none⟩ v') ⟨p+1,0,none⟩ (.int .i64 h') p (by show p≠p+1;omega)).trans s7
 refine⟨(Below.heap_setCell _ _ _ _ (by show p≠p+1;omega)).trans t7,Ln _ (p+1) 1 _ _ _ t8,?_,?_⟩
 ·refine Qr ho fun g _ hg=> ?_
  rw[Below.heap_setCell _ _ _ _ (by show g≠p+1;omega),Below.heap_setCell _ _ _ _ (by show g≠p+1;omega),Below.heap_setCell _ _ _ _ (by show g≠p;omega)]
 ·have hb2:Below p wr w2:=((Lc p wr).alloc (by omega) o).grown hg (by simp;omega) fun k hk=>by have:=(h1.own.lt k hk).1;omega
  exact(((h1.bl.trans hb2).setCell (p:=⟨p,0,none⟩) (Lb _) _).setCell (p:=⟨p+1,0,none⟩) (by show p<=p+1;omega) _).setCell (p:=⟨p+1,1,none⟩) (by show p<=p+1;omega) _
theorem QdX(w:World)(n i H:Nat)(A B:List (Nat×Nat))(hw:Wy n i A H B)(hn:n<=2^40)(hi:i<n) :
  Calls prog 85 #[.int .u64 n,.int .u64 i] w fun e w'=> ∃vb va vc,e= .returned (.agg #[vb,va,vc])∧RdC w' vb H (Cv.cB (zl (bes i H)))∧RdC w' va A.length (Cv.cB (zl A))∧RdC w' vc B.length (Cv.cB (zl B))∧Below w.heap.size w w':=by
 obtain⟨M,hM⟩:∃M,Cv.dnL 41 0 n=M:=⟨_,rfl⟩;have hin:=Qcm n hn;rw[hM] at hin;have HM:Hid (∀W,Calls prog 44 #[.int .u64 n] W fun x w'=> ∃g cap,x= .returned (.tuple #[.slice (Zp g) M.length cap,.int .i64 0])∧RdB w' (Zp g) g 0 M.length (zl M)∧M.length<=cap∧cap<=maxLen∧g<w'.heap.size∧W.heap.size<=g∧Ly w' g M∧Below W.heap.size W w'):=fun W=>by
  have:=Cv.Q8 n W;rw[(JQ n hn).1,(JQ n hn).2,hM] at this;refine this.mono fun x w' ⟨v,e1,e2,e3⟩=> ?_
  have hne:0<(zl M).length:=by rw[Cv.Yd,<-hM,hw.all,Lh,LJ];omega
  obtain⟨ao,g,m,cap,rfl,r1,r2⟩:=OP e2 (fun b hb=>by
   obtain⟨c,hc,rfl⟩:=List.mem_map.1 hb;exact(QgI (hin c hc) hn).1)
  have hl:=r1.len;subst hl;obtain rfl:=r1.addr hne;obtain⟨g',cap',cur,hv,hg,hh,hc1,hc2,_⟩:=e2.2.resolve_left (by rintro⟨_,h0⟩;omega)
  cases hv;have hcl:Ly w' g M:=fun t c ht=>by
   have:=e2.cells (g:=g) rfl t c ht
   rwa [Addr.add_mid,Lp] at this
  rw[Cv.Yd] at e1 r1 hc1;exact⟨g,cap,e1,r1,hc1,hc2,(Array.getElem?_eq_some_iff.1 hh).1,hg,hcl,e3⟩
 have hlen:M.length<=41:=by rw[<-hM];exact Cv.Jv 41 0 n
 have HW:Hid (Wy n i A H B∧Cv.dnL 41 0 n=M∧M.length<=41∧i<2^40 ∧ ∀b∈M,(b.2+1)*2^b.1<=n):=⟨hw,hM,hlen,by omega,hin⟩
 have hl63:(M.length:Int)<=41:=by omega
 clear hw hM hin hn hi
 go_enter func85,ntmps85;go_wp2
 go_step3
 go_wp2_with (go_at_call 44;with_reducible refine(HM.out _).mono ?_;rintro e w1 ⟨g,cap,rfl,hR,hcap,hcm,hg,hgs,hcl,hb1⟩)
 go_step3
 go_wp2;have z0:w.heap.size<w1.heap.size:=by have:=hb1.size;simp at this;omega
 have HS0:Hid (WS w1 ((w1.alloc (.cells #[.slice none 0 0,.slice none 0 0,.slice none 0 0] 161)).alloc (.cells #[.int .i64 ((0:Nat):Int),.int .u64 i] 131)) w1.heap.size 0 i (.slice none 0 0) []):=by
  refine⟨?_,?_,Nj _ _ _ _,((Lc _ _).alloc (Lb _) _).alloc (by simp) _⟩
  ·rw[Below.heap_alloc _ _ _ (by simp)];exact Lr w1 _
  ·have:=Lr (w1.alloc (.cells #[.slice none 0 0,.slice none 0 0,.slice none 0 0] 161)) (.cells #[.int .i64 ((0:Nat):Int),.int .u64 i] 131)
   simpa using this
 have HR:Hid (∀W,Below w1.heap.size w1 W->RdB W (Zp g) g 0 M.length (zl M)):=fun W hb=>hR.below hb
 have HB1:Hid (Below w.heap.size w w1):=(bal (Lc _ _) _).trans (hb1.mono (by simp))
 have HP4:Hid (w1.heap[w.heap.size]? = some (.cells #[.slice none 0 0,.slice none 0 0,.slice none 0 0] 161 (0,0))):=(hb1.block w.heap.size (by simp)).trans (Lr w _)
 have HG:Hid (g<w1.heap.size∧M.length<=cap∧cap<=maxLen∧w.heap.size<g∧Ly w1 g M):=⟨hg,hcap,hcm,by simp at hgs;omega,hcl⟩
 have HZ:Hid (w.heap.size<w1.heap.size):=z0;obtain⟨p,hp⟩:∃p,w1.heap.size=p:=⟨_,rfl⟩;have HP:=Qc hp;rw[hp] at HS0 ⊢;clear hR hb1 hg z0 hlen HM hcap hcm hgs hcl
 go_loopg [] H (fun gh wr=> ∃(h:Nat) (vb:Value),h<=H∧gh=H-h∧WS w1 wr p h (i/2^h) vb (zl (bes i h)))
 case atStart=>
  go_light;refine⟨0,.slice none 0 0,Lm _,rfl,?_⟩
  have:=HS0.out
  simpa [bes,zl] using this
 case round=>
  clear HS0;obtain⟨h,vb,hh,rfl,hS⟩:=hrel;obtain⟨q,hq⟩:∃q,i/2^h=q:=⟨_,rfl⟩;rw[hq] at hS;have HQ:=Qc hq;obtain⟨vo,vm,vq,rfl⟩:=Cv.Qs hS.own;have HS:=Qc hS;clear hS hq;generalize wr=wo at *;clear wr;go_wp2
  go_loopg [20] M.length (fun gh x wr2=> ∃j:Nat,j<=M.length∧gh=M.length-j∧x= .int .i64 j∧(∀t,t<j->M.getD t (0,0)≠(h,q))∧Below wo.heap.size wo wr2)
  case atStart=>go_light;exact⟨0,Lm _,rfl,rfl,fun t ht=>absurd ht (NS _),Lc _ _⟩
  case round=>
   obtain⟨j,hj,rfl,rfl,hno,hb⟩:=hrel;have hS2:=HS.out.next hb;have hsz:=hS2.sz;have hRd:=HR.out _ (show Below w1.heap.size w1 wr by rw[HP.out];exact hS2.bl)
   by_cases hlt:j<M.length
   ·have hz:(j:Int)<(M.length:Int):=by omega
    have hz0:(0:Int)<=(j:Int):=Lf _;obtain⟨m0,m1⟩:=hRd.cell j hlt;rw[Ql5 M j hlt] at m0 m1;obtain⟨⟨mh,mk⟩,hm⟩:∃m,M.getD j (0,0)=m:=⟨_,rfl⟩;rw[hm] at m0 m1;rw[Lp] at m0 m1;have hS3:=hS2.next (bal (Lc _ _) (.cells #[.int .i64 mh,.int .u64 mk] 131));obtain⟨⟨k0,k1,k2⟩,⟨k3,k4⟩,fz⟩:=hS3.cells;have f0:=fun j=>(fz j).1
    have f1:=fun j=>(fz j).2
    by_cases hf:(mh,mk)=(h,q)
    ·obtain⟨rfl,rfl⟩:=Prod.mk.inj hf;have hfd:=Qny HW.out.1 (j:=j) (h:=mh) (by rw[HW.out.2.1];exact hlt) (by rw[HW.out.2.1,HQ.out];exact hm)
     have HX:Hid (j=A.length∧mh=H):=hfd;have hle:(j:Int)<=(cap:Int):=by have:=HG.out.2.1;omega
     have e1:IntKind.i64.wrap ((j:Int)+1)=((j+1:Nat):Int):=by rw[LE];omega
     have HB:=Qc hb;have HS3:=Qc hS3;clear hm hf hfd hno hj hb hRd hS2 hS3 fz
     go_upto_region 8 with (fail)
     obtain⟨W0,hW0⟩:∃W0,wr.alloc (.cells #[.int .i64 mh,.int .u64 mk] 131)=W0:=⟨_,rfl⟩;rw[hW0] at k0 k1 k2 k3 k4 HS3 ⊢;have HBL:Hid (Below p w1 W0):=HS3.out.bl;simp only[hW0] at f0 f1;have c4:∀t,t<3->W0.cell? ⟨w.heap.size,t,none⟩=some (.slice none 0 0)∧W0.frozen? ⟨w.heap.size,t,none⟩=false:=fun t ht=>by
      have hx:W0.heap[w.heap.size]? = some (.cells #[.slice none 0 0,.slice none 0 0,.slice none 0 0] 161 (0,0)):=by
       refine Eq.trans ?_ HP4.out
       refine HBL.out.block _ ?_
       have:=HZ.out;have:=HP.out;omega
      refine⟨?_,frozen_of_row W0 _ t _ _ hx⟩
      rw[cell_of_row W0 _ t _ _ (0,0) hx]
      match t,ht with
      | 0,_=>rfl
      | 1,_=>rfl
      | 2,_=>rfl
     have c40:=(c4 0 (by decide)).1
     have c41:=(c4 1 (by decide)).1
     have c42:=(c4 2 (by decide)).1
     have f40:=(c4 0 (by decide)).2
     have f41:=(c4 1 (by decide)).2
     have f42:=(c4 2 (by decide)).2
     have hlt1:((j+1:Nat):Int)<=(M.length:Int):=by omega
     have hle2:((M.length:Nat):Int)<=(cap:Int):=by have:=HG.out.2.1;omega
     have hpw:w.heap.size≠p:=by have:=HZ.out;have:=HP.out;omega
     clear c4
     go_region
     obtain⟨ax,hax⟩:∃ax,(if cap=j+1 then some (⟨g,0,none⟩:Addr) else some ⟨g,(j+1)*2,none⟩)=ax:=⟨_,rfl⟩
     have HA:=Qc hax;rw[hax];clear hax;go_wp2;obtain⟨WF,hWF⟩:∃WF,(((((W0.setCell ⟨p,1,none⟩ (.slice (Zp g) j cap)).setCell ⟨p,2,none⟩ (.slice ax (M.length-(j+1)) (cap-(j+1)))).setCell ⟨w.heap.size,0,none⟩ (.slice vo vm vq)).setCell ⟨w.heap.size,1,none⟩ (.slice (Zp g) j cap)).setCell ⟨w.heap.size,2,none⟩ (.slice ax (M.length-(j+1)) (cap-(j+1)))).drew=WF:=⟨_,rfl⟩;obtain⟨⟨r0,r1,r2⟩,hch⟩:=fin3 hpw c40 c41 c42 _ _ _ _ _ hWF;have hoth:∀b,b≠p->b≠w.heap.size->WF.heap[b]? = W0.heap[b]? := fun b h1 h2=>hch.block b (by rintro(e|e);exact h1 e;exact h2 e)
     rw[hWF];clear hWF;refine LA (v := .agg #[.slice vo vm vq,.slice (Zp g) j cap,.slice ax (M.length-(j+1)) (cap-(j+1))]) (by simp[results,results85,go_sem,r0,r1,r2]) rfl ?_
     have hz1:=HZ.out;have hp1:=HP.out;obtain⟨g1,g2,g3,g4,g5⟩:=HG.out;obtain⟨rfl,rfl⟩:=HX.out;have hall:=HW.out.1.all;rw[HW.out.2.1] at hall;have hclF:Ly WF g M:=(g5.same (HBL.out.block g (by omega))).same (hoth g (by omega) (by omega))
     have hml:=LZ List.length hall;rw[Lh,LJ] at hml;refine⟨_,_,_,rfl,?_,QoS hclF hall,?_,?_⟩
     ·have hown:Cv.Yp WF (p+2) (.slice vo vm vq) (zl (bes i mh)):=Qr HS3.out.own fun b _ hb=>hoth b (by omega) (by omega)
      have:=Cv.Qdz hown;rw[Cv.Yd,UU] at this;exact this
     ·have:=QoT (c':=cap-(A.length+1)) hclF hall g2 HA.out;rw[show M.length-(A.length+1)=B.length by omega]
      exact this
     ·refine⟨?_,?_,?_,?_,fun b hb=> ?_⟩
      ·exact hch.os.trans (HBL.out.os.trans HB1.out.os)
      ·exact hch.tape.trans (HBL.out.tape.trans HB1.out.tape)
      ·exact hch.output.trans (HBL.out.output.trans HB1.out.output)
      ·have:=HS3.out.sz;have:=hch.size;omega
      ·rw[hoth b (by omega) (by omega),HBL.out.block b (by omega)];exact HB1.out.block b hb
    ·have hne:¬((h:Int)=(mh:Int)∧(q:Int)=(mk:Int)):=by
      rintro⟨e1,e2⟩;exact hf (Prod.ext (by show mh=h;omega) (by show mk=q;omega))
     have HN:Hid (∀t,t<j+1->M.getD t (0,0)≠(h,q)):=fun t ht=>by
      rcases Ic (Iz ht) with hx|rfl
      ·exact hno t hx
      ·rw[hm];exact hf
     have HB:=Qc (bal hb (.cells #[.int .i64 mh,.int .u64 mk] 131));have hj41:(j:Int)<41:=by omega
     clear hm hf hno hj hb hRd hS2 hS3 fz;go_wp2
     all_goals
      go_roundg (M.length-(j+1))
      case rel=>go_light;exact⟨j+1,by omega,rfl,by go_num,HN.out,HB.out⟩
      case measure=>go_light;omega
   ·obtain rfl:j=M.length:=by omega
    have hz:¬((M.length:Int)<(M.length:Int)):=by omega
    have hhH:h<H:=by
     apply Nat.lt_of_not_le
     intro hge;obtain rfl:h=H:=by omega
     obtain⟨a1,a2⟩:=QpX HW.out.1;rw[HW.out.2.1] at a1 a2;exact hno _ a1 (by rw[a2,HQ.out])
    have hb2:=HS.out.next hb;obtain⟨⟨k0,k1,k2⟩,⟨k3,k4⟩,fz⟩:=hS2.cells;have hi40:=HW.out.2.2.2.1;have hq40:q<2^40:=by have:=HQ.out;have:=NI i (2^h);omega
    have ex:bits .xor .u64 (q:Int) 1=((sb q:Nat):Int):=by rw[<-QkI];exact bits_xor_u64_nat q 1 (by omega) (by decide)
    have hh40:(h:Int)<41:=by have:=HW.out.1.hH;omega
    have e2:IntKind.u64.wrap ((q:Int)/2)=((q/2:Nat):Int):=by rw[IntKind.wrap_u64];omega
    clear hlt hno hj hRd
    go_wp2_with (at_builtin;refine Cv.Q7 _ rfl _ _ rfl (p+2) _ (zl (bes i h)) rfl (hS2.own.alloc _) _ [((h:Int),sb q)] rfl (Cv.UN wr (h:Int) (sb q) 131) ?c1 ?c2 ?_)
    case c1=>have:=HW.out.1.hH;rw[Cv.Yd,UU];simp;omega
    case c2=>have:=hS2.sz;simp;omega
    intro v' w2 r1 r2 _;have hE:zl (bes i h)++[((h:Int),sb q)]=zl (bes i (h+1)):=by rw[Qd7,Cv.Qav,HQ.out];rfl
    rw[hE] at r1;obtain⟨⟨k5,k6,k7,f5,f6,f7⟩,hN⟩:=hS2.step r2 r1 (h+1) (q/2);obtain⟨ao2,m2,c2,rfl⟩:=Cv.Qs r1;have HN:=Qc hN;have HH:=Qc hhH;clear r1 r2 hE hN hb hb2 hS2 HS k0 k1 k2 k3 k4 fz hsz;go_wp2
    go_roundg (H-(h+1))
    case rel=>
     go_light;refine⟨h+1,.slice ao2 m2 c2,by have:=HH.out;omega,rfl,?_⟩
     have:=HN.out;rw[show i/2^(h+1)=q/2 by rw[<-Qai,HQ.out]]
     rw[show((h+1:Nat):Int)=(h:Int)+1 by omega,show((q/2:Nat):Int)=(q:Int)/2 by omega] at this
     exact this
    case measure=>go_light;have:=HH.out;omega
theorem Qoc{w:World}{g0:Nat}{u0 u1 u2:Value}{L0 L1 L2:LB}(c0:w.cell? ⟨g0,0,none⟩=some u0)(c1:w.cell? ⟨g0,1,none⟩=some u1)(c2:w.cell? ⟨g0,2,none⟩=some u2)(r0:RdC w u0 L0.length (cS L0))(r1:RdC w u1 L1.length (cS L1))(r2:RdC w u2 L2.length (cS L2)):CatS w g0 [u0,u1,u2] [L0,L1,L2]:=by
 refine⟨rfl,fun j hj=> ?_,fun j hj=> ?_⟩
 ·match j,hj with
  | 0,_=>exact c0
  | 1,_=>exact c1
  | 2,_=>exact c2
 ·match j,hj with
  | 0,_=>exact r0
  | 1,_=>exact r1
  | 2,_=>exact r2
section
variable {w W:World} {s:Nat} {a b c d e f:Value}
end
end
section
open Cv (RdC zl cU)
theorem QiM(w:World)(kd k:Int)(old size:Nat)(vs vd:Value):Below w.heap.size w (w.alloc (.cells #[.int .i64 kd,.int .i64 k,.int .u64 old,.int .u64 size,vs,vd] 68)):=bal (Lc _ _) _
theorem Um(w:World)(kd k:Int)(old size:Nat)(sa:OA)(ns sc:Nat)(da:OA)(n2 dc:Nat)(x:Nat)(hx:ns=1 -> ∃b o,sa=some ⟨b,o,none⟩∧w.cell? ⟨b,o,none⟩=some (.int .u64 x))
  (r:Bool) (hr:decide (kd=1∧(1<=k∧k<=32)∧size<=2^40∧old=0∧ns=1∧x<size)=r) :
  Calls prog 84 #[.agg #[.int .i64 kd,.int .i64 k,.int .u64 old,.int .u64 size,.slice sa ns sc,.slice da n2 dc]] w fun e w'=>e= .returned (.bool r)∧Below w.heap.size w w':=by
 have hb:=QiM w kd k old size (.slice sa ns sc) (.slice da n2 dc)
 by_cases h1:kd=1
 ·subst h1
  by_cases h2:1<=k∧k<=32
  ·have HC:Hid (∀W,Calls prog 47 #[.int .i64 k] W fun e w'=>e= .returned (.int .i64 0)∧W=w'):=fun W=>by
    have:=(QB W k);rw[show chk k=0 by rw[chk,Le (by omega)]] at this
    exact this.mono fun _ _ h=>⟨h.1,h.2.symm⟩
   by_cases h3:size<=2^40
   ·have hd:decide ((1099511627776:Int)<(size:Int))=false:=LC (by omega)
    by_cases h4:old=0
    ·subst h4
     by_cases h5:ns=1
     ·subst h5;obtain⟨b,o,rfl,c0⟩:=hx rfl;have c1:=(hb.cell (p:=⟨b,o,none⟩) (Ll w _ c0)).trans c0;have HR:Hid (decide (x<size)=r):=by
       rw[<-hr]
       show decide _=decide _
       simp only[true_and,decide_eq_decide];omega
      clear hr hx h2 h3 c0;rw[show((0:Nat):Int)=0 from rfl] at *
      go_enter func84,ntmps84
      go_upto_region 5 with (go_at_call 47;with_reducible refine(HC.out _).mono ?_;rintro e w1 ⟨rfl,rfl⟩)
      go_quiet (fail)
      go_wp2
      go_ret
      exact⟨by rw[HR.out];rfl,Qi hb _⟩
     ·have hz:decide (ns=1)=false:=LC h5
      have hz1:¬ns=1:=h5;have hz2:¬(ns:Int)=1:=by omega
      have hz3:decide ((ns:Int)=1)=false:=LC hz2
      obtain rfl:false=r:=by rw[<-hr];exact(LC (by rintro⟨_,_,_,_,h,_⟩;exact h5 h)).symm
      clear hr hx h2 h3 h5;rw[show((0:Nat):Int)=0 from rfl] at *
      go_enter func84,ntmps84
      go_upto_region 5 with (go_at_call 47;with_reducible refine(HC.out _).mono ?_;rintro e w1 ⟨rfl,rfl⟩)
      go_quiet (fail)
      go_wp2
      go_ret
      exact⟨rfl,Qi hb _⟩
    ·have hz:¬(old:Int)=0:=by omega
     obtain rfl:false=r:=by rw[<-hr];exact(LC (by rintro⟨_,_,_,h,_,_⟩;exact h4 h)).symm
     clear hr hx h2 h3 h4
     go_enter func84,ntmps84
     go_wp2_with (go_at_call 47;with_reducible refine(HC.out _).mono ?_;rintro e w1 ⟨rfl,rfl⟩)
     go_ret
     exact⟨rfl,hb⟩
   ·have hd:decide ((1099511627776:Int)<(size:Int))=true:=LS (by omega)
    obtain rfl:false=r:=by rw[<-hr];exact(LC (by rintro⟨_,_,h,_,_,_⟩;exact h3 h)).symm
    clear hr hx h2 h3
    go_enter func84,ntmps84
    go_wp2_with (go_at_call 47;with_reducible refine(HC.out _).mono ?_;rintro e w1 ⟨rfl,rfl⟩)
    go_ret
    exact⟨rfl,hb⟩
  ·have HC:Hid (∀W,Calls prog 47 #[.int .i64 k] W fun e w'=>e= .returned (.int .i64 70)∧W=w'):=fun W=>by
    have:=(QB W k);rw[show chk k=70 by rw[chk,Lo (by omega)]] at this
    exact this.mono fun _ _ h=>⟨h.1,h.2.symm⟩
   obtain rfl:false=r:=by rw[<-hr];exact(LC (by rintro⟨_,h,_,_,_,_⟩;exact h2 h)).symm
   clear hr hx h2
   go_enter func84,ntmps84
   go_wp2_with (go_at_call 47;with_reducible refine(HC.out _).mono ?_;rintro e w1 ⟨rfl,rfl⟩)
   go_ret
   exact⟨rfl,hb⟩
 ·obtain rfl:false=r:=by rw[<-hr];exact(LC (by rintro⟨h,_,_,_,_,_⟩;exact h1 h)).symm
  clear hr hx
  go_enter func84,ntmps84;go_wp2
  go_ret
  exact⟨rfl,hb⟩
instance (k:Int) (m:Nat) (D:LB):Decidable (fil k m D):=by unfold fil;infer_instance
theorem Jw(w:World)(kd k:Int)(old size:Nat)(sa:OA)(ns sc:Nat)(da:OA)(db dO dc:Nat)(D:LB)(hr:RdS w da db dO D.length D)(hm:D.length<=9223372036854775807)(a0 a1 a2:OA)(n0 n1 n2 c0 c1 c2:Nat)(h0:n0<=100)(h1:n1<=100)(h2:n2<=100)(r:Bool)(hq:decide (fil k (n0+n1+n2) D)=r) :
  Calls prog 86 #[.agg #[.slice a0 n0 c0,.slice a1 n1 c1,.slice a2 n2 c2],.agg #[.int .i64 kd,.int .i64 k,.int .u64 old,.int .u64 size,.slice sa ns sc,.slice da D.length dc]] w fun e w'=>e= .returned (.bool r)∧Below w.heap.size w w':=by
 have hbx:=bal (bal (Lc w.heap.size w) (.cells #[.slice a0 n0 c0,.slice a1 n1 c1,.slice a2 n2 c2] 161)) (.cells #[.int .i64 kd,.int .i64 k,.int .u64 old,.int .u64 size,.slice sa ns sc,.slice da D.length dc] 68);have e1:IntKind.i64.wrap ((n0:Int)+(n1:Int))=(n0:Int)+(n1:Int):=by rw[LE];omega
 have e2:IntKind.i64.wrap ((n0:Int)+(n1:Int)+(n2:Int))=((n0+n1+n2:Nat):Int):=by rw[LE];omega
 by_cases hl:D.length=n0+n1+n2
 ·have hz:(n0:Int)+(n1:Int)+(n2:Int)=(D.length:Int):=by omega
  rw[<-hl] at e2;have HR:Hid (∀W,Below w.heap.size w W->RdS W da db dO D.length D):=fun W hb=>hr.next hb (Lb _)
  have h6:=(Jf (w.alloc (.cells #[.slice a0 n0 c0,.slice a1 n1 c1,.slice a2 n2 c2] 161)) (.int .i64 kd) (.int .i64 k) (.int .u64 old) (.int .u64 size) (.slice sa ns sc) (.slice da D.length dc)).cells.2.1;rw[LK] at h6;have HQ:Hid (decide (∀d∈D,(d.size:Int)=k)=r):=by
   rw[<-hq]
   show decide _=decide _
   simp only[fil,hl,true_and]
  have h63:(D.length:Int)<=300:=by omega
  clear hr hq hm hl h0 h1 h2 hz
  go_enter func86,ntmps86;go_wp2
  go_loopg [25] D.length (fun g i wr=> ∃j:Nat,j<=D.length∧g=D.length-j∧i= .int .i64 j∧(∀t,t<j->((D.getD t ByteArray.empty).size:Int)=k)∧wr=(w.alloc (.cells #[.slice a0 n0 c0,.slice a1 n1 c1,.slice a2 n2 c2] 161)).alloc (.cells #[.int .i64 kd,.int .i64 k,.int .u64 old,.int .u64 size,.slice sa ns sc,.slice da D.length dc] 68))
  case atStart=>go_light;exact⟨0,Lm _,rfl,rfl,fun t ht=>absurd ht (NS _),rfl⟩
  case round=>
   obtain⟨j,hj,rfl,rfl,hal,hwr⟩:=hrel;rw[<-hwr] at hbx h6;have HWR:=Qc hwr;clear hwr
   by_cases hlt:j<D.length
   ·have hz:(j:Int)<(D.length:Int):=by omega
    have hz0:(0:Int)<=(j:Int):=Lf _;have hrd:=HR.out wr hbx;obtain rfl:=hrd.ptr (by omega)
    have cj:=hrd.at hlt;obtain⟨d,hd⟩:∃d,D.getD j ByteArray.empty=d:=⟨_,rfl⟩;rw[hd] at cj
    by_cases hk:(d.size:Int)=k
    ·have HN:Hid (∀t,t<j+1->((D.getD t ByteArray.empty).size:Int)=k):=fun t ht=>by
      rcases Ic (Iz ht) with hx|rfl
      ·exact hal t hx
      ·rw[hd];exact hk
     clear hd hal hrd;go_wp2
     go_roundg (D.length-(j+1))
     case rel=>go_light;exact⟨j+1,by omega,rfl,by go_num,HN.out,HWR.out⟩
     case measure=>go_light;omega
    ·obtain rfl:false=r:=by
      rw[<-HQ.out];refine(LC fun h=>hk ?_).symm
      rw[<-hd];exact h _ (QI hlt)
     clear hd hal hrd;go_wp2
     go_ret
     exact⟨rfl,hbx⟩
   ·obtain rfl:j=D.length:=by omega
    have hz:¬((D.length:Int)<(D.length:Int)):=by omega
    obtain rfl:true=r:=by
     rw[<-HQ.out];refine(LS fun d hd=> ?_).symm
     obtain⟨t,ht,rfl⟩:=L8 hd;have:=hal t ht
     rwa [La,Ld ht] at this
    clear hal hlt;go_wp2
    go_ret
    exact⟨rfl,hbx⟩
 ·have hz:¬(D.length:Int)=((n0+n1+n2:Nat):Int):=by omega
  obtain⟨nn,hnn⟩:∃nn,n0+n1+n2=nn:=⟨_,rfl⟩;rw[hnn] at e2 hz;obtain rfl:false=r:=by rw[<-hq];exact(LC (by rintro⟨h,_⟩;exact hl h)).symm
  clear hr hq hl h0 h1 h2 hnn
  go_enter func86,ntmps86;go_wp2
  go_ret
  exact⟨rfl,hbx⟩
theorem Qln(q:Nat)(h:q<18446744073709551616):bits .and .u64 (q:Int) 1=((q%2:Nat):Int):=by
 have:=bits_and_u64_nat q 1 h (by decide)
 rw[IN] at this;exact this
theorem QfX(w:World)(ht:Tb w)(k:Int)(i:Nat)(hi:i<2^40)(d:BA)(hd:d.size=clk k)(da:OA)(db dO dc:Nat)(D:LB)(hr:RdS w da db dO D.length D)(hl:D.length<=40)(hs:∀s∈D,s.size=clk k)(r:BA)(hq:rs (clk k) i d D=r) :
  Calls prog 87 #[.int .i64 k,.int .u64 i,.string d,.slice da D.length dc] w fun e w'=>e= .returned (.string r)∧Below w.heap.size w w':=by
 have HT:Hid (∀W,Below w.heap.size w W->Tb W):=fun W hb=>ht.next hb
 have HR:Hid (∀W,Below w.heap.size w W->RdS W da db dO D.length D):=fun W hb=>hr.next hb (Lb _)
 have HX:Hid (i<2^40∧D.length<=40∧(∀s∈D,s.size=clk k)∧rs (clk k) i d D=r∧d.size=clk k):=⟨hi,hl,hs,hq,hd⟩;have h63:(D.length:Int)<=40:=by omega
 have hb0:=Lc w.heap.size w;clear ht hr hi hl hs hq hd
 go_enter func87,ntmps87;go_wp2
 go_loopg [2,13] D.length (fun g x n wr=> ∃(j:Nat) (y:BA),j<=D.length∧g=D.length-j∧n= .int .i64 j∧x= .string y∧Hid (rs (clk k) i d (D.take j)=y∧y.size=clk k)∧Below w.heap.size w wr)
 case atStart=>go_light;exact⟨0,d,Lm _,rfl,rfl,rfl,⟨by simp[rs],HX.out.2.2.2.2⟩,hb0⟩
 case round=>
  clear hb0;obtain⟨j,y,hj,rfl,rfl,rfl,HY,hb⟩:=hrel
  by_cases hlt:j<D.length
  ·have hz:(j:Int)<(D.length:Int):=by omega
   have hz0:(0:Int)<=(j:Int):=Lf _;have hz64:(j:Int)<64:=by omega
   have hrd:=HR.out wr hb;obtain rfl:=hrd.ptr (by omega)
   have cj:=hrd.at hlt;obtain⟨x,hx⟩:∃x,D.getD j ByteArray.empty=x:=⟨_,rfl⟩;rw[hx] at cj;have zx:x.size=clk k:=by rw[<-hx];exact HX.out.2.2.1 _ (QI hlt)
   obtain⟨q,hq⟩:∃q,i/2^j=q:=⟨_,rfl⟩;have eq1:(i:Int)/2^j=(q:Int):=by rw[<-hq];simp
   have hqb:q<18446744073709551616:=by have:=HX.out.1;have:=NI i (2^j);omega
   have ea:=Qln q hqb;have htn:D.take (j+1)=D.take j++[x]:=by rw[Yl ByteArray.empty D j hlt,hx]
   have hstep:rs (clk k) i d (D.take (j+1))=dg (clk k) (stT q y x):=by
    rw[htn,Qf4,HY.out.1,Lv,Ir hj,hq]
   have hc:=Qn k
   by_cases hodd:q%2=1
   ·have ea2:bits .and .u64 (q:Int) 1=1:=by rw[ea,hodd];rfl
    rw[stT,Lo hodd] at hstep;obtain⟨y2,hy2⟩:∃y2,dg (clk k) (Qz x y)=y2:=⟨_,rfl⟩;have HN:=YU wr (HT.out wr hb) k x y (by omega) (by have:=HY.out.2;omega) y2 hy2
    have HG:Hid (rs (clk k) i d (D.take (j+1))=y2∧y2.size=clk k):=⟨hstep.trans hy2,by rw[<-hy2];exact Q3 hc _⟩
    clear hstep htn hx zx hq hqb ea hodd hrd hy2 hc HY
    go_wp2_with (go_at_call 155;with_reducible refine HN.mono ?_;rintro e w1 ⟨rfl,hb1⟩)
    go_roundg (D.length-(j+1))
    case rel=>go_light;exact⟨j+1,y2,by omega,rfl,by go_num,rfl,HG,Qa hb hb1⟩
    case measure=>go_light;omega
   ·have ea2:bits .and .u64 (q:Int) 1=0:=by rw[ea,show q%2=0 by omega];rfl
    rw[stT,Le hodd] at hstep;obtain⟨y2,hy2⟩:∃y2,dg (clk k) (Qz y x)=y2:=⟨_,rfl⟩;have HN:=YU wr (HT.out wr hb) k y x (by have:=HY.out.2;omega) (by omega) y2 hy2
    have HG:Hid (rs (clk k) i d (D.take (j+1))=y2∧y2.size=clk k):=⟨hstep.trans hy2,by rw[<-hy2];exact Q3 hc _⟩
    clear hstep htn hx zx hq hqb ea hodd hrd hy2 hc HY
    go_wp2_with (go_at_call 155;with_reducible refine HN.mono ?_;rintro e w1 ⟨rfl,hb1⟩)
    go_roundg (D.length-(j+1))
    case rel=>go_light;exact⟨j+1,y2,by omega,rfl,by go_num,rfl,HG,Qa hb hb1⟩
    case measure=>go_light;omega
  ·obtain rfl:j=D.length:=by omega
   have hz:¬((D.length:Int)<(D.length:Int)):=by omega
   obtain rfl:y=r:=by rw[<-HX.out.2.2.2.1,<-HY.out.1,NA]
   clear HY hlt;go_wp2
   go_ret
   exact⟨rfl,hb⟩
end
end Go.Proofs.YtoblgjledefdbabGreatDoor
