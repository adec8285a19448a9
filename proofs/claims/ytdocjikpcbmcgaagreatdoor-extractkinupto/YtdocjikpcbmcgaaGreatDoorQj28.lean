/- Own work. -/
import Derived.Test.YtdocjikpcbmcgaaGreatDoorQj08
set_option maxRecDepth 100000
set_option maxHeartbeats 2000000
namespace Go.Proofs.YtdocjikpcbmcgaaGreatDoor
open Go.RowKit
attribute [local go_sem ↓] Go.wp_at_zero Go.wp_at_succ
section
open Cv (RdC zl)
theorem QfP{w:World}{s:Nat}{a b c:Value}(h0:w.cell? ⟨s,0,none⟩=some a)(h1:w.cell? ⟨s,1,none⟩=some b)(h2:w.cell? ⟨s,2,none⟩=some c)(x y z:Value) :
  (((w.setCell ⟨s,0,none⟩ x).setCell ⟨s,1,none⟩ y).setCell ⟨s,2,none⟩ z).cell? ⟨s,0,none⟩=some x∧(((w.setCell ⟨s,0,none⟩ x).setCell ⟨s,1,none⟩ y).setCell ⟨s,2,none⟩ z).cell? ⟨s,1,none⟩=some y∧(((w.setCell ⟨s,0,none⟩ x).setCell ⟨s,1,none⟩ y).setCell ⟨s,2,none⟩ z).cell? ⟨s,2,none⟩=some z:=by
 have n1:(⟨s,0,none⟩:Addr)≠⟨s,1,none⟩:=by simp
 have n2:(⟨s,0,none⟩:Addr)≠⟨s,2,none⟩:=by simp
 have n3:(⟨s,1,none⟩:Addr)≠⟨s,2,none⟩:=by simp
 have m1:(w.setCell ⟨s,0,none⟩ x).cell? ⟨s,1,none⟩=some b:=(Lj _ _ _ _ (by simp)).trans h1
 have m2:((w.setCell ⟨s,0,none⟩ x).setCell ⟨s,1,none⟩ y).cell? ⟨s,2,none⟩=some c:=(Lj _ _ _ _ (by simp)).trans ((Lj _ _ _ _ (by simp)).trans h2)
 refine⟨?_,?_,LT _ _ _ m2⟩
 ·refine(Lj _ _ _ _ (by simp)).trans ((Lj _ _ _ _ (by simp)).trans (LT _ _ _ h0))
 ·exact(Lj _ _ _ _ (by simp)).trans (LT _ _ _ m1)
theorem fin3{W0 WF:World}{p s:Nat}(hps:s≠p){a b c:Value}(h0:W0.cell? ⟨s,0,none⟩=some a)(h1:W0.cell? ⟨s,1,none⟩=some b)(h2:W0.cell? ⟨s,2,none⟩=some c)(v1 v2 x y z:Value)
  (hWF:(((((W0.setCell ⟨p,1,none⟩ v1).setCell ⟨p,2,none⟩ v2).setCell ⟨s,0,none⟩ x).setCell ⟨s,1,none⟩ y).setCell ⟨s,2,none⟩ z).drew=WF) :
  (WF.cell? ⟨s,0,none⟩=some x∧WF.cell? ⟨s,1,none⟩=some y∧WF.cell? ⟨s,2,none⟩=some z)∧ChT (fun b=>b=p∨b=s) W0 WF:=by
 obtain⟨V,hV⟩:=Ze ((W0.setCell ⟨p,1,none⟩ v1).setCell ⟨p,2,none⟩ v2);have hq3 : ∀t,V.cell? ⟨s,t,none⟩=W0.cell? ⟨s,t,none⟩:=fun t=>by
  rw[<-hV,Lj _ _ _ _ (fun e=>hps (congrArg Addr.block e).symm),Lj _ _ _ _ (fun e=>hps (congrArg Addr.block e).symm)]
 have hc:=((ChT.refl (fun b=>b=p∨b=s) W0).set p 1 v1 (.inl rfl)).set p 2 v2 (.inl rfl)
 rw[hV] at hc hWF;have r:=QfP ((hq3 0).trans h0) ((hq3 1).trans h1) ((hq3 2).trans h2) x y z;have hc2:=((hc.set s 0 x (.inr rfl)).set s 1 y (.inr rfl)).set s 2 z (.inr rfl);generalize ((V.setCell ⟨s,0,none⟩ x).setCell ⟨s,1,none⟩ y).setCell ⟨s,2,none⟩ z=U at r hc2 hWF;subst hWF;exact⟨by rw[Nd,Nd,Nd];exact r,hc2.drew⟩
def Ly(w:World)(g:Nat)(M:List (Nat×Nat)):Prop := ∀t c,(Cv.cB (zl M))[t]? = some c->w.cell? ⟨g,t,none⟩=some c
theorem Ly.same{w W:World}{g:Nat}{M:List (Nat×Nat)}(h:Ly w g M)(hb:W.heap[g]? = w.heap[g]?):Ly W g M:=fun t c ht=>(Lr (a:=⟨g,t,none⟩) hb).trans (h t c ht)
theorem QmG{W:World}{g cap:Nat}{M A B:List (Nat×Nat)}{x:Nat×Nat}(h:Ly W g M)(hM:M=A++x::B):RdC W (.slice (some ⟨g,0,none⟩) A.length cap) A.length (Cv.cB (zl A)):=by
 refine⟨_,_,rfl,(fun e=>by cases e),fun ad ha t c ht => ?_⟩
 cases ha;rw[Addr.add_mid,Ll];refine h t c ?_
 rw[hM,Cv.YL,Cv.Ou,LN ((Lw.1 ht).1)];exact ht
theorem QmH{W:World}{g cap c':Nat}{M A B:List (Nat×Nat)}{x:Nat×Nat}(h:Ly W g M)(hM:M=A++x::B)(hc:M.length<=cap){ax:OA}(hax:(if cap=A.length+1 then some (⟨g,0,none⟩:Addr) else some ⟨g,(A.length+1)*2,none⟩)=ax):RdC W (.slice ax B.length c') B.length (Cv.cB (zl B)):=by
 refine⟨_,_,rfl,(fun e=>by rw[e] at hax;split at hax <;> cases hax),fun ad ha t c ht => ?_⟩
 have htl:=(Lw.1 ht).1;rw[Cv.Qw,Cv.Qq] at htl;have hml:=congrArg List.length hM;rw[Ld,Lu] at hml;rw[if_neg (by omega),ha] at hax
 cases hax;rw[Addr.add_mid];refine h _ c ?_
 have e:zl M=zl (A++[x])++zl B:=by rw[<-Cv.YL,hM,Lt];rfl
 rw[e,Cv.Ou,LM (by rw[Cv.Qw,Cv.Qq];simp),Cv.Qw,Cv.Qq]
 rw[show(A.length+1)*2+t - (A++[x]).length*2=t by simp]
 exact ht
structure WS(w1 wr:World)(p h q:Nat)(vb:Value)(l:List (Int×Nat)):Prop where
 c7:wr.heap[p]? = some (.cells #[vb,.slice none 0 0,.slice none 0 0] 154 (0,0))
 c8:wr.heap[p+1]? = some (.cells #[.int .i64 (h:Int),.int .u64 (q:Int)] 83 (0,0))
 own:Cv.Qz wr (p+2) vb l
 bl:Below p w1 wr
theorem WS.sz{w1 wr:World}{p h q:Nat}{vb:Value}{l:List (Int×Nat)}(h1:WS w1 wr p h q vb l):p+2<=wr.heap.size:=(Lg.1 h1.c8).1
theorem WS.next{w1 wr W:World}{p h q:Nat}{vb:Value}{l:List (Int×Nat)}(h1:WS w1 wr p h q vb l)(hb:Zb wr W):WS w1 W p h q vb l:=by
 have:=h1.sz;exact⟨(hb.block p (by omega)).trans h1.c7,(hb.block (p+1) (by omega)).trans h1.c8,Cv.YP h1.own hb,h1.bl.trans (hb.mono (by omega))⟩
theorem WS.cells{w1 wr:World}{p h q:Nat}{vb:Value}{l:List (Int×Nat)}(h1:WS w1 wr p h q vb l):(wr.cell? ⟨p,0,none⟩=some vb∧wr.cell? ⟨p,1,none⟩=some (.slice none 0 0)∧wr.cell? ⟨p,2,none⟩=some (.slice none 0 0))∧(wr.cell? ⟨p+1,0,none⟩=some (.int .i64 (h:Int))∧wr.cell? ⟨p+1,1,none⟩=some (.int .u64 (q:Int))) ∧ ∀j,wr.frozen? ⟨p,j,none⟩=false∧wr.frozen? ⟨p+1,j,none⟩=false :=
  ⟨⟨by rw[cell_of_row wr p 0 _ _ (0,0) h1.c7];rfl,by rw[cell_of_row wr p 1 _ _ (0,0) h1.c7];rfl,by rw[cell_of_row wr p 2 _ _ (0,0) h1.c7];rfl⟩,
   ⟨by rw[cell_of_row wr (p+1) 0 _ _ (0,0) h1.c8];rfl,by rw[cell_of_row wr (p+1) 1 _ _ (0,0) h1.c8];rfl⟩,fun j=>⟨frozen_of_row wr p j _ _ h1.c7,frozen_of_row wr (p+1) j _ _ h1.c8⟩⟩
theorem WS.step{w1 wr w2:World}{p h q:Nat}{vb v':Value}{l l':List (Int×Nat)}{o:Obj}(h1:WS w1 wr p h q vb l)(hg:(wr.alloc o).grownBy w2 vb.ownBlock)(ho:Cv.Qz w2 (p+2) v' l')(h' q':Nat) :
  (w2.cell? ⟨p,0,none⟩=some vb∧w2.cell? ⟨p+1,0,none⟩=some (.int .i64 (h:Int))∧w2.cell? ⟨p+1,1,none⟩=some (.int .u64 (q:Int))∧w2.frozen? ⟨p,0,none⟩=false∧w2.frozen? ⟨p+1,0,none⟩=false∧w2.frozen? ⟨p+1,1,none⟩=false) ∧
  WS w1 (((w2.setCell ⟨p,0,none⟩ v').setCell ⟨p+1,0,none⟩ (.int .i64 (h':Int))).setCell ⟨p+1,1,none⟩ (.int .u64 (q':Int))) p h' q' v' l':=by
 have hs:=h1.sz;have hbl : ∀b,b<p+2->w2.heap[b]? = wr.heap[b]? := fun b hb=>by
  rw[hg.block b (by simp;omega) (fun e=>by have:=(h1.own.lt b e.symm).1;omega)]
  exact Below.heap_alloc _ _ _ (by omega)
 have e7:=(hbl p (by omega)).trans h1.c7
 have e8:=(hbl (p+1) (by omega)).trans h1.c8
 refine⟨⟨by rw[cell_of_row w2 p 0 _ _ (0,0) e7];rfl,by rw[cell_of_row w2 (p+1) 0 _ _ (0,0) e8];rfl,by rw[cell_of_row w2 (p+1) 1 _ _ (0,0) e8];rfl,frozen_of_row w2 p 0 _ _ e7,frozen_of_row w2 (p+1) 0 _ _ e8,frozen_of_row w2 (p+1) 1 _ _ e8⟩,?_⟩
 have s7:(w2.setCell ⟨p,0,none⟩ v').heap[p]? = some (.cells #[v',.slice none 0 0,.slice none 0 0] 154 (0,0)):=heap_setCell_same w2 p 0 _ _ _ e7;have s8:(w2.setCell ⟨p,0,none⟩ v').heap[p+1]? = some (.cells #[.int .i64 (h:Int),.int .u64 (q:Int)] 83 (0,0)):=(Below.heap_setCell _ _ _ _ (by show p+1≠p;omega)).trans e8
 have t8:((w2.setCell ⟨p,0,none⟩ v').setCell ⟨p+1,0,none⟩ (.int .i64 (h':Int))).heap[p+1]? = some (.cells #[.int .i64 (h':Int),.int .u64 (q:Int)] 83 (0,0)):=heap_setCell_same _ (p+1) 0 _ _ _ s8;have t7:=(Below.heap_setCell (w2.setCell ⟨p,0,none⟩ v') ⟨p+1,0,none⟩ (.int .i64 (h':Int)) p (by show p≠p+1;omega)).trans s7
 refine⟨(Below.heap_setCell _ _ _ _ (by show p≠p+1;omega)).trans t7,heap_setCell_same _ (p+1) 1 _ _ _ t8,?_,?_⟩
 ·refine Qj ho fun g _ hg => ?_
  rw[Below.heap_setCell _ _ _ _ (by show g≠p+1;omega),Below.heap_setCell _ _ _ _ (by show g≠p+1;omega),Below.heap_setCell _ _ _ _ (by show g≠p;omega)]
 ·have hb2:Below p wr w2:=((Below.refl p wr).alloc (by omega) o).grown hg (by simp;omega) fun k hk=>by have:=(h1.own.lt k hk).1;omega
  exact(((h1.bl.trans hb2).setCell (p:=⟨p,0,none⟩) (Lb _) _).setCell (p:=⟨p+1,0,none⟩) (by show p<=p+1;omega) _).setCell (p:=⟨p+1,1,none⟩) (by show p<=p+1;omega) _
theorem QlA(w:World)(n i H:Nat)(A B:List (Nat×Nat))(hw:Wy n i A H B)(hn:n<=2^40)(hi:i<n) :
  Calls Tryz.prog 113 #[.int .u64 (n:Int),.int .u64 (i:Int)] w fun e w' => ∃vb va vc,e = .returned (.agg #[vb,va,vc])∧RdC w' vb H (Cv.cB (zl (bes i H)))∧RdC w' va A.length (Cv.cB (zl A))∧RdC w' vc B.length (Cv.cB (zl B))∧Below w.heap.size w w':=by
 obtain⟨M,hM⟩:=Ze (Cv.dnL 41 0 n);have hin:=JG n hn;rw[hM] at hin;have HM:Hid (∀W,Calls Tryz.prog 75 #[.int .u64 (n:Int)] W fun x w' => ∃g cap,x = .returned (.tuple #[.slice (some ⟨g,0,none⟩) M.length cap,.int .i64 0])∧RdB w' (some ⟨g,0,none⟩) g 0 M.length (zl M)∧M.length<=cap∧cap<=maxLen∧g<w'.heap.size∧W.heap.size<=g∧Ly w' g M∧Below W.heap.size W w'):=fun W=>by
  have:=Cv.Yq n W;rw[(UM n hn).1,(UM n hn).2,hM] at this;refine this.mono fun x w' ⟨v,e1,e2,e3⟩ => ?_
  have hne:0<(zl M).length:=by rw[Cv.Qq,<-hM,hw.all,Ld,Lu];omega
  obtain⟨ao,g,m,cap,rfl,r1,r2⟩:=Uc e2 (fun b hb=>by
   obtain⟨c,hc,rfl⟩:=LE.1 hb;exact(Oq (hin c hc) hn).1)
  have hl:=r1.len;subst hl;obtain rfl:=r1.addr hne;obtain⟨g',cap',cur,hv,hg,hh,hc1,hc2,_⟩:=e2.2.resolve_left (by rintro⟨_,h0⟩;omega)
  cases hv;have hcl:Ly w' g M:=fun t c ht=>by
   have:=e2.cells (g:=g) rfl t c ht
   rwa [Addr.add_mid,Ll] at this
  rw[Cv.Qq] at e1 r1 hc1;exact⟨g,cap,e1,r1,hc1,hc2,(Lg.1 hh).1,hg,hcl,e3⟩
 have hlen:M.length<=41:=by rw[<-hM];exact Cv.YI 41 0 n
 have HW:Hid (Wy n i A H B∧Cv.dnL 41 0 n=M∧M.length<=41∧i<2^40 ∧ ∀b∈M,(b.2+1)*2^b.1<=n):=⟨hw,hM,hlen,by omega,hin⟩
 have hl63:(M.length:Int)<=41:=by omega
 clear hw hM hin hn hi
 go_enter Tryz.func113,Tryz.ntmps113;go_wp2
 go_step3
 go_wp2_with (go_at_call 75;with_reducible refine(HM.out _).mono ?_;rintro e w1 ⟨g,cap,rfl,hR,hcap,hcm,hg,hgs,hcl,hb1⟩)
 go_step3
 go_wp2;have z0:w.heap.size<w1.heap.size:=by have:=hb1.size;simp at this;omega
 have HS0:Hid (WS w1 ((w1.alloc (.cells #[.slice none 0 0,.slice none 0 0,.slice none 0 0] 154)).alloc (.cells #[.int .i64 ((0:Nat):Int),.int .u64 (i:Int)] 83)) w1.heap.size 0 i (.slice none 0 0) []):=by
  refine⟨?_,?_,Lz _ _ _ _,((Below.refl _ _).alloc (Lb _) _).alloc (by simp) _⟩
  ·rw[Below.heap_alloc _ _ _ (by simp)];exact heap_alloc_new w1 _
  ·have:=heap_alloc_new (w1.alloc (.cells #[.slice none 0 0,.slice none 0 0,.slice none 0 0] 154)) (.cells #[.int .i64 ((0:Nat):Int),.int .u64 (i:Int)] 83)
   simpa using this
 have HR:Hid (∀W,Below w1.heap.size w1 W->RdB W (some ⟨g,0,none⟩) g 0 M.length (zl M)):=fun W hb=>hR.below hb
 have HB1:Hid (Below w.heap.size w w1):=(bal (Below.refl _ _) _).trans (hb1.mono (by simp))
 have HP4:Hid (w1.heap[w.heap.size]? = some (.cells #[.slice none 0 0,.slice none 0 0,.slice none 0 0] 154 (0,0))):=(hb1.block w.heap.size (by simp)).trans (heap_alloc_new w _)
 have HG:Hid (g<w1.heap.size∧M.length<=cap∧cap<=maxLen∧w.heap.size<g∧Ly w1 g M):=⟨hg,hcap,hcm,by simp at hgs;omega,hcl⟩
 have HZ:Hid (w.heap.size<w1.heap.size):=z0;obtain⟨p,hp⟩:=Ze w1.heap.size;have HP:=Qc hp;rw[hp] at HS0 ⊢;clear hR hb1 hg z0 hlen HM hcap hcm hgs hcl
 go_loopg [] H (fun gh wr => ∃(h:Nat) (vb:Value),h<=H∧gh=H - h∧WS w1 wr p h (i / 2^h) vb (zl (bes i h)))
 case atStart =>
  go_light;refine⟨0,.slice none 0 0,Lf _,rfl,?_⟩
  have:=HS0.out
  simpa [bes,zl] using this
 case round =>
  clear HS0;obtain⟨h,vb,hh,rfl,hS⟩:=hrel;obtain⟨q,hq⟩:=Ze (i / 2^h);rw[hq] at hS;have HQ:=Qc hq;obtain⟨vo,vm,vq,rfl⟩:=Cv.Qh hS.own;have HS:=Qc hS;clear hS hq;generalize wr=wo at *;clear wr;go_wp2
  go_loopg [20] M.length (fun gh x wr2 => ∃j:Nat,j<=M.length∧gh=M.length - j∧x = .int .i64 (j:Int)∧(∀t,t<j->M.getD t (0,0)≠(h,q))∧Below wo.heap.size wo wr2)
  case atStart =>
   go_light;exact⟨0,Lf _,rfl,rfl,fun t ht=>absurd ht (NC _),Below.refl _ _⟩
  case round =>
   obtain⟨j,hj,rfl,rfl,hno,hb⟩:=hrel;have hS2:=HS.out.next hb;have hsz:=hS2.sz;have hRd:=HR.out _ (show Below w1.heap.size w1 wr by rw[HP.out];exact hS2.bl)
   by_cases hlt:j<M.length
   ·have hz:(j:Int)<(M.length:Int):=by omega
    have hz0:(0:Int)<=(j:Int):=Le _;obtain⟨m0,m1⟩:=hRd.cell j hlt;rw[Qkx M j hlt] at m0 m1;obtain⟨⟨mh,mk⟩,hm⟩ : ∃m,M.getD j (0,0)=m:=⟨_,rfl⟩;rw[hm] at m0 m1;rw[Ll] at m0 m1;have hS3:=hS2.next (bal (Below.refl _ _) (.cells #[.int .i64 (mh:Int),.int .u64 (mk:Int)] 83));obtain⟨⟨k0,k1,k2⟩,⟨k3,k4⟩,fz⟩:=hS3.cells;have f0:=fun j=>(fz j).1
    have f1:=fun j=>(fz j).2
    by_cases hf:(mh,mk)=(h,q)
    ·obtain⟨rfl,rfl⟩:=Prod.mk.inj hf;have hfd:=QlF HW.out.1 (j:=j) (h:=mh) (by rw[HW.out.2.1];exact hlt) (by rw[HW.out.2.1,HQ.out];exact hm)
     have HX:Hid (j=A.length∧mh=H):=hfd;have hle:(j:Int)<=(cap:Int):=by have:=HG.out.2.1;omega
     have e1:IntKind.i64.wrap ((j:Int)+1)=((j+1:Nat):Int):=by rw[LW];omega
     have HB:=Qc hb;have HS3:=Qc hS3;clear hm hf hfd hno hj hb hRd hS2 hS3 fz
     go_upto_region 8 with (fail)
     obtain⟨W0,hW0⟩:=Ze (wr.alloc (.cells #[.int .i64 (mh:Int),.int .u64 (mk:Int)] 83));rw[hW0] at k0 k1 k2 k3 k4 HS3 ⊢;have HBL:Hid (Below p w1 W0):=HS3.out.bl;simp only[hW0] at f0 f1;have c4 : ∀t,t<3->W0.cell? ⟨w.heap.size,t,none⟩=some (.slice none 0 0)∧W0.frozen? ⟨w.heap.size,t,none⟩=false:=fun t ht=>by
      have hx:W0.heap[w.heap.size]? = some (.cells #[.slice none 0 0,.slice none 0 0,.slice none 0 0] 154 (0,0)):=by
       refine Eq.trans ?_ HP4.out
       refine HBL.out.block _ ?_
       have:=HZ.out;have:=HP.out;omega
      refine⟨?_,frozen_of_row W0 _ t _ _ hx⟩
      rw[cell_of_row W0 _ t _ _ (0,0) hx]
      match t,ht with
      | 0,_=>rfl
      | 1,_=>rfl
      | 2,_=>rfl
     have c40:=(c4 0 (by decide)).1
     have c41:=(c4 1 (by decide)).1
     have c42:=(c4 2 (by decide)).1
     have f40:=(c4 0 (by decide)).2
     have f41:=(c4 1 (by decide)).2
     have f42:=(c4 2 (by decide)).2
     have hlt1:((j+1:Nat):Int)<=(M.length:Int):=by omega
     have hle2:((M.length:Nat):Int)<=(cap:Int):=by have:=HG.out.2.1;omega
     have hpw:w.heap.size≠p:=by have:=HZ.out;have:=HP.out;omega
     clear c4
     go_region
     obtain⟨ax,hax⟩:=Ze (if cap=j+1 then some (⟨g,0,none⟩:Addr) else some ⟨g,(j+1)*2,none⟩)
     have HA:=Qc hax;rw[hax];clear hax;go_wp2;obtain⟨WF,hWF⟩:=Ze ((((((W0.setCell ⟨p,1,none⟩ (.slice (some ⟨g,0,none⟩) j cap)).setCell ⟨p,2,none⟩ (.slice ax (M.length - (j+1)) (cap - (j+1)))).setCell ⟨w.heap.size,0,none⟩ (.slice vo vm vq)).setCell ⟨w.heap.size,1,none⟩ (.slice (some ⟨g,0,none⟩) j cap)).setCell ⟨w.heap.size,2,none⟩ (.slice ax (M.length - (j+1)) (cap - (j+1)))).drew);obtain⟨⟨r0,r1,r2⟩,hch⟩:=fin3 hpw c40 c41 c42 _ _ _ _ _ hWF;have hoth : ∀b,b≠p->b≠w.heap.size->WF.heap[b]? = W0.heap[b]? := fun b h1 h2=>hch.block b (by rintro(e|e);exact h1 e;exact h2 e)
     rw[hWF];clear hWF;refine bodyPost_ret (v := .agg #[.slice vo vm vq,.slice (some ⟨g,0,none⟩) j cap,.slice ax (M.length - (j+1)) (cap - (j+1))]) (by simp[results,Tryz.results113,go_sem,r0,r1,r2]) rfl ?_
     have hz1:=HZ.out;have hp1:=HP.out;obtain⟨g1,g2,g3,g4,g5⟩:=HG.out;obtain⟨rfl,rfl⟩:=HX.out;have hall:=HW.out.1.all;rw[HW.out.2.1] at hall;have hclF:Ly WF g M:=(g5.same (HBL.out.block g (by omega))).same (hoth g (by omega) (by omega))
     have hml:=congrArg List.length hall;rw[Ld,Lu] at hml;refine⟨_,_,_,rfl,?_,QmG hclF hall,?_,?_⟩
     ·have hown:Cv.Qz WF (p+2) (.slice vo vm vq) (zl (bes i mh)):=Qj HS3.out.own fun b _ hb=>hoth b (by omega) (by omega)
      have:=Cv.Uo hown;rw[Cv.Qq,Jj] at this;exact this
     ·have:=QmH (c':=cap - (A.length+1)) hclF hall g2 HA.out;rw[show M.length - (A.length+1)=B.length by omega]
      exact this
     ·refine⟨?_,?_,?_,?_,fun b hb => ?_⟩
      ·exact hch.os.trans (HBL.out.os.trans HB1.out.os)
      ·exact hch.tape.trans (HBL.out.tape.trans HB1.out.tape)
      ·exact hch.output.trans (HBL.out.output.trans HB1.out.output)
      ·have:=HS3.out.sz;have:=hch.size;omega
      ·rw[hoth b (by omega) (by omega),HBL.out.block b (by omega)];exact HB1.out.block b hb
    ·have hne : ¬((h:Int)=(mh:Int)∧(q:Int)=(mk:Int)):=by
      rintro⟨e1,e2⟩;exact hf (Prod.ext (by show mh=h;omega) (by show mk=q;omega))
     have HN:Hid (∀t,t<j+1->M.getD t (0,0)≠(h,q)):=fun t ht=>by
      rcases Nu (NI ht) with hx|rfl
      ·exact hno t hx
      ·rw[hm];exact hf
     have HB:=Qc (bal hb (.cells #[.int .i64 (mh:Int),.int .u64 (mk:Int)] 83));have hj41:(j:Int)<41:=by omega
     clear hm hf hno hj hb hRd hS2 hS3 fz;go_wp2
     all_goals
      go_roundg (M.length - (j+1))
      case rel =>
       go_light;exact⟨j+1,by omega,rfl,by go_num,HN.out,HB.out⟩
      case measure=>go_light;omega
   ·obtain rfl:j=M.length:=by omega
    have hz : ¬((M.length:Int)<(M.length:Int)):=by omega
    have hhH:h<H:=by
     apply Nat.lt_of_not_le
     intro hge;obtain rfl:h=H:=by omega
     obtain⟨a1,a2⟩:=QnB HW.out.1;rw[HW.out.2.1] at a1 a2;exact hno _ a1 (by rw[a2,HQ.out])
    have hb2:=HS.out.next hb;obtain⟨⟨k0,k1,k2⟩,⟨k3,k4⟩,fz⟩:=hS2.cells;have hi40:=HW.out.2.2.2.1;have hq40:q<2^40:=by have:=HQ.out;have:=Nv i (2^h);omega
    have ex:bits .xor .u64 (q:Int) 1=((sb q:Nat):Int):=by rw[<-QfN];exact bits_xor_u64_nat q 1 (by omega) (by decide)
    have hh40:(h:Int)<41:=by have:=HW.out.1.hH;omega
    have e2:IntKind.u64.wrap ((q:Int) / 2)=((q / 2:Nat):Int):=by rw[IntKind.wrap_u64];omega
    clear hlt hno hj hRd
    go_wp2_with (at_builtin;refine Cv.QO _ rfl _ _ rfl (p+2) _ (zl (bes i h)) rfl (hS2.own.alloc _) _ [((h:Int),sb q)] rfl (Cv.Ux wr (h:Int) (sb q) 83) ?c1 ?c2 ?_)
    case c1=>have:=HW.out.1.hH;rw[Cv.Qq,Jj];simp;omega
    case c2=>have:=hS2.sz;simp;omega
    intro v' w2 r1 r2 _;have hE:zl (bes i h)++[((h:Int),sb q)]=zl (bes i (h+1)):=by rw[Qd0,Cv.YL,HQ.out];rfl
    rw[hE] at r1;obtain⟨⟨k5,k6,k7,f5,f6,f7⟩,hN⟩:=hS2.step r2 r1 (h+1) (q / 2);obtain⟨ao2,m2,c2,rfl⟩:=Cv.Qh r1;have HN:=Qc hN;have HH:=Qc hhH;clear r1 r2 hE hN hb hb2 hS2 HS k0 k1 k2 k3 k4 fz hsz;go_wp2
    go_roundg (H - (h+1))
    case rel =>
     go_light;refine⟨h+1,.slice ao2 m2 c2,by have:=HH.out;omega,rfl,?_⟩
     have:=HN.out;rw[show i / 2^(h+1)=q / 2 by rw[<-Of,HQ.out]]
     rw[show((h+1:Nat):Int)=(h:Int)+1 by omega,show((q / 2:Nat):Int)=(q:Int) / 2 by omega] at this
     exact this
    case measure=>go_light;have:=HH.out;omega
theorem Ql9{w:World}{g0:Nat}{u0 u1 u2:Value}{L0 L1 L2:LB}(c0:w.cell? ⟨g0,0,none⟩=some u0)(c1:w.cell? ⟨g0,1,none⟩=some u1)(c2:w.cell? ⟨g0,2,none⟩=some u2)(r0:RdC w u0 L0.length (cS L0))(r1:RdC w u1 L1.length (cS L1))(r2:RdC w u2 L2.length (cS L2)):CatS w g0 [u0,u1,u2] [L0,L1,L2]:=by
 refine⟨rfl,fun j hj => ?_,fun j hj => ?_⟩
 ·match j,hj with
  | 0,_=>exact c0
  | 1,_=>exact c1
  | 2,_=>exact c2
 ·match j,hj with
  | 0,_=>exact r0
  | 1,_=>exact r1
  | 2,_=>exact r2
section
variable {w W:World} {s:Nat} {a b c d e f:Value}
end
end
section
open Cv (RdC zl cU)
theorem Qh0(w:World)(kd k:Int)(old size:Nat)(vs vd:Value):Zb w (w.alloc (.cells #[.int .i64 kd,.int .i64 k,.int .u64 (old:Int),.int .u64 (size:Int),vs,vd] 55)):=bal (Below.refl _ _) _
theorem Qej(w:World)(kd k:Int)(old size:Nat)(sa:OA)(ns sc:Nat)(da:OA)(n2 dc:Nat)(x:Nat)(hx:ns=1 -> ∃b o,sa=some ⟨b,o,none⟩∧w.cell? ⟨b,o,none⟩=some (.int .u64 (x:Int)))
  (r:Bool) (hr:decide (kd=1∧(1<=k∧k<=32)∧size<=2^40∧old=0∧ns=1∧x<size)=r) :
  Zr 112 #[.agg #[.int .i64 kd,.int .i64 k,.int .u64 (old:Int),.int .u64 (size:Int),.slice sa ns sc,.slice da n2 dc]] w (.bool r):=by
 have hb:=Qh0 w kd k old size (.slice sa ns sc) (.slice da n2 dc)
 by_cases h1:kd=1
 ·subst h1
  by_cases h2:1<=k∧k<=32
  ·have HC:Hid (∀W,Calls Tryz.prog 61 #[.int .i64 k] W fun e w'=>e = .returned (.int .i64 0)∧W=w'):=fun W=>by
    have:=(QW W k);rw[show chk k=0 by rw[chk,if_neg (by omega)]] at this
    exact this.mono fun _ _ h=>⟨h.1,h.2.symm⟩
   by_cases h3:size<=2^40
   ·have hd:decide ((1099511627776:Int)<(size:Int))=false:=decide_eq_false (by omega)
    by_cases h4:old=0
    ·subst h4
     by_cases h5:ns=1
     ·subst h5;obtain⟨b,o,rfl,c0⟩:=hx rfl;have c1:=(hb.cell (p:=⟨b,o,none⟩) (Lh w _ c0)).trans c0;have HR:Hid (decide (x<size)=r):=by
       rw[<-hr]
       show decide _=decide _
       simp only[true_and,decide_eq_decide];omega
      clear hr hx h2 h3 c0;rw[show((0:Nat):Int)=0 from rfl] at *
      go_enter Tryz.func112,Tryz.ntmps112
      go_upto_region 5 with (go_at_call 61;with_reducible refine(HC.out _).mono ?_;rintro e w1 ⟨rfl,rfl⟩)
      go_quiet (fail)
      go_wp2
      go_ret
      exact⟨by rw[HR.out];rfl,Qd hb _⟩
     ·have hz:decide (ns=1)=false:=decide_eq_false h5
      have hz1 : ¬ns=1:=h5;have hz2 : ¬(ns:Int)=1:=by omega
      have hz3:decide ((ns:Int)=1)=false:=decide_eq_false hz2
      obtain rfl:false=r:=by rw[<-hr];exact(decide_eq_false (by rintro⟨_,_,_,_,h,_⟩;exact h5 h)).symm
      clear hr hx h2 h3 h5;rw[show((0:Nat):Int)=0 from rfl] at *
      go_enter Tryz.func112,Tryz.ntmps112
      go_upto_region 5 with (go_at_call 61;with_reducible refine(HC.out _).mono ?_;rintro e w1 ⟨rfl,rfl⟩)
      go_quiet (fail)
      go_wp2
      go_ret
      exact⟨rfl,Qd hb _⟩
    ·have hz : ¬(old:Int)=0:=by omega
     obtain rfl:false=r:=by rw[<-hr];exact(decide_eq_false (by rintro⟨_,_,_,h,_,_⟩;exact h4 h)).symm
     clear hr hx h2 h3 h4
     go_enter Tryz.func112,Tryz.ntmps112
     go_wp2_with (go_at_call 61;with_reducible refine(HC.out _).mono ?_;rintro e w1 ⟨rfl,rfl⟩)
     go_ret
     exact⟨rfl,hb⟩
   ·have hd:decide ((1099511627776:Int)<(size:Int))=true:=decide_eq_true (by omega)
    obtain rfl:false=r:=by rw[<-hr];exact(decide_eq_false (by rintro⟨_,_,h,_,_,_⟩;exact h3 h)).symm
    clear hr hx h2 h3
    go_enter Tryz.func112,Tryz.ntmps112
    go_wp2_with (go_at_call 61;with_reducible refine(HC.out _).mono ?_;rintro e w1 ⟨rfl,rfl⟩)
    go_ret
    exact⟨rfl,hb⟩
  ·have HC:Hid (∀W,Calls Tryz.prog 61 #[.int .i64 k] W fun e w'=>e = .returned (.int .i64 70)∧W=w'):=fun W=>by
    have:=(QW W k);rw[show chk k=70 by rw[chk,if_pos (by omega)]] at this
    exact this.mono fun _ _ h=>⟨h.1,h.2.symm⟩
   obtain rfl:false=r:=by rw[<-hr];exact(decide_eq_false (by rintro⟨_,h,_,_,_,_⟩;exact h2 h)).symm
   clear hr hx h2
   go_enter Tryz.func112,Tryz.ntmps112
   go_wp2_with (go_at_call 61;with_reducible refine(HC.out _).mono ?_;rintro e w1 ⟨rfl,rfl⟩)
   go_ret
   exact⟨rfl,hb⟩
 ·obtain rfl:false=r:=by rw[<-hr];exact(decide_eq_false (by rintro⟨h,_,_,_,_,_⟩;exact h1 h)).symm
  clear hr hx
  go_enter Tryz.func112,Tryz.ntmps112;go_wp2
  go_ret
  exact⟨rfl,hb⟩
instance (k:Int) (m:Nat) (D:LB):Decidable (fil k m D):=by unfold fil;infer_instance
theorem Qed(w:World)(kd k:Int)(old size:Nat)(sa:OA)(ns sc:Nat)(da:OA)(db dO dc:Nat)(D:LB)(hr:RdS w da db dO D.length D)(hm:D.length<=9223372036854775807)(a0 a1 a2:OA)(n0 n1 n2 c0 c1 c2:Nat)(h0:n0<=100)(h1:n1<=100)(h2:n2<=100)(r:Bool)(hq:decide (fil k (n0+n1+n2) D)=r) :
  Zr 114 #[.agg #[.slice a0 n0 c0,.slice a1 n1 c1,.slice a2 n2 c2],.agg #[.int .i64 kd,.int .i64 k,.int .u64 (old:Int),.int .u64 (size:Int),.slice sa ns sc,.slice da D.length dc]] w (.bool r):=by
 have hbx:=bal (bal (Below.refl w.heap.size w) (.cells #[.slice a0 n0 c0,.slice a1 n1 c1,.slice a2 n2 c2] 154)) (.cells #[.int .i64 kd,.int .i64 k,.int .u64 (old:Int),.int .u64 (size:Int),.slice sa ns sc,.slice da D.length dc] 55);have e1:IntKind.i64.wrap ((n0:Int)+(n1:Int))=(n0:Int)+(n1:Int):=by rw[LW];omega
 have e2:IntKind.i64.wrap ((n0:Int)+(n1:Int)+(n2:Int))=((n0+n1+n2:Nat):Int):=by rw[LW];omega
 by_cases hl:D.length=n0+n1+n2
 ·have hz:(n0:Int)+(n1:Int)+(n2:Int)=(D.length:Int):=by omega
  rw[<-hl] at e2;have HR:Hid (∀W,Zb w W->RdS W da db dO D.length D):=fun W hb=>hr.next hb (Lb _)
  have h6:=(QV (w.alloc (.cells #[.slice a0 n0 c0,.slice a1 n1 c1,.slice a2 n2 c2] 154)) (.int .i64 kd) (.int .i64 k) (.int .u64 (old:Int)) (.int .u64 (size:Int)) (.slice sa ns sc) (.slice da D.length dc)).cells.2.1;rw[Lp] at h6;have HQ:Hid (decide (∀d∈D,(d.size:Int)=k)=r):=by
   rw[<-hq]
   show decide _=decide _
   simp only[fil,hl,true_and]
  have h63:(D.length:Int)<=300:=by omega
  clear hr hq hm hl h0 h1 h2 hz
  go_enter Tryz.func114,Tryz.ntmps114;go_wp2
  go_loopg [25] D.length (fun g i wr => ∃j:Nat,j<=D.length∧g=D.length - j∧i = .int .i64 (j:Int)∧(∀t,t<j->((D.getD t ByteArray.empty).size:Int)=k)∧wr=(w.alloc (.cells #[.slice a0 n0 c0,.slice a1 n1 c1,.slice a2 n2 c2] 154)).alloc (.cells #[.int .i64 kd,.int .i64 k,.int .u64 (old:Int),.int .u64 (size:Int),.slice sa ns sc,.slice da D.length dc] 55))
  case atStart =>
   go_light;exact⟨0,Lf _,rfl,rfl,fun t ht=>absurd ht (NC _),rfl⟩
  case round =>
   obtain⟨j,hj,rfl,rfl,hal,hwr⟩:=hrel;rw[<-hwr] at hbx h6;have HWR:=Qc hwr;clear hwr
   by_cases hlt:j<D.length
   ·have hz:(j:Int)<(D.length:Int):=by omega
    have hz0:(0:Int)<=(j:Int):=Le _;have hrd:=HR.out wr hbx;obtain rfl:=hrd.ptr (by omega)
    have cj:=hrd.at hlt;obtain⟨d,hd⟩:=Ze (D.getD j ByteArray.empty);rw[hd] at cj
    by_cases hk:(d.size:Int)=k
    ·have HN:Hid (∀t,t<j+1->((D.getD t ByteArray.empty).size:Int)=k):=fun t ht=>by
      rcases Nu (NI ht) with hx|rfl
      ·exact hal t hx
      ·rw[hd];exact hk
     clear hd hal hrd;go_wp2
     go_roundg (D.length - (j+1))
     case rel =>
      go_light;exact⟨j+1,by omega,rfl,by go_num,HN.out,HWR.out⟩
     case measure=>go_light;omega
    ·obtain rfl:false=r:=by
      rw[<-HQ.out];refine(decide_eq_false fun h=>hk ?_).symm
      rw[<-hd];exact h _ (QI hlt)
     clear hd hal hrd;go_wp2
     go_ret
     exact⟨rfl,hbx⟩
   ·obtain rfl:j=D.length:=by omega
    have hz : ¬((D.length:Int)<(D.length:Int)):=by omega
    obtain rfl:true=r:=by
     rw[<-HQ.out];refine(decide_eq_true fun d hd => ?_).symm
     obtain⟨t,ht,rfl⟩:=LZ hd;have:=hal t ht
     rwa [La,Lc ht] at this
    clear hal hlt;go_wp2
    go_ret
    exact⟨rfl,hbx⟩
 ·have hz : ¬(D.length:Int)=((n0+n1+n2:Nat):Int):=by omega
  obtain⟨nn,hnn⟩:=Ze (n0+n1+n2);rw[hnn] at e2 hz;obtain rfl:false=r:=by rw[<-hq];exact(decide_eq_false (by rintro⟨h,_⟩;exact hl h)).symm
  clear hr hq hl h0 h1 h2 hnn
  go_enter Tryz.func114,Tryz.ntmps114;go_wp2
  go_ret
  exact⟨rfl,hbx⟩
theorem Qj1(q:Nat)(h:q<18446744073709551616):bits .and .u64 (q:Int) 1=((q % 2:Nat):Int):=by
 have:=bits_and_u64_nat q 1 h (by decide)
 rw[IX] at this;exact this
theorem Qfw(w:World)(ht:Tb w)(k:Int)(i:Nat)(hi:i<2^40)(d:BA)(hd:d.size=clk k)(da:OA)(db dO dc:Nat)(D:LB)(hr:RdS w da db dO D.length D)(hl:D.length<=40)(hs : ∀s∈D,s.size=clk k)(r:BA)(hq:rs (clk k) i d D=r) :
  Zr 115 #[.int .i64 k,.int .u64 (i:Int),.string d,.slice da D.length dc] w (.string r):=by
 have HT:Hid (∀W,Zb w W->Tb W):=fun W hb=>ht.next hb
 have HR:Hid (∀W,Zb w W->RdS W da db dO D.length D):=fun W hb=>hr.next hb (Lb _)
 have HX:Hid (i<2^40∧D.length<=40∧(∀s∈D,s.size=clk k)∧rs (clk k) i d D=r∧d.size=clk k):=⟨hi,hl,hs,hq,hd⟩;have h63:(D.length:Int)<=40:=by omega
 have hb0:=Below.refl w.heap.size w;clear ht hr hi hl hs hq hd
 go_enter Tryz.func115,Tryz.ntmps115;go_wp2
 go_loopg [2,13] D.length (fun g x n wr => ∃(j:Nat) (y:BA),j<=D.length∧g=D.length - j∧n = .int .i64 (j:Int)∧x = .string y∧Hid (rs (clk k) i d (D.take j)=y∧y.size=clk k)∧Zb w wr)
 case atStart =>
  go_light;exact⟨0,d,Lf _,rfl,rfl,rfl,⟨by simp[rs],HX.out.2.2.2.2⟩,hb0⟩
 case round =>
  clear hb0;obtain⟨j,y,hj,rfl,rfl,rfl,HY,hb⟩:=hrel
  by_cases hlt:j<D.length
  ·have hz:(j:Int)<(D.length:Int):=by omega
   have hz0:(0:Int)<=(j:Int):=Le _;have hz64:(j:Int)<64:=by omega
   have hrd:=HR.out wr hb;obtain rfl:=hrd.ptr (by omega)
   have cj:=hrd.at hlt;obtain⟨x,hx⟩:=Ze (D.getD j ByteArray.empty);rw[hx] at cj;have zx:x.size=clk k:=by rw[<-hx];exact HX.out.2.2.1 _ (QI hlt)
   obtain⟨q,hq⟩:=Ze (i / 2^j);have eq1:(i:Int) / 2^j=(q:Int):=by rw[<-hq];simp
   have hqb:q<18446744073709551616:=by have:=HX.out.1;have:=Nv i (2^j);omega
   have ea:=Qj1 q hqb;have htn:D.take (j+1)=D.take j++[x]:=by rw[Yg ByteArray.empty D j hlt,hx]
   have hstep:rs (clk k) i d (D.take (j+1))=dg (clk k) (stT q y x):=by
    rw[htn,QfK,HY.out.1,Lv,N6 hj,hq]
   have hc:=Qx k
   by_cases hodd:q % 2=1
   ·have ea2:bits .and .u64 (q:Int) 1=1:=by rw[ea,hodd];rfl
    rw[stT,if_pos hodd] at hstep;obtain⟨y2,hy2⟩:=Ze (dg (clk k) (QE x y));have HN:=O4 wr (HT.out wr hb) k x y (by omega) (by have:=HY.out.2;omega) y2 hy2
    have HG:Hid (rs (clk k) i d (D.take (j+1))=y2∧y2.size=clk k):=⟨hstep.trans hy2,by rw[<-hy2];exact YS hc _⟩
    clear hstep htn hx zx hq hqb ea hodd hrd hy2 hc HY
    go_wp2_with (go_at_call 125;with_reducible refine HN.mono ?_;rintro e w1 ⟨rfl,hb1⟩)
    go_roundg (D.length - (j+1))
    case rel =>
     go_light;exact⟨j+1,y2,by omega,rfl,by go_num,rfl,HG,Qa hb hb1⟩
    case measure=>go_light;omega
   ·have ea2:bits .and .u64 (q:Int) 1=0:=by rw[ea,show q % 2=0 by omega];rfl
    rw[stT,if_neg hodd] at hstep;obtain⟨y2,hy2⟩:=Ze (dg (clk k) (QE y x));have HN:=O4 wr (HT.out wr hb) k y x (by have:=HY.out.2;omega) (by omega) y2 hy2
    have HG:Hid (rs (clk k) i d (D.take (j+1))=y2∧y2.size=clk k):=⟨hstep.trans hy2,by rw[<-hy2];exact YS hc _⟩
    clear hstep htn hx zx hq hqb ea hodd hrd hy2 hc HY
    go_wp2_with (go_at_call 125;with_reducible refine HN.mono ?_;rintro e w1 ⟨rfl,hb1⟩)
    go_roundg (D.length - (j+1))
    case rel =>
     go_light;exact⟨j+1,y2,by omega,rfl,by go_num,rfl,HG,Qa hb hb1⟩
    case measure=>go_light;omega
  ·obtain rfl:j=D.length:=by omega
   have hz : ¬((D.length:Int)<(D.length:Int)):=by omega
   obtain rfl:y=r:=by rw[<-HX.out.2.2.2.1,<-HY.out.1,LR]
   clear HY hlt;go_wp2
   go_ret
   exact⟨rfl,hb⟩
end
end Go.Proofs.YtdocjikpcbmcgaaGreatDoor
