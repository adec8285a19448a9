/- Own work. -/
import Derived.Test.YtipcenbndhnnhaaGreatDoorQd44
import Derived.Test.YtipcenbndhnnhaaGreatDoorQd46
import Derived.WalkMore
import Derived.BigRegion
import Derived.Test.YtipcenbndhnnhaaGreatDoorQv00
namespace Go.Proofs.YtipcenbndhnnhaaGreatDoor
open Go.RowKit
open Cv (RdC zl)
attribute [local go_sem ↓] Go.wp_at_zero Go.wp_at_succ
theorem set3_cells {w:World} {s:Nat} {a b c:Value} (h0:w.cell? ⟨s,0,none⟩=some a) (h1:w.cell? ⟨s,1,none⟩=some b) (h2:w.cell? ⟨s,2,none⟩=some c) (x y z:Value) :
  (((w.setCell ⟨s,0,none⟩ x).setCell ⟨s,1,none⟩ y).setCell ⟨s,2,none⟩ z).cell? ⟨s,0,none⟩=some x∧(((w.setCell ⟨s,0,none⟩ x).setCell ⟨s,1,none⟩ y).setCell ⟨s,2,none⟩ z).cell? ⟨s,1,none⟩=some y∧(((w.setCell ⟨s,0,none⟩ x).setCell ⟨s,1,none⟩ y).setCell ⟨s,2,none⟩ z).cell? ⟨s,2,none⟩=some z:=by
 have n1:(⟨s,0,none⟩:Addr)≠⟨s,1,none⟩:=by simp
 have n2:(⟨s,0,none⟩:Addr)≠⟨s,2,none⟩:=by simp
 have n3:(⟨s,1,none⟩:Addr)≠⟨s,2,none⟩:=by simp
 have m1:(w.setCell ⟨s,0,none⟩ x).cell? ⟨s,1,none⟩=some b:=(World.cell?_setCell_other _ _ _ _ (by simp)).trans h1
 have m2:((w.setCell ⟨s,0,none⟩ x).setCell ⟨s,1,none⟩ y).cell? ⟨s,2,none⟩=some c:=(World.cell?_setCell_other _ _ _ _ (by simp)).trans ((World.cell?_setCell_other _ _ _ _ (by simp)).trans h2)
 refine ⟨?_,?_,World.cell?_setCell_same _ _ _ m2⟩
 ·refine (World.cell?_setCell_other _ _ _ _ (by simp)).trans ((World.cell?_setCell_other _ _ _ _ (by simp)).trans (World.cell?_setCell_same _ _ _ h0))
 ·exact (World.cell?_setCell_other _ _ _ _ (by simp)).trans (World.cell?_setCell_same _ _ _ m1)
theorem fin3 {W0 WF:World} {p s:Nat} (hps:s≠p) {a b c:Value} (h0:W0.cell? ⟨s,0,none⟩=some a) (h1:W0.cell? ⟨s,1,none⟩=some b) (h2:W0.cell? ⟨s,2,none⟩=some c) (v1 v2 x y z:Value)
  (hWF:(((((W0.setCell ⟨p,1,none⟩ v1).setCell ⟨p,2,none⟩ v2).setCell ⟨s,0,none⟩ x).setCell ⟨s,1,none⟩ y).setCell ⟨s,2,none⟩ z).drew=WF) :
  (WF.cell? ⟨s,0,none⟩=some x∧WF.cell? ⟨s,1,none⟩=some y∧WF.cell? ⟨s,2,none⟩=some z)∧ChT (fun b=>b=p∨b=s) W0 WF:=by
 obtain ⟨V,hV⟩ : ∃ V,(W0.setCell ⟨p,1,none⟩ v1).setCell ⟨p,2,none⟩ v2=V:=⟨_,rfl⟩
 have hq3 : ∀ t,V.cell? ⟨s,t,none⟩=W0.cell? ⟨s,t,none⟩:=fun t=>by
  rw [← hV,World.cell?_setCell_other _ _ _ _ (fun e=>hps (congrArg Addr.block e).symm),World.cell?_setCell_other _ _ _ _ (fun e=>hps (congrArg Addr.block e).symm)]
 have hc:=((ChT.refl (fun b=>b=p∨b=s) W0).set p 1 v1 (.inl rfl)).set p 2 v2 (.inl rfl)
 rw [hV] at hc hWF
 have r:=set3_cells ((hq3 0).trans h0) ((hq3 1).trans h1) ((hq3 2).trans h2) x y z
 have hc2:=((hc.set s 0 x (.inr rfl)).set s 1 y (.inr rfl)).set s 2 z (.inr rfl)
 generalize ((V.setCell ⟨s,0,none⟩ x).setCell ⟨s,1,none⟩ y).setCell ⟨s,2,none⟩ z=U at r hc2 hWF
 subst hWF
 exact ⟨by rw [World.cell?_drew,World.cell?_drew,World.cell?_drew]; exact r,hc2.drew⟩
def Ly (w:World) (g:Nat) (M:List (Nat×Nat)):Prop := ∀ t c,(Cv.cB (zl M))[t]? = some c→w.cell? ⟨g,t,none⟩=some c
theorem Ly.same {w W:World} {g:Nat} {M:List (Nat×Nat)} (h:Ly w g M) (hb:W.heap[g]? = w.heap[g]?):Ly W g M:=fun t c ht=>(World.cell?_of_block (a:=⟨g,t,none⟩) hb).trans (h t c ht)
theorem part_A {W:World} {g cap:Nat} {M A B:List (Nat×Nat)} {x:Nat×Nat} (h:Ly W g M) (hM:M=A++x::B):RdC W (.slice (some ⟨g,0,none⟩) A.length cap) A.length (Cv.cB (zl A)):=by
 refine ⟨_,_,rfl,(fun e=>by cases e),fun ad ha t c ht => ?_⟩
 cases ha
 rw [Addr.add_mid,Nat.zero_add]
 refine h t c ?_
 rw [hM,Cv.zl_app,Cv.cB_app,List.getElem?_append_left ((List.getElem?_eq_some_iff.1 ht).1)]
 exact ht
theorem part_B {W:World} {g cap c':Nat} {M A B:List (Nat×Nat)} {x:Nat×Nat} (h:Ly W g M) (hM:M=A++x::B) (hc:M.length≤cap) {ax:Option Addr} (hax:(if cap=A.length+1 then some (⟨g,0,none⟩:Addr) else some ⟨g,(A.length+1) * 2,none⟩)=ax):RdC W (.slice ax B.length c') B.length (Cv.cB (zl B)):=by
 refine ⟨_,_,rfl,(fun e=>by rw [e] at hax; split at hax <;> cases hax),fun ad ha t c ht => ?_⟩
 have htl:=(List.getElem?_eq_some_iff.1 ht).1
 rw [Cv.cB_len,Cv.zl_len] at htl
 have hml:=congrArg List.length hM
 rw [List.length_append,List.length_cons] at hml
 rw [if_neg (by omega),ha] at hax
 cases hax
 rw [Addr.add_mid]
 refine h _ c ?_
 have e:zl M=zl (A++[x])++zl B:=by rw [← Cv.zl_app,hM,List.append_assoc]; rfl
 rw [e,Cv.cB_app,List.getElem?_append_right (by rw [Cv.cB_len,Cv.zl_len]; simp),Cv.cB_len,Cv.zl_len]
 rw [show (A.length+1) * 2+t - (A++[x]).length * 2=t by simp]
 exact ht
structure WS (w1 wr:World) (p h q:Nat) (vb:Value) (l:List (Int×Nat)):Prop where
 c7:wr.heap[p]? = some (.cells #[vb,.slice none 0 0,.slice none 0 0] 83 (0,0))
 c8:wr.heap[p+1]? = some (.cells #[.int .i64 (h:Int),.int .u64 (q:Int)] 94 (0,0))
 own:Cv.OwnB wr (p+2) vb l
 bl:Below p w1 wr
theorem WS.sz {w1 wr:World} {p h q:Nat} {vb:Value} {l:List (Int×Nat)} (h1:WS w1 wr p h q vb l):p+2≤wr.heap.size:=(Array.getElem?_eq_some_iff.1 h1.c8).1
theorem WS.next {w1 wr W:World} {p h q:Nat} {vb:Value} {l:List (Int×Nat)} (h1:WS w1 wr p h q vb l) (hb:Below wr.heap.size wr W):WS w1 W p h q vb l:=by
 have:=h1.sz
 exact ⟨(hb.block p (by omega)).trans h1.c7,(hb.block (p+1) (by omega)).trans h1.c8,Cv.ownB_next h1.own hb,h1.bl.trans (hb.mono (by omega))⟩
theorem WS.cells {w1 wr:World} {p h q:Nat} {vb:Value} {l:List (Int×Nat)} (h1:WS w1 wr p h q vb l):(wr.cell? ⟨p,0,none⟩=some vb∧wr.cell? ⟨p,1,none⟩=some (.slice none 0 0)∧wr.cell? ⟨p,2,none⟩=some (.slice none 0 0))∧(wr.cell? ⟨p+1,0,none⟩=some (.int .i64 (h:Int))∧wr.cell? ⟨p+1,1,none⟩=some (.int .u64 (q:Int))) ∧ ∀ j,wr.frozen? ⟨p,j,none⟩=false∧wr.frozen? ⟨p+1,j,none⟩=false :=
  ⟨⟨by rw [cell_of_row wr p 0 _ _ (0,0) h1.c7]; rfl,by rw [cell_of_row wr p 1 _ _ (0,0) h1.c7]; rfl,by rw [cell_of_row wr p 2 _ _ (0,0) h1.c7]; rfl⟩,
   ⟨by rw [cell_of_row wr (p+1) 0 _ _ (0,0) h1.c8]; rfl,by rw [cell_of_row wr (p+1) 1 _ _ (0,0) h1.c8]; rfl⟩,fun j=>⟨frozen_of_row wr p j _ _ h1.c7,frozen_of_row wr (p+1) j _ _ h1.c8⟩⟩
theorem WS.step {w1 wr w2:World} {p h q:Nat} {vb v':Value} {l l':List (Int×Nat)} {o:Obj} (h1:WS w1 wr p h q vb l) (hg:(wr.alloc o).grownBy w2 vb.ownBlock) (ho:Cv.OwnB w2 (p+2) v' l') (h' q':Nat) :
  (w2.cell? ⟨p,0,none⟩=some vb∧w2.cell? ⟨p+1,0,none⟩=some (.int .i64 (h:Int))∧w2.cell? ⟨p+1,1,none⟩=some (.int .u64 (q:Int))∧w2.frozen? ⟨p,0,none⟩=false∧w2.frozen? ⟨p+1,0,none⟩=false∧w2.frozen? ⟨p+1,1,none⟩=false) ∧
  WS w1 (((w2.setCell ⟨p,0,none⟩ v').setCell ⟨p+1,0,none⟩ (.int .i64 (h':Int))).setCell ⟨p+1,1,none⟩ (.int .u64 (q':Int))) p h' q' v' l':=by
 have hs:=h1.sz
 have hbl : ∀ b,b<p+2→w2.heap[b]? = wr.heap[b]? := fun b hb=>by
  rw [hg.block b (by simp; omega) (fun e=>by have:=(h1.own.lt b e.symm).1; omega)]
  exact Below.heap_alloc _ _ _ (by omega)
 have e7:=(hbl p (by omega)).trans h1.c7
 have e8:=(hbl (p+1) (by omega)).trans h1.c8
 refine ⟨⟨by rw [cell_of_row w2 p 0 _ _ (0,0) e7]; rfl,by rw [cell_of_row w2 (p+1) 0 _ _ (0,0) e8]; rfl,by rw [cell_of_row w2 (p+1) 1 _ _ (0,0) e8]; rfl,frozen_of_row w2 p 0 _ _ e7,frozen_of_row w2 (p+1) 0 _ _ e8,frozen_of_row w2 (p+1) 1 _ _ e8⟩,?_⟩
 have s7:(w2.setCell ⟨p,0,none⟩ v').heap[p]? = some (.cells #[v',.slice none 0 0,.slice none 0 0] 83 (0,0)):=heap_setCell_same w2 p 0 _ _ _ e7
 have s8:(w2.setCell ⟨p,0,none⟩ v').heap[p+1]? = some (.cells #[.int .i64 (h:Int),.int .u64 (q:Int)] 94 (0,0)):=(Below.heap_setCell _ _ _ _ (by show p+1≠p; omega)).trans e8
 have t8:((w2.setCell ⟨p,0,none⟩ v').setCell ⟨p+1,0,none⟩ (.int .i64 (h':Int))).heap[p+1]? = some (.cells #[.int .i64 (h':Int),.int .u64 (q:Int)] 94 (0,0)):=heap_setCell_same _ (p+1) 0 _ _ _ s8
 have t7:=(Below.heap_setCell (w2.setCell ⟨p,0,none⟩ v') ⟨p+1,0,none⟩ (.int .i64 (h':Int)) p (by show p≠p+1; omega)).trans s7
 refine ⟨(Below.heap_setCell _ _ _ _ (by show p≠p+1; omega)).trans t7,heap_setCell_same _ (p+1) 1 _ _ _ t8,?_,?_⟩
 ·refine keep_row ho fun g _ hg => ?_
  rw [Below.heap_setCell _ _ _ _ (by show g≠p+1; omega),Below.heap_setCell _ _ _ _ (by show g≠p+1; omega),Below.heap_setCell _ _ _ _ (by show g≠p; omega)]
 ·have hb2:Below p wr w2:=((Below.refl p wr).alloc (by omega) o).grown hg (by simp; omega) fun k hk=>by have:=(h1.own.lt k hk).1; omega
  exact (((h1.bl.trans hb2).setCell (p:=⟨p,0,none⟩) (Nat.le_refl _) _).setCell (p:=⟨p+1,0,none⟩) (by show p≤p+1; omega) _).setCell (p:=⟨p+1,1,none⟩) (by show p≤p+1; omega) _
set_option maxRecDepth 100000 in
set_option maxHeartbeats 2000000 in
theorem way_any (w:World) (n i H:Nat) (A B:List (Nat×Nat)) (hw:Wy n i A H B) (hn:n≤2^40) (hi:i<n) :
  Calls Tryz.prog 40 #[.int .u64 (n:Int),.int .u64 (i:Int)] w fun e w' => ∃ vb va vc,e = .returned (.agg #[vb,va,vc])∧RdC w' vb H (Cv.cB (zl (bes i H)))∧RdC w' va A.length (Cv.cB (zl A))∧RdC w' vc B.length (Cv.cB (zl B))∧Below w.heap.size w w':=by
 obtain ⟨M,hM⟩ : ∃ M,Cv.dnL 41 0 n=M:=⟨_,rfl⟩
 have hin:=dn_in n hn
 rw [hM] at hin
 have HM:Hid (∀ W,Calls Tryz.prog 61 #[.int .u64 (n:Int)] W fun x w' => ∃ g cap,x = .returned (.tuple #[.slice (some ⟨g,0,none⟩) M.length cap,.int .i64 0])∧RdB w' (some ⟨g,0,none⟩) g 0 M.length (zl M)∧M.length≤cap∧cap≤maxLen∧g<w'.heap.size∧W.heap.size≤g∧Ly w' g M∧Below W.heap.size W w'):=fun W=>by
  have:=Cv.mountains_any n W
  rw [(mount40 n hn).1,(mount40 n hn).2,hM] at this
  refine this.mono fun x w' ⟨v,e1,e2,e3⟩ => ?_
  have hne:0<(zl M).length:=by rw [Cv.zl_len,← hM,hw.all,List.length_append,List.length_cons]; omega
  obtain ⟨ao,g,m,cap,rfl,r1,r2⟩:=own_rdB e2 (fun b hb=>by
   obtain ⟨c,hc,rfl⟩:=List.mem_map.1 hb
   exact (fit40 (hin c hc) hn).1)
  have hl:=r1.len
  subst hl
  obtain rfl:=r1.addr hne
  obtain ⟨g',cap',cur,hv,hg,hh,hc1,hc2,_⟩:=e2.2.resolve_left (by rintro ⟨_,h0⟩; omega)
  cases hv
  have hcl:Ly w' g M:=fun t c ht=>by
   have:=e2.cells (g:=g) rfl t c ht
   rwa [Addr.add_mid,Nat.zero_add] at this
  rw [Cv.zl_len] at e1 r1 hc1
  exact ⟨g,cap,e1,r1,hc1,hc2,(Array.getElem?_eq_some_iff.1 hh).1,hg,hcl,e3⟩
 have hlen:M.length≤41:=by rw [← hM]; exact Cv.dn_len 41 0 n
 have HW:Hid (Wy n i A H B∧Cv.dnL 41 0 n=M∧M.length≤41∧i<2^40 ∧ ∀ b∈M,(b.2+1) * 2^b.1≤n):=⟨hw,hM,hlen,by omega,hin⟩
 have hl63:(M.length:Int)≤41:=by omega
 clear hw hM hin hn hi
 go_enter Tryz.func40,Tryz.ntmps40
 go_wp2
 go_step3
 go_wp2_with (go_at_call 61; with_reducible refine (HM.out _).mono ?_; rintro e w1 ⟨g,cap,rfl,hR,hcap,hcm,hg,hgs,hcl,hb1⟩)
 go_step3
 go_wp2
 have z0:w.heap.size<w1.heap.size:=by have:=hb1.size; simp at this; omega
 have HS0:Hid (WS w1 ((w1.alloc (.cells #[.slice none 0 0,.slice none 0 0,.slice none 0 0] 83)).alloc (.cells #[.int .i64 ((0:Nat):Int),.int .u64 (i:Int)] 94)) w1.heap.size 0 i (.slice none 0 0) []):=by
  refine ⟨?_,?_,World.ownsRow_nil _ _ _ _,((Below.refl _ _).alloc (Nat.le_refl _) _).alloc (by simp) _⟩
  ·rw [Below.heap_alloc _ _ _ (by simp)]; exact heap_alloc_new w1 _
  ·have:=heap_alloc_new (w1.alloc (.cells #[.slice none 0 0,.slice none 0 0,.slice none 0 0] 83)) (.cells #[.int .i64 ((0:Nat):Int),.int .u64 (i:Int)] 94)
   simpa using this
 have HR:Hid (∀ W,Below w1.heap.size w1 W→RdB W (some ⟨g,0,none⟩) g 0 M.length (zl M)):=fun W hb=>hR.below hb
 have HB1:Hid (Below w.heap.size w w1):=(bal (Below.refl _ _) _).trans (hb1.mono (by simp))
 have HP4:Hid (w1.heap[w.heap.size]? = some (.cells #[.slice none 0 0,.slice none 0 0,.slice none 0 0] 83 (0,0))):=(hb1.block w.heap.size (by simp)).trans (heap_alloc_new w _)
 have HG:Hid (g<w1.heap.size∧M.length≤cap∧cap≤maxLen∧w.heap.size<g∧Ly w1 g M):=⟨hg,hcap,hcm,by simp at hgs; omega,hcl⟩
 have HZ:Hid (w.heap.size<w1.heap.size):=z0
 obtain ⟨p,hp⟩ : ∃ p,w1.heap.size=p:=⟨_,rfl⟩
 have HP:=hide hp
 rw [hp] at HS0 ⊢
 clear hR hb1 hg z0 hlen HM hcap hcm hgs hcl
 go_loopg [] H (fun gh wr => ∃ (h:Nat) (vb:Value),h≤H∧gh=H - h∧WS w1 wr p h (i / 2^h) vb (zl (bes i h)))
 case atStart =>
  go_light
  refine ⟨0,.slice none 0 0,Nat.zero_le _,rfl,?_⟩
  have:=HS0.out
  simpa [bes,zl] using this
 case round =>
  clear HS0
  obtain ⟨h,vb,hh,rfl,hS⟩:=hrel
  obtain ⟨q,hq⟩ : ∃ q,i / 2^h=q:=⟨_,rfl⟩
  rw [hq] at hS
  have HQ:=hide hq
  obtain ⟨vo,vm,vq,rfl⟩:=Cv.own_slice hS.own
  have HS:=hide hS
  clear hS hq
  generalize wr=wo at *
  clear wr
  go_wp2
  go_loopg [20] M.length (fun gh x wr2 => ∃ j:Nat,j≤M.length∧gh=M.length - j∧x = .int .i64 (j:Int)∧(∀ t,t<j→M.getD t (0,0)≠(h,q))∧Below wo.heap.size wo wr2)
  case atStart =>
   go_light
   exact ⟨0,Nat.zero_le _,rfl,rfl,fun t ht=>absurd ht (Nat.not_lt_zero _),Below.refl _ _⟩
  case round =>
   obtain ⟨j,hj,rfl,rfl,hno,hb⟩:=hrel
   have hS2:=HS.out.next hb
   have hsz:=hS2.sz
   have hRd:=HR.out _ (show Below w1.heap.size w1 wr by rw [HP.out]; exact hS2.bl)
   by_cases hlt:j<M.length
   ·have hz:(j:Int)<(M.length:Int):=by omega
    have hz0:(0:Int)≤(j:Int):=Int.natCast_nonneg _
    obtain ⟨m0,m1⟩:=hRd.cell j hlt
    rw [getD_zl M j hlt] at m0 m1
    obtain ⟨⟨mh,mk⟩,hm⟩ : ∃ m,M.getD j (0,0)=m:=⟨_,rfl⟩
    rw [hm] at m0 m1
    rw [Nat.zero_add] at m0 m1
    have hS3:=hS2.next (bal (Below.refl _ _) (.cells #[.int .i64 (mh:Int),.int .u64 (mk:Int)] 94))
    obtain ⟨⟨k0,k1,k2⟩,⟨k3,k4⟩,fz⟩:=hS3.cells
    have f0:=fun j=>(fz j).1
    have f1:=fun j=>(fz j).2
    by_cases hf:(mh,mk)=(h,q)
    ·obtain ⟨rfl,rfl⟩:=Prod.mk.inj hf
     have hfd:=wy_find HW.out.1 (j:=j) (h:=mh) (by rw [HW.out.2.1]; exact hlt) (by rw [HW.out.2.1,HQ.out]; exact hm)
     have HX:Hid (j=A.length∧mh=H):=hfd
     have hle:(j:Int)≤(cap:Int):=by have:=HG.out.2.1; omega
     have e1:IntKind.i64.wrap ((j:Int)+1)=((j+1:Nat):Int):=by rw [IntKind.wrap_i64]; omega
     have HB:=hide hb
     have HS3:=hide hS3
     clear hm hf hfd hno hj hb hRd hS2 hS3 fz
     go_upto_region 8 with (fail)
     obtain ⟨W0,hW0⟩ : ∃ W0,wr.alloc (.cells #[.int .i64 (mh:Int),.int .u64 (mk:Int)] 94)=W0:=⟨_,rfl⟩
     rw [hW0] at k0 k1 k2 k3 k4 HS3 ⊢
     have HBL:Hid (Below p w1 W0):=HS3.out.bl
     simp only [hW0] at f0 f1
     have c4 : ∀ t,t<3→W0.cell? ⟨w.heap.size,t,none⟩=some (.slice none 0 0)∧W0.frozen? ⟨w.heap.size,t,none⟩=false:=fun t ht=>by
      have hx:W0.heap[w.heap.size]? = some (.cells #[.slice none 0 0,.slice none 0 0,.slice none 0 0] 83 (0,0)):=by
       refine Eq.trans ?_ HP4.out
       refine HBL.out.block _ ?_
       have:=HZ.out; have:=HP.out; omega
      refine ⟨?_,frozen_of_row W0 _ t _ _ hx⟩
      rw [cell_of_row W0 _ t _ _ (0,0) hx]
      match t,ht with
      | 0,_=>rfl
      | 1,_=>rfl
      | 2,_=>rfl
     have c40:=(c4 0 (by decide)).1
     have c41:=(c4 1 (by decide)).1
     have c42:=(c4 2 (by decide)).1
     have f40:=(c4 0 (by decide)).2
     have f41:=(c4 1 (by decide)).2
     have f42:=(c4 2 (by decide)).2
     have hlt1:((j+1:Nat):Int)≤(M.length:Int):=by omega
     have hle2:((M.length:Nat):Int)≤(cap:Int):=by have:=HG.out.2.1; omega
     have hpw:w.heap.size≠p:=by have:=HZ.out; have:=HP.out; omega
     clear c4
     go_region
     obtain ⟨ax,hax⟩ : ∃ ax,(if cap=j+1 then some (⟨g,0,none⟩:Addr) else some ⟨g,(j+1) * 2,none⟩)=ax:=⟨_,rfl⟩
     have HA:=hide hax
     rw [hax]
     clear hax
     go_wp2
     obtain ⟨WF,hWF⟩ : ∃ WF,(((((W0.setCell ⟨p,1,none⟩ (.slice (some ⟨g,0,none⟩) j cap)).setCell ⟨p,2,none⟩ (.slice ax (M.length - (j+1)) (cap - (j+1)))).setCell ⟨w.heap.size,0,none⟩ (.slice vo vm vq)).setCell ⟨w.heap.size,1,none⟩ (.slice (some ⟨g,0,none⟩) j cap)).setCell ⟨w.heap.size,2,none⟩ (.slice ax (M.length - (j+1)) (cap - (j+1)))).drew=WF:=⟨_,rfl⟩
     obtain ⟨⟨r0,r1,r2⟩,hch⟩:=fin3 hpw c40 c41 c42 _ _ _ _ _ hWF
     have hoth : ∀ b,b≠p→b≠w.heap.size→WF.heap[b]? = W0.heap[b]? := fun b h1 h2=>hch.block b (by rintro (e | e); exact h1 e; exact h2 e)
     rw [hWF]
     clear hWF
     refine bodyPost_ret (v := .agg #[.slice vo vm vq,.slice (some ⟨g,0,none⟩) j cap,.slice ax (M.length - (j+1)) (cap - (j+1))]) (by simp [results,Tryz.results40,go_sem,r0,r1,r2]) rfl ?_
     have hz1:=HZ.out
     have hp1:=HP.out
     obtain ⟨g1,g2,g3,g4,g5⟩:=HG.out
     obtain ⟨rfl,rfl⟩:=HX.out
     have hall:=HW.out.1.all
     rw [HW.out.2.1] at hall
     have hclF:Ly WF g M:=(g5.same (HBL.out.block g (by omega))).same (hoth g (by omega) (by omega))
     have hml:=congrArg List.length hall
     rw [List.length_append,List.length_cons] at hml
     refine ⟨_,_,_,rfl,?_,part_A hclF hall,?_,?_⟩
     ·have hown:Cv.OwnB WF (p+2) (.slice vo vm vq) (zl (bes i mh)):=keep_row HS3.out.own fun b _ hb=>hoth b (by omega) (by omega)
      have:=Cv.rdc_own hown
      rw [Cv.zl_len,bes_len] at this
      exact this
     ·have:=part_B (c':=cap - (A.length+1)) hclF hall g2 HA.out
      rw [show M.length - (A.length+1)=B.length by omega]
      exact this
     ·refine ⟨?_,?_,?_,?_,fun b hb => ?_⟩
      ·exact hch.os.trans (HBL.out.os.trans HB1.out.os)
      ·exact hch.tape.trans (HBL.out.tape.trans HB1.out.tape)
      ·exact hch.output.trans (HBL.out.output.trans HB1.out.output)
      ·have:=HS3.out.sz
       have:=hch.size
       omega
      ·rw [hoth b (by omega) (by omega),HBL.out.block b (by omega)]; exact HB1.out.block b hb
    ·have hne : ¬ ((h:Int)=(mh:Int)∧(q:Int)=(mk:Int)):=by
      rintro ⟨e1,e2⟩
      exact hf (Prod.ext (by show mh=h; omega) (by show mk=q; omega))
     have HN:Hid (∀ t,t<j+1→M.getD t (0,0)≠(h,q)):=fun t ht=>by
      rcases Nat.lt_or_eq_of_le (Nat.le_of_lt_succ ht) with hx | rfl
      ·exact hno t hx
      ·rw [hm]; exact hf
     have HB:=hide (bal hb (.cells #[.int .i64 (mh:Int),.int .u64 (mk:Int)] 94))
     have hj41:(j:Int)<41:=by omega
     clear hm hf hno hj hb hRd hS2 hS3 fz
     go_wp2
     all_goals
      go_roundg (M.length - (j+1))
      case rel =>
       go_light
       exact ⟨j+1,by omega,rfl,by go_num,HN.out,HB.out⟩
      case measure=>go_light; omega
   ·obtain rfl:j=M.length:=by omega
    have hz : ¬ ((M.length:Int)<(M.length:Int)):=by omega
    have hhH:h<H:=by
     apply Nat.lt_of_not_le
     intro hge
     obtain rfl:h=H:=by omega
     obtain ⟨a1,a2⟩:=wy_at HW.out.1
     rw [HW.out.2.1] at a1 a2
     exact hno _ a1 (by rw [a2,HQ.out])
    have hb2:=HS.out.next hb
    obtain ⟨⟨k0,k1,k2⟩,⟨k3,k4⟩,fz⟩:=hS2.cells
    have hi40:=HW.out.2.2.2.1
    have hq40:q<2^40:=by have:=HQ.out; have:=Nat.div_le_self i (2^h); omega
    have ex:bits .xor .u64 (q:Int) 1=((sb q:Nat):Int):=by rw [← sb_xor]; exact bits_xor_u64_nat q 1 (by omega) (by decide)
    have hh40:(h:Int)<41:=by have:=HW.out.1.hH; omega
    have e2:IntKind.u64.wrap ((q:Int) / 2)=((q / 2:Nat):Int):=by rw [IntKind.wrap_u64]; omega
    clear hlt hno hj hRd
    go_wp2_with (at_builtin; refine Cv.wpList_append_B _ rfl _ _ rfl (p+2) _ (zl (bes i h)) rfl (hS2.own.alloc _) _ [((h:Int),sb q)] rfl (Cv.rdc_block wr (h:Int) (sb q) 94) ?c1 ?c2 ?_)
    case c1=>have:=HW.out.1.hH; rw [Cv.zl_len,bes_len]; simp; omega
    case c2=>have:=hS2.sz; simp; omega
    intro v' w2 r1 r2 _
    have hE:zl (bes i h)++[((h:Int),sb q)]=zl (bes i (h+1)):=by rw [bes_succ,Cv.zl_app,HQ.out]; rfl
    rw [hE] at r1
    obtain ⟨⟨k5,k6,k7,f5,f6,f7⟩,hN⟩:=hS2.step r2 r1 (h+1) (q / 2)
    obtain ⟨ao2,m2,c2,rfl⟩:=Cv.own_slice r1
    have HN:=hide hN
    have HH:=hide hhH
    clear r1 r2 hE hN hb hb2 hS2 HS k0 k1 k2 k3 k4 fz hsz
    go_wp2
    go_roundg (H - (h+1))
    case rel =>
     go_light
     refine ⟨h+1,.slice ao2 m2 c2,by have:=HH.out; omega,rfl,?_⟩
     have:=HN.out
     rw [show i / 2^(h+1)=q / 2 by rw [← half_next,HQ.out]]
     rw [show ((h+1:Nat):Int)=(h:Int)+1 by omega,show ((q / 2:Nat):Int)=(q:Int) / 2 by omega] at this
     exact this
    case measure=>go_light; have:=HH.out; omega
theorem cat3_B {w:World} {g0:Nat} {u0 u1 u2:Value} {L0 L1 L2:List (Int×Nat)} (c0:w.cell? ⟨g0,0,none⟩=some u0) (c1:w.cell? ⟨g0,1,none⟩=some u1) (c2:w.cell? ⟨g0,2,none⟩=some u2) (r0:RdC w u0 L0.length (Cv.cB L0)) (r1:RdC w u1 L1.length (Cv.cB L1)) (r2:RdC w u2 L2.length (Cv.cB L2)):CatB w g0 [u0,u1,u2] [L0,L1,L2]:=by
 refine ⟨rfl,fun j hj => ?_,fun j hj => ?_⟩
 ·match j,hj with
  | 0,_=>exact c0
  | 1,_=>exact c1
  | 2,_=>exact c2
 ·match j,hj with
  | 0,_=>exact r0
  | 1,_=>exact r1
  | 2,_=>exact r2
theorem cat3_S {w:World} {g0:Nat} {u0 u1 u2:Value} {L0 L1 L2:List ByteArray} (c0:w.cell? ⟨g0,0,none⟩=some u0) (c1:w.cell? ⟨g0,1,none⟩=some u1) (c2:w.cell? ⟨g0,2,none⟩=some u2) (r0:RdC w u0 L0.length (cS L0)) (r1:RdC w u1 L1.length (cS L1)) (r2:RdC w u2 L2.length (cS L2)):CatS w g0 [u0,u1,u2] [L0,L1,L2]:=by
 refine ⟨rfl,fun j hj => ?_,fun j hj => ?_⟩
 ·match j,hj with
  | 0,_=>exact c0
  | 1,_=>exact c1
  | 2,_=>exact c2
 ·match j,hj with
  | 0,_=>exact r0
  | 1,_=>exact r1
  | 2,_=>exact r2
set_option maxRecDepth 100000 in
theorem blocks_anyT (w:World) (vb va vc:Value) (L0 L1 L2 L:List (Int×Nat)) (hL:L0++(L1++L2)=L) (r0:RdC w vb L0.length (Cv.cB L0)) (r1:RdC w va L1.length (Cv.cB L1)) (r2:RdC w vc L2.length (Cv.cB L2)) (hm:L.length≤1048576) :
  Calls Tryz.prog 41 #[.agg #[vb,va,vc]] w fun e w' => ∃ v,e = .returned v∧Cv.OwnB w' w.heap.size v L∧Below w.heap.size w w':=by
 obtain ⟨a0,p0,rfl⟩:=rdc_slice r0
 obtain ⟨a1,p1,rfl⟩:=rdc_slice r1
 obtain ⟨a2,p2,rfl⟩:=rdc_slice r2
 obtain ⟨o1,ho1⟩ : ∃ o1,Obj.cells #[.slice a0 L0.length p0,.slice a1 L1.length p1,.slice a2 L2.length p2] 83 (0,0)=o1:=⟨_,rfl⟩
 obtain ⟨o2,ho2⟩ : ∃ o2,Obj.cells #[.slice a0 L0.length p0,.slice a1 L1.length p1,.slice a2 L2.length p2] 65 (0,0)=o2:=⟨_,rfl⟩
 have hb1:=bal (Below.refl w.heap.size w) o1
 have hb2:=bal hb1 o2
 have hc:CatB ((w.alloc o1).alloc o2) (w.heap.size+1) [.slice a0 L0.length p0,.slice a1 L1.length p1,.slice a2 L2.length p2] [L0,L1,L2]:=by
  have hx:((w.alloc o1).alloc o2).heap[w.heap.size+1]? = some o2:=by
   have:=heap_alloc_new (w.alloc o1) o2
   rwa [World.size_alloc] at this
  have hx:((w.alloc o1).alloc o2).heap[w.heap.size+1]? = some (.cells #[.slice a0 L0.length p0,.slice a1 L1.length p1,.slice a2 L2.length p2] 65 (0,0)):=hx.trans (by rw [ho2])
  refine cat3_B ?_ ?_ ?_ (Cv.rdc_keep r0 hb2) (Cv.rdc_keep r1 hb2) (Cv.rdc_keep r2 hb2)
  ·rw [cell_of_row _ _ 0 _ _ (0,0) hx]; rfl
  ·rw [cell_of_row _ _ 1 _ _ (0,0) hx]; rfl
  ·rw [cell_of_row _ _ 2 _ _ (0,0) hx]; rfl
 have HC:Calls Tryz.prog 63 #[.slice (some ⟨w.heap.size+1,0,none⟩) 3 3] ((w.alloc o1).alloc o2) fun e w' => ∃ v,e = .returned v∧Cv.OwnB w' ((w.alloc o1).alloc o2).heap.size v L∧Below ((w.alloc o1).alloc o2).heap.size ((w.alloc o1).alloc o2) w':=concat_B _ _ 3 _ _ hc (by simp) (by simp only [List.flatten_cons,List.flatten_nil,List.append_nil]; rw [hL]; omega) L (by simp only [List.flatten_cons,List.flatten_nil,List.append_nil]; exact hL)
 have HB:=hide hb2
 rw [← ho1,← ho2] at HC HB
 clear hc hb1 hb2 ho1 ho2 hm hL r0 r1 r2
 go_enter Tryz.func41,Tryz.ntmps41
 go_wp2_with (go_at_call 63; with_reducible refine HC.mono ?_; rintro e w1 ⟨v,rfl,ho,hb⟩)
 go_ret
 exact ⟨_,rfl,ho.mono HB.out.size,bnext HB.out hb⟩
section
variable {w W:World} {s:Nat} {a b c d e f:Value}
end
set_option maxRecDepth 100000 in
set_option maxHeartbeats 1000000 in
theorem prove_ok (w:World) (m:Nat) (k:Int) (L:List ByteArray) (hF:Frs w m k L) (n i H:Nat) (A B:List (Nat×Nat)) (hw:Wy n i A H B) (hn:n≤L.length) (hi:i<n) (D:List ByteArray) (hD:dgP (clk k) L i H A B=D) :
  Calls Tryz.prog 16 #[.pointer (some ⟨m+1,0,none⟩),.int .u64 (n:Int),.int .u64 (i:Int)] w fun e w' => ∃ vs vd,e = .returned (.tuple #[.agg #[.int .i64 1,.int .i64 k,.int .u64 0,.int .u64 (n:Int),vs,vd],.int .i64 0])∧Cv.Own w' w.heap.size vs [i]∧OwnS w' w.heap.size vd D∧Below w.heap.size w w':=by
 have hL:=hF.hn
 obtain ⟨o0,ho0⟩ : ∃ o0,Obj.cells #[.int .i64 0,.int .i64 0,.int .u64 0,.int .u64 0,.slice none 0 0,.slice none 0 0] 38 (0,0)=o0:=⟨_,rfl⟩
 have hb:=bal (Below.refl w.heap.size w) o0
 have HS:=fsize_any _ m k L (hF.next hb (Nat.le_refl _))
 have hin:=hw.inn (by omega)
 have hln:=hw.len
 have hlH:=hw.hH
 have HW:Hid (∀ W,Calls Tryz.prog 40 #[.int .u64 (n:Int),.int .u64 (i:Int)] W fun e w' => ∃ vb va vc,e = .returned (.agg #[vb,va,vc])∧RdC w' vb (zl (bes i H)).length (Cv.cB (zl (bes i H)))∧RdC w' va (zl A).length (Cv.cB (zl A))∧RdC w' vc (zl B).length (Cv.cB (zl B))∧Below W.heap.size W w'):=fun W=>by
  rw [Cv.zl_len,Cv.zl_len,Cv.zl_len,bes_len]
  exact way_any W n i H A B hw (by omega) hi
 obtain ⟨C,hC⟩ : ∃ C,zl (wyB i H A B)=C:=⟨_,rfl⟩
 have hlC:C.length≤80:=by rw [← hC,Cv.zl_len,wyB_len]; omega
 have HBk:Hid (∀ W vb va vc,RdC W vb (zl (bes i H)).length (Cv.cB (zl (bes i H)))→RdC W va (zl A).length (Cv.cB (zl A))→RdC W vc (zl B).length (Cv.cB (zl B))→Calls Tryz.prog 41 #[.agg #[vb,va,vc]] W fun e w' => ∃ ao g cap,e = .returned (.slice ao C.length cap)∧RdB w' ao g 0 C.length C∧Below W.heap.size W w'):=fun W vb va vc r0 r1 r2=>by
  refine (blocks_anyT W vb va vc _ _ _ C (by rw [← hC,wyB,Cv.zl_app,Cv.zl_app]) r0 r1 r2 (by omega)).mono fun e w' ⟨v,e1,e2,e3⟩ => ?_
  obtain ⟨ao,g,n',cap,rfl,hr,_⟩:=own_rdB e2 (fun b hb=>by
   rw [← hC] at hb
   obtain ⟨b0,hb0,rfl⟩:=List.mem_map.1 hb
   exact (fit40 (hin b0 hb0) (by omega)).1)
  obtain rfl:=hr.len
  exact ⟨ao,g,cap,e1,hr,e3⟩
 have hds:dgs (clk k) L C=some D:=by rw [← hC,dgs_all (fun b hb=>Nat.le_trans (hin b hb) hn),← hD]; rfl
 have HD:Hid (∀ W ao g cap,Below w.heap.size w W→RdB W ao g 0 C.length C→Calls Tryz.prog 28 #[.pointer (some ⟨m+1,0,none⟩),.slice ao C.length cap] W fun e w'=>Below W.heap.size W w' ∧ ∃ ad md cd,e = .returned (.tuple #[.slice ad md cd,.bool true])∧OwnS w' W.heap.size (.slice ad md cd) D):=fun W ao g cap hb hr=>by
  refine (fdigests_any W m k L (hF.next hb (Nat.le_refl _)) ao g 0 cap C hr (by omega)).mono ?_
  rintro e w' ⟨hb',⟨h1,_⟩ | ⟨D',h1,v,rfl,ho⟩⟩
  ·rw [hds] at h1; cases h1
  ·rw [hds] at h1
   injection h1 with h1
   subst h1
   obtain ⟨ad,md,cd,rfl⟩:=Cv.own_slice ho
   exact ⟨hb',ad,md,cd,rfl,ho⟩
 have HSt:Hid (∀ W,Below w.heap.size w W→Calls Tryz.prog 29 #[.pointer (some ⟨m+1,0,none⟩)] W fun e w'=>e = .returned (.int .i64 k)∧W=w'):=fun W hb=>(fstrength_any W m k L (hF.next hb (Nat.le_refl _))).mono fun _ _ h=>⟨h.1,h.2.symm⟩
 have hn' : ¬ (L.length:Int)<(n:Int):=by omega
 have hi' : ¬ (n:Int)≤(i:Int):=by omega
 have hi2:i<n:=hi
 have HP:Hid (∀ W,Below (w.alloc o0).heap.size (w.alloc o0) W→Six W w.heap.size (.int .i64 0) (.int .i64 0) (.int .u64 0) (.int .u64 0) (.slice none 0 0) (.slice none 0 0)):=fun W hb=>Six.next (show Six (w.alloc o0) _ _ _ _ _ _ _ by rw [← ho0]; exact six_new w _ _ _ _ _ _) hb
 rw [← ho0] at hb HS HP
 clear hF hn hi hw hL ho0 hin hds hD hlC hC hln hlH hi2
 go_enter Tryz.func16,Tryz.ntmps16
 go_wp2_with (first
  | (go_at_call 26; with_reducible refine HS.mono ?_; rintro e w0 ⟨rfl,rfl⟩)
  | (go_at_call 40; with_reducible refine (HW.out _).mono ?_; rintro e w1 ⟨vb,va,vc,rfl,q0,q1,q2,hb1⟩)
  | (go_at_call 41; with_reducible refine (HBk.out _ _ _ _ q0 q1 q2).mono ?_; rintro e w2 ⟨ao,g,cap,rfl,hr,hb2⟩)
  | (go_at_call 28; with_reducible refine (HD.out _ _ _ _ (bnext (bnext hb hb1) hb2) hr).mono ?_; rintro e w3 ⟨hb3,ad,md,cd,rfl,ho⟩)
  | (go_at_call 29; with_reducible refine (HSt.out _ (bnext (bnext (bnext hb hb1) hb2) hb3)).mono ?_; rintro e w4 ⟨rfl,rfl⟩; have h6:=HP.out _ (bal (bnext (bnext hb1 hb2) hb3) (.cells #[.int .u64 (i:Int)] 23)); obtain ⟨k0,k1,k2,k3,k4,k5⟩:=h6.cells; have f0:=h6.fz))
 have hF6:=h6.put (.int .i64 1) (.int .i64 k) (.int .u64 0) (.int .u64 (n:Int)) (.slice (some ⟨w3.heap.size,0,none⟩) 1 1) (.slice ad md cd)
 have hch:=put6_ch (w3.alloc (.cells #[.int .u64 (i:Int)] 23)) w.heap.size (.int .i64 1) (.int .i64 k) (.int .u64 0) (.int .u64 (n:Int)) (.slice (some ⟨w3.heap.size,0,none⟩) 1 1) (.slice ad md cd)
 unfold put6 at hF6 hch
 generalize ((((((w3.alloc (.cells #[.int .u64 (i:Int)] 23)).setCell ⟨w.heap.size,0,none⟩ (.int .i64 1)).setCell ⟨w.heap.size,1,none⟩ (.int .i64 k)).setCell ⟨w.heap.size,2,none⟩ (.int .u64 0)).setCell ⟨w.heap.size,3,none⟩ (.int .u64 (n:Int))).setCell ⟨w.heap.size,4,none⟩ (.slice (some ⟨w3.heap.size,0,none⟩) 1 1)).setCell ⟨w.heap.size,5,none⟩ (.slice ad md cd)=WF at *
 obtain ⟨s0,s1,s2,s3,s4,s5⟩:=hF6.cells
 refine bodyPost_ret (v := .tuple #[.agg #[.int .i64 1,.int .i64 k,.int .u64 0,.int .u64 (n:Int),.slice (some ⟨w3.heap.size,0,none⟩) 1 1,.slice ad md cd],.int .i64 0]) (by simp [results,Tryz.results16,go_sem,s0,s1,s2,s3,s4,s5]) rfl ?_
 have hb4:=bnext (bnext (bnext hb hb1) hb2) hb3
 have z3:=(bnext hb1 (bnext hb2 hb3)).size
 rw [World.size_alloc] at z3
 refine ⟨_,_,rfl,?_,?_,(bal hb4 _).trans (hch.below (by rintro b rfl; exact Nat.le_refl _))⟩
 ·have:Cv.Own (w3.alloc (.cells #[.int .u64 (i:Int)] 23)) w.heap.size (.slice (some ⟨w3.heap.size,0,none⟩) 1 1) [i]:=⟨rfl,.inr ⟨w3.heap.size,1,_,rfl,by omega,heap_alloc_new w3 _,by simp,by decide,rfl,rfl⟩⟩
  exact keep_row this fun g hg _=>by
   cases hg
   exact hch.block _ (by show ¬ w3.heap.size=w.heap.size; omega)
 ·have h1:=own_al ho (.cells #[.int .u64 (i:Int)] 23)
  have hz2:=(bnext hb1 hb2).size
  rw [World.size_alloc] at hz2
  exact (keep_row h1 fun g _ hg=>hch.block g (by omega)).mono (by omega)
end Go.Proofs.YtipcenbndhnnhaaGreatDoor
namespace Go.Proofs.YtipcenbndhnnhaaGreatDoor
open Go.RowKit
open Cv (RdC zl cU)
attribute [local go_sem ↓] Go.wp_at_zero Go.wp_at_succ
theorem box_next (w:World) (kd k:Int) (old size:Nat) (vs vd:Value):Below w.heap.size w (w.alloc (.cells #[.int .i64 kd,.int .i64 k,.int .u64 (old:Int),.int .u64 (size:Int),vs,vd] 38)):=bal (Below.refl _ _) _
set_option maxRecDepth 100000 in
theorem ispath_core (w:World) (kd k:Int) (old size:Nat) (sa:Option Addr) (ns sc:Nat) (da:Option Addr) (n2 dc:Nat) (x:Nat) (hx:ns=1 → ∃ b o,sa=some ⟨b,o,none⟩∧w.cell? ⟨b,o,none⟩=some (.int .u64 (x:Int)))
  (r:Bool) (hr:decide (kd=1∧(1≤k∧k≤32)∧size≤2^40∧old=0∧ns=1∧x<size)=r) :
  Calls Tryz.prog 115 #[.agg #[.int .i64 kd,.int .i64 k,.int .u64 (old:Int),.int .u64 (size:Int),.slice sa ns sc,.slice da n2 dc]] w fun e w'=>e = .returned (.bool r)∧Below w.heap.size w w':=by
 have hb:=box_next w kd k old size (.slice sa ns sc) (.slice da n2 dc)
 by_cases h1:kd=1
 ·subst h1
  by_cases h2:1≤k∧k≤32
  ·have HC:Hid (∀ W,Calls Tryz.prog 48 #[.int .i64 k] W fun e w'=>e = .returned (.int .i64 0)∧W=w'):=fun W=>by
    have:=(check_any W k)
    rw [show chk k=0 by rw [chk,if_neg (by omega)]] at this
    exact this.mono fun _ _ h=>⟨h.1,h.2.symm⟩
   by_cases h3:size≤2^40
   ·have hd:decide ((1099511627776:Int)<(size:Int))=false:=decide_eq_false (by omega)
    by_cases h4:old=0
    ·subst h4
     by_cases h5:ns=1
     ·subst h5
      obtain ⟨b,o,rfl,c0⟩:=hx rfl
      have c1:=(hb.cell (p:=⟨b,o,none⟩) (World.block_lt_of_cell? w _ c0)).trans c0
      have HR:Hid (decide (x<size)=r):=by
       rw [← hr]
       show decide _=decide _
       simp only [true_and,decide_eq_decide]
       omega
      clear hr hx h2 h3 c0
      rw [show ((0:Nat):Int)=0 from rfl] at *
      go_enter Tryz.func115,Tryz.ntmps115
      go_upto_region 5 with (go_at_call 48; with_reducible refine (HC.out _).mono ?_; rintro e w1 ⟨rfl,rfl⟩)
      go_quiet (fail)
      go_wp2
      go_ret
      exact ⟨by rw [HR.out]; rfl,below_drewN hb _⟩
     ·have hz:decide (ns=1)=false:=decide_eq_false h5
      have hz1 : ¬ ns=1:=h5
      have hz2 : ¬ (ns:Int)=1:=by omega
      have hz3:decide ((ns:Int)=1)=false:=decide_eq_false hz2
      obtain rfl:false=r:=by rw [← hr]; exact (decide_eq_false (by rintro ⟨_,_,_,_,h,_⟩; exact h5 h)).symm
      clear hr hx h2 h3 h5
      rw [show ((0:Nat):Int)=0 from rfl] at *
      go_enter Tryz.func115,Tryz.ntmps115
      go_upto_region 5 with (go_at_call 48; with_reducible refine (HC.out _).mono ?_; rintro e w1 ⟨rfl,rfl⟩)
      go_quiet (fail)
      go_wp2
      go_ret
      exact ⟨rfl,below_drewN hb _⟩
    ·have hz : ¬ (old:Int)=0:=by omega
     obtain rfl:false=r:=by rw [← hr]; exact (decide_eq_false (by rintro ⟨_,_,_,h,_,_⟩; exact h4 h)).symm
     clear hr hx h2 h3 h4
     go_enter Tryz.func115,Tryz.ntmps115
     go_wp2_with (go_at_call 48; with_reducible refine (HC.out _).mono ?_; rintro e w1 ⟨rfl,rfl⟩)
     go_ret
     exact ⟨rfl,hb⟩
   ·have hd:decide ((1099511627776:Int)<(size:Int))=true:=decide_eq_true (by omega)
    obtain rfl:false=r:=by rw [← hr]; exact (decide_eq_false (by rintro ⟨_,_,h,_,_,_⟩; exact h3 h)).symm
    clear hr hx h2 h3
    go_enter Tryz.func115,Tryz.ntmps115
    go_wp2_with (go_at_call 48; with_reducible refine (HC.out _).mono ?_; rintro e w1 ⟨rfl,rfl⟩)
    go_ret
    exact ⟨rfl,hb⟩
  ·have HC:Hid (∀ W,Calls Tryz.prog 48 #[.int .i64 k] W fun e w'=>e = .returned (.int .i64 70)∧W=w'):=fun W=>by
    have:=(check_any W k)
    rw [show chk k=70 by rw [chk,if_pos (by omega)]] at this
    exact this.mono fun _ _ h=>⟨h.1,h.2.symm⟩
   obtain rfl:false=r:=by rw [← hr]; exact (decide_eq_false (by rintro ⟨_,h,_,_,_,_⟩; exact h2 h)).symm
   clear hr hx h2
   go_enter Tryz.func115,Tryz.ntmps115
   go_wp2_with (go_at_call 48; with_reducible refine (HC.out _).mono ?_; rintro e w1 ⟨rfl,rfl⟩)
   go_ret
   exact ⟨rfl,hb⟩
 ·obtain rfl:false=r:=by rw [← hr]; exact (decide_eq_false (by rintro ⟨h,_,_,_,_,_⟩; exact h1 h)).symm
  clear hr hx
  go_enter Tryz.func115,Tryz.ntmps115
  go_wp2
  go_ret
  exact ⟨rfl,hb⟩
set_option maxRecDepth 100000 in
set_option maxHeartbeats 1000000 in
theorem filled_core (w:World) (kd k:Int) (old size:Nat) (sa:Option Addr) (ns sc:Nat) (da:Option Addr) (db dO dc:Nat) (D:List ByteArray) (hr:RdS w da db dO D.length D) (hm:D.length≤9223372036854775807) (a0 a1 a2:Option Addr) (n0 n1 n2 c0 c1 c2:Nat) (h0:n0≤100) (h1:n1≤100) (h2:n2≤100) (r:Bool) (hq:decide (fil k (n0+n1+n2) D)=r) :
  Calls Tryz.prog 116 #[.agg #[.slice a0 n0 c0,.slice a1 n1 c1,.slice a2 n2 c2],.agg #[.int .i64 kd,.int .i64 k,.int .u64 (old:Int),.int .u64 (size:Int),.slice sa ns sc,.slice da D.length dc]] w fun e w'=>e = .returned (.bool r)∧Below w.heap.size w w':=by
 have hbx:=bal (bal (Below.refl w.heap.size w) (.cells #[.slice a0 n0 c0,.slice a1 n1 c1,.slice a2 n2 c2] 83)) (.cells #[.int .i64 kd,.int .i64 k,.int .u64 (old:Int),.int .u64 (size:Int),.slice sa ns sc,.slice da D.length dc] 38)
 have e1:IntKind.i64.wrap ((n0:Int)+(n1:Int))=(n0:Int)+(n1:Int):=by rw [IntKind.wrap_i64]; omega
 have e2:IntKind.i64.wrap ((n0:Int)+(n1:Int)+(n2:Int))=((n0+n1+n2:Nat):Int):=by rw [IntKind.wrap_i64]; omega
 by_cases hl:D.length=n0+n1+n2
 ·have hz:(n0:Int)+(n1:Int)+(n2:Int)=(D.length:Int):=by omega
  rw [← hl] at e2
  have HR:Hid (∀ W,Below w.heap.size w W→RdS W da db dO D.length D):=fun W hb=>hr.next hb (Nat.le_refl _)
  have h6:=(six_new (w.alloc (.cells #[.slice a0 n0 c0,.slice a1 n1 c1,.slice a2 n2 c2] 83)) (.int .i64 kd) (.int .i64 k) (.int .u64 (old:Int)) (.int .u64 (size:Int)) (.slice sa ns sc) (.slice da D.length dc)).cells.2.1
  rw [World.size_alloc] at h6
  have HQ:Hid (decide (∀ d∈D,(d.size:Int)=k)=r):=by
   rw [← hq]
   show decide _=decide _
   simp only [fil,hl,true_and]
  have h63:(D.length:Int)≤300:=by omega
  clear hr hq hm hl h0 h1 h2 hz
  go_enter Tryz.func116,Tryz.ntmps116
  go_wp2
  go_loopg [25] D.length (fun g i wr => ∃ j:Nat,j≤D.length∧g=D.length - j∧i = .int .i64 (j:Int)∧(∀ t,t<j→((D.getD t ByteArray.empty).size:Int)=k)∧wr=(w.alloc (.cells #[.slice a0 n0 c0,.slice a1 n1 c1,.slice a2 n2 c2] 83)).alloc (.cells #[.int .i64 kd,.int .i64 k,.int .u64 (old:Int),.int .u64 (size:Int),.slice sa ns sc,.slice da D.length dc] 38))
  case atStart =>
   go_light
   exact ⟨0,Nat.zero_le _,rfl,rfl,fun t ht=>absurd ht (Nat.not_lt_zero _),rfl⟩
  case round =>
   obtain ⟨j,hj,rfl,rfl,hal,hwr⟩:=hrel
   rw [← hwr] at hbx h6
   have HWR:=hide hwr
   clear hwr
   by_cases hlt:j<D.length
   ·have hz:(j:Int)<(D.length:Int):=by omega
    have hz0:(0:Int)≤(j:Int):=Int.natCast_nonneg _
    have hrd:=HR.out wr hbx
    obtain rfl:=hrd.ptr (by omega)
    have cj:=hrd.at hlt
    obtain ⟨d,hd⟩ : ∃ d,D.getD j ByteArray.empty=d:=⟨_,rfl⟩
    rw [hd] at cj
    by_cases hk:(d.size:Int)=k
    ·have HN:Hid (∀ t,t<j+1→((D.getD t ByteArray.empty).size:Int)=k):=fun t ht=>by
      rcases Nat.lt_or_eq_of_le (Nat.le_of_lt_succ ht) with hx | rfl
      ·exact hal t hx
      ·rw [hd]; exact hk
     clear hd hal hrd
     go_wp2
     go_roundg (D.length - (j+1))
     case rel =>
      go_light
      exact ⟨j+1,by omega,rfl,by go_num,HN.out,HWR.out⟩
     case measure=>go_light; omega
    ·obtain rfl:false=r:=by
      rw [← HQ.out]
      refine (decide_eq_false fun h=>hk ?_).symm
      rw [← hd]
      exact h _ (getD_mem hlt)
     clear hd hal hrd
     go_wp2
     go_ret
     exact ⟨rfl,hbx⟩
   ·obtain rfl:j=D.length:=by omega
    have hz : ¬ ((D.length:Int)<(D.length:Int)):=by omega
    obtain rfl:true=r:=by
     rw [← HQ.out]
     refine (decide_eq_true fun d hd => ?_).symm
     obtain ⟨t,ht,rfl⟩:=List.getElem_of_mem hd
     have:=hal t ht
     rwa [List.getD_eq_getElem?_getD,List.getElem?_eq_getElem ht] at this
    clear hal hlt
    go_wp2
    go_ret
    exact ⟨rfl,hbx⟩
 ·have hz : ¬ (D.length:Int)=((n0+n1+n2:Nat):Int):=by omega
  obtain ⟨nn,hnn⟩ : ∃ nn,n0+n1+n2=nn:=⟨_,rfl⟩
  rw [hnn] at e2 hz
  obtain rfl:false=r:=by rw [← hq]; exact (decide_eq_false (by rintro ⟨h,_⟩; exact hl h)).symm
  clear hr hq hl h0 h1 h2 hnn
  go_enter Tryz.func116,Tryz.ntmps116
  go_wp2
  go_ret
  exact ⟨rfl,hbx⟩
theorem and_one (q:Nat) (h:q<18446744073709551616):bits .and .u64 (q:Int) 1=((q % 2:Nat):Int):=by
 have:=bits_and_u64_nat q 1 h (by decide)
 rw [Nat.and_one_is_mod] at this
 exact this
set_option maxRecDepth 100000 in
set_option maxHeartbeats 1000000 in
theorem raised_any (w:World) (ht:Tb w) (k:Int) (i:Nat) (hi:i<2^40) (d:ByteArray) (hd:d.size=clk k) (da:Option Addr) (db dO dc:Nat) (D:List ByteArray) (hr:RdS w da db dO D.length D) (hl:D.length≤40) (hs : ∀ s∈D,s.size=clk k) (r:ByteArray) (hq:rs (clk k) i d D=r) :
  Calls Tryz.prog 117 #[.int .i64 k,.int .u64 (i:Int),.string d,.slice da D.length dc] w fun e w'=>e = .returned (.string r)∧Below w.heap.size w w':=by
 have HT:Hid (∀ W,Below w.heap.size w W→Tb W):=fun W hb=>ht.next hb
 have HR:Hid (∀ W,Below w.heap.size w W→RdS W da db dO D.length D):=fun W hb=>hr.next hb (Nat.le_refl _)
 have HX:Hid (i<2^40∧D.length≤40∧(∀ s∈D,s.size=clk k)∧rs (clk k) i d D=r∧d.size=clk k):=⟨hi,hl,hs,hq,hd⟩
 have h63:(D.length:Int)≤40:=by omega
 have hb0:=Below.refl w.heap.size w
 clear ht hr hi hl hs hq hd
 go_enter Tryz.func117,Tryz.ntmps117
 go_wp2
 go_loopg [2,13] D.length (fun g x n wr => ∃ (j:Nat) (y:ByteArray),j≤D.length∧g=D.length - j∧n = .int .i64 (j:Int)∧x = .string y∧Hid (rs (clk k) i d (D.take j)=y∧y.size=clk k)∧Below w.heap.size w wr)
 case atStart =>
  go_light
  exact ⟨0,d,Nat.zero_le _,rfl,rfl,rfl,⟨by simp [rs],HX.out.2.2.2.2⟩,hb0⟩
 case round =>
  clear hb0
  obtain ⟨j,y,hj,rfl,rfl,rfl,HY,hb⟩:=hrel
  by_cases hlt:j<D.length
  ·have hz:(j:Int)<(D.length:Int):=by omega
   have hz0:(0:Int)≤(j:Int):=Int.natCast_nonneg _
   have hz64:(j:Int)<64:=by omega
   have hrd:=HR.out wr hb
   obtain rfl:=hrd.ptr (by omega)
   have cj:=hrd.at hlt
   obtain ⟨x,hx⟩ : ∃ x,D.getD j ByteArray.empty=x:=⟨_,rfl⟩
   rw [hx] at cj
   have zx:x.size=clk k:=by rw [← hx]; exact HX.out.2.2.1 _ (getD_mem hlt)
   obtain ⟨q,hq⟩ : ∃ q,i / 2^j=q:=⟨_,rfl⟩
   have eq1:(i:Int) / 2^j=(q:Int):=by rw [← hq]; simp
   have hqb:q<18446744073709551616:=by have:=HX.out.1; have:=Nat.div_le_self i (2^j); omega
   have ea:=and_one q hqb
   have htn:D.take (j+1)=D.take j++[x]:=by rw [take_succ_getD ByteArray.empty D j hlt,hx]
   have hstep:rs (clk k) i d (D.take (j+1))=dg (clk k) (stT q y x):=by
    rw [htn,rs_app,HY.out.1,List.length_take,Nat.min_eq_left hj,hq]
   have hc:=clk_le k
   by_cases hodd:q % 2=1
   ·have ea2:bits .and .u64 (q:Int) 1=1:=by rw [ea,hodd]; rfl
    rw [stT,if_pos hodd] at hstep
    obtain ⟨y2,hy2⟩ : ∃ y2,dg (clk k) (nodeT x y)=y2:=⟨_,rfl⟩
    have HN:=node_any wr (HT.out wr hb) k x y (by omega) (by have:=HY.out.2; omega) y2 hy2
    have HG:Hid (rs (clk k) i d (D.take (j+1))=y2∧y2.size=clk k):=⟨hstep.trans hy2,by rw [← hy2]; exact dg_size hc _⟩
    clear hstep htn hx zx hq hqb ea hodd hrd hy2 hc HY
    go_wp2_with (go_at_call 51; with_reducible refine HN.mono ?_; rintro e w1 ⟨rfl,hb1⟩)
    go_roundg (D.length - (j+1))
    case rel =>
     go_light
     exact ⟨j+1,y2,by omega,rfl,by go_num,rfl,HG,bnext hb hb1⟩
    case measure=>go_light; omega
   ·have ea2:bits .and .u64 (q:Int) 1=0:=by rw [ea,show q % 2=0 by omega]; rfl
    rw [stT,if_neg hodd] at hstep
    obtain ⟨y2,hy2⟩ : ∃ y2,dg (clk k) (nodeT y x)=y2:=⟨_,rfl⟩
    have HN:=node_any wr (HT.out wr hb) k y x (by have:=HY.out.2; omega) (by omega) y2 hy2
    have HG:Hid (rs (clk k) i d (D.take (j+1))=y2∧y2.size=clk k):=⟨hstep.trans hy2,by rw [← hy2]; exact dg_size hc _⟩
    clear hstep htn hx zx hq hqb ea hodd hrd hy2 hc HY
    go_wp2_with (go_at_call 51; with_reducible refine HN.mono ?_; rintro e w1 ⟨rfl,hb1⟩)
    go_roundg (D.length - (j+1))
    case rel =>
     go_light
     exact ⟨j+1,y2,by omega,rfl,by go_num,rfl,HG,bnext hb hb1⟩
    case measure=>go_light; omega
  ·obtain rfl:j=D.length:=by omega
   have hz : ¬ ((D.length:Int)<(D.length:Int)):=by omega
   obtain rfl:y=r:=by rw [← HX.out.2.2.2.1,← HY.out.1,List.take_length]
   clear HY hlt
   go_wp2
   go_ret
   exact ⟨rfl,hb⟩
end Go.Proofs.YtipcenbndhnnhaaGreatDoor
