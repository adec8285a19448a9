/-
  Own work: TWalkB, TWalkC.
-/
import Derived.WalkMore
import Derived.Test.YtdocjikpcbmcgaaGreatDoorQs12
namespace Go.Proofs.YtdocjikpcbmcgaaGreatDoor
open Go.RowKit
open Cv (RdC zl)
attribute [local go_sem ↓] Go.wp_at_zero Go.wp_at_succ
theorem set3_cells {w : World} {s : Nat} {a b c : Value} (h0 : w.cell? ⟨s, 0, none⟩ = some a) (h1 : w.cell? ⟨s, 1, none⟩ = some b) (h2 : w.cell? ⟨s, 2, none⟩ = some c) (x y z : Value) :
    (((w.setCell ⟨s, 0, none⟩ x).setCell ⟨s, 1, none⟩ y).setCell ⟨s, 2, none⟩ z).cell? ⟨s, 0, none⟩ = some x ∧ (((w.setCell ⟨s, 0, none⟩ x).setCell ⟨s, 1, none⟩ y).setCell ⟨s, 2, none⟩ z).cell? ⟨s, 1, none⟩ = some y ∧ (((w.setCell ⟨s, 0, none⟩ x).setCell ⟨s, 1, none⟩ y).setCell ⟨s, 2, none⟩ z).cell? ⟨s, 2, none⟩ = some z := by
  have n1 : (⟨s, 0, none⟩ : Addr) ≠ ⟨s, 1, none⟩ := by simp
  have n2 : (⟨s, 0, none⟩ : Addr) ≠ ⟨s, 2, none⟩ := by simp
  have n3 : (⟨s, 1, none⟩ : Addr) ≠ ⟨s, 2, none⟩ := by simp
  have m1 : (w.setCell ⟨s, 0, none⟩ x).cell? ⟨s, 1, none⟩ = some b := (World.cell?_setCell_other _ _ _ _ (by simp)).trans h1
  have m2 : ((w.setCell ⟨s, 0, none⟩ x).setCell ⟨s, 1, none⟩ y).cell? ⟨s, 2, none⟩ = some c := (World.cell?_setCell_other _ _ _ _ (by simp)).trans ((World.cell?_setCell_other _ _ _ _ (by simp)).trans h2)
  refine ⟨?_, ?_, World.cell?_setCell_same _ _ _ m2⟩
  · refine (World.cell?_setCell_other _ _ _ _ (by simp)).trans ((World.cell?_setCell_other _ _ _ _ (by simp)).trans (World.cell?_setCell_same _ _ _ h0))
  · exact (World.cell?_setCell_other _ _ _ _ (by simp)).trans (World.cell?_setCell_same _ _ _ m1)
theorem fin3 {W0 WF : World} {p s : Nat} (hps : s ≠ p) {a b c : Value} (h0 : W0.cell? ⟨s, 0, none⟩ = some a) (h1 : W0.cell? ⟨s, 1, none⟩ = some b) (h2 : W0.cell? ⟨s, 2, none⟩ = some c) (v1 v2 x y z : Value)
    (hWF : (((((W0.setCell ⟨p, 1, none⟩ v1).setCell ⟨p, 2, none⟩ v2).setCell ⟨s, 0, none⟩ x).setCell ⟨s, 1, none⟩ y).setCell ⟨s, 2, none⟩ z).drew = WF) :
    (WF.cell? ⟨s, 0, none⟩ = some x ∧ WF.cell? ⟨s, 1, none⟩ = some y ∧ WF.cell? ⟨s, 2, none⟩ = some z) ∧ ChT (fun b => b = p ∨ b = s) W0 WF := by
  obtain ⟨V, hV⟩ : ∃ V, (W0.setCell ⟨p, 1, none⟩ v1).setCell ⟨p, 2, none⟩ v2 = V := ⟨_, rfl⟩
  have hq3 : ∀ t, V.cell? ⟨s, t, none⟩ = W0.cell? ⟨s, t, none⟩ := fun t => by
    rw [← hV, World.cell?_setCell_other _ _ _ _ (fun e => hps (congrArg Addr.block e).symm), World.cell?_setCell_other _ _ _ _ (fun e => hps (congrArg Addr.block e).symm)]
  have hc := ((ChT.refl (fun b => b = p ∨ b = s) W0).set p 1 v1 (.inl rfl)).set p 2 v2 (.inl rfl)
  rw [hV] at hc hWF
  have r := set3_cells ((hq3 0).trans h0) ((hq3 1).trans h1) ((hq3 2).trans h2) x y z
  have hc2 := ((hc.set s 0 x (.inr rfl)).set s 1 y (.inr rfl)).set s 2 z (.inr rfl)
  generalize ((V.setCell ⟨s, 0, none⟩ x).setCell ⟨s, 1, none⟩ y).setCell ⟨s, 2, none⟩ z = U at r hc2 hWF
  subst hWF
  exact ⟨by rw [World.cell?_drew, World.cell?_drew, World.cell?_drew]; exact r, hc2.drew⟩
def Ly (w : World) (g : Nat) (M : List (Nat × Nat)) : Prop := ∀ t c, (Cv.cB (zl M))[t]? = some c → w.cell? ⟨g, t, none⟩ = some c
theorem Ly.same {w W : World} {g : Nat} {M : List (Nat × Nat)} (h : Ly w g M) (hb : W.heap[g]? = w.heap[g]?) : Ly W g M := fun t c ht => (World.cell?_of_block (a := ⟨g, t, none⟩) hb).trans (h t c ht)
theorem part_A {W : World} {g cap : Nat} {M A B : List (Nat × Nat)} {x : Nat × Nat} (h : Ly W g M) (hM : M = A ++ x :: B) : RdC W (.slice (some ⟨g, 0, none⟩) A.length cap) A.length (Cv.cB (zl A)) := by
  refine ⟨_, _, rfl, (fun e => by cases e), fun ad ha t c ht => ?_⟩
  cases ha
  rw [Addr.add_mid, Nat.zero_add]
  refine h t c ?_
  rw [hM, Cv.zl_app, Cv.cB_app, List.getElem?_append_left ((List.getElem?_eq_some_iff.1 ht).1)]
  exact ht
theorem part_B {W : World} {g cap c' : Nat} {M A B : List (Nat × Nat)} {x : Nat × Nat} (h : Ly W g M) (hM : M = A ++ x :: B) (hc : M.length ≤ cap) {ax : Option Addr} (hax : (if cap = A.length + 1 then some (⟨g, 0, none⟩ : Addr) else some ⟨g, (A.length + 1) * 2, none⟩) = ax) : RdC W (.slice ax B.length c') B.length (Cv.cB (zl B)) := by
  refine ⟨_, _, rfl, (fun e => by rw [e] at hax; split at hax <;> cases hax), fun ad ha t c ht => ?_⟩
  have htl := (List.getElem?_eq_some_iff.1 ht).1
  rw [Cv.cB_len, Cv.zl_len] at htl
  have hml := congrArg List.length hM
  rw [List.length_append, List.length_cons] at hml
  rw [if_neg (by omega), ha] at hax
  cases hax
  rw [Addr.add_mid]
  refine h _ c ?_
  have e : zl M = zl (A ++ [x]) ++ zl B := by rw [← Cv.zl_app, hM, List.append_assoc]; rfl
  rw [e, Cv.cB_app, List.getElem?_append_right (by rw [Cv.cB_len, Cv.zl_len]; simp), Cv.cB_len, Cv.zl_len]
  rw [show (A.length + 1) * 2 + t - (A ++ [x]).length * 2 = t by simp]
  exact ht
structure WS (w1 wr : World) (p h q : Nat) (vb : Value) (l : List (Int × Nat)) : Prop where
  c7 : wr.heap[p]? = some (.cells #[vb, .slice none 0 0, .slice none 0 0] 154 (0, 0))
  c8 : wr.heap[p + 1]? = some (.cells #[.int .i64 (h : Int), .int .u64 (q : Int)] 83 (0, 0))
  own : Cv.OwnB wr (p + 2) vb l
  bl : Below p w1 wr
theorem WS.sz {w1 wr : World} {p h q : Nat} {vb : Value} {l : List (Int × Nat)} (h1 : WS w1 wr p h q vb l) : p + 2 ≤ wr.heap.size := (Array.getElem?_eq_some_iff.1 h1.c8).1
theorem WS.next {w1 wr W : World} {p h q : Nat} {vb : Value} {l : List (Int × Nat)} (h1 : WS w1 wr p h q vb l) (hb : Below wr.heap.size wr W) : WS w1 W p h q vb l := by
  have := h1.sz
  exact ⟨(hb.block p (by omega)).trans h1.c7, (hb.block (p + 1) (by omega)).trans h1.c8, Cv.ownB_next h1.own hb, h1.bl.trans (hb.mono (by omega))⟩
theorem WS.cells {w1 wr : World} {p h q : Nat} {vb : Value} {l : List (Int × Nat)} (h1 : WS w1 wr p h q vb l) : (wr.cell? ⟨p, 0, none⟩ = some vb ∧ wr.cell? ⟨p, 1, none⟩ = some (.slice none 0 0) ∧ wr.cell? ⟨p, 2, none⟩ = some (.slice none 0 0)) ∧ (wr.cell? ⟨p + 1, 0, none⟩ = some (.int .i64 (h : Int)) ∧ wr.cell? ⟨p + 1, 1, none⟩ = some (.int .u64 (q : Int))) ∧ ∀ j, wr.frozen? ⟨p, j, none⟩ = false ∧ wr.frozen? ⟨p + 1, j, none⟩ = false :=
  ⟨⟨by rw [cell_of_row wr p 0 _ _ (0, 0) h1.c7]; rfl, by rw [cell_of_row wr p 1 _ _ (0, 0) h1.c7]; rfl, by rw [cell_of_row wr p 2 _ _ (0, 0) h1.c7]; rfl⟩,
   ⟨by rw [cell_of_row wr (p + 1) 0 _ _ (0, 0) h1.c8]; rfl, by rw [cell_of_row wr (p + 1) 1 _ _ (0, 0) h1.c8]; rfl⟩, fun j => ⟨frozen_of_row wr p j _ _ h1.c7, frozen_of_row wr (p + 1) j _ _ h1.c8⟩⟩
theorem WS.step {w1 wr w2 : World} {p h q : Nat} {vb v' : Value} {l l' : List (Int × Nat)} {o : Obj} (h1 : WS w1 wr p h q vb l) (hg : (wr.alloc o).grownBy w2 vb.ownBlock) (ho : Cv.OwnB w2 (p + 2) v' l') (h' q' : Nat) :
    (w2.cell? ⟨p, 0, none⟩ = some vb ∧ w2.cell? ⟨p + 1, 0, none⟩ = some (.int .i64 (h : Int)) ∧ w2.cell? ⟨p + 1, 1, none⟩ = some (.int .u64 (q : Int)) ∧ w2.frozen? ⟨p, 0, none⟩ = false ∧ w2.frozen? ⟨p + 1, 0, none⟩ = false ∧ w2.frozen? ⟨p + 1, 1, none⟩ = false) ∧
    WS w1 (((w2.setCell ⟨p, 0, none⟩ v').setCell ⟨p + 1, 0, none⟩ (.int .i64 (h' : Int))).setCell ⟨p + 1, 1, none⟩ (.int .u64 (q' : Int))) p h' q' v' l' := by
  have hs := h1.sz
  have hbl : ∀ b, b < p + 2 → w2.heap[b]? = wr.heap[b]? := fun b hb => by
    rw [hg.block b (by simp; omega) (fun e => by have := (h1.own.lt b e.symm).1; omega)]
    exact Below.heap_alloc _ _ _ (by omega)
  have e7 := (hbl p (by omega)).trans h1.c7
  have e8 := (hbl (p + 1) (by omega)).trans h1.c8
  refine ⟨⟨by rw [cell_of_row w2 p 0 _ _ (0, 0) e7]; rfl, by rw [cell_of_row w2 (p + 1) 0 _ _ (0, 0) e8]; rfl, by rw [cell_of_row w2 (p + 1) 1 _ _ (0, 0) e8]; rfl, frozen_of_row w2 p 0 _ _ e7, frozen_of_row w2 (p + 1) 0 _ _ e8, frozen_of_row w2 (p + 1) 1 _ _ e8⟩, ?_⟩
  have s7 : (w2.setCell ⟨p, 0, none⟩ v').heap[p]? = some (.cells #[v', .slice none 0 0, .slice none 0 0] 154 (0, 0)) := heap_setCell_same w2 p 0 _ _ _ e7
  have s8 : (w2.setCell ⟨p, 0, none⟩ v').heap[p + 1]? = some (.cells #[.int .i64 (h : Int), .int .u64 (q : Int)] 83 (0, 0)) := (Below.heap_setCell _ _ _ _ (by show p + 1 ≠ p; omega)).trans e8
  have t8 : ((w2.setCell ⟨p, 0, none⟩ v').setCell ⟨p + 1, 0, none⟩ (.int .i64 (h' : Int))).heap[p + 1]? = some (.cells #[.int .i64 (h' : Int), .int .u64 (q : Int)] 83 (0, 0)) := heap_setCell_same _ (p + 1) 0 _ _ _ s8
  have t7 := (Below.heap_setCell (w2.setCell ⟨p, 0, none⟩ v') ⟨p + 1, 0, none⟩ (.int .i64 (h' : Int)) p (by show p ≠ p + 1; omega)).trans s7
  refine ⟨(Below.heap_setCell _ _ _ _ (by show p ≠ p + 1; omega)).trans t7, heap_setCell_same _ (p + 1) 1 _ _ _ t8, ?_, ?_⟩
  · refine keep_row ho fun g _ hg => ?_
    rw [Below.heap_setCell _ _ _ _ (by show g ≠ p + 1; omega), Below.heap_setCell _ _ _ _ (by show g ≠ p + 1; omega), Below.heap_setCell _ _ _ _ (by show g ≠ p; omega)]
  · have hb2 : Below p wr w2 := ((Below.refl p wr).alloc (by omega) o).grown hg (by simp; omega) fun k hk => by have := (h1.own.lt k hk).1; omega
    exact (((h1.bl.trans hb2).setCell (p := ⟨p, 0, none⟩) (Nat.le_refl _) _).setCell (p := ⟨p + 1, 0, none⟩) (by show p ≤ p + 1; omega) _).setCell (p := ⟨p + 1, 1, none⟩) (by show p ≤ p + 1; omega) _
set_option maxRecDepth 100000 in
set_option maxHeartbeats 2000000 in
theorem way_any (w : World) (n i H : Nat) (A B : List (Nat × Nat)) (hw : Wy n i A H B) (hn : n ≤ 2 ^ 40) (hi : i < n) :
    Calls Tryz.prog 113 #[.int .u64 (n : Int), .int .u64 (i : Int)] w fun e w' => ∃ vb va vc, e = .returned (.agg #[vb, va, vc]) ∧ RdC w' vb H (Cv.cB (zl (bes i H))) ∧ RdC w' va A.length (Cv.cB (zl A)) ∧ RdC w' vc B.length (Cv.cB (zl B)) ∧ Below w.heap.size w w' := by
  obtain ⟨M, hM⟩ : ∃ M, Cv.dnL 41 0 n = M := ⟨_, rfl⟩
  have hin := dn_in n hn
  rw [hM] at hin
  have HM : Hid (∀ W, Calls Tryz.prog 75 #[.int .u64 (n : Int)] W fun x w' => ∃ g cap, x = .returned (.tuple #[.slice (some ⟨g, 0, none⟩) M.length cap, .int .i64 0]) ∧ RdB w' (some ⟨g, 0, none⟩) g 0 M.length (zl M) ∧ M.length ≤ cap ∧ cap ≤ maxLen ∧ g < w'.heap.size ∧ W.heap.size ≤ g ∧ Ly w' g M ∧ Below W.heap.size W w') := fun W => by
    have := Cv.mountains_any n W
    rw [(mount40 n hn).1, (mount40 n hn).2, hM] at this
    refine this.mono fun x w' ⟨v, e1, e2, e3⟩ => ?_
    have hne : 0 < (zl M).length := by rw [Cv.zl_len, ← hM, hw.all, List.length_append, List.length_cons]; omega
    obtain ⟨ao, g, m, cap, rfl, r1, r2⟩ := own_rdB e2 (fun b hb => by
      obtain ⟨c, hc, rfl⟩ := List.mem_map.1 hb
      exact (fit40 (hin c hc) hn).1)
    have hl := r1.len
    subst hl
    obtain rfl := r1.addr hne
    obtain ⟨g', cap', cur, hv, hg, hh, hc1, hc2, _⟩ := e2.2.resolve_left (by rintro ⟨_, h0⟩; omega)
    cases hv
    have hcl : Ly w' g M := fun t c ht => by
      have := e2.cells (g := g) rfl t c ht
      rwa [Addr.add_mid, Nat.zero_add] at this
    rw [Cv.zl_len] at e1 r1 hc1
    exact ⟨g, cap, e1, r1, hc1, hc2, (Array.getElem?_eq_some_iff.1 hh).1, hg, hcl, e3⟩
  have hlen : M.length ≤ 41 := by rw [← hM]; exact Cv.dn_len 41 0 n
  have HW : Hid (Wy n i A H B ∧ Cv.dnL 41 0 n = M ∧ M.length ≤ 41 ∧ i < 2 ^ 40 ∧ ∀ b ∈ M, (b.2 + 1) * 2 ^ b.1 ≤ n) := ⟨hw, hM, hlen, by omega, hin⟩
  have hl63 : (M.length : Int) ≤ 41 := by omega
  clear hw hM hin hn hi
  go_enter Tryz.func113, Tryz.ntmps113
  go_wp2
  go_step3
  go_wp2_with (go_at_call 75; with_reducible refine (HM.out _).mono ?_; rintro e w1 ⟨g, cap, rfl, hR, hcap, hcm, hg, hgs, hcl, hb1⟩)
  go_step3
  go_wp2
  have z0 : w.heap.size < w1.heap.size := by have := hb1.size; simp at this; omega
  have HS0 : Hid (WS w1 ((w1.alloc (.cells #[.slice none 0 0, .slice none 0 0, .slice none 0 0] 154)).alloc (.cells #[.int .i64 ((0 : Nat) : Int), .int .u64 (i : Int)] 83)) w1.heap.size 0 i (.slice none 0 0) []) := by
    refine ⟨?_, ?_, World.ownsRow_nil _ _ _ _, ((Below.refl _ _).alloc (Nat.le_refl _) _).alloc (by simp) _⟩
    · rw [Below.heap_alloc _ _ _ (by simp)]; exact heap_alloc_new w1 _
    · have := heap_alloc_new (w1.alloc (.cells #[.slice none 0 0, .slice none 0 0, .slice none 0 0] 154)) (.cells #[.int .i64 ((0 : Nat) : Int), .int .u64 (i : Int)] 83)
      simpa using this
  have HR : Hid (∀ W, Below w1.heap.size w1 W → RdB W (some ⟨g, 0, none⟩) g 0 M.length (zl M)) := fun W hb => hR.below hb
  have HB1 : Hid (Below w.heap.size w w1) := (bal (Below.refl _ _) _).trans (hb1.mono (by simp))
  have HP4 : Hid (w1.heap[w.heap.size]? = some (.cells #[.slice none 0 0, .slice none 0 0, .slice none 0 0] 154 (0, 0))) := (hb1.block w.heap.size (by simp)).trans (heap_alloc_new w _)
  have HG : Hid (g < w1.heap.size ∧ M.length ≤ cap ∧ cap ≤ maxLen ∧ w.heap.size < g ∧ Ly w1 g M) := ⟨hg, hcap, hcm, by simp at hgs; omega, hcl⟩
  have HZ : Hid (w.heap.size < w1.heap.size) := z0
  obtain ⟨p, hp⟩ : ∃ p, w1.heap.size = p := ⟨_, rfl⟩
  have HP := hide hp
  rw [hp] at HS0 ⊢
  clear hR hb1 hg z0 hlen HM hcap hcm hgs hcl
  go_loopg [] H (fun gh wr => ∃ (h : Nat) (vb : Value), h ≤ H ∧ gh = H - h ∧ WS w1 wr p h (i / 2 ^ h) vb (zl (bes i h)))
  case atStart =>
    go_light
    refine ⟨0, .slice none 0 0, Nat.zero_le _, rfl, ?_⟩
    have := HS0.out
    simpa [bes, zl] using this
  case round =>
    clear HS0
    obtain ⟨h, vb, hh, rfl, hS⟩ := hrel
    obtain ⟨q, hq⟩ : ∃ q, i / 2 ^ h = q := ⟨_, rfl⟩
    rw [hq] at hS
    have HQ := hide hq
    obtain ⟨vo, vm, vq, rfl⟩ := Cv.own_slice hS.own
    have HS := hide hS
    clear hS hq
    generalize wr = wo at *
    clear wr
    go_wp2
    go_loopg [20] M.length (fun gh x wr2 => ∃ j : Nat, j ≤ M.length ∧ gh = M.length - j ∧ x = .int .i64 (j : Int) ∧ (∀ t, t < j → M.getD t (0, 0) ≠ (h, q)) ∧ Below wo.heap.size wo wr2)
    case atStart =>
      go_light
      exact ⟨0, Nat.zero_le _, rfl, rfl, fun t ht => absurd ht (Nat.not_lt_zero _), Below.refl _ _⟩
    case round =>
      obtain ⟨j, hj, rfl, rfl, hno, hb⟩ := hrel
      have hS2 := HS.out.next hb
      have hsz := hS2.sz
      have hRd := HR.out _ (show Below w1.heap.size w1 wr by rw [HP.out]; exact hS2.bl)
      by_cases hlt : j < M.length
      · have hz : (j : Int) < (M.length : Int) := by omega
        have hz0 : (0 : Int) ≤ (j : Int) := Int.natCast_nonneg _
        obtain ⟨m0, m1⟩ := hRd.cell j hlt
        rw [getD_zl M j hlt] at m0 m1
        obtain ⟨⟨mh, mk⟩, hm⟩ : ∃ m, M.getD j (0, 0) = m := ⟨_, rfl⟩
        rw [hm] at m0 m1
        rw [Nat.zero_add] at m0 m1
        have hS3 := hS2.next (bal (Below.refl _ _) (.cells #[.int .i64 (mh : Int), .int .u64 (mk : Int)] 83))
        obtain ⟨⟨k0, k1, k2⟩, ⟨k3, k4⟩, fz⟩ := hS3.cells
        have f0 := fun j => (fz j).1
        have f1 := fun j => (fz j).2
        by_cases hf : (mh, mk) = (h, q)
        · obtain ⟨rfl, rfl⟩ := Prod.mk.inj hf
          have hfd := wy_find HW.out.1 (j := j) (h := mh) (by rw [HW.out.2.1]; exact hlt) (by rw [HW.out.2.1, HQ.out]; exact hm)
          have HX : Hid (j = A.length ∧ mh = H) := hfd
          have hle : (j : Int) ≤ (cap : Int) := by have := HG.out.2.1; omega
          have e1 : IntKind.i64.wrap ((j : Int) + 1) = ((j + 1 : Nat) : Int) := by rw [IntKind.wrap_i64]; omega
          have HB := hide hb
          have HS3 := hide hS3
          clear hm hf hfd hno hj hb hRd hS2 hS3 fz
          go_upto_region 8 with (fail)
          obtain ⟨W0, hW0⟩ : ∃ W0, wr.alloc (.cells #[.int .i64 (mh : Int), .int .u64 (mk : Int)] 83) = W0 := ⟨_, rfl⟩
          rw [hW0] at k0 k1 k2 k3 k4 HS3 ⊢
          have HBL : Hid (Below p w1 W0) := HS3.out.bl
          simp only [hW0] at f0 f1
          have c4 : ∀ t, t < 3 → W0.cell? ⟨w.heap.size, t, none⟩ = some (.slice none 0 0) ∧ W0.frozen? ⟨w.heap.size, t, none⟩ = false := fun t ht => by
            have hx : W0.heap[w.heap.size]? = some (.cells #[.slice none 0 0, .slice none 0 0, .slice none 0 0] 154 (0, 0)) := by
              refine Eq.trans ?_ HP4.out
              refine HBL.out.block _ ?_
              have := HZ.out; have := HP.out; omega
            refine ⟨?_, frozen_of_row W0 _ t _ _ hx⟩
            rw [cell_of_row W0 _ t _ _ (0, 0) hx]
            match t, ht with
            | 0, _ => rfl
            | 1, _ => rfl
            | 2, _ => rfl
          have c40 := (c4 0 (by decide)).1
          have c41 := (c4 1 (by decide)).1
          have c42 := (c4 2 (by decide)).1
          have f40 := (c4 0 (by decide)).2
          have f41 := (c4 1 (by decide)).2
          have f42 := (c4 2 (by decide)).2
          have hlt1 : ((j + 1 : Nat) : Int) ≤ (M.length : Int) := by omega
          have hle2 : ((M.length : Nat) : Int) ≤ (cap : Int) := by have := HG.out.2.1; omega
          have hpw : w.heap.size ≠ p := by have := HZ.out; have := HP.out; omega
          clear c4
          go_region
          obtain ⟨ax, hax⟩ : ∃ ax, (if cap = j + 1 then some (⟨g, 0, none⟩ : Addr) else some ⟨g, (j + 1) * 2, none⟩) = ax := ⟨_, rfl⟩
          have HA := hide hax
          rw [hax]
          clear hax
          go_wp2
          obtain ⟨WF, hWF⟩ : ∃ WF, (((((W0.setCell ⟨p, 1, none⟩ (.slice (some ⟨g, 0, none⟩) j cap)).setCell ⟨p, 2, none⟩ (.slice ax (M.length - (j + 1)) (cap - (j + 1)))).setCell ⟨w.heap.size, 0, none⟩ (.slice vo vm vq)).setCell ⟨w.heap.size, 1, none⟩ (.slice (some ⟨g, 0, none⟩) j cap)).setCell ⟨w.heap.size, 2, none⟩ (.slice ax (M.length - (j + 1)) (cap - (j + 1)))).drew = WF := ⟨_, rfl⟩
          obtain ⟨⟨r0, r1, r2⟩, hch⟩ := fin3 hpw c40 c41 c42 _ _ _ _ _ hWF
          have hoth : ∀ b, b ≠ p → b ≠ w.heap.size → WF.heap[b]? = W0.heap[b]? := fun b h1 h2 => hch.block b (by rintro (e | e); exact h1 e; exact h2 e)
          rw [hWF]
          clear hWF
          refine bodyPost_ret (v := .agg #[.slice vo vm vq, .slice (some ⟨g, 0, none⟩) j cap, .slice ax (M.length - (j + 1)) (cap - (j + 1))]) (by simp [results, Tryz.results113, go_sem, r0, r1, r2]) rfl ?_
          have hz1 := HZ.out
          have hp1 := HP.out
          obtain ⟨g1, g2, g3, g4, g5⟩ := HG.out
          obtain ⟨rfl, rfl⟩ := HX.out
          have hall := HW.out.1.all
          rw [HW.out.2.1] at hall
          have hclF : Ly WF g M := (g5.same (HBL.out.block g (by omega))).same (hoth g (by omega) (by omega))
          have hml := congrArg List.length hall
          rw [List.length_append, List.length_cons] at hml
          refine ⟨_, _, _, rfl, ?_, part_A hclF hall, ?_, ?_⟩
          · have hown : Cv.OwnB WF (p + 2) (.slice vo vm vq) (zl (bes i mh)) := keep_row HS3.out.own fun b _ hb => hoth b (by omega) (by omega)
            have := Cv.rdc_own hown
            rw [Cv.zl_len, bes_len] at this
            exact this
          · have := part_B (c' := cap - (A.length + 1)) hclF hall g2 HA.out
            rw [show M.length - (A.length + 1) = B.length by omega]
            exact this
          · refine ⟨?_, ?_, ?_, ?_, fun b hb => ?_⟩
            · exact hch.os.trans (HBL.out.os.trans HB1.out.os)
            · exact hch.tape.trans (HBL.out.tape.trans HB1.out.tape)
            · exact hch.output.trans (HBL.out.output.trans HB1.out.output)
            · have := HS3.out.sz
              have := hch.size
              omega
            · rw [hoth b (by omega) (by omega), HBL.out.block b (by omega)]; exact HB1.out.block b hb
        · have hne : ¬ ((h : Int) = (mh : Int) ∧ (q : Int) = (mk : Int)) := by
            rintro ⟨e1, e2⟩
            exact hf (Prod.ext (by show mh = h; omega) (by show mk = q; omega))
          have HN : Hid (∀ t, t < j + 1 → M.getD t (0, 0) ≠ (h, q)) := fun t ht => by
            rcases Nat.lt_or_eq_of_le (Nat.le_of_lt_succ ht) with hx | rfl
            · exact hno t hx
            · rw [hm]; exact hf
          have HB := hide (bal hb (.cells #[.int .i64 (mh : Int), .int .u64 (mk : Int)] 83))
          have hj41 : (j : Int) < 41 := by omega
          clear hm hf hno hj hb hRd hS2 hS3 fz
          go_wp2
          all_goals
            go_roundg (M.length - (j + 1))
            case rel =>
              go_light
              exact ⟨j + 1, by omega, rfl, by go_num, HN.out, HB.out⟩
            case measure => go_light; omega
      · obtain rfl : j = M.length := by omega
        have hz : ¬ ((M.length : Int) < (M.length : Int)) := by omega
        have hhH : h < H := by
          apply Nat.lt_of_not_le
          intro hge
          obtain rfl : h = H := by omega
          obtain ⟨a1, a2⟩ := wy_at HW.out.1
          rw [HW.out.2.1] at a1 a2
          exact hno _ a1 (by rw [a2, HQ.out])
        have hb2 := HS.out.next hb
        obtain ⟨⟨k0, k1, k2⟩, ⟨k3, k4⟩, fz⟩ := hS2.cells
        have hi40 := HW.out.2.2.2.1
        have hq40 : q < 2 ^ 40 := by have := HQ.out; have := Nat.div_le_self i (2 ^ h); omega
        have ex : bits .xor .u64 (q : Int) 1 = ((sb q : Nat) : Int) := by rw [← sb_xor]; exact bits_xor_u64_nat q 1 (by omega) (by decide)
        have hh40 : (h : Int) < 41 := by have := HW.out.1.hH; omega
        have e2 : IntKind.u64.wrap ((q : Int) / 2) = ((q / 2 : Nat) : Int) := by rw [IntKind.wrap_u64]; omega
        clear hlt hno hj hRd
        go_wp2_with (at_builtin; refine Cv.wpList_append_B _ rfl _ _ rfl (p + 2) _ (zl (bes i h)) rfl (hS2.own.alloc _) _ [((h : Int), sb q)] rfl (Cv.rdc_block wr (h : Int) (sb q) 83) ?c1 ?c2 ?_)
        case c1 => have := HW.out.1.hH; rw [Cv.zl_len, bes_len]; simp; omega
        case c2 => have := hS2.sz; simp; omega
        intro v' w2 r1 r2 _
        have hE : zl (bes i h) ++ [((h : Int), sb q)] = zl (bes i (h + 1)) := by rw [bes_succ, Cv.zl_app, HQ.out]; rfl
        rw [hE] at r1
        obtain ⟨⟨k5, k6, k7, f5, f6, f7⟩, hN⟩ := hS2.step r2 r1 (h + 1) (q / 2)
        obtain ⟨ao2, m2, c2, rfl⟩ := Cv.own_slice r1
        have HN := hide hN
        have HH := hide hhH
        clear r1 r2 hE hN hb hb2 hS2 HS k0 k1 k2 k3 k4 fz hsz
        go_wp2
        go_roundg (H - (h + 1))
        case rel =>
          go_light
          refine ⟨h + 1, .slice ao2 m2 c2, by have := HH.out; omega, rfl, ?_⟩
          have := HN.out
          rw [show i / 2 ^ (h + 1) = q / 2 by rw [← half_next, HQ.out]]
          rw [show ((h + 1 : Nat) : Int) = (h : Int) + 1 by omega, show ((q / 2 : Nat) : Int) = (q : Int) / 2 by omega] at this
          exact this
        case measure => go_light; have := HH.out; omega
end Go.Proofs.YtdocjikpcbmcgaaGreatDoor
namespace Go.Proofs.YtdocjikpcbmcgaaGreatDoor
open Go.RowKit
open Cv (RdC zl)
attribute [local go_sem ↓] Go.wp_at_zero Go.wp_at_succ
theorem cat3_S {w : World} {g0 : Nat} {u0 u1 u2 : Value} {L0 L1 L2 : List ByteArray} (c0 : w.cell? ⟨g0, 0, none⟩ = some u0) (c1 : w.cell? ⟨g0, 1, none⟩ = some u1) (c2 : w.cell? ⟨g0, 2, none⟩ = some u2) (r0 : RdC w u0 L0.length (cS L0)) (r1 : RdC w u1 L1.length (cS L1)) (r2 : RdC w u2 L2.length (cS L2)) : CatS w g0 [u0, u1, u2] [L0, L1, L2] := by
  refine ⟨rfl, fun j hj => ?_, fun j hj => ?_⟩
  · match j, hj with
    | 0, _ => exact c0
    | 1, _ => exact c1
    | 2, _ => exact c2
  · match j, hj with
    | 0, _ => exact r0
    | 1, _ => exact r1
    | 2, _ => exact r2
section
variable {w W : World} {s : Nat} {a b c d e f : Value}
end
end Go.Proofs.YtdocjikpcbmcgaaGreatDoor
