/-
  Walks of package place: Parent, Sibling. Own work.
-/
import Derived.Test.YtilflepomeoffabWalkC
import Derived.Deep.RegionWith
import Derived.Deep.Cut
import Derived.Deep.CutRange
namespace Go.Proofs.Ytilflepomeoffab
open Go.RowKit
attribute [local go_sem ↓] Go.wp_at_zero Go.wp_at_succ
theorem bnext {w W w2 : World} (h : Below w.heap.size w W) (h2 : Below W.heap.size W w2) : Below w.heap.size w w2 := h.trans (h2.mono h.size)
theorem bal {w W : World} (h : Below w.heap.size w W) (o : Obj) : Below w.heap.size w (W.alloc o) := h.alloc h.size o
theorem all_one (w : World) : Calls Try.prog 23 #[] w fun e w' => e = .returned (.agg #[.int .i64 40, .int .u64 0]) ∧ w' = w.alloc (.cells #[.int .i64 40, .int .u64 0] 25) := by
  go_enter Try.func23, Try.ntmps23
  go_wp2
  go_returns
  exact ⟨rfl, rfl⟩
theorem parent_no (p : Nat) (w : World) (hp : most < p) :
    Calls Try.prog 10 #[.int .u64 p] w fun e w' => e = .returned (.tuple #[.int .u64 0, .bool false]) ∧ Below w.heap.size w w' := by
  have HC := block_no p w hp
  clear hp
  go_enter Try.func10, Try.ntmps10
  go_wp2_with (go_at_call 6; with_reducible refine HC.mono ?_; rintro e w1 ⟨rfl, hb⟩)
  go_quiet (fail)
  go_wp2
  go_ret2
  exact ⟨rfl, below_drewN (hb.alloc hb.size _) _⟩
theorem parent_yes (p h k : Nat) (w : World) (hp : p ≤ most) (he : blk p = (h, k)) (hne : h ≠ 40) :
    Calls Try.prog 10 #[.int .u64 p] w fun e w' => e = .returned (.tuple #[.int .u64 (at' (h + 1) (k / 2) : Nat), .bool true]) ∧ Below w.heap.size w w' := by
  have HC := block_yes p w hp
  have hm := blk_at p hp
  rw [he] at HC hm
  obtain ⟨m1, m2, m3⟩ := hm
  simp only [] at m1 m2 m3
  have HA : ∀ w', Calls Try.prog 23 #[] w' fun e w'' => e = .returned (.agg #[.int .i64 40, .int .u64 0]) ∧ Below w'.heap.size w' w'' := fun w' => all_any w'
  have HV : ∀ w', Calls Try.prog 28 #[.agg #[.int .i64 (h : Int), .int .u64 (k : Int)]] w' fun e w'' => e = .returned (bv (h + 1) (k / 2)) ∧ Below w'.heap.size w' w'' := fun w' => above_any h k w' m1 (may_big m2)
  have HT := fun w' => at_any (h + 1) (k / 2) w' (by omega) (by rw [show 40 - h = (40 - (h + 1)) + 1 by omega, pw_succ] at m2; omega)
  have hne1 : ¬ (h : Int) = 40 := by omega
  generalize h + 1 = h2 at *
  generalize k / 2 = k2 at *
  clear he hp m1 m2 m3 hne
  go_enter Try.func10, Try.ntmps10
  go_wp2_with (go_at_call 6; with_reducible refine HC.mono ?_; rintro e w1 ⟨rfl, hb⟩)
  go_region_with ((go_at_call 23; refine (all_one _).mono ?_; rintro e w2 ⟨rfl, rfl⟩))
  all_goals
    go_wp2_with (first | (go_at_call 28; with_reducible refine (HV _).mono ?_; rintro e w2 ⟨rfl, hb2⟩) | (go_at_call 24; with_reducible refine (HT _).mono ?_; rintro e w3 ⟨rfl, hb3⟩))
    go_ret2
    refine ⟨rfl, bnext (bnext ?_ hb2) hb3⟩
    repeat (first | exact hb | refine bal ?_ _ | refine below_drewN ?_ _ | refine Below.drew ?_)
theorem parent_top (p k : Nat) (w : World) (hp : p ≤ most) (he : blk p = (40, k)) :
    Calls Try.prog 10 #[.int .u64 p] w fun e w' => e = .returned (.tuple #[.int .u64 0, .bool false]) ∧ Below w.heap.size w w' := by
  have HC := block_yes p w hp
  have hm := blk_at p hp
  rw [he] at HC hm
  obtain ⟨m1, m2, m3⟩ := hm
  simp only [] at m1 m2 m3
  obtain rfl : k = 0 := by simpa [pw] using m2
  have HC' : Calls Try.prog 6 #[.int .u64 p] w fun e w' => e = .returned (.tuple #[.agg #[.int .i64 40, .int .u64 0], .bool true]) ∧ Below w.heap.size w w' := HC
  clear he hp m1 m2 m3 HC
  go_enter Try.func10, Try.ntmps10
  go_wp2_with (go_at_call 6; with_reducible refine HC'.mono ?_; rintro e w1 ⟨rfl, hb⟩)
  go_region_with ((go_at_call 23; refine (all_one _).mono ?_; rintro e w2 ⟨rfl, rfl⟩))
  all_goals
    go_wp2
    go_ret2
    refine ⟨rfl, ?_⟩
    repeat (first | exact hb | refine bal ?_ _ | refine below_drewN ?_ _ | refine Below.drew ?_)
/-- The sibling's number. -/
def sib (k : Nat) : Nat := if k % 2 = 0 then k + 1 else k - 1
theorem sibling_no (p : Nat) (w : World) (hp : most < p) :
    Calls Try.prog 12 #[.int .u64 p] w fun e w' => e = .returned (.tuple #[.int .u64 0, .bool false]) ∧ Below w.heap.size w w' := by
  have HC := block_no p w hp
  clear hp
  go_enter Try.func12, Try.ntmps12
  go_wp2_with (go_at_call 6; with_reducible refine HC.mono ?_; rintro e w1 ⟨rfl, hb⟩)
  go_quiet (fail)
  go_wp2
  go_ret2
  exact ⟨rfl, below_drewN (hb.alloc hb.size _) _⟩
theorem sibling_top (p k : Nat) (w : World) (hp : p ≤ most) (he : blk p = (40, k)) :
    Calls Try.prog 12 #[.int .u64 p] w fun e w' => e = .returned (.tuple #[.int .u64 0, .bool false]) ∧ Below w.heap.size w w' := by
  have HC := block_yes p w hp
  have hm := blk_at p hp
  rw [he] at HC hm
  obtain ⟨m1, m2, m3⟩ := hm
  simp only [] at m1 m2 m3
  obtain rfl : k = 0 := by simpa [pw] using m2
  have HC' : Calls Try.prog 6 #[.int .u64 p] w fun e w' => e = .returned (.tuple #[.agg #[.int .i64 40, .int .u64 0], .bool true]) ∧ Below w.heap.size w w' := HC
  clear he hp m1 m2 m3 HC
  go_enter Try.func12, Try.ntmps12
  go_wp2_with (go_at_call 6; with_reducible refine HC'.mono ?_; rintro e w1 ⟨rfl, hb⟩)
  go_region_with ((go_at_call 23; refine (all_one _).mono ?_; rintro e w2 ⟨rfl, rfl⟩))
  all_goals
    go_wp2
    go_ret2
    refine ⟨rfl, ?_⟩
    repeat (first | exact hb | refine bal ?_ _ | refine below_drewN ?_ _ | refine Below.drew ?_)
theorem sibling_core (p h k h2 k2 x r : Nat) (w : World)
    (HC : Calls Try.prog 6 #[.int .u64 p] w fun e w' => e = .returned (.tuple #[bv h k, .bool true]) ∧ Below w.heap.size w w')
    (hne1 : ¬ (h : Int) = 40)
    (HV : ∀ w', Calls Try.prog 28 #[.agg #[.int .i64 (h : Int), .int .u64 (k : Int)]] w' fun e w'' => e = .returned (bv h2 k2) ∧ Below w'.heap.size w' w'')
    (l rr : Nat) (HH : ∀ w', Calls Try.prog 26 #[bv h2 k2] w' fun e w'' => e = .returned (.tuple #[bv h l, bv h rr]) ∧ Below w'.heap.size w' w'')
    (hx : if k = l then x = rr else x = l)
    (HT : ∀ w', Calls Try.prog 24 #[.agg #[.int .i64 (h : Int), .int .u64 (x : Int)]] w' fun e w'' => e = .returned (.int .u64 (r : Int)) ∧ Below w'.heap.size w' w'') :
    Calls Try.prog 12 #[.int .u64 p] w fun e w' => e = .returned (.tuple #[.int .u64 (r : Int), .bool true]) ∧ Below w.heap.size w w' := by
  go_enter Try.func12, Try.ntmps12
  go_wp2_with (go_at_call 6; with_reducible refine HC.mono ?_; rintro e w1 ⟨rfl, hb⟩)
  go_region_with ((go_at_call 23; refine (all_one _).mono ?_; rintro e w2 ⟨rfl, rfl⟩))
  all_goals
    by_cases hkl : k = l
    · rw [if_pos hkl] at hx
      subst hx
      subst hkl
      go_upto_region 5 with (first | (go_at_call 28; with_reducible refine (HV _).mono ?_; rintro e w2 ⟨rfl, hb2⟩) | (go_at_call 26; with_reducible refine (HH _).mono ?_; rintro e w3 ⟨rfl, hb3⟩))
      have hW : Below (w1.alloc (.cells #[.int .i64 (h : Int), .int .u64 (k : Int)] 25)).heap.size (w1.alloc (.cells #[.int .i64 (h : Int), .int .u64 (k : Int)] 25)) w3 := by
        refine bnext (bnext ?_ hb2) hb3
        repeat (first | exact Below.refl _ _ | refine bal ?_ _ | refine below_drewN ?_ _ | refine Below.drew ?_)
      have hsz := hW.size
      rw [World.size_alloc] at hsz
      have tb : Two ((w3.alloc (.cells #[.int .i64 (h : Int), .int .u64 (k : Int)] 25)).alloc (.cells #[.int .i64 (h : Int), .int .u64 (x : Int)] 25)) w1.heap.size h k := ((two_new w1 h k 25).below hW (by simp)).below (bal (bal (Below.refl _ _) _) _) (by omega)
      have q1 : Two ((w3.alloc (.cells #[.int .i64 (h : Int), .int .u64 (k : Int)] 25)).alloc (.cells #[.int .i64 (h : Int), .int .u64 (x : Int)] 25)) w3.heap.size h k := (two_new w3 h k 25).below ((Below.refl _ _).alloc (Nat.le_refl _) _) (by simp)
      have q2 := two_new (w3.alloc (.cells #[.int .i64 (h : Int), .int .u64 (k : Int)] 25)) h x 25
      rw [World.size_alloc] at q2
      have HB : Hid (Below w.heap.size w ((w3.alloc (.cells #[.int .i64 (h : Int), .int .u64 (k : Int)] 25)).alloc (.cells #[.int .i64 (h : Int), .int .u64 (x : Int)] 25))) := bal (bal (bnext (bal hb _) hW) _) _
      clear hb hb2 hb3 hW HV HH HC hsz
      generalize ((w3.alloc (.cells #[.int .i64 (h : Int), .int .u64 (k : Int)] 25)).alloc (.cells #[.int .i64 (h : Int), .int .u64 (x : Int)] 25)) = w5 at *
      have c0 := tb.c0
      have c1 := tb.c1
      have l0 := q1.c0
      have l1 := q1.c1
      have r0 := q2.c0
      have r1 := q2.c1
      clear tb q1 q2
      go_wp2_with (go_at_call 24; with_reducible refine (HT _).mono ?_; rintro e w4 ⟨rfl, hb4⟩)
      go_ret2
      exact ⟨rfl, bnext HB.out hb4⟩
    · rw [if_neg hkl] at hx
      subst hx
      go_upto_region 5 with (first | (go_at_call 28; with_reducible refine (HV _).mono ?_; rintro e w2 ⟨rfl, hb2⟩) | (go_at_call 26; with_reducible refine (HH _).mono ?_; rintro e w3 ⟨rfl, hb3⟩))
      have hW : Below (w1.alloc (.cells #[.int .i64 (h : Int), .int .u64 (k : Int)] 25)).heap.size (w1.alloc (.cells #[.int .i64 (h : Int), .int .u64 (k : Int)] 25)) w3 := by
        refine bnext (bnext ?_ hb2) hb3
        repeat (first | exact Below.refl _ _ | refine bal ?_ _ | refine below_drewN ?_ _ | refine Below.drew ?_)
      have hsz := hW.size
      rw [World.size_alloc] at hsz
      have tb : Two ((w3.alloc (.cells #[.int .i64 (h : Int), .int .u64 (x : Int)] 25)).alloc (.cells #[.int .i64 (h : Int), .int .u64 (rr : Int)] 25)) w1.heap.size h k := ((two_new w1 h k 25).below hW (by simp)).below (bal (bal (Below.refl _ _) _) _) (by omega)
      have q1 : Two ((w3.alloc (.cells #[.int .i64 (h : Int), .int .u64 (x : Int)] 25)).alloc (.cells #[.int .i64 (h : Int), .int .u64 (rr : Int)] 25)) w3.heap.size h x := (two_new w3 h x 25).below ((Below.refl _ _).alloc (Nat.le_refl _) _) (by simp)
      have q2 := two_new (w3.alloc (.cells #[.int .i64 (h : Int), .int .u64 (x : Int)] 25)) h rr 25
      rw [World.size_alloc] at q2
      have HB : Hid (Below w.heap.size w ((w3.alloc (.cells #[.int .i64 (h : Int), .int .u64 (x : Int)] 25)).alloc (.cells #[.int .i64 (h : Int), .int .u64 (rr : Int)] 25))) := bal (bal (bnext (bal hb _) hW) _) _
      clear hb hb2 hb3 hW HV HH HC hsz
      generalize ((w3.alloc (.cells #[.int .i64 (h : Int), .int .u64 (x : Int)] 25)).alloc (.cells #[.int .i64 (h : Int), .int .u64 (rr : Int)] 25)) = w5 at *
      have c0 := tb.c0
      have c1 := tb.c1
      have l0 := q1.c0
      have l1 := q1.c1
      have r0 := q2.c0
      have r1 := q2.c1
      clear tb q1 q2
      go_wp2_with (go_at_call 24; with_reducible refine (HT _).mono ?_; rintro e w4 ⟨rfl, hb4⟩)
      go_ret2
      exact ⟨rfl, bnext HB.out hb4⟩
theorem sibling_yes (p h k : Nat) (w : World) (hp : p ≤ most) (he : blk p = (h, k)) (hne : h ≠ 40) :
    Calls Try.prog 12 #[.int .u64 p] w fun e w' => e = .returned (.tuple #[.int .u64 (at' h (sib k) : Nat), .bool true]) ∧ Below w.heap.size w w' := by
  have HC := block_yes p w hp
  have hm := blk_at p hp
  rw [he] at HC hm
  obtain ⟨m1, m2, m3⟩ := hm
  simp only [] at m1 m2 m3
  have hb := may_big m2
  have hk2 : k / 2 < pw (40 - (h + 1)) := by rw [show 40 - h = (40 - (h + 1)) + 1 by omega, pw_succ] at m2; omega
  have hk3 := may_two (h := h) (by omega) hk2
  refine sibling_core p h k (h + 1) (k / 2) (sib k) _ w HC (by omega) (fun w' => above_any h k w' m1 hb) (2 * (k / 2)) (2 * (k / 2) + 1) (fun w' => halves_any h (k / 2) w' (by omega) (by omega)) ?_ (fun w' => at_any h (sib k) w' m1 ?_)
  · unfold sib; split <;> split <;> omega
  · unfold sib; split <;> omega
end Go.Proofs.Ytilflepomeoffab
