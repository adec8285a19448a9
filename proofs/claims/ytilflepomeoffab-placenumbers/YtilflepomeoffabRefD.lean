/-
  Walks of the reference: Height, Parent, Sibling; the walk of PlacePlaces. Own work.
-/
import Derived.Test.YtilflepomeoffabRefC
namespace Go.Proofs.Ytilflepomeoffab
open Go.RowKit
attribute [local go_sem ↓] Go.wp_at_zero Go.wp_at_succ
theorem rblock_any (p : Nat) (w : World) :
    Calls Try.prog 7 #[.int .u64 p] w fun e w' => e = .returned (.tuple #[bv (blk' p).1 (blk' p).2, .bool (decide (p ≤ most))]) ∧ Below w.heap.size w w' := by
  by_cases hp : p ≤ most
  · rw [blk', if_pos hp, decide_eq_true hp]; exact rblock_yes p w hp
  · rw [blk', if_neg hp, decide_eq_false hp]; exact rblock_no p w (by omega)
theorem rheight_any (p : Nat) (w : World) :
    Calls Try.prog 9 #[.int .u64 p] w fun e w' => e = .returned (.tuple #[.int .i64 ((blk' p).1 : Nat), .bool (decide (p ≤ most))]) ∧ Below w.heap.size w w' := by
  have HC := rblock_any p w
  generalize (blk' p).1 = h at *
  generalize (blk' p).2 = k at *
  generalize decide (p ≤ most) = ok at *
  go_enter Try.func9, Try.ntmps9
  go_wp2_with (go_at_call 7; with_reducible refine HC.mono ?_; rintro e w1 ⟨rfl, hb⟩)
  go_ret2
  exact ⟨rfl, hb.alloc hb.size _⟩
theorem rparent_no (p : Nat) (w : World) (hp : most < p) :
    Calls Try.prog 11 #[.int .u64 p] w fun e w' => e = .returned (.tuple #[.int .u64 0, .bool false]) ∧ Below w.heap.size w w' := by
  have HC := rblock_no p w hp
  clear hp
  go_enter Try.func11, Try.ntmps11
  go_wp2_with (go_at_call 7; with_reducible refine HC.mono ?_; rintro e w1 ⟨rfl, hb⟩)
  go_ret2
  exact ⟨rfl, bal hb _⟩
theorem rsibling_no (p : Nat) (w : World) (hp : most < p) :
    Calls Try.prog 13 #[.int .u64 p] w fun e w' => e = .returned (.tuple #[.int .u64 0, .bool false]) ∧ Below w.heap.size w w' := by
  have HC := rblock_no p w hp
  clear hp
  go_enter Try.func13, Try.ntmps13
  go_wp2_with (go_at_call 7; with_reducible refine HC.mono ?_; rintro e w1 ⟨rfl, hb⟩)
  go_ret2
  exact ⟨rfl, bal hb _⟩
theorem rparent_top (p k : Nat) (w : World) (hp : p ≤ most) (he : blk p = (40, k)) :
    Calls Try.prog 11 #[.int .u64 p] w fun e w' => e = .returned (.tuple #[.int .u64 0, .bool false]) ∧ Below w.heap.size w w' := by
  have HC : Calls Try.prog 7 #[.int .u64 p] w fun e w' => e = .returned (.tuple #[.agg #[.int .i64 40, .int .u64 (k : Int)], .bool true]) ∧ Below w.heap.size w w' := by
    have := rblock_yes p w hp; rw [he] at this; exact this
  clear hp he
  go_enter Try.func11, Try.ntmps11
  go_wp2_with (go_at_call 7; with_reducible refine HC.mono ?_; rintro e w1 ⟨rfl, hb⟩)
  go_ret2
  exact ⟨rfl, bal hb _⟩
theorem rsibling_top (p k : Nat) (w : World) (hp : p ≤ most) (he : blk p = (40, k)) :
    Calls Try.prog 13 #[.int .u64 p] w fun e w' => e = .returned (.tuple #[.int .u64 0, .bool false]) ∧ Below w.heap.size w w' := by
  have HC : Calls Try.prog 7 #[.int .u64 p] w fun e w' => e = .returned (.tuple #[.agg #[.int .i64 40, .int .u64 (k : Int)], .bool true]) ∧ Below w.heap.size w w' := by
    have := rblock_yes p w hp; rw [he] at this; exact this
  clear hp he
  go_enter Try.func13, Try.ntmps13
  go_wp2_with (go_at_call 7; with_reducible refine HC.mono ?_; rintro e w1 ⟨rfl, hb⟩)
  go_ret2
  exact ⟨rfl, bal hb _⟩
theorem rparent_yes (p h k : Nat) (w : World) (hp : p ≤ most) (he : blk p = (h, k)) (hne : h ≠ 40) :
    Calls Try.prog 11 #[.int .u64 p] w fun e w' => e = .returned (.tuple #[.int .u64 (at' (h + 1) (k / 2) : Nat), .bool true]) ∧ Below w.heap.size w w' := by
  have HC := rblock_yes p w hp
  have hm := blk_at p hp
  rw [he] at HC hm
  obtain ⟨m1, m2, m3⟩ := hm
  simp only [] at m1 m2 m3
  have hkb := may_big m2
  have HO := fun w' => rof_yes (h + 1) (k / 2) w' (by omega) (by rw [show 40 - h = (40 - (h + 1)) + 1 by omega, pw_succ] at m2; omega)
  have hne1 : ((h : Int) == 40) = false := by
    have : ¬ (h : Int) = 40 := by omega
    simpa using this
  generalize at' (h + 1) (k / 2) = r at *
  obtain ⟨h2, hh2⟩ : ∃ h2, h + 1 = h2 := ⟨_, rfl⟩
  obtain ⟨k2, hk2⟩ : ∃ k2, k / 2 = k2 := ⟨_, rfl⟩
  rw [hh2, hk2] at HO
  have e1 : IntKind.i64.wrap ((h : Int) + 1) = (h2 : Int) := by rw [IntKind.wrap_i64]; omega
  have e2 : (k : Int) / 2 = (k2 : Int) := by omega
  have e3 : IntKind.u64.wrap (k2 : Int) = (k2 : Int) := by rw [IntKind.wrap_u64]; omega
  clear he hp m1 m2 m3 hne hkb hh2 hk2
  go_enter Try.func11, Try.ntmps11
  go_wp2_with (first
    | (go_at_call 7; with_reducible refine HC.mono ?_; rintro e w1 ⟨rfl, hb⟩)
    | (go_at_call 19; with_reducible refine (HO _).mono ?_; rintro e w2 ⟨rfl, hb2⟩))
  go_ret2
  exact ⟨rfl, bnext (bal hb _) hb2⟩
theorem rsibling_core (p h k x r : Nat) (w : World)
    (HC : Calls Try.prog 7 #[.int .u64 p] w fun e w' => e = .returned (.tuple #[bv h k, .bool true]) ∧ Below w.heap.size w w')
    (hne1 : ((h : Int) == 40) = false) (hkb : k < 2 ^ 40)
    (hx : x = sib k)
    (HO : ∀ w', Calls Try.prog 19 #[.agg #[.int .i64 (h : Int), .int .u64 (x : Int)]] w' fun e w'' => e = .returned (.tuple #[.int .u64 (r : Int), .bool true]) ∧ Below w'.heap.size w' w'') :
    Calls Try.prog 13 #[.int .u64 p] w fun e w' => e = .returned (.tuple #[.int .u64 (r : Int), .bool true]) ∧ Below w.heap.size w w' := by
  unfold sib at hx
  by_cases hk2 : k % 2 = 0
  · rw [if_pos hk2] at hx
    have d : ((k : Int) % 2 == 0) = true := by have : (k : Int) % 2 = 0 := by omega
                                               rw [this]; rfl
    have e1 : IntKind.u64.wrap ((k : Int) + 1) = (x : Int) := by rw [IntKind.wrap_u64]; omega
    clear hx hk2 hkb
    go_enter Try.func13, Try.ntmps13
    go_wp2_with (first
      | (go_at_call 7; with_reducible refine HC.mono ?_; rintro e w1 ⟨rfl, hb⟩)
      | (go_at_call 19; with_reducible refine (HO _).mono ?_; rintro e w2 ⟨rfl, hb2⟩))
    go_ret2
    exact ⟨rfl, bnext (bal hb _) hb2⟩
  · rw [if_neg hk2] at hx
    have d : ((k : Int) % 2 == 0) = false := by have : (k : Int) % 2 = 1 := by omega
                                                rw [this]; rfl
    have e1 : IntKind.u64.wrap ((k : Int) - 1) = (x : Int) := by rw [IntKind.wrap_u64]; omega
    clear hx hk2 hkb
    go_enter Try.func13, Try.ntmps13
    go_wp2_with (first
      | (go_at_call 7; with_reducible refine HC.mono ?_; rintro e w1 ⟨rfl, hb⟩)
      | (go_at_call 19; with_reducible refine (HO _).mono ?_; rintro e w2 ⟨rfl, hb2⟩))
    go_ret2
    exact ⟨rfl, bnext (bal hb _) hb2⟩
theorem rsibling_yes (p h k : Nat) (w : World) (hp : p ≤ most) (he : blk p = (h, k)) (hne : h ≠ 40) :
    Calls Try.prog 13 #[.int .u64 p] w fun e w' => e = .returned (.tuple #[.int .u64 (at' h (sib k) : Nat), .bool true]) ∧ Below w.heap.size w w' := by
  have HC := rblock_yes p w hp
  have hm := blk_at p hp
  rw [he] at HC hm
  obtain ⟨m1, m2, m3⟩ := hm
  simp only [] at m1 m2 m3
  have hb := may_big m2
  have hk2 : k / 2 < pw (40 - (h + 1)) := by rw [show 40 - h = (40 - (h + 1)) + 1 by omega, pw_succ] at m2; omega
  have hk3 := may_two (h := h) (by omega) hk2
  have hne2 : ¬ (h : Int) = 40 := by omega
  refine rsibling_core p h k (sib k) _ w HC (by simpa using hne2) hb rfl (fun w' => rof_yes h (sib k) w' m1 ?_)
  unfold sib; split <;> omega
/-- Parent and Sibling: program and reference answer alike. -/
theorem up_both (p : Nat) : ∃ (x y : Nat) (u : Bool),
    (∀ w, Calls Try.prog 10 #[.int .u64 p] w fun e w' => e = .returned (.tuple #[.int .u64 (x : Int), .bool u]) ∧ Below w.heap.size w w') ∧
    (∀ w, Calls Try.prog 11 #[.int .u64 p] w fun e w' => e = .returned (.tuple #[.int .u64 (x : Int), .bool u]) ∧ Below w.heap.size w w') ∧
    (∀ w, Calls Try.prog 12 #[.int .u64 p] w fun e w' => e = .returned (.tuple #[.int .u64 (y : Int), .bool u]) ∧ Below w.heap.size w w') ∧
    (∀ w, Calls Try.prog 13 #[.int .u64 p] w fun e w' => e = .returned (.tuple #[.int .u64 (y : Int), .bool u]) ∧ Below w.heap.size w w') := by
  by_cases hp : p ≤ most
  · obtain ⟨h, k, he⟩ : ∃ h k, blk p = (h, k) := ⟨_, _, rfl⟩
    by_cases h40 : h = 40
    · subst h40
      exact ⟨0, 0, false, fun w => parent_top p k w hp he, fun w => rparent_top p k w hp he, fun w => sibling_top p k w hp he, fun w => rsibling_top p k w hp he⟩
    · exact ⟨_, _, true, fun w => parent_yes p h k w hp he h40, fun w => rparent_yes p h k w hp he h40, fun w => sibling_yes p h k w hp he h40, fun w => rsibling_yes p h k w hp he h40⟩
  · have hp' : most < p := by omega
    exact ⟨0, 0, false, fun w => parent_no p w hp', fun w => rparent_no p w hp', fun w => sibling_no p w hp', fun w => rsibling_no p w hp'⟩
set_option maxHeartbeats 2000000 in
set_option maxRecDepth 100000 in
theorem places_walk (p : Nat) (w : World) :
    Calls Try.prog 3 #[.int .u64 p] w fun e w' => e = .returned (.bool true) ∧ Below w.heap.size w w' := by
  have HA := fun w' => alive_any w'
  have HB := fun w' => block_any p w'
  have HR := fun w' => rblock_any p w'
  have HH := fun w' => height_any p w'
  have HS := fun w' => rheight_any p w'
  obtain ⟨x, y, u, H1, H2, H3, H4⟩ := up_both p
  generalize (blk' p).1 = h at *
  generalize (blk' p).2 = k at *
  generalize decide (p ≤ most) = ok at *
  go_enter Try.func3, Try.ntmps3
  go_upto_region 4 with (first
    | (go_at_call 5; with_reducible refine (HA _).mono ?_; rintro e w1 ⟨rfl, hb1⟩)
    | (go_at_call 6; with_reducible refine (HB _).mono ?_; rintro e w2 ⟨rfl, hb2⟩))
  have B2 := bnext hb1 hb2
  clear HA HB hb1 hb2
  go_upto_region 7 with (first
    | (go_at_call 7; with_reducible refine (HR _).mono ?_; rintro e w3 ⟨rfl, hb3⟩)
    | (go_at_call 8; with_reducible refine (HH _).mono ?_; rintro e w4 ⟨rfl, hb4⟩)
    | (go_at_call 9; with_reducible refine (HS _).mono ?_; rintro e w5 ⟨rfl, hb5⟩))
  obtain ⟨c0, c1⟩ := (((((two_new w2 h k 25).next hb3).next (ball w3 (.cells #[.int .i64 (h : Int), .int .u64 (k : Int)] 25))).next hb4).next hb5).at0
  obtain ⟨d0, d1⟩ := (((two_new w3 h k 25).next hb4).next hb5).at0
  have B5 : Hid (Below w.heap.size w w5) := bnext (bnext (bal (bnext (bal B2 _) hb3) _) hb4) hb5
  clear HR HH HS hb3 hb4 hb5 B2
  go_wp2_with (first
    | (go_at_call 10; with_reducible refine (H1 _).mono ?_; rintro e w6 ⟨rfl, hb6⟩)
    | (go_at_call 11; with_reducible refine (H2 _).mono ?_; rintro e w7 ⟨rfl, hb7⟩)
    | (go_at_call 12; with_reducible refine (H3 _).mono ?_; rintro e w8 ⟨rfl, hb8⟩)
    | (go_at_call 13; with_reducible refine (H4 _).mono ?_; rintro e w9 ⟨rfl, hb9⟩))
  go_ret
  exact ⟨rfl, bnext (bnext (bnext (bnext B5.out hb6) hb7) hb8) hb9⟩
theorem places_row (a : Int) (w0 : (Lit.int .u64 a).wf = true) (w : World) :
    Calls Try.prog 3 #[.int .u64 a] w fun e w' => e = .returned (.bool true) ∧ Below w.heap.size w w' := by
  obtain ⟨n, rfl, _⟩ := u64_nat w0
  exact places_walk n w
end Go.Proofs.Ytilflepomeoffab
