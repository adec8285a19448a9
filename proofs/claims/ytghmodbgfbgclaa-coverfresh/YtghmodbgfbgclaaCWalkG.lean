/-
  Walks of the laws' own helpers: num, alive, within. Own work.
-/
import Derived.Test.YtghmodbgfbgclaaCWalkF
namespace Go.Proofs.Ytghmodbgfbgclaa
open Go.RowKit
attribute [local go_sem ↓] Go.wp_at_zero Go.wp_at_succ
theorem num_any (e : Int) (w : World) : Calls Try.prog 16 #[.int .i64 e] w fun x w' => x = .returned (.int .i64 e) ∧ w = w' := by
  go_enter Try.func16, Try.ntmps16
  go_wp2
  go_ret
  exact ⟨rfl, rfl⟩
theorem own_lit (w : World) (B : Nat) (cs : Array Value) (l : List (Int × Nat)) (hcs : cs.toList = cB l) (hB : B ≤ w.heap.size) (hl : l.length ≤ 1000) :
    OwnB (w.alloc (.cells cs 37)) B (.slice (some ⟨w.heap.size, 0, none⟩) l.length l.length) l := by
  refine ⟨cB_len l, .inr ⟨w.heap.size, l.length, cs, rfl, hB, heap_new _ _, Nat.le_refl _, by unfold maxLen; omega, ?_, ?_⟩⟩
  · rw [← Array.length_toList, hcs, cB_len]
  · rw [hcs, ← cB_len, List.take_length]
theorem rd_one (w : World) (x : Nat) : Rd (w.alloc (.cells #[.int .u64 (x : Int)] 22)) (some ⟨w.heap.size, 0, none⟩) w.heap.size 0 1 [x] := by
  refine ⟨rfl, fun _ => rfl, fun j hj => ?_⟩
  obtain rfl : j = 0 := by omega
  simp
theorem rd_two (w : World) (x y : Nat) : Rd (w.alloc (.cells #[.int .u64 (x : Int), .int .u64 (y : Int)] 22)) (some ⟨w.heap.size, 0, none⟩) w.heap.size 0 2 [x, y] := by
  refine ⟨rfl, fun _ => rfl, fun j hj => ?_⟩
  match j, hj with
  | 0, _ => simp
  | 1, _ => simp
theorem below_new {w w' : World} {o : Obj} (h : Below (w.alloc o).heap.size (w.alloc o) w') : Below w.heap.size w w' :=
  ((Below.refl _ w).alloc (Nat.le_refl _) o).trans (h.mono (by simp))
theorem within_any (a m : Nat) (w : World) (hm : m ≤ 2 ^ 40) : Calls Try.prog 9 #[.int .u64 (a : Int), .int .u64 (m : Int)] w fun x w' => x = .returned (.int .u64 (a % (m + 1) : Nat)) ∧ w = w' := by
  have e1 : IntKind.u64.wrap ((m : Int) + 1) = ((m + 1 : Nat) : Int) := by rw [IntKind.wrap_u64]; omega
  have e3 : (m : Int) + 1 = ((m + 1 : Nat) : Int) := by omega
  have hlt : a % (m + 1) < m + 1 := Nat.mod_lt _ (by omega)
  obtain ⟨r, hr⟩ : ∃ r, a % (m + 1) = r := ⟨_, rfl⟩
  have e2 : (a : Int).tmod ((m + 1 : Nat) : Int) = (r : Int) := by rw [← hr]; rfl
  rw [hr] at hlt ⊢
  have e4 : IntKind.u64.wrap (r : Int) = (r : Int) := by rw [IntKind.wrap_u64]; omega
  have hne : ¬ ((m + 1 : Nat) : Int) = 0 := by omega
  obtain ⟨s, hs⟩ : ∃ s, m + 1 = s := ⟨_, rfl⟩
  rw [hs] at e1 e2 hne
  clear hr hlt e3 hs hm
  go_enter Try.func9, Try.ntmps9
  go_wp2
  go_ret
  exact ⟨rfl, rfl⟩
set_option maxHeartbeats 2000000 in
set_option maxRecDepth 100000 in
theorem alive_any (w : World) : Calls Try.prog 8 #[] w fun e w' => e = .returned (.bool true) ∧ Below w.heap.size w w' := by
  have k1 : zl (covR 0 7 7) = [(2, 0), (1, 2), (0, 6)] := by decide
  have k2 : zl (covR 1 7 7) = [(0, 1), (1, 1), (1, 2), (0, 6)] := by decide
  have k3 : zl (rstS 7 [4]) = [(2, 0), (0, 5), (0, 6)] := by decide
  have k4 : (rstS 1099511627776 [0]).length = 40 := by decide
  have H1 : ∀ w', Calls Try.prog 12 #[.int .u64 7] w' fun x w'' => ∃ v, x = .returned (.tuple #[v, .int .i64 0]) ∧ OwnB w'' w'.heap.size v [(2, 0), (1, 2), (0, 6)] ∧ Below w'.heap.size w' w'' := fun w' => by
    have := mountains_any 7 w'; rw [k1] at this; exact this
  have H2 : ∀ w', Calls Try.prog 13 #[.int .u64 1, .int .u64 7, .int .u64 7] w' fun x w'' => ∃ v, x = .returned (.tuple #[v, .int .i64 0]) ∧ OwnB w'' w'.heap.size v [(0, 1), (1, 1), (1, 2), (0, 6)] ∧ Below w'.heap.size w' w'' := fun w' => by
    have := range_any 1 7 7 w'; rw [k2] at this; exact this
  have H3 : ∀ w', Calls Try.prog 14 #[.int .u64 7, .slice (some ⟨w'.heap.size, 0, none⟩) 1 1] (w'.alloc (.cells #[.int .u64 4] 22)) fun x w'' => ∃ v, x = .returned (.tuple #[v, .int .i64 0]) ∧ OwnB w'' w'.heap.size v [(2, 0), (0, 5), (0, 6)] ∧ Below w'.heap.size w' w'' := fun w' => by
    have := rest_any 7 (w'.alloc (.cells #[.int .u64 4] 22)) (some ⟨w'.heap.size, 0, none⟩) w'.heap.size 0 1 1 [4] (rd_one w' 4) (by decide)
    rw [k3] at this
    exact this.mono fun x w'' ⟨v, h1, h2, h3⟩ => ⟨v, h1, h2.mono (by simp), below_new h3⟩
  have H4 : ∀ w', Calls Try.prog 22 #[.int .u64 1099511627776, .slice (some ⟨w'.heap.size, 0, none⟩) 1 1] (w'.alloc (.cells #[.int .u64 0] 22)) fun x w'' => x = .returned (.tuple #[.int .u64 40, .int .i64 0]) ∧ Below w'.heap.size w' w'' := fun w' => by
    have := count_any 1099511627776 (w'.alloc (.cells #[.int .u64 0] 22)) (some ⟨w'.heap.size, 0, none⟩) w'.heap.size 0 1 1 [0] (rd_one w' 0) (by decide)
    rw [k4] at this
    exact this.mono fun x w'' ⟨h1, h2⟩ => ⟨h1, below_new h2⟩
  have H5 : ∀ w', Calls Try.prog 13 #[.int .u64 5, .int .u64 3, .int .u64 4] w' fun x w'' => ∃ v, x = .returned (.tuple #[v, .int .i64 41]) ∧ OwnB w'' w'.heap.size v [] ∧ Below w'.heap.size w' w'' := fun w' => by
    exact range_any 5 3 4 w'
  have H6 : ∀ w', Calls Try.prog 14 #[.int .u64 4, .slice (some ⟨w'.heap.size, 0, none⟩) 2 2] (w'.alloc (.cells #[.int .u64 5, .int .u64 3] 22)) fun x w'' => ∃ v, x = .returned (.tuple #[v, .int .i64 40]) ∧ OwnB w'' w'.heap.size v [] ∧ Below w'.heap.size w' w'' := fun w' => by
    have := rest_any 4 (w'.alloc (.cells #[.int .u64 5, .int .u64 3] 22)) (some ⟨w'.heap.size, 0, none⟩) w'.heap.size 0 2 2 [5, 3] (rd_two w' 5 3) (by decide)
    exact this.mono fun x w'' ⟨v, h1, h2, h3⟩ => ⟨v, h1, h2.mono (by simp), below_new h3⟩
  have HN := num_any
  clear k1 k2 k3 k4
  go_enter Try.func8, Try.ntmps8
  go_upto_region 7 with (first
    | (go_at_call 12; with_reducible refine (H1 _).mono ?_; rintro e w1 ⟨v1, rfl, o1, hb1⟩)
    | (go_at_call 13; with_reducible refine (H2 _).mono ?_; rintro e w2 ⟨v2, rfl, o2, hb2⟩)
    | (go_at_call 14; with_reducible refine (H3 _).mono ?_; rintro e w3 ⟨v3, rfl, o3, hb3⟩)
    | (go_at_call 22; with_reducible refine (H4 _).mono ?_; rintro e w4 ⟨rfl, hb4⟩)
    | (go_at_call 13; with_reducible refine (H5 _).mono ?_; rintro e w5 ⟨v5, rfl, o5, hb5⟩)
    | (go_at_call 14; with_reducible refine (H6 _).mono ?_; rintro e w6 ⟨v6, rfl, o6, hb6⟩))
  have b36 := bnext (bnext hb4 hb5) hb6
  have b26 := bnext hb3 b36
  have b16 := bnext hb2 b26
  have q1 := ownB_next o1 b16
  have q2 := ownB_next o2 b26
  have q3 := ownB_next o3 b36
  have HB : Hid (Below w.heap.size w w6) := bnext hb1 b16
  have S1 : ∀ W, Below w6.heap.size w6 W → Calls Try.prog 15 #[v1, .slice (some ⟨W.heap.size, 0, none⟩) 3 3] (W.alloc (.cells #[.int .i64 2, .int .u64 0, .int .i64 1, .int .u64 2, .int .i64 0, .int .u64 6] 37)) fun e w' => e = .returned (.bool true) ∧ Below w6.heap.size w6 w' := fun W hW =>
    (same_own _ v1 _ _ W.heap.size _ _ ((ownB_next q1 hW).alloc _) (own_lit W W.heap.size _ [(2, 0), (1, 2), (0, 6)] rfl (Nat.le_refl _) (by decide))).mono fun e w' h => ⟨h.1, bnext hW (below_new h.2)⟩
  have S2 : ∀ W, Below w6.heap.size w6 W → Calls Try.prog 15 #[v2, .slice (some ⟨W.heap.size, 0, none⟩) 4 4] (W.alloc (.cells #[.int .i64 0, .int .u64 1, .int .i64 1, .int .u64 1, .int .i64 1, .int .u64 2, .int .i64 0, .int .u64 6] 37)) fun e w' => e = .returned (.bool true) ∧ Below w6.heap.size w6 w' := fun W hW =>
    (same_own _ v2 _ _ W.heap.size _ _ ((ownB_next q2 hW).alloc _) (own_lit W W.heap.size _ [(0, 1), (1, 1), (1, 2), (0, 6)] rfl (Nat.le_refl _) (by decide))).mono fun e w' h => ⟨h.1, bnext hW (below_new h.2)⟩
  have S3 : ∀ W, Below w6.heap.size w6 W → Calls Try.prog 15 #[v3, .slice (some ⟨W.heap.size, 0, none⟩) 3 3] (W.alloc (.cells #[.int .i64 2, .int .u64 0, .int .i64 0, .int .u64 5, .int .i64 0, .int .u64 6] 37)) fun e w' => e = .returned (.bool true) ∧ Below w6.heap.size w6 w' := fun W hW =>
    (same_own _ v3 _ _ W.heap.size _ _ ((ownB_next q3 hW).alloc _) (own_lit W W.heap.size _ [(2, 0), (0, 5), (0, 6)] rfl (Nat.le_refl _) (by decide))).mono fun e w' h => ⟨h.1, bnext hW (below_new h.2)⟩
  have b0 := Below.refl w6.heap.size w6
  clear H1 H2 H3 H4 H5 H6 o1 o2 o3 o5 o6 hb1 hb2 hb3 hb4 hb5 hb6 b36 b26 b16 q1 q2 q3
  go_wp2_with (first
    | (go_at_call 16; with_reducible refine (HN _ _).mono ?_; rintro e w9 ⟨rfl, rfl⟩)
    | (go_at_call 15; with_reducible refine (S1 _ b0).mono ?_; rintro e w7 ⟨rfl, hb7⟩)
    | (go_at_call 15; with_reducible refine (S2 _ hb7).mono ?_; rintro e w8 ⟨rfl, hb8⟩)
    | (go_at_call 15; with_reducible refine (S3 _ hb8).mono ?_; rintro e w9 ⟨rfl, hb9⟩))
  go_ret
  exact ⟨rfl, bnext HB.out hb9⟩
end Go.Proofs.Ytghmodbgfbgclaa
