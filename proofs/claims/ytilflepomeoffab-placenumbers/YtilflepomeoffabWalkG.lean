/-
  Walks of the laws' own helpers: alive. Own work.
-/
import Derived.Test.YtilflepomeoffabWalkF
namespace Go.Proofs.Ytilflepomeoffab
open Go.RowKit
attribute [local go_sem ↓] Go.wp_at_zero Go.wp_at_succ
set_option maxHeartbeats 2000000 in
set_option maxRecDepth 100000 in
theorem alive_any (w : World) : Calls Try.prog 5 #[] w fun e w' => e = .returned (.bool true) ∧ Below w.heap.size w w' := by
  have H1 : ∀ w', Calls Try.prog 14 #[.int .u64 7] w' fun e w'' => e = .returned (.tuple #[.int .u64 11, .bool true]) ∧ w' = w'' := fun w' => (nodes_yes 7 w' (by decide)).mono fun e w'' h => ⟨h.1, h.2.symm⟩
  have H2 : ∀ w', Calls Try.prog 16 #[.int .u64 5] w' fun e w'' => e = .returned (.tuple #[.int .u64 8, .bool true]) ∧ w' = w'' := fun w' => (leaf_yes 5 w' (by decide)).mono fun e w'' h => ⟨h.1, h.2.symm⟩
  have H3 : ∀ w', Calls Try.prog 18 #[.agg #[.int .i64 1, .int .u64 2]] w' fun e w'' => e = .returned (.tuple #[.int .u64 9, .bool true]) ∧ Below w'.heap.size w' w'' := fun w' => of_yes 1 2 w' (by decide) (by decide)
  have b5 : blk 5 = (1, 1) := by decide
  have b6 : blk 6 = (2, 0) := by decide
  have b14 : blk 14 = (3, 0) := by decide
  have H4 : ∀ w', Calls Try.prog 6 #[.int .u64 5] w' fun e w'' => e = .returned (.tuple #[.agg #[.int .i64 1, .int .u64 1], .bool true]) ∧ Below w'.heap.size w' w'' := fun w' => by
    have := block_yes 5 w' (by decide); rw [b5] at this; exact this
  have H5 : ∀ w', Calls Try.prog 8 #[.int .u64 14] w' fun e w'' => e = .returned (.tuple #[.int .i64 3, .bool true]) ∧ Below w'.heap.size w' w'' := fun w' => by
    have := height_any 14 w'; rw [blk', if_pos (by decide), b14] at this; exact this
  have H6 : ∀ w', Calls Try.prog 10 #[.int .u64 5] w' fun e w'' => e = .returned (.tuple #[.int .u64 6, .bool true]) ∧ Below w'.heap.size w' w'' := fun w' => parent_yes 5 1 1 w' (by decide) b5 (by decide)
  have H7 : ∀ w', Calls Try.prog 12 #[.int .u64 6] w' fun e w'' => e = .returned (.tuple #[.int .u64 13, .bool true]) ∧ Below w'.heap.size w' w'' := fun w' => sibling_yes 6 2 0 w' (by decide) b6 (by decide)
  have H8 : ∀ w', Calls Try.prog 21 #[.int .u64 7] w' fun e w'' => ∃ v, e = .returned v ∧ Own w'' w'.heap.size v [6, 9, 10] ∧ Below w'.heap.size w' w'' := fun w' => peaks_yes 7 w' (by decide)
  have H9 : ∀ w', Calls Try.prog 14 #[.int .u64 1099511627777] w' fun e w'' => e = .returned (.tuple #[.int .u64 0, .bool false]) ∧ w' = w'' := fun w' => (nodes_no 1099511627777 w' (by decide)).mono fun e w'' h => ⟨h.1, h.2.symm⟩
  clear b5 b6 b14
  go_enter Try.func5, Try.ntmps5
  go_upto_region 5 with (first
    | (go_at_call 14; with_reducible refine (H1 _).mono ?_; rintro e w1 ⟨rfl, rfl⟩)
    | (go_at_call 16; with_reducible refine (H2 _).mono ?_; rintro e w2 ⟨rfl, rfl⟩)
    | (go_at_call 18; with_reducible refine (H3 _).mono ?_; rintro e w3 ⟨rfl, hb3⟩)
    | (go_at_call 6; with_reducible refine (H4 _).mono ?_; rintro e w4 ⟨rfl, hb4⟩))
  have HB : Hid (Below w.heap.size w w4) := bnext hb3 hb4
  clear hb3 hb4 H1 H2 H3 H4
  go_upto_region 9 with (first
    | (go_at_call 8; with_reducible refine (H5 _).mono ?_; rintro e w5 ⟨rfl, hb5⟩)
    | (go_at_call 10; with_reducible refine (H6 _).mono ?_; rintro e w6 ⟨rfl, hb6⟩)
    | (go_at_call 12; with_reducible refine (H7 _).mono ?_; rintro e w7 ⟨rfl, hb7⟩)
    | (go_at_call 21; with_reducible refine (H8 _).mono ?_; rintro e w8 ⟨v, rfl, ho, hb8⟩))
  have hW : Below (w4.alloc (.cells #[.int .i64 1, .int .u64 1] 25)).heap.size (w4.alloc (.cells #[.int .i64 1, .int .u64 1] 25)) w8 := bnext (bnext (bnext hb5 hb6) hb7) hb8
  have tx := (two_new w4 1 1 25).below hW (by simp)
  have x0 : w8.cell? ⟨w4.heap.size, 0, none⟩ = some (.int .i64 1) := tx.c0
  have x1 : w8.cell? ⟨w4.heap.size, 1, none⟩ = some (.int .u64 1) := tx.c1
  have HB2 : Hid (Below w.heap.size w w8) := bnext (bal HB.out _) hW
  obtain ⟨ao, b, n, cap, rfl, r, hn, hno⟩ := own_rd ho
  obtain rfl : n = 3 := r.len.symm
  obtain rfl := r.addr (by decide)
  have y0 : w8.cell? ⟨b, 0, none⟩ = some (.int .u64 6) := r.cell 0 (by decide)
  have y1 : w8.cell? ⟨b, 1, none⟩ = some (.int .u64 9) := r.cell 1 (by decide)
  have y2 : w8.cell? ⟨b, 2, none⟩ = some (.int .u64 10) := r.cell 2 (by decide)
  clear hW tx HB hb5 hb6 hb7 hb8 H5 H6 H7 H8 ho r hn hno
  go_wp2_with (go_at_call 14; with_reducible refine (H9 _).mono ?_; rintro e w9 ⟨rfl, rfl⟩)
  go_ret
  exact ⟨rfl, HB2.out⟩
end Go.Proofs.Ytilflepomeoffab
