/-
  The walk of RecordReads. Own work.
-/
import Derived.Test.YtggkjleibhpnfaaNFix
import Derived.Test.YtggkjleibhpnfaaNRefD
import Derived.Test.YtggkjleibhpnfaaNRefE
import Derived.Laws.StructEq
namespace Go.Proofs.Ytggkjleibhpnfaa
open Go.RowKit
attribute [local go_sem ↓] Go.wp_at_zero Go.wp_at_succ
set_option maxRecDepth 100000 in
set_option maxHeartbeats 2000000 in
theorem reads_walk (w : World) (s : ByteArray) (hs : s.size ≤ 140737488351232) (k : Int) (p : Nat) (hp : p < 18446744073709551616) :
    Calls Try.prog 6 #[.string s, .int .i64 k, .int .u64 (p : Int)] w fun e w' => e = .returned (.bool true) ∧ Below w.heap.size w w' := by
  obtain ⟨rt, rn, re, hR⟩ : ∃ rt rn re, rpT s.data.toList = (rt, rn, re) := ⟨_, _, _, rfl⟩
  obtain ⟨nt, ne, hN⟩ : ∃ nt ne, rnT k p s.data.toList = (nt, ne) := ⟨_, _, rfl⟩
  obtain ⟨m, me, hM⟩ : ∃ m me, rmT s.data.toList = (m, me) := ⟨_, _, rfl⟩
  obtain ⟨mk, ma, mb, mc, md⟩ := m
  obtain ⟨d, hd⟩ : ∃ d, md.toNat = d := ⟨_, rfl⟩
  have HF : Hid (∀ W, Calls Try.prog 7 #[] W fun e w' => e = .returned (.bool true) ∧ Below W.heap.size W w') := fun W => fixed_any W
  have H1 : Hid (∀ W, Calls Try.prog 9 #[.string s] W fun e w' => e = .returned (.tuple #[.string rt, .int .i64 (rn : Int), .int .i64 re]) ∧ Below W.heap.size W w') := fun W => rpayload_any W s (by omega) rt rn re hR
  have H2 : Hid (∀ W, Calls Try.prog 20 #[.string s] W fun e w' => e = .returned (.tuple #[.string rt, .int .i64 (rn : Int), .int .i64 re]) ∧ Below W.heap.size W w') := fun W => refrpayload_any W s (by omega) rt rn re hR
  have H3 : Hid (∀ W, Calls Try.prog 10 #[.int .i64 k, .int .u64 (p : Int), .string s] W fun e w' => e = .returned (.tuple #[.string nt, .int .i64 ne]) ∧ Below W.heap.size W w') := fun W => rnode_any W k p hp s nt ne hN
  have H4 : Hid (∀ W, Calls Try.prog 21 #[.int .i64 k, .int .u64 (p : Int), .string s] W fun e w' => e = .returned (.tuple #[.string nt, .int .i64 ne]) ∧ Below W.heap.size W w') := fun W => refrnode_any W k p hp s nt ne hN
  have H5 : Hid (∀ W, Calls Try.prog 12 #[.string s] W fun e w' => e = .returned (.tuple #[.agg #[.int .i64 mk, .int .u64 (ma : Int), .int .u64 (mb : Int), .int .u64 (mc : Int), .int .u32 (d : Int)], .int .i64 me]) ∧ Below W.heap.size W w') := fun W => by
    have := rmark_any W s _ me hM
    unfold mC at this
    simp only [hd] at this
    exact this
  have H6 : Hid (∀ W, Calls Try.prog 22 #[.string s] W fun e w' => e = .returned (.tuple #[.agg #[.int .i64 mk, .int .u64 (ma : Int), .int .u64 (mb : Int), .int .u64 (mc : Int), .int .u32 (d : Int)], .int .i64 me]) ∧ Below W.heap.size W w') := fun W => by
    have := refrmark_any W s _ me hM
    unfold mC at this
    simp only [hd] at this
    exact this
  have H7 : Hid (∀ W, Calls Try.prog 14 #[.agg #[.int .i64 mk, .int .u64 (ma : Int), .int .u64 (mb : Int), .int .u64 (mc : Int), .int .u32 (d : Int)]] W fun e w' => e = .returned (.agg #[.int .i64 mk, .int .u64 (ma : Int), .int .u64 (mb : Int), .int .u64 (mc : Int), .int .u32 (d : Int)]) ∧ Below W.heap.size W w') := fun W => mine_any W _ _ _ _ _
  have hB := Below.refl w.heap.size w
  clear hR hN hM hd hp
  go_enter Try.func6, Try.ntmps6
  go_upto_region 12 with (first
    | (go_at_call 7; with_reducible refine (HF.out _).mono ?_; rintro e w1 ⟨rfl, hb⟩; replace hB := bnext hB hb; clear hb)
    | (go_at_call 9; with_reducible refine (H1.out _).mono ?_; rintro e w1 ⟨rfl, hb⟩; replace hB := bnext hB hb; clear hb)
    | (go_at_call 20; with_reducible refine (H2.out _).mono ?_; rintro e w1 ⟨rfl, hb⟩; replace hB := bnext hB hb; clear hb)
    | (go_at_call 10; with_reducible refine (H3.out _).mono ?_; rintro e w1 ⟨rfl, hb⟩; replace hB := bnext hB hb; clear hb)
    | (go_at_call 21; with_reducible refine (H4.out _).mono ?_; rintro e w1 ⟨rfl, hb⟩; replace hB := bnext hB hb; clear hb)
    | (go_at_call 12; with_reducible refine (H5.out _).mono ?_; rintro e w1 ⟨rfl, hb⟩; replace hB := bnext hB hb; clear hb))
  obtain ⟨bx, hbx⟩ : ∃ bx, w1.heap.size = bx := ⟨_, rfl⟩
  obtain ⟨wx, hwx⟩ : ∃ wx, w1.alloc (.cells #[.int .i64 mk, .int .u64 (ma : Int), .int .u64 (mb : Int), .int .u64 (mc : Int), .int .u32 (d : Int)] 34) = wx := ⟨_, rfl⟩
  have HX : Hid (wx.heap[bx]? = some (.cells #[.int .i64 mk, .int .u64 (ma : Int), .int .u64 (mb : Int), .int .u64 (mc : Int), .int .u32 (d : Int)] 34 (0, 0)) ∧ Below w.heap.size w wx ∧ bx < wx.heap.size) := by
    rw [← hwx, ← hbx]
    exact ⟨new1 _ _, bal hB _, by simp⟩
  rw [hwx, hbx]
  clear hwx hbx hB H1 H2 H3 H4 H5 HF
  go_upto_region 13 with (go_at_call 22; with_reducible refine (H6.out _).mono ?_; rintro e w2 ⟨rfl, hb2⟩)
  obtain ⟨by', hby⟩ : ∃ by', w2.heap.size = by' := ⟨_, rfl⟩
  obtain ⟨wy, hwy⟩ : ∃ wy, w2.alloc (.cells #[.int .i64 mk, .int .u64 (ma : Int), .int .u64 (mb : Int), .int .u64 (mc : Int), .int .u32 (d : Int)] 25) = wy := ⟨_, rfl⟩
  have HY : Hid (∀ Z, Below wy.heap.size wy Z → (Z.cell? ⟨bx, 0, none⟩ = some (.int .i64 mk) ∧ Z.cell? ⟨bx, 1, none⟩ = some (.int .u64 (ma : Int)) ∧ Z.cell? ⟨bx, 2, none⟩ = some (.int .u64 (mb : Int)) ∧ Z.cell? ⟨bx, 3, none⟩ = some (.int .u64 (mc : Int)) ∧ Z.cell? ⟨bx, 4, none⟩ = some (.int .u32 (d : Int))) ∧ (Z.cell? ⟨by', 0, none⟩ = some (.int .i64 mk) ∧ Z.cell? ⟨by', 1, none⟩ = some (.int .u64 (ma : Int)) ∧ Z.cell? ⟨by', 2, none⟩ = some (.int .u64 (mb : Int)) ∧ Z.cell? ⟨by', 3, none⟩ = some (.int .u64 (mc : Int)) ∧ Z.cell? ⟨by', 4, none⟩ = some (.int .u32 (d : Int)))) := fun Z hz => by
    have e1 : Z.heap[bx]? = some (.cells #[.int .i64 mk, .int .u64 (ma : Int), .int .u64 (mb : Int), .int .u64 (mc : Int), .int .u32 (d : Int)] 34 (0, 0)) := by
      have h1 := hb2.size
      have h2 := HX.out.2.2
      rw [hz.block _ (by rw [← hwy]; simp; omega), ← hwy, (MapKept.heap_alloc w2 _).2 _ (by omega), hb2.block _ h2]
      exact HX.out.1
    have e2 : Z.heap[by']? = some (.cells #[.int .i64 mk, .int .u64 (ma : Int), .int .u64 (mb : Int), .int .u64 (mc : Int), .int .u32 (d : Int)] 25 (0, 0)) := by
      rw [hz.block _ (by rw [← hwy, ← hby]; simp), ← hwy, ← hby]; exact new1 _ _
    refine ⟨⟨?_, ?_, ?_, ?_, ?_⟩, ?_, ?_, ?_, ?_, ?_⟩
    iterate 5 (rw [cell_of_row Z _ _ _ _ (0, 0) e1]; rfl)
    iterate 5 (rw [cell_of_row Z _ _ _ _ (0, 0) e2]; rfl)
  have HB : Hid (Below w.heap.size w wy) := by rw [← hwy]; exact bal (bnext HX.out.2.1 hb2) _
  rw [hwy, hby]
  clear hwy hby hb2 H6
  have tw := bdrew (Below.refl wy.heap.size wy)
  go_region_held3 (fun Z => (Z.cell? ⟨bx, 0, none⟩ = some (.int .i64 mk) ∧ Z.cell? ⟨bx, 1, none⟩ = some (.int .u64 (ma : Int)) ∧ Z.cell? ⟨bx, 2, none⟩ = some (.int .u64 (mb : Int)) ∧ Z.cell? ⟨bx, 3, none⟩ = some (.int .u64 (mc : Int)) ∧ Z.cell? ⟨bx, 4, none⟩ = some (.int .u32 (d : Int))) ∧ (Z.cell? ⟨by', 0, none⟩ = some (.int .i64 mk) ∧ Z.cell? ⟨by', 1, none⟩ = some (.int .u64 (ma : Int)) ∧ Z.cell? ⟨by', 2, none⟩ = some (.int .u64 (mb : Int)) ∧ Z.cell? ⟨by', 3, none⟩ = some (.int .u64 (mc : Int)) ∧ Z.cell? ⟨by', 4, none⟩ = some (.int .u32 (d : Int)))) (first | assumption | (exact HY.out _ tw)) (first | (go_at_call 14; with_reducible refine (H7.out _).mono ?_; rintro e w6 ⟨rfl, hb6⟩; replace tw := bnext tw hb6; clear hb6))
  all_goals
    go_wp2
    go_ret
    exact ⟨rfl, bnext HB.out tw⟩
end Go.Proofs.Ytggkjleibhpnfaa
