/-
  PlWalkA, PlWalkB, PlWalkC in one text. Own work.
-/
import Derived.Test.YtdkcliblbaldhaaDoorProg
import Derived.Test.YtdkcliblbaldhaaDoorPlSpec
import Derived.WalkKit
import Derived.WalkSpells
import Derived.Outline
import Derived.KernelRfl
import Derived.Deep.LoopGhost
import Derived.Deep.DrawnRows
import Derived.Deep.Light
import Derived.Laws.Bits64b
import Derived.Handy
import Derived.BigQuiet
/-
  Walks of packages num and place: what reckons alone. Own work.
-/
namespace Go.Proofs.YtdkcliblbaldhaaDoor.Pl
open Go.RowKit
attribute [local go_sem ↓] Go.wp_at_zero Go.wp_at_succ

theorem bit_eq (n k : Nat) (hn : n < 2 ^ 64) : (bits BinOp.and IntKind.u64 ((n : Int) / 2 ^ k) 1 == 1) = decide (n / 2 ^ k % 2 = 1) := by
  have e : ((n : Int) / 2 ^ k) = ((n / 2 ^ k : Nat) : Int) := by simp
  rw [e]
  have hm : n / 2 ^ k < 18446744073709551616 := Nat.lt_of_le_of_lt (Nat.div_le_self _ _) hn
  revert hm
  generalize n / 2 ^ k = m
  intro hm
  have := bits_and_u64_nat m 1 hm (by decide)
  rw [show (1 : Int) = ((1 : Nat) : Int) from rfl, this, Nat.and_one_is_mod]
  by_cases h : m % 2 = 1
  · simp [h]
  · have : m % 2 = 0 := by omega
    simp [this]
theorem isOne_any (n k : Nat) (w : World) (hn : n < 2 ^ 64) (hk : k < 64) :
    Calls Tryd.prog 43 #[.int .u64 n, .int .i64 k] w fun e w' => e = .returned (.bool (decide (n / 2 ^ k % 2 = 1))) ∧ w' = w := by
  have hk0 : (0 : Int) ≤ (k : Int) := Int.natCast_nonneg _
  go_enter Tryd.func43, Tryd.ntmps43
  go_wp2
  go_ret
  refine ⟨?_, rfl⟩
  rw [← bit_eq n k hn]
  rfl
theorem ones_any (n : Nat) (w : World) (hn : n < 2 ^ 64) :
    Calls Tryd.prog 17 #[.int .u64 n] w fun e w' => e = .returned (.int .i64 (ones 64 n : Nat)) ∧ w' = w := by
  go_enter Tryd.func17, Tryd.ntmps17
  go_wp2
  go_loopg [3, 5] 64 (fun g c i wr => ∃ k m : Nat, k ≤ 64 ∧ g = 64 - k ∧ i = .int .i64 k ∧ c = .int .i64 m ∧ m ≤ k ∧ m + ones (64 - k) (n / 2 ^ k) = ones 64 n ∧ w = wr)
  case atStart =>
    go_light
    exact ⟨0, 0, Nat.zero_le _, rfl, rfl, rfl, Nat.zero_le _, by simp, rfl⟩
  case round =>
    obtain ⟨k, m, hk, rfl, rfl, rfl, hm, hs, rfl⟩ := hrel
    have hk0 : (0 : Int) ≤ (k : Int) := Int.natCast_nonneg _
    have hm0 : (0 : Int) ≤ (m : Int) := Int.natCast_nonneg _
    have hm1 : (m : Int) ≤ 64 := by omega
    by_cases hlt : k < 64
    · have hk8 : (k : Int) < 64 := by omega
      have HS := ones_step k n hlt
      have HC := isOne_any n k w hn hlt
      by_cases hb : n / 2 ^ k % 2 = 1
      · rw [decide_eq_true hb] at HC
        go_wp2_with (go_at_call 43; refine HC.mono ?_; rintro e w' ⟨rfl, rfl⟩)
        go_roundg (64 - (k + 1))
        case rel =>
          go_light
          exact ⟨k + 1, m + 1, by omega, rfl, by go_num, by go_num, by omega, by omega, rfl⟩
        case measure => go_light; omega
      · rw [decide_eq_false hb] at HC
        go_wp2_with (go_at_call 43; refine HC.mono ?_; rintro e w' ⟨rfl, rfl⟩)
        go_roundg (64 - (k + 1))
        case rel =>
          go_light
          exact ⟨k + 1, m, by omega, rfl, by go_num, rfl, by omega, by omega, rfl⟩
        case measure => go_light; omega
    · obtain rfl : k = 64 := by omega
      clear hk hlt
      go_wp2
      go_ret
      refine ⟨?_, rfl⟩
      rw [← hs]
      rfl
theorem pw_40 (h : Nat) (hh : h ≤ 40) : pw h ≤ 1099511627776 := pw_le hh
/-- A block as a value. -/
abbrev bv (h k : Nat) : Value := .agg #[.int .i64 (h : Int), .int .u64 (k : Int)]
end Go.Proofs.YtdkcliblbaldhaaDoor.Pl
/-
  Walks of package place: at, Of, Nodes, Leaf. Own work.
-/
namespace Go.Proofs.YtdkcliblbaldhaaDoor.Pl
open Go.RowKit
attribute [local go_sem ↓] Go.wp_at_zero Go.wp_at_succ
theorem below_drewN {B : Nat} {a w : World} (h : Below B a w) (n : Nat) : Below B a (w.drewN n) := ⟨h.os, h.tape, h.output, h.size, h.block⟩
/-- A block that may be; any numbers. -/
def May (h : Int) (k : Nat) : Prop := 0 ≤ h ∧ h ≤ 40 ∧ k < pw (40 - h.toNat)
theorem shr_pw (h : Nat) (hh : h ≤ 40) : (1099511627776 : Int) / 2 ^ h = (pw (40 - h) : Int) := by
  have e : (1099511627776 : Int) = ((pw (40 - h) * pw h : Nat) : Int) := by rw [← pw_add, show 40 - h + h = 40 by omega]; rfl
  have e2 : ((2 : Int) ^ h) = (pw h : Int) := by simp [pw]
  rw [e, e2, ← Int.natCast_ediv, Nat.mul_div_cancel _ (pw_pos h)]
/-- A block as a value, its height any number. -/
abbrev bz (h : Int) (k : Nat) : Value := .agg #[.int .i64 h, .int .u64 (k : Int)]
end Go.Proofs.YtdkcliblbaldhaaDoor.Pl
/-
  Walks of package place: Block, Height. Own work.
-/
namespace Go.Proofs.YtdkcliblbaldhaaDoor.Pl
open Go.RowKit
attribute [local go_sem ↓] Go.wp_at_zero Go.wp_at_succ
/-- A block lies in two cells. -/
structure Two (w : World) (g : Nat) (h : Int) (k : Nat) : Prop where
  c0 : w.cell? ⟨g, 0, none⟩ = some (.int .i64 h)
  c1 : w.cell? ⟨g, 1, none⟩ = some (.int .u64 (k : Int))
  f0 : w.frozen? ⟨g, 0, none⟩ = false
  f1 : w.frozen? ⟨g, 1, none⟩ = false
theorem Two.below {w w' : World} {B g k : Nat} {h : Int} (t : Two w g h k) (hb : Below B w w') (hg : g < B) : Two w' g h k :=
  ⟨(hb.cell (p := ⟨g, 0, none⟩) hg).trans t.c0, (hb.cell (p := ⟨g, 1, none⟩) hg).trans t.c1, (hb.frozen (p := ⟨g, 0, none⟩) hg).trans t.f0, (hb.frozen (p := ⟨g, 1, none⟩) hg).trans t.f1⟩
/-- Block's loop: the block in hand, and the cells of the result. -/
structure Bk (w wr : World) (B h k : Nat) : Prop where
  two : Two wr B h k
  res : Two wr w.heap.size 0 0
  below : Below w.heap.size w wr
  lt : w.heap.size < B
  size : B < wr.heap.size
theorem two_new (w : World) (h : Int) (k t : Nat) : Two (w.alloc (.cells #[.int .i64 h, .int .u64 (k : Int)] t)) w.heap.size h k := by
  refine ⟨?_, ?_, ?_, ?_⟩ <;> simp
theorem Bk.start {w w1 w2 : World} {t t' : Nat} (hb1 : Below (w.alloc (.cells #[.int .i64 0, .int .u64 0] t)).heap.size (w.alloc (.cells #[.int .i64 0, .int .u64 0] t)) w1)
    (hb2 : Below (w1.alloc (.cells #[.int .i64 40, .int .u64 0] t')).heap.size (w1.alloc (.cells #[.int .i64 40, .int .u64 0] t')) w2) : Bk w w2 w1.heap.size 40 0 := by
  have h1 := hb1.size
  have h2 := hb2.size
  rw [World.size_alloc] at h1 h2
  have q := (two_new w 0 0 t).below hb1 (by simp)
  have q2 : Two (w1.alloc (.cells #[.int .i64 40, .int .u64 0] t')) w.heap.size 0 0 := q.below ((Below.refl w1.heap.size w1).alloc (Nat.le_refl _) _) (by omega)
  refine ⟨(two_new w1 40 0 t').below hb2 (by simp), q2.below hb2 (by simp; omega), ?_, by omega, by omega⟩
  exact ((((Below.refl _ _).alloc (Nat.le_refl _) _).trans (hb1.mono (by simp))).alloc (by omega) _).trans (hb2.mono (by simp; omega))
theorem Bk.later {w wr w' : World} {B h k : Nat} (s : Bk w wr B h k) (hb : Below wr.heap.size wr w') : Bk w w' B h k :=
  ⟨s.two.below hb s.size, s.res.below hb (Nat.lt_trans s.lt s.size), s.below.trans (hb.mono (by have := s.lt; have := s.size; omega)), s.lt, Nat.lt_of_lt_of_le s.size hb.size⟩
theorem Bk.news {w wr : World} {B h k : Nat} (s : Bk w wr B h k) (o o' : Obj) : Bk w ((wr.alloc o).alloc o') B h k :=
  s.later (((Below.refl _ _).alloc (Nat.le_refl _) _).alloc (by simp) _)
theorem Two.set {w : World} {g k : Nat} {h : Int} (t : Two w g h k) (h' : Int) (k' : Nat) : Two ((w.setCell ⟨g, 0, none⟩ (.int .i64 h')).setCell ⟨g, 1, none⟩ (.int .u64 (k' : Int))) g h' k' := by
  refine ⟨?_, ?_, ?_, ?_⟩
  · exact (World.cell?_setCell_other _ _ _ _ (by simp)).trans (World.cell?_setCell_same _ _ _ t.c0)
  · exact World.cell?_setCell_same _ _ _ ((World.cell?_setCell_other _ _ _ _ (by simp)).trans t.c1)
  · exact (World.frozen?_setCell _ _ _ _).trans ((World.frozen?_setCell _ _ _ _).trans t.f0)
  · exact (World.frozen?_setCell _ _ _ _).trans ((World.frozen?_setCell _ _ _ _).trans t.f1)
theorem Two.other {w : World} {g k b : Nat} {h : Int} (t : Two w g h k) (hne : g ≠ b) (i : Nat) (v : Value) : Two (w.setCell ⟨b, i, none⟩ v) g h k := by
  have hn : ∀ o, (⟨b, i, none⟩ : Addr) ≠ ⟨g, o, none⟩ := fun o e => hne (by have := congrArg Addr.block e; simpa using this.symm)
  refine ⟨?_, ?_, (World.frozen?_setCell _ _ _ _).trans t.f0, (World.frozen?_setCell _ _ _ _).trans t.f1⟩
  · exact (World.cell?_setCell_other _ _ _ _ (hn 0)).trans t.c0
  · exact (World.cell?_setCell_other _ _ _ _ (hn 1)).trans t.c1
theorem Bk.set {w wr : World} {B h k : Nat} (s : Bk w wr B h k) (h' k' : Nat) : Bk w ((wr.setCell ⟨B, 0, none⟩ (.int .i64 (h' : Int))).setCell ⟨B, 1, none⟩ (.int .u64 (k' : Int))) B h' k' := by
  refine ⟨s.two.set h' k', ?_, ?_, s.lt, by simpa using s.size⟩
  · exact (s.res.other (Nat.ne_of_lt s.lt) _ _).other (Nat.ne_of_lt s.lt) _ _
  · have := s.lt
    exact (s.below.setCell (p := ⟨B, 0, none⟩) (by show w.heap.size ≤ B; omega) _).setCell (p := ⟨B, 1, none⟩) (by show w.heap.size ≤ B; omega) _
/-- The block at a place, and whether the place may be. -/
def blk' (p : Nat) : Nat × Nat := if p ≤ most then blk p else (0, 0)
end Go.Proofs.YtdkcliblbaldhaaDoor.Pl
