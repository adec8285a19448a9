/-
  PlWalkA, PlWalkB, PlWalkC in one text. Own work.
-/
import Derived.Test.YtabdobdopcfllaaDoorProg
import Derived.Test.YtabdobdopcfllaaDoorPlSpec
import Derived.WalkKit
import Derived.WalkSpells
import Derived.Outline
import Derived.KernelRfl
import Derived.Deep.LoopGhost
import Derived.Deep.DrawnRows
import Derived.Deep.Light
import Derived.Laws.Bits64b
import Derived.Handy
import Derived.BigQuiet
/-
  Walks of packages num and place: what reckons alone. Own work.
-/
namespace Go.Proofs.YtabdobdopcfllaaDoor.Pl
open Go.RowKit
attribute [local go_sem ↓] Go.wp_at_zero Go.wp_at_succ

theorem bit_eq (n k : Nat) (hn : n < 2 ^ 64) : (bits BinOp.and IntKind.u64 ((n : Int) / 2 ^ k) 1 == 1) = decide (n / 2 ^ k % 2 = 1) := by
  have e : ((n : Int) / 2 ^ k) = ((n / 2 ^ k : Nat) : Int) := by simp
  rw [e]
  have hm : n / 2 ^ k < 18446744073709551616 := Nat.lt_of_le_of_lt (Nat.div_le_self _ _) hn
  revert hm
  generalize n / 2 ^ k = m
  intro hm
  have := bits_and_u64_nat m 1 hm (by decide)
  rw [show (1 : Int) = ((1 : Nat) : Int) from rfl, this, Nat.and_one_is_mod]
  by_cases h : m % 2 = 1
  · simp [h]
  · have : m % 2 = 0 := by omega
    simp [this]
theorem isOne_any (n k : Nat) (w : World) (hn : n < 2 ^ 64) (hk : k < 64) :
    Calls Tryd.prog 56 #[.int .u64 n, .int .i64 k] w fun e w' => e = .returned (.bool (decide (n / 2 ^ k % 2 = 1))) ∧ w' = w := by
  have hk0 : (0 : Int) ≤ (k : Int) := Int.natCast_nonneg _
  go_enter Tryd.func56, Tryd.ntmps56
  go_wp2
  go_ret
  refine ⟨?_, rfl⟩
  rw [← bit_eq n k hn]
  rfl
theorem ones_any (n : Nat) (w : World) (hn : n < 2 ^ 64) :
    Calls Tryd.prog 60 #[.int .u64 n] w fun e w' => e = .returned (.int .i64 (ones 64 n : Nat)) ∧ w' = w := by
  go_enter Tryd.func60, Tryd.ntmps60
  go_wp2
  go_loopg [3, 5] 64 (fun g c i wr => ∃ k m : Nat, k ≤ 64 ∧ g = 64 - k ∧ i = .int .i64 k ∧ c = .int .i64 m ∧ m ≤ k ∧ m + ones (64 - k) (n / 2 ^ k) = ones 64 n ∧ w = wr)
  case atStart =>
    go_light
    exact ⟨0, 0, Nat.zero_le _, rfl, rfl, rfl, Nat.zero_le _, by simp, rfl⟩
  case round =>
    obtain ⟨k, m, hk, rfl, rfl, rfl, hm, hs, rfl⟩ := hrel
    have hk0 : (0 : Int) ≤ (k : Int) := Int.natCast_nonneg _
    have hm0 : (0 : Int) ≤ (m : Int) := Int.natCast_nonneg _
    have hm1 : (m : Int) ≤ 64 := by omega
    by_cases hlt : k < 64
    · have hk8 : (k : Int) < 64 := by omega
      have HS := ones_step k n hlt
      have HC := isOne_any n k w hn hlt
      by_cases hb : n / 2 ^ k % 2 = 1
      · rw [decide_eq_true hb] at HC
        go_wp2_with (go_at_call 56; refine HC.mono ?_; rintro e w' ⟨rfl, rfl⟩)
        go_roundg (64 - (k + 1))
        case rel =>
          go_light
          exact ⟨k + 1, m + 1, by omega, rfl, by go_num, by go_num, by omega, by omega, rfl⟩
        case measure => go_light; omega
      · rw [decide_eq_false hb] at HC
        go_wp2_with (go_at_call 56; refine HC.mono ?_; rintro e w' ⟨rfl, rfl⟩)
        go_roundg (64 - (k + 1))
        case rel =>
          go_light
          exact ⟨k + 1, m, by omega, rfl, by go_num, rfl, by omega, by omega, rfl⟩
        case measure => go_light; omega
    · obtain rfl : k = 64 := by omega
      clear hk hlt
      go_wp2
      go_ret
      refine ⟨?_, rfl⟩
      rw [← hs]
      rfl
theorem pw_40 (h : Nat) (hh : h ≤ 40) : pw h ≤ 1099511627776 := pw_le hh
theorem tree_any (h : Nat) (w : World) (hh : h ≤ 40) :
    Calls Tryd.prog 39 #[.int .i64 h] w fun e w' => e = .returned (.int .u64 (2 * pw h - 1 : Nat)) ∧ w' = w := by
  have hk0 : (0 : Int) ≤ (h : Int) := Int.natCast_nonneg _
  have hk1 : (h : Int) < 64 := by omega
  have hp := pw_40 h hh
  have hq := pw_pos h
  obtain ⟨p, hp1⟩ : ∃ p : Nat, 2 * pw h - 1 = p := ⟨_, rfl⟩
  have e1 : IntKind.u64.wrap (2 * (2 : Int) ^ h) = (p : Int) + 1 := by
    have e : ((2 : Int) ^ h) = (pw h : Int) := by simp [pw]
    rw [e, IntKind.wrap_u64]; omega
  have e2 : IntKind.u64.wrap (p : Int) = (p : Int) := by rw [IntKind.wrap_u64]; omega
  rw [hp1]
  clear hp hq hp1
  go_enter Tryd.func39, Tryd.ntmps39
  go_wp2
  go_ret
  exact ⟨rfl, rfl⟩
theorem count_any (n : Nat) (w : World) (hn : n ≤ 2 ^ 40) :
    Calls Tryd.prog 36 #[.int .u64 n] w fun e w' => e = .returned (.int .u64 (N n : Nat)) ∧ w' = w := by
  have HC := ones_any n w (by omega)
  have h1 := ones_self 64 n
  have h2 := ones_le 64 n
  have h3 := N_eq n
  generalize N n = x at *
  generalize ones 64 n = y at *
  obtain ⟨d, hd⟩ : ∃ d : Nat, 2 * n = d := ⟨_, rfl⟩
  have e1 : IntKind.u64.wrap (2 * (n : Int)) = (d : Int) := by rw [IntKind.wrap_u64]; omega
  have e2 : IntKind.u64.wrap (y : Int) = (y : Int) := by rw [IntKind.wrap_u64]; omega
  have e3 : IntKind.u64.wrap ((d : Int) - (y : Int)) = (x : Int) := by rw [IntKind.wrap_u64]; omega
  clear hn h1 h2 h3 hd
  go_enter Tryd.func36, Tryd.ntmps36
  go_wp2_with (go_at_call 60; refine HC.mono ?_; rintro e w' ⟨rfl, rfl⟩)
  go_ret
  exact ⟨rfl, rfl⟩

/-- A block as a value. -/
abbrev bv (h k : Nat) : Value := .agg #[.int .i64 (h : Int), .int .u64 (k : Int)]
theorem all_any (w : World) : Calls Tryd.prog 37 #[] w fun e w' => e = .returned (bv 40 0) ∧ Below w.heap.size w w' := by
  go_enter Tryd.func37, Tryd.ntmps37
  go_wp2
  go_returns
  exact ⟨rfl, by go_grown⟩
theorem halves_any (h k : Nat) (w : World) (hh : h < 40) (hk : k < 2 ^ 40) : Calls Tryd.prog 40 #[bv (h + 1) k] w fun e w' => e = .returned (.tuple #[bv h (2 * k), bv h (2 * k + 1)]) ∧ Below w.heap.size w w' := by
  go_enter Tryd.func40, Tryd.ntmps40
  go_wp2
  go_region
  go_wp2
  go_returns
  exact ⟨by go_num, by go_grown⟩
end Go.Proofs.YtabdobdopcfllaaDoor.Pl
/-
  Walks of package place: at, Of, Nodes, Leaf. Own work.
-/
namespace Go.Proofs.YtabdobdopcfllaaDoor.Pl
open Go.RowKit
attribute [local go_sem ↓] Go.wp_at_zero Go.wp_at_succ
theorem below_drewN {B : Nat} {a w : World} (h : Below B a w) (n : Nat) : Below B a (w.drewN n) := ⟨h.os, h.tape, h.output, h.size, h.block⟩
theorem at_any (h k : Nat) (w : World) (hh : h ≤ 40) (hk : k < pw (40 - h)) :
    Calls Tryd.prog 38 #[bv h k] w fun e w' => e = .returned (.int .u64 (at' h k : Nat)) ∧ Below w.heap.size w w' := by
  have hb := may_mul hh hk
  have hb2 := may_big hk
  have hx := N_at h k (by omega)
  have hy := at_lt h k hh hk
  have hp : 0 < (k + 1) * pw h := Nat.mul_pos (by omega) (pw_pos h)
  obtain ⟨l, hl⟩ : ∃ l : Nat, (k + 1) * pw h - 1 = l := ⟨_, rfl⟩
  rw [hl] at hx
  have HC := fun w' => count_any l w' (by omega)
  generalize N l = c at *
  generalize at' h k = r at *
  have hk0 : (0 : Int) ≤ (h : Int) := Int.natCast_nonneg _
  have hk1 : (h : Int) < 64 := by omega
  have e0 : IntKind.u64.wrap ((k : Int) + 1) = (k : Int) + 1 := by rw [IntKind.wrap_u64]; omega
  have e1 : IntKind.u64.wrap (((k : Int) + 1) * (2 : Int) ^ h) = (l : Int) + 1 := by
    have e : (((k : Int) + 1) * (2 : Int) ^ h) = (((k + 1) * pw h : Nat) : Int) := by simp [pw]
    rw [e, IntKind.wrap_u64]; omega
  have e2 : IntKind.u64.wrap (l : Int) = (l : Int) := by rw [IntKind.wrap_u64]; omega
  have e3 : IntKind.u64.wrap (h : Int) = (h : Int) := by rw [IntKind.wrap_u64]; omega
  simp only [most] at hy
  have e4 : IntKind.u64.wrap ((c : Int) + (h : Int)) = (r : Int) := by rw [IntKind.wrap_u64]; omega
  clear hb hb2 hx hy hp hl hk hh
  go_enter Tryd.func38, Tryd.ntmps38
  go_wp2
  go_quiet ((go_at_call 36; refine Calls.quiet_of_same (HC _)))
  go_wp2
  go_ret
  exact ⟨rfl, below_drewN (by go_grown) _⟩
theorem nodes_yes (n : Nat) (w : World) (hn : n ≤ 2 ^ 40) :
    Calls Tryd.prog 17 #[.int .u64 n] w fun e w' => e = .returned (.tuple #[.int .u64 (N n : Nat), .bool true]) ∧ w' = w := by
  have HC := count_any n w hn
  have ht : ¬ (1099511627776 : Int) < (n : Int) := by omega
  generalize N n = x at *
  clear hn
  go_enter Tryd.func17, Tryd.ntmps17
  go_wp2_with (go_at_call 36; refine HC.mono ?_; rintro e w' ⟨rfl, rfl⟩)
  go_ret2
  exact ⟨rfl, rfl⟩
theorem nodes_no (n : Nat) (w : World) (hn : 2 ^ 40 < n) :
    Calls Tryd.prog 17 #[.int .u64 n] w fun e w' => e = .returned (.tuple #[.int .u64 0, .bool false]) ∧ w' = w := by
  have ht : (1099511627776 : Int) < (n : Int) := by omega
  clear hn
  go_enter Tryd.func17, Tryd.ntmps17
  go_wp2
  go_ret2
  exact ⟨rfl, rfl⟩
/-- A block that may be; any numbers. -/
def May (h : Int) (k : Nat) : Prop := 0 ≤ h ∧ h ≤ 40 ∧ k < pw (40 - h.toNat)
theorem shr_pw (h : Nat) (hh : h ≤ 40) : (1099511627776 : Int) / 2 ^ h = (pw (40 - h) : Int) := by
  have e : (1099511627776 : Int) = ((pw (40 - h) * pw h : Nat) : Int) := by rw [← pw_add, show 40 - h + h = 40 by omega]; rfl
  have e2 : ((2 : Int) ^ h) = (pw h : Int) := by simp [pw]
  rw [e, e2, ← Int.natCast_ediv, Nat.mul_div_cancel _ (pw_pos h)]
/-- A block as a value, its height any number. -/
abbrev bz (h : Int) (k : Nat) : Value := .agg #[.int .i64 h, .int .u64 (k : Int)]
end Go.Proofs.YtabdobdopcfllaaDoor.Pl
/-
  Walks of package place: Block, Height. Own work.
-/
namespace Go.Proofs.YtabdobdopcfllaaDoor.Pl
open Go.RowKit
attribute [local go_sem ↓] Go.wp_at_zero Go.wp_at_succ
/-- A block lies in two cells. -/
structure Two (w : World) (g : Nat) (h : Int) (k : Nat) : Prop where
  c0 : w.cell? ⟨g, 0, none⟩ = some (.int .i64 h)
  c1 : w.cell? ⟨g, 1, none⟩ = some (.int .u64 (k : Int))
  f0 : w.frozen? ⟨g, 0, none⟩ = false
  f1 : w.frozen? ⟨g, 1, none⟩ = false
theorem Two.below {w w' : World} {B g k : Nat} {h : Int} (t : Two w g h k) (hb : Below B w w') (hg : g < B) : Two w' g h k :=
  ⟨(hb.cell (p := ⟨g, 0, none⟩) hg).trans t.c0, (hb.cell (p := ⟨g, 1, none⟩) hg).trans t.c1, (hb.frozen (p := ⟨g, 0, none⟩) hg).trans t.f0, (hb.frozen (p := ⟨g, 1, none⟩) hg).trans t.f1⟩
/-- Block's loop: the block in hand, and the cells of the result. -/
structure Bk (w wr : World) (B h k : Nat) : Prop where
  two : Two wr B h k
  res : Two wr w.heap.size 0 0
  below : Below w.heap.size w wr
  lt : w.heap.size < B
  size : B < wr.heap.size
theorem two_new (w : World) (h : Int) (k t : Nat) : Two (w.alloc (.cells #[.int .i64 h, .int .u64 (k : Int)] t)) w.heap.size h k := by
  refine ⟨?_, ?_, ?_, ?_⟩ <;> simp
theorem Bk.start {w w1 w2 : World} {t t' : Nat} (hb1 : Below (w.alloc (.cells #[.int .i64 0, .int .u64 0] t)).heap.size (w.alloc (.cells #[.int .i64 0, .int .u64 0] t)) w1)
    (hb2 : Below (w1.alloc (.cells #[.int .i64 40, .int .u64 0] t')).heap.size (w1.alloc (.cells #[.int .i64 40, .int .u64 0] t')) w2) : Bk w w2 w1.heap.size 40 0 := by
  have h1 := hb1.size
  have h2 := hb2.size
  rw [World.size_alloc] at h1 h2
  have q := (two_new w 0 0 t).below hb1 (by simp)
  have q2 : Two (w1.alloc (.cells #[.int .i64 40, .int .u64 0] t')) w.heap.size 0 0 := q.below ((Below.refl w1.heap.size w1).alloc (Nat.le_refl _) _) (by omega)
  refine ⟨(two_new w1 40 0 t').below hb2 (by simp), q2.below hb2 (by simp; omega), ?_, by omega, by omega⟩
  exact ((((Below.refl _ _).alloc (Nat.le_refl _) _).trans (hb1.mono (by simp))).alloc (by omega) _).trans (hb2.mono (by simp; omega))
theorem Bk.later {w wr w' : World} {B h k : Nat} (s : Bk w wr B h k) (hb : Below wr.heap.size wr w') : Bk w w' B h k :=
  ⟨s.two.below hb s.size, s.res.below hb (Nat.lt_trans s.lt s.size), s.below.trans (hb.mono (by have := s.lt; have := s.size; omega)), s.lt, Nat.lt_of_lt_of_le s.size hb.size⟩
theorem Bk.news {w wr : World} {B h k : Nat} (s : Bk w wr B h k) (o o' : Obj) : Bk w ((wr.alloc o).alloc o') B h k :=
  s.later (((Below.refl _ _).alloc (Nat.le_refl _) _).alloc (by simp) _)
theorem Two.set {w : World} {g k : Nat} {h : Int} (t : Two w g h k) (h' : Int) (k' : Nat) : Two ((w.setCell ⟨g, 0, none⟩ (.int .i64 h')).setCell ⟨g, 1, none⟩ (.int .u64 (k' : Int))) g h' k' := by
  refine ⟨?_, ?_, ?_, ?_⟩
  · exact (World.cell?_setCell_other _ _ _ _ (by simp)).trans (World.cell?_setCell_same _ _ _ t.c0)
  · exact World.cell?_setCell_same _ _ _ ((World.cell?_setCell_other _ _ _ _ (by simp)).trans t.c1)
  · exact (World.frozen?_setCell _ _ _ _).trans ((World.frozen?_setCell _ _ _ _).trans t.f0)
  · exact (World.frozen?_setCell _ _ _ _).trans ((World.frozen?_setCell _ _ _ _).trans t.f1)
theorem Two.other {w : World} {g k b : Nat} {h : Int} (t : Two w g h k) (hne : g ≠ b) (i : Nat) (v : Value) : Two (w.setCell ⟨b, i, none⟩ v) g h k := by
  have hn : ∀ o, (⟨b, i, none⟩ : Addr) ≠ ⟨g, o, none⟩ := fun o e => hne (by have := congrArg Addr.block e; simpa using this.symm)
  refine ⟨?_, ?_, (World.frozen?_setCell _ _ _ _).trans t.f0, (World.frozen?_setCell _ _ _ _).trans t.f1⟩
  · exact (World.cell?_setCell_other _ _ _ _ (hn 0)).trans t.c0
  · exact (World.cell?_setCell_other _ _ _ _ (hn 1)).trans t.c1
theorem Bk.set {w wr : World} {B h k : Nat} (s : Bk w wr B h k) (h' k' : Nat) : Bk w ((wr.setCell ⟨B, 0, none⟩ (.int .i64 (h' : Int))).setCell ⟨B, 1, none⟩ (.int .u64 (k' : Int))) B h' k' := by
  refine ⟨s.two.set h' k', ?_, ?_, s.lt, by simpa using s.size⟩
  · exact (s.res.other (Nat.ne_of_lt s.lt) _ _).other (Nat.ne_of_lt s.lt) _ _
  · have := s.lt
    exact (s.below.setCell (p := ⟨B, 0, none⟩) (by show w.heap.size ≤ B; omega) _).setCell (p := ⟨B, 1, none⟩) (by show w.heap.size ≤ B; omega) _
theorem block_yes (p : Nat) (w : World) (hp : p ≤ most) :
    Calls Tryd.prog 19 #[.int .u64 p] w fun e w' => e = .returned (.tuple #[bv (blk p).1 (blk p).2, .bool true]) ∧ Below w.heap.size w w' := by
  have HA : ∀ w', Calls Tryd.prog 37 #[] w' fun e w'' => e = .returned (.agg #[.int .i64 40, .int .u64 0]) ∧ Below w'.heap.size w' w'' := fun w' => all_any w'
  have e0 : at' 40 0 = most := by decide
  have HT : ∀ w', Calls Tryd.prog 38 #[.agg #[.int .i64 40, .int .u64 0]] w' fun e w'' => e = .returned (.int .u64 (most : Nat)) ∧ Below w'.heap.size w' w'' := fun w' => e0 ▸ at_any 40 0 w' (by omega) (by decide)
  have ht : decide (most < p) = false := decide_eq_false (by omega)
  have hst : down 40 0 p = blk p := rfl
  have hpa : p < 2 * pw 40 - 1 := by simp only [most] at hp; simp [pw]; omega
  generalize most = mo at *
  generalize blk p = bl at *
  clear e0 hp
  go_enter Tryd.func19, Tryd.ntmps19
  go_wp2_with (first | (go_at_call 37; with_reducible refine (HA _).mono ?_; rintro e w1 ⟨rfl, hb1⟩) | (go_at_call 38; with_reducible refine (HT _).mono ?_; rintro e w2 ⟨rfl, hb2⟩))
  have hS := Bk.start hb1 hb2
  clear hb1 hb2 HA HT
  generalize w1.heap.size = B at *
  go_loopg [5] 40 (fun g v wr => ∃ h k a : Nat, h ≤ 40 ∧ h = g ∧ v = .int .u64 (a : Int) ∧ k < pw (40 - h) ∧ a < 2 * pw h - 1 ∧ down h k a = bl ∧ Bk w wr B h k)
  case atStart =>
    go_light
    exact ⟨40, 0, p, by omega, rfl, rfl, by decide, hpa, hst, hS⟩
  case round =>
    clear hS hst hpa
    obtain ⟨h, k, a, hh, hg, rfl, hk, ha, hd, hs⟩ := hrel
    subst hg
    have hc0 := hs.two.c0
    have hc1 := hs.two.c1
    have hf0 := hs.two.f0
    have hf1 := hs.two.f1
    have hr0 := hs.res.c0
    have hr1 := hs.res.c1
    have hg0 := hs.res.f0
    have hg1 := hs.res.f1
    have HTR := tree_any h wr hh
    have hpp := pw_40 h hh
    have hpq := pw_pos h
    have ew : IntKind.u64.wrap (((2 * pw h - 1 : Nat) : Int) - 1) = ((2 * pw h - 2 : Nat) : Int) := by rw [IntKind.wrap_u64]; omega
    by_cases hlast : a = 2 * pw h - 2
    · have hz : down h k a = (h, k) := by
        cases h with
        | zero => rfl
        | succ h => rw [down, if_pos (by rw [hlast, pw_succ]; omega)]
      rw [hz] at hd
      subst hd
      have HB : Hid (Below w.heap.size w wr) := hs.below
      have s0 : (wr.setCell ⟨w.heap.size, 0, none⟩ (.int .i64 (h : Int))).cell? ⟨w.heap.size, 0, none⟩ = some (.int .i64 (h : Int)) := World.cell?_setCell_same _ _ _ hr0
      have s1 : ((wr.setCell ⟨w.heap.size, 0, none⟩ (.int .i64 (h : Int))).setCell ⟨w.heap.size, 1, none⟩ (.int .u64 (k : Int))).cell? ⟨w.heap.size, 1, none⟩ = some (.int .u64 (k : Int)) :=
        World.cell?_setCell_same _ _ _ ((World.cell?_setCell_other _ _ _ _ (by simp)).trans hr1)
      rw [← hlast] at ew
      clear hlast ha hk hz hs hpp hpq
      generalize 2 * pw h - 1 = t at *
      go_wp2_with (go_at_call 39; with_reducible refine HTR.mono ?_; rintro e w' ⟨rfl, rfl⟩)
      refine bodyPost_ret (v := .tuple #[.agg #[.int .i64 (h : Int), .int .u64 (k : Int)], .bool true]) (by simp [results, Tryd.results19, go_sem, s0, s1]) rfl ⟨rfl, ?_⟩
      go_light
      exact (HB.out.setCell (p := ⟨w.heap.size, 0, none⟩) (Nat.le_refl _) _).setCell (p := ⟨w.heap.size, 1, none⟩) (Nat.le_refl _) _
    · obtain ⟨j, hj⟩ : ∃ j, h = j + 1 := ⟨h - 1, by have : h ≠ 0 := by { rintro rfl; simp [pw_zero] at ha; simp [pw_zero] at hlast; omega }; omega⟩
      have HH : Calls Tryd.prog 40 #[.agg #[.int .i64 (h : Int), .int .u64 (k : Int)]] wr fun e w' => e = .returned (.tuple #[bv j (2 * k), bv j (2 * k + 1)]) ∧ Below wr.heap.size wr w' := by
        rw [hj]; exact halves_any j k wr (by omega) (by rw [hj] at hk; exact may_big hk)
      have HT2 : ∀ w', Calls Tryd.prog 39 #[.int .i64 (j : Int)] w' fun e w'' => e = .returned (.int .u64 (2 * pw j - 1 : Nat)) ∧ w'' = w' := fun w' => tree_any j w' (by omega)
      have tn : ¬ ((a : Int) = ((2 * pw h - 2 : Nat) : Int)) := by omega
      have hdj : down h k a = if a < 2 * pw j - 1 then down j (2 * k) a else down j (2 * k + 1) (a - (2 * pw j - 1)) := by
        rw [hj, down, if_neg (by rw [hj, pw_succ] at hlast; omega)]
      have hm2 : 2 * k + 1 < pw (40 - j) := may_two (by omega) (by rw [← hj]; exact hk)
      have hpj := pw_pos j
      have hpj2 := pw_40 j (by omega)
      have hph : pw h = 2 * pw j := by rw [hj, pw_succ]
      rw [hd] at hdj
      have HL : Hid (a < 2 * pw j - 1 → j ≤ 40 ∧ j < h ∧ 2 * k < pw (40 - j) ∧ a < 2 * pw j - 1 ∧ down j (2 * k) a = bl) :=
        fun hz => ⟨by omega, by omega, by omega, hz, by rw [if_pos hz] at hdj; exact hdj.symm⟩
      have HR : Hid (¬ a < 2 * pw j - 1 → j ≤ 40 ∧ j < h ∧ 2 * k + 1 < pw (40 - j) ∧ a - (2 * pw j - 1) < 2 * pw j - 1 ∧ down j (2 * k + 1) (a - (2 * pw j - 1)) = bl) :=
        fun hz => ⟨by omega, by omega, by omega, by omega, by rw [if_neg hz] at hdj; exact hdj.symm⟩
      have HS : Hid (Bk w wr B h k) := hs
      have hfb : 2 * pw j - 1 < 2 ^ 63 := by omega
      have hab : a < 2 ^ 63 := by omega
      clear hd hdj hm2 hpj hpj2 hph hpp hpq hlast ha hk hh hj hs hc0 hc1 hf0 hf1
      generalize 2 * pw h - 1 = t at *
      generalize 2 * pw h - 2 = t2 at *
      obtain ⟨hf, hfe⟩ : ∃ hf, 2 * pw j - 1 = hf := ⟨_, rfl⟩
      rw [hfe] at HT2 HL HR hfb
      have HF : Hid (2 * pw j - 1 = hf) := hfe
      clear hfe
      generalize 2 * k + 1 = r at *
      generalize 2 * k = l at *
      have hc0 := HS.out.two.c0
      have hc1 := HS.out.two.c1
      clear hr0 hr1 hg0 hg1
      go_wp2_with (first | (go_at_call 39; with_reducible refine HTR.mono ?_; rintro e w' ⟨rfl, rfl⟩) | (go_at_call 40; with_reducible refine HH.mono ?_; rintro e wh ⟨rfl, hbh⟩))
      have q1 := (two_new wh j l 49).below ((Below.refl _ _).alloc (Nat.le_refl _) (.cells #[.int .i64 (j : Int), .int .u64 (r : Int)] 49)) (by simp)
      have q2 := two_new (wh.alloc (.cells #[.int .i64 (j : Int), .int .u64 (l : Int)] 49)) j r 49
      rw [World.size_alloc] at q2
      have q3 : Bk w ((wh.alloc (.cells #[.int .i64 (j : Int), .int .u64 (l : Int)] 49)).alloc (.cells #[.int .i64 (j : Int), .int .u64 (r : Int)] 49)) B h k := (HS.out.later hbh).news _ _
      have hsz := hbh.size
      have hlt := HS.out.size
      clear HS hbh hc0 hc1 HH HTR
      generalize ((wh.alloc (.cells #[.int .i64 (j : Int), .int .u64 (l : Int)] 49)).alloc (.cells #[.int .i64 (j : Int), .int .u64 (r : Int)] 49)) = w3 at *
      have hc0 := q3.two.c0
      have hc1 := q3.two.c1
      have hf0 := q3.two.f0
      have hf1 := q3.two.f1
      have hl0 := q1.c0
      have hl1 := q1.c1
      have hr0 := q2.c0
      have hr1 := q2.c1
      have HS : Hid (Bk w w3 B h k) := q3
      have HB : Hid (B < wh.heap.size) := (by omega : B < wh.heap.size)
      clear q1 q2 q3 hsz hlt
      by_cases hz : a < hf
      · have hzi : (a : Int) < (hf : Int) := by omega
        have HL' := HL.out hz
        have HX : Hid (j ≤ 40 ∧ j < h ∧ l < pw (40 - j) ∧ a < hf ∧ down j l a = bl) := HL'
        clear HL HR HL' hz
        go_wp2_with (go_at_call 39; with_reducible refine (HT2 _).mono ?_; rintro e w' ⟨rfl, rfl⟩)
        go_roundg j
        case rel =>
          go_light
          obtain ⟨x1, x2, x3, x4, x5⟩ := HX.out
          exact ⟨j, l, a, x1, rfl, rfl, x3, by rw [HF.out]; exact x4, x5, HS.out.set j l⟩
        case measure => go_light; exact HX.out.2.1
      · have hzi : ¬ (a : Int) < (hf : Int) := by omega
        have HL' := HR.out hz
        obtain ⟨d, hd⟩ : ∃ d : Nat, a - hf = d := ⟨_, rfl⟩
        rw [hd] at HL'
        have ed : IntKind.u64.wrap ((a : Int) - (hf : Int)) = (d : Int) := by rw [IntKind.wrap_u64]; omega
        have HX : Hid (j ≤ 40 ∧ j < h ∧ r < pw (40 - j) ∧ d < hf ∧ down j r d = bl) := HL'
        clear HL HR HL' hz hd
        go_wp2_with (go_at_call 39; with_reducible refine (HT2 _).mono ?_; rintro e w' ⟨rfl, rfl⟩)
        go_roundg j
        case rel =>
          go_light
          obtain ⟨x1, x2, x3, x4, x5⟩ := HX.out
          exact ⟨j, r, d, x1, rfl, rfl, x3, by rw [HF.out]; exact x4, x5, HS.out.set j r⟩
        case measure => go_light; exact HX.out.2.1
theorem block_no (p : Nat) (w : World) (hp : most < p) :
    Calls Tryd.prog 19 #[.int .u64 p] w fun e w' => e = .returned (.tuple #[bv 0 0, .bool false]) ∧ Below w.heap.size w w' := by
  have HA : ∀ w', Calls Tryd.prog 37 #[] w' fun e w'' => e = .returned (.agg #[.int .i64 40, .int .u64 0]) ∧ Below w'.heap.size w' w'' := fun w' => all_any w'
  have e0 : at' 40 0 = most := by decide
  have HT : ∀ w', Calls Tryd.prog 38 #[.agg #[.int .i64 40, .int .u64 0]] w' fun e w'' => e = .returned (.int .u64 (most : Nat)) ∧ Below w'.heap.size w' w'' := fun w' => e0 ▸ at_any 40 0 w' (by omega) (by decide)
  have ht : decide (most < p) = true := decide_eq_true hp
  generalize most = mo at *
  clear e0 hp
  go_enter Tryd.func19, Tryd.ntmps19
  go_upto_region 3 with (first | (go_at_call 37; with_reducible refine (HA _).mono ?_; rintro e w1 ⟨rfl, hb1⟩) | (go_at_call 38; with_reducible refine (HT _).mono ?_; rintro e w2 ⟨rfl, hb2⟩))
  have hS := (Bk.start hb1 hb2).res
  have HB : Hid (Below w.heap.size w w2) := (Bk.start hb1 hb2).below
  have hr0 := hS.c0
  have hr1 := hS.c1
  have hg0 := hS.f0
  have hg1 := hS.f1
  clear hS hb1 hb2 HA HT
  have s0 : (w2.setCell ⟨w.heap.size, 0, none⟩ (.int .i64 0)).cell? ⟨w.heap.size, 0, none⟩ = some (.int .i64 0) := World.cell?_setCell_same _ _ _ hr0
  have s1 : ((w2.setCell ⟨w.heap.size, 0, none⟩ (.int .i64 0)).setCell ⟨w.heap.size, 1, none⟩ (.int .u64 0)).cell? ⟨w.heap.size, 1, none⟩ = some (.int .u64 0) :=
    World.cell?_setCell_same _ _ _ ((World.cell?_setCell_other _ _ _ _ (by simp)).trans hr1)
  go_wp2
  refine bodyPost_ret (v := .tuple #[.agg #[.int .i64 0, .int .u64 0], .bool false]) (by simp [results, Tryd.results19, go_sem, s0, s1]) rfl ⟨rfl, ?_⟩
  go_light
  exact (HB.out.setCell (p := ⟨w.heap.size, 0, none⟩) (Nat.le_refl _) _).setCell (p := ⟨w.heap.size, 1, none⟩) (Nat.le_refl _) _
/-- The block at a place, and whether the place may be. -/
def blk' (p : Nat) : Nat × Nat := if p ≤ most then blk p else (0, 0)
theorem block_any (p : Nat) (w : World) :
    Calls Tryd.prog 19 #[.int .u64 p] w fun e w' => e = .returned (.tuple #[bv (blk' p).1 (blk' p).2, .bool (decide (p ≤ most))]) ∧ Below w.heap.size w w' := by
  by_cases hp : p ≤ most
  · rw [blk', if_pos hp, decide_eq_true hp]; exact block_yes p w hp
  · rw [blk', if_neg hp, decide_eq_false hp]; exact block_no p w (by omega)
end Go.Proofs.YtabdobdopcfllaaDoor.Pl
