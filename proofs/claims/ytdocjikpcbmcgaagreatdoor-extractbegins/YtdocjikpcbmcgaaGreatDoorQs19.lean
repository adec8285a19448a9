/-
  Own work: DWalkD, DWalkP, DWalkE.
-/
import Derived.Test.YtdocjikpcbmcgaaGreatDoorQs18
namespace Go.Proofs.YtdocjikpcbmcgaaGreatDoor
open Go.RowKit
open Cv (rst cov errS)
attribute [local go_sem ↓] Go.wp_at_zero Go.wp_at_succ
abbrev pv6 (kd k : Int) (old size : Nat) (s d : Value) : Value := .agg #[.int .i64 kd, .int .i64 k, .int .u64 (old : Int), .int .u64 (size : Int), s, d]
theorem box6 (w : World) (a b c d e f : Value) : ∃ W, w.alloc (.cells #[a, b, c, d, e, f] 55) = W ∧ Six W w.heap.size a b c d e f ∧ Below w.heap.size w W ∧ W.heap.size = w.heap.size + 1 :=
  ⟨_, rfl, six_new w a b c d e f, bal (Below.refl _ _) _, by simp⟩
theorem rd_of {w : World} {ao : Option Addr} {b off len : Nat} {l : List Nat} (h : RdU w ao b off len l) : Cv.Rd w ao b off len l := ⟨h.hl, h.ptr, fun _ hj => h.at hj⟩
theorem sum_i (a b : Nat) (ha : a ≤ 100) (hb : b ≤ 100) : wrap64 ((a : Int) + (b : Int)) = (a : Int) + (b : Int) := by unfold wrap64; omega
theorem one_i (a : Nat) (ha : a ≤ 100) : wrap64 (a : Int) = (a : Int) := by unfold wrap64; omega
theorem own_lenC {w : World} {B e size n m c : Nat} {ao : Option Addr} {xs : List Value} (h : w.ownsRow B e size (.slice ao m c) n xs) : m = n := by
  rcases h.2 with ⟨h, h0⟩ | ⟨g, cap, cur, h, _⟩
  · cases h; omega
  · cases h; rfl
section
variable (w : World) (kd k : Int) (old size : Nat) (sa : Option Addr) (sb so sc : Nat) (S : List Nat) (d : Value)
set_option maxRecDepth 100000 in
theorem cpath_no (rs : RdU w sa sb so S.length S) (h : ¬ (old = 0 ∧ S.length = 1 ∧ S.getD 0 0 < size)) :
    Calls Tryz.prog 155 #[pv6 kd k old size (.slice sa S.length sc) d] w fun e w' => e = .returned (.tuple #[.int .u64 0, .int .i64 150]) ∧ Below w.heap.size w w' := by
  by_cases h1 : old = 0
  · subst h1
    by_cases h2 : S.length = 1
    · have h3 : ¬ S.getD 0 0 < size := fun h3 => h ⟨rfl, h2, h3⟩
      have hp := rs.ptr (by omega)
      subst hp
      obtain ⟨W, hW, h6, hb, hz⟩ := box6 w (.int .i64 kd) (.int .i64 k) (.int .u64 0) (.int .u64 (size : Int)) (.slice (some ⟨sb, so, none⟩) 1 sc) d
      obtain ⟨e0, e1, e2, e3, e4, e5⟩ := h6.cells
      have HB : Hid (Below w.heap.size w W) := hb
      have hc := (rs.next hb).at (j := 0) (by omega)
      rw [Nat.add_zero] at hc
      generalize S.getD 0 0 = i at *
      have h3' : decide ((size : Int) ≤ (i : Int)) = true := decide_eq_true (by omega)
      have h3n : size ≤ i := by omega
      rw [h2]
      clear rs h h2 h3 h6 hb
      go_enter Tryz.func155, Tryz.ntmps155
      go_upto_region 1 with (fail)
      try rw [hW]
      clear hW
      go_quiet (fail)
      go_wp2
      go_ret2
      exact ⟨rfl, below_drewN HB.out _⟩
    · have h2' : ¬ (S.length : Int) = 1 := by omega
      generalize S.length = m at *
      obtain ⟨W, hW, h6, hb, hz⟩ := box6 w (.int .i64 kd) (.int .i64 k) (.int .u64 0) (.int .u64 (size : Int)) (.slice sa m sc) d
      obtain ⟨e0, e1, e2, e3, e4, e5⟩ := h6.cells
      have HB : Hid (Below w.heap.size w W) := hb
      clear rs h h2 h6 hb
      go_enter Tryz.func155, Tryz.ntmps155
      go_upto_region 1 with (fail)
      try rw [hW]
      clear hW
      go_quiet (fail)
      go_wp2
      go_ret2
      exact ⟨rfl, below_drewN HB.out _⟩
  · have h1' : ((old : Int) != 0) = true := bne_iff_ne.2 (by omega)
    obtain ⟨W, hW, h6, hb, hz⟩ := box6 w (.int .i64 kd) (.int .i64 k) (.int .u64 (old : Int)) (.int .u64 (size : Int)) (.slice sa S.length sc) d
    obtain ⟨e0, e1, e2, e3, e4, e5⟩ := h6.cells
    have HB : Hid (Below w.heap.size w W) := hb
    clear rs h h6 hb h1
    go_enter Tryz.func155, Tryz.ntmps155
    go_upto_region 1 with (fail)
    try rw [hW]
    clear hW
    go_quiet (fail)
    go_wp2
    go_ret2
    exact ⟨rfl, below_drewN HB.out _⟩
set_option maxRecDepth 100000 in
theorem cbatch_no (hold : old < 18446744073709551616) (rs : RdU w sa sb so S.length S) (hm : S.length ≤ 17592186044416) (h : ¬ (old = 0 ∧ errS size S = 0)) :
    Calls Tryz.prog 156 #[pv6 kd k old size (.slice sa S.length sc) d] w fun e w' => e = .returned (.tuple #[.int .u64 0, .int .i64 150]) ∧ Below w.heap.size w w' := by
  obtain ⟨W, hW, h6, hb, hz⟩ := box6 w (.int .i64 kd) (.int .i64 k) (.int .u64 (old : Int)) (.int .u64 (size : Int)) (.slice sa S.length sc) d
  obtain ⟨e0, e1, e2, e3, e4, e5⟩ := h6.cells
  have HC := Cv.count_any size W sa sb so S.length sc S (rd_of (rs.next hb)) hm
  have HB : Hid (∀ w', Below W.heap.size W w' → Below w.heap.size w w' ∧ w'.cell? ⟨w.heap.size, 2, none⟩ = some (.int .u64 (old : Int))) := fun w' hb' => ⟨bnext hb hb', (h6.next hb').cells.2.2.1⟩
  have HE : Hid (¬ (old = 0 ∧ errS size S = 0) ∧ old < 18446744073709551616) := ⟨h, hold⟩
  clear rs h h6 hb hm hold
  generalize errS size S = er at *
  generalize (Cv.rstS size S).length = cc at *
  generalize S.length = m at *
  by_cases h1 : er = 0
  · subst h1
    have h2 : ((old : Int) != 0) = true := bne_iff_ne.2 (by have := HE.out; omega)
    go_enter Tryz.func156, Tryz.ntmps156
    go_wp2_with (go_at_call 166; (try rw [hW]); with_reducible refine HC.mono ?_; rintro x w1 ⟨rfl, hb1⟩; obtain ⟨q1, q2⟩ := HB.out _ hb1)
    go_ret2
    exact ⟨rfl, q1⟩
  · have h2 : ((er : Int) != 0) = true := bne_iff_ne.2 (by omega)
    go_enter Tryz.func156, Tryz.ntmps156
    go_wp2_with (go_at_call 166; (try rw [hW]); with_reducible refine HC.mono ?_; rintro x w1 ⟨rfl, hb1⟩; obtain ⟨q1, q2⟩ := HB.out _ hb1)
    go_ret2
    exact ⟨rfl, q1⟩
set_option maxRecDepth 100000 in
theorem cbatch_yes (rs : RdU w sa sb so S.length S) (hm : S.length ≤ 17592186044416) (h : errS size S = 0) :
    Calls Tryz.prog 156 #[pv6 kd k 0 size (.slice sa S.length sc) d] w fun e w' => e = .returned (.tuple #[.int .u64 ((rst 0 size S).length : Nat), .int .i64 0]) ∧ Below w.heap.size w w' := by
  obtain ⟨W, hW, h6, hb, hz⟩ := box6 w (.int .i64 kd) (.int .i64 k) (.int .u64 0) (.int .u64 (size : Int)) (.slice sa S.length sc) d
  obtain ⟨e0, e1, e2, e3, e4, e5⟩ := h6.cells
  have HC := Cv.count_ok size W sa sb so S.length sc S (rd_of (rs.next hb)) hm h
  have HB : Hid (∀ w', Below W.heap.size W w' → Below w.heap.size w w' ∧ w'.cell? ⟨w.heap.size, 2, none⟩ = some (.int .u64 0)) := fun w' hb' => ⟨bnext hb hb', (h6.next hb').cells.2.2.1⟩
  clear rs h h6 hb hm
  generalize (rst 0 size S).length = cc at *
  generalize S.length = m at *
  go_enter Tryz.func156, Tryz.ntmps156
  go_wp2_with (go_at_call 166; (try rw [hW]); with_reducible refine HC.mono ?_; rintro x w1 ⟨rfl, hb1⟩; obtain ⟨q1, q2⟩ := HB.out _ hb1)
  go_ret2
  exact ⟨rfl, q1⟩
set_option maxRecDepth 100000 in
theorem ckin_no (hn : size ≤ 2 ^ 40) (hS : S.length ≤ 17592186044416) (h : ¬ (old ≤ size ∧ S.length = 0)) :
    Calls Tryz.prog 157 #[pv6 kd k old size (.slice sa S.length sc) d] w fun e w' => e = .returned (.tuple #[.int .u64 0, .int .i64 150]) ∧ Below w.heap.size w w' := by
  obtain ⟨W, hW, h6, hb, hz⟩ := box6 w (.int .i64 kd) (.int .i64 k) (.int .u64 (old : Int)) (.int .u64 (size : Int)) (.slice sa S.length sc) d
  obtain ⟨e0, e1, e2, e3, e4, e5⟩ := h6.cells
  have HC := Cv.range_any old size size W
  have HB : Hid (∀ w', Below W.heap.size W w' → Below w.heap.size w w' ∧ w'.cell? ⟨w.heap.size, 4, none⟩ = some (.slice sa S.length sc)) := fun w' hb' => ⟨bnext hb hb', (h6.next hb').cells.2.2.2.2.1⟩
  have he : Cv.errR old size size = 0 ↔ old ≤ size := by
    unfold Cv.errR
    rw [if_neg (by omega), if_neg (by omega)]
    split <;> omega
  have HE : Hid (¬ (Cv.errR old size size = 0 ∧ S.length = 0) ∧ S.length ≤ 17592186044416) := ⟨by rw [he]; exact h, hS⟩
  clear h h6 hb he hn hS
  generalize Cv.errR old size size = er at *
  generalize Cv.zl (Cv.covR old size size) = cc at *
  generalize S.length = m at *
  by_cases h1 : er = 0
  · subst h1
    have h2 : ((m : Int) != 0) = true := bne_iff_ne.2 (by have := HE.out; omega)
    go_enter Tryz.func157, Tryz.ntmps157
    go_wp2_with (go_at_call 110; (try rw [hW]); with_reducible refine HC.mono ?_; rintro x w1 ⟨v, rfl, ho, hb1⟩; obtain ⟨q1, q2⟩ := HB.out _ hb1)
    go_ret2
    exact ⟨rfl, q1⟩
  · have h2 : ((er : Int) != 0) = true := bne_iff_ne.2 (by omega)
    go_enter Tryz.func157, Tryz.ntmps157
    go_wp2_with (go_at_call 110; (try rw [hW]); with_reducible refine HC.mono ?_; rintro x w1 ⟨v, rfl, ho, hb1⟩; obtain ⟨q1, q2⟩ := HB.out _ hb1)
    go_ret2
    exact ⟨rfl, q1⟩
set_option maxRecDepth 100000 in
theorem ckin_yes (hn : size ≤ 2 ^ 40) (h1 : old ≤ size) :
    Calls Tryz.prog 157 #[pv6 kd k old size (.slice sa 0 sc) d] w fun e w' => e = .returned (.tuple #[.int .u64 (((cov 0 old).length + (cov old size).length : Nat) : Int), .int .i64 0]) ∧ Below w.heap.size w w' := by
  obtain ⟨W, hW, h6, hb, hz⟩ := box6 w (.int .i64 kd) (.int .i64 k) (.int .u64 (old : Int)) (.int .u64 (size : Int)) (.slice sa 0 sc) d
  obtain ⟨e0, e1, e2, e3, e4, e5⟩ := h6.cells
  have HC := Cv.range_ok old size size W hn (Nat.le_refl _) h1
  have HB : Hid (∀ w', Below W.heap.size W w' → Below w.heap.size w w' ∧ w'.cell? ⟨w.heap.size, 4, none⟩ = some (.slice sa 0 sc) ∧ w'.cell? ⟨w.heap.size, 2, none⟩ = some (.int .u64 (old : Int))) := fun w' hb' => ⟨bnext hb hb', (h6.next hb').cells.2.2.2.2.1, (h6.next hb').cells.2.2.1⟩
  have HO := fun W' => Pl.ones_any old W' (by omega)
  have hc1 := Cv.cov_ones old (by omega)
  have hc2 := Cv.cov_len old size h1 hn
  have hc3 := Cv.cov_forty old (by omega)
  have hc4 : (Cv.zl (cov old size)).length = (cov old size).length := Cv.zl_len _
  rw [← hc1] at HO
  generalize (cov 0 old).length = a at *
  generalize Cv.zl (cov old size) = Z at *
  generalize (cov old size).length = b at *
  obtain ⟨c, hc⟩ : ∃ c, a + b = c := ⟨_, rfl⟩
  rw [hc]
  have ew2 : wrap64 ((a : Int) + (b : Int)) = (c : Int) := by unfold wrap64; omega
  have es : IntKind.u64.wrap (c : Int) = (c : Int) := by rw [IntKind.wrap_u64]; omega
  have ha : (a : Int) ≤ 40 := by omega
  have hbb : (b : Int) ≤ 80 := by omega
  have HZ : Hid (Z.length = b) := hc4
  have HCc : Hid ((a : Int) + (b : Int) = (c : Int)) := (by omega : (a : Int) + (b : Int) = (c : Int))
  clear h6 hb hn h1 hc1 hc2 hc3 hc hc4
  go_enter Tryz.func157, Tryz.ntmps157
  go_upto_region 4 with (go_at_call 110; (try rw [hW]); with_reducible refine HC.mono ?_; rintro x w1 ⟨v, rfl, ho, hb1⟩; obtain ⟨q1, q2, q3⟩ := HB.out _ hb1; obtain ⟨ao, m, cp, rfl⟩ := Cv.own_slice ho; obtain rfl : m = b := by (have h := own_lenC ho; rw [HZ.out] at h; exact h))
  clear ho hb1
  have HQ := hideC q1
  clear q1
  go_wp2_with (go_at_call 80; with_reducible refine (HO _).mono ?_; rintro x w2 ⟨rfl, rfl⟩)
  go_ret2
  refine ⟨?_, HQ.out⟩
  show Ending.returned (.tuple #[.int .u64 ((a : Int) + (m : Int)), .int .i64 0]) = _
  rw [HCc.out]
end
end Go.Proofs.YtdocjikpcbmcgaaGreatDoor
namespace Go.Proofs.YtdocjikpcbmcgaaGreatDoor
open Go.RowKit
open Cv (rst cov errS)
attribute [local go_sem ↓] Go.wp_at_zero Go.wp_at_succ
section
variable (w : World) (kd k : Int) (old size : Nat) (sa : Option Addr) (sb so sc : Nat) (S : List Nat) (d : Value)
set_option maxRecDepth 100000 in
theorem cpath_yes (hn : size ≤ 2 ^ 40) (rs : RdU w sa sb so S.length S) (h2 : S.length = 1) (h3 : S.getD 0 0 < size) :
    Calls Tryz.prog 155 #[pv6 kd k 0 size (.slice sa S.length sc) d] w fun e w' => e = .returned (.tuple #[.int .u64 ((rst 0 size S).length : Nat), .int .i64 0]) ∧ Below w.heap.size w w' := by
  obtain ⟨i, rfl⟩ := List.length_eq_one_iff.1 h2
  have hp := rs.ptr (by simp)
  subst hp
  rw [show [i].getD 0 0 = i from rfl] at h3
  obtain ⟨H, g1, g2, g3, g4⟩ := path_cnt hn h3
  obtain ⟨W, hW, h6, hb, hz⟩ := box6 w (.int .i64 kd) (.int .i64 k) (.int .u64 0) (.int .u64 (size : Int)) (.slice (some ⟨sb, so, none⟩) 1 sc) d
  obtain ⟨e0, e1, e2, e3, e4, e5⟩ := h6.cells
  have HB : Hid (Below w.heap.size w W) := hb
  have hc : W.cell? ⟨sb, so, none⟩ = some (.int .u64 (i : Int)) := by
    have := (rs.next hb).at (j := 0) (by simp)
    rw [Nat.add_zero] at this
    exact this
  have hx := u64_xor_nat size i (by omega) (by omega)
  have h41 : (2 : Nat) ^ (H + 1) ≤ 2 ^ 41 := Nat.pow_le_pow_right (by decide) (by omega)
  have HL := fun W' => log_at (size ^^^ i) H W' (by omega) g2 g3
  clear h41 g2 g3
  have HO := fun W' => Pl.ones_any size W' (by omega)
  have ho : Pl.ones 64 size ≤ 64 := Pl.ones_le 64 size
  obtain ⟨c, hcn⟩ : ∃ c, (rst 0 size [i]).length = c := ⟨_, rfl⟩
  rw [hcn] at g1 ⊢
  have hq0 : 0 < Pl.ones 64 size := by
    rw [← Cv.cov_ones size hn]
    cases hz : cov 0 size with
    | nil =>
      have ht := Cv.cov_til 0 size (Nat.zero_le _) hn
      rw [hz] at ht
      exact absurd ⟨Nat.zero_le _, h3⟩ (ht.2 i (Nat.zero_le _) h3)
    | cons b r => simp
  generalize Pl.ones 64 size = q at *
  have h3' : decide ((size : Int) ≤ (i : Int)) = false := decide_eq_false (by omega)
  have h3n : ¬ size ≤ i := by omega
  obtain ⟨q', rfl⟩ : ∃ q', q = q' + 1 := ⟨q - 1, by omega⟩
  have eq : ((q' + 1 : Nat) : Int) - 1 = (q' : Int) := by omega
  have hq' : (q' : Int) ≤ 64 := by omega
  have hH' : (H : Int) ≤ 40 := by omega
  have hq2 : q' ≤ 100 := by omega
  have hc2 : c ≤ 1000 ∧ H + q' = c := by omega
  have HCc : Hid ((H : Int) + (q' : Int) = (c : Int)) := (by omega : (H : Int) + (q' : Int) = (c : Int))
  have hH2 : H ≤ 100 := by omega
  have ew := one_i q' hq2
  have ew2 := sum_i H q' hH2 hq2
  clear hq2 hc2 g1 hH2
  have HB6 : Hid (∀ n, Six (W.drewN n) w.heap.size (.int .i64 kd) (.int .i64 k) (.int .u64 0) (.int .u64 (size : Int)) (.slice (some ⟨sb, so, none⟩) 1 sc) d ∧ (W.drewN n).cell? ⟨sb, so, none⟩ = some (.int .u64 (i : Int)) ∧ Below w.heap.size w (W.drewN n)) := fun n => ⟨h6.next (below_drewN (Below.refl _ _) n), ((below_drewN (Below.refl W.heap.size W) n).cell (World.block_lt_of_cell? W _ hc)).trans hc, below_drewN hb n⟩
  clear rs hn h2 h3 g4 h6 hb ho hcn hq0
  go_enter Tryz.func155, Tryz.ntmps155
  go_upto_region 1 with (fail)
  try rw [hW]
  clear hW
  go_quiet (fail)
  go_upto_region 3 with (fail)
  have k0 := HB6.out nq
  obtain ⟨W2, hW2⟩ : ∃ W2, W.drewN nq = W2 := ⟨_, rfl⟩
  try rw [hW2]
  rw [hW2] at k0
  clear hW2 e0 e1 e2 e3 e4 e5 hc
  obtain ⟨k0, hc, HW⟩ := k0
  obtain ⟨e0, e1, e2, e3, e4, e5⟩ := k0.cells
  have HW := hideC HW
  go_quiet ((go_at_call 179; refine Calls.quiet_of_same (HL _)))
  go_wp2_with (go_at_call 80; with_reducible refine (HO _).mono ?_; rintro x w2 ⟨rfl, rfl⟩)
  go_ret2
  refine ⟨?_, below_drewN HW.out _⟩
  show Ending.returned (.tuple #[.int .u64 ((H : Int) + (q' : Int)), .int .i64 0]) = _
  rw [HCc.out]
end
end Go.Proofs.YtdocjikpcbmcgaaGreatDoor
namespace Go.Proofs.YtdocjikpcbmcgaaGreatDoor
open Go.RowKit
open Cv (rst cov errS)
attribute [local go_sem ↓] Go.wp_at_zero Go.wp_at_succ
def cV : Option Nat → Value
  | some c => .tuple #[.int .u64 (c : Int), .int .i64 0]
  | none => .tuple #[.int .u64 0, .int .i64 150]
theorem err_one {size i : Nat} (hn : size ≤ 2 ^ 40) : errS size [i] = 0 ↔ i < size :=
  ⟨fun h => by have := (Cv.errS_ok h).2.2.1; simpa using this, fun h => Cv.chain_inc ⟨Nat.zero_le _, h⟩ (by simp) hn⟩
theorem cnt_path {k : Int} {old size : Nat} {S : List Nat} (hk : 1 ≤ k ∧ k ≤ 32 ∧ size ≤ 2 ^ 40) : cnt 1 k old size S = if old = 0 ∧ S.length = 1 ∧ S.getD 0 0 < size then some (rst 0 size S).length else none := by
  rw [cnt, if_pos hk, if_pos rfl]
  by_cases h1 : S.length = 1
  · obtain ⟨i, rfl⟩ := List.length_eq_one_iff.1 h1
    have := err_one (i := i) hk.2.2
    simp only [this]
    rfl
  · rw [if_neg (by rintro ⟨_, h, _⟩; exact h1 h), if_neg (by rintro ⟨_, h, _⟩; exact h1 h)]
theorem cnt_batch {k : Int} {old size : Nat} {S : List Nat} (hk : 1 ≤ k ∧ k ≤ 32 ∧ size ≤ 2 ^ 40) : cnt 2 k old size S = if old = 0 ∧ errS size S = 0 then some (rst 0 size S).length else none := by
  rw [cnt, if_pos hk, if_neg (by decide), if_pos rfl]
theorem cnt_kin {k : Int} {old size : Nat} {S : List Nat} (hk : 1 ≤ k ∧ k ≤ 32 ∧ size ≤ 2 ^ 40) : cnt 3 k old size S = if old ≤ size ∧ S = [] then some ((cov 0 old).length + (cov old size).length) else none := by
  rw [cnt, if_pos hk, if_neg (by decide), if_neg (by decide), if_pos rfl]
theorem cnt_off {kd k : Int} {old size : Nat} {S : List Nat} (h : ¬ (1 ≤ k ∧ k ≤ 32 ∧ size ≤ 2 ^ 40)) : cnt kd k old size S = none := by rw [cnt, if_neg h]
theorem cnt_other {kd k : Int} {old size : Nat} {S : List Nat} (h1 : kd ≠ 1) (h2 : kd ≠ 2) (h3 : kd ≠ 3) : cnt kd k old size S = none := by
  rw [cnt, if_neg h1, if_neg h2, if_neg h3]
  split <;> rfl
section
variable (w : World) (kd k : Int) (old size : Nat) (sa : Option Addr) (sb so sc : Nat) (S : List Nat) (d : Value)
set_option maxRecDepth 100000 in
set_option maxHeartbeats 1000000 in
theorem count_any (hold : old < 18446744073709551616) (hsz : size < 18446744073709551616) (rs : RdU w sa sb so S.length S) (hm0 : size ≤ 2 ^ 40 → S.length ≤ 17592186044416) :
    Calls Tryz.prog 105 #[pv6 kd k old size (.slice sa S.length sc) d] w fun e w' => e = .returned (cV (cnt kd k old size S)) ∧ Below w.heap.size w w' := by
  obtain ⟨W, hW, h6, hb, hz⟩ := box6 w (.int .i64 kd) (.int .i64 k) (.int .u64 (old : Int)) (.int .u64 (size : Int)) (.slice sa S.length sc) d
  obtain ⟨e0, e1, e2, e3, e4, e5⟩ := h6.cells
  have HB : Hid (∀ w', Below W.heap.size W w' → Below w.heap.size w w') := fun w' hb' => bnext hb hb'
  have HBW : Hid (Below w.heap.size w W) := hb
  have rs' := rs.next hb
  by_cases h0 : 1 ≤ k ∧ k ≤ 32 ∧ size ≤ 2 ^ 40
  · have hm := hm0 h0.2.2
    clear hm0
    have hk1 : ¬ k < 1 := by omega
    have hk2 : ¬ 32 < k := by omega
    have hk3 : ¬ (1099511627776 : Int) < (size : Int) := by omega
    by_cases h1 : kd = 1
    · subst h1
      rw [cnt_path h0]
      by_cases hc : old = 0 ∧ S.length = 1 ∧ S.getD 0 0 < size
      · rw [if_pos hc]
        obtain ⟨rfl, hc2, hc3⟩ := hc
        have HC : Calls Tryz.prog 155 #[.agg #[.int .i64 1, .int .i64 k, .int .u64 0, .int .u64 (size : Int), .slice sa S.length sc, d]] W fun e w' => e = .returned (.tuple #[.int .u64 ((rst 0 size S).length : Nat), .int .i64 0]) ∧ Below W.heap.size W w' := cpath_yes W 1 k size sa sb so sc S d h0.2.2 rs' hc2 hc3
        have hz0 : ((0 : Nat) : Int) = 0 := rfl
        rw [hz0] at hW e2
        clear hz0
        generalize (rst 0 size S).length = cc at *
        generalize S.length = m at *
        clear rs rs' h6 hb hm h0 hold hsz hc2 hc3
        go_enter Tryz.func105, Tryz.ntmps105
        go_wp2_with (go_at_call 155; with_reducible refine HC.mono ?_; rintro x w1 ⟨rfl, hb1⟩)
        go_ret2
        exact ⟨rfl, HB.out _ hb1⟩
      · rw [if_neg hc]
        have HC := cpath_no W 1 k old size sa sb so sc S d rs' hc
        generalize S.length = m at *
        clear rs rs' h6 hb hm h0 hold hsz hc
        go_enter Tryz.func105, Tryz.ntmps105
        go_wp2_with (go_at_call 155; with_reducible refine HC.mono ?_; rintro x w1 ⟨rfl, hb1⟩)
        go_ret2
        exact ⟨rfl, HB.out _ hb1⟩
    · by_cases h2 : kd = 2
      · subst h2
        rw [cnt_batch h0]
        by_cases hc : old = 0 ∧ errS size S = 0
        · rw [if_pos hc]
          obtain ⟨rfl, hc2⟩ := hc
          have HC : Calls Tryz.prog 156 #[.agg #[.int .i64 2, .int .i64 k, .int .u64 0, .int .u64 (size : Int), .slice sa S.length sc, d]] W fun e w' => e = .returned (.tuple #[.int .u64 ((rst 0 size S).length : Nat), .int .i64 0]) ∧ Below W.heap.size W w' := cbatch_yes W 2 k size sa sb so sc S d rs' hm hc2
          have hz0 : ((0 : Nat) : Int) = 0 := rfl
          rw [hz0] at hW e2
          clear hz0
          generalize (rst 0 size S).length = cc at *
          generalize S.length = m at *
          clear rs rs' h6 hb hm h0 hold hsz hc2 h1
          go_enter Tryz.func105, Tryz.ntmps105
          go_wp2_with (go_at_call 156; with_reducible refine HC.mono ?_; rintro x w1 ⟨rfl, hb1⟩)
          go_ret2
          exact ⟨rfl, HB.out _ hb1⟩
        · rw [if_neg hc]
          have HC := cbatch_no W 2 k old size sa sb so sc S d hold rs' hm hc
          generalize S.length = m at *
          clear rs rs' h6 hb hm h0 hold hsz hc h1
          go_enter Tryz.func105, Tryz.ntmps105
          go_wp2_with (go_at_call 156; with_reducible refine HC.mono ?_; rintro x w1 ⟨rfl, hb1⟩)
          go_ret2
          exact ⟨rfl, HB.out _ hb1⟩
      · by_cases h3 : kd = 3
        · subst h3
          rw [cnt_kin h0]
          by_cases hc : old ≤ size ∧ S = []
          · rw [if_pos hc]
            obtain ⟨hc1, rfl⟩ := hc
            have HC := ckin_yes W 3 k old size sa sc d h0.2.2 hc1
            rw [List.length_nil] at *
            generalize (cov 0 old).length + (cov old size).length = cc at *
            clear rs rs' h6 hb hm h0 hold hsz hc1 h1 h2
            go_enter Tryz.func105, Tryz.ntmps105
            go_wp2_with (go_at_call 157; with_reducible refine HC.mono ?_; rintro x w1 ⟨rfl, hb1⟩)
            go_ret2
            exact ⟨rfl, HB.out _ hb1⟩
          · rw [if_neg hc]
            have HC := ckin_no W 3 k old size sa sc S d h0.2.2 hm (by rintro ⟨a, b⟩; exact hc ⟨a, List.length_eq_zero_iff.1 b⟩)
            generalize S.length = m at *
            clear rs rs' h6 hb hm h0 hold hsz hc h1 h2
            go_enter Tryz.func105, Tryz.ntmps105
            go_wp2_with (go_at_call 157; with_reducible refine HC.mono ?_; rintro x w1 ⟨rfl, hb1⟩)
            go_ret2
            exact ⟨rfl, HB.out _ hb1⟩
        · rw [cnt_other h1 h2 h3]
          generalize S.length = m at *
          clear rs rs' h6 hb hm h0 hold hsz
          go_enter Tryz.func105, Tryz.ntmps105
          go_wp2
          go_ret2
          exact ⟨rfl, HBW.out⟩
  · rw [cnt_off h0]
    clear hm0
    generalize S.length = m at *
    by_cases hk1 : k < 1
    · clear rs rs' h6 hb h0 hold hsz
      go_enter Tryz.func105, Tryz.ntmps105
      go_wp2
      go_ret2
      exact ⟨rfl, HBW.out⟩
    · by_cases hk2 : 32 < k
      · clear rs rs' h6 hb h0 hold hsz
        go_enter Tryz.func105, Tryz.ntmps105
        go_wp2
        go_ret2
        exact ⟨rfl, HBW.out⟩
      · have hk3 : (1099511627776 : Int) < (size : Int) := by omega
        clear rs rs' h6 hb h0 hold hsz
        go_enter Tryz.func105, Tryz.ntmps105
        go_wp2
        go_ret2
        exact ⟨rfl, HBW.out⟩
end
end Go.Proofs.YtdocjikpcbmcgaaGreatDoor
