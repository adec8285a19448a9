/-
  Walks of package codec: Count. Own work.
-/
import Derived.Test.YtelglfmppmdmoaaDWalkC
import Derived.Test.YtelglfmppmdmoaaCoPath
namespace Go.Proofs.Ytelglfmppmdmoaa
open Go.RowKit
open Cv (rst cov errS)
attribute [local go_sem ↓] Go.wp_at_zero Go.wp_at_succ
/-- A proof as a value. -/
abbrev pv6 (kd k : Int) (old size : Nat) (s d : Value) : Value := .agg #[.int .i64 kd, .int .i64 k, .int .u64 (old : Int), .int .u64 (size : Int), s, d]
/-- A proof in its box. -/
theorem box6 (w : World) (a b c d e f : Value) : ∃ W, w.alloc (.cells #[a, b, c, d, e, f] 26) = W ∧ Six W w.heap.size a b c d e f ∧ Below w.heap.size w W ∧ W.heap.size = w.heap.size + 1 :=
  ⟨_, rfl, six_new w a b c d e f, bal (Below.refl _ _) _, by simp⟩
theorem rd_of {w : World} {ao : Option Addr} {b off len : Nat} {l : List Nat} (h : RdU w ao b off len l) : Cv.Rd w ao b off len l := ⟨h.hl, h.ptr, fun _ hj => h.at hj⟩
theorem sum_i (a b : Nat) (ha : a ≤ 100) (hb : b ≤ 100) : wrap64 ((a : Int) + (b : Int)) = (a : Int) + (b : Int) := by unfold wrap64; omega
theorem one_i (a : Nat) (ha : a ≤ 100) : wrap64 (a : Int) = (a : Int) := by unfold wrap64; omega
theorem sum_u (a b c : Nat) (hb : c ≤ 1000) (hc : a + b = c) : IntKind.u64.wrap ((a : Int) + (b : Int)) = (c : Int) := by rw [IntKind.wrap_u64]; omega
theorem own_len {w : World} {B e size n m c : Nat} {ao : Option Addr} {xs : List Value} (h : w.ownsRow B e size (.slice ao m c) n xs) : m = n := by
  rcases h.2 with ⟨h, h0⟩ | ⟨g, cap, cur, h, _⟩
  · cases h; omega
  · cases h; rfl
section
variable (w : World) (kd k : Int) (old size : Nat) (sa : Option Addr) (sb so sc : Nat) (S : List Nat) (d : Value)
set_option maxRecDepth 100000 in
theorem cpath_no (rs : RdU w sa sb so S.length S) (h : ¬ (old = 0 ∧ S.length = 1 ∧ S.getD 0 0 < size)) :
    Calls Try.prog 31 #[pv6 kd k old size (.slice sa S.length sc) d] w fun e w' => e = .returned (.tuple #[.int .u64 0, .int .i64 150]) ∧ Below w.heap.size w w' := by
  by_cases h1 : old = 0
  · subst h1
    by_cases h2 : S.length = 1
    · have h3 : ¬ S.getD 0 0 < size := fun h3 => h ⟨rfl, h2, h3⟩
      have hp := rs.ptr (by omega)
      subst hp
      obtain ⟨W, hW, h6, hb, hz⟩ := box6 w (.int .i64 kd) (.int .i64 k) (.int .u64 0) (.int .u64 (size : Int)) (.slice (some ⟨sb, so, none⟩) 1 sc) d
      obtain ⟨e0, e1, e2, e3, e4, e5⟩ := h6.cells
      have HB : Hid (Below w.heap.size w W) := hb
      have hc := (rs.next hb).at (j := 0) (by omega)
      rw [Nat.add_zero] at hc
      generalize S.getD 0 0 = i at *
      have h3' : decide ((size : Int) ≤ (i : Int)) = true := decide_eq_true (by omega)
      have h3n : size ≤ i := by omega
      rw [h2]
      clear rs h h2 h3 h6 hb
      go_enter Try.func31, Try.ntmps31
      go_upto_region 1 with (fail)
      try rw [hW]
      clear hW
      go_quiet (fail)
      go_wp2
      go_ret2
      exact ⟨rfl, below_drewN HB.out _⟩
    · have h2' : ¬ (S.length : Int) = 1 := by omega
      generalize S.length = m at *
      obtain ⟨W, hW, h6, hb, hz⟩ := box6 w (.int .i64 kd) (.int .i64 k) (.int .u64 0) (.int .u64 (size : Int)) (.slice sa m sc) d
      obtain ⟨e0, e1, e2, e3, e4, e5⟩ := h6.cells
      have HB : Hid (Below w.heap.size w W) := hb
      clear rs h h2 h6 hb
      go_enter Try.func31, Try.ntmps31
      go_upto_region 1 with (fail)
      try rw [hW]
      clear hW
      go_quiet (fail)
      go_wp2
      go_ret2
      exact ⟨rfl, below_drewN HB.out _⟩
  · have h1' : ((old : Int) != 0) = true := bne_iff_ne.2 (by omega)
    obtain ⟨W, hW, h6, hb, hz⟩ := box6 w (.int .i64 kd) (.int .i64 k) (.int .u64 (old : Int)) (.int .u64 (size : Int)) (.slice sa S.length sc) d
    obtain ⟨e0, e1, e2, e3, e4, e5⟩ := h6.cells
    have HB : Hid (Below w.heap.size w W) := hb
    clear rs h h6 hb h1
    go_enter Try.func31, Try.ntmps31
    go_upto_region 1 with (fail)
    try rw [hW]
    clear hW
    go_quiet (fail)
    go_wp2
    go_ret2
    exact ⟨rfl, below_drewN HB.out _⟩
set_option maxRecDepth 100000 in
theorem cbatch_no (hold : old < 18446744073709551616) (rs : RdU w sa sb so S.length S) (hm : S.length ≤ 17592186044416) (h : ¬ (old = 0 ∧ errS size S = 0)) :
    Calls Try.prog 32 #[pv6 kd k old size (.slice sa S.length sc) d] w fun e w' => e = .returned (.tuple #[.int .u64 0, .int .i64 150]) ∧ Below w.heap.size w w' := by
  obtain ⟨W, hW, h6, hb, hz⟩ := box6 w (.int .i64 kd) (.int .i64 k) (.int .u64 (old : Int)) (.int .u64 (size : Int)) (.slice sa S.length sc) d
  obtain ⟨e0, e1, e2, e3, e4, e5⟩ := h6.cells
  have HC := Cv.count_any size W sa sb so S.length sc S (rd_of (rs.next hb)) hm
  have HB : Hid (∀ w', Below W.heap.size W w' → Below w.heap.size w w' ∧ w'.cell? ⟨w.heap.size, 2, none⟩ = some (.int .u64 (old : Int))) := fun w' hb' => ⟨bnext hb hb', (h6.next hb').cells.2.2.1⟩
  have HE : Hid (¬ (old = 0 ∧ errS size S = 0) ∧ old < 18446744073709551616) := ⟨h, hold⟩
  clear rs h h6 hb hm hold
  generalize errS size S = er at *
  generalize (Cv.rstS size S).length = cc at *
  generalize S.length = m at *
  by_cases h1 : er = 0
  · subst h1
    have h2 : ((old : Int) != 0) = true := bne_iff_ne.2 (by have := HE.out; omega)
    go_enter Try.func32, Try.ntmps32
    go_wp2_with (go_at_call 22; (try rw [hW]); with_reducible refine HC.mono ?_; rintro x w1 ⟨rfl, hb1⟩; obtain ⟨q1, q2⟩ := HB.out _ hb1)
    go_ret2
    exact ⟨rfl, q1⟩
  · have h2 : ((er : Int) != 0) = true := bne_iff_ne.2 (by omega)
    go_enter Try.func32, Try.ntmps32
    go_wp2_with (go_at_call 22; (try rw [hW]); with_reducible refine HC.mono ?_; rintro x w1 ⟨rfl, hb1⟩; obtain ⟨q1, q2⟩ := HB.out _ hb1)
    go_ret2
    exact ⟨rfl, q1⟩
set_option maxRecDepth 100000 in
theorem cbatch_yes (rs : RdU w sa sb so S.length S) (hm : S.length ≤ 17592186044416) (h : errS size S = 0) :
    Calls Try.prog 32 #[pv6 kd k 0 size (.slice sa S.length sc) d] w fun e w' => e = .returned (.tuple #[.int .u64 ((rst 0 size S).length : Nat), .int .i64 0]) ∧ Below w.heap.size w w' := by
  obtain ⟨W, hW, h6, hb, hz⟩ := box6 w (.int .i64 kd) (.int .i64 k) (.int .u64 0) (.int .u64 (size : Int)) (.slice sa S.length sc) d
  obtain ⟨e0, e1, e2, e3, e4, e5⟩ := h6.cells
  have HC := Cv.count_ok size W sa sb so S.length sc S (rd_of (rs.next hb)) hm h
  have HB : Hid (∀ w', Below W.heap.size W w' → Below w.heap.size w w' ∧ w'.cell? ⟨w.heap.size, 2, none⟩ = some (.int .u64 0)) := fun w' hb' => ⟨bnext hb hb', (h6.next hb').cells.2.2.1⟩
  clear rs h h6 hb hm
  generalize (rst 0 size S).length = cc at *
  generalize S.length = m at *
  go_enter Try.func32, Try.ntmps32
  go_wp2_with (go_at_call 22; (try rw [hW]); with_reducible refine HC.mono ?_; rintro x w1 ⟨rfl, hb1⟩; obtain ⟨q1, q2⟩ := HB.out _ hb1)
  go_ret2
  exact ⟨rfl, q1⟩
set_option maxRecDepth 100000 in
theorem ckin_no (hn : size ≤ 2 ^ 40) (hS : S.length ≤ 17592186044416) (h : ¬ (old ≤ size ∧ S.length = 0)) :
    Calls Try.prog 33 #[pv6 kd k old size (.slice sa S.length sc) d] w fun e w' => e = .returned (.tuple #[.int .u64 0, .int .i64 150]) ∧ Below w.heap.size w w' := by
  obtain ⟨W, hW, h6, hb, hz⟩ := box6 w (.int .i64 kd) (.int .i64 k) (.int .u64 (old : Int)) (.int .u64 (size : Int)) (.slice sa S.length sc) d
  obtain ⟨e0, e1, e2, e3, e4, e5⟩ := h6.cells
  have HC := Cv.range_any old size size W
  have HB : Hid (∀ w', Below W.heap.size W w' → Below w.heap.size w w' ∧ w'.cell? ⟨w.heap.size, 4, none⟩ = some (.slice sa S.length sc)) := fun w' hb' => ⟨bnext hb hb', (h6.next hb').cells.2.2.2.2.1⟩
  have he : Cv.errR old size size = 0 ↔ old ≤ size := by
    unfold Cv.errR
    rw [if_neg (by omega), if_neg (by omega)]
    split <;> omega
  have HE : Hid (¬ (Cv.errR old size size = 0 ∧ S.length = 0) ∧ S.length ≤ 17592186044416) := ⟨by rw [he]; exact h, hS⟩
  clear h h6 hb he hn hS
  generalize Cv.errR old size size = er at *
  generalize Cv.zl (Cv.covR old size size) = cc at *
  generalize S.length = m at *
  by_cases h1 : er = 0
  · subst h1
    have h2 : ((m : Int) != 0) = true := bne_iff_ne.2 (by have := HE.out; omega)
    go_enter Try.func33, Try.ntmps33
    go_wp2_with (go_at_call 58; (try rw [hW]); with_reducible refine HC.mono ?_; rintro x w1 ⟨v, rfl, ho, hb1⟩; obtain ⟨q1, q2⟩ := HB.out _ hb1)
    go_ret2
    exact ⟨rfl, q1⟩
  · have h2 : ((er : Int) != 0) = true := bne_iff_ne.2 (by omega)
    go_enter Try.func33, Try.ntmps33
    go_wp2_with (go_at_call 58; (try rw [hW]); with_reducible refine HC.mono ?_; rintro x w1 ⟨v, rfl, ho, hb1⟩; obtain ⟨q1, q2⟩ := HB.out _ hb1)
    go_ret2
    exact ⟨rfl, q1⟩
set_option maxRecDepth 100000 in
theorem ckin_yes (hn : size ≤ 2 ^ 40) (h1 : old ≤ size) :
    Calls Try.prog 33 #[pv6 kd k old size (.slice sa 0 sc) d] w fun e w' => e = .returned (.tuple #[.int .u64 (((cov 0 old).length + (cov old size).length : Nat) : Int), .int .i64 0]) ∧ Below w.heap.size w w' := by
  obtain ⟨W, hW, h6, hb, hz⟩ := box6 w (.int .i64 kd) (.int .i64 k) (.int .u64 (old : Int)) (.int .u64 (size : Int)) (.slice sa 0 sc) d
  obtain ⟨e0, e1, e2, e3, e4, e5⟩ := h6.cells
  have HC := Cv.range_ok old size size W hn (Nat.le_refl _) h1
  have HB : Hid (∀ w', Below W.heap.size W w' → Below w.heap.size w w' ∧ w'.cell? ⟨w.heap.size, 4, none⟩ = some (.slice sa 0 sc) ∧ w'.cell? ⟨w.heap.size, 2, none⟩ = some (.int .u64 (old : Int))) := fun w' hb' => ⟨bnext hb hb', (h6.next hb').cells.2.2.2.2.1, (h6.next hb').cells.2.2.1⟩
  have HO := fun W' => Pl.ones_any old W' (by omega)
  have hc1 := Cv.cov_ones old (by omega)
  have hc2 := Cv.cov_len old size h1 hn
  have hc3 := Cv.cov_forty old (by omega)
  have hc4 : (Cv.zl (cov old size)).length = (cov old size).length := Cv.zl_len _
  rw [← hc1] at HO
  generalize (cov 0 old).length = a at *
  generalize Cv.zl (cov old size) = Z at *
  generalize (cov old size).length = b at *
  obtain ⟨c, hc⟩ : ∃ c, a + b = c := ⟨_, rfl⟩
  rw [hc]
  have ew2 : wrap64 ((a : Int) + (b : Int)) = (c : Int) := by unfold wrap64; omega
  have es : IntKind.u64.wrap (c : Int) = (c : Int) := by rw [IntKind.wrap_u64]; omega
  have ha : (a : Int) ≤ 40 := by omega
  have hbb : (b : Int) ≤ 80 := by omega
  have HZ : Hid (Z.length = b) := hc4
  have HCc : Hid ((a : Int) + (b : Int) = (c : Int)) := (by omega : (a : Int) + (b : Int) = (c : Int))
  clear h6 hb hn h1 hc1 hc2 hc3 hc hc4
  go_enter Try.func33, Try.ntmps33
  go_upto_region 4 with (go_at_call 58; (try rw [hW]); with_reducible refine HC.mono ?_; rintro x w1 ⟨v, rfl, ho, hb1⟩; obtain ⟨q1, q2, q3⟩ := HB.out _ hb1; obtain ⟨ao, m, cp, rfl⟩ := Cv.own_slice ho; obtain rfl : m = b := by (have h := own_len ho; rw [HZ.out] at h; exact h))
  clear ho hb1
  have HQ := hide q1
  clear q1
  go_wp2_with (go_at_call 57; with_reducible refine (HO _).mono ?_; rintro x w2 ⟨rfl, rfl⟩)
  go_ret2
  refine ⟨?_, HQ.out⟩
  show Ending.returned (.tuple #[.int .u64 ((a : Int) + (m : Int)), .int .i64 0]) = _
  rw [HCc.out]
end
end Go.Proofs.Ytelglfmppmdmoaa
