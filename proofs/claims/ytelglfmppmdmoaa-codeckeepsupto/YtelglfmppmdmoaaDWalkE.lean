/-
  Walks of package codec: Count, whole. Own work.
-/
import Derived.Test.YtelglfmppmdmoaaDWalkP
namespace Go.Proofs.Ytelglfmppmdmoaa
open Go.RowKit
open Cv (rst cov errS)
attribute [local go_sem ↓] Go.wp_at_zero Go.wp_at_succ
/-- What Count answers. -/
def cV : Option Nat → Value
  | some c => .tuple #[.int .u64 (c : Int), .int .i64 0]
  | none => .tuple #[.int .u64 0, .int .i64 150]
theorem err_one {size i : Nat} (hn : size ≤ 2 ^ 40) : errS size [i] = 0 ↔ i < size :=
  ⟨fun h => by have := (Cv.errS_ok h).2.2.1; simpa using this, fun h => Cv.chain_inc ⟨Nat.zero_le _, h⟩ (by simp) hn⟩
theorem cnt_path {k : Int} {old size : Nat} {S : List Nat} (hk : 1 ≤ k ∧ k ≤ 32 ∧ size ≤ 2 ^ 40) : cnt 1 k old size S = if old = 0 ∧ S.length = 1 ∧ S.getD 0 0 < size then some (rst 0 size S).length else none := by
  rw [cnt, if_pos hk, if_pos rfl]
  by_cases h1 : S.length = 1
  · obtain ⟨i, rfl⟩ := List.length_eq_one_iff.1 h1
    have := err_one (i := i) hk.2.2
    simp only [this]
    rfl
  · rw [if_neg (by rintro ⟨_, h, _⟩; exact h1 h), if_neg (by rintro ⟨_, h, _⟩; exact h1 h)]
theorem cnt_batch {k : Int} {old size : Nat} {S : List Nat} (hk : 1 ≤ k ∧ k ≤ 32 ∧ size ≤ 2 ^ 40) : cnt 2 k old size S = if old = 0 ∧ errS size S = 0 then some (rst 0 size S).length else none := by
  rw [cnt, if_pos hk, if_neg (by decide), if_pos rfl]
theorem cnt_kin {k : Int} {old size : Nat} {S : List Nat} (hk : 1 ≤ k ∧ k ≤ 32 ∧ size ≤ 2 ^ 40) : cnt 3 k old size S = if old ≤ size ∧ S = [] then some ((cov 0 old).length + (cov old size).length) else none := by
  rw [cnt, if_pos hk, if_neg (by decide), if_neg (by decide), if_pos rfl]
theorem cnt_off {kd k : Int} {old size : Nat} {S : List Nat} (h : ¬ (1 ≤ k ∧ k ≤ 32 ∧ size ≤ 2 ^ 40)) : cnt kd k old size S = none := by rw [cnt, if_neg h]
theorem cnt_other {kd k : Int} {old size : Nat} {S : List Nat} (h1 : kd ≠ 1) (h2 : kd ≠ 2) (h3 : kd ≠ 3) : cnt kd k old size S = none := by
  rw [cnt, if_neg h1, if_neg h2, if_neg h3]
  split <;> rfl
section
variable (w : World) (kd k : Int) (old size : Nat) (sa : Option Addr) (sb so sc : Nat) (S : List Nat) (d : Value)
set_option maxRecDepth 100000 in
set_option maxHeartbeats 1000000 in
theorem count_any (hold : old < 18446744073709551616) (hsz : size < 18446744073709551616) (rs : RdU w sa sb so S.length S) (hm0 : size ≤ 2 ^ 40 → S.length ≤ 17592186044416) :
    Calls Try.prog 12 #[pv6 kd k old size (.slice sa S.length sc) d] w fun e w' => e = .returned (cV (cnt kd k old size S)) ∧ Below w.heap.size w w' := by
  obtain ⟨W, hW, h6, hb, hz⟩ := box6 w (.int .i64 kd) (.int .i64 k) (.int .u64 (old : Int)) (.int .u64 (size : Int)) (.slice sa S.length sc) d
  obtain ⟨e0, e1, e2, e3, e4, e5⟩ := h6.cells
  have HB : Hid (∀ w', Below W.heap.size W w' → Below w.heap.size w w') := fun w' hb' => bnext hb hb'
  have HBW : Hid (Below w.heap.size w W) := hb
  have rs' := rs.next hb
  by_cases h0 : 1 ≤ k ∧ k ≤ 32 ∧ size ≤ 2 ^ 40
  · have hm := hm0 h0.2.2
    clear hm0
    have hk1 : ¬ k < 1 := by omega
    have hk2 : ¬ 32 < k := by omega
    have hk3 : ¬ (1099511627776 : Int) < (size : Int) := by omega
    by_cases h1 : kd = 1
    · subst h1
      rw [cnt_path h0]
      by_cases hc : old = 0 ∧ S.length = 1 ∧ S.getD 0 0 < size
      · rw [if_pos hc]
        obtain ⟨rfl, hc2, hc3⟩ := hc
        have HC : Calls Try.prog 31 #[.agg #[.int .i64 1, .int .i64 k, .int .u64 0, .int .u64 (size : Int), .slice sa S.length sc, d]] W fun e w' => e = .returned (.tuple #[.int .u64 ((rst 0 size S).length : Nat), .int .i64 0]) ∧ Below W.heap.size W w' := cpath_yes W 1 k size sa sb so sc S d h0.2.2 rs' hc2 hc3
        have hz0 : ((0 : Nat) : Int) = 0 := rfl
        rw [hz0] at hW e2
        clear hz0
        generalize (rst 0 size S).length = cc at *
        generalize S.length = m at *
        clear rs rs' h6 hb hm h0 hold hsz hc2 hc3
        go_enter Try.func12, Try.ntmps12
        go_wp2_with (go_at_call 31; with_reducible refine HC.mono ?_; rintro x w1 ⟨rfl, hb1⟩)
        go_ret2
        exact ⟨rfl, HB.out _ hb1⟩
      · rw [if_neg hc]
        have HC := cpath_no W 1 k old size sa sb so sc S d rs' hc
        generalize S.length = m at *
        clear rs rs' h6 hb hm h0 hold hsz hc
        go_enter Try.func12, Try.ntmps12
        go_wp2_with (go_at_call 31; with_reducible refine HC.mono ?_; rintro x w1 ⟨rfl, hb1⟩)
        go_ret2
        exact ⟨rfl, HB.out _ hb1⟩
    · by_cases h2 : kd = 2
      · subst h2
        rw [cnt_batch h0]
        by_cases hc : old = 0 ∧ errS size S = 0
        · rw [if_pos hc]
          obtain ⟨rfl, hc2⟩ := hc
          have HC : Calls Try.prog 32 #[.agg #[.int .i64 2, .int .i64 k, .int .u64 0, .int .u64 (size : Int), .slice sa S.length sc, d]] W fun e w' => e = .returned (.tuple #[.int .u64 ((rst 0 size S).length : Nat), .int .i64 0]) ∧ Below W.heap.size W w' := cbatch_yes W 2 k size sa sb so sc S d rs' hm hc2
          have hz0 : ((0 : Nat) : Int) = 0 := rfl
          rw [hz0] at hW e2
          clear hz0
          generalize (rst 0 size S).length = cc at *
          generalize S.length = m at *
          clear rs rs' h6 hb hm h0 hold hsz hc2 h1
          go_enter Try.func12, Try.ntmps12
          go_wp2_with (go_at_call 32; with_reducible refine HC.mono ?_; rintro x w1 ⟨rfl, hb1⟩)
          go_ret2
          exact ⟨rfl, HB.out _ hb1⟩
        · rw [if_neg hc]
          have HC := cbatch_no W 2 k old size sa sb so sc S d hold rs' hm hc
          generalize S.length = m at *
          clear rs rs' h6 hb hm h0 hold hsz hc h1
          go_enter Try.func12, Try.ntmps12
          go_wp2_with (go_at_call 32; with_reducible refine HC.mono ?_; rintro x w1 ⟨rfl, hb1⟩)
          go_ret2
          exact ⟨rfl, HB.out _ hb1⟩
      · by_cases h3 : kd = 3
        · subst h3
          rw [cnt_kin h0]
          by_cases hc : old ≤ size ∧ S = []
          · rw [if_pos hc]
            obtain ⟨hc1, rfl⟩ := hc
            have HC := ckin_yes W 3 k old size sa sc d h0.2.2 hc1
            rw [List.length_nil] at *
            generalize (cov 0 old).length + (cov old size).length = cc at *
            clear rs rs' h6 hb hm h0 hold hsz hc1 h1 h2
            go_enter Try.func12, Try.ntmps12
            go_wp2_with (go_at_call 33; with_reducible refine HC.mono ?_; rintro x w1 ⟨rfl, hb1⟩)
            go_ret2
            exact ⟨rfl, HB.out _ hb1⟩
          · rw [if_neg hc]
            have HC := ckin_no W 3 k old size sa sc S d h0.2.2 hm (by rintro ⟨a, b⟩; exact hc ⟨a, List.length_eq_zero_iff.1 b⟩)
            generalize S.length = m at *
            clear rs rs' h6 hb hm h0 hold hsz hc h1 h2
            go_enter Try.func12, Try.ntmps12
            go_wp2_with (go_at_call 33; with_reducible refine HC.mono ?_; rintro x w1 ⟨rfl, hb1⟩)
            go_ret2
            exact ⟨rfl, HB.out _ hb1⟩
        · rw [cnt_other h1 h2 h3]
          generalize S.length = m at *
          clear rs rs' h6 hb hm h0 hold hsz
          go_enter Try.func12, Try.ntmps12
          go_wp2
          go_ret2
          exact ⟨rfl, HBW.out⟩
  · rw [cnt_off h0]
    clear hm0
    generalize S.length = m at *
    by_cases hk1 : k < 1
    · clear rs rs' h6 hb h0 hold hsz
      go_enter Try.func12, Try.ntmps12
      go_wp2
      go_ret2
      exact ⟨rfl, HBW.out⟩
    · by_cases hk2 : 32 < k
      · clear rs rs' h6 hb h0 hold hsz
        go_enter Try.func12, Try.ntmps12
        go_wp2
        go_ret2
        exact ⟨rfl, HBW.out⟩
      · have hk3 : (1099511627776 : Int) < (size : Int) := by omega
        clear rs rs' h6 hb h0 hold hsz
        go_enter Try.func12, Try.ntmps12
        go_wp2
        go_ret2
        exact ⟨rfl, HBW.out⟩
end
end Go.Proofs.Ytelglfmppmdmoaa
