/-
  Walks of the reference of codec: numbers. Own work.
-/
import Derived.Test.YtelglfmppmdmoaaSWalkA
namespace Go.Proofs.Ytelglfmppmdmoaa
open Cv Pl
open Go.RowKit
attribute [local go_sem ↓] Go.wp_at_zero Go.wp_at_succ
/-- The first j numbers rise and are small. -/
def OkN (size : Nat) (S : List Nat) (j : Nat) : Prop := ∀ i, i < j → S.getD i 0 < size ∧ (0 < i → S.getD (i - 1) 0 < S.getD i 0)
theorem okN_next {size j : Nat} {S : List Nat} (h : OkN size S j) (h1 : S.getD j 0 < size) (h2 : 0 < j → S.getD (j - 1) 0 < S.getD j 0) : OkN size S (j + 1) := by
  intro i hi
  by_cases e : i = j
  · subst e; exact ⟨h1, h2⟩
  · exact h i (by omega)
theorem errS_okN {size : Nat} {S : List Nat} (h : errS size S = 0) : OkN size S S.length := by
  obtain ⟨h1, h2, h3, h4⟩ := errS_ok h
  intro i hi
  have hc := chain_drop h4 i hi
  refine ⟨hc.1, fun h0 => hc.2.2 (i - 1) (by omega)⟩
theorem okN_errS {size : Nat} {S : List Nat} (hn : size ≤ 2 ^ 40) (h0 : 0 < S.length) (h : OkN size S S.length) : errS size S = 0 := by
  refine chain_inc (chain_of S 0 size (fun i hi => ?_) (fun _ => Nat.zero_le _) (fun hl => (h _ (by omega)).1) (Nat.zero_le _)) (fun e => by rw [e] at h0; exact absurd h0 (by decide)) hn
  have := (h (i + 1) hi).2 (by omega)
  simpa using this
theorem cnt_set {kd k : Int} {old size : Nat} {S : List Nat} (hk : 1 ≤ k ∧ k ≤ 32 ∧ size ≤ 2 ^ 40) (hkd : kd = 1 ∨ kd = 2) : (cnt kd k old size S).isSome = decide (old = 0 ∧ (kd = 1 → S.length = 1) ∧ errS size S = 0) := by
  rcases hkd with rfl | rfl
  · rw [cnt, if_pos hk, if_pos rfl]
    by_cases h : old = 0 ∧ S.length = 1 ∧ errS size S = 0
    · rw [if_pos h, decide_eq_true ⟨h.1, fun _ => h.2.1, h.2.2⟩]; rfl
    · rw [if_neg h, decide_eq_false (fun g => h ⟨g.1, g.2.1 rfl, g.2.2⟩)]; rfl
  · rw [cnt_batch hk]
    by_cases h : old = 0 ∧ errS size S = 0
    · rw [if_pos h, decide_eq_true ⟨h.1, fun e => absurd e (by decide), h.2⟩]; rfl
    · rw [if_neg h, decide_eq_false (fun g => h ⟨g.1, g.2.2⟩)]; rfl
theorem errS_nil {size : Nat} {S : List Nat} (h : errS size S = 0) : 0 < S.length := (errS_ok h).2.1.1
section
variable (w : World) (kd k : Int) (old size : Nat) (sa : Option Addr) (sb so sc : Nat) (S : List Nat) (dv : Value)
set_option maxRecDepth 100000 in
set_option maxHeartbeats 4000000 in
theorem rnumbers_any (rs : RdU w sa sb so S.length S) (hS : S.length ≤ 17592186044416) :
    Calls Try.prog 34 #[pv6 kd k old size (.slice sa S.length sc) dv] w fun e w' => e = .returned (.bool (cnt kd k old size S).isSome) ∧ Below w.heap.size w w' := by
  obtain ⟨W0, hW, h6, hb, hz⟩ := box6 w (.int .i64 kd) (.int .i64 k) (.int .u64 (old : Int)) (.int .u64 (size : Int)) (.slice sa S.length sc) dv
  have HX : Hid (∀ W, Below W0.heap.size W0 W → Six W w.heap.size (.int .i64 kd) (.int .i64 k) (.int .u64 (old : Int)) (.int .u64 (size : Int)) (.slice sa S.length sc) dv ∧ RdU W sa sb so S.length S ∧ Below w.heap.size w W) := fun W hw => ⟨h6.next hw, rs.next (bnext hb hw), bnext hb hw⟩
  obtain ⟨e0, e1, e2, e3, e4, e5⟩ := h6.cells
  have HB := hide hb
  have hS1 : (S.length : Int) ≤ 17592186044416 := by omega
  clear h6 hb hz rs
  show Calls Try.prog 34 #[pv6 kd k old size (.slice sa S.length sc) dv] w _
  by_cases hk0 : 1 ≤ kd ∧ kd ≤ 3 ∧ 1 ≤ k ∧ k ≤ 32 ∧ size ≤ 1099511627776
  rotate_left
  · have hno : (cnt kd k old size S).isSome = false := by
      by_cases h1 : kd = 1 ∨ kd = 2 ∨ kd = 3
      · rw [cnt_off (by have : (2:Nat) ^ 40 = 1099511627776 := by decide
                        omega)]; rfl
      · rw [cnt_other (by omega) (by omega) (by omega)]; rfl
    rw [hno]
    clear hno HX
    have hc : kd < 1 ∨ (¬ kd < 1 ∧ kd > 3) ∨ (¬ kd < 1 ∧ ¬ kd > 3 ∧ k < 1) ∨ (¬ kd < 1 ∧ ¬ kd > 3 ∧ ¬ k < 1 ∧ k > 32) ∨ (¬ kd < 1 ∧ ¬ kd > 3 ∧ ¬ k < 1 ∧ ¬ k > 32 ∧ (size : Int) > 1099511627776) := by omega
    clear hk0
    rcases hc with g1 | ⟨g1, g2⟩ | ⟨g1, g2, g3⟩ | ⟨g1, g2, g3, g4⟩ | ⟨g1, g2, g3, g4, g5⟩ <;>
    · go_enter Try.func34, Try.ntmps34
      go_upto_region 1 with (fail)
      try rw [hW]
      clear hW
      go_wp2
      go_ret
      exact ⟨rfl, HB.out⟩
  have g1 : ¬ kd < 1 := by omega
  have g2 : ¬ kd > 3 := by omega
  have g3 : ¬ k < 1 := by omega
  have g4 : ¬ k > 32 := by omega
  have g5 : ¬ (size : Int) > 1099511627776 := by omega
  have hk : 1 ≤ k ∧ k ≤ 32 ∧ size ≤ 2 ^ 40 := ⟨hk0.2.2.1, hk0.2.2.2.1, hk0.2.2.2.2⟩
  by_cases h3 : kd = 3
  · subst h3
    by_cases h4 : S.length = 0
    · have hS0 : S = [] := List.eq_nil_of_length_eq_zero h4
      have h4' : ((S.length : Int) == 0) = true := beq_iff_eq.2 (by omega)
      by_cases h5 : old ≤ size
      · rw [cnt_kin hk, if_pos ⟨h5, hS0⟩]
        have h5' : (old : Int) ≤ (size : Int) := by omega
        clear hk hk0 hS0 h4 h5 HX
        generalize S.length = ms at *
        go_enter Try.func34, Try.ntmps34
        go_upto_region 1 with (fail)
        try rw [hW]
        clear hW
        go_wp2
        go_ret
        exact ⟨rfl, HB.out⟩
      · rw [cnt_kin hk, if_neg (fun h => h5 h.1)]
        have h5' : ¬ (old : Int) ≤ (size : Int) := by omega
        clear hk hk0 hS0 h4 h5 HX
        generalize S.length = ms at *
        go_enter Try.func34, Try.ntmps34
        go_upto_region 1 with (fail)
        try rw [hW]
        clear hW
        go_wp2
        go_ret
        exact ⟨rfl, HB.out⟩
    · rw [cnt_kin hk, if_neg (fun h => h4 (by rw [h.2]; rfl))]
      have h4' : ((S.length : Int) == 0) = false := beq_eq_false_iff_ne.2 (by omega)
      clear hk hk0 h4 HX
      generalize S.length = ms at *
      go_enter Try.func34, Try.ntmps34
      go_upto_region 1 with (fail)
      try rw [hW]
      clear hW
      go_wp2
      go_ret
      exact ⟨rfl, HB.out⟩
  have hkd : kd = 1 ∨ kd = 2 := by omega
  have f3 : (kd == 3) = false := beq_eq_false_iff_ne.2 h3
  rw [cnt_set hk hkd]
  by_cases h4 : old = 0
  rotate_left
  · rw [decide_eq_false (fun h => h4 h.1)]
    have h4' : ((old : Int) != 0) = true := bne_iff_ne.2 (by omega)
    clear hk hk0 h4 HX hkd h3
    go_enter Try.func34, Try.ntmps34
    go_upto_region 1 with (fail)
    try rw [hW]
    clear hW
    go_wp2
    go_ret
    exact ⟨rfl, HB.out⟩
  subst h4
  have hz0 : ((0 : Nat) : Int) = 0 := rfl
  rw [hz0] at hW e2
  clear hz0
  by_cases h5 : S.length = 0
  · rw [decide_eq_false (fun h => by have := errS_nil h.2.2; omega)]
    have h5' : ((S.length : Int) == 0) = true := beq_iff_eq.2 (by omega)
    clear hk hk0 h5 HX hkd h3
    generalize S.length = ms at *
    go_enter Try.func34, Try.ntmps34
    go_upto_region 1 with (fail)
    try rw [hW]
    clear hW
    go_wp2
    go_ret
    exact ⟨rfl, HB.out⟩
  have h5' : ((S.length : Int) == 0) = false := beq_eq_false_iff_ne.2 (by omega)
  by_cases h6 : kd = 1 ∧ S.length ≠ 1
  · obtain ⟨rfl, h6⟩ := h6
    rw [decide_eq_false (fun h => h6 (h.2.1 rfl))]
    have h6' : ((S.length : Int) != 1) = true := bne_iff_ne.2 (by omega)
    clear hk hk0 h5 HX hkd h3 h6
    generalize S.length = ms at *
    go_enter Try.func34, Try.ntmps34
    go_upto_region 1 with (fail)
    try rw [hW]
    clear hW
    go_wp2
    go_ret
    exact ⟨rfl, HB.out⟩
  have hq : kd = 1 → S.length = 1 := fun h => by
    by_cases h7 : S.length = 1
    · exact h7
    · exact absurd ⟨h, h7⟩ h6
  have HE : Hid ((OkN size S S.length → decide (0 = 0 ∧ (kd = 1 → S.length = 1) ∧ errS size S = 0) = true) ∧ (¬ OkN size S S.length → decide (0 = 0 ∧ (kd = 1 → S.length = 1) ∧ errS size S = 0) = false)) := ⟨fun h => decide_eq_true ⟨rfl, hq, okN_errS hk.2.2 (by omega) h⟩, fun h => decide_eq_false (fun g => h (errS_okN g.2.2))⟩
  generalize decide (0 = 0 ∧ (kd = 1 → S.length = 1) ∧ errS size S = 0) = ans at *
  have hc : ((kd == 1) = true ∧ ((S.length : Int) != 1) = false) ∨ (kd == 1) = false := by
    rcases hkd with h | h
    · exact .inl ⟨beq_iff_eq.2 h, bne_eq_false_iff_eq.2 (by have := hq h; omega)⟩
    · exact .inr (beq_eq_false_iff_ne.2 (by omega))
  clear hk hk0 h5 hkd h3 h6 hq
  rcases hc with ⟨hc1, hc2⟩ | hc1 <;>
  · go_enter Try.func34, Try.ntmps34
    go_upto_region 1 with (fail)
    try rw [hW]
    clear hW
    go_wp2
    clear e0 e1 e2 e3 e4 e5
    go_loopg [3] S.length (fun gk i wr => ∃ j : Nat, j ≤ S.length ∧ gk = S.length - j ∧ i = .int .i64 (j : Int) ∧ Hid (OkN size S j) ∧ Hid (Below W0.heap.size W0 wr))
    case atStart =>
      go_light
      exact ⟨0, Nat.zero_le _, rfl, rfl, (show OkN size S 0 from fun i hi => absurd hi (by omega)), Below.refl _ _⟩
    case round =>
      obtain ⟨j, hj, rfl, rfl, HK, HI⟩ := hrel
      obtain ⟨x6, v1, hbw⟩ := HX.out wr HI.out
      obtain ⟨_, _, _, e3, e4, _⟩ := x6.cells
      have hj0 : (0 : Int) ≤ (j : Int) := Int.natCast_nonneg _
      have HB2 := hide hbw
      clear hbw x6
      by_cases hlt : j < S.length
      · have hlt' : (j : Int) < (S.length : Int) := by omega
        obtain rfl := v1.ptr (by omega)
        have c1 := v1.at (j := j) hlt
        obtain ⟨x, hx⟩ : ∃ x, S.getD j 0 = x := ⟨_, rfl⟩
        rw [hx] at c1
        by_cases b1 : x < size
        rotate_left
        · have b1p : (size : Int) ≤ (x : Int) := by omega
          have HN : Hid (ans = false) := HE.out.2 (fun h => b1 (hx ▸ (h j hlt).1))
          clear b1 hx v1
          go_wp2
          have b1' : decide ((size : Int) ≤ (x : Int)) = true := decide_eq_true (by omega)
          have b1n : decide (size ≤ x) = true := decide_eq_true (by omega)
          go_quiet (fail)
          go_wp2
          go_ret
          exact ⟨by rw [HN.out]; try rfl, below_drewN HB2.out _⟩
        have b1p : (x : Int) < (size : Int) := by omega
        by_cases j1 : j = 0
        · have j2p : (j : Int) ≤ 0 := by omega
          have HK2 : Hid (OkN size S (j + 1)) := okN_next HK.out (hx ▸ b1) (fun h => absurd h (by omega))
          clear b1 hx v1 HK j1
          go_wp2
          have b1' : decide ((size : Int) ≤ (x : Int)) = false := decide_eq_false (by omega)
          have b1n : decide (size ≤ x) = false := decide_eq_false (by omega)
          have j2 : decide ((0 : Int) < (j : Int)) = false := decide_eq_false (by omega)
          have j2n : decide (0 < j) = false := decide_eq_false (by omega)
          go_quiet (fail)
          go_wp2
          go_roundg (S.length - (j + 1))
          case rel =>
            go_light
            exact ⟨j + 1, hlt, rfl, by go_num, HK2, below_drewN HI.out _⟩
          case measure => go_light; omega
        · obtain ⟨t, rfl⟩ : ∃ t, j = t + 1 := ⟨j - 1, by omega⟩
          have c2 := v1.at (j := t) (by omega)
          obtain ⟨y, hy⟩ : ∃ y, S.getD t 0 = y := ⟨_, rfl⟩
          rw [hy] at c2
          have j2p : (0 : Int) < ((t + 1 : Nat) : Int) := by omega
          have et : ((t + 1 : Nat) : Int) - 1 = (t : Int) := by omega
          have et1 : (t : Int) < (S.length : Int) := by omega
          have et0 : (0 : Int) ≤ (t : Int) := Int.natCast_nonneg _
          have ht1 : t ≤ 17592186044416 := by omega
          by_cases b2 : y < x
          · have b2p : (y : Int) < (x : Int) := by omega
            have HK2 : Hid (OkN size S (t + 1 + 1)) := okN_next HK.out (hx ▸ b1) (fun _ => by rw [Nat.add_sub_cancel, hx, hy]; exact b2)
            clear b1 hx hy v1 HK b2
            go_wp2
            have b1' : decide ((size : Int) ≤ (x : Int)) = false := decide_eq_false (by omega)
            have b1n : decide (size ≤ x) = false := decide_eq_false (by omega)
            have j2 : decide ((0 : Int) < ((t + 1 : Nat) : Int)) = true := decide_eq_true (by omega)
            have j2n : decide (0 < t + 1) = true := decide_eq_true (by omega)
            have j2m : decide ((0 : Int) < (t : Int) + 1) = true := decide_eq_true (by omega)
            have b2' : decide ((x : Int) ≤ (y : Int)) = false := decide_eq_false (by omega)
            have b2n : decide (x ≤ y) = false := decide_eq_false (by omega)
            go_quiet (fail)
            go_wp2
            go_roundg (S.length - (t + 1 + 1))
            case rel =>
              go_light
              exact ⟨t + 1 + 1, hlt, rfl, by go_num, HK2, below_drewN HI.out _⟩
            case measure => go_light; omega
          · have b2p : (x : Int) ≤ (y : Int) := by omega
            have HN : Hid (ans = false) := HE.out.2 (fun h => b2 (by have := (h (t + 1) hlt).2 (by omega); rwa [Nat.add_sub_cancel, hx, hy] at this))
            clear b1 hx hy v1 HK b2
            go_wp2
            have b1' : decide ((size : Int) ≤ (x : Int)) = false := decide_eq_false (by omega)
            have b1n : decide (size ≤ x) = false := decide_eq_false (by omega)
            have j2 : decide ((0 : Int) < ((t + 1 : Nat) : Int)) = true := decide_eq_true (by omega)
            have j2n : decide (0 < t + 1) = true := decide_eq_true (by omega)
            have j2m : decide ((0 : Int) < (t : Int) + 1) = true := decide_eq_true (by omega)
            have b2' : decide ((x : Int) ≤ (y : Int)) = true := decide_eq_true (by omega)
            have b2n : decide (x ≤ y) = true := decide_eq_true (by omega)
            go_quiet (fail)
            go_wp2
            go_ret
            exact ⟨by rw [HN.out]; try rfl, below_drewN HB2.out _⟩
      · obtain hje : j = S.length := by omega
        have hlt' : ¬ (j : Int) < (S.length : Int) := by omega
        have HN : Hid (ans = true) := HE.out.1 (by rw [← hje]; exact HK.out)
        clear hje v1 HK
        go_wp2
        go_ret
        exact ⟨by rw [HN.out]; try rfl, HB2.out⟩
end
end Go.Proofs.Ytelglfmppmdmoaa
