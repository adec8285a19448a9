/-
  Walks of the reference of layer 1: Big. Own work.
-/
import Derived.Test.YtabdobdopcfllaaDoorShRefB
namespace Go.Proofs.YtabdobdopcfllaaDoor
open Go.RowKit
attribute [local go_sem ↓] Go.wp_at_zero Go.wp_at_succ
/-- n's last j bytes, the highest first. -/
def tl (n : Int) : Nat → List Int
  | 0 => []
  | j + 1 => (n / 256 ^ j % 256) :: tl n j
theorem tl_len (n : Int) (j : Nat) : (tl n j).length = j := by
  induction j with
  | zero => rfl
  | succ j ih => simp [tl, ih]
theorem tl_bytes (n : Int) (j : Nat) : Bytes (tl n j) := by
  induction j with
  | zero => intro x hx; cases hx
  | succ j ih =>
    intro x hx
    rcases List.mem_cons.1 hx with rfl | hx
    · omega
    · exact ih x hx
structure Bg (w wr : World) (l : List Int) (K : Nat) : Prop where
  len : l.length = K
  below : Below w.heap.size w wr
  out : wr.rangeAt w.heap.size 0 (cB l)
  outt : wr.there w.heap.size 0 K
theorem Bg.set {w wr : World} {l : List Int} {K : Nat} (h : Bg w wr l K) (m : Nat) (v : Int) : Bg w (wr.setCell ⟨w.heap.size, m, none⟩ (.int .u8 v)) (l.set m v) K := by
  refine ⟨by rw [List.length_set]; exact h.len, h.below.setCell (Nat.le_refl _) _, ?_, there_set h.outt _ _⟩
  have := range_set h.out m (.int .u8 v)
  rwa [Nat.zero_add, cB_set] at this
theorem rep_set (K j : Nat) (n v : Int) (h : j < K) : (List.replicate (K - j) 0 ++ tl n j).set (K - 1 - j) v = List.replicate (K - (j + 1)) 0 ++ v :: tl n j := by
  obtain ⟨m, rfl⟩ : ∃ m, K = j + 1 + m := ⟨K - (j + 1), by omega⟩
  rw [show j + 1 + m - j = m + 1 by omega, show j + 1 + m - 1 - j = m by omega, show j + 1 + m - (j + 1) = m by omega, List.replicate_succ', List.append_assoc, List.set_append_right _ _ (by simp)]
  simp
theorem conv_strK (w : World) (b K : Nat) (l : List Int) (hl : l.length = K) (h : w.rangeAt b 0 (cB l)) : (convert 30 9 (.slice (some ⟨b, 0, none⟩) K K)).run Tryd.prog w = .ok (.string (strB l)) w := conv_str w b l K hl h
set_option maxHeartbeats 1000000 in
set_option maxRecDepth 100000 in
theorem big_gen (n : Int) (h0 : 0 ≤ n) (h64 : n < 18446744073709551616) (K : Nat) (hK : K ≤ 8)
    (hmk : ∀ u : World, (Instr.makeSlice 30 (.int .i64 (K : Int)) (.int .i64 (K : Int))).run Tryd.prog u = .ok (.slice (some ⟨u.heap.size, 0, none⟩) K K) (u.alloc (.cells (cB (List.replicate K 0)).toArray 5))) (w : World) :
    Calls Tryd.prog 89 #[.int .u64 n, .int .i64 (K : Int)] w fun e w' => e = .returned (.string (strB (tl n K))) ∧ Below w.heap.size w w' := by
  have hB0 : Bg w (w.alloc (.cells (cB (List.replicate K 0)).toArray 5)) (List.replicate K 0) K :=
    ⟨by simp, (Below.refl _ _).alloc (Nat.le_refl _) _, range_new _ _ _, there_new _ _ _ _ (by simp [cB_len])⟩
  have k0 : (0 : Int) ≤ (K : Int) := Int.natCast_nonneg _
  have k8 : (K : Int) ≤ 8 := by omega
  go_enter Tryd.func89, Tryd.ntmps89
  go_wp2
  generalize w.alloc (.cells (cB (List.replicate K 0)).toArray 5) = w1 at *
  clear hmk
  go_loopg [0, 6] K (fun g x i wr => ∃ j : Nat, j ≤ K ∧ g = K - j ∧ x = .int .u64 (n / 256 ^ j) ∧ i = .int .i64 ((K : Int) - 1 - (j : Int)) ∧ Bg w wr (List.replicate (K - j) 0 ++ tl n j) K)
  case atStart =>
    go_light
    refine ⟨0, Nat.zero_le _, rfl, ?_, ?_, ?_⟩
    · simp
    · simp
    · simpa [tl] using hB0
  case round =>
    clear hB0
    obtain ⟨j, hj, rfl, rfl, rfl, hs⟩ := hrel
    have hx0 : 0 ≤ n / 256 ^ j := Int.ediv_nonneg h0 (Int.pow_nonneg (by decide))
    have hx1 : n / 256 ^ j ≤ n := Int.ediv_le_self _ h0
    have hx2 : n / 256 ^ j < 18446744073709551616 := by omega
    by_cases hlt : j < K
    · obtain ⟨m, hm⟩ : ∃ m : Nat, j + m + 1 = K := ⟨K - 1 - j, by omega⟩
      have em : (K : Int) - 1 - (j : Int) = (m : Int) := by omega
      rw [em]
      have m0 : (0 : Int) ≤ (m : Int) := Int.natCast_nonneg _
      have mK : (m : Int) < (K : Int) := by omega
      have m8 : (m : Int) ≤ 8 := by omega
      have cm := cell_cB0 hs.out (i := m) (by rw [hs.len]; omega)
      have fm : wr.frozen? ⟨w.heap.size, m, none⟩ = false := by have := (hs.outt m (by omega)).2; rwa [Nat.zero_add] at this
      have HF : Hid (Bg w (wr.setCell ⟨w.heap.size, m, none⟩ (.int .u8 (n / 256 ^ j % 256))) (List.replicate (K - (j + 1)) 0 ++ tl n (j + 1)) K) := by
        have := hs.set m (n / 256 ^ j % 256)
        rwa [show m = K - 1 - j by omega, rep_set K j n _ hlt, ← show m = K - 1 - j by omega] at this
      have HD : Hid (n / 256 ^ j / 256 = n / 256 ^ (j + 1)) := by
        show _ = _
        rw [Int.pow_succ, Int.ediv_ediv_of_nonneg (Int.pow_nonneg (by decide))]
      have HM : Hid (j + m + 1 = K) := hm
      clear hs hm em
      generalize n / 256 ^ j = x at *
      generalize (List.replicate (K - j) 0 ++ tl n j).getD m 0 = z at *
      go_wp2
      go_roundg (K - (j + 1))
      case rel =>
        go_light
        refine ⟨j + 1, by omega, rfl, by rw [← HD.out], ?_, HF.out⟩
        have := HM.out; go_num
      case measure => go_light; omega
    · obtain rfl : j = K := by omega
      have em : (j : Int) - 1 - (j : Int) = -1 := by omega
      rw [em]
      have hs2 := hs.out
      rw [Nat.sub_self, List.replicate_zero, List.nil_append] at hs2
      have hcv := conv_strK wr w.heap.size j (tl n j) (tl_len _ _) hs2
      have HB : Hid (Below w.heap.size w wr) := hs.below
      clear hs hs2
      go_wp2
      go_ret
      exact ⟨rfl, HB.out⟩
theorem big8 (n : Int) (h0 : 0 ≤ n) (h64 : n < 18446744073709551616) (w : World) :
    Calls Tryd.prog 89 #[.int .u64 n, .int .i64 8] w fun e w' => e = .returned (.string (strB (tl n 8))) ∧ Below w.heap.size w w' := big_gen n h0 h64 8 (by decide) (fun u => by kernel_rfl) w
theorem big4 (n : Int) (h0 : 0 ≤ n) (h64 : n < 18446744073709551616) (w : World) :
    Calls Tryd.prog 89 #[.int .u64 n, .int .i64 4] w fun e w' => e = .returned (.string (strB (tl n 4))) ∧ Below w.heap.size w w' := big_gen n h0 h64 4 (by decide) (fun u => by kernel_rfl) w
end Go.Proofs.YtabdobdopcfllaaDoor
