/-
  Walks of package codec: Count of a path. Own work.
-/
import Derived.Test.YtelglfmppmdmoaaDWalkD
namespace Go.Proofs.Ytelglfmppmdmoaa
open Go.RowKit
open Cv (rst cov errS)
attribute [local go_sem ↓] Go.wp_at_zero Go.wp_at_succ
section
variable (w : World) (kd k : Int) (old size : Nat) (sa : Option Addr) (sb so sc : Nat) (S : List Nat) (d : Value)
set_option maxRecDepth 100000 in
theorem cpath_yes (hn : size ≤ 2 ^ 40) (rs : RdU w sa sb so S.length S) (h2 : S.length = 1) (h3 : S.getD 0 0 < size) :
    Calls Try.prog 31 #[pv6 kd k 0 size (.slice sa S.length sc) d] w fun e w' => e = .returned (.tuple #[.int .u64 ((rst 0 size S).length : Nat), .int .i64 0]) ∧ Below w.heap.size w w' := by
  obtain ⟨i, rfl⟩ := List.length_eq_one_iff.1 h2
  have hp := rs.ptr (by simp)
  subst hp
  rw [show [i].getD 0 0 = i from rfl] at h3
  obtain ⟨H, g1, g2, g3, g4⟩ := path_cnt hn h3
  obtain ⟨W, hW, h6, hb, hz⟩ := box6 w (.int .i64 kd) (.int .i64 k) (.int .u64 0) (.int .u64 (size : Int)) (.slice (some ⟨sb, so, none⟩) 1 sc) d
  obtain ⟨e0, e1, e2, e3, e4, e5⟩ := h6.cells
  have HB : Hid (Below w.heap.size w W) := hb
  have hc : W.cell? ⟨sb, so, none⟩ = some (.int .u64 (i : Int)) := by
    have := (rs.next hb).at (j := 0) (by simp)
    rw [Nat.add_zero] at this
    exact this
  have hx := u64_xor_nat size i (by omega) (by omega)
  have h41 : (2 : Nat) ^ (H + 1) ≤ 2 ^ 41 := Nat.pow_le_pow_right (by decide) (by omega)
  have HL := fun W' => log_at (size ^^^ i) H W' (by omega) g2 g3
  clear h41 g2 g3
  have HO := fun W' => Pl.ones_any size W' (by omega)
  have ho : Pl.ones 64 size ≤ 64 := Pl.ones_le 64 size
  obtain ⟨c, hcn⟩ : ∃ c, (rst 0 size [i]).length = c := ⟨_, rfl⟩
  rw [hcn] at g1 ⊢
  have hq0 : 0 < Pl.ones 64 size := by
    rw [← Cv.cov_ones size hn]
    cases hz : cov 0 size with
    | nil =>
      have ht := Cv.cov_til 0 size (Nat.zero_le _) hn
      rw [hz] at ht
      exact absurd ⟨Nat.zero_le _, h3⟩ (ht.2 i (Nat.zero_le _) h3)
    | cons b r => simp
  generalize Pl.ones 64 size = q at *
  have h3' : decide ((size : Int) ≤ (i : Int)) = false := decide_eq_false (by omega)
  have h3n : ¬ size ≤ i := by omega
  obtain ⟨q', rfl⟩ : ∃ q', q = q' + 1 := ⟨q - 1, by omega⟩
  have eq : ((q' + 1 : Nat) : Int) - 1 = (q' : Int) := by omega
  have hq' : (q' : Int) ≤ 64 := by omega
  have hH' : (H : Int) ≤ 40 := by omega
  have hq2 : q' ≤ 100 := by omega
  have hc2 : c ≤ 1000 ∧ H + q' = c := by omega
  have HCc : Hid ((H : Int) + (q' : Int) = (c : Int)) := (by omega : (H : Int) + (q' : Int) = (c : Int))
  have hH2 : H ≤ 100 := by omega
  have ew := one_i q' hq2
  have ew2 := sum_i H q' hH2 hq2
  clear hq2 hc2 g1 hH2
  have HB6 : Hid (∀ n, Six (W.drewN n) w.heap.size (.int .i64 kd) (.int .i64 k) (.int .u64 0) (.int .u64 (size : Int)) (.slice (some ⟨sb, so, none⟩) 1 sc) d ∧ (W.drewN n).cell? ⟨sb, so, none⟩ = some (.int .u64 (i : Int)) ∧ Below w.heap.size w (W.drewN n)) := fun n => ⟨h6.next (below_drewN (Below.refl _ _) n), ((below_drewN (Below.refl W.heap.size W) n).cell (World.block_lt_of_cell? W _ hc)).trans hc, below_drewN hb n⟩
  clear rs hn h2 h3 g4 h6 hb ho hcn hq0
  go_enter Try.func31, Try.ntmps31
  go_upto_region 1 with (fail)
  try rw [hW]
  clear hW
  go_quiet (fail)
  go_upto_region 3 with (fail)
  have k0 := HB6.out nq
  obtain ⟨W2, hW2⟩ : ∃ W2, W.drewN nq = W2 := ⟨_, rfl⟩
  try rw [hW2]
  rw [hW2] at k0
  clear hW2 e0 e1 e2 e3 e4 e5 hc
  obtain ⟨k0, hc, HW⟩ := k0
  obtain ⟨e0, e1, e2, e3, e4, e5⟩ := k0.cells
  have HW := hide HW
  go_quiet ((go_at_call 46; refine Calls.quiet_of_same (HL _)))
  go_wp2_with (go_at_call 57; with_reducible refine (HO _).mono ?_; rintro x w2 ⟨rfl, rfl⟩)
  go_ret2
  refine ⟨?_, below_drewN HW.out _⟩
  show Ending.returned (.tuple #[.int .u64 ((H : Int) + (q' : Int)), .int .i64 0]) = _
  rw [HCc.out]
end
end Go.Proofs.Ytelglfmppmdmoaa
