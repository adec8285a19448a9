/-
  The reference's walks: Same, where two proofs are one. Own work.
-/
import Derived.Test.YtgmnolepaidiiaaDoorTRefA
import Derived.Test.YtgmnolepaidiiaaDoorTWalkE
namespace Go.Proofs.YtgmnolepaidiiaaDoor
open Go.RowKit
attribute [local go_sem ↓] Go.wp_at_zero Go.wp_at_succ
set_option maxRecDepth 100000 in
set_option maxHeartbeats 1000000 in
theorem refsame_yes (w : World) (kd k : Int) (old size : Nat) (sa : Option Addr) (sb so sc : Nat) (sa' : Option Addr) (sb' so' sc' : Nat) (S : List Nat) (u1 : RdU w sa sb so S.length S) (u2 : RdU w sa' sb' so' S.length S) (hS : S.length ≤ 4611686018427387904) (da : Option Addr) (db dO dc : Nat) (da' : Option Addr) (db' dO' dc' : Nat) (D : List ByteArray) (d1 : RdS w da db dO D.length D) (d2 : RdS w da' db' dO' D.length D) (hD : D.length ≤ 4611686018427387904) :
    Calls Tryd.prog 11 #[.agg #[.int .i64 kd, .int .i64 k, .int .u64 (old : Int), .int .u64 (size : Int), .slice sa S.length sc, .slice da D.length dc], .agg #[.int .i64 kd, .int .i64 k, .int .u64 (old : Int), .int .u64 (size : Int), .slice sa' S.length sc', .slice da' D.length dc']] w fun e w' => e = .returned (.bool true) ∧ Below w.heap.size w w' := by
  obtain ⟨W0, hW0⟩ : ∃ W0, (w.alloc (.cells #[.int .i64 kd, .int .i64 k, .int .u64 (old : Int), .int .u64 (size : Int), .slice sa S.length sc, .slice da D.length dc] 26)).alloc (.cells #[.int .i64 kd, .int .i64 k, .int .u64 (old : Int), .int .u64 (size : Int), .slice sa' S.length sc', .slice da' D.length dc'] 26) = W0 := ⟨_, rfl⟩
  have hb : Below w.heap.size w W0 := by rw [← hW0]; exact bal (bal (Below.refl _ _) _) _
  have h6 : Six W0 w.heap.size (.int .i64 kd) (.int .i64 k) (.int .u64 (old : Int)) (.int .u64 (size : Int)) (.slice sa S.length sc) (.slice da D.length dc) := by rw [← hW0]; exact (six_new w _ _ _ _ _ _).next (bal (Below.refl _ _) _)
  have h7 : Six W0 (w.heap.size + 1) (.int .i64 kd) (.int .i64 k) (.int .u64 (old : Int)) (.int .u64 (size : Int)) (.slice sa' S.length sc') (.slice da' D.length dc') := by
    rw [← hW0]
    have := six_new (w.alloc (.cells #[.int .i64 kd, .int .i64 k, .int .u64 (old : Int), .int .u64 (size : Int), .slice sa S.length sc, .slice da D.length dc] 26)) (.int .i64 kd) (.int .i64 k) (.int .u64 (old : Int)) (.int .u64 (size : Int)) (.slice sa' S.length sc') (.slice da' D.length dc')
    rwa [World.size_alloc] at this
  have HS : Hid (∀ W, Below W0.heap.size W0 W → Six W w.heap.size (.int .i64 kd) (.int .i64 k) (.int .u64 (old : Int)) (.int .u64 (size : Int)) (.slice sa S.length sc) (.slice da D.length dc) ∧ Six W (w.heap.size + 1) (.int .i64 kd) (.int .i64 k) (.int .u64 (old : Int)) (.int .u64 (size : Int)) (.slice sa' S.length sc') (.slice da' D.length dc') ∧ RdU W sa sb so S.length S ∧ RdU W sa' sb' so' S.length S ∧ RdS W da db dO D.length D ∧ RdS W da' db' dO' D.length D ∧ Below w.heap.size w W) := fun W hW =>
    ⟨h6.next hW, h7.next hW, u1.next (bnext hb hW), u2.next (bnext hb hW), d1.next (bnext hb hW) (Nat.le_refl _), d2.next (bnext hb hW) (Nat.le_refl _), bnext hb hW⟩
  have hS63 : (S.length : Int) ≤ 4611686018427387904 := by omega
  have hD63 : (D.length : Int) ≤ 4611686018427387904 := by omega
  obtain ⟨e0, e1, e2, e3, e4, e5⟩ := h6.cells
  obtain ⟨k0, k1, k2, k3, k4, k5⟩ := h7.cells
  clear u1 u2 d1 d2 h6 h7 hb
  go_enter Tryd.func11, Tryd.ntmps11
  go_upto_region 1 with (fail)
  try rw [hW0]
  clear hW0
  go_wp2
  go_loopg [5] S.length (fun g x wr => ∃ j : Nat, j ≤ S.length ∧ g = S.length - j ∧ x = .int .i64 (j : Int) ∧ Below W0.heap.size W0 wr)
  case atStart =>
    go_light
    exact ⟨0, Nat.zero_le _, rfl, rfl, Below.refl _ _⟩
  case round =>
    clear e0 e1 e2 e3 e4 e5 k0 k1 k2 k3 k4 k5
    obtain ⟨j, hj, rfl, rfl, hb⟩ := hrel
    obtain ⟨s1, s2, s3, s4, s5, s6, s7⟩ := HS.out wr hb
    obtain ⟨e0, e1, e2, e3, e4, e5⟩ := s1.cells
    obtain ⟨k0, k1, k2, k3, k4, k5⟩ := s2.cells
    have HB := hide hb
    by_cases hlt : j < S.length
    · have hz : (j : Int) < (S.length : Int) := by omega
      have hz0 : (0 : Int) ≤ (j : Int) := Int.natCast_nonneg _
      obtain rfl := s3.ptr (by omega)
      obtain rfl := s4.ptr (by omega)
      have c1 := s3.at hlt
      have c2 := s4.at hlt
      generalize S.getD j 0 = v at *
      clear s1 s2 s3 s4 s5 s6 s7 hb
      go_upto_region 6 with (fail)
      go_quiet (fail)
      go_wp2
      go_roundg (S.length - (j + 1))
      case rel =>
        go_light
        exact ⟨j + 1, by omega, rfl, by go_num, below_drewN HB.out _⟩
      case measure => go_light; omega
    · obtain rfl : j = S.length := by omega
      have hz : ¬ ((S.length : Int) < (S.length : Int)) := by omega
      clear s1 s2 s3 s4 s5 s6 s7 hb hlt
      generalize wr = wo at *
      clear wr
      go_wp2
      go_loopg [6] D.length (fun g x wr => ∃ j : Nat, j ≤ D.length ∧ g = D.length - j ∧ x = .int .i64 (j : Int) ∧ Below W0.heap.size W0 wr)
      case atStart =>
        go_light
        exact ⟨0, Nat.zero_le _, rfl, rfl, HB.out⟩
      case round =>
        clear e0 e1 e2 e3 e4 e5 k0 k1 k2 k3 k4 k5
        obtain ⟨j, hj, rfl, rfl, hb⟩ := hrel
        obtain ⟨s1, s2, s3, s4, s5, s6, s7⟩ := HS.out wr hb
        obtain ⟨e0, e1, e2, e3, e4, e5⟩ := s1.cells
        obtain ⟨k0, k1, k2, k3, k4, k5⟩ := s2.cells
        have HB := hide hb
        have HF := hide s7
        by_cases hlt : j < D.length
        · have hz : (j : Int) < (D.length : Int) := by omega
          have hz0 : (0 : Int) ≤ (j : Int) := Int.natCast_nonneg _
          obtain rfl := s5.ptr (by omega)
          obtain rfl := s6.ptr (by omega)
          have c1 := s5.at hlt
          have c2 := s6.at hlt
          generalize D.getD j ByteArray.empty = v at *
          clear s1 s2 s3 s4 s5 s6 s7 hb
          go_upto_region 11 with (fail)
          go_quiet (fail)
          go_wp2
          go_roundg (D.length - (j + 1))
          case rel =>
            go_light
            exact ⟨j + 1, by omega, rfl, by go_num, below_drewN HB.out _⟩
          case measure => go_light; omega
        · obtain rfl : j = D.length := by omega
          have hz : ¬ ((D.length : Int) < (D.length : Int)) := by omega
          clear s1 s2 s3 s4 s5 s6 s7 hb hlt
          go_wp2
          go_ret
          exact ⟨rfl, HF.out⟩
end Go.Proofs.YtgmnolepaidiiaaDoor
