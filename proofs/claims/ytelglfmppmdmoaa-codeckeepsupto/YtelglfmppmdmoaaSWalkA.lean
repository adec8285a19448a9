/-
  Walks of the reference: Same. Own work.
-/
import Derived.Test.YtelglfmppmdmoaaEWalkD
namespace Go.Proofs.Ytelglfmppmdmoaa
open Go.RowKit
attribute [local go_sem ↓] Go.wp_at_zero Go.wp_at_succ
set_option maxRecDepth 100000 in
set_option maxHeartbeats 4000000 in
theorem same_yes (w : World) (sa : Option Addr) (sb so sc : Nat) (da : Option Addr) (db dO dc : Nat) (ca : Option Addr) (cb co cc : Nat) (ea : Option Addr) (eb eO ec : Nat) (P : PV) (h1 : RdP w sa sb so sc da db dO dc P) (h2 : RdP w ca cb co cc ea eb eO ec P) :
    Calls Try.prog 13 #[pvP P sa sc da dc, pvP P ca cc ea ec] w fun e w' => e = .returned (.bool true) ∧ Below w.heap.size w w' := by
  obtain ⟨kd, k, old, size, S, D⟩ := P
  obtain ⟨u1, r1, _, _, hS, hD, _⟩ := h1
  obtain ⟨u2, r2, _, _, _, _, _⟩ := h2
  simp only at u1 u2 r1 r2 hS hD
  show Calls Try.prog 13 #[pv6 kd k old size (.slice sa S.length sc) (.slice da D.length dc), pv6 kd k old size (.slice ca S.length cc) (.slice ea D.length ec)] w _
  obtain ⟨W0, hW0⟩ : ∃ W0, (w.alloc (.cells #[.int .i64 kd, .int .i64 k, .int .u64 (old : Int), .int .u64 (size : Int), .slice sa S.length sc, .slice da D.length dc] 26)).alloc (.cells #[.int .i64 kd, .int .i64 k, .int .u64 (old : Int), .int .u64 (size : Int), .slice ca S.length cc, .slice ea D.length ec] 26) = W0 := ⟨_, rfl⟩
  have hb : Below w.heap.size w W0 := by rw [← hW0]; exact bal (bal (Below.refl _ _) _) _
  have h6 : Six W0 w.heap.size (.int .i64 kd) (.int .i64 k) (.int .u64 (old : Int)) (.int .u64 (size : Int)) (.slice sa S.length sc) (.slice da D.length dc) := by rw [← hW0]; exact (six_new w _ _ _ _ _ _).next (bal (Below.refl _ _) _)
  have h7 : Six W0 (w.heap.size + 1) (.int .i64 kd) (.int .i64 k) (.int .u64 (old : Int)) (.int .u64 (size : Int)) (.slice ca S.length cc) (.slice ea D.length ec) := by
    rw [← hW0]
    have := six_new (w.alloc (.cells #[.int .i64 kd, .int .i64 k, .int .u64 (old : Int), .int .u64 (size : Int), .slice sa S.length sc, .slice da D.length dc] 26)) (.int .i64 kd) (.int .i64 k) (.int .u64 (old : Int)) (.int .u64 (size : Int)) (.slice ca S.length cc) (.slice ea D.length ec)
    rwa [World.size_alloc] at this
  have HX : Hid (∀ W, Below W0.heap.size W0 W → Six W w.heap.size (.int .i64 kd) (.int .i64 k) (.int .u64 (old : Int)) (.int .u64 (size : Int)) (.slice sa S.length sc) (.slice da D.length dc) ∧ Six W (w.heap.size + 1) (.int .i64 kd) (.int .i64 k) (.int .u64 (old : Int)) (.int .u64 (size : Int)) (.slice ca S.length cc) (.slice ea D.length ec) ∧ RdU W sa sb so S.length S ∧ RdU W ca cb co S.length S ∧ RdS W da db dO D.length D ∧ RdS W ea eb eO D.length D ∧ Below w.heap.size w W) := fun W hW =>
    ⟨h6.next hW, h7.next hW, u1.next (bnext hb hW), u2.next (bnext hb hW), r1.next (bnext hb hW) (Nat.le_refl _), r2.next (bnext hb hW) (Nat.le_refl _), bnext hb hW⟩
  obtain ⟨a0, a1, a2, a3, a4, a5⟩ := h6.cells
  obtain ⟨b0, b1, b2, b3, b4, b5⟩ := h7.cells
  have hS1 : (S.length : Int) ≤ 17592186044416 := by omega
  have hD1 : (D.length : Int) ≤ 8796093022208 := by omega
  have f1 := bne_self_eq_false kd
  have f2 := bne_self_eq_false k
  clear u1 u2 r1 r2 h6 h7 hb hS hD
  go_enter Try.func13, Try.ntmps13
  go_upto_region 1 with (fail)
  try rw [hW0]
  clear hW0
  go_wp2
  go_loopg [5] S.length (fun gk i wr => ∃ j : Nat, j ≤ S.length ∧ gk = S.length - j ∧ i = .int .i64 (j : Int) ∧ Hid (Below W0.heap.size W0 wr))
  case atStart =>
    go_light
    exact ⟨0, Nat.zero_le _, rfl, rfl, Below.refl _ _⟩
  case round =>
    clear a0 a1 a2 a3 a4 a5 b0 b1 b2 b3 b4 b5
    obtain ⟨j, hj, rfl, rfl, HI⟩ := hrel
    obtain ⟨x6, x7, v1, v2, _, _, hbw⟩ := HX.out wr HI.out
    obtain ⟨_, _, _, _, a4, a5⟩ := x6.cells
    obtain ⟨_, _, _, _, b4, b5⟩ := x7.cells
    have hj0 : (0 : Int) ≤ (j : Int) := Int.natCast_nonneg _
    by_cases hlt : j < S.length
    · have hlt' : (j : Int) < (S.length : Int) := by omega
      obtain rfl := v1.ptr (by omega)
      obtain rfl := v2.ptr (by omega)
      have c1 := v1.at (j := j) hlt
      have c2 := v2.at (j := j) hlt
      generalize S.getD j 0 = i at *
      have fi := bne_self_eq_false (i : Int)
      clear x6 x7 v1 v2 hbw
      go_wp2
      go_quiet (fail)
      go_wp2
      go_roundg (S.length - (j + 1))
      case rel =>
        go_light
        exact ⟨j + 1, hlt, rfl, by go_num, below_drewN HI.out _⟩
      case measure => go_light; omega
    · obtain hje : j = S.length := by omega
      have hlt' : ¬ (j : Int) < (S.length : Int) := by omega
      clear x6 x7 v1 v2 hbw
      go_wp2
      clear hlt hlt' a4 a5 b4 b5
      go_loopg [6] D.length (fun gk i wr2 => ∃ j : Nat, j ≤ D.length ∧ gk = D.length - j ∧ i = .int .i64 (j : Int) ∧ Hid (Below W0.heap.size W0 wr2))
      case atStart =>
        go_light
        exact ⟨0, Nat.zero_le _, rfl, rfl, HI.out⟩
      case round =>
        obtain ⟨n, hn, rfl, rfl, HI2⟩ := hrel
        obtain ⟨x6, x7, _, _, v1, v2, hbw⟩ := HX.out wr HI2.out
        obtain ⟨_, _, _, _, a4, a5⟩ := x6.cells
        obtain ⟨_, _, _, _, b4, b5⟩ := x7.cells
        have hn0 : (0 : Int) ≤ (n : Int) := Int.natCast_nonneg _
        by_cases hlt : n < D.length
        · have hlt' : (n : Int) < (D.length : Int) := by omega
          obtain rfl := v1.ptr (by omega)
          obtain rfl := v2.ptr (by omega)
          have c1 := v1.at (k := n) hlt
          have c2 := v2.at (k := n) hlt
          generalize D.getD n ByteArray.empty = i at *
          clear x6 x7 v1 v2 hbw
          go_wp2
          go_quiet (fail)
          go_wp2
          go_roundg (D.length - (n + 1))
          case rel =>
            go_light
            exact ⟨n + 1, hlt, rfl, by go_num, below_drewN HI2.out _⟩
          case measure => go_light; omega
        · have hlt' : ¬ (n : Int) < (D.length : Int) := by omega
          have HB := hide hbw
          clear x6 x7 v1 v2 hbw
          go_wp2
          go_ret
          exact ⟨rfl, HB.out⟩
end Go.Proofs.Ytelglfmppmdmoaa
