/-
  Walks of the reference of codec: Well. Own work.
-/
import Derived.Test.YtelglfmppmdmoaaRWalkF
namespace Go.Proofs.Ytelglfmppmdmoaa
open Go.RowKit
attribute [local go_sem ↓] Go.wp_at_zero Go.wp_at_succ
section
variable (w : World) (sa : Option Addr) (sb so sc : Nat) (da : Option Addr) (db dO dc : Nat) (P : PV)
set_option maxRecDepth 100000 in
set_option maxHeartbeats 4000000 in
theorem rwell_any (hp : RdP w sa sb so sc da db dO dc P) :
    Calls Try.prog 14 #[pvP P sa sc da dc] w fun e w' => e = .returned (.bool (decide (Well P))) ∧ Below w.heap.size w w' := by
  obtain ⟨W, hW, h6, hb, _⟩ := box6 w (.int .i64 P.kd) (.int .i64 P.k) (.int .u64 (P.old : Int)) (.int .u64 (P.size : Int)) (.slice sa P.S.length sc) (.slice da P.D.length dc)
  have HC := rcount_any W P.kd P.k P.old P.size sa sb so sc P.S (.slice da P.D.length dc) (hp.rs.next hb) hp.mS
  have HX : Hid (∀ F, Below W.heap.size W F → Six F w.heap.size (.int .i64 P.kd) (.int .i64 P.k) (.int .u64 (P.old : Int)) (.int .u64 (P.size : Int)) (.slice sa P.S.length sc) (.slice da P.D.length dc) ∧ RdS F da db dO P.D.length P.D ∧ Below w.heap.size w F) := fun F hF => ⟨h6.next hF, (hp.next (bnext hb hF)).rd, bnext hb hF⟩
  obtain ⟨e0, e1, e2, e3, e4, e5⟩ := h6.cells
  have hm : P.D.length ≤ 8796093022208 := hp.mD
  have hm' : (P.D.length : Int) ≤ 8796093022208 := by omega
  have em : IntKind.u64.wrap (P.D.length : Int) = (P.D.length : Int) := by rw [IntKind.wrap_u64]; omega
  have HD0 : Hid (∀ c, cnt P.kd P.k P.old P.size P.S = some c → c = P.D.length → ∀ j, j < P.D.length → ((P.D.getD j ByteArray.empty).size : Int) ≠ P.k → decide (Well P) = false) := fun c h1 h2 j h3 h4 => decide_eq_false (well_no h3 h4)
  clear h6 hb hp hm
  simp only [pvP, pv6] at HC ⊢
  generalize hms : P.S.length = ms at *
  rcases hc : cnt P.kd P.k P.old P.size P.S with _ | c
  · have hno : decide (Well P) = false := decide_eq_false (fun h => by have := h.1; rw [hc] at this; cases this)
    rw [hno]
    rw [hc] at HC
    simp only [cV] at HC
    clear hno hc HD0
    generalize P.D.length = md at *
    go_enter Try.func14, Try.ntmps14
    go_wp2_with (go_at_call 16; (try rw [hW]); with_reducible refine HC.mono ?_; rintro x w1 ⟨rfl, hb1⟩; (obtain ⟨q1, q2, q3⟩ := HX.out _ hb1); (obtain ⟨k0, k1, k2, k3, k4, k5⟩ := q1.cells))
    go_ret
    exact ⟨rfl, q3⟩
  rw [hc] at HC
  simp only [cV] at HC
  by_cases hcd : c = P.D.length
  rotate_left
  · have hno : decide (Well P) = false := decide_eq_false (fun h => by have := h.1; rw [hc] at this; cases this; exact hcd rfl)
    rw [hno]
    have hne : ((c : Int) != (P.D.length : Int)) = true := bne_iff_ne.2 (by omega)
    clear hno hc HD0 hcd
    generalize P.D.length = md at *
    go_enter Try.func14, Try.ntmps14
    go_wp2_with (go_at_call 16; (try rw [hW]); with_reducible refine HC.mono ?_; rintro x w1 ⟨rfl, hb1⟩; (obtain ⟨q1, q2, q3⟩ := HX.out _ hb1); (obtain ⟨k0, k1, k2, k3, k4, k5⟩ := q1.cells))
    go_ret
    exact ⟨rfl, q3⟩
  have hne : ((P.D.length : Int) != (P.D.length : Int)) = false := bne_self_eq_false _
  have HC1 := HD0.out c hc hcd
  have HC2 : (∀ j, j < P.D.length → ((P.D.getD j ByteArray.empty).size : Int) = P.k) → decide (Well P) = true := fun h => decide_eq_true (well_all (by rw [hc, hcd]) h)
  rw [hcd] at HC
  clear HD0 hc hcd
  have HG := hide (And.intro HC1 HC2)
  clear HC1 HC2
  generalize decide (Well P) = ans at *
  generalize hD : P.D = D at *
  clear hD
  generalize P.k = k at *
  generalize P.kd = kd at *
  generalize P.old = old at *
  generalize P.size = size at *
  clear hms
  go_enter Try.func14, Try.ntmps14
  go_upto_region 4 with (go_at_call 16; (try rw [hW]); with_reducible refine HC.mono ?_; rintro x w1 ⟨rfl, hb1⟩; (obtain ⟨q1, q2, q3⟩ := HX.out _ hb1); (obtain ⟨k0, k1, k2, k3, k4, k5⟩ := q1.cells))
  have HI0 := hide hb1
  clear hb1 q1 q2 q3 k0 k1 k2 k3 k4 k5 hW HC e0 e1 e2 e3 e4 e5
  go_wp2
  go_loopg [5] D.length (fun gk i wr => ∃ j : Nat, j ≤ D.length ∧ gk = D.length - j ∧ i = .int .i64 (j : Int) ∧ Hid (∀ t, t < j → ((D.getD t ByteArray.empty).size : Int) = k) ∧ Hid (Below W.heap.size W wr))
  case atStart =>
    go_light
    exact ⟨0, Nat.zero_le _, rfl, rfl, (show ∀ t, t < 0 → _ from fun t ht => absurd ht (by omega)), HI0⟩
  case round =>
    obtain ⟨j, hj, rfl, rfl, HA, HI⟩ := hrel
    obtain ⟨x6, v1, hbw⟩ := HX.out wr HI.out
    obtain ⟨_, e1, _, _, _, e5⟩ := x6.cells
    have hj0 : (0 : Int) ≤ (j : Int) := Int.natCast_nonneg _
    have HB2 := hide hbw
    clear hbw x6 hne
    by_cases hlt : j < D.length
    · have hlt' : (j : Int) < (D.length : Int) := by omega
      obtain rfl := v1.ptr (by omega)
      have c1 := v1.at (k := j) hlt
      obtain ⟨x, hx⟩ : ∃ x, D.getD j ByteArray.empty = x := ⟨_, rfl⟩
      rw [hx] at c1
      by_cases hk : (x.size : Int) = k
      · have HA2 : Hid (∀ t, t < j + 1 → ((D.getD t ByteArray.empty).size : Int) = k) := show ∀ t, t < j + 1 → _ from fun t ht => by
          by_cases e : t = j
          · rw [e, hx]; exact hk
          · exact HA.out t (by omega)
        subst hk
        have hk1 := bne_self_eq_false (x.size : Int)
        clear hx v1 HA
        go_wp2
        go_quiet (fail)
        go_wp2
        go_roundg (D.length - (j + 1))
        case rel =>
          go_light
          exact ⟨j + 1, hlt, rfl, by go_num, HA2, below_drewN HI.out _⟩
        case measure => go_light; omega
      · have HN : Hid (ans = false) := HG.out.1 j hlt (by rw [hx]; exact hk)
        have hk1 : ((x.size : Int) != k) = true := bne_iff_ne.2 hk
        clear hx v1 HA hk
        go_wp2
        go_quiet (fail)
        go_wp2
        go_ret
        exact ⟨by rw [HN.out]; try rfl, below_drewN HB2.out _⟩
    · obtain hje : j = D.length := by omega
      have hlt' : ¬ (j : Int) < (D.length : Int) := by omega
      have HN : Hid (ans = true) := HG.out.2 (fun t ht => HA.out t (by omega))
      clear hje v1 HA
      go_wp2
      go_ret
      exact ⟨by rw [HN.out]; try rfl, HB2.out⟩
end
end Go.Proofs.Ytelglfmppmdmoaa
