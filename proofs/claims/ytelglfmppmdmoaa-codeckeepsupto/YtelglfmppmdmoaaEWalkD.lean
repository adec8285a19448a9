/-
  Walks of package codec: isWellFormed, Encode. Own work.
-/
import Derived.Test.YtelglfmppmdmoaaEWalkC
namespace Go.Proofs.Ytelglfmppmdmoaa
open Go.RowKit
attribute [local go_sem ↓] Go.wp_at_zero Go.wp_at_succ
/-- A proof that can be read. -/
structure RdP (w : World) (sa : Option Addr) (sb so sc : Nat) (da : Option Addr) (db dO dc : Nat) (P : PV) : Prop where
  rs : RdU w sa sb so P.S.length P.S
  rd : RdS w da db dO P.D.length P.D
  old64 : P.old < 18446744073709551616
  sz64 : P.size < 18446744073709551616
  mS : P.S.length ≤ 17592186044416
  mD : P.D.length ≤ 8796093022208
  cD : P.D.length ≤ dc
theorem RdP.next {w w' : World} {sa : Option Addr} {sb so sc : Nat} {da : Option Addr} {db dO dc : Nat} {P : PV} (h : RdP w sa sb so sc da db dO dc P) (hb : Below w.heap.size w w') : RdP w' sa sb so sc da db dO dc P :=
  ⟨h.rs.next hb, h.rd.next hb (Nat.le_refl _), h.old64, h.sz64, h.mS, h.mD, h.cD⟩
/-- The proof as a value. -/
abbrev pvP (P : PV) (sa : Option Addr) (sc : Nat) (da : Option Addr) (dc : Nat) : Value := pv6 P.kd P.k P.old P.size (.slice sa P.S.length sc) (.slice da P.D.length dc)
theorem well_no {P : PV} {j : Nat} (hj : j < P.D.length) (h : ((P.D.getD j ByteArray.empty).size : Int) ≠ P.k) : ¬ Well P := fun hw => h (hw.2 _ (getD_mem hj))
theorem well_all {P : PV} (hc : cnt P.kd P.k P.old P.size P.S = some P.D.length) (h : ∀ j, j < P.D.length → ((P.D.getD j ByteArray.empty).size : Int) = P.k) : Well P :=
  ⟨hc, fun d hd => by
    obtain ⟨j, hj, rfl⟩ := List.getElem_of_mem hd
    have := h j hj
    rwa [List.getD_eq_getElem?_getD, List.getElem?_eq_getElem hj] at this⟩
section
variable (w : World) (sa : Option Addr) (sb so sc : Nat) (da : Option Addr) (db dO dc : Nat) (P : PV)
set_option maxRecDepth 100000 in
set_option maxHeartbeats 1000000 in
theorem well_any (hp : RdP w sa sb so sc da db dO dc P) :
    Calls Try.prog 28 #[pvP P sa sc da dc] w fun e w' => e = .returned (.bool (decide (Well P))) ∧ Below w.heap.size w w' := by
  obtain ⟨kd, k, old, size, S, D⟩ := P
  obtain ⟨rs, rd, h1, h2, h3, h4, _⟩ := hp
  simp only at rs rd h1 h2 h3 h4
  show Calls Try.prog 28 #[pv6 kd k old size (.slice sa S.length sc) (.slice da D.length dc)] w _
  obtain ⟨W, hW, h6, hb, hz⟩ := box6 w (.int .i64 kd) (.int .i64 k) (.int .u64 (old : Int)) (.int .u64 (size : Int)) (.slice sa S.length sc) (.slice da D.length dc)
  obtain ⟨e0, e1, e2, e3, e4, e5⟩ := h6.cells
  have HC := count_any W kd k old size sa sb so sc S (.slice da D.length dc) h1 h2 (rs.next hb) (fun _ => h3)
  have HX : Hid (∀ F, Below W.heap.size W F → Six F w.heap.size (.int .i64 kd) (.int .i64 k) (.int .u64 (old : Int)) (.int .u64 (size : Int)) (.slice sa S.length sc) (.slice da D.length dc) ∧ RdS F da db dO D.length D ∧ Below w.heap.size w F) := fun F hF => ⟨h6.next hF, rd.next (bnext hb hF) (Nat.le_refl _), bnext hb hF⟩
  have hD9 : (D.length : Int) ≤ 8796093022208 := by omega
  have eD : IntKind.u64.wrap (D.length : Int) = (D.length : Int) := by rw [IntKind.wrap_u64]; omega
  clear rs rd h1 h2 h3 h4 h6 hb hz
  rcases hc : cnt kd k old size S with _ | c
  · have hw : decide (Well ⟨kd, k, old, size, S, D⟩) = false := decide_eq_false (fun hw => by have := hw.1; simp only [hc] at this; cases this)
    rw [hc] at HC
    simp only [cV] at HC
    rw [hw]
    generalize S.length = ms at *
    generalize D.length = md at *
    clear hc hw
    go_enter Try.func28, Try.ntmps28
    go_wp2_with (go_at_call 12; (try rw [hW]); with_reducible refine HC.mono ?_; rintro x w1 ⟨rfl, hb1⟩; (obtain ⟨q1, q2, q3⟩ := HX.out _ hb1))
    go_ret
    exact ⟨rfl, q3⟩
  · rw [hc] at HC
    simp only [cV] at HC
    by_cases hcd : c = D.length
    · subst hcd
      have HCN := hide hc
      clear hc
      obtain ⟨m, hm⟩ : ∃ m, D.length = m := ⟨_, rfl⟩
      have HM := hide hm
      have HX2 : Hid (∀ F, Below W.heap.size W F → Six F w.heap.size (.int .i64 kd) (.int .i64 k) (.int .u64 (old : Int)) (.int .u64 (size : Int)) (.slice sa S.length sc) (.slice da m dc) ∧ RdS F da db dO m D ∧ Below w.heap.size w F) := by rw [← hm]; exact HX
      rw [hm] at HC hD9 eD hW e5 ⊢
      clear hm HX
      generalize S.length = ms at *
      go_enter Try.func28, Try.ntmps28
      go_upto_region 5 with (go_at_call 12; (try rw [hW]); with_reducible refine HC.mono ?_; rintro x w1 ⟨rfl, hb1⟩; (obtain ⟨q1, q2, q3⟩ := HX2.out _ hb1); (obtain ⟨k0, k1, k2, k3, k4, k5⟩ := q1.cells))
      have HQ : Hid (RdS w1 da db dO m D ∧ Below w.heap.size w w1) := ⟨q2, q3⟩
      clear q1 q2 q3 hb1 HC HX2 hW e0 e1 e2 e3 e4 e5
      go_wp2
      go_loopg [6, 25] m (fun gg i6 ix wr => w1 = wr ∧ ∃ j : Nat, j ≤ m ∧ gg = m - j ∧ ix = .int .i64 (j : Int) ∧ Hid (∀ t, t < j → ((D.getD t ByteArray.empty).size : Int) = k))
      case atStart =>
        go_light
        exact ⟨rfl, 0, Nat.zero_le _, rfl, rfl, fun t ht => absurd ht (Nat.not_lt_zero _)⟩
      case round =>
        obtain ⟨rfl, j, hj, rfl, rfl, HA⟩ := hrel
        have hj0 : (0 : Int) ≤ (j : Int) := Int.natCast_nonneg _
        have hmm := HM.out
        by_cases hlt : j < m
        · have hlt' : (j : Int) < (m : Int) := by omega
          obtain rfl := HQ.out.1.ptr (by omega)
          have cj := HQ.out.1.at (k := j) hlt
          have hsz := HQ.out.1.sz _ (getD_mem (ss := D) (k := j) (by omega))
          obtain ⟨x, hx⟩ : ∃ x, D.getD j ByteArray.empty = x := ⟨_, rfl⟩
          have HXX := hide hx
          rw [hx] at cj hsz
          clear hx
          by_cases hk : (x.size : Int) = k
          · have HA2 : Hid (∀ t, t < j + 1 → ((D.getD t ByteArray.empty).size : Int) = k) := fun t ht => by
              rcases Nat.lt_or_ge t j with h | h
              · exact HA.out t h
              · obtain rfl : t = j := by omega
                rw [HXX.out]; exact hk
            have hk1 : ((x.size : Int) != k) = false := by rw [hk]; simp
            clear hk hmm HA
            go_wp2
            go_roundg (m - (j + 1))
            case rel =>
              go_light
              exact ⟨rfl, j + 1, hlt, rfl, by go_num, HA2⟩
            case measure => go_light; omega
          · have hk1 : ((x.size : Int) != k) = true := bne_iff_ne.2 hk
            have HW : Hid (decide (Well ⟨kd, k, old, size, S, D⟩) = false) := decide_eq_false (well_no (j := j) (by simp only; omega) (by simp only; rw [HXX.out]; exact hk))
            clear hk hmm HA
            go_wp2
            go_ret
            exact ⟨by rw [HW.out]; rfl, HQ.out.2⟩
        · obtain rfl : j = m := by omega
          have hlt' : ¬ (j : Int) < (j : Int) := by omega
          have HW : Hid (decide (Well ⟨kd, k, old, size, S, D⟩) = true) := decide_eq_true (well_all (by simp only; exact HCN.out) (fun t ht => by simp only at ht ⊢; exact HA.out t (by omega)))
          clear hmm HA
          go_wp2
          go_ret
          exact ⟨by rw [HW.out]; rfl, HQ.out.2⟩
    · have hw : decide (Well ⟨kd, k, old, size, S, D⟩) = false := decide_eq_false (fun hw => by have := hw.1; simp only [hc] at this; cases this; exact hcd rfl)
      rw [hw]
      have hne : ((c : Int) != (D.length : Int)) = true := bne_iff_ne.2 (by omega)
      generalize S.length = ms at *
      generalize D.length = md at *
      clear hc hw hcd
      go_enter Try.func28, Try.ntmps28
      go_wp2_with (go_at_call 12; (try rw [hW]); with_reducible refine HC.mono ?_; rintro x w1 ⟨rfl, hb1⟩; (obtain ⟨q1, q2, q3⟩ := HX.out _ hb1); (obtain ⟨k0, k1, k2, k3, k4, k5⟩ := q1.cells))
      go_ret
      exact ⟨rfl, q3⟩
set_option maxRecDepth 100000 in
theorem encode_no (hp : RdP w sa sb so sc da db dO dc P) (h : ¬ Well P) :
    Calls Try.prog 11 #[pvP P sa sc da dc] w fun e w' => e = .returned (.tuple #[.string ⟨#[]⟩, .int .i64 150]) ∧ Below w.heap.size w w' := by
  obtain ⟨W, hW, h6, hb, hz⟩ := box6 w (.int .i64 P.kd) (.int .i64 P.k) (.int .u64 (P.old : Int)) (.int .u64 (P.size : Int)) (.slice sa P.S.length sc) (.slice da P.D.length dc)
  obtain ⟨e0, e1, e2, e3, e4, e5⟩ := h6.cells
  have HC := well_any W sa sb so sc da db dO dc P (hp.next hb)
  rw [decide_eq_false h] at HC
  have HB := hide hb
  obtain ⟨kd, k, old, size, S, D⟩ := P
  simp only at e0 e1 e2 e3 e4 e5 hW
  simp only [pvP] at HC
  show Calls Try.prog 11 #[pv6 kd k old size (.slice sa S.length sc) (.slice da D.length dc)] w _
  clear hp h h6 hb hz
  generalize S.length = ms at *
  generalize D.length = md at *
  go_enter Try.func11, Try.ntmps11
  go_wp2_with (go_at_call 28; (try rw [hW]); with_reducible refine HC.mono ?_; rintro x w1 ⟨rfl, hb1⟩)
  go_ret2
  exact ⟨rfl, bnext HB.out hb1⟩
theorem hd_len {P : PV} {c : Nat} (ho : CntOk P.kd P.k P.old P.size P.S c) : (hd P).length ≤ 35184372088832 := by
  have h1 := num_len (n := P.size) (by have := ho.hsz; omega)
  have h2 : (mid P).length ≤ 11 * 1099511627776 + 10 := by
    unfold mid
    have hl := ho.len
    have hz := ho.hsz
    split
    · rename_i h
      obtain ⟨g1, g2⟩ := ho.one h
      have := num_len (n := P.S.getD 0 0) (by have := (chain_at ho.chain 0 (by omega)).2; omega)
      omega
    · split
      · have := laidL_le ho.chain (by omega)
        have := num_len (n := P.S.length) (by omega)
        rw [List.length_append]
        omega
      · have := num_len (n := P.old) (by have := ho.hold; omega)
        omega
  rw [hd, List.length_cons, List.length_cons, List.length_append]
  omega
theorem flat_le {P : PV} (h : Well P) : (flat P.D).length ≤ 35184372088832 := by
  have ho := cnt_ok h.1
  have hk := ho.k32
  have hk1 := ho.k1
  obtain ⟨b, hb⟩ : ∃ b : Nat, P.k = b := ⟨P.k.toNat, by omega⟩
  have e : (flat P.D).length = P.D.length * b := flat_len (fun d hd => by have := h.2 d hd; omega)
  have := ho.hc
  have : P.D.length * b ≤ 1099511627776 * 32 := Nat.mul_le_mul this (by omega)
  omega
theorem enc_len {P : PV} (h : Well P) : (enc P).length ≤ 70368744177664 := by
  have h1 := hd_len (cnt_ok h.1)
  have h2 := flat_le h
  rw [enc_hd, List.length_append]
  omega
set_option maxRecDepth 100000 in
set_option maxHeartbeats 1000000 in
theorem encode_yes (hp : RdP w sa sb so sc da db dO dc P) (h : Well P) :
    Calls Try.prog 11 #[pvP P sa sc da dc] w fun e w' => e = .returned (.tuple #[.string ⟨(enc P).toArray⟩, .int .i64 0]) ∧ Below w.heap.size w w' := by
  obtain ⟨W, hW, h6, hb, hz⟩ := box6 w (.int .i64 P.kd) (.int .i64 P.k) (.int .u64 (P.old : Int)) (.int .u64 (P.size : Int)) (.slice sa P.S.length sc) (.slice da P.D.length dc)
  obtain ⟨e0, e1, e2, e3, e4, e5⟩ := h6.cells
  have HC := well_any W sa sb so sc da db dO dc P (hp.next hb)
  rw [decide_eq_true h] at HC
  have ho := cnt_ok h.1
  have hl1 := hd_len ho
  have hl2 := flat_le h
  obtain ⟨kd, k, old, size, S, D⟩ := P
  simp only at e0 e1 e2 e3 e4 e5 hW ho hl1 hl2
  simp only [pvP] at HC
  show Calls Try.prog 11 #[pv6 kd k old size (.slice sa S.length sc) (.slice da D.length dc)] w _
  have i1 := ho.kd1
  have i3 := ho.k1
  obtain ⟨a, rfl⟩ : ∃ a : Nat, kd = a := ⟨kd.toNat, by omega⟩
  obtain ⟨b, rfl⟩ : ∃ b : Nat, k = b := ⟨k.toNat, by omega⟩
  have HX : Hid (∀ F, Below W.heap.size W F → Six F w.heap.size (.int .i64 (a : Int)) (.int .i64 (b : Int)) (.int .u64 (old : Int)) (.int .u64 (size : Int)) (.slice sa S.length sc) (.slice da D.length dc) ∧ Below w.heap.size w F) := fun F hF => ⟨h6.next hF, bnext hb hF⟩
  have HNum : Hid (∀ F, Below W.heap.size W F → Calls Try.prog 29 #[pv6 a b old size (.slice sa S.length sc) (.slice da D.length dc)] F fun e w' => e = .returned (.string ⟨(hd ⟨a, b, old, size, S, D⟩).toArray⟩) ∧ Below F.heap.size F w') := fun F hF => numbers_any F a b old size sa sb so sc S D (.slice da D.length dc) _ (hp.next (bnext hb hF)).rs ho
  have HJ : Hid (∀ F, Below W.heap.size W F → Calls Try.prog 30 #[.slice da D.length dc, .string ByteArray.empty] F fun e w' => e = .returned (.string ⟨(flat D).toArray⟩) ∧ Below F.heap.size F w') := fun F hF => join_any F da db dO dc D (hp.next (bnext hb hF)).rd hp.cD (by have := hp.mD; simp only at this; omega) (by omega)
  obtain ⟨t1, ht1⟩ : ∃ t1, (⟨(hd ⟨a, b, old, size, S, D⟩).toArray⟩ : ByteArray) = t1 := ⟨_, rfl⟩
  obtain ⟨t2, ht2⟩ : ∃ t2, (⟨(flat D).toArray⟩ : ByteArray) = t2 := ⟨_, rfl⟩
  have hs1 : (t1.size : Int) ≤ 35184372088832 := by rw [← ht1]; simp [ByteArray.size]; omega
  have hs2 : (t2.size : Int) ≤ 35184372088832 := by rw [← ht2]; simp [ByteArray.size]; omega
  have HT : Hid (t1 ++ t2 = (⟨(enc ⟨a, b, old, size, S, D⟩).toArray⟩ : ByteArray)) := by rw [← ht1, ← ht2, str_add, enc_hd]; exact rfl
  rw [ht1] at HNum
  rw [ht2] at HJ
  clear hp h h6 hb hz ho hl1 hl2 i1 i3 ht1 ht2
  generalize S.length = ms at *
  generalize D.length = md at *
  go_enter Try.func11, Try.ntmps11
  go_upto_region 3 with (go_at_call 28; (try rw [hW]); with_reducible refine HC.mono ?_; rintro x w1 ⟨rfl, hb1⟩)
  obtain ⟨q1, q2⟩ := HX.out _ hb1
  obtain ⟨k0, k1, k2, k3, k4, k5⟩ := q1.cells
  clear q1 q2 e0 e1 e2 e3 e4 e5 hW HC
  go_region_with (first
    | (go_at_call 29; (refine (HNum.out _ (by first | exact hb1 | exact redrew hb1)).mono ?_); rintro x w2 ⟨rfl, hb2⟩; (have hw2 : Below W.heap.size W w2 := by first | exact bnext hb1 hb2 | exact bnext hb1 (undrew hb2)); (obtain ⟨m0, m1, m2, m3, m4, m5⟩ := (HX.out _ hw2).1.cells))
    | (go_at_call 30; (refine (HJ.out _ (by first | exact hw2 | exact redrew hw2)).mono ?_); rintro x w3 ⟨rfl, hb3⟩; (have hw3 : Below W.heap.size W w3 := by first | exact bnext hw2 hb3 | exact bnext hw2 (undrew hb3))))
  all_goals
    go_wp2
    go_ret2
    exact ⟨by rw [← HT.out]; rfl, (HX.out _ (by first | exact hw3 | exact redrew hw3 | exact redrew (redrew hw3))).2⟩
end
end Go.Proofs.Ytelglfmppmdmoaa
