/-
  Own work: EWalkD, GWalkA, LWalkA.
-/
import Derived.Test.YtipcenbndhnnhaaGreatDoorQd20
namespace Go.Proofs.YtipcenbndhnnhaaGreatDoor
open Go.RowKit
attribute [local go_sem ↓] Go.wp_at_zero Go.wp_at_succ
structure RdPC (w : World) (sa : Option Addr) (sb so sc : Nat) (da : Option Addr) (db dO dc : Nat) (P : PV) : Prop where
  rs : RdU w sa sb so P.S.length P.S
  rd : RdS w da db dO P.D.length P.D
  old64 : P.old < 18446744073709551616
  sz64 : P.size < 18446744073709551616
  mS : P.S.length ≤ 17592186044416
  mD : P.D.length ≤ 8796093022208
  cD : P.D.length ≤ dc
theorem RdPC.next {w w' : World} {sa : Option Addr} {sb so sc : Nat} {da : Option Addr} {db dO dc : Nat} {P : PV} (h : RdPC w sa sb so sc da db dO dc P) (hb : Below w.heap.size w w') : RdPC w' sa sb so sc da db dO dc P :=
  ⟨h.rs.next hb, h.rd.next hb (Nat.le_refl _), h.old64, h.sz64, h.mS, h.mD, h.cD⟩
abbrev pvP (P : PV) (sa : Option Addr) (sc : Nat) (da : Option Addr) (dc : Nat) : Value := pv6 P.kd P.k P.old P.size (.slice sa P.S.length sc) (.slice da P.D.length dc)
theorem well_no {P : PV} {j : Nat} (hj : j < P.D.length) (h : ((P.D.getD j ByteArray.empty).size : Int) ≠ P.k) : ¬ Well P := fun hw => h (hw.2 _ (getD_mem hj))
theorem well_all {P : PV} (hc : cnt P.kd P.k P.old P.size P.S = some P.D.length) (h : ∀ j, j < P.D.length → ((P.D.getD j ByteArray.empty).size : Int) = P.k) : Well P :=
  ⟨hc, fun d hd => by
    obtain ⟨j, hj, rfl⟩ := List.getElem_of_mem hd
    have := h j hj
    rwa [List.getD_eq_getElem?_getD, List.getElem?_eq_getElem hj] at this⟩
section
variable (w : World) (sa : Option Addr) (sb so sc : Nat) (da : Option Addr) (db dO dc : Nat) (P : PV)
set_option maxRecDepth 100000 in
set_option maxHeartbeats 1000000 in
theorem well_any (hp : RdPC w sa sb so sc da db dO dc P) :
    Calls Tryz.prog 32 #[pvP P sa sc da dc] w fun e w' => e = .returned (.bool (decide (Well P))) ∧ Below w.heap.size w w' := by
  obtain ⟨kd, k, old, size, S, D⟩ := P
  obtain ⟨rs, rd, h1, h2, h3, h4, _⟩ := hp
  simp only at rs rd h1 h2 h3 h4
  show Calls Tryz.prog 32 #[pv6 kd k old size (.slice sa S.length sc) (.slice da D.length dc)] w _
  obtain ⟨W, hW, h6, hb, hz⟩ := box6 w (.int .i64 kd) (.int .i64 k) (.int .u64 (old : Int)) (.int .u64 (size : Int)) (.slice sa S.length sc) (.slice da D.length dc)
  obtain ⟨e0, e1, e2, e3, e4, e5⟩ := h6.cells
  have HC := count_any W kd k old size sa sb so sc S (.slice da D.length dc) h1 h2 (rs.next hb) (fun _ => h3)
  have HX : Hid (∀ F, Below W.heap.size W F → Six F w.heap.size (.int .i64 kd) (.int .i64 k) (.int .u64 (old : Int)) (.int .u64 (size : Int)) (.slice sa S.length sc) (.slice da D.length dc) ∧ RdS F da db dO D.length D ∧ Below w.heap.size w F) := fun F hF => ⟨h6.next hF, rd.next (bnext hb hF) (Nat.le_refl _), bnext hb hF⟩
  have hD9 : (D.length : Int) ≤ 8796093022208 := by omega
  have eD : IntKind.u64.wrap (D.length : Int) = (D.length : Int) := by rw [IntKind.wrap_u64]; omega
  clear rs rd h1 h2 h3 h4 h6 hb hz
  rcases hc : cnt kd k old size S with _ | c
  · have hw : decide (Well ⟨kd, k, old, size, S, D⟩) = false := decide_eq_false (fun hw => by have := hw.1; simp only [hc] at this; cases this)
    rw [hc] at HC
    simp only [cV] at HC
    rw [hw]
    generalize S.length = ms at *
    generalize D.length = md at *
    clear hc hw
    go_enter Tryz.func32, Tryz.ntmps32
    go_wp2_with (go_at_call 64; (try rw [hW]); with_reducible refine HC.mono ?_; rintro x w1 ⟨rfl, hb1⟩; (obtain ⟨q1, q2, q3⟩ := HX.out _ hb1))
    go_ret
    exact ⟨rfl, q3⟩
  · rw [hc] at HC
    simp only [cV] at HC
    by_cases hcd : c = D.length
    · subst hcd
      have HCN := hideC hc
      clear hc
      obtain ⟨m, hm⟩ : ∃ m, D.length = m := ⟨_, rfl⟩
      have HM := hideC hm
      have HX2 : Hid (∀ F, Below W.heap.size W F → Six F w.heap.size (.int .i64 kd) (.int .i64 k) (.int .u64 (old : Int)) (.int .u64 (size : Int)) (.slice sa S.length sc) (.slice da m dc) ∧ RdS F da db dO m D ∧ Below w.heap.size w F) := by rw [← hm]; exact HX
      rw [hm] at HC hD9 eD hW e5 ⊢
      clear hm HX
      generalize S.length = ms at *
      go_enter Tryz.func32, Tryz.ntmps32
      go_upto_region 5 with (go_at_call 64; (try rw [hW]); with_reducible refine HC.mono ?_; rintro x w1 ⟨rfl, hb1⟩; (obtain ⟨q1, q2, q3⟩ := HX2.out _ hb1); (obtain ⟨k0, k1, k2, k3, k4, k5⟩ := q1.cells))
      have HQ : Hid (RdS w1 da db dO m D ∧ Below w.heap.size w w1) := ⟨q2, q3⟩
      clear q1 q2 q3 hb1 HC HX2 hW e0 e1 e2 e3 e4 e5
      go_wp2
      go_loopg [6, 25] m (fun gg i6 ix wr => w1 = wr ∧ ∃ j : Nat, j ≤ m ∧ gg = m - j ∧ ix = .int .i64 (j : Int) ∧ Hid (∀ t, t < j → ((D.getD t ByteArray.empty).size : Int) = k))
      case atStart =>
        go_light
        exact ⟨rfl, 0, Nat.zero_le _, rfl, rfl, fun t ht => absurd ht (Nat.not_lt_zero _)⟩
      case round =>
        obtain ⟨rfl, j, hj, rfl, rfl, HA⟩ := hrel
        have hj0 : (0 : Int) ≤ (j : Int) := Int.natCast_nonneg _
        have hmm := HM.out
        by_cases hlt : j < m
        · have hlt' : (j : Int) < (m : Int) := by omega
          obtain rfl := HQ.out.1.ptr (by omega)
          have cj := HQ.out.1.at (k := j) hlt
          have hsz := HQ.out.1.sz _ (getD_mem (ss := D) (k := j) (by omega))
          obtain ⟨x, hx⟩ : ∃ x, D.getD j ByteArray.empty = x := ⟨_, rfl⟩
          have HXX := hideC hx
          rw [hx] at cj hsz
          clear hx
          by_cases hk : (x.size : Int) = k
          · have HA2 : Hid (∀ t, t < j + 1 → ((D.getD t ByteArray.empty).size : Int) = k) := fun t ht => by
              rcases Nat.lt_or_ge t j with h | h
              · exact HA.out t h
              · obtain rfl : t = j := by omega
                rw [HXX.out]; exact hk
            have hk1 : ((x.size : Int) != k) = false := by rw [hk]; simp
            clear hk hmm HA
            go_wp2
            go_roundg (m - (j + 1))
            case rel =>
              go_light
              exact ⟨rfl, j + 1, hlt, rfl, by go_num, HA2⟩
            case measure => go_light; omega
          · have hk1 : ((x.size : Int) != k) = true := bne_iff_ne.2 hk
            have HW : Hid (decide (Well ⟨kd, k, old, size, S, D⟩) = false) := decide_eq_false (well_no (j := j) (by simp only; omega) (by simp only; rw [HXX.out]; exact hk))
            clear hk hmm HA
            go_wp2
            go_ret
            exact ⟨by rw [HW.out]; rfl, HQ.out.2⟩
        · obtain rfl : j = m := by omega
          have hlt' : ¬ (j : Int) < (j : Int) := by omega
          have HW : Hid (decide (Well ⟨kd, k, old, size, S, D⟩) = true) := decide_eq_true (well_all (by simp only; exact HCN.out) (fun t ht => by simp only at ht ⊢; exact HA.out t (by omega)))
          clear hmm HA
          go_wp2
          go_ret
          exact ⟨by rw [HW.out]; rfl, HQ.out.2⟩
    · have hw : decide (Well ⟨kd, k, old, size, S, D⟩) = false := decide_eq_false (fun hw => by have := hw.1; simp only [hc] at this; cases this; exact hcd rfl)
      rw [hw]
      have hne : ((c : Int) != (D.length : Int)) = true := bne_iff_ne.2 (by omega)
      generalize S.length = ms at *
      generalize D.length = md at *
      clear hc hw hcd
      go_enter Tryz.func32, Tryz.ntmps32
      go_wp2_with (go_at_call 64; (try rw [hW]); with_reducible refine HC.mono ?_; rintro x w1 ⟨rfl, hb1⟩; (obtain ⟨q1, q2, q3⟩ := HX.out _ hb1); (obtain ⟨k0, k1, k2, k3, k4, k5⟩ := q1.cells))
      go_ret
      exact ⟨rfl, q3⟩
theorem hd_len {P : PV} {c : Nat} (ho : CntOk P.kd P.k P.old P.size P.S c) : (hd P).length ≤ 35184372088832 := by
  have h1 := num_len (n := P.size) (by have := ho.hsz; omega)
  have h2 : (mid P).length ≤ 11 * 1099511627776 + 10 := by
    unfold mid
    have hl := ho.len
    have hz := ho.hsz
    split
    · rename_i h
      obtain ⟨g1, g2⟩ := ho.one h
      have := num_len (n := P.S.getD 0 0) (by have := (chain_at ho.chain 0 (by omega)).2; omega)
      omega
    · split
      · have := laidL_le ho.chain (by omega)
        have := num_len (n := P.S.length) (by omega)
        rw [List.length_append]
        omega
      · have := num_len (n := P.old) (by have := ho.hold; omega)
        omega
  rw [hd, List.length_cons, List.length_cons, List.length_append]
  omega
theorem flat_le {P : PV} (h : Well P) : (flatC P.D).length ≤ 35184372088832 := by
  have ho := cnt_ok h.1
  have hk := ho.k32
  have hk1 := ho.k1
  obtain ⟨b, hb⟩ : ∃ b : Nat, P.k = b := ⟨P.k.toNat, by omega⟩
  have e : (flatC P.D).length = P.D.length * b := flat_len (fun d hd => by have := h.2 d hd; omega)
  have := ho.hc
  have : P.D.length * b ≤ 1099511627776 * 32 := Nat.mul_le_mul this (by omega)
  omega
theorem enc_len {P : PV} (h : Well P) : (enc P).length ≤ 70368744177664 := by
  have h1 := hd_len (cnt_ok h.1)
  have h2 := flat_le h
  rw [enc_hd, List.length_append]
  omega
set_option maxRecDepth 100000 in
set_option maxHeartbeats 1000000 in
theorem encode_yes (hp : RdPC w sa sb so sc da db dO dc P) (h : Well P) :
    Calls Tryz.prog 13 #[pvP P sa sc da dc] w fun e w' => e = .returned (.tuple #[.string ⟨(enc P).toArray⟩, .int .i64 0]) ∧ Below w.heap.size w w' := by
  obtain ⟨W, hW, h6, hb, hz⟩ := box6 w (.int .i64 P.kd) (.int .i64 P.k) (.int .u64 (P.old : Int)) (.int .u64 (P.size : Int)) (.slice sa P.S.length sc) (.slice da P.D.length dc)
  obtain ⟨e0, e1, e2, e3, e4, e5⟩ := h6.cells
  have HC := well_any W sa sb so sc da db dO dc P (hp.next hb)
  rw [decide_eq_true h] at HC
  have ho := cnt_ok h.1
  have hl1 := hd_len ho
  have hl2 := flat_le h
  obtain ⟨kd, k, old, size, S, D⟩ := P
  simp only at e0 e1 e2 e3 e4 e5 hW ho hl1 hl2
  simp only [pvP] at HC
  show Calls Tryz.prog 13 #[pv6 kd k old size (.slice sa S.length sc) (.slice da D.length dc)] w _
  have i1 := ho.kd1
  have i3 := ho.k1
  obtain ⟨a, rfl⟩ : ∃ a : Nat, kd = a := ⟨kd.toNat, by omega⟩
  obtain ⟨b, rfl⟩ : ∃ b : Nat, k = b := ⟨k.toNat, by omega⟩
  have HX : Hid (∀ F, Below W.heap.size W F → Six F w.heap.size (.int .i64 (a : Int)) (.int .i64 (b : Int)) (.int .u64 (old : Int)) (.int .u64 (size : Int)) (.slice sa S.length sc) (.slice da D.length dc) ∧ Below w.heap.size w F) := fun F hF => ⟨h6.next hF, bnext hb hF⟩
  have HNum : Hid (∀ F, Below W.heap.size W F → Calls Tryz.prog 33 #[pv6 a b old size (.slice sa S.length sc) (.slice da D.length dc)] F fun e w' => e = .returned (.string ⟨(hd ⟨a, b, old, size, S, D⟩).toArray⟩) ∧ Below F.heap.size F w') := fun F hF => numbers_any F a b old size sa sb so sc S D (.slice da D.length dc) _ (hp.next (bnext hb hF)).rs ho
  have HJ : Hid (∀ F, Below W.heap.size W F → Calls Tryz.prog 34 #[.slice da D.length dc, .string ByteArray.empty] F fun e w' => e = .returned (.string ⟨(flatC D).toArray⟩) ∧ Below F.heap.size F w') := fun F hF => join_anyC F da db dO dc D (hp.next (bnext hb hF)).rd hp.cD (by have := hp.mD; simp only at this; omega) (by omega)
  obtain ⟨t1, ht1⟩ : ∃ t1, (⟨(hd ⟨a, b, old, size, S, D⟩).toArray⟩ : ByteArray) = t1 := ⟨_, rfl⟩
  obtain ⟨t2, ht2⟩ : ∃ t2, (⟨(flatC D).toArray⟩ : ByteArray) = t2 := ⟨_, rfl⟩
  have hs1 : (t1.size : Int) ≤ 35184372088832 := by rw [← ht1]; simp [ByteArray.size]; omega
  have hs2 : (t2.size : Int) ≤ 35184372088832 := by rw [← ht2]; simp [ByteArray.size]; omega
  have HT : Hid (t1 ++ t2 = (⟨(enc ⟨a, b, old, size, S, D⟩).toArray⟩ : ByteArray)) := by rw [← ht1, ← ht2, str_add, enc_hd]; exact rfl
  rw [ht1] at HNum
  rw [ht2] at HJ
  clear hp h h6 hb hz ho hl1 hl2 i1 i3 ht1 ht2
  generalize S.length = ms at *
  generalize D.length = md at *
  go_enter Tryz.func13, Tryz.ntmps13
  go_upto_region 3 with (go_at_call 32; (try rw [hW]); with_reducible refine HC.mono ?_; rintro x w1 ⟨rfl, hb1⟩)
  obtain ⟨q1, q2⟩ := HX.out _ hb1
  obtain ⟨k0, k1, k2, k3, k4, k5⟩ := q1.cells
  clear q1 q2 e0 e1 e2 e3 e4 e5 hW HC
  go_region_with (first
    | (go_at_call 33; (refine (HNum.out _ (by first | exact hb1 | exact redrew hb1)).mono ?_); rintro x w2 ⟨rfl, hb2⟩; (have hw2 : Below W.heap.size W w2 := by first | exact bnext hb1 hb2 | exact bnext hb1 (undrew hb2)); (obtain ⟨m0, m1, m2, m3, m4, m5⟩ := (HX.out _ hw2).1.cells))
    | (go_at_call 34; (refine (HJ.out _ (by first | exact hw2 | exact redrew hw2)).mono ?_); rintro x w3 ⟨rfl, hb3⟩; (have hw3 : Below W.heap.size W w3 := by first | exact bnext hw2 hb3 | exact bnext hw2 (undrew hb3))))
  all_goals
    go_wp2
    go_ret2
    exact ⟨by rw [← HT.out]; rfl, (HX.out _ (by first | exact hw3 | exact redrew hw3 | exact redrew (redrew hw3))).2⟩
end
end Go.Proofs.YtipcenbndhnnhaaGreatDoor
namespace Go.Proofs.YtipcenbndhnnhaaGreatDoor
open Go.RowKit
attribute [local go_sem ↓] Go.wp_at_zero Go.wp_at_succ
theorem decode_none (w : World) (s : ByteArray) (hs : s.size ≤ 281474976710656) (h : dec s.data.toList = none) :
    Calls Tryz.prog 70 #[.string s] w fun e w' => e = .returned (.tuple #[noP, .int .i64 140]) ∧ Below w.heap.size w w' := by
  refine (decode_any w s hs).mono ?_
  rintro e w' (⟨P, _, _, h1, _⟩ | ⟨_, h2, h3⟩)
  · rw [h] at h1; cases h1
  · exact ⟨h2, h3⟩
end Go.Proofs.YtipcenbndhnnhaaGreatDoor
namespace Go.Proofs.YtipcenbndhnnhaaGreatDoor
open Go.RowKit
attribute [local go_sem ↓] Go.wp_at_zero Go.wp_at_succ
structure RdF (w : World) (sa : Option Addr) (sb sc : Nat) (da : Option Addr) (db dc : Nat) (P : PV) : Prop where
  p : RdPC w sa sb 0 sc da db 0 dc P
  cS : P.S.length ≤ sc
  nS : sa = none → sc = 0
  nD : da = none → dc = 0
  mC : dc ≤ 9223372036854775807
theorem RdF.next {w W : World} {sa : Option Addr} {sb sc : Nat} {da : Option Addr} {db dc : Nat} {P : PV} (h : RdF w sa sb sc da db dc P) (hb : Below w.heap.size w W) : RdF W sa sb sc da db dc P := ⟨h.p.next hb, h.cS, h.nS, h.nD, h.mC⟩
theorem own_cap {w : World} {B T s n c m : Nat} {ao : Option Addr} {xs : List Value} (h : w.ownsRow B T s (.slice ao n c) m xs) : n = m ∧ n ≤ c ∧ c ≤ 9223372036854775807 := by
  rcases h.2 with ⟨h1, h0⟩ | ⟨g, cap, cur, h1, hg, hh, hc1, hc2, _⟩
  · injection h1 with _ h2 h3
    subst h2 h3; exact ⟨h0.symm, Nat.le_refl _, Nat.zero_le _⟩
  · injection h1 with _ h2 h3
    subst h2 h3; exact ⟨rfl, hc1, hc2⟩
theorem own_rdf {w : World} {B : Nat} {sv dv : Value} {P : PV} (h : Well P) (o1 : Cv.Own w B sv P.S) (o2 : OwnS w B dv P.D) : ∃ sa sb sc da db dc, sv = .slice sa P.S.length sc ∧ dv = .slice da P.D.length dc ∧ RdF w sa sb sc da db dc P := by
  have ho := cnt_ok h.1
  have i1 := ho.hold
  have i2 := ho.hsz
  have i3 := ho.len
  have i4 := ho.hc
  have i5 := ho.k32
  obtain ⟨sa, sb, sc, rfl, r1, n1⟩ := own_read o1
  obtain ⟨da, db, dc, rfl, r2, r3, n2⟩ := owns_rds o2 (fun d hd => by have := h.2 d hd; omega)
  exact ⟨sa, sb, sc, da, db, dc, rfl, rfl, ⟨r1, r2, by omega, by omega, by omega, by omega, r3⟩, (own_cap o1).2.1, n1, n2, (own_cap o2).2.2⟩
theorem decode_full (w : World) (s : ByteArray) (hs : s.size ≤ 281474976710656) (P : PV) (h : dec s.data.toList = some P) :
    Calls Tryz.prog 70 #[.string s] w fun e w' => ∃ sa sb sc da db dc, e = .returned (.tuple #[.agg #[.int .i64 P.kd, .int .i64 P.k, .int .u64 (P.old : Int), .int .u64 (P.size : Int), .slice sa P.S.length sc, .slice da P.D.length dc], .int .i64 0]) ∧ RdF w' sa sb sc da db dc P ∧ (Cv.Own w' w.heap.size (.slice sa P.S.length sc) P.S ∧ OwnS w' w.heap.size (.slice da P.D.length dc) P.D) ∧ Below w.heap.size w w' := by
  refine (decode_any w s hs).mono ?_
  rintro e w' (⟨P', sv, dv, h1, rfl, h3, h4, h5⟩ | ⟨h1, _⟩)
  · rw [h] at h1; cases h1
    obtain ⟨sa, sb, sc, da, db, dc, rfl, rfl, r⟩ := own_rdf (enc_dec h).1 h3 h4
    exact ⟨sa, sb, sc, da, db, dc, rfl, r, ⟨h3, h4⟩, h5⟩
  · rw [h] at h1; cases h1
def tkE (k : Int) (s : ByteArray) : Int := if k < 1 ∨ 32 < k then 70 else match dec s.data.toList with | none => 140 | some P => if P.k = k then 0 else 150
theorem tkE_cases {k e0 : Int} {s : ByteArray} (h : tkE k s = e0) (h0 : e0 ≠ 0) : (chk k = 70 ∧ e0 = 70) ∨ (chk k = 0 ∧ dec s.data.toList = none ∧ e0 = 140) ∨ (chk k = 0 ∧ ∃ P, dec s.data.toList = some P ∧ P.k ≠ k ∧ e0 = 150) := by
  unfold tkE at h
  by_cases hk : k < 1 ∨ 32 < k
  · rw [if_pos hk] at h; exact .inl ⟨by rw [chk, if_pos hk], h.symm⟩
  · rw [if_neg hk] at h
    have hc : chk k = 0 := by rw [chk, if_neg hk]
    cases hd : dec s.data.toList with
    | none => rw [hd] at h; exact .inr (.inl ⟨hc, rfl, h.symm⟩)
    | some P =>
      rw [hd] at h
      by_cases hp : P.k = k
      · simp only [if_pos hp] at h; exact absurd h.symm h0
      · simp only [if_neg hp] at h; exact .inr (.inr ⟨hc, P, rfl, hp, h.symm⟩)
set_option maxRecDepth 100000 in
set_option maxHeartbeats 1000000 in
theorem taken_no (w : World) (k : Int) (s : ByteArray) (hs : s.size ≤ 281474976710656) (e0 : Int) (he : tkE k s = e0) (h0 : e0 ≠ 0) :
    Calls Tryz.prog 35 #[.int .i64 k, .string s] w fun e w' => e = .returned (.tuple #[noP, .int .i64 e0]) ∧ Below w.heap.size w w' := by
  obtain ⟨W0, hW0, h6, hb0, _⟩ := box6 w (.int .i64 0) (.int .i64 0) (.int .u64 0) (.int .u64 0) (.slice none 0 0) (.slice none 0 0)
  have HX : Hid (∀ F, Below W0.heap.size W0 F → Six F w.heap.size (.int .i64 0) (.int .i64 0) (.int .u64 0) (.int .u64 0) (.slice none 0 0) (.slice none 0 0) ∧ Below w.heap.size w F) := fun F hF => ⟨h6.next hF, bnext hb0 hF⟩
  clear h6 hb0
  rcases tkE_cases he h0 with ⟨hc, rfl⟩ | ⟨hc, hd, rfl⟩ | ⟨hc, P, hd, hp, rfl⟩
  · have HC : Hid (∀ W, Calls Tryz.prog 48 #[.int .i64 k] W fun e w' => e = .returned (.int .i64 70) ∧ w' = W) := fun W => by rw [← hc]; exact check_any W k
    clear hc he h0 hs
    obtain ⟨x6, xb⟩ := HX.out _ (Below.refl _ _)
    obtain ⟨c0, c1, c2, c3, c4, c5⟩ := x6.cells
    have fz := x6.fz
    have hp := x6.put (.int .i64 0) (.int .i64 0) (.int .u64 0) (.int .u64 0) (.slice none 0 0) (.slice none 0 0)
    have hc := put6_ch W0 w.heap.size (.int .i64 0) (.int .i64 0) (.int .u64 0) (.int .u64 0) (.slice none 0 0) (.slice none 0 0)
    unfold put6 at hp hc
    have HB := hide (And.intro hp (And.intro hc xb))
    clear hp hc xb x6
    go_enter Tryz.func35, Tryz.ntmps35
    go_upto_region 1 with (fail)
    try rw [hW0]
    clear hW0
    go_upto_region 3 with (go_at_call 48; with_reducible refine (HC.out _).mono ?_; rintro e w1 ⟨rfl, rfl⟩)
    repeat go_step
    obtain ⟨hp, hc, xb⟩ := HB.out
    obtain ⟨s0, s1, s2, s3, s4, s5⟩ := hp.cells
    refine bodyPost_ret (v := .tuple #[noP, .int .i64 70]) (by simp [results, Tryz.results35, go_sem, s0, s1, s2, s3, s4, s5]) rfl ⟨rfl, xb.trans (hc.below (by rintro b rfl; omega))⟩
  · have HC : Hid (∀ W, Calls Tryz.prog 48 #[.int .i64 k] W fun e w' => e = .returned (.int .i64 0) ∧ w' = W) := fun W => by rw [← hc]; exact check_any W k
    have HD : Hid (∀ W, Calls Tryz.prog 70 #[.string s] W fun e w' => e = .returned (.tuple #[noP, .int .i64 140]) ∧ Below W.heap.size W w') := fun W => decode_none W s hs hd
    clear hc he h0 hs hd
    go_enter Tryz.func35, Tryz.ntmps35
    go_upto_region 1 with (fail)
    try rw [hW0]
    clear hW0
    go_upto_region 5 with (first
      | (go_at_call 48; with_reducible refine (HC.out _).mono ?_; rintro e w1 ⟨rfl, rfl⟩)
      | (go_at_call 70; with_reducible refine (HD.out _).mono ?_; rintro e w2 ⟨rfl, hb2⟩))
    obtain ⟨F, hF, h7, hb3, _⟩ := box6 w2 (.int .i64 0) (.int .i64 0) (.int .u64 0) (.int .u64 0) (.slice none 0 0) (.slice none 0 0)
    try rw [hF]
    clear hF h7
    obtain ⟨x6, xb⟩ := HX.out _ (bnext hb2 hb3)
    obtain ⟨c0, c1, c2, c3, c4, c5⟩ := x6.cells
    have fz := x6.fz
    have hp := x6.put (.int .i64 0) (.int .i64 0) (.int .u64 0) (.int .u64 0) (.slice none 0 0) (.slice none 0 0)
    have hc := put6_ch F w.heap.size (.int .i64 0) (.int .i64 0) (.int .u64 0) (.int .u64 0) (.slice none 0 0) (.slice none 0 0)
    unfold put6 at hp hc
    have HB := hide (And.intro hp (And.intro hc xb))
    clear hp hc xb x6 hb2 hb3
    repeat go_step
    obtain ⟨hp, hc, xb⟩ := HB.out
    obtain ⟨s0, s1, s2, s3, s4, s5⟩ := hp.cells
    refine bodyPost_ret (v := .tuple #[noP, .int .i64 140]) (by simp [results, Tryz.results35, go_sem, s0, s1, s2, s3, s4, s5]) rfl ⟨rfl, xb.trans (hc.below (by rintro b rfl; omega))⟩
  · have HC : Hid (∀ W, Calls Tryz.prog 48 #[.int .i64 k] W fun e w' => e = .returned (.int .i64 0) ∧ w' = W) := fun W => by rw [← hc]; exact check_any W k
    have HD : Hid (∀ W, Calls Tryz.prog 70 #[.string s] W fun e w' => ∃ (kd kk : Int) (old size : Nat) (sa : Option Addr) (ns sc : Nat) (da : Option Addr) (nd' dc : Nat), (kk == k) = false ∧ ¬ kk = k ∧ e = .returned (.tuple #[.agg #[.int .i64 kd, .int .i64 kk, .int .u64 (old : Int), .int .u64 (size : Int), .slice sa ns sc, .slice da nd' dc], .int .i64 0]) ∧ Below W.heap.size W w') := fun W => (decode_full W s hs P hd).mono fun e w' ⟨sa, sb, sc, da, db, dc, h1, _, _, h3⟩ => ⟨P.kd, P.k, P.old, P.size, sa, P.S.length, sc, da, P.D.length, dc, by simpa using hp, hp, h1, h3⟩
    clear hc he h0 hs hd hp
    go_enter Tryz.func35, Tryz.ntmps35
    go_upto_region 1 with (fail)
    try rw [hW0]
    clear hW0
    go_upto_region 5 with (first
      | (go_at_call 48; with_reducible refine (HC.out _).mono ?_; rintro e w1 ⟨rfl, rfl⟩)
      | (go_at_call 70; with_reducible refine (HD.out _).mono ?_; rintro e w2 ⟨kd, kk, old, size, sa, ns, sc, da, nd', dc, hkb, hkn, rfl, hb2⟩))
    obtain ⟨F, hF, h7, hb3, _⟩ := box6 w2 (.int .i64 kd) (.int .i64 kk) (.int .u64 (old : Int)) (.int .u64 (size : Int)) (.slice sa ns sc) (.slice da nd' dc)
    try rw [hF]
    clear hF
    have m1 := h7.cells.2.1
    obtain ⟨x6, xb⟩ := HX.out _ (bnext hb2 hb3)
    obtain ⟨c0, c1, c2, c3, c4, c5⟩ := x6.cells
    have fz := x6.fz
    have hp := x6.put (.int .i64 0) (.int .i64 0) (.int .u64 0) (.int .u64 0) (.slice none 0 0) (.slice none 0 0)
    have hc := put6_ch F w.heap.size (.int .i64 0) (.int .i64 0) (.int .u64 0) (.int .u64 0) (.slice none 0 0) (.slice none 0 0)
    unfold put6 at hp hc
    have HB := hide (And.intro hp (And.intro hc xb))
    clear hp hc xb x6 hb2 hb3 h7
    repeat go_step
    obtain ⟨hp, hc, xb⟩ := HB.out
    obtain ⟨s0, s1, s2, s3, s4, s5⟩ := hp.cells
    refine bodyPost_ret (v := .tuple #[noP, .int .i64 150]) (by simp [results, Tryz.results35, go_sem, s0, s1, s2, s3, s4, s5]) rfl ⟨rfl, xb.trans (hc.below (by rintro b rfl; omega))⟩
set_option maxRecDepth 100000 in
set_option maxHeartbeats 1000000 in
theorem taken_ok (w : World) (k : Int) (k1 : 1 ≤ k) (k2 : k ≤ 32) (s : ByteArray) (hs : s.size ≤ 281474976710656) (P : PV) (hd : dec s.data.toList = some P) (hk : P.k = k) :
    Calls Tryz.prog 35 #[.int .i64 k, .string s] w fun e w' => ∃ sa sb sc da db dc, e = .returned (.tuple #[.agg #[.int .i64 P.kd, .int .i64 k, .int .u64 (P.old : Int), .int .u64 (P.size : Int), .slice sa P.S.length sc, .slice da P.D.length dc], .int .i64 0]) ∧ RdF w' sa sb sc da db dc P ∧ Below w.heap.size w w' := by
  have hw := (enc_dec hd).1
  obtain ⟨kd, kk, old, size, S, D⟩ := P
  simp only at hk
  subst hk
  obtain ⟨W0, hW0, h6, hb0, _⟩ := box6 w (.int .i64 0) (.int .i64 0) (.int .u64 0) (.int .u64 0) (.slice none 0 0) (.slice none 0 0)
  have HX : Hid (∀ F, Below W0.heap.size W0 F → Six F w.heap.size (.int .i64 0) (.int .i64 0) (.int .u64 0) (.int .u64 0) (.slice none 0 0) (.slice none 0 0) ∧ Below w.heap.size w F) := fun F hF => ⟨h6.next hF, bnext hb0 hF⟩
  have HZ : Hid (w.heap.size < W0.heap.size) := h6.lt
  have HC : Hid (∀ W, Calls Tryz.prog 48 #[.int .i64 kk] W fun e w' => e = .returned (.int .i64 0) ∧ w' = W) := fun W => by
    have hc : chk kk = 0 := by rw [chk, if_neg (by omega)]
    rw [← hc]; exact check_any W kk
  have HD : Hid (∀ W, Calls Tryz.prog 70 #[.string s] W fun e w' => ∃ sa sc da dc, e = .returned (.tuple #[.agg #[.int .i64 kd, .int .i64 kk, .int .u64 (old : Int), .int .u64 (size : Int), .slice sa S.length sc, .slice da D.length dc], .int .i64 0]) ∧ Hid (Cv.Own w' W.heap.size (.slice sa S.length sc) S ∧ OwnS w' W.heap.size (.slice da D.length dc) D) ∧ Below W.heap.size W w') := fun W => (decode_full W s hs _ hd).mono fun e w' ⟨sa, sb, sc, da, db, dc, h1, _, h2, h3⟩ => ⟨sa, sc, da, dc, h1, h2, h3⟩
  have HW := hide hw
  clear h6 hb0 hs hd k1 k2 hw
  go_enter Tryz.func35, Tryz.ntmps35
  go_upto_region 1 with (fail)
  try rw [hW0]
  clear hW0
  go_upto_region 5 with (first
    | (go_at_call 48; with_reducible refine (HC.out _).mono ?_; rintro e w1 ⟨rfl, rfl⟩)
    | (go_at_call 70; with_reducible refine (HD.out _).mono ?_; rintro e w2 ⟨sa, sc, da, dc, rfl, HO, hb2⟩))
  obtain ⟨F, hF, h7, hb3, _⟩ := box6 w2 (.int .i64 kd) (.int .i64 kk) (.int .u64 (old : Int)) (.int .u64 (size : Int)) (.slice sa S.length sc) (.slice da D.length dc)
  try rw [hF]
  clear hF
  obtain ⟨m0, m1, m2, m3, m4, m5⟩ := h7.cells
  obtain ⟨x6, xb⟩ := HX.out _ (bnext hb2 hb3)
  obtain ⟨c0, c1, c2, c3, c4, c5⟩ := x6.cells
  have fz := x6.fz
  have hp := x6.put (.int .i64 kd) (.int .i64 kk) (.int .u64 (old : Int)) (.int .u64 (size : Int)) (.slice sa S.length sc) (.slice da D.length dc)
  have hc := put6_ch F w.heap.size (.int .i64 kd) (.int .i64 kk) (.int .u64 (old : Int)) (.int .u64 (size : Int)) (.slice sa S.length sc) (.slice da D.length dc)
  have hr : ∃ sb db, RdF (put6 F w.heap.size (.int .i64 kd) (.int .i64 kk) (.int .u64 (old : Int)) (.int .u64 (size : Int)) (.slice sa S.length sc) (.slice da D.length dc)) sa sb sc da db dc ⟨kd, kk, old, size, S, D⟩ := by
    obtain ⟨o1, o2⟩ := HO.out
    have hz := HZ.out
    have z1 : Cv.Own (put6 F w.heap.size (.int .i64 kd) (.int .i64 kk) (.int .u64 (old : Int)) (.int .u64 (size : Int)) (.slice sa S.length sc) (.slice da D.length dc)) w1.heap.size (.slice sa S.length sc) S := keep_row (Cv.ownB_next o1 hb3) fun g _ hB => hc.block g (by show ¬ _ = _; omega)
    have z2 : OwnS (put6 F w.heap.size (.int .i64 kd) (.int .i64 kk) (.int .u64 (old : Int)) (.int .u64 (size : Int)) (.slice sa S.length sc) (.slice da D.length dc)) w1.heap.size (.slice da D.length dc) D := keep_row (own_next o2 hb3 (Nat.le_refl _)) fun g _ hB => hc.block g (by show ¬ _ = _; omega)
    obtain ⟨a1, b1, c1, a2, b2, c2, e1, e2, r⟩ := own_rdf HW.out z1 z2
    injection e1 with g1 _ g3
    injection e2 with g4 _ g6
    subst g1 g3 g4 g6
    exact ⟨b1, b2, r⟩
  unfold put6 at hp hc hr
  have HB := hide (And.intro hp (And.intro hc (And.intro xb hr)))
  clear hp hc xb x6 hb2 hb3 h7 hr HO
  repeat go_step
  obtain ⟨hp, hc, xb, sb, db, hr⟩ := HB.out
  obtain ⟨s0, s1, s2, s3, s4, s5⟩ := hp.cells
  refine bodyPost_ret (v := .tuple #[.agg #[.int .i64 kd, .int .i64 kk, .int .u64 (old : Int), .int .u64 (size : Int), .slice sa S.length sc, .slice da D.length dc], .int .i64 0]) (by simp [results, Tryz.results35, go_sem, s0, s1, s2, s3, s4, s5]) rfl ⟨sa, sb, sc, da, db, dc, rfl, hr, xb.trans (hc.below (by rintro b rfl; omega))⟩
end Go.Proofs.YtipcenbndhnnhaaGreatDoor
