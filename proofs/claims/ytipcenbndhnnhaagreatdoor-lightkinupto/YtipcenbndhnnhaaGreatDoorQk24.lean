/-
  Own work: LWalkA, LClmA, LClmB, LBase, BWalkD.
-/
import Derived.Test.YtipcenbndhnnhaaGreatDoorQk16
import Derived.Test.YtipcenbndhnnhaaGreatDoorQk23
namespace Go.Proofs.YtipcenbndhnnhaaGreatDoor
open Go.RowKit
attribute [local go_sem ↓] Go.wp_at_zero Go.wp_at_succ
structure RdF (w : World) (sa : Option Addr) (sb sc : Nat) (da : Option Addr) (db dc : Nat) (P : PV) : Prop where
  p : RdPC w sa sb 0 sc da db 0 dc P
  cS : P.S.length ≤ sc
  nS : sa = none → sc = 0
  nD : da = none → dc = 0
theorem RdF.next {w W : World} {sa : Option Addr} {sb sc : Nat} {da : Option Addr} {db dc : Nat} {P : PV} (h : RdF w sa sb sc da db dc P) (hb : Below w.heap.size w W) : RdF W sa sb sc da db dc P := ⟨h.p.next hb, h.cS, h.nS, h.nD⟩
theorem own_cap {w : World} {B T s n c m : Nat} {ao : Option Addr} {xs : List Value} (h : w.ownsRow B T s (.slice ao n c) m xs) : n = m ∧ n ≤ c := by
  rcases h.2 with ⟨h1, h0⟩ | ⟨g, cap, cur, h1, hg, hh, hc1, _⟩
  · injection h1 with _ h2 h3
    subst h2 h3; exact ⟨h0.symm, Nat.le_refl _⟩
  · injection h1 with _ h2 h3
    subst h2 h3; exact ⟨rfl, hc1⟩
theorem own_rdf {w : World} {B : Nat} {sv dv : Value} {P : PV} (h : Well P) (o1 : Cv.Own w B sv P.S) (o2 : OwnS w B dv P.D) : ∃ sa sb sc da db dc, sv = .slice sa P.S.length sc ∧ dv = .slice da P.D.length dc ∧ RdF w sa sb sc da db dc P := by
  have ho := cnt_ok h.1
  have i1 := ho.hold
  have i2 := ho.hsz
  have i3 := ho.len
  have i4 := ho.hc
  have i5 := ho.k32
  obtain ⟨sa, sb, sc, rfl, r1, n1⟩ := own_read o1
  obtain ⟨da, db, dc, rfl, r2, r3, n2⟩ := owns_rds o2 (fun d hd => by have := h.2 d hd; omega)
  exact ⟨sa, sb, sc, da, db, dc, rfl, rfl, ⟨r1, r2, by omega, by omega, by omega, by omega, r3⟩, (own_cap o1).2, n1, n2⟩
theorem decode_full (w : World) (s : ByteArray) (hs : s.size ≤ 281474976710656) (P : PV) (h : dec s.data.toList = some P) :
    Calls Tryz.prog 70 #[.string s] w fun e w' => ∃ sa sb sc da db dc, e = .returned (.tuple #[.agg #[.int .i64 P.kd, .int .i64 P.k, .int .u64 (P.old : Int), .int .u64 (P.size : Int), .slice sa P.S.length sc, .slice da P.D.length dc], .int .i64 0]) ∧ RdF w' sa sb sc da db dc P ∧ (Cv.Own w' w.heap.size (.slice sa P.S.length sc) P.S ∧ OwnS w' w.heap.size (.slice da P.D.length dc) P.D) ∧ Below w.heap.size w w' := by
  refine (decode_any w s hs).mono ?_
  rintro e w' (⟨P', sv, dv, h1, rfl, h3, h4, h5⟩ | ⟨h1, _⟩)
  · rw [h] at h1; cases h1
    obtain ⟨sa, sb, sc, da, db, dc, rfl, rfl, r⟩ := own_rdf (enc_dec h).1 h3 h4
    exact ⟨sa, sb, sc, da, db, dc, rfl, r, ⟨h3, h4⟩, h5⟩
  · rw [h] at h1; cases h1
def tkE (k : Int) (s : ByteArray) : Int := if k < 1 ∨ 32 < k then 70 else match dec s.data.toList with | none => 140 | some P => if P.k = k then 0 else 150
theorem tkE_cases {k e0 : Int} {s : ByteArray} (h : tkE k s = e0) (h0 : e0 ≠ 0) : (chk k = 70 ∧ e0 = 70) ∨ (chk k = 0 ∧ dec s.data.toList = none ∧ e0 = 140) ∨ (chk k = 0 ∧ ∃ P, dec s.data.toList = some P ∧ P.k ≠ k ∧ e0 = 150) := by
  unfold tkE at h
  by_cases hk : k < 1 ∨ 32 < k
  · rw [if_pos hk] at h; exact .inl ⟨by rw [chk, if_pos hk], h.symm⟩
  · rw [if_neg hk] at h
    have hc : chk k = 0 := by rw [chk, if_neg hk]
    cases hd : dec s.data.toList with
    | none => rw [hd] at h; exact .inr (.inl ⟨hc, rfl, h.symm⟩)
    | some P =>
      rw [hd] at h
      by_cases hp : P.k = k
      · simp only [if_pos hp] at h; exact absurd h.symm h0
      · simp only [if_neg hp] at h; exact .inr (.inr ⟨hc, P, rfl, hp, h.symm⟩)
theorem tkE_zero {k : Int} {s : ByteArray} (h : tkE k s = 0) : (1 ≤ k ∧ k ≤ 32) ∧ ∃ P, dec s.data.toList = some P ∧ P.k = k := by
  unfold tkE at h
  by_cases hk : k < 1 ∨ 32 < k
  · rw [if_pos hk] at h; cases h
  · rw [if_neg hk] at h
    cases hd : dec s.data.toList with
    | none => rw [hd] at h; cases h
    | some P =>
      rw [hd] at h
      by_cases hp : P.k = k
      · exact ⟨by omega, P, rfl, hp⟩
      · simp only [if_neg hp] at h; cases h
set_option maxRecDepth 100000 in
set_option maxHeartbeats 1000000 in
theorem taken_no (w : World) (k : Int) (s : ByteArray) (hs : s.size ≤ 281474976710656) (e0 : Int) (he : tkE k s = e0) (h0 : e0 ≠ 0) :
    Calls Tryz.prog 35 #[.int .i64 k, .string s] w fun e w' => e = .returned (.tuple #[noP, .int .i64 e0]) ∧ Below w.heap.size w w' := by
  obtain ⟨W0, hW0, h6, hb0, _⟩ := box6 w (.int .i64 0) (.int .i64 0) (.int .u64 0) (.int .u64 0) (.slice none 0 0) (.slice none 0 0)
  have HX : Hid (∀ F, Below W0.heap.size W0 F → Six F w.heap.size (.int .i64 0) (.int .i64 0) (.int .u64 0) (.int .u64 0) (.slice none 0 0) (.slice none 0 0) ∧ Below w.heap.size w F) := fun F hF => ⟨h6.next hF, bnext hb0 hF⟩
  clear h6 hb0
  rcases tkE_cases he h0 with ⟨hc, rfl⟩ | ⟨hc, hd, rfl⟩ | ⟨hc, P, hd, hp, rfl⟩
  · have HC : Hid (∀ W, Calls Tryz.prog 48 #[.int .i64 k] W fun e w' => e = .returned (.int .i64 70) ∧ w' = W) := fun W => by rw [← hc]; exact check_any W k
    clear hc he h0 hs
    obtain ⟨x6, xb⟩ := HX.out _ (Below.refl _ _)
    obtain ⟨c0, c1, c2, c3, c4, c5⟩ := x6.cells
    have fz := x6.fz
    have hp := x6.put (.int .i64 0) (.int .i64 0) (.int .u64 0) (.int .u64 0) (.slice none 0 0) (.slice none 0 0)
    have hc := put6_ch W0 w.heap.size (.int .i64 0) (.int .i64 0) (.int .u64 0) (.int .u64 0) (.slice none 0 0) (.slice none 0 0)
    unfold put6 at hp hc
    have HB := hide (And.intro hp (And.intro hc xb))
    clear hp hc xb x6
    go_enter Tryz.func35, Tryz.ntmps35
    go_upto_region 1 with (fail)
    try rw [hW0]
    clear hW0
    go_upto_region 3 with (go_at_call 48; with_reducible refine (HC.out _).mono ?_; rintro e w1 ⟨rfl, rfl⟩)
    repeat go_step
    obtain ⟨hp, hc, xb⟩ := HB.out
    obtain ⟨s0, s1, s2, s3, s4, s5⟩ := hp.cells
    refine bodyPost_ret (v := .tuple #[noP, .int .i64 70]) (by simp [results, Tryz.results35, go_sem, s0, s1, s2, s3, s4, s5]) rfl ⟨rfl, xb.trans (hc.below (by rintro b rfl; omega))⟩
  · have HC : Hid (∀ W, Calls Tryz.prog 48 #[.int .i64 k] W fun e w' => e = .returned (.int .i64 0) ∧ w' = W) := fun W => by rw [← hc]; exact check_any W k
    have HD : Hid (∀ W, Calls Tryz.prog 70 #[.string s] W fun e w' => e = .returned (.tuple #[noP, .int .i64 140]) ∧ Below W.heap.size W w') := fun W => decode_none W s hs hd
    clear hc he h0 hs hd
    go_enter Tryz.func35, Tryz.ntmps35
    go_upto_region 1 with (fail)
    try rw [hW0]
    clear hW0
    go_upto_region 5 with (first
      | (go_at_call 48; with_reducible refine (HC.out _).mono ?_; rintro e w1 ⟨rfl, rfl⟩)
      | (go_at_call 70; with_reducible refine (HD.out _).mono ?_; rintro e w2 ⟨rfl, hb2⟩))
    obtain ⟨F, hF, h7, hb3, _⟩ := box6 w2 (.int .i64 0) (.int .i64 0) (.int .u64 0) (.int .u64 0) (.slice none 0 0) (.slice none 0 0)
    try rw [hF]
    clear hF h7
    obtain ⟨x6, xb⟩ := HX.out _ (bnext hb2 hb3)
    obtain ⟨c0, c1, c2, c3, c4, c5⟩ := x6.cells
    have fz := x6.fz
    have hp := x6.put (.int .i64 0) (.int .i64 0) (.int .u64 0) (.int .u64 0) (.slice none 0 0) (.slice none 0 0)
    have hc := put6_ch F w.heap.size (.int .i64 0) (.int .i64 0) (.int .u64 0) (.int .u64 0) (.slice none 0 0) (.slice none 0 0)
    unfold put6 at hp hc
    have HB := hide (And.intro hp (And.intro hc xb))
    clear hp hc xb x6 hb2 hb3
    repeat go_step
    obtain ⟨hp, hc, xb⟩ := HB.out
    obtain ⟨s0, s1, s2, s3, s4, s5⟩ := hp.cells
    refine bodyPost_ret (v := .tuple #[noP, .int .i64 140]) (by simp [results, Tryz.results35, go_sem, s0, s1, s2, s3, s4, s5]) rfl ⟨rfl, xb.trans (hc.below (by rintro b rfl; omega))⟩
  · have HC : Hid (∀ W, Calls Tryz.prog 48 #[.int .i64 k] W fun e w' => e = .returned (.int .i64 0) ∧ w' = W) := fun W => by rw [← hc]; exact check_any W k
    have HD : Hid (∀ W, Calls Tryz.prog 70 #[.string s] W fun e w' => ∃ (kd kk : Int) (old size : Nat) (sa : Option Addr) (ns sc : Nat) (da : Option Addr) (nd' dc : Nat), (kk == k) = false ∧ ¬ kk = k ∧ e = .returned (.tuple #[.agg #[.int .i64 kd, .int .i64 kk, .int .u64 (old : Int), .int .u64 (size : Int), .slice sa ns sc, .slice da nd' dc], .int .i64 0]) ∧ Below W.heap.size W w') := fun W => (decode_full W s hs P hd).mono fun e w' ⟨sa, sb, sc, da, db, dc, h1, _, _, h3⟩ => ⟨P.kd, P.k, P.old, P.size, sa, P.S.length, sc, da, P.D.length, dc, by simpa using hp, hp, h1, h3⟩
    clear hc he h0 hs hd hp
    go_enter Tryz.func35, Tryz.ntmps35
    go_upto_region 1 with (fail)
    try rw [hW0]
    clear hW0
    go_upto_region 5 with (first
      | (go_at_call 48; with_reducible refine (HC.out _).mono ?_; rintro e w1 ⟨rfl, rfl⟩)
      | (go_at_call 70; with_reducible refine (HD.out _).mono ?_; rintro e w2 ⟨kd, kk, old, size, sa, ns, sc, da, nd', dc, hkb, hkn, rfl, hb2⟩))
    obtain ⟨F, hF, h7, hb3, _⟩ := box6 w2 (.int .i64 kd) (.int .i64 kk) (.int .u64 (old : Int)) (.int .u64 (size : Int)) (.slice sa ns sc) (.slice da nd' dc)
    try rw [hF]
    clear hF
    have m1 := h7.cells.2.1
    obtain ⟨x6, xb⟩ := HX.out _ (bnext hb2 hb3)
    obtain ⟨c0, c1, c2, c3, c4, c5⟩ := x6.cells
    have fz := x6.fz
    have hp := x6.put (.int .i64 0) (.int .i64 0) (.int .u64 0) (.int .u64 0) (.slice none 0 0) (.slice none 0 0)
    have hc := put6_ch F w.heap.size (.int .i64 0) (.int .i64 0) (.int .u64 0) (.int .u64 0) (.slice none 0 0) (.slice none 0 0)
    unfold put6 at hp hc
    have HB := hide (And.intro hp (And.intro hc xb))
    clear hp hc xb x6 hb2 hb3 h7
    repeat go_step
    obtain ⟨hp, hc, xb⟩ := HB.out
    obtain ⟨s0, s1, s2, s3, s4, s5⟩ := hp.cells
    refine bodyPost_ret (v := .tuple #[noP, .int .i64 150]) (by simp [results, Tryz.results35, go_sem, s0, s1, s2, s3, s4, s5]) rfl ⟨rfl, xb.trans (hc.below (by rintro b rfl; omega))⟩
set_option maxRecDepth 100000 in
set_option maxHeartbeats 1000000 in
theorem taken_ok (w : World) (k : Int) (k1 : 1 ≤ k) (k2 : k ≤ 32) (s : ByteArray) (hs : s.size ≤ 281474976710656) (P : PV) (hd : dec s.data.toList = some P) (hk : P.k = k) :
    Calls Tryz.prog 35 #[.int .i64 k, .string s] w fun e w' => ∃ sa sb sc da db dc, e = .returned (.tuple #[.agg #[.int .i64 P.kd, .int .i64 k, .int .u64 (P.old : Int), .int .u64 (P.size : Int), .slice sa P.S.length sc, .slice da P.D.length dc], .int .i64 0]) ∧ RdF w' sa sb sc da db dc P ∧ Below w.heap.size w w' := by
  have hw := (enc_dec hd).1
  obtain ⟨kd, kk, old, size, S, D⟩ := P
  simp only at hk
  subst hk
  obtain ⟨W0, hW0, h6, hb0, _⟩ := box6 w (.int .i64 0) (.int .i64 0) (.int .u64 0) (.int .u64 0) (.slice none 0 0) (.slice none 0 0)
  have HX : Hid (∀ F, Below W0.heap.size W0 F → Six F w.heap.size (.int .i64 0) (.int .i64 0) (.int .u64 0) (.int .u64 0) (.slice none 0 0) (.slice none 0 0) ∧ Below w.heap.size w F) := fun F hF => ⟨h6.next hF, bnext hb0 hF⟩
  have HZ : Hid (w.heap.size < W0.heap.size) := h6.lt
  have HC : Hid (∀ W, Calls Tryz.prog 48 #[.int .i64 kk] W fun e w' => e = .returned (.int .i64 0) ∧ w' = W) := fun W => by
    have hc : chk kk = 0 := by rw [chk, if_neg (by omega)]
    rw [← hc]; exact check_any W kk
  have HD : Hid (∀ W, Calls Tryz.prog 70 #[.string s] W fun e w' => ∃ sa sc da dc, e = .returned (.tuple #[.agg #[.int .i64 kd, .int .i64 kk, .int .u64 (old : Int), .int .u64 (size : Int), .slice sa S.length sc, .slice da D.length dc], .int .i64 0]) ∧ Hid (Cv.Own w' W.heap.size (.slice sa S.length sc) S ∧ OwnS w' W.heap.size (.slice da D.length dc) D) ∧ Below W.heap.size W w') := fun W => (decode_full W s hs _ hd).mono fun e w' ⟨sa, sb, sc, da, db, dc, h1, _, h2, h3⟩ => ⟨sa, sc, da, dc, h1, h2, h3⟩
  have HW := hide hw
  clear h6 hb0 hs hd k1 k2 hw
  go_enter Tryz.func35, Tryz.ntmps35
  go_upto_region 1 with (fail)
  try rw [hW0]
  clear hW0
  go_upto_region 5 with (first
    | (go_at_call 48; with_reducible refine (HC.out _).mono ?_; rintro e w1 ⟨rfl, rfl⟩)
    | (go_at_call 70; with_reducible refine (HD.out _).mono ?_; rintro e w2 ⟨sa, sc, da, dc, rfl, HO, hb2⟩))
  obtain ⟨F, hF, h7, hb3, _⟩ := box6 w2 (.int .i64 kd) (.int .i64 kk) (.int .u64 (old : Int)) (.int .u64 (size : Int)) (.slice sa S.length sc) (.slice da D.length dc)
  try rw [hF]
  clear hF
  obtain ⟨m0, m1, m2, m3, m4, m5⟩ := h7.cells
  obtain ⟨x6, xb⟩ := HX.out _ (bnext hb2 hb3)
  obtain ⟨c0, c1, c2, c3, c4, c5⟩ := x6.cells
  have fz := x6.fz
  have hp := x6.put (.int .i64 kd) (.int .i64 kk) (.int .u64 (old : Int)) (.int .u64 (size : Int)) (.slice sa S.length sc) (.slice da D.length dc)
  have hc := put6_ch F w.heap.size (.int .i64 kd) (.int .i64 kk) (.int .u64 (old : Int)) (.int .u64 (size : Int)) (.slice sa S.length sc) (.slice da D.length dc)
  have hr : ∃ sb db, RdF (put6 F w.heap.size (.int .i64 kd) (.int .i64 kk) (.int .u64 (old : Int)) (.int .u64 (size : Int)) (.slice sa S.length sc) (.slice da D.length dc)) sa sb sc da db dc ⟨kd, kk, old, size, S, D⟩ := by
    obtain ⟨o1, o2⟩ := HO.out
    have hz := HZ.out
    have z1 : Cv.Own (put6 F w.heap.size (.int .i64 kd) (.int .i64 kk) (.int .u64 (old : Int)) (.int .u64 (size : Int)) (.slice sa S.length sc) (.slice da D.length dc)) w1.heap.size (.slice sa S.length sc) S := keep_row (Cv.ownB_next o1 hb3) fun g _ hB => hc.block g (by show ¬ _ = _; omega)
    have z2 : OwnS (put6 F w.heap.size (.int .i64 kd) (.int .i64 kk) (.int .u64 (old : Int)) (.int .u64 (size : Int)) (.slice sa S.length sc) (.slice da D.length dc)) w1.heap.size (.slice da D.length dc) D := keep_row (own_next o2 hb3 (Nat.le_refl _)) fun g _ hB => hc.block g (by show ¬ _ = _; omega)
    obtain ⟨a1, b1, c1, a2, b2, c2, e1, e2, r⟩ := own_rdf HW.out z1 z2
    injection e1 with g1 _ g3
    injection e2 with g4 _ g6
    subst g1 g3 g4 g6
    exact ⟨b1, b2, r⟩
  unfold put6 at hp hc hr
  have HB := hide (And.intro hp (And.intro hc (And.intro xb hr)))
  clear hp hc xb x6 hb2 hb3 h7 hr HO
  repeat go_step
  obtain ⟨hp, hc, xb, sb, db, hr⟩ := HB.out
  obtain ⟨s0, s1, s2, s3, s4, s5⟩ := hp.cells
  refine bodyPost_ret (v := .tuple #[.agg #[.int .i64 kd, .int .i64 kk, .int .u64 (old : Int), .int .u64 (size : Int), .slice sa S.length sc, .slice da D.length dc], .int .i64 0]) (by simp [results, Tryz.results35, go_sem, s0, s1, s2, s3, s4, s5]) rfl ⟨sa, sb, sc, da, db, dc, rfl, hr, xb.trans (hc.below (by rintro b rfl; omega))⟩
end Go.Proofs.YtipcenbndhnnhaaGreatDoor
namespace Go.Proofs.YtipcenbndhnnhaaGreatDoor
open Go.RowKit
attribute [local go_sem ↓] Go.wp_at_zero Go.wp_at_succ
def cK (l : List (Nat × ByteArray)) : List Value := l.flatMap fun c => [.int .u64 (c.1 : Int), .string c.2]
theorem cK_cons (c : Nat × ByteArray) (l : List (Nat × ByteArray)) : cK (c :: l) = .int .u64 (c.1 : Int) :: .string c.2 :: cK l := rfl
abbrev noC : Nat × ByteArray := (0, ByteArray.empty)
theorem cK_at (l : List (Nat × ByteArray)) : ∀ j, j < l.length → (cK l)[j * 2]? = some (.int .u64 ((l.getD j noC).1 : Int)) ∧ (cK l)[j * 2 + 1]? = some (.string (l.getD j noC).2) := by
  induction l with
  | nil => intro j hj; exact absurd hj (by simp)
  | cons c l ih =>
    intro j hj
    cases j with
    | zero => exact ⟨rfl, rfl⟩
    | succ j =>
      have := ih j (by simpa using hj)
      rw [cK_cons, show (j + 1) * 2 = j * 2 + 1 + 1 by omega, List.getElem?_cons_succ, List.getElem?_cons_succ, List.getElem?_cons_succ, List.getElem?_cons_succ, List.getD_cons_succ]
      exact this
structure RdK (w : World) (ao : Option Addr) (b off n : Nat) (l : List (Nat × ByteArray)) : Prop where
  hl : l.length = n
  ptr : 0 < n → ao = some ⟨b, off, none⟩
  rng : w.rangeAt b off (cK l)
  sz : ∀ c ∈ l, c.2.size ≤ 9223372036854775807
theorem RdK.at {w : World} {ao : Option Addr} {b off n : Nat} {l : List (Nat × ByteArray)} (h : RdK w ao b off n l) {j : Nat} (hj : j < n) : w.cell? ⟨b, off + j * 2, none⟩ = some (.int .u64 ((l.getD j noC).1 : Int)) ∧ w.cell? ⟨b, off + j * 2 + 1, none⟩ = some (.string (l.getD j noC).2) := by
  have := cK_at l j (by rw [h.hl]; exact hj)
  exact ⟨h.rng _ _ this.1, by rw [Nat.add_assoc]; exact h.rng _ _ this.2⟩
theorem RdK.lt {w : World} {ao : Option Addr} {b off n : Nat} {l : List (Nat × ByteArray)} (h : RdK w ao b off n l) (h0 : 0 < n) : b < w.heap.size := World.block_lt_of_cell? w _ (h.at h0).1
theorem RdK.next {w W : World} {ao : Option Addr} {b off n : Nat} {l : List (Nat × ByteArray)} (h : RdK w ao b off n l) (hb : Below w.heap.size w W) : RdK W ao b off n l := by
  refine ⟨h.hl, h.ptr, ?_, h.sz⟩
  by_cases h0 : 0 < n
  · exact range_below hb (h.lt h0) h.rng
  · have : l = [] := List.length_eq_zero_iff.1 (by rw [h.hl]; omega)
    rw [this]; intro j v hv; cases hv
theorem rdk_one (w : World) (i : Nat) (s : ByteArray) (hs : s.size ≤ 9223372036854775807) : RdK (w.alloc (.cells #[.int .u64 (i : Int), .string s] 46)) (some ⟨w.heap.size, 0, none⟩) w.heap.size 0 1 [(i, s)] :=
  ⟨rfl, fun _ => rfl, range_new w [.int .u64 (i : Int), .string s] 46, fun c hc => by rw [List.mem_singleton.1 hc]; exact hs⟩
abbrev ixs (l : List (Nat × ByteArray)) : List Nat := l.map Prod.fst
abbrev vls (l : List (Nat × ByteArray)) : List ByteArray := l.map Prod.snd
theorem ixs_at (l : List (Nat × ByteArray)) (j : Nat) : (ixs l).getD j 0 = (l.getD j noC).1 := by
  rw [List.getD_eq_getElem?_getD, List.getD_eq_getElem?_getD, List.getElem?_map]
  cases l[j]? <;> rfl
theorem ixs_eq {S : List Nat} {l : List (Nat × ByteArray)} (h : S.length = l.length) (he : ∀ j, j < S.length → S.getD j 0 = (l.getD j noC).1) : S = ixs l := by
  refine List.ext_getElem (by rw [h, List.length_map]) fun j h1 h2 => ?_
  have := he j h1
  rw [← ixs_at, List.getD_eq_getElem?_getD, List.getD_eq_getElem?_getD, List.getElem?_eq_getElem h1, List.getElem?_eq_getElem h2] at this
  exact this
set_option maxRecDepth 100000 in
set_option maxHeartbeats 1000000 in
theorem areof_any (w : World) (sa : Option Addr) (sb so sc : Nat) (S : List Nat) (hs : RdU w sa sb so S.length S) (hm : S.length ≤ 17592186044416) (ca : Option Addr) (cb co cn cc : Nat) (l : List (Nat × ByteArray)) (hc : RdK w ca cb co cn l) (r : Bool) (hr : decide (S = ixs l) = r) :
    Calls Tryz.prog 71 #[.slice sa S.length sc, .slice ca cn cc] w fun e w' => e = .returned (.bool r) ∧ Below w.heap.size w w' := by
  have hcl := hc.hl
  by_cases hl : S.length = cn
  · have HR : Hid (∀ W, Below w.heap.size w W → RdU W sa sb so S.length S ∧ RdK W ca cb co cn l) := fun W hb => ⟨hs.next hb, hc.next hb⟩
    have HE : Hid (decide (S = ixs l) = r ∧ S.length = l.length) := ⟨hr, by omega⟩
    have hm5 : (S.length : Int) ≤ 17592186044416 := by omega
    clear hs hc hr hm
    obtain ⟨n, hn⟩ : ∃ n, S.length = n := ⟨_, rfl⟩
    rw [hn] at hl hm5 HR ⊢
    have HN := hide hn
    clear hn hcl
    subst hl
    go_enter Tryz.func71, Tryz.ntmps71
    go_wp2
    go_loopg [14] n (fun g i wr => ∃ k : Nat, k ≤ n ∧ g = n - k ∧ i = .int .i64 (k : Int) ∧ (∀ j, j < k → S.getD j 0 = (l.getD j noC).1) ∧ Below w.heap.size w wr)
    case atStart =>
      go_light
      exact ⟨0, Nat.zero_le _, rfl, rfl, fun j hj => absurd hj (Nat.not_lt_zero j), Below.refl _ _⟩
    case round =>
      obtain ⟨k, hk, rfl, rfl, he, hb⟩ := hrel
      have hk0 : (0 : Int) ≤ (k : Int) := Int.natCast_nonneg _
      by_cases hlt : k < n
      · obtain ⟨r1, r2⟩ := HR.out wr hb
        obtain rfl := r1.ptr (by omega)
        obtain rfl := r2.ptr (by omega)
        have c1 := r1.at hlt
        have c2 := (r2.at hlt).1
        have hz : (k : Int) < (n : Int) := by omega
        obtain ⟨x, hx⟩ : ∃ x, S.getD k 0 = x := ⟨_, rfl⟩
        obtain ⟨y, hy⟩ : ∃ y, (l.getD k noC).1 = y := ⟨_, rfl⟩
        rw [hx] at c1
        rw [hy] at c2
        have HX : Hid (S.getD k 0 = x ∧ (l.getD k noC).1 = y) := ⟨hx, hy⟩
        have H0 : Hid ((∀ j, j < k → S.getD j 0 = (l.getD j noC).1) ∧ Below w.heap.size w wr) := ⟨he, hb⟩
        clear hx hy r1 r2 he hb
        by_cases hxy : y = x
        · subst hxy
          go_wp2
          go_roundg (n - (k + 1))
          case rel =>
            go_light
            refine ⟨k + 1, by omega, rfl, by go_num, fun j hj => ?_, H0.out.2⟩
            by_cases hjk : j = k
            · subst hjk; rw [HX.out.1, HX.out.2]
            · exact H0.out.1 j (by omega)
          case measure => go_light; omega
        · have hxz : ¬ (y : Int) = (x : Int) := by omega
          have hxb : ((y : Int) == (x : Int)) = false := by simpa using hxz
          have HF : Hid (false = r) := by
            rw [← HE.out.1]
            refine (decide_eq_false fun he => hxy ?_).symm
            have := congrArg (fun t => List.getD t k 0) he
            simp only [ixs_at] at this
            rw [HX.out.1, HX.out.2] at this
            exact this.symm
          go_wp2
          go_ret
          obtain rfl := HF.out
          exact ⟨rfl, H0.out.2⟩
      · have hz : ¬ (k : Int) < (n : Int) := by omega
        have HF : Hid (true = r) := by
          rw [← HE.out.1]
          exact (decide_eq_true (ixs_eq HE.out.2 fun j hj => he j (by have := HN.out; omega))).symm
        go_wp2
        go_ret
        obtain rfl := HF.out
        exact ⟨rfl, hb⟩
  · have HF : false = r := by
      rw [← hr]
      exact (decide_eq_false fun he => hl (by rw [he, List.length_map, hcl])).symm
    subst HF
    have hz : ¬ (S.length : Int) = (cn : Int) := by omega
    have hzb : ((S.length : Int) == (cn : Int)) = false := by simpa using hz
    clear hs hc hr hm
    go_enter Tryz.func71, Tryz.ntmps71
    go_wp2
    go_ret
    exact ⟨rfl, Below.refl _ _⟩
end Go.Proofs.YtipcenbndhnnhaaGreatDoor
namespace Go.Proofs.YtipcenbndhnnhaaGreatDoor
open Go.RowKit
attribute [local go_sem ↓] Go.wp_at_zero Go.wp_at_succ
set_option maxRecDepth 100000 in
theorem isof_any (w : World) (kd k : Int) (old size : Nat) (sa : Option Addr) (sb so sc : Nat) (S : List Nat) (hs : RdU w sa sb so S.length S) (hm : S.length ≤ 17592186044416) (da : Option Addr) (dn dc : Nat) (ca : Option Addr) (cb co cn cc : Nat) (l : List (Nat × ByteArray)) (hc : RdK w ca cb co cn l) (r : Bool) (hr : decide ((kd = 1 ∨ kd = 2) ∧ S = ixs l) = r) :
    Calls Tryz.prog 36 #[vP kd k old size (.slice sa S.length sc) (.slice da dn dc), .slice ca cn cc] w fun e w' => e = .returned (.bool r) ∧ Below w.heap.size w w' := by
  obtain ⟨W0, hW0, h6, hb0, _⟩ := box6 w (.int .i64 kd) (.int .i64 k) (.int .u64 (old : Int)) (.int .u64 (size : Int)) (.slice sa S.length sc) (.slice da dn dc)
  obtain ⟨m0, m1, m2, m3, m4, m5⟩ := h6.cells
  have HA : Hid (∀ q, decide (S = ixs l) = q → Calls Tryz.prog 71 #[.slice sa S.length sc, .slice ca cn cc] W0 fun e w' => e = .returned (.bool q) ∧ Below W0.heap.size W0 w') := fun q hq => areof_any W0 sa sb so sc S (hs.next hb0) hm ca cb co cn cc l (hc.next hb0) q hq
  clear hs hc hm h6
  unfold vP
  by_cases h1 : kd = 1
  · subst h1
    have HA' := HA.out r (by rw [← hr]; simp)
    clear hr HA
    go_enter Tryz.func36, Tryz.ntmps36
    go_upto_region 1 with (fail)
    try rw [hW0]
    clear hW0
    go_wp2_with (go_at_call 71; with_reducible refine HA'.mono ?_; rintro e w1 ⟨rfl, hb1⟩)
    go_ret
    exact ⟨rfl, bnext hb0 hb1⟩
  · have h1b : (kd == 1) = false := by simpa using h1
    by_cases h2 : kd = 2
    · subst h2
      have HA' := HA.out r (by rw [← hr]; simp)
      clear hr HA
      go_enter Tryz.func36, Tryz.ntmps36
      go_upto_region 1 with (fail)
      try rw [hW0]
      clear hW0
      go_wp2_with (go_at_call 71; with_reducible refine HA'.mono ?_; rintro e w1 ⟨rfl, hb1⟩)
      go_ret
      exact ⟨rfl, bnext hb0 hb1⟩
    · have h2b : (kd == 2) = false := by simpa using h2
      obtain rfl : false = r := by rw [← hr]; exact (decide_eq_false fun h => h.1.elim h1 h2).symm
      clear hr HA
      go_enter Tryz.func36, Tryz.ntmps36
      go_upto_region 1 with (fail)
      try rw [hW0]
      clear hW0
      go_wp2
      go_ret
      exact ⟨rfl, hb0⟩
theorem vls_take (l : List (Nat × ByteArray)) {j : Nat} (h : j < l.length) : vls (l.take (j + 1)) = vls (l.take j) ++ [(l.getD j noC).2] := by
  unfold vls
  rw [List.take_add_one, List.map_append, List.getD_eq_getElem?_getD, List.getElem?_eq_getElem h]; rfl
set_option maxRecDepth 100000 in
set_option maxHeartbeats 1000000 in
theorem values_any (w : World) (ca : Option Addr) (cb co cn cc : Nat) (l : List (Nat × ByteArray)) (hc : RdK w ca cb co cn l) (hm : cn ≤ 8796093021952) :
    Calls Tryz.prog 38 #[.slice ca cn cc] w fun e w' => ∃ v, e = .returned v ∧ OwnS w' w.heap.size v (vls l) ∧ Below w.heap.size w w' := by
  have HR : Hid (∀ W, Below w.heap.size w W → RdK W ca cb co cn l) := fun W hb => hc.next hb
  have HL : Hid (l.length = cn ∧ ∀ c ∈ l, c.2.size ≤ 9223372036854775807) := ⟨hc.hl, hc.sz⟩
  have hM := make_S w cn (by omega)
  have hO := own_made w cn (by omega)
  have hm5 : (cn : Int) ≤ 8796093021952 := by omega
  have hb0 := bal (Below.refl w.heap.size w) (.cells (madeCells #[.string ByteArray.empty] cn) 9)
  obtain ⟨W0, hW0⟩ : ∃ W0, w.alloc (.cells (madeCells #[.string ByteArray.empty] cn) 9) = W0 := ⟨_, rfl⟩
  rw [hW0] at hM hO hb0
  have HS : Hid (OwnS W0 w.heap.size (.slice (some ⟨w.heap.size, 0, none⟩) 0 cn) [] ∧ Below w.heap.size w W0) := ⟨hO, hb0⟩
  clear hc hm hO hb0 hW0
  go_enter Tryz.func38, Tryz.ntmps38
  go_wp2
  go_loopg [3, 11] cn (fun g v i wr => ∃ k : Nat, k ≤ cn ∧ g = cn - k ∧ i = .int .i64 (k : Int) ∧ OwnS wr w.heap.size v (vls (l.take k)) ∧ Below w.heap.size w wr)
  case atStart =>
    go_light
    exact ⟨0, Nat.zero_le _, rfl, rfl, HS.out.1, HS.out.2⟩
  case round =>
    obtain ⟨k, hk, rfl, rfl, ho, hb⟩ := hrel
    have hk0 : (0 : Int) ≤ (k : Int) := Int.natCast_nonneg _
    by_cases hlt : k < cn
    · have r2 := HR.out wr hb
      obtain rfl := r2.ptr (by omega)
      obtain ⟨c1, c2⟩ := r2.at hlt
      have hz : (k : Int) < (cn : Int) := by omega
      have HV : Hid (vls (l.take (k + 1)) = vls (l.take k) ++ [(l.getD k noC).2] ∧ (l.getD k noC).2.size ≤ 9223372036854775807) := ⟨vls_take l (by have := HL.out.1; omega), by
        have hk' : k < l.length := by have := HL.out.1; omega
        refine HL.out.2 _ ?_
        rw [List.getD_eq_getElem?_getD, List.getElem?_eq_getElem hk']; exact List.getElem_mem _⟩
      have HLn : Hid ((vls (l.take k)).length ≤ 8796093021952) := by
        show (vls (l.take k)).length ≤ 8796093021952
        rw [List.length_map, List.length_take]; omega
      obtain ⟨x, hx⟩ : ∃ x, (l.getD k noC).1 = x := ⟨_, rfl⟩
      obtain ⟨y, hy⟩ : ∃ y, (l.getD k noC).2 = y := ⟨_, rfl⟩
      rw [hx] at c1
      rw [hy] at c2 HV
      have H0 := hide (And.intro ho hb)
      generalize vls (l.take k) = Lk at *
      clear hx hy r2 ho hb
      go_upto_region 5 with (fail)
      obtain ⟨w5, hw5⟩ : ∃ w5, wr.alloc (.cells #[.int .u64 (x : Int), .string y] 46) = w5 := ⟨_, rfl⟩
      try rw [hw5]
      have H5 : Hid (OwnS w5 w.heap.size u3 Lk ∧ Below w.heap.size w w5) := by rw [← hw5]; exact ⟨own_al H0.out.1 _, bal H0.out.2 _⟩
      have k5 := ((rdk_one wr x y HV.out.2).at (j := 0) (by decide)).2
      rw [hw5] at k5
      simp only [Nat.zero_mul, Nat.add_zero, Nat.zero_add] at k5
      clear hw5 H0 c1 c2
      go_wp2_with (at_builtin; refine wpList_append_S _ rfl _ _ rfl w.heap.size _ Lk rfl (own_al H5.out.1 _) (some ⟨w5.heap.size, 0, none⟩) w5.heap.size 0 1 [y] rfl (rds_one w5 y HV.out.2) (fun h => by cases h) ?c1 ?c2 ?_)
      case c1 => have := HLn.out; simp; omega
      case c2 => have := H5.out.2.size; simp; omega
      intro v' w3 o3 hb3
      have HO3 := hide (And.intro o3 ((bal H5.out.2 (.cells #[.string y] 9)).trans hb3))
      clear o3 hb3
      go_wp2
      go_roundg (cn - (k + 1))
      case rel =>
        go_light
        exact ⟨k + 1, by omega, rfl, by go_num, by rw [HV.out.1]; exact HO3.out.1, HO3.out.2⟩
      case measure => go_light; omega
    · have hz : ¬ (k : Int) < (cn : Int) := by omega
      obtain rfl : k = cn := by omega
      have HO := hide (And.intro ho hb)
      clear ho hb
      go_wp2
      go_ret
      refine ⟨_, rfl, ?_, HO.out.2⟩
      have := HO.out.1
      rw [List.take_of_length_le (by have := HL.out.1; omega)] at this
      exact this
end Go.Proofs.YtipcenbndhnnhaaGreatDoor
namespace Go.Proofs.YtipcenbndhnnhaaGreatDoor
open Go.RowKit
theorem list_loop (bs : ByteArray) : ∀ (n i : Nat) (r : List UInt8), bs.size - i = n → ByteArray.toList.loop bs i r = r.reverse ++ bs.data.toList.drop i := by
  intro n
  induction n with
  | zero =>
    intro i r h
    rw [ByteArray.toList.loop, if_neg (by omega)]
    rw [List.drop_eq_nil_of_le (by simp; exact (by omega : bs.size ≤ i)), List.append_nil]
  | succ n ih =>
    intro i r h
    have hi : i < bs.size := by omega
    rw [ByteArray.toList.loop, if_pos hi, ih (i + 1) _ (by omega)]
    have hl : i < bs.data.toList.length := by simp; exact hi
    rw [List.drop_eq_getElem_cons hl, List.reverse_cons, List.append_assoc]
    have : bs.get! i = bs.data.toList[i] := by
      show bs.data[i]! = _
      have hi2 : i < bs.data.size := hi
      rw [getElem!_pos bs.data i hi2]
      simp
    rw [this]; rfl
theorem list_eq (bs : ByteArray) : bs.toList = bs.data.toList := by
  rw [ByteArray.toList, list_loop bs bs.size 0 [] rfl]; rfl
theorem list_beq {x y : ByteArray} (h : x ≠ y) : (x.toList == y.toList) = false := by
  rw [list_eq, list_eq]
  simp only [beq_eq_false_iff_ne, ne_eq]
  intro e
  exact h (ByteArray.ext (Array.toList_inj.1 e))
theorem list_ne {x y : ByteArray} (h : x ≠ y) : ¬ x.toList = y.toList := fun e => by
  have := list_beq h
  rw [e] at this
  simp at this
theorem root_ne {n o : Nat} {d c : ByteArray} (h : ¬ (n = o ∧ d = c)) : ¬ n = o ∨ (n = o ∧ d ≠ c) := by
  by_cases h1 : n = o
  · exact .inr ⟨h1, fun h2 => h ⟨h1, h2⟩⟩
  · exact .inl h1
end Go.Proofs.YtipcenbndhnnhaaGreatDoor
namespace Go.Proofs.YtipcenbndhnnhaaGreatDoor
open Go.RowKit
open Cv (RdC zl cU tno)
open Pl (pw)
attribute [local go_sem ↓] Go.wp_at_zero Go.wp_at_succ
theorem Rt.drew {w : World} {g n : Nat} {d : ByteArray} (h : Rt w g n d) : Rt w.drew g n d := ⟨h.c0, h.c1, h.f0, h.f1⟩
abbrev noR : Value := .agg #[.int .u64 0, .string ⟨#[]⟩]
theorem root_start {w W0 : World} {kd k : Int} {old size : Nat} {vs vd : Value} (h : (w.alloc (.cells #[.int .i64 kd, .int .i64 k, .int .u64 (old : Int), .int .u64 (size : Int), vs, vd] 38)).alloc (.cells #[.int .u64 0, .string ⟨#[]⟩] 32) = W0) :
    Below w.heap.size w W0 ∧ Six W0 w.heap.size (.int .i64 kd) (.int .i64 k) (.int .u64 (old : Int)) (.int .u64 (size : Int)) vs vd ∧ Rt W0 (w.heap.size + 1) 0 ⟨#[]⟩ ∧ W0.heap.size = w.heap.size + 2 := by
  subst h
  refine ⟨bal (bal (Below.refl _ _) _) _, ?_, ?_, by simp⟩
  · exact (six_new w _ _ _ _ _ _).next (bal (Below.refl _ _) _)
  · have := rt_new (w.alloc (.cells #[.int .i64 kd, .int .i64 k, .int .u64 (old : Int), .int .u64 (size : Int), vs, vd] 38)) 0 ⟨#[]⟩ 32
    rw [World.size_alloc] at this
    exact this
theorem rt_put {w : World} {g n : Nat} {d : ByteArray} (h : Rt w g n d) (a : Int) (b : ByteArray) :
    ((w.setCell ⟨g, 0, none⟩ (.int .u64 a)).setCell ⟨g, 1, none⟩ (.string b)).cell? ⟨g, 0, none⟩ = some (.int .u64 a) ∧ ((w.setCell ⟨g, 0, none⟩ (.int .u64 a)).setCell ⟨g, 1, none⟩ (.string b)).cell? ⟨g, 1, none⟩ = some (.string b) ∧ ChT (fun x => x = g) w ((w.setCell ⟨g, 0, none⟩ (.int .u64 a)).setCell ⟨g, 1, none⟩ (.string b)) := by
  refine ⟨?_, ?_, ((ChT.refl (fun x => x = g) w).set g 0 _ rfl).set g 1 _ rfl⟩
  · exact (World.cell?_setCell_other _ _ _ _ (by simp)).trans (World.cell?_setCell_same _ _ _ h.c0)
  · exact World.cell?_setCell_same _ _ _ ((World.cell?_setCell_other _ _ _ _ (by simp)).trans h.c1)
def okB (kd k : Int) (old size : Nat) (S : List Nat) (D : List ByteArray) : Prop := (kd = 2 ∧ (1 ≤ k ∧ k ≤ 32) ∧ old = 0) ∧ (Cv.errS size S = 0 ∧ fil k (Cv.rstS size S).length D)
instance (kd k : Int) (old size : Nat) (S : List Nat) (D : List ByteArray) : Decidable (okB kd k old size S D) := by unfold okB; infer_instance
end Go.Proofs.YtipcenbndhnnhaaGreatDoor
