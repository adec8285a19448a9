/-
  Proofs as bytes, as plain functions. Own work.
-/
import Derived.Test.YtelglfmppmdmoaaWSpec
import Derived.Test.YtelglfmppmdmoaaCvSpec3
namespace Go.Proofs.Ytelglfmppmdmoaa
open Cv (rst cov Chain errS Til)
/-- A proof as plain data. -/
structure PV where
  kd : Int
  k : Int
  old : Nat
  size : Nat
  S : List Nat
  D : List ByteArray
/-- How many digests a proof with these numbers has. -/
def cnt (kd k : Int) (old size : Nat) (S : List Nat) : Option Nat :=
  if 1 ≤ k ∧ k ≤ 32 ∧ size ≤ 2 ^ 40 then
    if kd = 1 then (if old = 0 ∧ S.length = 1 ∧ errS size S = 0 then some (rst 0 size S).length else none)
    else if kd = 2 then (if old = 0 ∧ errS size S = 0 then some (rst 0 size S).length else none)
    else if kd = 3 then (if old ≤ size ∧ S = [] then some ((cov 0 old).length + (cov old size).length) else none)
    else none
  else none
theorem til_len {A : Nat → Prop} {q : Nat} : ∀ {L : List (Nat × Nat)} {p : Nat}, Til A q p L → L.length + p ≤ q := by
  intro L
  induction L with
  | nil => intro p h; have := h.1; simp; omega
  | cons b L ih =>
    intro p h
    obtain ⟨h1, h2, h3, h4, h5, h6⟩ := h
    have := ih h6
    have := Cv.blk_lt b.1 b.2
    simp; omega
theorem rst_le {n : Nat} {S : List Nat} (hn : n ≤ 2 ^ 40) (hc : Chain 0 S n) : (rst 0 n S).length ≤ n := til_len (Cv.rst_but n S hn hc)
theorem chain_len : ∀ {S : List Nat} {x n : Nat}, Chain x S n → S.length + x ≤ n := by
  intro S
  induction S with
  | nil => intro x n h; have : x ≤ n := h; simp; omega
  | cons i S ih => intro x n h; have := ih h.2; have := h.1; simp; omega
/-- What is known of a proof whose digests are told. -/
structure CntOk (kd k : Int) (old size : Nat) (S : List Nat) (c : Nat) : Prop where
  kd1 : 1 ≤ kd
  kd3 : kd ≤ 3
  k1 : 1 ≤ k
  k32 : k ≤ 32
  hsz : size ≤ 1099511627776
  hc : c ≤ 1099511627776
  hold : old ≤ size
  len : S.length ≤ size
  chain : Chain 0 S size
  one : kd = 1 → S.length = 1 ∧ old = 0
  two : kd = 2 → old = 0
  three : kd = 3 → S = []
theorem cnt_ok {kd k : Int} {old size c : Nat} {S : List Nat} (h : cnt kd k old size S = some c) : CntOk kd k old size S c := by
  unfold cnt at h
  have e40 : (2 : Nat) ^ 40 = 1099511627776 := by decide
  split at h
  · rename_i h0
    obtain ⟨g1, g2, g3⟩ := h0
    split at h
    · rename_i hk
      split at h
      · rename_i h1
        obtain ⟨a1, a2, a3⟩ := h1
        have hc := (Cv.errS_ok a3).2.2.2
        have hl := chain_len hc
        have hr := rst_le g3 hc
        cases h
        exact ⟨by omega, by omega, g1, g2, by omega, by omega, by omega, by omega, hc, fun _ => ⟨a2, a1⟩, fun h => by omega, fun h => by omega⟩
      · cases h
    · rename_i hk1
      split at h
      · rename_i hk
        split at h
        · rename_i h1
          obtain ⟨a1, a3⟩ := h1
          have hc := (Cv.errS_ok a3).2.2.2
          have hl := chain_len hc
          have hr := rst_le g3 hc
          cases h
          exact ⟨by omega, by omega, g1, g2, by omega, by omega, by omega, by omega, hc, fun h => by omega, fun _ => a1, fun h => by omega⟩
        · cases h
      · rename_i hk2
        split at h
        · rename_i hk
          split at h
          · rename_i h1
            obtain ⟨a1, a3⟩ := h1
            have h1 := Cv.cov_forty old (by omega)
            have h2 := Cv.cov_len old size a1 g3
            cases h
            subst a3
            exact ⟨by omega, by omega, g1, g2, by omega, by omega, a1, by simp, Nat.zero_le _, fun h => by omega, fun h => by omega, fun _ => rfl⟩
          · cases h
        · cases h
  · cases h
/-- All texts one behind another. -/
def flat (D : List ByteArray) : List UInt8 := (D.map (·.data.toList)).flatten
theorem flat_nil : flat [] = [] := rfl
theorem flat_cons (d : ByteArray) (D : List ByteArray) : flat (d :: D) = d.data.toList ++ flat D := by simp [flat]
theorem flat_app (D E : List ByteArray) : flat (D ++ E) = flat D ++ flat E := by simp [flat]
theorem size_list (d : ByteArray) : d.data.toList.length = d.size := Array.length_toList
theorem flat_len {k : Nat} : ∀ {D : List ByteArray}, (∀ d ∈ D, d.size = k) → (flat D).length = D.length * k := by
  intro D
  induction D with
  | nil => intro _; simp [flat]
  | cons d D ih =>
    intro h
    rw [flat_cons, List.length_append, size_list, h d (by simp), ih (fun x hx => h x (by simp [hx])), List.length_cons, Nat.add_mul, Nat.one_mul, Nat.add_comm]
/-- A set as bytes. -/
def laidL : Nat → List Nat → List UInt8
  | _, [] => []
  | x, i :: S => num (i - x) ++ laidL (i + 1) S
/-- The least that may stand behind a list. -/
def nxt : Nat → List Nat → Nat
  | x, [] => x
  | _, i :: S => nxt (i + 1) S
theorem laidL_app (i : Nat) : ∀ (S : List Nat) (x : Nat), laidL x (S ++ [i]) = laidL x S ++ num (i - nxt x S) := by
  intro S
  induction S with
  | nil => intro x; simp [laidL, nxt]
  | cons a S ih => intro x; rw [List.cons_append, laidL, ih, laidL, List.append_assoc, nxt]
theorem nxt_app (i : Nat) : ∀ (S : List Nat) (x : Nat), nxt x (S ++ [i]) = i + 1 := by
  intro S
  induction S with
  | nil => intro x; rfl
  | cons a S ih => intro x; rw [List.cons_append, nxt, ih]
theorem laidL_len : ∀ (S : List Nat) (x : Nat), S.length ≤ (laidL x S).length := by
  intro S
  induction S with
  | nil => intro x; simp [laidL]
  | cons a S ih => intro x; have := ih (a + 1); have := num_pos (a - x); simp [laidL]; omega
/-- A proof's bytes. -/
def mid (p : PV) : List UInt8 := if p.kd = 1 then num (p.S.getD 0 0) else if p.kd = 2 then num p.S.length ++ laidL 0 p.S else num p.old
def enc (p : PV) : List UInt8 := UInt8.ofNat p.kd.toNat :: UInt8.ofNat p.k.toNat :: (num p.size ++ (mid p ++ flat p.D))
def Well (p : PV) : Prop := cnt p.kd p.k p.old p.size p.S = some p.D.length ∧ ∀ d ∈ p.D, (d.size : Int) = p.k
instance (p : PV) : Decidable (Well p) := by unfold Well; infer_instance
/-- A number is read. -/
def nmb (l : List UInt8) : Option (Nat × List UInt8) := if (scan l 0 0).2.1 = 0 then some ((scan l 0 0).1, l.drop (scan l 0 0).2.2) else none
theorem nmb_num {n : Nat} (hn : n < 2 ^ 64) (t : List UInt8) : nmb (num n ++ t) = some (n, t) := by
  have h := scan_num t n 0 0 (by decide) (by simpa using hn) (by decide) (.inl rfl)
  rw [nmb, h]
  simp
theorem nmb_back {l r : List UInt8} {n : Nat} (h : nmb l = some (n, r)) : l = num n ++ r ∧ n < 2 ^ 64 := by
  unfold nmb at h
  split at h
  · rename_i h0
    obtain ⟨a, b, c, hc⟩ : ∃ a b c, scan l 0 0 = (a, b, c) := ⟨_, _, _, rfl⟩
    rw [hc] at h h0
    simp only at h h0
    subst h0
    obtain ⟨m, h1, h2, h3, h4, h5, h6, h7⟩ := scan_back l 0 0 a _ (by decide) (by decide) hc
    simp only [Option.some.injEq, Prod.mk.injEq] at h
    obtain ⟨rfl, rfl⟩ := h
    rw [Nat.zero_add, Nat.pow_zero, Nat.mul_one] at h1
    subst h1
    rw [h2]
    exact ⟨by simp, h7⟩
  · cases h
theorem nmb_more {l r u : List UInt8} {n : Nat} (h : nmb l = some (n, r)) : nmb (l ++ u) = some (n, r ++ u) := by
  obtain ⟨h1, h2⟩ := nmb_back h
  rw [h1, List.append_assoc, nmb_num h2]
/-- A set is read. -/
def setL : Nat → Nat → Nat → List UInt8 → Option (List Nat × List UInt8)
  | 0, _, _, l => some ([], l)
  | c + 1, x, size, l =>
    match nmb l with
    | none => none
    | some (d, r) => if x + d < size then (match setL c (x + d + 1) size r with | none => none | some (S, r') => some ((x + d) :: S, r')) else none
theorem setL_laid {size : Nat} (hs : size ≤ 2 ^ 64) (t : List UInt8) : ∀ (S : List Nat) (x : Nat), Chain x S size → setL S.length x size (laidL x S ++ t) = some (S, t) := by
  intro S
  induction S with
  | nil => intro x _; rfl
  | cons i S ih =>
    intro x h
    have hl := Cv.chain_le h.2
    have h1 := h.1
    rw [List.length_cons, laidL, List.append_assoc, setL, nmb_num (by omega)]
    simp only
    rw [show x + (i - x) = i by omega, if_pos (by omega), ih (i + 1) h.2]
theorem setL_back {size : Nat} : ∀ (c x : Nat) (l : List UInt8) (S : List Nat) (r : List UInt8), x ≤ size → setL c x size l = some (S, r) → S.length = c ∧ l = laidL x S ++ r ∧ Chain x S size := by
  intro c
  induction c with
  | zero =>
    intro x l S r hx h
    simp only [setL, Option.some.injEq, Prod.mk.injEq] at h
    obtain ⟨rfl, rfl⟩ := h
    exact ⟨rfl, rfl, hx⟩
  | succ c ih =>
    intro x l S r hx h
    rw [setL] at h
    split at h
    · cases h
    · rename_i d r' hn
      split at h
      · rename_i hlt
        split at h
        · cases h
        · rename_i S' r'' hs
          simp only [Option.some.injEq, Prod.mk.injEq] at h
          obtain ⟨rfl, rfl⟩ := h
          obtain ⟨g1, g2, g3⟩ := ih _ _ _ _ hlt hs
          obtain ⟨n1, n2⟩ := nmb_back hn
          refine ⟨by simp [g1], ?_, by omega, g3⟩
          rw [laidL, List.append_assoc, ← g2, Nat.add_sub_cancel_left, ← n1]
      · cases h
theorem setL_more {size : Nat} (u : List UInt8) : ∀ (c x : Nat) (l : List UInt8) (S : List Nat) (r : List UInt8), setL c x size l = some (S, r) → setL c x size (l ++ u) = some (S, r ++ u) := by
  intro c
  induction c with
  | zero =>
    intro x l S r h
    simp only [setL, Option.some.injEq, Prod.mk.injEq] at h
    obtain ⟨rfl, rfl⟩ := h
    rfl
  | succ c ih =>
    intro x l S r h
    rw [setL] at h
    split at h
    · cases h
    · rename_i d r' hn
      split at h
      · rename_i hlt
        split at h
        · cases h
        · rename_i S' r'' hs
          simp only [Option.some.injEq, Prod.mk.injEq] at h
          obtain ⟨rfl, rfl⟩ := h
          rw [setL, nmb_more hn]
          simp only
          rw [if_pos hlt, ih _ _ _ _ hs]
      · cases h
/-- Digests are read. -/
def digL : Nat → Nat → List UInt8 → List ByteArray
  | 0, _, _ => []
  | c + 1, k, l => ⟨(l.take k).toArray⟩ :: digL c k (l.drop k)
theorem digL_flat {k : Nat} : ∀ (D : List ByteArray), (∀ d ∈ D, d.size = k) → digL D.length k (flat D) = D := by
  intro D
  induction D with
  | nil => intro _; rfl
  | cons d D ih =>
    intro h
    have hd : d.data.toList.length = k := by rw [size_list]; exact h d (by simp)
    rw [List.length_cons, digL, flat_cons, List.take_left' hd, List.drop_left' hd, ih (fun x hx => h x (by simp [hx]))]
theorem digL_back {k : Nat} : ∀ (c : Nat) (l : List UInt8), c * k = l.length → flat (digL c k l) = l ∧ (digL c k l).length = c ∧ ∀ d ∈ digL c k l, d.size = k := by
  intro c
  induction c with
  | zero => intro l h; have : l = [] := List.length_eq_zero_iff.1 (by omega); subst this; exact ⟨rfl, rfl, fun d hd => by cases hd⟩
  | succ c ih =>
    intro l h
    rw [Nat.add_mul, Nat.one_mul] at h
    obtain ⟨g1, g2, g3⟩ := ih (l.drop k) (by rw [List.length_drop]; omega)
    refine ⟨by rw [digL, flat_cons, g1]; simp, by rw [digL, List.length_cons, g2], fun d hd => ?_⟩
    rw [digL] at hd
    rcases List.mem_cons.1 hd with rfl | hd
    · simp [ByteArray.size]; omega
    · exact g3 d hd
/-- What stands between the size and the digests. -/
def midR (kd : Nat) (size : Nat) (l : List UInt8) : Option (Nat × List Nat × List UInt8) :=
  if kd = 1 then (match nmb l with | none => none | some (i, r) => some (0, [i], r))
  else if kd = 2 then (match nmb l with | none => none | some (c, r) => if c ≤ r.length then (match setL c 0 size r with | none => none | some (S, r') => some (0, S, r')) else none)
  else if kd = 3 then (match nmb l with | none => none | some (o, r) => some (o, [], r))
  else some (0, [], l)
/-- Bytes are read. -/
def decB (b0 b1 size old : Nat) (S : List Nat) (l : List UInt8) : Option PV :=
  match cnt b0 b1 old size S with
  | none => none
  | some c => if c * b1 = l.length then some ⟨b0, b1, old, size, S, digL c b1 l⟩ else none
def decA (b0 b1 : Nat) (l : List UInt8) : Option PV :=
  match nmb l with
  | none => none
  | some (size, l1) => match midR b0 size l1 with | none => none | some (old, S, l2) => decB b0 b1 size old S l2
def dec : List UInt8 → Option PV
  | b0 :: b1 :: l => decA b0.toNat b1.toNat l
  | _ => none
theorem dec_enc {p : PV} (h : Well p) : dec (enc p) = some p := by
  obtain ⟨kd, k, old, size, S, D⟩ := p
  obtain ⟨h1, h2⟩ := h
  simp only at h1 h2
  have o := cnt_ok h1
  have i1 := o.kd1
  have i2 := o.kd3
  have i3 := o.k1
  have i4 := o.k32
  have i5 := o.hsz
  have i6 := o.hold
  have i7 := o.len
  obtain ⟨a, rfl⟩ : ∃ a : Nat, kd = a := ⟨kd.toNat, by omega⟩
  obtain ⟨b, rfl⟩ : ∃ b : Nat, k = b := ⟨k.toNat, by omega⟩
  have hD : ∀ d ∈ D, d.size = b := fun d hd => by have := h2 d hd; omega
  simp only [enc, dec, decA, Int.toNat_natCast]
  rw [ofNat_toNat (show a < 256 by omega), ofNat_toNat (show b < 256 by omega), nmb_num (by omega)]
  simp only
  have hm : midR a size (mid ⟨a, b, old, size, S, D⟩ ++ flat D) = some (old, S, flat D) := by
    have e1 : ((a : Int) = 1) ↔ a = 1 := by omega
    have e2 : ((a : Int) = 2) ↔ a = 2 := by omega
    simp only [midR, mid, e1, e2]
    by_cases ha : a = 1
    · obtain ⟨g1, g2⟩ := o.one (by omega)
      obtain ⟨i, rfl⟩ := List.length_eq_one_iff.1 g1
      have hc := Cv.chain_le o.chain.2
      rw [if_pos ha, if_pos ha, show [i].getD 0 0 = i from rfl, nmb_num (by omega), g2]
    · rw [if_neg ha, if_neg ha]
      by_cases ha2 : a = 2
      · have hl := laidL_len S 0
        rw [if_pos ha2, if_pos ha2, List.append_assoc, nmb_num (by omega)]
        simp only
        rw [if_pos (by simp; omega), setL_laid (by omega) _ _ _ o.chain]
        simp only [o.two (by omega)]
      · rw [if_neg ha2, if_neg ha2, if_pos (by omega), nmb_num (by omega)]
        simp only [o.three (by omega)]
  rw [hm]
  simp only [decB, h1]
  rw [if_pos (by rw [flat_len hD]), digL_flat D hD]
theorem enc_dec {s : List UInt8} {p : PV} (h : dec s = some p) : Well p ∧ enc p = s ∧ (∃ b0 b1 : Nat, p.kd = b0 ∧ p.k = b1) := by
  unfold dec at h
  split at h
  · rename_i b0 b1 l
    unfold decA at h
    split at h
    · cases h
    · rename_i size l1 hn
      split at h
      · cases h
      · rename_i old S l2 hm
        unfold decB at h
        split at h
        · cases h
        · rename_i c hc
          split at h
          · rename_i hlen
            cases h
            obtain ⟨d1, d2, d3⟩ := digL_back c l2 hlen
            obtain ⟨n1, n2⟩ := nmb_back hn
            have o := cnt_ok hc
            have i1 := o.kd1
            have i2 := o.kd3
            have i5 := o.hsz
            refine ⟨⟨by simp only [d2]; exact hc, fun d hd => by have := d3 d hd; simp only; omega⟩, ?_, _, _, rfl, rfl⟩
            have hb : ∀ b : UInt8, UInt8.ofNat b.toNat = b := fun b => by simp
            simp only [enc, Int.toNat_natCast, hb, d1]
            rw [n1]
            congr 3
            have e1 : ((b0.toNat : Int) = 1) ↔ b0.toNat = 1 := by omega
            have e2 : ((b0.toNat : Int) = 2) ↔ b0.toNat = 2 := by omega
            simp only [mid, e1, e2]
            unfold midR at hm
            split at hm
            · rename_i h1
              rw [if_pos h1]
              split at hm
              · cases hm
              · rename_i i r hi
                cases hm
                obtain ⟨m1, m2⟩ := nmb_back hi
                rw [m1]; rfl
            · rename_i h1
              rw [if_neg h1]
              split at hm
              · rename_i h2
                rw [if_pos h2]
                split at hm
                · cases hm
                · rename_i c' r hi
                  split at hm
                  · split at hm
                    · cases hm
                    · rename_i S' r' hs
                      cases hm
                      obtain ⟨m1, m2⟩ := nmb_back hi
                      obtain ⟨g1, g2, g3⟩ := setL_back _ _ _ _ _ (Nat.zero_le _) hs
                      rw [m1, g1, List.append_assoc, ← g2]
                  · cases hm
              · rename_i h2
                rw [if_neg h2]
                split at hm
                · split at hm
                  · cases hm
                  · rename_i o' r hi
                    cases hm
                    obtain ⟨m1, m2⟩ := nmb_back hi
                    rw [m1]
                · rename_i h3
                  omega
          · cases h
  · cases h
theorem dec_more {s u : List UInt8} {p : PV} (h : dec s = some p) (hu : u ≠ []) : dec (s ++ u) = none := by
  have hul : 0 < u.length := List.length_pos_iff.2 hu
  unfold dec at h
  split at h
  · rename_i b0 b1 l
    rw [List.cons_append, List.cons_append, dec]
    unfold decA at h ⊢
    split at h
    · cases h
    · rename_i size l1 hn
      rw [nmb_more hn]
      simp only
      split at h
      · cases h
      · rename_i old S l2 hm
        have hm2 : midR b0.toNat size (l1 ++ u) = some (old, S, l2 ++ u) := by
          unfold midR at hm ⊢
          split at hm
          · rename_i h1
            rw [if_pos h1]
            split at hm
            · cases hm
            · rename_i i r hi
              cases hm
              rw [nmb_more hi]
          · rename_i h1
            rw [if_neg h1]
            split at hm
            · rename_i h2
              rw [if_pos h2]
              split at hm
              · cases hm
              · rename_i c' r hi
                rw [nmb_more hi]
                simp only
                split at hm
                · rename_i hle
                  rw [if_pos (by simp; omega)]
                  split at hm
                  · cases hm
                  · rename_i S' r' hs
                    cases hm
                    rw [setL_more u _ _ _ _ _ hs]
                · cases hm
            · rename_i h2
              rw [if_neg h2]
              split at hm
              · rename_i h3
                rw [if_pos h3]
                split at hm
                · cases hm
                · rename_i o' r hi
                  cases hm
                  rw [nmb_more hi]
              · rename_i h3
                rw [if_neg h3]
                cases hm
                rfl
        rw [hm2]
        simp only
        unfold decB at h ⊢
        split at h
        · cases h
        · rename_i c hc
          split at h
          · rename_i hlen
            rw [if_neg (by simp; omega)]
          · cases h
  · cases h
theorem dec_cut {p : PV} (h : Well p) {j : Nat} (hj : j < (enc p).length) : dec ((enc p).take j) = none := by
  cases hd : dec ((enc p).take j) with
  | none => rfl
  | some q =>
    have := dec_more (u := (enc p).drop j) hd (by intro e; have := congrArg List.length e; simp at this; omega)
    rw [List.take_append_drop, dec_enc h] at this
    cases this
end Go.Proofs.Ytelglfmppmdmoaa
