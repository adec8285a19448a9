/-
  Own work: CoSpec, CoPath, PlWalkA, CoNum.
-/
import Derived.Test.YtipcenbndhnnhaaGreatDoorProg
import Derived.WalkKit
import Derived.WalkSpells
import Derived.Outline
import Derived.KernelRfl
import Derived.Deep.LoopGhost
import Derived.Deep.DrawnRows
import Derived.Deep.Light
import Derived.Laws.Bits64b
import Derived.Handy
import Derived.Test.YtipcenbndhnnhaaGreatDoorQd03
namespace Go.Proofs.YtipcenbndhnnhaaGreatDoor
open Cv (rst cov Chain errS Til)
structure PV where
  kd : Int
  k : Int
  old : Nat
  size : Nat
  S : List Nat
  D : List ByteArray
def cnt (kd k : Int) (old size : Nat) (S : List Nat) : Option Nat :=
  if 1 ≤ k ∧ k ≤ 32 ∧ size ≤ 2 ^ 40 then
    if kd = 1 then (if old = 0 ∧ S.length = 1 ∧ errS size S = 0 then some (rst 0 size S).length else none)
    else if kd = 2 then (if old = 0 ∧ errS size S = 0 then some (rst 0 size S).length else none)
    else if kd = 3 then (if old ≤ size ∧ S = [] then some ((cov 0 old).length + (cov old size).length) else none)
    else none
  else none
theorem til_len {A : Nat → Prop} {q : Nat} : ∀ {L : List (Nat × Nat)} {p : Nat}, Til A q p L → L.length + p ≤ q := by
  intro L
  induction L with
  | nil => intro p h; have := h.1; simp; omega
  | cons b L ih =>
    intro p h
    obtain ⟨h1, h2, h3, h4, h5, h6⟩ := h
    have := ih h6
    have := Cv.blk_lt b.1 b.2
    simp; omega
theorem rst_le {n : Nat} {S : List Nat} (hn : n ≤ 2 ^ 40) (hc : Chain 0 S n) : (rst 0 n S).length ≤ n := til_len (Cv.rst_but n S hn hc)
theorem chain_len : ∀ {S : List Nat} {x n : Nat}, Chain x S n → S.length + x ≤ n := by
  intro S
  induction S with
  | nil => intro x n h; have : x ≤ n := h; simp; omega
  | cons i S ih => intro x n h; have := ih h.2; have := h.1; simp; omega
structure CntOk (kd k : Int) (old size : Nat) (S : List Nat) (c : Nat) : Prop where
  kd1 : 1 ≤ kd
  kd3 : kd ≤ 3
  k1 : 1 ≤ k
  k32 : k ≤ 32
  hsz : size ≤ 1099511627776
  hc : c ≤ 1099511627776
  hold : old ≤ size
  len : S.length ≤ size
  chain : Chain 0 S size
  one : kd = 1 → S.length = 1 ∧ old = 0
  two : kd = 2 → old = 0
  three : kd = 3 → S = []
theorem cnt_ok {kd k : Int} {old size c : Nat} {S : List Nat} (h : cnt kd k old size S = some c) : CntOk kd k old size S c := by
  unfold cnt at h
  have e40 : (2 : Nat) ^ 40 = 1099511627776 := by decide
  split at h
  · rename_i h0
    obtain ⟨g1, g2, g3⟩ := h0
    split at h
    · rename_i hk
      split at h
      · rename_i h1
        obtain ⟨a1, a2, a3⟩ := h1
        have hc := (Cv.errS_ok a3).2.2.2
        have hl := chain_len hc
        have hr := rst_le g3 hc
        cases h
        exact ⟨by omega, by omega, g1, g2, by omega, by omega, by omega, by omega, hc, fun _ => ⟨a2, a1⟩, fun h => by omega, fun h => by omega⟩
      · cases h
    · rename_i hk1
      split at h
      · rename_i hk
        split at h
        · rename_i h1
          obtain ⟨a1, a3⟩ := h1
          have hc := (Cv.errS_ok a3).2.2.2
          have hl := chain_len hc
          have hr := rst_le g3 hc
          cases h
          exact ⟨by omega, by omega, g1, g2, by omega, by omega, by omega, by omega, hc, fun h => by omega, fun _ => a1, fun h => by omega⟩
        · cases h
      · rename_i hk2
        split at h
        · rename_i hk
          split at h
          · rename_i h1
            obtain ⟨a1, a3⟩ := h1
            have h1 := Cv.cov_forty old (by omega)
            have h2 := Cv.cov_len old size a1 g3
            cases h
            subst a3
            exact ⟨by omega, by omega, g1, g2, by omega, by omega, a1, by simp, Nat.zero_le _, fun h => by omega, fun h => by omega, fun _ => rfl⟩
          · cases h
        · cases h
  · cases h
def flatC (D : List ByteArray) : List UInt8 := (D.map (·.data.toList)).flatten
theorem flat_cons (d : ByteArray) (D : List ByteArray) : flatC (d :: D) = d.data.toList ++ flatC D := by simp [flatC]
theorem size_list (d : ByteArray) : d.data.toList.length = d.size := Array.length_toList
theorem flat_len {k : Nat} : ∀ {D : List ByteArray}, (∀ d ∈ D, d.size = k) → (flatC D).length = D.length * k := by
  intro D
  induction D with
  | nil => intro _; simp [flatC]
  | cons d D ih =>
    intro h
    rw [flat_cons, List.length_append, size_list, h d (by simp), ih (fun x hx => h x (by simp [hx])), List.length_cons, Nat.add_mul, Nat.one_mul, Nat.add_comm]
def laidL : Nat → List Nat → List UInt8
  | _, [] => []
  | x, i :: S => num (i - x) ++ laidL (i + 1) S
def nxt : Nat → List Nat → Nat
  | x, [] => x
  | _, i :: S => nxt (i + 1) S
theorem laidL_app (i : Nat) : ∀ (S : List Nat) (x : Nat), laidL x (S ++ [i]) = laidL x S ++ num (i - nxt x S) := by
  intro S
  induction S with
  | nil => intro x; simp [laidL, nxt]
  | cons a S ih => intro x; rw [List.cons_append, laidL, ih, laidL, List.append_assoc, nxt]
theorem nxt_app (i : Nat) : ∀ (S : List Nat) (x : Nat), nxt x (S ++ [i]) = i + 1 := by
  intro S
  induction S with
  | nil => intro x; rfl
  | cons a S ih => intro x; rw [List.cons_append, nxt, ih]
theorem laidL_len : ∀ (S : List Nat) (x : Nat), S.length ≤ (laidL x S).length := by
  intro S
  induction S with
  | nil => intro x; simp [laidL]
  | cons a S ih => intro x; have := ih (a + 1); have := num_pos (a - x); simp [laidL]; omega
def mid (p : PV) : List UInt8 := if p.kd = 1 then num (p.S.getD 0 0) else if p.kd = 2 then num p.S.length ++ laidL 0 p.S else num p.old
def enc (p : PV) : List UInt8 := UInt8.ofNat p.kd.toNat :: UInt8.ofNat p.k.toNat :: (num p.size ++ (mid p ++ flatC p.D))
def Well (p : PV) : Prop := cnt p.kd p.k p.old p.size p.S = some p.D.length ∧ ∀ d ∈ p.D, (d.size : Int) = p.k
instance (p : PV) : Decidable (Well p) := by unfold Well; infer_instance
def nmb (l : List UInt8) : Option (Nat × List UInt8) := if (scan l 0 0).2.1 = 0 then some ((scan l 0 0).1, l.drop (scan l 0 0).2.2) else none
theorem nmb_num {n : Nat} (hn : n < 2 ^ 64) (t : List UInt8) : nmb (num n ++ t) = some (n, t) := by
  have h := scan_num t n 0 0 (by decide) (by simpa using hn) (by decide) (.inl rfl)
  rw [nmb, h]
  simp
theorem nmb_back {l r : List UInt8} {n : Nat} (h : nmb l = some (n, r)) : l = num n ++ r ∧ n < 2 ^ 64 := by
  unfold nmb at h
  split at h
  · rename_i h0
    obtain ⟨a, b, c, hc⟩ : ∃ a b c, scan l 0 0 = (a, b, c) := ⟨_, _, _, rfl⟩
    rw [hc] at h h0
    simp only at h h0
    subst h0
    obtain ⟨m, h1, h2, h3, h4, h5, h6, h7⟩ := scan_back l 0 0 a _ (by decide) (by decide) hc
    simp only [Option.some.injEq, Prod.mk.injEq] at h
    obtain ⟨rfl, rfl⟩ := h
    rw [Nat.zero_add, Nat.pow_zero, Nat.mul_one] at h1
    subst h1
    rw [h2]
    exact ⟨by simp, h7⟩
  · cases h
def setL : Nat → Nat → Nat → List UInt8 → Option (List Nat × List UInt8)
  | 0, _, _, l => some ([], l)
  | c + 1, x, size, l =>
    match nmb l with
    | none => none
    | some (d, r) => if x + d < size then (match setL c (x + d + 1) size r with | none => none | some (S, r') => some ((x + d) :: S, r')) else none
theorem setL_laid {size : Nat} (hs : size ≤ 2 ^ 64) (t : List UInt8) : ∀ (S : List Nat) (x : Nat), Chain x S size → setL S.length x size (laidL x S ++ t) = some (S, t) := by
  intro S
  induction S with
  | nil => intro x _; rfl
  | cons i S ih =>
    intro x h
    have hl := Cv.chain_le h.2
    have h1 := h.1
    rw [List.length_cons, laidL, List.append_assoc, setL, nmb_num (by omega)]
    simp only
    rw [show x + (i - x) = i by omega, if_pos (by omega), ih (i + 1) h.2]
theorem setL_back {size : Nat} : ∀ (c x : Nat) (l : List UInt8) (S : List Nat) (r : List UInt8), x ≤ size → setL c x size l = some (S, r) → S.length = c ∧ l = laidL x S ++ r ∧ Chain x S size := by
  intro c
  induction c with
  | zero =>
    intro x l S r hx h
    simp only [setL, Option.some.injEq, Prod.mk.injEq] at h
    obtain ⟨rfl, rfl⟩ := h
    exact ⟨rfl, rfl, hx⟩
  | succ c ih =>
    intro x l S r hx h
    rw [setL] at h
    split at h
    · cases h
    · rename_i d r' hn
      split at h
      · rename_i hlt
        split at h
        · cases h
        · rename_i S' r'' hs
          simp only [Option.some.injEq, Prod.mk.injEq] at h
          obtain ⟨rfl, rfl⟩ := h
          obtain ⟨g1, g2, g3⟩ := ih _ _ _ _ hlt hs
          obtain ⟨n1, n2⟩ := nmb_back hn
          refine ⟨by simp [g1], ?_, by omega, g3⟩
          rw [laidL, List.append_assoc, ← g2, Nat.add_sub_cancel_left, ← n1]
      · cases h
def digL : Nat → Nat → List UInt8 → List ByteArray
  | 0, _, _ => []
  | c + 1, k, l => ⟨(l.take k).toArray⟩ :: digL c k (l.drop k)
theorem digL_flat {k : Nat} : ∀ (D : List ByteArray), (∀ d ∈ D, d.size = k) → digL D.length k (flatC D) = D := by
  intro D
  induction D with
  | nil => intro _; rfl
  | cons d D ih =>
    intro h
    have hd : d.data.toList.length = k := by rw [size_list]; exact h d (by simp)
    rw [List.length_cons, digL, flat_cons, List.take_left' hd, List.drop_left' hd, ih (fun x hx => h x (by simp [hx]))]
theorem digL_back {k : Nat} : ∀ (c : Nat) (l : List UInt8), c * k = l.length → flatC (digL c k l) = l ∧ (digL c k l).length = c ∧ ∀ d ∈ digL c k l, d.size = k := by
  intro c
  induction c with
  | zero => intro l h; have : l = [] := List.length_eq_zero_iff.1 (by omega); subst this; exact ⟨rfl, rfl, fun d hd => by cases hd⟩
  | succ c ih =>
    intro l h
    rw [Nat.add_mul, Nat.one_mul] at h
    obtain ⟨g1, g2, g3⟩ := ih (l.drop k) (by rw [List.length_drop]; omega)
    refine ⟨by rw [digL, flat_cons, g1]; simp, by rw [digL, List.length_cons, g2], fun d hd => ?_⟩
    rw [digL] at hd
    rcases List.mem_cons.1 hd with rfl | hd
    · simp [ByteArray.size]; omega
    · exact g3 d hd
def midR (kd : Nat) (size : Nat) (l : List UInt8) : Option (Nat × List Nat × List UInt8) :=
  if kd = 1 then (match nmb l with | none => none | some (i, r) => some (0, [i], r))
  else if kd = 2 then (match nmb l with | none => none | some (c, r) => if c ≤ r.length then (match setL c 0 size r with | none => none | some (S, r') => some (0, S, r')) else none)
  else if kd = 3 then (match nmb l with | none => none | some (o, r) => some (o, [], r))
  else some (0, [], l)
def decB (b0 b1 size old : Nat) (S : List Nat) (l : List UInt8) : Option PV :=
  match cnt b0 b1 old size S with
  | none => none
  | some c => if c * b1 = l.length then some ⟨b0, b1, old, size, S, digL c b1 l⟩ else none
def decA (b0 b1 : Nat) (l : List UInt8) : Option PV :=
  match nmb l with
  | none => none
  | some (size, l1) => match midR b0 size l1 with | none => none | some (old, S, l2) => decB b0 b1 size old S l2
def dec : List UInt8 → Option PV
  | b0 :: b1 :: l => decA b0.toNat b1.toNat l
  | _ => none
theorem dec_enc {p : PV} (h : Well p) : dec (enc p) = some p := by
  obtain ⟨kd, k, old, size, S, D⟩ := p
  obtain ⟨h1, h2⟩ := h
  simp only at h1 h2
  have o := cnt_ok h1
  have i1 := o.kd1
  have i2 := o.kd3
  have i3 := o.k1
  have i4 := o.k32
  have i5 := o.hsz
  have i6 := o.hold
  have i7 := o.len
  obtain ⟨a, rfl⟩ : ∃ a : Nat, kd = a := ⟨kd.toNat, by omega⟩
  obtain ⟨b, rfl⟩ : ∃ b : Nat, k = b := ⟨k.toNat, by omega⟩
  have hD : ∀ d ∈ D, d.size = b := fun d hd => by have := h2 d hd; omega
  simp only [enc, dec, decA, Int.toNat_natCast]
  rw [ofNat_toNat (show a < 256 by omega), ofNat_toNat (show b < 256 by omega), nmb_num (by omega)]
  simp only
  have hm : midR a size (mid ⟨a, b, old, size, S, D⟩ ++ flatC D) = some (old, S, flatC D) := by
    have e1 : ((a : Int) = 1) ↔ a = 1 := by omega
    have e2 : ((a : Int) = 2) ↔ a = 2 := by omega
    simp only [midR, mid, e1, e2]
    by_cases ha : a = 1
    · obtain ⟨g1, g2⟩ := o.one (by omega)
      obtain ⟨i, rfl⟩ := List.length_eq_one_iff.1 g1
      have hc := Cv.chain_le o.chain.2
      rw [if_pos ha, if_pos ha, show [i].getD 0 0 = i from rfl, nmb_num (by omega), g2]
    · rw [if_neg ha, if_neg ha]
      by_cases ha2 : a = 2
      · have hl := laidL_len S 0
        rw [if_pos ha2, if_pos ha2, List.append_assoc, nmb_num (by omega)]
        simp only
        rw [if_pos (by simp; omega), setL_laid (by omega) _ _ _ o.chain]
        simp only [o.two (by omega)]
      · rw [if_neg ha2, if_neg ha2, if_pos (by omega), nmb_num (by omega)]
        simp only [o.three (by omega)]
  rw [hm]
  simp only [decB, h1]
  rw [if_pos (by rw [flat_len hD]), digL_flat D hD]
theorem enc_dec {s : List UInt8} {p : PV} (h : dec s = some p) : Well p ∧ enc p = s ∧ (∃ b0 b1 : Nat, p.kd = b0 ∧ p.k = b1) := by
  unfold dec at h
  split at h
  · rename_i b0 b1 l
    unfold decA at h
    split at h
    · cases h
    · rename_i size l1 hn
      split at h
      · cases h
      · rename_i old S l2 hm
        unfold decB at h
        split at h
        · cases h
        · rename_i c hc
          split at h
          · rename_i hlen
            cases h
            obtain ⟨d1, d2, d3⟩ := digL_back c l2 hlen
            obtain ⟨n1, n2⟩ := nmb_back hn
            have o := cnt_ok hc
            have i1 := o.kd1
            have i2 := o.kd3
            have i5 := o.hsz
            refine ⟨⟨by simp only [d2]; exact hc, fun d hd => by have := d3 d hd; simp only; omega⟩, ?_, _, _, rfl, rfl⟩
            have hb : ∀ b : UInt8, UInt8.ofNat b.toNat = b := fun b => by simp
            simp only [enc, Int.toNat_natCast, hb, d1]
            rw [n1]
            congr 3
            have e1 : ((b0.toNat : Int) = 1) ↔ b0.toNat = 1 := by omega
            have e2 : ((b0.toNat : Int) = 2) ↔ b0.toNat = 2 := by omega
            simp only [mid, e1, e2]
            unfold midR at hm
            split at hm
            · rename_i h1
              rw [if_pos h1]
              split at hm
              · cases hm
              · rename_i i r hi
                cases hm
                obtain ⟨m1, m2⟩ := nmb_back hi
                rw [m1]; rfl
            · rename_i h1
              rw [if_neg h1]
              split at hm
              · rename_i h2
                rw [if_pos h2]
                split at hm
                · cases hm
                · rename_i c' r hi
                  split at hm
                  · split at hm
                    · cases hm
                    · rename_i S' r' hs
                      cases hm
                      obtain ⟨m1, m2⟩ := nmb_back hi
                      obtain ⟨g1, g2, g3⟩ := setL_back _ _ _ _ _ (Nat.zero_le _) hs
                      rw [m1, g1, List.append_assoc, ← g2]
                  · cases hm
              · rename_i h2
                rw [if_neg h2]
                split at hm
                · split at hm
                  · cases hm
                  · rename_i o' r hi
                    cases hm
                    obtain ⟨m1, m2⟩ := nmb_back hi
                    rw [m1]
                · rename_i h3
                  omega
          · cases h
  · cases h
end Go.Proofs.YtipcenbndhnnhaaGreatDoor
namespace Go.Proofs.YtipcenbndhnnhaaGreatDoor
open Cv (rst cov Chain dnL tno inb)
open Pl (pw)
theorem xor_odd (m : Nat) : (2 * m + 1) ^^^ (2 * m) = 1 := by
  have h1 : ((2 * m + 1) ^^^ (2 * m)) / 2 = 0 := by
    have e : ((2 * m + 1) ^^^ (2 * m)) >>> 1 = ((2 * m + 1) >>> 1) ^^^ ((2 * m) >>> 1) := Nat.shiftRight_xor_distrib
    rw [Nat.shiftRight_eq_div_pow, Nat.shiftRight_eq_div_pow, Nat.shiftRight_eq_div_pow, show (2 * m + 1) / 2 ^ 1 = m by omega, show 2 * m / 2 ^ 1 = m by omega, Nat.xor_self] at e
    simpa using e
  have h2 : ((2 * m + 1) ^^^ (2 * m)) % 2 = 1 := by
    have e : ((2 * m + 1) ^^^ (2 * m)) % 2 ^ 1 = ((2 * m + 1) % 2 ^ 1) ^^^ ((2 * m) % 2 ^ 1) := Nat.xor_mod_two_pow
    rw [show (2 * m + 1) % 2 ^ 1 = 1 by omega, show 2 * m % 2 ^ 1 = 0 by omega] at e
    exact e
  omega
theorem xor_high {n i H q : Nat} (hq : q % 2 = 0) (h1 : n / 2 ^ H = q + 1) (h2 : i / 2 ^ H = q) : 2 ^ H ≤ n ^^^ i ∧ n ^^^ i < 2 ^ (H + 1) := by
  have e : (n ^^^ i) / 2 ^ H = 1 := by
    have e : (n ^^^ i) >>> H = (n >>> H) ^^^ (i >>> H) := Nat.shiftRight_xor_distrib
    rw [Nat.shiftRight_eq_div_pow, Nat.shiftRight_eq_div_pow, Nat.shiftRight_eq_div_pow, h1, h2] at e
    obtain ⟨m, rfl⟩ : ∃ m, q = 2 * m := ⟨q / 2, by omega⟩
    rw [e, xor_odd]
  have hp : 0 < 2 ^ H := Nat.two_pow_pos H
  constructor
  · have := Nat.div_mul_le_self (n ^^^ i) (2 ^ H)
    rw [e] at this
    omega
  · have := Nat.lt_mul_of_div_lt (show (n ^^^ i) / 2 ^ H < 2 by omega) hp
    rw [Nat.pow_succ]
    omega
theorem tno_in (i : Nat) : ∀ H K, K * pw H ≤ i → i < (K + 1) * pw H → (tno H K [i]).length = H := by
  intro H
  induction H with
  | zero =>
    intro K h1 h2
    have hb : inb 0 K i = true := Cv.inb_iff.2 ⟨h1, h2⟩
    rw [tno, List.filter_cons_of_pos hb]
    simp
  | succ H ih =>
    intro K h1 h2
    have hb : inb (H + 1) K i = true := Cv.inb_iff.2 ⟨h1, h2⟩
    have e1 := Cv.half_lo H K
    have e2 := Cv.half_mid H K
    have e3 := Cv.half_hi H K
    have e4 := Cv.blk_len H K
    rw [tno, List.filter_cons_of_pos hb, List.filter_nil, if_neg (by simp), List.length_append]
    have out : ∀ K', ¬ (K' * pw H ≤ i ∧ i < (K' + 1) * pw H) → (tno H K' [i]).length = 1 := fun K' h => by
      have hb : ¬ inb H K' i = true := fun e => h (Cv.inb_iff.1 e)
      exact (Cv.tno_count H K' [i]).1 (by rw [List.filter_cons_of_neg hb]; rfl)
    by_cases hm : i < K * pw (H + 1) + pw H
    · rw [ih (2 * K) (by omega) (by rw [e2]; exact hm), out (2 * K + 1) (by omega)]
    · rw [out (2 * K) (by omega), ih (2 * K + 1) (by omega) (by omega)]
      omega
theorem tno_out {i H K : Nat} (h : ¬ (K * pw H ≤ i ∧ i < (K + 1) * pw H)) : (tno H K [i]).length = 1 := by
  have hb : ¬ inb H K i = true := fun e => h (Cv.inb_iff.1 e)
  exact (Cv.tno_count H K [i]).1 (by rw [List.filter_cons_of_neg hb]; rfl)
theorem dn_after (n i : Nat) : ∀ h lo, (∃ c, lo = c * pw h) → i < lo → ((dnL h lo n).flatMap fun b => tno b.1 b.2 [i]).length = (dnL h lo n).length := by
  intro h
  induction h with
  | zero => intro lo _ _; rfl
  | succ h ih =>
    intro lo hc hi
    obtain ⟨c, rfl⟩ := hc
    have e := Cv.mul_half c h
    rw [dnL]
    split
    · rw [List.flatMap_cons, List.length_append, List.length_cons, ih _ ⟨2 * c + 1, by rw [Nat.add_mul, Nat.one_mul, e]⟩ (by omega), tno_out (by
        intro hx
        dsimp only at hx
        rw [e, Nat.mul_div_cancel _ (Pl.pw_pos h)] at hx
        omega)]
      omega
    · exact ih _ ⟨2 * c, e⟩ hi
theorem path_sum (n i : Nat) (hin : i < n) : ∀ h lo, (∃ c, lo = c * pw h) → lo ≤ i → n - lo < pw h →
    ∃ H, ((dnL h lo n).flatMap fun b => tno b.1 b.2 [i]).length + 1 = H + (dnL h lo n).length ∧ 2 ^ H ≤ n ^^^ i ∧ n ^^^ i < 2 ^ (H + 1) ∧ H < h := by
  intro h
  induction h with
  | zero => intro lo _ h1 h2; have : pw 0 = 1 := rfl; omega
  | succ h ih =>
    intro lo hc h1 h2
    obtain ⟨c, rfl⟩ := hc
    have e := Cv.mul_half c h
    have hp := Pl.pw_pos h
    have hs := Pl.pw_succ h
    rw [dnL]
    split
    · rename_i hfit
      have hq : c * pw (h + 1) / pw h = 2 * c := by rw [e, Nat.mul_div_cancel _ hp]
      rw [List.flatMap_cons, List.length_append, List.length_cons, hq]
      by_cases hm : i < c * pw (h + 1) + pw h
      · refine ⟨h, ?_, ?_⟩
        · rw [tno_in i h (2 * c) (by omega) (by rw [Nat.add_mul, Nat.one_mul]; omega), dn_after n i h _ ⟨2 * c + 1, by rw [Nat.add_mul, Nat.one_mul, e]⟩ hm]
          omega
        · have a1 : n / 2 ^ h = 2 * c + 1 := by
            have : n / pw h = 2 * c + 1 := by
              apply Nat.div_eq_of_lt_le
              · rw [Nat.add_mul, Nat.one_mul]; omega
              · rw [Nat.add_mul, Nat.add_mul, Nat.one_mul]; omega
            exact this
          have a2 : i / 2 ^ h = 2 * c := by
            have : i / pw h = 2 * c := by
              apply Nat.div_eq_of_lt_le
              · omega
              · rw [Nat.add_mul, Nat.one_mul]; omega
            exact this
          obtain ⟨b1, b2⟩ := xor_high (q := 2 * c) (by omega) a1 a2
          exact ⟨b1, b2, by omega⟩
      · obtain ⟨H, g1, g2, g3, g4⟩ := ih (c * pw (h + 1) + pw h) ⟨2 * c + 1, by rw [Nat.add_mul, Nat.one_mul, e]⟩ (by omega) (by omega)
        refine ⟨H, ?_, g2, g3, by omega⟩
        rw [tno_out (by intro hx; dsimp only at hx; rw [Nat.add_mul, Nat.one_mul, ← e] at hx; omega)]
        omega
    · rename_i hfit
      obtain ⟨H, g1, g2, g3, g4⟩ := ih (c * pw (h + 1)) ⟨2 * c, e⟩ h1 (by omega)
      exact ⟨H, g1, g2, g3, by omega⟩
theorem path_cnt {n i : Nat} (hn : n ≤ 2 ^ 40) (hin : i < n) : ∃ H, (rst 0 n [i]).length + 1 = H + Pl.ones 64 n ∧ 2 ^ H ≤ n ^^^ i ∧ n ^^^ i < 2 ^ (H + 1) ∧ H ≤ 40 := by
  have hp : n < pw 41 := by
    have : pw 41 = 2 * 2 ^ 40 := rfl
    omega
  obtain ⟨H, g1, g2, g3, g4⟩ := path_sum n i hin 41 0 ⟨0, by simp⟩ (Nat.zero_le _) (by simpa using hp)
  have hc : Chain 0 [i] n := ⟨Nat.zero_le _, hin⟩
  refine ⟨H, ?_, g2, g3, by omega⟩
  rw [Cv.rest_ref n [i] hn hc, g1, ← Cv.cov_zero n hn, Cv.cov_ones n hn]
end Go.Proofs.YtipcenbndhnnhaaGreatDoor
namespace Go.Proofs.YtipcenbndhnnhaaGreatDoor.Pl
open Go.RowKit
attribute [local go_sem ↓] Go.wp_at_zero Go.wp_at_succ
theorem bit_eq (n k : Nat) (hn : n < 2 ^ 64) : (bits BinOp.and IntKind.u64 ((n : Int) / 2 ^ k) 1 == 1) = decide (n / 2 ^ k % 2 = 1) := by
  have e : ((n : Int) / 2 ^ k) = ((n / 2 ^ k : Nat) : Int) := by simp
  rw [e]
  have hm : n / 2 ^ k < 18446744073709551616 := Nat.lt_of_le_of_lt (Nat.div_le_self _ _) hn
  revert hm
  generalize n / 2 ^ k = m
  intro hm
  have := bits_and_u64_nat m 1 hm (by decide)
  rw [show (1 : Int) = ((1 : Nat) : Int) from rfl, this, Nat.and_one_is_mod]
  by_cases h : m % 2 = 1
  · simp [h]
  · have : m % 2 = 0 := by omega
    simp [this]
theorem isOne_any (n k : Nat) (w : World) (hn : n < 2 ^ 64) (hk : k < 64) :
    Calls Tryz.prog 96 #[.int .u64 n, .int .i64 k] w fun e w' => e = .returned (.bool (decide (n / 2 ^ k % 2 = 1))) ∧ w' = w := by
  have hk0 : (0 : Int) ≤ (k : Int) := Int.natCast_nonneg _
  go_enter Tryz.func96, Tryz.ntmps96
  go_wp2
  go_ret
  refine ⟨?_, rfl⟩
  rw [← bit_eq n k hn]
  rfl
theorem ones_any (n : Nat) (w : World) (hn : n < 2 ^ 64) :
    Calls Tryz.prog 76 #[.int .u64 n] w fun e w' => e = .returned (.int .i64 (ones 64 n : Nat)) ∧ w' = w := by
  go_enter Tryz.func76, Tryz.ntmps76
  go_wp2
  go_loopg [3, 5] 64 (fun g c i wr => ∃ k m : Nat, k ≤ 64 ∧ g = 64 - k ∧ i = .int .i64 k ∧ c = .int .i64 m ∧ m ≤ k ∧ m + ones (64 - k) (n / 2 ^ k) = ones 64 n ∧ w = wr)
  case atStart =>
    go_light
    exact ⟨0, 0, Nat.zero_le _, rfl, rfl, rfl, Nat.zero_le _, by simp, rfl⟩
  case round =>
    obtain ⟨k, m, hk, rfl, rfl, rfl, hm, hs, rfl⟩ := hrel
    have hk0 : (0 : Int) ≤ (k : Int) := Int.natCast_nonneg _
    have hm0 : (0 : Int) ≤ (m : Int) := Int.natCast_nonneg _
    have hm1 : (m : Int) ≤ 64 := by omega
    by_cases hlt : k < 64
    · have hk8 : (k : Int) < 64 := by omega
      have HS := ones_step k n hlt
      have HC := isOne_any n k w hn hlt
      by_cases hb : n / 2 ^ k % 2 = 1
      · rw [decide_eq_true hb] at HC
        go_wp2_with (go_at_call 96; refine HC.mono ?_; rintro e w' ⟨rfl, rfl⟩)
        go_roundg (64 - (k + 1))
        case rel =>
          go_light
          exact ⟨k + 1, m + 1, by omega, rfl, by go_num, by go_num, by omega, by omega, rfl⟩
        case measure => go_light; omega
      · rw [decide_eq_false hb] at HC
        go_wp2_with (go_at_call 96; refine HC.mono ?_; rintro e w' ⟨rfl, rfl⟩)
        go_roundg (64 - (k + 1))
        case rel =>
          go_light
          exact ⟨k + 1, m, by omega, rfl, by go_num, rfl, by omega, by omega, rfl⟩
        case measure => go_light; omega
    · obtain rfl : k = 64 := by omega
      clear hk hlt
      go_wp2
      go_ret
      refine ⟨?_, rfl⟩
      rw [← hs]
      rfl
end Go.Proofs.YtipcenbndhnnhaaGreatDoor.Pl
namespace Go.Proofs.YtipcenbndhnnhaaGreatDoor
open Go.RowKit
open Pl (isOne_any pw)
attribute [local go_sem ↓] Go.wp_at_zero Go.wp_at_succ
theorem mod_step (n k : Nat) : n % 2 ^ (k + 1) = n % 2 ^ k + 2 ^ k * (n / 2 ^ k % 2) := by rw [Nat.pow_succ, Nat.mod_mul]
theorem log_any (n : Nat) (w : World) (hn : n < 2 ^ 64) :
    Calls Tryz.prog 150 #[.int .u64 (n : Int)] w fun e w' => ∃ c : Nat, e = .returned (.int .i64 ((c : Int) - 1)) ∧ n < 2 ^ c ∧ c ≤ 64 ∧ (0 < c → 2 ^ (c - 1) ≤ n) ∧ w = w' := by
  go_enter Tryz.func150, Tryz.ntmps150
  go_wp2
  go_loopg [3, 4, 5] 64 (fun g r i4 i wr => ∃ k c : Nat, k ≤ 64 ∧ g = 64 - k ∧ i = .int .i64 (k : Int) ∧ r = .int .i64 ((c : Int) - 1) ∧ c ≤ k ∧ n % 2 ^ k < 2 ^ c ∧ (0 < c → 2 ^ (c - 1) ≤ n % 2 ^ k) ∧ w = wr)
  case atStart =>
    go_light
    exact ⟨0, 0, Nat.zero_le _, rfl, rfl, rfl, Nat.zero_le _, by simp [Nat.mod_one], fun h => absurd h (Nat.lt_irrefl 0), rfl⟩
  case round =>
    obtain ⟨k, c, hk, rfl, rfl, rfl, hc, hs, hs2, rfl⟩ := hrel
    have hk0 : (0 : Int) ≤ (k : Int) := Int.natCast_nonneg _
    by_cases hlt : k < 64
    · have hk8 : (k : Int) < 64 := by omega
      have HM := mod_step n k
      have HC := isOne_any n k w hn hlt
      have hlt2 : n % 2 ^ k < 2 ^ k := Nat.mod_lt _ (Nat.two_pow_pos k)
      by_cases hb : n / 2 ^ k % 2 = 1
      · rw [decide_eq_true hb] at HC
        rw [hb, Nat.mul_one] at HM
        have HX : Hid (n % 2 ^ (k + 1) < 2 ^ (k + 1) ∧ 2 ^ k ≤ n % 2 ^ (k + 1)) := ⟨Nat.mod_lt _ (Nat.two_pow_pos _), by omega⟩
        clear hs hs2 hc HM hlt2
        go_wp2_with (go_at_call 96; refine HC.mono ?_; rintro e w' ⟨rfl, rfl⟩)
        go_roundg (64 - (k + 1))
        case rel =>
          go_light
          exact ⟨k + 1, k + 1, by omega, rfl, by go_num, by congr 1; omega, Nat.le_refl _, HX.out.1, fun _ => HX.out.2, rfl⟩
        case measure => go_light; omega
      · rw [decide_eq_false hb] at HC
        have hb0 : n / 2 ^ k % 2 = 0 := by omega
        rw [hb0, Nat.mul_zero, Nat.add_zero] at HM
        have HX : Hid (n % 2 ^ (k + 1) < 2 ^ c ∧ c ≤ k + 1 ∧ (0 < c → 2 ^ (c - 1) ≤ n % 2 ^ (k + 1))) := ⟨by rw [HM]; exact hs, by omega, by rw [HM]; exact hs2⟩
        clear hs hs2 hc HM hlt2
        go_wp2_with (go_at_call 96; refine HC.mono ?_; rintro e w' ⟨rfl, rfl⟩)
        go_roundg (64 - (k + 1))
        case rel =>
          go_light
          exact ⟨k + 1, c, by omega, rfl, by go_num, rfl, HX.out.2.1, HX.out.1, HX.out.2.2, rfl⟩
        case measure => go_light; omega
    · obtain rfl : k = 64 := by omega
      have HX : Hid (n < 2 ^ c ∧ c ≤ 64 ∧ (0 < c → 2 ^ (c - 1) ≤ n)) := by
        rw [Nat.mod_eq_of_lt hn] at hs hs2
        exact ⟨hs, hc, hs2⟩
      clear hs hs2 hc hlt
      go_wp2
      go_ret
      exact ⟨c, rfl, HX.out.1, HX.out.2.1, HX.out.2.2, rfl⟩
theorem log_at (n H : Nat) (w : World) (hn : n < 2 ^ 64) (h1 : 2 ^ H ≤ n) (h2 : n < 2 ^ (H + 1)) :
    Calls Tryz.prog 150 #[.int .u64 (n : Int)] w fun e w' => e = .returned (.int .i64 (H : Int)) ∧ w' = w := by
  refine (log_any n w hn).mono ?_
  rintro e w' ⟨c, rfl, g1, g2, g3, rfl⟩
  have hc : c = H + 1 := by
    have a1 : H < c := by
      apply Classical.byContradiction
      intro h
      have := Nat.pow_le_pow_right (n := 2) (by decide) (show c ≤ H by omega)
      omega
    have a2 : c - 1 < H + 1 := by
      apply Classical.byContradiction
      intro h
      have := Nat.pow_le_pow_right (n := 2) (by decide) (show H + 1 ≤ c - 1 by omega)
      have := g3 (by omega)
      omega
    omega
  subst hc
  exact ⟨by congr 2; omega, rfl⟩
theorem add_yes (a b : Nat) (w : World) (h : a + b < 18446744073709551616) :
    Calls Tryz.prog 175 #[.int .u64 (a : Int), .int .u64 (b : Int)] w fun e w' => e = .returned (.tuple #[.int .u64 ((a + b : Nat) : Int), .bool true]) ∧ w' = w := by
  have e1 : IntKind.u64.wrap ((a : Int) + (b : Int)) = ((a + b : Nat) : Int) := by rw [IntKind.wrap_u64]; omega
  have e2 : ¬ ((a + b : Nat) : Int) < (a : Int) := by omega
  generalize a + b = c at *
  go_enter Tryz.func175, Tryz.ntmps175
  go_wp2
  go_ret2
  exact ⟨rfl, rfl⟩
theorem add_no (a b : Nat) (w : World) (ha : a < 18446744073709551616) (hb : b < 18446744073709551616) (h : ¬ a + b < 18446744073709551616) :
    Calls Tryz.prog 175 #[.int .u64 (a : Int), .int .u64 (b : Int)] w fun e w' => e = .returned (.tuple #[.int .u64 0, .bool false]) ∧ w' = w := by
  obtain ⟨c, hc⟩ : ∃ c, a + b - 18446744073709551616 = c := ⟨_, rfl⟩
  have e1 : IntKind.u64.wrap ((a : Int) + (b : Int)) = (c : Int) := by rw [IntKind.wrap_u64]; omega
  have e2 : (c : Int) < (a : Int) := by omega
  clear hc ha hb h
  go_enter Tryz.func175, Tryz.ntmps175
  go_wp2
  go_ret2
  exact ⟨rfl, rfl⟩
end Go.Proofs.YtipcenbndhnnhaaGreatDoor
