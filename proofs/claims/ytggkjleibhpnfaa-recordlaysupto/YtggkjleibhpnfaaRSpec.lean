/-
  CRC-32C as a plain function on rows of bits: linear, one to one, and what a burst does. Own work.
-/
import Derived.Test.YtggkjleibhpnfaaRows
namespace Go.Proofs.Ytggkjleibhpnfaa
/-- The polynomial, turned. -/
def PL : BitVec 32 := 0x82f63b78#32
/-- One step. -/
def st (c : BitVec 32) : BitVec 32 := (c >>> 1) ^^^ (if c.getLsbD 0 then PL else 0#32)
def stN : Nat → BitVec 32 → BitVec 32
  | 0, c => c
  | n + 1, c => st (stN n c)
theorem xor4 (a b c d : BitVec 32) : (a ^^^ b) ^^^ (c ^^^ d) = (a ^^^ c) ^^^ (b ^^^ d) := by
  apply BitVec.eq_of_getLsbD_eq
  intro i _
  simp only [BitVec.getLsbD_xor]
  cases a.getLsbD i <;> cases b.getLsbD i <;> cases c.getLsbD i <;> cases d.getLsbD i <;> rfl
theorem xor_swap (a b c : BitVec 32) : (a ^^^ b) ^^^ c = (a ^^^ c) ^^^ b := by
  rw [BitVec.xor_assoc, BitVec.xor_comm b c, ← BitVec.xor_assoc]
theorem xor_zero' (a : BitVec 32) : a ^^^ 0#32 = a := BitVec.xor_zero
theorem shr_xor (a b : BitVec 32) (n : Nat) : (a ^^^ b) >>> n = (a >>> n) ^^^ (b >>> n) := by
  apply BitVec.eq_of_getLsbD_eq
  intro i _
  simp only [BitVec.getLsbD_xor, BitVec.getLsbD_ushiftRight]
theorem st_xor (a b : BitVec 32) : st (a ^^^ b) = st a ^^^ st b := by
  unfold st
  rw [xor4, shr_xor]
  congr 1
  rw [BitVec.getLsbD_xor]
  cases a.getLsbD 0 <;> cases b.getLsbD 0 <;> simp
theorem stN_xor (n : Nat) (a b : BitVec 32) : stN n (a ^^^ b) = stN n a ^^^ stN n b := by
  induction n with
  | zero => rfl
  | succ n ih => simp only [stN, ih, st_xor]
theorem st_zero : st 0#32 = 0#32 := by decide
theorem stN_zero (n : Nat) : stN n 0#32 = 0#32 := by
  induction n with
  | zero => rfl
  | succ n ih => rw [stN, ih, st_zero]
theorem stN_add (m n : Nat) (c : BitVec 32) : stN (m + n) c = stN n (stN m c) := by
  induction n with
  | zero => rfl
  | succ n ih => rw [← Nat.add_assoc, stN, stN, ih]
theorem st_nz {c : BitVec 32} (h : c ≠ 0#32) : st c ≠ 0#32 := by
  intro hs
  apply h
  have h31 : c.getLsbD 0 = false := by
    have := congrArg (fun x => x.getLsbD 31) hs
    simp only [st, BitVec.getLsbD_xor, BitVec.getLsbD_ushiftRight] at this
    rw [BitVec.getLsbD_of_ge c (1 + 31) (by omega)] at this
    cases hc : c.getLsbD 0 with
    | false => rfl
    | true =>
      rw [hc] at this
      revert this
      decide
  have hsh : c >>> 1 = 0#32 := by
    rw [st, h31] at hs
    simpa using hs
  apply BitVec.eq_of_getLsbD_eq
  intro i hi
  cases i with
  | zero => rw [h31]; rfl
  | succ i =>
    have := congrArg (fun x => x.getLsbD i) hsh
    simp only [BitVec.getLsbD_ushiftRight] at this
    rw [Nat.add_comm, this]
    simp
theorem stN_nz {c : BitVec 32} (h : c ≠ 0#32) (n : Nat) : stN n c ≠ 0#32 := by
  induction n with
  | zero => exact h
  | succ n ih => exact st_nz ih
theorem xor_eq_zero {a b : BitVec 32} (h : a ^^^ b = 0#32) : a = b := by
  have := congrArg (fun x => x ^^^ b) h
  simpa [BitVec.xor_assoc] using this
theorem stN_inj {n : Nat} {a b : BitVec 32} (h : stN n a = stN n b) : a = b := by
  apply xor_eq_zero
  apply Classical.byContradiction
  intro hne
  exact stN_nz hne n (by rw [stN_xor, h, BitVec.xor_self])
/-- A step back. -/
def bk (c : BitVec 32) : BitVec 32 := if c.getLsbD 31 then ((c ^^^ PL) <<< 1) ||| 1#32 else c <<< 1
def bkN : Nat → BitVec 32 → BitVec 32
  | 0, c => c
  | n + 1, c => bk (bkN n c)
theorem shl_shr (x : BitVec 32) (h : x.getLsbD 31 = false) : (x <<< 1) >>> 1 = x := by
  apply BitVec.eq_of_getLsbD_eq
  intro i hi
  rw [BitVec.getLsbD_ushiftRight, BitVec.getLsbD_shiftLeft]
  by_cases h31 : i = 31
  · subst h31; rw [h]; rfl
  · have e : 1 + i - 1 = i := by omega
    have e2 : (1 + i < 32) := by omega
    simp [e, e2]
theorem st_bk (c : BitVec 32) : st (bk c) = c := by
  unfold bk
  split
  · rename_i h
    have h0 : ((((c ^^^ PL) <<< 1) ||| 1#32).getLsbD 0) = true := by simp
    have h1 : (((c ^^^ PL) <<< 1) ||| 1#32) >>> 1 = c ^^^ PL := by
      have e : (((c ^^^ PL) <<< 1) ||| 1#32) >>> 1 = ((c ^^^ PL) <<< 1) >>> 1 := by
        apply BitVec.eq_of_getLsbD_eq
        intro i hi
        rw [BitVec.getLsbD_ushiftRight, BitVec.getLsbD_ushiftRight, BitVec.getLsbD_or]
        have : (1#32).getLsbD (1 + i) = false := by
          rw [BitVec.getLsbD_one]; simp
        rw [this, Bool.or_false]
      rw [e, shl_shr]
      rw [BitVec.getLsbD_xor, h]
      decide
    rw [st, h0, h1, if_pos rfl, BitVec.xor_assoc, BitVec.xor_self, xor_zero']
  · rename_i h
    have h0 : ((c <<< 1).getLsbD 0) = false := by simp
    rw [st, h0, if_neg (by decide), xor_zero', shl_shr]
    simpa using h
theorem stN_succ (n : Nat) (c : BitVec 32) : stN (n + 1) c = stN n (st c) := by
  induction n with
  | zero => rfl
  | succ n ih => rw [stN, ih]; rfl
theorem stN_bkN (n : Nat) (c : BitVec 32) : stN n (bkN n c) = c := by
  induction n with
  | zero => rfl
  | succ n ih => rw [stN_succ, bkN, st_bk, ih]
/-! ### a row of bits -/
def bt (b : Bool) : BitVec 32 := if b then 1#32 else 0#32
def brun (c : BitVec 32) (D : Nat → Bool) : Nat → BitVec 32
  | 0 => c
  | n + 1 => st (brun c D n ^^^ bt (D n))
theorem bt_xor (a b : Bool) : bt (a ^^ b) = bt a ^^^ bt b := by cases a <;> cases b <;> decide
theorem brun_xor (c d : BitVec 32) (D E : Nat → Bool) (n : Nat) : brun (c ^^^ d) (fun i => D i ^^ E i) n = brun c D n ^^^ brun d E n := by
  induction n with
  | zero => rfl
  | succ n ih => simp only [brun, ih, bt_xor]; rw [← st_xor, xor4]
theorem brun_congr {c : BitVec 32} {D E : Nat → Bool} {n : Nat} (h : ∀ i, i < n → D i = E i) : brun c D n = brun c E n := by
  induction n with
  | zero => rfl
  | succ n ih => simp only [brun]; rw [ih (fun i hi => h i (by omega)), h n (by omega)]
theorem brun_add (c : BitVec 32) (D : Nat → Bool) (m n : Nat) : brun c D (m + n) = brun (brun c D m) (fun i => D (m + i)) n := by
  induction n with
  | zero => rfl
  | succ n ih => rw [← Nat.add_assoc]; simp only [brun]; rw [ih]
theorem brun_none (c : BitVec 32) {D : Nat → Bool} {n : Nat} (h : ∀ i, i < n → D i = false) : brun c D n = stN n c := by
  induction n with
  | zero => rfl
  | succ n ih => simp only [brun, stN]; rw [ih (fun i hi => h i (by omega)), h n (by omega)]; simp [bt]
theorem shr_bit (x : BitVec 32) (n : Nat) : st (x >>> n ^^^ bt (x.getLsbD n)) = x >>> (n + 1) := by
  have h0 : ((x >>> n ^^^ bt (x.getLsbD n)).getLsbD 0) = false := by
    rw [BitVec.getLsbD_xor, BitVec.getLsbD_ushiftRight, Nat.add_zero]
    cases x.getLsbD n <;> decide
  rw [st, h0, if_neg (by decide), xor_zero', shr_xor]
  have : bt (x.getLsbD n) >>> 1 = 0#32 := by cases x.getLsbD n <;> decide
  rw [this, xor_zero', BitVec.shiftRight_add]
/-- The bits of x one by one: as if x had been laid in at a stroke. -/
theorem brun_word (c x : BitVec 32) (n : Nat) : brun c (fun i => x.getLsbD i) n ^^^ (x >>> n) = stN n (c ^^^ x) := by
  induction n with
  | zero => simp [brun, stN]
  | succ n ih =>
    have e := shr_bit x n
    simp only [brun, stN]
    rw [← ih, ← e, ← st_xor, xor4, ← bt_xor, Bool.xor_self, show bt false = 0#32 from rfl, xor_zero']
theorem brun_word32 (c x : BitVec 32) : brun c (fun i => x.getLsbD i) 32 = stN 32 (c ^^^ x) := by
  have := brun_word c x 32
  rwa [BitVec.ushiftRight_eq_zero (Nat.le_refl _), xor_zero'] at this
/-- A burst: other sums. -/
theorem brun_burst (c : BitVec 32) (D E : Nat → Bool) (x : BitVec 32) (hx : x ≠ 0#32) (f n : Nat) (hn : f + 32 ≤ n)
    (h : ∀ i, i < n → E i = (D i ^^ (decide (f ≤ i) && x.getLsbD (i - f)))) : brun c E n ≠ brun c D n := by
  intro he
  have e1 : brun 0#32 (fun i => E i ^^ D i) n = 0#32 := by
    have := brun_xor c c E D n
    rw [BitVec.xor_self, he, BitVec.xor_self] at this
    exact this
  have e2 : brun 0#32 (fun i => decide (f ≤ i) && x.getLsbD (i - f)) n = 0#32 := by
    refine Eq.trans (brun_congr fun i hi => ?_) e1
    rw [h i hi]
    cases D i <;> simp
  obtain ⟨m, rfl⟩ : ∃ m, n = f + (32 + m) := ⟨n - f - 32, by omega⟩
  rw [brun_add, brun_none (n := f), stN_zero, brun_add] at e2
  · have e3 : brun 0#32 (fun i => decide (f ≤ f + i) && x.getLsbD (f + i - f)) 32 = stN 32 x := by
      have := brun_word32 0#32 x
      rw [BitVec.zero_xor] at this
      rw [← this]
      refine brun_congr fun i hi => ?_
      simp
    rw [e3, brun_none] at e2
    · exact stN_nz (stN_nz hx 32) m e2
    · intro i hi
      have : x.getLsbD (f + (32 + i) - f) = false := BitVec.getLsbD_of_ge _ _ (by omega)
      simp only [this, Bool.and_false]
  · intro i hi
    have : decide (f ≤ i) = false := decide_eq_false (by omega)
    simp only [this, Bool.false_and]
/-! ### bytes -/
def bw (b : UInt8) : BitVec 32 := BitVec.ofNat 32 b.toNat
/-- What a byte makes of the state. -/
def by8 (c : BitVec 32) (b : UInt8) : BitVec 32 := stN 8 (c ^^^ bw b)
def run (c : BitVec 32) (l : List UInt8) : BitVec 32 := l.foldl by8 c
theorem run_append (c : BitVec 32) (l m : List UInt8) : run c (l ++ m) = run (run c l) m := by simp [run]
theorem run_snoc (c : BitVec 32) (l : List UInt8) (b : UInt8) : run c (l ++ [b]) = by8 (run c l) b := by simp [run]
theorem bw_bit (b : UInt8) (i : Nat) : (bw b).getLsbD i = b.toNat.testBit i := by
  have hb : b.toNat < 256 := b.toNat_lt
  rw [bw, BitVec.getLsbD_ofNat]
  by_cases h : i < 32
  · simp [h]
  · have : b.toNat.testBit i = false := Nat.testBit_lt_two_pow (Nat.lt_of_lt_of_le hb (by have := Nat.pow_le_pow_right (n := 2) (by decide) (show 8 ≤ i by omega); simpa using this))
    simp [h, this]
theorem bw_shr (b : UInt8) : bw b >>> 8 = 0#32 := by
  have hb : b.toNat < 256 := b.toNat_lt
  apply BitVec.eq_of_toNat_eq
  rw [BitVec.toNat_ushiftRight, bw, BitVec.toNat_ofNat, Nat.shiftRight_eq_div_pow]
  simp
  omega
theorem by8_bits (c : BitVec 32) (b : UInt8) : by8 c b = brun c (fun i => b.toNat.testBit i) 8 := by
  have := brun_word c (bw b) 8
  rw [bw_shr, xor_zero'] at this
  rw [by8, ← this]
  exact brun_congr fun i _ => bw_bit b i
/-- The bit i of a row of bytes. -/
def bitL (l : List UInt8) (i : Nat) : Bool := (l.getD (i / 8) 0).toNat.testBit (i % 8)
theorem run_bits (c : BitVec 32) (l : List UInt8) : run c l = brun c (bitL l) (8 * l.length) := by
  induction l generalizing c with
  | nil => rfl
  | cons b l ih =>
    rw [show run c (b :: l) = run (by8 c b) l from rfl, ih, by8_bits, List.length_cons, show 8 * (l.length + 1) = 8 + 8 * l.length by omega, brun_add]
    have e0 : brun c (fun i => b.toNat.testBit i) 8 = brun c (bitL (b :: l)) 8 := brun_congr fun i hi => by
      simp [bitL, Nat.div_eq_of_lt hi, Nat.mod_eq_of_lt hi]
    have e3 : bitL l = fun i => bitL (b :: l) (8 + i) := by
      funext i
      have e1 : (8 + i) / 8 = i / 8 + 1 := by omega
      have e2 : (8 + i) % 8 = i % 8 := by omega
      simp [bitL, e1, e2]
    rw [e0, e3]
/-- Three rows of one length and their xor. -/
theorem run_three (c : BitVec 32) (x y z b : List UInt8) (n : Nat) (hx : x.length = n) (hy : y.length = n) (hz : z.length = n) (hb : b.length = n)
    (h : ∀ i, i < n → b.getD i 0 = x.getD i 0 ^^^ y.getD i 0 ^^^ z.getD i 0) : run c b = run c x ^^^ run c y ^^^ run c z := by
  rw [run_bits c b, run_bits c x, run_bits c y, run_bits c z, hb, hx, hy, hz]
  have e : brun c (bitL b) (8 * n) = brun (c ^^^ c ^^^ c) (fun i => (bitL x i ^^ bitL y i) ^^ bitL z i) (8 * n) := by
    rw [BitVec.xor_self, BitVec.zero_xor]
    refine brun_congr fun i hi => ?_
    unfold bitL
    rw [h (i / 8) (by omega), UInt8.toNat_xor, UInt8.toNat_xor, Nat.testBit_xor, Nat.testBit_xor]
  rw [e, brun_xor (c ^^^ c) c (fun i => bitL x i ^^ bitL y i) (bitL z), brun_xor]
/-- The sum of what had the sum c, with l behind it. -/
def mor (c : BitVec 32) (l : List UInt8) : BitVec 32 := ~~~ (run (~~~ c) l)
theorem mor_nil (c : BitVec 32) : mor c [] = c := by simp [mor, run]
theorem mor_append (c : BitVec 32) (l m : List UInt8) : mor c (l ++ m) = mor (mor c l) m := by simp [mor, run_append]
theorem not_three (a b c : BitVec 32) : ~~~ (a ^^^ b ^^^ c) = ~~~ a ^^^ ~~~ b ^^^ ~~~ c := by
  apply BitVec.eq_of_getLsbD_eq
  intro i hi
  simp only [BitVec.getLsbD_xor, BitVec.getLsbD_not, hi, decide_true, Bool.true_and]
  cases a.getLsbD i <;> cases b.getLsbD i <;> cases c.getLsbD i <;> rfl
theorem not_inj {a b : BitVec 32} (h : ~~~ a = ~~~ b) : a = b := by
  have := congrArg (fun x => ~~~ x) h
  simpa using this
/-- Four bytes, the lowest first. -/
def four (x : BitVec 32) : List UInt8 := [UInt8.ofNat x.toNat, UInt8.ofNat (x.toNat / 256), UInt8.ofNat (x.toNat / 65536), UInt8.ofNat (x.toNat / 16777216)]
theorem four_bit (x : BitVec 32) (i : Nat) (hi : i < 32) : bitL (four x) i = x.getLsbD i := by
  have key : ∀ k, k < 4 → i / 8 = k → (UInt8.ofNat (x.toNat / 2 ^ (8 * k))).toNat.testBit (i % 8) = x.getLsbD i := by
    intro k hk hik
    rw [UInt8.toNat_ofNat', show (2 : Nat) ^ 8 = 2 ^ 8 from rfl, Nat.testBit_mod_two_pow, Nat.testBit_div_two_pow]
    have e1 : i % 8 < 8 := Nat.mod_lt _ (by decide)
    have e2 : 8 * k + i % 8 = i := by omega
    rw [decide_eq_true e1, Bool.true_and, show i % 8 + 8 * k = i by omega]
    rfl
  have h4 : i / 8 < 4 := by omega
  unfold bitL four
  match hk : i / 8, h4 with
  | 0, _ => have := key 0 (by decide) hk; rw [show x.toNat / 2 ^ (8 * 0) = x.toNat by simp] at this; exact this
  | 1, _ => exact key 1 (by decide) hk
  | 2, _ => exact key 2 (by decide) hk
  | 3, _ => exact key 3 (by decide) hk
theorem run_four (c x : BitVec 32) : run c (four x) = stN 32 (c ^^^ x) := by
  rw [run_bits, ← brun_word32]
  exact brun_congr fun i hi => four_bit x i hi
/-! ### the program's halves -/
def TB : List (BitVec 32) := [0x00000000#32, 0x105ec76f#32, 0x20bd8ede#32, 0x30e349b1#32, 0x417b1dbc#32, 0x5125dad3#32, 0x61c69362#32, 0x7198540d#32,
  0x82f63b78#32, 0x92a8fc17#32, 0xa24bb5a6#32, 0xb21572c9#32, 0xc38d26c4#32, 0xd3d3e1ab#32, 0xe330a81a#32, 0xf36e6f75#32]
theorem tb_low : ∀ n, n < 16 → TB.getD n 0#32 = stN 4 (BitVec.ofNat 32 n) := by decide
theorem st_shl (x : BitVec 32) (h : x.getLsbD 31 = false) : st (x <<< 1) = x := by
  have h0 : ((x <<< 1).getLsbD 0) = false := by simp
  rw [st, h0, if_neg (by decide), xor_zero', shl_shr x h]
theorem halves (x : BitVec 32) : (x >>> 4) ^^^ TB.getD (x.toNat % 16) 0#32 = stN 4 x := by
  have hs : ∀ k, k ≤ 4 → stN k ((x >>> 4) <<< 4) = (x >>> 4) <<< (4 - k) := by
    intro k hk
    induction k with
    | zero => rfl
    | succ k ih =>
      rw [stN, ih (by omega)]
      have e : (x >>> 4) <<< (4 - k) = ((x >>> 4) <<< (4 - (k + 1))) <<< 1 := by
        rw [← BitVec.shiftLeft_add, show 4 - (k + 1) + 1 = 4 - k by omega]
      rw [e, st_shl]
      rw [BitVec.getLsbD_shiftLeft, BitVec.getLsbD_ushiftRight]
      have : x.getLsbD (4 + (31 - (4 - (k + 1)))) = false := BitVec.getLsbD_of_ge _ _ (by omega)
      rw [this, Bool.and_false]
  have h4 := hs 4 (Nat.le_refl _)
  have hx : x = (x >>> 4) <<< 4 ^^^ BitVec.ofNat 32 (x.toNat % 16) := by
    apply BitVec.eq_of_getLsbD_eq
    intro i hi
    rw [BitVec.getLsbD_xor, BitVec.getLsbD_shiftLeft, BitVec.getLsbD_ushiftRight, BitVec.getLsbD_ofNat, show (16 : Nat) = 2 ^ 4 from rfl, Nat.testBit_mod_two_pow]
    by_cases h : i < 4
    · simp [h, hi, BitVec.getLsbD]
    · have : 4 + (i - 4) = i := by omega
      simp [h, hi, this]
  rw [tb_low _ (Nat.mod_lt _ (by decide))]
  conv => rhs; rw [hx]
  rw [stN_xor, h4, Nat.sub_self, BitVec.shiftLeft_zero]
/-- A byte by the program's steps. -/
theorem by8_halves (c : BitVec 32) (b : UInt8) (x y : BitVec 32) (hx : x = c ^^^ bw b) (hy : y = (x >>> 4) ^^^ TB.getD (x.toNat % 16) 0#32) : (y >>> 4) ^^^ TB.getD (y.toNat % 16) 0#32 = by8 c b := by
  rw [halves] at hy ⊢
  rw [by8, show (8 : Nat) = 4 + 4 from rfl, stN_add, ← hx, ← hy]
end Go.Proofs.Ytggkjleibhpnfaa
