/-
  RSpec, RWalkA, RWalkB, NList. Own work.
-/
import Derived.Test.YthfnpagangjpbabGreatRows
import Derived.Test.YthfnpagangjpbabGreatProg
import Derived.Deep.MidRow
import Derived.Below
import Derived.WalkKit
import Derived.WalkSpells
import Derived.Outline
import Derived.KernelRfl
import Derived.Deep.LoopGhost
import Derived.Deep.RegionHeld3
import Derived.Deep.RegionWith
import Derived.Deep.DrawnRows
import Derived.Deep.Light
import Derived.Laws.BitsAllLaws
import Derived.BigQuiet
import Derived.Deep.Onto
import Derived.ArgAppend
import Derived.Laws.AppendOwnNone
import Derived.Handy
/-
  CRC-32C as a plain function on rows of bits: linear, one to one, and what a burst does. Own work.
-/
namespace Go.Proofs.YthfnpagangjpbabGreat.Rc
/-- The polynomial, turned. -/
def PL : BitVec 32 := 0x82f63b78#32
/-- One step. -/
def st (c : BitVec 32) : BitVec 32 := (c >>> 1) ^^^ (if c.getLsbD 0 then PL else 0#32)
def stN : Nat → BitVec 32 → BitVec 32
  | 0, c => c
  | n + 1, c => st (stN n c)
theorem xor4 (a b c d : BitVec 32) : (a ^^^ b) ^^^ (c ^^^ d) = (a ^^^ c) ^^^ (b ^^^ d) := by
  apply BitVec.eq_of_getLsbD_eq
  intro i _
  simp only [BitVec.getLsbD_xor]
  cases a.getLsbD i <;> cases b.getLsbD i <;> cases c.getLsbD i <;> cases d.getLsbD i <;> rfl
theorem xor_swap (a b c : BitVec 32) : (a ^^^ b) ^^^ c = (a ^^^ c) ^^^ b := by
  rw [BitVec.xor_assoc, BitVec.xor_comm b c, ← BitVec.xor_assoc]
theorem xor_zero' (a : BitVec 32) : a ^^^ 0#32 = a := BitVec.xor_zero
theorem shr_xor (a b : BitVec 32) (n : Nat) : (a ^^^ b) >>> n = (a >>> n) ^^^ (b >>> n) := by
  apply BitVec.eq_of_getLsbD_eq
  intro i _
  simp only [BitVec.getLsbD_xor, BitVec.getLsbD_ushiftRight]
theorem st_xor (a b : BitVec 32) : st (a ^^^ b) = st a ^^^ st b := by
  unfold st
  rw [xor4, shr_xor]
  congr 1
  rw [BitVec.getLsbD_xor]
  cases a.getLsbD 0 <;> cases b.getLsbD 0 <;> simp
theorem stN_xor (n : Nat) (a b : BitVec 32) : stN n (a ^^^ b) = stN n a ^^^ stN n b := by
  induction n with
  | zero => rfl
  | succ n ih => simp only [stN, ih, st_xor]
theorem st_zero : st 0#32 = 0#32 := by decide
theorem stN_zero (n : Nat) : stN n 0#32 = 0#32 := by
  induction n with
  | zero => rfl
  | succ n ih => rw [stN, ih, st_zero]
theorem stN_add (m n : Nat) (c : BitVec 32) : stN (m + n) c = stN n (stN m c) := by
  induction n with
  | zero => rfl
  | succ n ih => rw [← Nat.add_assoc, stN, stN, ih]
theorem st_nz {c : BitVec 32} (h : c ≠ 0#32) : st c ≠ 0#32 := by
  intro hs
  apply h
  have h31 : c.getLsbD 0 = false := by
    have := congrArg (fun x => x.getLsbD 31) hs
    simp only [st, BitVec.getLsbD_xor, BitVec.getLsbD_ushiftRight] at this
    rw [BitVec.getLsbD_of_ge c (1 + 31) (by omega)] at this
    cases hc : c.getLsbD 0 with
    | false => rfl
    | true =>
      rw [hc] at this
      revert this
      decide
  have hsh : c >>> 1 = 0#32 := by
    rw [st, h31] at hs
    simpa using hs
  apply BitVec.eq_of_getLsbD_eq
  intro i hi
  cases i with
  | zero => rw [h31]; rfl
  | succ i =>
    have := congrArg (fun x => x.getLsbD i) hsh
    simp only [BitVec.getLsbD_ushiftRight] at this
    rw [Nat.add_comm, this]
    simp
theorem stN_nz {c : BitVec 32} (h : c ≠ 0#32) (n : Nat) : stN n c ≠ 0#32 := by
  induction n with
  | zero => exact h
  | succ n ih => exact st_nz ih
theorem xor_eq_zero {a b : BitVec 32} (h : a ^^^ b = 0#32) : a = b := by
  have := congrArg (fun x => x ^^^ b) h
  simpa [BitVec.xor_assoc] using this
theorem stN_inj {n : Nat} {a b : BitVec 32} (h : stN n a = stN n b) : a = b := by
  apply xor_eq_zero
  apply Classical.byContradiction
  intro hne
  exact stN_nz hne n (by rw [stN_xor, h, BitVec.xor_self])
/-- A step back. -/
def bk (c : BitVec 32) : BitVec 32 := if c.getLsbD 31 then ((c ^^^ PL) <<< 1) ||| 1#32 else c <<< 1
def bkN : Nat → BitVec 32 → BitVec 32
  | 0, c => c
  | n + 1, c => bk (bkN n c)
theorem shl_shr (x : BitVec 32) (h : x.getLsbD 31 = false) : (x <<< 1) >>> 1 = x := by
  apply BitVec.eq_of_getLsbD_eq
  intro i hi
  rw [BitVec.getLsbD_ushiftRight, BitVec.getLsbD_shiftLeft]
  by_cases h31 : i = 31
  · subst h31; rw [h]; rfl
  · have e : 1 + i - 1 = i := by omega
    have e2 : (1 + i < 32) := by omega
    simp [e, e2]
theorem st_bk (c : BitVec 32) : st (bk c) = c := by
  unfold bk
  split
  · rename_i h
    have h0 : ((((c ^^^ PL) <<< 1) ||| 1#32).getLsbD 0) = true := by simp
    have h1 : (((c ^^^ PL) <<< 1) ||| 1#32) >>> 1 = c ^^^ PL := by
      have e : (((c ^^^ PL) <<< 1) ||| 1#32) >>> 1 = ((c ^^^ PL) <<< 1) >>> 1 := by
        apply BitVec.eq_of_getLsbD_eq
        intro i hi
        rw [BitVec.getLsbD_ushiftRight, BitVec.getLsbD_ushiftRight, BitVec.getLsbD_or]
        have : (1#32).getLsbD (1 + i) = false := by
          rw [BitVec.getLsbD_one]; simp
        rw [this, Bool.or_false]
      rw [e, shl_shr]
      rw [BitVec.getLsbD_xor, h]
      decide
    rw [st, h0, h1, if_pos rfl, BitVec.xor_assoc, BitVec.xor_self, xor_zero']
  · rename_i h
    have h0 : ((c <<< 1).getLsbD 0) = false := by simp
    rw [st, h0, if_neg (by decide), xor_zero', shl_shr]
    simpa using h
theorem stN_succ (n : Nat) (c : BitVec 32) : stN (n + 1) c = stN n (st c) := by
  induction n with
  | zero => rfl
  | succ n ih => rw [stN, ih]; rfl
theorem stN_bkN (n : Nat) (c : BitVec 32) : stN n (bkN n c) = c := by
  induction n with
  | zero => rfl
  | succ n ih => rw [stN_succ, bkN, st_bk, ih]
/-! ### a row of bits -/
def bt (b : Bool) : BitVec 32 := if b then 1#32 else 0#32
def brun (c : BitVec 32) (D : Nat → Bool) : Nat → BitVec 32
  | 0 => c
  | n + 1 => st (brun c D n ^^^ bt (D n))
theorem bt_xor (a b : Bool) : bt (a ^^ b) = bt a ^^^ bt b := by cases a <;> cases b <;> decide
theorem brun_xor (c d : BitVec 32) (D E : Nat → Bool) (n : Nat) : brun (c ^^^ d) (fun i => D i ^^ E i) n = brun c D n ^^^ brun d E n := by
  induction n with
  | zero => rfl
  | succ n ih => simp only [brun, ih, bt_xor]; rw [← st_xor, xor4]
theorem brun_congr {c : BitVec 32} {D E : Nat → Bool} {n : Nat} (h : ∀ i, i < n → D i = E i) : brun c D n = brun c E n := by
  induction n with
  | zero => rfl
  | succ n ih => simp only [brun]; rw [ih (fun i hi => h i (by omega)), h n (by omega)]
theorem brun_add (c : BitVec 32) (D : Nat → Bool) (m n : Nat) : brun c D (m + n) = brun (brun c D m) (fun i => D (m + i)) n := by
  induction n with
  | zero => rfl
  | succ n ih => rw [← Nat.add_assoc]; simp only [brun]; rw [ih]
theorem brun_none (c : BitVec 32) {D : Nat → Bool} {n : Nat} (h : ∀ i, i < n → D i = false) : brun c D n = stN n c := by
  induction n with
  | zero => rfl
  | succ n ih => simp only [brun, stN]; rw [ih (fun i hi => h i (by omega)), h n (by omega)]; simp [bt]
theorem shr_bit (x : BitVec 32) (n : Nat) : st (x >>> n ^^^ bt (x.getLsbD n)) = x >>> (n + 1) := by
  have h0 : ((x >>> n ^^^ bt (x.getLsbD n)).getLsbD 0) = false := by
    rw [BitVec.getLsbD_xor, BitVec.getLsbD_ushiftRight, Nat.add_zero]
    cases x.getLsbD n <;> decide
  rw [st, h0, if_neg (by decide), xor_zero', shr_xor]
  have : bt (x.getLsbD n) >>> 1 = 0#32 := by cases x.getLsbD n <;> decide
  rw [this, xor_zero', BitVec.shiftRight_add]
/-- The bits of x one by one: as if x had been laid in at a stroke. -/
theorem brun_word (c x : BitVec 32) (n : Nat) : brun c (fun i => x.getLsbD i) n ^^^ (x >>> n) = stN n (c ^^^ x) := by
  induction n with
  | zero => simp [brun, stN]
  | succ n ih =>
    have e := shr_bit x n
    simp only [brun, stN]
    rw [← ih, ← e, ← st_xor, xor4, ← bt_xor, Bool.xor_self, show bt false = 0#32 from rfl, xor_zero']
theorem brun_word32 (c x : BitVec 32) : brun c (fun i => x.getLsbD i) 32 = stN 32 (c ^^^ x) := by
  have := brun_word c x 32
  rwa [BitVec.ushiftRight_eq_zero (Nat.le_refl _), xor_zero'] at this
/-- A burst: other sums. -/
theorem brun_burst (c : BitVec 32) (D E : Nat → Bool) (x : BitVec 32) (hx : x ≠ 0#32) (f n : Nat) (hn : f + 32 ≤ n)
    (h : ∀ i, i < n → E i = (D i ^^ (decide (f ≤ i) && x.getLsbD (i - f)))) : brun c E n ≠ brun c D n := by
  intro he
  have e1 : brun 0#32 (fun i => E i ^^ D i) n = 0#32 := by
    have := brun_xor c c E D n
    rw [BitVec.xor_self, he, BitVec.xor_self] at this
    exact this
  have e2 : brun 0#32 (fun i => decide (f ≤ i) && x.getLsbD (i - f)) n = 0#32 := by
    refine Eq.trans (brun_congr fun i hi => ?_) e1
    rw [h i hi]
    cases D i <;> simp
  obtain ⟨m, rfl⟩ : ∃ m, n = f + (32 + m) := ⟨n - f - 32, by omega⟩
  rw [brun_add, brun_none (n := f), stN_zero, brun_add] at e2
  · have e3 : brun 0#32 (fun i => decide (f ≤ f + i) && x.getLsbD (f + i - f)) 32 = stN 32 x := by
      have := brun_word32 0#32 x
      rw [BitVec.zero_xor] at this
      rw [← this]
      refine brun_congr fun i hi => ?_
      simp
    rw [e3, brun_none] at e2
    · exact stN_nz (stN_nz hx 32) m e2
    · intro i hi
      have : x.getLsbD (f + (32 + i) - f) = false := BitVec.getLsbD_of_ge _ _ (by omega)
      simp only [this, Bool.and_false]
  · intro i hi
    have : decide (f ≤ i) = false := decide_eq_false (by omega)
    simp only [this, Bool.false_and]
/-! ### bytes -/
def bw (b : UInt8) : BitVec 32 := BitVec.ofNat 32 b.toNat
/-- What a byte makes of the state. -/
def by8 (c : BitVec 32) (b : UInt8) : BitVec 32 := stN 8 (c ^^^ bw b)
def run (c : BitVec 32) (l : List UInt8) : BitVec 32 := l.foldl by8 c
theorem run_append (c : BitVec 32) (l m : List UInt8) : run c (l ++ m) = run (run c l) m := by simp [run]
theorem run_snoc (c : BitVec 32) (l : List UInt8) (b : UInt8) : run c (l ++ [b]) = by8 (run c l) b := by simp [run]
theorem bw_bit (b : UInt8) (i : Nat) : (bw b).getLsbD i = b.toNat.testBit i := by
  have hb : b.toNat < 256 := b.toNat_lt
  rw [bw, BitVec.getLsbD_ofNat]
  by_cases h : i < 32
  · simp [h]
  · have : b.toNat.testBit i = false := Nat.testBit_lt_two_pow (Nat.lt_of_lt_of_le hb (by have := Nat.pow_le_pow_right (n := 2) (by decide) (show 8 ≤ i by omega); simpa using this))
    simp [h, this]
theorem bw_shr (b : UInt8) : bw b >>> 8 = 0#32 := by
  have hb : b.toNat < 256 := b.toNat_lt
  apply BitVec.eq_of_toNat_eq
  rw [BitVec.toNat_ushiftRight, bw, BitVec.toNat_ofNat, Nat.shiftRight_eq_div_pow]
  simp
  omega
theorem by8_bits (c : BitVec 32) (b : UInt8) : by8 c b = brun c (fun i => b.toNat.testBit i) 8 := by
  have := brun_word c (bw b) 8
  rw [bw_shr, xor_zero'] at this
  rw [by8, ← this]
  exact brun_congr fun i _ => bw_bit b i
/-- The bit i of a row of bytes. -/
def bitL (l : List UInt8) (i : Nat) : Bool := (l.getD (i / 8) 0).toNat.testBit (i % 8)
theorem run_bits (c : BitVec 32) (l : List UInt8) : run c l = brun c (bitL l) (8 * l.length) := by
  induction l generalizing c with
  | nil => rfl
  | cons b l ih =>
    rw [show run c (b :: l) = run (by8 c b) l from rfl, ih, by8_bits, List.length_cons, show 8 * (l.length + 1) = 8 + 8 * l.length by omega, brun_add]
    have e0 : brun c (fun i => b.toNat.testBit i) 8 = brun c (bitL (b :: l)) 8 := brun_congr fun i hi => by
      simp [bitL, Nat.div_eq_of_lt hi, Nat.mod_eq_of_lt hi]
    have e3 : bitL l = fun i => bitL (b :: l) (8 + i) := by
      funext i
      have e1 : (8 + i) / 8 = i / 8 + 1 := by omega
      have e2 : (8 + i) % 8 = i % 8 := by omega
      simp [bitL, e1, e2]
    rw [e0, e3]
/-- Three rows of one length and their xor. -/
theorem run_three (c : BitVec 32) (x y z b : List UInt8) (n : Nat) (hx : x.length = n) (hy : y.length = n) (hz : z.length = n) (hb : b.length = n)
    (h : ∀ i, i < n → b.getD i 0 = x.getD i 0 ^^^ y.getD i 0 ^^^ z.getD i 0) : run c b = run c x ^^^ run c y ^^^ run c z := by
  rw [run_bits c b, run_bits c x, run_bits c y, run_bits c z, hb, hx, hy, hz]
  have e : brun c (bitL b) (8 * n) = brun (c ^^^ c ^^^ c) (fun i => (bitL x i ^^ bitL y i) ^^ bitL z i) (8 * n) := by
    rw [BitVec.xor_self, BitVec.zero_xor]
    refine brun_congr fun i hi => ?_
    unfold bitL
    rw [h (i / 8) (by omega), UInt8.toNat_xor, UInt8.toNat_xor, Nat.testBit_xor, Nat.testBit_xor]
  rw [e, brun_xor (c ^^^ c) c (fun i => bitL x i ^^ bitL y i) (bitL z), brun_xor]
/-- The sum of what had the sum c, with l behind it. -/
def mor (c : BitVec 32) (l : List UInt8) : BitVec 32 := ~~~ (run (~~~ c) l)
theorem mor_nil (c : BitVec 32) : mor c [] = c := by simp [mor, run]
theorem mor_append (c : BitVec 32) (l m : List UInt8) : mor c (l ++ m) = mor (mor c l) m := by simp [mor, run_append]
theorem not_three (a b c : BitVec 32) : ~~~ (a ^^^ b ^^^ c) = ~~~ a ^^^ ~~~ b ^^^ ~~~ c := by
  apply BitVec.eq_of_getLsbD_eq
  intro i hi
  simp only [BitVec.getLsbD_xor, BitVec.getLsbD_not, hi, decide_true, Bool.true_and]
  cases a.getLsbD i <;> cases b.getLsbD i <;> cases c.getLsbD i <;> rfl
theorem not_inj {a b : BitVec 32} (h : ~~~ a = ~~~ b) : a = b := by
  have := congrArg (fun x => ~~~ x) h
  simpa using this
/-- Four bytes, the lowest first. -/
def four (x : BitVec 32) : List UInt8 := [UInt8.ofNat x.toNat, UInt8.ofNat (x.toNat / 256), UInt8.ofNat (x.toNat / 65536), UInt8.ofNat (x.toNat / 16777216)]
theorem four_bit (x : BitVec 32) (i : Nat) (hi : i < 32) : bitL (four x) i = x.getLsbD i := by
  have key : ∀ k, k < 4 → i / 8 = k → (UInt8.ofNat (x.toNat / 2 ^ (8 * k))).toNat.testBit (i % 8) = x.getLsbD i := by
    intro k hk hik
    rw [UInt8.toNat_ofNat', show (2 : Nat) ^ 8 = 2 ^ 8 from rfl, Nat.testBit_mod_two_pow, Nat.testBit_div_two_pow]
    have e1 : i % 8 < 8 := Nat.mod_lt _ (by decide)
    have e2 : 8 * k + i % 8 = i := by omega
    rw [decide_eq_true e1, Bool.true_and, show i % 8 + 8 * k = i by omega]
    rfl
  have h4 : i / 8 < 4 := by omega
  unfold bitL four
  match hk : i / 8, h4 with
  | 0, _ => have := key 0 (by decide) hk; rw [show x.toNat / 2 ^ (8 * 0) = x.toNat by simp] at this; exact this
  | 1, _ => exact key 1 (by decide) hk
  | 2, _ => exact key 2 (by decide) hk
  | 3, _ => exact key 3 (by decide) hk
theorem run_four (c x : BitVec 32) : run c (four x) = stN 32 (c ^^^ x) := by
  rw [run_bits, ← brun_word32]
  exact brun_congr fun i hi => four_bit x i hi
/-! ### the program's halves -/
def TB : List (BitVec 32) := [0x00000000#32, 0x105ec76f#32, 0x20bd8ede#32, 0x30e349b1#32, 0x417b1dbc#32, 0x5125dad3#32, 0x61c69362#32, 0x7198540d#32,
  0x82f63b78#32, 0x92a8fc17#32, 0xa24bb5a6#32, 0xb21572c9#32, 0xc38d26c4#32, 0xd3d3e1ab#32, 0xe330a81a#32, 0xf36e6f75#32]
theorem tb_low : ∀ n, n < 16 → TB.getD n 0#32 = stN 4 (BitVec.ofNat 32 n) := by decide
theorem st_shl (x : BitVec 32) (h : x.getLsbD 31 = false) : st (x <<< 1) = x := by
  have h0 : ((x <<< 1).getLsbD 0) = false := by simp
  rw [st, h0, if_neg (by decide), xor_zero', shl_shr x h]
theorem halves (x : BitVec 32) : (x >>> 4) ^^^ TB.getD (x.toNat % 16) 0#32 = stN 4 x := by
  have hs : ∀ k, k ≤ 4 → stN k ((x >>> 4) <<< 4) = (x >>> 4) <<< (4 - k) := by
    intro k hk
    induction k with
    | zero => rfl
    | succ k ih =>
      rw [stN, ih (by omega)]
      have e : (x >>> 4) <<< (4 - k) = ((x >>> 4) <<< (4 - (k + 1))) <<< 1 := by
        rw [← BitVec.shiftLeft_add, show 4 - (k + 1) + 1 = 4 - k by omega]
      rw [e, st_shl]
      rw [BitVec.getLsbD_shiftLeft, BitVec.getLsbD_ushiftRight]
      have : x.getLsbD (4 + (31 - (4 - (k + 1)))) = false := BitVec.getLsbD_of_ge _ _ (by omega)
      rw [this, Bool.and_false]
  have h4 := hs 4 (Nat.le_refl _)
  have hx : x = (x >>> 4) <<< 4 ^^^ BitVec.ofNat 32 (x.toNat % 16) := by
    apply BitVec.eq_of_getLsbD_eq
    intro i hi
    rw [BitVec.getLsbD_xor, BitVec.getLsbD_shiftLeft, BitVec.getLsbD_ushiftRight, BitVec.getLsbD_ofNat, show (16 : Nat) = 2 ^ 4 from rfl, Nat.testBit_mod_two_pow]
    by_cases h : i < 4
    · simp [h, hi, BitVec.getLsbD]
    · have : 4 + (i - 4) = i := by omega
      simp [h, hi, this]
  rw [tb_low _ (Nat.mod_lt _ (by decide))]
  conv => rhs; rw [hx]
  rw [stN_xor, h4, Nat.sub_self, BitVec.shiftLeft_zero]
/-- A byte by the program's steps. -/
theorem by8_halves (c : BitVec 32) (b : UInt8) (x y : BitVec 32) (hx : x = c ^^^ bw b) (hy : y = (x >>> 4) ^^^ TB.getD (x.toNat % 16) 0#32) : (y >>> 4) ^^^ TB.getD (y.toNat % 16) 0#32 = by8 c b := by
  rw [halves] at hy ⊢
  rw [by8, show (8 : Nat) = 4 + 4 from rfl, stN_add, ← hx, ← hy]
end Go.Proofs.YthfnpagangjpbabGreat.Rc
/-
  Walks of package crc: More. Own work.
-/
namespace Go.Proofs.YthfnpagangjpbabGreat.Rc
open Go.RowKit
attribute [local go_sem ↓] Go.wp_at_zero Go.wp_at_succ
def cW (l : List (BitVec 32)) : List Value := l.map fun c => Value.int .u32 (c.toNat : Int)
def tabO : Obj := .cells (cW TB).toArray 189
theorem cW_len (l : List (BitVec 32)) : (cW l).length = l.length := by simp [cW]
theorem range_new (w : World) (cs : List Value) (t : TypeId) : (w.alloc (.cells cs.toArray t)).rangeAt w.heap.size 0 cs := fun j v hv => by
  rw [Nat.zero_add, World.cell?_alloc_new]
  simpa using hv
theorem tab_cell (w : World) (n : Nat) (hn : n < 16) : (w.alloc tabO).cell? ⟨w.heap.size, n, none⟩ = some (.int .u32 ((TB.getD n 0#32).toNat : Int)) := by
  have hl : n < TB.length := hn
  have := range_new w (cW TB) 189 n (.int .u32 ((TB.getD n 0#32).toNat : Int)) (by simp [cW, List.getElem?_eq_getElem hl, List.getD_eq_getElem?_getD])
  rwa [Nat.zero_add] at this
theorem xor32 (a b : BitVec 32) : bits .xor .u32 (a.toNat : Int) (b.toNat : Int) = ((a ^^^ b).toNat : Int) := by
  rw [u32_xor_nat _ _ a.isLt b.isLt, BitVec.toNat_xor]
theorem not32 (a : BitVec 32) : bits .xor .u32 IntKind.u32.max (a.toNat : Int) = ((~~~ a).toNat : Int) := by
  have e : IntKind.u32.max = ((BitVec.allOnes 32).toNat : Int) := by decide
  rw [e, xor32, BitVec.allOnes_xor]
theorem byte32 (a : BitVec 32) (b : UInt8) : bits .xor .u32 (a.toNat : Int) ((b.toNat : Int) % 4294967296) = ((a ^^^ bw b).toNat : Int) := by
  have hb : b.toNat < 256 := b.toNat_lt
  have e : (b.toNat : Int) % 4294967296 = ((bw b).toNat : Int) := by
    rw [bw, BitVec.toNat_ofNat, Nat.mod_eq_of_lt (by omega)]; omega
  rw [e, xor32]
theorem half (X : BitVec 32) : ∃ q n t y : Nat, (X.toNat : Int) / 16 = (q : Int) ∧ bits .and .u32 (X.toNat : Int) 15 = (n : Int) ∧ n < 16 ∧ (TB.getD n 0#32).toNat = t ∧ bits .xor .u32 (q : Int) (t : Int) = (y : Int) ∧ y = (stN 4 X).toNat := by
  refine ⟨X.toNat / 16, X.toNat % 16, _, _, by omega, ?_, Nat.mod_lt _ (by decide), rfl, ?_, rfl⟩
  · have := u32_and_nat X.toNat 15 X.isLt (by decide)
    rw [show ((15 : Nat) : Int) = 15 from rfl] at this
    rw [this]
    have : X.toNat &&& 15 = X.toNat % 2 ^ 4 := Nat.and_two_pow_sub_one_eq_mod _ 4
    rw [this]
  · have e : X.toNat / 16 = (X >>> 4).toNat := by rw [BitVec.toNat_ushiftRight, Nat.shiftRight_eq_div_pow]
    rw [e, xor32, halves]
theorem take_step (s : ByteArray) (k : Nat) (hk : k < s.size) : s.data.toList.take (k + 1) = s.data.toList.take k ++ [s[k]] := by
  rw [List.take_succ_eq_append_getElem (by simpa using hk)]
  rfl
set_option maxRecDepth 100000 in
theorem more_any (w : World) (c : BitVec 32) (s : ByteArray) (hs : s.size ≤ 9223372036854775807) :
    Calls Tryz.prog 138 #[.int .u32 (c.toNat : Int), .string s] w fun e w' => e = .returned (.int .u32 ((mor c s.data.toList).toNat : Int)) ∧ w' = w.alloc tabO := by
  have HN : Hid (bits .xor .u32 IntKind.u32.max (c.toNat : Int) = ((~~~ c).toNat : Int)) := not32 c
  go_enter Tryz.func138, Tryz.ntmps138
  go_wp2
  go_loopg [6, 13] s.size (fun g x i wr => w.alloc tabO = wr ∧ ∃ (k m : Nat), k ≤ s.size ∧ g = s.size - k ∧ x = .int .u32 (m : Int) ∧ i = .int .i64 k ∧ Hid (m = (run (~~~ c) (s.data.toList.take k)).toNat))
  case atStart =>
    go_light
    exact ⟨rfl, 0, (~~~ c).toNat, Nat.zero_le _, rfl, by rw [HN.out], rfl, rfl⟩
  case round =>
    obtain ⟨rfl, k, d, hk, rfl, rfl, rfl, HD⟩ := hrel
    by_cases hlt : k < s.size
    · have hz : (k : Int) < (s.size : Int) := by omega
      have e0 := byte32 (run (~~~ c) (s.data.toList.take k)) s[k]
      rw [← HD.out] at e0
      obtain ⟨q, n, t, y, e1, e2, hn, ht, e3, hy⟩ := half (run (~~~ c) (s.data.toList.take k) ^^^ bw s[k])
      obtain ⟨q', n', t', y', e1', e2', hn', ht', e3', hy'⟩ := half (stN 4 (run (~~~ c) (s.data.toList.take k) ^^^ bw s[k]))
      have HY : Hid (y' = (run (~~~ c) (s.data.toList.take (k + 1))).toNat) := by
        show _ = _
        rw [hy', take_step s k hlt, run_snoc, by8, ← stN_add]
      rw [← hy] at e1' e2'
      have c1 := tab_cell w n hn
      have c2 := tab_cell w n' hn'
      rw [ht] at c1
      rw [ht'] at c2
      have n0 : (0 : Int) ≤ (n : Int) := Int.natCast_nonneg _
      have n1 : (n : Int) < 16 := by omega
      have n0' : (0 : Int) ≤ (n' : Int) := Int.natCast_nonneg _
      have n1' : (n' : Int) < 16 := by omega
      generalize (run (~~~ c) (s.data.toList.take k) ^^^ bw s[k]).toNat = x at e0 e1 e2
      clear hy hy' ht ht' HD hn hn'
      go_wp2
      go_roundg (s.size - (k + 1))
      case rel =>
        go_light
        exact ⟨rfl, k + 1, y', by omega, rfl, rfl, by go_num, HY.out⟩
      case measure => go_light; omega
    · obtain rfl : k = s.size := by omega
      have hz : ¬ (s.size : Int) < (s.size : Int) := by omega
      have e0 := not32 (run (~~~ c) (s.data.toList.take s.size))
      rw [← HD.out] at e0
      have HE : Hid ((~~~ (run (~~~ c) (s.data.toList.take s.size))).toNat = (mor c s.data.toList).toNat) := by
        show _ = _
        rw [List.take_of_length_le (by simp), mor]
      generalize (~~~ (run (~~~ c) (s.data.toList.take s.size))).toNat = x at e0 HE
      clear HD
      go_wp2
      go_ret
      exact ⟨by rw [HE.out]; rfl, rfl⟩
end Go.Proofs.YthfnpagangjpbabGreat.Rc
/-
  Walks: Of; the reference's More and Of. Own work.
-/
namespace Go.Proofs.YthfnpagangjpbabGreat.Rc
open Go.RowKit
attribute [local go_sem ↓] Go.wp_at_zero Go.wp_at_succ
theorem bnext {w W w2 : World} (h : Below w.heap.size w W) (h2 : Below W.heap.size W w2) : Below w.heap.size w w2 := h.trans (h2.mono h.size)
theorem bal {w W : World} (h : Below w.heap.size w W) (o : Obj) : Below w.heap.size w (W.alloc o) := h.alloc h.size o
theorem below_drewN {B : Nat} {a w : World} (h : Below B a w) (n : Nat) : Below B a (w.drewN n) := ⟨h.os, h.tape, h.output, h.size, h.block⟩
theorem range_lt {w : World} {b o : Nat} {cs : List Value} (h : w.rangeAt b o cs) (hc : cs ≠ []) : b < w.heap.size := by
  obtain ⟨v, r, rfl⟩ := List.exists_cons_of_ne_nil hc
  have := h 0 v rfl
  exact World.block_lt_of_cell? _ _ this
theorem range_below {B : Nat} {a w : World} (hb : Below B a w) {b o : Nat} {cs : List Value} (hlt : b < B) (h : a.rangeAt b o cs) : w.rangeAt b o cs := fun j v hv => by
  rw [hb.cell (p := ⟨b, o + j, none⟩) hlt]; exact h j v hv
theorem more_m (w : World) (c : BitVec 32) (m : Nat) (hm : m = c.toNat) (s : ByteArray) (hs : s.size ≤ 9223372036854775807) :
    Calls Tryz.prog 138 #[.int .u32 (m : Int), .string s] w fun e w' => e = .returned (.int .u32 ((mor c s.data.toList).toNat : Int)) ∧ Below w.heap.size w w' := by
  subst hm
  refine (more_any w c s hs).mono ?_
  rintro e w' ⟨rfl, rfl⟩
  exact ⟨rfl, (Below.refl _ _).alloc (Nat.le_refl _) _⟩
/-- The parts, one behind the other. -/
def flat (ss : List ByteArray) : List UInt8 := ss.flatMap fun s => s.data.toList
def sumL (ss : List ByteArray) : BitVec 32 := mor 0#32 (flat ss)
theorem flat_snoc (ss : List ByteArray) (k : Nat) (hk : k < ss.length) : flat (ss.take (k + 1)) = flat (ss.take k) ++ (ss.getD k ByteArray.empty).data.toList := by
  have e : ss.getD k ByteArray.empty = ss[k] := by rw [List.getD_eq_getElem?_getD, List.getElem?_eq_getElem hk]; rfl
  unfold flat
  rw [List.take_succ_eq_append_getElem hk, List.flatMap_append, e]
  simp
/-- A list of texts that can be read. -/
structure RdS (w : World) (ao : Option Addr) (b off len : Nat) (ss : List ByteArray) : Prop where
  hl : ss.length = len
  ptr : 0 < len → ao = some ⟨b, off, none⟩
  rng : w.rangeAt b off (ss.map Value.string)
  sz : ∀ s ∈ ss, s.size ≤ 9223372036854775807
theorem RdS.lt {w : World} {ao : Option Addr} {b off len : Nat} {ss : List ByteArray} (h : RdS w ao b off len ss) (h0 : 0 < len) : b < w.heap.size :=
  range_lt h.rng (by intro e; have := congrArg List.length e; rw [List.length_map, List.length_nil, h.hl] at this; omega)
theorem RdS.next {w W : World} {ao : Option Addr} {b off len B : Nat} {ss : List ByteArray} (h : RdS w ao b off len ss) (hb : Below B w W) (hB : w.heap.size ≤ B) : RdS W ao b off len ss := by
  refine ⟨h.hl, h.ptr, ?_, h.sz⟩
  by_cases h0 : 0 < len
  · exact range_below hb (Nat.lt_of_lt_of_le (h.lt h0) hB) h.rng
  · have : ss = [] := List.length_eq_zero_iff.1 (by rw [h.hl]; omega)
    rw [this]; intro j v hv; cases hv
theorem RdS.at {w : World} {ao : Option Addr} {b off len : Nat} {ss : List ByteArray} (h : RdS w ao b off len ss) {k : Nat} (hk : k < len) : w.cell? ⟨b, off + k, none⟩ = some (.string (ss.getD k ByteArray.empty)) :=
  h.rng k _ (by have := h.hl; simp [List.getElem?_eq_getElem (show k < ss.length by omega), List.getD_eq_getElem?_getD])
theorem RdS.szAt {w : World} {ao : Option Addr} {b off len : Nat} {ss : List ByteArray} (h : RdS w ao b off len ss) {k : Nat} (hk : k < len) : (ss.getD k ByteArray.empty).size ≤ 9223372036854775807 := by
  have hl : k < ss.length := by have := h.hl; omega
  have e : ss.getD k ByteArray.empty = ss[k] := by rw [List.getD_eq_getElem?_getD, List.getElem?_eq_getElem hl]; rfl
  rw [e]; exact h.sz _ (List.getElem_mem _)
set_option maxRecDepth 100000 in
theorem of_any (w : World) (ao : Option Addr) (b off len cap : Nat) (ss : List ByteArray) (hr : RdS w ao b off len ss) (hmx : len ≤ 9223372036854775807) :
    Calls Tryz.prog 137 #[.slice ao len cap] w fun e w' => e = .returned (.int .u32 ((sumL ss).toNat : Int)) ∧ Below w.heap.size w w' := by
  go_enter Tryz.func137, Tryz.ntmps137
  go_wp2
  go_loopg [3, 8] len (fun g x i wr => ∃ (k m : Nat), k ≤ len ∧ g = len - k ∧ x = .int .u32 (m : Int) ∧ i = .int .i64 k ∧ Hid (m = (mor 0#32 (flat (ss.take k))).toNat) ∧ Below w.heap.size w wr)
  case atStart =>
    go_light
    exact ⟨0, 0, Nat.zero_le _, rfl, rfl, rfl, by show _ = _; rw [List.take_zero, show flat [] = [] from rfl, mor_nil]; rfl, Below.refl _ _⟩
  case round =>
    obtain ⟨k, m, hk, rfl, rfl, rfl, HM, hb⟩ := hrel
    by_cases hlt : k < len
    · have hz : (k : Int) < (len : Int) := by omega
      obtain rfl := hr.ptr (by omega)
      have hr' := hr.next hb (Nat.le_refl _)
      have ck := hr'.at hlt
      have hcall := more_m wr _ m HM.out (ss.getD k ByteArray.empty) (hr.szAt hlt)
      rw [← mor_append, ← flat_snoc ss k (by rw [hr.hl]; exact hlt)] at hcall
      have HB : Hid (∀ w', Below wr.heap.size wr w' → Below w.heap.size w w') := fun w' h => bnext hb h
      obtain ⟨y, hy⟩ : ∃ y, y = (mor 0#32 (flat (ss.take (k + 1)))).toNat := ⟨_, rfl⟩
      rw [← hy] at hcall
      have HY : Hid (y = (mor 0#32 (flat (ss.take (k + 1)))).toNat) := hy
      clear hy HM hb hr hr'
      generalize ss.getD k ByteArray.empty = part at *
      go_wp2_with (go_at_call 138; refine hcall.mono ?_; rintro e w' ⟨rfl, hb'⟩)
      go_roundg (len - (k + 1))
      case rel =>
        go_light
        exact ⟨k + 1, y, by omega, rfl, rfl, by go_num, HY.out, HB.out _ hb'⟩
      case measure => go_light; omega
    · obtain rfl : k = len := by omega
      have hz : ¬ (k : Int) < (k : Int) := by omega
      have HE : Hid (m = (sumL ss).toNat) := by
        show _ = _
        rw [HM.out, sumL, List.take_of_length_le (by rw [hr.hl]; exact Nat.le_refl _)]
      clear HM
      go_wp2
      go_ret
      exact ⟨by rw [← HE.out]; rfl, hb⟩
end Go.Proofs.YthfnpagangjpbabGreat.Rc
/-
  Lists of texts of one's own. Own work.
-/
namespace Go.Proofs.YthfnpagangjpbabGreat.Rc
open Go.RowKit
attribute [local go_sem ↓] Go.wp_at_zero Go.wp_at_succ
theorem Tryz.infoS : (Tryz.prog.info? 9).map (fun i => (i.zero, i.size, i.bytes)) = some (some (.string ByteArray.empty), 1, 16) := by kernel_rfl
theorem rds_one (w : World) (s : ByteArray) (hs : s.size ≤ 9223372036854775807) : RdS (w.alloc (.cells #[.string s] 9)) (some ⟨w.heap.size, 0, none⟩) w.heap.size 0 1 [s] :=
  ⟨rfl, fun _ => rfl, range_new w [.string s] 9, fun x hx => by simp at hx; subst hx; exact hs⟩
/-- A list of texts of one's own: its block was made behind B. -/
def OwnS (w : World) (B : Nat) (v : Value) (ss : List ByteArray) : Prop := w.ownsRow B 9 1 v ss.length (ss.map Value.string)
theorem owns_rds {w : World} {B : Nat} {v : Value} {ss : List ByteArray} (h : OwnS w B v ss) (hs : ∀ s ∈ ss, s.size ≤ 9223372036854775807) : ∃ ao b cap, v = .slice ao ss.length cap ∧ RdS w ao b 0 ss.length ss ∧ ss.length ≤ cap ∧ (ao = none → cap = 0) := by
  obtain ⟨h1, h2⟩ := h
  rcases h2 with ⟨hv, h0⟩ | ⟨g, cap, cur, rfl, hg, hh, hc1, hc, hsz, ht⟩
  · have : ss = [] := List.length_eq_zero_iff.1 h0
    subst this
    exact ⟨none, 0, 0, by rw [hv]; rfl, ⟨rfl, fun h => absurd h (Nat.lt_irrefl 0), (fun j v h => by cases h), hs⟩, Nat.le_refl _, fun _ => rfl⟩
  · refine ⟨some ⟨g, 0, none⟩, g, cap, rfl, ⟨rfl, fun _ => rfl, fun j v hj => ?_, hs⟩, hc1, fun h => by cases h⟩
    rw [Nat.zero_add, cell_of_row w g j cur 9 (0, 0) hh]
    rw [← ht, List.getElem?_take] at hj
    split at hj
    · simpa using hj
    · cases hj
/-- The law: texts appended to texts of one's own. -/
theorem wpList_append_S (w : World) {ops : Array Oper} {rest : List Oper} {o : Oper} {a : Act} {Q : Exit → Act → World → Prop}
    (hg : o.guard = none) (s x : Operand) (hop : o.op = Op.call { callee := Callee.builtin Builtin.append, args := #[s, x], argTypes := #[48, 48] })
    (B : Nat) (v : Value) (L : List ByteArray) (hs : a.eval s = v) (hown : OwnS w B v L) (ao : Option Addr) (b off cap : Nat) (M : List ByteArray) (hx : a.eval x = .slice ao M.length cap) (hr : RdS w ao b off M.length M) (hn : ao = none → cap = 0)
    (hlen : L.length + M.length ≤ 8796093022208) (hB : B ≤ w.heap.size)
    (hK : ∀ v' w', OwnS w' B v' (L ++ M) → Below B w w' → wpList Tryz.prog ops Q rest (a.put o.dst v') w') : wpList Tryz.prog ops Q (o :: rest) a w := by
  obtain ⟨i0, hi, hz0, hz1, hz2⟩ := info_parts Tryz.infoS
  have hlt : ∀ k, v.ownBlock = some k → B ≤ k := by
    obtain ⟨_, h2⟩ := hown
    rcases h2 with ⟨rfl, _⟩ | ⟨g, cp, cur, rfl, hg, _⟩
    · intro k hk; cases hk
    · intro k hk; cases hk; exact hg
  cases ao with
  | none =>
    obtain rfl := hn rfl
    have hM : M = [] := by
      cases M with
      | nil => rfl
      | cons m r => exact absurd (hr.ptr (by simp)) (by simp)
    subst hM
    refine wpList_append_own_none hg s x _ hop B 9 i0 1 Tryz.underlying48 hi _ _ _ hs hown hx (hK _ w ?_ (Below.refl _ _))
    rw [List.append_nil]; exact hown
  | some ad =>
    have hnews : ∀ j u, (M.map Value.string)[j]? = some u → w.cell? (ad.add j) = some u := fun j u hu => by
      have hj : j < M.length := by have := (List.getElem?_eq_some_iff.1 hu).1; rwa [List.length_map] at this
      have := Option.some.inj (hr.ptr (by omega))
      subst this
      rw [Addr.add_mid]; exact hr.rng j u hu
    refine wpList_append_own w hg s x _ hop B 9 i0 (.string ByteArray.empty) 1 16 Tryz.underlying48 hi hz0 hz1 hz2 rfl (by decide) _ _ _ hs hown ad M.length cap (M.map Value.string) hx (by simp) hnews (by intro u hu; obtain ⟨y, _, rfl⟩ := List.mem_map.1 hu; rfl) (by unfold maxLen; omega) (by omega) hB ?_
    intro v' w' h1 h2 _
    refine hK v' w' ?_ ((Below.refl _ _).grown h2 hB hlt)
    rw [OwnS, List.length_append, List.map_append]; exact h1
theorem own_al {w : World} {B : Nat} {v : Value} {l : List ByteArray} (h : OwnS w B v l) (o : Obj) : OwnS (w.alloc o) B v l := by
  obtain ⟨h1, h2⟩ := h
  refine ⟨h1, ?_⟩
  rcases h2 with h2 | ⟨g, cap, cur, rfl, hg, hh, r⟩
  · exact .inl h2
  · exact .inr ⟨g, cap, cur, rfl, hg, by rw [Below.heap_alloc _ _ _ (Array.getElem?_eq_some_iff.1 hh).1]; exact hh, r⟩
theorem own_next {w W : World} {B B' : Nat} {v : Value} {l : List ByteArray} (h : OwnS w B v l) (hb : Below B' w W) (hB : w.heap.size ≤ B') : OwnS W B v l := by
  obtain ⟨h1, h2⟩ := h
  refine ⟨h1, ?_⟩
  rcases h2 with h2 | ⟨g, cap, cur, rfl, hg, hh, r⟩
  · exact .inl h2
  · exact .inr ⟨g, cap, cur, rfl, hg, by rw [hb.block g (Nat.lt_of_lt_of_le (Array.getElem?_eq_some_iff.1 hh).1 hB)]; exact hh, r⟩
theorem own_form {w : World} {B : Nat} {v : Value} {l : List ByteArray} (h : OwnS w B v l) (h0 : 0 < l.length) : ∃ g cap, v = .slice (some ⟨g, 0, none⟩) l.length cap ∧ B ≤ g ∧ l.length ≤ cap ∧ cap ≤ maxLen := by
  obtain ⟨h1, h2⟩ := h
  rcases h2 with ⟨_, h2⟩ | ⟨g, cap, cur, hv, hg, _, hc, hm, _⟩
  · omega
  · exact ⟨g, cap, hv, hg, hc, hm⟩
theorem own_cell {w : World} {B g n cap : Nat} {l : List ByteArray} (h : OwnS w B (.slice (some ⟨g, 0, none⟩) n cap) l) {j : Nat} (hj : j < l.length) : w.cell? ⟨g, j, none⟩ = some (.string (l.getD j ByteArray.empty)) ∧ w.frozen? ⟨g, j, none⟩ = false := by
  obtain ⟨h1, h2⟩ := h
  rcases h2 with ⟨h2, _⟩ | ⟨g', cap', cur, hv, hg, hh, hc, hm, hz, ht⟩
  · cases h2
  · obtain ⟨e1, e2, e3⟩ := Value.slice.inj hv
    cases e1
    refine ⟨?_, frozen_of_row w g j cur 9 hh⟩
    rw [cell_of_row w g j cur 9 (0, 0) hh]
    have : (cur.toList.take (l.length * 1))[j]? = some (.string (l.getD j ByteArray.empty)) := by
      rw [ht]; simp [List.getElem?_eq_getElem hj, List.getD_eq_getElem?_getD]
    rw [List.getElem?_take_of_lt (by omega)] at this
    simpa using this
theorem owns_nil (w : World) (B : Nat) : OwnS w B (.slice none 0 0) [] := ⟨rfl, .inl ⟨rfl, rfl⟩⟩
theorem own_set {w : World} {B g n cap : Nat} {l : List ByteArray} (h : OwnS w B (.slice (some ⟨g, 0, none⟩) n cap) l) (j : Nat) (s : ByteArray) : OwnS (w.setCell ⟨g, j, none⟩ (.string s)) B (.slice (some ⟨g, 0, none⟩) n cap) (l.set j s) := by
  obtain ⟨h1, h2⟩ := h
  refine ⟨by simp, .inr ?_⟩
  rcases h2 with ⟨h2, h3⟩ | ⟨g', cap', cur, hv, hg, hh, h3, h4, h5, h6⟩
  · cases h2
  · obtain ⟨e1, e2, e3⟩ := Value.slice.inj hv
    cases e1
    refine ⟨g, cap, cur.setIfInBounds j (.string s), by rw [e2]; simp, hg, heap_setCell_same w g j cur _ _ hh, by simpa [e3] using h3, by omega, by simpa [e3] using h5, ?_⟩
    have h7 : (l.set j s).map Value.string = (l.map Value.string).set j (.string s) := by simp
    rw [h7, ← h6, List.length_set, Array.toList_setIfInBounds, List.take_set]
theorem rds_two (w : World) (s t : ByteArray) (hs : s.size ≤ 9223372036854775807) (ht : t.size ≤ 9223372036854775807) : RdS (w.alloc (.cells #[.string s, .string t] 9)) (some ⟨w.heap.size, 0, none⟩) w.heap.size 0 2 [s, t] :=
  ⟨rfl, fun _ => rfl, range_new w [.string s, .string t] 9, fun x hx => by simp at hx; rcases hx with rfl | rfl; exact hs; exact ht⟩
theorem own_take {w : World} {B g n cap : Nat} {l : List ByteArray} (h : OwnS w B (.slice (some ⟨g, 0, none⟩) n cap) l) (k : Nat) (hk : k ≤ l.length) (hs : ∀ s ∈ l, s.size ≤ 9223372036854775807) : RdS w (some ⟨g, 0, none⟩) g 0 k (l.take k) := by
  refine ⟨by simp; omega, fun _ => rfl, fun j v hv => ?_, fun s hs' => hs s (List.mem_of_mem_take hs')⟩
  have hj : j < k := by have := (List.getElem?_eq_some_iff.1 hv).1; simp at this; omega
  rw [Nat.zero_add, (own_cell h (show j < l.length by omega)).1, ← hv]
  simp [hj, List.getD_eq_getElem?_getD, List.getElem?_eq_getElem (show j < l.length by omega)]
end Go.Proofs.YthfnpagangjpbabGreat.Rc
