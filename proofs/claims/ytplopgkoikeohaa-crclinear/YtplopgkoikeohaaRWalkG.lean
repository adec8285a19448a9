/-
  The walk of CrcBurst. Own work.
-/
import Derived.Test.YtplopgkoikeohaaRWalkC
import Derived.Laws.IdiomStrings
import Derived.Handy
namespace Go.Proofs.Ytplopgkoikeohaa
open Go.RowKit
attribute [local go_sem ↓] Go.wp_at_zero Go.wp_at_succ
/-- Bytes as cells. -/
def cY (l : List UInt8) : List Value := l.map fun b => Value.int .u8 (b.toNat : Int)
theorem cY_len (l : List UInt8) : (cY l).length = l.length := by simp [cY]
/-- A row of bytes that lies at g, and may be written. -/
structure Byt (w : World) (g : Nat) (l : List UInt8) : Prop where
  rng : w.rangeAt g 0 (cY l)
  thr : w.there g 0 l.length
theorem Byt.at {w : World} {g : Nat} {l : List UInt8} (h : Byt w g l) {j : Nat} (hj : j < l.length) : w.cell? ⟨g, j, none⟩ = some (.int .u8 ((l.getD j 0).toNat : Int)) := by
  have := h.rng j (.int .u8 ((l.getD j 0).toNat : Int)) (by simp [cY, List.getElem?_eq_getElem hj, List.getD_eq_getElem?_getD])
  rwa [Nat.zero_add] at this
theorem Byt.free {w : World} {g : Nat} {l : List UInt8} (h : Byt w g l) {j : Nat} (hj : j < l.length) : w.frozen? ⟨g, j, none⟩ = false := by
  have := (h.thr j hj).2
  rwa [Nat.zero_add] at this
theorem there_set {w : World} {b o n : Nat} (h : w.there b o n) (a : Addr) (v : Value) : (w.setCell a v).there b o n := fun j hj => by
  obtain ⟨h1, h2⟩ := h j hj
  refine ⟨?_, by rw [World.frozen?_setCell]; exact h2⟩
  by_cases e : a = ⟨b, o + j, none⟩
  · subst e
    obtain ⟨u, hu⟩ := Option.isSome_iff_exists.1 h1
    rw [World.cell?_setCell_same w _ v hu]; rfl
  · rw [World.cell?_setCell_other _ _ _ _ e]; exact h1
theorem range_set {w : World} {b o : Nat} {cs : List Value} (h : w.rangeAt b o cs) (i : Nat) (v : Value) : (w.setCell ⟨b, o + i, none⟩ v).rangeAt b o (cs.set i v) := fun j u hu => by
  rw [List.getElem?_set] at hu
  split at hu
  · rename_i e
    subst e
    split at hu
    · rename_i hl
      cases hu
      have := h i cs[i] (List.getElem?_eq_getElem hl)
      exact World.cell?_setCell_same w _ _ this
    · cases hu
  · rename_i e
    rw [World.cell?_setCell_other _ _ _ _ (fun e' => e (by have := congrArg Addr.off e'; simp at this; omega))]
    exact h j u hu
theorem Byt.set {w : World} {g : Nat} {l : List UInt8} (h : Byt w g l) (j : Nat) (b : UInt8) (x : Int) (hx : x = (b.toNat : Int)) : Byt (w.setCell ⟨g, j, none⟩ (.int .u8 x)) g (l.set j b) := by
  subst hx
  refine ⟨?_, by rw [List.length_set]; exact there_set h.thr _ _⟩
  have := range_set h.rng j (.int .u8 (b.toNat : Int))
  rw [Nat.zero_add] at this
  rw [cY, List.map_set]; exact this
theorem Byt.next {w W : World} {g B : Nat} {l : List UInt8} (h : Byt w g l) (hb : Below B w W) (hg : g < B) : Byt W g l := by
  refine ⟨range_below hb hg h.rng, fun j hj => ?_⟩
  obtain ⟨h1, h2⟩ := h.thr j hj
  refine ⟨by rw [hb.cell (p := ⟨g, 0 + j, none⟩) hg]; exact h1, ?_⟩
  rw [← h2]
  unfold World.frozen?
  rw [hb.block g hg]
/-- What '[]byte(s)' lays. -/
theorem byt_new (w : World) (s : ByteArray) (cap : Nat) (t : TypeId) : Byt (w.alloc (.cells (bytesRow s cap) t ((bytesRow s cap).size, (bytesRow s cap).size + 1))) w.heap.size s.data.toList := by
  have hsz : s.data.size ≤ (bytesRow s cap).size := by simp [bytesRow]
  have hc : ∀ j, (hj : j < s.data.size) → (w.alloc (.cells (bytesRow s cap) t ((bytesRow s cap).size, (bytesRow s cap).size + 1))).cell? ⟨w.heap.size, j, none⟩ = some (.int .u8 (s.data[j].toNat : Int)) := fun j hj => by
    rw [World.cell?_alloc_mark, bytesRow_at s cap j hj]
  refine ⟨fun j v hv => ?_, fun j hj => ?_⟩
  · have hj : j < s.data.size := by have := (List.getElem?_eq_some_iff.1 hv).1; rw [cY_len, Array.length_toList] at this; exact this
    rw [Nat.zero_add, hc j hj, ← hv]
    simp [cY, Array.getElem?_eq_getElem hj]
  · rw [Array.length_toList] at hj
    rw [Nat.zero_add, hc j hj, World.frozen?_alloc_mark]
    refine ⟨rfl, ?_⟩
    rw [decide_eq_false (by omega)]; rfl
theorem conv_any (W : World) (g cap : Nat) (l : List UInt8) (n : Nat) (hn : l.length = n) (h : Byt W g l) : (convert 28 9 (.slice (some ⟨g, 0, none⟩) n cap)).run Try.prog W = .ok (.string ⟨l.toArray⟩) W := by
  subst hn
  refine run_convert_bytes_back _ 28 9 5 ⟨g, 0, none⟩ cap l Try.underlying28 Try.underlying5 Try.underlying9 fun j hj => ?_
  rw [Addr.add_mid, Nat.zero_add, h.at hj]
  simp [List.getD_eq_getElem?_getD, List.getElem?_eq_getElem hj]
/-- One bit more is turned. -/
theorem bit_set (l : List UInt8) (p q : Nat) (hp : p < 8 * l.length) : bitL (l.set (p / 8) (l.getD (p / 8) 0 ^^^ UInt8.ofNat (2 ^ (p % 8)))) q = (bitL l q ^^ decide (q = p)) := by
  have hl : p / 8 < l.length := by omega
  have hr : p % 8 < 8 := Nat.mod_lt _ (by decide)
  have ht : (UInt8.ofNat (2 ^ (p % 8))).toNat = 2 ^ (p % 8) := by
    rw [UInt8.toNat_ofNat']
    exact Nat.mod_eq_of_lt (Nat.pow_lt_pow_right (by decide) hr)
  unfold bitL
  by_cases hq : q / 8 = p / 8
  · rw [hq]
    have e : (l.set (p / 8) (l.getD (p / 8) 0 ^^^ UInt8.ofNat (2 ^ (p % 8)))).getD (p / 8) 0 = l.getD (p / 8) 0 ^^^ UInt8.ofNat (2 ^ (p % 8)) := by
      rw [List.getD_eq_getElem?_getD, List.getElem?_set_self hl]; rfl
    rw [e, UInt8.toNat_xor, Nat.testBit_xor, ht, Nat.testBit_two_pow]
    congr 1
    by_cases h : q = p
    · subst h; simp
    · have : ¬ p % 8 = q % 8 := by omega
      simp [h, this]
  · have e : (l.set (p / 8) (l.getD (p / 8) 0 ^^^ UInt8.ofNat (2 ^ (p % 8)))).getD (q / 8) 0 = l.getD (q / 8) 0 := by
      rw [List.getD_eq_getElem?_getD, List.getElem?_set_ne (by omega), List.getD_eq_getElem?_getD]
    rw [e]
    have : ¬ q = p := fun h => hq (by rw [h])
    simp [this]
/-- The first k bits of the mask are turned. -/
def Turned (l0 l : List UInt8) (x : BitVec 32) (f k : Nat) : Prop := l.length = l0.length ∧ ∀ q, bitL l q = (bitL l0 q ^^ (decide (f ≤ q) && decide (q < f + k) && x.getLsbD (q - f)))
theorem turned_zero (l : List UInt8) (x : BitVec 32) (f : Nat) : Turned l l x f 0 := ⟨rfl, fun q => by
  have : (decide (f ≤ q) && decide (q < f + 0)) = false := by
    by_cases h : f ≤ q
    · rw [decide_eq_false (show ¬ q < f + 0 by omega), Bool.and_false]
    · rw [decide_eq_false h, Bool.false_and]
  rw [this, Bool.false_and, Bool.xor_false]⟩
theorem dec_iff {p q : Prop} [Decidable p] [Decidable q] (h : p ↔ q) : decide p = decide q := by simp [h]
theorem turned_yes {l0 l : List UInt8} {x : BitVec 32} {f k : Nat} (h : Turned l0 l x f k) (hx : x.getLsbD k = true) (hf : f + k < 8 * l.length) : Turned l0 (l.set ((f + k) / 8) (l.getD ((f + k) / 8) 0 ^^^ UInt8.ofNat (2 ^ ((f + k) % 8)))) x f (k + 1) := by
  refine ⟨by rw [List.length_set]; exact h.1, fun q => ?_⟩
  rw [bit_set l _ q hf, h.2 q, Bool.xor_assoc]
  congr 1
  by_cases hq : q = f + k
  · subst hq
    rw [Nat.add_sub_cancel_left, hx]
    simp
  · rw [decide_eq_false hq, Bool.xor_false, dec_iff (show q < f + k ↔ q < f + (k + 1) by omega)]
theorem turned_no {l0 l : List UInt8} {x : BitVec 32} {f k : Nat} (h : Turned l0 l x f k) (hx : x.getLsbD k = false) : Turned l0 l x f (k + 1) := by
  refine ⟨h.1, fun q => ?_⟩
  rw [h.2 q]
  congr 1
  by_cases hq : q = f + k
  · subst hq
    rw [Nat.add_sub_cancel_left, hx, Bool.and_false, Bool.and_false]
  · rw [dec_iff (show q < f + k ↔ q < f + (k + 1) by omega)]
theorem turned_sum {l0 l : List UInt8} {x : BitVec 32} {f : Nat} (h : Turned l0 l x f 32) (hx : x ≠ 0#32) (hf : f + 32 ≤ 8 * l0.length) (c : BitVec 32) : mor c l ≠ mor c l0 := by
  intro he
  have he := not_inj he
  rw [run_bits, run_bits, h.1] at he
  refine brun_burst (~~~ c) (bitL l0) (bitL l) x hx f (8 * l0.length) hf (fun i _ => ?_) he
  rw [h.2 i]
  congr 1
  by_cases hi : i < f + 32
  · rw [decide_eq_true hi, Bool.and_true]
  · rw [BitVec.getLsbD_of_ge x (i - f) (by omega), Bool.and_false, Bool.and_false]
theorem mask_bit (x : BitVec 32) (k : Nat) : (((x.toNat : Int) / 2 ^ k).tmod 2 == 1) = x.getLsbD k := by
  have e : ((x.toNat : Int) / 2 ^ k).tmod 2 = ((x.toNat / 2 ^ k % 2 : Nat) : Int) := by
    have : ((x.toNat : Int) / 2 ^ k) = ((x.toNat / 2 ^ k : Nat) : Int) := by simp
    rw [this]; rfl
  rw [e, show x.getLsbD k = x.toNat.testBit k from rfl, Nat.testBit_eq_decide_div_mod_eq]
  have h2 : x.toNat / 2 ^ k % 2 < 2 := Nat.mod_lt _ (by decide)
  generalize x.toNat / 2 ^ k % 2 = y at *
  have : y = 0 ∨ y = 1 := by omega
  rcases this with rfl | rfl <;> rfl
theorem xor8 (a b : UInt8) : bits .xor .u8 (a.toNat : Int) (b.toNat : Int) = ((a ^^^ b).toNat : Int) := by
  rw [u8_xor_nat _ _ a.toNat_lt b.toNat_lt, UInt8.toNat_xor]
theorem pow8 (r : Nat) : (2 ^ r % 256 : Int) = ((UInt8.ofNat (2 ^ r)).toNat : Int) := by
  rw [UInt8.toNat_ofNat']
  simp
set_option maxRecDepth 100000 in
set_option maxHeartbeats 2000000 in
theorem burst_walk (w : World) (s : ByteArray) (hs : s.size ≤ 140737488351232) (at' : Int) (mask : BitVec 32) :
    Calls Try.prog 4 #[.string s, .int .i64 at', .int .u32 (mask.toNat : Int)] w fun e w' => e = .returned (.bool true) ∧ Below w.heap.size w w' := by
  obtain ⟨X, hX⟩ : ∃ X, X = (mor 0#32 s.data.toList).toNat := ⟨_, rfl⟩
  have H1 := fun W => of_row W 1 [s] X (by rw [hX, sumL, flat_one]) rfl (by decide) (by intro s hs; simp at hs; subst hs; omega)
  have H2 := fun W => of_row W 2 [s, ⟨#[]⟩] X (by rw [hX, sumL]; simp [flat]) rfl (by decide) (by intro s hs; simp at hs; rcases hs with rfl | rfl; omega; decide)
  simp only [List.map_cons, List.map_nil] at H1 H2
  have hB := Below.refl w.heap.size w
  by_cases h5 : s.size < 5
  · have z5 : (s.size : Int) < 5 := by omega
    go_enter Try.func4, Try.ntmps4
    go_wp2_with (first
      | (go_at_call 9; with_reducible refine (alive_any _).mono ?_; rintro e w1 ⟨rfl, hb⟩; replace hB := bnext hB hb; clear hb)
      | (go_at_call 10; (first | (with_reducible refine (H1 _).mono ?_) | (with_reducible refine (H2 _).mono ?_)); rintro e w1 ⟨rfl, hb⟩; replace hB := bnext hB hb; clear hb))
    go_ret
    exact ⟨rfl, hB⟩
  have z5 : ¬ (s.size : Int) < 5 := by omega
  by_cases hm : mask.toNat = 0
  · have zm : ((mask.toNat : Int) == 0) = true := by simp [hm]
    go_enter Try.func4, Try.ntmps4
    go_wp2_with (first
      | (go_at_call 9; with_reducible refine (alive_any _).mono ?_; rintro e w1 ⟨rfl, hb⟩; replace hB := bnext hB hb; clear hb)
      | (go_at_call 10; (first | (with_reducible refine (H1 _).mono ?_) | (with_reducible refine (H2 _).mono ?_)); rintro e w1 ⟨rfl, hb⟩; replace hB := bnext hB hb; clear hb))
    go_ret
    exact ⟨rfl, hB⟩
  clear H2
  have zm : ((mask.toNat : Int) == 0) = false := by simp; omega
  have hmask : mask ≠ 0#32 := fun e => hm (by rw [e]; rfl)
  have HMB : Hid (∀ k : Nat, (((mask.toNat : Int) / 2 ^ k).tmod 2 == 1) = mask.getLsbD k) := mask_bit mask
  obtain ⟨U, e1⟩ : ∃ U : Nat, IntKind.u64.wrap at' = (U : Int) := ⟨(IntKind.u64.wrap at').toNat, by have : (0 : Int) ≤ IntKind.u64.wrap at' := (wrap_within .u64 at').1; omega⟩
  obtain ⟨f, hf⟩ : ∃ f, f = U % (8 * s.size - 31) := ⟨_, rfl⟩
  have hfl : f < 8 * s.size - 31 := by rw [hf]; exact Nat.mod_lt _ (by omega)
  have e2 : (U : Int).tmod (8 * (s.size : Int) - 31) = (f : Int) := by
    rw [hf, show (8 * (s.size : Int) - 31) = ((8 * s.size - 31 : Nat) : Int) by omega]
    rfl
  have hf1 : (f : Int) ≤ 1125899906842624 := by omega
  have kb := fun W => run_bytes_of_string (P := Try.prog) W 9 28 5 s Try.underlying9 Try.underlying28 Try.underlying5
  clear hf
  go_enter Try.func4, Try.ntmps4
  go_upto_region 8 with (go_at_call 9; with_reducible refine (alive_any _).mono ?_; rintro e w1 ⟨rfl, hb⟩; replace hB := bnext hB hb; clear hb)
  have hby : Byt (w1.alloc (.cells (bytesRow s (grownCap w1 s.size 0 5)) 5 ((bytesRow s (grownCap w1 s.size 0 5)).size, (bytesRow s (grownCap w1 s.size 0 5)).size + 1))).drew w1.heap.size s.data.toList := by
    have := byt_new w1 s (grownCap w1 s.size 0 5) 5
    exact ⟨this.rng, this.thr⟩
  replace hB : Below w.heap.size w (w1.alloc (.cells (bytesRow s (grownCap w1 s.size 0 5)) 5 ((bytesRow s (grownCap w1 s.size 0 5)).size, (bytesRow s (grownCap w1 s.size 0 5)).size + 1))).drew ∧ w.heap.size ≤ w1.heap.size ∧ w1.heap.size < (w1.alloc (.cells (bytesRow s (grownCap w1 s.size 0 5)) 5 ((bytesRow s (grownCap w1 s.size 0 5)).size, (bytesRow s (grownCap w1 s.size 0 5)).size + 1))).drew.heap.size := by
    refine ⟨below_drewN (bal hB _) 1, hB.size, by simp⟩
  generalize (w1.alloc (.cells (bytesRow s (grownCap w1 s.size 0 5)) 5 ((bytesRow s (grownCap w1 s.size 0 5)).size, (bytesRow s (grownCap w1 s.size 0 5)).size + 1))).drew = w2 at *
  generalize grownCap w1 s.size 0 5 = cap
  obtain ⟨hB, hg, hg2⟩ := hB
  generalize w1.heap.size = g at *
  have HT : Hid (Turned s.data.toList s.data.toList mask f 0) := turned_zero _ _ _
  have HBY : Hid (Byt w2 g s.data.toList) := hby
  have hsl : s.data.toList.length = s.size := by simp
  clear hby kb
  go_wp2
  go_loopg [10] 32 (fun G i wr => ∃ (k : Nat) (l : List UInt8), k ≤ 32 ∧ G = 32 - k ∧ i = .int .i64 k ∧ Hid (Turned s.data.toList l mask f k) ∧ Hid (Byt wr g l) ∧ Below w.heap.size w wr ∧ g < wr.heap.size)
  case atStart =>
    go_light
    exact ⟨0, s.data.toList, Nat.zero_le _, rfl, rfl, HT, HBY, hB, hg2⟩
  case round =>
    clear HT HBY hB hg2
    obtain ⟨k, l, hk, rfl, rfl, HT, HY, hB, hg2⟩ := hrel
    have hll : l.length = s.size := by rw [HT.out.1, hsl]
    by_cases hlt : k < 32
    · have hz : (k : Int) < 32 := by omega
      have em := HMB.out k
      cases hbit : mask.getLsbD k with
      | true =>
        rw [hbit] at em
        obtain ⟨p, hp⟩ : ∃ p : Nat, p = f + k := ⟨_, rfl⟩
        obtain ⟨q, hq⟩ : ∃ q : Nat, q = p / 8 := ⟨_, rfl⟩
        obtain ⟨r, hr⟩ : ∃ r : Nat, r = p % 8 := ⟨_, rfl⟩
        have e3 : (f : Int) + (k : Int) = (p : Int) := by omega
        have e4 : (p : Int).tdiv 8 = (q : Int) := by rw [hq]; rfl
        have e5 : (p : Int).tmod 8 = (r : Int) := by rw [hr]; rfl
        have q0 : (0 : Int) ≤ (q : Int) := Int.natCast_nonneg _
        have q1 : (q : Int) < (s.size : Int) := by omega
        have p1 : (p : Int) ≤ 1125899906842656 := by omega
        have r1 : (r : Int) < 8 := by omega
        have r0 : (0 : Int) ≤ (r : Int) := Int.natCast_nonneg _
        have cq := HY.out.at (j := q) (by omega)
        have fq := HY.out.free (j := q) (by omega)
        have HT' : Hid (Turned s.data.toList (l.set q (l.getD q 0 ^^^ UInt8.ofNat (2 ^ r))) mask f (k + 1)) := by
          have := turned_yes HT.out hbit (by omega)
          rw [← hp, ← hq, ← hr] at this
          exact this
        have HX : Hid (bits .xor .u8 ((l.getD q 0).toNat : Int) (2 ^ r % 256) = ((l.getD q 0 ^^^ UInt8.ofNat (2 ^ r)).toNat : Int)) := by
          show _ = _
          rw [pow8, xor8]
        generalize l.getD q 0 = b0 at *
        clear hq hr hp HT
        go_wp2
        go_roundg (32 - (k + 1))
        case rel =>
          go_light
          exact ⟨k + 1, _, by omega, rfl, by go_num, HT', HY.out.set q _ _ HX.out, hB.setCell hg _, by simpa using hg2⟩
        case measure => go_light; omega
      | false =>
        rw [hbit] at em
        have HT' : Hid (Turned s.data.toList l mask f (k + 1)) := turned_no HT.out hbit
        clear HT
        go_wp2
        go_roundg (32 - (k + 1))
        case rel =>
          go_light
          exact ⟨k + 1, l, by omega, rfl, by go_num, HT', HY, hB, hg2⟩
        case measure => go_light; omega
    · obtain rfl : k = 32 := by omega
      have hz : ¬ ((32 : Nat) : Int) < 32 := by omega
      obtain ⟨Y, hY⟩ : ∃ Y, Y = (mor 0#32 l).toNat := ⟨_, rfl⟩
      obtain ⟨C, hC⟩ : ∃ C, C = mask.toNat := ⟨_, rfl⟩
      obtain ⟨Z, hZ⟩ : ∃ Z, Z = (mor mask l).toNat := ⟨_, rfl⟩
      obtain ⟨V, hV⟩ : ∃ V, V = (mor mask s.data.toList).toNat := ⟨_, rfl⟩
      have hlz : (⟨l.toArray⟩ : ByteArray).size = s.size := by show l.toArray.size = _; rw [List.size_toArray, hll]
      have H3 := fun W => of_row W 1 [⟨l.toArray⟩] Y (by rw [hY, sumL, flat_one]) rfl (by decide) (by intro s hs; simp at hs; subst hs; omega)
      have M1 := fun W => more_m W mask C hC ⟨l.toArray⟩ (by omega)
      have M2 := fun W => more_m W mask C hC s (by omega)
      simp only [List.map_cons, List.map_nil] at H3
      simp only [← hZ] at M1
      simp only [← hV] at M2
      have n1 : ((Y : Int) != (X : Int)) = true := by
        have := turned_sum HT.out hmask (by rw [hsl]; omega) 0#32
        have h : Y ≠ X := by rw [hY, hX]; exact fun e => this (BitVec.toNat_inj.1 e)
        simp; omega
      have n2 : ((Z : Int) != (V : Int)) = true := by
        have := turned_sum HT.out hmask (by rw [hsl]; omega) mask
        have h : Z ≠ V := by rw [hZ, hV]; exact fun e => this (BitVec.toNat_inj.1 e)
        simp; omega
      have HK : Hid (∀ W, Below wr.heap.size wr W → (convert 28 9 (.slice (some ⟨g, 0, none⟩) s.size cap)).run Try.prog W = .ok (.string ⟨l.toArray⟩) W) := fun W hW => conv_any W g cap l s.size hll (HY.out.next hW hg2)
      have kc := HK.out wr (Below.refl _ _)
      have hB2 := Below.refl wr.heap.size wr
      rw [← hC] at *
      generalize (⟨l.toArray⟩ : ByteArray) = t at *
      clear hY hZ hV hX hC HT HY hlz hll HMB hsl
      go_wp2_with (first
        | (go_at_call 10; (first | (with_reducible refine (H3 _).mono ?_) | (with_reducible refine (H1 _).mono ?_)); rintro e w4 ⟨rfl, hb⟩; replace hB := bnext hB hb; replace hB2 := bnext hB2 hb; clear hb; replace kc := HK.out _ hB2)
        | (go_at_call 11; (first | (with_reducible refine (M1 _).mono ?_) | (with_reducible refine (M2 _).mono ?_)); rintro e w4 ⟨rfl, hb⟩; replace hB := bnext hB hb; clear hb))
      go_ret
      exact ⟨rfl, hB⟩
end Go.Proofs.Ytplopgkoikeohaa
