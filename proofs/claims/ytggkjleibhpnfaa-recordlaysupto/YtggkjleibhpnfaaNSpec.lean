/-
  Records as lists of bytes: numbers, sums, what is laid and what is read. Own work.
-/
import Derived.Test.YtggkjleibhpnfaaRSpec
namespace Go.Proofs.Ytggkjleibhpnfaa
theorem size_list (s : ByteArray) : s.data.toList.length = s.size := Array.length_toList
theorem ba_ext {a b : ByteArray} (h : a.data.toList = b.data.toList) : a = b := by
  cases a; cases b; simp at h; simp [h]
/-- n in k bytes, the highest first. -/
def big : Nat → Nat → List UInt8
  | 0, _ => []
  | k + 1, n => big k (n / 256) ++ [UInt8.ofNat n]
theorem big_len (k n : Nat) : (big k n).length = k := by
  induction k generalizing n with
  | zero => rfl
  | succ k ih => simp [big, ih]
/-- The next byte ahead. -/
theorem big_cons (k n : Nat) : big (k + 1) n = UInt8.ofNat (n / 256 ^ k) :: big k n := by
  induction k generalizing n with
  | zero => simp [big]
  | succ k ih =>
    rw [big, ih, Nat.div_div_eq_div_mul, ← Nat.pow_succ', List.cons_append]
    rfl
/-- The number of bytes, the highest first. -/
def num (l : List UInt8) : Nat := l.foldl (fun n b => n * 256 + b.toNat) 0
theorem num_snoc (l : List UInt8) (b : UInt8) : num (l ++ [b]) = num l * 256 + b.toNat := by simp [num]
theorem rev_ind {P : List UInt8 → Prop} (h0 : P []) (hs : ∀ l b, P l → P (l ++ [b])) (l : List UInt8) : P l := by
  have : ∀ l : List UInt8, P l.reverse := by
    intro l
    induction l with
    | nil => exact h0
    | cons b l ih => rw [List.reverse_cons]; exact hs _ _ ih
  have h := this l.reverse
  rwa [List.reverse_reverse] at h
theorem num_lt (l : List UInt8) : num l < 256 ^ l.length := by
  induction l using rev_ind with
  | h0 => simp [num]
  | hs l b ih =>
    rw [num_snoc, List.length_append, List.length_singleton, Nat.pow_succ]
    have := b.toNat_lt
    omega
theorem num_le (l : List UInt8) (k : Nat) (h : l.length ≤ k) : num l < 256 ^ k := Nat.lt_of_lt_of_le (num_lt l) (Nat.pow_le_pow_right (by decide) h)
theorem num_big (k n : Nat) : num (big k n) = n % 256 ^ k := by
  induction k generalizing n with
  | zero => simp [big, num, Nat.mod_one]
  | succ k ih =>
    rw [big, num_snoc, ih, UInt8.toNat_ofNat', show (256 : Nat) ^ (k + 1) = 256 * 256 ^ k from Nat.pow_succ', Nat.mod_mul]
    omega
theorem num_big_lt (k n : Nat) (h : n < 256 ^ k) : num (big k n) = n := by rw [num_big, Nat.mod_eq_of_lt h]
theorem big_num (l : List UInt8) : big l.length (num l) = l := by
  induction l using rev_ind with
  | h0 => rfl
  | hs l b ih =>
    have hb := b.toNat_lt
    rw [List.length_append, List.length_singleton, big, num_snoc, show (num l * 256 + b.toNat) / 256 = num l by omega, ih]
    congr 2
    apply UInt8.toNat_inj.1
    rw [UInt8.toNat_ofNat']
    omega
theorem big_num' (l : List UInt8) (k : Nat) (h : l.length = k) : big k (num l) = l := by subst h; exact big_num l
theorem big_mod (k n : Nat) : big k (n % 256 ^ k) = big k n := by rw [← num_big, big_num' _ _ (big_len k n)]
theorem big_inj {k m n : Nat} (hm : m < 256 ^ k) (hn : n < 256 ^ k) (h : big k m = big k n) : m = n := by
  rw [← num_big_lt k m hm, h, num_big_lt k n hn]
/-- So many bytes 0. -/
def zer (n : Nat) : List UInt8 := List.replicate n 0
theorem zer_len (n : Nat) : (zer n).length = n := by simp [zer]
/-- The sum. -/
def crc (l : List UInt8) : Nat := (mor 0#32 l).toNat
theorem crc_lt (l : List UInt8) : crc l < 256 ^ 4 := (mor 0#32 l).isLt
/-- What stands, with the sum behind it. -/
def sld (l : List UInt8) : List UInt8 := l ++ big 4 (crc l)
theorem sld_len (l : List UInt8) : (sld l).length = l.length + 4 := by simp [sld, big_len]
theorem sld_take (l : List UInt8) (n : Nat) (h : l.length = n) : (sld l).take n = l := by subst h; simp [sld]
/-! ### records -/
def pay (s : List UInt8) : List UInt8 := sld (big 4 s.length ++ s)
def nod (p : Nat) (d : List UInt8) : List UInt8 := sld (d ++ zer (32 - d.length) ++ big 4 p)
structure MV where
  k : Int
  size : Nat
  items : Nat
  nodes : Nat
  chain : BitVec 32
def MV.z : MV := ⟨0, 0, 0, 0, 0#32⟩
def bodyM (k a b c d : Nat) : List UInt8 := [109, 115, 102, 1] ++ big 1 k ++ zer 3 ++ big 8 a ++ big 8 b ++ big 8 c ++ big 4 d ++ zer 24
theorem bodyM_len (k a b c d : Nat) : (bodyM k a b c d).length = 60 := by simp [bodyM, big_len, zer_len]
def mrk (m : MV) : List UInt8 := if 1 ≤ m.k ∧ m.k ≤ 32 then sld (bodyM m.k.toNat m.size m.items m.nodes m.chain.toNat) else []
theorem pay_len (s : List UInt8) : (pay s).length = s.length + 8 := by simp [pay, sld_len, big_len]; omega
theorem nod_len (p : Nat) (d : List UInt8) (h : d.length ≤ 32) : (nod p d).length = 40 := by simp [nod, sld_len, big_len, zer_len]; omega
theorem mrk_len (m : MV) (h : 1 ≤ m.k ∧ m.k ≤ 32) : (mrk m).length = 64 := by rw [mrk, if_pos h, sld_len, bodyM_len]
/-- A payload's record as a text; none of more than MaxItem bytes. -/
def payS (s : List UInt8) : List UInt8 := if s.length ≤ 1048576 then pay s else []
def nodS (p : Nat) (d : List UInt8) : List UInt8 := if d.length ≤ 32 then nod p d else []
/-! ### what is read -/
/-- The item of the record with which s begins. -/
def rpay (s : List UInt8) : Option (List UInt8) :=
  if 4 ≤ s.length ∧ num (s.take 4) ≤ 1048576 ∧ num (s.take 4) + 8 ≤ s.length ∧ pay ((s.drop 4).take (num (s.take 4))) = s.take (num (s.take 4) + 8) then some ((s.drop 4).take (num (s.take 4))) else none
theorem pay_cut (s : List UInt8) (n : Nat) (h4 : 4 ≤ s.length) (hn : num (s.take 4) = n) (h8 : n + 8 ≤ s.length) : pay ((s.drop 4).take n) = sld (s.take (n + 4)) := by
  have e1 : ((s.drop 4).take n).length = n := by simp; omega
  have e2 : big 4 n = s.take 4 := by rw [← hn, big_num' _ _ (by simp; omega)]
  rw [pay, e1, e2]
  congr 1
  have : s.take (n + 4) = s.take 4 ++ (s.drop 4).take n := by rw [Nat.add_comm, List.take_add]
  rw [this]
/-- A laid record is read, whatever stands behind. -/
theorem rpay_pay (x t : List UInt8) (h : x.length ≤ 1048576) : rpay (pay x ++ t) = some x := by
  have hl := pay_len x
  have e0 : (pay x ++ t).take 4 = big 4 x.length := by
    rw [List.take_append_of_le_length (by omega), pay, sld, List.append_assoc, List.take_append_of_le_length (by rw [big_len]; exact Nat.le_refl _), List.take_of_length_le (by rw [big_len]; exact Nat.le_refl _)]
  have e1 : num ((pay x ++ t).take 4) = x.length := by rw [e0, num_big_lt _ _ (by omega)]
  have e2 : ((pay x ++ t).drop 4).take x.length = x := by
    rw [List.drop_append_of_le_length (by omega), List.take_append_of_le_length (by simp; omega), pay, sld, List.append_assoc, List.drop_append_of_le_length (by rw [big_len]; exact Nat.le_refl _), List.drop_eq_nil_of_le (by rw [big_len]; exact Nat.le_refl _), List.nil_append, List.take_append_of_le_length (Nat.le_refl _), List.take_of_length_le (Nat.le_refl _)]
  rw [rpay, e1, e2]
  refine if_pos ⟨by simp; omega, h, by simp; omega, ?_⟩
  rw [List.take_append_of_le_length (by omega), List.take_of_length_le (by omega)]
theorem rpay_len {s x : List UInt8} (h : rpay s = some x) : x.length ≤ 1048576 ∧ x.length + 8 ≤ s.length ∧ pay x = s.take (x.length + 8) ∧ num (s.take 4) = x.length := by
  unfold rpay at h
  split at h
  · rename_i hc
    cases h
    have e : (List.take (num (List.take 4 s)) (List.drop 4 s)).length = num (List.take 4 s) := by simp; omega
    rw [e]
    exact ⟨hc.2.1, hc.2.2.1, hc.2.2.2, rfl⟩
  · cases h
/-- The digest of a node's record: of strength k, at p. -/
def rnod (k p : Nat) (s : List UInt8) : Option (List UInt8) := if s.length = 40 ∧ nod p (s.take k) = s then some (s.take k) else none
theorem nod_take (p : Nat) (d : List UInt8) : (nod p d).take d.length = d := by
  rw [nod, sld, List.append_assoc, List.append_assoc, List.take_append_of_le_length (Nat.le_refl _), List.take_of_length_le (Nat.le_refl _)]
theorem rnod_nod (p : Nat) (d : List UInt8) (h : d.length ≤ 32) : rnod d.length p (nod p d) = some d := by
  rw [rnod, nod_take]
  exact if_pos ⟨nod_len p d h, rfl⟩
/-- The marker of bytes. -/
def mOf (s : List UInt8) : MV := ⟨(num ((s.drop 4).take 1) : Int), num ((s.drop 8).take 8), num ((s.drop 16).take 8), num ((s.drop 24).take 8), BitVec.ofNat 32 (num ((s.drop 32).take 4))⟩
def rmrk (s : List UInt8) : Option MV := if s.length = 64 ∧ mrk (mOf s) = s then some (mOf s) else none
theorem MV.ext' {a b : MV} (h1 : a.k = b.k) (h2 : a.size = b.size) (h3 : a.items = b.items) (h4 : a.nodes = b.nodes) (h5 : a.chain = b.chain) : a = b := by
  cases a; cases b; simp only at h1 h2 h3 h4 h5; subst h1 h2 h3 h4 h5; rfl
structure MV.Ok (m : MV) : Prop where
  k1 : 1 ≤ m.k
  k2 : m.k ≤ 32
  size : m.size < 256 ^ 8
  items : m.items < 256 ^ 8
  nodes : m.nodes < 256 ^ 8
theorem cut_at (a b c : List UInt8) (i n : Nat) (ha : a.length = i) (hb : b.length = n) : ((a ++ b ++ c).drop i).take n = b := by
  subst ha hb
  rw [List.append_assoc, List.drop_append_of_le_length (Nat.le_refl _), List.drop_eq_nil_of_le (Nat.le_refl _), List.nil_append, List.take_append_of_le_length (Nat.le_refl _), List.take_of_length_le (Nat.le_refl _)]
theorem mOf_mrk (m : MV) (h : m.Ok) : mOf (mrk m) = m := by
  have e : mrk m = sld (bodyM m.k.toNat m.size m.items m.nodes m.chain.toNat) := if_pos ⟨h.k1, h.k2⟩
  obtain ⟨T, hT⟩ : ∃ T, big 4 (crc (bodyM m.k.toNat m.size m.items m.nodes m.chain.toNat)) = T := ⟨_, rfl⟩
  rw [e, sld, hT, bodyM]
  have h1 := h.k1
  have h2 := h.k2
  refine MV.ext' ?_ ?_ ?_ ?_ ?_
  · show ((num _ : Nat) : Int) = _
    have := cut_at [109, 115, 102, 1] (big 1 m.k.toNat) (zer 3 ++ big 8 m.size ++ big 8 m.items ++ big 8 m.nodes ++ big 4 m.chain.toNat ++ zer 24 ++ T) 4 1 rfl (big_len _ _)
    simp only [List.append_assoc] at this ⊢
    rw [this, num_big_lt _ _ (by omega)]
    omega
  · show num _ = _
    have := cut_at ([109, 115, 102, 1] ++ big 1 m.k.toNat ++ zer 3) (big 8 m.size) (big 8 m.items ++ big 8 m.nodes ++ big 4 m.chain.toNat ++ zer 24 ++ T) 8 8 (by simp [big_len, zer_len]) (big_len _ _)
    simp only [List.append_assoc] at this ⊢
    rw [this, num_big_lt _ _ h.size]
  · show num _ = _
    have := cut_at ([109, 115, 102, 1] ++ big 1 m.k.toNat ++ zer 3 ++ big 8 m.size) (big 8 m.items) (big 8 m.nodes ++ big 4 m.chain.toNat ++ zer 24 ++ T) 16 8 (by simp [big_len, zer_len]) (big_len _ _)
    simp only [List.append_assoc] at this ⊢
    rw [this, num_big_lt _ _ h.items]
  · show num _ = _
    have := cut_at ([109, 115, 102, 1] ++ big 1 m.k.toNat ++ zer 3 ++ big 8 m.size ++ big 8 m.items) (big 8 m.nodes) (big 4 m.chain.toNat ++ zer 24 ++ T) 24 8 (by simp [big_len, zer_len]) (big_len _ _)
    simp only [List.append_assoc] at this ⊢
    rw [this, num_big_lt _ _ h.nodes]
  · show BitVec.ofNat 32 (num _) = _
    have := cut_at ([109, 115, 102, 1] ++ big 1 m.k.toNat ++ zer 3 ++ big 8 m.size ++ big 8 m.items ++ big 8 m.nodes) (big 4 m.chain.toNat) (zer 24 ++ T) 32 4 (by simp [big_len, zer_len]) (big_len _ _)
    simp only [List.append_assoc] at this ⊢
    rw [this, num_big_lt _ _ (show m.chain.toNat < 256 ^ 4 from m.chain.isLt)]
    simp
theorem rmrk_mrk (m : MV) (h : m.Ok) : rmrk (mrk m) = some m := by
  rw [rmrk, mOf_mrk m h]
  exact if_pos ⟨mrk_len m ⟨h.k1, h.k2⟩, rfl⟩
/-! ### one byte turned -/
theorem run_inj {c d : BitVec 32} {l : List UInt8} (h : run c l = run d l) : c = d := by
  induction l generalizing c d with
  | nil => exact h
  | cons b l ih =>
    have h1 : by8 c b = by8 d b := ih h
    have h2 := stN_inj h1
    have := congrArg (fun x => x ^^^ bw b) h2
    simpa [BitVec.xor_assoc] using this
theorem by8_inj {c : BitVec 32} {x y : UInt8} (h : by8 c x = by8 c y) : x = y := by
  have h2 := stN_inj h
  have h3 : bw x = bw y := by
    have := congrArg (fun z => c ^^^ z) h2
    simpa [← BitVec.xor_assoc] using this
  have h4 := congrArg BitVec.toNat h3
  have hx := x.toNat_lt
  have hy := y.toNat_lt
  rw [bw, bw, BitVec.toNat_ofNat, BitVec.toNat_ofNat] at h4
  exact UInt8.toNat_inj.1 (by omega)
theorem set_split (l : List UInt8) (k : Nat) (x : UInt8) (hk : k < l.length) : l.set k x = l.take k ++ x :: l.drop (k + 1) := List.set_eq_take_append_cons_drop.trans (if_pos hk)
theorem crc_turned (l : List UInt8) (k : Nat) (x : UInt8) (hk : k < l.length) (hx : x ≠ l.getD k 0) : crc (l.set k x) ≠ crc l := by
  intro h
  have h1 := BitVec.toNat_inj.1 h
  have h2 := not_inj h1
  have e : l = l.take k ++ l.getD k 0 :: l.drop (k + 1) := by
    conv => lhs; rw [← List.take_append_drop k l, List.drop_eq_getElem_cons hk]
    rw [List.getD_eq_getElem?_getD, List.getElem?_eq_getElem hk]
    rfl
  rw [set_split l k x hk] at h2
  conv at h2 => rhs; rw [e]
  rw [run_append, run_append] at h2
  have h3 : run (by8 (run (~~~ 0#32) (l.take k)) x) (l.drop (k + 1)) = run (by8 (run (~~~ 0#32) (l.take k)) (l.getD k 0)) (l.drop (k + 1)) := h2
  exact hx (by8_inj (run_inj h3))
/-- A record of which one byte is another one has another sum. -/
theorem sld_turned (m l : List UInt8) (k : Nat) (x : UInt8) (hk : k < m.length + 4) (hx : x ≠ (sld m).getD k 0) : sld l ≠ (sld m).set k x := by
  intro h
  have hl : l.length = m.length := by
    have := congrArg List.length h
    rw [sld_len, List.length_set, sld_len] at this
    omega
  by_cases hkm : k < m.length
  · have e : (sld m).set k x = m.set k x ++ big 4 (crc m) := by rw [sld, List.set_append, if_pos hkm]
    rw [e, sld] at h
    obtain ⟨h1, h2⟩ := List.append_inj h (by rw [List.length_set]; exact hl)
    subst h1
    refine crc_turned m k x hkm ?_ (big_inj (crc_lt _) (crc_lt _) h2)
    intro hq
    apply hx
    rw [hq, sld]
    simp [List.getD_eq_getElem?_getD, List.getElem?_append_left hkm]
  · have e : (sld m).set k x = m ++ (big 4 (crc m)).set (k - m.length) x := by rw [sld, List.set_append, if_neg hkm]
    rw [e, sld] at h
    obtain ⟨h1, h2⟩ := List.append_inj h hl
    subst h1
    apply hx
    have hk4 : k - l.length < (big 4 (crc l)).length := by rw [big_len]; omega
    have h3 := congrArg (fun t => t.getD (k - l.length) 0) h2
    simp only [List.getD_eq_getElem?_getD, List.getElem?_set_self hk4, Option.getD_some] at h3
    rw [← h3, sld, List.getD_eq_getElem?_getD, List.getElem?_append_right (by omega)]
theorem xor_ne (a b : UInt8) (h : b ≠ 0) : a ^^^ b ≠ a := by
  intro e
  apply h
  have := congrArg (fun x => a ^^^ x) e
  simpa [← UInt8.xor_assoc] using this
end Go.Proofs.Ytggkjleibhpnfaa
