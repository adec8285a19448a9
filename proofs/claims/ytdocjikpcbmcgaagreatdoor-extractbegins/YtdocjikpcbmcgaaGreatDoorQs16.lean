/-
  Own work: ESpec, EIx, WSpec, CoSpec.
-/
import Derived.Laws.IdiomStrings
import Derived.Test.YtdocjikpcbmcgaaGreatDoorQs15
namespace Go.Proofs.YtdocjikpcbmcgaaGreatDoor
open Pl (pw pw_succ pw_pos pw_zero)
section
variable (c : Nat) (L : List ByteArray) (M : Nat → Nat → Option Nat) (D : List ByteArray) (V : Nat → ByteArray)
def xd : Nat → Nat → ByteArray
  | 0, k => match M 0 k with
    | some j => D.getD j ByteArray.empty
    | none => dg c (leafT (V k))
  | h + 1, k => match M (h + 1) k with
    | some j => D.getD j ByteArray.empty
    | none => dg c (nodeT (xd h (2 * k)) (xd h (2 * k + 1)))
def fp : Nat → Nat → Pq
  | 0, k => match M 0 k with
    | some _ => none
    | none => un (leafT (L.getD k ByteArray.empty)) (leafT (V k))
  | h + 1, k => match M (h + 1) k with
    | some _ => none
    | none => (un (nodeT (nd c L h (2 * k)) (nd c L h (2 * k + 1))) (nodeT (xd c M D V h (2 * k)) (xd c M D V h (2 * k + 1)))).or ((fp h (2 * k)).or (fp h (2 * k + 1)))
def Vis (Q : Nat → Prop) : Nat → Nat → Prop
  | 0, k => M 0 k = none → Q k
  | h + 1, k => M (h + 1) k = none → Vis Q h (2 * k) ∧ Vis Q h (2 * k + 1)
end
section
variable {c : Nat} {L : List ByteArray} {M : Nat → Nat → Option Nat} {D : List ByteArray} {V : Nat → ByteArray}
theorem xd_in {h k j : Nat} (e : M h k = some j) : xd c M D V h k = D.getD j ByteArray.empty := by
  cases h with
  | zero => rw [xd, e]
  | succ h => rw [xd, e]
theorem xd_leaf {k : Nat} (e : M 0 k = none) : xd c M D V 0 k = dg c (leafT (V k)) := by rw [xd, e]
theorem xd_node {h k : Nat} (e : M (h + 1) k = none) : xd c M D V (h + 1) k = dg c (nodeT (xd c M D V h (2 * k)) (xd c M D V h (2 * k + 1))) := by rw [xd, e]
theorem fp_in {h k j : Nat} (e : M h k = some j) : fp c L M D V h k = none := by
  cases h with
  | zero => rw [fp, e]
  | succ h => rw [fp, e]
theorem fp_leaf {k : Nat} (e : M 0 k = none) : fp c L M D V 0 k = un (leafT (L.getD k ByteArray.empty)) (leafT (V k)) := by rw [fp, e]
theorem fp_node {h k : Nat} (e : M (h + 1) k = none) : fp c L M D V (h + 1) k = (un (nodeT (nd c L h (2 * k)) (nd c L h (2 * k + 1))) (nodeT (xd c M D V h (2 * k)) (xd c M D V h (2 * k + 1)))).or ((fp c L M D V h (2 * k)).or (fp c L M D V h (2 * k + 1))) := by rw [fp, e]
theorem xd_size (hc : c ≤ 32) (hM : ∀ h k j, M h k = some j → j < D.length) (hD : ∀ s ∈ D, s.size = c) (h k : Nat) : (xd c M D V h k).size = c := by
  cases e : M h k with
  | some j => rw [xd_in e]; exact hD _ (getD_mem (hM h k j e))
  | none =>
    cases h with
    | zero => rw [xd_leaf e, dg_size hc]
    | succ h => rw [xd_node e, dg_size hc]
theorem fp_clash (hc : c ≤ 32) (hM : ∀ h k j, M h k = some j → j < D.length) (hD : ∀ s ∈ D, s.size = c) : ∀ (h k : Nat) (q : ByteArray × ByteArray), nd c L h k = xd c M D V h k → fp c L M D V h k = some q → Clx c q := by
  intro h
  induction h with
  | zero =>
    intro k q he hf
    cases e : M 0 k with
    | some j => rw [fp_in e] at hf; cases hf
    | none =>
      rw [fp_leaf e] at hf
      rw [xd_leaf e] at he
      obtain ⟨h1, rfl⟩ := un_some hf
      exact ⟨h1, he⟩
  | succ h ih =>
    intro k q he hf
    cases e : M (h + 1) k with
    | some j => rw [fp_in e] at hf; cases hf
    | none =>
      rw [fp_node e] at hf
      rw [xd_node e] at he
      rcases or_some hf with hf | ⟨h0, hf⟩
      · obtain ⟨h1, rfl⟩ := un_some hf
        exact ⟨h1, he⟩
      · obtain ⟨e1, e2⟩ := nodeT_inj (by rw [nd_size hc, xd_size hc hM hD]) (un_none h0)
        rcases or_some hf with hf | ⟨_, hf⟩
        · exact ih _ _ e1 hf
        · exact ih _ _ e2 hf
theorem fp_alike (hc : c ≤ 32) (hM : ∀ h k j, M h k = some j → j < D.length) (hD : ∀ s ∈ D, s.size = c) : ∀ (h k : Nat), nd c L h k = xd c M D V h k → fp c L M D V h k = none → ∀ g i, g ≤ h → i / 2 ^ (h - g) = k → (∀ t, g < t → t ≤ h → M t (i / 2 ^ (t - g)) = none) → nd c L g i = xd c M D V g i ∧ (g = 0 → M 0 i = none → L.getD i ByteArray.empty = V i) := by
  intro h
  induction h with
  | zero =>
    intro k he hf g i hg hi ht
    obtain rfl : g = 0 := by omega
    obtain rfl : i = k := by rw [Nat.sub_self, Nat.pow_zero, Nat.div_one] at hi; exact hi
    refine ⟨he, fun _ e => ?_⟩
    rw [fp_leaf e] at hf
    exact leafT_inj (un_none hf)
  | succ h ih =>
    intro k he hf g i hg hi ht
    by_cases hgh : g = h + 1
    · subst hgh
      obtain rfl : i = k := by rw [Nat.sub_self, Nat.pow_zero, Nat.div_one] at hi; exact hi
      exact ⟨he, fun h0 => by omega⟩
    · have e := ht (h + 1) (by omega) (Nat.le_refl _)
      rw [hi] at e
      rw [fp_node e] at hf
      rw [xd_node e] at he
      obtain ⟨h0, h12⟩ := or_none hf
      obtain ⟨h1, h2⟩ := or_none h12
      obtain ⟨e1, e2⟩ := nodeT_inj (by rw [nd_size hc, xd_size hc hM hD]) (un_none h0)
      have hk : i / 2 ^ (h - g) / 2 = k := by
        rw [Nat.div_div_eq_div_mul, ← Nat.pow_succ, show (h - g).succ = h + 1 - g by omega]; exact hi
      have hcase : i / 2 ^ (h - g) = 2 * k ∨ i / 2 ^ (h - g) = 2 * k + 1 := by omega
      rcases hcase with hx | hx
      · exact ih (2 * k) e1 h1 g i (by omega) hx fun t h3 h4 => ht t h3 (by omega)
      · exact ih (2 * k + 1) e2 h2 g i (by omega) hx fun t h3 h4 => ht t h3 (by omega)
theorem xd_tl {Q : Nat → Prop} {K : List He} (h1 : ∀ e ∈ K, (∃ j, M e.1.1 e.1.2 = some j ∧ D.getD j ByteArray.empty = e.2) ∨ (M e.1.1 e.1.2 = none ∧ e.1.1 = 0 ∧ Q e.1.2 ∧ e.2 = dg c (leafT (V e.1.2)))) (h2 : ∀ h k j, M h k = some j → ∃ u, ((h, k), u) ∈ K) : ∀ (h k : Nat) (v : ByteArray), Tl c K h k v → Vis M Q h k ∧ xd c M D V h k = v := by
  intro h
  induction h with
  | zero =>
    intro k v ht
    rcases h1 _ ht with ⟨j, e, hv⟩ | ⟨e, _, hq, hv⟩
    · exact ⟨fun e' => absurd (e.symm.trans e') (by simp), (xd_in e).trans hv⟩
    · exact ⟨fun _ => hq, (xd_leaf e).trans hv.symm⟩
  | succ h ih =>
    intro k v ht
    rcases ht with ht | ⟨hno, x, y, hx, hy, rfl⟩
    · rcases h1 _ ht with ⟨j, e, hv⟩ | ⟨_, e, _⟩
      · exact ⟨fun e' => absurd (e.symm.trans e') (by simp), (xd_in e).trans hv⟩
      · cases e
    · have e : M (h + 1) k = none := by
        cases e : M (h + 1) k with
        | none => rfl
        | some j => obtain ⟨u, hu⟩ := h2 _ _ j e; exact absurd hu (hno u)
      obtain ⟨v1, e1⟩ := ih _ _ hx
      obtain ⟨v2, e2⟩ := ih _ _ hy
      exact ⟨fun _ => ⟨v1, v2⟩, by rw [xd_node e, e1, e2]⟩
end
def bg (c : Nat) : List ByteArray → List ByteArray → Pq
  | p :: p2 :: P, q :: q2 :: Q => (un (bagT p (bagL c (p2 :: P))) (bagT q (bagL c (q2 :: Q)))).or (bg c (p2 :: P) (q2 :: Q))
  | _, _ => none
def tp (c n : Nat) (P Q : List ByteArray) : Pq := (un (rootT n (bagL c P)) (rootT n (bagL c Q))).or (bg c P Q)
theorem bg_self (c : Nat) : ∀ P, bg c P P = none
  | [] => rfl
  | [p] => rfl
  | p :: p2 :: P => by rw [bg, un_self]; exact bg_self c (p2 :: P)
theorem tp_self (c n : Nat) (P : List ByteArray) : tp c n P P = none := by rw [tp, un_self]; exact bg_self c P
theorem bg_clash {c : Nat} : ∀ (P Q : List ByteArray), P.length = Q.length → (∀ s ∈ P, s.size = c) → (∀ s ∈ Q, s.size = c) → bagL c P = bagL c Q → ∀ q, bg c P Q = some q → Clx c q
  | [], _, _, _, _, _, q, h => by rw [bg] at h; cases h; all_goals (intros; contradiction)
  | [_], _, _, _, _, _, q, h => by rw [bg] at h; cases h; all_goals (intros; contradiction)
  | p :: p2 :: P, [], hl, _, _, _, q, h => by cases hl
  | p :: p2 :: P, [_], hl, _, _, _, q, h => by simp at hl
  | p :: p2 :: P, q :: q2 :: Q, hl, hP, hQ, he, r, h => by
    rw [bagL, bagL] at he
    rw [bg] at h
    rcases or_some h with h | ⟨h0, h⟩
    · obtain ⟨h1, rfl⟩ := un_some h
      exact ⟨h1, he⟩
    · obtain ⟨_, e2⟩ := bagT_inj (by rw [hP p (by simp), hQ q (by simp)]) (un_none h0)
      exact bg_clash (p2 :: P) (q2 :: Q) (by simpa using hl) (fun s hs => hP s (List.mem_cons_of_mem _ hs)) (fun s hs => hQ s (List.mem_cons_of_mem _ hs)) e2 r h
theorem bg_alike {c : Nat} : ∀ (P Q : List ByteArray), P.length = Q.length → (∀ s ∈ P, s.size = c) → (∀ s ∈ Q, s.size = c) → bagL c P = bagL c Q → bg c P Q = none → P = Q
  | [], [], _, _, _, _, _ => rfl
  | [], _ :: _, hl, _, _, _, _ => by cases hl
  | [p], [], hl, _, _, _, _ => by cases hl
  | [p], [q], _, _, _, he, _ => by rw [bagL, bagL] at he; rw [he]
  | [p], _ :: _ :: _, hl, _, _, _, _ => by simp at hl
  | p :: p2 :: P, [], hl, _, _, _, h => by cases hl
  | p :: p2 :: P, [_], hl, _, _, _, h => by simp at hl
  | p :: p2 :: P, q :: q2 :: Q, hl, hP, hQ, he, h => by
    rw [bagL, bagL] at he
    rw [bg] at h
    obtain ⟨h0, h⟩ := or_none h
    obtain ⟨e1, e2⟩ := bagT_inj (by rw [hP p (by simp), hQ q (by simp)]) (un_none h0)
    rw [e1, bg_alike (p2 :: P) (q2 :: Q) (by simpa using hl) (fun s hs => hP s (List.mem_cons_of_mem _ hs)) (fun s hs => hQ s (List.mem_cons_of_mem _ hs)) e2 h]
theorem tp_clash {c n : Nat} {P Q : List ByteArray} (hl : P.length = Q.length) (hP : ∀ s ∈ P, s.size = c) (hQ : ∀ s ∈ Q, s.size = c) (he : dg c (rootT n (bagL c P)) = dg c (rootT n (bagL c Q))) {q : ByteArray × ByteArray} (h : tp c n P Q = some q) : Clx c q := by
  rw [tp] at h
  rcases or_some h with h | ⟨h0, h⟩
  · obtain ⟨h1, rfl⟩ := un_some h
    exact ⟨h1, he⟩
  · exact bg_clash P Q hl hP hQ (rootT_inj (un_none h0)) q h
theorem tp_alike {c n : Nat} {P Q : List ByteArray} (hl : P.length = Q.length) (hP : ∀ s ∈ P, s.size = c) (hQ : ∀ s ∈ Q, s.size = c) (h : tp c n P Q = none) : P = Q := by
  rw [tp] at h
  obtain ⟨h0, h⟩ := or_none h
  exact bg_alike P Q hl hP hQ (rootT_inj (un_none h0)) h
def fm (f : Nat → Nat → Pq) : List (Nat × Nat) → Pq
  | [] => none
  | b :: B => (f b.1 b.2).or (fm f B)
theorem fm_some {f : Nat → Nat → Pq} {q : ByteArray × ByteArray} : ∀ {B : List (Nat × Nat)}, fm f B = some q → ∃ b ∈ B, f b.1 b.2 = some q
  | [], h => by cases h
  | b :: B, h => by
    rcases or_some h with h | ⟨_, h⟩
    · exact ⟨b, List.mem_cons_self .., h⟩
    · obtain ⟨b', hb, h'⟩ := fm_some h
      exact ⟨b', List.mem_cons_of_mem _ hb, h'⟩
theorem fm_none {f : Nat → Nat → Pq} : ∀ {B : List (Nat × Nat)}, fm f B = none → ∀ b ∈ B, f b.1 b.2 = none
  | [], _, b, hb => by cases hb
  | m :: B, h, b, hb => by
    obtain ⟨h1, h2⟩ := or_none h
    rcases List.mem_cons.1 hb with rfl | hb
    · exact h1
    · exact fm_none h2 b hb
def wk (c n : Nat) (L : List ByteArray) (M : Nat → Nat → Option Nat) (D : List ByteArray) (V : Nat → ByteArray) (B : List (Nat × Nat)) : Pq := (tp c n (B.map fun b => nd c L b.1 b.2) (B.map fun b => xd c M D V b.1 b.2)).or (fm (fp c L M D V) B)
theorem wk_clash {c n : Nat} {L : List ByteArray} {M : Nat → Nat → Option Nat} {D : List ByteArray} {V : Nat → ByteArray} {B : List (Nat × Nat)} (hc : c ≤ 32) (hM : ∀ h k j, M h k = some j → j < D.length) (hD : ∀ s ∈ D, s.size = c) (he : dg c (rootT n (bagL c (B.map fun b => nd c L b.1 b.2))) = dg c (rootT n (bagL c (B.map fun b => xd c M D V b.1 b.2)))) :
    (∃ q, wk c n L M D V B = some q ∧ Clx c q) ∨ (wk c n L M D V B = none ∧ ∀ b ∈ B, nd c L b.1 b.2 = xd c M D V b.1 b.2 ∧ fp c L M D V b.1 b.2 = none) := by
  have hP : ∀ s ∈ B.map fun b => nd c L b.1 b.2, s.size = c := fun s hs => by
    obtain ⟨b, _, rfl⟩ := List.mem_map.1 hs
    exact nd_size hc _ _ _
  have hQ : ∀ s ∈ B.map fun b => xd c M D V b.1 b.2, s.size = c := fun s hs => by
    obtain ⟨b, _, rfl⟩ := List.mem_map.1 hs
    exact xd_size hc hM hD _ _
  have hl : (B.map fun b => nd c L b.1 b.2).length = (B.map fun b => xd c M D V b.1 b.2).length := by rw [List.length_map, List.length_map]
  cases ht : tp c n (B.map fun b => nd c L b.1 b.2) (B.map fun b => xd c M D V b.1 b.2) with
  | some q => exact .inl ⟨q, by rw [wk, ht]; rfl, tp_clash hl hP hQ he ht⟩
  | none =>
    have ha := List.map_inj_left.1 (tp_alike hl hP hQ ht)
    cases hf : fm (fp c L M D V) B with
    | some q =>
      obtain ⟨b, hb, hq⟩ := fm_some hf
      exact .inl ⟨q, by rw [wk, ht, hf]; rfl, fp_clash hc hM hD _ _ q (ha b hb) hq⟩
    | none => exact .inr ⟨by rw [wk, ht, hf]; rfl, fun b hb => ⟨ha b hb, fm_none hf b hb⟩⟩
end Go.Proofs.YtdocjikpcbmcgaaGreatDoor
namespace Go.Proofs.YtdocjikpcbmcgaaGreatDoor
theorem half_in {h i n : Nat} (hi : (i + 1) * 2 ^ (h + 1) ≤ n) : (2 * i + 1) * 2 ^ h ≤ n ∧ (2 * i + 1 + 1) * 2 ^ h ≤ n := by
  have e : (i + 1) * 2 ^ (h + 1) = (2 * i + 1 + 1) * 2 ^ h := by rw [Nat.pow_succ, Nat.mul_comm (2 ^ h), ← Nat.mul_assoc]; congr 1; omega
  rw [e] at hi
  exact ⟨Nat.le_trans (Nat.mul_le_mul_right _ (by omega)) hi, hi⟩
theorem idx_lt {h i n : Nat} (hi : (i + 1) * 2 ^ h ≤ n) : i < n := by
  have := Nat.mul_le_mul_left (i + 1) (Nat.one_le_two_pow (n := h)); omega
def ixM (Bs : List (Nat × Nat)) (h k : Nat) : Option Nat := if (h, k) ∈ Bs then some (Bs.idxOf (h, k)) else none
theorem ixM_app {Bs : List (Nat × Nat)} {b : Nat × Nat} (hb : b ∉ Bs) (h k : Nat) : ixM (Bs ++ [b]) h k = if (h, k) = b then some Bs.length else ixM Bs h k := by
  unfold ixM
  by_cases h1 : (h, k) ∈ Bs
  · have h2 : (h, k) ≠ b := fun e => hb (e ▸ h1)
    rw [if_neg h2, if_pos h1, if_pos (List.mem_append_left _ h1), List.idxOf_append, if_pos h1]
  · by_cases h2 : (h, k) = b
    · rw [if_pos h2, if_pos (by rw [h2]; simp), List.idxOf_append, if_neg h1, h2, List.idxOf_cons_self, Nat.zero_add]
    · rw [if_neg h2, if_neg h1, if_neg (by simp [h1, h2])]
theorem ixM_lt {Bs : List (Nat × Nat)} {h k j : Nat} (e : ixM Bs h k = some j) : j < Bs.length := by
  unfold ixM at e
  split at e
  · rename_i hm
    cases e
    exact List.idxOf_lt_length_of_mem hm
  · cases e
theorem ixM_at {Bs : List (Nat × Nat)} {h k j : Nat} (e : ixM Bs h k = some j) : Bs.getD j (0, 0) = (h, k) := by
  unfold ixM at e
  split at e
  · rename_i hm
    cases e
    have := List.idxOf_lt_length_of_mem hm
    rw [List.getD_eq_getElem?_getD, List.getElem?_eq_getElem this]
    exact List.getElem_idxOf this
  · cases e
theorem ixM_none {Bs : List (Nat × Nat)} {h k : Nat} : ixM Bs h k = none ↔ (h, k) ∉ Bs := by
  unfold ixM
  split
  · rename_i hm; simp [hm]
  · rename_i hm; simp [hm]
end Go.Proofs.YtdocjikpcbmcgaaGreatDoor
namespace Go.Proofs.YtdocjikpcbmcgaaGreatDoor
def num (n : Nat) : List UInt8 := if n < 128 then [UInt8.ofNat n] else UInt8.ofNat (n % 128 + 128) :: num (n / 128)
termination_by n
decreasing_by omega
theorem num_low {n : Nat} (h : n < 128) : num n = [UInt8.ofNat n] := by rw [num, if_pos h]
theorem num_high {n : Nat} (h : 128 ≤ n) : num n = UInt8.ofNat (n % 128 + 128) :: num (n / 128) := by rw [num, if_neg (by omega)]
def scan : List UInt8 → Nat → Nat → Nat × Nat × Nat
  | [], _, _ => (0, 60, 0)
  | b :: r, i, n =>
    if i = 9 ∧ 1 < b.toNat then (0, 61, 0)
    else if b.toNat < 128 then (if b.toNat = 0 ∧ 0 < i then (0, 61, 0) else (n + b.toNat * 128 ^ i, 0, i + 1))
    else scan r (i + 1) (n + (b.toNat % 128) * 128 ^ i)
theorem ofNat_toNat {x : Nat} (h : x < 256) : (UInt8.ofNat x).toNat = x := by
  rw [UInt8.toNat_ofNat']; exact Nat.mod_eq_of_lt h
theorem pow_le9 {i : Nat} (h : i ≤ 9) : 128 ^ i ≤ 128 ^ 9 := Nat.pow_le_pow_right (by decide) h
theorem scan_back : ∀ (l : List UInt8) (i acc n k : Nat), acc < 128 ^ i → i ≤ 9 → scan l i acc = (n, 0, k) →
    ∃ m, n = acc + m * 128 ^ i ∧ num m = l.take (k - i) ∧ i < k ∧ k ≤ 10 ∧ k - i ≤ l.length ∧ (0 < i → 0 < m) ∧ n < 2 ^ 64 := by
  intro l
  induction l with
  | nil => intro i acc n k _ _ h; simp [scan] at h
  | cons b r ih =>
    intro i acc n k ha hi h
    rw [scan] at h
    by_cases h1 : i = 9 ∧ 1 < b.toNat
    · rw [if_pos h1] at h; simp at h
    · rw [if_neg h1] at h
      by_cases h2 : b.toNat < 128
      · rw [if_pos h2] at h
        by_cases h3 : b.toNat = 0 ∧ 0 < i
        · rw [if_pos h3] at h; simp at h
        · rw [if_neg h3] at h
          simp only [Prod.mk.injEq, true_and] at h
          obtain ⟨rfl, rfl⟩ := h
          refine ⟨b.toNat, rfl, ?_, by omega, by omega, by simp, by omega, ?_⟩
          · rw [num_low h2, Nat.add_sub_cancel_left]
            simp
          · have e9 : (128 : Nat) ^ 9 = 9223372036854775808 := by decide
            rcases Nat.lt_or_ge i 9 with h9 | h9
            · have hp : 128 ^ (i + 1) ≤ 128 ^ 9 := pow_le9 (by omega)
              have : b.toNat * 128 ^ i ≤ 127 * 128 ^ i := Nat.mul_le_mul_right _ (by omega)
              rw [Nat.pow_succ] at hp
              omega
            · obtain rfl : i = 9 := by omega
              have : b.toNat * 128 ^ 9 ≤ 1 * 128 ^ 9 := Nat.mul_le_mul_right _ (by omega)
              omega
      · rw [if_neg h2] at h
        have h9 : i ≠ 9 := by omega
        have hlt : acc + b.toNat % 128 * 128 ^ i < 128 ^ (i + 1) := by
          rw [Nat.pow_succ]
          have : b.toNat % 128 * 128 ^ i ≤ 127 * 128 ^ i := Nat.mul_le_mul_right _ (by omega)
          omega
        obtain ⟨m, rfl, h4, h5, h6, h7, h8, h10⟩ := ih (i + 1) _ n k hlt (by omega) h
        have hm := h8 (by omega)
        have hb := b.toNat_lt
        refine ⟨b.toNat % 128 + 128 * m, ?_, ?_, by omega, h6, by simp; omega, by omega, h10⟩
        · rw [Nat.add_mul, Nat.pow_succ, Nat.mul_comm (128 ^ i), ← Nat.mul_assoc, Nat.mul_comm m, Nat.add_assoc]
        · rw [num_high (by omega), show (b.toNat % 128 + 128 * m) / 128 = m by omega, h4, show (b.toNat % 128 + 128 * m) % 128 + 128 = b.toNat by omega,
            show k - i = (k - (i + 1)) + 1 by omega, List.take_succ_cons]
          simp
end Go.Proofs.YtdocjikpcbmcgaaGreatDoor
namespace Go.Proofs.YtdocjikpcbmcgaaGreatDoor
open Cv (rst cov Chain errS Til)
structure PV where
  kd : Int
  k : Int
  old : Nat
  size : Nat
  S : List Nat
  D : List ByteArray
def cnt (kd k : Int) (old size : Nat) (S : List Nat) : Option Nat :=
  if 1 ≤ k ∧ k ≤ 32 ∧ size ≤ 2 ^ 40 then
    if kd = 1 then (if old = 0 ∧ S.length = 1 ∧ errS size S = 0 then some (rst 0 size S).length else none)
    else if kd = 2 then (if old = 0 ∧ errS size S = 0 then some (rst 0 size S).length else none)
    else if kd = 3 then (if old ≤ size ∧ S = [] then some ((cov 0 old).length + (cov old size).length) else none)
    else none
  else none
theorem til_len {A : Nat → Prop} {q : Nat} : ∀ {L : List (Nat × Nat)} {p : Nat}, Til A q p L → L.length + p ≤ q := by
  intro L
  induction L with
  | nil => intro p h; have := h.1; simp; omega
  | cons b L ih =>
    intro p h
    obtain ⟨h1, h2, h3, h4, h5, h6⟩ := h
    have := ih h6
    have := Cv.blk_lt b.1 b.2
    simp; omega
theorem rst_le {n : Nat} {S : List Nat} (hn : n ≤ 2 ^ 40) (hc : Chain 0 S n) : (rst 0 n S).length ≤ n := til_len (Cv.rst_but n S hn hc)
theorem chain_len : ∀ {S : List Nat} {x n : Nat}, Chain x S n → S.length + x ≤ n := by
  intro S
  induction S with
  | nil => intro x n h; have : x ≤ n := h; simp; omega
  | cons i S ih => intro x n h; have := ih h.2; have := h.1; simp; omega
structure CntOk (kd k : Int) (old size : Nat) (S : List Nat) (c : Nat) : Prop where
  kd1 : 1 ≤ kd
  kd3 : kd ≤ 3
  k1 : 1 ≤ k
  k32 : k ≤ 32
  hsz : size ≤ 1099511627776
  hc : c ≤ 1099511627776
  hold : old ≤ size
  len : S.length ≤ size
  chain : Chain 0 S size
  one : kd = 1 → S.length = 1 ∧ old = 0
  two : kd = 2 → old = 0
  three : kd = 3 → S = []
theorem cnt_ok {kd k : Int} {old size c : Nat} {S : List Nat} (h : cnt kd k old size S = some c) : CntOk kd k old size S c := by
  unfold cnt at h
  have e40 : (2 : Nat) ^ 40 = 1099511627776 := by decide
  split at h
  · rename_i h0
    obtain ⟨g1, g2, g3⟩ := h0
    split at h
    · rename_i hk
      split at h
      · rename_i h1
        obtain ⟨a1, a2, a3⟩ := h1
        have hc := (Cv.errS_ok a3).2.2.2
        have hl := chain_len hc
        have hr := rst_le g3 hc
        cases h
        exact ⟨by omega, by omega, g1, g2, by omega, by omega, by omega, by omega, hc, fun _ => ⟨a2, a1⟩, fun h => by omega, fun h => by omega⟩
      · cases h
    · rename_i hk1
      split at h
      · rename_i hk
        split at h
        · rename_i h1
          obtain ⟨a1, a3⟩ := h1
          have hc := (Cv.errS_ok a3).2.2.2
          have hl := chain_len hc
          have hr := rst_le g3 hc
          cases h
          exact ⟨by omega, by omega, g1, g2, by omega, by omega, by omega, by omega, hc, fun h => by omega, fun _ => a1, fun h => by omega⟩
        · cases h
      · rename_i hk2
        split at h
        · rename_i hk
          split at h
          · rename_i h1
            obtain ⟨a1, a3⟩ := h1
            have h1 := Cv.cov_forty old (by omega)
            have h2 := Cv.cov_len old size a1 g3
            cases h
            subst a3
            exact ⟨by omega, by omega, g1, g2, by omega, by omega, a1, by simp, Nat.zero_le _, fun h => by omega, fun h => by omega, fun _ => rfl⟩
          · cases h
        · cases h
  · cases h
def flatC (D : List ByteArray) : List UInt8 := (D.map (·.data.toList)).flatten
theorem flat_cons (d : ByteArray) (D : List ByteArray) : flatC (d :: D) = d.data.toList ++ flatC D := by simp [flatC]
theorem size_list (d : ByteArray) : d.data.toList.length = d.size := Array.length_toList
def laidL : Nat → List Nat → List UInt8
  | _, [] => []
  | x, i :: S => num (i - x) ++ laidL (i + 1) S
def mid (p : PV) : List UInt8 := if p.kd = 1 then num (p.S.getD 0 0) else if p.kd = 2 then num p.S.length ++ laidL 0 p.S else num p.old
def enc (p : PV) : List UInt8 := UInt8.ofNat p.kd.toNat :: UInt8.ofNat p.k.toNat :: (num p.size ++ (mid p ++ flatC p.D))
def Well (p : PV) : Prop := cnt p.kd p.k p.old p.size p.S = some p.D.length ∧ ∀ d ∈ p.D, (d.size : Int) = p.k
instance (p : PV) : Decidable (Well p) := by unfold Well; infer_instance
def nmb (l : List UInt8) : Option (Nat × List UInt8) := if (scan l 0 0).2.1 = 0 then some ((scan l 0 0).1, l.drop (scan l 0 0).2.2) else none
theorem nmb_back {l r : List UInt8} {n : Nat} (h : nmb l = some (n, r)) : l = num n ++ r ∧ n < 2 ^ 64 := by
  unfold nmb at h
  split at h
  · rename_i h0
    obtain ⟨a, b, c, hc⟩ : ∃ a b c, scan l 0 0 = (a, b, c) := ⟨_, _, _, rfl⟩
    rw [hc] at h h0
    simp only at h h0
    subst h0
    obtain ⟨m, h1, h2, h3, h4, h5, h6, h7⟩ := scan_back l 0 0 a _ (by decide) (by decide) hc
    simp only [Option.some.injEq, Prod.mk.injEq] at h
    obtain ⟨rfl, rfl⟩ := h
    rw [Nat.zero_add, Nat.pow_zero, Nat.mul_one] at h1
    subst h1
    rw [h2]
    exact ⟨by simp, h7⟩
  · cases h
def setL : Nat → Nat → Nat → List UInt8 → Option (List Nat × List UInt8)
  | 0, _, _, l => some ([], l)
  | c + 1, x, size, l =>
    match nmb l with
    | none => none
    | some (d, r) => if x + d < size then (match setL c (x + d + 1) size r with | none => none | some (S, r') => some ((x + d) :: S, r')) else none
theorem setL_back {size : Nat} : ∀ (c x : Nat) (l : List UInt8) (S : List Nat) (r : List UInt8), x ≤ size → setL c x size l = some (S, r) → S.length = c ∧ l = laidL x S ++ r ∧ Chain x S size := by
  intro c
  induction c with
  | zero =>
    intro x l S r hx h
    simp only [setL, Option.some.injEq, Prod.mk.injEq] at h
    obtain ⟨rfl, rfl⟩ := h
    exact ⟨rfl, rfl, hx⟩
  | succ c ih =>
    intro x l S r hx h
    rw [setL] at h
    split at h
    · cases h
    · rename_i d r' hn
      split at h
      · rename_i hlt
        split at h
        · cases h
        · rename_i S' r'' hs
          simp only [Option.some.injEq, Prod.mk.injEq] at h
          obtain ⟨rfl, rfl⟩ := h
          obtain ⟨g1, g2, g3⟩ := ih _ _ _ _ hlt hs
          obtain ⟨n1, n2⟩ := nmb_back hn
          refine ⟨by simp [g1], ?_, by omega, g3⟩
          rw [laidL, List.append_assoc, ← g2, Nat.add_sub_cancel_left, ← n1]
      · cases h
def digL : Nat → Nat → List UInt8 → List ByteArray
  | 0, _, _ => []
  | c + 1, k, l => ⟨(l.take k).toArray⟩ :: digL c k (l.drop k)
theorem digL_back {k : Nat} : ∀ (c : Nat) (l : List UInt8), c * k = l.length → flatC (digL c k l) = l ∧ (digL c k l).length = c ∧ ∀ d ∈ digL c k l, d.size = k := by
  intro c
  induction c with
  | zero => intro l h; have : l = [] := List.length_eq_zero_iff.1 (by omega); subst this; exact ⟨rfl, rfl, fun d hd => by cases hd⟩
  | succ c ih =>
    intro l h
    rw [Nat.add_mul, Nat.one_mul] at h
    obtain ⟨g1, g2, g3⟩ := ih (l.drop k) (by rw [List.length_drop]; omega)
    refine ⟨by rw [digL, flat_cons, g1]; simp, by rw [digL, List.length_cons, g2], fun d hd => ?_⟩
    rw [digL] at hd
    rcases List.mem_cons.1 hd with rfl | hd
    · simp [ByteArray.size]; omega
    · exact g3 d hd
def midR (kd : Nat) (size : Nat) (l : List UInt8) : Option (Nat × List Nat × List UInt8) :=
  if kd = 1 then (match nmb l with | none => none | some (i, r) => some (0, [i], r))
  else if kd = 2 then (match nmb l with | none => none | some (c, r) => if c ≤ r.length then (match setL c 0 size r with | none => none | some (S, r') => some (0, S, r')) else none)
  else if kd = 3 then (match nmb l with | none => none | some (o, r) => some (o, [], r))
  else some (0, [], l)
def decB (b0 b1 size old : Nat) (S : List Nat) (l : List UInt8) : Option PV :=
  match cnt b0 b1 old size S with
  | none => none
  | some c => if c * b1 = l.length then some ⟨b0, b1, old, size, S, digL c b1 l⟩ else none
def decA (b0 b1 : Nat) (l : List UInt8) : Option PV :=
  match nmb l with
  | none => none
  | some (size, l1) => match midR b0 size l1 with | none => none | some (old, S, l2) => decB b0 b1 size old S l2
def dec : List UInt8 → Option PV
  | b0 :: b1 :: l => decA b0.toNat b1.toNat l
  | _ => none
theorem enc_dec {s : List UInt8} {p : PV} (h : dec s = some p) : Well p ∧ enc p = s ∧ (∃ b0 b1 : Nat, p.kd = b0 ∧ p.k = b1) := by
  unfold dec at h
  split at h
  · rename_i b0 b1 l
    unfold decA at h
    split at h
    · cases h
    · rename_i size l1 hn
      split at h
      · cases h
      · rename_i old S l2 hm
        unfold decB at h
        split at h
        · cases h
        · rename_i c hc
          split at h
          · rename_i hlen
            cases h
            obtain ⟨d1, d2, d3⟩ := digL_back c l2 hlen
            obtain ⟨n1, n2⟩ := nmb_back hn
            have o := cnt_ok hc
            have i1 := o.kd1
            have i2 := o.kd3
            have i5 := o.hsz
            refine ⟨⟨by simp only [d2]; exact hc, fun d hd => by have := d3 d hd; simp only; omega⟩, ?_, _, _, rfl, rfl⟩
            have hb : ∀ b : UInt8, UInt8.ofNat b.toNat = b := fun b => by simp
            simp only [enc, Int.toNat_natCast, hb, d1]
            rw [n1]
            congr 3
            have e1 : ((b0.toNat : Int) = 1) ↔ b0.toNat = 1 := by omega
            have e2 : ((b0.toNat : Int) = 2) ↔ b0.toNat = 2 := by omega
            simp only [mid, e1, e2]
            unfold midR at hm
            split at hm
            · rename_i h1
              rw [if_pos h1]
              split at hm
              · cases hm
              · rename_i i r hi
                cases hm
                obtain ⟨m1, m2⟩ := nmb_back hi
                rw [m1]; rfl
            · rename_i h1
              rw [if_neg h1]
              split at hm
              · rename_i h2
                rw [if_pos h2]
                split at hm
                · cases hm
                · rename_i c' r hi
                  split at hm
                  · split at hm
                    · cases hm
                    · rename_i S' r' hs
                      cases hm
                      obtain ⟨m1, m2⟩ := nmb_back hi
                      obtain ⟨g1, g2, g3⟩ := setL_back _ _ _ _ _ (Nat.zero_le _) hs
                      rw [m1, g1, List.append_assoc, ← g2]
                  · cases hm
              · rename_i h2
                rw [if_neg h2]
                split at hm
                · split at hm
                  · cases hm
                  · rename_i o' r hi
                    cases hm
                    obtain ⟨m1, m2⟩ := nmb_back hi
                    rw [m1]
                · rename_i h3
                  omega
          · cases h
  · cases h
end Go.Proofs.YtdocjikpcbmcgaaGreatDoor
