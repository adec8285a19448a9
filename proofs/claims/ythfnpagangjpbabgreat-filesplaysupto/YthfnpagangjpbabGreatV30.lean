/-
  Own work: FGood, FPln, FOpn.
-/
import Derived.Test.YthfnpagangjpbabGreatV24
import Derived.Test.YthfnpagangjpbabGreatV29
import Derived.Test.YthfnpagangjpbabGreatV40
namespace Go.Proofs.YthfnpagangjpbabGreat
open Rc
abbrev It := List UInt8 × List ByteArray
structure BV where
  ends : List Nat
  chain : BitVec 32
  a : List UInt8
  b : List UInt8
  m : List UInt8
def BV.z : BV := ⟨[], 0#32, [], [], []⟩
def BV.mk' (k : Nat) (B : BV) (x : It) : MV := nxM k B.ends B.chain (pay x.1) (recs (nn B.ends.length) x.2)
def BV.ad (k : Nat) (B : BV) (x : It) : BV := ⟨B.ends ++ [(B.mk' k x).items], (B.mk' k x).chain, B.a ++ pay x.1, B.b ++ flat (recs (nn B.ends.length) x.2), B.m ++ mrk (B.mk' k x)⟩
def bA (k : Nat) (A : List It) : BV := A.foldl (BV.ad k) BV.z
theorem bA_snoc (k : Nat) (A : List It) (x : It) : bA k (A ++ [x]) = (bA k A).ad k x := by simp [bA]
def sA (k : Nat) (A : List It) : SV := ⟨k, (bA k A).ends, (bA k A).chain, false⟩
structure OkI (k n : Nat) (x : It) : Prop where
  len : x.1.length ≤ 1048576
  cnt : x.2.length = nn (n + 1) - nn n
  sz : ∀ d ∈ x.2, d.size = k
structure OkA (k : Nat) (A : List It) : Prop where
  k1 : 1 ≤ k
  k2 : k ≤ 32
  few : A.length ≤ 65536
  it : ∀ i x, A[i]? = some x → OkI k i x
theorem okA_nil {k : Nat} (h1 : 1 ≤ k) (h2 : k ≤ 32) : OkA k [] := ⟨h1, h2, by simp, fun i x h => by simp at h⟩
theorem OkA.init {k : Nat} {A : List It} {x : It} (h : OkA k (A ++ [x])) : OkA k A :=
  ⟨h.k1, h.k2, by have := h.few; simp at this; omega, fun i y hy => h.it i y (by rw [List.getElem?_append_left (List.getElem?_eq_some_iff.1 hy).1]; exact hy)⟩
theorem OkA.last {k : Nat} {A : List It} {x : It} (h : OkA k (A ++ [x])) : OkI k A.length x := h.it A.length x (by simp)
theorem OkA.add {k : Nat} {A : List It} {x : It} (h : OkA k A) (hf : A.length < 65536) (hx : OkI k A.length x) : OkA k (A ++ [x]) :=
  ⟨h.k1, h.k2, by simp; omega, fun i y hy => by
    by_cases hi : i < A.length
    · rw [List.getElem?_append_left hi] at hy; exact h.it i y hy
    · have hl := (List.getElem?_eq_some_iff.1 hy).1
      obtain rfl : i = A.length := by simp at hl; omega
      simp at hy; rw [← hy]; exact hx⟩
theorem OkA.take {k : Nat} {A : List It} (h : OkA k A) (j : Nat) : OkA k (A.take j) :=
  ⟨h.k1, h.k2, by have := h.few; rw [List.length_take]; omega, fun i y hy => h.it i y (by rw [List.getElem?_take] at hy; split at hy; exact hy; cases hy)⟩
theorem flat_cons (x : ByteArray) (l : List ByteArray) : flat (x :: l) = x.data.toList ++ flat l := by simp [flat]
theorem recs_cons (p : Nat) (d : ByteArray) (ds : List ByteArray) : recs p (d :: ds) = tx (nod p d.data.toList) :: recs (p + 1) ds := by
  have e : (fun (i : Nat) (d : ByteArray) => tx (nod (p + (i + 1)) d.data.toList)) = fun i d => tx (nod (p + 1 + i) d.data.toList) := by
    funext i d
    rw [show p + (i + 1) = p + 1 + i by omega]
  simp [recs, List.mapIdx_cons, e]
theorem flat_recs_len (p : Nat) (ds : List ByteArray) (h : ∀ d ∈ ds, d.size ≤ 32) : (flat (recs p ds)).length = 40 * ds.length := by
  induction ds generalizing p with
  | nil => rfl
  | cons d ds ih =>
    rw [recs_cons, flat_cons, List.length_append, ih (p + 1) (fun x hx => h x (List.mem_cons_of_mem _ hx)), tx_data, nod_len _ _ (by rw [size_list]; exact h d (by simp)), List.length_cons]
    omega
structure LenA (k : Nat) (A : List It) : Prop where
  ends : (bA k A).ends.length = A.length
  lst : lst (bA k A).ends = (bA k A).a.length
  a : (bA k A).a.length ≤ 1048584 * A.length
  b : (bA k A).b.length = 40 * nn A.length
  m : (bA k A).m.length = 64 * A.length
theorem lst_snoc (l : List Nat) (x : Nat) : lst (l ++ [x]) = x := by simp [lst]
theorem OkA.lens {k : Nat} {A : List It} : OkA k A → LenA k A := by
  refine rev_ind (P := fun A => OkA k A → LenA k A) (fun _ => ⟨rfl, rfl, Nat.le_refl _, rfl, rfl⟩) (fun A x ih h => ?_) A
  have l := ih h.init
  have hx := h.last
  have hf := h.few
  simp only [List.length_append, List.length_cons, List.length_nil] at hf
  have hm := nn_mono A.length (by omega)
  have e : (bA k (A ++ [x])) = (bA k A).ad k x := bA_snoc k A x
  have ei : ((bA k A).mk' k x).items = (bA k A).a.length + (x.1.length + 8) := by
    show Go.Proofs.YthfnpagangjpbabGreat.lst (bA k A).ends + (pay x.1).length = _
    rw [l.lst, pay_len]
  refine ⟨?_, ?_, ?_, ?_, ?_⟩
  · rw [e]; simp [BV.ad, l.ends]
  · rw [e]
    show Go.Proofs.YthfnpagangjpbabGreat.lst ((bA k A).ends ++ [((bA k A).mk' k x).items]) = ((bA k A).a ++ pay x.1).length
    rw [lst_snoc, ei, List.length_append, pay_len]
  · rw [e]
    show ((bA k A).a ++ pay x.1).length ≤ _
    have := l.a
    have := hx.len
    rw [List.length_append, pay_len, List.length_append]
    simp only [List.length_cons, List.length_nil]
    omega
  · rw [e]
    show ((bA k A).b ++ flat (recs (nn (bA k A).ends.length) x.2)).length = _
    rw [List.length_append, flat_recs_len _ _ (fun d hd => by rw [hx.sz d hd]; exact h.k2), l.b, hx.cnt, List.length_append]
    simp only [List.length_cons, List.length_nil, Nat.zero_add]
    omega
  · rw [e]
    show ((bA k A).m ++ mrk ((bA k A).mk' k x)).length = _
    rw [List.length_append, mrk_len _ ⟨by show (1 : Int) ≤ (k : Int); have := h.k1; omega, by show (k : Int) ≤ 32; have := h.k2; omega⟩, l.m, List.length_append]
    simp only [List.length_cons, List.length_nil]
    omega
theorem bA_pre (k : Nat) (A B : List It) : (bA k A).a <+: (bA k (A ++ B)).a ∧ (bA k A).b <+: (bA k (A ++ B)).b ∧ (bA k A).m <+: (bA k (A ++ B)).m := by
  refine rev_ind (P := fun B => (bA k A).a <+: (bA k (A ++ B)).a ∧ (bA k A).b <+: (bA k (A ++ B)).b ∧ (bA k A).m <+: (bA k (A ++ B)).m) (by simp) (fun B x ih => ?_) B
  rw [← List.append_assoc, bA_snoc]
  exact ⟨ih.1.trans (List.prefix_append _ _), ih.2.1.trans (List.prefix_append _ _), ih.2.2.trans (List.prefix_append _ _)⟩
theorem bA_take (k : Nat) (A : List It) (j : Nat) : (bA k (A.take j)).a <+: (bA k A).a ∧ (bA k (A.take j)).b <+: (bA k A).b ∧ (bA k (A.take j)).m <+: (bA k A).m := by
  have := bA_pre k (A.take j) (A.drop j)
  rwa [List.take_append_drop] at this
theorem OkA.mvok {k : Nat} {A : List It} {x : It} (h : OkA k (A ++ [x])) : ((bA k A).mk' k x).Ok := by
  have l := h.init.lens
  have hx := h.last
  have hf := h.few
  simp only [List.length_append, List.length_cons, List.length_nil] at hf
  have hm := nn_mono A.length (by omega)
  refine ⟨by show (1 : Int) ≤ (k : Int); have := h.k1; omega, by show (k : Int) ≤ 32; have := h.k2; omega, ?_, ?_, ?_⟩
  · show (bA k A).ends.length + 1 < _; rw [l.ends]; omega
  · show lst (bA k A).ends + (pay x.1).length < _
    have := l.a
    have := hx.len
    rw [l.lst, pay_len]; omega
  · show nn ((bA k A).ends.length + 1) * 40 < _; rw [l.ends]; omega
theorem flat_row (p : Nat) (ds : List ByteArray) (t : List UInt8) (h : ∀ d ∈ ds, d.size ≤ 32) (j : Nat) (d : ByteArray) (hd : ds[j]? = some d) : ((flat (recs p ds) ++ t).drop (40 * j)).take 40 = nod (p + j) d.data.toList := by
  induction ds generalizing p j with
  | nil => simp at hd
  | cons e ds ih =>
    rw [recs_cons, flat_cons, tx_data, List.append_assoc]
    have hl : (nod p e.data.toList).length = 40 := nod_len _ _ (by rw [size_list]; exact h e (by simp))
    cases j with
    | zero =>
      simp only [List.getElem?_cons_zero, Option.some.injEq] at hd
      subst hd
      rw [Nat.mul_zero, List.drop_zero, List.take_append_of_le_length (by omega), List.take_of_length_le (by omega), Nat.add_zero]
    | succ j =>
      simp only [List.getElem?_cons_succ] at hd
      rw [show 40 * (j + 1) = (nod p e.data.toList).length + 40 * j by omega, ← List.drop_drop, List.drop_left, ih (p + 1) (fun x hx => h x (List.mem_cons_of_mem _ hx)) j hd, show p + 1 + j = p + (j + 1) by omega]
theorem rdN_good (k : Nat) (b : List UInt8) (p : Nat) (ds : List ByteArray) (hk : k ≤ 32) (h : ∀ d ∈ ds, d.size = k) (t : List UInt8) (hb : b.drop (40 * p) = flat (recs p ds) ++ t) (hpl : 40 * p ≤ b.length) : ∀ j, j ≤ ds.length → rdN k b p j = some ((recs p ds).take j)
  | 0, _ => rfl
  | j + 1, hj => by
    have h32 : ∀ d ∈ ds, d.size ≤ 32 := fun d hd => by rw [h d hd]; exact hk
    obtain ⟨d, hd⟩ : ∃ d, ds[j]? = some d := ⟨_, List.getElem?_eq_getElem (by omega)⟩
    have hrow : rowN b (p + j) = nod (p + j) d.data.toList := by
      rw [rowN, show 40 * (p + j) = 40 * p + 40 * j by omega, ← List.drop_drop, hb]
      exact flat_row p ds t h32 j d hd
    have hdm : d ∈ ds := List.mem_of_getElem? hd
    have hrn : rnod k (p + j) (nod (p + j) d.data.toList) = some d.data.toList := by
      have := rnod_nod (p + j) d.data.toList (by rw [size_list]; exact h32 d hdm)
      rwa [size_list, h d hdm] at this
    have hlen : 40 * (p + j) + 40 ≤ b.length := by
      have e := congrArg List.length hb
      rw [List.length_drop, List.length_append, flat_recs_len p ds h32] at e
      omega
    rw [rdN, rdN_good k b p ds hk h t hb hpl j (by omega)]
    simp only
    rw [if_pos ⟨hlen, by rw [hrow, hrn]; rfl⟩, hrow]
    have e2 : (recs p ds)[j]? = some (tx (nod (p + j) d.data.toList)) := by
      unfold recs
      rw [List.getElem?_mapIdx, hd]; rfl
    rw [List.take_add_one, e2]; rfl
theorem whl_pay (x : List UInt8) (h : x.length ≤ 1048576) : whl (pay x) = true := by
  have := rpay_pay x [] h
  rw [List.append_nil] at this
  unfold whl
  rw [this]
  simp [pay_len]
theorem tkN_good {k : Nat} {A : List It} {x : It} (h : OkA k (A ++ [x])) {I N : List UInt8} (hI : (bA k (A ++ [x])).a <+: I) (hN : (bA k (A ++ [x])).b <+: N) :
    tkN k I N ((bA k A).ends, (bA k A).chain) (mrk ((bA k A).mk' k x)) = some ((bA k (A ++ [x])).ends, (bA k (A ++ [x])).chain) := by
  have l := h.init.lens
  have l2 := h.lens
  have hx := h.last
  have hf := h.few
  simp only [List.length_append, List.length_cons, List.length_nil] at hf
  have hm := nn_mono A.length (by omega)
  obtain ⟨tI, hI⟩ := hI
  obtain ⟨tN, hN⟩ := hN
  rw [bA_snoc] at hI hN
  have ei : ((bA k A).mk' k x).items = (bA k A).a.length + (x.1.length + 8) := by
    show lst (bA k A).ends + (pay x.1).length = _
    rw [l.lst, pay_len]
  have hp : (I.drop (lst (bA k A).ends)).take (((bA k A).mk' k x).items - lst (bA k A).ends) = pay x.1 := by
    rw [ei, l.lst, ← hI]
    show List.take _ (List.drop _ (((bA k A).a ++ pay x.1) ++ tI)) = _
    exact cut_at _ _ _ _ _ rfl (by rw [pay_len]; omega)
  have hb : N.drop (40 * nn A.length) = flat (recs (nn A.length) x.2) ++ tN := by
    rw [← hN, ← l.b]
    show List.drop _ (((bA k A).b ++ flat (recs (nn (bA k A).ends.length) x.2)) ++ tN) = _
    rw [List.append_assoc, List.drop_left, l.ends]
  have hr := rdN_good k N (nn A.length) x.2 h.k2 hx.sz tN hb (by rw [← hN, ← l.b]; show _ ≤ (((bA k A).b ++ flat (recs (nn (bA k A).ends.length) x.2)) ++ tN).length; simp only [List.length_append]; omega) x.2.length (Nat.le_refl _)
  rw [List.take_of_length_le (by rw [recs_len]; exact Nat.le_refl _), hx.cnt] at hr
  have hil : I.length = (bA k A).a.length + (x.1.length + 8) + tI.length := by
    rw [← hI]
    show (((bA k A).a ++ pay x.1) ++ tI).length = _
    simp only [List.length_append, pay_len]
  unfold tkN
  rw [rmrk_mrk _ h.mvok]
  simp only
  rw [if_neg (by
    rw [hp, whl_pay _ hx.len, ei, l.lst, l.ends]
    simp
    omega), l.ends, hr]
  simp only
  rw [hp, if_pos (by unfold BV.mk'; rw [l.ends]), bA_snoc]
  rfl
theorem rowM_at {k : Nat} {A : List It} {x : It} {M : List UInt8} (h : OkA k (A ++ [x])) (hM : (bA k (A ++ [x])).m <+: M) : rowM M A.length = mrk ((bA k A).mk' k x) := by
  have l := h.init.lens
  obtain ⟨t, hM⟩ := hM
  rw [rowM, ← hM, bA_snoc]
  show List.take _ (List.drop _ (((bA k A).m ++ mrk ((bA k A).mk' k x)) ++ t)) = _
  exact cut_at _ _ _ _ _ l.m (mrk_len _ ⟨by show (1 : Int) ≤ (k : Int); have := h.k1; omega, by show (k : Int) ≤ 32; have := h.k2; omega⟩)
theorem take_next (A : List It) (j : Nat) (hj : j < A.length) : A.take (j + 1) = A.take j ++ [A[j]] := List.take_succ_eq_append_getElem hj
theorem tkA_good {k : Nat} {A : List It} (h : OkA k A) {I N M : List UInt8} (hI : (bA k A).a <+: I) (hN : (bA k A).b <+: N) (hM : (bA k A).m <+: M) : ∀ j, j ≤ A.length → tkA k I N M j = some ((bA k (A.take j)).ends, (bA k (A.take j)).chain)
  | 0, _ => rfl
  | j + 1, hj => by
    have e := take_next A j (by omega)
    have hp := bA_take k A (j + 1)
    have ht := h.take (j + 1)
    rw [e] at hp ht
    rw [tkA, tkA_good h hI hN hM j (by omega)]
    simp only
    have hl : (A.take j).length = j := by rw [List.length_take]; omega
    have hr := rowM_at ht (hp.2.2.trans hM)
    rw [hl] at hr
    rw [hr, tkN_good ht (hp.1.trans hI) (hp.2.1.trans hN), e]
theorem mrk_ne (m : MV) (h : 1 ≤ m.k ∧ m.k ≤ 32) : mrk m ≠ zer 64 := by
  unfold mrk
  rw [if_pos h]
  intro e
  have := congrArg (fun l => l.head?) e
  simp [sld, bodyM, zer] at this
theorem cntM_good {k : Nat} {A : List It} (h : OkA k A) {t : List UInt8} (ht : t.length < 64 ∨ t = zer 64) : cntM ((bA k A).m ++ t) = A.length := by
  have l := h.lens
  unfold cntM
  rcases ht with ht | rfl
  · have hd : ((bA k A).m ++ t).length / 64 = A.length := by rw [List.length_append, l.m]; omega
    rw [hd, if_neg]
    rintro ⟨h0, hz⟩
    obtain ⟨B, x, rfl⟩ : ∃ B x, A = B ++ [x] := by
      rcases List.eq_nil_or_concat A with rfl | ⟨B, x, rfl⟩
      · simp at h0
      · exact ⟨B, x, List.concat_eq_append⟩
    have hr := rowM_at h (List.prefix_append _ t)
    simp only [List.length_append, List.length_cons, List.length_nil, Nat.zero_add, Nat.add_sub_cancel] at hz
    rw [hr] at hz
    exact mrk_ne _ ⟨by show (1 : Int) ≤ (k : Int); have := h.k1; omega, by show (k : Int) ≤ 32; have := h.k2; omega⟩ hz
  · have hd : ((bA k A).m ++ zer 64).length / 64 = A.length + 1 := by rw [List.length_append, l.m, zer_len]; omega
    have hz : rowM ((bA k A).m ++ zer 64) (A.length + 1 - 1) = zer 64 := by
      unfold rowM
      rw [Nat.add_sub_cancel, ← l.m, List.drop_left, List.take_of_length_le (by rw [zer_len]; exact Nat.le_refl _)]
    rw [hd, if_pos ⟨by omega, hz⟩]
    omega
theorem tkAll_good {k : Nat} {A : List It} (h : OkA k A) {I N t : List UInt8} (hI : (bA k A).a <+: I) (hN : (bA k A).b <+: N) (ht : t.length < 64 ∨ t = zer 64) : tkAll k I N ((bA k A).m ++ t) = some ((bA k A).ends, (bA k A).chain) := by
  rw [tkAll, cntM_good h ht, tkA_good h hI hN (List.prefix_append _ _) A.length (Nat.le_refl _), List.take_of_length_le (Nat.le_refl _)]
end Go.Proofs.YthfnpagangjpbabGreat
namespace Go.Proofs.YthfnpagangjpbabGreat
open Rc
theorem ne_IN : nmI ≠ nmN := by decide
theorem ne_IM : nmI ≠ nmM := by decide
theorem ne_NM : nmN ≠ nmM := by decide
def Oth (L : List (List UInt8 × FV)) : Prop := ∀ s, s ≠ nmI → s ≠ nmN → s ≠ nmM → fget L s = fz
theorem canon {L : List (List UInt8 × FV)} (ho : Ord L) (h : Oth L) : L = fput (fput (fput [] nmI (fget L nmI)) nmN (fget L nmN)) nmM (fget L nmM) := by
  have o1 := ord_fput ord_nil nmI (fget L nmI)
  have o2 := ord_fput o1 nmN (fget L nmN)
  refine ord_ext ho (ord_fput o2 nmM (fget L nmM)) fun s => ?_
  rw [fget_fput o2, fget_fput o1, fget_fput ord_nil]
  by_cases h1 : s = nmM
  · rw [if_pos h1, h1]
  · rw [if_neg h1]
    by_cases h2 : s = nmN
    · rw [if_pos h2, h2]
    · rw [if_neg h2]
      by_cases h3 : s = nmI
      · rw [if_pos h3, h3]
      · rw [if_neg h3, h s h3 h2 h1]; rfl
theorem tot_three {L : List (List UInt8 × FV)} (ho : Ord L) (h : Oth L) : tot L = (fget L nmI).now.length + (fget L nmN).now.length + (fget L nmM).now.length ∧ L.length ≤ 3 := by
  have e := canon ho h
  have o1 := ord_fput ord_nil nmI (fget L nmI)
  have o2 := ord_fput o1 nmN (fget L nmN)
  have t1 := tot_put ord_nil nmI (fget L nmI)
  have t2 := tot_put o1 nmN (fget L nmN)
  have t3 := tot_put o2 nmM (fget L nmM)
  rw [fget_fput ord_nil, if_neg ne_IN.symm] at t2
  rw [fget_fput o1, if_neg ne_NM.symm, fget_fput ord_nil, if_neg ne_IM.symm] at t3
  have z : (fget ([] : List (List UInt8 × FV)) nmI).now.length = 0 := rfl
  have z2 : (fget ([] : List (List UInt8 × FV)) nmN).now.length = 0 := rfl
  have z3 : (fget ([] : List (List UInt8 × FV)) nmM).now.length = 0 := rfl
  have z4 : tot [] = 0 := rfl
  have l1 := len_put (L := []) nmI (fget L nmI)
  have l2 := len_put (L := fput [] nmI (fget L nmI)) nmN (fget L nmN)
  have l3 := len_put (L := fput (fput [] nmI (fget L nmI)) nmN (fget L nmN)) nmM (fget L nmM)
  rw [← e] at t3 l3
  simp only [List.length_nil] at l1
  exact ⟨by omega, by omega⟩
structure Qt (R : Nat) (D : DV) : Prop where
  down : D.down = false
  fk : D.fk = 0
  ord : Ord D.L
  tot : D.free + tot D.L = R
theorem Qt.put {R : Nat} {D : DV} (h : Qt R D) (s : List UInt8) (f : FV) (hf : f.now.length ≤ D.free + (fget D.L s).now.length) : actD D s f = (dput { D with acts := D.acts + 1 } s f, 0) ∧ Qt R (dput { D with acts := D.acts + 1 } s f) := by
  refine ⟨actD_plain h.fk s f, h.down, h.fk, ord_fput h.ord s f, ?_⟩
  have := tot_put h.ord s f
  have := h.tot
  show D.free + (fget D.L s).now.length - f.now.length + Go.Proofs.YthfnpagangjpbabGreat.tot (fput D.L s f) = R
  omega
structure Lft (R : Nat) (D D' : DV) (s : List UInt8) (f : FV) (n : Nat) : Prop where
  qt : Qt R D'
  at_ : fget D'.L s = f
  oth : ∀ t, t ≠ s → fget D'.L t = fget D.L t
  acts : D'.acts = D.acts + n
theorem Qt.act {R : Nat} {D : DV} (h : Qt R D) (s : List UInt8) (f : FV) (hf : f.now.length ≤ D.free + (fget D.L s).now.length) : ∃ D', actD D s f = (D', 0) ∧ Lft R D D' s f 1 := by
  obtain ⟨h1, h2⟩ := h.put s f hf
  refine ⟨_, h1, h2, ?_, fun t ht => ?_, rfl⟩
  · show fget (fput D.L s f) s = f
    rw [fget_fput h.ord, if_pos rfl]
  · show fget (fput D.L s f) t = _
    rw [fget_fput h.ord, if_neg ht]
theorem Qt.syn {R : Nat} {D : DV} (h : Qt R D) (s : List UInt8) : ∃ D', synD D s = (D', 0) ∧ Lft R D D' s ⟨(fget D.L s).now, (fget D.L s).now⟩ 1 := by
  unfold synD
  rw [if_neg (by rw [h.down]; exact Bool.false_ne_true)]
  exact h.act s _ (by show (fget D.L s).now.length ≤ _; omega)
theorem wr_end (l t : List UInt8) : wr l l.length t = l ++ t := by simp [wr]
theorem Qt.wr {R : Nat} {D : DV} (h : Qt R D) (s t : List UInt8) (n : Nat) (hn : (fget D.L s).now.length = n) (h1 : n + t.length ≤ 268435456) (h2 : t.length ≤ D.free) : ∃ D', wrD D s (n : Int) t = (D', 0) ∧ Lft R D D' s ⟨(fget D.L s).now ++ t, (fget D.L s).syn⟩ 1 := by
  unfold wrD
  rw [if_neg (by rw [h.down]; exact Bool.false_ne_true), if_neg (by omega), if_neg (by omega)]
  have := h.act s ⟨(fget D.L s).now ++ t, (fget D.L s).syn⟩ (by show ((fget D.L s).now ++ t).length ≤ _; rw [List.length_append]; omega)
  rwa [Int.toNat_natCast, ← hn, wr_end]
theorem Qt.cutI {R : Nat} {D : DV} (h : Qt R D) (s P : List UInt8) (hP : P <+: (fget D.L s).now) (n : Nat) (hn : P.length = n) : ∃ D' j, cutI s n D = (D', 0) ∧ Lft R D D' s ⟨P, (fget D.L s).syn⟩ j ∧ j ≤ 1 ∧ ((fget D.L s).now = P → D' = D) := by
  unfold Go.Proofs.YthfnpagangjpbabGreat.cutI
  have hs : sizD D s = (fget D.L s).now.length := by unfold sizD; rw [h.down]; rfl
  have hl := hP.length_le
  rw [hs]
  by_cases he : (fget D.L s).now.length ≤ n
  · rw [if_pos he]
    have e : (fget D.L s).now = P := (List.IsPrefix.eq_of_length hP (by omega)).symm
    exact ⟨D, 0, rfl, ⟨h, by rw [← e], fun _ _ => rfl, rfl⟩, by omega, fun _ => rfl⟩
  · rw [if_neg he]
    unfold cutD
    rw [if_neg (by rw [h.down]; exact Bool.false_ne_true), if_neg (by omega)]
    have ht : (fget D.L s).now.take n = P := by rw [← hn]; exact (List.prefix_iff_eq_take.1 hP).symm
    obtain ⟨D', h1, h2⟩ := h.act s ⟨(fget D.L s).now.take n, (fget D.L s).syn⟩ (by show (List.take n _).length ≤ _; rw [List.length_take]; omega)
    rw [Int.toNat_natCast, h1]
    rw [ht] at h2
    exact ⟨D', 1, rfl, h2, Nat.le_refl _, fun e => absurd (by rw [e, hn]; exact Nat.le_refl _) he⟩
structure Ext (k : Nat) (A : List It) (L : List (List UInt8 × FV)) : Prop where
  i : fget L nmI = ⟨(bA k A).a, (bA k A).a⟩
  n : fget L nmN = ⟨(bA k A).b, (bA k A).b⟩
  m : fget L nmM = ⟨(bA k A).m, (bA k A).m⟩
  oth : Oth L
theorem Ext.one {k : Nat} {A : List It} {L M : List (List UInt8 × FV)} (hL : Ord L) (hM : Ord M) (h : Ext k A L) (g : Ext k A M) : L = M := by
  rw [canon hL h.oth, canon hM g.oth, h.i, h.n, h.m, g.i, g.n, g.m]
theorem add_ok {k R : Nat} {A : List It} {x : It} {D : DV} (h : OkA k (A ++ [x])) (hq : Qt R D) (he : Ext k A D.L) (hR : (bA k (A ++ [x])).a.length + (bA k (A ++ [x])).b.length + (bA k (A ++ [x])).m.length ≤ R) (hz : R ≤ 268435456) :
    ∃ D', addD D (sA k A) x.1 x.2 = (D', sA k (A ++ [x]), 0) ∧ Qt R D' ∧ Ext k (A ++ [x]) D'.L ∧ D'.acts = D.acts + 6 := by
  have l := h.init.lens
  have l2 := h.lens
  have hx := h.last
  have hf := h.few
  simp only [List.length_append, List.length_cons, List.length_nil, Nat.zero_add] at hf
  have ea : (bA k (A ++ [x])).a = (bA k A).a ++ pay x.1 := by rw [bA_snoc]; rfl
  have eb : (bA k (A ++ [x])).b = (bA k A).b ++ flat (recs (nn A.length) x.2) := by rw [bA_snoc, ← l.ends]; rfl
  have em : (bA k (A ++ [x])).m = (bA k A).m ++ mrk ((bA k A).mk' k x) := by rw [bA_snoc]; rfl
  have et := (tot_three hq.ord he.oth).1
  rw [he.i, he.n, he.m] at et
  have et2 := hq.tot
  have eal : (bA k (A ++ [x])).a.length = (bA k A).a.length + (pay x.1).length := by rw [ea, List.length_append]
  have ebl : (bA k (A ++ [x])).b.length = (bA k A).b.length + (flat (recs (nn A.length) x.2)).length := by rw [eb, List.length_append]
  have eml : (bA k (A ++ [x])).m.length = (bA k A).m.length + (mrk ((bA k A).mk' k x)).length := by rw [em, List.length_append]
  simp only at et
  -- the six acts
  obtain ⟨D1, a1, l1⟩ := hq.wr nmI (pay x.1) (bA k A).a.length (by rw [he.i]) (by omega) (by omega)
  rw [he.i] at l1
  have t1 := (tot_three l1.qt.ord (fun s h1 h2 h3 => by rw [l1.oth s h1]; exact he.oth s h1 h2 h3)).1
  rw [l1.at_, l1.oth _ ne_IN.symm, l1.oth _ ne_IM.symm, he.n, he.m] at t1
  have q1 := l1.qt.tot
  simp only [List.length_append] at t1
  obtain ⟨D2, a2, l2'⟩ := l1.qt.wr nmN (flat (recs (nn A.length) x.2)) (bA k A).b.length (by rw [l1.oth _ ne_IN.symm, he.n]) (by omega) (by omega)
  rw [l1.oth _ ne_IN.symm, he.n] at l2'
  obtain ⟨D3, a3, l3⟩ := l2'.qt.syn nmI
  rw [l2'.oth _ ne_IN, l1.at_] at l3
  obtain ⟨D4, a4, l4⟩ := l3.qt.syn nmN
  rw [l3.oth _ ne_IN.symm, l2'.at_] at l4
  have m4 : fget D4.L nmM = ⟨(bA k A).m, (bA k A).m⟩ := by rw [l4.oth _ ne_NM.symm, l3.oth _ ne_IM.symm, l2'.oth _ ne_NM.symm, l1.oth _ ne_IM.symm, he.m]
  have i4 : fget D4.L nmI = ⟨(bA k A).a ++ pay x.1, (bA k A).a ++ pay x.1⟩ := by rw [l4.oth _ ne_IN, l3.at_]
  have o4 : Oth D4.L := fun s h1 h2 h3 => by rw [l4.oth s h2, l3.oth s h1, l2'.oth s h2, l1.oth s h1]; exact he.oth s h1 h2 h3
  have t4 := (tot_three l4.qt.ord o4).1
  rw [i4, l4.at_, m4] at t4
  have q4 := l4.qt.tot
  simp only [List.length_append] at t4
  obtain ⟨D5, a5, l5⟩ := l4.qt.wr nmM (mrk ((bA k A).mk' k x)) (bA k A).m.length (by rw [m4]) (by omega) (by omega)
  rw [m4] at l5
  obtain ⟨D6, a6, l6⟩ := l5.qt.syn nmM
  rw [l5.at_] at l6
  have hA : runA (addA (sA k A) x.1 x.2) D = (D6, 0) := by
    show runA (six (sA k A) (pay x.1) (flat (recs (nn (bA k A).ends.length) x.2)) (mrk ((bA k A).mk' k x))) D = _
    unfold six
    have e1 : ((lst (sA k A).ends : Nat) : Int) = ((bA k A).a.length : Int) := by show ((lst (bA k A).ends : Nat) : Int) = _; rw [l.lst]
    have e2 : ((nn (sA k A).ends.length * 40 : Nat) : Int) = ((bA k A).b.length : Int) := by show ((nn (bA k A).ends.length * 40 : Nat) : Int) = _; rw [l.ends, l.b, Nat.mul_comm]
    have e3 : (((sA k A).ends.length * 64 : Nat) : Int) = ((bA k A).m.length : Int) := by show (((bA k A).ends.length * 64 : Nat) : Int) = _; rw [l.ends, l.m, Nat.mul_comm]
    rw [e1, e2, e3, l.ends]
    simp only [runA, a1, a2, a3, a4, a5, a6, if_true]
  have hr : refD (sA k A) x.1 x.2 = 0 := by
    have hnx : nxt (sA k A) x.2 = true := (nxt_iff _ _).2 ⟨by show _ = nn ((bA k A).ends.length + 1) - nn (bA k A).ends.length; rw [l.ends]; exact hx.cnt, hx.sz⟩
    unfold refD
    rw [if_neg (show ¬ (sA k A).lame = true from Bool.false_ne_true), if_neg (by have := hx.len; omega), if_neg (by show ¬ 65536 ≤ (bA k A).ends.length; rw [l.ends]; omega), if_neg (by rw [hnx]; simp), if_neg (by show ¬ _ < lst (bA k A).ends + _; have := pay_len x.1; rw [l.lst]; omega)]
  refine ⟨D6, ?_, l6.qt, ⟨?_, ?_, ?_, ?_⟩, ?_⟩
  · unfold addD
    rw [hr, if_neg (show ¬ ((0 : Int) ≠ 0) from fun h => h rfl), hA, if_pos rfl]
    show (D6, (⟨k, (bA k A).ends ++ [((bA k A).mk' k x).items], ((bA k A).mk' k x).chain, false⟩ : SV), (0 : Int)) = _
    unfold sA
    rw [bA_snoc]; rfl
  · rw [l6.oth _ ne_IM, l5.oth _ ne_IM, i4, ea]
  · rw [l6.oth _ ne_NM, l5.oth _ ne_NM, l4.at_, eb]
  · rw [l6.at_, em]
  · intro s h1 h2 h3
    rw [l6.oth s h3, l5.oth s h3]; exact o4 s h1 h2 h3
  · rw [l6.acts, l5.acts, l4.acts, l3.acts, l2'.acts, l1.acts]
end Go.Proofs.YthfnpagangjpbabGreat
namespace Go.Proofs.YthfnpagangjpbabGreat
open Rc
structure Beh (k : Nat) (A : List It) (L : List (List UInt8 × FV)) : Prop where
  i : (bA k A).a <+: (fget L nmI).now
  n : (bA k A).b <+: (fget L nmN).now
  m : ∃ t, (fget L nmM).now = (bA k A).m ++ t ∧ (t.length < 64 ∨ t = zer 64)
  oth : Oth L
theorem Ext.beh {k : Nat} {A : List It} {L : List (List UInt8 × FV)} (h : Ext k A L) : Beh k A L := ⟨by rw [h.i]; exact List.prefix_rfl, by rw [h.n]; exact List.prefix_rfl, ⟨[], by rw [h.m, List.append_nil], .inl (by decide)⟩, h.oth⟩
theorem Beh.read {k : Nat} {A : List It} {D : DV} (h : OkA k A) (hb : Beh k A D.L) : tkAll k (now D nmI) (now D nmN) (now D nmM) = some ((bA k A).ends, (bA k A).chain) := by
  obtain ⟨t, e, ht⟩ := hb.m
  have e2 : now D nmM = (bA k A).m ++ t := e
  rw [e2]
  exact tkAll_good h hb.i hb.n ht
theorem open_ok {k R : Nat} {A : List It} {D : DV} (h : OkA k A) (hq : Qt R D) (hb : Beh k A D.L) :
    ∃ D' j, opnD D (k : Int) = (D', some (sA k A), 0) ∧ Qt R D' ∧ Ext k A D'.L ∧ D'.acts = D.acts + 3 + j ∧ j ≤ 3 ∧ (Ext k A D.L → D'.L = D.L ∧ j = 0) := by
  have l := h.lens
  have hr := hb.read h
  have k1 := h.k1
  have k2 := h.k2
  obtain ⟨D1, j1, a1, l1, n1, s1⟩ := hq.cutI nmI _ hb.i (lst (bA k A).ends) l.lst.symm
  obtain ⟨D2, j2, a2, l2, n2, s2⟩ := l1.qt.cutI nmN (bA k A).b (by rw [l1.oth _ ne_IN.symm]; exact hb.n) (nn (bA k A).ends.length * 40) (by rw [l.b, l.ends, Nat.mul_comm])
  obtain ⟨D3, j3, a3, l3, n3, s3⟩ := l2.qt.cutI nmM (bA k A).m (by obtain ⟨t, e, _⟩ := hb.m; rw [l2.oth _ ne_NM.symm, l1.oth _ ne_IM.symm, e]; exact List.prefix_append _ _) ((bA k A).ends.length * 64) (by rw [l.m, l.ends, Nat.mul_comm])
  obtain ⟨D4, a4, l4⟩ := l3.qt.syn nmI
  obtain ⟨D5, a5, l5⟩ := l4.qt.syn nmN
  obtain ⟨D6, a6, l6⟩ := l5.qt.syn nmM
  have hA : runA (stl (bA k A).ends) D = (D6, 0) := by
    unfold stl
    simp only [runA, a1, a2, a3, a4, a5, a6, if_true]
  have hE : Ext k A D6.L := by
    refine ⟨?_, ?_, ?_, fun s h1 h2 h3 => ?_⟩
    · rw [l6.oth _ ne_IM, l5.oth _ ne_IN, l4.at_, l3.oth _ ne_IM, l2.oth _ ne_IN, l1.at_]
    · rw [l6.oth _ ne_NM, l5.at_, l4.oth _ ne_IN.symm, l3.oth _ ne_NM, l2.at_]
    · rw [l6.at_, l5.oth _ ne_NM.symm, l4.oth _ ne_IM.symm, l3.at_]
    · rw [l6.oth s h3, l5.oth s h2, l4.oth s h1, l3.oth s h3, l2.oth s h2, l1.oth s h1]; exact hb.oth s h1 h2 h3
  refine ⟨D6, j1 + j2 + j3, ?_, l6.qt, hE, ?_, by omega, fun he => ?_⟩
  · unfold opnD
    rw [if_neg (fun q => q ⟨by omega, by omega⟩), if_neg (by rw [hq.down]; exact Bool.false_ne_true), Int.toNat_natCast, hr]
    simp only
    rw [hA, if_pos rfl]; rfl
  · rw [l6.acts, l5.acts, l4.acts, l3.acts, l2.acts, l1.acts]; omega
  · refine ⟨Ext.one l6.qt.ord hq.ord hE he, ?_⟩
    have e1 := s1 (by rw [he.i])
    subst e1
    have e2 := s2 (by rw [he.n])
    subst e2
    have e3 := s3 (by rw [he.m])
    subst e3
    have b1 := l1.acts
    have b2 := l2.acts
    have b3 := l3.acts
    omega
theorem ends_at {k : Nat} {A : List It} (h : OkA k A) (i : Nat) (x : It) (hx : A[i]? = some x) : (bA k A).ends.getD i 0 = (bA k (A.take i)).a.length + (x.1.length + 8) ∧ endE (bA k A).ends i = (bA k (A.take i)).a.length ∧ pay x.1 <+: (bA k A).a.drop (bA k (A.take i)).a.length := by
  revert h hx
  refine rev_ind (P := fun A => OkA k A → A[i]? = some x → (bA k A).ends.getD i 0 = (bA k (A.take i)).a.length + (x.1.length + 8) ∧ endE (bA k A).ends i = (bA k (A.take i)).a.length ∧ pay x.1 <+: (bA k A).a.drop (bA k (A.take i)).a.length) (fun _ h => by simp at h) (fun A y ih h hx => ?_) A
  have l := h.init.lens
  by_cases hi : i < A.length
  · rw [List.getElem?_append_left hi] at hx
    obtain ⟨h1, h2, h3⟩ := ih h.init hx
    have et : (A ++ [y]).take i = A.take i := by rw [List.take_append_of_le_length (by omega)]
    rw [et, bA_snoc]
    show ((bA k A).ends ++ [((bA k A).mk' k y).items]).getD i 0 = _ ∧ endE ((bA k A).ends ++ [((bA k A).mk' k y).items]) i = _ ∧ pay x.1 <+: ((bA k A).a ++ pay y.1).drop _
    refine ⟨?_, ?_, ?_⟩
    · rw [← h1, List.getD_eq_getElem?_getD, List.getD_eq_getElem?_getD, List.getElem?_append_left (by rw [l.ends]; exact hi)]
    · rw [← h2]
      unfold endE
      split
      · rfl
      · rw [List.getD_eq_getElem?_getD, List.getD_eq_getElem?_getD, List.getElem?_append_left (by rw [l.ends]; omega)]
    · obtain ⟨t, ht⟩ := h3
      refine ⟨t ++ pay y.1, ?_⟩
      rw [List.drop_append_of_le_length ((bA_take k A i).1.length_le), ← ht, List.append_assoc]
  · have hl := (List.getElem?_eq_some_iff.1 hx).1
    obtain rfl : i = A.length := by simp at hl; omega
    simp only [List.getElem?_concat_length, Option.some.injEq] at hx
    subst hx
    have et : (A ++ [y]).take A.length = A := List.take_left
    rw [et, bA_snoc]
    show ((bA k A).ends ++ [((bA k A).mk' k y).items]).getD A.length 0 = _ ∧ endE ((bA k A).ends ++ [((bA k A).mk' k y).items]) A.length = _ ∧ pay y.1 <+: ((bA k A).a ++ pay y.1).drop _
    refine ⟨?_, ?_, ?_⟩
    · rw [List.getD_eq_getElem?_getD, ← l.ends, List.getElem?_concat_length]
      show lst (bA k A).ends + (pay y.1).length = _
      rw [l.lst, pay_len]
    · rw [← l.lst, ← endE_all, l.ends]
      unfold endE
      split
      · rfl
      · rw [List.getD_eq_getElem?_getD, List.getD_eq_getElem?_getD, List.getElem?_append_left (by rw [l.ends]; omega)]
    · rw [List.drop_left]; exact List.prefix_rfl
theorem item_ok {k : Nat} {A : List It} {D : DV} {S : SV} (h : OkA k A) (hS : S.ends = (bA k A).ends) (hd : D.down = false) (hb : (bA k A).a <+: (fget D.L nmI).now) (i : Nat) (x : It) (hx : A[i]? = some x) : itmD D S i = (x.1, 0) := by
  obtain ⟨e1, e2, e3⟩ := ends_at h i x hx
  have l := h.lens
  have hi := (List.getElem?_eq_some_iff.1 hx).1
  have hlen := (h.it i x hx).len
  have ht := (bA_take k A i).1.length_le
  obtain ⟨t3, e3⟩ := e3
  obtain ⟨tb, hb⟩ := hb
  have hlb : (now D nmI).length = (bA k A).a.length + tb.length := by show (fget D.L nmI).now.length = _; rw [← hb, List.length_append]
  have hla : (bA k A).a.length = (bA k (A.take i)).a.length + ((x.1.length + 8) + t3.length) := by
    have := congrArg List.length e3
    rw [List.length_append, pay_len, List.length_drop] at this
    omega
  have hR : itmR D S i = (pay x.1, 0) := by
    unfold itmR
    rw [hS, e1, e2]
    rw [show (((bA k (A.take i)).a.length + (x.1.length + 8) : Nat) : Int) - ((bA k (A.take i)).a.length : Int) = ((x.1.length + 8 : Nat) : Int) by omega, rdS_row hd, if_pos (by rw [hlb]; omega)]
    congr 1
    show ((fget D.L nmI).now.drop _).take _ = _
    rw [← hb, List.drop_append_of_le_length (by omega), ← e3, List.append_assoc]
    rw [List.take_append_of_le_length (by rw [pay_len]; exact Nat.le_refl _), List.take_of_length_le (by rw [pay_len]; exact Nat.le_refl _)]
  unfold itmD
  rw [hR, if_neg (by rw [hS, l.ends]; omega), if_neg (fun h => h rfl), if_pos (whl_pay _ hlen)]
  have := rpay_pay x.1 [] hlen
  rw [List.append_nil] at this
  rw [this]; rfl
theorem item_no {D : DV} {S : SV} (i : Nat) (h : S.ends.length ≤ i) : itmD D S i = ([], 31) := by unfold itmD; rw [if_pos h]
theorem nn_le_of {m n : Nat} (h : m ≤ n) (hn : n ≤ 65536) : nn m ≤ nn n := by
  induction n with
  | zero => obtain rfl : m = 0 := by omega
            exact Nat.le_refl _
  | succ n ih =>
    by_cases e : m = n + 1
    · rw [e]; exact Nat.le_refl _
    · exact Nat.le_trans (ih (by omega) (by omega)) (nn_mono n (by omega)).1
theorem rows_at {k : Nat} {A : List It} (h : OkA k A) (i j : Nat) (x : It) (d : ByteArray) (hx : A[i]? = some x) (hd : x.2[j]? = some d) : ((bA k A).b.drop (40 * (nn i + j))).take 40 = nod (nn i + j) d.data.toList ∧ nn i + j < nn A.length := by
  have hi := (List.getElem?_eq_some_iff.1 hx).1
  have hj := (List.getElem?_eq_some_iff.1 hd).1
  have hxo := h.it i x hx
  have hf := h.few
  have e := take_next A i hi
  have ht := h.take (i + 1)
  have hxe : A[i] = x := Option.some.inj ((List.getElem?_eq_getElem hi).symm.trans hx)
  rw [hxe] at e
  rw [e] at ht
  have l := ht.init.lens
  have hl : (A.take i).length = i := by rw [List.length_take]; omega
  obtain ⟨t, hp⟩ := (bA_take k A (i + 1)).2.1
  rw [e, bA_snoc] at hp
  have hm := nn_mono i (by omega)
  have hm2 := nn_le_of (show i + 1 ≤ A.length by omega) hf
  have hc := hxo.cnt
  refine ⟨?_, by omega⟩
  rw [← hp]
  show ((((bA k (A.take i)).b ++ flat (recs (nn (bA k (A.take i)).ends.length) x.2)) ++ t).drop _).take 40 = _
  rw [List.append_assoc, show 40 * (nn i + j) = (bA k (A.take i)).b.length + 40 * j by rw [l.b, hl]; omega, ← List.drop_drop, List.drop_left, l.ends, hl]
  exact flat_row (nn i) x.2 t (fun y hy => by rw [hxo.sz y hy]; exact h.k2) j d hd
theorem node_ok {k : Nat} {A : List It} {D : DV} {S : SV} (h : OkA k A) (hS : S.ends = (bA k A).ends) (hk : S.k = k) (hd : D.down = false) (hb : (bA k A).b <+: (fget D.L nmN).now) (i j : Nat) (x : It) (d : ByteArray) (hx : A[i]? = some x) (hj : x.2[j]? = some d) : nodD D S (nn i + j) = (d.data.toList, 0) := by
  obtain ⟨e1, e2⟩ := rows_at h i j x d hx hj
  have l := h.lens
  obtain ⟨t, hb⟩ := hb
  have hlb : (now D nmN).length = 40 * nn A.length + t.length := by show (fget D.L nmN).now.length = _; rw [← hb, List.length_append, l.b]
  have hdz : d.size = k := (h.it i x hx).sz d (List.mem_of_getElem? hj)
  have hR : nodR D (nn i + j) = (nod (nn i + j) d.data.toList, 0) := by
    unfold nodR
    rw [show (40 : Int) = ((40 : Nat) : Int) from rfl, rdS_row hd, if_pos (by rw [hlb]; omega)]
    congr 1
    show ((fget D.L nmN).now.drop _).take _ = _
    rw [← hb, Nat.mul_comm, ← e1, List.drop_append_of_le_length (by rw [l.b]; omega), List.take_append_of_le_length (by rw [List.length_drop, l.b]; omega)]
  unfold nodD
  rw [hR, if_neg (by rw [hS, l.ends]; omega), if_neg (fun h => h rfl), hk]
  have := rnod_nod (nn i + j) d.data.toList (by rw [size_list, hdz]; exact h.k2)
  rw [size_list, hdz] at this
  rw [this]
end Go.Proofs.YthfnpagangjpbabGreat
