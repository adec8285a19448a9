/-
  What stays of a file, whatever is chosen. Own work.
-/
import Derived.Test.YthfnpagangjpbaaGreatYFTuQ
namespace Go.Proofs.YthfnpagangjpbaaGreat
open Rc
/-- How many sectors below s are unlike. -/
def unS (f : FV) : Nat → Nat
  | 0 => 0
  | s + 1 => unS f s + (if sec f.now s = sec f.syn s then 0 else 1)
theorem sgo_cntS (keep : List Bool) (f : FV) (i s : Nat) : (sgo keep f i s).2 = i + unS f s := by
  induction s with
  | zero => rfl
  | succ s ih =>
    simp only [sgo, unS]
    split
    · simp only [ih]; omega
    · simp only [ih]; omega
/-- Is sector s taken as it is? -/
def tkS (keep : List Bool) (f : FV) (i s : Nat) : Bool := !decide (sec f.now s = sec f.syn s) && ch keep (i + unS f s)
theorem sec_atS (l : List UInt8) (s r : Nat) (hr : r < 64) : (sec l s).getD r 0 = l.getD (64 * s + r) 0 := by
  simp [sec, List.getD_eq_getElem?_getD, hr]
theorem sgo_atS (keep : List Bool) (f : FV) (i : Nat) : ∀ (n s r : Nat), s < n → r < 64 → (sgo keep f i n).1.getD (64 * s + r) 0 = (if tkS keep f i s then f.now else f.syn).getD (64 * s + r) 0
  | 0, s, r, h, _ => by omega
  | n + 1, s, r, h, hr => by
    have hl := sgo_len keep f i n
    have hc := sgo_cntS keep f i n
    have happ : ∀ X : List UInt8, ((sgo keep f i n).1 ++ X).getD (64 * s + r) 0 = if s < n then (sgo keep f i n).1.getD (64 * s + r) 0 else X.getD (64 * s + r - 64 * n) 0 := fun X => by
      simp only [List.getD_eq_getElem?_getD]
      split
      · rw [List.getElem?_append_left (by omega)]
      · rw [List.getElem?_append_right (by omega), hl]
    have ih := sgo_atS keep f i n s r
    simp only [sgo]
    by_cases e : s < n
    · have := ih e hr
      split
      · rw [happ, if_pos e, this]
      · rw [happ, if_pos e, this]
    · obtain rfl : s = n := by omega
      have hz : 64 * s + r - 64 * s = r := by omega
      split
      · rename_i he
        rw [happ, if_neg e, hz, sec_atS _ _ _ hr]
        simp [tkS, he]
      · rename_i he
        simp only
        rw [happ, if_neg e, hz, hc]
        cases hch : ch keep (i + unS f s)
        · simp only [tkS, hch, Bool.and_false, if_false, Bool.false_eq_true]
          exact sec_atS _ _ _ hr
        · simp only [tkS, hch, he, decide_false, Bool.not_false, Bool.and_true, if_true]
          exact sec_atS _ _ _ hr
theorem slen_leS (keep : List Bool) (f : FV) (i : Nat) : (slen keep f i).1 = f.now.length ∨ (slen keep f i).1 = f.syn.length := by
  unfold slen
  split
  · exact .inr rfl
  · split
    · exact .inl rfl
    · exact .inr rfl
theorem stay_atS (keep : List Bool) (f : FV) (i j : Nat) (hj : j < (slen keep f i).1) : (stay keep f i).1.getD j 0 = (if tkS keep f (slen keep f i).2 (j / 64) then f.now else f.syn).getD j 0 := by
  have h1 := slen_leS keep f i
  have h2 : j / 64 < nsec f := by unfold nsec; omega
  have h3 := sgo_atS keep f (slen keep f i).2 (nsec f) (j / 64) (j % 64) h2 (Nat.mod_lt _ (by omega))
  rw [show 64 * (j / 64) + j % 64 = j from Nat.div_add_mod j 64] at h3
  rw [← h3]
  simp only [stay, List.getD_eq_getElem?_getD, List.getElem?_take, hj, if_true]
theorem list_extS {a b : List UInt8} (hl : a.length = b.length) (h : ∀ j, j < a.length → a.getD j 0 = b.getD j 0) : a = b := by
  apply List.ext_getElem hl
  intro j h1 h2
  have := h j h1
  simpa [List.getD_eq_getElem?_getD, List.getElem?_eq_getElem h1, List.getElem?_eq_getElem h2] using this
theorem getD_take (l : List UInt8) (n j : Nat) (h : j < n) : (l.take n).getD j 0 = l.getD j 0 := by
  simp [List.getD_eq_getElem?_getD, h]
theorem pre_iff {p l : List UInt8} (hl : p.length ≤ l.length) (h : ∀ j, j < p.length → l.getD j 0 = p.getD j 0) : p <+: l := by
  rw [List.prefix_iff_eq_take]
  refine list_extS (by rw [List.length_take]; omega) fun j hj => ?_
  rw [getD_take _ _ _ hj, h j hj]
theorem pre_at {p l : List UInt8} (h : p <+: l) (j : Nat) (hj : j < p.length) : l.getD j 0 = p.getD j 0 := by
  rw [List.prefix_iff_eq_take.1 h, List.length_take] at *
  rw [getD_take _ _ _ (by omega)]
/-- How long what stays is. -/
theorem stay_lenS (keep : List Bool) (f : FV) (i : Nat) : (stay keep f i).1.length = f.now.length ∨ (stay keep f i).1.length = f.syn.length := by
  rw [stay_len]; exact slen_leS keep f i
/-- What both begin with stays. -/
theorem stay_pre (keep : List Bool) (f : FV) (i : Nat) {p : List UInt8} (h1 : p <+: f.now) (h2 : p <+: f.syn) : p <+: (stay keep f i).1 := by
  have hl := stay_len keep f i
  have hs := slen_leS keep f i
  have l1 := h1.length_le
  have l2 := h2.length_le
  refine pre_iff (by omega) fun j hj => ?_
  rw [stay_atS keep f i j (by omega)]
  split
  · exact pre_at h1 j hj
  · exact pre_at h2 j hj
/-- A last sector that is loose: none of it, or the one or the other. -/
theorem stay_mark (keep : List Bool) (m t u : List UInt8) (n i : Nat) (hm : m.length = 64 * n) (ht : t = [] ∨ t.length = 64) (hu : u = [] ∨ u.length = 64) : (stay keep ⟨m ++ t, m ++ u⟩ i).1 = m ∨ (stay keep ⟨m ++ t, m ++ u⟩ i).1 = m ++ sec (m ++ t) n ∨ (stay keep ⟨m ++ t, m ++ u⟩ i).1 = m ++ sec (m ++ u) n := by
  obtain ⟨y, hy⟩ := stay_pre keep ⟨m ++ t, m ++ u⟩ i (p := m) (List.prefix_append _ _) (List.prefix_append _ _)
  have hl := stay_len keep ⟨m ++ t, m ++ u⟩ i
  have hs := slen_leS keep ⟨m ++ t, m ++ u⟩ i
  simp only [List.length_append] at hs
  have ht' : t.length = 0 ∨ t.length = 64 := ht.imp (fun e => by rw [e]; rfl) id
  have hu' : u.length = 0 ∨ u.length = 64 := hu.imp (fun e => by rw [e]; rfl) id
  have hyl : y.length = 0 ∨ y.length = 64 := by
    rw [← hy, List.length_append] at hl
    omega
  rcases hyl with h0 | h64
  · left
    rw [← hy, List.length_eq_zero_iff.1 h0, List.append_nil]
  · right
    have hat : ∀ r, r < 64 → y.getD r 0 = (if tkS keep ⟨m ++ t, m ++ u⟩ (slen keep ⟨m ++ t, m ++ u⟩ i).2 n then m ++ t else m ++ u).getD (64 * n + r) 0 := fun r hr => by
      have h3 := stay_atS keep ⟨m ++ t, m ++ u⟩ i (64 * n + r) (by rw [← hl, ← hy, List.length_append]; omega)
      rw [show (64 * n + r) / 64 = n by omega] at h3
      rw [← h3, ← hy, List.getD_eq_getElem?_getD, List.getD_eq_getElem?_getD, List.getElem?_append_right (by omega), show 64 * n + r - m.length = r by omega]
    cases hc : tkS keep ⟨m ++ t, m ++ u⟩ (slen keep ⟨m ++ t, m ++ u⟩ i).2 n
    · right
      rw [← hy]
      congr 1
      refine list_extS (by rw [h64, sec_len]) fun r hr => ?_
      rw [hat r (by omega), hc, sec_atS _ _ _ (by omega)]; rfl
    · left
      rw [← hy]
      congr 1
      refine list_extS (by rw [h64, sec_len]) fun r hr => ?_
      rw [hat r (by omega), hc, sec_atS _ _ _ (by omega)]; rfl
theorem sec_end (m t : List UInt8) (n : Nat) (hm : m.length = 64 * n) (ht : t.length = 64) : sec (m ++ t) n = t := by
  refine list_extS (by rw [sec_len, ht]) fun r hr => ?_
  rw [sec_len] at hr
  rw [sec_atS _ _ _ hr, List.getD_eq_getElem?_getD, List.getD_eq_getElem?_getD, List.getElem?_append_right (by omega), show 64 * n + r - m.length = r by omega]
theorem sec_out (m : List UInt8) (n : Nat) (hm : m.length = 64 * n) : sec m n = zer 64 := by
  refine list_extS (by rw [sec_len, zer_len]) fun r hr => ?_
  rw [sec_len] at hr
  rw [sec_atS _ _ _ hr, List.getD_eq_getElem?_getD, List.getElem?_eq_none (by omega), List.getD_eq_getElem?_getD]
  unfold zer
  rw [List.getElem?_replicate, if_pos hr]; rfl
/-- What a fall leaves, by names. -/
theorem aft_none (ks : List Bool) (s : List UInt8) : ∀ (L : List (List UInt8 × FV)) (i : Nat), (∀ p ∈ L, s < p.1) → fget (allS (aft ks L i)) s = fz
  | [], _, _ => rfl
  | (t, f) :: r, i, h => by
    have ih := aft_none ks s r (stay ks f i).2 (fun p hp => h p (List.mem_cons_of_mem _ hp))
    simp only [aft]
    split
    · exact ih
    · show (if t = s then (⟨_, _⟩ : FV) else fget (allS _) s) = _
      rw [if_neg (fun e => by have := h (t, f) (by simp); rw [e] at this; exact List.lt_irrefl _ this)]
      exact ih
theorem stay_fz (ks : List Bool) (i : Nat) : (stay ks fz i).1 = [] := by
  rw [← List.length_eq_zero_iff]
  rcases stay_lenS ks fz i with h | h
  · rw [h]; rfl
  · rw [h]; rfl
theorem aft_get (ks : List Bool) (s : List UInt8) : ∀ (L : List (List UInt8 × FV)) (i : Nat), L.Pairwise (fun a b => a.1 < b.1) → ∃ j, fget (allS (aft ks L i)) s = ⟨(stay ks (fget L s) j).1, (stay ks (fget L s) j).1⟩
  | [], i, _ => ⟨0, by show fz = ⟨(stay ks fz 0).1, (stay ks fz 0).1⟩; rw [stay_fz]; rfl⟩
  | (t, f) :: r, i, h => by
    obtain ⟨h1, h2⟩ := List.pairwise_cons.1 h
    obtain ⟨j, ih⟩ := aft_get ks s r (stay ks f i).2 h2
    by_cases e : t = s
    · subst e
      refine ⟨i, ?_⟩
      rw [fget, if_pos rfl]
      simp only [aft]
      split
      · rename_i h0
        rw [aft_none ks t r _ h1, h0]; rfl
      · show (if t = t then (⟨_, _⟩ : FV) else fget (allS _) t) = _
        rw [if_pos rfl]
    · refine ⟨j, ?_⟩
      rw [fget, if_neg e]
      simp only [aft]
      split
      · exact ih
      · show (if t = s then (⟨_, _⟩ : FV) else fget (allS _) s) = _
        rw [if_neg e]
        exact ih
theorem lay_aft {L : List (List UInt8 × FV)} (ho : Ord L) (ks : List Bool) (s : List UInt8) : ∃ j, fget (layL (aft ks L 0)) s = ⟨(stay ks (fget L s) j).1, (stay ks (fget L s) j).1⟩ := by
  rw [lay_sor _ (aft_sor ks L 0 ho.1)]
  exact aft_get ks s L 0 ho.1
theorem tell_sor : ∀ {L : List (List UInt8 × FV)}, L.Pairwise (fun a b => a.1 < b.1) → Sor (tell L) ∧ ∀ y ∈ tell L, ∃ g, (y.1, g) ∈ L
  | [], _ => ⟨⟨.nil, by simp [tell]⟩, by simp [tell]⟩
  | (s, f) :: r, h => by
    obtain ⟨h1, h2⟩ := List.pairwise_cons.1 h
    obtain ⟨i1, i2⟩ := tell_sor h2
    rw [tell]
    split
    · exact ⟨i1, fun y hy => by obtain ⟨g, hg⟩ := i2 y hy; exact ⟨g, List.mem_cons_of_mem _ hg⟩⟩
    · rename_i hn
      refine ⟨⟨List.pairwise_cons.2 ⟨fun y hy => ?_, i1.1⟩, fun y hy => ?_⟩, fun y hy => ?_⟩
      · obtain ⟨g, hg⟩ := i2 y hy
        exact h1 _ hg
      · rcases List.mem_cons.1 hy with rfl | hy
        · exact hn
        · exact i1.2 y hy
      · rcases List.mem_cons.1 hy with rfl | hy
        · exact ⟨f, by simp⟩
        · obtain ⟨g, hg⟩ := i2 y hy; exact ⟨g, List.mem_cons_of_mem _ hg⟩
theorem tell_none (s : List UInt8) : ∀ (L : List (List UInt8 × FV)), (∀ p ∈ L, s < p.1) → fget (allS (tell L)) s = fz
  | [], _ => rfl
  | (t, f) :: r, h => by
    have ih := tell_none s r (fun p hp => h p (List.mem_cons_of_mem _ hp))
    rw [tell]
    split
    · exact ih
    · show (if t = s then (⟨_, _⟩ : FV) else fget (allS _) s) = _
      rw [if_neg (fun e => by have := h (t, f) (by simp); rw [e] at this; exact List.lt_irrefl _ this)]
      exact ih
theorem tell_get (s : List UInt8) : ∀ (L : List (List UInt8 × FV)), L.Pairwise (fun a b => a.1 < b.1) → fget (allS (tell L)) s = ⟨(fget L s).now, (fget L s).now⟩
  | [], _ => rfl
  | (t, f) :: r, h => by
    obtain ⟨h1, h2⟩ := List.pairwise_cons.1 h
    have ih := tell_get s r h2
    by_cases e : t = s
    · subst e
      rw [fget, if_pos rfl, tell]
      split
      · rename_i h0
        rw [tell_none t r h1, h0]; rfl
      · show (if t = t then (⟨_, _⟩ : FV) else fget (allS _) t) = _
        rw [if_pos rfl]
    · rw [fget, if_neg e, tell]
      split
      · exact ih
      · show (if t = s then (⟨_, _⟩ : FV) else fget (allS _) s) = _
        rw [if_neg e]
        exact ih
theorem lay_tell {L : List (List UInt8 × FV)} (ho : Ord L) (s : List UInt8) : fget (layL (tell L)) s = ⟨(fget L s).now, (fget L s).now⟩ := by
  rw [lay_sor _ (tell_sor ho.1).1]
  exact tell_get s L ho.1
theorem sor_ord {F : List (List UInt8 × List UInt8)} (h : Sor F) : Ord (layL F) := by
  rw [lay_sor _ h]
  refine ⟨List.pairwise_map.2 h.1, fun p hp => ?_⟩
  obtain ⟨y, hy, rfl⟩ := List.mem_map.1 hp
  cases hg : (⟨y.2, y.2⟩ : FV).gone
  · rfl
  · exact absurd (congrArg FV.now (gone_iff.1 hg)) (h.2 y hy)
end Go.Proofs.YthfnpagangjpbaaGreat
