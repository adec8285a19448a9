/-
  The texts on the way of an item; where two ways part. Own work.
-/
import Derived.Test.YtgmnolepaidiiaaDoorTSpec
namespace Go.Proofs.YtgmnolepaidiiaaDoor
open Go.RowKit
/-- The texts of the nodes on the way up. -/
def upT (c : Nat) : Nat → ByteArray → List ByteArray → List ByteArray
  | _, _, [] => []
  | q, d, x :: r => stT q d x :: upT c (q / 2) (dg c (stT q d x)) r
theorem upT_app (c : Nat) (x : ByteArray) : ∀ (D : List ByteArray) (q : Nat) (d : ByteArray), upT c q d (D ++ [x]) = upT c q d D ++ [stT (q / 2 ^ D.length) (rs c q d D) x]
  | [], q, d => by simp [upT, rs]
  | y :: r, q, d => by
    rw [List.cons_append, upT, upT_app c x r, upT, rs, List.length_cons, Nat.pow_succ, Nat.div_div_eq_div_mul, Nat.mul_comm 2]
    rfl
theorem upT_len (c : Nat) : ∀ (D : List ByteArray) (q : Nat) (d : ByteArray), (upT c q d D).length = D.length
  | [], _, _ => rfl
  | y :: r, q, d => by rw [upT, List.length_cons, upT_len c r, List.length_cons]
/-- The texts of the bags, from the right. -/
def bgT (c : Nat) : List ByteArray → List ByteArray
  | [] => []
  | [_] => []
  | p :: q :: r => bgT c (q :: r) ++ [bagT p (bagL c (q :: r))]
theorem bgT_drop (c : Nat) (P : List ByteArray) (j : Nat) (h : j + 1 < P.length) : bgT c (P.drop j) = bgT c (P.drop (j + 1)) ++ [bagT (P.getD j ByteArray.empty) (bagL c (P.drop (j + 1)))] := by
  rw [List.drop_eq_getElem_cons (show j < P.length by omega), List.drop_eq_getElem_cons h, bgT, List.getD_eq_getElem?_getD, List.getElem?_eq_getElem (show j < P.length by omega)]
  rfl
theorem bgT_len (c : Nat) : ∀ (P : List ByteArray), (bgT c P).length = P.length - 1
  | [] => rfl
  | [_] => rfl
  | p :: q :: r => by rw [bgT, List.length_append, bgT_len c (q :: r)]; simp
def rootW : ByteArray := ⟨#[114, 111, 111, 116, 32]⟩
/-- All of them. -/
def trl (c i a H : Nat) (D : List ByteArray) (x : ByteArray) : List ByteArray := (leafT x :: upT c i (dg c (leafT x)) (D.take H)) ++ (bgT c (pkP c i a H D x) ++ [rootW ++ bagL c (pkP c i a H D x)])
theorem pkP_len {c i a H : Nat} {D : List ByteArray} {x : ByteArray} (h : H + a ≤ D.length) : (pkP c i a H D x).length = D.length - H + 1 := by
  rw [pkP, List.length_append, List.length_cons, List.length_take, List.length_drop, List.length_drop, List.length_drop]; omega
theorem trl_len {c i a H : Nat} {D : List ByteArray} {x : ByteArray} (h : H + a ≤ D.length) : (trl c i a H D x).length = D.length + 2 := by
  rw [trl, List.length_append, List.length_cons, upT_len, List.length_append, bgT_len, pkP_len h, List.length_take, List.length_singleton]; omega
/-- Two lists of texts part at one place, for good or by one digest. -/
def Clh (c : Nat) (X Y : List ByteArray) : Prop := X.length = Y.length ∧ ∃ j, j < X.length ∧ X.getD j ByteArray.empty ≠ Y.getD j ByteArray.empty ∧ (j = X.length - 1 ∨ dg c (X.getD j ByteArray.empty) = dg c (Y.getD j ByteArray.empty))
theorem clh_pre {c : Nat} {X0 Y0 X Y : List ByteArray} (hl : X0.length = Y0.length) (h : Clh c X Y) : Clh c (X0 ++ X) (Y0 ++ Y) := by
  obtain ⟨h1, j, h2, h3, h4⟩ := h
  have e : ∀ (Z0 Z : List ByteArray), (Z0 ++ Z).getD (Z0.length + j) ByteArray.empty = Z.getD j ByteArray.empty := fun Z0 Z => by
    rw [List.getD_eq_getElem?_getD, List.getD_eq_getElem?_getD, List.getElem?_append_right (by omega), show Z0.length + j - Z0.length = j by omega]
  have e2 := e Y0 Y
  rw [← hl] at e2
  refine ⟨by rw [List.length_append, List.length_append]; omega, X0.length + j, by rw [List.length_append]; omega, ?_, ?_⟩
  · rw [e, e2]; exact h3
  · rw [e, e2, List.length_append]
    rcases h4 with h4 | h4
    · left; omega
    · exact .inr h4
theorem clh_at {c : Nat} {X0 Y0 X Y : List ByteArray} {x y : ByteArray} (hl : X0.length = Y0.length) (hl2 : X.length = Y.length) (hne : x ≠ y) (hd : dg c x = dg c y) : Clh c (X0 ++ x :: X) (Y0 ++ y :: Y) := by
  refine ⟨by simp; omega, X0.length, by simp, ?_, .inr ?_⟩
  · rw [List.getD_eq_getElem?_getD, List.getD_eq_getElem?_getD, List.getElem?_append_right (by omega), List.getElem?_append_right (by omega), hl, Nat.sub_self]
    exact hne
  · rw [List.getD_eq_getElem?_getD, List.getD_eq_getElem?_getD, List.getElem?_append_right (by omega), List.getElem?_append_right (by omega), hl, Nat.sub_self]
    exact hd
theorem ba_app {a b x y : ByteArray} (hs : a.size = b.size) (h : a ++ x = b ++ y) : a = b ∧ x = y := by
  have h1 := congrArg (fun z : ByteArray => z.data.toList) h
  simp only [ByteArray.data_append, Array.toList_append] at h1
  have hl : a.data.toList.length = b.data.toList.length := by simpa using hs
  obtain ⟨e1, e2⟩ := List.append_inj h1 hl
  exact ⟨ByteArray.ext (Array.toList_inj.1 e1), ByteArray.ext (Array.toList_inj.1 e2)⟩
theorem leafT_inj {x y : ByteArray} (h : leafT x = leafT y) : x = y := (ba_app rfl h).2
theorem nodeT_inj {a b x y : ByteArray} (hs : a.size = b.size) (h : nodeT a x = nodeT b y) : a = b ∧ x = y := by
  obtain ⟨h1, h2⟩ := ba_app (by rw [ByteArray.size_append, ByteArray.size_append, hs]) h
  exact ⟨(ba_app rfl h1).2, h2⟩
theorem bagT_inj {a b x y : ByteArray} (hs : a.size = b.size) (h : bagT a x = bagT b y) : a = b ∧ x = y := by
  obtain ⟨h1, h2⟩ := ba_app (by rw [ByteArray.size_append, ByteArray.size_append, hs]) h
  exact ⟨(ba_app rfl h1).2, h2⟩
theorem stT_inj {q : Nat} {d d' x x' : ByteArray} (h1 : d.size = d'.size) (h2 : x.size = x'.size) (h : stT q d x = stT q d' x') : d = d' ∧ x = x' := by
  unfold stT at h
  split at h
  · obtain ⟨e1, e2⟩ := nodeT_inj h2 h; exact ⟨e2, e1⟩
  · exact nodeT_inj h1 h
theorem clh_last {c : Nat} {X0 Y0 : List ByteArray} {u v : ByteArray} (hl : X0.length = Y0.length) (h : u ≠ v) : Clh c (X0 ++ [rootW ++ u]) (Y0 ++ [rootW ++ v]) := by
  refine clh_pre hl ⟨rfl, 0, by simp, fun e => h ?_, .inl rfl⟩
  have e' : rootW ++ u = rootW ++ v := e
  exact (ba_app rfl e').2
/-- On the way up: two unlike texts of one digest, or the peaks are unlike. -/
theorem up_part {c : Nat} (hc : c ≤ 32) : ∀ (D D' : List ByteArray) (q : Nat) (d d' : ByteArray), D.length = D'.length → (∀ s ∈ D, s.size = c) → (∀ s ∈ D', s.size = c) → d.size = c → d'.size = c → (d ≠ d' ∨ D ≠ D') →
    (∃ X0 Y0 x y X Y, upT c q d D = X0 ++ x :: X ∧ upT c q d' D' = Y0 ++ y :: Y ∧ X0.length = Y0.length ∧ X.length = Y.length ∧ x ≠ y ∧ dg c x = dg c y) ∨ rs c q d D ≠ rs c q d' D'
  | [], [], q, d, d', _, _, _, _, _, h => by
    rcases h with h | h
    · exact .inr h
    · exact absurd rfl h
  | [], _ :: _, _, _, _, h, _, _, _, _, _ => by simp at h
  | _ :: _, [], _, _, _, h, _, _, _, _, _ => by simp at h
  | x :: r, x' :: r', q, d, d', hl, hs, hs', hd, hd', h => by
    have zx := hs x (by simp)
    have zx' := hs' x' (by simp)
    have hl' : r.length = r'.length := by simpa using hl
    have go : (dg c (stT q d x) ≠ dg c (stT q d' x') ∨ r ≠ r') → (∃ X0 Y0 u v X Y, upT c q d (x :: r) = X0 ++ u :: X ∧ upT c q d' (x' :: r') = Y0 ++ v :: Y ∧ X0.length = Y0.length ∧ X.length = Y.length ∧ u ≠ v ∧ dg c u = dg c v) ∨ rs c q d (x :: r) ≠ rs c q d' (x' :: r') := fun h => by
      rcases up_part hc r r' (q / 2) (dg c (stT q d x)) (dg c (stT q d' x')) hl' (fun s h => hs s (by simp [h])) (fun s h => hs' s (by simp [h])) (dg_size hc _) (dg_size hc _) h with ⟨X0, Y0, u, v, X, Y, e1, e2, e3, e4, e5, e6⟩ | h
      · exact .inl ⟨stT q d x :: X0, stT q d' x' :: Y0, u, v, X, Y, by rw [upT, e1]; rfl, by rw [upT, e2]; rfl, by simp [e3], e4, e5, e6⟩
      · exact .inr h
    by_cases ht : stT q d x = stT q d' x'
    · obtain ⟨e1, e2⟩ := stT_inj (by rw [hd, hd']) (by rw [zx, zx']) ht
      refine go (.inr ?_)
      rintro rfl
      rcases h with h | h
      · exact h e1
      · exact h (by rw [e2])
    · by_cases he : dg c (stT q d x) = dg c (stT q d' x')
      · exact .inl ⟨[], [], _, _, _, _, rfl, rfl, rfl, by rw [upT_len, upT_len, hl'], ht, he⟩
      · exact go (.inl he)
/-- Of the bags: unlike peaks lead to unlike texts. -/
theorem bag_part {c : Nat} (hc : c ≤ 32) : ∀ (P P' : List ByteArray), P.length = P'.length → (∀ s ∈ P, s.size = c) → (∀ s ∈ P', s.size = c) → P ≠ P' → Clh c (bgT c P ++ [rootW ++ bagL c P]) (bgT c P' ++ [rootW ++ bagL c P'])
  | [], [], _, _, _, h => absurd rfl h
  | [], _ :: _, h, _, _, _ => by simp at h
  | _ :: _, [], h, _, _, _ => by simp at h
  | [p], [p'], _, _, _, h => by
    exact clh_last (X0 := []) (Y0 := []) rfl (fun e => h (congrArg (fun z => [z]) (show p = p' from e)))
  | [_], _ :: _ :: _, h, _, _, _ => by simp at h
  | _ :: _ :: _, [_], h, _, _, _ => by simp at h
  | p :: q :: r, p' :: q' :: r', hl, hs, hs', h => by
    have hl' : (q :: r).length = (q' :: r').length := by simpa using hl
    have zp := hs p (by simp)
    have zp' := hs' p' (by simp)
    have hlb : (bgT c (q :: r)).length = (bgT c (q' :: r')).length := by rw [bgT_len, bgT_len, hl']
    have fin : bagT p (bagL c (q :: r)) ≠ bagT p' (bagL c (q' :: r')) → Clh c (bgT c (p :: q :: r) ++ [rootW ++ bagL c (p :: q :: r)]) (bgT c (p' :: q' :: r') ++ [rootW ++ bagL c (p' :: q' :: r')]) := fun ht => by
      by_cases he : dg c (bagT p (bagL c (q :: r))) = dg c (bagT p' (bagL c (q' :: r')))
      · rw [bgT, bgT, List.append_assoc, List.append_assoc]
        exact clh_at hlb (by simp) ht he
      · rw [show bagL c (p :: q :: r) = dg c (bagT p (bagL c (q :: r))) by rw [bagL], show bagL c (p' :: q' :: r') = dg c (bagT p' (bagL c (q' :: r'))) by rw [bagL]]
        exact clh_last (by rw [bgT_len, bgT_len, hl]) he
    by_cases hr : (q :: r) = (q' :: r')
    · refine fin fun e => ?_
      obtain ⟨e1, _⟩ := bagT_inj (by rw [zp, zp']) e
      exact h (by rw [e1, hr])
    · obtain ⟨h1, j, h2, h3, h4⟩ := bag_part hc (q :: r) (q' :: r') hl' (fun s hx => hs s (by simp at hx ⊢; exact .inr hx)) (fun s hx => hs' s (by simp at hx ⊢; exact .inr hx)) hr
      rw [List.length_append, List.length_singleton] at h2
      have ea : ∀ (Z : List ByteArray) (z : ByteArray), j < Z.length → (Z ++ [z]).getD j ByteArray.empty = Z.getD j ByteArray.empty := fun Z z hj => by
        rw [List.getD_eq_getElem?_getD, List.getD_eq_getElem?_getD, List.getElem?_append_left hj]
      by_cases hj : j < (bgT c (q :: r)).length
      · have hd : dg c ((bgT c (q :: r)).getD j ByteArray.empty) = dg c ((bgT c (q' :: r')).getD j ByteArray.empty) := by
          rcases h4 with h4 | h4
          · rw [List.length_append, List.length_singleton] at h4; omega
          · rw [ea _ _ hj, ea _ _ (by omega)] at h4; exact h4
        rw [ea _ _ hj, ea _ _ (by omega)] at h3
        have eb : ∀ (Z W : List ByteArray), j < Z.length → (Z ++ W).getD j ByteArray.empty = Z.getD j ByteArray.empty := fun Z W hj => by
          rw [List.getD_eq_getElem?_getD, List.getD_eq_getElem?_getD, List.getElem?_append_left hj]
        rw [bgT, bgT, List.append_assoc, List.append_assoc]
        refine ⟨by simp; omega, j, by rw [List.length_append]; omega, ?_, .inr ?_⟩
        · rw [eb _ _ hj, eb _ _ (by omega)]; exact h3
        · rw [eb _ _ hj, eb _ _ (by omega)]; exact hd
      · obtain rfl : j = (bgT c (q :: r)).length := by omega
        refine fin fun e => h3 ?_
        obtain ⟨_, e2⟩ := bagT_inj (by rw [zp, zp']) e
        rw [List.getD_eq_getElem?_getD, List.getD_eq_getElem?_getD, List.getElem?_append_right (Nat.le_refl _), List.getElem?_append_right (by omega), hlb, Nat.sub_self]
        show rootW ++ bagL c (q :: r) = rootW ++ bagL c (q' :: r')
        rw [e2]
/-- Of two ways that are unlike. -/
theorem trl_part {c i a H : Nat} (hc : c ≤ 32) {D D' : List ByteArray} {x x' : ByteArray} (hl : D.length = D'.length) (hs : ∀ s ∈ D, s.size = c) (hs' : ∀ s ∈ D', s.size = c) (ha : H + a ≤ D.length) (h : x ≠ x' ∨ D ≠ D') : Clh c (trl c i a H D x) (trl c i a H D' x') := by
  have zl := dg_size hc (leafT x)
  have zl' := dg_size hc (leafT x')
  have lT : (D.take H).length = (D'.take H).length := by rw [List.length_take, List.length_take, hl]
  have sT : ∀ s ∈ D.take H, s.size = c := fun s hx => hs s (List.mem_of_mem_take hx)
  have sT' : ∀ s ∈ D'.take H, s.size = c := fun s hx => hs' s (List.mem_of_mem_take hx)
  have lB : (bgT c (pkP c i a H D x) ++ [rootW ++ bagL c (pkP c i a H D x)]).length = (bgT c (pkP c i a H D' x') ++ [rootW ++ bagL c (pkP c i a H D' x')]).length := by
    rw [List.length_append, List.length_append, bgT_len, bgT_len, pkP_len ha, pkP_len (by omega), hl]; rfl
  have sP : ∀ s ∈ pkP c i a H D x, s.size = c := fun s hx => by
    rw [pkP, List.mem_append, List.mem_cons] at hx
    rcases hx with hx | rfl | hx
    · exact hs s (List.mem_of_mem_drop (List.mem_of_mem_take hx))
    · exact rs_size hc _ _ _ zl
    · exact hs s (List.mem_of_mem_drop (List.mem_of_mem_drop hx))
  have sP' : ∀ s ∈ pkP c i a H D' x', s.size = c := fun s hx => by
    rw [pkP, List.mem_append, List.mem_cons] at hx
    rcases hx with hx | rfl | hx
    · exact hs' s (List.mem_of_mem_drop (List.mem_of_mem_take hx))
    · exact rs_size hc _ _ _ zl'
    · exact hs' s (List.mem_of_mem_drop (List.mem_of_mem_drop hx))
  have bag : pkP c i a H D x ≠ pkP c i a H D' x' → Clh c (trl c i a H D x) (trl c i a H D' x') := fun hp =>
    clh_pre (by rw [List.length_cons, List.length_cons, upT_len, upT_len, lT]) (bag_part hc _ _ (by rw [pkP_len ha, pkP_len (by omega), hl]) sP sP' hp)
  by_cases hlf : x ≠ x' ∧ dg c (leafT x) = dg c (leafT x')
  · have hne : leafT x ≠ leafT x' := fun e => hlf.1 (leafT_inj e)
    have := clh_at (c := c) (X0 := []) (Y0 := []) (X := upT c i (dg c (leafT x)) (D.take H) ++ (bgT c (pkP c i a H D x) ++ [rootW ++ bagL c (pkP c i a H D x)])) (Y := upT c i (dg c (leafT x')) (D'.take H) ++ (bgT c (pkP c i a H D' x') ++ [rootW ++ bagL c (pkP c i a H D' x')])) rfl (by rw [List.length_append, upT_len, lT, lB, ← upT_len c (D'.take H) i (dg c (leafT x')), ← List.length_append]) hne hlf.2
    exact this
  · by_cases hT : dg c (leafT x) ≠ dg c (leafT x') ∨ D.take H ≠ D'.take H
    · rcases up_part hc _ _ i _ _ lT sT sT' zl zl' hT with ⟨X0, Y0, u, v, X, Y, e1, e2, e3, e4, e5, e6⟩ | hr
      · rw [trl, trl, e1, e2]
        have := clh_at (c := c) (X0 := leafT x :: X0) (Y0 := leafT x' :: Y0) (X := X ++ (bgT c (pkP c i a H D x) ++ [rootW ++ bagL c (pkP c i a H D x)])) (Y := Y ++ (bgT c (pkP c i a H D' x') ++ [rootW ++ bagL c (pkP c i a H D' x')])) (by rw [List.length_cons, List.length_cons, e3]) (by rw [List.length_append, e4, lB, ← List.length_append]) e5 e6
        simpa using this
      · refine bag fun e => hr ?_
        rw [pkP, pkP] at e
        have := List.append_inj e (by rw [List.length_take, List.length_take, List.length_drop, List.length_drop, hl])
        exact (List.cons.inj this.2).1
    · have hx : x = x' := by
        apply Classical.byContradiction
        intro hx
        exact hlf ⟨hx, Classical.byContradiction fun e => hT (.inl e)⟩
      have hDD : D ≠ D' := by
        rcases h with h | h
        · exact absurd hx h
        · exact h
      have hTT : D.take H = D'.take H := Classical.byContradiction fun e => hT (.inr e)
      refine bag fun e => hDD ?_
      rw [pkP, pkP] at e
      have h2 := List.append_inj e (by rw [List.length_take, List.length_take, List.length_drop, List.length_drop, hl])
      have h3 := (List.cons.inj h2.2).2
      have h4 : D.drop H = D'.drop H := by rw [← List.take_append_drop a (D.drop H), ← List.take_append_drop a (D'.drop H), h2.1, h3]
      rw [← List.take_append_drop H D, ← List.take_append_drop H D', hTT, h4]
end Go.Proofs.YtgmnolepaidiiaaDoor
