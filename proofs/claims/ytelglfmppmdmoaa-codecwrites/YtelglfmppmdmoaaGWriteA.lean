/-
  CodecWrites: what its walk needs. Own work.
-/
import Derived.Test.YtelglfmppmdmoaaGStill
import Derived.Test.YtelglfmppmdmoaaRWalkH
namespace Go.Proofs.Ytelglfmppmdmoaa
open Go.RowKit
attribute [local go_sem ↓] Go.wp_at_zero Go.wp_at_succ
/-- What Encode answers. -/
def encS (P : PV) : ByteArray := if Well P then ⟨(enc P).toArray⟩ else ⟨#[]⟩
def encE (P : PV) : Int := if Well P then 0 else 150
theorem encode_both (w : World) (sa : Option Addr) (sb so sc : Nat) (da : Option Addr) (db dO dc : Nat) (P : PV) (hp : RdP w sa sb so sc da db dO dc P) :
    Calls Try.prog 11 #[pvP P sa sc da dc] w fun e w' => e = .returned (.tuple #[.string (encS P), .int .i64 (encE P)]) ∧ Below w.heap.size w w' := by
  by_cases h : Well P
  · rw [encS, encE, if_pos h, if_pos h]; exact encode_yes w sa sb so sc da db dO dc P hp h
  · rw [encS, encE, if_neg h, if_neg h]; exact encode_no w sa sb so sc da db dO dc P hp h
theorem rencode_both (w : World) (sa : Option Addr) (sb so sc : Nat) (da : Option Addr) (db dO dc : Nat) (P : PV) (hp : RdP w sa sb so sc da db dO dc P) :
    Calls Try.prog 17 #[pvP P sa sc da dc] w fun e w' => e = .returned (.tuple #[.string (encS P), .int .i64 (encE P)]) ∧ Below w.heap.size w w' := by
  by_cases h : Well P
  · rw [encS, encE, if_pos h, if_pos h]; exact rencode_yes w sa sb so sc da db dO dc P hp h
  · rw [encS, encE, if_neg h, if_neg h]; exact rencode_no w sa sb so sc da db dO dc P hp h
theorem cV_two (o : Option Nat) : ∃ n e : Int, cV o = .tuple #[.int .u64 n, .int .i64 e] := by
  cases o with
  | none => exact ⟨0, 150, rfl⟩
  | some c => exact ⟨c, 0, rfl⟩
/-- A list of which the first j stand as in another. -/
def mk {α : Type} (R L M : List α) (j : Nat) : List α := R.take j ++ (L.drop j ++ M)
theorem mk_zero {α : Type} (R L M : List α) : mk R L M 0 = L ++ M := by simp [mk]
theorem mk_all {α : Type} {R L M : List α} {n : Nat} (h1 : R.length = n) (h2 : L.length = n) : mk R L M n = R ++ M := by
  rw [mk, List.take_of_length_le (by omega), List.drop_of_length_le (by omega), List.nil_append]
theorem mk_set {α : Type} {R L M : List α} {n j : Nat} (h1 : R.length = n) (h2 : L.length = n) (hj : j < n) (d : α) : (mk R L M j).set j (R.getD j d) = mk R L M (j + 1) := by
  have e1 : (R.take j).length = j := by rw [List.length_take]; omega
  have e2 : L.drop j = L[j]'(by omega) :: L.drop (j + 1) := List.drop_eq_getElem_cons (by omega)
  have e3 : R.take (j + 1) = R.take j ++ [R.getD j d] := by
    rw [List.take_add_one, List.getElem?_eq_getElem (by omega), List.getD_eq_getElem?_getD, List.getElem?_eq_getElem (by omega)]; rfl
  rw [mk, mk, List.set_append_right _ _ (by omega), e1, Nat.sub_self, e2, List.cons_append, List.set_cons_zero, e3, List.append_assoc]
  rfl
theorem mk_len {α : Type} {R L M : List α} {n j : Nat} (h1 : R.length = n) (h2 : L.length = n) (hj : j ≤ n) : (mk R L M j).length = n + M.length := by
  rw [mk, List.length_append, List.length_append, List.length_take, List.length_drop]; omega
theorem mk_at {α : Type} {R L M : List α} {n j : Nat} (h1 : R.length = n) (h2 : L.length = n) (hj : j < n) (d : α) : (mk R L M (j + 1)).getD j d = R.getD j d := by
  rw [← mk_set h1 h2 hj d]
  have hl : j < (mk R L M j).length := by rw [mk_len h1 h2 (by omega)]; omega
  rw [List.getD_eq_getElem?_getD, List.getElem?_set_self hl]; rfl
theorem rev_at {D : List ByteArray} {j : Nat} (hj : j < D.length) : D.reverse.getD j ByteArray.empty = D.getD (D.length - 1 - j) ByteArray.empty := by
  rw [List.getD_eq_getElem?_getD, List.getD_eq_getElem?_getD, List.getElem?_reverse hj]
/-- A number halved. -/
def hv (y : Nat) : Nat := y / 2 % 18446744073709551616
theorem half_at {S : List Nat} {j : Nat} (hj : j < S.length) : (S.map hv).getD j 0 = hv (S.getD j 0) := by
  rw [List.getD_eq_getElem?_getD, List.getD_eq_getElem?_getD, List.getElem?_map, List.getElem?_eq_getElem hj]; rfl
theorem ownS_set {w : World} {B g n cap j : Nat} {l : List ByteArray} (h : OwnS w B (.slice (some ⟨g, 0, none⟩) n cap) l) (x : ByteArray) : OwnS (w.setCell ⟨g, j, none⟩ (.string x)) B (.slice (some ⟨g, 0, none⟩) n cap) (l.set j x) := by
  obtain ⟨h1, h2⟩ := h
  refine ⟨by simp, .inr ?_⟩
  rcases h2 with ⟨h2, h3⟩ | ⟨g', cap', cur, hv, hg, hh, h3, h4, h5, h6⟩
  · cases h2
  · obtain ⟨e1, e2, e3⟩ := Value.slice.inj hv
    cases e1
    have s1 : (w.setCell ⟨g, j, none⟩ (.string x)).heap[g]? = _ := heap_setCell_same w g j cur _ _ hh
    refine ⟨g, cap, _, by rw [e2]; simp, hg, s1, by simpa [e3] using h3, by omega, by simpa [e3] using h5, ?_⟩
    rw [List.map_set, ← h6, List.length_set, Array.toList_setIfInBounds, List.take_set]
open Cv (cU) in
theorem ownU_cell {w : World} {B g n cap : Nat} {l : List Nat} (h : Cv.Own w B (.slice (some ⟨g, 0, none⟩) n cap) l) {j : Nat} (hj : j < l.length) : w.cell? ⟨g, j, none⟩ = some (.int .u64 ((l.getD j 0 : Nat) : Int)) ∧ w.frozen? ⟨g, j, none⟩ = false := by
  obtain ⟨h1, h2⟩ := h
  rcases h2 with ⟨h2, _⟩ | ⟨g', cap', cur, hv, hg, hh, hc, hm, hz, ht⟩
  · cases h2
  · obtain ⟨e1, e2, e3⟩ := Value.slice.inj hv
    cases e1
    refine ⟨?_, frozen_of_row w g j cur 22 hh⟩
    rw [cell_of_row w g j cur 22 (0, 0) hh]
    have : (cur.toList.take (l.length * 1))[j]? = some (.int .u64 ((l.getD j 0 : Nat) : Int)) := by
      rw [ht]; simp [cU, List.getElem?_eq_getElem hj, List.getD_eq_getElem?_getD]
    rw [List.getElem?_take_of_lt (by omega)] at this
    simpa using this
open Cv (cU) in
theorem ownU_set {w : World} {B g n cap j : Nat} {l : List Nat} (h : Cv.Own w B (.slice (some ⟨g, 0, none⟩) n cap) l) (c : Nat) : Cv.Own (w.setCell ⟨g, j, none⟩ (.int .u64 (c : Int))) B (.slice (some ⟨g, 0, none⟩) n cap) (l.set j c) := by
  obtain ⟨h1, h2⟩ := h
  refine ⟨by simp, .inr ?_⟩
  rcases h2 with ⟨h2, h3⟩ | ⟨g', cap', cur, hv, hg, hh, h3, h4, h5, h6⟩
  · cases h2
  · obtain ⟨e1, e2, e3⟩ := Value.slice.inj hv
    cases e1
    refine ⟨g, cap, cur.setIfInBounds j (.int .u64 (c : Int)), by rw [e2]; simp, hg, heap_setCell_same w g j cur _ _ hh, by simpa [e3] using h3, by omega, by simpa [e3] using h5, ?_⟩
    have h7 : cU (l.set j c) = (cU l).set j (.int .u64 (c : Int)) := by simp [cU]
    rw [h7, ← h6, List.length_set, Array.toList_setIfInBounds, List.take_set]
end Go.Proofs.Ytelglfmppmdmoaa
