/-
  Walks of plain's laws: few, lent, same, whole. Own work.
-/
import Derived.Test.YtihcdmnodpknlaaDoorPWalkB
namespace Go.Proofs.YtihcdmnodpknlaaDoor
open Go.RowKit
attribute [local go_sem ↓] Go.wp_at_zero Go.wp_at_succ
set_option maxRecDepth 100000 in
theorem few_any (w : World) (ao : Option Addr) (len cap : Nat) (hc : len ≤ cap) (m : Nat) (hm : min len 300 = m) :
    Calls Tryd.prog 8 #[.slice ao len cap] w fun e w' => e = .returned (.slice ao m cap) ∧ w' = w := by
  by_cases h : 300 < len
  · have h1 : (300 : Int) < (len : Int) := by omega
    have h2 : (300 : Int) ≤ (cap : Int) := by omega
    obtain rfl : m = 300 := by omega
    clear hm hc h
    go_enter Tryd.func8, Tryd.ntmps8
    go_wp2
    go_ret
    exact ⟨rfl, rfl⟩
  · have h1 : ¬ ((300 : Int) < (len : Int)) := by omega
    obtain rfl : m = len := by omega
    clear hm hc h
    go_enter Tryd.func8, Tryd.ntmps8
    go_wp2
    go_ret
    exact ⟨rfl, rfl⟩
def markB : ByteArray := ⟨#[109, 97, 114, 107]⟩
set_option maxRecDepth 100000 in
theorem lent_any (w : World) (ao : Option Addr) (b off len cap : Nat) (ss : List ByteArray) (hr : RdS w ao b off len ss) (hmx : len ≤ 8796093021952) (hn : ao = none → cap = 0) :
    Calls Tryd.prog 17 #[.slice ao len cap] w fun e w' => ∃ g cap', e = .returned (.slice (some ⟨g, 0, none⟩) len cap') ∧ len + 1 ≤ cap' ∧ w'.rangeAt g 0 ((ss ++ [markB]).map Value.string) ∧ Below w.heap.size w w' := by
  obtain rfl := hr.hl
  go_enter Tryd.func17, Tryd.ntmps17
  go_wp2_with (at_builtin; refine wpList_append_S _ rfl _ _ rfl w.heap.size _ [] rfl (owns_nil w _) ao b off cap ss rfl hr hn ?_ (Nat.le_refl _) ?_)
  · simp; omega
  intro v1 w1 h1 hb1
  go_wp2_with (at_builtin; refine wpList_append_S _ rfl _ _ rfl w.heap.size _ ss rfl (own_al h1 _) (some ⟨w1.heap.size, 0, none⟩) w1.heap.size 0 1 [markB] rfl (rds_one w1 markB (by decide)) (fun h => by cases h) ?_ ?_ ?_)
  · simp; omega
  · have := hb1.size; simp; omega
  intro v2 w2 h2 hb2
  have HB : Hid (Below w.heap.size w w2) := hb1.trans (((Below.refl _ _).alloc hb1.size _).trans hb2)
  obtain ⟨g, cap', rfl, hg, hc, hm⟩ := own_form h2 (by simp)
  rw [List.length_append, List.length_singleton] at hc
  have hc2 : (ss.length : Int) ≤ (cap' : Int) := by omega
  have HR : Hid (w2.rangeAt g 0 ((ss ++ [markB]).map Value.string)) := fun j v hv => by
    have hj : j < (ss ++ [markB]).length := by have := (List.getElem?_eq_some_iff.1 hv).1; rwa [List.length_map] at this
    rw [Nat.zero_add, (own_cell h2 hj).1, ← hv, List.getElem?_map, List.getElem?_eq_getElem hj, List.getD_eq_getElem?_getD, List.getElem?_eq_getElem hj]
    rfl
  clear h1 h2 hb1 hb2 hr
  go_wp2
  go_ret
  exact ⟨g, cap', rfl, hc, HR.out, HB.out⟩
theorem mark_at {w : World} {g : Nat} {ss : List ByteArray} (h : w.rangeAt g 0 ((ss ++ [markB]).map Value.string)) : w.cell? ⟨g, ss.length, none⟩ = some (.string markB) := by
  have := h ss.length (.string markB) (by simp)
  rwa [Nat.zero_add] at this
theorem room_rds {w : World} {g : Nat} {ss : List ByteArray} (h : w.rangeAt g 0 ((ss ++ [markB]).map Value.string)) (hs : ∀ s ∈ ss, s.size ≤ 9223372036854775807) : RdS w (some ⟨g, 0, none⟩) g 0 ss.length ss :=
  ⟨rfl, fun _ => rfl, fun j v hv => h j v (by rw [List.map_append, List.getElem?_append_left (List.getElem?_eq_some_iff.1 hv).1]; exact hv), hs⟩
set_option maxRecDepth 100000 in
theorem same_any (w : World) (ao : Option Addr) (b off len cap : Nat) (ss : List ByteArray) (hr : RdS w ao b off len ss) (ao' : Option Addr) (b' off' cap' : Nat) (hr' : RdS w ao' b' off' len ss) (hmx : len ≤ 8796093022208) :
    Calls Tryd.prog 13 #[.slice ao len cap, .slice ao' len cap'] w fun e w' => e = .returned (.bool true) ∧ Below w.heap.size w w' := by
  obtain rfl := hr.hl
  have HR1 : Hid (∀ W, Below w.heap.size w W → RdS W ao b off ss.length ss) := fun W h => hr.next h (Nat.le_refl _)
  have HR2 : Hid (∀ W, Below w.heap.size w W → RdS W ao' b' off' ss.length ss) := fun W h => hr'.next h (Nat.le_refl _)
  have hb := Below.refl w.heap.size w
  clear hr hr'
  go_enter Tryd.func13, Tryd.ntmps13
  go_wp2
  go_loopg [5] ss.length (fun gk i wr => ∃ j : Nat, j ≤ ss.length ∧ gk = ss.length - j ∧ i = .int .i64 (j : Int) ∧ Below w.heap.size w wr)
  case atStart =>
    go_light
    exact ⟨0, Nat.zero_le _, rfl, rfl, hb⟩
  case round =>
    clear hb
    obtain ⟨j, hj, rfl, rfl, hb⟩ := hrel
    by_cases hlt : j < ss.length
    · have hz : (j : Int) < (ss.length : Int) := by omega
      have r1 := HR1.out wr hb
      have r2 := HR2.out wr hb
      obtain rfl := r1.ptr (by omega)
      obtain rfl := r2.ptr (by omega)
      have k1 := r1.at hlt
      have k2 := r2.at hlt
      generalize ss.getD j ByteArray.empty = p at *
      have HB := hide hb
      clear hb r1 r2 HR1 HR2
      go_upto_region 6 with (fail)
      go_region
      go_wp2
      go_roundg (ss.length - (j + 1))
      case rel =>
        go_light
        exact ⟨j + 1, by omega, rfl, by go_num, HB.out.drew⟩
      case measure => go_light; omega
    · obtain rfl : j = ss.length := by omega
      have hz : ¬ ((ss.length : Int) < (ss.length : Int)) := by omega
      clear HR1 HR2
      go_wp2
      go_ret
      exact ⟨rfl, hb⟩
set_option maxRecDepth 100000 in
theorem whole_any (w : World) (ao : Option Addr) (b off len cap : Nat) (ss : List ByteArray) (hr : RdS w ao b off len ss) (hmx : len ≤ 8796093021952) (g cap' : Nat) (hc : len + 1 ≤ cap') (hg : w.rangeAt g 0 ((ss ++ [markB]).map Value.string)) :
    Calls Tryd.prog 20 #[.slice (some ⟨g, 0, none⟩) len cap', .slice ao len cap] w fun e w' => e = .returned (.bool true) ∧ Below w.heap.size w w' := by
  obtain rfl := hr.hl
  have HS : Hid (Calls Tryd.prog 13 #[.slice (some ⟨g, 0, none⟩) ss.length cap', .slice ao ss.length cap] w fun e w' => e = .returned (.bool true) ∧ Below w.heap.size w w') := same_any w _ g 0 _ cap' ss (room_rds hg hr.sz) ao b off cap hr (by omega)
  have HM : Hid (∀ W, Below w.heap.size w W → W.cell? ⟨g, ss.length, none⟩ = some (.string ⟨#[109, 97, 114, 107]⟩)) := fun W h => mark_at (range_below h (range_lt hg (by simp)) hg)
  have hc2 : (ss.length : Int) + 1 ≤ (cap' : Int) := by omega
  clear hr hg
  go_enter Tryd.func20, Tryd.ntmps20
  go_wp2_with (go_at_call 13; with_reducible refine HS.out.mono ?_; rintro e w1 ⟨rfl, hb1⟩; have k1 := HM.out _ hb1)
  go_ret
  exact ⟨rfl, hb1⟩
end Go.Proofs.YtihcdmnodpknlaaDoor
