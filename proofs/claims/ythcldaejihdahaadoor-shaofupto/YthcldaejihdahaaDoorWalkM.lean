/-
  The walk of texts. Own work.
-/
import Derived.Test.YthcldaejihdahaaDoorWalkL
import Derived.Laws.AppendOwnNone
import Derived.WalkSmall
namespace Go.Proofs.YthcldaejihdahaaDoor
open Go.RowKit
attribute [local go_sem ↓] Go.wp_at_zero Go.wp_at_succ
theorem info9 : (Tryd.prog.info? 9).map (fun i => (i.zero, i.size, i.bytes)) = some (some (.string ByteArray.empty), 1, 16) := by kernel_rfl
def mark1 : Value := .string ⟨#[109, 97, 114, 107, 32, 111, 110, 101]⟩
def mark2 : Value := .string ⟨#[109, 97, 114, 107, 32, 116, 119, 111]⟩
theorem owns_alloc {w : World} {base : Nat} {e : TypeId} {size : Nat} {v : Value} {n : Nat} {xs : List Value} (h : w.ownsRow base e size v n xs) (o : Obj) : (w.alloc o).ownsRow base e size v n xs := by
  obtain ⟨h1, h2⟩ := h
  refine ⟨h1, ?_⟩
  rcases h2 with h2 | ⟨g, cp, cur, hv, hg, hh, r⟩
  · exact Or.inl h2
  · exact Or.inr ⟨g, cp, cur, hv, hg, by rw [Below.heap_alloc _ _ _ (row_lt hh)]; exact hh, r⟩
theorem owns_own {w : World} {base : Nat} {e : TypeId} {size : Nat} {v : Value} {n : Nat} {xs : List Value} (h : w.ownsRow base e size v n xs) : ∀ k, v.ownBlock = some k → base ≤ k := by
  obtain ⟨h1, h2⟩ := h
  rcases h2 with ⟨rfl, _⟩ | ⟨g, cp, cur, rfl, hg, _⟩
  · intro k hk; cases hk
  · intro k hk; cases hk; exact hg
theorem owns_form' {w : World} {base : Nat} {e : TypeId} {size : Nat} {n : Nat} {v : Value} {xs : List Value} (h : w.ownsRow base e size v n xs) (hn : 0 < n) : ∃ g cap, v = .slice (some ⟨g, 0, none⟩) n cap ∧ base ≤ g := by
  obtain ⟨h1, h2⟩ := h
  rcases h2 with ⟨_, h2⟩ | ⟨g, cap, cur, hv, hg, _⟩
  · omega
  · exact ⟨g, cap, hv, hg⟩
set_option maxHeartbeats 1000000 in
set_option maxRecDepth 100000 in
theorem texts_any (w : World) (ao : Option Addr) (b off len cap : Nat) (ss : List ByteArray) (hl : ss.length = len) (hao : 0 < len → ao = some ⟨b, off, none⟩) (hs : w.rangeAt b off (ss.map Value.string)) (hnil : ao = none → cap = 0) (hmx : len ≤ 1048576) :
    Calls Tryd.prog 12 #[.slice ao len cap] w fun e w' => ∃ g cp, e = .returned (.slice (some ⟨g, 0, none⟩) (len + 2) cp) ∧ w'.ownsRow w.heap.size 9 1 (.slice (some ⟨g, 0, none⟩) (len + 2) cp) (len + 2) (ss.map Value.string ++ [mark1, mark2]) ∧ Below w.heap.size w w' := by
  obtain ⟨i0, hi, hz0, hz1, hz2⟩ := info_parts info9
  have hO0 : w.ownsRow w.heap.size 9 1 (.slice none 0 0) 0 [] := ⟨rfl, Or.inl ⟨rfl, rfl⟩⟩
  have hb0 : (0 + len) * 16 ≤ 140737488355328 := by omega
  have hm0 : Hid (0 + len ≤ maxLen) := by show _ ≤ _; unfold maxLen; omega
  have hb1 : Hid ((len + 2) * 16 ≤ 140737488355328) := by show _ ≤ _; omega
  have hm1 : Hid (len + 2 ≤ maxLen) := by show _ ≤ _; unfold maxLen; omega
  have hone : ∀ u ∈ ss.map Value.string, u.oneCell' = true := fun u hu => by obtain ⟨x, _, rfl⟩ := List.mem_map.1 hu; rfl
  have hlm : (ss.map Value.string).length = len * 1 := by simp [hl]
  go_enter Tryd.func12, Tryd.ntmps12
  go_upto_region 2 with (fail)
  go_cut [3] from 4 (fun y w1 => ∃ v1, v1 = y ∧ w1.ownsRow w.heap.size 9 1 v1 len (ss.map Value.string) ∧ Below w.heap.size w w1)
  case first =>
    cases ao with
    | none =>
      have hl0 : len = 0 := by
        rcases Nat.eq_zero_or_pos len with h | h
        · exact h
        · cases hao h
      obtain rfl := hnil rfl
      have hss : ss = [] := List.length_eq_zero_iff.1 (by omega)
      subst hl0 hss
      go_wp2_with (at_builtin; (refine wpList_append_own_none rfl _ _ 22 rfl w.heap.size 9 i0 1 Tryd.underlying22 hi _ _ _ rfl hO0 rfl ?_))
      go_meet
      case rel =>
        go_light
        exact ⟨_, rfl, hO0, Below.refl _ _⟩
    | some ad =>
      have hnews : ∀ j u, (ss.map Value.string)[j]? = some u → w.cell? (ad.add j) = some u := fun j u hu => by
        have hj : j < len := by have := (List.getElem?_eq_some_iff.1 hu).1; rwa [List.length_map, hl] at this
        have := Option.some.inj (hao (by omega))
        subst this
        rw [Addr.add_mid]; exact hs j u hu
      go_wp2_with (at_builtin; (refine wpList_append_own _ rfl _ _ 22 rfl w.heap.size 9 i0 (.string ByteArray.empty) 1 16 Tryd.underlying22 hi hz0 hz1 hz2 rfl (by decide) _ _ _ rfl hO0 ad len cap (ss.map Value.string) rfl hlm hnews hone hm0.out hb0 (Nat.le_refl _) ?_); intro v1 w1 hown hg hne)
      go_meet
      case rel =>
        go_light
        rw [Nat.zero_add, List.nil_append] at hown
        exact ⟨_, rfl, hown, (Below.refl _ _).grown hg (Nat.le_refl _) (fun k hk => by cases hk)⟩
  case rest =>
    obtain ⟨v1, rfl, hown, hb⟩ := hcut
    have HO : Hid (∀ o, (wc.alloc o).ownsRow w.heap.size 9 1 v1 len (ss.map Value.string)) := fun o => owns_alloc hown o
    have HB : Hid (∀ o, Below w.heap.size w (wc.alloc o)) := fun o => hb.alloc hb.size o
    have HW : Hid (∀ k, v1.ownBlock = some k → w.heap.size ≤ k) := owns_own hown
    have hsz : w.heap.size ≤ wc.heap.size := hb.size
    clear hown hb hO0 hb0 hone hlm
    go_wp2_with (at_builtin; (refine wpList_append_own _ rfl _ _ 22 rfl w.heap.size 9 i0 (.string ByteArray.empty) 1 16 Tryd.underlying22 hi hz0 hz1 hz2 rfl (by decide) _ _ _ rfl (HO.out _) ⟨wc.heap.size, 0, none⟩ 2 2 [mark1, mark2] rfl rfl (cell_two_new _ _ _ _) (fun x hx => by simp at hx; rcases hx with rfl | rfl <;> rfl) hm1.out hb1.out (by simp; omega) ?_); intro v2 w2 hown hg hne)
    obtain ⟨g2, cp2, hv2, _⟩ := owns_form' hown (by omega)
    rw [hv2] at hown ⊢
    have HR : Hid (w2.ownsRow w.heap.size 9 1 (.slice (some ⟨g2, 0, none⟩) (len + 2) cp2) (len + 2) (ss.map Value.string ++ [mark1, mark2])) := hown
    have HB2 : Hid (Below w.heap.size w w2) := (HB.out _).grown hg (by simp; omega) HW.out
    clear hown hg hne hv2
    go_wp2
    go_ret
    exact ⟨g2, cp2, rfl, HR.out, HB2.out⟩
end Go.Proofs.YthcldaejihdahaaDoor
