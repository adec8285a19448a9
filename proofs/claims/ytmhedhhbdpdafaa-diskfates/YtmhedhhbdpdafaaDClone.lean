/-
  slices.Clone of truths, Lay. Own work.
-/
import Derived.Test.YtmhedhhbdpdafaaDTwo
import Derived.Lib.BufferMore
namespace Go.Proofs.Ytmhedhhbdpdafaa
open Go.RowKit
/-- Truths as cells. -/
def cB (ks : List Bool) : List Value := ks.map .bool
/-- A list of truths of one's own. -/
def OwnL (w : World) (B : Nat) (v : Value) (ks : List Bool) : Prop := w.ownsRow B 4 1 v ks.length (cB ks)
theorem Try.infoB : (Try.prog.info? 4).map (fun i => (i.zero, i.size, i.bytes)) = some (some (.bool false), 1, 1) := by kernel_rfl
theorem ownL_rd {w : World} {B : Nat} {v : Value} {ks : List Bool} (h : OwnL w B v ks) : ∃ ao b cap, v = .slice ao ks.length cap ∧ RdL w ao b 0 ks ∧ (0 < ks.length → Ty w b 4 ∧ B ≤ b) := by
  rcases h.2 with ⟨e1, e2⟩ | ⟨g, cap, cur, e1, e2, hb, h1, h2, h3, h4⟩
  · refine ⟨none, 0, 0, by rw [e1, e2], ⟨fun h0 => ?_, fun j hj => ?_⟩, fun h0 => ?_⟩ <;> omega
  · refine ⟨some ⟨g, 0, none⟩, g, cap, e1, ⟨fun _ => rfl, fun j hj => ?_⟩, fun _ => ⟨⟨_, _, hb⟩, e2⟩⟩
    rw [cell_of_row w g (0 + j) cur _ (0, 0) hb, Nat.zero_add]
    have := congrArg (fun x => x[j]?) h4
    simp only [List.getElem?_take, Nat.mul_one, if_pos hj] at this
    rw [Array.getElem?_toList] at this
    rw [this]
    simp [cB, List.getD_eq_getElem?_getD, hj]
set_option maxRecDepth 100000 in
set_option maxHeartbeats 1000000 in
theorem clone_any (w : World) (ao : Option Addr) (b o c : Nat) (ks : List Bool) (hk : RdL w ao b o ks) (hkl : ks.length ≤ 140737488355328) :
    Calls Try.prog 43 #[.slice ao ks.length c] w fun e w' => ∃ v, e = .returned v ∧ OwnL w' w.heap.size v ks ∧ Below w.heap.size w w' := by
  obtain ⟨i0, hi, hz0, hz1, hz2⟩ := info_parts Try.infoB
  obtain ⟨n, hn⟩ : ∃ n, ks.length = n := ⟨_, rfl⟩
  cases ao with
  | none =>
    have h0 : ks = [] := by
      rcases Nat.eq_zero_or_pos ks.length with q | q
      · exact List.length_eq_zero_iff.1 q
      · have := hk.ptr q; cases this
    subst h0
    simp only [List.length_nil] at hn ⊢
    subst hn
    have HE := Lib.run_eql_slice_nil_nil (P := Try.prog) w 0 c Try.underlying28
    clear hk hkl
    go_enter Try.func43, Try.ntmps43
    go_wp2
    go_ret
    exact ⟨_, rfl, ⟨rfl, .inl ⟨rfl, rfl⟩⟩, Below.refl _ _⟩
  | some a =>
    have HH : Hid (RdL w (some a) b o ks ∧ ks.length = n ∧ n ≤ 140737488355328) := ⟨hk, hn, by omega⟩
    have hb := bal (Below.refl w.heap.size w) (.cells #[] 4)
    have HO : Hid ((w.alloc (.cells #[] 4)).ownsRow w.heap.size 4 1 (.slice (some ⟨w.heap.size, 0, none⟩) 0 0) 0 []) := ⟨rfl, .inr ⟨w.heap.size, 0, _, rfl, Nat.le_refl _, new1 w _, Nat.zero_le _, by decide, rfl, rfl⟩⟩
    have HR := hide (hk.next hb)
    have HB := hide hb
    have HE := Lib.run_eql_slice_some_nil (P := Try.prog) w a n c Try.underlying28
    rw [hn]
    clear hk hkl hn hb
    go_enter Try.func43, Try.ntmps43
    go_wp2_with (at_builtin; refine wpList_append_own _ rfl _ _ 28 rfl w.heap.size 4 i0 (.bool false) 1 1 Try.underlying28 hi hz0 hz1 hz2 rfl (by decide) _ 0 [] rfl HO.out _ n c (cB ks) rfl ?c0 ?c1 ?c2 ?c3 ?c4 ?c5 ?_)
    case c0 => rw [cB, List.length_map, HH.out.2.1, Nat.mul_one]
    case c1 =>
      intro j u hu
      have hj : j < ks.length := by have := (List.getElem?_eq_some_iff.1 hu).1; simpa [cB] using this
      have ep := HR.out.ptr (by omega)
      injection ep with ep
      rw [ep, Addr.add_mid, HR.out.cell j hj]
      rw [← hu]
      simp [cB, List.getD_eq_getElem?_getD, hj]
    case c2 =>
      intro u hu
      obtain ⟨x, _, rfl⟩ := List.mem_map.1 hu
      rfl
    case c3 => have := HH.out.2.2; unfold maxLen; omega
    case c4 => have := HH.out.2.2; omega
    case c5 => have := HB.out.size; exact this
    intro v' w' o' g' _
    have HY : Hid (OwnL w' w.heap.size v' ks ∧ Below w.heap.size w w') := by
      refine ⟨?_, HB.out.trans ((Below.refl _ _).grown g' HB.out.size (fun k hk => by cases hk; exact Nat.le_refl _))⟩
      unfold OwnL
      rw [HH.out.2.1]
      exact o'
    clear o' g'
    go_wp2
    go_ret
    exact ⟨_, rfl, HY.out.1, HY.out.2⟩
end Go.Proofs.Ytmhedhhbdpdafaa
