/-
  The laws' at. Own work.
-/
import Derived.Test.YtmhedhhbdpdafaaDOpen
namespace Go.Proofs.Ytmhedhhbdpdafaa
open Go.RowKit
theorem at_in (w : World) (s : ByteArray) (i : Nat) (h : i < s.size) :
    Calls Try.prog 28 #[.string s, .int .i64 (i : Int)] w fun e w' => e = .returned (.int .u8 ((s.data.toList.getD i 0).toNat : Int)) ∧ w' = w := by
  have h1 : (i : Int) < (s.size : Int) := by omega
  have h0 : (0 : Int) ≤ (i : Int) := by omega
  have e : s.data.toList.getD i 0 = s[i] := by
    have hd : i < s.data.toList.length := by rw [size_list]; exact h
    rw [List.getD_eq_getElem?_getD, List.getElem?_eq_getElem hd]
    rfl
  rw [e]
  clear e
  go_enter Try.func28, Try.ntmps28
  go_wp2
  go_ret
  exact ⟨rfl, rfl⟩
theorem at_out (w : World) (s : ByteArray) (i : Nat) (h : s.size ≤ i) :
    Calls Try.prog 28 #[.string s, .int .i64 (i : Int)] w fun e w' => e = .returned (.int .u8 0) ∧ w' = w := by
  have h1 : ¬ (i : Int) < (s.size : Int) := by omega
  go_enter Try.func28, Try.ntmps28
  go_wp2
  go_ret
  exact ⟨rfl, rfl⟩
theorem file_nil (w : World) (ao : Option Addr) (c : Nat) : Calls Try.prog 27 #[.slice ao 0 c] w fun e w' => e = .returned (.tuple #[.string ⟨#[]⟩, .bool true]) ∧ Below w.heap.size w w' := by
  go_enter Try.func27, Try.ntmps27
  go_wp2
  go_ret2
  exact ⟨rfl, Below.refl _ _⟩
set_option maxRecDepth 100000 in
set_option maxHeartbeats 1000000 in
theorem file_one (w : World) (ao : Option Addr) (b o c : Nat) (d : List UInt8) (hd : d ≠ []) (hr : RdF w ao b o [([102], d)]) : Calls Try.prog 27 #[.slice ao 1 c] w fun e w' => e = .returned (.tuple #[.string ⟨d.toArray⟩, .bool true]) ∧ Below w.heap.size w w' := by
  obtain rfl := hr.ptr (by simp)
  have c0 : w.cell? ⟨b, o, none⟩ = some (.string ⟨#[102]⟩) := hr.c0 0 (by simp)
  have c1 : w.cell? ⟨b, o + 1, none⟩ = some (.string ⟨d.toArray⟩) := hr.c1 0 (by simp)
  obtain ⟨t, ht⟩ : ∃ t : ByteArray, (⟨d.toArray⟩ : ByteArray) = t := ⟨_, rfl⟩
  have hne : ¬ (t = ⟨#[]⟩) := by
    rintro rfl
    apply hd
    have : d.toArray = #[] := congrArg ByteArray.data ht
    simpa using this
  have hem : t.toList.isEmpty = false := by
    have h1 : t.toList = d := by rw [← ht]; simp [ByteArray.toList_eq]
    rw [h1]
    cases d with
    | nil => exact absurd rfl hd
    | cons => rfl
  rw [ht] at c1 ⊢
  clear hr hd ht hne
  go_enter Try.func27, Try.ntmps27
  go_upto_region 3 with (fail)
  go_quiet (fail)
  go_wp2
  go_ret2
  exact ⟨rfl, below_drewN (Below.refl _ _) _⟩
end Go.Proofs.Ytmhedhhbdpdafaa
