/-
  Walks of package codec: must, single, number; a read that gives up. Own work.
-/
import Derived.Test.YtelglfmppmdmoaaCoMem
import Derived.Test.YtelglfmppmdmoaaCoSpec
import Derived.WalkLawsBesides
namespace Go.Proofs.Ytelglfmppmdmoaa
open Go.RowKit
attribute [local go_sem ↓] Go.wp_at_zero Go.wp_at_succ
/-- A read gives up. -/
abbrev pnc : Ending := .panicked [{ v := .iface 28 (.int .i64 140), recovered := false }]
theorem must_yes (w : World) (b : Bool) (hb : b = true) : Calls Try.prog 50 #[.bool b] w fun e w' => e = .returned (.tuple #[]) ∧ w' = w := by
  subst hb
  go_enter Try.func50, Try.ntmps50
  go_wp2
  go_end0
  exact ⟨rfl, rfl⟩
theorem must_no (w : World) (b : Bool) (hb : b = false) : Calls Try.prog 50 #[.bool b] w fun e w' => e = pnc ∧ w' = w := by
  subst hb
  go_enter Try.func50, Try.ntmps50
  go_wp2
  exact ⟨rfl, rfl, rfl⟩
theorem ext_drop (s : ByteArray) (k : Nat) : (s.extract k s.size).data.toList = s.data.toList.drop k := by
  rw [ByteArray.data_extract, Array.toList_extract, List.extract_eq_take_drop, List.take_of_length_le (by rw [List.length_drop, size_list]; omega)]
theorem ext_take (s : ByteArray) (k : Nat) : (s.extract 0 k).data.toList = s.data.toList.take k := by
  rw [ByteArray.data_extract, Array.toList_extract, List.extract_eq_take_drop, List.drop_zero, Nat.sub_zero]
theorem nb_some {s : ByteArray} {n : Nat} {r : List UInt8} (h : nmb s.data.toList = some (n, r)) : ∃ s', s'.data.toList = r ∧ nb s 0 = (n, 0, s') ∧ s'.size ≤ s.size := by
  unfold nmb at h
  split at h
  · rename_i h0
    obtain ⟨a, b, c, hc⟩ : ∃ a b c, scan s.data.toList 0 0 = (a, b, c) := ⟨_, _, _, rfl⟩
    rw [hc] at h h0
    simp only [Option.some.injEq, Prod.mk.injEq] at h h0
    subst h0
    obtain ⟨rfl, rfl⟩ := h
    refine ⟨_, ext_drop s c, nb_of hc, ?_⟩
    have := congrArg List.length (ext_drop s c)
    rw [size_list, List.length_drop, size_list] at this
    omega
  · cases h
theorem nb_none {s : ByteArray} (h : nmb s.data.toList = none) : ∃ n e s', nb s 0 = (n, e, s') ∧ e ≠ 0 := by
  unfold nmb at h
  split at h
  · cases h
  · rename_i h0
    obtain ⟨a, b, c, hc⟩ : ∃ a b c, scan s.data.toList 0 0 = (a, b, c) := ⟨_, _, _, rfl⟩
    rw [hc] at h0
    exact ⟨_, _, _, nb_err hc h0, h0⟩
theorem number_any (w : World) (p : Nat) (s : ByteArray) (hr : Rdr w p s 0) (hs : s.size ≤ 9223372036854775807) :
    Calls Try.prog 48 #[.pointer (some ⟨p, 0, none⟩)] w fun e w' => (∃ n s', nmb s.data.toList = some (n, s'.data.toList) ∧ e = .returned (.int .u64 (n : Int)) ∧ Rdr w' p s' 0 ∧ Ch p w w' ∧ s'.size ≤ s.size) ∨ (nmb s.data.toList = none ∧ e = pnc ∧ Ch p w w') := by
  have HR := rnum_any w p 0 s hr hs
  cases hn : nmb s.data.toList with
  | none =>
    obtain ⟨n, e, s', h1, h2⟩ := nb_none hn
    rw [h1] at HR
    have h2' : ((e : Int) == 0) = false := beq_false_of_ne (by omega)
    clear hr hs h1 hn h2
    go_enter Try.func48, Try.ntmps48
    go_wp2_with (first
      | (go_at_call 66; with_reducible refine HR.mono ?_; rintro x w1 ⟨rfl, h1, h2⟩)
      | (go_at_call 50; refine (must_no _ _ rfl).mono ?_; rintro x w2 ⟨rfl, rfl⟩))
    exact ⟨rfl, .inr ⟨trivial, rfl, h2⟩⟩
  | some a =>
    obtain ⟨n, r⟩ := a
    obtain ⟨s', rfl, h1, h3⟩ := nb_some hn
    rw [h1] at HR
    clear hr hs h1 hn
    go_enter Try.func48, Try.ntmps48
    go_wp2_with (first
      | (go_at_call 66; with_reducible refine HR.mono ?_; rintro x w1 ⟨rfl, h1, h2⟩)
      | (go_at_call 50; refine (must_yes _ _ rfl).mono ?_; rintro x w2 ⟨rfl, rfl⟩))
    go_ret
    exact .inl ⟨n, s', rfl, rfl, h1, h2, h3⟩
theorem single_any (w : World) (p : Nat) (s : ByteArray) (hr : Rdr w p s 0) (hs : s.size ≤ 9223372036854775807) :
    Calls Try.prog 47 #[.pointer (some ⟨p, 0, none⟩)] w fun e w' => (∃ b s', s.data.toList = b :: s'.data.toList ∧ e = .returned (.int .i64 (b.toNat : Int)) ∧ Rdr w' p s' 0 ∧ Ch p w w' ∧ s'.size ≤ s.size) ∨ (s.data.toList = [] ∧ e = pnc ∧ Ch p w w') := by
  have HR := take_any w p 0 s 1 hr
  by_cases h0 : s.size = 0
  · have ht : tk s 0 1 = (ByteArray.empty, 60, ByteArray.empty) := by rw [tk, if_neg (by simp), if_pos (by omega)]
    rw [ht] at HR
    have hl : s.data.toList = [] := List.length_eq_zero_iff.1 (by rw [size_list]; exact h0)
    clear hr hs ht
    go_enter Try.func47, Try.ntmps47
    go_wp2_with (first
      | (go_at_call 65; with_reducible refine HR.mono ?_; rintro x w1 ⟨rfl, h1, h2⟩)
      | (go_at_call 50; refine (must_no _ _ rfl).mono ?_; rintro x w2 ⟨rfl, rfl⟩))
    exact ⟨rfl, .inr ⟨hl, rfl, h2⟩⟩
  · have ht : tk s 0 1 = (s.extract 0 1, 0, s.extract 1 s.size) := by rw [tk, if_neg (by simp), if_neg (by omega)]; rfl
    rw [ht] at HR
    obtain ⟨b, r, hl⟩ : ∃ b r, s.data.toList = b :: r := by
      cases h : s.data.toList with
      | nil => exact absurd (by rw [← size_list, h]; rfl) h0
      | cons b r => exact ⟨b, r, rfl⟩
    have h1 : (s.extract 0 1).data.toList = [b] := by rw [ext_take, hl]; rfl
    have h2 : (s.extract 1 s.size).data.toList = r := by rw [ext_drop, hl]; rfl
    have h3 := congrArg List.length h2
    have h4 := congrArg List.length hl
    rw [size_list] at h3 h4
    generalize s.extract 0 1 = t at *
    generalize s.extract 1 s.size = s' at *
    subst h2
    obtain ⟨⟨t⟩⟩ := t
    obtain rfl : t = [b] := h1
    have hb : ∀ W, (Instr.index 9 (.string ⟨⟨[b]⟩⟩) (.int .i64 0)).run Try.prog W = .ok (.int .u8 (b.toNat : Int)) W := fun W => by
      have e : (⟨⟨[b]⟩⟩ : ByteArray)[0]? = some b := rfl
      simp [Instr.index, asIntOf, run_underlying Try.underlying9, e]
    clear hr hs ht h0
    go_enter Try.func47, Try.ntmps47
    go_wp2_with (first
      | (go_at_call 65; with_reducible refine HR.mono ?_; rintro x w1 ⟨rfl, h1, h2⟩)
      | (go_at_call 50; refine (must_yes _ _ rfl).mono ?_; rintro x w2 ⟨rfl, rfl⟩))
    go_ret
    have e2 : wrap64 (b.toNat : Int) = (b.toNat : Int) := by
      have := b.toNat_lt
      unfold wrap64
      omega
    exact .inl ⟨b, s', hl, congrArg (fun x => Ending.returned (.int .i64 x)) e2, h1, h2, by simp at h4; omega⟩
end Go.Proofs.Ytelglfmppmdmoaa
