/-
  Walks of package wire: Take, a Reader's Number. Own work.
-/
import Derived.Test.YtelglfmppmdmoaaWWalkA
namespace Go.Proofs.Ytelglfmppmdmoaa
open Go.RowKit
attribute [local go_sem ↓] Go.wp_at_zero Go.wp_at_succ
/-- What Take answers, and what is left. -/
def tk (s : ByteArray) (e : Nat) (n : Int) : ByteArray × Nat × ByteArray :=
  if e ≠ 0 then (ByteArray.empty, e, s) else if n < 0 ∨ (s.size : Int) < n then (ByteArray.empty, 60, ByteArray.empty) else (s.extract 0 n.toNat, 0, s.extract n.toNat s.size)
theorem take_any (w : World) (p e : Nat) (s : ByteArray) (n : Int) (hr : Rdr w p s e) :
    Calls Try.prog 65 #[.pointer (some ⟨p, 0, none⟩), .int .i64 n] w fun x w' => x = .returned (.tuple #[.string (tk s e n).1, .int .i64 ((tk s e n).2.1 : Int)]) ∧ Rdr w' p (tk s e n).2.2 (tk s e n).2.1 ∧ Ch p w w' := by
  have c0 := hr.c0
  have c1 := hr.c1
  have f0 := hr.f0
  have f1 := hr.f1
  by_cases he : e = 0
  · subst he
    by_cases hn : n < 0 ∨ (s.size : Int) < n
    · have ht : tk s 0 n = (ByteArray.empty, 60, ByteArray.empty) := by rw [tk, if_neg (by simp), if_pos hn]
      rw [ht]
      have HF := fail_any w p 60 s hr
      clear hr
      by_cases h0 : n < 0
      · go_enter Try.func65, Try.ntmps65
        go_wp2_with (go_at_call 74; refine HF.mono ?_; rintro x w' ⟨rfl, h1, h2⟩)
        go_ret2
        exact ⟨rfl, h1, h2⟩
      · have h1 : (s.size : Int) < n := by omega
        go_enter Try.func65, Try.ntmps65
        go_wp2_with (go_at_call 74; refine HF.mono ?_; rintro x w' ⟨rfl, h1, h2⟩)
        go_ret2
        exact ⟨rfl, h1, h2⟩
    · have ht : tk s 0 n = (s.extract 0 n.toNat, 0, s.extract n.toNat s.size) := by rw [tk, if_neg (by simp), if_neg hn]
      rw [ht]
      obtain ⟨k, rfl⟩ : ∃ k : Nat, n = k := ⟨n.toNat, by omega⟩
      have h0 : ¬ (k : Int) < 0 := by omega
      have h1 : ¬ (s.size : Int) < (k : Int) := by omega
      have h2 : (k : Int) ≤ (s.size : Int) := by omega
      have R1 : Hid (Rdr (w.setCell ⟨p, 0, none⟩ (.string (s.extract k s.size))) p (s.extract k s.size) 0) := hr.set0 _
      clear hr
      go_enter Try.func65, Try.ntmps65
      go_wp2
      go_ret2
      exact ⟨rfl, R1.out, (Ch.refl p w).set 0 _⟩
  · have ht : tk s e n = (ByteArray.empty, e, s) := by rw [tk, if_pos he]
    rw [ht]
    have hz : ¬ (e : Int) = 0 := by omega
    go_enter Try.func65, Try.ntmps65
    go_wp2
    go_quiet (fail)
    go_wp2
    go_ret2
    exact ⟨rfl, hr.drewN _, (Ch.refl p w).drewN _⟩
end Go.Proofs.Ytelglfmppmdmoaa
