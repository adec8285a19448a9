/-
  Walks of the reference: a Reader's Left, Take. Own work.
-/
import Derived.Test.YtelglfmppmdmoaaWRefA
import Derived.RegionTactic
namespace Go.Proofs.Ytelglfmppmdmoaa
open Go.RowKit
attribute [local go_sem ↓] Go.wp_at_zero Go.wp_at_succ
/-- The reference's Reader, as a value. -/
abbrev rv (T : ByteArray) (a e : Nat) : Value := .agg #[.string T, .int .i64 (a : Int), .int .i64 (e : Int)]
theorem below_drew {B : Nat} {a w : World} (h : Below B a w) : Below B a w.drew := ⟨h.os, h.tape, h.output, h.size, h.block⟩
theorem below_two (w : World) (o o' : Obj) : Below w.heap.size w ((w.alloc o).alloc o') := bal (bal (Below.refl _ _) o) o'
theorem refleft_any (w : World) (T : ByteArray) (a e n : Nat) (ha : a ≤ T.size) (hn : n = if e = 0 then T.size - a else 0) (hT : T.size ≤ 9223372036854775807) :
    Calls Try.prog 60 #[rv T a e] w fun x w' => x = .returned (.int .i64 (n : Int)) ∧ Below w.heap.size w w' := by
  by_cases he : e = 0
  · subst he
    rw [if_pos rfl] at hn
    have eq : (T.size : Int) - (a : Int) = (n : Int) := by omega
    clear hn
    go_enter Try.func60, Try.ntmps60
    go_wp2
    go_ret
    exact ⟨rfl, (Below.refl _ _).alloc (Nat.le_refl _) _⟩
  · rw [if_neg he] at hn
    subst hn
    have hz : ¬ (e : Int) = 0 := by omega
    go_enter Try.func60, Try.ntmps60
    go_wp2
    go_ret
    exact ⟨rfl, (Below.refl _ _).alloc (Nat.le_refl _) _⟩
/-- What the reference's Take answers: where it stands, its error, the text. -/
def rtk (T : ByteArray) (a e : Nat) (n : Int) : Nat × Nat × ByteArray :=
  if e ≠ 0 then (a, e, ByteArray.empty) else if n < 0 ∨ ((T.size - a : Nat) : Int) < n then (a, 60, ByteArray.empty) else (a + n.toNat, 0, T.extract a (a + n.toNat))
set_option maxRecDepth 100000 in
theorem reftake_any (w : World) (T : ByteArray) (a e : Nat) (n : Int) (ha : a ≤ T.size) (hT : T.size ≤ 9223372036854775807) :
    Calls Try.prog 61 #[rv T a e, .int .i64 n] w fun x w' => x = .returned (.tuple #[rv T (rtk T a e n).1 (rtk T a e n).2.1, .string (rtk T a e n).2.2, .int .i64 ((rtk T a e n).2.1 : Int)]) ∧ Below w.heap.size w w' := by
  by_cases he : e = 0
  · subst he
    by_cases hn : n < 0 ∨ ((T.size - a : Nat) : Int) < n
    · have ht : rtk T a 0 n = (a, 60, ByteArray.empty) := by rw [rtk, if_neg (by simp), if_pos hn]
      rw [ht]
      have hd : (T.size : Int) - (a : Int) = ((T.size - a : Nat) : Int) := by omega
      generalize T.size - a = q at *
      by_cases h0 : n < 0
      · go_enter Try.func61, Try.ntmps61
        go_wp2
        go_region
        go_wp2
        refine bodyPost_ret (v := .tuple #[rv T a 60, .string ByteArray.empty, .int .i64 60]) (by simp [results, Try.results61, go_sem]; rfl) rfl ⟨rfl, ?_⟩
        exact below_drew (below_two w _ _)
      · have h1 : (q : Int) < n := by omega
        go_enter Try.func61, Try.ntmps61
        go_wp2
        go_region
        go_wp2
        refine bodyPost_ret (v := .tuple #[rv T a 60, .string ByteArray.empty, .int .i64 60]) (by simp [results, Try.results61, go_sem]; rfl) rfl ⟨rfl, ?_⟩
        exact below_drew (below_two w _ _)
    · obtain ⟨k, rfl⟩ : ∃ k : Nat, n = k := ⟨n.toNat, by omega⟩
      have ht : rtk T a 0 (k : Int) = (a + k, 0, T.extract a (a + k)) := by rw [rtk, if_neg (by simp), if_neg hn]; simp
      rw [ht]
      have hd : (T.size : Int) - (a : Int) = ((T.size - a : Nat) : Int) := by omega
      have h0 : ¬ (k : Int) < 0 := by omega
      have h1 : ¬ ((T.size - a : Nat) : Int) < (k : Int) := by omega
      obtain ⟨b, hb⟩ : ∃ b, b = a + k := ⟨_, rfl⟩
      have e1 : (a : Int) + (k : Int) = (b : Int) := by omega
      have e2 : (a : Int) ≤ (b : Int) := by omega
      have e3 : (b : Int) ≤ (T.size : Int) := by omega
      rw [← hb]
      clear ht hn hb
      generalize T.size - a = q at *
      go_enter Try.func61, Try.ntmps61
      go_wp2
      refine bodyPost_ret (v := .tuple #[rv T b 0, .string (T.extract a b), .int .i64 0]) (by simp [results, Try.results61, go_sem]) rfl ⟨rfl, ?_⟩
      exact below_two w _ _
  · have ht : rtk T a e n = (a, e, ByteArray.empty) := by rw [rtk, if_pos he]
    rw [ht]
    have hz : ¬ (e : Int) = 0 := by omega
    go_enter Try.func61, Try.ntmps61
    go_wp2
    go_region
    go_wp2
    refine bodyPost_ret (v := .tuple #[rv T a e, .string ByteArray.empty, .int .i64 e]) (by simp [results, Try.results61, go_sem]; rfl) rfl ⟨rfl, ?_⟩
    exact below_drew (below_two w _ _)
end Go.Proofs.Ytelglfmppmdmoaa
