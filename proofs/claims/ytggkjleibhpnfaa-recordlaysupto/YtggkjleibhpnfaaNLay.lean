/-
  Walks: Payload, Node. Own work.
-/
import Derived.Test.YtggkjleibhpnfaaNSld
namespace Go.Proofs.Ytggkjleibhpnfaa
open Go.RowKit
attribute [local go_sem ↓] Go.wp_at_zero Go.wp_at_succ
theorem zer_drop (n k : Nat) : (zer n).drop k = zer (n - k) := by simp [zer]
theorem ovr_app (a b t : List UInt8) (k : Nat) (hk : a.length = k) : ovr (a ++ b) k t = a ++ t ++ b.drop t.length := by
  subst hk
  rw [ovr, List.take_append_of_le_length (Nat.le_refl _), List.take_of_length_le (Nat.le_refl _), List.drop_append, List.drop_eq_nil_of_le (by omega), List.nil_append]
  congr 2
  omega
theorem ovr_zer (a t : List UInt8) (n k : Nat) (hk : a.length = k) : ovr (a ++ zer n) k t = a ++ t ++ zer (n - t.length) := by
  rw [ovr_app a (zer n) t k hk, zer_drop]
set_option maxRecDepth 100000 in
set_option maxHeartbeats 1000000 in
theorem payload_any (w : World) (s : ByteArray) (hs : s.size ≤ 9223372036854775807) (t : ByteArray) (ht : (⟨(payS s.data.toList).toArray⟩ : ByteArray) = t) :
    Calls Try.prog 8 #[.string s] w fun e w' => e = .returned (.string t) ∧ Below w.heap.size w w' := by
  rw [payS, size_list] at ht
  by_cases h1 : s.size ≤ 1048576
  · rw [if_pos h1] at ht
    have z1 : ¬ (s.size : Int) > 1048576 := by omega
    obtain ⟨n, hn⟩ : ∃ n, n = s.size := ⟨_, rfl⟩
    have z2 : (s.size : Int) ≤ 1048576 := by omega
    have hwr : IntKind.u64.wrap (s.size : Int) = (s.size : Int) := by rw [IntKind.wrap_u64]; omega
    have hz : (4 : Int) + (s.size : Int) + 4 = ((s.size + 8 : Nat) : Int) := by omega
    obtain ⟨o, ho⟩ : ∃ o, (if s.size + 8 - 4 = 4 then 0 else 4) = o := ⟨_, rfl⟩
    obtain ⟨w0, hw0⟩ : ∃ w0, w.alloc (.cells (Array.replicate (s.size + 8) (Value.int .u8 0)) 5) = w0 := ⟨_, rfl⟩
    have hmk : (Instr.makeSlice 41 (.int .i64 (4 + (s.size : Int) + 4)) (.int .i64 (4 + (s.size : Int) + 4))).run Try.prog w = .ok (.slice (some ⟨w.heap.size, 0, none⟩) (s.size + 8) (s.size + 8)) w0 := by
      rw [hz, ← hw0]; exact make_bytes _ (by omega) w
    have HW : Hid (Byt w0 w.heap.size (zer (s.size + 8)) ∧ Below w.heap.size w w0 ∧ w.heap.size < w0.heap.size) := by
      rw [← hw0]
      exact ⟨byt_made w _, bal (Below.refl _ _) _, by simp⟩
    have HPP : Hid (∀ W, Calls Try.prog 23 #[.slice (some ⟨w.heap.size, 0, none⟩) (s.size + 8) (s.size + 8)] W fun e w' => e = .returned (.tuple #[.slice (some ⟨w.heap.size, 0, none⟩) 4 4, .slice (some ⟨w.heap.size, o, none⟩) s.size s.size]) ∧ Below W.heap.size W w') := fun W =>
      pparts_any W w.heap.size (s.size + 8) (s.size + 8) (by omega) (Nat.le_refl _) (by omega) o ho s.size (by omega)
    have HPU : Hid (∀ W, Below w0.heap.size w0 W → Calls Try.prog 24 #[.slice (some ⟨w.heap.size, 0, none⟩) 4 4, .int .u64 (s.size : Int)] W fun e w' => e = .returned (.tuple #[]) ∧ (∀ ty, (Builtin.copy_ #[41, 9] ty #[.slice (some ⟨w.heap.size, o, none⟩) s.size s.size, .string s]).run Try.prog w' = .ok (goInt s.size) (w'.setCells w.heap.size 4 (cY s.data.toList))) ∧ Byt (w'.setCells w.heap.size 4 (cY s.data.toList)) w.heap.size (big 4 s.size ++ s.data.toList ++ zer 4) ∧ Below w.heap.size w (w'.setCells w.heap.size 4 (cY s.data.toList))) := fun W hb => by
      refine (put_any W w.heap.size 0 4 4 s.size (zer (s.size + 8)) (HW.out.1.next hb HW.out.2.2) (by rw [zer_len]; omega) (by decide) (by omega)).mono ?_
      rintro e w' ⟨rfl, hy, hup⟩
      rw [show zer (s.size + 8) = [] ++ zer (s.size + 8) from rfl, ovr_zer [] _ _ 0 rfl, big_len, List.nil_append] at hy
      refine ⟨rfl, fun ty => run_copy ty (k := 4) (n := s.size) (m := s.size) (o := o) hy (by rw [List.length_append, big_len, zer_len]; omega) (fun h => by rw [← ho, if_neg (by omega)]) (Nat.le_refl _), ?_, ?_⟩
      · have := hy.over 4 s.data.toList (by rw [List.length_append, big_len, zer_len, size_list]; omega)
        rw [ovr_zer _ _ _ 4 (big_len _ _), size_list, show s.size + 8 - 4 - s.size = 4 by omega] at this
        exact this
      · exact (Upo.sets (S := fun b => b = w.heap.size) (.inl rfl) (cY s.data.toList) 4 _ hup).since (bnext HW.out.2.1 hb) (Nat.le_refl _)
    have HSE : Hid (∀ W, Byt W w.heap.size (big 4 s.size ++ s.data.toList ++ zer 4) → Calls Try.prog 25 #[.slice (some ⟨w.heap.size, 0, none⟩) (s.size + 8) (s.size + 8)] W fun e w' => e = .returned (.string t) ∧ Below w.heap.size W w') := fun W hy => by
      have hlen : (big 4 s.size ++ s.data.toList ++ zer 4).length = s.size + 8 := by rw [List.length_append, List.length_append, big_len, zer_len, size_list]; omega
      have htk : (big 4 s.size ++ s.data.toList ++ zer 4).take (s.size + 8 - 4) = big 4 s.size ++ s.data.toList := by
        rw [List.take_append_of_le_length (by rw [List.length_append, big_len, size_list]; omega), List.take_of_length_le (by rw [List.length_append, big_len, size_list]; omega)]
      refine (sealed_any W w.heap.size (s.size + 8) (s.size + 8) _ hy hlen (by omega) (Nat.le_refl _) (by omega) t (by rw [htk, ← ht, pay, size_list])).mono ?_
      rintro e w' ⟨rfl, _, hup⟩
      exact ⟨rfl, hup.below (by have := hy.lt (by omega); omega) (fun b hb => by omega)⟩
    clear ho hn ht h1 hz hw0
    go_enter Try.func8, Try.ntmps8
    go_wp2_with (first
      | (go_at_call 23; with_reducible refine (HPP.out _).mono ?_; rintro e w1 ⟨rfl, hb⟩)
      | (go_at_call 24; with_reducible refine (HPU.out _ hb).mono ?_; rintro e w2 ⟨rfl, hcp, hy, hb2⟩; generalize w2.setCells w.heap.size 4 (cY s.data.toList) = w3 at *)
      | (refine wpList_copy_at (by rfl) _ _ _ _ (by rfl) (by rfl) (by rfl) (hcp _) ?_)
      | (go_at_call 25; with_reducible refine (HSE.out _ hy).mono ?_; rintro e w4 ⟨rfl, hb4⟩))
    go_ret
    exact ⟨rfl, hb2.trans hb4⟩
  · rw [if_neg h1] at ht
    subst ht
    have z1 : (s.size : Int) > 1048576 := by omega
    go_enter Try.func8, Try.ntmps8
    go_wp2
    go_ret
    exact ⟨rfl, Below.refl _ _⟩
theorem nod_row (p : Nat) (d : List UInt8) (h : d.length ≤ 32) : ovr (ovr (zer 40) 0 d) 32 (big 4 p) = d ++ zer (32 - d.length) ++ big 4 p ++ zer 4 := by
  rw [show zer 40 = [] ++ zer 40 from rfl, ovr_zer [] _ _ 0 rfl, List.nil_append]
  have e : zer (40 - d.length) = zer (32 - d.length) ++ zer 8 := by
    rw [zer, zer, zer, List.replicate_append_replicate]
    congr 1
    omega
  rw [e, ← List.append_assoc, ovr_zer _ _ _ 32 (by rw [List.length_append, zer_len]; omega), big_len]
set_option maxRecDepth 100000 in
set_option maxHeartbeats 1000000 in
theorem node_any (w : World) (p : Nat) (hp : p < 18446744073709551616) (s : ByteArray) (hs : s.size ≤ 9223372036854775807) (t : ByteArray) (ht : (⟨(nodS p s.data.toList).toArray⟩ : ByteArray) = t) :
    Calls Try.prog 11 #[.int .u64 (p : Int), .string s] w fun e w' => e = .returned (.string t) ∧ Below w.heap.size w w' := by
  rw [nodS, size_list] at ht
  by_cases h1 : s.size ≤ 32
  · rw [if_pos h1] at ht
    have z1 : ¬ (s.size : Int) > 32 := by omega
    have hd : s.data.toList.length ≤ 32 := by rw [size_list]; exact h1
    obtain ⟨w0, hw0⟩ : ∃ w0, w.alloc (.cells (Array.replicate 40 (Value.int .u8 0)) 5) = w0 := ⟨_, rfl⟩
    have hmk : (Instr.makeSlice 41 (.int .i64 40) (.int .i64 40)).run Try.prog w = .ok (.slice (some ⟨w.heap.size, 0, none⟩) 40 40) w0 := by
      rw [← hw0]; exact make_bytes 40 (by decide) w
    have HW : Hid (Byt w0 w.heap.size (zer 40) ∧ Below w.heap.size w w0 ∧ w.heap.size < w0.heap.size) := by
      rw [← hw0]
      exact ⟨byt_made w _, bal (Below.refl _ _) _, by simp⟩
    have HPP : Hid (∀ W, Calls Try.prog 28 #[.slice (some ⟨w.heap.size, 0, none⟩) 40 40] W fun e w' => e = .returned (.tuple #[.slice (some ⟨w.heap.size, 0, none⟩) 32 32, .slice (some ⟨w.heap.size, 32, none⟩) 4 4]) ∧ Below W.heap.size W w') := fun W =>
      nparts_any W w.heap.size 40 40 (by decide)
    have HCP : Hid (∀ W, Below w0.heap.size w0 W → (∀ ty, (Builtin.copy_ #[41, 9] ty #[.slice (some ⟨w.heap.size, 0, none⟩) 32 32, .string s]).run Try.prog W = .ok (goInt s.size) (W.setCells w.heap.size 0 (cY s.data.toList))) ∧ Byt (W.setCells w.heap.size 0 (cY s.data.toList)) w.heap.size (ovr (zer 40) 0 s.data.toList) ∧ Below w.heap.size w (W.setCells w.heap.size 0 (cY s.data.toList))) := fun W hb => by
      have hy := HW.out.1.next hb HW.out.2.2
      exact ⟨fun ty => run_copy ty (k := 0) (n := 32) (m := 32) (o := 0) hy (by rw [zer_len]; decide) (fun _ => rfl) h1, hy.over 0 _ (by rw [zer_len]; omega), (Upo.sets (S := fun b => b = w.heap.size) (.inl rfl) (cY s.data.toList) 0 _ (Upo.refl _ _)).since (bnext HW.out.2.1 hb) (Nat.le_refl _)⟩
    have HPU : Hid (∀ W, Byt W w.heap.size (ovr (zer 40) 0 s.data.toList) → Below w.heap.size w W → Calls Try.prog 24 #[.slice (some ⟨w.heap.size, 32, none⟩) 4 4, .int .u64 (p : Int)] W fun e w' => e = .returned (.tuple #[]) ∧ Byt w' w.heap.size (s.data.toList ++ zer (32 - s.data.toList.length) ++ big 4 p ++ zer 4) ∧ Below w.heap.size w w') := fun W hy hb => by
      refine (put_any W w.heap.size 32 4 4 p _ hy (by rw [ovr_len _ _ _ (by rw [zer_len]; omega), zer_len]; decide) (by decide) hp).mono ?_
      rintro e w' ⟨rfl, hy', hup⟩
      rw [nod_row p _ hd] at hy'
      exact ⟨rfl, hy', hup.since hb (Nat.le_refl _)⟩
    have HSE : Hid (∀ W, Byt W w.heap.size (s.data.toList ++ zer (32 - s.data.toList.length) ++ big 4 p ++ zer 4) → Calls Try.prog 25 #[.slice (some ⟨w.heap.size, 0, none⟩) 40 40] W fun e w' => e = .returned (.string t) ∧ Below w.heap.size W w') := fun W hy => by
      have hlen : (s.data.toList ++ zer (32 - s.data.toList.length) ++ big 4 p).length = 36 := by rw [List.length_append, List.length_append, big_len, zer_len]; omega
      have hlen2 : (s.data.toList ++ zer (32 - s.data.toList.length) ++ big 4 p ++ zer 4).length = 40 := by rw [List.length_append, hlen, zer_len]
      have htk : (s.data.toList ++ zer (32 - s.data.toList.length) ++ big 4 p ++ zer 4).take (40 - 4) = s.data.toList ++ zer (32 - s.data.toList.length) ++ big 4 p := by
        rw [List.take_append_of_le_length (by omega), List.take_of_length_le (by omega)]
      refine (sealed_any W w.heap.size 40 40 _ hy hlen2 (by omega) (Nat.le_refl _) (by omega) t (by rw [htk, ← ht, nod])).mono ?_
      rintro e w' ⟨rfl, _, hup⟩
      exact ⟨rfl, hup.below (by have := hy.lt (by omega); omega) (fun b hb => by omega)⟩
    clear ht h1 hd hw0 hp
    go_enter Try.func11, Try.ntmps11
    go_wp2_with (first
      | (go_at_call 28; with_reducible refine (HPP.out _).mono ?_; rintro e w1 ⟨rfl, hb⟩; obtain ⟨hcp, hy, hb2⟩ := HCP.out _ hb; generalize w1.setCells w.heap.size 0 (cY s.data.toList) = w3 at *)
      | (refine wpList_copy_at (by rfl) _ _ _ _ (by rfl) (by rfl) (by rfl) (hcp _) ?_)
      | (go_at_call 24; with_reducible refine (HPU.out _ hy hb2).mono ?_; rintro e w4 ⟨rfl, hy, hb4⟩)
      | (go_at_call 25; with_reducible refine (HSE.out _ hy).mono ?_; rintro e w5 ⟨rfl, hb5⟩))
    go_ret
    exact ⟨rfl, hb4.trans hb5⟩
  · rw [if_neg h1] at ht
    subst ht
    have z1 : (s.size : Int) > 32 := by omega
    go_enter Try.func11, Try.ntmps11
    go_wp2
    go_ret
    exact ⟨rfl, Below.refl _ _⟩
end Go.Proofs.Ytggkjleibhpnfaa
