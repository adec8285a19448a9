/-
  Own work: NSld, NLay, NChn, NRd, NMrk, NRm.
-/
import Derived.BigQuiet
import Derived.Deep.Cut
import Derived.Deep.CutRange
import Derived.Test.YthfnpagangjpbabGreatV01
namespace Go.Proofs.YthfnpagangjpbabGreat.Rc
open Go.RowKit
attribute [local go_sem ↓] Go.wp_at_zero Go.wp_at_succ
set_option maxRecDepth 100000 in
theorem strength_any (w : World) (k : Int) : Calls Tryz.prog 83 #[.int .i64 k] w fun e w' => e = .returned (.bool (decide (1 ≤ k ∧ k ≤ 32))) ∧ w' = w := by
  by_cases h1 : 1 ≤ k
  · by_cases h2 : k ≤ 32
    · have e : decide (1 ≤ k ∧ k ≤ 32) = true := by simp [h1, h2]
      rw [e]
      go_enter Tryz.func83, Tryz.ntmps83
      go_wp2
      go_ret
      exact ⟨rfl, rfl⟩
    · have e : decide (1 ≤ k ∧ k ≤ 32) = false := by simp [h2]
      rw [e]
      go_enter Tryz.func83, Tryz.ntmps83
      go_wp2
      go_ret
      exact ⟨rfl, rfl⟩
  · have e : decide (1 ≤ k ∧ k ≤ 32) = false := by simp [h1]
    rw [e]
    go_enter Tryz.func83, Tryz.ntmps83
    go_wp2
    go_ret
    exact ⟨rfl, rfl⟩
set_option maxRecDepth 100000 in
theorem pparts_any (w : World) (g n cap : Nat) (h8 : 8 ≤ n) (hc : n ≤ cap) (hm : n ≤ 140737488355328) (o : Nat) (ho : (if n - 4 = 4 then 0 else 4) = o) (m : Nat) (hm2 : n - 8 = m) :
    Calls Tryz.prog 103 #[.slice (some ⟨g, 0, none⟩) n cap] w fun e w' => e = .returned (.tuple #[.slice (some ⟨g, 0, none⟩) 4 4, .slice (some ⟨g, o, none⟩) m m]) ∧ Below w.heap.size w w' := by
  have z1 : (0 : Int) ≤ (n : Int) - 4 := by omega
  have z2 : (n : Int) - 4 ≤ (cap : Int) := by omega
  have z3 : (4 : Int) ≤ (n : Int) - 4 := by omega
  have z4 : (4 : Int) ≤ (cap : Int) := by omega
  have z5 : (n : Int) ≤ 140737488355328 := by omega
  have HO : Hid ((if n - 4 = 4 then 0 else 4) = o ∧ n - 4 - 4 = m) := ⟨ho, by omega⟩
  clear ho hm2
  go_enter Tryz.func103, Tryz.ntmps103
  go_wp2
  go_quiet (fail)
  go_wp2
  · obtain ⟨h1, h2⟩ := HO.out
    rw [if_pos h] at h1
    obtain rfl : m = 0 := by omega
    subst h1
    exact bodyPost_ret (v := .tuple #[.slice (some ⟨g, 0, none⟩) 4 4, .slice (some ⟨g, 0, none⟩) 0 0]) (by simp [results, Tryz.results103, go_sem]) rfl ⟨rfl, below_drewN (Below.refl _ _) _⟩
  · obtain ⟨h1, h2⟩ := HO.out
    rw [if_neg h] at h1
    rw [h2]
    subst h1
    exact bodyPost_ret (v := .tuple #[.slice (some ⟨g, 0, none⟩) 4 4, .slice (some ⟨g, 4, none⟩) m m]) (by simp [results, Tryz.results103, go_sem]) rfl ⟨rfl, below_drewN (Below.refl _ _) _⟩
set_option maxRecDepth 100000 in
theorem nparts_any (w : World) (g n cap : Nat) (h8 : 36 ≤ cap) :
    Calls Tryz.prog 84 #[.slice (some ⟨g, 0, none⟩) n cap] w fun e w' => e = .returned (.tuple #[.slice (some ⟨g, 0, none⟩) 32 32, .slice (some ⟨g, 32, none⟩) 4 4]) ∧ Below w.heap.size w w' := by
  have z1 : (36 : Int) ≤ (cap : Int) := by omega
  have z2 : (32 : Int) ≤ (cap : Int) := by omega
  go_enter Tryz.func84, Tryz.ntmps84
  go_wp2
  go_quiet (fail)
  go_wp2
  refine bodyPost_ret (v := .tuple #[.slice (some ⟨g, 0, none⟩) 32 32, .slice (some ⟨g, 32, none⟩) 4 4]) (by simp [results, Tryz.results84, go_sem]) rfl ⟨rfl, below_drewN (Below.refl _ _) _⟩
def mP (g : Nat) : Value := .agg #[.slice (some ⟨g, 0, none⟩) 4 4, .slice (some ⟨g, 4, none⟩) 1 1, .slice (some ⟨g, 8, none⟩) 8 8, .slice (some ⟨g, 16, none⟩) 8 8, .slice (some ⟨g, 24, none⟩) 8 8, .slice (some ⟨g, 32, none⟩) 4 4]
set_option maxRecDepth 100000 in
theorem mparts_any (w : World) (g n cap : Nat) (h8 : 36 ≤ cap) :
    Calls Tryz.prog 114 #[.slice (some ⟨g, 0, none⟩) n cap] w fun e w' => e = .returned (mP g) ∧ Below w.heap.size w w' := by
  have z1 : (36 : Int) ≤ (cap : Int) := by omega
  have z2 : (32 : Int) ≤ (cap : Int) := by omega
  have z3 : (24 : Int) ≤ (cap : Int) := by omega
  have z4 : (16 : Int) ≤ (cap : Int) := by omega
  have z5 : (5 : Int) ≤ (cap : Int) := by omega
  have z6 : (4 : Int) ≤ (cap : Int) := by omega
  go_enter Tryz.func114, Tryz.ntmps114
  go_wp2
  go_region
  go_wp2
  refine bodyPost_ret (v := mP g) (by simp [results, Tryz.results114, go_sem, mP]) rfl ⟨rfl, below_drewN (bal (Below.refl _ _) _) 1⟩
set_option maxRecDepth 100000 in
set_option maxHeartbeats 1000000 in
theorem sealed_any (w : World) (g n cap : Nat) (l : List UInt8) (hl : Byt w g l) (hn : l.length = n) (h8 : 8 ≤ n) (hc : n ≤ cap) (hm : n ≤ 140737488355328) (t : ByteArray) (ht : (⟨(sld (l.take (n - 4))).toArray⟩ : ByteArray) = t) :
    Calls Tryz.prog 105 #[.slice (some ⟨g, 0, none⟩) n cap] w fun e w' => e = .returned (.string t) ∧ Byt w' g (sld (l.take (n - 4))) ∧ Upo (fun b => b = g) w w' := by
  obtain ⟨k, hk⟩ : ∃ k, n = k + 4 := ⟨n - 4, by omega⟩
  subst hk
  rw [Nat.add_sub_cancel] at ht ⊢
  obtain ⟨u, hu⟩ : ∃ u : ByteArray, (⟨(l.take k).toArray⟩ : ByteArray) = u := ⟨_, rfl⟩
  have hul : u.data.toList = l.take k := by rw [← hu]
  have hus : u.size = k := by rw [← size_list, hul]; simp; omega
  have z1 : (0 : Int) ≤ (k : Int) := by omega
  have z2 : (k : Int) ≤ (cap : Int) := by omega
  have z3 : ((k + 4 : Nat) : Int) - 4 = (k : Int) := by omega
  have z4 : (k : Int) ≤ 140737488355328 := by omega
  have z5 : (k : Int) ≤ ((k + 4 : Nat) : Int) := by omega
  have z6 : ¬ cap = k := by omega
  have HL : Hid (Byt w g l ∧ l.length = k + 4 ∧ g < w.heap.size) := ⟨hl, hn, hl.lt (by omega)⟩
  have HC : Hid (∀ W, Below w.heap.size w W → (convert 111 9 (.slice (some ⟨g, 0, none⟩) k k)).run Tryz.prog W = .ok (.string u) W) := fun W hb =>
    (HL.out.1.next hb HL.out.2.2).conv (k := 0) (n := k) (by have := HL.out.2.1; omega) 0 (fun _ => rfl) k u (by rw [List.drop_zero]; exact hu)
  obtain ⟨x, hx⟩ : ∃ x, crc (l.take k) = x := ⟨_, rfl⟩
  have hx4 := crc_lt (l.take k)
  rw [hx] at hx4
  have HF : Hid (∀ W, Calls Tryz.prog 137 #[.slice (some ⟨W.heap.size, 0, none⟩) 1 1] (W.alloc (.cells #[.string u] 9)) fun e w' => e = .returned (.int .u32 (x : Int)) ∧ Below W.heap.size W w') := fun W => by
    refine (of_any _ _ W.heap.size 0 1 1 [u] ⟨rfl, fun _ => rfl, range_new W [.string u] 9, by intro s hs; simp at hs; subst hs; omega⟩ (by decide)).mono ?_
    rintro e w' ⟨rfl, hb⟩
    refine ⟨?_, ((Below.refl _ _).alloc (Nat.le_refl _) _).trans (hb.mono (by simp))⟩
    rw [← hx, crc, sumL, ← hul]
    simp [flat]
  have HP : Hid (∀ W, Below w.heap.size w W → Calls Tryz.prog 104 #[.slice (some ⟨g, k, none⟩) 4 (cap - k), .int .u64 (x : Int)] W fun e w' => e = .returned (.tuple #[]) ∧ Byt w' g (sld (l.take k)) ∧ Upo (fun b => b = g) w w') := fun W hb => by
    refine (put_any W g k 4 (cap - k) x l (HL.out.1.next hb HL.out.2.2) (by have := HL.out.2.1; omega) (by decide) (by omega)).mono ?_
    rintro e w' ⟨rfl, hy, hup⟩
    refine ⟨rfl, ?_, (Upo.of hb).on hup⟩
    rw [ovr, big_len, List.drop_eq_nil_of_le (by rw [hn]; exact Nat.le_refl _), List.append_nil, ← hx] at hy
    exact hy
  have HD : Hid (∀ W, Byt W g (sld (l.take k)) → (convert 111 9 (.slice (some ⟨g, 0, none⟩) (k + 4) cap)).run Tryz.prog W = .ok (.string t) W) := fun W hy => by
    have hsl : (sld (l.take k)).length = k + 4 := by rw [sld_len]; simp; omega
    exact hy.conv (k := 0) (n := k + 4) (by omega) 0 (fun _ => rfl) cap t (by rw [List.drop_zero, List.take_of_length_le (by omega)]; exact ht)
  clear hl hn ht hx hu hul hus
  go_enter Tryz.func105, Tryz.ntmps105
  go_wp2
  go_quiet (fail)
  have hb0 : Below w.heap.size w (w.drewN nq) := below_drewN (Below.refl _ _) _
  have kc := HC.out _ hb0
  generalize w.drewN nq = w1 at *
  go_wp2_with (first
    | (go_at_call 137; with_reducible refine (HF.out _).mono ?_; rintro e w2 ⟨rfl, hb⟩)
    | (go_at_call 104; with_reducible refine (HP.out _ (hb0.trans (hb.mono hb0.size))).mono ?_; rintro e w3 ⟨rfl, hy, hup⟩; have kd := HD.out _ hy))
  go_ret
  exact ⟨rfl, hy, hup⟩
end Go.Proofs.YthfnpagangjpbabGreat.Rc
namespace Go.Proofs.YthfnpagangjpbabGreat.Rc
open Go.RowKit
attribute [local go_sem ↓] Go.wp_at_zero Go.wp_at_succ
theorem zer_drop (n k : Nat) : (zer n).drop k = zer (n - k) := by simp [zer]
theorem ovr_app (a b t : List UInt8) (k : Nat) (hk : a.length = k) : ovr (a ++ b) k t = a ++ t ++ b.drop t.length := by
  subst hk
  rw [ovr, List.take_append_of_le_length (Nat.le_refl _), List.take_of_length_le (Nat.le_refl _), List.drop_append, List.drop_eq_nil_of_le (by omega), List.nil_append]
  congr 2
  omega
theorem ovr_zer (a t : List UInt8) (n k : Nat) (hk : a.length = k) : ovr (a ++ zer n) k t = a ++ t ++ zer (n - t.length) := by
  rw [ovr_app a (zer n) t k hk, zer_drop]
set_option maxRecDepth 100000 in
set_option maxHeartbeats 1000000 in
theorem payload_any (w : World) (s : ByteArray) (hs : s.size ≤ 9223372036854775807) (t : ByteArray) (ht : (⟨(payS s.data.toList).toArray⟩ : ByteArray) = t) :
    Calls Tryz.prog 55 #[.string s] w fun e w' => e = .returned (.string t) ∧ Below w.heap.size w w' := by
  rw [payS, size_list] at ht
  by_cases h1 : s.size ≤ 1048576
  · rw [if_pos h1] at ht
    have z1 : ¬ (s.size : Int) > 1048576 := by omega
    obtain ⟨n, hn⟩ : ∃ n, n = s.size := ⟨_, rfl⟩
    have z2 : (s.size : Int) ≤ 1048576 := by omega
    have hwr : IntKind.u64.wrap (s.size : Int) = (s.size : Int) := by rw [IntKind.wrap_u64]; omega
    have hz : (4 : Int) + (s.size : Int) + 4 = ((s.size + 8 : Nat) : Int) := by omega
    obtain ⟨o, ho⟩ : ∃ o, (if s.size + 8 - 4 = 4 then 0 else 4) = o := ⟨_, rfl⟩
    obtain ⟨w0, hw0⟩ : ∃ w0, w.alloc (.cells (Array.replicate (s.size + 8) (Value.int .u8 0)) 5) = w0 := ⟨_, rfl⟩
    have hmk : (Instr.makeSlice 111 (.int .i64 (4 + (s.size : Int) + 4)) (.int .i64 (4 + (s.size : Int) + 4))).run Tryz.prog w = .ok (.slice (some ⟨w.heap.size, 0, none⟩) (s.size + 8) (s.size + 8)) w0 := by
      rw [hz, ← hw0]; exact make_bytes _ (by omega) w
    have HW : Hid (Byt w0 w.heap.size (zer (s.size + 8)) ∧ Below w.heap.size w w0 ∧ w.heap.size < w0.heap.size) := by
      rw [← hw0]
      exact ⟨byt_made w _, bal (Below.refl _ _) _, by simp⟩
    have HPP : Hid (∀ W, Calls Tryz.prog 103 #[.slice (some ⟨w.heap.size, 0, none⟩) (s.size + 8) (s.size + 8)] W fun e w' => e = .returned (.tuple #[.slice (some ⟨w.heap.size, 0, none⟩) 4 4, .slice (some ⟨w.heap.size, o, none⟩) s.size s.size]) ∧ Below W.heap.size W w') := fun W =>
      pparts_any W w.heap.size (s.size + 8) (s.size + 8) (by omega) (Nat.le_refl _) (by omega) o ho s.size (by omega)
    have HPU : Hid (∀ W, Below w0.heap.size w0 W → Calls Tryz.prog 104 #[.slice (some ⟨w.heap.size, 0, none⟩) 4 4, .int .u64 (s.size : Int)] W fun e w' => e = .returned (.tuple #[]) ∧ (∀ ty, (Builtin.copy_ #[111, 9] ty #[.slice (some ⟨w.heap.size, o, none⟩) s.size s.size, .string s]).run Tryz.prog w' = .ok (goInt s.size) (w'.setCells w.heap.size 4 (cY s.data.toList))) ∧ Byt (w'.setCells w.heap.size 4 (cY s.data.toList)) w.heap.size (big 4 s.size ++ s.data.toList ++ zer 4) ∧ Below w.heap.size w (w'.setCells w.heap.size 4 (cY s.data.toList))) := fun W hb => by
      refine (put_any W w.heap.size 0 4 4 s.size (zer (s.size + 8)) (HW.out.1.next hb HW.out.2.2) (by rw [zer_len]; omega) (by decide) (by omega)).mono ?_
      rintro e w' ⟨rfl, hy, hup⟩
      rw [show zer (s.size + 8) = [] ++ zer (s.size + 8) from rfl, ovr_zer [] _ _ 0 rfl, big_len, List.nil_append] at hy
      refine ⟨rfl, fun ty => run_copy ty (k := 4) (n := s.size) (m := s.size) (o := o) hy (by rw [List.length_append, big_len, zer_len]; omega) (fun h => by rw [← ho, if_neg (by omega)]) (Nat.le_refl _), ?_, ?_⟩
      · have := hy.over 4 s.data.toList (by rw [List.length_append, big_len, zer_len, size_list]; omega)
        rw [ovr_zer _ _ _ 4 (big_len _ _), size_list, show s.size + 8 - 4 - s.size = 4 by omega] at this
        exact this
      · exact (Upo.sets (S := fun b => b = w.heap.size) (.inl rfl) (cY s.data.toList) 4 _ hup).since (bnext HW.out.2.1 hb) (Nat.le_refl _)
    have HSE : Hid (∀ W, Byt W w.heap.size (big 4 s.size ++ s.data.toList ++ zer 4) → Calls Tryz.prog 105 #[.slice (some ⟨w.heap.size, 0, none⟩) (s.size + 8) (s.size + 8)] W fun e w' => e = .returned (.string t) ∧ Below w.heap.size W w') := fun W hy => by
      have hlen : (big 4 s.size ++ s.data.toList ++ zer 4).length = s.size + 8 := by rw [List.length_append, List.length_append, big_len, zer_len, size_list]; omega
      have htk : (big 4 s.size ++ s.data.toList ++ zer 4).take (s.size + 8 - 4) = big 4 s.size ++ s.data.toList := by
        rw [List.take_append_of_le_length (by rw [List.length_append, big_len, size_list]; omega), List.take_of_length_le (by rw [List.length_append, big_len, size_list]; omega)]
      refine (sealed_any W w.heap.size (s.size + 8) (s.size + 8) _ hy hlen (by omega) (Nat.le_refl _) (by omega) t (by rw [htk, ← ht, pay, size_list])).mono ?_
      rintro e w' ⟨rfl, _, hup⟩
      exact ⟨rfl, hup.below (by have := hy.lt (by omega); omega) (fun b hb => by omega)⟩
    clear ho hn ht h1 hz hw0
    go_enter Tryz.func55, Tryz.ntmps55
    go_wp2_with (first
      | (go_at_call 103; with_reducible refine (HPP.out _).mono ?_; rintro e w1 ⟨rfl, hb⟩)
      | (go_at_call 104; with_reducible refine (HPU.out _ hb).mono ?_; rintro e w2 ⟨rfl, hcp, hy, hb2⟩; generalize w2.setCells w.heap.size 4 (cY s.data.toList) = w3 at *)
      | (refine wpList_copy_at (by rfl) _ _ _ _ (by rfl) (by rfl) (by rfl) (hcp _) ?_)
      | (go_at_call 105; with_reducible refine (HSE.out _ hy).mono ?_; rintro e w4 ⟨rfl, hb4⟩))
    go_ret
    exact ⟨rfl, hb2.trans hb4⟩
  · rw [if_neg h1] at ht
    subst ht
    have z1 : (s.size : Int) > 1048576 := by omega
    go_enter Tryz.func55, Tryz.ntmps55
    go_wp2
    go_ret
    exact ⟨rfl, Below.refl _ _⟩
theorem nod_row (p : Nat) (d : List UInt8) (h : d.length ≤ 32) : ovr (ovr (zer 40) 0 d) 32 (big 4 p) = d ++ zer (32 - d.length) ++ big 4 p ++ zer 4 := by
  rw [show zer 40 = [] ++ zer 40 from rfl, ovr_zer [] _ _ 0 rfl, List.nil_append]
  have e : zer (40 - d.length) = zer (32 - d.length) ++ zer 8 := by
    rw [zer, zer, zer, List.replicate_append_replicate]
    congr 1
    omega
  rw [e, ← List.append_assoc, ovr_zer _ _ _ 32 (by rw [List.length_append, zer_len]; omega), big_len]
set_option maxRecDepth 100000 in
set_option maxHeartbeats 1000000 in
theorem node_any (w : World) (p : Nat) (hp : p < 18446744073709551616) (s : ByteArray) (hs : s.size ≤ 9223372036854775807) (t : ByteArray) (ht : (⟨(nodS p s.data.toList).toArray⟩ : ByteArray) = t) :
    Calls Tryz.prog 85 #[.int .u64 (p : Int), .string s] w fun e w' => e = .returned (.string t) ∧ Below w.heap.size w w' := by
  rw [nodS, size_list] at ht
  by_cases h1 : s.size ≤ 32
  · rw [if_pos h1] at ht
    have z1 : ¬ (s.size : Int) > 32 := by omega
    have hd : s.data.toList.length ≤ 32 := by rw [size_list]; exact h1
    obtain ⟨w0, hw0⟩ : ∃ w0, w.alloc (.cells (Array.replicate 40 (Value.int .u8 0)) 5) = w0 := ⟨_, rfl⟩
    have hmk : (Instr.makeSlice 111 (.int .i64 40) (.int .i64 40)).run Tryz.prog w = .ok (.slice (some ⟨w.heap.size, 0, none⟩) 40 40) w0 := by
      rw [← hw0]; exact make_bytes 40 (by decide) w
    have HW : Hid (Byt w0 w.heap.size (zer 40) ∧ Below w.heap.size w w0 ∧ w.heap.size < w0.heap.size) := by
      rw [← hw0]
      exact ⟨byt_made w _, bal (Below.refl _ _) _, by simp⟩
    have HPP : Hid (∀ W, Calls Tryz.prog 84 #[.slice (some ⟨w.heap.size, 0, none⟩) 40 40] W fun e w' => e = .returned (.tuple #[.slice (some ⟨w.heap.size, 0, none⟩) 32 32, .slice (some ⟨w.heap.size, 32, none⟩) 4 4]) ∧ Below W.heap.size W w') := fun W =>
      nparts_any W w.heap.size 40 40 (by decide)
    have HCP : Hid (∀ W, Below w0.heap.size w0 W → (∀ ty, (Builtin.copy_ #[111, 9] ty #[.slice (some ⟨w.heap.size, 0, none⟩) 32 32, .string s]).run Tryz.prog W = .ok (goInt s.size) (W.setCells w.heap.size 0 (cY s.data.toList))) ∧ Byt (W.setCells w.heap.size 0 (cY s.data.toList)) w.heap.size (ovr (zer 40) 0 s.data.toList) ∧ Below w.heap.size w (W.setCells w.heap.size 0 (cY s.data.toList))) := fun W hb => by
      have hy := HW.out.1.next hb HW.out.2.2
      exact ⟨fun ty => run_copy ty (k := 0) (n := 32) (m := 32) (o := 0) hy (by rw [zer_len]; decide) (fun _ => rfl) h1, hy.over 0 _ (by rw [zer_len]; omega), (Upo.sets (S := fun b => b = w.heap.size) (.inl rfl) (cY s.data.toList) 0 _ (Upo.refl _ _)).since (bnext HW.out.2.1 hb) (Nat.le_refl _)⟩
    have HPU : Hid (∀ W, Byt W w.heap.size (ovr (zer 40) 0 s.data.toList) → Below w.heap.size w W → Calls Tryz.prog 104 #[.slice (some ⟨w.heap.size, 32, none⟩) 4 4, .int .u64 (p : Int)] W fun e w' => e = .returned (.tuple #[]) ∧ Byt w' w.heap.size (s.data.toList ++ zer (32 - s.data.toList.length) ++ big 4 p ++ zer 4) ∧ Below w.heap.size w w') := fun W hy hb => by
      refine (put_any W w.heap.size 32 4 4 p _ hy (by rw [ovr_len _ _ _ (by rw [zer_len]; omega), zer_len]; decide) (by decide) hp).mono ?_
      rintro e w' ⟨rfl, hy', hup⟩
      rw [nod_row p _ hd] at hy'
      exact ⟨rfl, hy', hup.since hb (Nat.le_refl _)⟩
    have HSE : Hid (∀ W, Byt W w.heap.size (s.data.toList ++ zer (32 - s.data.toList.length) ++ big 4 p ++ zer 4) → Calls Tryz.prog 105 #[.slice (some ⟨w.heap.size, 0, none⟩) 40 40] W fun e w' => e = .returned (.string t) ∧ Below w.heap.size W w') := fun W hy => by
      have hlen : (s.data.toList ++ zer (32 - s.data.toList.length) ++ big 4 p).length = 36 := by rw [List.length_append, List.length_append, big_len, zer_len]; omega
      have hlen2 : (s.data.toList ++ zer (32 - s.data.toList.length) ++ big 4 p ++ zer 4).length = 40 := by rw [List.length_append, hlen, zer_len]
      have htk : (s.data.toList ++ zer (32 - s.data.toList.length) ++ big 4 p ++ zer 4).take (40 - 4) = s.data.toList ++ zer (32 - s.data.toList.length) ++ big 4 p := by
        rw [List.take_append_of_le_length (by omega), List.take_of_length_le (by omega)]
      refine (sealed_any W w.heap.size 40 40 _ hy hlen2 (by omega) (Nat.le_refl _) (by omega) t (by rw [htk, ← ht, nod])).mono ?_
      rintro e w' ⟨rfl, _, hup⟩
      exact ⟨rfl, hup.below (by have := hy.lt (by omega); omega) (fun b hb => by omega)⟩
    clear ht h1 hd hw0 hp
    go_enter Tryz.func85, Tryz.ntmps85
    go_wp2_with (first
      | (go_at_call 84; with_reducible refine (HPP.out _).mono ?_; rintro e w1 ⟨rfl, hb⟩; obtain ⟨hcp, hy, hb2⟩ := HCP.out _ hb; generalize w1.setCells w.heap.size 0 (cY s.data.toList) = w3 at *)
      | (refine wpList_copy_at (by rfl) _ _ _ _ (by rfl) (by rfl) (by rfl) (hcp _) ?_)
      | (go_at_call 104; with_reducible refine (HPU.out _ hy hb2).mono ?_; rintro e w4 ⟨rfl, hy, hb4⟩)
      | (go_at_call 105; with_reducible refine (HSE.out _ hy).mono ?_; rintro e w5 ⟨rfl, hb5⟩))
    go_ret
    exact ⟨rfl, hb4.trans hb5⟩
  · rw [if_neg h1] at ht
    subst ht
    have z1 : (s.size : Int) > 32 := by omega
    go_enter Tryz.func85, Tryz.ntmps85
    go_wp2
    go_ret
    exact ⟨rfl, Below.refl _ _⟩
end Go.Proofs.YthfnpagangjpbabGreat.Rc
namespace Go.Proofs.YthfnpagangjpbabGreat.Rc
open Go.RowKit
attribute [local go_sem ↓] Go.wp_at_zero Go.wp_at_succ
def chn (c : BitVec 32) (s : List UInt8) (ss : List ByteArray) : Nat := crc (big 4 c.toNat ++ s ++ flat ss)
set_option maxRecDepth 100000 in
set_option maxHeartbeats 1000000 in
theorem chain_any (w : World) (c : BitVec 32) (s : ByteArray) (hs : s.size ≤ 9223372036854775807) (ao : Option Addr) (b off len cap : Nat) (ss : List ByteArray) (hr : RdS w ao b off len ss) (hmx : len ≤ 9223372036854775807) (r : Nat) (hR : chn c s.data.toList ss = r) :
    Calls Tryz.prog 106 #[.int .u32 (c.toNat : Int), .string s, .slice ao len cap] w fun e w' => e = .returned (.int .u32 (r : Int)) ∧ Below w.heap.size w w' := by
  obtain ⟨w0, hw0⟩ : ∃ w0, w.alloc (.cells (Array.replicate 4 (Value.int .u8 0)) 5) = w0 := ⟨_, rfl⟩
  have hmk : (Instr.makeSlice 111 (.int .i64 4) (.int .i64 4)).run Tryz.prog w = .ok (.slice (some ⟨w.heap.size, 0, none⟩) 4 4) w0 := by
    rw [← hw0]; exact make_bytes 4 (by decide) w
  have HW : Hid (Byt w0 w.heap.size (zer 4) ∧ Below w.heap.size w w0) := by
    rw [← hw0]
    exact ⟨byt_made w _, bal (Below.refl _ _) _⟩
  obtain ⟨d, hd⟩ : ∃ d, c.toNat = d := ⟨_, rfl⟩
  have hd4 : d < 4294967296 := by rw [← hd]; exact c.isLt
  have hw2 : IntKind.u64.wrap (d : Int) = (d : Int) := by rw [IntKind.wrap_u64]; omega
  obtain ⟨u, hu⟩ : ∃ u : ByteArray, (⟨(big 4 d).toArray⟩ : ByteArray) = u := ⟨_, rfl⟩
  have hul : u.data.toList = big 4 d := by rw [← hu]
  have HPU : Hid (Calls Tryz.prog 104 #[.slice (some ⟨w.heap.size, 0, none⟩) 4 4, .int .u64 (d : Int)] w0 fun e w' => e = .returned (.tuple #[]) ∧ (convert 111 9 (.slice (some ⟨w.heap.size, 0, none⟩) 4 4)).run Tryz.prog w' = .ok (.string u) w' ∧ Below w.heap.size w w') := by
    refine (put_any w0 w.heap.size 0 4 4 d (zer 4) HW.out.1 (by rw [zer_len]; decide) (by decide) (by omega)).mono ?_
    rintro e w' ⟨rfl, hy, hup⟩
    rw [show zer 4 = [] ++ zer 4 from rfl, ovr_zer [] _ _ 0 rfl, big_len, List.nil_append, show zer (4 - 4) = [] from rfl, List.append_nil] at hy
    refine ⟨rfl, hy.conv (k := 0) (n := 4) (by rw [big_len]; decide) 0 (fun _ => rfl) 4 u (by rw [List.drop_zero, List.take_of_length_le (by rw [big_len]; decide)]; exact hu), hup.since HW.out.2 (Nat.le_refl _)⟩
  obtain ⟨x, hx⟩ : ∃ x, crc (big 4 d ++ s.data.toList) = x := ⟨_, rfl⟩
  have HF : Hid (∀ W, Calls Tryz.prog 137 #[.slice (some ⟨W.heap.size, 0, none⟩) 2 2] (W.alloc (.cells #[.string u, .string s] 9)) fun e w' => e = .returned (.int .u32 (x : Int)) ∧ Below W.heap.size W w') := fun W => by
    refine (of_any _ _ W.heap.size 0 2 2 [u, s] ⟨rfl, fun _ => rfl, range_new W [.string u, .string s] 9, by intro z hz; simp at hz; rcases hz with rfl | rfl; rw [← size_list, hul, big_len]; decide; exact hs⟩ (by decide)).mono ?_
    rintro e w' ⟨rfl, hb⟩
    refine ⟨?_, ((Below.refl _ _).alloc (Nat.le_refl _) _).trans (hb.mono (by simp))⟩
    rw [← hx, crc, sumL, ← hul]
    simp [flat]
  have HR : Hid (chn c s.data.toList ss = r ∧ crc (big 4 d ++ s.data.toList) = x ∧ c.toNat = d) := ⟨hR, hx, hd⟩
  rw [hd]
  clear hw0 hu hul hx hR hd
  go_enter Tryz.func106, Tryz.ntmps106
  go_wp2_with (first
    | (go_at_call 104; with_reducible refine HPU.out.mono ?_; rintro e w2 ⟨rfl, kc, hb2⟩)
    | (go_at_call 137; with_reducible refine (HF.out _).mono ?_; rintro e w3 ⟨rfl, hb3⟩))
  have HB3 : Hid (Below w.heap.size w w3) := bnext hb2 hb3
  clear kc hb2 hb3 HPU HF
  go_loopg [8, 23] len (fun G y i wr => ∃ (k z : Nat), k ≤ len ∧ G = len - k ∧ y = .int .u32 (z : Int) ∧ i = .int .i64 (k : Int) ∧ Hid (z = (mor (mor 0#32 (big 4 d ++ s.data.toList)) (flat (ss.take k))).toNat) ∧ Hid (Below w.heap.size w wr))
  case atStart =>
    go_light
    exact ⟨0, x, by omega, rfl, rfl, rfl, by show _ = _; rw [List.take_zero, show flat [] = [] from rfl, mor_nil, ← HR.out.2.1]; rfl, HB3⟩
  case round =>
    obtain ⟨k, z, hk, rfl, rfl, rfl, HM, HB⟩ := hrel
    by_cases hlt : k < len
    · have hz : (k : Int) < (len : Int) := by omega
      have k0 : (0 : Int) ≤ (k : Int) := by omega
      obtain rfl := hr.ptr (by omega)
      have hr' := hr.next HB.out (Nat.le_refl _)
      have ck := hr'.at hlt
      have hcall := more_m wr _ z HM.out (ss.getD k ByteArray.empty) (hr.szAt hlt)
      rw [← mor_append, ← flat_snoc ss k (by rw [hr.hl]; exact hlt)] at hcall
      obtain ⟨y, hy⟩ : ∃ y, y = (mor (mor 0#32 (big 4 d ++ s.data.toList)) (flat (ss.take (k + 1)))).toNat := ⟨_, rfl⟩
      rw [← hy] at hcall
      have HY : Hid (y = (mor (mor 0#32 (big 4 d ++ s.data.toList)) (flat (ss.take (k + 1)))).toNat) := hy
      clear hy HM hr'
      generalize ss.getD k ByteArray.empty = part at *
      go_wp2_with (go_at_call 138; refine hcall.mono ?_; rintro e w' ⟨rfl, hb'⟩)
      go_roundg (len - (k + 1))
      case rel =>
        go_light
        exact ⟨k + 1, y, by omega, rfl, rfl, by go_num, HY, bnext HB.out hb'⟩
      case measure => go_light; omega
    · obtain rfl : k = len := by omega
      have hz : ¬ (k : Int) < (k : Int) := by omega
      have HE : Hid (z = r) := by
        show _ = _
        rw [HM.out, ← HR.out.1, chn, crc, HR.out.2.2, List.take_of_length_le (by rw [hr.hl]; exact Nat.le_refl _), mor_append _ (big 4 d ++ s.data.toList)]
      clear HM
      go_wp2
      go_ret
      exact ⟨by rw [HE.out]; rfl, HB.out⟩
end Go.Proofs.YthfnpagangjpbabGreat.Rc
namespace Go.Proofs.YthfnpagangjpbabGreat.Rc
open Go.RowKit
attribute [local go_sem ↓] Go.wp_at_zero Go.wp_at_succ
theorem bytes_of (W : World) (t : ByteArray) (n : Nat) (hn : t.size = n) : ∃ cap W', (convert 9 111 (.string t)).run Tryz.prog W = .ok (.slice (some ⟨W.heap.size, 0, none⟩) n cap) W' ∧ n ≤ cap ∧ Byt W' W.heap.size t.data.toList ∧ Below W.heap.size W W' ∧ W.heap.size < W'.heap.size := by
  subst hn
  refine ⟨_, _, run_bytes_of_string (P := Tryz.prog) W 9 111 5 t Tryz.underlying9 Tryz.underlying111 Tryz.underlying5, ?_, ?_, ?_, ?_⟩
  · have := grownCap_ge W t.size 0 5
    exact this
  · exact byt_new W.drew t _ _
  · exact (below_drewN (Below.refl _ _) 1 : Below W.heap.size W W.drew).alloc (Nat.le_refl _) _
  · simp
theorem bdrew {B : Nat} {w W : World} (h : Below B w W) : Below B w W.drew := ⟨h.os, h.tape, h.output, h.size, h.block⟩
theorem toList_loop (bs : ByteArray) : ∀ (n i : Nat) (r : List UInt8), bs.size - i = n → ByteArray.toList.loop bs i r = r.reverse ++ bs.data.toList.drop i := by
  intro n
  induction n with
  | zero =>
    intro i r h
    rw [ByteArray.toList.loop, if_neg (by omega)]
    rw [List.drop_eq_nil_of_le (by simp; exact (by omega : bs.size ≤ i)), List.append_nil]
  | succ n ih =>
    intro i r h
    have hi : i < bs.size := by omega
    rw [ByteArray.toList.loop, if_pos hi, ih (i + 1) _ (by omega)]
    have hl : i < bs.data.toList.length := by simp; exact hi
    rw [List.drop_eq_getElem_cons hl, List.reverse_cons, List.append_assoc]
    have : bs.get! i = bs.data.toList[i] := by
      show bs.data[i]! = _
      have hi2 : i < bs.data.size := hi
      rw [getElem!_pos bs.data i hi2]
      simp
    rw [this]; rfl
theorem toList_eq (bs : ByteArray) : bs.toList = bs.data.toList := by
  rw [ByteArray.toList, toList_loop bs bs.size 0 [] rfl]; rfl
theorem beq_ne {x y : ByteArray} (h : x ≠ y) : (x.toList == y.toList) = false := by
  rw [toList_eq, toList_eq]
  simp only [beq_eq_false_iff_ne, ne_eq]
  intro e
  exact h (ByteArray.ext (Array.toList_inj.1 e))
theorem beq_yes {x y : ByteArray} (h : x = y) : (x.toList == y.toList) = true := by
  rw [h]; simp
def rpT (s : List UInt8) : ByteArray × Nat × Int := match rpay s with
  | some x => (⟨x.toArray⟩, x.length + 8, 0)
  | none => (⟨#[]⟩, 0, 180)
theorem rpT_no {s : List UInt8} (h : rpay s = none) : rpT s = (⟨#[]⟩, 0, 180) := by rw [rpT, h]
theorem rpT_yes {s x : List UInt8} (h : rpay s = some x) : rpT s = (⟨x.toArray⟩, x.length + 8, 0) := by rw [rpT, h]
set_option maxRecDepth 100000 in
set_option maxHeartbeats 1000000 in
theorem rpayload_any (w : World) (s : ByteArray) (hs : s.size ≤ 9223372036854775807) (rt : ByteArray) (rn : Nat) (re : Int) (h : rpT s.data.toList = (rt, rn, re)) :
    Calls Tryz.prog 78 #[.string s] w fun e w' => e = .returned (.tuple #[.string rt, .int .i64 (rn : Int), .int .i64 re]) ∧ Below w.heap.size w w' := by
  by_cases h4 : s.size < 4
  · have z1 : (s.size : Int) < 4 := by omega
    rw [rpT_no (if_neg (by rw [size_list]; omega))] at h
    obtain ⟨rfl, rfl, rfl⟩ : (⟨#[]⟩ : ByteArray) = rt ∧ 0 = rn ∧ 180 = re := by simpa using h
    go_enter Tryz.func78, Tryz.ntmps78
    go_wp2
    exact bodyPost_ret (v := .tuple #[.string ⟨#[]⟩, .int .i64 0, .int .i64 180]) (by simp [results, Tryz.results78, go_sem]) rfl ⟨rfl, Below.refl _ _⟩
  have z1 : ¬ (s.size : Int) < 4 := by omega
  have z2 : (4 : Int) ≤ (s.size : Int) := by omega
  obtain ⟨x4, hx4⟩ : ∃ x, s.extract 0 4 = x := ⟨_, rfl⟩
  have hx4l : x4.data.toList = s.data.toList.take 4 := by rw [← hx4, ext_take]
  have hx4s : x4.size = 4 := by rw [← size_list, hx4l, List.length_take, size_list]; omega
  obtain ⟨c4, w1, kb, _, hy4, hb1, _⟩ := bytes_of w x4 4 hx4s
  rw [hx4l] at hy4
  obtain ⟨n, hn⟩ : ∃ n, num (s.data.toList.take 4) = n := ⟨_, rfl⟩
  have hn4 : n < 4294967296 := by rw [← hn]; exact num_le _ 4 (by simp; omega)
  have HN := number_any w1 w.heap.size 0 4 c4 _ hy4 (by simp; omega) (by decide) n (by rw [List.drop_zero, List.take_of_length_le (by simp; omega)]; exact hn)
  have z3 : (s.size : Int) ≤ 9223372036854775807 := by omega
  have hws : IntKind.u64.wrap (s.size : Int) = (s.size : Int) := by rw [IntKind.wrap_u64]; omega
  have hw1 : IntKind.u64.wrap (4 + (n : Int)) = 4 + (n : Int) := by rw [IntKind.wrap_u64]; omega
  have hw2 : IntKind.u64.wrap (4 + (n : Int) + 4) = 4 + (n : Int) + 4 := by rw [IntKind.wrap_u64]; omega
  by_cases hbig : n ≤ 1048576 ∧ n + 8 ≤ s.size
  · obtain ⟨g1, g2⟩ := hbig
    have y1 : ¬ (n : Int) > 1048576 := by omega
    have y2 : ¬ (s.size : Int) < 4 + (n : Int) + 4 := by omega
    have y3 : IntKind.i64.wrap (n : Int) = (n : Int) := by rw [IntKind.wrap_i64]; omega
    obtain ⟨N, hN⟩ : ∃ N, n + 8 = N := ⟨_, rfl⟩
    have y4 : (4 : Int) + (n : Int) + 4 = (N : Int) := by omega
    have y5 : (0 : Int) ≤ (N : Int) := by omega
    have y6 : (N : Int) ≤ (s.size : Int) := by omega
    have y7 : (n : Int) ≤ 1048576 := by omega
    obtain ⟨x8, hx8⟩ : ∃ x, s.extract 0 N = x := ⟨_, rfl⟩
    have hx8l : x8.data.toList = s.data.toList.take N := by rw [← hx8, ext_take]
    have hx8s : x8.size = N := by rw [← size_list, hx8l, List.length_take, size_list]; omega
    obtain ⟨c8, w2, kb2, hc8, hy8, hb2, hlt8⟩ := bytes_of w1 x8 N hx8s
    rw [hx8l] at hy8
    obtain ⟨o, ho⟩ : ∃ o, (if N - 4 = 4 then 0 else 4) = o := ⟨_, rfl⟩
    have HPP : Hid (Calls Tryz.prog 103 #[.slice (some ⟨w1.heap.size, 0, none⟩) N c8] w2 fun e w' => e = .returned (.tuple #[.slice (some ⟨w1.heap.size, 0, none⟩) 4 4, .slice (some ⟨w1.heap.size, o, none⟩) n n]) ∧ Below w2.heap.size w2 w') :=
      pparts_any w2 w1.heap.size N c8 (by omega) hc8 (by omega) o ho n (by omega)
    obtain ⟨t8, ht8⟩ : ∃ t : ByteArray, (⟨(sld (s.data.toList.take (n + 4))).toArray⟩ : ByteArray) = t := ⟨_, rfl⟩
    have htt : (s.data.toList.take N).take (N - 4) = s.data.toList.take (n + 4) := by rw [List.take_take]; congr 1; omega
    have HPC : Hid (pay ((s.data.toList.drop 4).take n) = sld (s.data.toList.take (n + 4))) := pay_cut s.data.toList n (by rw [size_list]; omega) hn (by rw [size_list]; omega)
    obtain ⟨v, hv⟩ : ∃ v : ByteArray, (⟨(((sld (s.data.toList.take (n + 4))).drop 4).take n).toArray⟩ : ByteArray) = v := ⟨_, rfl⟩
    have HV : Hid ((⟨((s.data.toList.drop 4).take n).toArray⟩ : ByteArray) = v) := by
      show _ = _
      rw [← hv]
      congr 2
      rw [sld, List.drop_append_of_le_length (by simp; omega), List.take_append_of_le_length (by simp; omega), List.drop_take, List.take_take, Nat.min_eq_left (by omega)]
    have HSE : Hid (∀ W, Below w2.heap.size w2 W → Calls Tryz.prog 105 #[.slice (some ⟨w1.heap.size, 0, none⟩) N c8] W fun e w' => e = .returned (.string t8) ∧ (convert 111 9 (.slice (some ⟨w1.heap.size, o, none⟩) n n)).run Tryz.prog w' = .ok (.string v) w' ∧ Below w.heap.size w w') := fun W hb => by
      have hy := hy8.next hb hlt8
      refine (sealed_any W w1.heap.size N c8 _ hy (by simp; omega) (by omega) hc8 (by omega) t8 (by rw [htt]; exact ht8)).mono ?_
      rintro e w' ⟨rfl, hz, hup⟩
      rw [htt] at hz
      refine ⟨rfl, hz.conv (k := 4) (n := n) (by rw [sld_len]; simp; omega) o (fun h0 => by rw [← ho, if_neg (by omega)]) n v hv, hup.since (bnext hb1 (bnext hb2 hb)) hb1.size⟩
    have HRP : Hid ((⟨(s.data.toList.take N).toArray⟩ : ByteArray) = x8) := by show _ = _; rw [← hx8l]
    by_cases heq : t8 = x8
    · have hbq := beq_yes heq
      have hre : rpay s.data.toList = some ((s.data.toList.drop 4).take n) := by
        unfold rpay
        rw [hn]
        refine if_pos ⟨by rw [size_list]; omega, g1, by rw [size_list]; exact g2, ?_⟩
        rw [HPC.out, hN]
        have := congrArg (fun z : ByteArray => z.data.toList) (ht8.trans (heq.trans HRP.out.symm))
        simpa using this
      rw [rpT_yes hre] at h
      have hlen : ((s.data.toList.drop 4).take n).length = n := by simp; omega
      rw [hlen, HV.out, hN] at h
      obtain ⟨rfl, rfl, rfl⟩ : v = rt ∧ N = rn ∧ 0 = re := by simpa using h
      clear hy4 hx4s hx4l h hn hx8l hx8s ho ht8 htt hv heq hre hlen hy8 hN
      go_enter Tryz.func78, Tryz.ntmps78
      go_upto_region 9 with (first
        | (go_at_call 121; with_reducible refine HN.mono ?_; rintro e w3 ⟨rfl, rfl⟩)
        | (go_at_call 103; with_reducible refine HPP.out.mono ?_; rintro e w4 ⟨rfl, hb4⟩))
      go_region_with (go_at_call 105; with_reducible refine (HSE.out _ (bdrew hb4)).mono ?_; rintro e w5 ⟨rfl, kc, hb5⟩)
      go_wp2
      exact bodyPost_ret (v := .tuple #[.string v, .int .i64 (N : Int), .int .i64 0]) (by simp [results, Tryz.results78, go_sem]) rfl ⟨rfl, hb5⟩
    · have hbq := beq_ne heq
      have hno : rpay s.data.toList = none := by
        unfold rpay
        rw [hn]
        refine if_neg fun q => heq ?_
        have q4 := q.2.2.2
        rw [HPC.out, hN] at q4
        rw [← ht8, q4, HRP.out]
      rw [rpT_no hno] at h
      obtain ⟨rfl, rfl, rfl⟩ : (⟨#[]⟩ : ByteArray) = rt ∧ 0 = rn ∧ 180 = re := by simpa using h
      clear hy4 hx4s hx4l h hn hx8l hx8s ho ht8 htt hv heq hno hy8 hN
      go_enter Tryz.func78, Tryz.ntmps78
      go_upto_region 9 with (first
        | (go_at_call 121; with_reducible refine HN.mono ?_; rintro e w3 ⟨rfl, rfl⟩)
        | (go_at_call 103; with_reducible refine HPP.out.mono ?_; rintro e w4 ⟨rfl, hb4⟩))
      go_region_with (go_at_call 105; with_reducible refine (HSE.out _ (bdrew hb4)).mono ?_; rintro e w5 ⟨rfl, kc, hb5⟩)
      go_wp2
      exact bodyPost_ret (v := .tuple #[.string ⟨#[]⟩, .int .i64 0, .int .i64 180]) (by simp [results, Tryz.results78, go_sem]) rfl ⟨rfl, hb5⟩
  · have hno : rpay s.data.toList = none := by
      unfold rpay
      rw [hn, size_list]
      exact if_neg (fun q => hbig ⟨q.2.1, q.2.2.1⟩)
    rw [rpT_no hno] at h
    obtain ⟨rfl, rfl, rfl⟩ : (⟨#[]⟩ : ByteArray) = rt ∧ 0 = rn ∧ 180 = re := by simpa using h
    by_cases hb2 : n ≤ 1048576
    · have g1 : ¬ (n : Int) > 1048576 := by omega
      have g2 : (s.size : Int) < 4 + (n : Int) + 4 := by omega
      clear hy4 hx4s hx4l hbig h hn hno
      go_enter Tryz.func78, Tryz.ntmps78
      go_wp2_with (go_at_call 121; with_reducible refine HN.mono ?_; rintro e w2 ⟨rfl, rfl⟩)
      exact bodyPost_ret (v := .tuple #[.string ⟨#[]⟩, .int .i64 0, .int .i64 180]) (by simp [results, Tryz.results78, go_sem]) rfl ⟨rfl, hb1⟩
    · have g1 : (n : Int) > 1048576 := by omega
      clear hy4 hx4s hx4l hbig h hn hno
      go_enter Tryz.func78, Tryz.ntmps78
      go_wp2_with (go_at_call 121; with_reducible refine HN.mono ?_; rintro e w2 ⟨rfl, rfl⟩)
      exact bodyPost_ret (v := .tuple #[.string ⟨#[]⟩, .int .i64 0, .int .i64 180]) (by simp [results, Tryz.results78, go_sem]) rfl ⟨rfl, hb1⟩
def rnT (k : Int) (p : Nat) (s : List UInt8) : ByteArray × Int := if 1 ≤ k ∧ k ≤ 32 then (match rnod k.toNat p s with
  | some x => (⟨x.toArray⟩, 0)
  | none => (⟨#[]⟩, 180)) else (⟨#[]⟩, 70)
theorem rnT_off {k : Int} {p : Nat} {s : List UInt8} (h : ¬ (1 ≤ k ∧ k ≤ 32)) : rnT k p s = (⟨#[]⟩, 70) := if_neg h
theorem rnT_no {k : Int} {p : Nat} {s : List UInt8} (hk : 1 ≤ k ∧ k ≤ 32) (h : rnod k.toNat p s = none) : rnT k p s = (⟨#[]⟩, 180) := by rw [rnT, if_pos hk, h]
theorem rnT_yes {k : Int} {p : Nat} {s x : List UInt8} (hk : 1 ≤ k ∧ k ≤ 32) (h : rnod k.toNat p s = some x) : rnT k p s = (⟨x.toArray⟩, 0) := by rw [rnT, if_pos hk, h]
set_option maxRecDepth 100000 in
set_option maxHeartbeats 1000000 in
theorem rnode_any (w : World) (k : Int) (p : Nat) (hp : p < 18446744073709551616) (s : ByteArray) (rt : ByteArray) (re : Int) (h : rnT k p s.data.toList = (rt, re)) :
    Calls Tryz.prog 35 #[.int .i64 k, .int .u64 (p : Int), .string s] w fun e w' => e = .returned (.tuple #[.string rt, .int .i64 re]) ∧ Below w.heap.size w w' := by
  have HS := fun W => strength_any W k
  by_cases hk : 1 ≤ k ∧ k ≤ 32
  · rw [decide_eq_true hk] at HS
    by_cases h40 : s.size = 40
    · have z1 : ((s.size : Int) == 40) = true := by simp; omega
      obtain ⟨n, rfl⟩ : ∃ n : Nat, k = (n : Int) := ⟨k.toNat, by omega⟩
      obtain ⟨c0, w1, kb, hc0, hy, hb1, hlt⟩ := bytes_of w s 40 h40
      have HPP : Hid (Calls Tryz.prog 84 #[.slice (some ⟨w.heap.size, 0, none⟩) 40 c0] w1 fun e w' => e = .returned (.tuple #[.slice (some ⟨w.heap.size, 0, none⟩) 32 32, .slice (some ⟨w.heap.size, 32, none⟩) 4 4]) ∧ Below w1.heap.size w1 w') := nparts_any w1 w.heap.size 40 c0 (by omega)
      have y1 : (0 : Int) ≤ (n : Int) := by omega
      have y2 : (n : Int) ≤ 32 := by omega
      obtain ⟨d, hd⟩ : ∃ d : ByteArray, (⟨(s.data.toList.take n).toArray⟩ : ByteArray) = d := ⟨_, rfl⟩
      have hdl : d.data.toList = s.data.toList.take n := by rw [← hd]
      have hds : d.size = n := by rw [← size_list, hdl, List.length_take, size_list]; omega
      have HC : Hid (∀ W, Below w1.heap.size w1 W → (convert 111 9 (.slice (some ⟨w.heap.size, 0, none⟩) n n)).run Tryz.prog W = .ok (.string d) W) := fun W hb =>
        (hy.next hb hlt).conv (k := 0) (n := n) (by rw [size_list]; omega) 0 (fun _ => rfl) n d (by rw [List.drop_zero]; exact hd)
      obtain ⟨t, ht⟩ : ∃ t : ByteArray, (⟨(nodS p d.data.toList).toArray⟩ : ByteArray) = t := ⟨_, rfl⟩
      have HND : Hid (∀ W, Calls Tryz.prog 85 #[.int .u64 (p : Int), .string d] W fun e w' => e = .returned (.string t) ∧ Below W.heap.size W w') := fun W => node_any W p hp d (by omega) t ht
      have htt : t.data.toList = nod p (s.data.toList.take n) := by
        rw [← ht, nodS, if_pos (by rw [hdl, List.length_take]; omega), hdl]
      by_cases heq : t = s
      · have hbq := beq_yes heq
        rw [rnT_yes hk (x := s.data.toList.take n) (if_pos ⟨by rw [size_list]; exact h40, by rw [Int.toNat_natCast, ← htt, heq]⟩), hd] at h
        obtain ⟨rfl, rfl⟩ : d = rt ∧ 0 = re := by simpa using h
        clear hd hdl hds ht htt heq h hy
        go_enter Tryz.func35, Tryz.ntmps35
        go_wp2_with (first
          | (go_at_call 83; with_reducible refine (HS _).mono ?_; rintro e w2 ⟨rfl, rfl⟩)
          | (go_at_call 84; with_reducible refine HPP.out.mono ?_; rintro e w3 ⟨rfl, hb3⟩; have kc := HC.out _ hb3)
          | (go_at_call 85; with_reducible refine (HND.out _).mono ?_; rintro e w4 ⟨rfl, hb4⟩))
        exact bodyPost_ret (v := .tuple #[.string d, .int .i64 0]) (by simp [results, Tryz.results35, go_sem]) rfl ⟨rfl, bnext hb1 (bnext hb3 hb4)⟩
      · have hbq := beq_ne heq
        rw [rnT_no hk (if_neg fun q => heq (ba_ext (by rw [htt]; have := q.2; rw [Int.toNat_natCast] at this; exact this)))] at h
        obtain ⟨rfl, rfl⟩ : (⟨#[]⟩ : ByteArray) = rt ∧ 180 = re := by simpa using h
        clear hd hdl hds ht htt heq h hy
        go_enter Tryz.func35, Tryz.ntmps35
        go_wp2_with (first
          | (go_at_call 83; with_reducible refine (HS _).mono ?_; rintro e w2 ⟨rfl, rfl⟩)
          | (go_at_call 84; with_reducible refine HPP.out.mono ?_; rintro e w3 ⟨rfl, hb3⟩; have kc := HC.out _ hb3)
          | (go_at_call 85; with_reducible refine (HND.out _).mono ?_; rintro e w4 ⟨rfl, hb4⟩))
        exact bodyPost_ret (v := .tuple #[.string ⟨#[]⟩, .int .i64 180]) (by simp [results, Tryz.results35, go_sem]) rfl ⟨rfl, bnext hb1 (bnext hb3 hb4)⟩
    · have z1 : ((s.size : Int) == 40) = false := by simp; omega
      rw [rnT_no hk (if_neg fun q => h40 (by rw [← size_list]; exact q.1))] at h
      obtain ⟨rfl, rfl⟩ : (⟨#[]⟩ : ByteArray) = rt ∧ 180 = re := by simpa using h
      clear h
      go_enter Tryz.func35, Tryz.ntmps35
      go_wp2_with (go_at_call 83; with_reducible refine (HS _).mono ?_; rintro e w2 ⟨rfl, rfl⟩)
      exact bodyPost_ret (v := .tuple #[.string ⟨#[]⟩, .int .i64 180]) (by simp [results, Tryz.results35, go_sem]) rfl ⟨rfl, Below.refl _ _⟩
  · rw [decide_eq_false hk] at HS
    rw [rnT_off hk] at h
    obtain ⟨rfl, rfl⟩ : (⟨#[]⟩ : ByteArray) = rt ∧ 70 = re := by simpa using h
    clear h
    go_enter Tryz.func35, Tryz.ntmps35
    go_wp2_with (go_at_call 83; with_reducible refine (HS _).mono ?_; rintro e w2 ⟨rfl, rfl⟩)
    exact bodyPost_ret (v := .tuple #[.string ⟨#[]⟩, .int .i64 70]) (by simp [results, Tryz.results35, go_sem]) rfl ⟨rfl, Below.refl _ _⟩
end Go.Proofs.YthfnpagangjpbabGreat.Rc
namespace Go.Proofs.YthfnpagangjpbabGreat.Rc
open Go.RowKit
attribute [local go_sem ↓] Go.wp_at_zero Go.wp_at_succ
def mC (m : MV) : Array Value := #[.int .i64 m.k, .int .u64 (m.size : Int), .int .u64 (m.items : Int), .int .u64 (m.nodes : Int), .int .u32 (m.chain.toNat : Int)]
def pC (g : Nat) : Array Value := #[.slice (some ⟨g, 0, none⟩) 4 4, .slice (some ⟨g, 4, none⟩) 1 1, .slice (some ⟨g, 8, none⟩) 8 8, .slice (some ⟨g, 16, none⟩) 8 8, .slice (some ⟨g, 24, none⟩) 8 8, .slice (some ⟨g, 32, none⟩) 4 4]
structure Mk (w W : World) (m : MV) (bm g bp : Nat) (l : List UInt8) : Prop where
  hm : W.heap[bm]? = some (.cells (mC m) 100 (0, 0))
  hp : W.heap[bp]? = some (.cells (pC g) 159 (0, 0))
  row : Byt W g l
  len : l.length = 64
  nm : bm ≠ g
  np : bp ≠ g
  lg : w.heap.size ≤ g
  bel : Below w.heap.size w W
theorem Mk.cells {w W : World} {m : MV} {bm g bp : Nat} {l : List UInt8} (h : Mk w W m bm g bp l) :
    W.cell? ⟨bm, 0, none⟩ = some (.int .i64 m.k) ∧ W.cell? ⟨bm, 1, none⟩ = some (.int .u64 (m.size : Int)) ∧ W.cell? ⟨bm, 2, none⟩ = some (.int .u64 (m.items : Int)) ∧ W.cell? ⟨bm, 3, none⟩ = some (.int .u64 (m.nodes : Int)) ∧ W.cell? ⟨bm, 4, none⟩ = some (.int .u32 (m.chain.toNat : Int)) ∧
    W.cell? ⟨bp, 0, none⟩ = some (.slice (some ⟨g, 0, none⟩) 4 4) ∧ W.cell? ⟨bp, 1, none⟩ = some (.slice (some ⟨g, 4, none⟩) 1 1) ∧ W.cell? ⟨bp, 2, none⟩ = some (.slice (some ⟨g, 8, none⟩) 8 8) ∧ W.cell? ⟨bp, 3, none⟩ = some (.slice (some ⟨g, 16, none⟩) 8 8) ∧ W.cell? ⟨bp, 4, none⟩ = some (.slice (some ⟨g, 24, none⟩) 8 8) ∧ W.cell? ⟨bp, 5, none⟩ = some (.slice (some ⟨g, 32, none⟩) 4 4) := by
  refine ⟨?_, ?_, ?_, ?_, ?_, ?_, ?_, ?_, ?_, ?_, ?_⟩
  iterate 5 (rw [cell_of_row W bm _ _ _ (0, 0) h.hm]; rfl)
  iterate 6 (rw [cell_of_row W bp _ _ _ (0, 0) h.hp]; rfl)
theorem Mk.upo {w W W' : World} {m : MV} {bm g bp : Nat} {l l' : List UInt8} (h : Mk w W m bm g bp l) (hu : Upo (fun b => b = g) W W') (hr : Byt W' g l') (hl : l'.length = 64) : Mk w W' m bm g bp l' :=
  ⟨(hu.block bm (Array.getElem?_eq_some_iff.1 h.hm).1 h.nm).trans h.hm, (hu.block bp (Array.getElem?_eq_some_iff.1 h.hp).1 h.np).trans h.hp, hr, hl, h.nm, h.np, h.lg, hu.since h.bel h.lg⟩
theorem Mk.put {w W : World} {m : MV} {bm g bp : Nat} {l : List UInt8} (h : Mk w W m bm g bp l) (off len n : Nat) (ho : off + len ≤ 64) (h8 : len ≤ 8) (hn : n < 18446744073709551616) :
    Calls Tryz.prog 104 #[.slice (some ⟨g, off, none⟩) len len, .int .u64 (n : Int)] W fun e w' => e = .returned (.tuple #[]) ∧ Mk w w' m bm g bp (ovr l off (big len n)) := by
  refine (put_any W g off len len n l h.row (by rw [h.len]; exact ho) h8 hn).mono ?_
  rintro e w' ⟨rfl, hy, hu⟩
  exact ⟨rfl, h.upo hu hy (by rw [ovr_len _ _ _ (by rw [big_len, h.len]; exact ho), h.len])⟩
theorem mrk_row (k a b c d : Nat) : ovr (ovr (ovr (ovr (ovr (ovr (zer 64) 0 [109, 115, 102, 1]) 4 (big 1 k)) 8 (big 8 a)) 16 (big 8 b)) 24 (big 8 c)) 32 (big 4 d) = bodyM k a b c d ++ zer 4 := by
  have e64 : zer 64 = [] ++ zer 64 := rfl
  rw [e64, ovr_zer [] _ _ 0 rfl, List.nil_append, show ([109, 115, 102, 1] : List UInt8).length = 4 from rfl, ovr_zer _ _ _ 4 rfl, big_len]
  rw [show zer (64 - 4 - 1) = zer 3 ++ zer 56 from rfl, ← List.append_assoc, ovr_zer _ _ _ 8 (by simp [big_len, zer_len]), big_len]
  rw [ovr_zer _ _ _ 16 (by simp [big_len, zer_len]), big_len, ovr_zer _ _ _ 24 (by simp [big_len, zer_len]), big_len, ovr_zer _ _ _ 32 (by simp [big_len, zer_len]), big_len]
  rw [bodyM, show zer (56 - 8 - 8 - 8 - 4) = zer 24 ++ zer 4 from rfl, List.append_assoc _ (zer 24)]
theorem Mk.first {w W : World} {m : MV} {bm g bp : Nat} (h : Mk w W m bm g bp (zer 64)) : ∃ W', (∀ ty, (Builtin.copy_ #[111, 9] ty #[.slice (some ⟨g, 0, none⟩) 4 4, .string ⟨#[109, 115, 102, 1]⟩]).run Tryz.prog W = .ok (goInt 4) W') ∧ Mk w W' m bm g bp (ovr (zer 64) 0 [109, 115, 102, 1]) := by
  refine ⟨W.setCells g 0 (cY [109, 115, 102, 1]), fun ty => run_copy ty (k := 0) (n := 4) (m := 4) (o := 0) h.row (by rw [zer_len]; decide) (fun _ => rfl) (Nat.le_refl _), h.upo (Upo.sets (S := fun b => b = g) (.inl rfl) _ 0 _ (Upo.refl _ _)) (h.row.over 0 _ (by rw [zer_len]; decide)) ?_⟩
  rw [ovr_len _ _ _ (by rw [zer_len]; decide), zer_len]
theorem Mk.seal {w W : World} {m : MV} {bm g bp : Nat} {k a b c d : Nat} (h : Mk w W m bm g bp (ovr (ovr (ovr (ovr (ovr (ovr (zer 64) 0 [109, 115, 102, 1]) 4 (big 1 k)) 8 (big 8 a)) 16 (big 8 b)) 24 (big 8 c)) 32 (big 4 d))) (t : ByteArray) (ht : (⟨(sld (bodyM k a b c d)).toArray⟩ : ByteArray) = t) :
    Calls Tryz.prog 105 #[.slice (some ⟨g, 0, none⟩) 64 64] W fun e w' => e = .returned (.string t) ∧ Below w.heap.size w w' := by
  have hr := h.row
  have hl := h.len
  rw [mrk_row] at hr hl
  have htk : (bodyM k a b c d ++ zer 4).take (64 - 4) = bodyM k a b c d := by
    rw [List.take_append_of_le_length (by rw [bodyM_len]; decide), List.take_of_length_le (by rw [bodyM_len]; decide)]
  refine (sealed_any W g 64 64 _ hr hl (by decide) (Nat.le_refl _) (by decide) t (by rw [htk]; exact ht)).mono ?_
  rintro e w' ⟨rfl, _, hup⟩
  exact ⟨rfl, hup.since h.bel h.lg⟩
set_option maxRecDepth 100000 in
set_option maxHeartbeats 2000000 in
theorem mark_any (w : World) (m : MV) (h1 : m.size < 18446744073709551616) (h2 : m.items < 18446744073709551616) (h3 : m.nodes < 18446744073709551616) (t : ByteArray) (ht : (⟨(mrk m).toArray⟩ : ByteArray) = t) :
    Calls Tryz.prog 67 #[.agg (mC m)] w fun e w' => e = .returned (.string t) ∧ Below w.heap.size w w' := by
  obtain ⟨mk, ma, mb, mc, md⟩ := m
  have HS := fun W => strength_any W mk
  have h4 := md.isLt
  by_cases hk : 1 ≤ mk ∧ mk ≤ 32
  · rw [decide_eq_true hk] at HS
    rw [mrk, if_pos hk] at ht
    obtain ⟨k, rfl⟩ : ∃ k : Nat, mk = (k : Int) := ⟨mk.toNat, by omega⟩
    simp only [Int.toNat_natCast] at ht h1 h2 h3
    have hw : IntKind.u64.wrap (k : Int) = (k : Int) := by rw [IntKind.wrap_u64]; omega
    obtain ⟨d, hd⟩ : ∃ d, md.toNat = d := ⟨_, rfl⟩
    have hw2 : IntKind.u64.wrap (d : Int) = (d : Int) := by rw [IntKind.wrap_u64]; omega
    have H4 : Hid (k < 18446744073709551616 ∧ ma < 18446744073709551616 ∧ mb < 18446744073709551616 ∧ mc < 18446744073709551616 ∧ d < 18446744073709551616) := ⟨by omega, h1, h2, h3, by omega⟩
    have hmk : ∀ u : World, (Instr.makeSlice 111 (.int .i64 64) (.int .i64 64)).run Tryz.prog u = .ok (.slice (some ⟨u.heap.size, 0, none⟩) 64 64) (u.alloc (.cells (Array.replicate 64 (Value.int .u8 0)) 5)) := fun u => make_bytes 64 (by decide) u
    have HPP : Hid (∀ W g, Calls Tryz.prog 114 #[.slice (some ⟨g, 0, none⟩) 64 64] W fun e w' => e = .returned (mP g) ∧ Below W.heap.size W w') := fun W g => mparts_any W g 64 64 (by decide)
    obtain ⟨z64, hz⟩ : ∃ z, Array.replicate 64 (Value.int .u8 0) = z := ⟨_, rfl⟩
    rw [hz] at hmk
    have HZ : Hid (Array.replicate 64 (Value.int .u8 0) = z64) := hz
    have HT : Hid ((⟨(sld (bodyM k ma mb mc d)).toArray⟩ : ByteArray) = t) := by rw [← hd]; exact ht
    clear ht hz h1 h2 h3 h4 hk
    unfold mC
    rw [hd]
    go_enter Tryz.func67, Tryz.ntmps67
    go_upto_region 5 with (first
      | (go_at_call 83; with_reducible refine (HS _).mono ?_; rintro e w1 ⟨rfl, rfl⟩)
      | (go_at_call 114; with_reducible refine (HPP.out _ _).mono ?_; rintro e w2 ⟨rfl, hb⟩; unfold mP))
    obtain ⟨w3, hw3⟩ : ∃ w3, w2.alloc (.cells (pC (w.heap.size + 1)) 159) = w3 := ⟨_, rfl⟩
    obtain ⟨wa, hwa⟩ : ∃ wa, w.alloc (.cells (mC ⟨(k : Int), ma, mb, mc, md⟩) 100) = wa := ⟨_, rfl⟩
    have M3 : Mk w w3 ⟨(k : Int), ma, mb, mc, md⟩ w.heap.size (w.heap.size + 1) w2.heap.size (zer 64) := by
      have hb' := hb
      unfold mC at hwa
      rw [hd] at hwa
      rw [hwa] at hb'
      have hsa : wa.heap.size = w.heap.size + 1 := by rw [← hwa]; simp
      have y0 : Byt (wa.alloc (.cells z64 5)) (w.heap.size + 1) (zer 64) := by
        rw [← HZ.out, ← hsa]; exact byt_made wa 64
      have s2 : w.heap.size + 2 ≤ w2.heap.size := by have := hb'.size; simp at this; omega
      have y2 := y0.next hb' (by simp; omega)
      have m2 : w2.heap[w.heap.size]? = some (.cells (mC ⟨(k : Int), ma, mb, mc, md⟩) 100 (0, 0)) := by
        rw [hb'.block _ (by simp; omega), (MapKept.heap_alloc wa _).2 _ (by omega), ← hwa, new1]
        unfold mC
        rw [hd]
      have b2 : Below w.heap.size w w2 := bnext (by rw [← hwa]; exact bal (bal (Below.refl _ _) _) _) hb'
      rw [← hw3]
      exact ⟨(MapKept.heap_alloc w2 _).2 _ (by omega) |>.trans m2, new1 _ _, y2.same ((MapKept.heap_alloc w2 _).2 _ (by omega)), zer_len _, by omega, by omega, by omega, bal b2 _⟩
    unfold pC at hw3
    rw [hw3]
    generalize w.heap.size + 1 = g at *
    generalize w2.heap.size = bp at *
    obtain ⟨w4, hcp, M⟩ := M3.first
    have HM : Hid (∀ W l, Mk w W ⟨(k : Int), ma, mb, mc, md⟩ w.heap.size g bp l → W.cell? ⟨w.heap.size, 0, none⟩ = some (.int .i64 (k : Int)) ∧ W.cell? ⟨w.heap.size, 1, none⟩ = some (.int .u64 (ma : Int)) ∧ W.cell? ⟨w.heap.size, 2, none⟩ = some (.int .u64 (mb : Int)) ∧ W.cell? ⟨w.heap.size, 3, none⟩ = some (.int .u64 (mc : Int)) ∧ W.cell? ⟨w.heap.size, 4, none⟩ = some (.int .u32 (d : Int)) ∧
        W.cell? ⟨bp, 0, none⟩ = some (.slice (some ⟨g, 0, none⟩) 4 4) ∧ W.cell? ⟨bp, 1, none⟩ = some (.slice (some ⟨g, 4, none⟩) 1 1) ∧ W.cell? ⟨bp, 2, none⟩ = some (.slice (some ⟨g, 8, none⟩) 8 8) ∧ W.cell? ⟨bp, 3, none⟩ = some (.slice (some ⟨g, 16, none⟩) 8 8) ∧ W.cell? ⟨bp, 4, none⟩ = some (.slice (some ⟨g, 24, none⟩) 8 8) ∧ W.cell? ⟨bp, 5, none⟩ = some (.slice (some ⟨g, 32, none⟩) 4 4)) := fun W l h => by
      have := h.cells
      simp only [hd] at this
      exact this
    have p0 := (HM.out _ _ M3).2.2.2.2.2.1
    obtain ⟨c0, c1, c2, c3, c4, _, q1, q2, q3, q4, q5⟩ := HM.out _ _ M
    clear hw3 hd hb HPP HS hmk hwa
    go_wp2_with (first
      | (refine wpList_copy_at (by rfl) _ _ _ _ (by rfl) (by rfl) (by rfl) (hcp _) ?_)
      | (go_at_call 104; (first
          | (with_reducible refine (M.put 4 1 k (by decide) (by decide) H4.out.1).mono ?_)
          | (with_reducible refine (M.put 8 8 ma (by decide) (by decide) H4.out.2.1).mono ?_)
          | (with_reducible refine (M.put 16 8 mb (by decide) (by decide) H4.out.2.2.1).mono ?_)
          | (with_reducible refine (M.put 24 8 mc (by decide) (by decide) H4.out.2.2.2.1).mono ?_)
          | (with_reducible refine (M.put 32 4 d (by decide) (by decide) H4.out.2.2.2.2).mono ?_)); rintro e w5 ⟨rfl, M⟩; obtain ⟨c0, c1, c2, c3, c4, _, q1, q2, q3, q4, q5⟩ := HM.out _ _ M)
      | (go_at_call 105; with_reducible refine (M.seal t HT.out).mono ?_; rintro e w6 ⟨rfl, hb6⟩))
    go_ret
    exact ⟨rfl, hb6⟩
  · rw [decide_eq_false hk] at HS
    rw [mrk, if_neg hk] at ht
    subst ht
    unfold mC
    go_enter Tryz.func67, Tryz.ntmps67
    go_wp2_with (go_at_call 83; with_reducible refine (HS _).mono ?_; rintro e w1 ⟨rfl, rfl⟩)
    go_ret
    exact ⟨rfl, bal (Below.refl _ _) _⟩
end Go.Proofs.YthfnpagangjpbabGreat.Rc
namespace Go.Proofs.YthfnpagangjpbabGreat.Rc
open Go.RowKit
attribute [local go_sem ↓] Go.wp_at_zero Go.wp_at_succ
def rmT (s : List UInt8) : MV × Int := match rmrk s with
  | some x => (x, 0)
  | none => (MV.z, 180)
theorem rmT_no {s : List UInt8} (h : rmrk s = none) : rmT s = (MV.z, 180) := by rw [rmT, h]
theorem rmT_yes {s : List UInt8} {x : MV} (h : rmrk s = some x) : rmT s = (x, 0) := by rw [rmT, h]
set_option maxRecDepth 100000 in
set_option maxHeartbeats 2000000 in
theorem rmark_any (w : World) (s : ByteArray) (rm : MV) (re : Int) (h : rmT s.data.toList = (rm, re)) :
    Calls Tryz.prog 133 #[.string s] w fun e w' => e = .returned (.tuple #[.agg (mC rm), .int .i64 re]) ∧ Below w.heap.size w w' := by
  by_cases h64 : s.size = 64
  · have z1 : ((s.size : Int) == 64) = true := by simp; omega
    obtain ⟨wz, hwz⟩ : ∃ wz, w.alloc (.cells #[.int .i64 0, .int .u64 0, .int .u64 0, .int .u64 0, .int .u32 0] 100) = wz := ⟨_, rfl⟩
    obtain ⟨c0, w1, kb, hc0, hy, hb1, hlt⟩ := bytes_of wz s 64 h64
    have HPP : Hid (∀ W g, Calls Tryz.prog 114 #[.slice (some ⟨g, 0, none⟩) 64 c0] W fun e w' => e = .returned (mP g) ∧ Below W.heap.size W w') := fun W g => mparts_any W g 64 c0 (by omega)
    have hsz : wz.heap.size = w.heap.size + 1 := by rw [← hwz]; simp
    rw [hsz] at kb hy
    go_enter Tryz.func133, Tryz.ntmps133
    go_upto_region 4 with (first
      | (go_at_call 114; with_reducible refine (HPP.out _ _).mono ?_; rintro e w2 ⟨rfl, hb2⟩; unfold mP))
    obtain ⟨w3, hw3⟩ : ∃ w3, w2.alloc (.cells (pC (w.heap.size + 1)) 159) = w3 := ⟨_, rfl⟩
    obtain ⟨bp, hbp⟩ : ∃ bp, w2.heap.size = bp := ⟨_, rfl⟩
    have hs2 : w.heap.size + 2 ≤ w2.heap.size := by have := hb1.size; have := hb2.size; omega
    have HB : Hid (Byt w3 (w.heap.size + 1) s.data.toList ∧ w3.heap[bp]? = some (.cells (pC (w.heap.size + 1)) 159 (0, 0)) ∧ w3.heap[w.heap.size]? = some (.cells #[.int .i64 0, .int .u64 0, .int .u64 0, .int .u64 0, .int .u32 0] 100 (0, 0)) ∧ Below w.heap.size w w3 ∧ w.heap.size + 2 ≤ bp ∧ bp < w3.heap.size) := by
      have hq := (hy.next hb2 (by omega))
      have b2 : Below wz.heap.size wz w2 := bnext hb1 hb2
      rw [← hw3, ← hbp]
      refine ⟨hq.same ((MapKept.heap_alloc w2 _).2 _ (by omega)), new1 _ _, ?_, bal (bnext (by rw [← hwz]; exact bal (Below.refl _ _) _) b2) _, hs2, by simp⟩
      rw [(MapKept.heap_alloc w2 _).2 _ (by omega), b2.block _ (by omega), ← hwz]
      exact new1 _ _
    unfold pC at hw3
    rw [hw3, hbp]
    obtain ⟨g, hg⟩ : ∃ g, w.heap.size + 1 = g := ⟨_, rfl⟩
    rw [hg] at HB
    rw [hg]
    have HC : Hid (∀ W, Below w3.heap.size w3 W → W.cell? ⟨bp, 1, none⟩ = some (.slice (some ⟨g, 4, none⟩) 1 1) ∧ W.cell? ⟨bp, 2, none⟩ = some (.slice (some ⟨g, 8, none⟩) 8 8) ∧ W.cell? ⟨bp, 3, none⟩ = some (.slice (some ⟨g, 16, none⟩) 8 8) ∧ W.cell? ⟨bp, 4, none⟩ = some (.slice (some ⟨g, 24, none⟩) 8 8) ∧ W.cell? ⟨bp, 5, none⟩ = some (.slice (some ⟨g, 32, none⟩) 4 4)) := fun W hb => by
      have hh : W.heap[bp]? = some (.cells (pC g) 159 (0, 0)) := (hb.block _ HB.out.2.2.2.2.2).trans HB.out.2.1
      refine ⟨?_, ?_, ?_, ?_, ?_⟩
      iterate 5 (rw [cell_of_row W bp _ _ _ (0, 0) hh]; rfl)
    obtain ⟨n0, hn0⟩ : ∃ n, num ((s.data.toList.drop 4).take 1) = n := ⟨_, rfl⟩
    obtain ⟨n1, hn1⟩ : ∃ n, num ((s.data.toList.drop 8).take 8) = n := ⟨_, rfl⟩
    obtain ⟨n2, hn2⟩ : ∃ n, num ((s.data.toList.drop 16).take 8) = n := ⟨_, rfl⟩
    obtain ⟨n3, hn3⟩ : ∃ n, num ((s.data.toList.drop 24).take 8) = n := ⟨_, rfl⟩
    obtain ⟨n4, hn4⟩ : ∃ n, num ((s.data.toList.drop 32).take 4) = n := ⟨_, rfl⟩
    have hsl : s.data.toList.length = 64 := by rw [size_list, h64]
    have gs : g < w3.heap.size := by have := HB.out.2.2.2.2; omega
    have H0 : Hid (∀ W, Below w3.heap.size w3 W → Calls Tryz.prog 121 #[.slice (some ⟨g, 4, none⟩) 1 1] W fun e w' => e = .returned (.int .u64 (n0 : Int)) ∧ w' = W) := fun W hb => number_any W g 4 1 1 _ (HB.out.1.next hb gs) (by omega) (by decide) n0 hn0
    have H1 : Hid (∀ W, Below w3.heap.size w3 W → Calls Tryz.prog 121 #[.slice (some ⟨g, 8, none⟩) 8 8] W fun e w' => e = .returned (.int .u64 (n1 : Int)) ∧ w' = W) := fun W hb => number_any W g 8 8 8 _ (HB.out.1.next hb gs) (by omega) (by decide) n1 hn1
    have H2 : Hid (∀ W, Below w3.heap.size w3 W → Calls Tryz.prog 121 #[.slice (some ⟨g, 16, none⟩) 8 8] W fun e w' => e = .returned (.int .u64 (n2 : Int)) ∧ w' = W) := fun W hb => number_any W g 16 8 8 _ (HB.out.1.next hb gs) (by omega) (by decide) n2 hn2
    have H3 : Hid (∀ W, Below w3.heap.size w3 W → Calls Tryz.prog 121 #[.slice (some ⟨g, 24, none⟩) 8 8] W fun e w' => e = .returned (.int .u64 (n3 : Int)) ∧ w' = W) := fun W hb => number_any W g 24 8 8 _ (HB.out.1.next hb gs) (by omega) (by decide) n3 hn3
    have H4 : Hid (∀ W, Below w3.heap.size w3 W → Calls Tryz.prog 121 #[.slice (some ⟨g, 32, none⟩) 4 4] W fun e w' => e = .returned (.int .u64 (n4 : Int)) ∧ w' = W) := fun W hb => number_any W g 32 4 4 _ (HB.out.1.next hb gs) (by omega) (by decide) n4 hn4
    have l0 : n0 < 256 := by rw [← hn0]; exact num_le _ 1 (by simp; omega)
    have l1 : n1 < 256 ^ 8 := by rw [← hn1]; exact num_le _ 8 (by simp; omega)
    have l2 : n2 < 256 ^ 8 := by rw [← hn2]; exact num_le _ 8 (by simp; omega)
    have l3 : n3 < 256 ^ 8 := by rw [← hn3]; exact num_le _ 8 (by simp; omega)
    have l4 : n4 < 256 ^ 4 := by rw [← hn4]; exact num_le _ 4 (by simp; omega)
    have v0 : IntKind.i64.wrap (n0 : Int) = (n0 : Int) := by rw [IntKind.wrap_i64]; omega
    have v4 : IntKind.u32.wrap (n4 : Int) = (n4 : Int) := by rw [IntKind.wrap_u32]; omega
    have v4' : (n4 : Int) % 4294967296 = (n4 : Int) := by omega
    have hmO : mOf s.data.toList = ⟨(n0 : Int), n1, n2, n3, BitVec.ofNat 32 n4⟩ := by rw [mOf, hn0, hn1, hn2, hn3, hn4]
    have hD := bdrew (Below.refl w3.heap.size w3)
    clear hw3 hbp hy hb1 hb2 kb hwz HPP hn0 hn1 hn2 hn3 hn4
    obtain ⟨t, ht⟩ : ∃ t : ByteArray, (⟨(mrk (mOf s.data.toList)).toArray⟩ : ByteArray) = t := ⟨_, rfl⟩
    have HMK : Hid (Calls Tryz.prog 67 #[.agg #[.int .i64 (n0 : Int), .int .u64 (n1 : Int), .int .u64 (n2 : Int), .int .u64 (n3 : Int), .int .u32 (n4 : Int)]] (w3.alloc (.cells #[.int .i64 (n0 : Int), .int .u64 (n1 : Int), .int .u64 (n2 : Int), .int .u64 (n3 : Int), .int .u32 (n4 : Int)] 100)).drew fun e w' => e = .returned (.string t) ∧ (w'.cell? ⟨w3.heap.size, 0, none⟩ = some (.int .i64 (n0 : Int)) ∧ w'.cell? ⟨w3.heap.size, 1, none⟩ = some (.int .u64 (n1 : Int)) ∧ w'.cell? ⟨w3.heap.size, 2, none⟩ = some (.int .u64 (n2 : Int)) ∧ w'.cell? ⟨w3.heap.size, 3, none⟩ = some (.int .u64 (n3 : Int)) ∧ w'.cell? ⟨w3.heap.size, 4, none⟩ = some (.int .u32 (n4 : Int))) ∧ w'.heap[w.heap.size]? = some (.cells #[.int .i64 0, .int .u64 0, .int .u64 0, .int .u64 0, .int .u32 0] 100 (0, 0)) ∧ Below w.heap.size w w') := by
      have e4 : (BitVec.ofNat 32 n4).toNat = n4 := by rw [BitVec.toNat_ofNat]; omega
      obtain ⟨wa, hwa⟩ : ∃ wa, (w3.alloc (.cells #[.int .i64 (n0 : Int), .int .u64 (n1 : Int), .int .u64 (n2 : Int), .int .u64 (n3 : Int), .int .u32 (n4 : Int)] 100)).drew = wa := ⟨_, rfl⟩
      have ha1 : wa.heap[w3.heap.size]? = some (.cells #[.int .i64 (n0 : Int), .int .u64 (n1 : Int), .int .u64 (n2 : Int), .int .u64 (n3 : Int), .int .u32 (n4 : Int)] 100 (0, 0)) := by rw [← hwa]; exact new1 w3 _
      have ha2 : wa.heap[w.heap.size]? = some (.cells #[.int .i64 0, .int .u64 0, .int .u64 0, .int .u64 0, .int .u32 0] 100 (0, 0)) := by
        rw [← hwa]
        exact ((MapKept.heap_alloc w3 _).2 _ (by have := HB.out.2.2.2.2; omega)).trans HB.out.2.2.1
      have ha3 : Below w.heap.size w wa := by rw [← hwa]; exact bdrew (bal HB.out.2.2.2.1 _)
      rw [hwa]
      have := mark_any wa ⟨(n0 : Int), n1, n2, n3, BitVec.ofNat 32 n4⟩ l1 l2 l3 t (by rw [← hmO]; exact ht)
      unfold mC at this
      simp only [e4] at this
      refine this.mono ?_
      rintro e w' ⟨rfl, hb⟩
      have hh := (hb.block _ (Array.getElem?_eq_some_iff.1 ha1).1).trans ha1
      refine ⟨rfl, ?_, (hb.block _ (Array.getElem?_eq_some_iff.1 ha2).1).trans ha2, bnext ha3 hb⟩
      refine ⟨?_, ?_, ?_, ?_, ?_⟩
      iterate 5 (rw [cell_of_row w' _ _ _ _ (0, 0) hh]; rfl)
    have HRS : Hid (∀ W : World, W.heap[w.heap.size]? = some (.cells #[.int .i64 0, .int .u64 0, .int .u64 0, .int .u64 0, .int .u32 0] 100 (0, 0)) → (W.cell? ⟨w.heap.size, 0, none⟩ = some (.int .i64 0) ∧ W.cell? ⟨w.heap.size, 1, none⟩ = some (.int .u64 0) ∧ W.cell? ⟨w.heap.size, 2, none⟩ = some (.int .u64 0) ∧ W.cell? ⟨w.heap.size, 3, none⟩ = some (.int .u64 0) ∧ W.cell? ⟨w.heap.size, 4, none⟩ = some (.int .u32 0)) ∧ W.frozen? ⟨w.heap.size, 0, none⟩ = false ∧ W.frozen? ⟨w.heap.size, 1, none⟩ = false ∧ W.frozen? ⟨w.heap.size, 2, none⟩ = false ∧ W.frozen? ⟨w.heap.size, 3, none⟩ = false ∧ W.frozen? ⟨w.heap.size, 4, none⟩ = false) := fun W hh => by
      refine ⟨⟨?_, ?_, ?_, ?_, ?_⟩, ?_, ?_, ?_, ?_, ?_⟩
      iterate 5 (rw [cell_of_row W _ _ _ _ (0, 0) hh]; rfl)
      iterate 5 (exact frozen_of_row W _ _ _ _ hh)
    have HEN : Hid (∀ (W : World) (m : MV), W.heap[w.heap.size]? = some (.cells #[.int .i64 0, .int .u64 0, .int .u64 0, .int .u64 0, .int .u32 0] 100 (0, 0)) → Below w.heap.size w W → ∃ W', (((((W.setCell ⟨w.heap.size, 0, none⟩ (.int .i64 m.k)).setCell ⟨w.heap.size, 1, none⟩ (.int .u64 (m.size : Int))).setCell ⟨w.heap.size, 2, none⟩ (.int .u64 (m.items : Int))).setCell ⟨w.heap.size, 3, none⟩ (.int .u64 (m.nodes : Int))).setCell ⟨w.heap.size, 4, none⟩ (.int .u32 (m.chain.toNat : Int))) = W' ∧ (W'.cell? ⟨w.heap.size, 0, none⟩ = some (.int .i64 m.k) ∧ W'.cell? ⟨w.heap.size, 1, none⟩ = some (.int .u64 (m.size : Int)) ∧ W'.cell? ⟨w.heap.size, 2, none⟩ = some (.int .u64 (m.items : Int)) ∧ W'.cell? ⟨w.heap.size, 3, none⟩ = some (.int .u64 (m.nodes : Int)) ∧ W'.cell? ⟨w.heap.size, 4, none⟩ = some (.int .u32 (m.chain.toNat : Int))) ∧ Below w.heap.size w W') := fun W m hh hb => by
      have q1 := heap_setCell_same W w.heap.size 0 _ _ (.int .i64 m.k) hh
      have q2 := heap_setCell_same _ w.heap.size 1 _ _ (.int .u64 (m.size : Int)) q1
      have q3 := heap_setCell_same _ w.heap.size 2 _ _ (.int .u64 (m.items : Int)) q2
      have q4 := heap_setCell_same _ w.heap.size 3 _ _ (.int .u64 (m.nodes : Int)) q3
      have q5 := heap_setCell_same _ w.heap.size 4 _ _ (.int .u32 (m.chain.toNat : Int)) q4
      refine ⟨_, rfl, ⟨?_, ?_, ?_, ?_, ?_⟩, ((((hb.setCell (Nat.le_refl _) _).setCell (Nat.le_refl _) _).setCell (Nat.le_refl _) _).setCell (Nat.le_refl _) _).setCell (Nat.le_refl _) _⟩
      iterate 5 (rw [cell_of_row _ _ _ _ _ (0, 0) q5]; rfl)
    have HT : Hid ((⟨(mrk (mOf s.data.toList)).toArray⟩ : ByteArray) = t ∧ mOf s.data.toList = ⟨(n0 : Int), n1, n2, n3, BitVec.ofNat 32 n4⟩ ∧ n4 < 256 ^ 4 ∧ s.data.toList.length = 64 ∧ rmT s.data.toList = (rm, re)) := ⟨ht, hmO, l4, hsl, h⟩
    clear ht hmO l0 l1 l2 l3 l4 hsl h
    go_cut [5] from 13 to 30 (fun x wx => x = .pointer (some ⟨w3.heap.size, 0, none⟩) ∧ wx = (w3.alloc (.cells #[.int .i64 (n0 : Int), .int .u64 (n1 : Int), .int .u64 (n2 : Int), .int .u64 (n3 : Int), .int .u32 (n4 : Int)] 100)).drew)
    case first =>
      go_region_held3 (fun Z => Z.cell? ⟨bp, 1, none⟩ = some (.slice (some ⟨g, 4, none⟩) 1 1) ∧ Z.cell? ⟨bp, 2, none⟩ = some (.slice (some ⟨g, 8, none⟩) 8 8) ∧ Z.cell? ⟨bp, 3, none⟩ = some (.slice (some ⟨g, 16, none⟩) 8 8) ∧ Z.cell? ⟨bp, 4, none⟩ = some (.slice (some ⟨g, 24, none⟩) 8 8) ∧ Z.cell? ⟨bp, 5, none⟩ = some (.slice (some ⟨g, 32, none⟩) 4 4)) (first | assumption | (exact HC.out _ hD) | (exact HC.out _ (bdrew (bal (Below.refl _ _) _)))) (first
        | (go_at_call 121; (first
            | (with_reducible refine (H0.out _ hD).mono ?_) | (with_reducible refine (H0.out _ (bdrew (bal (Below.refl _ _) _))).mono ?_)
            | (with_reducible refine (H1.out _ hD).mono ?_) | (with_reducible refine (H1.out _ (bdrew (bal (Below.refl _ _) _))).mono ?_)
            | (with_reducible refine (H2.out _ hD).mono ?_) | (with_reducible refine (H2.out _ (bdrew (bal (Below.refl _ _) _))).mono ?_)
            | (with_reducible refine (H3.out _ hD).mono ?_) | (with_reducible refine (H3.out _ (bdrew (bal (Below.refl _ _) _))).mono ?_)
            | (with_reducible refine (H4.out _ hD).mono ?_) | (with_reducible refine (H4.out _ (bdrew (bal (Below.refl _ _) _))).mono ?_)); rintro e w4 ⟨rfl, rfl⟩))
      all_goals
        go_wp2_with fail
        go_meet
        case rel => exact ⟨rfl, rfl⟩
    case rest =>
      obtain ⟨rfl, rfl⟩ := hcut
      clear HC H0 H1 H2 H3 H4 hD
      by_cases heq : t = s
      · have hbq := beq_yes heq
        obtain ⟨hT1, hT2, hT3, hT4, h⟩ := HT.out
        have e4 : (BitVec.ofNat 32 n4).toNat = n4 := by rw [BitVec.toNat_ofNat]; omega
        rw [rmT_yes (x := ⟨(n0 : Int), n1, n2, n3, BitVec.ofNat 32 n4⟩) (by rw [rmrk, hT2]; refine if_pos ⟨hT4, ?_⟩; have := congrArg (fun z : ByteArray => z.data.toList) (hT1.trans heq); rw [hT2] at this; exact this)] at h
        obtain ⟨rfl, rfl⟩ : (⟨(n0 : Int), n1, n2, n3, BitVec.ofNat 32 n4⟩ : MV) = rm ∧ 0 = re := by simpa using h
        clear hT1 hT2 hT3 hT4 h heq
        go_wp2_with (go_at_call 67; with_reducible refine HMK.out.mono ?_; rintro e w5 ⟨rfl, ⟨m0, m1, m2, m3, m4⟩, hh5, hb5⟩; obtain ⟨⟨r0, r1, r2, r3, r4⟩, f0, f1, f2, f3, f4⟩ := HRS.out _ hh5)
        obtain ⟨w6, hw6, ⟨x0, x1, x2, x3, x4⟩, hb6⟩ := HEN.out w5 ⟨(n0 : Int), n1, n2, n3, BitVec.ofNat 32 n4⟩ hh5 hb5
        simp only [e4] at hw6 x4
        rw [hw6]
        exact bodyPost_ret (v := .tuple #[.agg (mC ⟨(n0 : Int), n1, n2, n3, BitVec.ofNat 32 n4⟩), .int .i64 0]) (by simp [results, Tryz.results133, go_sem, x0, x1, x2, x3, x4, mC]; omega) rfl ⟨rfl, hb6⟩
      · have hbq := beq_ne heq
        obtain ⟨hT1, _, _, _, h⟩ := HT.out
        rw [rmT_no (if_neg fun q => heq (ba_ext (by rw [← hT1]; exact q.2)))] at h
        obtain ⟨rfl, rfl⟩ : MV.z = rm ∧ 180 = re := by simpa using h
        clear hT1 h heq
        go_wp2_with (go_at_call 67; with_reducible refine HMK.out.mono ?_; rintro e w5 ⟨rfl, ⟨m0, m1, m2, m3, m4⟩, hh5, hb5⟩; obtain ⟨⟨r0, r1, r2, r3, r4⟩, f0, f1, f2, f3, f4⟩ := HRS.out _ hh5)
        obtain ⟨w6, hw6, ⟨x0, x1, x2, x3, x4⟩, hb6⟩ := HEN.out w5 MV.z hh5 hb5
        simp only [MV.z, show (0#32).toNat = 0 from rfl, show ((0 : Nat) : Int) = 0 from rfl] at hw6 x0 x1 x2 x3 x4
        rw [hw6]
        exact bodyPost_ret (v := .tuple #[.agg (mC MV.z), .int .i64 180]) (by simp [results, Tryz.results133, go_sem, x0, x1, x2, x3, x4, mC, MV.z]) rfl ⟨rfl, hb6⟩
  · have z1 : ((s.size : Int) == 64) = false := by simp; omega
    rw [rmT_no (if_neg fun q => h64 (by rw [← size_list]; exact q.1))] at h
    obtain ⟨rfl, rfl⟩ : MV.z = rm ∧ 180 = re := by simpa using h
    clear h
    go_enter Tryz.func133, Tryz.ntmps133
    go_wp2
    exact bodyPost_ret (v := .tuple #[.agg (mC MV.z), .int .i64 180]) (by simp [results, Tryz.results133, go_sem, mC, MV.z]) rfl ⟨rfl, bal (Below.refl _ _) _⟩
end Go.Proofs.YthfnpagangjpbabGreat.Rc
