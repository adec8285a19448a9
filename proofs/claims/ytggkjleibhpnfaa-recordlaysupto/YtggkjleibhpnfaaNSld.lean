/-
  Walks: the parts of records, sealed. Own work.
-/
import Derived.Test.YtggkjleibhpnfaaNPut
import Derived.BigQuiet
namespace Go.Proofs.Ytggkjleibhpnfaa
open Go.RowKit
attribute [local go_sem ↓] Go.wp_at_zero Go.wp_at_succ
set_option maxRecDepth 100000 in
theorem strength_any (w : World) (k : Int) : Calls Try.prog 27 #[.int .i64 k] w fun e w' => e = .returned (.bool (decide (1 ≤ k ∧ k ≤ 32))) ∧ w' = w := by
  by_cases h1 : 1 ≤ k
  · by_cases h2 : k ≤ 32
    · have e : decide (1 ≤ k ∧ k ≤ 32) = true := by simp [h1, h2]
      rw [e]
      go_enter Try.func27, Try.ntmps27
      go_wp2
      go_ret
      exact ⟨rfl, rfl⟩
    · have e : decide (1 ≤ k ∧ k ≤ 32) = false := by simp [h2]
      rw [e]
      go_enter Try.func27, Try.ntmps27
      go_wp2
      go_ret
      exact ⟨rfl, rfl⟩
  · have e : decide (1 ≤ k ∧ k ≤ 32) = false := by simp [h1]
    rw [e]
    go_enter Try.func27, Try.ntmps27
    go_wp2
    go_ret
    exact ⟨rfl, rfl⟩
set_option maxRecDepth 100000 in
theorem pparts_any (w : World) (g n cap : Nat) (h8 : 8 ≤ n) (hc : n ≤ cap) (hm : n ≤ 140737488355328) (o : Nat) (ho : (if n - 4 = 4 then 0 else 4) = o) (m : Nat) (hm2 : n - 8 = m) :
    Calls Try.prog 23 #[.slice (some ⟨g, 0, none⟩) n cap] w fun e w' => e = .returned (.tuple #[.slice (some ⟨g, 0, none⟩) 4 4, .slice (some ⟨g, o, none⟩) m m]) ∧ Below w.heap.size w w' := by
  have z1 : (0 : Int) ≤ (n : Int) - 4 := by omega
  have z2 : (n : Int) - 4 ≤ (cap : Int) := by omega
  have z3 : (4 : Int) ≤ (n : Int) - 4 := by omega
  have z4 : (4 : Int) ≤ (cap : Int) := by omega
  have z5 : (n : Int) ≤ 140737488355328 := by omega
  have HO : Hid ((if n - 4 = 4 then 0 else 4) = o ∧ n - 4 - 4 = m) := ⟨ho, by omega⟩
  clear ho hm2
  go_enter Try.func23, Try.ntmps23
  go_wp2
  go_quiet (fail)
  go_wp2
  · obtain ⟨h1, h2⟩ := HO.out
    rw [if_pos h] at h1
    obtain rfl : m = 0 := by omega
    subst h1
    exact bodyPost_ret (v := .tuple #[.slice (some ⟨g, 0, none⟩) 4 4, .slice (some ⟨g, 0, none⟩) 0 0]) (by simp [results, Try.results23, go_sem]) rfl ⟨rfl, below_drewN (Below.refl _ _) _⟩
  · obtain ⟨h1, h2⟩ := HO.out
    rw [if_neg h] at h1
    rw [h2]
    subst h1
    exact bodyPost_ret (v := .tuple #[.slice (some ⟨g, 0, none⟩) 4 4, .slice (some ⟨g, 4, none⟩) m m]) (by simp [results, Try.results23, go_sem]) rfl ⟨rfl, below_drewN (Below.refl _ _) _⟩
set_option maxRecDepth 100000 in
theorem nparts_any (w : World) (g n cap : Nat) (h8 : 36 ≤ cap) :
    Calls Try.prog 28 #[.slice (some ⟨g, 0, none⟩) n cap] w fun e w' => e = .returned (.tuple #[.slice (some ⟨g, 0, none⟩) 32 32, .slice (some ⟨g, 32, none⟩) 4 4]) ∧ Below w.heap.size w w' := by
  have z1 : (36 : Int) ≤ (cap : Int) := by omega
  have z2 : (32 : Int) ≤ (cap : Int) := by omega
  go_enter Try.func28, Try.ntmps28
  go_wp2
  go_quiet (fail)
  go_wp2
  refine bodyPost_ret (v := .tuple #[.slice (some ⟨g, 0, none⟩) 32 32, .slice (some ⟨g, 32, none⟩) 4 4]) (by simp [results, Try.results28, go_sem]) rfl ⟨rfl, below_drewN (Below.refl _ _) _⟩
/-- A marker's parts. -/
def mP (g : Nat) : Value := .agg #[.slice (some ⟨g, 0, none⟩) 4 4, .slice (some ⟨g, 4, none⟩) 1 1, .slice (some ⟨g, 8, none⟩) 8 8, .slice (some ⟨g, 16, none⟩) 8 8, .slice (some ⟨g, 24, none⟩) 8 8, .slice (some ⟨g, 32, none⟩) 4 4]
set_option maxRecDepth 100000 in
theorem mparts_any (w : World) (g n cap : Nat) (h8 : 36 ≤ cap) :
    Calls Try.prog 29 #[.slice (some ⟨g, 0, none⟩) n cap] w fun e w' => e = .returned (mP g) ∧ Below w.heap.size w w' := by
  have z1 : (36 : Int) ≤ (cap : Int) := by omega
  have z2 : (32 : Int) ≤ (cap : Int) := by omega
  have z3 : (24 : Int) ≤ (cap : Int) := by omega
  have z4 : (16 : Int) ≤ (cap : Int) := by omega
  have z5 : (5 : Int) ≤ (cap : Int) := by omega
  have z6 : (4 : Int) ≤ (cap : Int) := by omega
  go_enter Try.func29, Try.ntmps29
  go_wp2
  go_region
  go_wp2
  refine bodyPost_ret (v := mP g) (by simp [results, Try.results29, go_sem, mP]) rfl ⟨rfl, below_drewN (bal (Below.refl _ _) _) 1⟩
set_option maxRecDepth 100000 in
set_option maxHeartbeats 1000000 in
theorem sealed_any (w : World) (g n cap : Nat) (l : List UInt8) (hl : Byt w g l) (hn : l.length = n) (h8 : 8 ≤ n) (hc : n ≤ cap) (hm : n ≤ 140737488355328) (t : ByteArray) (ht : (⟨(sld (l.take (n - 4))).toArray⟩ : ByteArray) = t) :
    Calls Try.prog 25 #[.slice (some ⟨g, 0, none⟩) n cap] w fun e w' => e = .returned (.string t) ∧ Byt w' g (sld (l.take (n - 4))) ∧ Upo (fun b => b = g) w w' := by
  obtain ⟨k, hk⟩ : ∃ k, n = k + 4 := ⟨n - 4, by omega⟩
  subst hk
  rw [Nat.add_sub_cancel] at ht ⊢
  obtain ⟨u, hu⟩ : ∃ u : ByteArray, (⟨(l.take k).toArray⟩ : ByteArray) = u := ⟨_, rfl⟩
  have hul : u.data.toList = l.take k := by rw [← hu]
  have hus : u.size = k := by rw [← size_list, hul]; simp; omega
  have z1 : (0 : Int) ≤ (k : Int) := by omega
  have z2 : (k : Int) ≤ (cap : Int) := by omega
  have z3 : ((k + 4 : Nat) : Int) - 4 = (k : Int) := by omega
  have z4 : (k : Int) ≤ 140737488355328 := by omega
  have z5 : (k : Int) ≤ ((k + 4 : Nat) : Int) := by omega
  have z6 : ¬ cap = k := by omega
  have HL : Hid (Byt w g l ∧ l.length = k + 4 ∧ g < w.heap.size) := ⟨hl, hn, hl.lt (by omega)⟩
  have HC : Hid (∀ W, Below w.heap.size w W → (convert 41 9 (.slice (some ⟨g, 0, none⟩) k k)).run Try.prog W = .ok (.string u) W) := fun W hb =>
    (HL.out.1.next hb HL.out.2.2).conv (k := 0) (n := k) (by have := HL.out.2.1; omega) 0 (fun _ => rfl) k u (by rw [List.drop_zero]; exact hu)
  obtain ⟨x, hx⟩ : ∃ x, crc (l.take k) = x := ⟨_, rfl⟩
  have hx4 := crc_lt (l.take k)
  rw [hx] at hx4
  have HF : Hid (∀ W, Calls Try.prog 33 #[.slice (some ⟨W.heap.size, 0, none⟩) 1 1] (W.alloc (.cells #[.string u] 9)) fun e w' => e = .returned (.int .u32 (x : Int)) ∧ Below W.heap.size W w') := fun W => by
    refine (of_any _ _ W.heap.size 0 1 1 [u] ⟨rfl, fun _ => rfl, range_new W [.string u] 9, by intro s hs; simp at hs; subst hs; omega⟩ (by decide)).mono ?_
    rintro e w' ⟨rfl, hb⟩
    refine ⟨?_, ((Below.refl _ _).alloc (Nat.le_refl _) _).trans (hb.mono (by simp))⟩
    rw [← hx, crc, sumL, ← hul]
    simp [flat]
  have HP : Hid (∀ W, Below w.heap.size w W → Calls Try.prog 24 #[.slice (some ⟨g, k, none⟩) 4 (cap - k), .int .u64 (x : Int)] W fun e w' => e = .returned (.tuple #[]) ∧ Byt w' g (sld (l.take k)) ∧ Upo (fun b => b = g) w w') := fun W hb => by
    refine (put_any W g k 4 (cap - k) x l (HL.out.1.next hb HL.out.2.2) (by have := HL.out.2.1; omega) (by decide) (by omega)).mono ?_
    rintro e w' ⟨rfl, hy, hup⟩
    refine ⟨rfl, ?_, (Upo.of hb).on hup⟩
    rw [ovr, big_len, List.drop_eq_nil_of_le (by rw [hn]; exact Nat.le_refl _), List.append_nil, ← hx] at hy
    exact hy
  have HD : Hid (∀ W, Byt W g (sld (l.take k)) → (convert 41 9 (.slice (some ⟨g, 0, none⟩) (k + 4) cap)).run Try.prog W = .ok (.string t) W) := fun W hy => by
    have hsl : (sld (l.take k)).length = k + 4 := by rw [sld_len]; simp; omega
    exact hy.conv (k := 0) (n := k + 4) (by omega) 0 (fun _ => rfl) cap t (by rw [List.drop_zero, List.take_of_length_le (by omega)]; exact ht)
  clear hl hn ht hx hu hul hus
  go_enter Try.func25, Try.ntmps25
  go_wp2
  go_quiet (fail)
  have hb0 : Below w.heap.size w (w.drewN nq) := below_drewN (Below.refl _ _) _
  have kc := HC.out _ hb0
  generalize w.drewN nq = w1 at *
  go_wp2_with (first
    | (go_at_call 33; with_reducible refine (HF.out _).mono ?_; rintro e w2 ⟨rfl, hb⟩)
    | (go_at_call 24; with_reducible refine (HP.out _ (hb0.trans (hb.mono hb0.size))).mono ?_; rintro e w3 ⟨rfl, hy, hup⟩; have kd := HD.out _ hy))
  go_ret
  exact ⟨rfl, hy, hup⟩
end Go.Proofs.Ytggkjleibhpnfaa
