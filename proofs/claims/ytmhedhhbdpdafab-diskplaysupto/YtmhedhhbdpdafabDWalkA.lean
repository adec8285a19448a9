/-
  Walks of a file: cut, written, synced. Own work.
-/
import Derived.Test.YtmhedhhbdpdafabDMem
import Derived.BigQuiet
import Derived.WalkMore
import Derived.Deep.Cut
import Derived.Deep.CutRange
namespace Go.Proofs.Ytmhedhhbdpdafab
open Go.RowKit
/-- A file's value. -/
def fv (a : Option Addr) (n c : Nat) (b : Option Addr) (m d : Nat) (s : Nat) : Value := .agg #[.slice a n c, .slice b m d, .int .i64 (s : Int)]
theorem fcut_any (w : World) (a : Option Addr) (n c : Nat) (b : Option Addr) (m d s k r : Nat) (hk : k ≤ n) (hc : n ≤ c) (hr : min s k = r) :
    Calls Try.prog 43 #[.agg #[.slice a n c, .slice b m d, .int .i64 (s : Int)], .int .i64 (k : Int)] w fun e w' => e = .returned (fv a k c b m d r) ∧ Below w.heap.size w w' := by
  have h1 : (0 : Int) ≤ (k : Int) := by omega
  have h2 : (k : Int) ≤ (c : Int) := by omega
  have h3 : Hid (min s k = r) := hr
  clear hk hc hr
  go_enter Try.func43, Try.ntmps43
  go_wp2
  · have e : k = r := by have := h3.out; omega
    subst e
    refine bodyPost_ret (v := fv a k c b m d k) (by simp [results, Try.results43, go_sem, fv]) rfl ⟨rfl, bal (bal (Below.refl _ _) _) _⟩
  · have e : s = r := by have := h3.out; omega
    subst e
    refine bodyPost_ret (v := fv a k c b m d s) (by simp [results, Try.results43, go_sem, fv]) rfl ⟨rfl, bal (bal (Below.refl _ _) _) _⟩
/-- What stands behind a write. -/
def wr (l : List UInt8) (k : Nat) (t : List UInt8) : List UInt8 := l.take k ++ t ++ l.drop (k + t.length)
theorem wr_split (l : List UInt8) (k : Nat) (t : List UInt8) (hk : k ≤ l.length) (c : Nat) (hc : min t.length (l.length - k) = c) : (l.take k ++ t.take c ++ l.drop (k + (t.take c).length)) ++ t.drop c = wr l k t := by
  unfold wr
  have hl : (t.take c).length = c := by simp; omega
  rw [hl]
  by_cases h : t.length ≤ l.length - k
  · have e : c = t.length := by omega
    subst e
    simp
  · have e1 : l.drop (k + c) = [] := List.drop_eq_nil_of_le (by omega)
    have e2 : l.drop (k + t.length) = [] := List.drop_eq_nil_of_le (by omega)
    rw [e1, e2]
    simp
theorem wr_len (l : List UInt8) (k : Nat) (t : List UInt8) (hk : k ≤ l.length) : (wr l k t).length = max l.length (k + t.length) := by
  simp only [wr, List.length_append, List.length_take, List.length_drop]
  omega
/-- Where a row from a place on lies. -/
theorem sub_ok {w : World} {a : Option Addr} {g c k n : Nat} {l : List UInt8} (h : Rw w a g c l) (hk : k ≤ l.length) {ax : Option Addr} (hx : (if c = k then a else a.map (·.add k)) = ax) (hn : l.length = n) : (ax = a ∨ ax = a.map (·.add k)) ∧ (ax = a → k = 0 ∨ n - k = 0) := by
  have := h.le
  by_cases e : c = k
  · rw [if_pos e] at hx
    exact ⟨.inl hx.symm, fun _ => .inr (by omega)⟩
  · rw [if_neg e] at hx
    refine ⟨.inr hx.symm, fun q => ?_⟩
    rw [← hx] at q
    rcases h.ptr with p | p
    · have := h.empty p
      rw [this] at hn
      exact .inr (by simp at hn; omega)
    · rw [p, Option.map_some, Addr.add_mid, Nat.zero_add] at q
      injection q with q
      injection q with _ q _
      exact .inl q
set_option maxHeartbeats 1000000 in
theorem fwrite_any (w : World) (a : Option Addr) (g n c : Nat) (l : List UInt8) (b : Option Addr) (m d s k r : Nat) (t : ByteArray) (h : Rw w a g c l) (hn : l.length = n) (hk : k ≤ n) (hr : min s k = r) (hl : n + t.size ≤ 140737488355328) :
    Calls Try.prog 36 #[.agg #[.slice a n c, .slice b m d, .int .i64 (s : Int)], .int .i64 (k : Int), .string t] w fun e w' => ∃ a' g' c', e = .returned (fv a' (wr l k t.data.toList).length c' b m d r) ∧ Rw w' a' g' c' (wr l k t.data.toList) ∧ Upo (fun b => a = some ⟨g, 0, none⟩ ∧ b = g) w w' ∧ ((a' = a ∧ g' = g) ∨ (w.heap.size ≤ g' ∧ g' < w'.heap.size)) ∧ (a = some ⟨g, 0, none⟩ → Ty w' g 5) := by
  have h1 : (0 : Int) ≤ (k : Int) := by omega
  have h2 : (k : Int) ≤ (n : Int) := by omega
  have h3 : Hid (min s k = r) := hr
  obtain ⟨ax, hx⟩ : ∃ ax, (if c = k then a else a.map (·.add k)) = ax := ⟨_, rfl⟩
  obtain ⟨cc, hcc⟩ : ∃ cc, Nat.min t.size (n - k) = cc := ⟨_, rfl⟩
  have hax := sub_ok h (by omega) hx hn
  have HC := fun (W : World) (hW : Rw W a g c l) (ty : TypeId) => run_copy_text (n := n - k) W ty (by omega) hW hax.1 hax.2 hcc (c - k)
  have HH : Hid (Rw w a g c l) := h
  clear hr h hax
  go_enter Try.func36, Try.ntmps36
  have r1 : Rw ((w.alloc (.cells #[.slice a n c, .slice b m d, .int .i64 (s : Int)] 69)).alloc (.cells #[.slice none 0 0, .slice none 0 0, .int .i64 0] 69)) a g c l := HH.out.next (bal (bal (Below.refl _ _) _) _) (Nat.le_refl _)
  have HC1 := fun ty => HC _ r1 ty
  clear HC r1
  go_upto_region 2 with (fail)
  obtain ⟨w1, hw1⟩ : ∃ W, ((w.alloc (.cells #[.slice a n c, .slice b m d, .int .i64 (s : Int)] 69)).alloc (.cells #[.slice none 0 0, .slice none 0 0, .int .i64 0] 69)) = W := ⟨_, rfl⟩
  have hb1 : Below w.heap.size w w1 := by rw [← hw1]; exact bal (bal (Below.refl _ _) _) _
  have hz1 : w1.heap.size = w.heap.size + 2 := by rw [← hw1]; simp
  have k1 : w1.heap[w.heap.size]? = some (.cells #[.slice a n c, .slice b m d, .int .i64 (s : Int)] 69 (0, 0)) := by rw [← hw1]; exact new0 _ _ _
  have k2 : w1.heap[w.heap.size + 1]? = some (.cells #[.slice none 0 0, .slice none 0 0, .int .i64 0] 69 (0, 0)) := by rw [← hw1]; exact new2 _ _ _
  rw [hw1]
  clear hw1 HC1
  have r1 : Rw w1 a g c l := HH.out.next hb1 (Nat.le_refl _)
  have hcc2 : cc ≤ t.size ∧ cc ≤ n - k ∧ min t.size (n - k) = cc := ⟨by rw [← hcc]; exact Nat.min_le_left _ _, by rw [← hcc]; exact Nat.min_le_right _ _, hcc⟩
  have q0 : (0 : Int) ≤ (cc : Int) := by omega
  have q1 : (cc : Int) ≤ (t.size : Int) := by omega
  have hlt : (t.data.toList.take cc).length = cc := by rw [List.length_take, size_list]; omega
  have r2 := r1.over k (t.data.toList.take cc) (by omega)
  have hu : Upo (fun b => a = some ⟨g, 0, none⟩ ∧ b = g) w (w1.setCells g k (cY (t.data.toList.take cc))) ∧ Upo (fun b => a = some ⟨g, 0, none⟩ ∧ b = g) w1 (w1.setCells g k (cY (t.data.toList.take cc))) := by
    rcases r1.ptr with e | e
    · have : t.data.toList.take cc = [] := List.length_eq_zero_iff.1 (by rw [hlt]; have := r1.empty e; rw [this] at hn; simp at hn; omega)
      rw [this]
      exact ⟨Upo.of hb1, Upo.refl _ _⟩
    · exact ⟨upo_sets (.inl ⟨e, rfl⟩) _ _ _ (Upo.of hb1), upo_sets (.inl ⟨e, rfl⟩) _ _ _ (Upo.refl _ _)⟩
  obtain ⟨w2, hw2⟩ : ∃ W, w1.setCells g k (cY (t.data.toList.take cc)) = W := ⟨_, rfl⟩
  rw [hw2] at r2 hu ⊢
  clear hw2
  have ng : a = some ⟨g, 0, none⟩ → g < w.heap.size := fun e => (HH.out.ty e).lt
  have j1 : w2.heap[w.heap.size]? = _ := (hu.2.block _ (by omega) (fun q => by have := ng q.1; omega)).trans k1
  have j2 : w2.heap[w.heap.size + 1]? = _ := (hu.2.block _ (by omega) (fun q => by have := ng q.1; omega)).trans k2
  obtain ⟨t2, ht2⟩ : ∃ t2, t.extract cc t.size = t2 := ⟨_, rfl⟩
  have e2 : t2.data.toList = t.data.toList.drop cc := by rw [← ht2]; exact ext_drop t cc
  have r3 : Rw w2.drew a g c _ := r2.same (fun _ => rfl)
  have hln : (l.take k ++ t.data.toList.take cc ++ l.drop (k + (t.data.toList.take cc).length)).length = n := by simp only [List.length_append, List.length_take, List.length_drop, size_list]; omega
  obtain ⟨a', g', c', w3, hr, r4, u3, hloc, ty3⟩ := r3.app 9 67 (.string t2) t2.data.toList (src_text _ t2) (by rw [hln, e2, List.length_drop, size_list]; omega)
  rw [hln] at hr
  rw [e2, wr_split l k t.data.toList (by omega) cc (by rw [size_list]; omega)] at hr r4
  obtain ⟨N, hN⟩ : ∃ N, (wr l k t.data.toList).length = N := ⟨_, rfl⟩
  rw [hN] at hr
  have HN : Hid ((wr l k t.data.toList).length = N) := hN
  have hc0 : w2.cell? ⟨w.heap.size, 0, none⟩ = some (.slice a n c) := by rw [cell_of_row w2 w.heap.size 0 _ _ (0, 0) j1]; rfl
  have y1 : w3.heap[w.heap.size]? = _ := (u3.block _ (by have := hu.2.size; show _ < w2.heap.size; omega) (fun q => by have := ng q.1; omega)).trans j1
  have hfz : w3.frozen? ⟨w.heap.size, 0, none⟩ = false := frozen_of_row w3 w.heap.size 0 _ _ y1
  have hs3 : w3.cell? ⟨w.heap.size, 0, none⟩ = some (.slice a n c) := by rw [cell_of_row w3 w.heap.size 0 _ _ (0, 0) y1]; rfl
  have y2 : w3.heap[w.heap.size + 1]? = _ := (u3.block _ (by have := hu.2.size; show _ < w2.heap.size; omega) (fun q => by have := ng q.1; omega)).trans j2
  have z1 : (w3.setCell ⟨w.heap.size, 0, none⟩ (.slice a' N c')).heap[w.heap.size]? = some (.cells #[.slice a' N c', .slice b m d, .int .i64 (s : Int)] 69 (0, 0)) := heap_setCell_same w3 w.heap.size 0 _ _ _ y1
  have z2 : (w3.setCell ⟨w.heap.size, 0, none⟩ (.slice a' N c')).heap[w.heap.size + 1]? = _ := (Below.heap_setCell _ _ _ _ (by simp)).trans y2
  have HF : Hid (Rw w3 a' g' c' (wr l k t.data.toList) ∧ Upo (fun b => a = some ⟨g, 0, none⟩ ∧ b = g) w w3 ∧ ((a' = a ∧ g' = g) ∨ (w2.heap.size ≤ g' ∧ g' < w3.heap.size)) ∧ w.heap.size + 2 ≤ w2.heap.size ∧ (a = some ⟨g, 0, none⟩ → g < w.heap.size) ∧ (a = some ⟨g, 0, none⟩ → Ty w3 g 5)) := ⟨r4, hu.1.trans (show Upo _ w2 w3 from ⟨u3.os, u3.tape, u3.output, u3.size, u3.block⟩) (fun _ _ q => q), hloc.imp id (fun q => ⟨Nat.le_of_eq q.1.symm, q.2⟩), by have := hu.2.size; omega, ng, ty3⟩
  clear r4 hu u3 hloc ty3 ng r1 r2 r3 k1 k2 j1 j2 hN hln e2 HH hcc2 hlt hb1 hz1
  go_region_law (first
    | (refine step_app (by rfl) _ _ _ _ (by rfl) (by rfl) (by rfl) hr ?_))
  obtain ⟨w4, hw4⟩ : ∃ W, w3.setCell ⟨w.heap.size, 0, none⟩ (.slice a' N c') = W := ⟨_, rfl⟩
  have HW4 : Hid (w3.setCell ⟨w.heap.size, 0, none⟩ (.slice a' N c') = w4) := hw4
  rw [hw4] at z1 z2
  have b0 : w4.cell? ⟨w.heap.size, 0, none⟩ = some (.slice a' N c') := by rw [cell_of_row w4 w.heap.size 0 _ _ (0, 0) z1]; rfl
  have b1 : w4.cell? ⟨w.heap.size, 1, none⟩ = some (.slice b m d) := by rw [cell_of_row w4 w.heap.size 1 _ _ (0, 0) z1]; rfl
  have b2 : w4.cell? ⟨w.heap.size, 2, none⟩ = some (.int .i64 (s : Int)) := by rw [cell_of_row w4 w.heap.size 2 _ _ (0, 0) z1]; rfl
  have fz := fun j => frozen_of_row w4 w.heap.size j _ _ z1
  have fy := fun j => frozen_of_row w4 (w.heap.size + 1) j _ _ z2
  have d0 : w4.cell? ⟨w.heap.size + 1, 0, none⟩ = some (.slice none 0 0) := by rw [cell_of_row w4 (w.heap.size + 1) 0 _ _ (0, 0) z2]; rfl
  have d1 : w4.cell? ⟨w.heap.size + 1, 1, none⟩ = some (.slice none 0 0) := by rw [cell_of_row w4 (w.heap.size + 1) 1 _ _ (0, 0) z2]; rfl
  have d2 : w4.cell? ⟨w.heap.size + 1, 2, none⟩ = some (.int .i64 0) := by rw [cell_of_row w4 (w.heap.size + 1) 2 _ _ (0, 0) z2]; rfl
  rw [hw4]
  clear hw4 z1 hs3 hfz hc0 y1 y2 hr hx ht2
  have Z2 : Hid (w4.heap[w.heap.size + 1]? = some (.cells #[.slice none 0 0, .slice none 0 0, .int .i64 0] 69 (0, 0))) := z2
  have HE : ∀ x : Nat, Hid (∀ w5 : World, (((w4.setCell ⟨w.heap.size, 2, none⟩ (.int .i64 (x : Int))).setCell ⟨w.heap.size + 1, 0, none⟩ (.slice a' N c')).setCell ⟨w.heap.size + 1, 1, none⟩ (.slice b m d)).setCell ⟨w.heap.size + 1, 2, none⟩ (.int .i64 (x : Int)) = w5 → (w5.cell? ⟨w.heap.size + 1, 0, none⟩ = some (.slice a' N c') ∧ w5.cell? ⟨w.heap.size + 1, 1, none⟩ = some (.slice b m d) ∧ w5.cell? ⟨w.heap.size + 1, 2, none⟩ = some (.int .i64 (x : Int))) ∧ Rw w5 a' g' c' (wr l k t.data.toList) ∧ Upo (fun b => a = some ⟨g, 0, none⟩ ∧ b = g) w w5 ∧ ((a' = a ∧ g' = g) ∨ (w.heap.size ≤ g' ∧ g' < w5.heap.size)) ∧ (a = some ⟨g, 0, none⟩ → Ty w5 g 5)) := fun x w5 h5 => by
    obtain ⟨r4, u4, hloc, hz, ng, ty3⟩ := HF.out
    have q := three_at (set3_at ((Below.heap_setCell w4 ⟨w.heap.size, 2, none⟩ (.int .i64 (x : Int)) (w.heap.size + 1) (by simp)).trans Z2.out) (.slice a' N c') (.slice b m d) (.int .i64 (x : Int)))
    subst h5
    refine ⟨q, ?_⟩
    rw [← HW4.out]
    have n1 : a' = some ⟨g', 0, none⟩ → g' ≠ w.heap.size ∧ g' ≠ w.heap.size + 1 := fun e => by
      rcases hloc with ⟨q1, q2⟩ | q
      · have := ng (by rw [← q1, e, q2]); omega
      · omega
    exact ⟨((((r4.off _ _ fun e => (n1 e).1).off _ _ fun e => (n1 e).1).off _ _ fun e => (n1 e).2).off _ _ fun e => (n1 e).2).off _ _ fun e => (n1 e).2, ((((u4.set _ _ _ (.inr (by omega))).set _ _ _ (.inr (by omega))).set _ _ _ (.inr (by omega))).set _ _ _ (.inr (by omega))).set _ _ _ (.inr (by omega)), hloc.imp id fun q => ⟨by omega, by simpa using q.2⟩, fun e => (((((ty3 e).set _ _ _).set _ _ _).set _ _ _).set _ _ _).set _ _ _⟩
  clear z2
  go_wp2
  · have e : k = r := by have := h3.out; omega
    subst e
    obtain ⟨w5, hw5⟩ : ∃ W, (((w4.setCell ⟨w.heap.size, 2, none⟩ (.int .i64 (k : Int))).setCell ⟨w.heap.size + 1, 0, none⟩ (.slice a' N c')).setCell ⟨w.heap.size + 1, 1, none⟩ (.slice b m d)).setCell ⟨w.heap.size + 1, 2, none⟩ (.int .i64 (k : Int)) = W := ⟨_, rfl⟩
    obtain ⟨⟨s0, s1, s2⟩, q⟩ := (HE k).out w5 hw5
    rw [hw5]
    refine bodyPost_ret (v := fv a' N c' b m d k) (by simp [results, Try.results36, go_sem, fv, s0, s1, s2]) rfl ⟨a', g', c', by rw [HN.out], q⟩
  · have e : s = r := by have := h3.out; omega
    subst e
    obtain ⟨w5, hw5⟩ : ∃ W, (((w4.setCell ⟨w.heap.size, 2, none⟩ (.int .i64 (s : Int))).setCell ⟨w.heap.size + 1, 0, none⟩ (.slice a' N c')).setCell ⟨w.heap.size + 1, 1, none⟩ (.slice b m d)).setCell ⟨w.heap.size + 1, 2, none⟩ (.int .i64 (s : Int)) = W := ⟨_, rfl⟩
    obtain ⟨⟨s0, s1, s2⟩, q⟩ := (HE s).out w5 hw5
    rw [hw5]
    refine bodyPost_ret (v := fv a' N c' b m d s) (by simp [results, Try.results36, go_sem, fv, s0, s1, s2]) rfl ⟨a', g', c', by rw [HN.out], q⟩
end Go.Proofs.Ytmhedhhbdpdafab
