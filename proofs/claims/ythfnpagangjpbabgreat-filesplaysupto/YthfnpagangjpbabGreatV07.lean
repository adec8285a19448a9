/-
  Own work: DWalkA, DWalkB, DWalkC.
-/
import Derived.BigQuiet
import Derived.WalkMore
import Derived.Deep.Cut
import Derived.Deep.CutRange
import Derived.Test.YthfnpagangjpbabGreatV06
namespace Go.Proofs.YthfnpagangjpbabGreat
open Go.RowKit
def fv (a : Option Addr) (n c : Nat) (b : Option Addr) (m d : Nat) (s : Nat) : Value := .agg #[.slice a n c, .slice b m d, .int .i64 (s : Int)]
theorem fcut_any (w : World) (a : Option Addr) (n c : Nat) (b : Option Addr) (m d s k r : Nat) (hk : k ≤ n) (hc : n ≤ c) (hr : min s k = r) :
    Calls Tryz.prog 136 #[.agg #[.slice a n c, .slice b m d, .int .i64 (s : Int)], .int .i64 (k : Int)] w fun e w' => e = .returned (fv a k c b m d r) ∧ Below w.heap.size w w' := by
  have h1 : (0 : Int) ≤ (k : Int) := by omega
  have h2 : (k : Int) ≤ (c : Int) := by omega
  have h3 : Hid (min s k = r) := hr
  clear hk hc hr
  go_enter Tryz.func136, Tryz.ntmps136
  go_wp2
  · have e : k = r := by have := h3.out; omega
    subst e
    refine bodyPost_ret (v := fv a k c b m d k) (by simp [results, Tryz.results136, go_sem, fv]) rfl ⟨rfl, bal (bal (Below.refl _ _) _) _⟩
  · have e : s = r := by have := h3.out; omega
    subst e
    refine bodyPost_ret (v := fv a k c b m d s) (by simp [results, Tryz.results136, go_sem, fv]) rfl ⟨rfl, bal (bal (Below.refl _ _) _) _⟩
def wr (l : List UInt8) (k : Nat) (t : List UInt8) : List UInt8 := l.take k ++ t ++ l.drop (k + t.length)
theorem wr_split (l : List UInt8) (k : Nat) (t : List UInt8) (hk : k ≤ l.length) (c : Nat) (hc : min t.length (l.length - k) = c) : (l.take k ++ t.take c ++ l.drop (k + (t.take c).length)) ++ t.drop c = wr l k t := by
  unfold wr
  have hl : (t.take c).length = c := by simp; omega
  rw [hl]
  by_cases h : t.length ≤ l.length - k
  · have e : c = t.length := by omega
    subst e
    simp
  · have e1 : l.drop (k + c) = [] := List.drop_eq_nil_of_le (by omega)
    have e2 : l.drop (k + t.length) = [] := List.drop_eq_nil_of_le (by omega)
    rw [e1, e2]
    simp
theorem wr_len (l : List UInt8) (k : Nat) (t : List UInt8) (hk : k ≤ l.length) : (wr l k t).length = max l.length (k + t.length) := by
  simp only [wr, List.length_append, List.length_take, List.length_drop]
  omega
theorem sub_ok {w : World} {a : Option Addr} {g c k n : Nat} {l : List UInt8} (h : Rw w a g c l) (hk : k ≤ l.length) {ax : Option Addr} (hx : (if c = k then a else a.map (·.add k)) = ax) (hn : l.length = n) : (ax = a ∨ ax = a.map (·.add k)) ∧ (ax = a → k = 0 ∨ n - k = 0) := by
  have := h.le
  by_cases e : c = k
  · rw [if_pos e] at hx
    exact ⟨.inl hx.symm, fun _ => .inr (by omega)⟩
  · rw [if_neg e] at hx
    refine ⟨.inr hx.symm, fun q => ?_⟩
    rw [← hx] at q
    rcases h.ptr with p | p
    · have := h.empty p
      rw [this] at hn
      exact .inr (by simp at hn; omega)
    · rw [p, Option.map_some, Addr.add_mid, Nat.zero_add] at q
      injection q with q
      injection q with _ q _
      exact .inl q
set_option maxHeartbeats 1000000 in
theorem fwrite_any (w : World) (a : Option Addr) (g n c : Nat) (l : List UInt8) (b : Option Addr) (m d s k r : Nat) (t : ByteArray) (h : Rw w a g c l) (hn : l.length = n) (hk : k ≤ n) (hr : min s k = r) (hl : n + t.size ≤ 140737488355328) :
    Calls Tryz.prog 140 #[.agg #[.slice a n c, .slice b m d, .int .i64 (s : Int)], .int .i64 (k : Int), .string t] w fun e w' => ∃ a' g' c', e = .returned (fv a' (wr l k t.data.toList).length c' b m d r) ∧ Rw w' a' g' c' (wr l k t.data.toList) ∧ Upo (fun b => a = some ⟨g, 0, none⟩ ∧ b = g) w w' ∧ ((a' = a ∧ g' = g) ∨ (w.heap.size ≤ g' ∧ g' < w'.heap.size)) ∧ (a = some ⟨g, 0, none⟩ → Ty w' g 5) := by
  have h1 : (0 : Int) ≤ (k : Int) := by omega
  have h2 : (k : Int) ≤ (n : Int) := by omega
  have h3 : Hid (min s k = r) := hr
  obtain ⟨ax, hx⟩ : ∃ ax, (if c = k then a else a.map (·.add k)) = ax := ⟨_, rfl⟩
  obtain ⟨cc, hcc⟩ : ∃ cc, Nat.min t.size (n - k) = cc := ⟨_, rfl⟩
  have hax := sub_ok h (by omega) hx hn
  have HC := fun (W : World) (hW : Rw W a g c l) (ty : TypeId) => run_copy_text (n := n - k) W ty (by omega) hW hax.1 hax.2 hcc (c - k)
  have HH : Hid (Rw w a g c l) := h
  clear hr h hax
  go_enter Tryz.func140, Tryz.ntmps140
  have r1 : Rw ((w.alloc (.cells #[.slice a n c, .slice b m d, .int .i64 (s : Int)] 113)).alloc (.cells #[.slice none 0 0, .slice none 0 0, .int .i64 0] 113)) a g c l := HH.out.next (bal (bal (Below.refl _ _) _) _) (Nat.le_refl _)
  have HC1 := fun ty => HC _ r1 ty
  clear HC r1
  go_upto_region 2 with (fail)
  obtain ⟨w1, hw1⟩ : ∃ W, ((w.alloc (.cells #[.slice a n c, .slice b m d, .int .i64 (s : Int)] 113)).alloc (.cells #[.slice none 0 0, .slice none 0 0, .int .i64 0] 113)) = W := ⟨_, rfl⟩
  have hb1 : Below w.heap.size w w1 := by rw [← hw1]; exact bal (bal (Below.refl _ _) _) _
  have hz1 : w1.heap.size = w.heap.size + 2 := by rw [← hw1]; simp
  have k1 : w1.heap[w.heap.size]? = some (.cells #[.slice a n c, .slice b m d, .int .i64 (s : Int)] 113 (0, 0)) := by rw [← hw1]; exact new0 _ _ _
  have k2 : w1.heap[w.heap.size + 1]? = some (.cells #[.slice none 0 0, .slice none 0 0, .int .i64 0] 113 (0, 0)) := by rw [← hw1]; exact new2 _ _ _
  rw [hw1]
  clear hw1 HC1
  have r1 : Rw w1 a g c l := HH.out.next hb1 (Nat.le_refl _)
  have hcc2 : cc ≤ t.size ∧ cc ≤ n - k ∧ min t.size (n - k) = cc := ⟨by rw [← hcc]; exact Nat.min_le_left _ _, by rw [← hcc]; exact Nat.min_le_right _ _, hcc⟩
  have q0 : (0 : Int) ≤ (cc : Int) := by omega
  have q1 : (cc : Int) ≤ (t.size : Int) := by omega
  have hlt : (t.data.toList.take cc).length = cc := by rw [List.length_take, size_list]; omega
  have r2 := r1.over k (t.data.toList.take cc) (by omega)
  have hu : Upo (fun b => a = some ⟨g, 0, none⟩ ∧ b = g) w (w1.setCells g k (cY (t.data.toList.take cc))) ∧ Upo (fun b => a = some ⟨g, 0, none⟩ ∧ b = g) w1 (w1.setCells g k (cY (t.data.toList.take cc))) := by
    rcases r1.ptr with e | e
    · have : t.data.toList.take cc = [] := List.length_eq_zero_iff.1 (by rw [hlt]; have := r1.empty e; rw [this] at hn; simp at hn; omega)
      rw [this]
      exact ⟨Upo.of hb1, Upo.refl _ _⟩
    · exact ⟨upo_sets (.inl ⟨e, rfl⟩) _ _ _ (Upo.of hb1), upo_sets (.inl ⟨e, rfl⟩) _ _ _ (Upo.refl _ _)⟩
  obtain ⟨w2, hw2⟩ : ∃ W, w1.setCells g k (cY (t.data.toList.take cc)) = W := ⟨_, rfl⟩
  rw [hw2] at r2 hu ⊢
  clear hw2
  have ng : a = some ⟨g, 0, none⟩ → g < w.heap.size := fun e => (HH.out.ty e).lt
  have j1 : w2.heap[w.heap.size]? = _ := (hu.2.block _ (by omega) (fun q => by have := ng q.1; omega)).trans k1
  have j2 : w2.heap[w.heap.size + 1]? = _ := (hu.2.block _ (by omega) (fun q => by have := ng q.1; omega)).trans k2
  obtain ⟨t2, ht2⟩ : ∃ t2, t.extract cc t.size = t2 := ⟨_, rfl⟩
  have e2 : t2.data.toList = t.data.toList.drop cc := by rw [← ht2]; exact ext_drop t cc
  have r3 : Rw w2.drew a g c _ := r2.same (fun _ => rfl)
  have hln : (l.take k ++ t.data.toList.take cc ++ l.drop (k + (t.data.toList.take cc).length)).length = n := by simp only [List.length_append, List.length_take, List.length_drop, size_list]; omega
  obtain ⟨a', g', c', w3, hr, r4, u3, hloc, ty3⟩ := r3.app 9 111 (.string t2) t2.data.toList (src_text _ t2) (by rw [hln, e2, List.length_drop, size_list]; omega)
  rw [hln] at hr
  rw [e2, wr_split l k t.data.toList (by omega) cc (by rw [size_list]; omega)] at hr r4
  obtain ⟨N, hN⟩ : ∃ N, (wr l k t.data.toList).length = N := ⟨_, rfl⟩
  rw [hN] at hr
  have HN : Hid ((wr l k t.data.toList).length = N) := hN
  have hc0 : w2.cell? ⟨w.heap.size, 0, none⟩ = some (.slice a n c) := by rw [cell_of_row w2 w.heap.size 0 _ _ (0, 0) j1]; rfl
  have y1 : w3.heap[w.heap.size]? = _ := (u3.block _ (by have := hu.2.size; show _ < w2.heap.size; omega) (fun q => by have := ng q.1; omega)).trans j1
  have hfz : w3.frozen? ⟨w.heap.size, 0, none⟩ = false := frozen_of_row w3 w.heap.size 0 _ _ y1
  have hs3 : w3.cell? ⟨w.heap.size, 0, none⟩ = some (.slice a n c) := by rw [cell_of_row w3 w.heap.size 0 _ _ (0, 0) y1]; rfl
  have y2 : w3.heap[w.heap.size + 1]? = _ := (u3.block _ (by have := hu.2.size; show _ < w2.heap.size; omega) (fun q => by have := ng q.1; omega)).trans j2
  have z1 : (w3.setCell ⟨w.heap.size, 0, none⟩ (.slice a' N c')).heap[w.heap.size]? = some (.cells #[.slice a' N c', .slice b m d, .int .i64 (s : Int)] 113 (0, 0)) := heap_setCell_same w3 w.heap.size 0 _ _ _ y1
  have z2 : (w3.setCell ⟨w.heap.size, 0, none⟩ (.slice a' N c')).heap[w.heap.size + 1]? = _ := (Below.heap_setCell _ _ _ _ (by simp)).trans y2
  have HF : Hid (Rw w3 a' g' c' (wr l k t.data.toList) ∧ Upo (fun b => a = some ⟨g, 0, none⟩ ∧ b = g) w w3 ∧ ((a' = a ∧ g' = g) ∨ (w2.heap.size ≤ g' ∧ g' < w3.heap.size)) ∧ w.heap.size + 2 ≤ w2.heap.size ∧ (a = some ⟨g, 0, none⟩ → g < w.heap.size) ∧ (a = some ⟨g, 0, none⟩ → Ty w3 g 5)) := ⟨r4, hu.1.trans (show Upo _ w2 w3 from ⟨u3.os, u3.tape, u3.output, u3.size, u3.block⟩) (fun _ _ q => q), hloc.imp id (fun q => ⟨Nat.le_of_eq q.1.symm, q.2⟩), by have := hu.2.size; omega, ng, ty3⟩
  clear r4 hu u3 hloc ty3 ng r1 r2 r3 k1 k2 j1 j2 hN hln e2 HH hcc2 hlt hb1 hz1
  go_region_law (first
    | (refine step_app (by rfl) _ _ _ _ (by rfl) (by rfl) (by rfl) hr ?_))
  obtain ⟨w4, hw4⟩ : ∃ W, w3.setCell ⟨w.heap.size, 0, none⟩ (.slice a' N c') = W := ⟨_, rfl⟩
  have HW4 : Hid (w3.setCell ⟨w.heap.size, 0, none⟩ (.slice a' N c') = w4) := hw4
  rw [hw4] at z1 z2
  have b0 : w4.cell? ⟨w.heap.size, 0, none⟩ = some (.slice a' N c') := by rw [cell_of_row w4 w.heap.size 0 _ _ (0, 0) z1]; rfl
  have b1 : w4.cell? ⟨w.heap.size, 1, none⟩ = some (.slice b m d) := by rw [cell_of_row w4 w.heap.size 1 _ _ (0, 0) z1]; rfl
  have b2 : w4.cell? ⟨w.heap.size, 2, none⟩ = some (.int .i64 (s : Int)) := by rw [cell_of_row w4 w.heap.size 2 _ _ (0, 0) z1]; rfl
  have fz := fun j => frozen_of_row w4 w.heap.size j _ _ z1
  have fy := fun j => frozen_of_row w4 (w.heap.size + 1) j _ _ z2
  have d0 : w4.cell? ⟨w.heap.size + 1, 0, none⟩ = some (.slice none 0 0) := by rw [cell_of_row w4 (w.heap.size + 1) 0 _ _ (0, 0) z2]; rfl
  have d1 : w4.cell? ⟨w.heap.size + 1, 1, none⟩ = some (.slice none 0 0) := by rw [cell_of_row w4 (w.heap.size + 1) 1 _ _ (0, 0) z2]; rfl
  have d2 : w4.cell? ⟨w.heap.size + 1, 2, none⟩ = some (.int .i64 0) := by rw [cell_of_row w4 (w.heap.size + 1) 2 _ _ (0, 0) z2]; rfl
  rw [hw4]
  clear hw4 z1 hs3 hfz hc0 y1 y2 hr hx ht2
  have Z2 : Hid (w4.heap[w.heap.size + 1]? = some (.cells #[.slice none 0 0, .slice none 0 0, .int .i64 0] 113 (0, 0))) := z2
  have HE : ∀ x : Nat, Hid (∀ w5 : World, (((w4.setCell ⟨w.heap.size, 2, none⟩ (.int .i64 (x : Int))).setCell ⟨w.heap.size + 1, 0, none⟩ (.slice a' N c')).setCell ⟨w.heap.size + 1, 1, none⟩ (.slice b m d)).setCell ⟨w.heap.size + 1, 2, none⟩ (.int .i64 (x : Int)) = w5 → (w5.cell? ⟨w.heap.size + 1, 0, none⟩ = some (.slice a' N c') ∧ w5.cell? ⟨w.heap.size + 1, 1, none⟩ = some (.slice b m d) ∧ w5.cell? ⟨w.heap.size + 1, 2, none⟩ = some (.int .i64 (x : Int))) ∧ Rw w5 a' g' c' (wr l k t.data.toList) ∧ Upo (fun b => a = some ⟨g, 0, none⟩ ∧ b = g) w w5 ∧ ((a' = a ∧ g' = g) ∨ (w.heap.size ≤ g' ∧ g' < w5.heap.size)) ∧ (a = some ⟨g, 0, none⟩ → Ty w5 g 5)) := fun x w5 h5 => by
    obtain ⟨r4, u4, hloc, hz, ng, ty3⟩ := HF.out
    have q := three_at (set3_at ((Below.heap_setCell w4 ⟨w.heap.size, 2, none⟩ (.int .i64 (x : Int)) (w.heap.size + 1) (by simp)).trans Z2.out) (.slice a' N c') (.slice b m d) (.int .i64 (x : Int)))
    subst h5
    refine ⟨q, ?_⟩
    rw [← HW4.out]
    have n1 : a' = some ⟨g', 0, none⟩ → g' ≠ w.heap.size ∧ g' ≠ w.heap.size + 1 := fun e => by
      rcases hloc with ⟨q1, q2⟩ | q
      · have := ng (by rw [← q1, e, q2]); omega
      · omega
    exact ⟨((((r4.off _ _ fun e => (n1 e).1).off _ _ fun e => (n1 e).1).off _ _ fun e => (n1 e).2).off _ _ fun e => (n1 e).2).off _ _ fun e => (n1 e).2, ((((u4.set _ _ _ (.inr (by omega))).set _ _ _ (.inr (by omega))).set _ _ _ (.inr (by omega))).set _ _ _ (.inr (by omega))).set _ _ _ (.inr (by omega)), hloc.imp id fun q => ⟨by omega, by simpa using q.2⟩, fun e => (((((ty3 e).set _ _ _).set _ _ _).set _ _ _).set _ _ _).set _ _ _⟩
  clear z2
  go_wp2
  · have e : k = r := by have := h3.out; omega
    subst e
    obtain ⟨w5, hw5⟩ : ∃ W, (((w4.setCell ⟨w.heap.size, 2, none⟩ (.int .i64 (k : Int))).setCell ⟨w.heap.size + 1, 0, none⟩ (.slice a' N c')).setCell ⟨w.heap.size + 1, 1, none⟩ (.slice b m d)).setCell ⟨w.heap.size + 1, 2, none⟩ (.int .i64 (k : Int)) = W := ⟨_, rfl⟩
    obtain ⟨⟨s0, s1, s2⟩, q⟩ := (HE k).out w5 hw5
    rw [hw5]
    refine bodyPost_ret (v := fv a' N c' b m d k) (by simp [results, Tryz.results140, go_sem, fv, s0, s1, s2]) rfl ⟨a', g', c', by rw [HN.out], q⟩
  · have e : s = r := by have := h3.out; omega
    subst e
    obtain ⟨w5, hw5⟩ : ∃ W, (((w4.setCell ⟨w.heap.size, 2, none⟩ (.int .i64 (s : Int))).setCell ⟨w.heap.size + 1, 0, none⟩ (.slice a' N c')).setCell ⟨w.heap.size + 1, 1, none⟩ (.slice b m d)).setCell ⟨w.heap.size + 1, 2, none⟩ (.int .i64 (s : Int)) = W := ⟨_, rfl⟩
    obtain ⟨⟨s0, s1, s2⟩, q⟩ := (HE s).out w5 hw5
    rw [hw5]
    refine bodyPost_ret (v := fv a' N c' b m d s) (by simp [results, Tryz.results140, go_sem, fv, s0, s1, s2]) rfl ⟨a', g', c', by rw [HN.out], q⟩
end Go.Proofs.YthfnpagangjpbabGreat
namespace Go.Proofs.YthfnpagangjpbabGreat
open Go.RowKit
set_option maxHeartbeats 1000000 in
theorem fsync_any (w : World) (a : Option Addr) (g n c : Nat) (l : List UInt8) (b : Option Addr) (h m d s : Nat) (l2 : List UInt8) (ra : Rw w a g c l) (rb : Rw w b h d l2) (hn : l.length = n) (hm : l2.length = m) (hs1 : s ≤ n) (hs2 : s ≤ m) (hsame : l2.take s = l.take s) (hl : n ≤ 140737488355328) :
    Calls Tryz.prog 70 #[.agg #[.slice a n c, .slice b m d, .int .i64 (s : Int)]] w fun e w' => ∃ b' h' d', e = .returned (fv a n c b' n d' n) ∧ Rw w' b' h' d' l ∧ Upo (fun x => b = some ⟨h, 0, none⟩ ∧ x = h) w w' ∧ ((b' = b ∧ h' = h) ∨ (w.heap.size ≤ h' ∧ h' < w'.heap.size)) ∧ (b = some ⟨h, 0, none⟩ → Ty w' h 5) := by
  have h1 : (0 : Int) ≤ (s : Int) := by omega
  have h2 : (s : Int) ≤ (n : Int) := by omega
  have h3 : (s : Int) ≤ (d : Int) := by have := rb.le; omega
  obtain ⟨ax, hx⟩ : ∃ ax, (if c = s then a else a.map (·.add s)) = ax := ⟨_, rfl⟩
  obtain ⟨hx1, hx2⟩ := sub_ok ra (by omega) hx hn
  have HH : Hid (Rw w a g c l ∧ Rw w b h d l2) := ⟨ra, rb⟩
  clear ra rb
  go_enter Tryz.func70, Tryz.ntmps70
  go_upto_region 1 with (fail)
  obtain ⟨w1, hw1⟩ : ∃ W, ((w.alloc (.cells #[.slice a n c, .slice b m d, .int .i64 (s : Int)] 113)).alloc (.cells #[.slice none 0 0, .slice none 0 0, .int .i64 0] 113)) = W := ⟨_, rfl⟩
  have hb1 : Below w.heap.size w w1 := by rw [← hw1]; exact bal (bal (Below.refl _ _) _) _
  have hz1 : w1.heap.size = w.heap.size + 2 := by rw [← hw1]; simp
  have k1 : w1.heap[w.heap.size]? = some (.cells #[.slice a n c, .slice b m d, .int .i64 (s : Int)] 113 (0, 0)) := by rw [← hw1]; exact new0 _ _ _
  have k2 : w1.heap[w.heap.size + 1]? = some (.cells #[.slice none 0 0, .slice none 0 0, .int .i64 0] 113 (0, 0)) := by rw [← hw1]; exact new2 _ _ _
  rw [hw1]
  clear hw1
  have r1 : Rw w1.drew a g c l := (HH.out.1.next hb1 (Nat.le_refl _)).same (fun _ => rfl)
  have r2 : Rw w1.drew b h d (l2.take s) := ((HH.out.2.next hb1 (Nat.le_refl _)).cut (k := s) (by omega)).same (W := w1.drew) (fun _ => rfl)
  have ng : b = some ⟨h, 0, none⟩ → h < w.heap.size := fun e => (HH.out.2.ty e).lt
  have hl2 : (l2.take s).length = s := by simp; omega
  have hl3 : (l.drop s).length = n - s := by simp; omega
  have hsrc := r1.src (k := s) (by omega) hx1 (fun e => (hx2 e).imp id (fun q => by omega)) (c - s)
  rw [hn] at hsrc
  obtain ⟨b', h', d', w3, hr, r4, u3, hloc, ty3⟩ := r2.app 111 111 (.slice ax (n - s) (c - s)) (l.drop s) hsrc (by rw [hl2, hl3]; omega)
  have el : l2.take s ++ l.drop s = l := by rw [hsame, List.take_append_drop]
  rw [el, hn, hl2] at hr
  rw [el] at r4
  obtain ⟨c0, c1, c2⟩ := three_at k1
  have y1 : w3.heap[w.heap.size]? = _ := (u3.block _ (by show _ < w1.heap.size; omega) (fun q => by have := ng q.1; omega)).trans k1
  have y2 : w3.heap[w.heap.size + 1]? = _ := (u3.block _ (by show _ < w1.heap.size; omega) (fun q => by have := ng q.1; omega)).trans k2
  have hfz : w3.frozen? ⟨w.heap.size, 1, none⟩ = false := frozen_of_row w3 w.heap.size 1 _ _ y1
  obtain ⟨_, hs3, _⟩ := three_at y1
  have z1 : (w3.setCell ⟨w.heap.size, 1, none⟩ (.slice b' n d')).heap[w.heap.size]? = some (.cells #[.slice a n c, .slice b' n d', .int .i64 (s : Int)] 113 (0, 0)) := heap_setCell_same w3 w.heap.size 1 _ _ _ y1
  have z2 : (w3.setCell ⟨w.heap.size, 1, none⟩ (.slice b' n d')).heap[w.heap.size + 1]? = _ := (Below.heap_setCell _ _ _ _ (by simp)).trans y2
  have HF : Hid (Rw w3 b' h' d' l ∧ Upo (fun x => b = some ⟨h, 0, none⟩ ∧ x = h) w w3 ∧ ((b' = b ∧ h' = h) ∨ (w.heap.size + 2 ≤ h' ∧ h' < w3.heap.size)) ∧ (b = some ⟨h, 0, none⟩ → h < w.heap.size) ∧ (b = some ⟨h, 0, none⟩ → Ty w3 h 5)) := ⟨r4, (Upo.of hb1).trans (show Upo _ w1 w3 from ⟨u3.os, u3.tape, u3.output, u3.size, u3.block⟩) (fun _ _ q => q), hloc.imp id (fun q => ⟨by have := q.1; show _ ≤ _; rw [this]; show _ ≤ w1.heap.size; omega, q.2⟩), ng, ty3⟩
  clear r4 u3 hloc ty3 ng r1 r2 k1 k2 HH hb1 hz1 hsrc hsame el hl2 hl3 hx1 hx2 hm hs1 hs2
  go_region_law (first
    | (refine step_app (by rfl) _ _ _ _ (by rfl) (by rfl) (by rfl) hr ?_))
  all_goals
    obtain ⟨w4, hw4⟩ : ∃ W, w3.setCell ⟨w.heap.size, 1, none⟩ (.slice b' n d') = W := ⟨_, rfl⟩
    have HW4 : Hid (w3.setCell ⟨w.heap.size, 1, none⟩ (.slice b' n d') = w4) := hw4
    rw [hw4] at z1 z2
    obtain ⟨b0, b1, b2⟩ := three_at z1
    have fz := fun j => frozen_of_row w4 w.heap.size j _ _ z1
    have fy := fun j => frozen_of_row w4 (w.heap.size + 1) j _ _ z2
    obtain ⟨d0, d1, d2⟩ := three_at z2
    rw [hw4]
    clear hw4 z1 hs3 hfz c0 c1 c2 y1 y2 hr hx
    have Z2 : Hid (w4.heap[w.heap.size + 1]? = some (.cells #[.slice none 0 0, .slice none 0 0, .int .i64 0] 113 (0, 0))) := z2
    clear z2
    go_wp2
    obtain ⟨w5, hw5⟩ : ∃ W, (((w4.setCell ⟨w.heap.size, 2, none⟩ (.int .i64 (n : Int))).setCell ⟨w.heap.size + 1, 0, none⟩ (.slice a n c)).setCell ⟨w.heap.size + 1, 1, none⟩ (.slice b' n d')).setCell ⟨w.heap.size + 1, 2, none⟩ (.int .i64 (n : Int)) = W := ⟨_, rfl⟩
    obtain ⟨r4, u4, hloc, ng, ty3⟩ := HF.out
    have q := three_at (set3_at ((Below.heap_setCell w4 ⟨w.heap.size, 2, none⟩ (.int .i64 (n : Int)) (w.heap.size + 1) (by simp)).trans Z2.out) (.slice a n c) (.slice b' n d') (.int .i64 (n : Int)))
    rw [hw5] at q
    rw [hw5]
    obtain ⟨s0, s1, s2⟩ := q
    refine bodyPost_ret (v := fv a n c b' n d' n) (by simp [results, Tryz.results70, go_sem, fv, s0, s1, s2]) rfl ⟨b', h', d', rfl, ?_⟩
    rw [← hw5, ← HW4.out]
    have n1 : b' = some ⟨h', 0, none⟩ → h' ≠ w.heap.size ∧ h' ≠ w.heap.size + 1 := fun e => by
      rcases hloc with ⟨q1, q2⟩ | q
      · have := ng (by rw [← q1, e, q2]); omega
      · omega
    exact ⟨((((r4.off _ _ fun e => (n1 e).1).off _ _ fun e => (n1 e).1).off _ _ fun e => (n1 e).2).off _ _ fun e => (n1 e).2).off _ _ fun e => (n1 e).2, ((((u4.set _ _ _ (.inr (by omega))).set _ _ _ (.inr (by omega))).set _ _ _ (.inr (by omega))).set _ _ _ (.inr (by omega))).set _ _ _ (.inr (by omega)), hloc.imp id fun q => ⟨by omega, by simpa using q.2⟩, fun e => (((((ty3 e).set _ _ _).set _ _ _).set _ _ _).set _ _ _).set _ _ _⟩
end Go.Proofs.YthfnpagangjpbabGreat
namespace Go.Proofs.YthfnpagangjpbabGreat
open Go.RowKit
structure RdL (w : World) (ao : Option Addr) (b off : Nat) (ks : List Bool) : Prop where
  ptr : 0 < ks.length → ao = some ⟨b, off, none⟩
  cell : ∀ j, j < ks.length → w.cell? ⟨b, off + j, none⟩ = some (.bool (ks.getD j false))
theorem RdL.lt {w : World} {ao : Option Addr} {b off : Nat} {ks : List Bool} (h : RdL w ao b off ks) (h0 : 0 < ks.length) : b < w.heap.size := World.block_lt_of_cell? w _ (h.cell 0 h0)
theorem RdL.same {w W : World} {ao : Option Addr} {b off : Nat} {ks : List Bool} (h : RdL w ao b off ks) (hb : 0 < ks.length → W.heap[b]? = w.heap[b]?) : RdL W ao b off ks :=
  ⟨h.ptr, fun j hj => (World.cell?_of_block (a := ⟨b, off + j, none⟩) (hb (by omega))).trans (h.cell j hj)⟩
theorem RdL.next {w W : World} {ao : Option Addr} {b off : Nat} {ks : List Bool} (h : RdL w ao b off ks) (hb : Below w.heap.size w W) : RdL W ao b off ks := h.same fun h0 => hb.block b (h.lt h0)
theorem rdl_nil (w : World) (ao : Option Addr) (b off : Nat) : RdL w ao b off [] := ⟨fun h => by simp at h, fun j hj => by simp at hj⟩
def cat (ks : List Bool) (i : Nat) : Nat := if ks.length = 0 then 0 else i % ks.length
theorem cat_next (ks : List Bool) (i : Nat) (h : ks.length ≠ 0) : (cat ks i + 1) % ks.length = cat ks (i + 1) := by
  rw [cat, cat, if_neg h, if_neg h]
  simp
theorem cat_ch (ks : List Bool) (i : Nat) (h : ks.length ≠ 0) : ks.getD (cat ks i) false = ch ks i := by
  rw [cat, if_neg h, ch]
def Chs (w : World) (q : Nat) (ao : Option Addr) (kc : Nat) (ks : List Bool) (i : Nat) : Prop := w.heap[q]? = some (.cells #[.slice ao ks.length kc, .int .i64 (cat ks i : Int)] 134 (0, 0))
theorem Chs.at {w : World} {q : Nat} {ao : Option Addr} {kc : Nat} {ks : List Bool} {i : Nat} (h : Chs w q ao kc ks i) : w.cell? ⟨q, 0, none⟩ = some (.slice ao ks.length kc) ∧ w.cell? ⟨q, 1, none⟩ = some (.int .i64 (cat ks i : Int)) ∧ w.frozen? ⟨q, 1, none⟩ = false :=
  ⟨by rw [cell_of_row w q 0 _ _ (0, 0) h]; rfl, by rw [cell_of_row w q 1 _ _ (0, 0) h]; rfl, frozen_of_row w q 1 _ _ h⟩
theorem Chs.lt {w : World} {q : Nat} {ao : Option Addr} {kc : Nat} {ks : List Bool} {i : Nat} (h : Chs w q ao kc ks i) : q < w.heap.size := (Array.getElem?_eq_some_iff.1 h).1
theorem Chs.same {w W : World} {q : Nat} {ao : Option Addr} {kc : Nat} {ks : List Bool} {i : Nat} (h : Chs w q ao kc ks i) (hb : W.heap[q]? = w.heap[q]?) : Chs W q ao kc ks i := hb.trans h
theorem chs_ne {w : World} {q b off : Nat} {ao ao' : Option Addr} {kc : Nat} {ks : List Bool} {i : Nat} (h : Chs w q ao kc ks i) (hr : RdL w ao' b off ks) (h0 : 0 < ks.length) : b ≠ q := by
  rintro rfl
  have e := hr.cell 0 h0
  rw [cell_of_row w b (off + 0) _ _ (0, 0) h] at e
  rcases Nat.lt_or_ge off 2 with q | q
  · rcases Nat.lt_or_ge off 1 with q | q
    · obtain rfl : off = 0 := by omega
      cases e
    · obtain rfl : off = 1 := by omega
      cases e
  · rw [Array.getElem?_eq_none (by simp; omega)] at e
    cases e
set_option maxHeartbeats 1000000 in
theorem next_any (w : World) (q : Nat) (ao : Option Addr) (b off kc : Nat) (ks : List Bool) (i : Nat) (h : Chs w q ao kc ks i) (hr : RdL w ao b off ks) (hl : ks.length ≤ 9223372036854775807) (r : Bool) (hc : ch ks i = r) :
    Calls Tryz.prog 130 #[.pointer (some ⟨q, 0, none⟩)] w fun e w' => e = .returned (.bool r) ∧ Chs w' q ao kc ks (i + 1) ∧ Upo (fun x => x = q) w w' := by
  obtain ⟨c0, c1, f1⟩ := h.at
  have HH : Hid (Chs w q ao kc ks i) := h
  by_cases hz : ks.length = 0
  · have hr' : r = false := by rw [← hc, ch, List.length_eq_zero_iff.1 hz]; rfl
    subst hr'
    have z : ((ks.length : Int) == 0) = true := by simp [hz]
    have hz2 : (ks.length : Int) = 0 := by omega
    clear h hr hc
    go_enter Tryz.func130, Tryz.ntmps130
    go_wp2
    go_ret
    refine ⟨rfl, ?_, Upo.refl _ _⟩
    have := HH.out
    unfold Chs at this ⊢
    rw [this, cat, cat, if_pos hz, if_pos hz]
  · have z : ((ks.length : Int) == 0) = false := by simp; intro q; exact hz (by simp [q])
    have hlt : cat ks i < ks.length := by rw [cat, if_neg hz]; exact Nat.mod_lt _ (by omega)
    obtain ⟨n, hn⟩ : ∃ n, ks.length = n := ⟨_, rfl⟩
    obtain ⟨k, hk⟩ : ∃ k, cat ks i = k := ⟨_, rfl⟩
    have ea := hr.ptr (by omega)
    have cr := hr.cell (cat ks i) hlt
    rw [cat_ch ks i hz, hc] at cr
    have ck := cat_next ks i hz
    obtain ⟨k2, hk2⟩ : ∃ k2, cat ks (i + 1) = k2 := ⟨_, rfl⟩
    rw [hk, hn] at hlt
    rw [hk] at cr c1
    rw [hk, hn, hk2] at ck
    rw [hn] at c0 z hl
    have HN : Hid (ks.length = n ∧ cat ks i = k ∧ cat ks (i + 1) = k2) := ⟨hn, hk, hk2⟩
    subst ea
    have h1 : (0 : Int) ≤ (k : Int) := by omega
    have h2 : (k : Int) < (n : Int) := by omega
    have e1 : IntKind.i64.wrap ((k : Int) + 1) = (k : Int) + 1 := by rw [IntKind.wrap_i64]; omega
    have e2 : ((k : Int) + 1).tmod (n : Int) = (k2 : Int) := by
      rw [show (k : Int) + 1 = ((k + 1 : Nat) : Int) by omega]
      rw [← Int.ofNat_tmod, ck]
    have nz : ¬ (n : Int) = 0 := by omega
    clear hn hk hk2 ck hz hc hr h hl
    go_enter Tryz.func130, Tryz.ntmps130
    go_upto_region 3 with (fail)
    go_region
    all_goals
      go_upto_region 4 with (fail)
      go_region
    all_goals
      go_wp2
      go_ret
      refine ⟨rfl, ?_, ((Upo.refl (fun x => x = q) w).set q 1 _ (.inl rfl)).drew.drew⟩
      have := heap_setCell_same w q 1 _ _ (.int .i64 (k2 : Int)) HH.out
      show (w.setCell ⟨q, 1, none⟩ (.int .i64 (k2 : Int))).heap[q]? = _
      rw [this, HN.out.2.2]
      rfl
end Go.Proofs.YthfnpagangjpbabGreat
