/-
  Walks of a file: synced. Own work.
-/
import Derived.Test.YtmhedhhbdpdafabDWalkA
namespace Go.Proofs.Ytmhedhhbdpdafab
open Go.RowKit
set_option maxHeartbeats 1000000 in
theorem fsync_any (w : World) (a : Option Addr) (g n c : Nat) (l : List UInt8) (b : Option Addr) (h m d s : Nat) (l2 : List UInt8) (ra : Rw w a g c l) (rb : Rw w b h d l2) (hn : l.length = n) (hm : l2.length = m) (hs1 : s ≤ n) (hs2 : s ≤ m) (hsame : l2.take s = l.take s) (hl : n ≤ 140737488355328) :
    Calls Try.prog 41 #[.agg #[.slice a n c, .slice b m d, .int .i64 (s : Int)]] w fun e w' => ∃ b' h' d', e = .returned (fv a n c b' n d' n) ∧ Rw w' b' h' d' l ∧ Upo (fun x => b = some ⟨h, 0, none⟩ ∧ x = h) w w' ∧ ((b' = b ∧ h' = h) ∨ (w.heap.size ≤ h' ∧ h' < w'.heap.size)) ∧ (b = some ⟨h, 0, none⟩ → Ty w' h 5) := by
  have h1 : (0 : Int) ≤ (s : Int) := by omega
  have h2 : (s : Int) ≤ (n : Int) := by omega
  have h3 : (s : Int) ≤ (d : Int) := by have := rb.le; omega
  obtain ⟨ax, hx⟩ : ∃ ax, (if c = s then a else a.map (·.add s)) = ax := ⟨_, rfl⟩
  obtain ⟨hx1, hx2⟩ := sub_ok ra (by omega) hx hn
  have HH : Hid (Rw w a g c l ∧ Rw w b h d l2) := ⟨ra, rb⟩
  clear ra rb
  go_enter Try.func41, Try.ntmps41
  go_upto_region 1 with (fail)
  obtain ⟨w1, hw1⟩ : ∃ W, ((w.alloc (.cells #[.slice a n c, .slice b m d, .int .i64 (s : Int)] 69)).alloc (.cells #[.slice none 0 0, .slice none 0 0, .int .i64 0] 69)) = W := ⟨_, rfl⟩
  have hb1 : Below w.heap.size w w1 := by rw [← hw1]; exact bal (bal (Below.refl _ _) _) _
  have hz1 : w1.heap.size = w.heap.size + 2 := by rw [← hw1]; simp
  have k1 : w1.heap[w.heap.size]? = some (.cells #[.slice a n c, .slice b m d, .int .i64 (s : Int)] 69 (0, 0)) := by rw [← hw1]; exact new0 _ _ _
  have k2 : w1.heap[w.heap.size + 1]? = some (.cells #[.slice none 0 0, .slice none 0 0, .int .i64 0] 69 (0, 0)) := by rw [← hw1]; exact new2 _ _ _
  rw [hw1]
  clear hw1
  have r1 : Rw w1.drew a g c l := (HH.out.1.next hb1 (Nat.le_refl _)).same (fun _ => rfl)
  have r2 : Rw w1.drew b h d (l2.take s) := ((HH.out.2.next hb1 (Nat.le_refl _)).cut (k := s) (by omega)).same (W := w1.drew) (fun _ => rfl)
  have ng : b = some ⟨h, 0, none⟩ → h < w.heap.size := fun e => (HH.out.2.ty e).lt
  have hl2 : (l2.take s).length = s := by simp; omega
  have hl3 : (l.drop s).length = n - s := by simp; omega
  have hsrc := r1.src (k := s) (by omega) hx1 (fun e => (hx2 e).imp id (fun q => by omega)) (c - s)
  rw [hn] at hsrc
  obtain ⟨b', h', d', w3, hr, r4, u3, hloc, ty3⟩ := r2.app 67 67 (.slice ax (n - s) (c - s)) (l.drop s) hsrc (by rw [hl2, hl3]; omega)
  have el : l2.take s ++ l.drop s = l := by rw [hsame, List.take_append_drop]
  rw [el, hn, hl2] at hr
  rw [el] at r4
  obtain ⟨c0, c1, c2⟩ := three_at k1
  have y1 : w3.heap[w.heap.size]? = _ := (u3.block _ (by show _ < w1.heap.size; omega) (fun q => by have := ng q.1; omega)).trans k1
  have y2 : w3.heap[w.heap.size + 1]? = _ := (u3.block _ (by show _ < w1.heap.size; omega) (fun q => by have := ng q.1; omega)).trans k2
  have hfz : w3.frozen? ⟨w.heap.size, 1, none⟩ = false := frozen_of_row w3 w.heap.size 1 _ _ y1
  obtain ⟨_, hs3, _⟩ := three_at y1
  have z1 : (w3.setCell ⟨w.heap.size, 1, none⟩ (.slice b' n d')).heap[w.heap.size]? = some (.cells #[.slice a n c, .slice b' n d', .int .i64 (s : Int)] 69 (0, 0)) := heap_setCell_same w3 w.heap.size 1 _ _ _ y1
  have z2 : (w3.setCell ⟨w.heap.size, 1, none⟩ (.slice b' n d')).heap[w.heap.size + 1]? = _ := (Below.heap_setCell _ _ _ _ (by simp)).trans y2
  have HF : Hid (Rw w3 b' h' d' l ∧ Upo (fun x => b = some ⟨h, 0, none⟩ ∧ x = h) w w3 ∧ ((b' = b ∧ h' = h) ∨ (w.heap.size + 2 ≤ h' ∧ h' < w3.heap.size)) ∧ (b = some ⟨h, 0, none⟩ → h < w.heap.size) ∧ (b = some ⟨h, 0, none⟩ → Ty w3 h 5)) := ⟨r4, (Upo.of hb1).trans (show Upo _ w1 w3 from ⟨u3.os, u3.tape, u3.output, u3.size, u3.block⟩) (fun _ _ q => q), hloc.imp id (fun q => ⟨by have := q.1; show _ ≤ _; rw [this]; show _ ≤ w1.heap.size; omega, q.2⟩), ng, ty3⟩
  clear r4 u3 hloc ty3 ng r1 r2 k1 k2 HH hb1 hz1 hsrc hsame el hl2 hl3 hx1 hx2 hm hs1 hs2
  go_region_law (first
    | (refine step_app (by rfl) _ _ _ _ (by rfl) (by rfl) (by rfl) hr ?_))
  all_goals
    obtain ⟨w4, hw4⟩ : ∃ W, w3.setCell ⟨w.heap.size, 1, none⟩ (.slice b' n d') = W := ⟨_, rfl⟩
    have HW4 : Hid (w3.setCell ⟨w.heap.size, 1, none⟩ (.slice b' n d') = w4) := hw4
    rw [hw4] at z1 z2
    obtain ⟨b0, b1, b2⟩ := three_at z1
    have fz := fun j => frozen_of_row w4 w.heap.size j _ _ z1
    have fy := fun j => frozen_of_row w4 (w.heap.size + 1) j _ _ z2
    obtain ⟨d0, d1, d2⟩ := three_at z2
    rw [hw4]
    clear hw4 z1 hs3 hfz c0 c1 c2 y1 y2 hr hx
    have Z2 : Hid (w4.heap[w.heap.size + 1]? = some (.cells #[.slice none 0 0, .slice none 0 0, .int .i64 0] 69 (0, 0))) := z2
    clear z2
    go_wp2
    obtain ⟨w5, hw5⟩ : ∃ W, (((w4.setCell ⟨w.heap.size, 2, none⟩ (.int .i64 (n : Int))).setCell ⟨w.heap.size + 1, 0, none⟩ (.slice a n c)).setCell ⟨w.heap.size + 1, 1, none⟩ (.slice b' n d')).setCell ⟨w.heap.size + 1, 2, none⟩ (.int .i64 (n : Int)) = W := ⟨_, rfl⟩
    obtain ⟨r4, u4, hloc, ng, ty3⟩ := HF.out
    have q := three_at (set3_at ((Below.heap_setCell w4 ⟨w.heap.size, 2, none⟩ (.int .i64 (n : Int)) (w.heap.size + 1) (by simp)).trans Z2.out) (.slice a n c) (.slice b' n d') (.int .i64 (n : Int)))
    rw [hw5] at q
    rw [hw5]
    obtain ⟨s0, s1, s2⟩ := q
    refine bodyPost_ret (v := fv a n c b' n d' n) (by simp [results, Try.results41, go_sem, fv, s0, s1, s2]) rfl ⟨b', h', d', rfl, ?_⟩
    rw [← hw5, ← HW4.out]
    have n1 : b' = some ⟨h', 0, none⟩ → h' ≠ w.heap.size ∧ h' ≠ w.heap.size + 1 := fun e => by
      rcases hloc with ⟨q1, q2⟩ | q
      · have := ng (by rw [← q1, e, q2]); omega
      · omega
    exact ⟨((((r4.off _ _ fun e => (n1 e).1).off _ _ fun e => (n1 e).1).off _ _ fun e => (n1 e).2).off _ _ fun e => (n1 e).2).off _ _ fun e => (n1 e).2, ((((u4.set _ _ _ (.inr (by omega))).set _ _ _ (.inr (by omega))).set _ _ _ (.inr (by omega))).set _ _ _ (.inr (by omega))).set _ _ _ (.inr (by omega)), hloc.imp id fun q => ⟨by omega, by simpa using q.2⟩, fun e => (((((ty3 e).set _ _ _).set _ _ _).set _ _ _).set _ _ _).set _ _ _⟩
end Go.Proofs.Ytmhedhhbdpdafab
