/-
  canLie. Own work.
-/
import Derived.Test.YthfnpagangjpbaaGreatZ16
namespace Go.Proofs.YthfnpagangjpbaaGreat
open Go.RowKit
/-- The names. -/
def nms (l : List (List UInt8 × List UInt8)) : List (List UInt8) := l.map (·.1)
/-- What the map of names holds. -/
def nmF (N : List (List UInt8)) : List UInt8 → Option Value := fun s => if s ∈ N then some (.agg #[]) else none
theorem nmF_upd (N : List (List UInt8)) (s : List UInt8) : updF (nmF N) s (some (.agg #[])) = nmF (N ++ [s]) := by
  funext t
  simp only [updF, nmF, List.mem_append, List.mem_singleton]
  by_cases e : t = s
  · simp [e]
  · simp [e]
theorem nmF_in (N : List (List UInt8)) (s : List UInt8) : s ∈ N ↔ (nmF N s).isSome = true := by
  unfold nmF
  split <;> simp [*]
/-- Each has a name of its own, none is too long. -/
def canL (l : List (List UInt8 × List UInt8)) : Prop := (nms l).Nodup ∧ ∀ x ∈ l, x.2.length ≤ 268435456
theorem nms_take {l : List (List UInt8 × List UInt8)} {j : Nat} {x : List UInt8 × List UInt8} (h : l.take (j + 1) = l.take j ++ [x]) (hn : (nms l).Nodup) : x.1 ∉ nms (l.take j) ∧ (nms (l.take j)).Nodup := by
  have h1 : nms (l.take (j + 1)) = nms (l.take j) ++ [x.1] := by rw [h]; simp [nms]
  have h2 : (nms (l.take (j + 1))).Nodup := by
    have : nms (l.take (j + 1)) = (nms l).take (j + 1) := by simp [nms, List.map_take]
    rw [this]
    exact hn.sublist (List.take_sublist _ _)
  rw [h1] at h2
  have h3 := List.nodup_append.1 h2
  exact ⟨fun hm => h3.2.2 _ hm _ (List.mem_singleton.2 rfl) rfl, h3.1⟩
set_option maxRecDepth 100000 in
set_option maxHeartbeats 2000000 in
theorem canlie_yes (w : World) (ao : Option Addr) (b off c : Nat) (l : List (List UInt8 × List UInt8)) (hr : RdF w ao b off l) (hs : ∀ x ∈ l, x.1.length ≤ maxLen) (hl : l.length ≤ 1099511627776) (hc : canL l) :
    Calls Tryz.prog 62 #[.slice ao l.length c] w fun e w' => e = .returned (.bool true) ∧ Below w.heap.size w w' := by
  have hmm := @run_makeMap Tryz.prog
  obtain ⟨n, hn⟩ : ∃ n, l.length = n := ⟨_, rfl⟩
  have HH : Hid (RdF w ao b off l ∧ (∀ x ∈ l, x.1.length ≤ maxLen) ∧ l.length = n ∧ n ≤ 1099511627776 ∧ canL l) := ⟨hr, hs, hn, by omega, hc⟩
  rw [hn]
  clear hr hs hl hn hc
  go_enter Tryz.func62, Tryz.ntmps62
  go_wp2
  go_loopg [11] n (fun g i wr => ∃ j : Nat, j ≤ n ∧ g = n - j ∧ i = .int .i64 (j : Int) ∧ Mv wr w.heap.size (nmF (nms (l.take j))) ∧ Below w.heap.size w wr)
  case atStart =>
    refine ⟨0, Nat.zero_le _, rfl, rfl, ?_, bal (Below.refl _ _) _⟩
    have := mv_new w
    exact this
  case round =>
    obtain ⟨j, hj, rfl, rfl, hM, hb⟩ := hrel
    by_cases hlt : j < n
    · obtain ⟨x, hx⟩ : ∃ x, l.getD j ([], []) = x := ⟨_, rfl⟩
      obtain ⟨q1, q2, q3, q4, q5⟩ := HH.out
      have hxm : x ∈ l := by
        rw [← hx, List.getD_eq_getElem?_getD, List.getElem?_eq_getElem (by omega)]
        exact List.getElem_mem _
      have rr := q1.next hb
      have c0 := rr.c0 j (by omega)
      have c1 := rr.c1 j (by omega)
      rw [hx] at c0 c1
      have ea := rr.ptr (by omega)
      have htk : l.take (j + 1) = l.take j ++ [x] := by rw [← hx]; exact take_snoc _ _ _ (by omega)
      obtain ⟨hno, hnd⟩ := nms_take htk q5.1
      obtain ⟨nm, hnm⟩ : ∃ nm : ByteArray, (⟨x.1.toArray⟩ : ByteArray) = nm := ⟨_, rfl⟩
      obtain ⟨dt, hdt⟩ : ∃ dt : ByteArray, (⟨x.2.toArray⟩ : ByteArray) = dt := ⟨_, rfl⟩
      rw [hnm] at c0
      rw [hdt] at c1
      have hsz : nm.size ≤ maxLen := by rw [← size_list, ← hnm]; exact q2 x hxm
      have hds : dt.size ≤ 268435456 := by rw [← size_list, ← hdt]; exact q5.2 x hxm
      have hnl : nm.data.toList = x.1 := by rw [← hnm]
      have hi1 : (0 : Int) ≤ (j : Int) := by omega
      have hi2 : (j : Int) < (n : Int) := by omega
      have hw : IntKind.i64.wrap ((j : Int) + 1) = (j : Int) + 1 := by rw [IntKind.wrap_i64]; omega
      have hgt : ¬ ((dt.size : Int) > 268435456) := by omega
      obtain ⟨w1, hw1⟩ : ∃ W, wr.alloc (.cells #[.string nm, .string dt] 53) = W := ⟨_, rfl⟩
      have HW1 := hide hw1
      have hb1 : Below wr.heap.size wr w1 := by rw [← hw1]; exact bal (Below.refl _ _) _
      have k1 : w1.heap[wr.heap.size]? = some (.cells #[.string nm, .string dt] 53 (0, 0)) := by rw [← hw1]; exact new1 _ _
      have d0 : w1.cell? ⟨wr.heap.size, 0, none⟩ = some (.string nm) := by rw [cell_of_row w1 wr.heap.size 0 _ _ (0, 0) k1]; rfl
      have d1 : w1.cell? ⟨wr.heap.size, 1, none⟩ = some (.string dt) := by rw [cell_of_row w1 wr.heap.size 1 _ _ (0, 0) k1]; rfl
      have M1 := hM.same (hb1.block _ hM.lt)
      have hlk := M1.look_ok Tryz.underlying141 (z := .agg #[]) (by kernel_rfl) hsz
      rw [hnl, nmF, if_neg hno] at hlk
      simp only [Option.getD_none, Option.isSome_none] at hlk
      subst ea
      obtain ⟨w2, hw2⟩ : ∃ W, w1.alloc (.cells #[] 142) = W := ⟨_, rfl⟩
      have HW2 := hide hw2
      have hb2 : Below w1.heap.size w1 w2 := by rw [← hw2]; exact bal (Below.refl _ _) _
      have k2 := (hb2.block _ (Array.getElem?_eq_some_iff.1 k1).1).trans k1
      have e0 : w2.cell? ⟨wr.heap.size, 0, none⟩ = some (.string nm) := by rw [cell_of_row w2 wr.heap.size 0 _ _ (0, 0) k2]; rfl
      have e1 : w2.cell? ⟨wr.heap.size, 1, none⟩ = some (.string dt) := by rw [cell_of_row w2 wr.heap.size 1 _ _ (0, 0) k2]; rfl
      have M2 := M1.same (hb2.block _ M1.lt)
      have hlen : (nms (l.take j)).length < maxLen := by
        rw [nms, List.length_map, List.length_take]
        unfold maxLen
        omega
      obtain ⟨w3, hup, M3, g3⟩ := M2.write Tryz.underlying141 hnd (nmF_in _) hlen hsz (.agg #[])
      rw [hnl, nmF_upd] at M3
      have HG : Hid (Mv w3 w.heap.size (nmF (nms (l.take (j + 1)))) ∧ Below w.heap.size w w3) := by
        refine ⟨?_, ?_⟩
        · rw [htk, show nms (l.take j ++ [x]) = nms (l.take j) ++ [x.1] by simp [nms]]; exact M3
        · exact (bnext (bnext hb hb1) hb2).grown g3 (bnext (bnext hb hb1) hb2).size (fun y hy => by injection hy with hy; omega)
      clear hw2 hb1 hb2 k1 k2 M1 M2 M3 g3 hb hM
      clear q1 q2 q3 q4 q5 rr hx hxm hw1 hnm hdt
      go_upto_region 5 with (fail)
      rw [HW1.out]
      go_upto_region 6 with (fail)
      rw [HW2.out]
      go_wp2
      go_roundg (n - (j + 1))
      case rel =>
        go_light
        exact ⟨j + 1, by omega, rfl, by go_num, HG.out.1, HG.out.2⟩
      case measure => go_light; omega
    · obtain rfl : j = n := by omega
      have hz : ¬ ((j : Int) < (j : Int)) := by omega
      have HB := hide hb
      clear hb hM hlt
      go_wp2
      go_ret
      exact ⟨rfl, HB.out⟩
end Go.Proofs.YthfnpagangjpbaaGreat
