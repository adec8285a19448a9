/-
  A row of bytes that is laid, written and turned into a text. Own work.
-/
import Derived.Test.YtdkcliblbaldhaaDoorJLent
import Derived.Laws.IdiomStrings
import Derived.Handy
namespace Go.Proofs.YtdkcliblbaldhaaDoor
open Go.RowKit
/-- Bytes as cells. -/
def cY (l : List UInt8) : List Value := l.map fun b => Value.int .u8 (b.toNat : Int)
theorem cY_len (l : List UInt8) : (cY l).length = l.length := by simp [cY]
/-- A row of bytes that lies at g, and may be written. -/
structure Byt (w : World) (g : Nat) (l : List UInt8) : Prop where
  rng : w.rangeAt g 0 (cY l)
  thr : w.there g 0 l.length
theorem Byt.at {w : World} {g : Nat} {l : List UInt8} (h : Byt w g l) {j : Nat} (hj : j < l.length) : w.cell? ⟨g, j, none⟩ = some (.int .u8 ((l.getD j 0).toNat : Int)) := by
  have := h.rng j (.int .u8 ((l.getD j 0).toNat : Int)) (by simp [cY, List.getElem?_eq_getElem hj, List.getD_eq_getElem?_getD])
  rwa [Nat.zero_add] at this
theorem Byt.free {w : World} {g : Nat} {l : List UInt8} (h : Byt w g l) {j : Nat} (hj : j < l.length) : w.frozen? ⟨g, j, none⟩ = false := by
  have := (h.thr j hj).2
  rwa [Nat.zero_add] at this
theorem Byt.set {w : World} {g : Nat} {l : List UInt8} (h : Byt w g l) (j : Nat) (b : UInt8) (x : Int) (hx : x = (b.toNat : Int)) : Byt (w.setCell ⟨g, j, none⟩ (.int .u8 x)) g (l.set j b) := by
  subst hx
  refine ⟨?_, by rw [List.length_set]; exact there_set h.thr _ _⟩
  have := range_set h.rng j (.int .u8 (b.toNat : Int))
  rw [Nat.zero_add] at this
  rw [cY, List.map_set]; exact this
theorem Byt.next {w W : World} {g B : Nat} {l : List UInt8} (h : Byt w g l) (hb : Below B w W) (hg : g < B) : Byt W g l := by
  refine ⟨range_below hb hg h.rng, fun j hj => ?_⟩
  obtain ⟨h1, h2⟩ := h.thr j hj
  refine ⟨by rw [hb.cell (p := ⟨g, 0 + j, none⟩) hg]; exact h1, ?_⟩
  rw [← h2]
  unfold World.frozen?
  rw [hb.block g hg]
/-- What '[]byte(s)' lays. -/
theorem byt_new (w : World) (s : ByteArray) (cap : Nat) (t : TypeId) : Byt (w.alloc (.cells (bytesRow s cap) t ((bytesRow s cap).size, (bytesRow s cap).size + 1))) w.heap.size s.data.toList := by
  have hsz : s.data.size ≤ (bytesRow s cap).size := by simp [bytesRow]
  have hc : ∀ j, (hj : j < s.data.size) → (w.alloc (.cells (bytesRow s cap) t ((bytesRow s cap).size, (bytesRow s cap).size + 1))).cell? ⟨w.heap.size, j, none⟩ = some (.int .u8 (s.data[j].toNat : Int)) := fun j hj => by
    rw [World.cell?_alloc_mark, bytesRow_at s cap j hj]
  refine ⟨fun j v hv => ?_, fun j hj => ?_⟩
  · have hj : j < s.data.size := by have := (List.getElem?_eq_some_iff.1 hv).1; rw [cY_len, Array.length_toList] at this; exact this
    rw [Nat.zero_add, hc j hj, ← hv]
    simp [cY, Array.getElem?_eq_getElem hj]
  · rw [Array.length_toList] at hj
    rw [Nat.zero_add, hc j hj, World.frozen?_alloc_mark]
    refine ⟨rfl, ?_⟩
    rw [decide_eq_false (by omega)]; rfl
theorem conv_any (W : World) (g cap : Nat) (l : List UInt8) (n : Nat) (hn : l.length = n) (h : Byt W g l) : (convert 51 9 (.slice (some ⟨g, 0, none⟩) n cap)).run Tryd.prog W = .ok (.string ⟨l.toArray⟩) W := by
  subst hn
  refine run_convert_bytes_back _ 51 9 5 ⟨g, 0, none⟩ cap l Tryd.underlying51 Tryd.underlying5 Tryd.underlying9 fun j hj => ?_
  rw [Addr.add_mid, Nat.zero_add, h.at hj]
  simp [List.getD_eq_getElem?_getD, List.getElem?_eq_getElem hj]
end Go.Proofs.YtdkcliblbaldhaaDoor
