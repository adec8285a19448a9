/-
  The sums of package sha as plain functions, in the walk's own forms; laws on ranges of cells. Own work.
-/
import Derived.Deep.MidRow
import Derived.Below
import Derived.WalkKit
namespace Go.Proofs.YtabdobdopcfllaaDoor
open Go.RowKit

def rotI (x n : Int) : Int := bits .or .u32 (x / 2 ^ n.toNat) (IntKind.u32.wrap (x * 2 ^ (32 - n).toNat))
def cB (l : List Int) : List Value := l.map (Value.int .u8)
def cW (l : List Int) : List Value := l.map (Value.int .u32)
def pad (l : List Int) : List Int := l ++ List.replicate (64 - l.length) 0
def wordI (a b c d : Int) : Int :=
  bits .or .u32 (bits .or .u32 (bits .or .u32 (IntKind.u32.wrap (IntKind.u32.wrap a * 16777216)) (IntKind.u32.wrap (IntKind.u32.wrap b * 65536))) (IntKind.u32.wrap (IntKind.u32.wrap c * 256))) (IntKind.u32.wrap d)
def sch0 (blk : List Int) : Nat → List Int
  | 0 => []
  | k + 1 => sch0 blk k ++ [wordI (blk.getD (4 * k) 0) (blk.getD (4 * k + 1) 0) (blk.getD (4 * k + 2) 0) (blk.getD (4 * k + 3) 0)]
/-- w[t] out of w[t-16], w[t-15], w[t-7], w[t-2]. -/
def nextI (a x c y : Int) : Int :=
  IntKind.u32.wrap (IntKind.u32.wrap (IntKind.u32.wrap (a + bits .xor .u32 (bits .xor .u32 (rotI x 7) (rotI x 18)) (x / 8)) + c) + bits .xor .u32 (bits .xor .u32 (rotI y 17) (rotI y 19)) (y / 1024))
def schN (blk : List Int) : Nat → List Int
  | 0 => sch0 blk 16
  | k + 1 => schN blk k ++ [nextI ((schN blk k).getD k 0) ((schN blk k).getD (k + 1) 0) ((schN blk k).getD (k + 9) 0) ((schN blk k).getD (k + 14) 0)]
theorem sch0_len (blk : List Int) (k : Nat) : (sch0 blk k).length = k := by
  induction k with
  | zero => rfl
  | succ k ih => simp [sch0, ih]
theorem schN_len (blk : List Int) (k : Nat) : (schN blk k).length = 16 + k := by
  induction k with
  | zero => exact sch0_len _ _
  | succ k ih => simp only [schN, List.length_append, ih, List.length_cons, List.length_nil]; omega
theorem pad_len {l : List Int} (h : l.length ≤ 64) : (pad l).length = 64 := by simp [pad]; omega
theorem pad_full {l : List Int} (h : l.length = 64) : pad l = l := by simp [pad, h]
theorem pad_getD (l : List Int) (i : Nat) : (pad l).getD i 0 = l.getD i 0 := by
  unfold pad
  simp only [List.getD_eq_getElem?_getD]
  by_cases h : i < l.length
  · rw [List.getElem?_append_left h]
  · rw [List.getElem?_append_right (by omega), List.getElem?_eq_none (l := l) (by omega), List.getElem?_replicate]
    split <;> rfl
theorem pad_set {l : List Int} (h : l.length < 64) (v : Int) : (pad l).set l.length v = pad (l ++ [v]) := by
  unfold pad
  rw [List.set_append_right _ _ (Nat.le_refl _)]
  obtain ⟨n, hn⟩ : ∃ n, 64 - l.length = n + 1 := ⟨64 - l.length - 1, by omega⟩
  have hn' : 64 - (l ++ [v]).length = n := by simp; omega
  rw [hn, hn', List.replicate_succ]
  simp

/-! ### cells -/
theorem cell_cB {w : World} {b o : Nat} {l : List Int} (h : w.rangeAt b o (cB l)) {i : Nat} (hi : i < l.length) : w.cell? ⟨b, o + i, none⟩ = some (.int .u8 (l.getD i 0)) :=
  h i _ (by simp [cB, List.getElem?_eq_getElem hi, List.getD_eq_getElem?_getD])
theorem cell_cW {w : World} {b o : Nat} {l : List Int} (h : w.rangeAt b o (cW l)) {i : Nat} (hi : i < l.length) : w.cell? ⟨b, o + i, none⟩ = some (.int .u32 (l.getD i 0)) :=
  h i _ (by simp [cW, List.getElem?_eq_getElem hi, List.getD_eq_getElem?_getD])
theorem cell_cB0 {w : World} {b : Nat} {l : List Int} (h : w.rangeAt b 0 (cB l)) {i : Nat} (hi : i < l.length) : w.cell? ⟨b, i, none⟩ = some (.int .u8 (l.getD i 0)) := by
  have := cell_cB h hi; rwa [Nat.zero_add] at this
theorem cell_cW0 {w : World} {b : Nat} {l : List Int} (h : w.rangeAt b 0 (cW l)) {i : Nat} (hi : i < l.length) : w.cell? ⟨b, i, none⟩ = some (.int .u32 (l.getD i 0)) := by
  have := cell_cW h hi; rwa [Nat.zero_add] at this
theorem cW_len (l : List Int) : (cW l).length = l.length := by simp [cW]
theorem cB_len (l : List Int) : (cB l).length = l.length := by simp [cB]
theorem cW_one (l : List Int) : ∀ v ∈ cW l, v.oneCell' = true := by
  intro v hv; obtain ⟨x, _, rfl⟩ := List.mem_map.1 hv; rfl
theorem cB_one (l : List Int) : ∀ v ∈ cB l, v.oneCell' = true := by
  intro v hv; obtain ⟨x, _, rfl⟩ := List.mem_map.1 hv; rfl
theorem cW_set (l : List Int) (i : Nat) (v : Int) : (cW l).set i (.int .u32 v) = cW (l.set i v) := by simp [cW, List.map_set]
theorem cB_set (l : List Int) (i : Nat) (v : Int) : (cB l).set i (.int .u8 v) = cB (l.set i v) := by simp [cB, List.map_set]

theorem keep_cell {w : World} {a b : Addr} {v u : Value} (h : w.cell? b = some u) (hne : a.block ≠ b.block) : (w.setCell a v).drew.cell? b = some u := by
  rw [World.cell?_drew, World.cell?_setCell_other _ _ _ _ (fun e => hne (by rw [e]))]; exact h
/-- One cell of a range is stored into. -/
theorem range_set {w : World} {b o : Nat} {cs : List Value} (h : w.rangeAt b o cs) (i : Nat) (v : Value) : (w.setCell ⟨b, o + i, none⟩ v).rangeAt b o (cs.set i v) := fun j u hu => by
  by_cases e : i = j
  · subst e
    rw [List.getElem?_set_self'] at hu
    cases hc : cs[i]? with
    | none => simp [hc] at hu
    | some c =>
      simp [hc] at hu; subst hu
      exact World.cell?_setCell_same _ _ _ (h i c hc)
  · rw [List.getElem?_set_ne e] at hu
    rw [World.cell?_setCell_other _ _ _ _ (fun e' => e (by have := congrArg Addr.off e'; simp at this; omega))]
    exact h j u hu
theorem range_other {w : World} {b o : Nat} {cs : List Value} (h : w.rangeAt b o cs) {a : Addr} (ha : a.block ≠ b) (v : Value) : (w.setCell a v).rangeAt b o cs := fun j u hu => by
  rw [World.cell?_setCell_other _ _ _ _ (fun e => ha (by rw [e]))]; exact h j u hu
theorem there_set {w : World} {b o n : Nat} (h : w.there b o n) (a : Addr) (v : Value) : (w.setCell a v).there b o n := fun j hj => by
  obtain ⟨h1, h2⟩ := h j hj
  refine ⟨?_, by rw [World.frozen?_setCell]; exact h2⟩
  obtain ⟨u, hu⟩ := Option.isSome_iff_exists.1 h1
  by_cases e : a = ⟨b, o + j, none⟩
  · subst e; rw [World.cell?_setCell_same _ _ _ hu]; rfl
  · rw [World.cell?_setCell_other _ _ _ _ e, hu]; rfl
theorem range_below {w w' : World} {B b o : Nat} {cs : List Value} (hb : Below B w w') (hlt : b < B) (h : w.rangeAt b o cs) : w'.rangeAt b o cs := fun j u hu => by
  rw [hb.cell (p := ⟨b, o + j, none⟩) hlt]; exact h j u hu
theorem there_below {w w' : World} {B b o n : Nat} (hb : Below B w w') (hlt : b < B) (h : w.there b o n) : w'.there b o n := fun j hj => by
  rw [hb.cell (p := ⟨b, o + j, none⟩) hlt, hb.frozen (p := ⟨b, o + j, none⟩) hlt]; exact h j hj
/-- A new block of cells. -/
theorem range_new (w : World) (cs : List Value) (t : TypeId) : (w.alloc (.cells cs.toArray t)).rangeAt w.heap.size 0 cs := fun j u hu => by
  rw [World.cell?_alloc_new, Nat.zero_add]; simpa using hu
theorem there_new (w : World) (cs : Array Value) (t : TypeId) (n : Nat) (hn : n ≤ cs.size) : (w.alloc (.cells cs t)).there w.heap.size 0 n := fun j hj => by
  refine ⟨?_, World.frozen?_alloc_new _ _ _ _⟩
  rw [World.cell?_alloc_new, Nat.zero_add, Array.getElem?_eq_getElem (by omega)]; rfl
theorem there_lt {w : World} {b o n : Nat} (h : w.there b o n) (hn : 0 < n) : b < w.heap.size := by
  obtain ⟨u, hu⟩ := Option.isSome_iff_exists.1 (h 0 hn).1
  exact World.block_lt_of_cell? _ _ hu
theorem range_lt {w : World} {b o : Nat} {cs : List Value} (h : w.rangeAt b o cs) (hn : cs ≠ []) : b < w.heap.size := by
  cases cs with
  | nil => exact absurd rfl hn
  | cons c r => exact World.block_lt_of_cell? _ _ (h 0 c rfl)
theorem wrap_id (x : Int) (h0 : 0 ≤ x) (h1 : x < 9223372036854775808) : IntKind.i64.wrap x = x := by
  simp [IntKind.wrap, IntKind.bits, IntKind.signed]; omega
end Go.Proofs.YtabdobdopcfllaaDoor
