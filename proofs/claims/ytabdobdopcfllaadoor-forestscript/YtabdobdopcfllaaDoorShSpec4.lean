/-
  What was written, as a list of bytes, and the hash that holds it; copy from a string. Own work.
-/
import Derived.Test.YtabdobdopcfllaaDoorShSpec3
import Derived.Lib.LazyBuf
import Derived.Deep.RegionLaw
import Derived.Lib.BufferOwn
namespace Go.Proofs.YtabdobdopcfllaaDoor
open Go.RowKit

/-- A string's bytes as numbers. -/
def tB (s : ByteArray) : List Int := s.data.toList.map fun x => (x.toNat : Int)
theorem tB_len (s : ByteArray) : (tB s).length = s.size := by simp [tB]
theorem cB_tB (s : ByteArray) : cB (tB s) = s.data.toList.map fun x => Value.int .u8 (x.toNat : Int) := by simp [cB, tB, List.map_map, Function.comp_def]

theorem run_copy_str {P : Program} (w : World) (dT sT ty elem : TypeId) (b o dLen dCap c : Nat) (t : ByteArray)
    (hu : P.underlying dT = some (.slice elem)) (hz : ∀ w, (Go.sizeOf elem).run P w = .ok 1 w) (hc : Nat.min t.size dLen = c) (ht : w.there b o c) :
    (Builtin.copy_ #[dT, sT] ty #[.slice (some ⟨b, o, none⟩) dLen dCap, .string t]).run P w = .ok (goInt c) (w.setCells b o (cB ((tB t).take c))) := by
  have hle : c ≤ t.size := by rw [← hc]; exact Nat.min_le_left _ _
  have hl : (cB ((tB t).take c)).length = c := by rw [cB_len, List.length_take, tB_len]; omega
  have hst := run_storeCells_cells (P := P) b o (cB ((tB t).take c)) 0 w (by rw [hl]; intro j hj; simpa using (ht j hj).1) (by rw [hl]; intro j hj; simpa using (ht j hj).2) (cB_one _)
  have he : List.take c (List.map (fun x : UInt8 => Value.int IntKind.u8 (x.toNat : Int)) t.data.toList) = cB ((tB t).take c) := by
    rw [← cB_tB]; simp [cB, List.map_take]
  simp only [Nat.add_zero] at hst
  simp [Builtin.copy_, run_underlying hu, Builtin.lenOf, Builtin.firstCells, hz, hc]
  rw [he, hst]
  rfl

theorem step_copy_str {P : Program} {ops : Array Oper} {o : Oper} {a : Act} {w : World} {K : Act → World → Prop} {Q : Exit → Act → World → Prop} {E : Prop}
    (hg : o.guard = none) (d x : Operand) (dT sT : TypeId) (hop : o.op = Op.call { callee := Callee.builtin Builtin.copy, args := #[d, x], argTypes := #[dT, sT] })
    (elem : TypeId) (hu : P.underlying dT = some (.slice elem)) (hz : ∀ w, (Go.sizeOf elem).run P w = .ok 1 w)
    (b off dLen dCap c : Nat) (hd : a.eval d = .slice (some ⟨b, off, none⟩) dLen dCap) (t : ByteArray) (hx : a.eval x = .string t) (hc : Nat.min t.size dLen = c) (ht : w.there b off c)
    (hK : K (a.put o.dst (goInt c)) (w.setCells b off (cB ((tB t).take c)))) :
    if Region.wanted o (yielded ops a.tmps) = true then Oper.wp P o a w K Q else E := by
  have hw : Region.wanted o (yielded ops a.tmps) = true := by simp [Region.wanted, hg]
  rw [if_pos hw]
  have hrun := run_copy_str (P := P) w dT sT o.type elem b off dLen dCap c t hu hz hc ht
  unfold Oper.wp
  simp [execOp, hop, resolve, invoke, builtin, hd, hx, hrun, Result.andThen]
  exact hK

/-- Cells within a range are stored anew. -/
theorem range_mid {w : World} {b o : Nat} {cs : List Value} (h : w.rangeAt b o cs) (k : Nat) (vs : List Value) (hk : k + vs.length ≤ cs.length) (ht : w.there b (o + k) vs.length) :
    (w.setCells b (o + k) vs).rangeAt b o (cs.take k ++ vs ++ cs.drop (k + vs.length)) := fun j u hu => by
  have hlen : (cs.take k).length = k := by simp; omega
  by_cases hj : j < k
  · rw [List.append_assoc, List.getElem?_append_left (by omega), List.getElem?_take, if_pos hj] at hu
    rw [World.cell?_setCells_out b vs (o + k) w ⟨b, o + j, none⟩ (fun _ _ => Or.inl (by show o + j < o + k; omega))]
    exact h j u hu
  · by_cases hj2 : j < k + vs.length
    · rw [List.getElem?_append_left (by simp; omega), List.getElem?_append_right (by omega), hlen] at hu
      have := World.cell?_setCells_in b vs (o + k) w (fun i hi => (ht i hi).1) (j - k) (by omega)
      rw [show o + k + (j - k) = o + j by omega] at this
      rw [this, ← hu, List.getElem?_eq_getElem (by omega)]
    · rw [List.getElem?_append_right (by simp; omega)] at hu
      rw [List.getElem?_drop, show k + vs.length + (j - (cs.take k ++ vs).length) = j by simp; omega] at hu
      rw [World.cell?_setCells_out b vs (o + k) w ⟨b, o + j, none⟩ (fun _ _ => Or.inr (by show o + k + vs.length ≤ o + j; omega))]
      exact h j u hu

/-- The state behind k whole blocks of t. -/
def stN (rs iv t : List Int) : Nat → List Int
  | 0 => iv
  | k + 1 => foldI rs (stN rs iv t k) ((t.drop (64 * k)).take 64)
theorem stN_append (rs iv t x : List Int) (k : Nat) (h : 64 * k ≤ t.length) : stN rs iv (t ++ x) k = stN rs iv t k := by
  induction k with
  | zero => rfl
  | succ k ih =>
    rw [stN, stN, ih (by omega), List.drop_append_of_le_length (by omega), List.take_append_of_le_length (by simp; omega)]
theorem stN_len {rs iv t : List Int} (h : iv.length = 8) (k : Nat) : (stN rs iv t k).length = 8 := by
  cases k with
  | zero => exact h
  | succ k => exact foldI_len _ _ _

/-- A hash that holds what was written: t. -/
def Hst (w : World) (p : Nat) (rs iv t : List Int) : Prop :=
  ∃ st blk, Hs w p st blk t.length ∧ st = stN rs iv t (t.length / 64) ∧ blk.take (t.length % 64) = t.drop (64 * (t.length / 64))
theorem Hst.later {w w' : World} {p B : Nat} {rs iv t : List Int} (h : Hst w p rs iv t) (hb : Below B w w') (hp : p < B) : Hst w' p rs iv t := by
  obtain ⟨st, blk, h1, h2, h3⟩ := h
  exact ⟨st, blk, h1.later hb hp, h2, h3⟩
theorem Hst.lt {w : World} {p : Nat} {rs iv t : List Int} (h : Hst w p rs iv t) : p < w.heap.size := by
  obtain ⟨st, blk, h1, h2, h3⟩ := h
  exact h1.lt

/-- The block behind a copy. -/
def blkC (blk x : List Int) (u : Nat) : List Int := blk.take u ++ x ++ blk.drop (u + x.length)
theorem blkC_len {blk x : List Int} {u : Nat} (h : blk.length = 64) (hu : u + x.length ≤ 64) : (blkC blk x u).length = 64 := by simp [blkC, h]; omega
theorem blkC_take {blk x t : List Int} {u : Nat} (h : blk.length = 64) (_hu : u + x.length ≤ 64) (ht : t.length % 64 = u) (hb : blk.take u = t.drop (64 * (t.length / 64))) :
    (blkC blk x u).take (u + x.length) = (t ++ x).drop (64 * (t.length / 64)) := by
  have e : (blk.take u ++ x).length = u + x.length := by simp [h]; omega
  rw [blkC, List.take_append_of_le_length (by omega), List.take_of_length_le (by omega), hb, List.drop_append_of_le_length (by omega)]
theorem div_same {t x : List Int} (h : t.length % 64 + x.length < 64) : (t ++ x).length / 64 = t.length / 64 ∧ (t ++ x).length % 64 = t.length % 64 + x.length := by
  simp only [List.length_append]; omega
theorem div_next {t x : List Int} (h : t.length % 64 + x.length = 64) : (t ++ x).length / 64 = t.length / 64 + 1 ∧ (t ++ x).length % 64 = 0 := by
  simp only [List.length_append]; omega

theorem Hs.copied {w : World} {p : Nat} {st blk : List Int} {n : Nat} (h : Hs w p st blk n) (u : Nat) (x : List Int) (hu : u + x.length ≤ 64) : Hs (w.setCells p (8 + u) (cB x)) p st (blkC blk x u) n := by
  have hl := h.blkl
  refine ⟨h.stl, blkC_len hl hu, ?_, ?_, ?_, World.there_setCells h.there _ _ _⟩
  · exact World.rangeAt_setCells_apart h.st _ _ _ (by right; left; rw [cW_len, h.stl]; omega)
  · have := range_mid h.blk u (cB x) (by rw [cB_len, cB_len, hl]; omega) (fun j hj => by
      rw [cB_len] at hj
      have := h.there (8 + u + j) (by omega)
      rwa [Nat.zero_add] at this)
    simpa [blkC, cB, List.map_take, List.map_drop] using this
  · rw [World.cell?_setCells_out p (cB x) (8 + u) w ⟨p, 72, none⟩ (fun _ _ => by right; show 8 + u + (cB x).length ≤ 72; rw [cB_len]; omega)]
    exact h.len
theorem Hs.setLen {w : World} {p : Nat} {st blk : List Int} {n : Nat} (h : Hs w p st blk n) (m : Nat) : Hs (w.setCell ⟨p, 72, none⟩ (.int .u64 m)) p st blk m := by
  have hl := h.blkl
  have hs := h.stl
  refine ⟨h.stl, h.blkl, ?_, ?_, ?_, there_set h.there _ _⟩
  · intro j u hu
    have hj : j < 8 := by have := (List.getElem?_eq_some_iff.1 hu).1; rw [cW_len, hs] at this; exact this
    rw [World.cell?_setCell_other _ _ _ _ (fun e => by have := congrArg Addr.off e; simp at this; omega)]
    exact h.st j u hu
  · intro j u hu
    have hj : j < 64 := by have := (List.getElem?_eq_some_iff.1 hu).1; rw [cB_len, hl] at this; exact this
    rw [World.cell?_setCell_other _ _ _ _ (fun e => by have := congrArg Addr.off e; simp at this; omega)]
    exact h.blk j u hu
  · exact World.cell?_setCell_same _ _ _ h.len
theorem Hs.setState {w : World} {p : Nat} {st blk : List Int} {n : Nat} (h : Hs w p st blk n) (st' : List Int) (hs' : st'.length = 8) : Hs (w.setCells p 0 (cW st')) p st' blk n := by
  refine ⟨hs', h.blkl, ?_, ?_, ?_, World.there_setCells h.there _ _ _⟩
  · exact World.rangeAt_setCells_same _ _ _ _ (by rw [cW_len, hs']; exact fun j hj => h.there j (by omega))
  · exact World.rangeAt_setCells_apart h.blk _ _ _ (by right; right; rw [cW_len, hs']; omega)
  · rw [World.cell?_setCells_out p (cW st') 0 w ⟨p, 72, none⟩ (fun _ _ => by right; show 0 + (cW st').length ≤ 72; rw [cW_len, hs']; omega)]
    exact h.len
theorem Hs.drew {w : World} {p : Nat} {st blk : List Int} {n : Nat} (h : Hs w p st blk n) : Hs w.drew p st blk n :=
  ⟨h.stl, h.blkl, by rw [World.rangeAt_drew]; exact h.st, by rw [World.rangeAt_drew]; exact h.blk, h.len, by rw [World.there_drew]; exact h.there⟩
theorem grown_setCells {a w : World} {b : Nat} (h : a.grownBy w (some b)) (o : Nat) (vs : List Value) : a.grownBy (w.setCells b o vs) (some b) := by
  induction vs generalizing o w with
  | nil => exact h
  | cons c r ih => exact ih (Lib.grownBy_setB h o c) (o + 1)
theorem grown_below {a w w' : World} {b : Nat} (h : a.grownBy w (some b)) (hb : Below w.heap.size w w') : a.grownBy w' (some b) :=
  Lib.grownBy_trans h ⟨hb.os, hb.tape, hb.output, hb.size, fun k hk _ => hb.block k hk⟩
theorem grown_drew {a w : World} {b : Nat} (h : a.grownBy w (some b)) : a.grownBy w.drew (some b) := ⟨h.os, h.tape, h.output, h.size, h.block⟩
theorem range_grown {a w : World} {b c o : Nat} {cs : List Value} (h : a.grownBy w (some b)) (hne : c ≠ b) (hr : a.rangeAt c o cs) : w.rangeAt c o cs := fun j u hu => by
  have h1 := hr j u hu
  have hlt := World.block_lt_of_cell? _ _ h1
  rw [World.cell?_of_block (w := a) (h.block c hlt (fun e => hne (Option.some.inj e)))]
  exact h1
/-- The rounds are no hash. -/
theorem Hs.ne_rounds {w : World} {p q : Nat} {st blk : List Int} {n : Nat} (h : Hs w p st blk n) {rs : List Int} (hl : rs.length = 64) (hr : w.rangeAt q 0 (cW rs)) : q ≠ p := by
  rintro rfl
  have h1 := cell_cW0 hr (i := 8) (by omega)
  have h2 := cell_cB h.blk (i := 0) (by have := h.blkl; omega)
  rw [Nat.add_zero, h1] at h2
  injection h2 with h2
  injection h2 with h2
  cases h2
theorem tB_extract (r : ByteArray) (c : Nat) : tB (r.extract c r.size) = (tB r).drop c := by
  have : (r.extract c r.size).data.toList = r.data.toList.drop c := by
    rw [ByteArray.data_extract]
    simp [Array.toList_extract, List.extract]
    apply List.take_of_length_le
    simp
  rw [tB, this, tB, List.map_drop]
theorem tB_nil {r : ByteArray} (h : r.size = 0) : tB r = [] := by
  have := tB_len r
  rw [h] at this
  exact List.length_eq_zero_iff.1 this
/-- One copy more: the block is full, and is folded. -/
theorem Hst.full {w : World} {p : Nat} {rs iv t x st blk : List Int} {u : Nat} (hl : blk.length = 64) (hu : t.length % 64 = u) (hx : u + x.length = 64)
    (hst : st = stN rs iv t (t.length / 64)) (hb : blk.take u = t.drop (64 * (t.length / 64))) (h : Hs w p (foldI rs st (blkC blk x u)) (blkC blk x u) (t ++ x).length) : Hst w p rs iv (t ++ x) := by
  have hd := div_next (t := t) (x := x) (by omega)
  have hk := blkC_take (x := x) hl (by omega) hu hb
  rw [hx, List.take_of_length_le (by rw [blkC_len hl (by omega)]; exact Nat.le_refl _)] at hk
  refine ⟨_, _, h, ?_, ?_⟩
  · rw [hd.1, stN, stN_append _ _ _ _ _ (by omega), ← hst, ← hk, List.take_of_length_le (by rw [blkC_len hl (by omega)]; exact Nat.le_refl _)]
  · rw [hd.2, hd.1, List.take_zero, List.drop_eq_nil_of_le]
    simp only [List.length_append]; omega
/-- One copy more: the block is not full yet. -/
theorem Hst.part {w : World} {p : Nat} {rs iv t x st blk : List Int} {u : Nat} (hl : blk.length = 64) (hu : t.length % 64 = u) (hx : u + x.length < 64)
    (hst : st = stN rs iv t (t.length / 64)) (hb : blk.take u = t.drop (64 * (t.length / 64))) (h : Hs w p st (blkC blk x u) (t ++ x).length) : Hst w p rs iv (t ++ x) := by
  have hd := div_same (t := t) (x := x) (by omega)
  have hk := blkC_take (x := x) hl (by omega) hu hb
  refine ⟨_, _, h, ?_, ?_⟩
  · rw [hd.1, stN_append _ _ _ _ _ (by omega), ← hst]
  · rw [hd.2, hd.1, hu]; exact hk
end Go.Proofs.YtabdobdopcfllaaDoor
