/-
  Rows of bytes in memory; what has changed. Own work.
-/
import Derived.Test.YtggkjleibhpnfaaRWalkB
import Derived.Test.YtggkjleibhpnfaaNSpec
import Derived.Laws.IdiomStrings
import Derived.Handy
import Derived.Deep.AppendSrc
import Derived.Deep.Upon
import Derived.Deep.RegionLaw
import Derived.Deep.OwnRows
namespace Go.Proofs.Ytggkjleibhpnfaa
open Go.RowKit
theorem ext_drop (s : ByteArray) (k : Nat) : (s.extract k s.size).data.toList = s.data.toList.drop k := by
  rw [ByteArray.data_extract, Array.toList_extract, List.extract_eq_take_drop, List.take_of_length_le (by rw [List.length_drop, size_list]; omega)]
theorem ext_take (s : ByteArray) (k : Nat) : (s.extract 0 k).data.toList = s.data.toList.take k := by
  rw [ByteArray.data_extract, Array.toList_extract, List.extract_eq_take_drop, List.drop_zero, Nat.sub_zero]
theorem ext_mid (s : ByteArray) (i j : Nat) : (s.extract i j).data.toList = (s.data.toList.drop i).take (j - i) := by
  rw [ByteArray.data_extract, Array.toList_extract, List.extract_eq_take_drop]
/-- Nothing but blocks of S has changed; there may be new ones. -/
structure Upo (S : Nat → Prop) (w w' : World) : Prop where
  os : w'.os = w.os
  tape : w'.tape = w.tape
  output : w'.output = w.output
  size : w.heap.size ≤ w'.heap.size
  block : ∀ b, b < w.heap.size → ¬ S b → w'.heap[b]? = w.heap[b]?
section
variable {S T : Nat → Prop} {w w' w1 w2 : World}
theorem Upo.refl (S : Nat → Prop) (w : World) : Upo S w w := ⟨rfl, rfl, rfl, Nat.le_refl _, fun _ _ _ => rfl⟩
theorem Upo.of (h : Below w.heap.size w w') : Upo S w w' := ⟨h.os, h.tape, h.output, h.size, fun b hb _ => h.block b hb⟩
theorem Upo.trans (h : Upo S w w1) (h2 : Upo T w1 w2) (hT : ∀ b, b < w.heap.size → T b → S b) : Upo S w w2 :=
  ⟨h2.os.trans h.os, h2.tape.trans h.tape, h2.output.trans h.output, Nat.le_trans h.size h2.size, fun b hb hs => (h2.block b (Nat.lt_of_lt_of_le hb h.size) fun ht => hs (hT b hb ht)).trans (h.block b hb hs)⟩
theorem Upo.on (h : Upo S w w1) (h2 : Upo S w1 w2) : Upo S w w2 := h.trans h2 fun _ _ q => q
theorem Upo.next (h : Upo S w w1) (h2 : Below w1.heap.size w1 w2) : Upo S w w2 := h.trans (Upo.of (S := S) h2) fun _ _ q => q
theorem Upo.below (h : Upo S w w') {B : Nat} (hB : B ≤ w.heap.size) (hS : ∀ b, S b → B ≤ b) : Below B w w' :=
  ⟨h.os, h.tape, h.output, h.size, fun b hb => h.block b (by omega) fun hs => by have := hS b hs; omega⟩
theorem Upo.set (h : Upo S w w') (b i : Nat) (v : Value) (hb : S b ∨ w.heap.size ≤ b) : Upo S w (w'.setCell ⟨b, i, none⟩ v) := by
  refine ⟨h.os, h.tape, h.output, by simpa using h.size, fun c hc hs => ?_⟩
  rw [← h.block c hc hs]
  exact Below.heap_setCell _ _ _ _ (by show c ≠ b; rintro rfl; rcases hb with hb | hb; exact hs hb; omega)
theorem Upo.sets {g : Nat} (hg : S g ∨ w.heap.size ≤ g) : ∀ (vs : List Value) (o : Nat) (w' : World), Upo S w w' → Upo S w (w'.setCells g o vs)
  | [], _, _, h => h
  | v :: r, o, _, h => Upo.sets hg r (o + 1) _ (h.set g o v hg)
theorem Upo.alloc (h : Upo S w w') (o : Obj) : Upo S w (w'.alloc o) := h.next (bal (Below.refl _ _) o)
/-- Since w: a row made since then has changed. -/
theorem Upo.since {g : Nat} (h : Upo (fun b => b = g) w1 w2) (h1 : Below w.heap.size w w1) (hg : w.heap.size ≤ g) : Below w.heap.size w w2 :=
  h1.trans (h.below h1.size fun b hb => by omega)
end
theorem new1 (w : World) (o : Obj) : (w.alloc o).heap[w.heap.size]? = some o := (MapKept.heap_alloc w o).1
/-- Bytes as cells. -/
def cY (l : List UInt8) : List Value := l.map fun b => Value.int .u8 (b.toNat : Int)
theorem cY_len (l : List UInt8) : (cY l).length = l.length := by simp [cY]
theorem cY_app (l m : List UInt8) : cY (l ++ m) = cY l ++ cY m := by simp [cY]
theorem cY_one (l : List UInt8) : ∀ u ∈ cY l, u.oneCell' = true := fun u hu => by obtain ⟨_, _, rfl⟩ := List.mem_map.1 hu; rfl
theorem Try.infoY : (Try.prog.info? 5).map (fun i => (i.zero, i.size, i.bytes)) = some (some (.int .u8 0), 1, 1) := by kernel_rfl
/-- A row of bytes that lies at g, and may be written. -/
structure Byt (w : World) (g : Nat) (l : List UInt8) : Prop where
  rng : w.rangeAt g 0 (cY l)
  thr : w.there g 0 l.length
section
variable {w W : World} {g : Nat} {l : List UInt8}
theorem Byt.at (h : Byt w g l) {j : Nat} (hj : j < l.length) : w.cell? ⟨g, j, none⟩ = some (.int .u8 ((l.getD j 0).toNat : Int)) := by
  have := h.rng j (.int .u8 ((l.getD j 0).toNat : Int)) (by simp [cY, List.getElem?_eq_getElem hj, List.getD_eq_getElem?_getD])
  rwa [Nat.zero_add] at this
theorem Byt.free (h : Byt w g l) {j : Nat} (hj : j < l.length) : w.frozen? ⟨g, j, none⟩ = false := by
  have := (h.thr j hj).2
  rwa [Nat.zero_add] at this
theorem Byt.lt (h : Byt w g l) (h0 : 0 < l.length) : g < w.heap.size := World.block_lt_of_cell? _ _ (h.at h0)
theorem there_set {b o n : Nat} (h : w.there b o n) (a : Addr) (v : Value) : (w.setCell a v).there b o n := fun j hj => by
  obtain ⟨h1, h2⟩ := h j hj
  refine ⟨?_, by rw [World.frozen?_setCell]; exact h2⟩
  by_cases e : a = ⟨b, o + j, none⟩
  · subst e
    obtain ⟨u, hu⟩ := Option.isSome_iff_exists.1 h1
    rw [World.cell?_setCell_same w _ v hu]; rfl
  · rw [World.cell?_setCell_other _ _ _ _ e]; exact h1
theorem range_set {b o : Nat} {cs : List Value} (h : w.rangeAt b o cs) (i : Nat) (v : Value) : (w.setCell ⟨b, o + i, none⟩ v).rangeAt b o (cs.set i v) := fun j u hu => by
  rw [List.getElem?_set] at hu
  split at hu
  · rename_i e
    subst e
    split at hu
    · rename_i hl
      cases hu
      have := h i cs[i] (List.getElem?_eq_getElem hl)
      exact World.cell?_setCell_same w _ _ this
    · cases hu
  · rename_i e
    rw [World.cell?_setCell_other _ _ _ _ (fun e' => e (by have := congrArg Addr.off e'; simp at this; omega))]
    exact h j u hu
theorem Byt.set (h : Byt w g l) (j : Nat) (b : UInt8) (x : Int) (hx : x = (b.toNat : Int)) : Byt (w.setCell ⟨g, j, none⟩ (.int .u8 x)) g (l.set j b) := by
  subst hx
  refine ⟨?_, by rw [List.length_set]; exact there_set h.thr _ _⟩
  have := range_set h.rng j (.int .u8 (b.toNat : Int))
  rw [Nat.zero_add] at this
  rw [cY, List.map_set]; exact this
theorem Byt.same (h : Byt w g l) (hb : W.heap[g]? = w.heap[g]?) : Byt W g l := by
  refine ⟨fun j v hv => ?_, fun j hj => ?_⟩
  · rw [World.cell?_of_block (a := ⟨g, 0 + j, none⟩) hb]; exact h.rng j v hv
  · rw [World.cell?_of_block (a := ⟨g, 0 + j, none⟩) hb, World.frozen?_of_block (a := ⟨g, 0 + j, none⟩) hb]; exact h.thr j hj
theorem Byt.next {B : Nat} (h : Byt w g l) (hb : Below B w W) (hg : g < B) : Byt W g l := h.same (hb.block g hg)
/-- What '[]byte(s)' lays. -/
theorem byt_new (w : World) (s : ByteArray) (cap : Nat) (t : TypeId) : Byt (w.alloc (.cells (bytesRow s cap) t ((bytesRow s cap).size, (bytesRow s cap).size + 1))) w.heap.size s.data.toList := by
  have hsz : s.data.size ≤ (bytesRow s cap).size := by simp [bytesRow]
  have hc : ∀ j, (hj : j < s.data.size) → (w.alloc (.cells (bytesRow s cap) t ((bytesRow s cap).size, (bytesRow s cap).size + 1))).cell? ⟨w.heap.size, j, none⟩ = some (.int .u8 (s.data[j].toNat : Int)) := fun j hj => by
    rw [World.cell?_alloc_mark, bytesRow_at s cap j hj]
  refine ⟨fun j v hv => ?_, fun j hj => ?_⟩
  · have hj : j < s.data.size := by have := (List.getElem?_eq_some_iff.1 hv).1; rw [cY_len, Array.length_toList] at this; exact this
    rw [Nat.zero_add, hc j hj, ← hv]
    simp [cY, Array.getElem?_eq_getElem hj]
  · rw [Array.length_toList] at hj
    rw [Nat.zero_add, hc j hj, World.frozen?_alloc_mark]
    refine ⟨rfl, ?_⟩
    rw [decide_eq_false (by omega)]; rfl
theorem there_new (w : World) (cs : Array Value) (t : TypeId) (n : Nat) (hn : n ≤ cs.size) : (w.alloc (.cells cs t)).there w.heap.size 0 n := fun j hj => by
  refine ⟨?_, World.frozen?_alloc_new _ _ _ _⟩
  rw [World.cell?_alloc_new, Nat.zero_add, Array.getElem?_eq_getElem (by omega)]; rfl
/-- What 'make' lays. -/
theorem byt_made (w : World) (n : Nat) : Byt (w.alloc (.cells (Array.replicate n (Value.int .u8 0)) 5)) w.heap.size (zer n) := by
  refine ⟨fun j v hv => ?_, there_new w _ _ _ (by simp [zer])⟩
  rw [World.cell?_alloc_new, Nat.zero_add]
  have : cY (zer n) = List.replicate n (Value.int .u8 0) := by simp [cY, zer]
  rw [this] at hv
  rw [← hv]
  simp [Array.getElem?_replicate, List.getElem?_replicate]
theorem madeCells_one (v : Value) (n : Nat) : madeCells #[v] n = Array.replicate n v := by
  apply Array.ext
  · simp [size_madeCells]
  · intro i h1 h2
    simp [madeCells, Nat.mod_one]
theorem make_bytes (n : Nat) (hn : n ≤ 140737488355328) (u : World) : (Instr.makeSlice 41 (.int .i64 (n : Int)) (.int .i64 (n : Int))).run Try.prog u = .ok (.slice (some ⟨u.heap.size, 0, none⟩) n n) (u.alloc (.cells (Array.replicate n (Value.int .u8 0)) 5)) := by
  have := run_make_row' (P := Try.prog) 41 5 (.int .u8 0) 1 Try.underlying41 Try.infoY rfl .i64 .i64 n (by omega) (by omega) u
  rw [this, madeCells_one]
/-- A part of a row as a text. -/
theorem Byt.conv (h : Byt w g l) {k n : Nat} (hk : k + n ≤ l.length) (o : Nat) (ho : 0 < n → o = k) (m : Nat) (t : ByteArray) (ht : (⟨((l.drop k).take n).toArray⟩ : ByteArray) = t) :
    (convert 41 9 (.slice (some ⟨g, o, none⟩) n m)).run Try.prog w = .ok (.string t) w := by
  subst ht
  have hlen : ((l.drop k).take n).length = n := by simp; omega
  have hr := run_convert_bytes_back w 41 9 5 ⟨g, o, none⟩ m ((l.drop k).take n) Try.underlying41 Try.underlying5 Try.underlying9 fun j hj => ?_
  · rw [hlen] at hr; exact hr
  · rw [hlen] at hj
    obtain rfl := ho (by omega)
    rw [Addr.add_mid, h.at (by omega)]
    have : (List.take n (List.drop o l))[j]'(by omega) = l.getD (o + j) 0 := by
      rw [List.getElem_take, List.getElem_drop, List.getD_eq_getElem?_getD, List.getElem?_eq_getElem (by omega)]; rfl
    rw [this]
/-- Cells within a range are stored anew. -/
theorem range_mid {b o : Nat} {cs : List Value} (h : w.rangeAt b o cs) (k : Nat) (vs : List Value) (hk : k + vs.length ≤ cs.length) (ht : w.there b (o + k) vs.length) :
    (w.setCells b (o + k) vs).rangeAt b o (cs.take k ++ vs ++ cs.drop (k + vs.length)) := fun j u hu => by
  have hlen : (cs.take k).length = k := by simp; omega
  by_cases hj : j < k
  · rw [List.append_assoc, List.getElem?_append_left (by omega), List.getElem?_take, if_pos hj] at hu
    rw [World.cell?_setCells_out b vs (o + k) w ⟨b, o + j, none⟩ (fun _ _ => Or.inl (by show o + j < o + k; omega))]
    exact h j u hu
  · by_cases hj2 : j < k + vs.length
    · rw [List.getElem?_append_left (by simp; omega), List.getElem?_append_right (by omega), hlen] at hu
      have := World.cell?_setCells_in b vs (o + k) w (fun i hi => (ht i hi).1) (j - k) (by omega)
      rw [show o + k + (j - k) = o + j by omega] at this
      rw [this, ← hu, List.getElem?_eq_getElem (by omega)]
    · rw [List.getElem?_append_right (by simp; omega)] at hu
      rw [List.getElem?_drop, show k + vs.length + (j - (cs.take k ++ vs).length) = j by simp; omega] at hu
      rw [World.cell?_setCells_out b vs (o + k) w ⟨b, o + j, none⟩ (fun _ _ => Or.inr (by show o + k + vs.length ≤ o + j; omega))]
      exact h j u hu
/-- Written over. -/
def ovr (l : List UInt8) (k : Nat) (t : List UInt8) : List UInt8 := l.take k ++ t ++ l.drop (k + t.length)
theorem ovr_len (l : List UInt8) (k : Nat) (t : List UInt8) (h : k + t.length ≤ l.length) : (ovr l k t).length = l.length := by
  simp only [ovr, List.length_append, List.length_take, List.length_drop]
  omega
theorem Byt.over (h : Byt w g l) (k : Nat) (t : List UInt8) (hk : k + t.length ≤ l.length) : Byt (w.setCells g k (cY t)) g (ovr l k t) := by
  refine ⟨?_, by rw [ovr_len l k t hk]; exact World.there_setCells h.thr _ _ _⟩
  have := range_mid h.rng k (cY t) (by rw [cY_len, cY_len]; exact hk) (fun j hj => by
    rw [Nat.zero_add]
    have := h.thr (k + j) (by rw [cY_len] at hj; omega)
    rwa [Nat.zero_add] at this)
  rw [Nat.zero_add] at this
  rw [ovr, cY_app, cY_app]
  simpa [cY, List.map_take, List.map_drop] using this
/-- copy of a text into a part that holds it. -/
theorem run_copy (ty : TypeId) {k n m o : Nat} {t : ByteArray} (h : Byt w g l) (hn : k + n ≤ l.length) (ho : 0 < t.size → o = k) (ht : t.size ≤ n) :
    (Builtin.copy_ #[41, 9] ty #[.slice (some ⟨g, o, none⟩) n m, .string t]).run Try.prog w = .ok (goInt t.size) (w.setCells g k (cY t.data.toList)) := by
  have hs : ∀ W, (Go.sizeOf 5).run Try.prog W = .ok 1 W := fun W => by kernel_rfl
  have hc : Nat.min t.size n = t.size := Nat.min_eq_left ht
  have hl : (cY t.data.toList).length = t.size := by rw [cY_len, size_list]
  have he : List.take t.size (List.map (fun x : UInt8 => Value.int IntKind.u8 (x.toNat : Int)) t.data.toList) = cY t.data.toList := by
    rw [cY, ← List.map_take, List.take_of_length_le (by rw [size_list]; exact Nat.le_refl _)]
  by_cases z : t.size = 0
  · have e0 : cY t.data.toList = [] := List.length_eq_zero_iff.1 (by rw [hl, z])
    rw [e0]
    simp [Builtin.copy_, run_underlying Try.underlying41, Builtin.lenOf, Builtin.firstCells, hs, z]
    rfl
  · obtain rfl := ho (by omega)
    have hst := run_storeCells_cells (P := Try.prog) g o (cY t.data.toList) 0 w (by rw [hl]; intro j hj; have := h.thr (o + j) (by omega); simpa using this.1) (by rw [hl]; intro j hj; have := h.thr (o + j) (by omega); simpa using this.2) (cY_one _)
    simp only [Nat.add_zero] at hst
    simp [Builtin.copy_, run_underlying Try.underlying41, Builtin.lenOf, Builtin.firstCells, hs, hc]
    rw [he, hst]
    rfl
end
/-- A copy whose answer is known. -/
theorem wpList_copy_at {w w' : World} {ops : Array Oper} {rest : List Oper} {o : Oper} {a : Act} {Q : Exit → Act → World → Prop} (hgd : o.guard = none) (d s : Operand) (t u : TypeId)
    (ho : o.op = .call { callee := .builtin .copy, args := #[d, s], argTypes := #[t, u] }) {v x v' : Value} (hd : a.eval d = v) (hs : a.eval s = x)
    (hr : (Builtin.copy_ #[t, u] o.type #[v, x]).run Try.prog w = .ok v' w') (h : wpList Try.prog ops Q rest (a.put o.dst v') w') : wpList Try.prog ops Q (o :: rest) a w := by
  refine wpList_plain hgd fun K hK => ?_
  unfold Oper.wp
  simp [execOp, ho, resolve, invoke, builtin, hd, hs, hr, Result.andThen]
  exact hK _ _ h
end Go.Proofs.Ytggkjleibhpnfaa
