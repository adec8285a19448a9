/-
  Rows of bytes: written over, appended to, cut. Own work.
-/
import Derived.Test.YtmhedhhbdpdafabDBase
import Derived.Test.YtmhedhhbdpdafabDSpec
import Derived.Deep.AppendSrc
import Derived.Deep.MidRow
import Derived.Deep.Upon
import Derived.Laws.IdiomStrings
import Derived.Deep.RegionLaw
namespace Go.Proofs.Ytmhedhhbdpdafab
open Go.RowKit
theorem size_list (s : ByteArray) : s.data.toList.length = s.size := Array.length_toList
theorem ba_ext {a b : ByteArray} (h : a.data.toList = b.data.toList) : a = b := by
  cases a; cases b; simp at h; simp [h]
theorem ext_drop (s : ByteArray) (k : Nat) : (s.extract k s.size).data.toList = s.data.toList.drop k := by
  rw [ByteArray.data_extract, Array.toList_extract, List.extract_eq_take_drop, List.take_of_length_le (by rw [List.length_drop, size_list]; omega)]
theorem ext_take (s : ByteArray) (k : Nat) : (s.extract 0 k).data.toList = s.data.toList.take k := by
  rw [ByteArray.data_extract, Array.toList_extract, List.extract_eq_take_drop, List.drop_zero, Nat.sub_zero]
/-- Bytes as cells. -/
def cY (l : List UInt8) : List Value := l.map fun b => Value.int .u8 (b.toNat : Int)
theorem cY_len (l : List UInt8) : (cY l).length = l.length := by simp [cY]
theorem cY_app (l m : List UInt8) : cY (l ++ m) = cY l ++ cY m := by simp [cY]
theorem cY_one (l : List UInt8) : ∀ u ∈ cY l, u.oneCell' = true := fun u hu => by obtain ⟨_, _, rfl⟩ := List.mem_map.1 hu; rfl
theorem cells8 (t : ByteArray) : byteCells t = cY t.data.toList := rfl
theorem Try.infoY : (Try.prog.info? 5).map (fun i => (i.zero, i.size, i.bytes)) = some (some (.int .u8 0), 1, 1) := by kernel_rfl
/-- A block of cells of that type. -/
def Ty (w : World) (g : Nat) (T : TypeId) : Prop := ∃ cs fr, w.heap[g]? = some (.cells cs T fr)
theorem Ty.lt {w : World} {g : Nat} {T : TypeId} (h : Ty w g T) : g < w.heap.size := by
  obtain ⟨cs, fr, h⟩ := h
  exact (Array.getElem?_eq_some_iff.1 h).1
theorem Ty.same {w W : World} {g : Nat} {T : TypeId} (h : Ty w g T) (hb : W.heap[g]? = w.heap[g]?) : Ty W g T := by
  obtain ⟨cs, fr, h⟩ := h
  exact ⟨cs, fr, hb.trans h⟩
theorem Ty.set {w : World} {g : Nat} {T : TypeId} (h : Ty w g T) (b i : Nat) (v : Value) : Ty (w.setCell ⟨b, i, none⟩ v) g T := by
  by_cases e : g = b
  · subst e
    obtain ⟨cs, fr, h⟩ := h
    exact ⟨cs.setIfInBounds i v, fr, by simp [World.setCell, Array.getElem?_modify, h]⟩
  · exact h.same (Below.heap_setCell _ _ _ _ e)
theorem Ty.sets {g : Nat} {T : TypeId} (b : Nat) : ∀ (vs : List Value) (o : Nat) (w : World), Ty w g T → Ty (w.setCells b o vs) g T
  | [], _, _, h => h
  | v :: r, o, _, h => Ty.sets b r (o + 1) _ (h.set b o v)
theorem Ty.ne {w : World} {g k : Nat} {T U : TypeId} (h : Ty w g T) (h2 : Ty w k U) (hT : T ≠ U) : g ≠ k := by
  rintro rfl
  obtain ⟨_, _, h⟩ := h
  obtain ⟨_, _, h2⟩ := h2
  rw [h] at h2
  injection h2 with h2
  injection h2 with _ h2 _
  exact hT h2
theorem upo_sets {S : Nat → Prop} {w : World} {g : Nat} (hg : S g ∨ w.heap.size ≤ g) : ∀ (vs : List Value) (o : Nat) (w' : World), Upo S w w' → Upo S w (w'.setCells g o vs)
  | [], _, _, h => h
  | v :: r, o, _, h => upo_sets hg r (o + 1) _ (h.set g o v hg)
/-- A row of bytes with its room: where it lies. -/
structure Rw (w : World) (ao : Option Addr) (g cap : Nat) (l : List UInt8) : Prop where
  ptr : ao = none ∨ ao = some ⟨g, 0, none⟩
  nil : ao = none → cap = 0
  ty : ao = some ⟨g, 0, none⟩ → Ty w g 5
  le : l.length ≤ cap
  rng : ao = some ⟨g, 0, none⟩ → w.rangeAt g 0 (cY l)
  thr : ao = some ⟨g, 0, none⟩ → w.there g 0 cap
section
variable {w W : World} {ao : Option Addr} {g cap : Nat} {l : List UInt8}
theorem rw_nil (w : World) (g : Nat) : Rw w none g 0 [] := ⟨.inl rfl, fun _ => rfl, fun h => (by cases h), Nat.le_refl _, fun h => (by cases h), fun h => by cases h⟩
theorem Rw.empty (h : Rw w ao g cap l) (e : ao = none) : l = [] := List.length_eq_zero_iff.1 (by have := h.nil e; have := h.le; omega)
theorem Rw.sm (h : Rw w ao g cap l) (h0 : 0 < l.length) : ao = some ⟨g, 0, none⟩ := by
  rcases h.ptr with e | e
  · rw [h.empty e] at h0; simp at h0
  · exact e
theorem Rw.own (h : Rw w ao g cap l) {n c b : Nat} (e : (Value.slice ao n c).ownBlock = some b) : ao = some ⟨g, 0, none⟩ ∧ b = g := by
  rcases h.ptr with q | q
  · rw [q] at e; cases e
  · rw [q] at e; exact ⟨q, by simpa [Value.ownBlock] using e.symm⟩
theorem range_same {b o : Nat} {cs : List Value} (h : w.rangeAt b o cs) (hb : W.heap[b]? = w.heap[b]?) : W.rangeAt b o cs := fun j v hv => by
  rw [World.cell?_of_block (a := ⟨b, o + j, none⟩) hb]; exact h j v hv
theorem there_same {b o n : Nat} (h : w.there b o n) (hb : W.heap[b]? = w.heap[b]?) : W.there b o n := fun j hj => by
  rw [World.cell?_of_block (a := ⟨b, o + j, none⟩) hb, World.frozen?_of_block (a := ⟨b, o + j, none⟩) hb]; exact h j hj
theorem Rw.same (h : Rw w ao g cap l) (hb : ao = some ⟨g, 0, none⟩ → W.heap[g]? = w.heap[g]?) : Rw W ao g cap l :=
  ⟨h.ptr, h.nil, fun e => (h.ty e).same (hb e), h.le, fun e => range_same (h.rng e) (hb e), fun e => there_same (h.thr e) (hb e)⟩
theorem Rw.next {B : Nat} (h : Rw w ao g cap l) (hb : Below B w W) (hB : w.heap.size ≤ B) : Rw W ao g cap l :=
  h.same fun e => hb.block g (by have := (h.ty e).lt; omega)
theorem Rw.off (h : Rw w ao g cap l) {p : Nat} (i : Nat) (v : Value) (hp : ao = some ⟨g, 0, none⟩ → g ≠ p) : Rw (w.setCell ⟨p, i, none⟩ v) ao g cap l :=
  h.same fun e => Below.heap_setCell _ _ _ _ (hp e)
/-- Its first bytes. -/
theorem Rw.cut (h : Rw w ao g cap l) {k : Nat} (hk : k ≤ l.length) : Rw w ao g cap (l.take k) :=
  ⟨h.ptr, h.nil, h.ty, by have := h.le; simp; omega, fun e j v hv => h.rng e j v (by
    rw [cY, List.map_take] at hv
    rw [List.getElem?_take] at hv
    split at hv
    · exact hv
    · cases hv), h.thr⟩
theorem Rw.at (h : Rw w ao g cap l) {j : Nat} (hj : j < l.length) : w.cell? ⟨g, j, none⟩ = some (.int .u8 ((l.getD j 0).toNat : Int)) := by
  have := h.rng (h.sm (by omega)) j (.int .u8 ((l.getD j 0).toNat : Int)) (by simp [cY, List.getElem?_eq_getElem hj, List.getD_eq_getElem?_getD])
  rwa [Nat.zero_add] at this
/-- Cells within a range are stored anew. -/
theorem range_mid {b o : Nat} {cs : List Value} (h : w.rangeAt b o cs) (k : Nat) (vs : List Value) (hk : k + vs.length ≤ cs.length) (ht : w.there b (o + k) vs.length) :
    (w.setCells b (o + k) vs).rangeAt b o (cs.take k ++ vs ++ cs.drop (k + vs.length)) := fun j u hu => by
  have hlen : (cs.take k).length = k := by simp; omega
  by_cases hj : j < k
  · rw [List.append_assoc, List.getElem?_append_left (by omega), List.getElem?_take, if_pos hj] at hu
    rw [World.cell?_setCells_out b vs (o + k) w ⟨b, o + j, none⟩ (fun _ _ => Or.inl (by show o + j < o + k; omega))]
    exact h j u hu
  · by_cases hj2 : j < k + vs.length
    · rw [List.getElem?_append_left (by simp; omega), List.getElem?_append_right (by omega), hlen] at hu
      have := World.cell?_setCells_in b vs (o + k) w (fun i hi => (ht i hi).1) (j - k) (by omega)
      rw [show o + k + (j - k) = o + j by omega] at this
      rw [this, ← hu, List.getElem?_eq_getElem (by omega)]
    · rw [List.getElem?_append_right (by simp; omega)] at hu
      rw [List.getElem?_drop, show k + vs.length + (j - (cs.take k ++ vs).length) = j by simp; omega] at hu
      rw [World.cell?_setCells_out b vs (o + k) w ⟨b, o + j, none⟩ (fun _ _ => Or.inr (by show o + k + vs.length ≤ o + j; omega))]
      exact h j u hu
/-- Written over. -/
theorem Rw.over (h : Rw w ao g cap l) (k : Nat) (t : List UInt8) (hk : k + t.length ≤ l.length) : Rw (w.setCells g k (cY t)) ao g cap (l.take k ++ t ++ l.drop (k + t.length)) := by
  refine ⟨h.ptr, h.nil, fun e => Ty.sets g _ _ _ (h.ty e), by have := h.le; simp; omega, fun e => ?_, fun e => World.there_setCells (h.thr e) _ _ _⟩
  have := range_mid (h.rng e) k (cY t) (by rw [cY_len, cY_len]; exact hk) (fun j hj => by
    rw [Nat.zero_add]
    have := h.thr e (k + j) (by rw [cY_len] at hj; have := h.le; omega)
    rwa [Nat.zero_add] at this)
  rw [Nat.zero_add] at this
  rw [cY_app, cY_app]
  simpa [cY, List.map_take, List.map_drop] using this
/-- copy of a text. -/
theorem run_copy_text (W : World) (ty : TypeId) {ax : Option Addr} {k n c : Nat} {t : ByteArray} (hn : k + n ≤ l.length) (h : Rw W ao g cap l) (hx : ax = ao ∨ ax = ao.map (·.add k)) (h0 : ax = ao → k = 0 ∨ n = 0) (hc : Nat.min t.size n = c) (m : Nat) :
    (Builtin.copy_ #[67, 9] ty #[.slice ax n m, .string t]).run Try.prog W = .ok (goInt c) (W.setCells g k (cY (t.data.toList.take c))) := by
  have hs : ∀ W, (Go.sizeOf 5).run Try.prog W = .ok 1 W := fun W => by kernel_rfl
  have hl : (cY (t.data.toList.take c)).length = c := by
    rw [cY_len, List.length_take, size_list]
    have : c ≤ t.size := by rw [← hc]; exact Nat.min_le_left _ _
    omega
  have he : List.take c (List.map (fun x : UInt8 => Value.int IntKind.u8 (x.toNat : Int)) t.data.toList) = cY (t.data.toList.take c) := by rw [cY, List.map_take]
  have hcn : c ≤ n := by rw [← hc]; exact Nat.min_le_right _ _
  by_cases z : c = 0
  · subst z
    have e0 : cY (t.data.toList.take 0) = [] := by simp [cY]
    rw [e0]
    cases ax with
    | none => simp [Builtin.copy_, run_underlying Try.underlying67, Builtin.lenOf, Builtin.firstCells, hs, hc]; rfl
    | some a => simp [Builtin.copy_, run_underlying Try.underlying67, Builtin.lenOf, Builtin.firstCells, hs, hc]; rfl
  · have ea := h.sm (by omega)
    have eax : ax = some ⟨g, k, none⟩ := by
      rcases hx with e | e
      · rcases h0 e with q | q
        · rw [e, ea, q]
        · omega
      · rw [e, ea, Option.map_some, Addr.add_mid, Nat.zero_add]
    have hth := h.thr ea
    have hst := run_storeCells_cells (P := Try.prog) g k (cY (t.data.toList.take c)) 0 W (by rw [hl]; intro j hj; have := hth (k + j) (by have := h.le; omega); simpa using this.1) (by rw [hl]; intro j hj; have := hth (k + j) (by have := h.le; omega); simpa using this.2) (cY_one _)
    simp only [Nat.add_zero] at hst
    rw [eax]
    simp [Builtin.copy_, run_underlying Try.underlying67, Builtin.lenOf, Builtin.firstCells, hs, hc]
    rw [he, hst]
    rfl
theorem there_new (w : World) (cs : Array Value) (t : TypeId) (n : Nat) (hn : n ≤ cs.size) : (w.alloc (.cells cs t)).there w.heap.size 0 n := fun j hj => by
  refine ⟨?_, World.frozen?_alloc_new _ _ _ _⟩
  rw [World.cell?_alloc_new, Nat.zero_add, Array.getElem?_eq_getElem (by omega)]; rfl
/-- append, of whatever yields bytes. -/
theorem Rw.app (h : Rw w ao g cap l) (tx ty : TypeId) (x : Value) (t : List UInt8) (hs : Src Try.prog 1 tx x t.length (cY t) w) (hl : l.length + t.length ≤ 140737488355328) :
    ∃ ao' g' cap' w', (Builtin.append_ #[67, tx] ty #[.slice ao l.length cap, x]).run Try.prog w = .ok (.slice ao' (l ++ t).length cap') w' ∧ Rw w' ao' g' cap' (l ++ t) ∧ Upo (fun b => ao = some ⟨g, 0, none⟩ ∧ b = g) w w' ∧ ((ao' = ao ∧ g' = g) ∨ (g' = w.heap.size ∧ g' < w'.heap.size)) ∧ (ao = some ⟨g, 0, none⟩ → Ty w' g 5) := by
  obtain ⟨i0, hi, hz0, hz1, hz2⟩ := info_parts Try.infoY
  by_cases hroom : l.length + t.length ≤ cap
  · rcases h.ptr with e | e
    · have hc := h.nil e
      have el := h.empty e
      have et : t = [] := List.length_eq_zero_iff.1 (by omega)
      subst et el hc e
      refine ⟨none, g, 0, w, ?_, rw_nil w g, Upo.refl _ _, .inl ⟨rfl, rfl⟩, fun e => (by cases e)⟩
      have hk := hs.kind
      have hs2 := hs.cells
      simp only [List.length_nil] at hs2
      rcases hk with ⟨e', hk⟩ | hk <;> simp [Builtin.append_, run_underlying Try.underlying67, run_underlying hk, Go.sizeOf, typeInfo, hi, hs.len, hs2, hz1]
    · subst e
      have hr := run_append_room_src (P := Try.prog) w 67 tx ty 5 i0 Try.underlying67 hi g 0 l.length cap x t.length (cY t) (by rw [hz1]; exact hs) hroom
        (fun j hj => by rw [hz1, Nat.mul_one, Nat.add_assoc]; rw [cY_len] at hj; exact (h.thr rfl (l.length + j) (by omega)).1) (fun j hj => by rw [hz1, Nat.mul_one, Nat.add_assoc]; rw [cY_len] at hj; exact (h.thr rfl (l.length + j) (by omega)).2)
      rw [hz1, Nat.mul_one, Nat.zero_add] at hr
      refine ⟨_, g, cap, _, by rw [hr, List.length_append], ⟨.inr rfl, fun e => (by cases e), fun _ => Ty.sets g _ _ _ (h.ty rfl), by rw [List.length_append]; exact hroom, fun _ => ?_, fun _ => World.there_setCells (h.thr rfl) _ _ _⟩, upo_sets (.inl ⟨rfl, rfl⟩) _ _ _ (Upo.refl _ _), .inl ⟨rfl, rfl⟩, fun _ => Ty.sets g _ _ _ (h.ty rfl)⟩
      rw [cY_app]
      intro j u hu
      by_cases hj : j < l.length
      · rw [List.getElem?_append_left (by rw [cY_len]; exact hj)] at hu
        exact World.rangeAt_setCells_apart (h.rng rfl) g l.length (cY t) (.inr (.inl (by rw [cY_len, Nat.zero_add]; exact Nat.le_refl _))) j u hu
      · rw [List.getElem?_append_right (by rw [cY_len]; omega), cY_len] at hu
        have := World.rangeAt_setCells_same w g l.length (cY t) (fun j hj => by have := h.thr rfl (l.length + j) (by rw [cY_len] at hj; omega); rwa [Nat.zero_add] at this) (j - l.length) u hu
        rwa [show l.length + (j - l.length) = 0 + j by omega] at this
  · have hold : (Builtin.firstCells i0.size l.length (.slice ao l.length cap)).run Try.prog w.drew = .ok (cY l).toArray w.drew := by
      rcases h.ptr with e | e
      · rw [e, h.empty e]
        exact run_firstCells_none w.drew _ 0 0 cap
      · rw [e, hz1]
        exact run_firstCells_some w.drew 1 l.length _ l.length cap (cY l) (by rw [cY_len, Nat.mul_one]) (fun j u hu => by rw [Addr.add_mid]; exact h.rng e j u hu)
    have hr := run_append_grow_src (P := Try.prog) w 67 tx ty 5 i0 (.int .u8 0) Try.underlying67 hi hz0 ao l.length cap (cY l) hold x t.length (cY t) (by rw [hz1]; exact hs) (by omega) (by omega) (by rw [hz2]; exact growslice_fits (by omega) (by omega))
    have hge := grownCap_ge w (l.length + t.length) cap 5
    obtain ⟨cc, hcc⟩ : ∃ cc, grownCap w (l.length + t.length) cap 5 = cc := ⟨_, rfl⟩
    rw [hcc] at hr hge
    refine ⟨some ⟨w.heap.size, 0, none⟩, w.heap.size, cc, w.drew.alloc (.cells ((cY l ++ cY t).toArray ++ Builtin.zeroCells (Value.int IntKind.u8 0).cells (cc - (l.length + t.length))) 5), by rw [hr, List.length_append], ⟨.inr rfl, fun e => (by cases e), fun _ => ⟨_, _, heap_alloc_new w.drew _⟩, by rw [List.length_append]; exact hge, fun _ => ?_, fun _ => ?_⟩, (Upo.refl _ w).drew.alloc _, .inr ⟨rfl, by simp⟩, fun e => (h.ty e).same ((MapKept.heap_alloc w.drew _).2 g (h.ty e).lt)⟩
    · intro j u hu
      show (w.drew.alloc _).cell? ⟨w.drew.heap.size, 0 + j, none⟩ = some u
      rw [World.cell?_alloc_new, Nat.zero_add]
      rw [cY_app] at hu
      rw [Array.getElem?_append_left (by have := (List.getElem?_eq_some_iff.1 hu).1; simpa using this)]
      simpa using hu
    · refine there_new w.drew _ 5 _ ?_
      have hz1' : (Value.int IntKind.u8 0).cells.size = 1 := rfl
      simp only [Array.size_append, List.size_toArray, size_zeroCells, hz1', cY_len, List.length_append]
      omega
/-- A text's bytes, as a source. -/
theorem src_text (w : World) (t : ByteArray) : Src Try.prog 1 9 (.string t) t.data.toList.length (cY t.data.toList) w := by
  rw [size_list]
  exact Src.ofString w Try.underlying9 t
/-- The bytes from a place on, as a source. -/
theorem Rw.src (h : Rw w ao g cap l) {k : Nat} (hk : k ≤ l.length) {ax : Option Addr} (hx : ax = ao ∨ ax = ao.map (·.add k)) (h0 : ax = ao → k = 0 ∨ k = l.length) (m : Nat) : Src Try.prog 1 67 (.slice ax (l.length - k) m) (l.drop k).length (cY (l.drop k)) w := by
  have hlen : (l.drop k).length = l.length - k := by simp
  rw [hlen]
  rcases Nat.eq_zero_or_pos (l.length - k) with z | z
  · have e : l.drop k = [] := List.length_eq_zero_iff.1 (by omega)
    rw [e, z]
    cases ax with
    | none => exact Src.ofNil w Try.underlying67 m
    | some a => exact Src.ofSlice w Try.underlying67 a 0 m _ (by simp [cY]) (fun j u hu => by simp [cY] at hu) (fun u hu => by simp [cY] at hu)
  · have ea := h.sm (by omega)
    have eax : ax = some ⟨g, k, none⟩ := by
      rcases hx with e | e
      · rcases h0 e with q | q
        · rw [e, ea, q]
        · omega
      · rw [e, ea, Option.map_some, Addr.add_mid, Nat.zero_add]
    rw [eax]
    refine Src.ofSlice w Try.underlying67 _ _ m _ (by rw [cY_len, hlen, Nat.mul_one]) (fun j u hu => ?_) (cY_one _)
    rw [cY, List.map_drop, List.getElem?_drop] at hu
    have := h.rng ea (k + j) u hu
    rw [Nat.zero_add] at this
    rw [Addr.add_mid]
    exact this
theorem Rw.conv (h : Rw w ao g cap l) {k n : Nat} (hk : k + n ≤ l.length) {ax : Option Addr} (hx : ax = ao ∨ ax = ao.map (·.add k)) (h0 : ax = ao → k = 0 ∨ n = 0) (m : Nat) :
    (convert 67 9 (.slice ax n m)).run Try.prog w = .ok (.string ⟨((l.drop k).take n).toArray⟩) w := by
  have hlen : ((l.drop k).take n).length = n := by simp; omega
  cases hax : ax with
  | none =>
    have z : n = 0 := by
      rcases hx with e | e
      · have := h.empty (e.symm.trans hax); rw [this] at hk; simp at hk; omega
      · have ea : ao = none := by cases ao with
          | none => rfl
          | some a => rw [hax] at e; cases e
        have := h.empty ea; rw [this] at hk; simp at hk; omega
    subst z
    rw [List.take_zero]
    have : ∀ W : World, (convert 67 9 (.slice none 0 m)).run Try.prog W = .ok (.string ⟨#[]⟩) W := fun W => by
      simp [convert, run_underlying Try.underlying67, run_underlying Try.underlying9, run_underlying Try.underlying5, Conv.bytesToString]
      rfl
    exact this w
  | some a =>
    have hr := run_convert_bytes_back w 67 9 5 a m ((l.drop k).take n) Try.underlying67 Try.underlying5 Try.underlying9 fun j hj => ?_
    · rw [hlen] at hr; exact hr
    · rw [hlen] at hj
      have ea := h.sm (by omega)
      have eax : a = ⟨g, k, none⟩ := by
        rcases hx with e | e
        · rcases h0 e with q | q
          · rw [hax, ea] at e; injection e with e; rw [e, q]
          · omega
        · rw [hax, ea, Option.map_some, Addr.add_mid, Nat.zero_add] at e
          injection e
      rw [eax, Addr.add_mid, h.at (by omega)]
      have : (List.take n (List.drop k l))[j]'(by omega) = l.getD (k + j) 0 := by
        rw [List.getElem_take, List.getElem_drop, List.getD_eq_getElem?_getD, List.getElem?_eq_getElem (by omega)]; rfl
      rw [this]
end
/-- An append whose answer is known, in a region that draws its order. -/
theorem step_app {w w' : World} {ops : Array Oper} {o : Oper} {a : Act} {K : Act → World → Prop} {Q : Exit → Act → World → Prop} {E : Prop} (hgd : o.guard = none) (s x : Operand) (t u : TypeId)
    (hop : o.op = Op.call { callee := Callee.builtin Builtin.append, args := #[s, x], argTypes := #[t, u] }) {vs vx v' : Value} (hs : a.eval s = vs) (hx : a.eval x = vx) (hr : (Builtin.append_ #[t, u] o.type #[vs, vx]).run Try.prog w = .ok v' w')
    (hK : K (a.put o.dst v') w') : if Region.wanted o (yielded ops a.tmps) = true then Oper.wp Try.prog o a w K Q else E := by
  have hw : Region.wanted o (yielded ops a.tmps) = true := by simp [Region.wanted, hgd]
  rw [if_pos hw]
  unfold Oper.wp
  simp [execOp, hop, resolve, invoke, builtin, hs, hx, hr, Result.andThen]
  exact hK
/-- An copy whose answer is known, in a region that draws its order. -/
theorem step_copy {w w' : World} {ops : Array Oper} {o : Oper} {a : Act} {K : Act → World → Prop} {Q : Exit → Act → World → Prop} {E : Prop} (hgd : o.guard = none) (s x : Operand) (t u : TypeId)
    (hop : o.op = Op.call { callee := Callee.builtin Builtin.copy, args := #[s, x], argTypes := #[t, u] }) {vs vx v' : Value} (hs : a.eval s = vs) (hx : a.eval x = vx) (hr : (Builtin.copy_ #[t, u] o.type #[vs, vx]).run Try.prog w = .ok v' w')
    (hK : K (a.put o.dst v') w') : if Region.wanted o (yielded ops a.tmps) = true then Oper.wp Try.prog o a w K Q else E := by
  have hw : Region.wanted o (yielded ops a.tmps) = true := by simp [Region.wanted, hgd]
  rw [if_pos hw]
  unfold Oper.wp
  simp [execOp, hop, resolve, invoke, builtin, hs, hx, hr, Result.andThen]
  exact hK
end Go.Proofs.Ytmhedhhbdpdafab
