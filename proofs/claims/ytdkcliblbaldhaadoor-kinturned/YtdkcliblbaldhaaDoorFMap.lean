/-
  A map by block, a struct, of structs of one text each. Own work.
-/
import Derived.Test.YtdkcliblbaldhaaDoorProg
import Derived.WalkKit
import Derived.WalkSpells
import Derived.Outline
import Derived.KernelRfl
import Derived.Maps.Keyed
import Derived.DeepKeys4
namespace Go.Proofs.YtdkcliblbaldhaaDoor
open Go.RowKit
theorem Tryd.laidOut : laidOutB Tryd.prog = true := by kernel_rfl
theorem Tryd.rowB : (82 : TypeId) < Tryd.prog.types.size := of_decide_eq_true (by kernel_rfl)
theorem Tryd.deepB : Tryd.prog.keyTypeAt 2 82 = true := by kernel_rfl
theorem Tryd.keyed : Maps.Keyed Tryd.prog 82 := Maps.Keyed.of_law (deep_law_laid Tryd.laidOut (m := 2) (by omega) Tryd.rowB Tryd.deepB (by rw [Tryd.underlying82]))
/-- A block, a node, as values. -/
def kv (h : Int) (k : Nat) : Value := .agg #[.int .i64 h, .int .u64 (k : Int)]
def nv (s : ByteArray) : Value := .agg #[.string s]
theorem kv_inj {h h' : Int} {k k' : Nat} (e : kv h k = kv h' k') : h = h' ∧ k = k' := by
  have h1 : Value.int .i64 h = Value.int .i64 h' ∧ Value.int .u64 (k : Int) = Value.int .u64 (k' : Int) := by
    unfold kv at e
    injection e with e
    have := congrArg Array.toList e
    injection this with a b
    injection b with b _
    exact ⟨a, b⟩
  obtain ⟨a, b⟩ := h1
  injection a with _ a
  injection b with _ b
  exact ⟨a, by omega⟩
theorem nv_inj {s s' : ByteArray} (e : nv s = nv s') : s = s' := by
  unfold nv at e
  injection e with e
  have := congrArg Array.toList e
  injection this with a _
  injection a
/-- Numbers that fit. -/
def Fitb (h : Int) (k : Nat) : Prop := (-9223372036854775808 ≤ h ∧ h ≤ 9223372036854775807) ∧ k < 18446744073709551616
theorem keyT : Tryd.prog.keyType 82 = true := by kernel_rfl
theorem cellsB : Tryd.prog.cellsOf 82 = 2 := by kernel_rfl
theorem cells_i : Tryd.prog.cellsOf 3 = 1 := by kernel_rfl
theorem cells_u : Tryd.prog.cellsOf 28 = 1 := by kernel_rfl
theorem typesS : ∃ n, Tryd.prog.types.size + 1 = n + 2 := by
  have h : 0 < Tryd.prog.types.size := Nat.lt_of_le_of_lt (Nat.zero_le _) Tryd.rowB
  generalize Tryd.prog.types.size = z at *
  exact ⟨z - 1, by omega⟩
theorem kv_lits (n : Nat) (h u : Int) (w1 : (Lit.int .i64 h).wf = true) (w2 : (Lit.int .u64 u).wf = true) : Tryd.prog.keyLits (n + 2) 82 [.int .i64 h, .int .u64 u] = some [.int .i64 h, .int .u64 u] := by
  simp [Program.keyLits, Tryd.underlying82, w1, w2, cellsB, cells_i, cells_u, Tryd.underlying3, Tryd.underlying28]
theorem kv_formed (h : Int) (k : Nat) : (kv h k).formed Tryd.prog 82 = true := by
  simp [Value.formed, Tryd.underlying82, cellsB, kv]
theorem kv_key {h : Int} {k : Nat} (hf : Fitb h k) : ∃ l, keyOf Tryd.prog 82 (kv h k) = some l := by
  obtain ⟨n, hn⟩ := typesS
  obtain ⟨h1, h3⟩ := hf
  have e := kv_lits n h k (WalkArith.wf_i64 h1) (WalkArith.wf_u64 ⟨by omega, by omega⟩)
  have e2 : (kv h k).cells.toList = [.int .i64 h, .int .u64 (k : Int)] := rfl
  rw [← hn, ← e2] at e
  unfold keyOf
  rw [Tryd.underlying82]
  simp only [keyT, kv_formed, Bool.and_self, if_true, e, Option.map_some]
  exact ⟨_, rfl⟩
/-- A map by block: what stands at each. -/
def Mp (w : World) (b : Nat) (f : Int → Nat → Option ByteArray) : Prop :=
  ∃ es clock, w.heap[b]? = some (.map es clock) ∧ (∀ e ∈ es.toList, ∃ h k s, Fitb h k ∧ e.key = kv h k ∧ e.val = nv s) ∧ es.toList.Pairwise (fun x y => x.key ≠ y.key) ∧
    ∀ h k s, Fitb h k → (f h k = some s ↔ ∃ e ∈ es.toList, e.key = kv h k ∧ e.val = nv s)
theorem Mp.lt {w : World} {b : Nat} {f : Int → Nat → Option ByteArray} (h : Mp w b f) : b < w.heap.size := by
  obtain ⟨es, c, h1, _⟩ := h
  exact (Array.getElem?_eq_some_iff.1 h1).1
theorem Mp.same {w W : World} {b : Nat} {f : Int → Nat → Option ByteArray} (h : Mp w b f) (hb : W.heap[b]? = w.heap[b]?) : Mp W b f := by
  obtain ⟨es, c, h1, h2⟩ := h
  exact ⟨es, c, hb.trans h1, h2⟩
theorem Mp.congr {w : World} {b : Nat} {f g : Int → Nat → Option ByteArray} (h : Mp w b f) (hg : ∀ h k, Fitb h k → f h k = g h k) : Mp w b g := by
  obtain ⟨es, c, h1, h2, h3, h4⟩ := h
  exact ⟨es, c, h1, h2, h3, fun h k s hf => by rw [← hg h k hf]; exact h4 h k s hf⟩
theorem mp_new (w : World) : Mp (w.alloc (.map #[] 0)) w.heap.size (fun _ _ => none) := by
  refine ⟨#[], 0, (MapKept.heap_alloc w _).1, ?_, ?_, ?_⟩
  · intro e he; simp at he
  · simp
  · intro h k s _; simp
theorem Mp.find {w : World} {b : Nat} {f : Int → Nat → Option ByteArray} (hm : Mp w b f) {h : Int} {k : Nat} (hf : Fitb h k) :
    ∃ es clock, w.heap[b]? = some (.map es clock) ∧ ((f h k = none ∧ (Instr.findKey 82 (kv h k) es.toList).run Tryd.prog w = .ok none w ∧ ∀ e ∈ es.toList, e.key ≠ kv h k) ∨
      ∃ j e s, f h k = some s ∧ (Instr.findKey 82 (kv h k) es.toList).run Tryd.prog w = .ok (some (j, nv s)) w ∧ es.toList[j]? = some e ∧ e.key = kv h k) := by
  obtain ⟨es, c, h1, h2, h3, h4⟩ := hm
  obtain ⟨l, hl⟩ := kv_key hf
  refine ⟨es, c, h1, ?_⟩
  rcases Tryd.keyed.find w hl es.toList (fun e he => by obtain ⟨h', k', s, hf', e1, _⟩ := h2 e he; rw [e1]; exact kv_key hf') with ⟨r1, r2⟩ | ⟨j, e, r1, r2, r3⟩
  · refine .inl ⟨?_, r1, r2⟩
    cases hx : f h k with
    | none => rfl
    | some s =>
      obtain ⟨e, he, ek, _⟩ := (h4 h k s hf).1 hx
      exact absurd ek (r2 e he)
  · have hm := List.mem_of_getElem? r2
    obtain ⟨h', k', s, hf', e1, e2⟩ := h2 e hm
    rw [e2] at r1
    exact .inr ⟨j, e, s, (h4 h k s hf).2 ⟨e, hm, r3, e2⟩, r1, r2, r3⟩
/-- What is looked up. -/
theorem Mp.look {w : World} {b : Nat} {f : Int → Nat → Option ByteArray} (hm : Mp w b f) {h : Int} {k : Nat} (hf : Fitb h k) (c : Bool) :
    (Instr.lookup 76 (.map (some b)) (kv h k) c).run Tryd.prog w = .ok (if c then .tuple #[nv ((f h k).getD ByteArray.empty), .bool (f h k).isSome] else nv ((f h k).getD ByteArray.empty)) w := by
  obtain ⟨l, hl⟩ := kv_key hf
  obtain ⟨es, cl, h1, ⟨e0, e1, _⟩ | ⟨j, e, s, e0, e1, _⟩⟩ := hm.find hf
  · rw [e0]
    simp [Instr.lookup, run_underlying Tryd.underlying76, MapKept.run_getObj_map h1, Tryd.keyed.check w _ hl, e1, Result.andThen]
    rfl
  · rw [e0]
    simp [Instr.lookup, run_underlying Tryd.underlying76, MapKept.run_getObj_map h1, Tryd.keyed.check w _ hl, e1, Result.andThen]
/-- Another text at a block. -/
def put (f : Int → Nat → Option ByteArray) (h : Int) (k : Nat) (s : ByteArray) : Int → Nat → Option ByteArray := fun h' k' => if h' = h ∧ k' = k then some s else f h' k'
/-- What is written. -/
theorem Mp.write {w : World} {b : Nat} {f : Int → Nat → Option ByteArray} (hm : Mp w b f) {h : Int} {k : Nat} (hf : Fitb h k) (s : ByteArray) :
    ∃ es clock, (Instr.mapUpdate 76 (.map (some b)) (kv h k) (nv s)).run Tryd.prog w = .ok () (ChangeMaps.setBlock w b (.map es clock)) ∧ Mp (ChangeMaps.setBlock w b (.map es clock)) b (put f h k s) := by
  have hb := hm.lt
  obtain ⟨l, hl⟩ := kv_key hf
  have sz : ∀ o, (ChangeMaps.setBlock w b o).heap[b]? = some o := fun o => by simp [ChangeMaps.setBlock, hb]
  obtain ⟨es, cl, h1, hor⟩ := hm.find hf
  obtain ⟨es', cl', g1, g2, g3, g4⟩ := hm
  rw [h1] at g1
  injection g1 with g1
  injection g1 with g1 g1'
  subst g1 g1'
  rcases hor with ⟨e0, e1, e2⟩ | ⟨j, e, s0, e0, e1, e2, e3⟩
  · refine ⟨es.push ⟨kv h k, nv s, cl⟩, cl + 1, ?_, _, _, sz _, ?_, ?_, ?_⟩
    · simp [Instr.mapUpdate, run_underlying Tryd.underlying76, MapKept.run_getObj_map h1, Tryd.keyed.check w false hl, e1, MapKept.run_setObj_map _ h1, Result.andThen, ChangeMaps.setBlock]
    · intro x hx
      simp only [Array.toList_push, List.mem_append, List.mem_singleton] at hx
      rcases hx with hx | rfl
      · exact g2 x hx
      · exact ⟨h, k, s, hf, rfl, rfl⟩
    · rw [Array.toList_push, List.pairwise_append]
      refine ⟨g3, by simp, fun x hx y hy => ?_⟩
      simp only [List.mem_singleton] at hy
      subst hy
      exact e2 x hx
    · intro h' k' s' hf'
      simp only [put, Array.toList_push, List.mem_append, List.mem_singleton]
      by_cases hq : h' = h ∧ k' = k
      · obtain ⟨rfl, rfl⟩ := hq
        rw [if_pos ⟨rfl, rfl⟩]
        refine ⟨fun hs => ?_, ?_⟩
        · injection hs with hs
          subst hs
          exact ⟨_, .inr rfl, rfl, rfl⟩
        · rintro ⟨x, hx | rfl, ex, ey⟩
          · exact absurd ex (e2 x hx)
          · rw [nv_inj ey]
      · rw [if_neg hq, g4 h' k' s' hf']
        refine ⟨fun ⟨x, hx, r⟩ => ⟨x, .inl hx, r⟩, ?_⟩
        rintro ⟨x, hx | rfl, ex, ey⟩
        · exact ⟨x, hx, ex, ey⟩
        · obtain ⟨q1, q2⟩ := kv_inj ex
          exact absurd ⟨q1.symm, q2.symm⟩ hq
  · have hj : es[j]? = some e := by simpa using e2
    have hlist : (es.modify j (fun e' => { e' with key := kv h k, val := nv s })).toList = es.toList.set j { e with key := kv h k, val := nv s } := by rw [Array.toList_modify, ChangeMaps.modify_eq_set _ _ _ _ e2]
    have hjl : j < es.toList.length := (List.getElem?_eq_some_iff.1 e2).1
    have hne : ∀ i x, es.toList[i]? = some x → i ≠ j → x.key ≠ kv h k := fun i x hx hij => by
      have hil := (List.getElem?_eq_some_iff.1 hx).1
      have pw := List.pairwise_iff_getElem.1 g3
      have ei : es.toList[i] = x := (List.getElem?_eq_some_iff.1 hx).2
      have ej : es.toList[j] = e := (List.getElem?_eq_some_iff.1 e2).2
      rcases Nat.lt_or_gt_of_ne hij with hlt | hlt
      · have := pw i j hil hjl hlt
        rw [ei, ej, e3] at this
        exact this
      · have := pw j i hjl hil hlt
        rw [ei, ej, e3] at this
        exact fun q => this q.symm
    have who : ∀ x, x ∈ es.toList.set j { e with key := kv h k, val := nv s } ↔ x = { e with key := kv h k, val := nv s } ∨ (x ∈ es.toList ∧ x.key ≠ kv h k) := by
      intro x
      constructor
      · intro hx
        obtain ⟨i, hi, ex⟩ := List.getElem_of_mem hx
        rw [List.getElem_set] at ex
        split at ex
        · exact .inl ex.symm
        · rename_i hn
          have hi' : i < es.toList.length := by simpa using hi
          exact .inr ⟨ex ▸ List.getElem_mem hi', hne i x (by rw [List.getElem?_eq_getElem hi', ex]) (fun q => hn q.symm)⟩
      · rintro (rfl | ⟨hx, hk⟩)
        · exact List.mem_iff_getElem.2 ⟨j, by simpa using hjl, by simp⟩
        · obtain ⟨i, hi, ex⟩ := List.getElem_of_mem hx
          refine List.mem_iff_getElem.2 ⟨i, by simpa using hi, ?_⟩
          rw [List.getElem_set_ne]
          · exact ex
          · rintro rfl
            apply hk
            rw [← ex, (List.getElem?_eq_some_iff.1 e2).2, e3]
    refine ⟨es.modify j (fun e' => { e' with key := kv h k, val := nv s }), cl, ?_, _, _, sz _, ?_, ?_, ?_⟩
    · simp [Instr.mapUpdate, run_underlying Tryd.underlying76, MapKept.run_getObj_map h1, Tryd.keyed.check w false hl, e1, hj, e3, Tryd.keyed.stays w hl, MapKept.run_setObj_map _ h1, Result.andThen, ChangeMaps.setBlock]
    · intro x hx
      rw [hlist] at hx
      rcases (who x).1 hx with rfl | ⟨hx, _⟩
      · exact ⟨h, k, s, hf, rfl, rfl⟩
      · exact g2 x hx
    · rw [hlist, List.pairwise_iff_getElem]
      have pw := List.pairwise_iff_getElem.1 g3
      have ky : ∀ i (hi : i < (es.toList.set j { e with key := kv h k, val := nv s }).length), ((es.toList.set j { e with key := kv h k, val := nv s })[i]).key = (es.toList[i]'(by simpa using hi)).key := by
        intro i hi
        rw [List.getElem_set]
        split
        · rename_i q
          subst q
          rw [(List.getElem?_eq_some_iff.1 e2).2, e3]
        · rfl
      intro i i' hi hi' hlt
      rw [ky i hi, ky i' hi']
      exact pw i i' _ _ hlt
    · intro h' k' s' hf'
      rw [hlist]
      by_cases hq : h' = h ∧ k' = k
      · obtain ⟨rfl, rfl⟩ := hq
        rw [put, if_pos ⟨rfl, rfl⟩]
        refine ⟨fun hs => ?_, ?_⟩
        · injection hs with hs
          subst hs
          exact ⟨_, (who _).2 (.inl rfl), rfl, rfl⟩
        · rintro ⟨x, hx, ex, ey⟩
          rcases (who x).1 hx with rfl | ⟨_, hk⟩
          · rw [nv_inj ey]
          · exact absurd ex hk
      · rw [put, if_neg hq, g4 h' k' s' hf']
        constructor
        · rintro ⟨x, hx, ex, ey⟩
          refine ⟨x, (who x).2 (.inr ⟨hx, fun q => hq ?_⟩), ex, ey⟩
          obtain ⟨q1, q2⟩ := kv_inj (ex.symm.trans q)
          exact ⟨q1, q2⟩
        · rintro ⟨x, hx, ex, ey⟩
          rcases (who x).1 hx with rfl | ⟨hx, _⟩
          · obtain ⟨q1, q2⟩ := kv_inj ex
            exact absurd ⟨q1.symm, q2.symm⟩ hq
          · exact ⟨x, hx, ex, ey⟩
end Go.Proofs.YtdkcliblbaldhaaDoor
