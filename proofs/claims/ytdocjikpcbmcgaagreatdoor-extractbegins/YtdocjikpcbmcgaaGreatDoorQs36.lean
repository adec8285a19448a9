/-
  Own work: EMap, EWkC, EWkD.
-/
import Derived.WalkKit
import Derived.WalkSpells
import Derived.Outline
import Derived.KernelRfl
import Derived.Maps.Keyed
import Derived.DeepKeys4
import Derived.Test.YtdocjikpcbmcgaaGreatDoorQs24
import Derived.Test.YtdocjikpcbmcgaaGreatDoorQs35
namespace Go.Proofs.YtdocjikpcbmcgaaGreatDoor
open Go.RowKit
theorem Tryz.laidOut : laidOutB Tryz.prog = true := by kernel_rfl
theorem Tryz.rowB : (83 : TypeId) < Tryz.prog.types.size := of_decide_eq_true (by kernel_rfl)
theorem Tryz.deepB : Tryz.prog.keyTypeAt 2 83 = true := by kernel_rfl
theorem Tryz.keyed : Maps.Keyed Tryz.prog 83 := Maps.Keyed.of_law (deep_law_laid Tryz.laidOut (m := 2) (by omega) Tryz.rowB Tryz.deepB (by rw [Tryz.underlying83]))
def kv (h : Int) (k : Nat) : Value := .agg #[.int .i64 h, .int .u64 (k : Int)]
def ni (s : Nat) : Value := .int .i64 (s : Int)
theorem kv_inj {h h' : Int} {k k' : Nat} (e : kv h k = kv h' k') : h = h' ∧ k = k' := by
  have h1 : Value.int .i64 h = Value.int .i64 h' ∧ Value.int .u64 (k : Int) = Value.int .u64 (k' : Int) := by
    unfold kv at e
    injection e with e
    have := congrArg Array.toList e
    injection this with a b
    injection b with b _
    exact ⟨a, b⟩
  obtain ⟨a, b⟩ := h1
  injection a with _ a
  injection b with _ b
  exact ⟨a, by omega⟩
theorem ni_inj {s s' : Nat} (e : ni s = ni s') : s = s' := by
  unfold ni at e
  injection e with _ e
  omega
theorem keyT : Tryz.prog.keyType 83 = true := by kernel_rfl
theorem cellsB : Tryz.prog.cellsOf 83 = 2 := by kernel_rfl
theorem cells_i : Tryz.prog.cellsOf 3 = 1 := by kernel_rfl
theorem cells_u : Tryz.prog.cellsOf 28 = 1 := by kernel_rfl
theorem typesS : ∃ n, Tryz.prog.types.size + 1 = n + 2 := by
  have h : 0 < Tryz.prog.types.size := Nat.lt_of_le_of_lt (Nat.zero_le _) Tryz.rowB
  generalize Tryz.prog.types.size = z at *
  exact ⟨z - 1, by omega⟩
theorem kv_lits (n : Nat) (h u : Int) (w1 : (Lit.int .i64 h).wf = true) (w2 : (Lit.int .u64 u).wf = true) : Tryz.prog.keyLits (n + 2) 83 [.int .i64 h, .int .u64 u] = some [.int .i64 h, .int .u64 u] := by
  simp [Program.keyLits, Tryz.underlying83, w1, w2, cellsB, cells_i, cells_u, Tryz.underlying3, Tryz.underlying28]
theorem kv_formed (h : Int) (k : Nat) : (kv h k).formed Tryz.prog 83 = true := by
  simp [Value.formed, Tryz.underlying83, cellsB, kv]
theorem kv_key {h : Int} {k : Nat} (hf : Fitb h k) : ∃ l, keyOf Tryz.prog 83 (kv h k) = some l := by
  obtain ⟨n, hn⟩ := typesS
  obtain ⟨h1, h3⟩ := hf
  have e := kv_lits n h k (WalkArith.wf_i64 h1) (WalkArith.wf_u64 ⟨by omega, by omega⟩)
  have e2 : (kv h k).cells.toList = [.int .i64 h, .int .u64 (k : Int)] := rfl
  rw [← hn, ← e2] at e
  unfold keyOf
  rw [Tryz.underlying83]
  simp only [keyT, kv_formed, Bool.and_self, if_true, e, Option.map_some]
  exact ⟨_, rfl⟩
def Mi (w : World) (b : Nat) (f : Int → Nat → Option Nat) : Prop :=
  ∃ es clock, w.heap[b]? = some (.map es clock) ∧ (∀ e ∈ es.toList, ∃ h k s, Fitb h k ∧ e.key = kv h k ∧ e.val = ni s) ∧ es.toList.Pairwise (fun x y => x.key ≠ y.key) ∧
    ∀ h k s, Fitb h k → (f h k = some s ↔ ∃ e ∈ es.toList, e.key = kv h k ∧ e.val = ni s)
theorem Mi.lt {w : World} {b : Nat} {f : Int → Nat → Option Nat} (h : Mi w b f) : b < w.heap.size := by
  obtain ⟨es, c, h1, _⟩ := h
  exact (Array.getElem?_eq_some_iff.1 h1).1
theorem Mi.same {w W : World} {b : Nat} {f : Int → Nat → Option Nat} (h : Mi w b f) (hb : W.heap[b]? = w.heap[b]?) : Mi W b f := by
  obtain ⟨es, c, h1, h2⟩ := h
  exact ⟨es, c, hb.trans h1, h2⟩
theorem mi_new (w : World) : Mi (w.alloc (.map #[] 0)) w.heap.size (fun _ _ => none) := by
  refine ⟨#[], 0, (MapKept.heap_alloc w _).1, ?_, ?_, ?_⟩
  · intro e he; simp at he
  · simp
  · intro h k s _; simp
theorem Mi.find {w : World} {b : Nat} {f : Int → Nat → Option Nat} (hm : Mi w b f) {h : Int} {k : Nat} (hf : Fitb h k) :
    ∃ es clock, w.heap[b]? = some (.map es clock) ∧ ((f h k = none ∧ (Instr.findKey 83 (kv h k) es.toList).run Tryz.prog w = .ok none w ∧ ∀ e ∈ es.toList, e.key ≠ kv h k) ∨
      ∃ j e s, f h k = some s ∧ (Instr.findKey 83 (kv h k) es.toList).run Tryz.prog w = .ok (some (j, ni s)) w ∧ es.toList[j]? = some e ∧ e.key = kv h k) := by
  obtain ⟨es, c, h1, h2, h3, h4⟩ := hm
  obtain ⟨l, hl⟩ := kv_key hf
  refine ⟨es, c, h1, ?_⟩
  rcases Tryz.keyed.find w hl es.toList (fun e he => by obtain ⟨h', k', s, hf', e1, _⟩ := h2 e he; rw [e1]; exact kv_key hf') with ⟨r1, r2⟩ | ⟨j, e, r1, r2, r3⟩
  · refine .inl ⟨?_, r1, r2⟩
    cases hx : f h k with
    | none => rfl
    | some s =>
      obtain ⟨e, he, ek, _⟩ := (h4 h k s hf).1 hx
      exact absurd ek (r2 e he)
  · have hm := List.mem_of_getElem? r2
    obtain ⟨h', k', s, hf', e1, e2⟩ := h2 e hm
    rw [e2] at r1
    exact .inr ⟨j, e, s, (h4 h k s hf).2 ⟨e, hm, r3, e2⟩, r1, r2, r3⟩
theorem Mi.look {w : World} {b : Nat} {f : Int → Nat → Option Nat} (hm : Mi w b f) {h : Int} {k : Nat} (hf : Fitb h k) (c : Bool) :
    (Instr.lookup 67 (.map (some b)) (kv h k) c).run Tryz.prog w = .ok (if c then .tuple #[ni ((f h k).getD 0), .bool (f h k).isSome] else ni ((f h k).getD 0)) w := by
  obtain ⟨l, hl⟩ := kv_key hf
  obtain ⟨es, cl, h1, ⟨e0, e1, _⟩ | ⟨j, e, s, e0, e1, _⟩⟩ := hm.find hf
  · rw [e0]
    simp [Instr.lookup, run_underlying Tryz.underlying67, MapKept.run_getObj_map h1, Tryz.keyed.check w _ hl, e1, Result.andThen]
    rfl
  · rw [e0]
    simp [Instr.lookup, run_underlying Tryz.underlying67, MapKept.run_getObj_map h1, Tryz.keyed.check w _ hl, e1, Result.andThen]
def puti (f : Int → Nat → Option Nat) (h : Int) (k : Nat) (s : Nat) : Int → Nat → Option Nat := fun h' k' => if h' = h ∧ k' = k then some s else f h' k'
theorem Mi.write {w : World} {b : Nat} {f : Int → Nat → Option Nat} (hm : Mi w b f) {h : Int} {k : Nat} (hf : Fitb h k) (s : Nat) :
    ∃ es clock, (Instr.mapUpdate 67 (.map (some b)) (kv h k) (ni s)).run Tryz.prog w = .ok () (ChangeMaps.setBlock w b (.map es clock)) ∧ Mi (ChangeMaps.setBlock w b (.map es clock)) b (puti f h k s) := by
  have hb := hm.lt
  obtain ⟨l, hl⟩ := kv_key hf
  have sz : ∀ o, (ChangeMaps.setBlock w b o).heap[b]? = some o := fun o => by simp [ChangeMaps.setBlock, hb]
  obtain ⟨es, cl, h1, hor⟩ := hm.find hf
  obtain ⟨es', cl', g1, g2, g3, g4⟩ := hm
  rw [h1] at g1
  injection g1 with g1
  injection g1 with g1 g1'
  subst g1 g1'
  rcases hor with ⟨e0, e1, e2⟩ | ⟨j, e, s0, e0, e1, e2, e3⟩
  · refine ⟨es.push ⟨kv h k, ni s, cl⟩, cl + 1, ?_, _, _, sz _, ?_, ?_, ?_⟩
    · simp [Instr.mapUpdate, run_underlying Tryz.underlying67, MapKept.run_getObj_map h1, Tryz.keyed.check w false hl, e1, MapKept.run_setObj_map _ h1, Result.andThen, ChangeMaps.setBlock]
    · intro x hx
      simp only [Array.toList_push, List.mem_append, List.mem_singleton] at hx
      rcases hx with hx | rfl
      · exact g2 x hx
      · exact ⟨h, k, s, hf, rfl, rfl⟩
    · rw [Array.toList_push, List.pairwise_append]
      refine ⟨g3, by simp, fun x hx y hy => ?_⟩
      simp only [List.mem_singleton] at hy
      subst hy
      exact e2 x hx
    · intro h' k' s' hf'
      simp only [puti, Array.toList_push, List.mem_append, List.mem_singleton]
      by_cases hq : h' = h ∧ k' = k
      · obtain ⟨rfl, rfl⟩ := hq
        rw [if_pos ⟨rfl, rfl⟩]
        refine ⟨fun hs => ?_, ?_⟩
        · injection hs with hs
          subst hs
          exact ⟨_, .inr rfl, rfl, rfl⟩
        · rintro ⟨x, hx | rfl, ex, ey⟩
          · exact absurd ex (e2 x hx)
          · rw [ni_inj ey]
      · rw [if_neg hq, g4 h' k' s' hf']
        refine ⟨fun ⟨x, hx, r⟩ => ⟨x, .inl hx, r⟩, ?_⟩
        rintro ⟨x, hx | rfl, ex, ey⟩
        · exact ⟨x, hx, ex, ey⟩
        · obtain ⟨q1, q2⟩ := kv_inj ex
          exact absurd ⟨q1.symm, q2.symm⟩ hq
  · have hj : es[j]? = some e := by simpa using e2
    have hlist : (es.modify j (fun e' => { e' with key := kv h k, val := ni s })).toList = es.toList.set j { e with key := kv h k, val := ni s } := by rw [Array.toList_modify, ChangeMaps.modify_eq_set _ _ _ _ e2]
    have hjl : j < es.toList.length := (List.getElem?_eq_some_iff.1 e2).1
    have hne : ∀ i x, es.toList[i]? = some x → i ≠ j → x.key ≠ kv h k := fun i x hx hij => by
      have hil := (List.getElem?_eq_some_iff.1 hx).1
      have pw := List.pairwise_iff_getElem.1 g3
      have ei : es.toList[i] = x := (List.getElem?_eq_some_iff.1 hx).2
      have ej : es.toList[j] = e := (List.getElem?_eq_some_iff.1 e2).2
      rcases Nat.lt_or_gt_of_ne hij with hlt | hlt
      · have := pw i j hil hjl hlt
        rw [ei, ej, e3] at this
        exact this
      · have := pw j i hjl hil hlt
        rw [ei, ej, e3] at this
        exact fun q => this q.symm
    have who : ∀ x, x ∈ es.toList.set j { e with key := kv h k, val := ni s } ↔ x = { e with key := kv h k, val := ni s } ∨ (x ∈ es.toList ∧ x.key ≠ kv h k) := by
      intro x
      constructor
      · intro hx
        obtain ⟨i, hi, ex⟩ := List.getElem_of_mem hx
        rw [List.getElem_set] at ex
        split at ex
        · exact .inl ex.symm
        · rename_i hn
          have hi' : i < es.toList.length := by simpa using hi
          exact .inr ⟨ex ▸ List.getElem_mem hi', hne i x (by rw [List.getElem?_eq_getElem hi', ex]) (fun q => hn q.symm)⟩
      · rintro (rfl | ⟨hx, hk⟩)
        · exact List.mem_iff_getElem.2 ⟨j, by simpa using hjl, by simp⟩
        · obtain ⟨i, hi, ex⟩ := List.getElem_of_mem hx
          refine List.mem_iff_getElem.2 ⟨i, by simpa using hi, ?_⟩
          rw [List.getElem_set_ne]
          · exact ex
          · rintro rfl
            apply hk
            rw [← ex, (List.getElem?_eq_some_iff.1 e2).2, e3]
    refine ⟨es.modify j (fun e' => { e' with key := kv h k, val := ni s }), cl, ?_, _, _, sz _, ?_, ?_, ?_⟩
    · simp [Instr.mapUpdate, run_underlying Tryz.underlying67, MapKept.run_getObj_map h1, Tryz.keyed.check w false hl, e1, hj, e3, Tryz.keyed.stays w hl, MapKept.run_setObj_map _ h1, Result.andThen, ChangeMaps.setBlock]
    · intro x hx
      rw [hlist] at hx
      rcases (who x).1 hx with rfl | ⟨hx, _⟩
      · exact ⟨h, k, s, hf, rfl, rfl⟩
      · exact g2 x hx
    · rw [hlist, List.pairwise_iff_getElem]
      have pw := List.pairwise_iff_getElem.1 g3
      have ky : ∀ i (hi : i < (es.toList.set j { e with key := kv h k, val := ni s }).length), ((es.toList.set j { e with key := kv h k, val := ni s })[i]).key = (es.toList[i]'(by simpa using hi)).key := by
        intro i hi
        rw [List.getElem_set]
        split
        · rename_i q
          subst q
          rw [(List.getElem?_eq_some_iff.1 e2).2, e3]
        · rfl
      intro i i' hi hi' hlt
      rw [ky i hi, ky i' hi']
      exact pw i i' _ _ hlt
    · intro h' k' s' hf'
      rw [hlist]
      by_cases hq : h' = h ∧ k' = k
      · obtain ⟨rfl, rfl⟩ := hq
        rw [puti, if_pos ⟨rfl, rfl⟩]
        refine ⟨fun hs => ?_, ?_⟩
        · injection hs with hs
          subst hs
          exact ⟨_, (who _).2 (.inl rfl), rfl, rfl⟩
        · rintro ⟨x, hx, ex, ey⟩
          rcases (who x).1 hx with rfl | ⟨_, hk⟩
          · rw [ni_inj ey]
          · exact absurd ex hk
      · rw [puti, if_neg hq, g4 h' k' s' hf']
        constructor
        · rintro ⟨x, hx, ex, ey⟩
          refine ⟨x, (who x).2 (.inr ⟨hx, fun q => hq ?_⟩), ex, ey⟩
          obtain ⟨q1, q2⟩ := kv_inj (ex.symm.trans q)
          exact ⟨q1, q2⟩
        · rintro ⟨x, hx, ex, ey⟩
          rcases (who x).1 hx with rfl | ⟨hx, _⟩
          · obtain ⟨q1, q2⟩ := kv_inj ex
            exact absurd ⟨q1.symm, q2.symm⟩ hq
          · exact ⟨x, hx, ex, ey⟩
end Go.Proofs.YtdocjikpcbmcgaaGreatDoor
namespace Go.Proofs.YtdocjikpcbmcgaaGreatDoor
open Go.RowKit
attribute [local go_sem ↓] Go.wp_at_zero Go.wp_at_succ
def Cm (w : World) (mo : Option Nat) (M : Nat → Nat → Option Nat) : Prop :=
  (∃ b, mo = some b ∧ Mi w b (fun h k => if 0 ≤ h then M h.toNat k else none)) ∨ (mo = none ∧ ∀ h k, M h k = none)
theorem Cm.next {w W : World} {mo : Option Nat} {M : Nat → Nat → Option Nat} (h : Cm w mo M) (hb : Below w.heap.size w W) : Cm W mo M := by
  rcases h with ⟨b, e, hm⟩ | ⟨e, hm⟩
  · exact .inl ⟨b, e, hm.same (hb.block b hm.lt)⟩
  · exact .inr ⟨e, hm⟩
set_option maxRecDepth 100000 in
theorem Cm.look {w : World} {mo : Option Nat} {M : Nat → Nat → Option Nat} (hm : Cm w mo M) {h k : Nat} (hh : h ≤ 40) (hk : k < 18446744073709551616) :
    (Instr.lookup 67 (.map mo) (.agg #[.int .i64 (h : Int), .int .u64 (k : Int)]) true).run Tryz.prog w = .ok (.tuple #[.int .i64 (((M h k).getD 0 : Nat) : Int), .bool (M h k).isSome]) w := by
  have hf : Fitb (h : Int) k := ⟨⟨by omega, by omega⟩, hk⟩
  rcases hm with ⟨b, rfl, hm⟩ | ⟨rfl, hm⟩
  · have := hm.look hf true
    simp only [Int.natCast_nonneg, if_true, Int.toNat_natCast] at this
    exact this
  · obtain ⟨l, hl⟩ := kv_key hf
    rw [hm h k]
    have h1 := Tryz.keyed.check w true hl
    unfold kv at h1
    simp [Instr.lookup, run_underlying Tryz.underlying67, h1, Result.andThen]
    rfl
abbrev lsV (k : Int) (la : Option Addr) (n lc : Nat) (mo : Option Nat) : Value := .agg #[.int .i64 k, .slice la n lc, .map mo]
def lsE (c : Nat) (L : List ByteArray) (M : Nat → Nat → Option Nat) (h i : Nat) : Value := if (M h i).isSome then ba (nd c L h i) else if 0 < h then .nilIface else wo (leafT (L.getD i ByteArray.empty))
theorem two_box (w : World) (a b c : Value) (T : Nat) (h i : Int) : ∃ W, (w.alloc (.cells #[a, b, c] T)).alloc (.cells #[.int .i64 h, .int .u64 i] 83) = W ∧ Below w.heap.size w W ∧
    (W.cell? ⟨w.heap.size, 0, none⟩ = some a ∧ W.cell? ⟨w.heap.size, 1, none⟩ = some b ∧ W.cell? ⟨w.heap.size, 2, none⟩ = some c) ∧ (W.cell? ⟨w.heap.size + 1, 0, none⟩ = some (.int .i64 h) ∧ W.cell? ⟨w.heap.size + 1, 1, none⟩ = some (.int .u64 i)) ∧ W.heap.size = w.heap.size + 2 := by
  have h1 : (w.alloc (.cells #[a, b, c] T)).heap[w.heap.size]? = some (.cells #[a, b, c] T (0, 0)) := heap_alloc_new w _
  have h2 : ((w.alloc (.cells #[a, b, c] T)).alloc (.cells #[.int .i64 h, .int .u64 i] 83)).heap[w.heap.size]? = some (.cells #[a, b, c] T (0, 0)) := ((bal (Below.refl _ (w.alloc (.cells #[a, b, c] T))) _).block _ (by rw [World.size_alloc]; omega)).trans h1
  have h3 := heap_alloc_new (w.alloc (.cells #[a, b, c] T)) (.cells #[.int .i64 h, .int .u64 i] 83)
  rw [World.size_alloc] at h3
  refine ⟨_, rfl, bal (bal (Below.refl _ _) _) _, ⟨?_, ?_, ?_⟩, ⟨?_, ?_⟩, by rw [World.size_alloc, World.size_alloc]⟩
  · rw [cell_of_row _ w.heap.size 0 _ _ (0, 0) h2]; rfl
  · rw [cell_of_row _ w.heap.size 1 _ _ (0, 0) h2]; rfl
  · rw [cell_of_row _ w.heap.size 2 _ _ (0, 0) h2]; rfl
  · rw [cell_of_row _ (w.heap.size + 1) 0 _ _ (0, 0) h3]; rfl
  · rw [cell_of_row _ (w.heap.size + 1) 1 _ _ (0, 0) h3]; rfl
set_option maxRecDepth 100000 in
set_option maxHeartbeats 1000000 in
theorem lend_any (w : World) (ht : Tb w) (k : Int) (la : Option Addr) (lb lo lc : Nat) (L : List ByteArray) (hr : RdS w la lb lo L.length L) (hsz : ∀ s ∈ L, s.size ≤ 140737488351232) (hm : L.length ≤ 1099511627776) (mo : Option Nat) (M : Nat → Nat → Option Nat) (hM : Cm w mo M) (h i : Nat) (hh : h ≤ 40) (hi : (i + 1) * 2 ^ h ≤ L.length) (r : Value) (hq : lsE (clk k) L M h i = r) :
    Calls Tryz.prog 214 #[lsV k la L.length lc mo, .agg #[.int .i64 (h : Int), .int .u64 (i : Int)]] w fun e w' => e = .returned r ∧ Below w.heap.size w w' := by
  have hi64 : i < 18446744073709551616 := by
    have := Nat.mul_le_mul_left (i + 1) (Nat.one_le_two_pow (n := h)); omega
  obtain ⟨W0, hW0, hb0, ⟨c0, c1, c2⟩, ⟨d0, d1⟩, hz⟩ := two_box w (.int .i64 k) (.slice la L.length lc) (.map mo) 69 (h : Int) (i : Int)
  have hlk := (hM.next hb0).look hh hi64
  have hr0 := hr.next hb0 (Nat.le_refl _)
  cases e : M h i with
  | some j =>
    obtain rfl : ba (nd (clk k) L h i) = r := by rw [← hq, lsE, e]; rfl
    rw [e] at hlk
    simp only [Option.getD_some, Option.isSome_some] at hlk
    have HTr := tree_yes W0 (ht.next hb0) k la lb lo L.length lc L hr0 hsz (by omega) h i hh hi _ rfl
    generalize nd (clk k) L h i = d at HTr
    clear hr hsz hm hM hh hi hq e ht hi64 hr0
    go_enter Tryz.func214, Tryz.ntmps214
    go_upto_region 1 with (fail)
    try rw [hW0]
    clear hW0 hz
    go_wp2_with (go_at_call 215; with_reducible refine HTr.mono ?_; rintro e w1 ⟨rfl, hb1⟩)
    go_ret
    exact ⟨rfl, bnext hb0 hb1⟩
  | none =>
    rw [e] at hlk
    simp only [Option.getD_none, Option.isSome_none] at hlk
    by_cases h0 : 0 < h
    · obtain rfl : Value.nilIface = r := by rw [← hq, lsE, e]; simp [h0]
      have hz0 : (0 : Int) < (h : Int) := by omega
      clear hr hsz hm hM hh hi hq e ht hi64 hr0 h0
      go_enter Tryz.func214, Tryz.ntmps214
      go_upto_region 1 with (fail)
      try rw [hW0]
      clear hW0 hz
      go_wp2
      go_ret
      exact ⟨rfl, hb0⟩
    · obtain rfl : h = 0 := by omega
      obtain rfl : wo (leafT (L.getD i ByteArray.empty)) = r := by rw [← hq, lsE, e]; simp
      rw [Nat.pow_zero, Nat.mul_one] at hi
      obtain rfl := hr.ptr (by omega)
      have ci := hr0.at (k := i) (by omega)
      have hsi := hsz _ (getD_mem (show i < L.length by omega))
      obtain ⟨x, hx⟩ : ∃ x, L.getD i ByteArray.empty = x := ⟨_, rfl⟩
      rw [hx] at ci hsi ⊢
      have HLf := leaft_any W0 x (by omega)
      have z0 : (0 : Int) ≤ (i : Int) := Int.natCast_nonneg _
      have z1 : (i : Int) < (L.length : Int) := by omega
      have z2 : (L.length : Int) ≤ 1099511627776 := by omega
      rw [show ((0 : Nat) : Int) = 0 from rfl] at hW0 d0 hlk ⊢
      clear hr hsz hM hq e ht hi64 hr0 h0 hx hsi hm hi hh
      go_enter Tryz.func214, Tryz.ntmps214
      go_upto_region 1 with (fail)
      try rw [hW0]
      clear hW0 hz
      go_wp2_with (go_at_call 164; with_reducible refine HLf.mono ?_; rintro e w1 ⟨rfl, hb1⟩)
      go_ret
      exact ⟨rfl, bnext hb0 hb1⟩
end Go.Proofs.YtdocjikpcbmcgaaGreatDoor
namespace Go.Proofs.YtdocjikpcbmcgaaGreatDoor
open Go.RowKit
attribute [local go_sem ↓] Go.wp_at_zero Go.wp_at_succ
set_option maxRecDepth 100000 in
theorem nan_any (w : World) (a : Nat) : Calls Tryz.prog 220 #[.int .u64 (a : Int)] w fun e w' => e = .returned (.bool false) ∧ w = w' := by
  go_enter Tryz.func220, Tryz.ntmps220
  go_wp2
  go_ret
  exact ⟨rfl, rfl⟩
def cmpE (a b : Nat) : Int := if a < b then -1 else if b < a then 1 else 0
set_option maxRecDepth 100000 in
theorem compare_any (w : World) (a b : Nat) : Calls Tryz.prog 219 #[.int .u64 (a : Int), .int .u64 (b : Int)] w fun e w' => e = .returned (.int .i64 (cmpE a b)) ∧ w = w' := by
  have HA : Hid (∀ W x, Calls Tryz.prog 220 #[.int .u64 ((x : Nat) : Int)] W fun e w' => e = .returned (.bool false) ∧ W = w') := fun W x => nan_any W x
  unfold cmpE
  by_cases h1 : a < b
  · rw [if_pos h1]
    have z : (a : Int) < (b : Int) := by omega
    clear h1
    go_enter Tryz.func219, Tryz.ntmps219
    go_wp2_with (go_at_call 220; with_reducible refine (HA.out _ _).mono ?_; rintro e w1 ⟨rfl, rfl⟩)
    go_ret
    exact ⟨rfl, rfl⟩
  · rw [if_neg h1]
    have z : ¬ (a : Int) < (b : Int) := by omega
    by_cases h2 : b < a
    · rw [if_pos h2]
      have z2 : (b : Int) < (a : Int) := by omega
      clear h1 h2
      go_enter Tryz.func219, Tryz.ntmps219
      go_wp2_with (go_at_call 220; with_reducible refine (HA.out _ _).mono ?_; rintro e w1 ⟨rfl, rfl⟩)
      go_ret
      exact ⟨rfl, rfl⟩
    · rw [if_neg h2]
      have z2 : ¬ (b : Int) < (a : Int) := by omega
      clear h1 h2
      go_enter Tryz.func219, Tryz.ntmps219
      go_wp2_with (go_at_call 220; with_reducible refine (HA.out _ _).mono ?_; rintro e w1 ⟨rfl, rfl⟩)
      go_ret
      exact ⟨rfl, rfl⟩
set_option maxRecDepth 100000 in
theorem byindex_any (w : World) (a b : Nat) (x : ByteArray) (r : Int) (hr : cmpE a b = r) : Calls Tryz.prog 218 #[.agg #[.int .u64 (a : Int), .string x], .int .u64 (b : Int)] w fun e w' => e = .returned (.int .i64 r) ∧ Below w.heap.size w w' := by
  have HC : Hid (∀ W, Calls Tryz.prog 219 #[.int .u64 (a : Int), .int .u64 (b : Int)] W fun e w' => e = .returned (.int .i64 r) ∧ W = w') := fun W => by subst hr; exact compare_any W a b
  have hb0 := bal (Below.refl w.heap.size w) (.cells #[.int .u64 (a : Int), .string x] 38)
  clear hr
  go_enter Tryz.func218, Tryz.ntmps218
  go_wp2_with (go_at_call 219; with_reducible refine (HC.out _).mono ?_; rintro e w1 ⟨rfl, rfl⟩)
  go_ret
  exact ⟨rfl, hb0⟩
abbrev byV : Value := .func (.func 218) #[] #[]
set_option maxRecDepth 100000 in
set_option maxHeartbeats 2000000 in
theorem search_any (w : World) (ca : Option Addr) (cb co cc : Nat) (l : List (Nat × ByteArray)) (hc : RdK w ca cb co l.length l) (hm : l.length ≤ 8796093022208) (hp : Asc (ixs l)) (i p : Nat) (hpl : p < l.length) (hi : (l.getD p noC).1 = i) :
    Calls Tryz.prog 217 #[.slice ca l.length cc, .int .u64 (i : Int), byV] w fun e w' => e = .returned (.tuple #[.int .i64 (p : Int), .bool true]) ∧ Below w.heap.size w w' := by
  obtain rfl := hc.ptr (by omega)
  have hcmp : ∀ j, j < l.length → (j < p → cmpE (l.getD j noC).1 i = -1) ∧ (p < j → cmpE (l.getD j noC).1 i = 1) ∧ (j = p → cmpE (l.getD j noC).1 i = 0) := fun j hj => by
    have hw := List.pairwise_iff_getElem.1 hp
    have hat : ∀ t (ht : t < l.length), (ixs l)[t]'(by rw [List.length_map]; exact ht) = (l.getD t noC).1 := fun t ht => by
      rw [List.getElem_map, List.getD_eq_getElem?_getD, List.getElem?_eq_getElem ht]; rfl
    refine ⟨fun h => ?_, fun h => ?_, fun h => ?_⟩
    · have := hw j p (by rw [List.length_map]; exact hj) (by rw [List.length_map]; exact hpl) h
      rw [hat j hj, hat p hpl, hi] at this
      rw [cmpE, if_pos this]
    · have := hw p j (by rw [List.length_map]; exact hpl) (by rw [List.length_map]; exact hj) h
      rw [hat j hj, hat p hpl, hi] at this
      rw [cmpE, if_neg (by omega), if_pos this]
    · subst h
      rw [hi, cmpE, if_neg (Nat.lt_irrefl _), if_neg (Nat.lt_irrefl _)]
  have HC : Hid (∀ W j, Below w.heap.size w W → j < l.length → ∃ (a : Nat) (x : ByteArray) (r : Int), (j < p → r = -1) ∧ (p < j → r = 1) ∧ (j = p → r = 0) ∧ W.cell? ⟨cb, co + j * 2, none⟩ = some (.int .u64 (a : Int)) ∧ W.cell? ⟨cb, co + j * 2 + 1, none⟩ = some (.string x) ∧ ∀ V, Calls Tryz.prog 218 #[.agg #[.int .u64 (a : Int), .string x], .int .u64 (i : Int)] V fun e w' => e = .returned (.int .i64 r) ∧ Below V.heap.size V w') := fun W j hb hj => by
    obtain ⟨h1, h2⟩ := (hc.next hb).at hj
    obtain ⟨h3, h4, h5⟩ := hcmp j hj
    exact ⟨_, _, _, h3, h4, h5, h1, h2, fun V => byindex_any V _ i _ _ rfl⟩
  have z5 : (l.length : Int) ≤ 8796093022208 := by omega
  clear hc hp hi hcmp
  go_enter Tryz.func217, Tryz.ntmps217
  go_wp2
  go_loopg [9, 10] l.length (fun g x y wr => ∃ a b : Nat, g = b - a ∧ a ≤ p ∧ p ≤ b ∧ b ≤ l.length ∧ x = .int .i64 (a : Int) ∧ y = .int .i64 (b : Int) ∧ Below w.heap.size w wr)
  case atStart =>
    go_light
    exact ⟨0, l.length, by omega, Nat.zero_le _, by omega, Nat.le_refl _, rfl, rfl, Below.refl _ _⟩
  case round =>
    obtain ⟨a, b, rfl, ha, hb, hbl, rfl, rfl, hbw⟩ := hrel
    by_cases hlt : a < b
    · obtain ⟨m, hmm⟩ : ∃ m, (a + b) / 2 = m := ⟨_, rfl⟩
      have z1 : (a : Int) < (b : Int) := by omega
      obtain ⟨s, hs⟩ : ∃ s, a + b = s := ⟨_, rfl⟩
      have e1 : (a : Int) + (b : Int) = (s : Int) := by omega
      have e2 : (s : Int) / 2 = (m : Int) := by omega
      obtain ⟨q, x, r, r1, r2, r3, c0, c1, HV⟩ := HC.out wr m hbw (by omega)
      have HV := hide HV
      have m0 : (0 : Int) ≤ (m : Int) := Int.natCast_nonneg _
      have m1 : (m : Int) < (l.length : Int) := by omega
      have hmn : m * 2 = m + m := by omega
      clear hmn
      by_cases hmp : m < p
      · obtain rfl := r1 hmp
        have m2 : m + 1 ≤ p := hmp
        have m3 : b - (m + 1) < b - a := by omega
        clear r1 r2 r3 hmm hs hmp
        go_wp2_with (go_at_call 218; with_reducible refine (HV.out _).mono ?_; rintro e w1 ⟨rfl, hb1⟩)
        go_roundg (b - (m + 1))
        case rel =>
          go_light
          exact ⟨m + 1, b, rfl, m2, hb, hbl, by go_num, rfl, bnext hbw hb1⟩
        case measure => go_light; omega
      · have hr0 : ¬ r < 0 := by
          rcases Nat.lt_or_eq_of_le (Nat.le_of_not_lt hmp) with h | h
          · rw [r2 h]; decide
          · rw [r3 h.symm]; decide
        have m2 : p ≤ m := Nat.le_of_not_lt hmp
        have m3 : m - a < b - a := by omega
        have m4 : m ≤ l.length := by omega
        clear r1 r2 r3 hmm hs hmp
        go_wp2_with (go_at_call 218; with_reducible refine (HV.out _).mono ?_; rintro e w1 ⟨rfl, hb1⟩)
        go_roundg (m - a)
        case rel =>
          go_light
          exact ⟨a, m, rfl, ha, m2, m4, rfl, rfl, bnext hbw hb1⟩
        case measure => go_light; omega
    · obtain rfl : a = p := by omega
      obtain rfl : b = a := by omega
      obtain ⟨q, x, r, _, _, r3, c0, c1, HV⟩ := HC.out wr b hbw hpl
      have HV := hide HV
      obtain rfl := r3 rfl
      have z1 : ¬ (b : Int) < (b : Int) := by omega
      have m0 : (0 : Int) ≤ (b : Int) := Int.natCast_nonneg _
      have m1 : (b : Int) < (l.length : Int) := by omega
      clear r3 hlt ha hb hbl
      go_wp2_with (go_at_call 218; with_reducible refine (HV.out _).mono ?_; rintro e w1 ⟨rfl, hb1⟩)
      exact bodyPost_ret (v := .tuple #[.int .i64 (b : Int), .bool true]) (by simp [results, Tryz.results217, go_sem]) rfl ⟨rfl, bnext hbw hb1⟩
abbrev prV' (da : Option Addr) (dn dc : Nat) (ca : Option Addr) (cn cc : Nat) (mo : Option Nat) : Value := .agg #[.slice da dn dc, .slice ca cn cc, .map mo]
def prE (D : List ByteArray) (V : Nat → ByteArray) (M : Nat → Nat → Option Nat) (h i : Nat) : Value := if (M h i).isSome then ba (D.getD ((M h i).getD 0) ByteArray.empty) else if 0 < h then .nilIface else wo (leafT (V i))
set_option maxRecDepth 100000 in
set_option maxHeartbeats 1000000 in
theorem pend_any (w : World) (da : Option Addr) (db dO dc : Nat) (D : List ByteArray) (hr : RdS w da db dO D.length D) (hm : D.length ≤ 8796093022208) (ca : Option Addr) (cb co cc : Nat) (l : List (Nat × ByteArray)) (hc : RdK w ca cb co l.length l) (hcm : l.length ≤ 8796093022208) (hp : Asc (ixs l)) (hv : ∀ x ∈ vls l, x.size < 2305843009213693952) (V : Nat → ByteArray) (mo : Option Nat) (M : Nat → Nat → Option Nat) (hM : Cm w mo M) (h i : Nat) (hh : h ≤ 40) (hi : i < 18446744073709551616) (hj : ∀ j, M h i = some j → j < D.length) (hq : h = 0 → M h i = none → ∃ p, p < l.length ∧ l.getD p noC = (i, V i)) (r : Value) (hr' : prE D V M h i = r) :
    Calls Tryz.prog 216 #[prV' da D.length dc ca l.length cc mo, .agg #[.int .i64 (h : Int), .int .u64 (i : Int)]] w fun e w' => e = .returned r ∧ Below w.heap.size w w' := by
  obtain ⟨W0, hW0, hb0, ⟨c0, c1, c2⟩, ⟨d0, d1⟩, hz⟩ := two_box w (.slice da D.length dc) (.slice ca l.length cc) (.map mo) 107 (h : Int) (i : Int)
  have hlk := (hM.next hb0).look hh hi
  have hr0 := hr.next hb0 (Nat.le_refl _)
  cases e : M h i with
  | some j =>
    have hjl := hj j e
    obtain rfl : ba (D.getD j ByteArray.empty) = r := by rw [← hr', prE, e]; rfl
    rw [e] at hlk
    simp only [Option.getD_some, Option.isSome_some] at hlk
    obtain rfl := hr.ptr (by omega)
    have cj := hr0.at hjl
    generalize D.getD j ByteArray.empty = d at cj
    have z0 : (0 : Int) ≤ (j : Int) := Int.natCast_nonneg _
    have z1 : (j : Int) < (D.length : Int) := by omega
    have z2 : (D.length : Int) ≤ 8796093022208 := by omega
    clear hr hm hc hcm hp hv hM hh hi hj hq hr' e hr0 hjl
    go_enter Tryz.func216, Tryz.ntmps216
    go_upto_region 1 with (fail)
    try rw [hW0]
    clear hW0 hz
    go_wp2
    go_ret
    exact ⟨rfl, hb0⟩
  | none =>
    rw [e] at hlk
    simp only [Option.getD_none, Option.isSome_none] at hlk
    by_cases h0 : 0 < h
    · obtain rfl : Value.nilIface = r := by rw [← hr', prE, e]; simp [h0]
      have hz0 : (0 : Int) < (h : Int) := by omega
      clear hr hm hc hcm hp hv hM hh hi hj hq hr' e hr0 h0
      go_enter Tryz.func216, Tryz.ntmps216
      go_upto_region 1 with (fail)
      try rw [hW0]
      clear hW0 hz
      go_wp2
      go_ret
      exact ⟨rfl, hb0⟩
    · obtain rfl : h = 0 := by omega
      obtain rfl : wo (leafT (V i)) = r := by rw [← hr', prE, e]; simp
      obtain ⟨p, hpl, hpe⟩ := hq rfl e
      have hS := search_any W0 ca cb co cc l (hc.next hb0) hcm hp i p hpl (by rw [hpe])
      obtain rfl := hc.ptr (by omega)
      have HCp : Hid (∀ W, Below w.heap.size w W → W.cell? ⟨cb, co + p * 2 + 1, none⟩ = some (.string (V i))) := fun W hb => by
        have := ((hc.next hb).at hpl).2
        rw [hpe] at this; exact this
      have hxs : (V i).size < 2305843009213693952 := by
        refine hv _ (List.mem_map.2 ⟨(i, V i), ?_, rfl⟩)
        rw [← hpe, List.getD_eq_getElem?_getD, List.getElem?_eq_getElem hpl]; exact List.getElem_mem _
      generalize V i = x at *
      have HLf : Hid (∀ W, Calls Tryz.prog 164 #[.string x] W fun e w' => e = .returned (.string (leafT x)) ∧ Below W.heap.size W w') := fun W => leaft_any W x hxs
      have HB : Hid (∀ W, Below W0.heap.size W0 W → W.cell? ⟨w.heap.size, 1, none⟩ = some (.slice (some ⟨cb, co, none⟩) l.length cc)) := fun W hb => (World.cell?_of_block (hb.block w.heap.size (by omega))).trans c1
      have z0 : (0 : Int) ≤ (p : Int) := Int.natCast_nonneg _
      have z1 : (p : Int) < (l.length : Int) := by omega
      have z2 : (l.length : Int) ≤ 8796093022208 := by omega
      rw [show ((0 : Nat) : Int) = 0 from rfl] at hW0 d0 hlk ⊢
      clear hr hm hc hcm hp hv hM hh hi hj hq hr' e hr0 h0 hpe hxs
      go_enter Tryz.func216, Tryz.ntmps216
      go_upto_region 1 with (fail)
      try rw [hW0]
      clear hW0 hz
      go_wp2_with (first
        | (go_at_call 217; with_reducible refine hS.mono ?_; rintro e w1 ⟨rfl, hb1⟩; have k1 := HB.out _ hb1; have k2 := HCp.out _ (bnext hb0 hb1))
        | (go_at_call 164; with_reducible refine (HLf.out _).mono ?_; rintro e w2 ⟨rfl, hb2⟩))
      go_ret
      exact ⟨rfl, bnext (bnext hb0 hb1) hb2⟩
end Go.Proofs.YtdocjikpcbmcgaaGreatDoor
