/-
  Own work: KSpec, FMap, FSpec, FWalkA.
-/
import Derived.Test.YtipcenbndhnnhaaGreatDoorProg
import Derived.WalkKit
import Derived.WalkSpells
import Derived.Outline
import Derived.KernelRfl
import Derived.Maps.Keyed
import Derived.DeepKeys4
import Derived.BigQuiet
import Derived.WalkMore
import Derived.Test.YtipcenbndhnnhaaGreatDoorQd10
namespace Go.Proofs.YtipcenbndhnnhaaGreatDoor
open Go.RowKit
open Pl (ones)
def tr : Nat → Nat → Nat
  | 0, _ => 0
  | k + 1, n => if n % 2 = 1 then 0 else tr k (n / 2) + 1
theorem tr_le (k n : Nat) : tr k n ≤ k := by
  induction k generalizing n with
  | zero => exact Nat.le_refl _
  | succ k ih => have := ih (n / 2); simp only [tr]; split <;> omega
theorem tr_step (k n : Nat) (hk : k < 64) : tr (64 - k) (n / 2 ^ k) = if n / 2 ^ k % 2 = 1 then 0 else tr (64 - (k + 1)) (n / 2 ^ (k + 1)) + 1 := by
  rw [show 64 - k = (64 - (k + 1)) + 1 by omega, tr, Pl.div_pow_succ]
theorem mod_two (n h : Nat) : n % 2 ^ (h + 1) = n % 2 + 2 * (n / 2 % 2 ^ h) := by
  rw [Nat.pow_succ, Nat.mul_comm, Nat.mod_mul]
theorem tr_lt : ∀ (F h n : Nat), h ≤ F → (tr F n < h ↔ n % 2 ^ h ≠ 0)
  | F, 0, n, _ => by simp [Nat.mod_one]
  | F + 1, h + 1, n, hh => by
    have ih := tr_lt F h (n / 2) (by omega)
    rw [mod_two]
    simp only [tr]
    by_cases e : n % 2 = 1
    · rw [if_pos e]
      constructor
      · intro _; omega
      · intro _; omega
    · rw [if_neg e]
      constructor
      · intro h1
        have := ih.1 (by omega)
        omega
      · intro h1
        have := ih.2 (by omega)
        omega
def carry (c : Nat) : Nat → Nat → List ByteArray → ByteArray → List ByteArray × List ByteArray
  | 0, _, P, d => ([d], P ++ [d])
  | f + 1, t, P, d =>
    if t % 2 = 1 then
      (d :: (carry c f (t / 2) (P.take (P.length - 1)) (dg c (nodeT (P.getD (P.length - 1) ByteArray.empty) d))).1, (carry c f (t / 2) (P.take (P.length - 1)) (dg c (nodeT (P.getD (P.length - 1) ByteArray.empty) d))).2)
    else ([d], P ++ [d])
def er (k : Int) (n : Nat) (h : Int) (s : ByteArray) : Nat :=
  if (s.size : Int) ≠ k then 90 else if h < 0 ∨ 40 < h ∨ n % 2 ^ h.toNat ≠ 0 then 41 else if 1099511627776 < n + 2 ^ h.toNat then 30 else 0
def mk (c n : Nat) (P : List ByteArray) (h : Nat) (s : ByteArray) : List ByteArray × List ByteArray := carry c (40 - h) (n / 2 ^ h) P s
def an (k : Int) (n : Nat) (P : List ByteArray) (h : Int) (s : ByteArray) : List ByteArray := if er k n h s = 0 then (mk (clk k) n P h.toNat s).1 else []
theorem clk_of {k : Int} (h1 : 1 ≤ k) (h2 : k ≤ 32) : (clk k : Int) = k := by
  unfold clk
  rw [if_neg (by omega), if_neg (by omega)]
  omega
end Go.Proofs.YtipcenbndhnnhaaGreatDoor
namespace Go.Proofs.YtipcenbndhnnhaaGreatDoor
open Go.RowKit
theorem Tryz.laidOut : laidOutB Tryz.prog = true := by kernel_rfl
theorem Tryz.rowB : (94 : TypeId) < Tryz.prog.types.size := of_decide_eq_true (by kernel_rfl)
theorem Tryz.deepB : Tryz.prog.keyTypeAt 2 94 = true := by kernel_rfl
theorem Tryz.keyed : Maps.Keyed Tryz.prog 94 := Maps.Keyed.of_law (deep_law_laid Tryz.laidOut (m := 2) (by omega) Tryz.rowB Tryz.deepB (by rw [Tryz.underlying94]))
def kv (h : Int) (k : Nat) : Value := .agg #[.int .i64 h, .int .u64 (k : Int)]
def nv (s : ByteArray) : Value := .agg #[.string s]
theorem kv_inj {h h' : Int} {k k' : Nat} (e : kv h k = kv h' k') : h = h' ∧ k = k' := by
  have h1 : Value.int .i64 h = Value.int .i64 h' ∧ Value.int .u64 (k : Int) = Value.int .u64 (k' : Int) := by
    unfold kv at e
    injection e with e
    have := congrArg Array.toList e
    injection this with a b
    injection b with b _
    exact ⟨a, b⟩
  obtain ⟨a, b⟩ := h1
  injection a with _ a
  injection b with _ b
  exact ⟨a, by omega⟩
theorem nv_inj {s s' : ByteArray} (e : nv s = nv s') : s = s' := by
  unfold nv at e
  injection e with e
  have := congrArg Array.toList e
  injection this with a _
  injection a
def Fitb (h : Int) (k : Nat) : Prop := (-9223372036854775808 ≤ h ∧ h ≤ 9223372036854775807) ∧ k < 18446744073709551616
theorem keyT : Tryz.prog.keyType 94 = true := by kernel_rfl
theorem cellsB : Tryz.prog.cellsOf 94 = 2 := by kernel_rfl
theorem cells_i : Tryz.prog.cellsOf 3 = 1 := by kernel_rfl
theorem cells_u : Tryz.prog.cellsOf 23 = 1 := by kernel_rfl
theorem typesS : ∃ n, Tryz.prog.types.size + 1 = n + 2 := by
  have h : 0 < Tryz.prog.types.size := Nat.lt_of_le_of_lt (Nat.zero_le _) Tryz.rowB
  generalize Tryz.prog.types.size = z at *
  exact ⟨z - 1, by omega⟩
theorem kv_lits (n : Nat) (h u : Int) (w1 : (Lit.int .i64 h).wf = true) (w2 : (Lit.int .u64 u).wf = true) : Tryz.prog.keyLits (n + 2) 94 [.int .i64 h, .int .u64 u] = some [.int .i64 h, .int .u64 u] := by
  simp [Program.keyLits, Tryz.underlying94, w1, w2, cellsB, cells_i, cells_u, Tryz.underlying3, Tryz.underlying23]
theorem kv_formed (h : Int) (k : Nat) : (kv h k).formed Tryz.prog 94 = true := by
  simp [Value.formed, Tryz.underlying94, cellsB, kv]
theorem kv_key {h : Int} {k : Nat} (hf : Fitb h k) : ∃ l, keyOf Tryz.prog 94 (kv h k) = some l := by
  obtain ⟨n, hn⟩ := typesS
  obtain ⟨h1, h3⟩ := hf
  have e := kv_lits n h k (WalkArith.wf_i64 h1) (WalkArith.wf_u64 ⟨by omega, by omega⟩)
  have e2 : (kv h k).cells.toList = [.int .i64 h, .int .u64 (k : Int)] := rfl
  rw [← hn, ← e2] at e
  unfold keyOf
  rw [Tryz.underlying94]
  simp only [keyT, kv_formed, Bool.and_self, if_true, e, Option.map_some]
  exact ⟨_, rfl⟩
def Mp (w : World) (b : Nat) (f : Int → Nat → Option ByteArray) : Prop :=
  ∃ es clock, w.heap[b]? = some (.map es clock) ∧ (∀ e ∈ es.toList, ∃ h k s, Fitb h k ∧ e.key = kv h k ∧ e.val = nv s) ∧ es.toList.Pairwise (fun x y => x.key ≠ y.key) ∧
    ∀ h k s, Fitb h k → (f h k = some s ↔ ∃ e ∈ es.toList, e.key = kv h k ∧ e.val = nv s)
theorem Mp.lt {w : World} {b : Nat} {f : Int → Nat → Option ByteArray} (h : Mp w b f) : b < w.heap.size := by
  obtain ⟨es, c, h1, _⟩ := h
  exact (Array.getElem?_eq_some_iff.1 h1).1
theorem Mp.same {w W : World} {b : Nat} {f : Int → Nat → Option ByteArray} (h : Mp w b f) (hb : W.heap[b]? = w.heap[b]?) : Mp W b f := by
  obtain ⟨es, c, h1, h2⟩ := h
  exact ⟨es, c, hb.trans h1, h2⟩
theorem mp_new (w : World) : Mp (w.alloc (.map #[] 0)) w.heap.size (fun _ _ => none) := by
  refine ⟨#[], 0, (MapKept.heap_alloc w _).1, ?_, ?_, ?_⟩
  · intro e he; simp at he
  · simp
  · intro h k s _; simp
theorem Mp.find {w : World} {b : Nat} {f : Int → Nat → Option ByteArray} (hm : Mp w b f) {h : Int} {k : Nat} (hf : Fitb h k) :
    ∃ es clock, w.heap[b]? = some (.map es clock) ∧ ((f h k = none ∧ (Instr.findKey 94 (kv h k) es.toList).run Tryz.prog w = .ok none w ∧ ∀ e ∈ es.toList, e.key ≠ kv h k) ∨
      ∃ j e s, f h k = some s ∧ (Instr.findKey 94 (kv h k) es.toList).run Tryz.prog w = .ok (some (j, nv s)) w ∧ es.toList[j]? = some e ∧ e.key = kv h k) := by
  obtain ⟨es, c, h1, h2, h3, h4⟩ := hm
  obtain ⟨l, hl⟩ := kv_key hf
  refine ⟨es, c, h1, ?_⟩
  rcases Tryz.keyed.find w hl es.toList (fun e he => by obtain ⟨h', k', s, hf', e1, _⟩ := h2 e he; rw [e1]; exact kv_key hf') with ⟨r1, r2⟩ | ⟨j, e, r1, r2, r3⟩
  · refine .inl ⟨?_, r1, r2⟩
    cases hx : f h k with
    | none => rfl
    | some s =>
      obtain ⟨e, he, ek, _⟩ := (h4 h k s hf).1 hx
      exact absurd ek (r2 e he)
  · have hm := List.mem_of_getElem? r2
    obtain ⟨h', k', s, hf', e1, e2⟩ := h2 e hm
    rw [e2] at r1
    exact .inr ⟨j, e, s, (h4 h k s hf).2 ⟨e, hm, r3, e2⟩, r1, r2, r3⟩
theorem Mp.look {w : World} {b : Nat} {f : Int → Nat → Option ByteArray} (hm : Mp w b f) {h : Int} {k : Nat} (hf : Fitb h k) (c : Bool) :
    (Instr.lookup 90 (.map (some b)) (kv h k) c).run Tryz.prog w = .ok (if c then .tuple #[nv ((f h k).getD ByteArray.empty), .bool (f h k).isSome] else nv ((f h k).getD ByteArray.empty)) w := by
  obtain ⟨l, hl⟩ := kv_key hf
  obtain ⟨es, cl, h1, ⟨e0, e1, _⟩ | ⟨j, e, s, e0, e1, _⟩⟩ := hm.find hf
  · rw [e0]
    simp [Instr.lookup, run_underlying Tryz.underlying90, MapKept.run_getObj_map h1, Tryz.keyed.check w _ hl, e1, Result.andThen]
    rfl
  · rw [e0]
    simp [Instr.lookup, run_underlying Tryz.underlying90, MapKept.run_getObj_map h1, Tryz.keyed.check w _ hl, e1, Result.andThen]
def put (f : Int → Nat → Option ByteArray) (h : Int) (k : Nat) (s : ByteArray) : Int → Nat → Option ByteArray := fun h' k' => if h' = h ∧ k' = k then some s else f h' k'
theorem Mp.write {w : World} {b : Nat} {f : Int → Nat → Option ByteArray} (hm : Mp w b f) {h : Int} {k : Nat} (hf : Fitb h k) (s : ByteArray) :
    ∃ es clock, (Instr.mapUpdate 90 (.map (some b)) (kv h k) (nv s)).run Tryz.prog w = .ok () (ChangeMaps.setBlock w b (.map es clock)) ∧ Mp (ChangeMaps.setBlock w b (.map es clock)) b (put f h k s) := by
  have hb := hm.lt
  obtain ⟨l, hl⟩ := kv_key hf
  have sz : ∀ o, (ChangeMaps.setBlock w b o).heap[b]? = some o := fun o => by simp [ChangeMaps.setBlock, hb]
  obtain ⟨es, cl, h1, hor⟩ := hm.find hf
  obtain ⟨es', cl', g1, g2, g3, g4⟩ := hm
  rw [h1] at g1
  injection g1 with g1
  injection g1 with g1 g1'
  subst g1 g1'
  rcases hor with ⟨e0, e1, e2⟩ | ⟨j, e, s0, e0, e1, e2, e3⟩
  · refine ⟨es.push ⟨kv h k, nv s, cl⟩, cl + 1, ?_, _, _, sz _, ?_, ?_, ?_⟩
    · simp [Instr.mapUpdate, run_underlying Tryz.underlying90, MapKept.run_getObj_map h1, Tryz.keyed.check w false hl, e1, MapKept.run_setObj_map _ h1, Result.andThen, ChangeMaps.setBlock]
    · intro x hx
      simp only [Array.toList_push, List.mem_append, List.mem_singleton] at hx
      rcases hx with hx | rfl
      · exact g2 x hx
      · exact ⟨h, k, s, hf, rfl, rfl⟩
    · rw [Array.toList_push, List.pairwise_append]
      refine ⟨g3, by simp, fun x hx y hy => ?_⟩
      simp only [List.mem_singleton] at hy
      subst hy
      exact e2 x hx
    · intro h' k' s' hf'
      simp only [put, Array.toList_push, List.mem_append, List.mem_singleton]
      by_cases hq : h' = h ∧ k' = k
      · obtain ⟨rfl, rfl⟩ := hq
        rw [if_pos ⟨rfl, rfl⟩]
        refine ⟨fun hs => ?_, ?_⟩
        · injection hs with hs
          subst hs
          exact ⟨_, .inr rfl, rfl, rfl⟩
        · rintro ⟨x, hx | rfl, ex, ey⟩
          · exact absurd ex (e2 x hx)
          · rw [nv_inj ey]
      · rw [if_neg hq, g4 h' k' s' hf']
        refine ⟨fun ⟨x, hx, r⟩ => ⟨x, .inl hx, r⟩, ?_⟩
        rintro ⟨x, hx | rfl, ex, ey⟩
        · exact ⟨x, hx, ex, ey⟩
        · obtain ⟨q1, q2⟩ := kv_inj ex
          exact absurd ⟨q1.symm, q2.symm⟩ hq
  · have hj : es[j]? = some e := by simpa using e2
    have hlist : (es.modify j (fun e' => { e' with key := kv h k, val := nv s })).toList = es.toList.set j { e with key := kv h k, val := nv s } := by rw [Array.toList_modify, ChangeMaps.modify_eq_set _ _ _ _ e2]
    have hjl : j < es.toList.length := (List.getElem?_eq_some_iff.1 e2).1
    have hne : ∀ i x, es.toList[i]? = some x → i ≠ j → x.key ≠ kv h k := fun i x hx hij => by
      have hil := (List.getElem?_eq_some_iff.1 hx).1
      have pw := List.pairwise_iff_getElem.1 g3
      have ei : es.toList[i] = x := (List.getElem?_eq_some_iff.1 hx).2
      have ej : es.toList[j] = e := (List.getElem?_eq_some_iff.1 e2).2
      rcases Nat.lt_or_gt_of_ne hij with hlt | hlt
      · have := pw i j hil hjl hlt
        rw [ei, ej, e3] at this
        exact this
      · have := pw j i hjl hil hlt
        rw [ei, ej, e3] at this
        exact fun q => this q.symm
    have who : ∀ x, x ∈ es.toList.set j { e with key := kv h k, val := nv s } ↔ x = { e with key := kv h k, val := nv s } ∨ (x ∈ es.toList ∧ x.key ≠ kv h k) := by
      intro x
      constructor
      · intro hx
        obtain ⟨i, hi, ex⟩ := List.getElem_of_mem hx
        rw [List.getElem_set] at ex
        split at ex
        · exact .inl ex.symm
        · rename_i hn
          have hi' : i < es.toList.length := by simpa using hi
          exact .inr ⟨ex ▸ List.getElem_mem hi', hne i x (by rw [List.getElem?_eq_getElem hi', ex]) (fun q => hn q.symm)⟩
      · rintro (rfl | ⟨hx, hk⟩)
        · exact List.mem_iff_getElem.2 ⟨j, by simpa using hjl, by simp⟩
        · obtain ⟨i, hi, ex⟩ := List.getElem_of_mem hx
          refine List.mem_iff_getElem.2 ⟨i, by simpa using hi, ?_⟩
          rw [List.getElem_set_ne]
          · exact ex
          · rintro rfl
            apply hk
            rw [← ex, (List.getElem?_eq_some_iff.1 e2).2, e3]
    refine ⟨es.modify j (fun e' => { e' with key := kv h k, val := nv s }), cl, ?_, _, _, sz _, ?_, ?_, ?_⟩
    · simp [Instr.mapUpdate, run_underlying Tryz.underlying90, MapKept.run_getObj_map h1, Tryz.keyed.check w false hl, e1, hj, e3, Tryz.keyed.stays w hl, MapKept.run_setObj_map _ h1, Result.andThen, ChangeMaps.setBlock]
    · intro x hx
      rw [hlist] at hx
      rcases (who x).1 hx with rfl | ⟨hx, _⟩
      · exact ⟨h, k, s, hf, rfl, rfl⟩
      · exact g2 x hx
    · rw [hlist, List.pairwise_iff_getElem]
      have pw := List.pairwise_iff_getElem.1 g3
      have ky : ∀ i (hi : i < (es.toList.set j { e with key := kv h k, val := nv s }).length), ((es.toList.set j { e with key := kv h k, val := nv s })[i]).key = (es.toList[i]'(by simpa using hi)).key := by
        intro i hi
        rw [List.getElem_set]
        split
        · rename_i q
          subst q
          rw [(List.getElem?_eq_some_iff.1 e2).2, e3]
        · rfl
      intro i i' hi hi' hlt
      rw [ky i hi, ky i' hi']
      exact pw i i' _ _ hlt
    · intro h' k' s' hf'
      rw [hlist]
      by_cases hq : h' = h ∧ k' = k
      · obtain ⟨rfl, rfl⟩ := hq
        rw [put, if_pos ⟨rfl, rfl⟩]
        refine ⟨fun hs => ?_, ?_⟩
        · injection hs with hs
          subst hs
          exact ⟨_, (who _).2 (.inl rfl), rfl, rfl⟩
        · rintro ⟨x, hx, ex, ey⟩
          rcases (who x).1 hx with rfl | ⟨_, hk⟩
          · rw [nv_inj ey]
          · exact absurd ex hk
      · rw [put, if_neg hq, g4 h' k' s' hf']
        constructor
        · rintro ⟨x, hx, ex, ey⟩
          refine ⟨x, (who x).2 (.inr ⟨hx, fun q => hq ?_⟩), ex, ey⟩
          obtain ⟨q1, q2⟩ := kv_inj (ex.symm.trans q)
          exact ⟨q1, q2⟩
        · rintro ⟨x, hx, ex, ey⟩
          rcases (who x).1 hx with rfl | ⟨hx, _⟩
          · obtain ⟨q1, q2⟩ := kv_inj ex
            exact absurd ⟨q1.symm, q2.symm⟩ hq
          · exact ⟨x, hx, ex, ey⟩
end Go.Proofs.YtipcenbndhnnhaaGreatDoor
namespace Go.Proofs.YtipcenbndhnnhaaGreatDoor
open Go.RowKit
open Pl (ones pw)
def ff (c : Nat) (L : List ByteArray) (h : Int) (k : Nat) : Option ByteArray := if 0 ≤ h ∧ (k + 1) * 2 ^ h.toNat ≤ L.length then some (nd c L h.toNat k) else none
def fj (c : Nat) (L : List ByteArray) (x : ByteArray) (j : Nat) (h : Int) (k : Nat) : Option ByteArray := if 0 ≤ h ∧ h ≤ (j : Int) ∧ (k + 1) * 2 ^ h.toNat = L.length + 1 then some (nd c (L ++ [x]) h.toNat k) else ff c L h k
theorem nd_app (c : Nat) (L M : List ByteArray) (h k : Nat) (hk : (k + 1) * 2 ^ h ≤ L.length) : nd c (L ++ M) h k = nd c L h k := by
  refine nd_alike h k k fun t ht => ?_
  rw [List.getD_eq_getElem?_getD, List.getD_eq_getElem?_getD, List.getElem?_append_left]
  rw [Nat.add_mul, Nat.one_mul] at hk
  omega
theorem nd_pre (c : Nat) (L : List ByteArray) (n h k : Nat) (hk : (k + 1) * 2 ^ h ≤ n) (hn : n ≤ L.length) : nd c (L.take n) h k = nd c L h k := by
  have := nd_app c (L.take n) (L.drop n) h k (by rw [List.length_take]; omega)
  rw [List.take_append_drop] at this
  exact this.symm
theorem ff_nat (c : Nat) (L : List ByteArray) (h k : Nat) (hk : (k + 1) * 2 ^ h ≤ L.length) : ff c L (h : Int) k = some (nd c L h k) := by
  rw [ff, if_pos ⟨Int.natCast_nonneg _, by rw [Int.toNat_natCast]; exact hk⟩, Int.toNat_natCast]
theorem ff_no (c : Nat) (L : List ByteArray) (h k : Nat) (hk : ¬ (k + 1) * 2 ^ h ≤ L.length) : ff c L (h : Int) k = none := by
  rw [ff, if_neg]
  rw [Int.toNat_natCast]
  exact fun x => hk x.2
theorem ff_size {c : Nat} (hc : c ≤ 32) {L : List ByteArray} {h : Int} {k : Nat} {s : ByteArray} (e : ff c L h k = some s) : s.size = c := by
  rw [ff] at e
  split at e
  · injection e with e
    rw [← e, nd_size hc]
  · cases e
theorem fj_start (c : Nat) (L : List ByteArray) (x : ByteArray) : put (ff c L) 0 L.length (nd c (L ++ [x]) 0 L.length) = fj c L x 0 := by
  funext h k
  rw [put, fj]
  by_cases e : h = 0 ∧ k = L.length
  · obtain ⟨rfl, rfl⟩ := e
    rw [if_pos ⟨rfl, rfl⟩, if_pos ⟨by decide, by decide, by simp⟩]
    rfl
  · rw [if_neg e, if_neg]
    rintro ⟨h0, h1, h2⟩
    obtain rfl : h = 0 := by simp at h1; omega
    simp at h2
    exact e ⟨rfl, h2⟩
theorem last_at {n j q : Nat} (hq : n = 2 ^ j * q) : n / 2 ^ j = q := by
  rw [hq, Nat.mul_div_cancel_left _ (Nat.two_pow_pos j)]
theorem fj_step (c : Nat) (L : List ByteArray) (x : ByteArray) (j q : Nat) (hq : L.length + 1 = 2 ^ (j + 1) * (q + 1)) : put (fj c L x j) ((j + 1 : Nat) : Int) q (nd c (L ++ [x]) (j + 1) q) = fj c L x (j + 1) := by
  funext h k
  rw [put]
  by_cases e : h = ((j + 1 : Nat) : Int) ∧ k = q
  · obtain ⟨rfl, rfl⟩ := e
    rw [if_pos ⟨rfl, rfl⟩, fj, Int.toNat_natCast, if_pos ⟨by omega, Int.le_refl _, by rw [hq, Nat.mul_comm]⟩]
  · rw [if_neg e, fj, fj]
    by_cases g : 0 ≤ h ∧ h ≤ (j : Int) ∧ (k + 1) * 2 ^ h.toNat = L.length + 1
    · rw [if_pos g, if_pos ⟨g.1, by omega, g.2.2⟩]
    · rw [if_neg g, if_neg]
      rintro ⟨h0, h1, h2⟩
      by_cases hj : h ≤ (j : Int)
      · exact g ⟨h0, hj, h2⟩
      · obtain rfl : h = ((j + 1 : Nat) : Int) := by omega
        rw [Int.toNat_natCast, hq, Nat.mul_comm] at h2
        have := Nat.eq_of_mul_eq_mul_left (Nat.two_pow_pos (j + 1)) h2
        exact e ⟨rfl, by omega⟩
theorem fj_end (c : Nat) (L : List ByteArray) (x : ByteArray) (t : Nat) (hn : L.length < 65536) (ht : tr 64 (L.length + 1) = t) : fj c L x t = ff c (L ++ [x]) := by
  funext h k
  rw [fj, show ff c (L ++ [x]) h k = if 0 ≤ h ∧ (k + 1) * 2 ^ h.toNat ≤ L.length + 1 then some (nd c (L ++ [x]) h.toNat k) else none by rw [ff, List.length_append, List.length_singleton]]
  by_cases h0 : 0 ≤ h
  · obtain ⟨i, rfl⟩ : ∃ i : Nat, h = (i : Int) := ⟨h.toNat, by omega⟩
    rw [Int.toNat_natCast]
    by_cases g : (k + 1) * 2 ^ i ≤ L.length
    · rw [if_neg (by rintro ⟨_, _, e⟩; omega), if_pos ⟨h0, by omega⟩, ff_nat c L i k g, nd_app c L _ i k g]
    · by_cases g2 : (k + 1) * 2 ^ i = L.length + 1
      · have hi : i ≤ 64 := by
          apply Nat.le_of_not_lt
          intro hlt
          have h1 : 2 ^ 64 ≤ 2 ^ i := Nat.pow_le_pow_right (by decide) (by omega)
          have h2 : 2 ^ i ≤ (k + 1) * 2 ^ i := Nat.le_mul_of_pos_left _ (by omega)
          omega
        have := (tr_lt 64 i (L.length + 1) hi).1
        rw [ht, ← g2, Nat.mul_mod_left] at this
        have hit : (i : Int) ≤ (t : Int) := Int.ofNat_le.2 (Nat.le_of_not_lt fun hx => this hx rfl)
        rw [if_pos ⟨h0, hit, g2⟩, if_pos ⟨h0, by omega⟩]
      · rw [if_neg (by rintro ⟨_, _, e⟩; exact g2 e), if_neg (by rintro ⟨_, e⟩; omega), ff_no c L i k g]
  · rw [if_neg (by rintro ⟨e, _⟩; exact h0 e), if_neg (by rintro ⟨e, _⟩; exact h0 e), ff, if_neg (by rintro ⟨e, _⟩; exact h0 e)]
theorem fj_left (c : Nat) (L : List ByteArray) (x : ByteArray) (j q : Nat) (hq : L.length + 1 = 2 ^ (j + 1) * (q + 1)) : fj c L x j (j : Int) (2 * q) = some (nd c (L ++ [x]) j (2 * q)) := by
  have hp := Nat.two_pow_pos j
  rw [Nat.pow_succ, Nat.mul_assoc, Nat.mul_comm] at hq
  have e1 : (2 * q + 1) * 2 ^ j + 2 ^ j = L.length + 1 := by
    rw [hq]
    have : 2 * (q + 1) = 2 * q + 1 + 1 := by omega
    rw [this, Nat.add_mul (2 * q + 1), Nat.one_mul]
  rw [fj, if_neg, ff_nat c L j (2 * q) (by omega), nd_app c L _ j (2 * q) (by omega)]
  rw [Int.toNat_natCast]
  rintro ⟨_, _, e⟩
  omega
def nw (c : Nat) (M : List ByteArray) (t : Nat) : List ByteArray := (List.range (t + 1)).map fun j => nd c M j (M.length / 2 ^ j - 1)
theorem nw_len (c : Nat) (M : List ByteArray) (t : Nat) : (nw c M t).length = t + 1 := by simp [nw]
theorem nw_succ (c : Nat) (M : List ByteArray) (t : Nat) : nw c M (t + 1) = nw c M t ++ [nd c M (t + 1) (M.length / 2 ^ (t + 1) - 1)] := by
  simp [nw, List.range_succ]
theorem nw_zero (c : Nat) (M : List ByteArray) : nw c M 0 = [nd c M 0 (M.length - 1)] := by
  simp [nw, List.range_succ]
theorem tr_div {n t j : Nat} (ht : tr 64 n = t) (hj : j ≤ t) : ∃ q, n = 2 ^ j * q := by
  have h64 := tr_le 64 n
  have h1 := (tr_lt 64 j n (by omega)).2
  have hm : n % 2 ^ j = 0 := by
    apply Classical.byContradiction
    intro h
    have := h1 h
    omega
  exact ⟨n / 2 ^ j, (Nat.mul_div_cancel' (Nat.dvd_of_mod_eq_zero hm)).symm⟩
theorem tr_small {n : Nat} (h1 : 0 < n) (h2 : n ≤ 65536) : tr 64 n ≤ 16 := by
  apply Nat.le_of_not_lt
  intro h
  obtain ⟨q, hq⟩ := tr_div (n := n) (t := tr 64 n) (j := 17) rfl (by omega)
  have : (2 : Nat) ^ 17 = 131072 := by decide
  rw [this] at hq
  omega
theorem dn_peaks (c : Nat) (L : List ByteArray) : ∀ (h lo : Nat), lo = L.length / 2 ^ h * 2 ^ h → (Cv.dnL h lo L.length).map (fun b => nd c L b.1 b.2) = pks c L h ∧ ∀ b ∈ Cv.dnL h lo L.length, (b.2 + 1) * 2 ^ b.1 ≤ L.length
  | 0, lo, _ => ⟨rfl, fun b hb => by cases hb⟩
  | h + 1, lo, hlo => by
    have hp := Nat.two_pow_pos h
    have e2 : 2 ^ (h + 1) = 2 * 2 ^ h := by rw [Nat.pow_succ, Nat.mul_comm]
    have d1 := Nat.div_add_mod L.length (2 ^ h)
    have d2 := Nat.div_add_mod (L.length / 2 ^ h) 2
    have d3 : L.length / 2 ^ (h + 1) = L.length / 2 ^ h / 2 := by rw [Nat.pow_succ, Nat.div_div_eq_div_mul]
    have m1 := Nat.mod_lt L.length hp
    rw [d3, e2] at hlo
    generalize hX : L.length / 2 ^ h = X at *
    have hlo2 : lo = (2 * (X / 2)) * 2 ^ h := by rw [hlo, Nat.mul_comm 2 (X / 2), Nat.mul_assoc]
    have e3 : 2 ^ h * X = X * 2 ^ h := Nat.mul_comm _ _
    rw [Cv.dnL, show pw h = 2 ^ h from rfl]
    by_cases hb : X % 2 = 1
    · have hX2 : X = 2 * (X / 2) + 1 := by omega
      have e4 : X * 2 ^ h = lo + 2 ^ h := by rw [hlo2]; conv => lhs; rw [hX2, Nat.add_mul, Nat.one_mul]
      have hlt : 2 ^ h ≤ L.length - lo := by omega
      have e5 : lo / 2 ^ h = 2 * (X / 2) := by rw [hlo2, Nat.mul_div_cancel _ hp]
      obtain ⟨r1, r2⟩ := dn_peaks c L h (lo + 2 ^ h) (by rw [hX, ← e4])
      rw [if_pos hlt, pks_one (by rw [hX]; exact hb), List.map_cons, r1, e5, hX]
      refine ⟨by rw [show X - 1 = 2 * (X / 2) by omega], fun b hbm => ?_⟩
      rcases List.mem_cons.1 hbm with rfl | hbm
      · show (2 * (X / 2) + 1) * 2 ^ h ≤ _
        rw [← hX2]; omega
      · exact r2 b hbm
    · have hX2 : X = 2 * (X / 2) := by omega
      have e4 : X * 2 ^ h = lo := by rw [hlo2]; conv => lhs; rw [hX2]
      have hlt : ¬ 2 ^ h ≤ L.length - lo := by omega
      obtain ⟨r1, r2⟩ := dn_peaks c L h lo (by rw [hX, ← e4])
      rw [if_neg hlt, pks_none (by rw [hX]; exact hb)]
      exact ⟨r1, r2⟩
theorem cov_peaks (c : Nat) (L : List ByteArray) (n : Nat) (hn : n ≤ L.length) (h40 : n ≤ 2 ^ 40) : (Cv.cov 0 n).map (fun b => nd c L b.1 b.2) = pks c (L.take n) 41 ∧ ∀ b ∈ Cv.cov 0 n, (b.2 + 1) * 2 ^ b.1 ≤ n := by
  have hl : (L.take n).length = n := by rw [List.length_take]; omega
  have hz : 0 = (L.take n).length / 2 ^ 41 * 2 ^ 41 := by rw [hl, Nat.div_eq_of_lt (by omega), Nat.zero_mul]
  obtain ⟨r1, r2⟩ := dn_peaks c (L.take n) 41 0 hz
  rw [hl] at r1 r2
  rw [Cv.cov_zero n h40]
  refine ⟨?_, r2⟩
  rw [← r1]
  refine List.map_congr_left fun b hb => ?_
  exact (nd_pre c L n b.1 b.2 (r2 b hb) hn).symm
end Go.Proofs.YtipcenbndhnnhaaGreatDoor
namespace Go.Proofs.YtipcenbndhnnhaaGreatDoor
open Go.RowKit
attribute [local go_sem ↓] Go.wp_at_zero Go.wp_at_succ
structure Frs (w : World) (m : Nat) (k : Int) (L : List ByteArray) : Prop where
  blk : w.heap[m + 1]? = some (.cells #[.int .i64 k, .int .u64 (L.length : Int), .map (some m)] 92 (0, 0))
  mp : Mp w m (ff (clk k) L)
  k1 : 1 ≤ k
  k2 : k ≤ 32
  hn : L.length ≤ 65536
section
variable {w W : World} {m : Nat} {k : Int} {L : List ByteArray}
theorem Frs.lt (h : Frs w m k L) : m + 1 < w.heap.size := (Array.getElem?_eq_some_iff.1 h.blk).1
theorem Frs.c0 (h : Frs w m k L) : w.cell? ⟨m + 1, 0, none⟩ = some (.int .i64 k) := by rw [cell_of_row w (m + 1) 0 _ _ (0, 0) h.blk]; rfl
theorem Frs.c1 (h : Frs w m k L) : w.cell? ⟨m + 1, 1, none⟩ = some (.int .u64 (L.length : Int)) := by rw [cell_of_row w (m + 1) 1 _ _ (0, 0) h.blk]; rfl
theorem Frs.c2 (h : Frs w m k L) : w.cell? ⟨m + 1, 2, none⟩ = some (.map (some m)) := by rw [cell_of_row w (m + 1) 2 _ _ (0, 0) h.blk]; rfl
theorem Frs.fz (h : Frs w m k L) (j : Nat) : w.frozen? ⟨m + 1, j, none⟩ = false := frozen_of_row w (m + 1) j _ _ h.blk
theorem Frs.same (h : Frs w m k L) (h0 : W.heap[m]? = w.heap[m]?) (h1 : W.heap[m + 1]? = w.heap[m + 1]?) : Frs W m k L := ⟨h1.trans h.blk, h.mp.same h0, h.k1, h.k2, h.hn⟩
theorem Frs.next {B : Nat} (h : Frs w m k L) (hb : Below B w W) (hB : w.heap.size ≤ B) : Frs W m k L :=
  h.same (hb.block m (by have := h.lt; omega)) (hb.block (m + 1) (by have := h.lt; omega))
end
theorem ff_nil (c : Nat) : (fun _ _ => none) = ff c [] := by
  funext h k
  rw [ff, if_neg]
  rintro ⟨_, e⟩
  have := Nat.two_pow_pos h.toNat
  have : 0 < (k + 1) * 2 ^ h.toNat := Nat.mul_pos (by omega) this
  simp at e
  omega
theorem fnew_ok (w : World) (k : Int) (h1 : 1 ≤ k) (h2 : k ≤ 32) :
    Calls Tryz.prog 22 #[.int .i64 k] w fun e w' => e = .returned (.tuple #[.pointer (some ⟨w.heap.size + 1, 0, none⟩), .int .i64 0]) ∧ Frs w' w.heap.size k [] ∧ Below w.heap.size w w' := by
  have HC : Hid (∀ W, Calls Tryz.prog 48 #[.int .i64 k] W fun e w' => e = .returned (.int .i64 0) ∧ W = w') := fun W => by
    have := (check_any W k)
    rw [show chk k = 0 by rw [chk, if_neg (by omega)]] at this
    exact this.mono fun _ _ h => ⟨h.1, h.2.symm⟩
  have hmm := @run_makeMap Tryz.prog
  have HK := hide (And.intro h1 h2)
  clear h1 h2
  go_enter Tryz.func22, Tryz.ntmps22
  go_wp2_with (go_at_call 48; with_reducible refine (HC.out _).mono ?_; rintro e w1 ⟨rfl, rfl⟩)
  go_ret2
  refine ⟨rfl, ⟨?_, ?_, HK.out.1, HK.out.2, by simp⟩, bal (bal (Below.refl _ _) _) _⟩
  · have := heap_alloc_new (w.alloc (.map #[] 0)) (.cells #[.int .i64 k, .int .u64 0, .map (some w.heap.size)] 92)
    simpa using this
  · rw [← ff_nil]
    refine (mp_new w).same ?_
    exact (MapKept.heap_alloc (w.alloc (.map #[] 0)) _).2 w.heap.size (by simp)
theorem fnew_no (w : World) (k : Int) (hk : k < 1 ∨ 32 < k) :
    Calls Tryz.prog 22 #[.int .i64 k] w fun e w' => e = .returned (.tuple #[.pointer none, .int .i64 70]) ∧ Below w.heap.size w w' := by
  have HC : Hid (∀ W, Calls Tryz.prog 48 #[.int .i64 k] W fun e w' => e = .returned (.int .i64 70) ∧ W = w') := fun W => by
    have := (check_any W k)
    rw [show chk k = 70 by rw [chk, if_pos hk]] at this
    exact this.mono fun _ _ h => ⟨h.1, h.2.symm⟩
  clear hk
  go_enter Tryz.func22, Tryz.ntmps22
  go_wp2_with (go_at_call 48; with_reducible refine (HC.out _).mono ?_; rintro e w1 ⟨rfl, rfl⟩)
  go_ret2
  exact ⟨rfl, Below.refl _ _⟩
theorem fsize_any (w : World) (m : Nat) (k : Int) (L : List ByteArray) (hF : Frs w m k L) :
    Calls Tryz.prog 26 #[.pointer (some ⟨m + 1, 0, none⟩)] w fun e w' => e = .returned (.int .u64 (L.length : Int)) ∧ w' = w := by
  have c1 := hF.c1
  clear hF
  go_enter Tryz.func26, Tryz.ntmps26
  go_wp2
  go_ret
  exact ⟨rfl, rfl⟩
theorem fstrength_any (w : World) (m : Nat) (k : Int) (L : List ByteArray) (hF : Frs w m k L) :
    Calls Tryz.prog 29 #[.pointer (some ⟨m + 1, 0, none⟩)] w fun e w' => e = .returned (.int .i64 k) ∧ w' = w := by
  have c0 := hF.c0
  clear hF
  go_enter Tryz.func29, Tryz.ntmps29
  go_wp2
  go_ret
  exact ⟨rfl, rfl⟩
theorem fdigest_any (w : World) (m : Nat) (k : Int) (L : List ByteArray) (hF : Frs w m k L) (h : Int) (b : Nat) (hf : Fitb h b) (s : ByteArray) (ok : Bool) (hs : Hid ((ff (clk k) L h b).getD ByteArray.empty = s ∧ (ff (clk k) L h b).isSome = ok)) :
    Calls Tryz.prog 60 #[.pointer (some ⟨m + 1, 0, none⟩), .agg #[.int .i64 h, .int .u64 (b : Int)]] w fun e w' => e = .returned (.tuple #[.string s, .bool ok]) ∧ Below w.heap.size w w' := by
  have HL : ∀ W : World, W.heap[m]? = w.heap[m]? → (Instr.lookup 90 (.map (some m)) (.agg #[.int .i64 h, .int .u64 (b : Int)]) true).run Tryz.prog W = .ok (.tuple #[.agg #[.string s], .bool ok]) W := fun W hW => by
    have := (hF.mp.same hW).look hf true
    rw [hs.out.1, hs.out.2] at this
    exact this
  have HF : Hid (∀ W, Below w.heap.size w W → W.cell? ⟨m + 1, 2, none⟩ = some (.map (some m)) ∧ (Instr.lookup 90 (.map (some m)) (.agg #[.int .i64 h, .int .u64 (b : Int)]) true).run Tryz.prog W = .ok (.tuple #[.agg #[.string s], .bool ok]) W) := fun W hb =>
    ⟨(hF.next hb (Nat.le_refl _)).c2, HL W (hb.block m (by have := hF.lt; omega))⟩
  clear hF hs hf HL
  go_enter Tryz.func60, Tryz.ntmps60
  go_upto_region 1 with (fail)
  obtain ⟨w1, hw1⟩ : ∃ w1, w.alloc (.cells #[.int .i64 h, .int .u64 (b : Int)] 94) = w1 := ⟨_, rfl⟩
  have k0 : w1.cell? ⟨w.heap.size, 0, none⟩ = some (.int .i64 h) := by rw [← hw1]; simp
  have k1 : w1.cell? ⟨w.heap.size, 1, none⟩ = some (.int .u64 (b : Int)) := by rw [← hw1]; simp
  have hb1 : Below w.heap.size w w1 := by rw [← hw1]; exact bal (Below.refl _ _) _
  have hz : w.heap.size < w1.heap.size := by rw [← hw1]; simp
  obtain ⟨a1, a2⟩ := HF.out w1.drew hb1.drew
  obtain ⟨a3, a4⟩ := HF.out (w1.drew.alloc (.cells #[.string ⟨#[]⟩] 97)) (bal hb1.drew _)
  obtain ⟨a5, a6⟩ := HF.out (w1.alloc (.cells #[.string ⟨#[]⟩] 97)).drew (bal hb1 _).drew
  rw [hw1]
  clear hw1
  go_region
  all_goals
    go_wp2
    go_ret2
    exact ⟨rfl, (bal hb1 _).drew⟩
end Go.Proofs.YtipcenbndhnnhaaGreatDoor
