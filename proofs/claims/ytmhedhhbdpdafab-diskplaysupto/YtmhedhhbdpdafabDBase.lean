/-
  Worlds that grow, lists of changes, maps by texts. Own work.
-/
import Derived.Test.YtmhedhhbdpdafabProg
import Derived.WalkKit
import Derived.WalkSpells
import Derived.Outline
import Derived.KernelRfl
import Derived.Maps.Keyed
import Derived.Maps.OwnSet
import Derived.Maps.RangeWalk
import Derived.Sort.KeysCollected
import Derived.Deep.Draws
import Derived.StringKeys
namespace Go.Proofs.Ytmhedhhbdpdafab
open Go.RowKit
theorem bnext {w W w2 : World} (h : Below w.heap.size w W) (h2 : Below W.heap.size W w2) : Below w.heap.size w w2 := h.trans (h2.mono h.size)
theorem bal {w W : World} (h : Below w.heap.size w W) (o : Obj) : Below w.heap.size w (W.alloc o) := h.alloc h.size o
theorem below_drewN {B : Nat} {a w : World} (h : Below B a w) (n : Nat) : Below B a (w.drewN n) := ⟨h.os, h.tape, h.output, h.size, h.block⟩
/-- Nothing but blocks of S has changed; there may be new ones. -/
structure Upo (S : Nat → Prop) (w w' : World) : Prop where
  os : w'.os = w.os
  tape : w'.tape = w.tape
  output : w'.output = w.output
  size : w.heap.size ≤ w'.heap.size
  block : ∀ b, b < w.heap.size → ¬ S b → w'.heap[b]? = w.heap[b]?
section
variable {S T : Nat → Prop} {w w' w1 w2 : World}
theorem Upo.refl (S : Nat → Prop) (w : World) : Upo S w w := ⟨rfl, rfl, rfl, Nat.le_refl _, fun _ _ _ => rfl⟩
theorem Upo.of (h : Below w.heap.size w w') : Upo S w w' := ⟨h.os, h.tape, h.output, h.size, fun b hb _ => h.block b hb⟩
theorem Upo.trans (h : Upo S w w1) (h2 : Upo T w1 w2) (hT : ∀ b, b < w.heap.size → T b → S b) : Upo S w w2 :=
  ⟨h2.os.trans h.os, h2.tape.trans h.tape, h2.output.trans h.output, Nat.le_trans h.size h2.size, fun b hb hs => (h2.block b (Nat.lt_of_lt_of_le hb h.size) fun ht => hs (hT b hb ht)).trans (h.block b hb hs)⟩
theorem Upo.mono (h : Upo S w w1) (hT : ∀ b, b < w.heap.size → S b → T b) : Upo T w w1 := ⟨h.os, h.tape, h.output, h.size, fun b hb hs => h.block b hb fun q => hs (hT b hb q)⟩
theorem Upo.next (h : Upo S w w1) (h2 : Below w1.heap.size w1 w2) : Upo S w w2 := h.trans (Upo.of (S := S) h2) fun _ _ q => q
theorem Upo.below (h : Upo S w w') {B : Nat} (hB : B ≤ w.heap.size) (hS : ∀ b, S b → B ≤ b) : Below B w w' :=
  ⟨h.os, h.tape, h.output, h.size, fun b hb => h.block b (by omega) fun hs => by have := hS b hs; omega⟩
theorem Upo.grown {o : Option Nat} (h : w.grownBy w' o) (hS : ∀ b, o = some b → S b) : Upo S w w' :=
  ⟨h.os, h.tape, h.output, h.size, fun b hb hs => h.block b hb fun e => hs (hS b e.symm)⟩
theorem Upo.set (h : Upo S w w') (b i : Nat) (v : Value) (hb : S b ∨ w.heap.size ≤ b) : Upo S w (w'.setCell ⟨b, i, none⟩ v) := by
  refine ⟨h.os, h.tape, h.output, by simpa using h.size, fun c hc hs => ?_⟩
  rw [← h.block c hc hs]
  exact Below.heap_setCell _ _ _ _ (by show c ≠ b; rintro rfl; rcases hb with hb | hb; exact hs hb; omega)
theorem Upo.alloc (h : Upo S w w') (o : Obj) : Upo S w (w'.alloc o) := h.next (bal (Below.refl _ _) o)
theorem Upo.drew (h : Upo S w w') : Upo S w w'.drew := ⟨h.os, h.tape, h.output, h.size, h.block⟩
end
theorem new1 (w : World) (o : Obj) : (w.alloc o).heap[w.heap.size]? = some o := (MapKept.heap_alloc w o).1
theorem new0 (w : World) (o p : Obj) : ((w.alloc o).alloc p).heap[w.heap.size]? = some o := ((MapKept.heap_alloc (w.alloc o) p).2 _ (by simp)).trans (new1 w o)
theorem new2 (w : World) (o p : Obj) : ((w.alloc o).alloc p).heap[w.heap.size + 1]? = some p := by
  have := new1 (w.alloc o) p
  simpa using this
/-- Three cells of a block are stored. -/
theorem set3_at {W : World} {q : Nat} {x0 x1 x2 : Value} {T : TypeId} (h : W.heap[q]? = some (.cells #[x0, x1, x2] T (0, 0))) (a b c : Value) :
    (((W.setCell ⟨q, 0, none⟩ a).setCell ⟨q, 1, none⟩ b).setCell ⟨q, 2, none⟩ c).heap[q]? = some (.cells #[a, b, c] T (0, 0)) := by
  have h1 : (W.setCell ⟨q, 0, none⟩ a).heap[q]? = some (.cells #[a, x1, x2] T (0, 0)) := heap_setCell_same W q 0 _ _ a h
  have h2 : ((W.setCell ⟨q, 0, none⟩ a).setCell ⟨q, 1, none⟩ b).heap[q]? = some (.cells #[a, b, x2] T (0, 0)) := heap_setCell_same _ q 1 _ _ b h1
  exact heap_setCell_same _ q 2 _ _ c h2
theorem three_at {W : World} {q : Nat} {a b c : Value} {T : TypeId} (h : W.heap[q]? = some (.cells #[a, b, c] T (0, 0))) : W.cell? ⟨q, 0, none⟩ = some a ∧ W.cell? ⟨q, 1, none⟩ = some b ∧ W.cell? ⟨q, 2, none⟩ = some c :=
  ⟨by rw [cell_of_row W q 0 _ _ (0, 0) h]; rfl, by rw [cell_of_row W q 1 _ _ (0, 0) h]; rfl, by rw [cell_of_row W q 2 _ _ (0, 0) h]; rfl⟩
/-- The values of a map, as they stand. -/
def hv (v : Value) : Option (DataW Value × List MemPlace) := some (.held v, [])
theorem Try.keyS : Maps.Keyed Try.prog 9 := Maps.string_keyed Try.underlying9
theorem keyS {s : ByteArray} (hs : s.size ≤ maxLen) : keyOf Try.prog 9 (.string s) = some (.string s.data.toList) := WideMaps.keyOf_string_mk Try.underlying9 hs
/-- A map by texts: what stands at each. -/
def Mv (w : World) (m : Nat) (F : List UInt8 → Option Value) : Prop :=
  ∃ D : DataW Value, w.ownsMap Try.prog 9 hv m (Maps.size D) D ∧ ∀ s, (F s = none → Maps.has D (.string s) = false) ∧ ∀ v, F s = some v → ∀ z, D.atKey (.string s) z = .held v
section
variable {w W : World} {m : Nat} {F G : List UInt8 → Option Value}
theorem Mv.lt (h : Mv w m F) : m < w.heap.size := by
  obtain ⟨D, h1, _⟩ := h
  exact h1.lt
theorem Mv.same (h : Mv w m F) (hb : W.heap[m]? = w.heap[m]?) : Mv W m F := by
  obtain ⟨D, ⟨es, c, h1, h2⟩, h3⟩ := h
  exact ⟨D, ⟨es, c, hb.trans h1, h2⟩, h3⟩
theorem mv_new (w : World) : Mv (w.alloc (.map #[] 0)) w.heap.size (fun _ => none) :=
  ⟨.map [], World.ownsMap_made _ _ _ _, fun s => ⟨fun _ => rfl, fun v h => by cases h⟩⟩
theorem Mv.has (h : Mv w m F) : ∃ D : DataW Value, w.ownsMap Try.prog 9 hv m (Maps.size D) D ∧ (∀ s, Maps.has D (.string s) = (F s).isSome) ∧ ∀ s v, F s = some v → ∀ z, D.atKey (.string s) z = .held v := by
  obtain ⟨D, h1, h2⟩ := h
  refine ⟨D, h1, fun s => ?_, fun s => (h2 s).2⟩
  cases e : F s with
  | none => exact (h2 s).1 e
  | some v => exact Maps.has_true_of_atKey ((h2 s).2 v e)
theorem mv_of {D : DataW Value} {n : Nat} (h : w.ownsMap Try.prog 9 hv m n D) (h2 : ∀ s, (F s = none → Maps.has D (.string s) = false) ∧ ∀ v, F s = some v → ∀ z, D.atKey (.string s) z = .held v) : Mv w m F := by
  obtain ⟨es, c, g1, g2, g3, rfl⟩ := h
  refine ⟨_, ⟨es, c, g1, g2, ?_, rfl⟩, h2⟩
  simp only [Maps.size, length_read]
  exact Nat.le_refl _
/-- What is looked up. -/
theorem Mv.look (h : Mv w m F) {t e : TypeId} (ht : Try.prog.underlying t = some (.map 9 e)) {z : Value} (hz : (zeroValue e).run Try.prog w = .ok z w) {s : ByteArray} (hs : s.size ≤ maxLen) :
    (Instr.lookup t (.map (some m)) (.string s) false).run Try.prog w = .ok ((F s.data.toList).getD z) w := by
  obtain ⟨D, h1, h2⟩ := h
  obtain ⟨v, ps, hr, hv'⟩ := h1.lookup Try.keyS ht hz (zd := .held z) (zp := []) rfl (keyS hs)
  rw [hr]
  simp only [hv, Option.some.injEq, Prod.mk.injEq] at hv'
  cases e1 : F s.data.toList with
  | none =>
    rw [Maps.atKey_of_not_has ((h2 _).1 e1)] at hv'
    have e2 : v = z := by injection hv'.1
    rw [e2, Option.getD_none]
  | some u =>
    rw [(h2 _).2 u e1] at hv'
    have e2 : v = u := by injection hv'.1
    rw [e2, Option.getD_some]
theorem Mv.look_ok (h : Mv w m F) {t e : TypeId} (ht : Try.prog.underlying t = some (.map 9 e)) {z : Value} (hz : (zeroValue e).run Try.prog w = .ok z w) {s : ByteArray} (hs : s.size ≤ maxLen) :
    (Instr.lookup t (.map (some m)) (.string s) true).run Try.prog w = .ok (.tuple #[(F s.data.toList).getD z, .bool (F s.data.toList).isSome]) w := by
  obtain ⟨D, h1, h3, h2⟩ := h.has
  obtain ⟨v, ps, hr, hv'⟩ := h1.look_ok Try.keyS ht hz (zd := .held z) (zp := []) rfl (keyS hs)
  rw [hr, h3]
  simp only [hv, Option.some.injEq, Prod.mk.injEq] at hv'
  cases e1 : F s.data.toList with
  | none =>
    have e2 := h3 s.data.toList
    rw [e1] at e2
    rw [Maps.atKey_of_not_has e2] at hv'
    have e2 : v = z := by injection hv'.1
    rw [e2, Option.getD_none, Option.isSome_none]
  | some u =>
    rw [h2 _ u e1] at hv'
    have e2 : v = u := by injection hv'.1
    rw [e2, Option.getD_some]
/-- Another value at a text; none. -/
def updF (F : List UInt8 → Option Value) (s : List UInt8) (o : Option Value) : List UInt8 → Option Value := fun t => if t = s then o else F t
/-- The names. -/
theorem Mv.perm (h : Mv w m F) {N : List (List UInt8)} (hn : N.Nodup) (hN : ∀ s, s ∈ N ↔ (F s).isSome = true) : ∃ D : DataW Value, w.ownsMap Try.prog 9 hv m N.length D ∧ Maps.size D = N.length ∧ N.Perm (strKeys D) := by
  obtain ⟨D, h1, h3, h2⟩ := h.has
  obtain ⟨es, rfl, hpw, _⟩ := h1.entries Try.keyS
  obtain ⟨es', hD', hko⟩ := h1.keysOf
  obtain rfl : es = es' := by simpa using hD'
  have hp := perm_strKeys hpw (fun p hp => by obtain ⟨v, hv⟩ := hko p hp; obtain ⟨x, _, hx, _⟩ := Maps.keyOf_str Try.underlying9 hv; exact ⟨x, hx⟩) hn (fun x => by rw [hN, h3])
  have hl : N.length = Maps.size (.map es : DataW Value) := by rw [hp.length_eq]; simp [strKeys, Maps.size]
  exact ⟨_, by rw [hl]; exact h1, hl.symm, hp⟩
/-- What is written. -/
theorem Mv.write (h : Mv w m F) {t e : TypeId} (ht : Try.prog.underlying t = some (.map 9 e)) {N : List (List UInt8)} (hn : N.Nodup) (hN : ∀ s, s ∈ N ↔ (F s).isSome = true) (hl : N.length < maxLen) {s : ByteArray} (hs : s.size ≤ maxLen) (v : Value) :
    ∃ w', (Instr.mapUpdate t (.map (some m)) (.string s) v).run Try.prog w = .ok () w' ∧ Mv w' m (updF F s.data.toList (some v)) ∧ w.grownBy w' (some m) := by
  obtain ⟨D0, _, e0, hp⟩ := h.perm hn hN
  obtain ⟨D, h1, h3, h2⟩ := h.has
  have hz : Maps.size D < maxLen := by
    obtain ⟨es, hD, hpw, _⟩ := h1.entries Try.keyS
    obtain ⟨es', hD', hko⟩ := h1.keysOf
    obtain rfl : es = es' := by rw [hD] at hD'; simpa using hD'
    subst hD
    have hp := perm_strKeys hpw (fun p hp => by obtain ⟨v, hv⟩ := hko p hp; obtain ⟨x, _, hx, _⟩ := Maps.keyOf_str Try.underlying9 hv; exact ⟨x, hx⟩) hn (fun x => by rw [hN, h3])
    have : Maps.size (.map es : DataW Value) = N.length := by rw [hp.length_eq]; simp [strKeys, Maps.size]
    omega
  obtain ⟨w', hr, g1, g2⟩ := h1.update (val := v) (d := .held v) (ps := []) Try.keyS ht hz (keyS hs) rfl
  refine ⟨w', hr, mv_of g1 fun u => ?_, g2⟩
  by_cases e : u = s.data.toList
  · subst e
    refine ⟨fun q => by simp [updF] at q, fun x hx z => ?_⟩
    simp [updF] at hx
    subst hx
    exact Maps.atKey_put_same h1.isMap (by trivial) _ _
  · have e' : (Lit.string u) ≠ .string s.data.toList := fun q => e (by injection q)
    refine ⟨fun q => ?_, fun x hx z => ?_⟩
    · rw [Maps.has_put_other e', h3]
      simp only [updF, if_neg e] at q
      rw [q]; rfl
    · rw [Maps.atKey_put_other e']
      simp only [updF, if_neg e] at hx
      exact h2 u x hx z
/-- What is taken away. -/
theorem Mv.drop (h : Mv w m F) {t e : TypeId} (ht : Try.prog.underlying t = some (.map 9 e)) {s : ByteArray} (hs : s.size ≤ maxLen) (ty : TypeId) :
    ∃ w', (Builtin.delete_ #[t, 9] ty #[.map (some m), .string s]).run Try.prog w = .ok (.tuple #[]) w' ∧ Mv w' m (updF F s.data.toList none) ∧ w.grownBy w' (some m) := by
  obtain ⟨D, h1, h3, h2⟩ := h.has
  obtain ⟨w', hr, g1, g2⟩ := h1.drop Try.keyS ht (keyS hs) ty
  refine ⟨w', hr, mv_of g1 fun u => ?_, g2.grown⟩
  by_cases e : u = s.data.toList
  · subst e
    refine ⟨fun _ => Maps.has_del_same, fun x hx z => ?_⟩
    simp [updF] at hx
  · have e' : (Lit.string u) ≠ .string s.data.toList := fun q => e (by injection q)
    refine ⟨fun q => ?_, fun x hx z => ?_⟩
    · rw [Maps.has_del_other e', h3]
      simp only [updF, if_neg e] at q
      rw [q]; rfl
    · rw [Maps.atKey_del_other e']
      simp only [updF, if_neg e] at hx
      exact h2 u x hx z
end
end Go.Proofs.Ytmhedhhbdpdafab
