/-
  Own work: DBase, DSpec, DMem.
-/
import Derived.Test.YthfnpagangjpbabGreatProg
import Derived.WalkKit
import Derived.WalkSpells
import Derived.Outline
import Derived.KernelRfl
import Derived.Maps.Keyed
import Derived.Maps.OwnSet
import Derived.Maps.RangeWalk
import Derived.Sort.KeysCollected
import Derived.Deep.Draws
import Derived.StringKeys
import Derived.Deep.AppendSrc
import Derived.Deep.MidRow
import Derived.Deep.Upon
import Derived.Laws.IdiomStrings
import Derived.Deep.RegionLaw
namespace Go.Proofs.YthfnpagangjpbabGreat
open Go.RowKit
theorem bnext {w W w2 : World} (h : Below w.heap.size w W) (h2 : Below W.heap.size W w2) : Below w.heap.size w w2 := h.trans (h2.mono h.size)
theorem bal {w W : World} (h : Below w.heap.size w W) (o : Obj) : Below w.heap.size w (W.alloc o) := h.alloc h.size o
theorem below_drewN {B : Nat} {a w : World} (h : Below B a w) (n : Nat) : Below B a (w.drewN n) := ⟨h.os, h.tape, h.output, h.size, h.block⟩
structure Upo (S : Nat → Prop) (w w' : World) : Prop where
  os : w'.os = w.os
  tape : w'.tape = w.tape
  output : w'.output = w.output
  size : w.heap.size ≤ w'.heap.size
  block : ∀ b, b < w.heap.size → ¬ S b → w'.heap[b]? = w.heap[b]?
section
variable {S T : Nat → Prop} {w w' w1 w2 : World}
theorem Upo.refl (S : Nat → Prop) (w : World) : Upo S w w := ⟨rfl, rfl, rfl, Nat.le_refl _, fun _ _ _ => rfl⟩
theorem Upo.of (h : Below w.heap.size w w') : Upo S w w' := ⟨h.os, h.tape, h.output, h.size, fun b hb _ => h.block b hb⟩
theorem Upo.trans (h : Upo S w w1) (h2 : Upo T w1 w2) (hT : ∀ b, b < w.heap.size → T b → S b) : Upo S w w2 :=
  ⟨h2.os.trans h.os, h2.tape.trans h.tape, h2.output.trans h.output, Nat.le_trans h.size h2.size, fun b hb hs => (h2.block b (Nat.lt_of_lt_of_le hb h.size) fun ht => hs (hT b hb ht)).trans (h.block b hb hs)⟩
theorem Upo.mono (h : Upo S w w1) (hT : ∀ b, b < w.heap.size → S b → T b) : Upo T w w1 := ⟨h.os, h.tape, h.output, h.size, fun b hb hs => h.block b hb fun q => hs (hT b hb q)⟩
theorem Upo.next (h : Upo S w w1) (h2 : Below w1.heap.size w1 w2) : Upo S w w2 := h.trans (Upo.of (S := S) h2) fun _ _ q => q
theorem Upo.below (h : Upo S w w') {B : Nat} (hB : B ≤ w.heap.size) (hS : ∀ b, S b → B ≤ b) : Below B w w' :=
  ⟨h.os, h.tape, h.output, h.size, fun b hb => h.block b (by omega) fun hs => by have := hS b hs; omega⟩
theorem Upo.grown {o : Option Nat} (h : w.grownBy w' o) (hS : ∀ b, o = some b → S b) : Upo S w w' :=
  ⟨h.os, h.tape, h.output, h.size, fun b hb hs => h.block b hb fun e => hs (hS b e.symm)⟩
theorem Upo.set (h : Upo S w w') (b i : Nat) (v : Value) (hb : S b ∨ w.heap.size ≤ b) : Upo S w (w'.setCell ⟨b, i, none⟩ v) := by
  refine ⟨h.os, h.tape, h.output, by simpa using h.size, fun c hc hs => ?_⟩
  rw [← h.block c hc hs]
  exact Below.heap_setCell _ _ _ _ (by show c ≠ b; rintro rfl; rcases hb with hb | hb; exact hs hb; omega)
theorem Upo.alloc (h : Upo S w w') (o : Obj) : Upo S w (w'.alloc o) := h.next (bal (Below.refl _ _) o)
theorem Upo.drew (h : Upo S w w') : Upo S w w'.drew := ⟨h.os, h.tape, h.output, h.size, h.block⟩
end
theorem new1 (w : World) (o : Obj) : (w.alloc o).heap[w.heap.size]? = some o := (MapKept.heap_alloc w o).1
theorem new0 (w : World) (o p : Obj) : ((w.alloc o).alloc p).heap[w.heap.size]? = some o := ((MapKept.heap_alloc (w.alloc o) p).2 _ (by simp)).trans (new1 w o)
theorem new2 (w : World) (o p : Obj) : ((w.alloc o).alloc p).heap[w.heap.size + 1]? = some p := by
  have := new1 (w.alloc o) p
  simpa using this
theorem set3_at {W : World} {q : Nat} {x0 x1 x2 : Value} {T : TypeId} (h : W.heap[q]? = some (.cells #[x0, x1, x2] T (0, 0))) (a b c : Value) :
    (((W.setCell ⟨q, 0, none⟩ a).setCell ⟨q, 1, none⟩ b).setCell ⟨q, 2, none⟩ c).heap[q]? = some (.cells #[a, b, c] T (0, 0)) := by
  have h1 : (W.setCell ⟨q, 0, none⟩ a).heap[q]? = some (.cells #[a, x1, x2] T (0, 0)) := heap_setCell_same W q 0 _ _ a h
  have h2 : ((W.setCell ⟨q, 0, none⟩ a).setCell ⟨q, 1, none⟩ b).heap[q]? = some (.cells #[a, b, x2] T (0, 0)) := heap_setCell_same _ q 1 _ _ b h1
  exact heap_setCell_same _ q 2 _ _ c h2
theorem three_at {W : World} {q : Nat} {a b c : Value} {T : TypeId} (h : W.heap[q]? = some (.cells #[a, b, c] T (0, 0))) : W.cell? ⟨q, 0, none⟩ = some a ∧ W.cell? ⟨q, 1, none⟩ = some b ∧ W.cell? ⟨q, 2, none⟩ = some c :=
  ⟨by rw [cell_of_row W q 0 _ _ (0, 0) h]; rfl, by rw [cell_of_row W q 1 _ _ (0, 0) h]; rfl, by rw [cell_of_row W q 2 _ _ (0, 0) h]; rfl⟩
def hv (v : Value) : Option (DataW Value × List MemPlace) := some (.held v, [])
theorem Tryz.keyS : Maps.Keyed Tryz.prog 9 := Maps.string_keyed Tryz.underlying9
theorem keyS {s : ByteArray} (hs : s.size ≤ maxLen) : keyOf Tryz.prog 9 (.string s) = some (.string s.data.toList) := WideMaps.keyOf_string_mk Tryz.underlying9 hs
def Mv (w : World) (m : Nat) (F : List UInt8 → Option Value) : Prop :=
  ∃ D : DataW Value, w.ownsMap Tryz.prog 9 hv m (Maps.size D) D ∧ ∀ s, (F s = none → Maps.has D (.string s) = false) ∧ ∀ v, F s = some v → ∀ z, D.atKey (.string s) z = .held v
section
variable {w W : World} {m : Nat} {F G : List UInt8 → Option Value}
theorem Mv.lt (h : Mv w m F) : m < w.heap.size := by
  obtain ⟨D, h1, _⟩ := h
  exact h1.lt
theorem Mv.same (h : Mv w m F) (hb : W.heap[m]? = w.heap[m]?) : Mv W m F := by
  obtain ⟨D, ⟨es, c, h1, h2⟩, h3⟩ := h
  exact ⟨D, ⟨es, c, hb.trans h1, h2⟩, h3⟩
theorem mv_new (w : World) : Mv (w.alloc (.map #[] 0)) w.heap.size (fun _ => none) :=
  ⟨.map [], World.ownsMap_made _ _ _ _, fun s => ⟨fun _ => rfl, fun v h => by cases h⟩⟩
theorem Mv.has (h : Mv w m F) : ∃ D : DataW Value, w.ownsMap Tryz.prog 9 hv m (Maps.size D) D ∧ (∀ s, Maps.has D (.string s) = (F s).isSome) ∧ ∀ s v, F s = some v → ∀ z, D.atKey (.string s) z = .held v := by
  obtain ⟨D, h1, h2⟩ := h
  refine ⟨D, h1, fun s => ?_, fun s => (h2 s).2⟩
  cases e : F s with
  | none => exact (h2 s).1 e
  | some v => exact Maps.has_true_of_atKey ((h2 s).2 v e)
theorem mv_of {D : DataW Value} {n : Nat} (h : w.ownsMap Tryz.prog 9 hv m n D) (h2 : ∀ s, (F s = none → Maps.has D (.string s) = false) ∧ ∀ v, F s = some v → ∀ z, D.atKey (.string s) z = .held v) : Mv w m F := by
  obtain ⟨es, c, g1, g2, g3, rfl⟩ := h
  refine ⟨_, ⟨es, c, g1, g2, ?_, rfl⟩, h2⟩
  simp only [Maps.size, length_read]
  exact Nat.le_refl _
theorem Mv.look (h : Mv w m F) {t e : TypeId} (ht : Tryz.prog.underlying t = some (.map 9 e)) {z : Value} (hz : (zeroValue e).run Tryz.prog w = .ok z w) {s : ByteArray} (hs : s.size ≤ maxLen) :
    (Instr.lookup t (.map (some m)) (.string s) false).run Tryz.prog w = .ok ((F s.data.toList).getD z) w := by
  obtain ⟨D, h1, h2⟩ := h
  obtain ⟨v, ps, hr, hv'⟩ := h1.lookup Tryz.keyS ht hz (zd := .held z) (zp := []) rfl (keyS hs)
  rw [hr]
  simp only [hv, Option.some.injEq, Prod.mk.injEq] at hv'
  cases e1 : F s.data.toList with
  | none =>
    rw [Maps.atKey_of_not_has ((h2 _).1 e1)] at hv'
    have e2 : v = z := by injection hv'.1
    rw [e2, Option.getD_none]
  | some u =>
    rw [(h2 _).2 u e1] at hv'
    have e2 : v = u := by injection hv'.1
    rw [e2, Option.getD_some]
theorem Mv.look_ok (h : Mv w m F) {t e : TypeId} (ht : Tryz.prog.underlying t = some (.map 9 e)) {z : Value} (hz : (zeroValue e).run Tryz.prog w = .ok z w) {s : ByteArray} (hs : s.size ≤ maxLen) :
    (Instr.lookup t (.map (some m)) (.string s) true).run Tryz.prog w = .ok (.tuple #[(F s.data.toList).getD z, .bool (F s.data.toList).isSome]) w := by
  obtain ⟨D, h1, h3, h2⟩ := h.has
  obtain ⟨v, ps, hr, hv'⟩ := h1.look_ok Tryz.keyS ht hz (zd := .held z) (zp := []) rfl (keyS hs)
  rw [hr, h3]
  simp only [hv, Option.some.injEq, Prod.mk.injEq] at hv'
  cases e1 : F s.data.toList with
  | none =>
    have e2 := h3 s.data.toList
    rw [e1] at e2
    rw [Maps.atKey_of_not_has e2] at hv'
    have e2 : v = z := by injection hv'.1
    rw [e2, Option.getD_none, Option.isSome_none]
  | some u =>
    rw [h2 _ u e1] at hv'
    have e2 : v = u := by injection hv'.1
    rw [e2, Option.getD_some]
def updF (F : List UInt8 → Option Value) (s : List UInt8) (o : Option Value) : List UInt8 → Option Value := fun t => if t = s then o else F t
theorem Mv.perm (h : Mv w m F) {N : List (List UInt8)} (hn : N.Nodup) (hN : ∀ s, s ∈ N ↔ (F s).isSome = true) : ∃ D : DataW Value, w.ownsMap Tryz.prog 9 hv m N.length D ∧ Maps.size D = N.length ∧ N.Perm (strKeys D) := by
  obtain ⟨D, h1, h3, h2⟩ := h.has
  obtain ⟨es, rfl, hpw, _⟩ := h1.entries Tryz.keyS
  obtain ⟨es', hD', hko⟩ := h1.keysOf
  obtain rfl : es = es' := by simpa using hD'
  have hp := perm_strKeys hpw (fun p hp => by obtain ⟨v, hv⟩ := hko p hp; obtain ⟨x, _, hx, _⟩ := Maps.keyOf_str Tryz.underlying9 hv; exact ⟨x, hx⟩) hn (fun x => by rw [hN, h3])
  have hl : N.length = Maps.size (.map es : DataW Value) := by rw [hp.length_eq]; simp [strKeys, Maps.size]
  exact ⟨_, by rw [hl]; exact h1, hl.symm, hp⟩
theorem Mv.write (h : Mv w m F) {t e : TypeId} (ht : Tryz.prog.underlying t = some (.map 9 e)) {N : List (List UInt8)} (hn : N.Nodup) (hN : ∀ s, s ∈ N ↔ (F s).isSome = true) (hl : N.length < maxLen) {s : ByteArray} (hs : s.size ≤ maxLen) (v : Value) :
    ∃ w', (Instr.mapUpdate t (.map (some m)) (.string s) v).run Tryz.prog w = .ok () w' ∧ Mv w' m (updF F s.data.toList (some v)) ∧ w.grownBy w' (some m) := by
  obtain ⟨D0, _, e0, hp⟩ := h.perm hn hN
  obtain ⟨D, h1, h3, h2⟩ := h.has
  have hz : Maps.size D < maxLen := by
    obtain ⟨es, hD, hpw, _⟩ := h1.entries Tryz.keyS
    obtain ⟨es', hD', hko⟩ := h1.keysOf
    obtain rfl : es = es' := by rw [hD] at hD'; simpa using hD'
    subst hD
    have hp := perm_strKeys hpw (fun p hp => by obtain ⟨v, hv⟩ := hko p hp; obtain ⟨x, _, hx, _⟩ := Maps.keyOf_str Tryz.underlying9 hv; exact ⟨x, hx⟩) hn (fun x => by rw [hN, h3])
    have : Maps.size (.map es : DataW Value) = N.length := by rw [hp.length_eq]; simp [strKeys, Maps.size]
    omega
  obtain ⟨w', hr, g1, g2⟩ := h1.update (val := v) (d := .held v) (ps := []) Tryz.keyS ht hz (keyS hs) rfl
  refine ⟨w', hr, mv_of g1 fun u => ?_, g2⟩
  by_cases e : u = s.data.toList
  · subst e
    refine ⟨fun q => by simp [updF] at q, fun x hx z => ?_⟩
    simp [updF] at hx
    subst hx
    exact Maps.atKey_put_same h1.isMap (by trivial) _ _
  · have e' : (Lit.string u) ≠ .string s.data.toList := fun q => e (by injection q)
    refine ⟨fun q => ?_, fun x hx z => ?_⟩
    · rw [Maps.has_put_other e', h3]
      simp only [updF, if_neg e] at q
      rw [q]; rfl
    · rw [Maps.atKey_put_other e']
      simp only [updF, if_neg e] at hx
      exact h2 u x hx z
theorem Mv.drop (h : Mv w m F) {t e : TypeId} (ht : Tryz.prog.underlying t = some (.map 9 e)) {s : ByteArray} (hs : s.size ≤ maxLen) (ty : TypeId) :
    ∃ w', (Builtin.delete_ #[t, 9] ty #[.map (some m), .string s]).run Tryz.prog w = .ok (.tuple #[]) w' ∧ Mv w' m (updF F s.data.toList none) ∧ w.grownBy w' (some m) := by
  obtain ⟨D, h1, h3, h2⟩ := h.has
  obtain ⟨w', hr, g1, g2⟩ := h1.drop Tryz.keyS ht (keyS hs) ty
  refine ⟨w', hr, mv_of g1 fun u => ?_, g2.grown⟩
  by_cases e : u = s.data.toList
  · subst e
    refine ⟨fun _ => Maps.has_del_same, fun x hx z => ?_⟩
    simp [updF] at hx
  · have e' : (Lit.string u) ≠ .string s.data.toList := fun q => e (by injection q)
    refine ⟨fun q => ?_, fun x hx z => ?_⟩
    · rw [Maps.has_del_other e', h3]
      simp only [updF, if_neg e] at q
      rw [q]; rfl
    · rw [Maps.atKey_del_other e']
      simp only [updF, if_neg e] at hx
      exact h2 u x hx z
end
end Go.Proofs.YthfnpagangjpbabGreat
namespace Go.Proofs.YthfnpagangjpbabGreat
structure FV where
  now : List UInt8
  syn : List UInt8
def fz : FV := ⟨[], []⟩
instance : Inhabited FV := ⟨fz⟩
def FV.gone (f : FV) : Bool := f.now.isEmpty && f.syn.isEmpty
theorem gone_iff {f : FV} : f.gone = true ↔ f = fz := by
  obtain ⟨a, b⟩ := f
  simp [FV.gone, fz, List.isEmpty_iff]
theorem gone_len {f : FV} : f.gone = true ↔ f.now.length = 0 ∧ f.syn.length = 0 := by
  obtain ⟨a, b⟩ := f
  simp [FV.gone, List.isEmpty_iff]
def fget : List (List UInt8 × FV) → List UInt8 → FV
  | [], _ => fz
  | (t, f) :: r, s => if t = s then f else fget r s
def fput : List (List UInt8 × FV) → List UInt8 → FV → List (List UInt8 × FV)
  | [], s, f => if f.gone then [] else [(s, f)]
  | (t, g) :: r, s, f => if t = s then (if f.gone then r else (s, f) :: r) else if s < t then (if f.gone then (t, g) :: r else (s, f) :: (t, g) :: r) else (t, g) :: fput r s f
def Ord (L : List (List UInt8 × FV)) : Prop := L.Pairwise (fun a b => a.1 < b.1) ∧ ∀ p ∈ L, p.2.gone = false
theorem ord_nil : Ord [] := ⟨.nil, by simp⟩
theorem lt_of {s t : List UInt8} (h1 : ¬ t = s) (h2 : ¬ s < t) : t < s := by
  rcases Decidable.em (t < s) with h | h
  · exact h
  · exact absurd (List.le_antisymm (List.not_lt.1 h2) (List.not_lt.1 h)) h1
theorem fget_none {L : List (List UInt8 × FV)} {s : List UInt8} (h : s ∉ L.map (·.1)) : fget L s = fz := by
  induction L with
  | nil => rfl
  | cons p r ih =>
    obtain ⟨t, g⟩ := p
    simp only [List.map_cons, List.mem_cons, not_or] at h
    rw [fget, if_neg (fun e => h.1 e.symm)]
    exact ih h.2
theorem fget_mem {L : List (List UInt8 × FV)} (ho : Ord L) {s : List UInt8} {f : FV} (h : (s, f) ∈ L) : fget L s = f := by
  induction L with
  | nil => simp at h
  | cons p r ih =>
    obtain ⟨t, g⟩ := p
    obtain ⟨h1, h2⟩ := ho
    obtain ⟨h3, h4⟩ := List.pairwise_cons.1 h1
    rw [fget]
    rcases List.mem_cons.1 h with e | e
    · injection e with e1 e2
      rw [if_pos e1.symm, e2]
    · have := h3 _ e
      rw [if_neg (fun q => by simp only [q] at this; exact absurd this (List.lt_irrefl _))]
      exact ih ⟨h4, fun p hp => h2 p (List.mem_cons_of_mem _ hp)⟩ e
theorem fget_in {L : List (List UInt8 × FV)} {s : List UInt8} (h : s ∈ L.map (·.1)) : (s, fget L s) ∈ L := by
  induction L with
  | nil => simp at h
  | cons p r ih =>
    obtain ⟨t, g⟩ := p
    rw [fget]
    by_cases e : t = s
    · rw [if_pos e, e]; simp
    · rw [if_neg e]
      simp only [List.map_cons, List.mem_cons] at h
      rcases h with h | h
      · exact absurd h.symm e
      · exact List.mem_cons_of_mem _ (ih h)
theorem fget_gone {L : List (List UInt8 × FV)} (ho : Ord L) {s : List UInt8} : (fget L s).gone = true ↔ s ∉ L.map (·.1) := by
  constructor
  · intro h hs
    have := ho.2 _ (fget_in hs)
    rw [h] at this; cases this
  · intro h
    rw [fget_none h]; rfl
theorem fput_mem {L : List (List UInt8 × FV)} {s : List UInt8} {f : FV} {p : List UInt8 × FV} (h : p ∈ fput L s f) : p ∈ L ∨ (p = (s, f) ∧ f.gone = false) := by
  induction L with
  | nil =>
    rw [fput] at h
    split at h
    · simp at h
    · rename_i hg
      exact .inr ⟨by simpa using h, by simpa using hg⟩
  | cons q r ih =>
    obtain ⟨t, g⟩ := q
    rw [fput] at h
    split at h
    · split at h
      · exact .inl (List.mem_cons_of_mem _ h)
      · rename_i hg
        rcases List.mem_cons.1 h with h | h
        · exact .inr ⟨h, by simpa using hg⟩
        · exact .inl (List.mem_cons_of_mem _ h)
    · split at h
      · split at h
        · exact .inl h
        · rename_i hg
          rcases List.mem_cons.1 h with h | h
          · exact .inr ⟨h, by simpa using hg⟩
          · exact .inl h
      · rcases List.mem_cons.1 h with h | h
        · exact .inl (by rw [h]; simp)
        · rcases ih h with h | h
          · exact .inl (List.mem_cons_of_mem _ h)
          · exact .inr h
theorem ord_fput {L : List (List UInt8 × FV)} (ho : Ord L) (s : List UInt8) (f : FV) : Ord (fput L s f) := by
  refine ⟨?_, fun p hp => ?_⟩
  · induction L with
    | nil => rw [fput]; split <;> simp
    | cons q r ih =>
      obtain ⟨t, g⟩ := q
      obtain ⟨h1, h2⟩ := ho
      obtain ⟨h3, h4⟩ := List.pairwise_cons.1 h1
      have hr : Ord r := ⟨h4, fun p hp => h2 p (List.mem_cons_of_mem _ hp)⟩
      rw [fput]
      split
      · rename_i e
        split
        · exact h4
        · exact List.pairwise_cons.2 ⟨fun p hp => by have := h3 p hp; rw [e] at this; exact this, h4⟩
      · rename_i e
        split
        · rename_i hlt
          split
          · exact h1
          · exact List.pairwise_cons.2 ⟨fun p hp => by
              rcases List.mem_cons.1 hp with rfl | hp
              · exact hlt
              · exact List.lt_trans hlt (h3 p hp), h1⟩
        · rename_i hlt
          refine List.pairwise_cons.2 ⟨fun p hp => ?_, ih hr⟩
          rcases fput_mem hp with hp | ⟨rfl, _⟩
          · exact h3 p hp
          · exact lt_of e hlt
  · rcases fput_mem hp with hp | ⟨rfl, hg⟩
    · exact ho.2 p hp
    · exact hg
theorem fget_fput {L : List (List UInt8 × FV)} (ho : Ord L) (s : List UInt8) (f : FV) (t : List UInt8) : fget (fput L s f) t = if t = s then f else fget L t := by
  induction L with
  | nil =>
    rw [fput]
    split
    · rename_i hg
      rw [gone_iff.1 hg]
      simp [fget]
    · simp only [fget]
      by_cases e : t = s
      · rw [if_pos e, if_pos e.symm]
      · rw [if_neg e, if_neg (fun q => e q.symm)]
  | cons q r ih =>
    obtain ⟨u, g⟩ := q
    obtain ⟨h1, h2⟩ := ho
    obtain ⟨h3, h4⟩ := List.pairwise_cons.1 h1
    have hr : Ord r := ⟨h4, fun p hp => h2 p (List.mem_cons_of_mem _ hp)⟩
    have low : ∀ {x : List UInt8}, ¬ u < x → x ∉ r.map (·.1) := fun {x} hx hm => by
      obtain ⟨p, hp, rfl⟩ := List.mem_map.1 hm
      exact hx (h3 p hp)
    rw [fput]
    split
    · rename_i e
      subst e
      split
      · rename_i hg
        rw [gone_iff.1 hg]
        by_cases e : t = u
        · rw [if_pos e, fget_none (by rw [e]; exact low (List.lt_irrefl _))]
        · rw [if_neg e, fget, if_neg (fun q => e q.symm)]
      · simp only [fget]
        by_cases e : t = u
        · rw [if_pos e, if_pos e.symm]
        · rw [if_neg e, if_neg (fun q => e q.symm)]; simp only [if_neg (fun q : u = t => e q.symm)]
    · rename_i e
      split
      · rename_i hlt
        have hno : s ∉ ((u, g) :: r).map (·.1) := by
          simp only [List.map_cons, List.mem_cons, not_or]
          exact ⟨fun q => e q.symm, low (fun h => absurd (List.lt_trans hlt h) (List.lt_irrefl _))⟩
        split
        · rename_i hg
          rw [gone_iff.1 hg]
          by_cases e : t = s
          · rw [if_pos e, e, fget_none hno]
          · rw [if_neg e]
        · rw [fget]
          by_cases e : t = s
          · rw [if_pos e, if_pos e.symm]
          · rw [if_neg e, if_neg (fun q => e q.symm)]
      · rw [fget, ih hr, fget]
        by_cases e2 : u = t
        · rw [if_pos e2, if_neg (fun q => e (e2.trans q)), if_pos e2]
        · rw [if_neg e2, if_neg e2]
theorem ord_ext {L M : List (List UInt8 × FV)} (hL : Ord L) (hM : Ord M) (h : ∀ s, fget L s = fget M s) : L = M := by
  have side : ∀ {A B : List (List UInt8 × FV)}, Ord A → Ord B → (∀ s, fget A s = fget B s) → ∀ p ∈ A, p ∈ B := fun {A B} hA hB hh p hp => by
    obtain ⟨s, f⟩ := p
    have e := fget_mem hA hp
    have hin : s ∈ B.map (·.1) := by
      rcases Decidable.em (s ∈ B.map (·.1)) with h | h
      · exact h
      · have := (fget_gone hB).2 h
        rw [← hh, e] at this
        have q := hA.2 _ hp
        simp only [this] at q; cases q
    have := fget_in hin
    rw [← hh, e] at this
    exact this
  have nd : ∀ {A : List (List UInt8 × FV)}, Ord A → A.Nodup := fun {A} hA => hA.1.imp fun {a b} hlt e => by rw [e] at hlt; exact List.lt_irrefl _ hlt
  refine List.Perm.eq_of_pairwise (le := fun a b => a.1 < b.1) (fun a b _ _ h1 h2 => absurd (List.lt_trans h1 h2) (List.lt_irrefl _)) hL.1 hM.1 ((List.perm_ext_iff_of_nodup (nd hL) (nd hM)).2 fun p => ⟨side hL hM h p, side hM hL (fun s => (h s).symm) p⟩)
def ch (keep : List Bool) (i : Nat) : Bool := keep.getD (i % keep.length) false
def sec (l : List UInt8) (s : Nat) : List UInt8 := (List.range 64).map fun j => l.getD (64 * s + j) 0
theorem sec_len (l : List UInt8) (s : Nat) : (sec l s).length = 64 := by simp [sec]
def sgo (keep : List Bool) (f : FV) (i : Nat) : Nat → List UInt8 × Nat
  | 0 => ([], i)
  | s + 1 => let r := sgo keep f i s
    if sec f.now s = sec f.syn s then (r.1 ++ sec f.syn s, r.2) else (r.1 ++ (if ch keep r.2 then sec f.now s else sec f.syn s), r.2 + 1)
theorem sgo_len (keep : List Bool) (f : FV) (i s : Nat) : (sgo keep f i s).1.length = 64 * s := by
  induction s with
  | zero => rfl
  | succ s ih =>
    simp only [sgo]
    split
    · simp only [List.length_append, ih, sec_len]; omega
    · simp only [List.length_append, ih]
      split <;> simp only [sec_len] <;> omega
def nsec (f : FV) : Nat := (max f.now.length f.syn.length + 63) / 64
def slen (keep : List Bool) (f : FV) (i : Nat) : Nat × Nat :=
  if f.now.length = f.syn.length then (f.syn.length, i) else (if ch keep i then f.now.length else f.syn.length, i + 1)
def stay (keep : List Bool) (f : FV) (i : Nat) : List UInt8 × Nat :=
  let n := slen keep f i
  let r := sgo keep f n.2 (nsec f)
  (r.1.take n.1, r.2)
theorem stay_len (keep : List Bool) (f : FV) (i : Nat) : (stay keep f i).1.length = (slen keep f i).1 := by
  simp only [stay, List.length_take, sgo_len, nsec]
  have : (slen keep f i).1 ≤ max f.now.length f.syn.length := by
    unfold slen
    split
    · exact Nat.le_max_right _ _
    · split
      · exact Nat.le_max_left _ _
      · exact Nat.le_max_right _ _
  omega
def aft (keep : List Bool) : List (List UInt8 × FV) → Nat → List (List UInt8 × List UInt8)
  | [], _ => []
  | (s, f) :: r, i => let x := stay keep f i
    if x.1 = [] then aft keep r x.2 else (s, x.1) :: aft keep r x.2
def tell : List (List UInt8 × FV) → List (List UInt8 × List UInt8)
  | [] => []
  | (s, f) :: r => if f.now = [] then tell r else (s, f.now) :: tell r
end Go.Proofs.YthfnpagangjpbabGreat
namespace Go.Proofs.YthfnpagangjpbabGreat
open Go.RowKit
theorem size_list (s : ByteArray) : s.data.toList.length = s.size := Array.length_toList
theorem ba_ext {a b : ByteArray} (h : a.data.toList = b.data.toList) : a = b := by
  cases a; cases b; simp at h; simp [h]
theorem ext_drop (s : ByteArray) (k : Nat) : (s.extract k s.size).data.toList = s.data.toList.drop k := by
  rw [ByteArray.data_extract, Array.toList_extract, List.extract_eq_take_drop, List.take_of_length_le (by rw [List.length_drop, size_list]; omega)]
theorem ext_take (s : ByteArray) (k : Nat) : (s.extract 0 k).data.toList = s.data.toList.take k := by
  rw [ByteArray.data_extract, Array.toList_extract, List.extract_eq_take_drop, List.drop_zero, Nat.sub_zero]
def cY (l : List UInt8) : List Value := l.map fun b => Value.int .u8 (b.toNat : Int)
theorem cY_len (l : List UInt8) : (cY l).length = l.length := by simp [cY]
theorem cY_app (l m : List UInt8) : cY (l ++ m) = cY l ++ cY m := by simp [cY]
theorem cY_one (l : List UInt8) : ∀ u ∈ cY l, u.oneCell' = true := fun u hu => by obtain ⟨_, _, rfl⟩ := List.mem_map.1 hu; rfl
theorem Tryz.infoY : (Tryz.prog.info? 5).map (fun i => (i.zero, i.size, i.bytes)) = some (some (.int .u8 0), 1, 1) := by kernel_rfl
def Ty (w : World) (g : Nat) (T : TypeId) : Prop := ∃ cs fr, w.heap[g]? = some (.cells cs T fr)
theorem Ty.lt {w : World} {g : Nat} {T : TypeId} (h : Ty w g T) : g < w.heap.size := by
  obtain ⟨cs, fr, h⟩ := h
  exact (Array.getElem?_eq_some_iff.1 h).1
theorem Ty.same {w W : World} {g : Nat} {T : TypeId} (h : Ty w g T) (hb : W.heap[g]? = w.heap[g]?) : Ty W g T := by
  obtain ⟨cs, fr, h⟩ := h
  exact ⟨cs, fr, hb.trans h⟩
theorem Ty.set {w : World} {g : Nat} {T : TypeId} (h : Ty w g T) (b i : Nat) (v : Value) : Ty (w.setCell ⟨b, i, none⟩ v) g T := by
  by_cases e : g = b
  · subst e
    obtain ⟨cs, fr, h⟩ := h
    exact ⟨cs.setIfInBounds i v, fr, by simp [World.setCell, Array.getElem?_modify, h]⟩
  · exact h.same (Below.heap_setCell _ _ _ _ e)
theorem Ty.sets {g : Nat} {T : TypeId} (b : Nat) : ∀ (vs : List Value) (o : Nat) (w : World), Ty w g T → Ty (w.setCells b o vs) g T
  | [], _, _, h => h
  | v :: r, o, _, h => Ty.sets b r (o + 1) _ (h.set b o v)
theorem Ty.ne {w : World} {g k : Nat} {T U : TypeId} (h : Ty w g T) (h2 : Ty w k U) (hT : T ≠ U) : g ≠ k := by
  rintro rfl
  obtain ⟨_, _, h⟩ := h
  obtain ⟨_, _, h2⟩ := h2
  rw [h] at h2
  injection h2 with h2
  injection h2 with _ h2 _
  exact hT h2
theorem upo_sets {S : Nat → Prop} {w : World} {g : Nat} (hg : S g ∨ w.heap.size ≤ g) : ∀ (vs : List Value) (o : Nat) (w' : World), Upo S w w' → Upo S w (w'.setCells g o vs)
  | [], _, _, h => h
  | v :: r, o, _, h => upo_sets hg r (o + 1) _ (h.set g o v hg)
structure Rw (w : World) (ao : Option Addr) (g cap : Nat) (l : List UInt8) : Prop where
  ptr : ao = none ∨ ao = some ⟨g, 0, none⟩
  nil : ao = none → cap = 0
  ty : ao = some ⟨g, 0, none⟩ → Ty w g 5
  le : l.length ≤ cap
  rng : ao = some ⟨g, 0, none⟩ → w.rangeAt g 0 (cY l)
  thr : ao = some ⟨g, 0, none⟩ → w.there g 0 cap
section
variable {w W : World} {ao : Option Addr} {g cap : Nat} {l : List UInt8}
theorem rw_nil (w : World) (g : Nat) : Rw w none g 0 [] := ⟨.inl rfl, fun _ => rfl, fun h => (by cases h), Nat.le_refl _, fun h => (by cases h), fun h => by cases h⟩
theorem Rw.empty (h : Rw w ao g cap l) (e : ao = none) : l = [] := List.length_eq_zero_iff.1 (by have := h.nil e; have := h.le; omega)
theorem Rw.sm (h : Rw w ao g cap l) (h0 : 0 < l.length) : ao = some ⟨g, 0, none⟩ := by
  rcases h.ptr with e | e
  · rw [h.empty e] at h0; simp at h0
  · exact e
theorem Rw.own (h : Rw w ao g cap l) {n c b : Nat} (e : (Value.slice ao n c).ownBlock = some b) : ao = some ⟨g, 0, none⟩ ∧ b = g := by
  rcases h.ptr with q | q
  · rw [q] at e; cases e
  · rw [q] at e; exact ⟨q, by simpa [Value.ownBlock] using e.symm⟩
theorem range_same {b o : Nat} {cs : List Value} (h : w.rangeAt b o cs) (hb : W.heap[b]? = w.heap[b]?) : W.rangeAt b o cs := fun j v hv => by
  rw [World.cell?_of_block (a := ⟨b, o + j, none⟩) hb]; exact h j v hv
theorem there_same {b o n : Nat} (h : w.there b o n) (hb : W.heap[b]? = w.heap[b]?) : W.there b o n := fun j hj => by
  rw [World.cell?_of_block (a := ⟨b, o + j, none⟩) hb, World.frozen?_of_block (a := ⟨b, o + j, none⟩) hb]; exact h j hj
theorem Rw.same (h : Rw w ao g cap l) (hb : ao = some ⟨g, 0, none⟩ → W.heap[g]? = w.heap[g]?) : Rw W ao g cap l :=
  ⟨h.ptr, h.nil, fun e => (h.ty e).same (hb e), h.le, fun e => range_same (h.rng e) (hb e), fun e => there_same (h.thr e) (hb e)⟩
theorem Rw.next {B : Nat} (h : Rw w ao g cap l) (hb : Below B w W) (hB : w.heap.size ≤ B) : Rw W ao g cap l :=
  h.same fun e => hb.block g (by have := (h.ty e).lt; omega)
theorem Rw.off (h : Rw w ao g cap l) {p : Nat} (i : Nat) (v : Value) (hp : ao = some ⟨g, 0, none⟩ → g ≠ p) : Rw (w.setCell ⟨p, i, none⟩ v) ao g cap l :=
  h.same fun e => Below.heap_setCell _ _ _ _ (hp e)
theorem Rw.cut (h : Rw w ao g cap l) {k : Nat} (hk : k ≤ l.length) : Rw w ao g cap (l.take k) :=
  ⟨h.ptr, h.nil, h.ty, by have := h.le; simp; omega, fun e j v hv => h.rng e j v (by
    rw [cY, List.map_take] at hv
    rw [List.getElem?_take] at hv
    split at hv
    · exact hv
    · cases hv), h.thr⟩
theorem Rw.at (h : Rw w ao g cap l) {j : Nat} (hj : j < l.length) : w.cell? ⟨g, j, none⟩ = some (.int .u8 ((l.getD j 0).toNat : Int)) := by
  have := h.rng (h.sm (by omega)) j (.int .u8 ((l.getD j 0).toNat : Int)) (by simp [cY, List.getElem?_eq_getElem hj, List.getD_eq_getElem?_getD])
  rwa [Nat.zero_add] at this
theorem range_mid {b o : Nat} {cs : List Value} (h : w.rangeAt b o cs) (k : Nat) (vs : List Value) (hk : k + vs.length ≤ cs.length) (ht : w.there b (o + k) vs.length) :
    (w.setCells b (o + k) vs).rangeAt b o (cs.take k ++ vs ++ cs.drop (k + vs.length)) := fun j u hu => by
  have hlen : (cs.take k).length = k := by simp; omega
  by_cases hj : j < k
  · rw [List.append_assoc, List.getElem?_append_left (by omega), List.getElem?_take, if_pos hj] at hu
    rw [World.cell?_setCells_out b vs (o + k) w ⟨b, o + j, none⟩ (fun _ _ => Or.inl (by show o + j < o + k; omega))]
    exact h j u hu
  · by_cases hj2 : j < k + vs.length
    · rw [List.getElem?_append_left (by simp; omega), List.getElem?_append_right (by omega), hlen] at hu
      have := World.cell?_setCells_in b vs (o + k) w (fun i hi => (ht i hi).1) (j - k) (by omega)
      rw [show o + k + (j - k) = o + j by omega] at this
      rw [this, ← hu, List.getElem?_eq_getElem (by omega)]
    · rw [List.getElem?_append_right (by simp; omega)] at hu
      rw [List.getElem?_drop, show k + vs.length + (j - (cs.take k ++ vs).length) = j by simp; omega] at hu
      rw [World.cell?_setCells_out b vs (o + k) w ⟨b, o + j, none⟩ (fun _ _ => Or.inr (by show o + k + vs.length ≤ o + j; omega))]
      exact h j u hu
theorem Rw.over (h : Rw w ao g cap l) (k : Nat) (t : List UInt8) (hk : k + t.length ≤ l.length) : Rw (w.setCells g k (cY t)) ao g cap (l.take k ++ t ++ l.drop (k + t.length)) := by
  refine ⟨h.ptr, h.nil, fun e => Ty.sets g _ _ _ (h.ty e), by have := h.le; simp; omega, fun e => ?_, fun e => World.there_setCells (h.thr e) _ _ _⟩
  have := range_mid (h.rng e) k (cY t) (by rw [cY_len, cY_len]; exact hk) (fun j hj => by
    rw [Nat.zero_add]
    have := h.thr e (k + j) (by rw [cY_len] at hj; have := h.le; omega)
    rwa [Nat.zero_add] at this)
  rw [Nat.zero_add] at this
  rw [cY_app, cY_app]
  simpa [cY, List.map_take, List.map_drop] using this
theorem run_copy_text (W : World) (ty : TypeId) {ax : Option Addr} {k n c : Nat} {t : ByteArray} (hn : k + n ≤ l.length) (h : Rw W ao g cap l) (hx : ax = ao ∨ ax = ao.map (·.add k)) (h0 : ax = ao → k = 0 ∨ n = 0) (hc : Nat.min t.size n = c) (m : Nat) :
    (Builtin.copy_ #[111, 9] ty #[.slice ax n m, .string t]).run Tryz.prog W = .ok (goInt c) (W.setCells g k (cY (t.data.toList.take c))) := by
  have hs : ∀ W, (Go.sizeOf 5).run Tryz.prog W = .ok 1 W := fun W => by kernel_rfl
  have hl : (cY (t.data.toList.take c)).length = c := by
    rw [cY_len, List.length_take, size_list]
    have : c ≤ t.size := by rw [← hc]; exact Nat.min_le_left _ _
    omega
  have he : List.take c (List.map (fun x : UInt8 => Value.int IntKind.u8 (x.toNat : Int)) t.data.toList) = cY (t.data.toList.take c) := by rw [cY, List.map_take]
  have hcn : c ≤ n := by rw [← hc]; exact Nat.min_le_right _ _
  by_cases z : c = 0
  · subst z
    have e0 : cY (t.data.toList.take 0) = [] := by simp [cY]
    rw [e0]
    cases ax with
    | none => simp [Builtin.copy_, run_underlying Tryz.underlying111, Builtin.lenOf, Builtin.firstCells, hs, hc]; rfl
    | some a => simp [Builtin.copy_, run_underlying Tryz.underlying111, Builtin.lenOf, Builtin.firstCells, hs, hc]; rfl
  · have ea := h.sm (by omega)
    have eax : ax = some ⟨g, k, none⟩ := by
      rcases hx with e | e
      · rcases h0 e with q | q
        · rw [e, ea, q]
        · omega
      · rw [e, ea, Option.map_some, Addr.add_mid, Nat.zero_add]
    have hth := h.thr ea
    have hst := run_storeCells_cells (P := Tryz.prog) g k (cY (t.data.toList.take c)) 0 W (by rw [hl]; intro j hj; have := hth (k + j) (by have := h.le; omega); simpa using this.1) (by rw [hl]; intro j hj; have := hth (k + j) (by have := h.le; omega); simpa using this.2) (cY_one _)
    simp only [Nat.add_zero] at hst
    rw [eax]
    simp [Builtin.copy_, run_underlying Tryz.underlying111, Builtin.lenOf, Builtin.firstCells, hs, hc]
    rw [he, hst]
    rfl
theorem there_new (w : World) (cs : Array Value) (t : TypeId) (n : Nat) (hn : n ≤ cs.size) : (w.alloc (.cells cs t)).there w.heap.size 0 n := fun j hj => by
  refine ⟨?_, World.frozen?_alloc_new _ _ _ _⟩
  rw [World.cell?_alloc_new, Nat.zero_add, Array.getElem?_eq_getElem (by omega)]; rfl
theorem Rw.app (h : Rw w ao g cap l) (tx ty : TypeId) (x : Value) (t : List UInt8) (hs : Src Tryz.prog 1 tx x t.length (cY t) w) (hl : l.length + t.length ≤ 140737488355328) :
    ∃ ao' g' cap' w', (Builtin.append_ #[111, tx] ty #[.slice ao l.length cap, x]).run Tryz.prog w = .ok (.slice ao' (l ++ t).length cap') w' ∧ Rw w' ao' g' cap' (l ++ t) ∧ Upo (fun b => ao = some ⟨g, 0, none⟩ ∧ b = g) w w' ∧ ((ao' = ao ∧ g' = g) ∨ (g' = w.heap.size ∧ g' < w'.heap.size)) ∧ (ao = some ⟨g, 0, none⟩ → Ty w' g 5) := by
  obtain ⟨i0, hi, hz0, hz1, hz2⟩ := info_parts Tryz.infoY
  by_cases hroom : l.length + t.length ≤ cap
  · rcases h.ptr with e | e
    · have hc := h.nil e
      have el := h.empty e
      have et : t = [] := List.length_eq_zero_iff.1 (by omega)
      subst et el hc e
      refine ⟨none, g, 0, w, ?_, rw_nil w g, Upo.refl _ _, .inl ⟨rfl, rfl⟩, fun e => (by cases e)⟩
      have hk := hs.kind
      have hs2 := hs.cells
      simp only [List.length_nil] at hs2
      rcases hk with ⟨e', hk⟩ | hk <;> simp [Builtin.append_, run_underlying Tryz.underlying111, run_underlying hk, Go.sizeOf, typeInfo, hi, hs.len, hs2, hz1]
    · subst e
      have hr := run_append_room_src (P := Tryz.prog) w 111 tx ty 5 i0 Tryz.underlying111 hi g 0 l.length cap x t.length (cY t) (by rw [hz1]; exact hs) hroom
        (fun j hj => by rw [hz1, Nat.mul_one, Nat.add_assoc]; rw [cY_len] at hj; exact (h.thr rfl (l.length + j) (by omega)).1) (fun j hj => by rw [hz1, Nat.mul_one, Nat.add_assoc]; rw [cY_len] at hj; exact (h.thr rfl (l.length + j) (by omega)).2)
      rw [hz1, Nat.mul_one, Nat.zero_add] at hr
      refine ⟨_, g, cap, _, by rw [hr, List.length_append], ⟨.inr rfl, fun e => (by cases e), fun _ => Ty.sets g _ _ _ (h.ty rfl), by rw [List.length_append]; exact hroom, fun _ => ?_, fun _ => World.there_setCells (h.thr rfl) _ _ _⟩, upo_sets (.inl ⟨rfl, rfl⟩) _ _ _ (Upo.refl _ _), .inl ⟨rfl, rfl⟩, fun _ => Ty.sets g _ _ _ (h.ty rfl)⟩
      rw [cY_app]
      intro j u hu
      by_cases hj : j < l.length
      · rw [List.getElem?_append_left (by rw [cY_len]; exact hj)] at hu
        exact World.rangeAt_setCells_apart (h.rng rfl) g l.length (cY t) (.inr (.inl (by rw [cY_len, Nat.zero_add]; exact Nat.le_refl _))) j u hu
      · rw [List.getElem?_append_right (by rw [cY_len]; omega), cY_len] at hu
        have := World.rangeAt_setCells_same w g l.length (cY t) (fun j hj => by have := h.thr rfl (l.length + j) (by rw [cY_len] at hj; omega); rwa [Nat.zero_add] at this) (j - l.length) u hu
        rwa [show l.length + (j - l.length) = 0 + j by omega] at this
  · have hold : (Builtin.firstCells i0.size l.length (.slice ao l.length cap)).run Tryz.prog w.drew = .ok (cY l).toArray w.drew := by
      rcases h.ptr with e | e
      · rw [e, h.empty e]
        exact run_firstCells_none w.drew _ 0 0 cap
      · rw [e, hz1]
        exact run_firstCells_some w.drew 1 l.length _ l.length cap (cY l) (by rw [cY_len, Nat.mul_one]) (fun j u hu => by rw [Addr.add_mid]; exact h.rng e j u hu)
    have hr := run_append_grow_src (P := Tryz.prog) w 111 tx ty 5 i0 (.int .u8 0) Tryz.underlying111 hi hz0 ao l.length cap (cY l) hold x t.length (cY t) (by rw [hz1]; exact hs) (by omega) (by omega) (by rw [hz2]; exact growslice_fits (by omega) (by omega))
    have hge := grownCap_ge w (l.length + t.length) cap 5
    obtain ⟨cc, hcc⟩ : ∃ cc, grownCap w (l.length + t.length) cap 5 = cc := ⟨_, rfl⟩
    rw [hcc] at hr hge
    refine ⟨some ⟨w.heap.size, 0, none⟩, w.heap.size, cc, w.drew.alloc (.cells ((cY l ++ cY t).toArray ++ Builtin.zeroCells (Value.int IntKind.u8 0).cells (cc - (l.length + t.length))) 5), by rw [hr, List.length_append], ⟨.inr rfl, fun e => (by cases e), fun _ => ⟨_, _, heap_alloc_new w.drew _⟩, by rw [List.length_append]; exact hge, fun _ => ?_, fun _ => ?_⟩, (Upo.refl _ w).drew.alloc _, .inr ⟨rfl, by simp⟩, fun e => (h.ty e).same ((MapKept.heap_alloc w.drew _).2 g (h.ty e).lt)⟩
    · intro j u hu
      show (w.drew.alloc _).cell? ⟨w.drew.heap.size, 0 + j, none⟩ = some u
      rw [World.cell?_alloc_new, Nat.zero_add]
      rw [cY_app] at hu
      rw [Array.getElem?_append_left (by have := (List.getElem?_eq_some_iff.1 hu).1; simpa using this)]
      simpa using hu
    · refine there_new w.drew _ 5 _ ?_
      have hz1' : (Value.int IntKind.u8 0).cells.size = 1 := rfl
      simp only [Array.size_append, List.size_toArray, size_zeroCells, hz1', cY_len, List.length_append]
      omega
theorem src_text (w : World) (t : ByteArray) : Src Tryz.prog 1 9 (.string t) t.data.toList.length (cY t.data.toList) w := by
  rw [size_list]
  exact Src.ofString w Tryz.underlying9 t
theorem Rw.src (h : Rw w ao g cap l) {k : Nat} (hk : k ≤ l.length) {ax : Option Addr} (hx : ax = ao ∨ ax = ao.map (·.add k)) (h0 : ax = ao → k = 0 ∨ k = l.length) (m : Nat) : Src Tryz.prog 1 111 (.slice ax (l.length - k) m) (l.drop k).length (cY (l.drop k)) w := by
  have hlen : (l.drop k).length = l.length - k := by simp
  rw [hlen]
  rcases Nat.eq_zero_or_pos (l.length - k) with z | z
  · have e : l.drop k = [] := List.length_eq_zero_iff.1 (by omega)
    rw [e, z]
    cases ax with
    | none => exact Src.ofNil w Tryz.underlying111 m
    | some a => exact Src.ofSlice w Tryz.underlying111 a 0 m _ (by simp [cY]) (fun j u hu => by simp [cY] at hu) (fun u hu => by simp [cY] at hu)
  · have ea := h.sm (by omega)
    have eax : ax = some ⟨g, k, none⟩ := by
      rcases hx with e | e
      · rcases h0 e with q | q
        · rw [e, ea, q]
        · omega
      · rw [e, ea, Option.map_some, Addr.add_mid, Nat.zero_add]
    rw [eax]
    refine Src.ofSlice w Tryz.underlying111 _ _ m _ (by rw [cY_len, hlen, Nat.mul_one]) (fun j u hu => ?_) (cY_one _)
    rw [cY, List.map_drop, List.getElem?_drop] at hu
    have := h.rng ea (k + j) u hu
    rw [Nat.zero_add] at this
    rw [Addr.add_mid]
    exact this
theorem Rw.conv (h : Rw w ao g cap l) {k n : Nat} (hk : k + n ≤ l.length) {ax : Option Addr} (hx : ax = ao ∨ ax = ao.map (·.add k)) (h0 : ax = ao → k = 0 ∨ n = 0) (m : Nat) :
    (convert 111 9 (.slice ax n m)).run Tryz.prog w = .ok (.string ⟨((l.drop k).take n).toArray⟩) w := by
  have hlen : ((l.drop k).take n).length = n := by simp; omega
  cases hax : ax with
  | none =>
    have z : n = 0 := by
      rcases hx with e | e
      · have := h.empty (e.symm.trans hax); rw [this] at hk; simp at hk; omega
      · have ea : ao = none := by cases ao with
          | none => rfl
          | some a => rw [hax] at e; cases e
        have := h.empty ea; rw [this] at hk; simp at hk; omega
    subst z
    rw [List.take_zero]
    have : ∀ W : World, (convert 111 9 (.slice none 0 m)).run Tryz.prog W = .ok (.string ⟨#[]⟩) W := fun W => by
      simp [convert, run_underlying Tryz.underlying111, run_underlying Tryz.underlying9, run_underlying Tryz.underlying5, Conv.bytesToString]
      rfl
    exact this w
  | some a =>
    have hr := run_convert_bytes_back w 111 9 5 a m ((l.drop k).take n) Tryz.underlying111 Tryz.underlying5 Tryz.underlying9 fun j hj => ?_
    · rw [hlen] at hr; exact hr
    · rw [hlen] at hj
      have ea := h.sm (by omega)
      have eax : a = ⟨g, k, none⟩ := by
        rcases hx with e | e
        · rcases h0 e with q | q
          · rw [hax, ea] at e; injection e with e; rw [e, q]
          · omega
        · rw [hax, ea, Option.map_some, Addr.add_mid, Nat.zero_add] at e
          injection e
      rw [eax, Addr.add_mid, h.at (by omega)]
      have : (List.take n (List.drop k l))[j]'(by omega) = l.getD (k + j) 0 := by
        rw [List.getElem_take, List.getElem_drop, List.getD_eq_getElem?_getD, List.getElem?_eq_getElem (by omega)]; rfl
      rw [this]
end
theorem step_app {w w' : World} {ops : Array Oper} {o : Oper} {a : Act} {K : Act → World → Prop} {Q : Exit → Act → World → Prop} {E : Prop} (hgd : o.guard = none) (s x : Operand) (t u : TypeId)
    (hop : o.op = Op.call { callee := Callee.builtin Builtin.append, args := #[s, x], argTypes := #[t, u] }) {vs vx v' : Value} (hs : a.eval s = vs) (hx : a.eval x = vx) (hr : (Builtin.append_ #[t, u] o.type #[vs, vx]).run Tryz.prog w = .ok v' w')
    (hK : K (a.put o.dst v') w') : if Region.wanted o (yielded ops a.tmps) = true then Oper.wp Tryz.prog o a w K Q else E := by
  have hw : Region.wanted o (yielded ops a.tmps) = true := by simp [Region.wanted, hgd]
  rw [if_pos hw]
  unfold Oper.wp
  simp [execOp, hop, resolve, invoke, builtin, hs, hx, hr, Result.andThen]
  exact hK
theorem step_copy {w w' : World} {ops : Array Oper} {o : Oper} {a : Act} {K : Act → World → Prop} {Q : Exit → Act → World → Prop} {E : Prop} (hgd : o.guard = none) (s x : Operand) (t u : TypeId)
    (hop : o.op = Op.call { callee := Callee.builtin Builtin.copy, args := #[s, x], argTypes := #[t, u] }) {vs vx v' : Value} (hs : a.eval s = vs) (hx : a.eval x = vx) (hr : (Builtin.copy_ #[t, u] o.type #[vs, vx]).run Tryz.prog w = .ok v' w')
    (hK : K (a.put o.dst v') w') : if Region.wanted o (yielded ops a.tmps) = true then Oper.wp Tryz.prog o a w K Q else E := by
  have hw : Region.wanted o (yielded ops a.tmps) = true := by simp [Region.wanted, hgd]
  rw [if_pos hw]
  unfold Oper.wp
  simp [execOp, hop, resolve, invoke, builtin, hs, hx, hr, Result.andThen]
  exact hK
end Go.Proofs.YthfnpagangjpbabGreat
