/-
  Memory for kin's walks (off batch's texts). Own work.
-/
import Derived.Test.YtdkcliblbaldhaaDoorBMem
import Derived.Test.YtdkcliblbaldhaaDoorTGrow
namespace Go.Proofs.YtdkcliblbaldhaaDoor
open Go.RowKit
open Cv (RdC zl cU)
attribute [local go_sem ↓] Go.wp_at_zero Go.wp_at_succ
theorem below_put {B : Nat} {a Z : World} (h : Below B a Z) {p i : Nat} {v : Value} (hp : B ≤ p) : Below B a (Z.setCell ⟨p, i, none⟩ v) :=
  h.trans (((ChT.refl (fun b => b = p) Z).set p i v rfl).below (by rintro b rfl; exact hp))
abbrev oP (kd k : Int) (old size : Nat) (vs vd : Value) : Obj := .cells #[.int .i64 kd, .int .i64 k, .int .u64 (old : Int), .int .u64 (size : Int), vs, vd] 32
abbrev vP (kd k : Int) (old size : Nat) (vs vd : Value) : Value := .agg #[.int .i64 kd, .int .i64 k, .int .u64 (old : Int), .int .u64 (size : Int), vs, vd]
/-- A digest of the right length for each block. -/
def fil (k : Int) (m : Nat) (D : List ByteArray) : Prop := D.length = m ∧ ∀ d ∈ D, (d.size : Int) = k
theorem Rt.drew {w : World} {g n : Nat} {d : ByteArray} (h : Rt w g n d) : Rt w.drew g n d := ⟨h.c0, h.c1, h.f0, h.f1⟩
abbrev noR : Value := .agg #[.int .u64 0, .string ⟨#[]⟩]
/-- A root is put in its place. -/
theorem rt_put {w : World} {g n : Nat} {d : ByteArray} (h : Rt w g n d) (a : Int) (b : ByteArray) :
    ((w.setCell ⟨g, 0, none⟩ (.int .u64 a)).setCell ⟨g, 1, none⟩ (.string b)).cell? ⟨g, 0, none⟩ = some (.int .u64 a) ∧ ((w.setCell ⟨g, 0, none⟩ (.int .u64 a)).setCell ⟨g, 1, none⟩ (.string b)).cell? ⟨g, 1, none⟩ = some (.string b) ∧ ChT (fun x => x = g) w ((w.setCell ⟨g, 0, none⟩ (.int .u64 a)).setCell ⟨g, 1, none⟩ (.string b)) := by
  refine ⟨?_, ?_, ((ChT.refl (fun x => x = g) w).set g 0 _ rfl).set g 1 _ rfl⟩
  · exact (World.cell?_setCell_other _ _ _ _ (by simp)).trans (World.cell?_setCell_same _ _ _ h.c0)
  · exact World.cell?_setCell_same _ _ _ ((World.cell?_setCell_other _ _ _ _ (by simp)).trans h.c1)
theorem own_block {w : World} {B T s n : Nat} {y : Value} {cs : List Value} (h : w.ownsRow B T s y n cs) {g : Nat} (hg : y.ownBlock = some g) : B ≤ g ∧ ∃ cur, w.heap[g]? = some (.cells cur T (0, 0)) := by
  obtain ⟨_, h2⟩ := h
  rcases h2 with ⟨rfl, _⟩ | ⟨g', cap, cur, rfl, hb, hh, _⟩
  · cases hg
  · cases hg
    exact ⟨hb, cur, hh⟩
theorem rdc_string {w : World} {ao : Option Addr} {b off len cap : Nat} {l : List ByteArray} (h : RdS w ao b off len l) (hn : ao = none → cap = 0) : RdC w (.slice ao len cap) len (l.map Value.string) := by
  refine ⟨ao, cap, rfl, fun e => ⟨?_, hn e⟩, fun ad ha j c hj => ?_⟩
  · rcases Nat.eq_zero_or_pos len with h0 | h0
    · exact h0
    · have := h.ptr h0; rw [e] at this; cases this
  · have hj' : j < len := by have := (List.getElem?_eq_some_iff.1 hj).1; rw [List.length_map, h.hl] at this; exact this
    have := h.ptr (by omega)
    rw [ha] at this
    cases this
    rw [Addr.add_mid]
    exact h.rng j c hj
/-- Texts appended to texts of one's own: where they went. -/
theorem wpList_append_SA (w : World) {ops : Array Oper} {rest : List Oper} {o : Oper} {a : Act} {Q : Exit → Act → World → Prop}
    (hg : o.guard = none) (s x : Operand) (hop : o.op = Op.call { callee := Callee.builtin Builtin.append, args := #[s, x], argTypes := #[22, 22] })
    (B : Nat) (v : Value) (L : List ByteArray) (hs : a.eval s = v) (hown : OwnS w B v L) (ao : Option Addr) (b off len cap : Nat) (M : List ByteArray) (hx : a.eval x = .slice ao len cap) (hr : RdS w ao b off len M) (hn : ao = none → cap = 0)
    (hlen : L.length + M.length ≤ 1048576) (hB : B ≤ w.heap.size)
    (hK : ∀ v' w', OwnS w' B v' (L ++ M) → w.grownBy w' v.ownBlock → (v'.ownBlock = v.ownBlock ∨ ∀ g, v'.ownBlock = some g → w.heap.size ≤ g) → wpList Tryd.prog ops Q rest (a.put o.dst v') w') : wpList Tryd.prog ops Q (o :: rest) a w := by
  obtain ⟨i0, hi, hz0, hz1, hz2⟩ := info_parts Tryd.infoS
  have hl := hr.hl
  refine Cv.wpList_append_ap w hg s x _ hop B 9 i0 (.string ByteArray.empty) 1 16 Tryd.underlying22 hi hz0 hz1 hz2 rfl (by decide) v L.length (L.map Value.string) hs hown (.slice ao len cap) len (M.map Value.string) hx (rdc_string hr hn) (by rw [List.length_map, hl, Nat.mul_one]) (by intro u hu; obtain ⟨y, _, rfl⟩ := List.mem_map.1 hu; rfl) (by unfold maxLen; omega) (by omega) hB ?_
  intro v' w' h
  refine hK v' w' ?_ h.grown h.fresh
  rw [OwnS, List.length_append, List.map_append, hl]
  exact h.own
theorem own_ty {w : World} {B T s n q : Nat} {y : Value} {xs : List Value} {cs : Array Value} {T' : Nat} {fr : Nat × Nat} (h : w.ownsRow B T s y n xs) (hq : w.heap[q]? = some (.cells cs T' fr)) (hT : T ≠ T') : ∀ g, y.ownBlock = some g → g ≠ q := fun g hg e => by
  subst e
  obtain ⟨_, cur, hc⟩ := own_block h hg
  rw [hq] at hc
  injection hc with hc
  injection hc with _ h2 _
  exact hT h2.symm
instance (k : Int) (m : Nat) (D : List ByteArray) : Decidable (fil k m D) := by unfold fil; infer_instance
end Go.Proofs.YtdkcliblbaldhaaDoor
