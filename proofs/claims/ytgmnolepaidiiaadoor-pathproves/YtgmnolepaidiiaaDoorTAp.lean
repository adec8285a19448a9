/-
  Appends to texts of one's own, with where they went; worlds that differ in one block. Own work.
-/
import Derived.Test.YtgmnolepaidiiaaDoorTRefT
import Derived.Test.YtgmnolepaidiiaaDoorTLawC
namespace Go.Proofs.YtgmnolepaidiiaaDoor
open Go.RowKit
open Cv (RdC)
attribute [local go_sem ↓] Go.wp_at_zero Go.wp_at_succ
theorem rdc_string {w : World} {ao : Option Addr} {b off len cap : Nat} {l : List ByteArray} (h : RdS w ao b off len l) (hn : ao = none → cap = 0) : RdC w (.slice ao len cap) len (l.map Value.string) := by
  refine ⟨ao, cap, rfl, fun e => ⟨?_, hn e⟩, fun ad ha j c hj => ?_⟩
  · rcases Nat.eq_zero_or_pos len with h0 | h0
    · exact h0
    · have := h.ptr h0; rw [e] at this; cases this
  · have hj' : j < len := by have := (List.getElem?_eq_some_iff.1 hj).1; rw [List.length_map, h.hl] at this; exact this
    have := h.ptr (by omega)
    rw [ha] at this
    cases this
    rw [Addr.add_mid]
    exact h.rng j c hj
/-- Texts appended to texts of one's own: where they went. -/
theorem wpList_append_SA (w : World) {ops : Array Oper} {rest : List Oper} {o : Oper} {a : Act} {Q : Exit → Act → World → Prop}
    (hg : o.guard = none) (s x : Operand) (hop : o.op = Op.call { callee := Callee.builtin Builtin.append, args := #[s, x], argTypes := #[24, 24] })
    (B : Nat) (v : Value) (L : List ByteArray) (hs : a.eval s = v) (hown : OwnS w B v L) (ao : Option Addr) (b off len cap : Nat) (M : List ByteArray) (hx : a.eval x = .slice ao len cap) (hr : RdS w ao b off len M) (hn : ao = none → cap = 0)
    (hlen : L.length + M.length ≤ 1048576) (hB : B ≤ w.heap.size)
    (hK : ∀ v' w', OwnS w' B v' (L ++ M) → w.grownBy w' v.ownBlock → (v'.ownBlock = v.ownBlock ∨ ∀ g, v'.ownBlock = some g → w.heap.size ≤ g) → wpList Tryd.prog ops Q rest (a.put o.dst v') w') : wpList Tryd.prog ops Q (o :: rest) a w := by
  obtain ⟨i0, hi, hz0, hz1, hz2⟩ := info_parts Tryd.infoS
  have hl := hr.hl
  refine Cv.wpList_append_ap w hg s x _ hop B 9 i0 (.string ByteArray.empty) 1 16 Tryd.underlying24 hi hz0 hz1 hz2 rfl (by decide) v L.length (L.map Value.string) hs hown (.slice ao len cap) len (M.map Value.string) hx (rdc_string hr hn) (by rw [List.length_map, hl, Nat.mul_one]) (by intro u hu; obtain ⟨y, _, rfl⟩ := List.mem_map.1 hu; rfl) (by unfold maxLen; omega) (by omega) hB ?_
  intro v' w' h
  refine hK v' w' ?_ h.grown h.fresh
  rw [OwnS, List.length_append, List.map_append, hl]
  exact h.own
theorem wp_append_S (w : World) {o : Oper} {a : Act} {K : Act → World → Prop} {Q : Exit → Act → World → Prop}
    (s x : Operand) (hop : o.op = Op.call { callee := Callee.builtin Builtin.append, args := #[s, x], argTypes := #[24, 24] })
    (B : Nat) (v : Value) (L : List ByteArray) (hs : a.eval s = v) (hown : OwnS w B v L) (ad : Addr) (b off cap : Nat) (M : List ByteArray) (hx : a.eval x = .slice (some ad) M.length cap) (hr : RdS w (some ad) b off M.length M)
    (hlen : L.length + M.length ≤ 8796093022208) (hB : B ≤ w.heap.size)
    (hK : ∀ v' w', OwnS w' B v' (L ++ M) → Below B w w' → K (a.put o.dst v') w') : o.wp Tryd.prog a w K Q := by
  obtain ⟨i0, hi, hz0, hz1, hz2⟩ := info_parts Tryd.infoS
  have hlt : ∀ k, v.ownBlock = some k → B ≤ k := fun k hk => (World.ownsRow.lt hown k hk).1
  have hnews : ∀ j u, (M.map Value.string)[j]? = some u → w.cell? (ad.add j) = some u := fun j u hu => by
    have hj : j < M.length := by have := (List.getElem?_eq_some_iff.1 hu).1; rwa [List.length_map] at this
    have := Option.some.inj (hr.ptr (by omega))
    subst this
    rw [Addr.add_mid]; exact hr.rng j u hu
  obtain ⟨v', w', hrun, r1, r2, _⟩ := run_append_own (P := Tryd.prog) w B 24 o.type 9 i0 (.string ByteArray.empty) 1 16 Tryd.underlying24 hi hz0 hz1 hz2 rfl (by decide) v L.length _ hown ad M.length cap (M.map Value.string) (by simp) hnews (by intro u hu; obtain ⟨y, _, rfl⟩ := List.mem_map.1 hu; rfl) (by unfold maxLen; omega) (by omega) hB
  unfold Oper.wp
  simp [execOp, hop, resolve, invoke, builtin, hs, hx, hrun, Result.andThen]
  refine hK v' w' ?_ ((Below.refl _ _).grown r2 hB hlt)
  rw [OwnS, List.length_append, List.map_append]; exact r1
theorem step_append_S (w : World) {ops : Array Oper} {o : Oper} {a : Act} {K : Act → World → Prop} {Q : Exit → Act → World → Prop} {E : Prop} (hgd : o.guard = none)
    (s x : Operand) (hop : o.op = Op.call { callee := Callee.builtin Builtin.append, args := #[s, x], argTypes := #[24, 24] })
    (B : Nat) (v : Value) (L : List ByteArray) (hs : a.eval s = v) (hown : OwnS w B v L) (ad : Addr) (b off cap : Nat) (M : List ByteArray) (hx : a.eval x = .slice (some ad) M.length cap) (hr : RdS w (some ad) b off M.length M)
    (hlen : L.length + M.length ≤ 8796093022208) (hB : B ≤ w.heap.size)
    (hK : ∀ v' w', OwnS w' B v' (L ++ M) → Below B w w' → K (a.put o.dst v') w') : if Region.wanted o (yielded ops a.tmps) = true then Oper.wp Tryd.prog o a w K Q else E := by
  have hw : Region.wanted o (yielded ops a.tmps) = true := by simp [Region.wanted, hgd]
  rw [if_pos hw]
  exact wp_append_S w s x hop B v L hs hown ad b off cap M hx hr hlen hB hK
/-- Nothing has changed but the block q. -/
structure Bx (q : Nat) (w w' : World) : Prop where
  os : w'.os = w.os
  tape : w'.tape = w.tape
  output : w'.output = w.output
  size : w.heap.size ≤ w'.heap.size
  block : ∀ b, b < w.heap.size → b ≠ q → w'.heap[b]? = w.heap[b]?
section
variable {q : Nat} {w w1 w2 : World}
theorem Bx.refl (q : Nat) (w : World) : Bx q w w := ⟨rfl, rfl, rfl, Nat.le_refl _, fun _ _ _ => rfl⟩
theorem Bx.low (h : Bx q w w1) (hb : Below w.heap.size w1 w2) : Bx q w w2 := ⟨hb.os.trans h.os, hb.tape.trans h.tape, hb.output.trans h.output, Nat.le_trans h.size hb.size, fun b h1 h2 => (hb.block b h1).trans (h.block b h1 h2)⟩
theorem Bx.next (h : Bx q w w1) (hb : Below w1.heap.size w1 w2) : Bx q w w2 := ⟨hb.os.trans h.os, hb.tape.trans h.tape, hb.output.trans h.output, Nat.le_trans h.size hb.size, fun b h1 h2 => (hb.block b (Nat.lt_of_lt_of_le h1 h.size)).trans (h.block b h1 h2)⟩
theorem Bx.put (h : Bx q w w1) (hc : ChT (fun b => b = q) w1 w2) : Bx q w w2 := ⟨hc.os.trans h.os, hc.tape.trans h.tape, hc.output.trans h.output, by rw [hc.size]; exact h.size, fun b h1 h2 => (hc.block b h2).trans (h.block b h1 h2)⟩
theorem Bx.grown (h : Bx q w w1) {ob : Option Nat} (hg : w1.grownBy w2 ob) (ho : ∀ k, ob = some k → w.heap.size ≤ k) : Bx q w w2 :=
  ⟨hg.os.trans h.os, hg.tape.trans h.tape, hg.output.trans h.output, Nat.le_trans h.size hg.size, fun b h1 h2 => (hg.block b (Nat.lt_of_lt_of_le h1 h.size) (fun e => by have := ho b e.symm; omega)).trans (h.block b h1 h2)⟩
theorem Bx.trans {w0 : World} (h0 : Bx q w0 w) (h : Bx q w w1) : Bx q w0 w1 := ⟨h.os.trans h0.os, h.tape.trans h0.tape, h.output.trans h0.output, Nat.le_trans h0.size h.size, fun b h1 h2 => (h.block b (Nat.lt_of_lt_of_le h1 h0.size) h2).trans (h0.block b h1 h2)⟩
theorem Bx.below (h : Bx q w w1) {B : Nat} (hB : B ≤ q) (hw : B ≤ w.heap.size) : Below B w w1 := ⟨h.os, h.tape, h.output, h.size, fun b hb => h.block b (by omega) (by omega)⟩
end
/-- Two lists that share no block. -/
def Apt (v u : Value) : Prop := ∀ k, v.ownBlock = some k → u.ownBlock = some k → False
/-- The reference's Prove, on its way: its proof at q, the digests of other mountains in u. -/
structure Pv (w2 wr : World) (q : Nat) (a b c d e : Value) (u v : Value) (O E : List ByteArray) : Prop where
  o : OwnS wr w2.heap.size u O
  dd : OwnS wr w2.heap.size v E
  ap : Apt u v
  six : Six wr q a b c d e v
  bx : Bx q w2 wr
section
variable {w2 wr w' : World} {q : Nat} {a b c d e u v : Value} {O E : List ByteArray}
theorem Pv.next (h : Pv w2 wr q a b c d e u v O E) (hb : Below wr.heap.size wr w') : Pv w2 w' q a b c d e u v O E :=
  ⟨own_next h.o hb (Nat.le_refl _), own_next h.dd hb (Nat.le_refl _), h.ap, h.six.next hb, h.bx.next hb⟩
theorem Pv.oth (h : Pv w2 wr q a b c d e u v O E) (hq : q < w2.heap.size) {u' : Value} {O' : List ByteArray} (o1 : OwnS w' w2.heap.size u' O') (hg : wr.grownBy w' u.ownBlock) (hf : u'.ownBlock = u.ownBlock ∨ ∀ g, u'.ownBlock = some g → wr.heap.size ≤ g) : Pv w2 w' q a b c d e u' v O' E := by
  have hlo : ∀ k, u.ownBlock = some k → w2.heap.size ≤ k := fun k hk => (World.ownsRow.lt h.o k hk).1
  refine ⟨o1, World.ownsRow.kept h.dd hg ?_, ?_, h.six.same (hg.block q h.six.lt (fun e => by have := hlo q e.symm; omega)), h.bx.grown hg hlo⟩
  · cases hv : v.ownBlock with
    | none => exact .inl rfl
    | some k => exact .inr (fun e => h.ap k e.symm hv)
  · intro k k1 k2
    rcases hf with hf | hf
    · exact h.ap k (by rw [← hf]; exact k1) k2
    · have := hf k k1
      have := (World.ownsRow.lt h.dd k k2).2
      omega
end
end Go.Proofs.YtgmnolepaidiiaaDoor
