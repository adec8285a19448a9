/-
  Own work: CvBase, CvWalkA.
-/
import Derived.Test.YtipcenbndhnnhaaGreatDoorProg
import Derived.WalkKit
import Derived.WalkSpells
import Derived.Outline
import Derived.KernelRfl
import Derived.Deep.LoopGhost
import Derived.Deep.DrawnRows
import Derived.Deep.Light
import Derived.Deep.MidRow
import Derived.Deep.Onto
import Derived.Deep.RegionWith
import Derived.BigQuiet
import Derived.Laws.Bits64b
import Derived.Handy
import Derived.ArgAppend
import Derived.Laws.AppendOwnNone
import Derived.Test.YtipcenbndhnnhaaGreatDoorQk06
namespace Go.Proofs.YtipcenbndhnnhaaGreatDoor.Cv
open Pl
open Go.RowKit
attribute [local go_sem ↓] Go.wp_at_zero Go.wp_at_succ
theorem Tryz.infoU : (Tryz.prog.info? 23).map (fun i => (i.zero, i.size, i.bytes)) = some (some (.int .u64 0), 1, 8) := by kernel_rfl
theorem Tryz.infoB : (Tryz.prog.info? 94).map (fun i => (i.zero, i.size, i.bytes)) = some (some (.agg #[.int .i64 0, .int .u64 0]), 2, 16) := by kernel_rfl
theorem bnext {w W w2 : World} (h : Below w.heap.size w W) (h2 : Below W.heap.size W w2) : Below w.heap.size w w2 := h.trans (h2.mono h.size)
theorem bal {w W : World} (h : Below w.heap.size w W) (o : Obj) : Below w.heap.size w (W.alloc o) := h.alloc h.size o
theorem below_drewN {B : Nat} {a w : World} (h : Below B a w) (n : Nat) : Below B a (w.drewN n) := ⟨h.os, h.tape, h.output, h.size, h.block⟩
abbrev cU (l : List Nat) : List Value := l.map (fun x : Nat => Value.int .u64 (x : Int))
def cB : List (Int × Nat) → List Value
  | [] => []
  | b :: r => .int .i64 b.1 :: .int .u64 (b.2 : Int) :: cB r
def zl (L : List (Nat × Nat)) : List (Int × Nat) := L.map (fun b => ((b.1 : Int), b.2))
theorem zl_app (L M : List (Nat × Nat)) : zl (L ++ M) = zl L ++ zl M := List.map_append
theorem zl_len (L : List (Nat × Nat)) : (zl L).length = L.length := List.length_map _
theorem zl_one (h k : Nat) : zl [(h, k)] = [((h : Int), k)] := rfl
theorem cB_len (l : List (Int × Nat)) : (cB l).length = l.length * 2 := by
  induction l with
  | nil => rfl
  | cons b r ih => simp [cB, ih]; omega
theorem cB_app (l m : List (Int × Nat)) : cB (l ++ m) = cB l ++ cB m := by
  induction l with
  | nil => rfl
  | cons b r ih => simp [cB, ih]
theorem cB_one (l : List (Int × Nat)) : ∀ u ∈ cB l, u.oneCell' = true := by
  induction l with
  | nil => intro u hu; cases hu
  | cons b r ih =>
    intro u hu
    simp [cB] at hu
    rcases hu with rfl | rfl | hu
    · rfl
    · rfl
    · exact ih u hu
theorem cU_one (l : List Nat) : ∀ u ∈ cU l, u.oneCell' = true := by
  intro u hu; simp [cU] at hu; obtain ⟨y, _, rfl⟩ := hu; rfl
theorem cB_get (l : List (Int × Nat)) (j : Nat) (h : Int) (k : Nat) (hj : l[j]? = some (h, k)) : (cB l)[2 * j]? = some (.int .i64 h) ∧ (cB l)[2 * j + 1]? = some (.int .u64 (k : Int)) := by
  induction l generalizing j with
  | nil => simp at hj
  | cons b r ih =>
    cases j with
    | zero => simp at hj; subst hj; exact ⟨rfl, rfl⟩
    | succ j =>
      have := ih j (by simpa using hj)
      rw [show 2 * (j + 1) = 2 * j + 1 + 1 by omega]
      simpa [cB] using this
abbrev OwnB (w : World) (base : Nat) (v : Value) (l : List (Int × Nat)) : Prop := w.ownsRow base 94 2 v l.length (cB l)
abbrev Own (w : World) (base : Nat) (v : Value) (l : List Nat) : Prop := w.ownsRow base 23 1 v l.length (cU l)
def RdC (w : World) (u : Value) (m : Nat) (news : List Value) : Prop :=
  ∃ ao cap, u = .slice ao m cap ∧ (ao = none → m = 0 ∧ cap = 0) ∧ ∀ ad, ao = some ad → ∀ j c, news[j]? = some c → w.cell? (ad.add j) = some c
theorem rdc_own {w : World} {B e size : Nat} {v : Value} {n : Nat} {xs : List Value} (h : w.ownsRow B e size v n xs) : RdC w v n xs := by
  have h0 := h
  obtain ⟨h1, h2⟩ := h
  rcases h2 with ⟨rfl, rfl⟩ | ⟨g, cap, cur, rfl, hg, hh, hc⟩
  · exact ⟨none, 0, rfl, fun _ => ⟨rfl, rfl⟩, fun ad h => by cases h⟩
  · exact ⟨some ⟨g, 0, none⟩, cap, rfl, (fun h => by cases h), fun ad h => by cases h; exact h0.cells rfl⟩
theorem rdc_keep {w w' : World} {u : Value} {m : Nat} {news : List Value} (h : RdC w u m news) (hb : Below w.heap.size w w') : RdC w' u m news := by
  obtain ⟨ao, cap, h1, h2, h3⟩ := h
  exact ⟨ao, cap, h1, h2, fun ad ha j c hj => (hb.cell (World.block_lt_of_cell? w _ (h3 ad ha j c hj))).trans (h3 ad ha j c hj)⟩
structure Ap (w w' : World) (B e size : Nat) (v v' : Value) (n : Nat) (xs : List Value) : Prop where
  own : w'.ownsRow B e size v' n xs
  grown : w.grownBy w' v.ownBlock
  fresh : v'.ownBlock = v.ownBlock ∨ ∀ g, v'.ownBlock = some g → w.heap.size ≤ g
theorem wpList_append_ap (w : World) {ops : Array Oper} {rest : List Oper} {o : Oper} {a : Act} {Q : Exit → Act → World → Prop}
    (hg : o.guard = none) (s x : Operand) (t : TypeId) (hop : o.op = Op.call { callee := Callee.builtin Builtin.append, args := #[s, x], argTypes := #[t, t] })
    (B : Nat) (e : TypeId) (i : TypeInfo) (z : Value) (size bytes : Nat) (h1 : Tryz.prog.underlying t = some (.slice e)) (h2 : Tryz.prog.info? e = some i) (h3 : i.zero = some z) (h4 : i.size = size) (h5 : i.bytes = bytes) (h6 : z.cells.size = size) (h7 : 0 < size)
    (v : Value) (n : Nat) (xs : List Value) (hs : a.eval s = v) (hown : w.ownsRow B e size v n xs) (u : Value) (m : Nat) (news : List Value) (hx : a.eval x = u) (hr : RdC w u m news) (hn : news.length = m * size) (h1c : ∀ u ∈ news, u.oneCell' = true)
    (b1 : n + m ≤ maxLen) (b2 : (n + m) * bytes ≤ 140737488355328) (hB : B ≤ w.heap.size)
    (hK : ∀ v' w', Ap w w' B e size v v' (n + m) (xs ++ news) → wpList Tryz.prog ops Q rest (a.put o.dst v') w') : wpList Tryz.prog ops Q (o :: rest) a w := by
  obtain ⟨ao, cap, rfl, hnone, hcells⟩ := hr
  cases ao with
  | none =>
    obtain ⟨rfl, rfl⟩ := hnone rfl
    have hnil : news = [] := List.length_eq_zero_iff.1 (by rw [hn]; omega)
    subst hnil
    exact wpList_append_own_none hg s x _ hop B e i size h1 h2 v n xs hs hown hx (hK _ w ⟨by simpa using hown, World.grownBy.refl w _, .inl rfl⟩)
  | some ad =>
    have hown0 := hown
    obtain ⟨g1, g2⟩ := hown
    rcases g2 with ⟨rfl, rfl⟩ | ⟨g, cp, cur, rfl, hgb, hh, hc⟩
    · have hxs : xs = [] := List.length_eq_zero_iff.1 (by omega)
      subst hxs
      refine wpList_append_own w hg s x _ hop w.heap.size e i z size bytes h1 h2 h3 h4 h5 h6 h7 _ 0 [] hs (World.ownsRow_nil _ _ _ _) ad m cap news hx hn (hcells ad rfl) h1c b1 b2 (Nat.le_refl _) ?_
      intro v' w' r1 r2 _
      exact hK v' w' ⟨r1.mono hB, r2, .inr fun k hk => (r1.lt k hk).1⟩
    · by_cases hfit : n + m ≤ cp
      · refine wpList_append_fits w hg s x _ hop B e i size h1 h2 h4 g n cp xs hs hown0 ad m cap news hx hn (hcells ad rfl) h1c hfit ?_
        intro w' r1 r2
        exact hK _ w' ⟨r1, r2, .inl rfl⟩
      · refine wpList_append_grows w hg s x _ hop e i z size bytes h1 h2 h3 h4 h5 h6 h7 (some ⟨g, 0, none⟩) n cp xs hs (fun h => by cases h) g1 (fun b hb => by cases hb; exact hown0.cells rfl) ad m cap news hx hn (hcells ad rfl) h1c (by omega) b1 b2 ?_
        intro v' w' r1 r2
        exact hK v' w' ⟨r1.mono hB, ⟨r2.os, r2.tape, r2.output, r2.size, fun k hk _ => r2.block k hk (by simp)⟩, .inr fun k hk => (r1.lt k hk).1⟩
theorem wpList_append_B (w : World) {ops : Array Oper} {rest : List Oper} {o : Oper} {a : Act} {Q : Exit → Act → World → Prop}
    (hg : o.guard = none) (s x : Operand) (hop : o.op = Op.call { callee := Callee.builtin Builtin.append, args := #[s, x], argTypes := #[65, 65] })
    (B : Nat) (v : Value) (L : List (Int × Nat)) (hs : a.eval s = v) (hown : OwnB w B v L) (u : Value) (M : List (Int × Nat)) (hx : a.eval x = u) (hr : RdC w u M.length (cB M))
    (hlen : L.length + M.length ≤ 1048576) (hB : B ≤ w.heap.size)
    (hK : ∀ v' w', OwnB w' B v' (L ++ M) → w.grownBy w' v.ownBlock → (v'.ownBlock = v.ownBlock ∨ ∀ g, v'.ownBlock = some g → w.heap.size ≤ g) → wpList Tryz.prog ops Q rest (a.put o.dst v') w') : wpList Tryz.prog ops Q (o :: rest) a w := by
  obtain ⟨i0, hi, hz0, hz1, hz2⟩ := info_parts Tryz.infoB
  refine wpList_append_ap w hg s x _ hop B 94 i0 (.agg #[.int .i64 0, .int .u64 0]) 2 16 Tryz.underlying65 hi hz0 hz1 hz2 rfl (by decide) v L.length (cB L) hs hown u M.length (cB M) hx hr (cB_len M) (cB_one M) (by unfold maxLen; omega) (by omega) hB ?_
  intro v' w' h
  refine hK v' w' ?_ h.grown h.fresh
  rw [OwnB, cB_app, List.length_append]
  exact h.own
theorem wpList_append_U (w : World) {ops : Array Oper} {rest : List Oper} {o : Oper} {a : Act} {Q : Exit → Act → World → Prop}
    (hg : o.guard = none) (s x : Operand) (hop : o.op = Op.call { callee := Callee.builtin Builtin.append, args := #[s, x], argTypes := #[24, 24] })
    (B : Nat) (v : Value) (L : List Nat) (hs : a.eval s = v) (hown : Own w B v L) (u : Value) (M : List Nat) (hx : a.eval x = u) (hr : RdC w u M.length (cU M))
    (hlen : L.length + M.length ≤ 1048576) (hB : B ≤ w.heap.size)
    (hK : ∀ v' w', Own w' B v' (L ++ M) → w.grownBy w' v.ownBlock → (v'.ownBlock = v.ownBlock ∨ ∀ g, v'.ownBlock = some g → w.heap.size ≤ g) → wpList Tryz.prog ops Q rest (a.put o.dst v') w') : wpList Tryz.prog ops Q (o :: rest) a w := by
  obtain ⟨i0, hi, hz0, hz1, hz2⟩ := info_parts Tryz.infoU
  refine wpList_append_ap w hg s x _ hop B 23 i0 (.int .u64 0) 1 8 Tryz.underlying24 hi hz0 hz1 hz2 rfl (by decide) v L.length (cU L) hs hown u M.length (cU M) hx hr (by simp [cU]) (cU_one M) (by unfold maxLen; omega) (by omega) hB ?_
  intro v' w' h
  refine hK v' w' ?_ h.grown h.fresh
  have := h.own
  rw [Own, List.length_append]
  simpa [cU] using this
theorem rdc_block (w : World) (h : Int) (k t : Nat) : RdC (w.alloc (.cells #[.int .i64 h, .int .u64 (k : Int)] t)) (.slice (some ⟨w.heap.size, 0, none⟩) 1 1) [(h, k)].length (cB [(h, k)]) := by
  refine ⟨some ⟨w.heap.size, 0, none⟩, 1, rfl, (fun h => by cases h), fun ad ha j c hj => ?_⟩
  cases ha
  match j, hj with
  | 0, hj => simp [cB] at hj; subst hj; simp [Addr.add, World.cell?_alloc_at]
  | 1, hj => simp [cB] at hj; subst hj; simp [Addr.add, World.cell?_alloc_at]
theorem rdc_num (w : World) (k t : Nat) : RdC (w.alloc (.cells #[.int .u64 (k : Int)] t)) (.slice (some ⟨w.heap.size, 0, none⟩) 1 1) [k].length (cU [k]) := by
  refine ⟨some ⟨w.heap.size, 0, none⟩, 1, rfl, (fun h => by cases h), fun ad ha j c hj => ?_⟩
  cases ha
  match j, hj with
  | 0, hj => simp [cU] at hj; subst hj; simp [Addr.add, World.cell?_alloc_at]
theorem ownB_next {w w' : World} {B e size n : Nat} {v : Value} {l : List Value} (h : w.ownsRow B e size v n l) (hb : Below w.heap.size w w') : w'.ownsRow B e size v n l := by
  obtain ⟨h1, h2⟩ := h
  refine ⟨h1, ?_⟩
  rcases h2 with h2 | ⟨g, cap, cur, hv, hg, hh, h3⟩
  · exact .inl h2
  · exact .inr ⟨g, cap, cur, hv, hg, (hb.block g (by have := (Array.getElem?_eq_some_iff.1 hh).1; exact this)).trans hh, h3⟩
theorem ownB_step {B : Nat} {w wr w1 : World} {v : Value} {o : Obj} {e size n : Nat} {xs : List Value} (hB : Below B w wr) (hs : B ≤ wr.heap.size) (hown : wr.ownsRow B e size v n xs) (hg : (wr.alloc o).grownBy w1 v.ownBlock) : Below B w w1 ∧ B ≤ w1.heap.size := by
  have h1 := hg.size
  rw [World.size_alloc] at h1
  exact ⟨(hB.alloc hs o).grown hg (by simp; omega) (fun j hj => (hown.lt j hj).1), by omega⟩
theorem ownB_step0 {B : Nat} {w wr w1 : World} {v : Value} {e size n : Nat} {xs : List Value} (hB : Below B w wr) (hs : B ≤ wr.heap.size) (hown : wr.ownsRow B e size v n xs) (hg : wr.grownBy w1 v.ownBlock) : Below B w w1 ∧ B ≤ w1.heap.size := by
  have h1 := hg.size
  exact ⟨hB.grown hg hs (fun j hj => (hown.lt j hj).1), by omega⟩
end Go.Proofs.YtipcenbndhnnhaaGreatDoor.Cv
namespace Go.Proofs.YtipcenbndhnnhaaGreatDoor.Cv
open Pl
open Go.RowKit
attribute [local go_sem ↓] Go.wp_at_zero Go.wp_at_succ
theorem length_any (h : Nat) (w : World) (hh : h < 64) : Calls Tryz.prog 149 #[.int .i64 (h : Int)] w fun e w' => e = .returned (.int .u64 (pw h : Nat)) ∧ w = w' := by
  have hk0 : (0 : Int) ≤ (h : Int) := Int.natCast_nonneg _
  have hk1 : (h : Int) < 64 := by omega
  have hk2 : ¬ (h : Int) < 0 := by omega
  obtain ⟨p, hp⟩ : ∃ p : Nat, pw h = p := ⟨_, rfl⟩
  have e1 : IntKind.u64.wrap ((2 : Int) ^ h) = (p : Int) := by
    have h64 : pw h ≤ pw 63 := pw_le (by omega)
    have e63 : pw 63 = 2 ^ 63 := rfl
    have e : ((2 : Int) ^ h) = (p : Int) := by rw [← hp]; simp [pw]
    rw [e, IntKind.wrap_u64]; omega
  rw [hp]
  clear hp hh
  go_enter Tryz.func149, Tryz.ntmps149
  go_wp2
  go_ret
  exact ⟨rfl, rfl⟩
theorem heap_al {w : World} {b : Nat} (o : Obj) (hb : b < w.heap.size) : (w.alloc o).heap[b]? = w.heap[b]? := (World.grownBy_alloc w o none).block b hb (by simp)
theorem own_of_block {w w' : World} {B e size n : Nat} {v : Value} {xs : List Value} (h : w.ownsRow B e size v n xs) (hb : ∀ g, v.ownBlock = some g → w'.heap[g]? = w.heap[g]?) : w'.ownsRow B e size v n xs := by
  obtain ⟨h1, h2⟩ := h
  refine ⟨h1, ?_⟩
  rcases h2 with h2 | ⟨g, cap, cur, hv, hg, hh, h3⟩
  · exact .inl h2
  · subst hv
    exact .inr ⟨g, cap, cur, rfl, hg, (hb g rfl).trans hh, h3⟩
theorem own_slice {w : World} {B e size n : Nat} {v : Value} {xs : List Value} (h : w.ownsRow B e size v n xs) : ∃ ao m c, v = .slice ao m c := by
  rcases h.2 with ⟨rfl, _⟩ | ⟨g, cap, cur, rfl, _⟩
  · exact ⟨_, _, _, rfl⟩
  · exact ⟨_, _, _, rfl⟩
structure Give (k B0 M : Nat) (I : (Nat → Prop) → List (Nat × Nat) → World → Prop) : Prop where
  give : ∀ X acc (h q : Nat) w, I X acc w → (∀ x, X x → x < w.heap.size) → acc.length < M →
    Calls Tryz.prog k #[.agg #[.int .i64 (h : Int), .int .u64 (q : Int)], .pointer (some ⟨B0, 0, none⟩)] w fun e w' => e = .returned (.tuple #[]) ∧ I X (acc ++ [(h, q)]) w' ∧ Below B0 w w' ∧ ∀ x, X x → w'.heap[x]? = w.heap[x]?
  stay : ∀ X X' acc w w', I X acc w → (∀ b, b < w.heap.size → ¬ X b → w'.heap[b]? = w.heap[b]?) → (∀ x, X' x → X x ∨ w.heap.size ≤ x) → I X' acc w'
  lt : ∀ X acc w, I X acc w → B0 < w.heap.size
structure IA (B0 : Nat) (X : Nat → Prop) (acc : List (Nat × Nat)) (w : World) : Prop where
  ex : ∃ v, w.heap[B0]? = some (.cells #[v] 65 (0, 0)) ∧ OwnB w (B0 + 1) v (zl acc) ∧ ∀ g, v.ownBlock = some g → ¬ X g
  nx : ¬ X B0
theorem ia_stay (B0 : Nat) (X X' : Nat → Prop) (acc : List (Nat × Nat)) (w w' : World) (h : IA B0 X acc w) (hb : ∀ b, b < w.heap.size → ¬ X b → w'.heap[b]? = w.heap[b]?) (hx : ∀ x, X' x → X x ∨ w.heap.size ≤ x) : IA B0 X' acc w' := by
  obtain ⟨⟨v, h1, h2, h3⟩, h4⟩ := h
  have hlt : B0 < w.heap.size := (Array.getElem?_eq_some_iff.1 h1).1
  refine ⟨⟨v, (hb B0 hlt h4).trans h1, own_of_block h2 (fun g hg => hb g (h2.lt g hg).2 (h3 g hg)), fun g hg hxg => ?_⟩, fun hx0 => ?_⟩
  · rcases hx g hxg with h | h
    · exact h3 g hg h
    · have := (h2.lt g hg).2; omega
  · rcases hx B0 hx0 with h | h
    · exact h4 h
    · omega
theorem ia_lt (B0 : Nat) (X : Nat → Prop) (acc : List (Nat × Nat)) (w : World) (h : IA B0 X acc w) : B0 < w.heap.size := by
  obtain ⟨⟨v, h1, h2, h3⟩, h4⟩ := h
  exact (Array.getElem?_eq_some_iff.1 h1).1
theorem ia_after {B0 h q : Nat} {X : Nat → Prop} {acc : List (Nat × Nat)} {w w1 : World} {v v' : Value} {o1 o2 : Obj} (h1 : w.heap[B0]? = some (.cells #[v] 65 (0, 0))) (h2 : OwnB w (B0 + 1) v (zl acc)) (h3 : ∀ g, v.ownBlock = some g → ¬ X g) (h4 : ¬ X B0) (hX : ∀ x, X x → x < w.heap.size)
    (hown : OwnB w1 (B0 + 1) v' (zl acc ++ [((h : Int), q)])) (hg : ((w.alloc o1).alloc o2).grownBy w1 v.ownBlock) (hf : v'.ownBlock = v.ownBlock ∨ ∀ g, v'.ownBlock = some g → w.heap.size + 1 + 1 ≤ g) :
    IA B0 X (acc ++ [(h, q)]) (w1.setCell ⟨B0, 0, none⟩ v') ∧ Below B0 w (w1.setCell ⟨B0, 0, none⟩ v') ∧ ∀ x, X x → (w1.setCell ⟨B0, 0, none⟩ v').heap[x]? = w.heap[x]? := by
  have hlt : B0 < w.heap.size := (Array.getElem?_eq_some_iff.1 h1).1
  have hbl : ∀ b, b < w.heap.size → some b ≠ v.ownBlock → w1.heap[b]? = w.heap[b]? := fun b hb hne => by
    rw [hg.block b (by simp; omega) hne, heap_al _ (by simp; omega), heap_al _ hb]
  have hne0 : some B0 ≠ v.ownBlock := fun e => by have := (h2.lt B0 e.symm).1; omega
  have c1 : w1.heap[B0]? = some (.cells #[v] 65 (0, 0)) := (hbl B0 hlt hne0).trans h1
  have hoth : ∀ b, b ≠ B0 → (w1.setCell ⟨B0, 0, none⟩ v').heap[b]? = w1.heap[b]? := fun b hb => Below.heap_setCell _ _ _ _ hb
  refine ⟨⟨⟨v', one_setCell c1, ?_, ?_⟩, h4⟩, ?_, ?_⟩
  · rw [zl_app, zl_one]
    exact own_of_block hown (fun g hgg => hoth g (by have := (hown.lt g hgg).1; omega))
  · intro g hgg hxg
    rcases hf with hf | hf
    · exact h3 g (hf ▸ hgg) hxg
    · have := hf g hgg
      have := hX g hxg
      simp at *; omega
  · have b1 : Below B0 w w1 := by
      have := ((Below.refl B0 w).alloc (by omega) o1).alloc (by simp; omega) o2
      exact this.grown hg (by simp; omega) (fun j hj => by have := (h2.lt j hj).1; omega)
    exact b1.setCell (Nat.le_refl _) _
  · intro x hx
    have hne : x ≠ B0 := fun e => h4 (e ▸ hx)
    rw [hoth x hne]
    exact hbl x (hX x hx) (fun e => h3 x e.symm hx)
theorem give_range (B0 : Nat) : Give 105 B0 1000000 (IA B0) := by
  refine ⟨fun X acc h q w hI hX hl => ?_, ia_stay B0, ia_lt B0⟩
  obtain ⟨⟨v, h1, h2, h3⟩, h4⟩ := hI
  have hlt : B0 < w.heap.size := (Array.getElem?_eq_some_iff.1 h1).1
  have cV := cell_of_one h1
  have HH : Hid (w.heap[B0]? = some (.cells #[v] 65 (0, 0)) ∧ OwnB w (B0 + 1) v (zl acc) ∧ (∀ g, v.ownBlock = some g → ¬ X g) ∧ ¬ X B0 ∧ (∀ x, X x → x < w.heap.size) ∧ acc.length < 1000000) := ⟨h1, h2, h3, h4, hX, hl⟩
  have hne : ¬ B0 = w.heap.size := by omega
  have hle : B0 + 1 ≤ w.heap.size := hlt
  have cV1 : ∀ o : Obj, (w.alloc o).cell? ⟨B0, 0, none⟩ = some v := fun o => (World.cell?_of_block (heap_al o hlt)).trans cV
  clear h1 h3 h4 hX hl hlt cV
  have hle2 : B0 + 1 ≤ w.heap.size + 1 + 1 := by omega
  have hown2 := fun (o1 o2 : Obj) => (h2.alloc o1).alloc o2
  clear h2
  go_enter Tryz.func105, Tryz.ntmps105
  go_wp2_with (at_builtin; refine wpList_append_B _ rfl _ _ rfl (B0 + 1) v (zl acc) rfl (hown2 _ _) (.slice (some ⟨w.heap.size + 1, 0, none⟩) 1 1) [((h : Int), q)] rfl ?c1 ?c2 ?c3 ?_)
  case c1 => have := rdc_block (w.alloc (.cells #[.int .i64 (h : Int), .int .u64 (q : Int)] 94)) h q 94; rw [World.size_alloc] at this; exact this
  case c2 => have := HH.out.2.2.2.2.2; simp [zl_len]; omega
  case c3 => simp; omega
  intro v' w1 r1 r2 r3
  obtain ⟨ao, n1, cp1, rfl⟩ := own_slice r1
  have R := ia_after HH.out.1 HH.out.2.1 HH.out.2.2.1 HH.out.2.2.2.1 HH.out.2.2.2.2.1 r1 r2 r3
  have c1 : w1.heap[B0]? = some (.cells #[v] 65 (0, 0)) := by
    rw [r2.block B0 (by simp; omega) (fun e => by have := (HH.out.2.1.lt B0 e.symm).1; omega), heap_al _ (by simp; omega), heap_al _ (by omega)]; exact HH.out.1
  have cW := cell_of_one c1
  have fW := free_of_one c1
  clear r1 r2 r3 c1 cV1
  go_wp2
  go_end0
  exact ⟨rfl, R⟩
theorem give_rest (B0 : Nat) : Give 59 B0 1000000 (IA B0) := by
  refine ⟨fun X acc h q w hI hX hl => ?_, ia_stay B0, ia_lt B0⟩
  obtain ⟨⟨v, h1, h2, h3⟩, h4⟩ := hI
  have hlt : B0 < w.heap.size := (Array.getElem?_eq_some_iff.1 h1).1
  have cV := cell_of_one h1
  have HH : Hid (w.heap[B0]? = some (.cells #[v] 65 (0, 0)) ∧ OwnB w (B0 + 1) v (zl acc) ∧ (∀ g, v.ownBlock = some g → ¬ X g) ∧ ¬ X B0 ∧ (∀ x, X x → x < w.heap.size) ∧ acc.length < 1000000) := ⟨h1, h2, h3, h4, hX, hl⟩
  have hne : ¬ B0 = w.heap.size := by omega
  have hle : B0 + 1 ≤ w.heap.size := hlt
  have cV1 : ∀ o : Obj, (w.alloc o).cell? ⟨B0, 0, none⟩ = some v := fun o => (World.cell?_of_block (heap_al o hlt)).trans cV
  clear h1 h3 h4 hX hl hlt cV
  have hle2 : B0 + 1 ≤ w.heap.size + 1 + 1 := by omega
  have hown2 := fun (o1 o2 : Obj) => (h2.alloc o1).alloc o2
  clear h2
  go_enter Tryz.func59, Tryz.ntmps59
  go_wp2_with (at_builtin; refine wpList_append_B _ rfl _ _ rfl (B0 + 1) v (zl acc) rfl (hown2 _ _) (.slice (some ⟨w.heap.size + 1, 0, none⟩) 1 1) [((h : Int), q)] rfl ?c1 ?c2 ?c3 ?_)
  case c1 => have := rdc_block (w.alloc (.cells #[.int .i64 (h : Int), .int .u64 (q : Int)] 94)) h q 94; rw [World.size_alloc] at this; exact this
  case c2 => have := HH.out.2.2.2.2.2; simp [zl_len]; omega
  case c3 => simp; omega
  intro v' w1 r1 r2 r3
  obtain ⟨ao, n1, cp1, rfl⟩ := own_slice r1
  have R := ia_after HH.out.1 HH.out.2.1 HH.out.2.2.1 HH.out.2.2.2.1 HH.out.2.2.2.2.1 r1 r2 r3
  have c1 : w1.heap[B0]? = some (.cells #[v] 65 (0, 0)) := by
    rw [r2.block B0 (by simp; omega) (fun e => by have := (HH.out.2.1.lt B0 e.symm).1; omega), heap_al _ (by simp; omega), heap_al _ (by omega)]; exact HH.out.1
  have cW := cell_of_one c1
  have fW := free_of_one c1
  clear r1 r2 r3 c1 cV1
  go_wp2
  go_end0
  exact ⟨rfl, R⟩
structure IC (B0 : Nat) (X : Nat → Prop) (acc : List (Nat × Nat)) (w : World) : Prop where
  at0 : w.heap[B0]? = some (.cells #[.int .u64 (acc.length : Int)] 23 (0, 0))
  nx : ¬ X B0
theorem give_count (B0 : Nat) : Give 171 B0 4611686018427387904 (IC B0) := by
  refine ⟨fun X acc h q w hI hX hl => ?_, fun X X' acc w w' hI hb hx => ?_, fun X acc w hI => (Array.getElem?_eq_some_iff.1 hI.at0).1⟩
  · obtain ⟨h1, h4⟩ := hI
    have hlt : B0 < w.heap.size := (Array.getElem?_eq_some_iff.1 h1).1
    have cV := cell_of_one h1
    have fV := free_of_one h1
    have cV1 : ∀ o : Obj, (w.alloc o).cell? ⟨B0, 0, none⟩ = some (.int .u64 (acc.length : Int)) := fun o => (World.cell?_of_block (heap_al o hlt)).trans cV
    have fV1 : ∀ o : Obj, (w.alloc o).frozen? ⟨B0, 0, none⟩ = false := fun o => (World.frozen?_of_block (heap_al o hlt)).trans fV
    have HH : Hid (w.heap[B0]? = some (.cells #[.int .u64 (acc.length : Int)] 23 (0, 0)) ∧ ¬ X B0 ∧ (∀ x, X x → x < w.heap.size) ∧ B0 < w.heap.size) := ⟨h1, h4, hX, hlt⟩
    have e1 : IntKind.u64.wrap ((acc.length : Int) + 1) = ((acc.length + 1 : Nat) : Int) := by rw [IntKind.wrap_u64]; omega
    have hne : ¬ B0 = w.heap.size := by omega
    clear h1 h4 hX hlt cV fV hl
    go_enter Tryz.func171, Tryz.ntmps171
    go_wp2
    go_end0
    obtain ⟨h1, h4, hX, hlt⟩ := HH.out
    refine ⟨rfl, ?_⟩
    have e2 : ((acc.length : Int) + 1) = ((acc.length + 1 : Nat) : Int) := by omega
    have h1' : ∀ o : Obj, (w.alloc o).heap[B0]? = some (.cells #[.int .u64 (acc.length : Int)] 23 (0, 0)) := fun o => (heap_al o hlt).trans h1
    have key : ∀ o : Obj, ((w.alloc o).setCell ⟨B0, 0, none⟩ (.int .u64 ((acc.length : Int) + 1))).heap[B0]? = some (.cells #[.int .u64 ((acc.length + 1 : Nat) : Int)] 23 (0, 0)) := fun o => by
      rw [e2]; exact one_setCell (h1' o)
    have hoth : ∀ (o : Obj) b, b < w.heap.size → b ≠ B0 → ((w.alloc o).setCell ⟨B0, 0, none⟩ (.int .u64 ((acc.length : Int) + 1))).heap[b]? = w.heap[b]? := fun o b hb hne => by
      rw [Below.heap_setCell _ _ _ _ hne]; exact heap_al o hb
    refine ⟨⟨?_, h4⟩, ?_, fun x hx => hoth _ x (hX x hx) (fun e => h4 (e ▸ hx))⟩
    · rw [List.length_append]; exact key _
    · exact ((Below.refl B0 w).alloc (by omega) _).setCell (Nat.le_refl B0) _
  · have hlt := (Array.getElem?_eq_some_iff.1 hI.at0).1
    refine ⟨(hb B0 hlt hI.nx).trans hI.at0, fun hx0 => ?_⟩
    rcases hx B0 hx0 with h | h
    · exact hI.nx h
    · omega
abbrev gv (k B0 : Nat) : Value := .func (.func k) #[] #[.pointer (some ⟨B0, 0, none⟩)]
set_option maxHeartbeats 4000000 in
theorem take_any {k B0 M : Nat} (hk : k = 105 ∨ k = 59 ∨ k = 171) {I : (Nat → Prop) → List (Nat × Nat) → World → Prop} (G : Give k B0 M I) (c : Nat) (X : Nat → Prop) (acc : List (Nat × Nat)) (h lo : Nat) (w : World)
    (hI : I X acc w) (hX : ∀ x, X x → x < w.heap.size) (hl : acc.length < M) (x0 : X c) (x1 : X (c + 1)) (hc : B0 < c)
    (c0 : w.heap[c]? = some (.cells #[.int .u64 (lo : Int)] 23 (0, 0))) (c1 : w.heap[c + 1]? = some (.cells #[gv k B0] 107 (0, 0))) (hh : h < 41) (hlo : lo ≤ 2 ^ 40) :
    Calls Tryz.prog 148 #[.int .i64 (h : Int), .pointer (some ⟨c + 1, 0, none⟩), .pointer (some ⟨c, 0, none⟩)] w fun e w' => e = .returned (.tuple #[]) ∧ I X (acc ++ [(h, lo / pw h)]) w' ∧ Below B0 w w' ∧
      w'.heap[c]? = some (.cells #[.int .u64 ((lo + pw h : Nat) : Int)] 23 (0, 0)) ∧ ∀ x, X x → x ≠ c → w'.heap[x]? = w.heap[x]? := by
  have d0 := cell_of_one c0
  have d1 := cell_of_one c1
  obtain ⟨q, hq⟩ : ∃ q, lo / pw h = q := ⟨_, rfl⟩
  have eq : (lo : Int) / 2 ^ h = (q : Int) := by rw [← hq]; simp [pw]
  have HG : Calls Tryz.prog k #[.agg #[.int .i64 (h : Int), .int .u64 (q : Int)], .pointer (some ⟨B0, 0, none⟩)] w.drew fun e w' => e = .returned (.tuple #[]) ∧ I X (acc ++ [(h, q)]) w' ∧ Below B0 w w' ∧ ∀ x, X x → w'.heap[x]? = w.heap[x]? :=
    (G.give X acc h q w.drew (G.stay X X acc w w.drew hI (fun _ _ _ => rfl) (fun x hx => .inl hx)) hX hl).mono fun e w' r => ⟨r.1, r.2.1, ⟨r.2.2.1.os, r.2.2.1.tape, r.2.2.1.output, r.2.2.1.size, r.2.2.1.block⟩, r.2.2.2⟩
  have HL := fun w' => length_any h w' (by omega)
  have hp : pw h ≤ pw 40 := pw_le (by omega)
  have e40 : pw 40 = 2 ^ 40 := rfl
  rw [hq]
  obtain ⟨p, hpp⟩ : ∃ p, pw h = p := ⟨_, rfl⟩
  rw [hpp] at hp ⊢
  simp only [hpp] at HL
  have es : IntKind.u64.wrap ((lo : Int) + (p : Int)) = ((lo + p : Nat) : Int) := by rw [IntKind.wrap_u64]; omega
  have hk0 : (0 : Int) ≤ (h : Int) := Int.natCast_nonneg _
  have hk1 : (h : Int) < 64 := by omega
  have hk2 : ¬ (h : Int) < 0 := by omega
  have HH : Hid (I X acc w ∧ (∀ x, X x → x < w.heap.size) ∧ X c ∧ X (c + 1) ∧ B0 < c ∧ w.heap[c]? = some (.cells #[.int .u64 (lo : Int)] 23 (0, 0))) := ⟨hI, hX, x0, x1, hc, c0⟩
  clear hI hX hl x0 x1 hc c0 c1 hh hlo hq hp e40 hpp
  rcases hk with rfl | rfl | rfl
  all_goals
    go_enter Tryz.func148, Tryz.ntmps148
    go_wp2
    go_region_with (with_reducible refine HG.mono ?_; rintro e w1 ⟨rfl, hI1, hb1, hx1⟩)
    all_goals
      have c0' : w1.heap[c]? = some (.cells #[.int .u64 (lo : Int)] 23 (0, 0)) := (hx1 c HH.out.2.2.1).trans HH.out.2.2.2.2.2
      have k0 := cell_of_one c0'
      have k1 := free_of_one c0'
      have R : ∀ W : World, W.heap = (w1.setCell ⟨c, 0, none⟩ (.int .u64 ((lo + p : Nat) : Int))).heap → Below B0 w W → I X (acc ++ [(h, q)]) W ∧ Below B0 w W ∧
          W.heap[c]? = some (.cells #[.int .u64 ((lo + p : Nat) : Int)] 23 (0, 0)) ∧ ∀ x, X x → x ≠ c → W.heap[x]? = w.heap[x]? := fun W hW hbW => by
        refine ⟨G.stay X X _ w1 W hI1 (fun b hb hnx => ?_) (fun x hx => .inl hx), hbW, ?_, fun x hx hne => ?_⟩
        · rw [hW]; exact Below.heap_setCell _ _ _ _ (fun e => hnx (e ▸ HH.out.2.2.1))
        · rw [hW]; exact one_setCell c0'
        · rw [hW]; exact (Below.heap_setCell _ _ _ _ hne).trans (hx1 x hx)
      have hbs : Below B0 w (w1.setCell ⟨c, 0, none⟩ (.int .u64 ((lo + p : Nat) : Int))) := hb1.setCell (Nat.le_of_lt HH.out.2.2.2.2.1) _
      clear c0' hI1 hb1 hx1 d0 d1 HG
      go_wp2
      go_region_with (go_at_call 149; with_reducible refine (HL _).mono ?_; rintro e w2 ⟨rfl, rfl⟩)
      all_goals
        go_wp2
        go_end0
        exact ⟨rfl, R _ rfl ⟨hbs.os, hbs.tape, hbs.output, hbs.size, hbs.block⟩⟩
end Go.Proofs.YtipcenbndhnnhaaGreatDoor.Cv
