/-
  Own work: JEnd, LWalkB.
-/
import Derived.Test.YtdocjikpcbmcgaaGreatDoorQs44
import Derived.Test.YtdocjikpcbmcgaaGreatDoorProg
import Derived.Below
import Derived.WalkKit
import Derived.WalkSpells
import Derived.KernelRfl
import Derived.Deep.RegionHeld3
import Derived.Deep.RegionWith
import Derived.BigQuiet
import Derived.Defers
import Derived.Recover
import Derived.Outline
import Derived.Deep.LoopGhost
import Derived.Deep.DrawnRows
import Derived.Deep.Light
import Derived.Deep.MidRow
import Derived.Deep.Onto
import Derived.Laws.Bits64b
import Derived.Handy
import Derived.ArgAppend
import Derived.Laws.AppendOwnNone
import Derived.Laws.IdiomStrings
import Derived.Deep.DeepMakePanics
import Derived.OwnWalk
import Derived.Test.YtdocjikpcbmcgaaGreatDoorRows
import Derived.WalkLawsBesides
import Derived.WalkMore
import Derived.Deep.OwnRows
import Derived.Deep.Cut
import Derived.Deep.CutRange
import Derived.Lib.SliceRun
import Derived.Lib.LazyBuf
import Derived.Deep.RegionLaw
import Derived.Lib.BufferOwn
import Derived.Maps.Keyed
import Derived.DeepKeys4
import Derived.Lib.AppendZeros
import Derived.Laws.BitsAllLaws
import Derived.Deep.AppendSrc
import Derived.Lib.AppendStr
import Derived.Deep.Upon
import Derived.Test.YtdocjikpcbmcgaaGreatDoorQb01
namespace Go.Proofs.YtdocjikpcbmcgaaGreatDoor
open Go.RowKit
open Cv (RdC zl cU cov)
open Pl (pw)
attribute [local go_sem ↓] Go.wp_at_zero Go.wp_at_succ
structure J0 (W : World) (s0 q : Nat) (v u : Value) (C : List (Nat × Nat)) (P : List ByteArray) (h k : Nat) : Prop where
  js : JS W s0 v u C P
  tw : Tw W q (h : Int) k
  hv : ∀ g, v.ownBlock = some g → g ≠ q
  hq : s0 + 2 < q
  hC : C.length ≤ 1000
  hP : P.length ≤ 1000
structure RJ (W : World) (s0 q : Nat) (v u : Value) (C : List (Nat × Nat)) (P : List ByteArray) (h k : Nat) (x : ByteArray) (b0 b1 b2 b3 b4 b5 b6 b7 b8 b9 : Bool) (y0 y1 y2 y3 y4 y5 y6 y7 : Value) (w : World) : Prop where
  a0 : b0 = true → y0 = v
  a1 : b1 = true → y1 = .agg #[.int .i64 (h : Int), .int .u64 (k : Int)]
  a2 : b2 = true → ∃ g, y2 = .slice (some ⟨g, 0, none⟩) 1 1 ∧ Tw w g (h : Int) k ∧ W.heap.size ≤ g
  a4 : b4 = true → y4 = u
  a5 : b5 = true → y5 = .string x
  a6 : b6 = true → ∃ g, y6 = .slice (some ⟨g, 0, none⟩) 1 1 ∧ w.heap[g]? = some (.cells #[.string x] 9 (0, 0)) ∧ W.heap.size ≤ g
  tw : Tw w q (h : Int) k
  n3 : b3 = false → Cv.OwnB w (s0 + 3) v (zl C)
  m3 : b3 = true → Cv.OwnB w (s0 + 3) y3 (zl (C ++ [(h, k)]))
  n7 : b7 = false → OwnS w (s0 + 3) u P
  m7 : b7 = true → OwnS w (s0 + 3) y7 (P ++ [x])
  c8 : w.heap[s0 + 1]? = some (.cells #[bif b8 then y3 else v] 77 (0, 0))
  c9 : w.heap[s0 + 2]? = some (.cells #[bif b9 then y7 else u] 22 (0, 0))
  be : Below (s0 + 1) W w
section
variable {W w w' : World} {s0 q : Nat} {v u : Value} {C : List (Nat × Nat)} {P : List ByteArray} {h k : Nat} {x : ByteArray} {b0 b1 b2 b3 b4 b5 b6 b7 b8 b9 : Bool} {y0 y1 y2 y3 y4 y5 y6 y7 : Value}
theorem RJ.lt (r : RJ W s0 q v u C P h k x b0 b1 b2 b3 b4 b5 b6 b7 b8 b9 y0 y1 y2 y3 y4 y5 y6 y7 w) : s0 + 2 < w.heap.size := (Array.getElem?_eq_some_iff.1 r.c9).1
theorem RJ.keep (r : RJ W s0 q v u C P h k x b0 b1 b2 b3 b4 b5 b6 b7 b8 b9 y0 y1 y2 y3 y4 y5 y6 y7 w) (hb : Below w.heap.size w w') : RJ W s0 q v u C P h k x b0 b1 b2 b3 b4 b5 b6 b7 b8 b9 y0 y1 y2 y3 y4 y5 y6 y7 w' := by
  have hl := r.lt
  refine ⟨r.a0, r.a1, fun e => ?_, r.a4, r.a5, fun e => ?_, r.tw.next hb, fun e => row_nextJ (r.n3 e) hb, fun e => row_nextJ (r.m3 e) hb, fun e => row_nextJ (r.n7 e) hb, fun e => row_nextJ (r.m7 e) hb, (hb.block _ (by omega)).trans r.c8, (hb.block _ hl).trans r.c9, r.be.trans (hb.mono (by omega))⟩
  · obtain ⟨g, e1, e2, e3⟩ := r.a2 e
    exact ⟨g, e1, e2.next hb, e3⟩
  · obtain ⟨g, e1, e2, e3⟩ := r.a6 e
    exact ⟨g, e1, (hb.block g (Array.getElem?_eq_some_iff.1 e2).1).trans e2, e3⟩
theorem kinds {Z : World} {B B' T T' s s' n n' : Nat} {a b : Value} {xs ys : List Value} (o : Z.ownsRow B T s a n xs) (o' : Z.ownsRow B' T' s' b n' ys) (hT : T ≠ T') {g : Nat} (h1 : a.ownBlock = some g) (h2 : b.ownBlock = some g) : False := by
  obtain ⟨_, c, hc⟩ := own_block o h1
  obtain ⟨_, c', hc'⟩ := own_block o' h2
  rw [hc] at hc'
  injection hc' with hc'
  injection hc' with _ h2 _
  exact hT h2
theorem RJ.app3 (j : J0 W s0 q v u C P h k) (r : RJ W s0 q v u C P h k x b0 b1 b2 false b4 b5 b6 false false false y0 y1 y2 y3 y4 y5 y6 y7 w) (v' : Value) (g : w.grownBy w' v.ownBlock) (o : Cv.OwnB w' (s0 + 3) v' (zl (C ++ [(h, k)]))) : RJ W s0 q v u C P h k x b0 b1 b2 true b4 b5 b6 false false false y0 y1 y2 v' y4 y5 y6 y7 w' := by
  have hl := r.lt
  have o0 := r.n3 rfl
  have u0 := r.n7 rfl
  have lo : ∀ k, v.ownBlock = some k → s0 + 3 ≤ k ∧ k < W.heap.size := fun k hk => World.ownsRow.lt j.js.ot k hk
  have hb : ∀ b, b < w.heap.size → some b ≠ v.ownBlock → w'.heap[b]? = w.heap[b]? := fun b h1 h2 => g.block b h1 h2
  refine ⟨r.a0, r.a1, fun e => ?_, r.a4, r.a5, fun e => ?_, r.tw.same (hb q r.tw.lt fun e => j.hv q e.symm rfl), (fun e => by cases e), fun _ => o, fun _ => keep_row u0 fun b h1 _ => hb b (World.ownsRow.lt u0 b h1).2 fun e => kinds o0 u0 (by decide) e.symm h1, (fun e => by cases e), (hb _ (by omega) fun e => by have := lo _ e.symm; omega).trans r.c8, (hb _ hl fun e => by have := lo _ e.symm; omega).trans r.c9, r.be.trans ((Below.refl _ _).grown g (by omega) fun k hk => by have := lo k hk; omega)⟩
  · obtain ⟨g', e1, e2, e3⟩ := r.a2 e
    exact ⟨g', e1, e2.same (hb g' e2.lt fun e => by have := lo _ e.symm; omega), e3⟩
  · obtain ⟨g', e1, e2, e3⟩ := r.a6 e
    exact ⟨g', e1, (hb g' (Array.getElem?_eq_some_iff.1 e2).1 fun e => by have := lo _ e.symm; omega).trans e2, e3⟩
theorem RJ.app7 (j : J0 W s0 q v u C P h k) (r : RJ W s0 q v u C P h k x b0 b1 b2 true b4 b5 b6 false false false y0 y1 y2 y3 y4 y5 y6 y7 w) (u' : Value) (g : w.grownBy w' u.ownBlock) (o : OwnS w' (s0 + 3) u' (P ++ [x])) : RJ W s0 q v u C P h k x b0 b1 b2 true b4 b5 b6 true false false y0 y1 y2 y3 y4 y5 y6 u' w' := by
  have hl := r.lt
  have o0 := r.m3 rfl
  have u0 := r.n7 rfl
  have lo : ∀ k, u.ownBlock = some k → s0 + 3 ≤ k ∧ k < W.heap.size := fun k hk => World.ownsRow.lt j.js.op k hk
  have hb : ∀ b, b < w.heap.size → some b ≠ u.ownBlock → w'.heap[b]? = w.heap[b]? := fun b h1 h2 => g.block b h1 h2
  refine ⟨r.a0, r.a1, fun e => ?_, r.a4, r.a5, fun e => ?_, r.tw.same (hb q r.tw.lt fun e => own_ty u0 r.tw (by decide) q e.symm rfl), (fun e => by cases e), fun _ => keep_row o0 fun b h1 _ => hb b (World.ownsRow.lt o0 b h1).2 fun e => kinds o0 u0 (by decide) h1 e.symm, (fun e => by cases e), fun _ => o, (hb _ (by omega) fun e => by have := lo _ e.symm; omega).trans r.c8, (hb _ hl fun e => by have := lo _ e.symm; omega).trans r.c9, r.be.trans ((Below.refl _ _).grown g (by omega) fun k hk => by have := lo k hk; omega)⟩
  · obtain ⟨g', e1, e2, e3⟩ := r.a2 e
    exact ⟨g', e1, e2.same (hb g' e2.lt fun e => by have := lo _ e.symm; omega), e3⟩
  · obtain ⟨g', e1, e2, e3⟩ := r.a6 e
    exact ⟨g', e1, (hb g' (Array.getElem?_eq_some_iff.1 e2).1 fun e => by have := lo _ e.symm; omega).trans e2, e3⟩
theorem RJ.put8 (j : J0 W s0 q v u C P h k) (r : RJ W s0 q v u C P h k x b0 b1 b2 true b4 b5 b6 true false false y0 y1 y2 y3 y4 y5 y6 y7 w) : RJ W s0 q v u C P h k x b0 b1 b2 true b4 b5 b6 true true false y0 y1 y2 y3 y4 y5 y6 y7 (w.setCell ⟨s0 + 1, 0, none⟩ y3) := by
  have hq := j.hq
  have hW := j.js.lt
  have hch := (ChT.refl (fun b => b = s0 + 1) w).set (s0 + 1) 0 y3 rfl
  refine ⟨r.a0, r.a1, fun e => ?_, r.a4, r.a5, fun e => ?_, r.tw.same (hch.block q (by omega)), (fun e => by cases e), fun _ => keep_row (r.m3 rfl) fun b _ hb => hch.block b (by omega), (fun e => by cases e), fun _ => keep_row (r.m7 rfl) fun b _ hb => hch.block b (by omega), heap_setCell_same w (s0 + 1) 0 _ _ y3 r.c8, (hch.block (s0 + 2) (by omega)).trans r.c9, r.be.trans (hch.below (by rintro b rfl; omega))⟩
  · obtain ⟨g', e1, e2, e3⟩ := r.a2 e
    exact ⟨g', e1, e2.same (hch.block g' (by omega)), e3⟩
  · obtain ⟨g', e1, e2, e3⟩ := r.a6 e
    exact ⟨g', e1, (hch.block g' (by omega)).trans e2, e3⟩
theorem RJ.put9 (j : J0 W s0 q v u C P h k) (r : RJ W s0 q v u C P h k x b0 b1 b2 true b4 b5 b6 true true false y0 y1 y2 y3 y4 y5 y6 y7 w) : RJ W s0 q v u C P h k x b0 b1 b2 true b4 b5 b6 true true true y0 y1 y2 y3 y4 y5 y6 y7 (w.setCell ⟨s0 + 2, 0, none⟩ y7) := by
  have hq := j.hq
  have hW := j.js.lt
  have hch := (ChT.refl (fun b => b = s0 + 2) w).set (s0 + 2) 0 y7 rfl
  refine ⟨r.a0, r.a1, fun e => ?_, r.a4, r.a5, fun e => ?_, r.tw.same (hch.block q (by omega)), (fun e => by cases e), fun _ => keep_row (r.m3 rfl) fun b _ hb => hch.block b (by omega), (fun e => by cases e), fun _ => keep_row (r.m7 rfl) fun b _ hb => hch.block b (by omega), (hch.block (s0 + 1) (by omega)).trans r.c8, heap_setCell_same w (s0 + 2) 0 _ _ y7 r.c9, r.be.trans (hch.below (by rintro b rfl; omega))⟩
  · obtain ⟨g', e1, e2, e3⟩ := r.a2 e
    exact ⟨g', e1, e2.same (hch.block g' (by omega)), e3⟩
  · obtain ⟨g', e1, e2, e3⟩ := r.a6 e
    exact ⟨g', e1, (hch.block g' (by omega)).trans e2, e3⟩
end
structure RF (W : World) (s0 q : Nat) (v u : Value) (C : List (Nat × Nat)) (P : List ByteArray) (h k : Nat) (x : ByteArray) (L : Nat → Bool) (a : Act) (w : World) : Prop where
  sz : a.tmps.size = 53
  df : a.defers = []
  i1 : a.tmps.getD 1 undef = .string x
  i2 : a.tmps.getD 2 undef = .pointer (some ⟨s0 + 1, 0, none⟩)
  i4 : a.tmps.getD 4 undef = .pointer (some ⟨s0 + 2, 0, none⟩)
  i5 : a.tmps.getD 5 undef = .pointer (some ⟨q, 0, none⟩)
  rj : RJ W s0 q v u C P h k x (L 0) (L 1) (L 2) (L 3) (L 4) (L 5) (L 6) (L 7) (L 8) (L 9) (a.tmps.getD 45 undef) (a.tmps.getD 46 undef) (a.tmps.getD 47 undef) (a.tmps.getD 48 undef) (a.tmps.getD 49 undef) (a.tmps.getD 50 undef) (a.tmps.getD 51 undef) (a.tmps.getD 52 undef) w
section
variable {W w w' : World} {s0 q : Nat} {v u : Value} {C : List (Nat × Nat)} {P : List ByteArray} {h k : Nat} {x : ByteArray} {L L' : Nat → Bool} {a : Act}
theorem RF.put (f : RF W s0 q v u C P h k x L a w) (d : Nat) (h1 : 44 < d) (h2 : d < 53) (y : Value) (r : RJ W s0 q v u C P h k x (L' 0) (L' 1) (L' 2) (L' 3) (L' 4) (L' 5) (L' 6) (L' 7) (L' 8) (L' 9) (if 45 = d then y else a.tmps.getD 45 undef) (if 46 = d then y else a.tmps.getD 46 undef) (if 47 = d then y else a.tmps.getD 47 undef) (if 48 = d then y else a.tmps.getD 48 undef) (if 49 = d then y else a.tmps.getD 49 undef) (if 50 = d then y else a.tmps.getD 50 undef) (if 51 = d then y else a.tmps.getD 51 undef) (if 52 = d then y else a.tmps.getD 52 undef) w') : RF W s0 q v u C P h k x L' (a.put (some d) y) w' := by
  have hs : d < a.tmps.size := by rw [f.sz]; exact h2
  refine ⟨by simp [Act.put, f.sz], f.df, ?_, ?_, ?_, ?_, ?_⟩
  · rw [put_at a d 1 y hs, if_neg (by omega)]; exact f.i1
  · rw [put_at a d 2 y hs, if_neg (by omega)]; exact f.i2
  · rw [put_at a d 4 y hs, if_neg (by omega)]; exact f.i4
  · rw [put_at a d 5 y hs, if_neg (by omega)]; exact f.i5
  · rw [put_at a d 45 y hs, put_at a d 46 y hs, put_at a d 47 y hs, put_at a d 48 y hs, put_at a d 49 y hs, put_at a d 50 y hs, put_at a d 51 y hs, put_at a d 52 y hs]
    exact r
end
section
variable {W : World} {s0 q : Nat} {v u : Value} {C : List (Nat × Nat)} {P : List ByteArray} {h k : Nat} {x : ByteArray} {Q : Exit → Act → World → Prop} {ops : List Oper} {ty : TypeId} {ps : String} {af : Array Edge}
theorem e0 (hd : dep ops 8 0 = true) : StepJ Tryz.prog Q ops (RF W s0 q v u C P h k x) 0 { dst := some 45, op := Op.load 77 (Operand.tmp 2), type := ty, pos := ps, after := af, guard := none } := by
  intro L a w K hI hj hcl hdep hK
  have r := hI.rj
  have h8 := not_yet hcl hj hd
  have c := cell_of_one r.c8
  rw [h8, cond_false] at c
  have t2 := hI.i2
  show Oper.wp _ _ a w K _
  go_simp
  exact hK _ _ (hI.put 45 (by decide) (by decide) v ⟨fun _ => rfl, r.a1, r.a2, r.a4, r.a5, r.a6, r.tw, r.n3, r.m3, r.n7, r.m7, r.c8, r.c9, r.be⟩)
theorem e1 : StepJ Tryz.prog Q ops (RF W s0 q v u C P h k x) 1 { dst := some 46, op := Op.load 83 (Operand.tmp 5), type := ty, pos := ps, after := af, guard := none } := by
  intro L a w K hI hj hcl hdep hK
  have r := hI.rj
  obtain ⟨c0, c1⟩ := r.tw.cells
  have t5 := hI.i5
  show Oper.wp _ _ a w K _
  go_simp
  exact hK _ _ (hI.put 46 (by decide) (by decide) _ ⟨r.a0, fun _ => rfl, r.a2, r.a4, r.a5, r.a6, r.tw, r.n3, r.m3, r.n7, r.m7, r.c8, r.c9, r.be⟩)
theorem e2 (hd : (af.toList.any fun e => e.on == 1 && Region.binds .any e) = true) : StepJ Tryz.prog Q ops (RF W s0 q v u C P h k x) 2 { dst := some 47, op := Op.buildSlice 77 1 #[(0, Operand.tmp 46)], type := ty, pos := ps, after := af, guard := none } := by
  intro L a w K hI hj hcl hdep hK
  have r := hI.rj
  have t46 := r.a1 (hdep 1 hd)
  have u46 : a.tmps[46]?.getD undef = .agg #[.int .i64 (h : Int), .int .u64 (k : Int)] := by rw [← Array.getD_eq_getD_getElem?]; exact t46
  have hb := bal (Below.refl w.heap.size w) (.cells #[.int .i64 (h : Int), .int .u64 (k : Int)] 83)
  have r' := r.keep hb
  show Oper.wp _ _ a w K _
  go_simp
  exact hK _ _ (hI.put 47 (by decide) (by decide) _ ⟨r'.a0, r'.a1, fun _ => ⟨_, rfl, tw_new w _ _, r.be.size⟩, r'.a4, r'.a5, r'.a6, r'.tw, r'.n3, r'.m3, r'.n7, r'.m7, r'.c8, r'.c9, r'.be⟩)
theorem e3 (j : J0 W s0 q v u C P h k) (h0 : (af.toList.any fun e => e.on == 0 && Region.binds .any e) = true) (h2 : (af.toList.any fun e => e.on == 2 && Region.binds .any e) = true) (d7 : dep ops 7 3 = true) (d8 : dep ops 8 3 = true) (d9 : dep ops 9 3 = true) : StepJ Tryz.prog Q ops (RF W s0 q v u C P h k x) 3 { dst := some 48, op := Op.call { callee := Callee.builtin Builtin.append, args := #[Operand.tmp 45, Operand.tmp 47], argTypes := #[77, 77] }, type := ty, pos := ps, after := af, guard := none } := by
  intro L a w K hI hj hcl hdep hK
  have r := hI.rj
  have t45 := r.a0 (hdep 0 h0)
  obtain ⟨g, t47, htw, _⟩ := r.a2 (hdep 2 h2)
  rw [hj, not_yet hcl hj d7, not_yet hcl hj d8, not_yet hcl hj d9] at r
  have hl := r.lt
  have st := step_apB w (ops := #[]) (o := { dst := some 48, op := Op.call { callee := Callee.builtin Builtin.append, args := #[Operand.tmp 45, Operand.tmp 47], argTypes := #[77, 77] }, type := ty, pos := ps, after := af, guard := none }) (a := a) (K := K) (Q := Q) (E := False) rfl (Operand.tmp 45) (Operand.tmp 47) rfl (s0 + 3) v C t45 (r.n3 rfl) g h k t47 htw j.hC hl (fun v' w' o g' => hK _ _ (hI.put 48 (by decide) (by decide) v' (by
    have r' := r.app3 j v' g' o
    show RJ W s0 q v u C P h k x (L 0) (L 1) (L 2) true (L 4) (L 5) (L 6) (L 7) (L 8) (L 9) _ _ _ v' _ _ _ _ w'
    rw [not_yet hcl hj d7, not_yet hcl hj d8, not_yet hcl hj d9]
    exact r')))
  have hw : Region.wanted { dst := some 48, op := Op.call { callee := Callee.builtin Builtin.append, args := #[Operand.tmp 45, Operand.tmp 47], argTypes := #[77, 77] }, type := ty, pos := ps, after := af, guard := none } (yielded #[] a.tmps) = true := by simp [Region.wanted]
  rw [if_pos hw] at st
  exact st
theorem e4 (hd : dep ops 9 4 = true) : StepJ Tryz.prog Q ops (RF W s0 q v u C P h k x) 4 { dst := some 49, op := Op.load 22 (Operand.tmp 4), type := ty, pos := ps, after := af, guard := none } := by
  intro L a w K hI hj hcl hdep hK
  have r := hI.rj
  have h8 := not_yet hcl hj hd
  have c := cell_of_one r.c9
  rw [h8, cond_false] at c
  have t2 := hI.i4
  show Oper.wp _ _ a w K _
  go_simp
  exact hK _ _ (hI.put 49 (by decide) (by decide) u ⟨r.a0, r.a1, r.a2, fun _ => rfl, r.a5, r.a6, r.tw, r.n3, r.m3, r.n7, r.m7, r.c8, r.c9, r.be⟩)
theorem e5 : StepJ Tryz.prog Q ops (RF W s0 q v u C P h k x) 5 { dst := some 50, op := Op.move (Operand.tmp 1), type := ty, pos := ps, after := af, guard := none } := by
  intro L a w K hI hj hcl hdep hK
  have r := hI.rj
  have t2 := hI.i1
  show Oper.wp _ _ a w K _
  go_simp
  exact hK _ _ (hI.put 50 (by decide) (by decide) _ ⟨r.a0, r.a1, r.a2, r.a4, fun _ => rfl, r.a6, r.tw, r.n3, r.m3, r.n7, r.m7, r.c8, r.c9, r.be⟩)
theorem e6 (hd : (af.toList.any fun e => e.on == 5 && Region.binds .any e) = true) : StepJ Tryz.prog Q ops (RF W s0 q v u C P h k x) 6 { dst := some 51, op := Op.buildSlice 22 1 #[(0, Operand.tmp 50)], type := ty, pos := ps, after := af, guard := none } := by
  intro L a w K hI hj hcl hdep hK
  have r := hI.rj
  have t46 := r.a5 (hdep 5 hd)
  have u46 : a.tmps[50]?.getD undef = .string x := by rw [← Array.getD_eq_getD_getElem?]; exact t46
  have hb := bal (Below.refl w.heap.size w) (.cells #[.string x] 9)
  have r' := r.keep hb
  show Oper.wp _ _ a w K _
  go_simp
  exact hK _ _ (hI.put 51 (by decide) (by decide) _ ⟨r'.a0, r'.a1, r'.a2, r'.a4, r'.a5, fun _ => ⟨_, rfl, heap_alloc_new w _, r.be.size⟩, r'.tw, r'.n3, r'.m3, r'.n7, r'.m7, r'.c8, r'.c9, r'.be⟩)
theorem e7 (j : J0 W s0 q v u C P h k) (h3 : (af.toList.any fun e => e.on == 3 && Region.binds .any e) = true) (h4 : (af.toList.any fun e => e.on == 4 && Region.binds .any e) = true) (h6 : (af.toList.any fun e => e.on == 6 && Region.binds .any e) = true) (d8 : dep ops 8 7 = true) (d9 : dep ops 9 7 = true) : StepJ Tryz.prog Q ops (RF W s0 q v u C P h k x) 7 { dst := some 52, op := Op.call { callee := Callee.builtin Builtin.append, args := #[Operand.tmp 49, Operand.tmp 51], argTypes := #[22, 22] }, type := ty, pos := ps, after := af, guard := none } := by
  intro L a w K hI hj hcl hdep hK
  have r := hI.rj
  have t45 := r.a4 (hdep 4 h4)
  obtain ⟨g, t47, htw, _⟩ := r.a6 (hdep 6 h6)
  rw [hj, hdep 3 h3, not_yet hcl hj d8, not_yet hcl hj d9] at r
  have hl := r.lt
  have st := step_apS w (ops := #[]) (o := { dst := some 52, op := Op.call { callee := Callee.builtin Builtin.append, args := #[Operand.tmp 49, Operand.tmp 51], argTypes := #[22, 22] }, type := ty, pos := ps, after := af, guard := none }) (a := a) (K := K) (Q := Q) (E := False) rfl (Operand.tmp 49) (Operand.tmp 51) rfl (s0 + 3) u P t45 (r.n7 rfl) g x t47 (cell_of_one htw) j.hP hl (fun v' w' o g' => hK _ _ (hI.put 52 (by decide) (by decide) v' (by
    have r' := r.app7 j v' g' o
    show RJ W s0 q v u C P h k x (L 0) (L 1) (L 2) (L 3) (L 4) (L 5) (L 6) true (L 8) (L 9) _ _ _ _ _ _ _ v' w'
    rw [hdep 3 h3, not_yet hcl hj d8, not_yet hcl hj d9]
    exact r')))
  have hw : Region.wanted { dst := some 52, op := Op.call { callee := Callee.builtin Builtin.append, args := #[Operand.tmp 49, Operand.tmp 51], argTypes := #[22, 22] }, type := ty, pos := ps, after := af, guard := none } (yielded #[] a.tmps) = true := by simp [Region.wanted]
  rw [if_pos hw] at st
  exact st
theorem e8 (j : J0 W s0 q v u C P h k) (h3 : (af.toList.any fun e => e.on == 3 && Region.binds .any e) = true) (h7 : (af.toList.any fun e => e.on == 7 && Region.binds .any e) = true) (d9 : dep ops 9 8 = true) : StepJ Tryz.prog Q ops (RF W s0 q v u C P h k x) 8 { dst := none, op := Op.store 77 (Operand.tmp 2) (Operand.tmp 48), type := ty, pos := ps, after := af, guard := none } := by
  intro L a w K hI hj hcl hdep hK
  have r := hI.rj
  rw [hj, hdep 3 h3, hdep 7 h7, not_yet hcl hj d9] at r
  have c := cell_of_one r.c8
  rw [cond_false] at c
  have fz := free_of_one r.c8
  have t2 := hI.i2
  obtain ⟨va, vn, vc, t48⟩ := Cv.own_slice (r.m3 rfl)
  have r' := r.put8 j
  rw [t48] at r'
  show Oper.wp _ _ a w K _
  go_simp
  refine hK undef _ ⟨hI.sz, hI.df, hI.i1, hI.i2, hI.i4, hI.i5, ?_⟩
  show RJ W s0 q v u C P h k x (L 0) (L 1) (L 2) (L 3) (L 4) (L 5) (L 6) (L 7) true (L 9) _ _ _ _ _ _ _ _ _
  rw [hdep 3 h3, hdep 7 h7, not_yet hcl hj d9]
  rw [← t48] at r'
  rw [← t48]
  exact r'
theorem e9 (j : J0 W s0 q v u C P h k) (h3 : (af.toList.any fun e => e.on == 3 && Region.binds .any e) = true) (h7 : (af.toList.any fun e => e.on == 7 && Region.binds .any e) = true) (h8 : (af.toList.any fun e => e.on == 8 && Region.binds .any e) = true) : StepJ Tryz.prog Q ops (RF W s0 q v u C P h k x) 9 { dst := none, op := Op.store 22 (Operand.tmp 4) (Operand.tmp 52), type := ty, pos := ps, after := af, guard := none } := by
  intro L a w K hI hj hcl hdep hK
  have r := hI.rj
  rw [hj, hdep 3 h3, hdep 7 h7, hdep 8 h8] at r
  have c := cell_of_one r.c9
  rw [cond_false] at c
  have fz := free_of_one r.c9
  have t2 := hI.i4
  obtain ⟨va, vn, vc, t52⟩ := Cv.own_slice (r.m7 rfl)
  have r' := r.put9 j
  rw [t52] at r'
  show Oper.wp _ _ a w K _
  go_simp
  refine hK undef _ ⟨hI.sz, hI.df, hI.i1, hI.i2, hI.i4, hI.i5, ?_⟩
  show RJ W s0 q v u C P h k x (L 0) (L 1) (L 2) (L 3) (L 4) (L 5) (L 6) (L 7) (L 8) true _ _ _ _ _ _ _ _ _
  rw [hdep 3 h3, hdep 7 h7, hdep 8 h8]
  rw [← t52] at r'
  rw [← t52]
  exact r'
end
theorem rf_start {W w : World} {s0 q : Nat} {v u : Value} {C : List (Nat × Nat)} {P : List ByteArray} {h k : Nat} {x : ByteArray} {a : Act} (j : J0 W s0 q v u C P h k) (sz : a.tmps.size = 53) (df : a.defers = []) (i1 : a.tmps.getD 1 undef = .string x) (i2 : a.tmps.getD 2 undef = .pointer (some ⟨s0 + 1, 0, none⟩)) (i4 : a.tmps.getD 4 undef = .pointer (some ⟨s0 + 2, 0, none⟩)) (i5 : a.tmps.getD 5 undef = .pointer (some ⟨q, 0, none⟩)) (hb : Below W.heap.size W w) : RF W s0 q v u C P h k x (fun _ => false) a w := by
  have hl := j.js.lt
  have js := j.js.next hb
  exact ⟨sz, df, i1, i2, i4, i5, (fun e => by cases e), (fun e => by cases e), (fun e => by cases e), (fun e => by cases e), (fun e => by cases e), (fun e => by cases e), j.tw.next hb, fun _ => js.ot, (fun e => by cases e), fun _ => js.op, (fun e => by cases e), js.ct, js.cp, hb.mono (by omega)⟩
theorem rf_end {W w : World} {s0 q : Nat} {v u : Value} {C : List (Nat × Nat)} {P : List ByteArray} {h k : Nat} {x : ByteArray} {L : Nat → Bool} {a : Act} (f : RF W s0 q v u C P h k x L a w) (hL : ∀ k, k < 10 → L k = true) : ∃ v' u', JS w s0 v' u' (C ++ [(h, k)]) (P ++ [x]) ∧ Below (s0 + 1) W w := by
  have r := f.rj
  rw [hL 3 (by decide), hL 7 (by decide), hL 8 (by decide), hL 9 (by decide)] at r
  exact ⟨_, _, ⟨r.c8, r.c9, r.m3 rfl, r.m7 rfl⟩, r.be⟩
end Go.Proofs.YtdocjikpcbmcgaaGreatDoor
namespace Go.Proofs.YtdocjikpcbmcgaaGreatDoor
open Go.RowKit
attribute [local go_sem ↓] Go.wp_at_zero Go.wp_at_succ
set_option maxRecDepth 100000 in
set_option maxHeartbeats 1000000 in
theorem kin_no (w : World) (k : Int) (o1 : Nat) (c1 : ByteArray) (o2 : Nat) (c2 : ByteArray) (s : ByteArray) (hs : s.size ≤ 281474976710656) (e0 : Int) (he : tkE k s = e0) (h0 : e0 ≠ 0) :
    Calls Tryz.prog 14 #[.int .i64 k, .agg #[.int .u64 (o1 : Int), .string c1], .agg #[.int .u64 (o2 : Int), .string c2], .string s] w fun e w' => e = .returned (.int .i64 e0) ∧ Below w.heap.size w w' := by
  have HT : Hid (∀ W, Calls Tryz.prog 27 #[.int .i64 k, .string s] W fun e w' => e = .returned (.tuple #[noP, .int .i64 e0]) ∧ Below W.heap.size W w') := fun W => taken_no W k s hs e0 he h0
  have hb0 := bal (bal (Below.refl w.heap.size w) (.cells #[.int .u64 (o1 : Int), .string c1] 30)) (.cells #[.int .u64 (o2 : Int), .string c2] 30)
  have hz : (e0 == 0) = false := by simpa using h0
  clear he hs
  go_enter Tryz.func14, Tryz.ntmps14
  go_wp2_with (go_at_call 27; with_reducible refine (HT.out _).mono ?_; rintro e w1 ⟨rfl, hb1⟩)
  go_ret
  exact ⟨rfl, bal (bnext hb0 hb1) _⟩
def kinD (n1 : Nat) (d1 : ByteArray) (n2 : Nat) (d2 : ByteArray) (er : Nat) (o1 : Nat) (c1 : ByteArray) (o2 : Nat) (c2 : ByteArray) : Int := if er = 0 ∧ (n1 = o1 ∧ d1 = c1) ∧ (n2 = o2 ∧ d2 = c2) then 0 else 150
set_option maxRecDepth 100000 in
set_option maxHeartbeats 1000000 in
theorem kin_led (w : World) (k : Int) (k1 : 1 ≤ k) (k2 : k ≤ 32) (o1 : Nat) (c1 : ByteArray) (o2 : Nat) (c2 : ByteArray) (s : ByteArray) (hs : s.size ≤ 281474976710656) (P : PV) (hd : dec s.data.toList = some P) (hk : P.k = k)
    (n1 : Nat) (d1 : ByteArray) (n2 : Nat) (d2 : ByteArray) (er : Nat)
    (hR : ∀ W sa sb sc da db dc, Below w.heap.size w W → RdF W sa sb sc da db dc P → Calls Tryz.prog 36 #[vP P.kd k P.old P.size (.slice sa P.S.length sc) (.slice da P.D.length dc)] W fun e w' => e = .returned (.tuple #[.agg #[.int .u64 (n1 : Int), .string d1], .agg #[.int .u64 (n2 : Int), .string d2], .int .i64 (er : Int)]) ∧ Below W.heap.size W w')
    (r : Int) (hr : kinD n1 d1 n2 d2 er o1 c1 o2 c2 = r) :
    Calls Tryz.prog 14 #[.int .i64 k, .agg #[.int .u64 (o1 : Int), .string c1], .agg #[.int .u64 (o2 : Int), .string c2], .string s] w fun e w' => e = .returned (.int .i64 r) ∧ Below w.heap.size w w' := by
  have HT : Hid (∀ W, Calls Tryz.prog 27 #[.int .i64 k, .string s] W fun e w' => ∃ sa sb sc da db dc, e = .returned (.tuple #[.agg #[.int .i64 P.kd, .int .i64 k, .int .u64 (P.old : Int), .int .u64 (P.size : Int), .slice sa P.S.length sc, .slice da P.D.length dc], .int .i64 0]) ∧ RdF w' sa sb sc da db dc P ∧ Below W.heap.size W w') := fun W => taken_ok W k k1 k2 s hs P hd hk
  obtain ⟨kd, kk, old, size, S, D⟩ := P
  simp only at HT hR
  have HR := hide hR
  unfold vP at HR
  obtain ⟨W0, hW0⟩ : ∃ W0, (w.alloc (.cells #[.int .u64 (o1 : Int), .string c1] 30)).alloc (.cells #[.int .u64 (o2 : Int), .string c2] 30) = W0 := ⟨_, rfl⟩
  have hb0 : Below w.heap.size w W0 := by rw [← hW0]; exact bal (bal (Below.refl _ _) _) _
  have hq : Rh W0 w.heap.size o1 c1 ∧ Rh W0 (w.heap.size + 1) o2 c2 := by
    obtain ⟨e1, e2⟩ := two_boxes w (.cells #[.int .u64 (o1 : Int), .string c1] 30) (.cells #[.int .u64 (o2 : Int), .string c2] 30)
    rw [← hW0]; exact ⟨e1, e2⟩
  have HX : Hid (∀ F, Below W0.heap.size W0 F → Rh F w.heap.size o1 c1 ∧ Rh F (w.heap.size + 1) o2 c2 ∧ Below w.heap.size w F) := fun F hF => ⟨hq.1.next hF, hq.2.next hF, bnext hb0 hF⟩
  clear hs hd hk hR hq hb0 k1 k2
  go_enter Tryz.func14, Tryz.ntmps14
  go_upto_region 1 with (fail)
  try rw [hW0]
  clear hW0
  go_upto_region 4 with (go_at_call 27; with_reducible refine (HT.out _).mono ?_; rintro e w1 ⟨sa, sb, sc, da, db, dc, rfl, hF, hb1⟩)
  obtain ⟨F, hFe, h7, hb2, _⟩ := box6 w1 (.int .i64 kd) (.int .i64 k) (.int .u64 (old : Int)) (.int .u64 (size : Int)) (.slice sa S.length sc) (.slice da D.length dc)
  try rw [hFe]
  clear hFe
  obtain ⟨m0, m1, m2, m3, m4, m5⟩ := h7.cells
  have hF2 := hF.next hb2
  have xb := (HX.out _ (bnext hb1 hb2)).2.2
  go_upto_region 5 with (go_at_call 36; with_reducible refine (HR.out _ _ _ _ _ _ _ xb hF2).mono ?_; rintro e w3 ⟨rfl, hb3⟩)
  obtain ⟨G, hG⟩ : ∃ G, (w3.alloc (.cells #[.int .u64 (n1 : Int), .string d1] 30)).alloc (.cells #[.int .u64 (n2 : Int), .string d2] 30) = G := ⟨_, rfl⟩
  try rw [hG]
  have hbG : Below w3.heap.size w3 G := by rw [← hG]; exact bal (bal (Below.refl _ _) _) _
  have hg : Rh G w3.heap.size n1 d1 ∧ Rh G (w3.heap.size + 1) n2 d2 := by
    obtain ⟨e1, e2⟩ := two_boxes w3 (.cells #[.int .u64 (n1 : Int), .string d1] 30) (.cells #[.int .u64 (n2 : Int), .string d2] 30)
    rw [← hG]; exact ⟨e1, e2⟩
  obtain ⟨x1, x2, xB⟩ := HX.out _ (bnext (bnext hb1 hb2) (bnext hb3 hbG))
  obtain ⟨a0, a1⟩ := x1.cells
  obtain ⟨a2, a3⟩ := x2.cells
  obtain ⟨b0, b1⟩ := hg.1.cells
  obtain ⟨b2, b3⟩ := hg.2.cells
  clear hG hg x1 x2 hbG hb3 hF2 xb m0 m1 m2 m3 m4 m5 h7 hb2 hF hb1 HR HT HX
  have HB := hide xB
  clear xB
  unfold kinD at hr
  by_cases h1 : er = 0
  · subst h1
    by_cases h2 : n1 = o1 ∧ d1 = c1
    · obtain ⟨rfl, rfl⟩ := h2
      by_cases h3 : n2 = o2 ∧ d2 = c2
      · obtain ⟨rfl, rfl⟩ := h3
        rw [if_pos ⟨rfl, ⟨rfl, rfl⟩, rfl, rfl⟩] at hr
        subst hr
        go_wp2
        go_ret
        exact ⟨rfl, HB.out⟩
      · rw [if_neg (fun h => h3 h.2.2)] at hr
        subst hr
        rcases root_ne h3 with hn | ⟨rfl, hd⟩
        · have hz : ¬ (n2 : Int) = (o2 : Int) := by omega
          have hzb : ((n2 : Int) == (o2 : Int)) = false := by simpa using hz
          clear h3 hn
          go_wp2
          go_ret
          exact ⟨rfl, HB.out⟩
        · have hz := list_ne hd
          have hzb := list_beq hd
          clear h3 hd
          go_wp2
          go_ret
          exact ⟨rfl, HB.out⟩
    · rw [if_neg (fun h => h2 h.2.1)] at hr
      subst hr
      rcases root_ne h2 with hn | ⟨rfl, hd⟩
      · have hz : ¬ (n1 : Int) = (o1 : Int) := by omega
        have hzb : ((n1 : Int) == (o1 : Int)) = false := by simpa using hz
        clear h2 hn
        go_wp2
        go_ret
        exact ⟨rfl, HB.out⟩
      · have hz := list_ne hd
        have hzb := list_beq hd
        clear h2 hd
        go_wp2
        go_ret
        exact ⟨rfl, HB.out⟩
  · rw [if_neg (fun h => h1 h.1)] at hr
    subst hr
    have hz : ¬ (er : Int) = 0 := by omega
    have hzb : ((er : Int) == 0) = false := by simpa using hz
    go_wp2
    go_ret
    exact ⟨rfl, HB.out⟩
end Go.Proofs.YtdocjikpcbmcgaaGreatDoor
