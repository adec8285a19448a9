/-
  Own work: LKdA.
-/
import Derived.Test.YtipcenbndhnnhaaGreatDoorQd29
import Derived.Test.YtipcenbndhnnhaaGreatDoorQd31
namespace Go.Proofs.YtipcenbndhnnhaaGreatDoor
open Go.RowKit
attribute [local go_sem ↓] Go.wp_at_zero Go.wp_at_succ
structure QF (W : World) (q1 f1 : Nat) (vc : Value) (k : Int) (n0 : Nat) (vi : Value) (n : Nat) (d : ByteArray) (er : Int) (L : Nat → Bool) (a : Act) (w : World) : Prop where
  sz : a.tmps.size = 142
  df : a.defers = []
  i1 : a.tmps.getD 1 undef = .pointer (some ⟨q1, 0, none⟩)
  i3 : a.tmps.getD 3 undef = .pointer (some ⟨f1, 0, none⟩)
  be : Below W.heap.size W w
  a0 : L 0 = true → a.tmps.getD 27 undef = .pointer (some ⟨q1, 0, none⟩)
  a1 : L 1 = true → a.tmps.getD 28 undef = .int .i64 k
  a2 : L 2 = true → a.tmps.getD 29 undef = vc
  a3 : L 3 = true → a.tmps.getD 30 undef = vi
  a4 : L 4 = true → a.tmps.getD 31 undef = .pointer (some ⟨q1, 3, none⟩)
  a5 : L 5 = true → a.tmps.getD 32 undef = .int .u64 (n0 : Int)
  a6 : L 6 = true → a.tmps.getD 33 undef = .tuple #[.agg #[.int .u64 (n : Int), .string d], .int .i64 er]
  a7 : L 7 = true → a.tmps.getD 26 undef = .tuple #[.agg #[.int .u64 (n : Int), .string d], .int .i64 er]
  a8 : L 8 = true → a.tmps.getD 34 undef = .agg #[.int .u64 (n : Int), .string d]
  a9 : L 9 = true → a.tmps.getD 35 undef = .int .i64 er
  a10 : L 10 = true → ∃ q, a.tmps.getD 5 undef = .pointer (some ⟨q, 0, none⟩) ∧ W.heap.size ≤ q ∧ q < w.heap.size ∧ (∃ n9 d9, Rh w q n9 d9) ∧ (L 11 = true → Rh w q n d)
  a12 : L 12 = true → a.tmps.getD 6 undef = .int .i64 er
section
variable {W : World} {q1 f1 : Nat} {vc : Value} {k : Int} {n0 : Nat} {vi : Value} {n : Nat} {d : ByteArray} {er : Int} {Q : Exit → Act → World → Prop} {ops : List Oper} {ty : TypeId} {ps : String} {af : Array Edge}
set_option maxRecDepth 100000 in
theorem qf_0  : StepJ Tryz.prog Q ops (QF W q1 f1 vc k n0 vi n d er) 0 { dst := some 27, op := Op.fieldAddr 26 (Operand.tmp 1) 0, type := ty, pos := ps, after := af, guard := none } := by
  intro L a w K hI hj hcl hdep hK
  have hs : 27 < a.tmps.size := by rw [hI.sz]; decide
  have t1 := hI.i1
  show Oper.wp _ _ a w K _
  go_simp
  exact hK _ _ { sz := (by simp [Act.put, hI.sz]), df := hI.df, i1 := (by rw [put_at a 27 1 _ hs, if_neg (by decide)]; exact hI.i1), i3 := (by rw [put_at a 27 3 _ hs, if_neg (by decide)]; exact hI.i3), be := (hI.be), a0 := (fun _ => by rw [put_at a 27 27 _ hs, if_pos rfl]), a1 := (fun h => by rw [put_at a 27 28 _ hs, if_neg (by decide)]; exact hI.a1 h), a2 := (fun h => by rw [put_at a 27 29 _ hs, if_neg (by decide)]; exact hI.a2 h), a3 := (fun h => by rw [put_at a 27 30 _ hs, if_neg (by decide)]; exact hI.a3 h), a4 := (fun h => by rw [put_at a 27 31 _ hs, if_neg (by decide)]; exact hI.a4 h), a5 := (fun h => by rw [put_at a 27 32 _ hs, if_neg (by decide)]; exact hI.a5 h), a6 := (fun h => by rw [put_at a 27 33 _ hs, if_neg (by decide)]; exact hI.a6 h), a7 := (fun h => by rw [put_at a 27 26 _ hs, if_neg (by decide)]; exact hI.a7 h), a8 := (fun h => by rw [put_at a 27 34 _ hs, if_neg (by decide)]; exact hI.a8 h), a9 := (fun h => by rw [put_at a 27 35 _ hs, if_neg (by decide)]; exact hI.a9 h), a10 := (fun h => by rw [put_at a 27 5 _ hs, if_neg (by decide)]; exact hI.a10 h), a12 := (fun h => by rw [put_at a 27 6 _ hs, if_neg (by decide)]; exact hI.a12 h) }
set_option maxRecDepth 100000 in
theorem qf_1 (d0 : (af.toList.any fun e => e.on == 0 && Region.binds .any e) = true) (hF : ∀ w, Below W.heap.size W w → ∃ v0 v1 v2 v3 v4, vc = .agg #[v0, v1, v2, v3, v4] ∧ v0 = .int .i64 k ∧ v3 = .int .u64 (n0 : Int) ∧ Fv w q1 v0 v1 v2 v3 v4) : StepJ Tryz.prog Q ops (QF W q1 f1 vc k n0 vi n d er) 1 { dst := some 28, op := Op.load 3 (Operand.tmp 27), type := ty, pos := ps, after := af, guard := none } := by
  intro L a w K hI hj hcl hdep hK
  have hs : 28 < a.tmps.size := by rw [hI.sz]; decide
  have t27 := hI.a0 (hdep 0 d0)
  obtain ⟨v0, v1, v2, v3, v4, rfl, rfl, rfl, h5⟩ := hF w hI.be
  obtain ⟨m0, m1, m2, m3, m4⟩ := h5.cells
  show Oper.wp _ _ a w K _
  go_simp
  exact hK _ _ { sz := (by simp [Act.put, hI.sz]), df := hI.df, i1 := (by rw [put_at a 28 1 _ hs, if_neg (by decide)]; exact hI.i1), i3 := (by rw [put_at a 28 3 _ hs, if_neg (by decide)]; exact hI.i3), be := (hI.be), a0 := (fun h => by rw [put_at a 28 27 _ hs, if_neg (by decide)]; exact hI.a0 h), a1 := (fun _ => by rw [put_at a 28 28 _ hs, if_pos rfl]), a2 := (fun h => by rw [put_at a 28 29 _ hs, if_neg (by decide)]; exact hI.a2 h), a3 := (fun h => by rw [put_at a 28 30 _ hs, if_neg (by decide)]; exact hI.a3 h), a4 := (fun h => by rw [put_at a 28 31 _ hs, if_neg (by decide)]; exact hI.a4 h), a5 := (fun h => by rw [put_at a 28 32 _ hs, if_neg (by decide)]; exact hI.a5 h), a6 := (fun h => by rw [put_at a 28 33 _ hs, if_neg (by decide)]; exact hI.a6 h), a7 := (fun h => by rw [put_at a 28 26 _ hs, if_neg (by decide)]; exact hI.a7 h), a8 := (fun h => by rw [put_at a 28 34 _ hs, if_neg (by decide)]; exact hI.a8 h), a9 := (fun h => by rw [put_at a 28 35 _ hs, if_neg (by decide)]; exact hI.a9 h), a10 := (fun h => by rw [put_at a 28 5 _ hs, if_neg (by decide)]; exact hI.a10 h), a12 := (fun h => by rw [put_at a 28 6 _ hs, if_neg (by decide)]; exact hI.a12 h) }
set_option maxRecDepth 100000 in
theorem qf_2 (hF : ∀ w, Below W.heap.size W w → ∃ v0 v1 v2 v3 v4, vc = .agg #[v0, v1, v2, v3, v4] ∧ v0 = .int .i64 k ∧ v3 = .int .u64 (n0 : Int) ∧ Fv w q1 v0 v1 v2 v3 v4) : StepJ Tryz.prog Q ops (QF W q1 f1 vc k n0 vi n d er) 2 { dst := some 29, op := Op.load 26 (Operand.tmp 1), type := ty, pos := ps, after := af, guard := none } := by
  intro L a w K hI hj hcl hdep hK
  have hs : 29 < a.tmps.size := by rw [hI.sz]; decide
  have t1 := hI.i1
  obtain ⟨v0, v1, v2, v3, v4, rfl, rfl, rfl, h5⟩ := hF w hI.be
  obtain ⟨m0, m1, m2, m3, m4⟩ := h5.cells
  show Oper.wp _ _ a w K _
  go_simp
  exact hK _ _ { sz := (by simp [Act.put, hI.sz]), df := hI.df, i1 := (by rw [put_at a 29 1 _ hs, if_neg (by decide)]; exact hI.i1), i3 := (by rw [put_at a 29 3 _ hs, if_neg (by decide)]; exact hI.i3), be := (hI.be), a0 := (fun h => by rw [put_at a 29 27 _ hs, if_neg (by decide)]; exact hI.a0 h), a1 := (fun h => by rw [put_at a 29 28 _ hs, if_neg (by decide)]; exact hI.a1 h), a2 := (fun _ => by rw [put_at a 29 29 _ hs, if_pos rfl]), a3 := (fun h => by rw [put_at a 29 30 _ hs, if_neg (by decide)]; exact hI.a3 h), a4 := (fun h => by rw [put_at a 29 31 _ hs, if_neg (by decide)]; exact hI.a4 h), a5 := (fun h => by rw [put_at a 29 32 _ hs, if_neg (by decide)]; exact hI.a5 h), a6 := (fun h => by rw [put_at a 29 33 _ hs, if_neg (by decide)]; exact hI.a6 h), a7 := (fun h => by rw [put_at a 29 26 _ hs, if_neg (by decide)]; exact hI.a7 h), a8 := (fun h => by rw [put_at a 29 34 _ hs, if_neg (by decide)]; exact hI.a8 h), a9 := (fun h => by rw [put_at a 29 35 _ hs, if_neg (by decide)]; exact hI.a9 h), a10 := (fun h => by rw [put_at a 29 5 _ hs, if_neg (by decide)]; exact hI.a10 h), a12 := (fun h => by rw [put_at a 29 6 _ hs, if_neg (by decide)]; exact hI.a12 h) }
set_option maxRecDepth 100000 in
theorem qf_3 (d2 : (af.toList.any fun e => e.on == 2 && Region.binds .any e) = true) (hI2 : ∀ w, Below W.heap.size W w → Calls Tryz.prog 10 #[vc] w fun e w' => e = .returned vi ∧ Below w.heap.size w w') : StepJ Tryz.prog Q ops (QF W q1 f1 vc k n0 vi n d er) 3 { dst := some 30, op := Op.call { callee := Callee.value (Operand.func 10), args := #[Operand.tmp 29], argTypes := #[26] }, type := ty, pos := ps, after := af, guard := none } := by
  intro L a w K hI hj hcl hdep hK
  have hs : 30 < a.tmps.size := by rw [hI.sz]; decide
  have t29 := hI.a2 (hdep 2 d2)
  show Oper.wp _ _ a w K _
  go_simp
  refine (hI2 w hI.be).mono ?_
  rintro e w' ⟨rfl, hb⟩
  exact hK _ _ { sz := (by simp [Act.put, hI.sz]), df := hI.df, i1 := (by rw [put_at a 30 1 _ hs, if_neg (by decide)]; exact hI.i1), i3 := (by rw [put_at a 30 3 _ hs, if_neg (by decide)]; exact hI.i3), be := (bnext hI.be hb), a0 := (fun h => by rw [put_at a 30 27 _ hs, if_neg (by decide)]; exact hI.a0 h), a1 := (fun h => by rw [put_at a 30 28 _ hs, if_neg (by decide)]; exact hI.a1 h), a2 := (fun h => by rw [put_at a 30 29 _ hs, if_neg (by decide)]; exact hI.a2 h), a3 := (fun _ => by rw [put_at a 30 30 _ hs, if_pos rfl]), a4 := (fun h => by rw [put_at a 30 31 _ hs, if_neg (by decide)]; exact hI.a4 h), a5 := (fun h => by rw [put_at a 30 32 _ hs, if_neg (by decide)]; exact hI.a5 h), a6 := (fun h => by rw [put_at a 30 33 _ hs, if_neg (by decide)]; exact hI.a6 h), a7 := (fun h => by rw [put_at a 30 26 _ hs, if_neg (by decide)]; exact hI.a7 h), a8 := (fun h => by rw [put_at a 30 34 _ hs, if_neg (by decide)]; exact hI.a8 h), a9 := (fun h => by rw [put_at a 30 35 _ hs, if_neg (by decide)]; exact hI.a9 h), a10 := (fun h => by rw [put_at a 30 5 _ hs, if_neg (by decide)]; obtain ⟨q, g1, g2, g3, ⟨n9, d9, g4⟩, g5⟩ := hI.a10 h; exact ⟨q, g1, g2, Nat.lt_of_lt_of_le g3 hb.size, ⟨n9, d9, g4.next hb⟩, fun h8 => (g5 h8).next hb⟩), a12 := (fun h => by rw [put_at a 30 6 _ hs, if_neg (by decide)]; exact hI.a12 h) }
set_option maxRecDepth 100000 in
theorem qf_4  : StepJ Tryz.prog Q ops (QF W q1 f1 vc k n0 vi n d er) 4 { dst := some 31, op := Op.fieldAddr 26 (Operand.tmp 1) 3, type := ty, pos := ps, after := af, guard := none } := by
  intro L a w K hI hj hcl hdep hK
  have hs : 31 < a.tmps.size := by rw [hI.sz]; decide
  have t1 := hI.i1
  show Oper.wp _ _ a w K _
  go_simp
  exact hK _ _ { sz := (by simp [Act.put, hI.sz]), df := hI.df, i1 := (by rw [put_at a 31 1 _ hs, if_neg (by decide)]; exact hI.i1), i3 := (by rw [put_at a 31 3 _ hs, if_neg (by decide)]; exact hI.i3), be := (hI.be), a0 := (fun h => by rw [put_at a 31 27 _ hs, if_neg (by decide)]; exact hI.a0 h), a1 := (fun h => by rw [put_at a 31 28 _ hs, if_neg (by decide)]; exact hI.a1 h), a2 := (fun h => by rw [put_at a 31 29 _ hs, if_neg (by decide)]; exact hI.a2 h), a3 := (fun h => by rw [put_at a 31 30 _ hs, if_neg (by decide)]; exact hI.a3 h), a4 := (fun _ => by rw [put_at a 31 31 _ hs, if_pos rfl]), a5 := (fun h => by rw [put_at a 31 32 _ hs, if_neg (by decide)]; exact hI.a5 h), a6 := (fun h => by rw [put_at a 31 33 _ hs, if_neg (by decide)]; exact hI.a6 h), a7 := (fun h => by rw [put_at a 31 26 _ hs, if_neg (by decide)]; exact hI.a7 h), a8 := (fun h => by rw [put_at a 31 34 _ hs, if_neg (by decide)]; exact hI.a8 h), a9 := (fun h => by rw [put_at a 31 35 _ hs, if_neg (by decide)]; exact hI.a9 h), a10 := (fun h => by rw [put_at a 31 5 _ hs, if_neg (by decide)]; exact hI.a10 h), a12 := (fun h => by rw [put_at a 31 6 _ hs, if_neg (by decide)]; exact hI.a12 h) }
set_option maxRecDepth 100000 in
theorem qf_5 (d4 : (af.toList.any fun e => e.on == 4 && Region.binds .any e) = true) (hF : ∀ w, Below W.heap.size W w → ∃ v0 v1 v2 v3 v4, vc = .agg #[v0, v1, v2, v3, v4] ∧ v0 = .int .i64 k ∧ v3 = .int .u64 (n0 : Int) ∧ Fv w q1 v0 v1 v2 v3 v4) : StepJ Tryz.prog Q ops (QF W q1 f1 vc k n0 vi n d er) 5 { dst := some 32, op := Op.load 23 (Operand.tmp 31), type := ty, pos := ps, after := af, guard := none } := by
  intro L a w K hI hj hcl hdep hK
  have hs : 32 < a.tmps.size := by rw [hI.sz]; decide
  have t31 := hI.a4 (hdep 4 d4)
  obtain ⟨v0, v1, v2, v3, v4, rfl, rfl, rfl, h5⟩ := hF w hI.be
  obtain ⟨m0, m1, m2, m3, m4⟩ := h5.cells
  show Oper.wp _ _ a w K _
  go_simp
  exact hK _ _ { sz := (by simp [Act.put, hI.sz]), df := hI.df, i1 := (by rw [put_at a 32 1 _ hs, if_neg (by decide)]; exact hI.i1), i3 := (by rw [put_at a 32 3 _ hs, if_neg (by decide)]; exact hI.i3), be := (hI.be), a0 := (fun h => by rw [put_at a 32 27 _ hs, if_neg (by decide)]; exact hI.a0 h), a1 := (fun h => by rw [put_at a 32 28 _ hs, if_neg (by decide)]; exact hI.a1 h), a2 := (fun h => by rw [put_at a 32 29 _ hs, if_neg (by decide)]; exact hI.a2 h), a3 := (fun h => by rw [put_at a 32 30 _ hs, if_neg (by decide)]; exact hI.a3 h), a4 := (fun h => by rw [put_at a 32 31 _ hs, if_neg (by decide)]; exact hI.a4 h), a5 := (fun _ => by rw [put_at a 32 32 _ hs, if_pos rfl]), a6 := (fun h => by rw [put_at a 32 33 _ hs, if_neg (by decide)]; exact hI.a6 h), a7 := (fun h => by rw [put_at a 32 26 _ hs, if_neg (by decide)]; exact hI.a7 h), a8 := (fun h => by rw [put_at a 32 34 _ hs, if_neg (by decide)]; exact hI.a8 h), a9 := (fun h => by rw [put_at a 32 35 _ hs, if_neg (by decide)]; exact hI.a9 h), a10 := (fun h => by rw [put_at a 32 5 _ hs, if_neg (by decide)]; exact hI.a10 h), a12 := (fun h => by rw [put_at a 32 6 _ hs, if_neg (by decide)]; exact hI.a12 h) }
set_option maxRecDepth 100000 in
theorem qf_6 (d1 : (af.toList.any fun e => e.on == 1 && Region.binds .any e) = true) (d3 : (af.toList.any fun e => e.on == 3 && Region.binds .any e) = true) (d5 : (af.toList.any fun e => e.on == 5 && Region.binds .any e) = true) (hR : ∀ w, Below W.heap.size W w → Calls Tryz.prog 9 #[.int .i64 k, vi, .int .u64 (n0 : Int)] w fun e w' => e = .returned (.tuple #[.agg #[.int .u64 (n : Int), .string d], .int .i64 er]) ∧ Below w.heap.size w w') : StepJ Tryz.prog Q ops (QF W q1 f1 vc k n0 vi n d er) 6 { dst := some 33, op := Op.call { callee := Callee.value (Operand.func 9), args := #[Operand.tmp 28, Operand.tmp 30, Operand.tmp 32], argTypes := #[3, 22, 23] }, type := ty, pos := ps, after := af, guard := none } := by
  intro L a w K hI hj hcl hdep hK
  have hs : 33 < a.tmps.size := by rw [hI.sz]; decide
  have t28 := hI.a1 (hdep 1 d1)
  have t30 := hI.a3 (hdep 3 d3)
  have t32 := hI.a5 (hdep 5 d5)
  show Oper.wp _ _ a w K _
  go_simp
  refine (hR w hI.be).mono ?_
  rintro e w' ⟨rfl, hb⟩
  exact hK _ _ { sz := (by simp [Act.put, hI.sz]), df := hI.df, i1 := (by rw [put_at a 33 1 _ hs, if_neg (by decide)]; exact hI.i1), i3 := (by rw [put_at a 33 3 _ hs, if_neg (by decide)]; exact hI.i3), be := (bnext hI.be hb), a0 := (fun h => by rw [put_at a 33 27 _ hs, if_neg (by decide)]; exact hI.a0 h), a1 := (fun h => by rw [put_at a 33 28 _ hs, if_neg (by decide)]; exact hI.a1 h), a2 := (fun h => by rw [put_at a 33 29 _ hs, if_neg (by decide)]; exact hI.a2 h), a3 := (fun h => by rw [put_at a 33 30 _ hs, if_neg (by decide)]; exact hI.a3 h), a4 := (fun h => by rw [put_at a 33 31 _ hs, if_neg (by decide)]; exact hI.a4 h), a5 := (fun h => by rw [put_at a 33 32 _ hs, if_neg (by decide)]; exact hI.a5 h), a6 := (fun _ => by rw [put_at a 33 33 _ hs, if_pos rfl]), a7 := (fun h => by rw [put_at a 33 26 _ hs, if_neg (by decide)]; exact hI.a7 h), a8 := (fun h => by rw [put_at a 33 34 _ hs, if_neg (by decide)]; exact hI.a8 h), a9 := (fun h => by rw [put_at a 33 35 _ hs, if_neg (by decide)]; exact hI.a9 h), a10 := (fun h => by rw [put_at a 33 5 _ hs, if_neg (by decide)]; obtain ⟨q, g1, g2, g3, ⟨n9, d9, g4⟩, g5⟩ := hI.a10 h; exact ⟨q, g1, g2, Nat.lt_of_lt_of_le g3 hb.size, ⟨n9, d9, g4.next hb⟩, fun h8 => (g5 h8).next hb⟩), a12 := (fun h => by rw [put_at a 33 6 _ hs, if_neg (by decide)]; exact hI.a12 h) }
set_option maxRecDepth 100000 in
theorem qf_7 (d6 : (af.toList.any fun e => e.on == 6 && Region.binds .any e) = true) : StepJ Tryz.prog Q ops (QF W q1 f1 vc k n0 vi n d er) 7 { dst := some 26, op := Op.move (Operand.tmp 33), type := ty, pos := ps, after := af, guard := none } := by
  intro L a w K hI hj hcl hdep hK
  have hs : 26 < a.tmps.size := by rw [hI.sz]; decide
  have t33 := hI.a6 (hdep 6 d6)
  show Oper.wp _ _ a w K _
  go_simp
  exact hK _ _ { sz := (by simp [Act.put, hI.sz]), df := hI.df, i1 := (by rw [put_at a 26 1 _ hs, if_neg (by decide)]; exact hI.i1), i3 := (by rw [put_at a 26 3 _ hs, if_neg (by decide)]; exact hI.i3), be := (hI.be), a0 := (fun h => by rw [put_at a 26 27 _ hs, if_neg (by decide)]; exact hI.a0 h), a1 := (fun h => by rw [put_at a 26 28 _ hs, if_neg (by decide)]; exact hI.a1 h), a2 := (fun h => by rw [put_at a 26 29 _ hs, if_neg (by decide)]; exact hI.a2 h), a3 := (fun h => by rw [put_at a 26 30 _ hs, if_neg (by decide)]; exact hI.a3 h), a4 := (fun h => by rw [put_at a 26 31 _ hs, if_neg (by decide)]; exact hI.a4 h), a5 := (fun h => by rw [put_at a 26 32 _ hs, if_neg (by decide)]; exact hI.a5 h), a6 := (fun h => by rw [put_at a 26 33 _ hs, if_neg (by decide)]; exact hI.a6 h), a7 := (fun _ => by rw [put_at a 26 26 _ hs, if_pos rfl]), a8 := (fun h => by rw [put_at a 26 34 _ hs, if_neg (by decide)]; exact hI.a8 h), a9 := (fun h => by rw [put_at a 26 35 _ hs, if_neg (by decide)]; exact hI.a9 h), a10 := (fun h => by rw [put_at a 26 5 _ hs, if_neg (by decide)]; exact hI.a10 h), a12 := (fun h => by rw [put_at a 26 6 _ hs, if_neg (by decide)]; exact hI.a12 h) }
set_option maxRecDepth 100000 in
theorem qf_8 (d7 : (af.toList.any fun e => e.on == 7 && Region.binds .any e) = true) : StepJ Tryz.prog Q ops (QF W q1 f1 vc k n0 vi n d er) 8 { dst := some 34, op := Op.extract (Operand.tmp 26) 0, type := ty, pos := ps, after := af, guard := none } := by
  intro L a w K hI hj hcl hdep hK
  have hs : 34 < a.tmps.size := by rw [hI.sz]; decide
  have t26 := hI.a7 (hdep 7 d7)
  show Oper.wp _ _ a w K _
  go_simp
  exact hK _ _ { sz := (by simp [Act.put, hI.sz]), df := hI.df, i1 := (by rw [put_at a 34 1 _ hs, if_neg (by decide)]; exact hI.i1), i3 := (by rw [put_at a 34 3 _ hs, if_neg (by decide)]; exact hI.i3), be := (hI.be), a0 := (fun h => by rw [put_at a 34 27 _ hs, if_neg (by decide)]; exact hI.a0 h), a1 := (fun h => by rw [put_at a 34 28 _ hs, if_neg (by decide)]; exact hI.a1 h), a2 := (fun h => by rw [put_at a 34 29 _ hs, if_neg (by decide)]; exact hI.a2 h), a3 := (fun h => by rw [put_at a 34 30 _ hs, if_neg (by decide)]; exact hI.a3 h), a4 := (fun h => by rw [put_at a 34 31 _ hs, if_neg (by decide)]; exact hI.a4 h), a5 := (fun h => by rw [put_at a 34 32 _ hs, if_neg (by decide)]; exact hI.a5 h), a6 := (fun h => by rw [put_at a 34 33 _ hs, if_neg (by decide)]; exact hI.a6 h), a7 := (fun h => by rw [put_at a 34 26 _ hs, if_neg (by decide)]; exact hI.a7 h), a8 := (fun _ => by rw [put_at a 34 34 _ hs, if_pos rfl]), a9 := (fun h => by rw [put_at a 34 35 _ hs, if_neg (by decide)]; exact hI.a9 h), a10 := (fun h => by rw [put_at a 34 5 _ hs, if_neg (by decide)]; exact hI.a10 h), a12 := (fun h => by rw [put_at a 34 6 _ hs, if_neg (by decide)]; exact hI.a12 h) }
set_option maxRecDepth 100000 in
theorem qf_9 (d7 : (af.toList.any fun e => e.on == 7 && Region.binds .any e) = true) : StepJ Tryz.prog Q ops (QF W q1 f1 vc k n0 vi n d er) 9 { dst := some 35, op := Op.extract (Operand.tmp 26) 1, type := ty, pos := ps, after := af, guard := none } := by
  intro L a w K hI hj hcl hdep hK
  have hs : 35 < a.tmps.size := by rw [hI.sz]; decide
  have t26 := hI.a7 (hdep 7 d7)
  show Oper.wp _ _ a w K _
  go_simp
  exact hK _ _ { sz := (by simp [Act.put, hI.sz]), df := hI.df, i1 := (by rw [put_at a 35 1 _ hs, if_neg (by decide)]; exact hI.i1), i3 := (by rw [put_at a 35 3 _ hs, if_neg (by decide)]; exact hI.i3), be := (hI.be), a0 := (fun h => by rw [put_at a 35 27 _ hs, if_neg (by decide)]; exact hI.a0 h), a1 := (fun h => by rw [put_at a 35 28 _ hs, if_neg (by decide)]; exact hI.a1 h), a2 := (fun h => by rw [put_at a 35 29 _ hs, if_neg (by decide)]; exact hI.a2 h), a3 := (fun h => by rw [put_at a 35 30 _ hs, if_neg (by decide)]; exact hI.a3 h), a4 := (fun h => by rw [put_at a 35 31 _ hs, if_neg (by decide)]; exact hI.a4 h), a5 := (fun h => by rw [put_at a 35 32 _ hs, if_neg (by decide)]; exact hI.a5 h), a6 := (fun h => by rw [put_at a 35 33 _ hs, if_neg (by decide)]; exact hI.a6 h), a7 := (fun h => by rw [put_at a 35 26 _ hs, if_neg (by decide)]; exact hI.a7 h), a8 := (fun h => by rw [put_at a 35 34 _ hs, if_neg (by decide)]; exact hI.a8 h), a9 := (fun _ => by rw [put_at a 35 35 _ hs, if_pos rfl]), a10 := (fun h => by rw [put_at a 35 5 _ hs, if_neg (by decide)]; exact hI.a10 h), a12 := (fun h => by rw [put_at a 35 6 _ hs, if_neg (by decide)]; exact hI.a12 h) }
set_option maxRecDepth 100000 in
theorem qf_10 (hds : dep ops 11 10 = true) : StepJ Tryz.prog Q ops (QF W q1 f1 vc k n0 vi n d er) 10 { dst := some 5, op := Op.alloc 32, type := ty, pos := ps, after := af, guard := none } := by
  intro L a w K hI hj hcl hdep hK
  have hs : 5 < a.tmps.size := by rw [hI.sz]; decide
  have h8 := not_yet hcl hj hds
  show Oper.wp _ _ a w K _
  go_simp
  exact hK _ _ { sz := (by simp [Act.put, hI.sz]), df := hI.df, i1 := (by rw [put_at a 5 1 _ hs, if_neg (by decide)]; exact hI.i1), i3 := (by rw [put_at a 5 3 _ hs, if_neg (by decide)]; exact hI.i3), be := (bal hI.be _), a0 := (fun h => by rw [put_at a 5 27 _ hs, if_neg (by decide)]; exact hI.a0 h), a1 := (fun h => by rw [put_at a 5 28 _ hs, if_neg (by decide)]; exact hI.a1 h), a2 := (fun h => by rw [put_at a 5 29 _ hs, if_neg (by decide)]; exact hI.a2 h), a3 := (fun h => by rw [put_at a 5 30 _ hs, if_neg (by decide)]; exact hI.a3 h), a4 := (fun h => by rw [put_at a 5 31 _ hs, if_neg (by decide)]; exact hI.a4 h), a5 := (fun h => by rw [put_at a 5 32 _ hs, if_neg (by decide)]; exact hI.a5 h), a6 := (fun h => by rw [put_at a 5 33 _ hs, if_neg (by decide)]; exact hI.a6 h), a7 := (fun h => by rw [put_at a 5 26 _ hs, if_neg (by decide)]; exact hI.a7 h), a8 := (fun h => by rw [put_at a 5 34 _ hs, if_neg (by decide)]; exact hI.a8 h), a9 := (fun h => by rw [put_at a 5 35 _ hs, if_neg (by decide)]; exact hI.a9 h), a10 := (fun _ => ⟨w.heap.size, by rw [put_at a 5 5 _ hs, if_pos rfl], hI.be.size, by simp, ⟨0, ⟨#[]⟩, heap_alloc_new w _⟩, fun h => by rw [if_neg (by decide), h8] at h; cases h⟩), a12 := (fun h => by rw [put_at a 5 6 _ hs, if_neg (by decide)]; exact hI.a12 h) }
set_option maxRecDepth 100000 in
theorem qf_11 (d8 : (af.toList.any fun e => e.on == 8 && Region.binds .any e) = true) (d10 : (af.toList.any fun e => e.on == 10 && Region.binds .any e) = true) : StepJ Tryz.prog Q ops (QF W q1 f1 vc k n0 vi n d er) 11 { dst := none, op := Op.store 32 (Operand.tmp 5) (Operand.tmp 34), type := ty, pos := ps, after := af, guard := none } := by
  intro L a w K hI hj hcl hdep hK
  have t34 := hI.a8 (hdep 8 d8)
  obtain ⟨q, t5, g2, g3, ⟨n9, d9, g4⟩, _⟩ := hI.a10 (hdep 10 d10)
  obtain ⟨k0, k1⟩ := g4.cells
  have fz := g4.fz
  have hch := putR_ch w q n d
  have hpt := g4.put n d
  unfold putR at hch hpt
  show Oper.wp _ _ a w K _
  go_simp
  exact hK undef _ { sz := hI.sz, df := hI.df, i1 := (by exact hI.i1), i3 := (by exact hI.i3), be := (hI.be.trans (hch.below (by rintro b rfl; exact g2))), a0 := (fun h => by exact hI.a0 h), a1 := (fun h => by exact hI.a1 h), a2 := (fun h => by exact hI.a2 h), a3 := (fun h => by exact hI.a3 h), a4 := (fun h => by exact hI.a4 h), a5 := (fun h => by exact hI.a5 h), a6 := (fun h => by exact hI.a6 h), a7 := (fun h => by exact hI.a7 h), a8 := (fun h => by exact hI.a8 h), a9 := (fun h => by exact hI.a9 h), a10 := (fun _ => ⟨q, t5, g2, by rw [hch.size]; exact g3, ⟨n, d, hpt⟩, fun _ => hpt⟩), a12 := (fun h => by exact hI.a12 h) }
set_option maxRecDepth 100000 in
theorem qf_12 (d9 : (af.toList.any fun e => e.on == 9 && Region.binds .any e) = true) : StepJ Tryz.prog Q ops (QF W q1 f1 vc k n0 vi n d er) 12 { dst := some 6, op := Op.assign (Operand.tmp 35), type := ty, pos := ps, after := af, guard := none } := by
  intro L a w K hI hj hcl hdep hK
  have hs : 6 < a.tmps.size := by rw [hI.sz]; decide
  have t35 := hI.a9 (hdep 9 d9)
  show Oper.wp _ _ a w K _
  go_simp
  exact hK _ _ { sz := (by simp [Act.put, hI.sz]), df := hI.df, i1 := (by rw [put_at a 6 1 _ hs, if_neg (by decide)]; exact hI.i1), i3 := (by rw [put_at a 6 3 _ hs, if_neg (by decide)]; exact hI.i3), be := (hI.be), a0 := (fun h => by rw [put_at a 6 27 _ hs, if_neg (by decide)]; exact hI.a0 h), a1 := (fun h => by rw [put_at a 6 28 _ hs, if_neg (by decide)]; exact hI.a1 h), a2 := (fun h => by rw [put_at a 6 29 _ hs, if_neg (by decide)]; exact hI.a2 h), a3 := (fun h => by rw [put_at a 6 30 _ hs, if_neg (by decide)]; exact hI.a3 h), a4 := (fun h => by rw [put_at a 6 31 _ hs, if_neg (by decide)]; exact hI.a4 h), a5 := (fun h => by rw [put_at a 6 32 _ hs, if_neg (by decide)]; exact hI.a5 h), a6 := (fun h => by rw [put_at a 6 33 _ hs, if_neg (by decide)]; exact hI.a6 h), a7 := (fun h => by rw [put_at a 6 26 _ hs, if_neg (by decide)]; exact hI.a7 h), a8 := (fun h => by rw [put_at a 6 34 _ hs, if_neg (by decide)]; exact hI.a8 h), a9 := (fun h => by rw [put_at a 6 35 _ hs, if_neg (by decide)]; exact hI.a9 h), a10 := (fun h => by rw [put_at a 6 5 _ hs, if_neg (by decide)]; exact hI.a10 h), a12 := (fun _ => by rw [put_at a 6 6 _ hs, if_pos rfl]) }
end
structure Akf (A0 : Act) (W : World) (B q1 : Nat) (va : Option Addr) (vm vc : Nat) (l : List (Nat × ByteArray)) (i sb so ns sc lb lo nl lc x : Nat) (y : ByteArray) (L : Nat → Bool) (a : Act) (w : World) : Prop where
  sz : a.tmps.size = 142
  df : a.defers = []
  i1 : a.tmps.getD 1 undef = .pointer (some ⟨q1, 0, none⟩)
  i16 : a.tmps.getD 16 undef = .int .i64 (i : Int)
  fr : ∀ t, ([91, 92, 93, 94, 95, 96, 97, 98, 99, 100, 101, 102, 103, 104, 105, 106, 107, 108, 15] : List Nat).contains t = false → a.tmps.getD t undef = A0.tmps.getD t undef
  b15 : L 17 = false → a.tmps.getD 15 undef = .slice va vm vc
  b1 : L 17 = false → Below W.heap.size W w
  a0 : L 0 = true → a.tmps.getD 91 undef = .slice va vm vc
  a1 : L 1 = true → a.tmps.getD 92 undef = .pointer (some ⟨q1, 4, none⟩)
  a2 : L 2 = true → a.tmps.getD 93 undef = .slice (some ⟨sb, so, none⟩) ns sc
  a3 : L 3 = true → a.tmps.getD 94 undef = .int .i64 (i : Int)
  a4 : L 4 = true → a.tmps.getD 95 undef = .pointer (some ⟨sb, so + i, none⟩)
  a5 : L 5 = true → a.tmps.getD 96 undef = .int .u64 (x : Int)
  a6 : L 6 = true → a.tmps.getD 97 undef = .pointer (some ⟨q1, 1, none⟩)
  a7 : L 7 = true → a.tmps.getD 98 undef = .slice (some ⟨lb, lo, none⟩) nl lc
  a8 : L 8 = true → a.tmps.getD 99 undef = .pointer (some ⟨q1, 4, none⟩)
  a9 : L 9 = true → a.tmps.getD 100 undef = .slice (some ⟨sb, so, none⟩) ns sc
  a10 : L 10 = true → a.tmps.getD 101 undef = .int .i64 (i : Int)
  a11 : L 11 = true → a.tmps.getD 102 undef = .pointer (some ⟨sb, so + i, none⟩)
  a12 : L 12 = true → a.tmps.getD 103 undef = .int .u64 (x : Int)
  a13 : L 13 = true → a.tmps.getD 104 undef = .pointer (some ⟨lb, lo + x, none⟩)
  a14 : L 14 = true → a.tmps.getD 105 undef = .string y
  a15 : L 15 = true → a.tmps.getD 106 undef = .agg #[.int .u64 (x : Int), .string y]
  a16 : L 16 = true → L 17 = false → ∃ g, a.tmps.getD 107 undef = .slice (some ⟨g, 0, none⟩) 1 1 ∧ Cv.RdC w (.slice (some ⟨g, 0, none⟩) 1 1) 1 (cK [(x, y)])
  a17 : L 17 = true → ∃ va' vm' vc', a.tmps.getD 108 undef = .slice va' vm' vc' ∧ OwnK w B (.slice va' vm' vc') (l ++ [(x, y)]) ∧ Below B W w
  a18 : L 18 = true → a.tmps.getD 15 undef = a.tmps.getD 108 undef
section
variable {A0 : Act} {W : World} {B q1 : Nat} {va : Option Addr} {vm vc : Nat} {l : List (Nat × ByteArray)} {i sb so ns sc lb lo nl lc x : Nat} {y : ByteArray} {Q : Exit → Act → World → Prop} {ops : List Oper} {ty : TypeId} {ps : String} {af : Array Edge}
set_option maxRecDepth 100000 in
theorem akf_0 (e0 : dep ops 17 0 = true) : StepJ Tryz.prog Q ops (Akf A0 W B q1 va vm vc l i sb so ns sc lb lo nl lc x y) 0 { dst := some 91, op := Op.move (Operand.tmp 15), type := ty, pos := ps, after := af, guard := none } := by
  intro L a w K hI hj hcl hdep hK
  have hs : 91 < a.tmps.size := by rw [hI.sz]; decide
  have h8 : L 17 = false := by
    cases h : L 17 with
    | false => rfl
    | true =>
      have g0 := hcl 17 0 h e0
      rw [g0] at hj; cases hj
  have hB := hI.b1 h8
  have t15 := hI.b15 h8
  show Oper.wp _ _ a w K _
  go_simp
  exact hK _ _ { sz := (by simp [Act.put, hI.sz]), df := hI.df, i1 := (by rw [put_at a 91 1 _ hs, if_neg (by decide)]; exact hI.i1), i16 := (by rw [put_at a 91 16 _ hs, if_neg (by decide)]; exact hI.i16), fr := (fun t ht => by rw [put_at a 91 t _ hs, if_neg (fun e => by subst e; revert ht; decide)]; exact hI.fr t ht), b15 := (fun h => by rw [put_at a 91 15 _ hs, if_neg (by decide)]; exact hI.b15 h), b1 := (fun h => hI.b1 h), a0 := (fun _ => by rw [put_at a 91 91 _ hs, if_pos rfl]), a1 := (fun h => by rw [put_at a 91 92 _ hs, if_neg (by decide)]; exact hI.a1 h), a2 := (fun h => by rw [put_at a 91 93 _ hs, if_neg (by decide)]; exact hI.a2 h), a3 := (fun h => by rw [put_at a 91 94 _ hs, if_neg (by decide)]; exact hI.a3 h), a4 := (fun h => by rw [put_at a 91 95 _ hs, if_neg (by decide)]; exact hI.a4 h), a5 := (fun h => by rw [put_at a 91 96 _ hs, if_neg (by decide)]; exact hI.a5 h), a6 := (fun h => by rw [put_at a 91 97 _ hs, if_neg (by decide)]; exact hI.a6 h), a7 := (fun h => by rw [put_at a 91 98 _ hs, if_neg (by decide)]; exact hI.a7 h), a8 := (fun h => by rw [put_at a 91 99 _ hs, if_neg (by decide)]; exact hI.a8 h), a9 := (fun h => by rw [put_at a 91 100 _ hs, if_neg (by decide)]; exact hI.a9 h), a10 := (fun h => by rw [put_at a 91 101 _ hs, if_neg (by decide)]; exact hI.a10 h), a11 := (fun h => by rw [put_at a 91 102 _ hs, if_neg (by decide)]; exact hI.a11 h), a12 := (fun h => by rw [put_at a 91 103 _ hs, if_neg (by decide)]; exact hI.a12 h), a13 := (fun h => by rw [put_at a 91 104 _ hs, if_neg (by decide)]; exact hI.a13 h), a14 := (fun h => by rw [put_at a 91 105 _ hs, if_neg (by decide)]; exact hI.a14 h), a15 := (fun h => by rw [put_at a 91 106 _ hs, if_neg (by decide)]; exact hI.a15 h), a16 := (fun h h3 => by rw [put_at a 91 107 _ hs, if_neg (by decide)]; exact hI.a16 h h3), a17 := (fun h => by rw [put_at a 91 108 _ hs, if_neg (by decide)]; exact hI.a17 h), a18 := (fun h => by rw [put_at a 91 15 _ hs, if_neg (by decide), put_at a 91 108 _ hs, if_neg (by decide)]; exact hI.a18 h) }
set_option maxRecDepth 100000 in
theorem akf_1  : StepJ Tryz.prog Q ops (Akf A0 W B q1 va vm vc l i sb so ns sc lb lo nl lc x y) 1 { dst := some 92, op := Op.fieldAddr 26 (Operand.tmp 1) 4, type := ty, pos := ps, after := af, guard := none } := by
  intro L a w K hI hj hcl hdep hK
  have hs : 92 < a.tmps.size := by rw [hI.sz]; decide
  have t1 := hI.i1
  show Oper.wp _ _ a w K _
  go_simp
  exact hK _ _ { sz := (by simp [Act.put, hI.sz]), df := hI.df, i1 := (by rw [put_at a 92 1 _ hs, if_neg (by decide)]; exact hI.i1), i16 := (by rw [put_at a 92 16 _ hs, if_neg (by decide)]; exact hI.i16), fr := (fun t ht => by rw [put_at a 92 t _ hs, if_neg (fun e => by subst e; revert ht; decide)]; exact hI.fr t ht), b15 := (fun h => by rw [put_at a 92 15 _ hs, if_neg (by decide)]; exact hI.b15 h), b1 := (fun h => hI.b1 h), a0 := (fun h => by rw [put_at a 92 91 _ hs, if_neg (by decide)]; exact hI.a0 h), a1 := (fun _ => by rw [put_at a 92 92 _ hs, if_pos rfl]), a2 := (fun h => by rw [put_at a 92 93 _ hs, if_neg (by decide)]; exact hI.a2 h), a3 := (fun h => by rw [put_at a 92 94 _ hs, if_neg (by decide)]; exact hI.a3 h), a4 := (fun h => by rw [put_at a 92 95 _ hs, if_neg (by decide)]; exact hI.a4 h), a5 := (fun h => by rw [put_at a 92 96 _ hs, if_neg (by decide)]; exact hI.a5 h), a6 := (fun h => by rw [put_at a 92 97 _ hs, if_neg (by decide)]; exact hI.a6 h), a7 := (fun h => by rw [put_at a 92 98 _ hs, if_neg (by decide)]; exact hI.a7 h), a8 := (fun h => by rw [put_at a 92 99 _ hs, if_neg (by decide)]; exact hI.a8 h), a9 := (fun h => by rw [put_at a 92 100 _ hs, if_neg (by decide)]; exact hI.a9 h), a10 := (fun h => by rw [put_at a 92 101 _ hs, if_neg (by decide)]; exact hI.a10 h), a11 := (fun h => by rw [put_at a 92 102 _ hs, if_neg (by decide)]; exact hI.a11 h), a12 := (fun h => by rw [put_at a 92 103 _ hs, if_neg (by decide)]; exact hI.a12 h), a13 := (fun h => by rw [put_at a 92 104 _ hs, if_neg (by decide)]; exact hI.a13 h), a14 := (fun h => by rw [put_at a 92 105 _ hs, if_neg (by decide)]; exact hI.a14 h), a15 := (fun h => by rw [put_at a 92 106 _ hs, if_neg (by decide)]; exact hI.a15 h), a16 := (fun h h3 => by rw [put_at a 92 107 _ hs, if_neg (by decide)]; exact hI.a16 h h3), a17 := (fun h => by rw [put_at a 92 108 _ hs, if_neg (by decide)]; exact hI.a17 h), a18 := (fun h => by rw [put_at a 92 15 _ hs, if_neg (by decide), put_at a 92 108 _ hs, if_neg (by decide)]; exact hI.a18 h) }
set_option maxRecDepth 100000 in
theorem akf_2 (d1 : (af.toList.any fun e => e.on == 1 && Region.binds .any e) = true) (e16 : dep ops 17 16 = true) (e15 : dep ops 16 15 = true) (e5 : dep ops 15 5 = true) (e4 : dep ops 5 4 = true) (e2 : dep ops 4 2 = true) (hC : ∀ w, Below W.heap.size W w → w.cell? ⟨q1, 1, none⟩ = some (.slice (some ⟨lb, lo, none⟩) nl lc) ∧ w.cell? ⟨q1, 4, none⟩ = some (.slice (some ⟨sb, so, none⟩) ns sc)) : StepJ Tryz.prog Q ops (Akf A0 W B q1 va vm vc l i sb so ns sc lb lo nl lc x y) 2 { dst := some 93, op := Op.load 24 (Operand.tmp 92), type := ty, pos := ps, after := af, guard := none } := by
  intro L a w K hI hj hcl hdep hK
  have hs : 93 < a.tmps.size := by rw [hI.sz]; decide
  have h8 : L 17 = false := by
    cases h : L 17 with
    | false => rfl
    | true =>
      have g16 := hcl 17 16 h e16
      have g15 := hcl 16 15 g16 e15
      have g5 := hcl 15 5 g15 e5
      have g4 := hcl 5 4 g5 e4
      have g2 := hcl 4 2 g4 e2
      rw [g2] at hj; cases hj
  have hB := hI.b1 h8
  have t92 := hI.a1 (hdep 1 d1)
  obtain ⟨k1, k4⟩ := hC w hB
  show Oper.wp _ _ a w K _
  go_simp
  exact hK _ _ { sz := (by simp [Act.put, hI.sz]), df := hI.df, i1 := (by rw [put_at a 93 1 _ hs, if_neg (by decide)]; exact hI.i1), i16 := (by rw [put_at a 93 16 _ hs, if_neg (by decide)]; exact hI.i16), fr := (fun t ht => by rw [put_at a 93 t _ hs, if_neg (fun e => by subst e; revert ht; decide)]; exact hI.fr t ht), b15 := (fun h => by rw [put_at a 93 15 _ hs, if_neg (by decide)]; exact hI.b15 h), b1 := (fun h => hI.b1 h), a0 := (fun h => by rw [put_at a 93 91 _ hs, if_neg (by decide)]; exact hI.a0 h), a1 := (fun h => by rw [put_at a 93 92 _ hs, if_neg (by decide)]; exact hI.a1 h), a2 := (fun _ => by rw [put_at a 93 93 _ hs, if_pos rfl]), a3 := (fun h => by rw [put_at a 93 94 _ hs, if_neg (by decide)]; exact hI.a3 h), a4 := (fun h => by rw [put_at a 93 95 _ hs, if_neg (by decide)]; exact hI.a4 h), a5 := (fun h => by rw [put_at a 93 96 _ hs, if_neg (by decide)]; exact hI.a5 h), a6 := (fun h => by rw [put_at a 93 97 _ hs, if_neg (by decide)]; exact hI.a6 h), a7 := (fun h => by rw [put_at a 93 98 _ hs, if_neg (by decide)]; exact hI.a7 h), a8 := (fun h => by rw [put_at a 93 99 _ hs, if_neg (by decide)]; exact hI.a8 h), a9 := (fun h => by rw [put_at a 93 100 _ hs, if_neg (by decide)]; exact hI.a9 h), a10 := (fun h => by rw [put_at a 93 101 _ hs, if_neg (by decide)]; exact hI.a10 h), a11 := (fun h => by rw [put_at a 93 102 _ hs, if_neg (by decide)]; exact hI.a11 h), a12 := (fun h => by rw [put_at a 93 103 _ hs, if_neg (by decide)]; exact hI.a12 h), a13 := (fun h => by rw [put_at a 93 104 _ hs, if_neg (by decide)]; exact hI.a13 h), a14 := (fun h => by rw [put_at a 93 105 _ hs, if_neg (by decide)]; exact hI.a14 h), a15 := (fun h => by rw [put_at a 93 106 _ hs, if_neg (by decide)]; exact hI.a15 h), a16 := (fun h h3 => by rw [put_at a 93 107 _ hs, if_neg (by decide)]; exact hI.a16 h h3), a17 := (fun h => by rw [put_at a 93 108 _ hs, if_neg (by decide)]; exact hI.a17 h), a18 := (fun h => by rw [put_at a 93 15 _ hs, if_neg (by decide), put_at a 93 108 _ hs, if_neg (by decide)]; exact hI.a18 h) }
set_option maxRecDepth 100000 in
theorem akf_3  : StepJ Tryz.prog Q ops (Akf A0 W B q1 va vm vc l i sb so ns sc lb lo nl lc x y) 3 { dst := some 94, op := Op.move (Operand.tmp 16), type := ty, pos := ps, after := af, guard := none } := by
  intro L a w K hI hj hcl hdep hK
  have hs : 94 < a.tmps.size := by rw [hI.sz]; decide
  have t16 := hI.i16
  show Oper.wp _ _ a w K _
  go_simp
  exact hK _ _ { sz := (by simp [Act.put, hI.sz]), df := hI.df, i1 := (by rw [put_at a 94 1 _ hs, if_neg (by decide)]; exact hI.i1), i16 := (by rw [put_at a 94 16 _ hs, if_neg (by decide)]; exact hI.i16), fr := (fun t ht => by rw [put_at a 94 t _ hs, if_neg (fun e => by subst e; revert ht; decide)]; exact hI.fr t ht), b15 := (fun h => by rw [put_at a 94 15 _ hs, if_neg (by decide)]; exact hI.b15 h), b1 := (fun h => hI.b1 h), a0 := (fun h => by rw [put_at a 94 91 _ hs, if_neg (by decide)]; exact hI.a0 h), a1 := (fun h => by rw [put_at a 94 92 _ hs, if_neg (by decide)]; exact hI.a1 h), a2 := (fun h => by rw [put_at a 94 93 _ hs, if_neg (by decide)]; exact hI.a2 h), a3 := (fun _ => by rw [put_at a 94 94 _ hs, if_pos rfl]), a4 := (fun h => by rw [put_at a 94 95 _ hs, if_neg (by decide)]; exact hI.a4 h), a5 := (fun h => by rw [put_at a 94 96 _ hs, if_neg (by decide)]; exact hI.a5 h), a6 := (fun h => by rw [put_at a 94 97 _ hs, if_neg (by decide)]; exact hI.a6 h), a7 := (fun h => by rw [put_at a 94 98 _ hs, if_neg (by decide)]; exact hI.a7 h), a8 := (fun h => by rw [put_at a 94 99 _ hs, if_neg (by decide)]; exact hI.a8 h), a9 := (fun h => by rw [put_at a 94 100 _ hs, if_neg (by decide)]; exact hI.a9 h), a10 := (fun h => by rw [put_at a 94 101 _ hs, if_neg (by decide)]; exact hI.a10 h), a11 := (fun h => by rw [put_at a 94 102 _ hs, if_neg (by decide)]; exact hI.a11 h), a12 := (fun h => by rw [put_at a 94 103 _ hs, if_neg (by decide)]; exact hI.a12 h), a13 := (fun h => by rw [put_at a 94 104 _ hs, if_neg (by decide)]; exact hI.a13 h), a14 := (fun h => by rw [put_at a 94 105 _ hs, if_neg (by decide)]; exact hI.a14 h), a15 := (fun h => by rw [put_at a 94 106 _ hs, if_neg (by decide)]; exact hI.a15 h), a16 := (fun h h3 => by rw [put_at a 94 107 _ hs, if_neg (by decide)]; exact hI.a16 h h3), a17 := (fun h => by rw [put_at a 94 108 _ hs, if_neg (by decide)]; exact hI.a17 h), a18 := (fun h => by rw [put_at a 94 15 _ hs, if_neg (by decide), put_at a 94 108 _ hs, if_neg (by decide)]; exact hI.a18 h) }
set_option maxRecDepth 100000 in
theorem akf_4 (d2 : (af.toList.any fun e => e.on == 2 && Region.binds .any e) = true) (d3 : (af.toList.any fun e => e.on == 3 && Region.binds .any e) = true) (hi : i < ns) : StepJ Tryz.prog Q ops (Akf A0 W B q1 va vm vc l i sb so ns sc lb lo nl lc x y) 4 { dst := some 95, op := Op.indexAddr 24 (Operand.tmp 93) (Operand.tmp 94), type := ty, pos := ps, after := af, guard := none } := by
  intro L a w K hI hj hcl hdep hK
  have hs : 95 < a.tmps.size := by rw [hI.sz]; decide
  have t93 := hI.a2 (hdep 2 d2)
  have t94 := hI.a3 (hdep 3 d3)
  have hz : (i : Int) < (ns : Int) := by omega
  have hz0 : (0 : Int) ≤ (i : Int) := Int.natCast_nonneg _
  show Oper.wp _ _ a w K _
  go_simp
  exact hK _ _ { sz := (by simp [Act.put, hI.sz]), df := hI.df, i1 := (by rw [put_at a 95 1 _ hs, if_neg (by decide)]; exact hI.i1), i16 := (by rw [put_at a 95 16 _ hs, if_neg (by decide)]; exact hI.i16), fr := (fun t ht => by rw [put_at a 95 t _ hs, if_neg (fun e => by subst e; revert ht; decide)]; exact hI.fr t ht), b15 := (fun h => by rw [put_at a 95 15 _ hs, if_neg (by decide)]; exact hI.b15 h), b1 := (fun h => hI.b1 h), a0 := (fun h => by rw [put_at a 95 91 _ hs, if_neg (by decide)]; exact hI.a0 h), a1 := (fun h => by rw [put_at a 95 92 _ hs, if_neg (by decide)]; exact hI.a1 h), a2 := (fun h => by rw [put_at a 95 93 _ hs, if_neg (by decide)]; exact hI.a2 h), a3 := (fun h => by rw [put_at a 95 94 _ hs, if_neg (by decide)]; exact hI.a3 h), a4 := (fun _ => by rw [put_at a 95 95 _ hs, if_pos rfl]), a5 := (fun h => by rw [put_at a 95 96 _ hs, if_neg (by decide)]; exact hI.a5 h), a6 := (fun h => by rw [put_at a 95 97 _ hs, if_neg (by decide)]; exact hI.a6 h), a7 := (fun h => by rw [put_at a 95 98 _ hs, if_neg (by decide)]; exact hI.a7 h), a8 := (fun h => by rw [put_at a 95 99 _ hs, if_neg (by decide)]; exact hI.a8 h), a9 := (fun h => by rw [put_at a 95 100 _ hs, if_neg (by decide)]; exact hI.a9 h), a10 := (fun h => by rw [put_at a 95 101 _ hs, if_neg (by decide)]; exact hI.a10 h), a11 := (fun h => by rw [put_at a 95 102 _ hs, if_neg (by decide)]; exact hI.a11 h), a12 := (fun h => by rw [put_at a 95 103 _ hs, if_neg (by decide)]; exact hI.a12 h), a13 := (fun h => by rw [put_at a 95 104 _ hs, if_neg (by decide)]; exact hI.a13 h), a14 := (fun h => by rw [put_at a 95 105 _ hs, if_neg (by decide)]; exact hI.a14 h), a15 := (fun h => by rw [put_at a 95 106 _ hs, if_neg (by decide)]; exact hI.a15 h), a16 := (fun h h3 => by rw [put_at a 95 107 _ hs, if_neg (by decide)]; exact hI.a16 h h3), a17 := (fun h => by rw [put_at a 95 108 _ hs, if_neg (by decide)]; exact hI.a17 h), a18 := (fun h => by rw [put_at a 95 15 _ hs, if_neg (by decide), put_at a 95 108 _ hs, if_neg (by decide)]; exact hI.a18 h) }
set_option maxRecDepth 100000 in
theorem akf_5 (d4 : (af.toList.any fun e => e.on == 4 && Region.binds .any e) = true) (e16 : dep ops 17 16 = true) (e15 : dep ops 16 15 = true) (e5 : dep ops 15 5 = true) (hX : ∀ w, Below W.heap.size W w → w.cell? ⟨sb, so + i, none⟩ = some (.int .u64 (x : Int))) : StepJ Tryz.prog Q ops (Akf A0 W B q1 va vm vc l i sb so ns sc lb lo nl lc x y) 5 { dst := some 96, op := Op.load 23 (Operand.tmp 95), type := ty, pos := ps, after := af, guard := none } := by
  intro L a w K hI hj hcl hdep hK
  have hs : 96 < a.tmps.size := by rw [hI.sz]; decide
  have h8 : L 17 = false := by
    cases h : L 17 with
    | false => rfl
    | true =>
      have g16 := hcl 17 16 h e16
      have g15 := hcl 16 15 g16 e15
      have g5 := hcl 15 5 g15 e5
      rw [g5] at hj; cases hj
  have hB := hI.b1 h8
  have t95 := hI.a4 (hdep 4 d4)
  have hx := hX w hB
  show Oper.wp _ _ a w K _
  go_simp
  exact hK _ _ { sz := (by simp [Act.put, hI.sz]), df := hI.df, i1 := (by rw [put_at a 96 1 _ hs, if_neg (by decide)]; exact hI.i1), i16 := (by rw [put_at a 96 16 _ hs, if_neg (by decide)]; exact hI.i16), fr := (fun t ht => by rw [put_at a 96 t _ hs, if_neg (fun e => by subst e; revert ht; decide)]; exact hI.fr t ht), b15 := (fun h => by rw [put_at a 96 15 _ hs, if_neg (by decide)]; exact hI.b15 h), b1 := (fun h => hI.b1 h), a0 := (fun h => by rw [put_at a 96 91 _ hs, if_neg (by decide)]; exact hI.a0 h), a1 := (fun h => by rw [put_at a 96 92 _ hs, if_neg (by decide)]; exact hI.a1 h), a2 := (fun h => by rw [put_at a 96 93 _ hs, if_neg (by decide)]; exact hI.a2 h), a3 := (fun h => by rw [put_at a 96 94 _ hs, if_neg (by decide)]; exact hI.a3 h), a4 := (fun h => by rw [put_at a 96 95 _ hs, if_neg (by decide)]; exact hI.a4 h), a5 := (fun _ => by rw [put_at a 96 96 _ hs, if_pos rfl]), a6 := (fun h => by rw [put_at a 96 97 _ hs, if_neg (by decide)]; exact hI.a6 h), a7 := (fun h => by rw [put_at a 96 98 _ hs, if_neg (by decide)]; exact hI.a7 h), a8 := (fun h => by rw [put_at a 96 99 _ hs, if_neg (by decide)]; exact hI.a8 h), a9 := (fun h => by rw [put_at a 96 100 _ hs, if_neg (by decide)]; exact hI.a9 h), a10 := (fun h => by rw [put_at a 96 101 _ hs, if_neg (by decide)]; exact hI.a10 h), a11 := (fun h => by rw [put_at a 96 102 _ hs, if_neg (by decide)]; exact hI.a11 h), a12 := (fun h => by rw [put_at a 96 103 _ hs, if_neg (by decide)]; exact hI.a12 h), a13 := (fun h => by rw [put_at a 96 104 _ hs, if_neg (by decide)]; exact hI.a13 h), a14 := (fun h => by rw [put_at a 96 105 _ hs, if_neg (by decide)]; exact hI.a14 h), a15 := (fun h => by rw [put_at a 96 106 _ hs, if_neg (by decide)]; exact hI.a15 h), a16 := (fun h h3 => by rw [put_at a 96 107 _ hs, if_neg (by decide)]; exact hI.a16 h h3), a17 := (fun h => by rw [put_at a 96 108 _ hs, if_neg (by decide)]; exact hI.a17 h), a18 := (fun h => by rw [put_at a 96 15 _ hs, if_neg (by decide), put_at a 96 108 _ hs, if_neg (by decide)]; exact hI.a18 h) }
set_option maxRecDepth 100000 in
theorem akf_6  : StepJ Tryz.prog Q ops (Akf A0 W B q1 va vm vc l i sb so ns sc lb lo nl lc x y) 6 { dst := some 97, op := Op.fieldAddr 26 (Operand.tmp 1) 1, type := ty, pos := ps, after := af, guard := none } := by
  intro L a w K hI hj hcl hdep hK
  have hs : 97 < a.tmps.size := by rw [hI.sz]; decide
  have t1 := hI.i1
  show Oper.wp _ _ a w K _
  go_simp
  exact hK _ _ { sz := (by simp [Act.put, hI.sz]), df := hI.df, i1 := (by rw [put_at a 97 1 _ hs, if_neg (by decide)]; exact hI.i1), i16 := (by rw [put_at a 97 16 _ hs, if_neg (by decide)]; exact hI.i16), fr := (fun t ht => by rw [put_at a 97 t _ hs, if_neg (fun e => by subst e; revert ht; decide)]; exact hI.fr t ht), b15 := (fun h => by rw [put_at a 97 15 _ hs, if_neg (by decide)]; exact hI.b15 h), b1 := (fun h => hI.b1 h), a0 := (fun h => by rw [put_at a 97 91 _ hs, if_neg (by decide)]; exact hI.a0 h), a1 := (fun h => by rw [put_at a 97 92 _ hs, if_neg (by decide)]; exact hI.a1 h), a2 := (fun h => by rw [put_at a 97 93 _ hs, if_neg (by decide)]; exact hI.a2 h), a3 := (fun h => by rw [put_at a 97 94 _ hs, if_neg (by decide)]; exact hI.a3 h), a4 := (fun h => by rw [put_at a 97 95 _ hs, if_neg (by decide)]; exact hI.a4 h), a5 := (fun h => by rw [put_at a 97 96 _ hs, if_neg (by decide)]; exact hI.a5 h), a6 := (fun _ => by rw [put_at a 97 97 _ hs, if_pos rfl]), a7 := (fun h => by rw [put_at a 97 98 _ hs, if_neg (by decide)]; exact hI.a7 h), a8 := (fun h => by rw [put_at a 97 99 _ hs, if_neg (by decide)]; exact hI.a8 h), a9 := (fun h => by rw [put_at a 97 100 _ hs, if_neg (by decide)]; exact hI.a9 h), a10 := (fun h => by rw [put_at a 97 101 _ hs, if_neg (by decide)]; exact hI.a10 h), a11 := (fun h => by rw [put_at a 97 102 _ hs, if_neg (by decide)]; exact hI.a11 h), a12 := (fun h => by rw [put_at a 97 103 _ hs, if_neg (by decide)]; exact hI.a12 h), a13 := (fun h => by rw [put_at a 97 104 _ hs, if_neg (by decide)]; exact hI.a13 h), a14 := (fun h => by rw [put_at a 97 105 _ hs, if_neg (by decide)]; exact hI.a14 h), a15 := (fun h => by rw [put_at a 97 106 _ hs, if_neg (by decide)]; exact hI.a15 h), a16 := (fun h h3 => by rw [put_at a 97 107 _ hs, if_neg (by decide)]; exact hI.a16 h h3), a17 := (fun h => by rw [put_at a 97 108 _ hs, if_neg (by decide)]; exact hI.a17 h), a18 := (fun h => by rw [put_at a 97 15 _ hs, if_neg (by decide), put_at a 97 108 _ hs, if_neg (by decide)]; exact hI.a18 h) }
set_option maxRecDepth 100000 in
theorem akf_7 (d6 : (af.toList.any fun e => e.on == 6 && Region.binds .any e) = true) (e16 : dep ops 17 16 = true) (e15 : dep ops 16 15 = true) (e14 : dep ops 15 14 = true) (e13 : dep ops 14 13 = true) (e7 : dep ops 13 7 = true) (hC : ∀ w, Below W.heap.size W w → w.cell? ⟨q1, 1, none⟩ = some (.slice (some ⟨lb, lo, none⟩) nl lc) ∧ w.cell? ⟨q1, 4, none⟩ = some (.slice (some ⟨sb, so, none⟩) ns sc)) : StepJ Tryz.prog Q ops (Akf A0 W B q1 va vm vc l i sb so ns sc lb lo nl lc x y) 7 { dst := some 98, op := Op.load 22 (Operand.tmp 97), type := ty, pos := ps, after := af, guard := none } := by
  intro L a w K hI hj hcl hdep hK
  have hs : 98 < a.tmps.size := by rw [hI.sz]; decide
  have h8 : L 17 = false := by
    cases h : L 17 with
    | false => rfl
    | true =>
      have g16 := hcl 17 16 h e16
      have g15 := hcl 16 15 g16 e15
      have g14 := hcl 15 14 g15 e14
      have g13 := hcl 14 13 g14 e13
      have g7 := hcl 13 7 g13 e7
      rw [g7] at hj; cases hj
  have hB := hI.b1 h8
  have t97 := hI.a6 (hdep 6 d6)
  obtain ⟨k1, k4⟩ := hC w hB
  show Oper.wp _ _ a w K _
  go_simp
  exact hK _ _ { sz := (by simp [Act.put, hI.sz]), df := hI.df, i1 := (by rw [put_at a 98 1 _ hs, if_neg (by decide)]; exact hI.i1), i16 := (by rw [put_at a 98 16 _ hs, if_neg (by decide)]; exact hI.i16), fr := (fun t ht => by rw [put_at a 98 t _ hs, if_neg (fun e => by subst e; revert ht; decide)]; exact hI.fr t ht), b15 := (fun h => by rw [put_at a 98 15 _ hs, if_neg (by decide)]; exact hI.b15 h), b1 := (fun h => hI.b1 h), a0 := (fun h => by rw [put_at a 98 91 _ hs, if_neg (by decide)]; exact hI.a0 h), a1 := (fun h => by rw [put_at a 98 92 _ hs, if_neg (by decide)]; exact hI.a1 h), a2 := (fun h => by rw [put_at a 98 93 _ hs, if_neg (by decide)]; exact hI.a2 h), a3 := (fun h => by rw [put_at a 98 94 _ hs, if_neg (by decide)]; exact hI.a3 h), a4 := (fun h => by rw [put_at a 98 95 _ hs, if_neg (by decide)]; exact hI.a4 h), a5 := (fun h => by rw [put_at a 98 96 _ hs, if_neg (by decide)]; exact hI.a5 h), a6 := (fun h => by rw [put_at a 98 97 _ hs, if_neg (by decide)]; exact hI.a6 h), a7 := (fun _ => by rw [put_at a 98 98 _ hs, if_pos rfl]), a8 := (fun h => by rw [put_at a 98 99 _ hs, if_neg (by decide)]; exact hI.a8 h), a9 := (fun h => by rw [put_at a 98 100 _ hs, if_neg (by decide)]; exact hI.a9 h), a10 := (fun h => by rw [put_at a 98 101 _ hs, if_neg (by decide)]; exact hI.a10 h), a11 := (fun h => by rw [put_at a 98 102 _ hs, if_neg (by decide)]; exact hI.a11 h), a12 := (fun h => by rw [put_at a 98 103 _ hs, if_neg (by decide)]; exact hI.a12 h), a13 := (fun h => by rw [put_at a 98 104 _ hs, if_neg (by decide)]; exact hI.a13 h), a14 := (fun h => by rw [put_at a 98 105 _ hs, if_neg (by decide)]; exact hI.a14 h), a15 := (fun h => by rw [put_at a 98 106 _ hs, if_neg (by decide)]; exact hI.a15 h), a16 := (fun h h3 => by rw [put_at a 98 107 _ hs, if_neg (by decide)]; exact hI.a16 h h3), a17 := (fun h => by rw [put_at a 98 108 _ hs, if_neg (by decide)]; exact hI.a17 h), a18 := (fun h => by rw [put_at a 98 15 _ hs, if_neg (by decide), put_at a 98 108 _ hs, if_neg (by decide)]; exact hI.a18 h) }
set_option maxRecDepth 100000 in
theorem akf_8  : StepJ Tryz.prog Q ops (Akf A0 W B q1 va vm vc l i sb so ns sc lb lo nl lc x y) 8 { dst := some 99, op := Op.fieldAddr 26 (Operand.tmp 1) 4, type := ty, pos := ps, after := af, guard := none } := by
  intro L a w K hI hj hcl hdep hK
  have hs : 99 < a.tmps.size := by rw [hI.sz]; decide
  have t1 := hI.i1
  show Oper.wp _ _ a w K _
  go_simp
  exact hK _ _ { sz := (by simp [Act.put, hI.sz]), df := hI.df, i1 := (by rw [put_at a 99 1 _ hs, if_neg (by decide)]; exact hI.i1), i16 := (by rw [put_at a 99 16 _ hs, if_neg (by decide)]; exact hI.i16), fr := (fun t ht => by rw [put_at a 99 t _ hs, if_neg (fun e => by subst e; revert ht; decide)]; exact hI.fr t ht), b15 := (fun h => by rw [put_at a 99 15 _ hs, if_neg (by decide)]; exact hI.b15 h), b1 := (fun h => hI.b1 h), a0 := (fun h => by rw [put_at a 99 91 _ hs, if_neg (by decide)]; exact hI.a0 h), a1 := (fun h => by rw [put_at a 99 92 _ hs, if_neg (by decide)]; exact hI.a1 h), a2 := (fun h => by rw [put_at a 99 93 _ hs, if_neg (by decide)]; exact hI.a2 h), a3 := (fun h => by rw [put_at a 99 94 _ hs, if_neg (by decide)]; exact hI.a3 h), a4 := (fun h => by rw [put_at a 99 95 _ hs, if_neg (by decide)]; exact hI.a4 h), a5 := (fun h => by rw [put_at a 99 96 _ hs, if_neg (by decide)]; exact hI.a5 h), a6 := (fun h => by rw [put_at a 99 97 _ hs, if_neg (by decide)]; exact hI.a6 h), a7 := (fun h => by rw [put_at a 99 98 _ hs, if_neg (by decide)]; exact hI.a7 h), a8 := (fun _ => by rw [put_at a 99 99 _ hs, if_pos rfl]), a9 := (fun h => by rw [put_at a 99 100 _ hs, if_neg (by decide)]; exact hI.a9 h), a10 := (fun h => by rw [put_at a 99 101 _ hs, if_neg (by decide)]; exact hI.a10 h), a11 := (fun h => by rw [put_at a 99 102 _ hs, if_neg (by decide)]; exact hI.a11 h), a12 := (fun h => by rw [put_at a 99 103 _ hs, if_neg (by decide)]; exact hI.a12 h), a13 := (fun h => by rw [put_at a 99 104 _ hs, if_neg (by decide)]; exact hI.a13 h), a14 := (fun h => by rw [put_at a 99 105 _ hs, if_neg (by decide)]; exact hI.a14 h), a15 := (fun h => by rw [put_at a 99 106 _ hs, if_neg (by decide)]; exact hI.a15 h), a16 := (fun h h3 => by rw [put_at a 99 107 _ hs, if_neg (by decide)]; exact hI.a16 h h3), a17 := (fun h => by rw [put_at a 99 108 _ hs, if_neg (by decide)]; exact hI.a17 h), a18 := (fun h => by rw [put_at a 99 15 _ hs, if_neg (by decide), put_at a 99 108 _ hs, if_neg (by decide)]; exact hI.a18 h) }
set_option maxRecDepth 100000 in
theorem akf_9 (d8 : (af.toList.any fun e => e.on == 8 && Region.binds .any e) = true) (e16 : dep ops 17 16 = true) (e15 : dep ops 16 15 = true) (e14 : dep ops 15 14 = true) (e13 : dep ops 14 13 = true) (e12 : dep ops 13 12 = true) (e11 : dep ops 12 11 = true) (e9 : dep ops 11 9 = true) (hC : ∀ w, Below W.heap.size W w → w.cell? ⟨q1, 1, none⟩ = some (.slice (some ⟨lb, lo, none⟩) nl lc) ∧ w.cell? ⟨q1, 4, none⟩ = some (.slice (some ⟨sb, so, none⟩) ns sc)) : StepJ Tryz.prog Q ops (Akf A0 W B q1 va vm vc l i sb so ns sc lb lo nl lc x y) 9 { dst := some 100, op := Op.load 24 (Operand.tmp 99), type := ty, pos := ps, after := af, guard := none } := by
  intro L a w K hI hj hcl hdep hK
  have hs : 100 < a.tmps.size := by rw [hI.sz]; decide
  have h8 : L 17 = false := by
    cases h : L 17 with
    | false => rfl
    | true =>
      have g16 := hcl 17 16 h e16
      have g15 := hcl 16 15 g16 e15
      have g14 := hcl 15 14 g15 e14
      have g13 := hcl 14 13 g14 e13
      have g12 := hcl 13 12 g13 e12
      have g11 := hcl 12 11 g12 e11
      have g9 := hcl 11 9 g11 e9
      rw [g9] at hj; cases hj
  have hB := hI.b1 h8
  have t99 := hI.a8 (hdep 8 d8)
  obtain ⟨k1, k4⟩ := hC w hB
  show Oper.wp _ _ a w K _
  go_simp
  exact hK _ _ { sz := (by simp [Act.put, hI.sz]), df := hI.df, i1 := (by rw [put_at a 100 1 _ hs, if_neg (by decide)]; exact hI.i1), i16 := (by rw [put_at a 100 16 _ hs, if_neg (by decide)]; exact hI.i16), fr := (fun t ht => by rw [put_at a 100 t _ hs, if_neg (fun e => by subst e; revert ht; decide)]; exact hI.fr t ht), b15 := (fun h => by rw [put_at a 100 15 _ hs, if_neg (by decide)]; exact hI.b15 h), b1 := (fun h => hI.b1 h), a0 := (fun h => by rw [put_at a 100 91 _ hs, if_neg (by decide)]; exact hI.a0 h), a1 := (fun h => by rw [put_at a 100 92 _ hs, if_neg (by decide)]; exact hI.a1 h), a2 := (fun h => by rw [put_at a 100 93 _ hs, if_neg (by decide)]; exact hI.a2 h), a3 := (fun h => by rw [put_at a 100 94 _ hs, if_neg (by decide)]; exact hI.a3 h), a4 := (fun h => by rw [put_at a 100 95 _ hs, if_neg (by decide)]; exact hI.a4 h), a5 := (fun h => by rw [put_at a 100 96 _ hs, if_neg (by decide)]; exact hI.a5 h), a6 := (fun h => by rw [put_at a 100 97 _ hs, if_neg (by decide)]; exact hI.a6 h), a7 := (fun h => by rw [put_at a 100 98 _ hs, if_neg (by decide)]; exact hI.a7 h), a8 := (fun h => by rw [put_at a 100 99 _ hs, if_neg (by decide)]; exact hI.a8 h), a9 := (fun _ => by rw [put_at a 100 100 _ hs, if_pos rfl]), a10 := (fun h => by rw [put_at a 100 101 _ hs, if_neg (by decide)]; exact hI.a10 h), a11 := (fun h => by rw [put_at a 100 102 _ hs, if_neg (by decide)]; exact hI.a11 h), a12 := (fun h => by rw [put_at a 100 103 _ hs, if_neg (by decide)]; exact hI.a12 h), a13 := (fun h => by rw [put_at a 100 104 _ hs, if_neg (by decide)]; exact hI.a13 h), a14 := (fun h => by rw [put_at a 100 105 _ hs, if_neg (by decide)]; exact hI.a14 h), a15 := (fun h => by rw [put_at a 100 106 _ hs, if_neg (by decide)]; exact hI.a15 h), a16 := (fun h h3 => by rw [put_at a 100 107 _ hs, if_neg (by decide)]; exact hI.a16 h h3), a17 := (fun h => by rw [put_at a 100 108 _ hs, if_neg (by decide)]; exact hI.a17 h), a18 := (fun h => by rw [put_at a 100 15 _ hs, if_neg (by decide), put_at a 100 108 _ hs, if_neg (by decide)]; exact hI.a18 h) }
set_option maxRecDepth 100000 in
theorem akf_10  : StepJ Tryz.prog Q ops (Akf A0 W B q1 va vm vc l i sb so ns sc lb lo nl lc x y) 10 { dst := some 101, op := Op.move (Operand.tmp 16), type := ty, pos := ps, after := af, guard := none } := by
  intro L a w K hI hj hcl hdep hK
  have hs : 101 < a.tmps.size := by rw [hI.sz]; decide
  have t16 := hI.i16
  show Oper.wp _ _ a w K _
  go_simp
  exact hK _ _ { sz := (by simp [Act.put, hI.sz]), df := hI.df, i1 := (by rw [put_at a 101 1 _ hs, if_neg (by decide)]; exact hI.i1), i16 := (by rw [put_at a 101 16 _ hs, if_neg (by decide)]; exact hI.i16), fr := (fun t ht => by rw [put_at a 101 t _ hs, if_neg (fun e => by subst e; revert ht; decide)]; exact hI.fr t ht), b15 := (fun h => by rw [put_at a 101 15 _ hs, if_neg (by decide)]; exact hI.b15 h), b1 := (fun h => hI.b1 h), a0 := (fun h => by rw [put_at a 101 91 _ hs, if_neg (by decide)]; exact hI.a0 h), a1 := (fun h => by rw [put_at a 101 92 _ hs, if_neg (by decide)]; exact hI.a1 h), a2 := (fun h => by rw [put_at a 101 93 _ hs, if_neg (by decide)]; exact hI.a2 h), a3 := (fun h => by rw [put_at a 101 94 _ hs, if_neg (by decide)]; exact hI.a3 h), a4 := (fun h => by rw [put_at a 101 95 _ hs, if_neg (by decide)]; exact hI.a4 h), a5 := (fun h => by rw [put_at a 101 96 _ hs, if_neg (by decide)]; exact hI.a5 h), a6 := (fun h => by rw [put_at a 101 97 _ hs, if_neg (by decide)]; exact hI.a6 h), a7 := (fun h => by rw [put_at a 101 98 _ hs, if_neg (by decide)]; exact hI.a7 h), a8 := (fun h => by rw [put_at a 101 99 _ hs, if_neg (by decide)]; exact hI.a8 h), a9 := (fun h => by rw [put_at a 101 100 _ hs, if_neg (by decide)]; exact hI.a9 h), a10 := (fun _ => by rw [put_at a 101 101 _ hs, if_pos rfl]), a11 := (fun h => by rw [put_at a 101 102 _ hs, if_neg (by decide)]; exact hI.a11 h), a12 := (fun h => by rw [put_at a 101 103 _ hs, if_neg (by decide)]; exact hI.a12 h), a13 := (fun h => by rw [put_at a 101 104 _ hs, if_neg (by decide)]; exact hI.a13 h), a14 := (fun h => by rw [put_at a 101 105 _ hs, if_neg (by decide)]; exact hI.a14 h), a15 := (fun h => by rw [put_at a 101 106 _ hs, if_neg (by decide)]; exact hI.a15 h), a16 := (fun h h3 => by rw [put_at a 101 107 _ hs, if_neg (by decide)]; exact hI.a16 h h3), a17 := (fun h => by rw [put_at a 101 108 _ hs, if_neg (by decide)]; exact hI.a17 h), a18 := (fun h => by rw [put_at a 101 15 _ hs, if_neg (by decide), put_at a 101 108 _ hs, if_neg (by decide)]; exact hI.a18 h) }
set_option maxRecDepth 100000 in
theorem akf_11 (d9 : (af.toList.any fun e => e.on == 9 && Region.binds .any e) = true) (d10 : (af.toList.any fun e => e.on == 10 && Region.binds .any e) = true) (hi : i < ns) : StepJ Tryz.prog Q ops (Akf A0 W B q1 va vm vc l i sb so ns sc lb lo nl lc x y) 11 { dst := some 102, op := Op.indexAddr 24 (Operand.tmp 100) (Operand.tmp 101), type := ty, pos := ps, after := af, guard := none } := by
  intro L a w K hI hj hcl hdep hK
  have hs : 102 < a.tmps.size := by rw [hI.sz]; decide
  have t100 := hI.a9 (hdep 9 d9)
  have t101 := hI.a10 (hdep 10 d10)
  have hz : (i : Int) < (ns : Int) := by omega
  have hz0 : (0 : Int) ≤ (i : Int) := Int.natCast_nonneg _
  show Oper.wp _ _ a w K _
  go_simp
  exact hK _ _ { sz := (by simp [Act.put, hI.sz]), df := hI.df, i1 := (by rw [put_at a 102 1 _ hs, if_neg (by decide)]; exact hI.i1), i16 := (by rw [put_at a 102 16 _ hs, if_neg (by decide)]; exact hI.i16), fr := (fun t ht => by rw [put_at a 102 t _ hs, if_neg (fun e => by subst e; revert ht; decide)]; exact hI.fr t ht), b15 := (fun h => by rw [put_at a 102 15 _ hs, if_neg (by decide)]; exact hI.b15 h), b1 := (fun h => hI.b1 h), a0 := (fun h => by rw [put_at a 102 91 _ hs, if_neg (by decide)]; exact hI.a0 h), a1 := (fun h => by rw [put_at a 102 92 _ hs, if_neg (by decide)]; exact hI.a1 h), a2 := (fun h => by rw [put_at a 102 93 _ hs, if_neg (by decide)]; exact hI.a2 h), a3 := (fun h => by rw [put_at a 102 94 _ hs, if_neg (by decide)]; exact hI.a3 h), a4 := (fun h => by rw [put_at a 102 95 _ hs, if_neg (by decide)]; exact hI.a4 h), a5 := (fun h => by rw [put_at a 102 96 _ hs, if_neg (by decide)]; exact hI.a5 h), a6 := (fun h => by rw [put_at a 102 97 _ hs, if_neg (by decide)]; exact hI.a6 h), a7 := (fun h => by rw [put_at a 102 98 _ hs, if_neg (by decide)]; exact hI.a7 h), a8 := (fun h => by rw [put_at a 102 99 _ hs, if_neg (by decide)]; exact hI.a8 h), a9 := (fun h => by rw [put_at a 102 100 _ hs, if_neg (by decide)]; exact hI.a9 h), a10 := (fun h => by rw [put_at a 102 101 _ hs, if_neg (by decide)]; exact hI.a10 h), a11 := (fun _ => by rw [put_at a 102 102 _ hs, if_pos rfl]), a12 := (fun h => by rw [put_at a 102 103 _ hs, if_neg (by decide)]; exact hI.a12 h), a13 := (fun h => by rw [put_at a 102 104 _ hs, if_neg (by decide)]; exact hI.a13 h), a14 := (fun h => by rw [put_at a 102 105 _ hs, if_neg (by decide)]; exact hI.a14 h), a15 := (fun h => by rw [put_at a 102 106 _ hs, if_neg (by decide)]; exact hI.a15 h), a16 := (fun h h3 => by rw [put_at a 102 107 _ hs, if_neg (by decide)]; exact hI.a16 h h3), a17 := (fun h => by rw [put_at a 102 108 _ hs, if_neg (by decide)]; exact hI.a17 h), a18 := (fun h => by rw [put_at a 102 15 _ hs, if_neg (by decide), put_at a 102 108 _ hs, if_neg (by decide)]; exact hI.a18 h) }
set_option maxRecDepth 100000 in
theorem akf_12 (d11 : (af.toList.any fun e => e.on == 11 && Region.binds .any e) = true) (e16 : dep ops 17 16 = true) (e15 : dep ops 16 15 = true) (e14 : dep ops 15 14 = true) (e13 : dep ops 14 13 = true) (e12 : dep ops 13 12 = true) (hX : ∀ w, Below W.heap.size W w → w.cell? ⟨sb, so + i, none⟩ = some (.int .u64 (x : Int))) : StepJ Tryz.prog Q ops (Akf A0 W B q1 va vm vc l i sb so ns sc lb lo nl lc x y) 12 { dst := some 103, op := Op.load 23 (Operand.tmp 102), type := ty, pos := ps, after := af, guard := none } := by
  intro L a w K hI hj hcl hdep hK
  have hs : 103 < a.tmps.size := by rw [hI.sz]; decide
  have h8 : L 17 = false := by
    cases h : L 17 with
    | false => rfl
    | true =>
      have g16 := hcl 17 16 h e16
      have g15 := hcl 16 15 g16 e15
      have g14 := hcl 15 14 g15 e14
      have g13 := hcl 14 13 g14 e13
      have g12 := hcl 13 12 g13 e12
      rw [g12] at hj; cases hj
  have hB := hI.b1 h8
  have t102 := hI.a11 (hdep 11 d11)
  have hx := hX w hB
  show Oper.wp _ _ a w K _
  go_simp
  exact hK _ _ { sz := (by simp [Act.put, hI.sz]), df := hI.df, i1 := (by rw [put_at a 103 1 _ hs, if_neg (by decide)]; exact hI.i1), i16 := (by rw [put_at a 103 16 _ hs, if_neg (by decide)]; exact hI.i16), fr := (fun t ht => by rw [put_at a 103 t _ hs, if_neg (fun e => by subst e; revert ht; decide)]; exact hI.fr t ht), b15 := (fun h => by rw [put_at a 103 15 _ hs, if_neg (by decide)]; exact hI.b15 h), b1 := (fun h => hI.b1 h), a0 := (fun h => by rw [put_at a 103 91 _ hs, if_neg (by decide)]; exact hI.a0 h), a1 := (fun h => by rw [put_at a 103 92 _ hs, if_neg (by decide)]; exact hI.a1 h), a2 := (fun h => by rw [put_at a 103 93 _ hs, if_neg (by decide)]; exact hI.a2 h), a3 := (fun h => by rw [put_at a 103 94 _ hs, if_neg (by decide)]; exact hI.a3 h), a4 := (fun h => by rw [put_at a 103 95 _ hs, if_neg (by decide)]; exact hI.a4 h), a5 := (fun h => by rw [put_at a 103 96 _ hs, if_neg (by decide)]; exact hI.a5 h), a6 := (fun h => by rw [put_at a 103 97 _ hs, if_neg (by decide)]; exact hI.a6 h), a7 := (fun h => by rw [put_at a 103 98 _ hs, if_neg (by decide)]; exact hI.a7 h), a8 := (fun h => by rw [put_at a 103 99 _ hs, if_neg (by decide)]; exact hI.a8 h), a9 := (fun h => by rw [put_at a 103 100 _ hs, if_neg (by decide)]; exact hI.a9 h), a10 := (fun h => by rw [put_at a 103 101 _ hs, if_neg (by decide)]; exact hI.a10 h), a11 := (fun h => by rw [put_at a 103 102 _ hs, if_neg (by decide)]; exact hI.a11 h), a12 := (fun _ => by rw [put_at a 103 103 _ hs, if_pos rfl]), a13 := (fun h => by rw [put_at a 103 104 _ hs, if_neg (by decide)]; exact hI.a13 h), a14 := (fun h => by rw [put_at a 103 105 _ hs, if_neg (by decide)]; exact hI.a14 h), a15 := (fun h => by rw [put_at a 103 106 _ hs, if_neg (by decide)]; exact hI.a15 h), a16 := (fun h h3 => by rw [put_at a 103 107 _ hs, if_neg (by decide)]; exact hI.a16 h h3), a17 := (fun h => by rw [put_at a 103 108 _ hs, if_neg (by decide)]; exact hI.a17 h), a18 := (fun h => by rw [put_at a 103 15 _ hs, if_neg (by decide), put_at a 103 108 _ hs, if_neg (by decide)]; exact hI.a18 h) }
set_option maxRecDepth 100000 in
theorem akf_13 (d7 : (af.toList.any fun e => e.on == 7 && Region.binds .any e) = true) (d12 : (af.toList.any fun e => e.on == 12 && Region.binds .any e) = true) (hx : x < nl) : StepJ Tryz.prog Q ops (Akf A0 W B q1 va vm vc l i sb so ns sc lb lo nl lc x y) 13 { dst := some 104, op := Op.indexAddr 22 (Operand.tmp 98) (Operand.tmp 103), type := ty, pos := ps, after := af, guard := none } := by
  intro L a w K hI hj hcl hdep hK
  have hs : 104 < a.tmps.size := by rw [hI.sz]; decide
  have t98 := hI.a7 (hdep 7 d7)
  have t103 := hI.a12 (hdep 12 d12)
  have hz : (x : Int) < (nl : Int) := by omega
  have hz0 : (0 : Int) ≤ (x : Int) := Int.natCast_nonneg _
  show Oper.wp _ _ a w K _
  go_simp
  exact hK _ _ { sz := (by simp [Act.put, hI.sz]), df := hI.df, i1 := (by rw [put_at a 104 1 _ hs, if_neg (by decide)]; exact hI.i1), i16 := (by rw [put_at a 104 16 _ hs, if_neg (by decide)]; exact hI.i16), fr := (fun t ht => by rw [put_at a 104 t _ hs, if_neg (fun e => by subst e; revert ht; decide)]; exact hI.fr t ht), b15 := (fun h => by rw [put_at a 104 15 _ hs, if_neg (by decide)]; exact hI.b15 h), b1 := (fun h => hI.b1 h), a0 := (fun h => by rw [put_at a 104 91 _ hs, if_neg (by decide)]; exact hI.a0 h), a1 := (fun h => by rw [put_at a 104 92 _ hs, if_neg (by decide)]; exact hI.a1 h), a2 := (fun h => by rw [put_at a 104 93 _ hs, if_neg (by decide)]; exact hI.a2 h), a3 := (fun h => by rw [put_at a 104 94 _ hs, if_neg (by decide)]; exact hI.a3 h), a4 := (fun h => by rw [put_at a 104 95 _ hs, if_neg (by decide)]; exact hI.a4 h), a5 := (fun h => by rw [put_at a 104 96 _ hs, if_neg (by decide)]; exact hI.a5 h), a6 := (fun h => by rw [put_at a 104 97 _ hs, if_neg (by decide)]; exact hI.a6 h), a7 := (fun h => by rw [put_at a 104 98 _ hs, if_neg (by decide)]; exact hI.a7 h), a8 := (fun h => by rw [put_at a 104 99 _ hs, if_neg (by decide)]; exact hI.a8 h), a9 := (fun h => by rw [put_at a 104 100 _ hs, if_neg (by decide)]; exact hI.a9 h), a10 := (fun h => by rw [put_at a 104 101 _ hs, if_neg (by decide)]; exact hI.a10 h), a11 := (fun h => by rw [put_at a 104 102 _ hs, if_neg (by decide)]; exact hI.a11 h), a12 := (fun h => by rw [put_at a 104 103 _ hs, if_neg (by decide)]; exact hI.a12 h), a13 := (fun _ => by rw [put_at a 104 104 _ hs, if_pos rfl]), a14 := (fun h => by rw [put_at a 104 105 _ hs, if_neg (by decide)]; exact hI.a14 h), a15 := (fun h => by rw [put_at a 104 106 _ hs, if_neg (by decide)]; exact hI.a15 h), a16 := (fun h h3 => by rw [put_at a 104 107 _ hs, if_neg (by decide)]; exact hI.a16 h h3), a17 := (fun h => by rw [put_at a 104 108 _ hs, if_neg (by decide)]; exact hI.a17 h), a18 := (fun h => by rw [put_at a 104 15 _ hs, if_neg (by decide), put_at a 104 108 _ hs, if_neg (by decide)]; exact hI.a18 h) }
set_option maxRecDepth 100000 in
theorem akf_14 (d13 : (af.toList.any fun e => e.on == 13 && Region.binds .any e) = true) (e16 : dep ops 17 16 = true) (e15 : dep ops 16 15 = true) (e14 : dep ops 15 14 = true) (hY : ∀ w, Below W.heap.size W w → w.cell? ⟨lb, lo + x, none⟩ = some (.string y)) : StepJ Tryz.prog Q ops (Akf A0 W B q1 va vm vc l i sb so ns sc lb lo nl lc x y) 14 { dst := some 105, op := Op.load 9 (Operand.tmp 104), type := ty, pos := ps, after := af, guard := none } := by
  intro L a w K hI hj hcl hdep hK
  have hs : 105 < a.tmps.size := by rw [hI.sz]; decide
  have h8 : L 17 = false := by
    cases h : L 17 with
    | false => rfl
    | true =>
      have g16 := hcl 17 16 h e16
      have g15 := hcl 16 15 g16 e15
      have g14 := hcl 15 14 g15 e14
      rw [g14] at hj; cases hj
  have hB := hI.b1 h8
  have t104 := hI.a13 (hdep 13 d13)
  have hy := hY w hB
  show Oper.wp _ _ a w K _
  go_simp
  exact hK _ _ { sz := (by simp [Act.put, hI.sz]), df := hI.df, i1 := (by rw [put_at a 105 1 _ hs, if_neg (by decide)]; exact hI.i1), i16 := (by rw [put_at a 105 16 _ hs, if_neg (by decide)]; exact hI.i16), fr := (fun t ht => by rw [put_at a 105 t _ hs, if_neg (fun e => by subst e; revert ht; decide)]; exact hI.fr t ht), b15 := (fun h => by rw [put_at a 105 15 _ hs, if_neg (by decide)]; exact hI.b15 h), b1 := (fun h => hI.b1 h), a0 := (fun h => by rw [put_at a 105 91 _ hs, if_neg (by decide)]; exact hI.a0 h), a1 := (fun h => by rw [put_at a 105 92 _ hs, if_neg (by decide)]; exact hI.a1 h), a2 := (fun h => by rw [put_at a 105 93 _ hs, if_neg (by decide)]; exact hI.a2 h), a3 := (fun h => by rw [put_at a 105 94 _ hs, if_neg (by decide)]; exact hI.a3 h), a4 := (fun h => by rw [put_at a 105 95 _ hs, if_neg (by decide)]; exact hI.a4 h), a5 := (fun h => by rw [put_at a 105 96 _ hs, if_neg (by decide)]; exact hI.a5 h), a6 := (fun h => by rw [put_at a 105 97 _ hs, if_neg (by decide)]; exact hI.a6 h), a7 := (fun h => by rw [put_at a 105 98 _ hs, if_neg (by decide)]; exact hI.a7 h), a8 := (fun h => by rw [put_at a 105 99 _ hs, if_neg (by decide)]; exact hI.a8 h), a9 := (fun h => by rw [put_at a 105 100 _ hs, if_neg (by decide)]; exact hI.a9 h), a10 := (fun h => by rw [put_at a 105 101 _ hs, if_neg (by decide)]; exact hI.a10 h), a11 := (fun h => by rw [put_at a 105 102 _ hs, if_neg (by decide)]; exact hI.a11 h), a12 := (fun h => by rw [put_at a 105 103 _ hs, if_neg (by decide)]; exact hI.a12 h), a13 := (fun h => by rw [put_at a 105 104 _ hs, if_neg (by decide)]; exact hI.a13 h), a14 := (fun _ => by rw [put_at a 105 105 _ hs, if_pos rfl]), a15 := (fun h => by rw [put_at a 105 106 _ hs, if_neg (by decide)]; exact hI.a15 h), a16 := (fun h h3 => by rw [put_at a 105 107 _ hs, if_neg (by decide)]; exact hI.a16 h h3), a17 := (fun h => by rw [put_at a 105 108 _ hs, if_neg (by decide)]; exact hI.a17 h), a18 := (fun h => by rw [put_at a 105 15 _ hs, if_neg (by decide), put_at a 105 108 _ hs, if_neg (by decide)]; exact hI.a18 h) }
set_option maxRecDepth 100000 in
theorem akf_15 (d5 : (af.toList.any fun e => e.on == 5 && Region.binds .any e) = true) (d14 : (af.toList.any fun e => e.on == 14 && Region.binds .any e) = true) : StepJ Tryz.prog Q ops (Akf A0 W B q1 va vm vc l i sb so ns sc lb lo nl lc x y) 15 { dst := some 106, op := Op.build 46 #[(0, Operand.tmp 96), (1, Operand.tmp 105)], type := ty, pos := ps, after := af, guard := none } := by
  intro L a w K hI hj hcl hdep hK
  have hs : 106 < a.tmps.size := by rw [hI.sz]; decide
  have t96 := hI.a5 (hdep 5 d5)
  have t105 := hI.a14 (hdep 14 d14)
  have u96 : a.tmps[96]?.getD undef = .int .u64 (x : Int) := by rw [← Array.getD_eq_getD_getElem?]; exact t96
  have u105 : a.tmps[105]?.getD undef = .string y := by rw [← Array.getD_eq_getD_getElem?]; exact t105
  show Oper.wp _ _ a w K _
  go_simp
  exact hK _ _ { sz := (by simp [Act.put, hI.sz]), df := hI.df, i1 := (by rw [put_at a 106 1 _ hs, if_neg (by decide)]; exact hI.i1), i16 := (by rw [put_at a 106 16 _ hs, if_neg (by decide)]; exact hI.i16), fr := (fun t ht => by rw [put_at a 106 t _ hs, if_neg (fun e => by subst e; revert ht; decide)]; exact hI.fr t ht), b15 := (fun h => by rw [put_at a 106 15 _ hs, if_neg (by decide)]; exact hI.b15 h), b1 := (fun h => hI.b1 h), a0 := (fun h => by rw [put_at a 106 91 _ hs, if_neg (by decide)]; exact hI.a0 h), a1 := (fun h => by rw [put_at a 106 92 _ hs, if_neg (by decide)]; exact hI.a1 h), a2 := (fun h => by rw [put_at a 106 93 _ hs, if_neg (by decide)]; exact hI.a2 h), a3 := (fun h => by rw [put_at a 106 94 _ hs, if_neg (by decide)]; exact hI.a3 h), a4 := (fun h => by rw [put_at a 106 95 _ hs, if_neg (by decide)]; exact hI.a4 h), a5 := (fun h => by rw [put_at a 106 96 _ hs, if_neg (by decide)]; exact hI.a5 h), a6 := (fun h => by rw [put_at a 106 97 _ hs, if_neg (by decide)]; exact hI.a6 h), a7 := (fun h => by rw [put_at a 106 98 _ hs, if_neg (by decide)]; exact hI.a7 h), a8 := (fun h => by rw [put_at a 106 99 _ hs, if_neg (by decide)]; exact hI.a8 h), a9 := (fun h => by rw [put_at a 106 100 _ hs, if_neg (by decide)]; exact hI.a9 h), a10 := (fun h => by rw [put_at a 106 101 _ hs, if_neg (by decide)]; exact hI.a10 h), a11 := (fun h => by rw [put_at a 106 102 _ hs, if_neg (by decide)]; exact hI.a11 h), a12 := (fun h => by rw [put_at a 106 103 _ hs, if_neg (by decide)]; exact hI.a12 h), a13 := (fun h => by rw [put_at a 106 104 _ hs, if_neg (by decide)]; exact hI.a13 h), a14 := (fun h => by rw [put_at a 106 105 _ hs, if_neg (by decide)]; exact hI.a14 h), a15 := (fun _ => by rw [put_at a 106 106 _ hs, if_pos rfl]), a16 := (fun h h3 => by rw [put_at a 106 107 _ hs, if_neg (by decide)]; exact hI.a16 h h3), a17 := (fun h => by rw [put_at a 106 108 _ hs, if_neg (by decide)]; exact hI.a17 h), a18 := (fun h => by rw [put_at a 106 15 _ hs, if_neg (by decide), put_at a 106 108 _ hs, if_neg (by decide)]; exact hI.a18 h) }
set_option maxRecDepth 100000 in
theorem akf_16 (d15 : (af.toList.any fun e => e.on == 15 && Region.binds .any e) = true) (e16 : dep ops 17 16 = true) : StepJ Tryz.prog Q ops (Akf A0 W B q1 va vm vc l i sb so ns sc lb lo nl lc x y) 16 { dst := some 107, op := Op.buildSlice 44 1 #[(0, Operand.tmp 106)], type := ty, pos := ps, after := af, guard := none } := by
  intro L a w K hI hj hcl hdep hK
  have hs : 107 < a.tmps.size := by rw [hI.sz]; decide
  have h8 : L 17 = false := by
    cases h : L 17 with
    | false => rfl
    | true =>
      have g16 := hcl 17 16 h e16
      rw [g16] at hj; cases hj
  have hB := hI.b1 h8
  have t106 := hI.a15 (hdep 15 d15)
  have u106 : a.tmps[106]?.getD undef = .agg #[.int .u64 (x : Int), .string y] := by rw [← Array.getD_eq_getD_getElem?]; exact t106
  show Oper.wp _ _ a w K _
  go_simp
  exact hK _ _ { sz := (by simp [Act.put, hI.sz]), df := hI.df, i1 := (by rw [put_at a 107 1 _ hs, if_neg (by decide)]; exact hI.i1), i16 := (by rw [put_at a 107 16 _ hs, if_neg (by decide)]; exact hI.i16), fr := (fun t ht => by rw [put_at a 107 t _ hs, if_neg (fun e => by subst e; revert ht; decide)]; exact hI.fr t ht), b15 := (fun h => by rw [put_at a 107 15 _ hs, if_neg (by decide)]; exact hI.b15 h), b1 := (fun _ => bal hB _), a0 := (fun h => by rw [put_at a 107 91 _ hs, if_neg (by decide)]; exact hI.a0 h), a1 := (fun h => by rw [put_at a 107 92 _ hs, if_neg (by decide)]; exact hI.a1 h), a2 := (fun h => by rw [put_at a 107 93 _ hs, if_neg (by decide)]; exact hI.a2 h), a3 := (fun h => by rw [put_at a 107 94 _ hs, if_neg (by decide)]; exact hI.a3 h), a4 := (fun h => by rw [put_at a 107 95 _ hs, if_neg (by decide)]; exact hI.a4 h), a5 := (fun h => by rw [put_at a 107 96 _ hs, if_neg (by decide)]; exact hI.a5 h), a6 := (fun h => by rw [put_at a 107 97 _ hs, if_neg (by decide)]; exact hI.a6 h), a7 := (fun h => by rw [put_at a 107 98 _ hs, if_neg (by decide)]; exact hI.a7 h), a8 := (fun h => by rw [put_at a 107 99 _ hs, if_neg (by decide)]; exact hI.a8 h), a9 := (fun h => by rw [put_at a 107 100 _ hs, if_neg (by decide)]; exact hI.a9 h), a10 := (fun h => by rw [put_at a 107 101 _ hs, if_neg (by decide)]; exact hI.a10 h), a11 := (fun h => by rw [put_at a 107 102 _ hs, if_neg (by decide)]; exact hI.a11 h), a12 := (fun h => by rw [put_at a 107 103 _ hs, if_neg (by decide)]; exact hI.a12 h), a13 := (fun h => by rw [put_at a 107 104 _ hs, if_neg (by decide)]; exact hI.a13 h), a14 := (fun h => by rw [put_at a 107 105 _ hs, if_neg (by decide)]; exact hI.a14 h), a15 := (fun h => by rw [put_at a 107 106 _ hs, if_neg (by decide)]; exact hI.a15 h), a16 := (fun _ _ => ⟨w.heap.size, by rw [put_at a 107 107 _ hs, if_pos rfl], rdc_K1 w x y⟩), a17 := (fun h => by rw [show (if (17 : Nat) = 16 then true else L 17) = L 17 from rfl, h8] at h; cases h), a18 := (fun h => by rw [put_at a 107 15 _ hs, if_neg (by decide), put_at a 107 108 _ hs, if_neg (by decide)]; exact hI.a18 h) }
set_option maxRecDepth 100000 in
theorem akf_17 (d0 : (af.toList.any fun e => e.on == 0 && Region.binds .any e) = true) (d16 : (af.toList.any fun e => e.on == 16 && Region.binds .any e) = true) (e99 : dep ops 18 17 = true) (hO : OwnK W B (.slice va vm vc) l) (hBW : B ≤ W.heap.size) (hlen : l.length + 1 ≤ 1099511627776) : StepJ Tryz.prog Q ops (Akf A0 W B q1 va vm vc l i sb so ns sc lb lo nl lc x y) 17 { dst := some 108, op := Op.call { callee := Callee.builtin Builtin.append, args := #[Operand.tmp 91, Operand.tmp 107], argTypes := #[44, 44] }, type := ty, pos := ps, after := af, guard := none } := by
  intro L a w K hI hj hcl hdep hK
  have hs : 108 < a.tmps.size := by rw [hI.sz]; decide
  have t91 := hI.a0 (hdep 0 d0)
  obtain ⟨g, t107, hrc⟩ := hI.a16 (hdep 16 d16) hj
  have hB := hI.b1 hj
  show Oper.wp _ _ a w K _
  refine step_append_K w rfl _ _ rfl B (.slice va vm vc) l t91 (ownK_next hO hB) g (x, y) t107 hrc hlen (Nat.le_trans hBW hB.size) ?_
  intro v' w' o1 g1
  obtain ⟨va', vm', vc', rfl⟩ := Cv.own_slice o1
  have hb' : Below B W w' := (hB.mono hBW).grown g1 (Nat.le_trans hBW hB.size) (fun k hk => ownK_at hO k hk)
  exact hK _ _ { sz := (by simp [Act.put, hI.sz]), df := hI.df, i1 := (by rw [put_at a 108 1 _ hs, if_neg (by decide)]; exact hI.i1), i16 := (by rw [put_at a 108 16 _ hs, if_neg (by decide)]; exact hI.i16), fr := (fun t ht => by rw [put_at a 108 t _ hs, if_neg (fun e => by subst e; revert ht; decide)]; exact hI.fr t ht), b15 := (fun h => by cases h), b1 := (fun h => by cases h), a0 := (fun h => by rw [put_at a 108 91 _ hs, if_neg (by decide)]; exact hI.a0 h), a1 := (fun h => by rw [put_at a 108 92 _ hs, if_neg (by decide)]; exact hI.a1 h), a2 := (fun h => by rw [put_at a 108 93 _ hs, if_neg (by decide)]; exact hI.a2 h), a3 := (fun h => by rw [put_at a 108 94 _ hs, if_neg (by decide)]; exact hI.a3 h), a4 := (fun h => by rw [put_at a 108 95 _ hs, if_neg (by decide)]; exact hI.a4 h), a5 := (fun h => by rw [put_at a 108 96 _ hs, if_neg (by decide)]; exact hI.a5 h), a6 := (fun h => by rw [put_at a 108 97 _ hs, if_neg (by decide)]; exact hI.a6 h), a7 := (fun h => by rw [put_at a 108 98 _ hs, if_neg (by decide)]; exact hI.a7 h), a8 := (fun h => by rw [put_at a 108 99 _ hs, if_neg (by decide)]; exact hI.a8 h), a9 := (fun h => by rw [put_at a 108 100 _ hs, if_neg (by decide)]; exact hI.a9 h), a10 := (fun h => by rw [put_at a 108 101 _ hs, if_neg (by decide)]; exact hI.a10 h), a11 := (fun h => by rw [put_at a 108 102 _ hs, if_neg (by decide)]; exact hI.a11 h), a12 := (fun h => by rw [put_at a 108 103 _ hs, if_neg (by decide)]; exact hI.a12 h), a13 := (fun h => by rw [put_at a 108 104 _ hs, if_neg (by decide)]; exact hI.a13 h), a14 := (fun h => by rw [put_at a 108 105 _ hs, if_neg (by decide)]; exact hI.a14 h), a15 := (fun h => by rw [put_at a 108 106 _ hs, if_neg (by decide)]; exact hI.a15 h), a16 := (fun _ h => by cases h), a17 := (fun _ => ⟨va', vm', vc', by rw [put_at a 108 108 _ hs, if_pos rfl], o1, hb'⟩), a18 := (fun h => by have h' : L 18 = true := h; rw [hcl 18 17 h' e99] at hj; cases hj) }
set_option maxRecDepth 100000 in
theorem akf_18 (d17 : (af.toList.any fun e => e.on == 17 && Region.binds .any e) = true) : StepJ Tryz.prog Q ops (Akf A0 W B q1 va vm vc l i sb so ns sc lb lo nl lc x y) 18 { dst := some 15, op := Op.assign (Operand.tmp 108), type := ty, pos := ps, after := af, guard := none } := by
  intro L a w K hI hj hcl hdep hK
  have hs : 15 < a.tmps.size := by rw [hI.sz]; decide
  obtain ⟨va', vm', vc', t108, o1, hb'⟩ := hI.a17 (hdep 17 d17)
  show Oper.wp _ _ a w K _
  go_simp
  exact hK _ _ { sz := (by simp [Act.put, hI.sz]), df := hI.df, i1 := (by rw [put_at a 15 1 _ hs, if_neg (by decide)]; exact hI.i1), i16 := (by rw [put_at a 15 16 _ hs, if_neg (by decide)]; exact hI.i16), fr := (fun t ht => by rw [put_at a 15 t _ hs, if_neg (fun e => by subst e; revert ht; decide)]; exact hI.fr t ht), b15 := (fun h => by have h' : L 17 = false := h; rw [hdep 17 d17] at h'; cases h'), b1 := (fun h => hI.b1 h), a0 := (fun h => by rw [put_at a 15 91 _ hs, if_neg (by decide)]; exact hI.a0 h), a1 := (fun h => by rw [put_at a 15 92 _ hs, if_neg (by decide)]; exact hI.a1 h), a2 := (fun h => by rw [put_at a 15 93 _ hs, if_neg (by decide)]; exact hI.a2 h), a3 := (fun h => by rw [put_at a 15 94 _ hs, if_neg (by decide)]; exact hI.a3 h), a4 := (fun h => by rw [put_at a 15 95 _ hs, if_neg (by decide)]; exact hI.a4 h), a5 := (fun h => by rw [put_at a 15 96 _ hs, if_neg (by decide)]; exact hI.a5 h), a6 := (fun h => by rw [put_at a 15 97 _ hs, if_neg (by decide)]; exact hI.a6 h), a7 := (fun h => by rw [put_at a 15 98 _ hs, if_neg (by decide)]; exact hI.a7 h), a8 := (fun h => by rw [put_at a 15 99 _ hs, if_neg (by decide)]; exact hI.a8 h), a9 := (fun h => by rw [put_at a 15 100 _ hs, if_neg (by decide)]; exact hI.a9 h), a10 := (fun h => by rw [put_at a 15 101 _ hs, if_neg (by decide)]; exact hI.a10 h), a11 := (fun h => by rw [put_at a 15 102 _ hs, if_neg (by decide)]; exact hI.a11 h), a12 := (fun h => by rw [put_at a 15 103 _ hs, if_neg (by decide)]; exact hI.a12 h), a13 := (fun h => by rw [put_at a 15 104 _ hs, if_neg (by decide)]; exact hI.a13 h), a14 := (fun h => by rw [put_at a 15 105 _ hs, if_neg (by decide)]; exact hI.a14 h), a15 := (fun h => by rw [put_at a 15 106 _ hs, if_neg (by decide)]; exact hI.a15 h), a16 := (fun h h3 => by rw [put_at a 15 107 _ hs, if_neg (by decide)]; exact hI.a16 h h3), a17 := (fun h => by rw [put_at a 15 108 _ hs, if_neg (by decide)]; exact hI.a17 h), a18 := (fun _ => by rw [put_at a 15 15 _ hs, if_pos rfl, put_at a 15 108 _ hs, if_neg (by decide), t108]) }
end
end Go.Proofs.YtipcenbndhnnhaaGreatDoor
