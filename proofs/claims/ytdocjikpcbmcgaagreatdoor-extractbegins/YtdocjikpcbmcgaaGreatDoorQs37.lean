/-
  Own work: EWkE.
-/
import Derived.Deep.CutRange
import Derived.Test.YtdocjikpcbmcgaaGreatDoorQs36
namespace Go.Proofs.YtdocjikpcbmcgaaGreatDoor
open Go.RowKit
attribute [local go_sem ↓] Go.wp_at_zero Go.wp_at_succ
abbrev wkV (k : Int) (v1 : Value) (T2 : Nat) (v2 : Value) : Value := .agg #[.int .i64 k, .iface 69 v1, .iface T2 v2]
abbrev snV (x y : ByteArray) (q : Pq) : Value := .agg #[.string x, .string y, .string (pA q), .string (pB' q), .bool q.isSome]
abbrev bkV (h i : Nat) : Value := .agg #[.int .i64 (h : Int), .int .u64 (i : Int)]
def S5 (w : World) (g : Nat) (x y : ByteArray) (q : Pq) : Prop := w.heap[g]? = some (.cells #[.string x, .string y, .string (pA q), .string (pB' q), .bool q.isSome] 120 (0, 0))
section
variable {w W : World} {g : Nat} {x y : ByteArray} {q : Pq}
theorem S5.cells (h : S5 w g x y q) : w.cell? ⟨g, 0, none⟩ = some (.string x) ∧ w.cell? ⟨g, 1, none⟩ = some (.string y) ∧ w.cell? ⟨g, 2, none⟩ = some (.string (pA q)) ∧ w.cell? ⟨g, 3, none⟩ = some (.string (pB' q)) ∧ w.cell? ⟨g, 4, none⟩ = some (.bool q.isSome) := by
  refine ⟨?_, ?_, ?_, ?_, ?_⟩
  · rw [cell_of_row w g 0 _ _ (0, 0) h]; rfl
  · rw [cell_of_row w g 1 _ _ (0, 0) h]; rfl
  · rw [cell_of_row w g 2 _ _ (0, 0) h]; rfl
  · rw [cell_of_row w g 3 _ _ (0, 0) h]; rfl
  · rw [cell_of_row w g 4 _ _ (0, 0) h]; rfl
theorem S5.fz (h : S5 w g x y q) : ∀ j, w.frozen? ⟨g, j, none⟩ = false := fun j => frozen_of_row w g j _ _ h
theorem S5.lt (h : S5 w g x y q) : g < w.heap.size := (Array.getElem?_eq_some_iff.1 h).1
theorem S5.next (h : S5 w g x y q) (hb : Below w.heap.size w W) : S5 W g x y q := (hb.block g h.lt).trans h
theorem s5_box (w : World) (x y : ByteArray) (q : Pq) : ∃ W, w.alloc (.cells #[.string x, .string y, .string (pA q), .string (pB' q), .bool q.isSome] 120) = W ∧ S5 W w.heap.size x y q ∧ Below w.heap.size w W ∧ W.heap.size = w.heap.size + 1 :=
  ⟨_, rfl, heap_alloc_new w _, bal (Below.refl _ _) _, World.size_alloc ..⟩
abbrev putS (w : World) (g : Nat) (x y : ByteArray) (q : Pq) : World := ((((w.setCell ⟨g, 0, none⟩ (.string x)).setCell ⟨g, 1, none⟩ (.string y)).setCell ⟨g, 2, none⟩ (.string (pA q))).setCell ⟨g, 3, none⟩ (.string (pB' q))).setCell ⟨g, 4, none⟩ (.bool q.isSome)
theorem S5.put (h : S5 w g x y q) (x' y' : ByteArray) (q' : Pq) : S5 (putS w g x' y' q') g x' y' q' := heap_setCell_same _ g 4 _ _ _ (heap_setCell_same _ g 3 _ _ _ (heap_setCell_same _ g 2 _ _ _ (heap_setCell_same _ g 1 _ _ _ (heap_setCell_same w g 0 _ _ _ h))))
theorem putS_ch (w : World) (g : Nat) (x y : ByteArray) (q : Pq) : ChT (fun b => b = g) w (putS w g x y q) := (((((ChT.refl (fun b => b = g) w).set g 0 _ rfl).set g 1 _ rfl).set g 2 _ rfl).set g 3 _ rfl).set g 4 _ rfl
theorem putS_cell {V : World} {v : Value} {b j : Nat} (x' y' : ByteArray) (q' : Pq) (h : V.cell? ⟨b, j, none⟩ = some v) (hb : b ≠ g) : (putS V g x' y' q').cell? ⟨b, j, none⟩ = some v := by
  have hc := putS_ch V g x' y' q'
  generalize putS V g x' y' q' = Z at *
  exact (World.cell?_of_block (hc.block b hb)).trans h
end
structure Bw (W : World) (s0 : Nat) (k : Int) (v1 : Value) (T2 : Nat) (v2 : Value) (h i : Int) : Prop where
  c0 : W.cell? ⟨s0, 0, none⟩ = some (.int .i64 k)
  c1 : W.cell? ⟨s0, 1, none⟩ = some (.iface 69 v1)
  c2 : W.cell? ⟨s0, 2, none⟩ = some (.iface T2 v2)
  d0 : W.cell? ⟨s0 + 1, 0, none⟩ = some (.int .i64 h)
  d1 : W.cell? ⟨s0 + 1, 1, none⟩ = some (.int .u64 i)
  s5 : S5 W (s0 + 1 + 1) ⟨#[]⟩ ⟨#[]⟩ none
theorem Bw.next {W Z : World} {s0 : Nat} {k : Int} {v1 : Value} {T2 : Nat} {v2 : Value} {h i : Int} (b : Bw W s0 k v1 T2 v2 h i) (hb : Below W.heap.size W Z) : Bw Z s0 k v1 T2 v2 h i := by
  have l0 : s0 < W.heap.size := World.block_lt_of_cell? W _ b.c0
  have l1 : s0 + 1 < W.heap.size := World.block_lt_of_cell? W _ b.d0
  exact ⟨(World.cell?_of_block (hb.block s0 l0)).trans b.c0, (World.cell?_of_block (hb.block s0 l0)).trans b.c1, (World.cell?_of_block (hb.block s0 l0)).trans b.c2, (World.cell?_of_block (hb.block (s0 + 1) l1)).trans b.d0, (World.cell?_of_block (hb.block (s0 + 1) l1)).trans b.d1, b.s5.next hb⟩
theorem Bw.ch {W Z : World} {s0 g : Nat} {k : Int} {v1 : Value} {T2 : Nat} {v2 : Value} {h i : Int} (b : Bw W s0 k v1 T2 v2 h i) (hc : ChT (fun b => b = g) W Z) (hg : s0 + 1 + 1 < g) : Bw Z s0 k v1 T2 v2 h i := by
  have n0 : s0 ≠ g := by omega
  have n1 : s0 + 1 ≠ g := by omega
  exact ⟨(World.cell?_of_block (hc.block s0 n0)).trans b.c0, (World.cell?_of_block (hc.block s0 n0)).trans b.c1, (World.cell?_of_block (hc.block s0 n0)).trans b.c2, (World.cell?_of_block (hc.block (s0 + 1) n1)).trans b.d0, (World.cell?_of_block (hc.block (s0 + 1) n1)).trans b.d1, (hc.block (s0 + 1 + 1) (by omega)).trans b.s5⟩
theorem bw_start (w : World) (k : Int) (v1 : Value) (T2 : Nat) (v2 : Value) (h i : Int) : ∃ W, ((w.alloc (.cells #[.int .i64 k, .iface 69 v1, .iface T2 v2] 73)).alloc (.cells #[.int .i64 h, .int .u64 i] 83)).alloc (.cells #[.string ⟨#[]⟩, .string ⟨#[]⟩, .string ⟨#[]⟩, .string ⟨#[]⟩, .bool false] 120) = W ∧ Below w.heap.size w W ∧ Bw W w.heap.size k v1 T2 v2 h i := by
  obtain ⟨W0, hW0, hb0, ⟨c0, c1, c2⟩, ⟨d0, d1⟩, hz⟩ := two_box w (.int .i64 k) (.iface 69 v1) (.iface T2 v2) 73 h i
  rw [hW0]
  have hb1 := bal (Below.refl W0.heap.size W0) (.cells #[.string ⟨#[]⟩, .string ⟨#[]⟩, .string ⟨#[]⟩, .string ⟨#[]⟩, .bool false] 120)
  have h5 := heap_alloc_new W0 (.cells #[.string ⟨#[]⟩, .string ⟨#[]⟩, .string ⟨#[]⟩, .string ⟨#[]⟩, .bool false] 120)
  rw [hz] at h5
  exact ⟨_, rfl, bnext hb0 hb1, (World.cell?_of_block (hb1.block w.heap.size (by omega))).trans c0, (World.cell?_of_block (hb1.block w.heap.size (by omega))).trans c1, (World.cell?_of_block (hb1.block w.heap.size (by omega))).trans c2, (World.cell?_of_block (hb1.block (w.heap.size + 1) (by omega))).trans d0, (World.cell?_of_block (hb1.block (w.heap.size + 1) (by omega))).trans d1, h5⟩
theorem p3_nil (w : World) : ∃ W, w.alloc (.cells #[.string ⟨#[]⟩, .string ⟨#[]⟩, .bool false] 59) = W ∧ P3 W w.heap.size none ∧ Below w.heap.size w W :=
  ⟨_, rfl, heap_alloc_new w _, bal (Below.refl _ _) _⟩
set_option maxRecDepth 100000 in
set_option maxHeartbeats 2000000 in
theorem block_cutP (w : World) (k : Int) (v1 v2 : Value) (h i : Nat) (d1 d2 : ByteArray) (U : Pq) (hU : un ⟨#[]⟩ ⟨#[]⟩ = U)
    (HE1 : Hid (∀ W, Below w.heap.size w W → Calls Tryz.prog 214 #[v1, bkV h i] W fun e w' => e = .returned (ba d1) ∧ Below W.heap.size W w'))
    (HE2 : Hid (∀ W, Below w.heap.size w W → Calls Tryz.prog 216 #[v2, bkV h i] W fun e w' => e = .returned (ba d2) ∧ Below W.heap.size W w')) :
    Calls Tryz.prog 76 #[wkV k v1 107 v2, bkV h i] w fun e w' => e = .returned (snV d1 d2 U) ∧ Below w.heap.size w w' := by
  have HD1 : Hid (∀ W, Below w.heap.size w W → Calls Tryz.prog 223 #[.string d1, .int .i64 k] W fun e w' => e = .returned (.string d1) ∧ Below W.heap.size W w') := fun W _ => badig_any W k d1
  have HD2 : Hid (∀ W, Below w.heap.size w W → Calls Tryz.prog 223 #[.string d2, .int .i64 k] W fun e w' => e = .returned (.string d2) ∧ Below W.heap.size W w') := fun W _ => badig_any W k d2
  have HT1 : Hid (∀ W, Calls Tryz.prog 129 #[ba d1] W fun e w' => e = .returned (.string ⟨#[]⟩) ∧ Below W.heap.size W w') := fun W => told_ba W d1
  have HT2 : Hid (∀ W, Calls Tryz.prog 129 #[ba d2] W fun e w' => e = .returned (.string ⟨#[]⟩) ∧ Below W.heap.size W w') := fun W => told_ba W d2
  have HU : Hid (∀ W, Calls Tryz.prog 70 #[.string ⟨#[]⟩, .string ⟨#[]⟩] W fun e w' => e = .returned (pv U) ∧ Below W.heap.size W w') := fun W => unlike_is W _ _ U hU
  have HO : Hid (∀ W, Calls Tryz.prog 73 #[pv U, .agg #[.string ⟨#[]⟩, .string ⟨#[]⟩, .bool false]] W fun e w' => e = .returned (pv U) ∧ Below W.heap.size W w') := fun W => or_is W U none U (by cases U <;> rfl)
  obtain ⟨W0, hW0, hb0, hB⟩ := bw_start w k v1 107 v2 (h : Int) (i : Int)
  have HX : Hid (∀ V, Below W0.heap.size W0 V → V.cell? ⟨w.heap.size, 1, none⟩ = some (.iface 69 v1) ∧ V.cell? ⟨w.heap.size, 2, none⟩ = some (.iface 107 v2) ∧ V.cell? ⟨w.heap.size + 1, 0, none⟩ = some (.int .i64 (h : Int)) ∧ V.cell? ⟨w.heap.size + 1, 1, none⟩ = some (.int .u64 (i : Int))) := fun V hb => ⟨(hB.next hb).c1, (hB.next hb).c2, (hB.next hb).d0, (hB.next hb).d1⟩
  have HB := hide hB
  have xc := (Below.refl W0.heap.size W0).drew
  obtain ⟨k1, k2, k3, k4⟩ := HX.out W0 (Below.refl _ _)
  clear hB hU
  go_enter Tryz.func76, Tryz.ntmps76
  go_upto_region 1 with (fail)
  try rw [hW0]
  clear hW0
  go_region_held3 (fun V => V.cell? ⟨w.heap.size, 1, none⟩ = some (.iface 69 v1) ∧ V.cell? ⟨w.heap.size, 2, none⟩ = some (.iface 107 v2) ∧ V.cell? ⟨w.heap.size + 1, 0, none⟩ = some (.int .i64 (h : Int)) ∧ V.cell? ⟨w.heap.size + 1, 1, none⟩ = some (.int .u64 (i : Int)))
    (first | with_reducible exact HX.out _ xc | with_reducible exact HX.out _ (Below.refl _ _))
    (first
      | (go_at_call 214; with_reducible refine (HE1.out _ (bnext hb0 xc)).mono ?_; rintro e w1 ⟨rfl, hb1⟩; replace xc := bnext xc hb1; clear hb1)
      | (go_at_call 216; with_reducible refine (HE2.out _ (bnext hb0 xc)).mono ?_; rintro e w1 ⟨rfl, hb1⟩; replace xc := bnext xc hb1; clear hb1))
  have x5 := HB.out.next xc
  have xb := bnext hb0 xc
  clear k1 k2 k3 k4 HX
  go_upto_region 3 with (fail)
  obtain ⟨F, hFe, h3, hb3⟩ := p3_nil w1
  try rw [hFe]
  clear hFe
  have x6 := x5.next hb3
  have xbF := bnext xb hb3
  have hl9 : w.heap.size + 1 + 1 < w1.heap.size := x5.s5.lt
  have HB9 : Hid (∀ V, Below F.heap.size F V → Below w.heap.size w V) := fun V hb => bnext xbF hb
  have HK9 : Hid (∀ V, Below F.heap.size F V → V.cell? ⟨w.heap.size, 0, none⟩ = some (.int .i64 k) ∧ V.cell? ⟨w1.heap.size, 0, none⟩ = some (.string (⟨#[]⟩)) ∧ V.cell? ⟨w1.heap.size, 1, none⟩ = some (.string (⟨#[]⟩)) ∧ V.cell? ⟨w1.heap.size, 2, none⟩ = some (.bool (false))) := fun V hb => ⟨(x6.next hb).c0, (h3.next hb).cells⟩
  have HQ : Hid (∀ V x y q, Below F.heap.size F V → (putS V (w.heap.size + 1 + 1) x y q).cell? ⟨w.heap.size, 0, none⟩ = some (.int .i64 k) ∧ (putS V (w.heap.size + 1 + 1) x y q).cell? ⟨w1.heap.size, 0, none⟩ = some (.string (⟨#[]⟩)) ∧ (putS V (w.heap.size + 1 + 1) x y q).cell? ⟨w1.heap.size, 1, none⟩ = some (.string (⟨#[]⟩)) ∧ (putS V (w.heap.size + 1 + 1) x y q).cell? ⟨w1.heap.size, 2, none⟩ = some (.bool (false))) := fun V x y q hb => by
    obtain ⟨q0, q1, q2, q3⟩ := HK9.out V hb
    have n1 : w.heap.size ≠ w.heap.size + 1 + 1 := by omega
    have n2 : w1.heap.size ≠ w.heap.size + 1 + 1 := by omega
    exact ⟨putS_cell x y q q0 n1, putS_cell x y q q1 n2, putS_cell x y q q2 n2, putS_cell x y q q3 n2⟩
  have HS9 : Hid (∀ V, Below F.heap.size F V → S5 V (w.heap.size + 1 + 1) ⟨#[]⟩ ⟨#[]⟩ none) := fun V hb => (x6.next hb).s5
  obtain ⟨e0, e1, e2, e3⟩ := HK9.out F (Below.refl _ _)
  have xc9 := (Below.refl F.heap.size F).drew
  clear x5 x6 xb hb3 HE1 HE2 HB h3 xc hl9
  go_upto_region 9 with (fail)
  go_region_held3 (fun V => V.cell? ⟨w.heap.size, 0, none⟩ = some (.int .i64 k) ∧ V.cell? ⟨w1.heap.size, 0, none⟩ = some (.string (⟨#[]⟩)) ∧ V.cell? ⟨w1.heap.size, 1, none⟩ = some (.string (⟨#[]⟩)) ∧ V.cell? ⟨w1.heap.size, 2, none⟩ = some (.bool (false)))
    (first | with_reducible exact HK9.out _ xc9 | with_reducible exact HQ9.out | with_reducible exact HK9.out _ (Below.refl _ _))
    (first
      | (go_at_call 223; first
          | (with_reducible refine (HD1.out _ (HB9.out _ xc9)).mono ?_)
          | (with_reducible refine (HD2.out _ (HB9.out _ xc9)).mono ?_)
         rintro e w2 ⟨rfl, hb1⟩; replace xc9 := bnext xc9 hb1; clear hb1)
      | (go_at_call 129; first
          | (with_reducible refine (HT1.out _).mono ?_)
          | (with_reducible refine (HT2.out _).mono ?_)
         rintro e w2 ⟨rfl, hb1⟩; replace xc9 := bnext xc9 hb1; clear hb1)
      | (go_at_call 70; with_reducible refine (HU.out _).mono ?_; rintro e w2 ⟨rfl, hb1⟩; replace xc9 := bnext xc9 hb1; clear hb1)
      | (go_at_call 73; with_reducible refine (HO.out _).mono ?_; rintro e w9 ⟨rfl, hb1⟩; replace xc9 := bnext xc9 hb1; clear hb1
         have s9 := HS9.out _ xc9
         obtain ⟨a0, a1, a2, a3, a4⟩ := s9.cells
         have fz := s9.fz
         have HQ9 := hide (HQ.out w9 d1 d2 U xc9)))
  have hp := s9.put d1 d2 U
  have hch := putS_ch w9 (w.heap.size + 1 + 1) d1 d2 U
  obtain ⟨b0, b1, b2, b3, b4⟩ := hp.cells
  go_wp2
  refine bodyPost_ret (v := snV d1 d2 U) (by simp [results, Tryz.results76, go_sem, b0, b1, b2, b3, b4]) rfl ⟨rfl, ?_⟩
  exact (HB9.out _ xc9).trans (hch.below (by rintro b rfl; omega))
set_option maxRecDepth 100000 in
set_option maxHeartbeats 2000000 in
theorem block_leafP (w : World) (k : Int) (v1 v2 : Value) (h i : Nat) (ht : Tb w) (t1 t2 : ByteArray) (hs1 : t1.size < 4611686018427387904) (hs2 : t2.size < 4611686018427387904) (r1 r2 : ByteArray) (hr1 : dg (clk k) t1 = r1) (hr2 : dg (clk k) t2 = r2) (U : Pq) (hU : un t1 t2 = U)
    (HE1 : Hid (∀ W, Below w.heap.size w W → Calls Tryz.prog 214 #[v1, bkV h i] W fun e w' => e = .returned (wo t1) ∧ Below W.heap.size W w'))
    (HE2 : Hid (∀ W, Below w.heap.size w W → Calls Tryz.prog 216 #[v2, bkV h i] W fun e w' => e = .returned (wo t2) ∧ Below W.heap.size W w')) :
    Calls Tryz.prog 76 #[wkV k v1 107 v2, bkV h i] w fun e w' => e = .returned (snV r1 r2 U) ∧ Below w.heap.size w w' := by
  have HD1 : Hid (∀ W, Below w.heap.size w W → Calls Tryz.prog 222 #[.string t1, .int .i64 k] W fun e w' => e = .returned (.string r1) ∧ Below W.heap.size W w') := fun W hb => wodig_any W (ht.next hb) k t1 hs1 r1 hr1
  have HD2 : Hid (∀ W, Below w.heap.size w W → Calls Tryz.prog 222 #[.string t2, .int .i64 k] W fun e w' => e = .returned (.string r2) ∧ Below W.heap.size W w') := fun W hb => wodig_any W (ht.next hb) k t2 hs2 r2 hr2
  have HT1 : Hid (∀ W, Calls Tryz.prog 129 #[wo t1] W fun e w' => e = .returned (.string t1) ∧ Below W.heap.size W w') := fun W => told_wo W t1
  have HT2 : Hid (∀ W, Calls Tryz.prog 129 #[wo t2] W fun e w' => e = .returned (.string t2) ∧ Below W.heap.size W w') := fun W => told_wo W t2
  have HU : Hid (∀ W, Calls Tryz.prog 70 #[.string t1, .string t2] W fun e w' => e = .returned (pv U) ∧ Below W.heap.size W w') := fun W => unlike_is W _ _ U hU
  have HO : Hid (∀ W, Calls Tryz.prog 73 #[pv U, .agg #[.string ⟨#[]⟩, .string ⟨#[]⟩, .bool false]] W fun e w' => e = .returned (pv U) ∧ Below W.heap.size W w') := fun W => or_is W U none U (by cases U <;> rfl)
  obtain ⟨W0, hW0, hb0, hB⟩ := bw_start w k v1 107 v2 (h : Int) (i : Int)
  have HX : Hid (∀ V, Below W0.heap.size W0 V → V.cell? ⟨w.heap.size, 1, none⟩ = some (.iface 69 v1) ∧ V.cell? ⟨w.heap.size, 2, none⟩ = some (.iface 107 v2) ∧ V.cell? ⟨w.heap.size + 1, 0, none⟩ = some (.int .i64 (h : Int)) ∧ V.cell? ⟨w.heap.size + 1, 1, none⟩ = some (.int .u64 (i : Int))) := fun V hb => ⟨(hB.next hb).c1, (hB.next hb).c2, (hB.next hb).d0, (hB.next hb).d1⟩
  have HB := hide hB
  have xc := (Below.refl W0.heap.size W0).drew
  obtain ⟨k1, k2, k3, k4⟩ := HX.out W0 (Below.refl _ _)
  clear hB ht hs1 hs2 hr1 hr2 hU
  go_enter Tryz.func76, Tryz.ntmps76
  go_upto_region 1 with (fail)
  try rw [hW0]
  clear hW0
  go_region_held3 (fun V => V.cell? ⟨w.heap.size, 1, none⟩ = some (.iface 69 v1) ∧ V.cell? ⟨w.heap.size, 2, none⟩ = some (.iface 107 v2) ∧ V.cell? ⟨w.heap.size + 1, 0, none⟩ = some (.int .i64 (h : Int)) ∧ V.cell? ⟨w.heap.size + 1, 1, none⟩ = some (.int .u64 (i : Int)))
    (first | with_reducible exact HX.out _ xc | with_reducible exact HX.out _ (Below.refl _ _))
    (first
      | (go_at_call 214; with_reducible refine (HE1.out _ (bnext hb0 xc)).mono ?_; rintro e w1 ⟨rfl, hb1⟩; replace xc := bnext xc hb1; clear hb1)
      | (go_at_call 216; with_reducible refine (HE2.out _ (bnext hb0 xc)).mono ?_; rintro e w1 ⟨rfl, hb1⟩; replace xc := bnext xc hb1; clear hb1))
  have x5 := HB.out.next xc
  have xb := bnext hb0 xc
  clear k1 k2 k3 k4 HX
  go_upto_region 3 with (fail)
  obtain ⟨F, hFe, h3, hb3⟩ := p3_nil w1
  try rw [hFe]
  clear hFe
  have x6 := x5.next hb3
  have xbF := bnext xb hb3
  have hl9 : w.heap.size + 1 + 1 < w1.heap.size := x5.s5.lt
  have HB9 : Hid (∀ V, Below F.heap.size F V → Below w.heap.size w V) := fun V hb => bnext xbF hb
  have HK9 : Hid (∀ V, Below F.heap.size F V → V.cell? ⟨w.heap.size, 0, none⟩ = some (.int .i64 k) ∧ V.cell? ⟨w1.heap.size, 0, none⟩ = some (.string (⟨#[]⟩)) ∧ V.cell? ⟨w1.heap.size, 1, none⟩ = some (.string (⟨#[]⟩)) ∧ V.cell? ⟨w1.heap.size, 2, none⟩ = some (.bool (false))) := fun V hb => ⟨(x6.next hb).c0, (h3.next hb).cells⟩
  have HQ : Hid (∀ V x y q, Below F.heap.size F V → (putS V (w.heap.size + 1 + 1) x y q).cell? ⟨w.heap.size, 0, none⟩ = some (.int .i64 k) ∧ (putS V (w.heap.size + 1 + 1) x y q).cell? ⟨w1.heap.size, 0, none⟩ = some (.string (⟨#[]⟩)) ∧ (putS V (w.heap.size + 1 + 1) x y q).cell? ⟨w1.heap.size, 1, none⟩ = some (.string (⟨#[]⟩)) ∧ (putS V (w.heap.size + 1 + 1) x y q).cell? ⟨w1.heap.size, 2, none⟩ = some (.bool (false))) := fun V x y q hb => by
    obtain ⟨q0, q1, q2, q3⟩ := HK9.out V hb
    have n1 : w.heap.size ≠ w.heap.size + 1 + 1 := by omega
    have n2 : w1.heap.size ≠ w.heap.size + 1 + 1 := by omega
    exact ⟨putS_cell x y q q0 n1, putS_cell x y q q1 n2, putS_cell x y q q2 n2, putS_cell x y q q3 n2⟩
  have HS9 : Hid (∀ V, Below F.heap.size F V → S5 V (w.heap.size + 1 + 1) ⟨#[]⟩ ⟨#[]⟩ none) := fun V hb => (x6.next hb).s5
  obtain ⟨e0, e1, e2, e3⟩ := HK9.out F (Below.refl _ _)
  have xc9 := (Below.refl F.heap.size F).drew
  clear x5 x6 xb hb3 HE1 HE2 HB h3 xc hl9
  go_upto_region 9 with (fail)
  go_region_held3 (fun V => V.cell? ⟨w.heap.size, 0, none⟩ = some (.int .i64 k) ∧ V.cell? ⟨w1.heap.size, 0, none⟩ = some (.string (⟨#[]⟩)) ∧ V.cell? ⟨w1.heap.size, 1, none⟩ = some (.string (⟨#[]⟩)) ∧ V.cell? ⟨w1.heap.size, 2, none⟩ = some (.bool (false)))
    (first | with_reducible exact HK9.out _ xc9 | with_reducible exact HQ9.out | with_reducible exact HK9.out _ (Below.refl _ _))
    (first
      | (go_at_call 222; first
          | (with_reducible refine (HD1.out _ (HB9.out _ xc9)).mono ?_)
          | (with_reducible refine (HD2.out _ (HB9.out _ xc9)).mono ?_)
         rintro e w2 ⟨rfl, hb1⟩; replace xc9 := bnext xc9 hb1; clear hb1)
      | (go_at_call 129; first
          | (with_reducible refine (HT1.out _).mono ?_)
          | (with_reducible refine (HT2.out _).mono ?_)
         rintro e w2 ⟨rfl, hb1⟩; replace xc9 := bnext xc9 hb1; clear hb1)
      | (go_at_call 70; with_reducible refine (HU.out _).mono ?_; rintro e w2 ⟨rfl, hb1⟩; replace xc9 := bnext xc9 hb1; clear hb1)
      | (go_at_call 73; with_reducible refine (HO.out _).mono ?_; rintro e w9 ⟨rfl, hb1⟩; replace xc9 := bnext xc9 hb1; clear hb1
         have s9 := HS9.out _ xc9
         obtain ⟨a0, a1, a2, a3, a4⟩ := s9.cells
         have fz := s9.fz
         have HQ9 := hide (HQ.out w9 r1 r2 U xc9)))
  have hp := s9.put r1 r2 U
  have hch := putS_ch w9 (w.heap.size + 1 + 1) r1 r2 U
  obtain ⟨b0, b1, b2, b3, b4⟩ := hp.cells
  go_wp2
  refine bodyPost_ret (v := snV r1 r2 U) (by simp [results, Tryz.results76, go_sem, b0, b1, b2, b3, b4]) rfl ⟨rfl, ?_⟩
  exact (HB9.out _ xc9).trans (hch.below (by rintro b rfl; omega))
set_option maxRecDepth 100000 in
set_option maxHeartbeats 4000000 in
theorem block_nodeP (w : World) (k : Int) (v1 v2 : Value) (g h i j m : Nat) (hg : g = h + 1) (hh : g ≤ 40) (hj : j = 2 * i) (hm : m = j + 1) (hi : i < 1099511627776) (ht : Tb w)
    (x1 y1 x2 y2 : ByteArray) (q1 q2 : Pq) (hs : x1.size ≤ 32 ∧ y1.size ≤ 32 ∧ x2.size ≤ 32 ∧ y2.size ≤ 32) (t1 t2 : ByteArray) (ht1 : nodeT x1 x2 = t1) (ht2 : nodeT y1 y2 = t2) (r1 r2 : ByteArray) (hr1 : dg (clk k) t1 = r1) (hr2 : dg (clk k) t2 = r2) (U Y Z : Pq) (hU : un t1 t2 = U) (hY : q1.or q2 = Y) (hZ : U.or Y = Z)
    (HE1 : Hid (∀ W, Below w.heap.size w W → Calls Tryz.prog 214 #[v1, bkV g i] W fun e w' => e = .returned .nilIface ∧ Below W.heap.size W w'))
    (HE2 : Hid (∀ W, Below w.heap.size w W → Calls Tryz.prog 216 #[v2, bkV g i] W fun e w' => e = .returned .nilIface ∧ Below W.heap.size W w'))
    (HL1 : Hid (∀ W, Below w.heap.size w W → Calls Tryz.prog 76 #[wkV k v1 107 v2, bkV h j] W fun e w' => e = .returned (snV x1 y1 q1) ∧ Below W.heap.size W w'))
    (HL2 : Hid (∀ W, Below w.heap.size w W → Calls Tryz.prog 76 #[wkV k v1 107 v2, bkV h m] W fun e w' => e = .returned (snV x2 y2 q2) ∧ Below W.heap.size W w')) :
    Calls Tryz.prog 76 #[wkV k v1 107 v2, bkV g i] w fun e w' => e = .returned (snV r1 r2 Z) ∧ Below w.heap.size w w' := by
  have hs1 : t1.size < 4611686018427387904 := by rw [← ht1, nodeT_size]; omega
  have hs2 : t2.size < 4611686018427387904 := by rw [← ht2, nodeT_size]; omega
  have HD1 : Hid (∀ W, Below w.heap.size w W → Calls Tryz.prog 222 #[.string t1, .int .i64 k] W fun e w' => e = .returned (.string r1) ∧ Below W.heap.size W w') := fun W hb => wodig_any W (ht.next hb) k t1 hs1 r1 hr1
  have HD2 : Hid (∀ W, Below w.heap.size w W → Calls Tryz.prog 222 #[.string t2, .int .i64 k] W fun e w' => e = .returned (.string r2) ∧ Below W.heap.size W w') := fun W hb => wodig_any W (ht.next hb) k t2 hs2 r2 hr2
  have HT1 : Hid (∀ W, Calls Tryz.prog 129 #[wo t1] W fun e w' => e = .returned (.string t1) ∧ Below W.heap.size W w') := fun W => told_wo W t1
  have HT2 : Hid (∀ W, Calls Tryz.prog 129 #[wo t2] W fun e w' => e = .returned (.string t2) ∧ Below W.heap.size W w') := fun W => told_wo W t2
  have HU : Hid (∀ W, Calls Tryz.prog 70 #[.string t1, .string t2] W fun e w' => e = .returned (pv U) ∧ Below W.heap.size W w') := fun W => unlike_is W _ _ U hU
  have HO : Hid (∀ W, Calls Tryz.prog 73 #[pv U, pv Y] W fun e w' => e = .returned (pv Z) ∧ Below W.heap.size W w') := fun W => or_is W U Y Z hZ
  have HN1 : Hid (∀ W, Calls Tryz.prog 128 #[.string x1, .string x2] W fun e w' => e = .returned (.string t1) ∧ Below W.heap.size W w') := fun W => by have := nodet_any W x1 x2 (by omega) (by omega); rwa [ht1] at this
  have HN2 : Hid (∀ W, Calls Tryz.prog 128 #[.string y1, .string y2] W fun e w' => e = .returned (.string t2) ∧ Below W.heap.size W w') := fun W => by have := nodet_any W y1 y2 (by omega) (by omega); rwa [ht2] at this
  have HOY : Hid (∀ W, Calls Tryz.prog 73 #[pv q1, pv q2] W fun e w' => e = .returned (pv Y) ∧ Below W.heap.size W w') := fun W => or_is W q1 q2 Y hY
  obtain ⟨W0, hW0, hb0, hB⟩ := bw_start w k v1 107 v2 (g : Int) (i : Int)
  have HX : Hid (∀ V, Below W0.heap.size W0 V → V.cell? ⟨w.heap.size, 1, none⟩ = some (.iface 69 v1) ∧ V.cell? ⟨w.heap.size, 2, none⟩ = some (.iface 107 v2) ∧ V.cell? ⟨w.heap.size + 1, 0, none⟩ = some (.int .i64 (g : Int)) ∧ V.cell? ⟨w.heap.size + 1, 1, none⟩ = some (.int .u64 (i : Int))) := fun V hb => ⟨(hB.next hb).c1, (hB.next hb).c2, (hB.next hb).d0, (hB.next hb).d1⟩
  have HB := hide hB
  have xc := (Below.refl W0.heap.size W0).drew
  obtain ⟨k1, k2, k3, k4⟩ := HX.out W0 (Below.refl _ _)
  have u1 : (g : Int) - 1 = (h : Int) := by omega
  have u2 : 2 * (i : Int) = (j : Int) := by omega
  have u3 : (j : Int) + 1 = (m : Int) := by omega
  have u4 : (j : Int) ≤ 2199023255552 := by omega
  have u5 : (g : Int) ≤ 40 := by omega
  have HU9 := hide (And.intro u1 (And.intro u2 (And.intro u3 (And.intro u4 u5))))
  clear hB ht hs1 hs2 hr1 hr2 hU hY hZ ht1 ht2 hs hg hh hj hi hm u1 u2 u3 u4 u5
  go_enter Tryz.func76, Tryz.ntmps76
  go_upto_region 1 with (fail)
  try rw [hW0]
  clear hW0
  go_region_held3 (fun V => V.cell? ⟨w.heap.size, 1, none⟩ = some (.iface 69 v1) ∧ V.cell? ⟨w.heap.size, 2, none⟩ = some (.iface 107 v2) ∧ V.cell? ⟨w.heap.size + 1, 0, none⟩ = some (.int .i64 (g : Int)) ∧ V.cell? ⟨w.heap.size + 1, 1, none⟩ = some (.int .u64 (i : Int)))
    (first | with_reducible exact HX.out _ xc | with_reducible exact HX.out _ (Below.refl _ _))
    (first
      | (go_at_call 214; with_reducible refine (HE1.out _ (bnext hb0 xc)).mono ?_; rintro e w1 ⟨rfl, hb1⟩; replace xc := bnext xc hb1; clear hb1)
      | (go_at_call 216; with_reducible refine (HE2.out _ (bnext hb0 xc)).mono ?_; rintro e w1 ⟨rfl, hb1⟩; replace xc := bnext xc hb1; clear hb1))
  have x5 := HB.out.next xc
  have xb := bnext hb0 xc
  clear k1 k2 k3 k4 HX
  go_upto_region 3 with (fail)
  obtain ⟨F, hFe, h3, hb3⟩ := p3_nil w1
  try rw [hFe]
  clear hFe
  have x6 := x5.next hb3
  have xbF := bnext xb hb3
  have hl9 : w.heap.size + 1 + 1 < w1.heap.size := x5.s5.lt
  have ⟨c0, c1, c2, d0, d1, _⟩ := x6
  obtain ⟨u1, u2, u3, u4, u5⟩ := HU9.out
  clear x5 xb hb3 HE1 HE2 HB xc
  have H3 := hide h3
  have H6 := hide x6
  clear h3 x6
  go_upto_region 5 with (go_at_call 76; with_reducible refine (HL1.out _ xbF).mono ?_; rintro e w2 ⟨rfl, hb2⟩)
  obtain ⟨F2, hFe, s51, hb4, hsz2⟩ := s5_box w2 x1 y1 q1
  try rw [hFe]
  clear hFe
  have y6 := H6.out.next (bnext hb2 hb4)
  have ⟨c0', c1', c2', d0', d1', _⟩ := y6
  have xb2 := bnext xbF (bnext hb2 hb4)
  have hz2 : w1.heap.size < w2.heap.size := (H3.out.next hb2).lt
  clear c0 c1 c2 d0 d1 y6
  go_upto_region 6 with (go_at_call 76; with_reducible refine (HL2.out _ xb2).mono ?_; rintro e w3 ⟨rfl, hb5⟩)
  obtain ⟨F3, hFe, s52, hb6, hsz3⟩ := s5_box w3 x2 y2 q2
  try rw [hFe]
  clear hFe
  have s53 := s51.next (bnext hb5 hb6)
  obtain ⟨a0, a1, a2, a3, a4⟩ := s53.cells
  obtain ⟨b0, b1, b2, b3, b4⟩ := s52.cells
  have xb3 := bnext xb2 (bnext hb5 hb6)
  have HA : Hid (∀ V, Below F3.heap.size F3 V → Bw V w.heap.size k v1 107 v2 (g : Int) (i : Int) ∧ P3 V w1.heap.size none ∧ S5 V w2.heap.size x1 y1 q1 ∧ S5 V w3.heap.size x2 y2 q2) := fun V hb => ⟨H6.out.next (bnext (bnext (bnext (bnext hb2 hb4) hb5) hb6) hb), H3.out.next (bnext (bnext (bnext (bnext hb2 hb4) hb5) hb6) hb), s53.next hb, s52.next hb⟩
  clear c0' c1' c2' d0' d1' hb2 hb4 hb5 hb6 xb2 s51 s52 s53 hsz2 hsz3 u1 u2 u3 u4 u5 HU9 HL1 HL2 H3 H6
  have xcA := Below.refl F3.heap.size F3
  go_upto_region 7 with (go_at_call 128; with_reducible refine (HN1.out _).mono ?_; rintro e w4 ⟨rfl, hb7⟩)
  replace xcA := bnext xcA hb7
  have ⟨_, _, z51, z52⟩ := HA.out _ xcA
  obtain ⟨a0, a1, a2, a3, a4⟩ := z51.cells
  obtain ⟨b0, b1, b2, b3, b4⟩ := z52.cells
  go_upto_region 8 with (go_at_call 128; with_reducible refine (HN2.out _).mono ?_; rintro e w5 ⟨rfl, hb8⟩)
  replace xcA := bnext xcA hb8
  have ⟨_, _, z51', z52'⟩ := HA.out _ xcA
  obtain ⟨a0, a1, a2, a3, a4⟩ := z51'.cells
  obtain ⟨b0, b1, b2, b3, b4⟩ := z52'.cells
  clear z51 z52 z51' z52' hb7 hb8
  go_upto_region 9 with (go_at_call 73; with_reducible refine (HOY.out _).mono ?_; rintro e w6 ⟨rfl, hb9⟩; replace xcA := bnext xcA hb9; obtain ⟨y6, h3, _, _⟩ := HA.out _ xcA; obtain ⟨g0, g1, g2⟩ := h3.cells; have gf := h3.fz)
  obtain ⟨F, hFe⟩ : ∃ F, putP w6 w1.heap.size Y = F := ⟨_, rfl⟩
  have hp3 := h3.put Y
  have hch3 := putP_ch w6 w1.heap.size Y
  rw [hFe] at hp3 hch3
  unfold putP at hFe
  try rw [hFe]
  clear hFe
  have x6 : Bw F w.heap.size k v1 107 v2 (g : Int) (i : Int) := y6.ch hch3 hl9
  have xbF : Below w.heap.size w F := (bnext xb3 xcA).trans (hch3.below (by rintro b rfl; omega))
  clear h3 g0 g1 g2 gf y6 hch3 xcA xb3 hb9
  have h3 := hp3
  clear hp3
  have HB9 : Hid (∀ V, Below F.heap.size F V → Below w.heap.size w V) := fun V hb => bnext xbF hb
  have HK9 : Hid (∀ V, Below F.heap.size F V → V.cell? ⟨w.heap.size, 0, none⟩ = some (.int .i64 k) ∧ V.cell? ⟨w1.heap.size, 0, none⟩ = some (.string (pA Y)) ∧ V.cell? ⟨w1.heap.size, 1, none⟩ = some (.string (pB' Y)) ∧ V.cell? ⟨w1.heap.size, 2, none⟩ = some (.bool (Option.isSome Y))) := fun V hb => ⟨(x6.next hb).c0, (h3.next hb).cells⟩
  have HQ : Hid (∀ V x y q, Below F.heap.size F V → (putS V (w.heap.size + 1 + 1) x y q).cell? ⟨w.heap.size, 0, none⟩ = some (.int .i64 k) ∧ (putS V (w.heap.size + 1 + 1) x y q).cell? ⟨w1.heap.size, 0, none⟩ = some (.string (pA Y)) ∧ (putS V (w.heap.size + 1 + 1) x y q).cell? ⟨w1.heap.size, 1, none⟩ = some (.string (pB' Y)) ∧ (putS V (w.heap.size + 1 + 1) x y q).cell? ⟨w1.heap.size, 2, none⟩ = some (.bool (Option.isSome Y))) := fun V x y q hb => by
    obtain ⟨q0, q1, q2, q3⟩ := HK9.out V hb
    have n1 : w.heap.size ≠ w.heap.size + 1 + 1 := by omega
    have n2 : w1.heap.size ≠ w.heap.size + 1 + 1 := by omega
    exact ⟨putS_cell x y q q0 n1, putS_cell x y q q1 n2, putS_cell x y q q2 n2, putS_cell x y q q3 n2⟩
  have HS9 : Hid (∀ V, Below F.heap.size F V → S5 V (w.heap.size + 1 + 1) ⟨#[]⟩ ⟨#[]⟩ none) := fun V hb => (x6.next hb).s5
  obtain ⟨e0, e1, e2, e3⟩ := HK9.out F (Below.refl _ _)
  have xc9 := (Below.refl F.heap.size F).drew
  clear x6 h3 hl9
  go_region_held3 (fun V => V.cell? ⟨w.heap.size, 0, none⟩ = some (.int .i64 k) ∧ V.cell? ⟨w1.heap.size, 0, none⟩ = some (.string (pA Y)) ∧ V.cell? ⟨w1.heap.size, 1, none⟩ = some (.string (pB' Y)) ∧ V.cell? ⟨w1.heap.size, 2, none⟩ = some (.bool (Option.isSome Y)))
    (first | with_reducible exact HK9.out _ xc9 | with_reducible exact HQ9.out | with_reducible exact HK9.out _ (Below.refl _ _))
    (first
      | (go_at_call 222; first
          | (with_reducible refine (HD1.out _ (HB9.out _ xc9)).mono ?_)
          | (with_reducible refine (HD2.out _ (HB9.out _ xc9)).mono ?_)
         rintro e w2 ⟨rfl, hb1⟩; replace xc9 := bnext xc9 hb1; clear hb1)
      | (go_at_call 129; first
          | (with_reducible refine (HT1.out _).mono ?_)
          | (with_reducible refine (HT2.out _).mono ?_)
         rintro e w2 ⟨rfl, hb1⟩; replace xc9 := bnext xc9 hb1; clear hb1)
      | (go_at_call 70; with_reducible refine (HU.out _).mono ?_; rintro e w2 ⟨rfl, hb1⟩; replace xc9 := bnext xc9 hb1; clear hb1)
      | (go_at_call 73; with_reducible refine (HO.out _).mono ?_; rintro e w9 ⟨rfl, hb1⟩; replace xc9 := bnext xc9 hb1; clear hb1
         have s9 := HS9.out _ xc9
         obtain ⟨a0, a1, a2, a3, a4⟩ := s9.cells
         have fz := s9.fz
         have HQ9 := hide (HQ.out w9 r1 r2 Z xc9)))
  have hp := s9.put r1 r2 Z
  have hch := putS_ch w9 (w.heap.size + 1 + 1) r1 r2 Z
  obtain ⟨b0, b1, b2, b3, b4⟩ := hp.cells
  go_wp2
  refine bodyPost_ret (v := snV r1 r2 Z) (by simp [results, Tryz.results76, go_sem, b0, b1, b2, b3, b4]) rfl ⟨rfl, ?_⟩
  exact (HB9.out _ xc9).trans (hch.below (by rintro b rfl; omega))
end Go.Proofs.YtdocjikpcbmcgaaGreatDoor
