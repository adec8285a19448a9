/-
  Own work: EWkEL, EWkH.
-/
import Derived.Test.YtdocjikpcbmcgaaGreatDoorQs44
import Derived.Deep.Onto
import Derived.ArgAppend
import Derived.Laws.AppendOwnNone
import Derived.Laws.IdiomStrings
import Derived.Deep.RegionWith
import Derived.Handy
import Derived.KernelRfl
import Derived.WalkKit
import Derived.WalkSpells
import Derived.Outline
import Derived.Deep.LoopGhost
import Derived.Deep.RegionHeld3
import Derived.Deep.MidRow
import Derived.Deep.DrawnRows
import Derived.Deep.Light
import Derived.Deep.Cut
import Derived.Deep.CutRange
import Derived.Lib.SliceRun
import Derived.Test.YtdocjikpcbmcgaaGreatDoorProg
import Derived.Below
import Derived.Lib.LazyBuf
import Derived.Deep.RegionLaw
import Derived.Lib.BufferOwn
import Derived.BigQuiet
import Derived.WalkMore
import Derived.Deep.OwnRows
import Derived.Laws.Bits64b
import Derived.Test.YtdocjikpcbmcgaaGreatDoorRows
import Derived.Maps.Keyed
import Derived.DeepKeys4
import Derived.Lib.AppendZeros
import Derived.Defers
import Derived.Recover
import Derived.Deep.DeepMakePanics
import Derived.OwnWalk
import Derived.WalkLawsBesides
import Derived.Laws.BitsAllLaws
import Derived.Deep.AppendSrc
import Derived.Lib.AppendStr
import Derived.Deep.Upon
import Derived.BigRegion
import Derived.Test.YtdocjikpcbmcgaaGreatDoorQb01
namespace Go.Proofs.YtdocjikpcbmcgaaGreatDoor
open Go.RowKit
attribute [local go_sem ↓] Go.wp_at_zero Go.wp_at_succ
set_option maxRecDepth 100000 in
set_option maxHeartbeats 2000000 in
theorem block_cutL (w : World) (k : Int) (v1 v2 : Value) (h i : Nat) (d1 d2 : ByteArray) (U : Pq) (hU : un ⟨#[]⟩ ⟨#[]⟩ = U)
    (HE1 : Hid (∀ W, Below w.heap.size w W → Calls Tryz.prog 214 #[v1, bkV h i] W fun e w' => e = .returned (ba d1) ∧ Below W.heap.size W w'))
    (HE2 : Hid (∀ W, Below w.heap.size w W → Calls Tryz.prog 214 #[v2, bkV h i] W fun e w' => e = .returned (ba d2) ∧ Below W.heap.size W w')) :
    Calls Tryz.prog 76 #[wkV k v1 69 v2, bkV h i] w fun e w' => e = .returned (snV d1 d2 U) ∧ Below w.heap.size w w' := by
  have HD1 : Hid (∀ W, Below w.heap.size w W → Calls Tryz.prog 223 #[.string d1, .int .i64 k] W fun e w' => e = .returned (.string d1) ∧ Below W.heap.size W w') := fun W _ => badig_any W k d1
  have HD2 : Hid (∀ W, Below w.heap.size w W → Calls Tryz.prog 223 #[.string d2, .int .i64 k] W fun e w' => e = .returned (.string d2) ∧ Below W.heap.size W w') := fun W _ => badig_any W k d2
  have HT1 : Hid (∀ W, Calls Tryz.prog 129 #[ba d1] W fun e w' => e = .returned (.string ⟨#[]⟩) ∧ Below W.heap.size W w') := fun W => told_ba W d1
  have HT2 : Hid (∀ W, Calls Tryz.prog 129 #[ba d2] W fun e w' => e = .returned (.string ⟨#[]⟩) ∧ Below W.heap.size W w') := fun W => told_ba W d2
  have HU : Hid (∀ W, Calls Tryz.prog 70 #[.string ⟨#[]⟩, .string ⟨#[]⟩] W fun e w' => e = .returned (pv U) ∧ Below W.heap.size W w') := fun W => unlike_is W _ _ U hU
  have HO : Hid (∀ W, Calls Tryz.prog 73 #[pv U, .agg #[.string ⟨#[]⟩, .string ⟨#[]⟩, .bool false]] W fun e w' => e = .returned (pv U) ∧ Below W.heap.size W w') := fun W => or_is W U none U (by cases U <;> rfl)
  obtain ⟨W0, hW0, hb0, hB⟩ := bw_start w k v1 69 v2 (h : Int) (i : Int)
  have HX : Hid (∀ V, Below W0.heap.size W0 V → V.cell? ⟨w.heap.size, 1, none⟩ = some (.iface 69 v1) ∧ V.cell? ⟨w.heap.size, 2, none⟩ = some (.iface 69 v2) ∧ V.cell? ⟨w.heap.size + 1, 0, none⟩ = some (.int .i64 (h : Int)) ∧ V.cell? ⟨w.heap.size + 1, 1, none⟩ = some (.int .u64 (i : Int))) := fun V hb => ⟨(hB.next hb).c1, (hB.next hb).c2, (hB.next hb).d0, (hB.next hb).d1⟩
  have HB := hide hB
  have xc := (Below.refl W0.heap.size W0).drew
  obtain ⟨k1, k2, k3, k4⟩ := HX.out W0 (Below.refl _ _)
  clear hB hU
  go_enter Tryz.func76, Tryz.ntmps76
  go_upto_region 1 with (fail)
  try rw [hW0]
  clear hW0
  go_region_held3 (fun V => V.cell? ⟨w.heap.size, 1, none⟩ = some (.iface 69 v1) ∧ V.cell? ⟨w.heap.size, 2, none⟩ = some (.iface 69 v2) ∧ V.cell? ⟨w.heap.size + 1, 0, none⟩ = some (.int .i64 (h : Int)) ∧ V.cell? ⟨w.heap.size + 1, 1, none⟩ = some (.int .u64 (i : Int)))
    (first | with_reducible exact HX.out _ xc | with_reducible exact HX.out _ (Below.refl _ _))
    (first
      | (go_at_call 214; with_reducible refine (HE1.out _ (bnext hb0 xc)).mono ?_; rintro e w1 ⟨rfl, hb1⟩; replace xc := bnext xc hb1; clear hb1)
      | (go_at_call 214; with_reducible refine (HE2.out _ (bnext hb0 xc)).mono ?_; rintro e w1 ⟨rfl, hb1⟩; replace xc := bnext xc hb1; clear hb1))
  have x5 := HB.out.next xc
  have xb := bnext hb0 xc
  clear k1 k2 k3 k4 HX
  go_upto_region 3 with (fail)
  obtain ⟨F, hFe, h3, hb3⟩ := p3_nil w1
  try rw [hFe]
  clear hFe
  have x6 := x5.next hb3
  have xbF := bnext xb hb3
  have hl9 : w.heap.size + 1 + 1 < w1.heap.size := x5.s5.lt
  have HB9 : Hid (∀ V, Below F.heap.size F V → Below w.heap.size w V) := fun V hb => bnext xbF hb
  have HK9 : Hid (∀ V, Below F.heap.size F V → V.cell? ⟨w.heap.size, 0, none⟩ = some (.int .i64 k) ∧ V.cell? ⟨w1.heap.size, 0, none⟩ = some (.string (⟨#[]⟩)) ∧ V.cell? ⟨w1.heap.size, 1, none⟩ = some (.string (⟨#[]⟩)) ∧ V.cell? ⟨w1.heap.size, 2, none⟩ = some (.bool (false))) := fun V hb => ⟨(x6.next hb).c0, (h3.next hb).cells⟩
  have HQ : Hid (∀ V x y q, Below F.heap.size F V → (putS V (w.heap.size + 1 + 1) x y q).cell? ⟨w.heap.size, 0, none⟩ = some (.int .i64 k) ∧ (putS V (w.heap.size + 1 + 1) x y q).cell? ⟨w1.heap.size, 0, none⟩ = some (.string (⟨#[]⟩)) ∧ (putS V (w.heap.size + 1 + 1) x y q).cell? ⟨w1.heap.size, 1, none⟩ = some (.string (⟨#[]⟩)) ∧ (putS V (w.heap.size + 1 + 1) x y q).cell? ⟨w1.heap.size, 2, none⟩ = some (.bool (false))) := fun V x y q hb => by
    obtain ⟨q0, q1, q2, q3⟩ := HK9.out V hb
    have n1 : w.heap.size ≠ w.heap.size + 1 + 1 := by omega
    have n2 : w1.heap.size ≠ w.heap.size + 1 + 1 := by omega
    exact ⟨putS_cell x y q q0 n1, putS_cell x y q q1 n2, putS_cell x y q q2 n2, putS_cell x y q q3 n2⟩
  have HS9 : Hid (∀ V, Below F.heap.size F V → S5 V (w.heap.size + 1 + 1) ⟨#[]⟩ ⟨#[]⟩ none) := fun V hb => (x6.next hb).s5
  obtain ⟨e0, e1, e2, e3⟩ := HK9.out F (Below.refl _ _)
  have xc9 := (Below.refl F.heap.size F).drew
  clear x5 x6 xb hb3 HE1 HE2 HB h3 xc hl9
  go_upto_region 9 with (fail)
  go_region_held3 (fun V => V.cell? ⟨w.heap.size, 0, none⟩ = some (.int .i64 k) ∧ V.cell? ⟨w1.heap.size, 0, none⟩ = some (.string (⟨#[]⟩)) ∧ V.cell? ⟨w1.heap.size, 1, none⟩ = some (.string (⟨#[]⟩)) ∧ V.cell? ⟨w1.heap.size, 2, none⟩ = some (.bool (false)))
    (first | with_reducible exact HK9.out _ xc9 | with_reducible exact HQ9.out | with_reducible exact HK9.out _ (Below.refl _ _))
    (first
      | (go_at_call 223; first
          | (with_reducible refine (HD1.out _ (HB9.out _ xc9)).mono ?_)
          | (with_reducible refine (HD2.out _ (HB9.out _ xc9)).mono ?_)
         rintro e w2 ⟨rfl, hb1⟩; replace xc9 := bnext xc9 hb1; clear hb1)
      | (go_at_call 129; first
          | (with_reducible refine (HT1.out _).mono ?_)
          | (with_reducible refine (HT2.out _).mono ?_)
         rintro e w2 ⟨rfl, hb1⟩; replace xc9 := bnext xc9 hb1; clear hb1)
      | (go_at_call 70; with_reducible refine (HU.out _).mono ?_; rintro e w2 ⟨rfl, hb1⟩; replace xc9 := bnext xc9 hb1; clear hb1)
      | (go_at_call 73; with_reducible refine (HO.out _).mono ?_; rintro e w9 ⟨rfl, hb1⟩; replace xc9 := bnext xc9 hb1; clear hb1
         have s9 := HS9.out _ xc9
         obtain ⟨a0, a1, a2, a3, a4⟩ := s9.cells
         have fz := s9.fz
         have HQ9 := hide (HQ.out w9 d1 d2 U xc9)))
  have hp := s9.put d1 d2 U
  have hch := putS_ch w9 (w.heap.size + 1 + 1) d1 d2 U
  obtain ⟨b0, b1, b2, b3, b4⟩ := hp.cells
  go_wp2
  refine bodyPost_ret (v := snV d1 d2 U) (by simp [results, Tryz.results76, go_sem, b0, b1, b2, b3, b4]) rfl ⟨rfl, ?_⟩
  exact (HB9.out _ xc9).trans (hch.below (by rintro b rfl; omega))
set_option maxRecDepth 100000 in
set_option maxHeartbeats 2000000 in
theorem block_leafL (w : World) (k : Int) (v1 v2 : Value) (h i : Nat) (ht : Tb w) (t1 t2 : ByteArray) (hs1 : t1.size < 4611686018427387904) (hs2 : t2.size < 4611686018427387904) (r1 r2 : ByteArray) (hr1 : dg (clk k) t1 = r1) (hr2 : dg (clk k) t2 = r2) (U : Pq) (hU : un t1 t2 = U)
    (HE1 : Hid (∀ W, Below w.heap.size w W → Calls Tryz.prog 214 #[v1, bkV h i] W fun e w' => e = .returned (wo t1) ∧ Below W.heap.size W w'))
    (HE2 : Hid (∀ W, Below w.heap.size w W → Calls Tryz.prog 214 #[v2, bkV h i] W fun e w' => e = .returned (wo t2) ∧ Below W.heap.size W w')) :
    Calls Tryz.prog 76 #[wkV k v1 69 v2, bkV h i] w fun e w' => e = .returned (snV r1 r2 U) ∧ Below w.heap.size w w' := by
  have HD1 : Hid (∀ W, Below w.heap.size w W → Calls Tryz.prog 222 #[.string t1, .int .i64 k] W fun e w' => e = .returned (.string r1) ∧ Below W.heap.size W w') := fun W hb => wodig_any W (ht.next hb) k t1 hs1 r1 hr1
  have HD2 : Hid (∀ W, Below w.heap.size w W → Calls Tryz.prog 222 #[.string t2, .int .i64 k] W fun e w' => e = .returned (.string r2) ∧ Below W.heap.size W w') := fun W hb => wodig_any W (ht.next hb) k t2 hs2 r2 hr2
  have HT1 : Hid (∀ W, Calls Tryz.prog 129 #[wo t1] W fun e w' => e = .returned (.string t1) ∧ Below W.heap.size W w') := fun W => told_wo W t1
  have HT2 : Hid (∀ W, Calls Tryz.prog 129 #[wo t2] W fun e w' => e = .returned (.string t2) ∧ Below W.heap.size W w') := fun W => told_wo W t2
  have HU : Hid (∀ W, Calls Tryz.prog 70 #[.string t1, .string t2] W fun e w' => e = .returned (pv U) ∧ Below W.heap.size W w') := fun W => unlike_is W _ _ U hU
  have HO : Hid (∀ W, Calls Tryz.prog 73 #[pv U, .agg #[.string ⟨#[]⟩, .string ⟨#[]⟩, .bool false]] W fun e w' => e = .returned (pv U) ∧ Below W.heap.size W w') := fun W => or_is W U none U (by cases U <;> rfl)
  obtain ⟨W0, hW0, hb0, hB⟩ := bw_start w k v1 69 v2 (h : Int) (i : Int)
  have HX : Hid (∀ V, Below W0.heap.size W0 V → V.cell? ⟨w.heap.size, 1, none⟩ = some (.iface 69 v1) ∧ V.cell? ⟨w.heap.size, 2, none⟩ = some (.iface 69 v2) ∧ V.cell? ⟨w.heap.size + 1, 0, none⟩ = some (.int .i64 (h : Int)) ∧ V.cell? ⟨w.heap.size + 1, 1, none⟩ = some (.int .u64 (i : Int))) := fun V hb => ⟨(hB.next hb).c1, (hB.next hb).c2, (hB.next hb).d0, (hB.next hb).d1⟩
  have HB := hide hB
  have xc := (Below.refl W0.heap.size W0).drew
  obtain ⟨k1, k2, k3, k4⟩ := HX.out W0 (Below.refl _ _)
  clear hB ht hs1 hs2 hr1 hr2 hU
  go_enter Tryz.func76, Tryz.ntmps76
  go_upto_region 1 with (fail)
  try rw [hW0]
  clear hW0
  go_region_held3 (fun V => V.cell? ⟨w.heap.size, 1, none⟩ = some (.iface 69 v1) ∧ V.cell? ⟨w.heap.size, 2, none⟩ = some (.iface 69 v2) ∧ V.cell? ⟨w.heap.size + 1, 0, none⟩ = some (.int .i64 (h : Int)) ∧ V.cell? ⟨w.heap.size + 1, 1, none⟩ = some (.int .u64 (i : Int)))
    (first | with_reducible exact HX.out _ xc | with_reducible exact HX.out _ (Below.refl _ _))
    (first
      | (go_at_call 214; with_reducible refine (HE1.out _ (bnext hb0 xc)).mono ?_; rintro e w1 ⟨rfl, hb1⟩; replace xc := bnext xc hb1; clear hb1)
      | (go_at_call 214; with_reducible refine (HE2.out _ (bnext hb0 xc)).mono ?_; rintro e w1 ⟨rfl, hb1⟩; replace xc := bnext xc hb1; clear hb1))
  have x5 := HB.out.next xc
  have xb := bnext hb0 xc
  clear k1 k2 k3 k4 HX
  go_upto_region 3 with (fail)
  obtain ⟨F, hFe, h3, hb3⟩ := p3_nil w1
  try rw [hFe]
  clear hFe
  have x6 := x5.next hb3
  have xbF := bnext xb hb3
  have hl9 : w.heap.size + 1 + 1 < w1.heap.size := x5.s5.lt
  have HB9 : Hid (∀ V, Below F.heap.size F V → Below w.heap.size w V) := fun V hb => bnext xbF hb
  have HK9 : Hid (∀ V, Below F.heap.size F V → V.cell? ⟨w.heap.size, 0, none⟩ = some (.int .i64 k) ∧ V.cell? ⟨w1.heap.size, 0, none⟩ = some (.string (⟨#[]⟩)) ∧ V.cell? ⟨w1.heap.size, 1, none⟩ = some (.string (⟨#[]⟩)) ∧ V.cell? ⟨w1.heap.size, 2, none⟩ = some (.bool (false))) := fun V hb => ⟨(x6.next hb).c0, (h3.next hb).cells⟩
  have HQ : Hid (∀ V x y q, Below F.heap.size F V → (putS V (w.heap.size + 1 + 1) x y q).cell? ⟨w.heap.size, 0, none⟩ = some (.int .i64 k) ∧ (putS V (w.heap.size + 1 + 1) x y q).cell? ⟨w1.heap.size, 0, none⟩ = some (.string (⟨#[]⟩)) ∧ (putS V (w.heap.size + 1 + 1) x y q).cell? ⟨w1.heap.size, 1, none⟩ = some (.string (⟨#[]⟩)) ∧ (putS V (w.heap.size + 1 + 1) x y q).cell? ⟨w1.heap.size, 2, none⟩ = some (.bool (false))) := fun V x y q hb => by
    obtain ⟨q0, q1, q2, q3⟩ := HK9.out V hb
    have n1 : w.heap.size ≠ w.heap.size + 1 + 1 := by omega
    have n2 : w1.heap.size ≠ w.heap.size + 1 + 1 := by omega
    exact ⟨putS_cell x y q q0 n1, putS_cell x y q q1 n2, putS_cell x y q q2 n2, putS_cell x y q q3 n2⟩
  have HS9 : Hid (∀ V, Below F.heap.size F V → S5 V (w.heap.size + 1 + 1) ⟨#[]⟩ ⟨#[]⟩ none) := fun V hb => (x6.next hb).s5
  obtain ⟨e0, e1, e2, e3⟩ := HK9.out F (Below.refl _ _)
  have xc9 := (Below.refl F.heap.size F).drew
  clear x5 x6 xb hb3 HE1 HE2 HB h3 xc hl9
  go_upto_region 9 with (fail)
  go_region_held3 (fun V => V.cell? ⟨w.heap.size, 0, none⟩ = some (.int .i64 k) ∧ V.cell? ⟨w1.heap.size, 0, none⟩ = some (.string (⟨#[]⟩)) ∧ V.cell? ⟨w1.heap.size, 1, none⟩ = some (.string (⟨#[]⟩)) ∧ V.cell? ⟨w1.heap.size, 2, none⟩ = some (.bool (false)))
    (first | with_reducible exact HK9.out _ xc9 | with_reducible exact HQ9.out | with_reducible exact HK9.out _ (Below.refl _ _))
    (first
      | (go_at_call 222; first
          | (with_reducible refine (HD1.out _ (HB9.out _ xc9)).mono ?_)
          | (with_reducible refine (HD2.out _ (HB9.out _ xc9)).mono ?_)
         rintro e w2 ⟨rfl, hb1⟩; replace xc9 := bnext xc9 hb1; clear hb1)
      | (go_at_call 129; first
          | (with_reducible refine (HT1.out _).mono ?_)
          | (with_reducible refine (HT2.out _).mono ?_)
         rintro e w2 ⟨rfl, hb1⟩; replace xc9 := bnext xc9 hb1; clear hb1)
      | (go_at_call 70; with_reducible refine (HU.out _).mono ?_; rintro e w2 ⟨rfl, hb1⟩; replace xc9 := bnext xc9 hb1; clear hb1)
      | (go_at_call 73; with_reducible refine (HO.out _).mono ?_; rintro e w9 ⟨rfl, hb1⟩; replace xc9 := bnext xc9 hb1; clear hb1
         have s9 := HS9.out _ xc9
         obtain ⟨a0, a1, a2, a3, a4⟩ := s9.cells
         have fz := s9.fz
         have HQ9 := hide (HQ.out w9 r1 r2 U xc9)))
  have hp := s9.put r1 r2 U
  have hch := putS_ch w9 (w.heap.size + 1 + 1) r1 r2 U
  obtain ⟨b0, b1, b2, b3, b4⟩ := hp.cells
  go_wp2
  refine bodyPost_ret (v := snV r1 r2 U) (by simp [results, Tryz.results76, go_sem, b0, b1, b2, b3, b4]) rfl ⟨rfl, ?_⟩
  exact (HB9.out _ xc9).trans (hch.below (by rintro b rfl; omega))
set_option maxRecDepth 100000 in
set_option maxHeartbeats 4000000 in
theorem block_nodeL (w : World) (k : Int) (v1 v2 : Value) (g h i j m : Nat) (hg : g = h + 1) (hh : g ≤ 40) (hj : j = 2 * i) (hm : m = j + 1) (hi : i < 1099511627776) (ht : Tb w)
    (x1 y1 x2 y2 : ByteArray) (q1 q2 : Pq) (hs : x1.size ≤ 32 ∧ y1.size ≤ 32 ∧ x2.size ≤ 32 ∧ y2.size ≤ 32) (t1 t2 : ByteArray) (ht1 : nodeT x1 x2 = t1) (ht2 : nodeT y1 y2 = t2) (r1 r2 : ByteArray) (hr1 : dg (clk k) t1 = r1) (hr2 : dg (clk k) t2 = r2) (U Y Z : Pq) (hU : un t1 t2 = U) (hY : q1.or q2 = Y) (hZ : U.or Y = Z)
    (HE1 : Hid (∀ W, Below w.heap.size w W → Calls Tryz.prog 214 #[v1, bkV g i] W fun e w' => e = .returned .nilIface ∧ Below W.heap.size W w'))
    (HE2 : Hid (∀ W, Below w.heap.size w W → Calls Tryz.prog 214 #[v2, bkV g i] W fun e w' => e = .returned .nilIface ∧ Below W.heap.size W w'))
    (HL1 : Hid (∀ W, Below w.heap.size w W → Calls Tryz.prog 76 #[wkV k v1 69 v2, bkV h j] W fun e w' => e = .returned (snV x1 y1 q1) ∧ Below W.heap.size W w'))
    (HL2 : Hid (∀ W, Below w.heap.size w W → Calls Tryz.prog 76 #[wkV k v1 69 v2, bkV h m] W fun e w' => e = .returned (snV x2 y2 q2) ∧ Below W.heap.size W w')) :
    Calls Tryz.prog 76 #[wkV k v1 69 v2, bkV g i] w fun e w' => e = .returned (snV r1 r2 Z) ∧ Below w.heap.size w w' := by
  have hs1 : t1.size < 4611686018427387904 := by rw [← ht1, nodeT_size]; omega
  have hs2 : t2.size < 4611686018427387904 := by rw [← ht2, nodeT_size]; omega
  have HD1 : Hid (∀ W, Below w.heap.size w W → Calls Tryz.prog 222 #[.string t1, .int .i64 k] W fun e w' => e = .returned (.string r1) ∧ Below W.heap.size W w') := fun W hb => wodig_any W (ht.next hb) k t1 hs1 r1 hr1
  have HD2 : Hid (∀ W, Below w.heap.size w W → Calls Tryz.prog 222 #[.string t2, .int .i64 k] W fun e w' => e = .returned (.string r2) ∧ Below W.heap.size W w') := fun W hb => wodig_any W (ht.next hb) k t2 hs2 r2 hr2
  have HT1 : Hid (∀ W, Calls Tryz.prog 129 #[wo t1] W fun e w' => e = .returned (.string t1) ∧ Below W.heap.size W w') := fun W => told_wo W t1
  have HT2 : Hid (∀ W, Calls Tryz.prog 129 #[wo t2] W fun e w' => e = .returned (.string t2) ∧ Below W.heap.size W w') := fun W => told_wo W t2
  have HU : Hid (∀ W, Calls Tryz.prog 70 #[.string t1, .string t2] W fun e w' => e = .returned (pv U) ∧ Below W.heap.size W w') := fun W => unlike_is W _ _ U hU
  have HO : Hid (∀ W, Calls Tryz.prog 73 #[pv U, pv Y] W fun e w' => e = .returned (pv Z) ∧ Below W.heap.size W w') := fun W => or_is W U Y Z hZ
  have HN1 : Hid (∀ W, Calls Tryz.prog 128 #[.string x1, .string x2] W fun e w' => e = .returned (.string t1) ∧ Below W.heap.size W w') := fun W => by have := nodet_any W x1 x2 (by omega) (by omega); rwa [ht1] at this
  have HN2 : Hid (∀ W, Calls Tryz.prog 128 #[.string y1, .string y2] W fun e w' => e = .returned (.string t2) ∧ Below W.heap.size W w') := fun W => by have := nodet_any W y1 y2 (by omega) (by omega); rwa [ht2] at this
  have HOY : Hid (∀ W, Calls Tryz.prog 73 #[pv q1, pv q2] W fun e w' => e = .returned (pv Y) ∧ Below W.heap.size W w') := fun W => or_is W q1 q2 Y hY
  obtain ⟨W0, hW0, hb0, hB⟩ := bw_start w k v1 69 v2 (g : Int) (i : Int)
  have HX : Hid (∀ V, Below W0.heap.size W0 V → V.cell? ⟨w.heap.size, 1, none⟩ = some (.iface 69 v1) ∧ V.cell? ⟨w.heap.size, 2, none⟩ = some (.iface 69 v2) ∧ V.cell? ⟨w.heap.size + 1, 0, none⟩ = some (.int .i64 (g : Int)) ∧ V.cell? ⟨w.heap.size + 1, 1, none⟩ = some (.int .u64 (i : Int))) := fun V hb => ⟨(hB.next hb).c1, (hB.next hb).c2, (hB.next hb).d0, (hB.next hb).d1⟩
  have HB := hide hB
  have xc := (Below.refl W0.heap.size W0).drew
  obtain ⟨k1, k2, k3, k4⟩ := HX.out W0 (Below.refl _ _)
  have u1 : (g : Int) - 1 = (h : Int) := by omega
  have u2 : 2 * (i : Int) = (j : Int) := by omega
  have u3 : (j : Int) + 1 = (m : Int) := by omega
  have u4 : (j : Int) ≤ 2199023255552 := by omega
  have u5 : (g : Int) ≤ 40 := by omega
  have HU9 := hide (And.intro u1 (And.intro u2 (And.intro u3 (And.intro u4 u5))))
  clear hB ht hs1 hs2 hr1 hr2 hU hY hZ ht1 ht2 hs hg hh hj hi hm u1 u2 u3 u4 u5
  go_enter Tryz.func76, Tryz.ntmps76
  go_upto_region 1 with (fail)
  try rw [hW0]
  clear hW0
  go_region_held3 (fun V => V.cell? ⟨w.heap.size, 1, none⟩ = some (.iface 69 v1) ∧ V.cell? ⟨w.heap.size, 2, none⟩ = some (.iface 69 v2) ∧ V.cell? ⟨w.heap.size + 1, 0, none⟩ = some (.int .i64 (g : Int)) ∧ V.cell? ⟨w.heap.size + 1, 1, none⟩ = some (.int .u64 (i : Int)))
    (first | with_reducible exact HX.out _ xc | with_reducible exact HX.out _ (Below.refl _ _))
    (first
      | (go_at_call 214; with_reducible refine (HE1.out _ (bnext hb0 xc)).mono ?_; rintro e w1 ⟨rfl, hb1⟩; replace xc := bnext xc hb1; clear hb1)
      | (go_at_call 214; with_reducible refine (HE2.out _ (bnext hb0 xc)).mono ?_; rintro e w1 ⟨rfl, hb1⟩; replace xc := bnext xc hb1; clear hb1))
  have x5 := HB.out.next xc
  have xb := bnext hb0 xc
  clear k1 k2 k3 k4 HX
  go_upto_region 3 with (fail)
  obtain ⟨F, hFe, h3, hb3⟩ := p3_nil w1
  try rw [hFe]
  clear hFe
  have x6 := x5.next hb3
  have xbF := bnext xb hb3
  have hl9 : w.heap.size + 1 + 1 < w1.heap.size := x5.s5.lt
  have ⟨c0, c1, c2, d0, d1, _⟩ := x6
  obtain ⟨u1, u2, u3, u4, u5⟩ := HU9.out
  clear x5 xb hb3 HE1 HE2 HB xc
  have H3 := hide h3
  have H6 := hide x6
  clear h3 x6
  go_upto_region 5 with (go_at_call 76; with_reducible refine (HL1.out _ xbF).mono ?_; rintro e w2 ⟨rfl, hb2⟩)
  obtain ⟨F2, hFe, s51, hb4, hsz2⟩ := s5_box w2 x1 y1 q1
  try rw [hFe]
  clear hFe
  have y6 := H6.out.next (bnext hb2 hb4)
  have ⟨c0', c1', c2', d0', d1', _⟩ := y6
  have xb2 := bnext xbF (bnext hb2 hb4)
  have hz2 : w1.heap.size < w2.heap.size := (H3.out.next hb2).lt
  clear c0 c1 c2 d0 d1 y6
  go_upto_region 6 with (go_at_call 76; with_reducible refine (HL2.out _ xb2).mono ?_; rintro e w3 ⟨rfl, hb5⟩)
  obtain ⟨F3, hFe, s52, hb6, hsz3⟩ := s5_box w3 x2 y2 q2
  try rw [hFe]
  clear hFe
  have s53 := s51.next (bnext hb5 hb6)
  obtain ⟨a0, a1, a2, a3, a4⟩ := s53.cells
  obtain ⟨b0, b1, b2, b3, b4⟩ := s52.cells
  have xb3 := bnext xb2 (bnext hb5 hb6)
  have HA : Hid (∀ V, Below F3.heap.size F3 V → Bw V w.heap.size k v1 69 v2 (g : Int) (i : Int) ∧ P3 V w1.heap.size none ∧ S5 V w2.heap.size x1 y1 q1 ∧ S5 V w3.heap.size x2 y2 q2) := fun V hb => ⟨H6.out.next (bnext (bnext (bnext (bnext hb2 hb4) hb5) hb6) hb), H3.out.next (bnext (bnext (bnext (bnext hb2 hb4) hb5) hb6) hb), s53.next hb, s52.next hb⟩
  clear c0' c1' c2' d0' d1' hb2 hb4 hb5 hb6 xb2 s51 s52 s53 hsz2 hsz3 u1 u2 u3 u4 u5 HU9 HL1 HL2 H3 H6
  have xcA := Below.refl F3.heap.size F3
  go_upto_region 7 with (go_at_call 128; with_reducible refine (HN1.out _).mono ?_; rintro e w4 ⟨rfl, hb7⟩)
  replace xcA := bnext xcA hb7
  have ⟨_, _, z51, z52⟩ := HA.out _ xcA
  obtain ⟨a0, a1, a2, a3, a4⟩ := z51.cells
  obtain ⟨b0, b1, b2, b3, b4⟩ := z52.cells
  go_upto_region 8 with (go_at_call 128; with_reducible refine (HN2.out _).mono ?_; rintro e w5 ⟨rfl, hb8⟩)
  replace xcA := bnext xcA hb8
  have ⟨_, _, z51', z52'⟩ := HA.out _ xcA
  obtain ⟨a0, a1, a2, a3, a4⟩ := z51'.cells
  obtain ⟨b0, b1, b2, b3, b4⟩ := z52'.cells
  clear z51 z52 z51' z52' hb7 hb8
  go_upto_region 9 with (go_at_call 73; with_reducible refine (HOY.out _).mono ?_; rintro e w6 ⟨rfl, hb9⟩; replace xcA := bnext xcA hb9; obtain ⟨y6, h3, _, _⟩ := HA.out _ xcA; obtain ⟨g0, g1, g2⟩ := h3.cells; have gf := h3.fz)
  obtain ⟨F, hFe⟩ : ∃ F, putP w6 w1.heap.size Y = F := ⟨_, rfl⟩
  have hp3 := h3.put Y
  have hch3 := putP_ch w6 w1.heap.size Y
  rw [hFe] at hp3 hch3
  unfold putP at hFe
  try rw [hFe]
  clear hFe
  have x6 : Bw F w.heap.size k v1 69 v2 (g : Int) (i : Int) := y6.ch hch3 hl9
  have xbF : Below w.heap.size w F := (bnext xb3 xcA).trans (hch3.below (by rintro b rfl; omega))
  clear h3 g0 g1 g2 gf y6 hch3 xcA xb3 hb9
  have h3 := hp3
  clear hp3
  have HB9 : Hid (∀ V, Below F.heap.size F V → Below w.heap.size w V) := fun V hb => bnext xbF hb
  have HK9 : Hid (∀ V, Below F.heap.size F V → V.cell? ⟨w.heap.size, 0, none⟩ = some (.int .i64 k) ∧ V.cell? ⟨w1.heap.size, 0, none⟩ = some (.string (pA Y)) ∧ V.cell? ⟨w1.heap.size, 1, none⟩ = some (.string (pB' Y)) ∧ V.cell? ⟨w1.heap.size, 2, none⟩ = some (.bool (Option.isSome Y))) := fun V hb => ⟨(x6.next hb).c0, (h3.next hb).cells⟩
  have HQ : Hid (∀ V x y q, Below F.heap.size F V → (putS V (w.heap.size + 1 + 1) x y q).cell? ⟨w.heap.size, 0, none⟩ = some (.int .i64 k) ∧ (putS V (w.heap.size + 1 + 1) x y q).cell? ⟨w1.heap.size, 0, none⟩ = some (.string (pA Y)) ∧ (putS V (w.heap.size + 1 + 1) x y q).cell? ⟨w1.heap.size, 1, none⟩ = some (.string (pB' Y)) ∧ (putS V (w.heap.size + 1 + 1) x y q).cell? ⟨w1.heap.size, 2, none⟩ = some (.bool (Option.isSome Y))) := fun V x y q hb => by
    obtain ⟨q0, q1, q2, q3⟩ := HK9.out V hb
    have n1 : w.heap.size ≠ w.heap.size + 1 + 1 := by omega
    have n2 : w1.heap.size ≠ w.heap.size + 1 + 1 := by omega
    exact ⟨putS_cell x y q q0 n1, putS_cell x y q q1 n2, putS_cell x y q q2 n2, putS_cell x y q q3 n2⟩
  have HS9 : Hid (∀ V, Below F.heap.size F V → S5 V (w.heap.size + 1 + 1) ⟨#[]⟩ ⟨#[]⟩ none) := fun V hb => (x6.next hb).s5
  obtain ⟨e0, e1, e2, e3⟩ := HK9.out F (Below.refl _ _)
  have xc9 := (Below.refl F.heap.size F).drew
  clear x6 h3 hl9
  go_region_held3 (fun V => V.cell? ⟨w.heap.size, 0, none⟩ = some (.int .i64 k) ∧ V.cell? ⟨w1.heap.size, 0, none⟩ = some (.string (pA Y)) ∧ V.cell? ⟨w1.heap.size, 1, none⟩ = some (.string (pB' Y)) ∧ V.cell? ⟨w1.heap.size, 2, none⟩ = some (.bool (Option.isSome Y)))
    (first | with_reducible exact HK9.out _ xc9 | with_reducible exact HQ9.out | with_reducible exact HK9.out _ (Below.refl _ _))
    (first
      | (go_at_call 222; first
          | (with_reducible refine (HD1.out _ (HB9.out _ xc9)).mono ?_)
          | (with_reducible refine (HD2.out _ (HB9.out _ xc9)).mono ?_)
         rintro e w2 ⟨rfl, hb1⟩; replace xc9 := bnext xc9 hb1; clear hb1)
      | (go_at_call 129; first
          | (with_reducible refine (HT1.out _).mono ?_)
          | (with_reducible refine (HT2.out _).mono ?_)
         rintro e w2 ⟨rfl, hb1⟩; replace xc9 := bnext xc9 hb1; clear hb1)
      | (go_at_call 70; with_reducible refine (HU.out _).mono ?_; rintro e w2 ⟨rfl, hb1⟩; replace xc9 := bnext xc9 hb1; clear hb1)
      | (go_at_call 73; with_reducible refine (HO.out _).mono ?_; rintro e w9 ⟨rfl, hb1⟩; replace xc9 := bnext xc9 hb1; clear hb1
         have s9 := HS9.out _ xc9
         obtain ⟨a0, a1, a2, a3, a4⟩ := s9.cells
         have fz := s9.fz
         have HQ9 := hide (HQ.out w9 r1 r2 Z xc9)))
  have hp := s9.put r1 r2 Z
  have hch := putS_ch w9 (w.heap.size + 1 + 1) r1 r2 Z
  obtain ⟨b0, b1, b2, b3, b4⟩ := hp.cells
  go_wp2
  refine bodyPost_ret (v := snV r1 r2 Z) (by simp [results, Tryz.results76, go_sem, b0, b1, b2, b3, b4]) rfl ⟨rfl, ?_⟩
  exact (HB9.out _ xc9).trans (hch.below (by rintro b rfl; omega))
end Go.Proofs.YtdocjikpcbmcgaaGreatDoor
namespace Go.Proofs.YtdocjikpcbmcgaaGreatDoor
open Go.RowKit
structure SdL (w : World) (k : Int) (L : List ByteArray) (M : Nat → Nat → Option Nat) (D : List ByteArray) (V : Nat → ByteArray) (Q : Nat → Prop) (v1 v2 : Value) : Prop where
  tb : Tb w
  e1 : ∀ W h i, Below w.heap.size w W → h ≤ 40 → (i + 1) * 2 ^ h ≤ L.length → Calls Tryz.prog 214 #[v1, bkV h i] W fun e w' => e = .returned (lsE (clk k) L M h i) ∧ Below W.heap.size W w'
  e2 : ∀ W h i, Below w.heap.size w W → h ≤ 40 → (i + 1) * 2 ^ h ≤ L.length → (h = 0 → M h i = none → Q i) → Calls Tryz.prog 214 #[v2, bkV h i] W fun e w' => e = .returned (prE D V M h i) ∧ Below W.heap.size W w'
  szL : ∀ s ∈ L, s.size ≤ 140737488351232
  szV : ∀ i, Q i → (V i).size < 2305843009213693952
  hM : ∀ h i j, M h i = some j → j < D.length
  hD : ∀ d ∈ D, d.size = clk k
  hL : L.length ≤ 1099511627776
theorem block_anyL {w : World} {k : Int} {L : List ByteArray} {M : Nat → Nat → Option Nat} {D : List ByteArray} {V : Nat → ByteArray} {Q : Nat → Prop} {v1 v2 : Value} (S : SdL w k L M D V Q v1 v2) : ∀ (h i : Nat), h ≤ 40 → (i + 1) * 2 ^ h ≤ L.length → Vis M Q h i → ∀ W, Below w.heap.size w W →
    Calls Tryz.prog 76 #[wkV k v1 69 v2, bkV h i] W fun e w' => e = .returned (snV (nd (clk k) L h i) (xd (clk k) M D V h i) (fp (clk k) L M D V h i)) ∧ Below W.heap.size W w' := by
  have hc := clk_le k
  have cut : ∀ (h i j : Nat), h ≤ 40 → (i + 1) * 2 ^ h ≤ L.length → M h i = some j → ∀ W, Below w.heap.size w W → Calls Tryz.prog 76 #[wkV k v1 69 v2, bkV h i] W fun e w' => e = .returned (snV (nd (clk k) L h i) (xd (clk k) M D V h i) (fp (clk k) L M D V h i)) ∧ Below W.heap.size W w' := fun h i j hh hi e W hb => by
    rw [fp_in e, xd_in e]
    refine block_cutL W k v1 v2 h i _ _ none (un_self _) (fun W' hb' => ?_) (fun W' hb' => ?_)
    · have := S.e1 W' h i (bnext hb hb') hh hi
      rwa [lsE, e, Option.isSome_some, if_pos rfl] at this
    · have := S.e2 W' h i (bnext hb hb') hh hi (fun _ h0 => by rw [e] at h0; cases h0)
      rwa [prE, e, Option.isSome_some, if_pos rfl] at this
  intro h
  induction h with
  | zero =>
    intro i hh hi hv W hb
    cases e : M 0 i with
    | some j => exact cut 0 i j hh hi e W hb
    | none =>
      have hq := hv e
      rw [fp_leaf e, xd_leaf e, nd]
      have hiL : i < L.length := idx_lt hi
      have hs := S.szL _ (getD_mem hiL)
      have hs2 := S.szV i hq
      refine block_leafL W k v1 v2 0 i (S.tb.next hb) _ _ (by rw [leafT_size]; omega) (by rw [leafT_size]; omega) _ _ rfl rfl _ rfl (fun W' hb' => ?_) (fun W' hb' => ?_)
      · have := S.e1 W' 0 i (bnext hb hb') hh hi
        rwa [lsE, e, Option.isSome_none, if_neg (by simp), if_neg (by simp)] at this
      · have := S.e2 W' 0 i (bnext hb hb') hh hi (fun _ _ => hq)
        rwa [prE, e, Option.isSome_none, if_neg (by simp), if_neg (by simp)] at this
  | succ h ih =>
    intro i hh hi hv W hb
    cases e : M (h + 1) i with
    | some j => exact cut (h + 1) i j hh hi e W hb
    | none =>
      obtain ⟨vl, vr⟩ := hv e
      obtain ⟨i1, i2⟩ := half_in hi
      rw [fp_node e, xd_node e, nd]
      have hiL : i < L.length := idx_lt hi
      have hLL := S.hL
      have z1 : ∀ a b, (nd (clk k) L a b).size ≤ 32 := fun a b => by rw [nd_size hc]; exact hc
      have z2 : ∀ a b, (xd (clk k) M D V a b).size ≤ 32 := fun a b => by rw [xd_size hc S.hM S.hD]; exact hc
      refine block_nodeL W k v1 v2 (h + 1) h i (2 * i) (2 * i + 1) rfl hh rfl rfl (by omega) (S.tb.next hb) (nd (clk k) L h (2 * i)) (xd (clk k) M D V h (2 * i)) (nd (clk k) L h (2 * i + 1)) (xd (clk k) M D V h (2 * i + 1)) _ _ ⟨z1 _ _, z2 _ _, z1 _ _, z2 _ _⟩ _ _ rfl rfl _ _ rfl rfl _ _ _ rfl rfl rfl (fun W' hb' => ?_) (fun W' hb' => ?_) (fun W' hb' => ih (2 * i) (by omega) i1 vl W' (bnext hb hb')) (fun W' hb' => ih (2 * i + 1) (by omega) i2 vr W' (bnext hb hb'))
      · have := S.e1 W' (h + 1) i (bnext hb hb') hh hi
        rwa [lsE, e, Option.isSome_none, if_neg (by simp), if_pos (by omega)] at this
      · have := S.e2 W' (h + 1) i (bnext hb hb') hh hi (fun h0 => by omega)
        rwa [prE, e, Option.isSome_none, if_neg (by simp), if_pos (by omega)] at this
theorem walk_anyL {w : World} {k : Int} {L : List ByteArray} {M : Nat → Nat → Option Nat} {D : List ByteArray} {V : Nat → ByteArray} {Q : Nat → Prop} {v1 v2 : Value} (S : SdL w k L M D V Q v1 v2) (n : Nat) (hn : n ≤ L.length) (B : List (Nat × Nat)) (hB : Cv.dnL 41 0 n = B) (hv : ∀ b ∈ B, Vis M Q b.1 b.2) (T : Pq) (hT : wk (clk k) n L M D V B = T) :
    Calls Tryz.prog 35 #[wkV k v1 69 v2, .int .u64 (n : Int)] w fun e w' => e = .returned (pv T) ∧ Below w.heap.size w w' := by
  have hc := clk_le k
  have h40 : n ≤ 2 ^ 40 := Nat.le_trans hn S.hL
  have hin := dn_in n h40
  rw [hB] at hin
  refine all_any w S.tb k v1 _ v2 n h40 B hB (fun b => nd (clk k) L b.1 b.2) (fun b => xd (clk k) M D V b.1 b.2) (fun b => by rw [nd_size hc]; exact hc) (fun b => by rw [xd_size hc S.hM S.hD]; exact hc) (fp (clk k) L M D V) (fun W b hb hbm => ?_) T hT
  have hb40 : b.1 ≤ 40 := Cv.pw40 (Nat.le_trans (by have := Nat.mul_le_mul_right (Pl.pw b.1) (show 1 ≤ b.2 + 1 by omega); rw [Nat.one_mul] at this; exact this) (Nat.le_trans (hin b hbm) h40))
  exact block_anyL S b.1 b.2 hb40 (Nat.le_trans (hin b hbm) hn) (hv b hbm) W hb
end Go.Proofs.YtdocjikpcbmcgaaGreatDoor
