/-
  DiskPlays' walk. Own work.
-/
import Derived.Test.YtmhedhhbdpdafabQTwo
import Derived.Test.YtmhedhhbdpdafabGAl
import Derived.Deep.RegionHeld3
namespace Go.Proofs.Ytmhedhhbdpdafab
open Go.RowKit
/-- A script that can be read, its Ops small. -/
structure RdZ (w : World) (ao : Option Addr) (b off len : Nat) (l : Nat → OpV) : Prop where
  rd : RdO w ao b off len l
  ok : ∀ j, j < len → OpOz w (l j)
set_option maxRecDepth 100000 in
set_option maxHeartbeats 8000000 in
theorem plays_walk_of (HT0 : ∀ (w0 w : World) (pa qa k : Nat), Tp w0 w pa qa k → Calls Try.prog 9 #[.pointer (some ⟨pa, 0, none⟩)] w fun e w' => e = .returned (.bool true) ∧ Below w.heap.size w w') (w : World) (x0 x1 : Int) (hx0 : x0 ≤ 9223372036854775807) (hx1 : x1 ≤ 9223372036854775807) (fa : Option Addr) (fb fo fc : Nat) (l : List (List UInt8 × List UInt8)) (hf : RdF w fa fb fo l) (hfn : fa = none → fc = 0) (hfs : ∀ x ∈ l, x.1.length ≤ maxLen) (hfl : l.length ≤ 1048576) (hfb : byt l ≤ 1048576) (sa : Option Addr) (sb so sn sc : Nat) (lo : Nat → OpV) (hs : RdZ w sa sb so sn lo) (hsl : sn ≤ maxLen) :
    Calls Try.prog 3 #[.agg #[.int .i64 x0, .int .i64 x1], .slice fa l.length fc, .slice sa sn sc] w fun e w' => e = .returned (.bool true) ∧ Below w.heap.size w w' := by
  obtain ⟨fl, hfl2⟩ : ∃ n, l.length = n := ⟨_, rfl⟩
  obtain ⟨w1, hw1⟩ : ∃ W, w.alloc (.cells #[.int .i64 x0, .int .i64 x1] 22) = W := ⟨_, rfl⟩
  have HW := hide hw1
  obtain ⟨bo, hbo⟩ : ∃ b, w.heap.size = b := ⟨_, rfl⟩
  have HBo := hide hbo
  have u1 : Below w.heap.size w w1 := by rw [← hw1]; exact bal (Below.refl _ _) _
  have hs1 : w1.heap.size = bo + 1 := by rw [← hw1, ← hbo]; simp
  have k1 : w1.heap[bo]? = some (.cells #[.int .i64 x0, .int .i64 x1] 22 (0, 0)) := by rw [← hw1, ← hbo]; exact new1 _ _
  have HC : Hid (∀ W, Below w1.heap.size w1 W → W.cell? ⟨bo, 0, none⟩ = some (.int .i64 x0) ∧ W.cell? ⟨bo, 1, none⟩ = some (.int .i64 x1)) := fun W hW => by
    have kk := (hW.block bo (by omega)).trans k1
    refine ⟨?_, ?_⟩
    · rw [cell_of_row W _ 0 _ _ (0, 0) kk]; rfl
    · rw [cell_of_row W _ 1 _ _ (0, 0) kk]; rfl
  have HAl := hide (alive_any w1)
  have HOp : Hid (∀ W, Below w1.heap.size w1 W → Calls Try.prog 5 #[.int .i64 x0, .slice fa fl fc] W fun e w' => ∃ pa, e = .returned (.tuple #[.pointer (some ⟨pa, 0, none⟩), .bool true]) ∧ Below W.heap.size W w' ∧ ((∃ r, w'.cell? ⟨pa, 1, none⟩ = some (.pointer (some ⟨r, 0, none⟩)) ∧ Op1 W w' pa) ∨ w'.cell? ⟨pa, 1, none⟩ = some (.pointer none))) := fun W hW => by
    have := opened_any W x0 _ rfl hx0 fa fb fo fc l (hf.next (bnext u1 hW)) hfn hfs (by omega) (by omega)
    rw [hfl2] at this
    refine this.mono fun e w' q => ?_
    obtain ⟨pa, q1, q2, _, ⟨p, r, q3, q4, q5⟩ | q3⟩ := q
    · exact ⟨pa, q1, q2, .inl ⟨r, q3.cells.2, p, r, _, _, q3, bd_open _ _ q4 q5 hfl⟩⟩
    · exact ⟨pa, q1, q2, .inr (by rw [cell_of_row w' _ 1 _ _ (0, 0) q3]; rfl)⟩
  have HNd : Hid (∀ (W : World) (x : Int), x ≤ 9223372036854775807 → Calls Try.prog 6 #[.int .i64 x] W fun e w' => ∃ p S, e = .returned (.pointer (some ⟨p, 0, none⟩)) ∧ Dsk w' p S (newD x.toNat) ∧ (∀ x, S x → W.heap.size ≤ x) ∧ Below W.heap.size W w') := fun W x h => new_any W x _ rfl h
  have HNr : Hid (∀ (W : World) (x : Int), x ≤ 9223372036854775807 → Calls Try.prog 7 #[.int .i64 x] W fun e w' => ∃ p S, e = .returned (.pointer (some ⟨p, 0, none⟩)) ∧ Rsk w' p S (newR x.toNat) ∧ (∀ x, S x → W.heap.size ≤ x) ∧ Below W.heap.size W w') := fun W x h => rnew_any W x _ rfl h
  have HT := hide HT0
  have HP : Hid (∀ W pa qa k j, Tp w1 W pa qa k → k + 1 ≤ 2097152 → j < sn → Calls Try.prog 8 #[.pointer (some ⟨pa, 0, none⟩), (lo j).val] W fun e w' => e = .returned (.bool true) ∧ Tp w1 w' pa qa (k + 1)) := fun W pa qa k j h1 h2 h3 => by
    have ho := hs.ok j h3
    exact h1.plays h2 (lo j) ⟨⟨ho.ok.nm, ho.ok.a1, ho.ok.a2, ho.ok.n1, ho.ok.n2, ho.ok.kp.next u1, ho.ok.kl⟩, ho.dt, ho.kl, ho.kz⟩
  have HS : Hid (∀ W j a, Below w1.heap.size w1 W → j < sn → so + j * 7 = a → sa = some ⟨sb, so, none⟩ ∧ W.cell? ⟨sb, a, none⟩ = some (.int .i64 (lo j).kind) ∧ W.cell? ⟨sb, a + 1, none⟩ = some (.int .i64 (lo j).which) ∧ W.cell? ⟨sb, a + 2, none⟩ = some (.string (lo j).name) ∧ W.cell? ⟨sb, a + 3, none⟩ = some (.string (lo j).data) ∧ W.cell? ⟨sb, a + 4, none⟩ = some (.int .i64 (lo j).at_) ∧ W.cell? ⟨sb, a + 5, none⟩ = some (.int .i64 (lo j).n) ∧ W.cell? ⟨sb, a + 6, none⟩ = some (.slice (lo j).ka (lo j).keep.length (lo j).kc)) := fun W j a h1 h2 h3 => ⟨hs.rd.ptr (by omega), hs.rd.seven (bnext u1 h1) h2 h3⟩
  have HZ : Hid (∀ W, Below w1.heap.size w1 W → Below w.heap.size w W) := fun W hW => bnext u1 hW
  have HX : Hid (x0 ≤ 9223372036854775807 ∧ x1 ≤ 9223372036854775807 ∧ sn ≤ 9223372036854775807) := ⟨hx0, hx1, by unfold maxLen at hsl; omega⟩
  rw [hfl2]
  have t1 : Below w1.heap.size w1 w1 := Below.refl _ _
  clear HT0 hx0 hx1 hf hfn hfs hfl hfb hs hsl hw1 hbo u1 hs1 k1 hfl2
  go_enter Try.func3, Try.ntmps3
  go_upto_region 1 with (fail)
  rw [HW.out, HBo.out]
  go_upto_region 3 with (go_at_call 4; (with_reducible refine HAl.out.mono ?_); rintro e w2 ⟨rfl, u2⟩)
  obtain ⟨c0, c1⟩ := HC.out _ u2
  go_upto_region 6 with (go_at_call 5; (with_reducible refine (HOp.out _ u2).mono ?_); rintro e w3 ⟨pa, rfl, u3, hq⟩)
  have u3 := bnext u2 u3
  have hq : (∃ r, w3.cell? ⟨pa, 1, none⟩ = some (.pointer (some ⟨r, 0, none⟩)) ∧ Op1 w1 w3 pa) ∨ w3.cell? ⟨pa, 1, none⟩ = some (.pointer none) := hq.imp (fun ⟨r, a, b⟩ => ⟨r, a, b.back u2⟩) id
  rcases hq with ⟨r, y1, hone⟩ | y1
  · have uA := u3
    generalize w3 = wA at *
    generalize pa = pA at *
    clear u3
    go_upto_region 8 with (fail)
    have tw := uA.drew
    go_region_held3 (fun Z => Z.cell? ⟨bo, 1, none⟩ = some (.int .i64 x1)) (first | assumption | (exact (HC.out _ tw).2) | (exact (HC.out _ (bal tw _)).2) | (exact (HC.out _ uA).2)) (first
      | (go_at_call 6; (with_reducible refine (HNd.out _ _ HX.out.2.1).mono ?_); rintro e w4 ⟨p4, S4, rfl, hd, hS, u4⟩; have tw := bnext tw u4)
      | (go_at_call 7; (with_reducible refine (HNr.out _ _ HX.out.2.1).mono ?_); rintro e w5 ⟨p5, S5, rfl, hr, hR, u5⟩; have tw := bnext tw u5))
    all_goals
      have hTp := tp_start hone ((op1_new hd hS u4 u5 hr hR).back (bdq _)) uA (bal (bnext (bdq _) (bnext u4 u5)) _)
      clear hd hS u4 u5 hr hR tw hone
      generalize w5.alloc (.cells #[.pointer (some ⟨p4, 0, none⟩), .pointer (some ⟨p5, 0, none⟩)] 32) = wB at *
      generalize w5.heap.size = qA at *
      have hTp0 := hide hTp
      clear hTp
      go_wp2
      go_loopg [10] 120 (fun g y wr => ∃ j : Nat, j ≤ 120 ∧ g = 120 - j ∧ y = .int .i64 (j : Int) ∧ Tp w1 wr pA qA (1048576 + j) ∧ j ≤ sn)
      case atStart => exact ⟨0, by omega, rfl, rfl, hTp0.out, Nat.zero_le _⟩
      case round =>
        obtain ⟨j, hj, rfl, rfl, hTp, hjn⟩ := hrel
        by_cases hlt : j < sn ∧ j < 120
        · obtain ⟨hl1, hl2⟩ := hlt
          obtain ⟨a, ha⟩ : ∃ a, so + j * 7 = a := ⟨_, rfl⟩
          obtain ⟨hsa, k0, k1, k2, k3, k4, k5, k6⟩ := HS.out wr j a hTp.below hl1 ha
          subst hsa
          have HP1 := hide (HP.out wr pA qA (1048576 + j) j hTp (by omega) hl1)
          have HP2 := hide (HP.out wr qA pA (1048576 + j) j hTp.symm (by omega) hl1)
          have HTq : Hid (∀ W, Tp w1 W qA pA (1048576 + j + 1) → Tp w1 W pA qA (1048576 + j + 1)) := fun W h => h.symm
          have hx1 : (j : Int) < (sn : Int) := by omega
          have hx2 : (j : Int) < 120 := by omega
          have hx0 : (0 : Int) ≤ (j : Int) := by omega
          have hw : IntKind.i64.wrap ((j : Int) + 1) = (j : Int) + 1 := by rw [IntKind.wrap_i64]; omega
          unfold OpV.val at HP1 HP2
          generalize lo j = o at *
          obtain ⟨kind, which, nm, dt, at_, n, ka, kc, kb, ko, keep⟩ := o
          simp only at k0 k1 k2 k3 k4 k5 k6 HP1 HP2
          generalize keep.length = kl at *
          clear hTp
          obtain ⟨uw, huw⟩ : ∃ uw, IntKind.u64.wrap which = uw := ⟨_, rfl⟩
          have hu0 : 0 ≤ uw := by rw [← huw, IntKind.wrap_u64]; omega
          have hmm : Int.tmod uw 2 = 0 ∨ Int.tmod uw 2 = 1 := by rw [Int.tmod_eq_emod_of_nonneg hu0]; omega
          have HJ : Hid (j < sn ∧ j < 120) := ⟨hl1, hl2⟩
          clear hu0 hj hjn hl1 hl2 HC HAl HOp HNd HNr HP HS HX
          rcases hmm with hm | hm
          · go_wp2_with (go_at_call 8; (with_reducible refine HP1.out.mono ?_); rintro e w6 ⟨rfl, hTp⟩)
            go_roundg (120 - (j + 1))
            case rel =>
              go_light
              exact ⟨j + 1, by have := HJ.out; omega, rfl, by have := HJ.out; go_num, hTp, by have := HJ.out; omega⟩
            case measure => go_light; have := HJ.out; omega
          · go_wp2_with (go_at_call 8; (with_reducible refine HP2.out.mono ?_); rintro e w6 ⟨rfl, hTp⟩)
            go_roundg (120 - (j + 1))
            case rel =>
              go_light
              exact ⟨j + 1, by have := HJ.out; omega, rfl, by have := HJ.out; go_num, HTq.out _ hTp, by have := HJ.out; omega⟩
            case measure => go_light; have := HJ.out; omega
        · have H1 := hide (HT.out w1 wr pA qA _ hTp)
          have HT2 : Hid (∀ W, Below wr.heap.size wr W → Calls Try.prog 9 #[.pointer (some ⟨qA, 0, none⟩)] W fun e w' => e = .returned (.bool true) ∧ Below W.heap.size W w') := fun W hW => HT.out w1 W qA pA _ (hTp.next hW).symm
          have HB := hide (HZ.out _ hTp.below)
          have hcond : ¬ (j < sn) ∨ (j < sn ∧ ¬ (j < 120)) := by omega
          clear hTp HC HAl HOp HNd HNr HP HS HX HZ HT hlt
          rcases hcond with hz | ⟨hz, hz2⟩
          · have hz1 : ¬ ((j : Int) < (sn : Int)) := by omega
            clear hz hj hjn
            go_wp2_with (first
              | (go_at_call 9; (with_reducible refine H1.out.mono ?_); rintro e w6 ⟨rfl, u6⟩)
              | (go_at_call 9; (with_reducible refine (HT2.out _ u6).mono ?_); rintro e w7 ⟨rfl, u7⟩))
            all_goals
              go_ret
              exact ⟨rfl, bnext (bnext HB.out u6) u7⟩
          · have hz1 : (j : Int) < (sn : Int) := by omega
            have hz3 : ¬ ((j : Int) < 120) := by omega
            clear hz hz2 hj hjn
            go_wp2_with (first
              | (go_at_call 9; (with_reducible refine H1.out.mono ?_); rintro e w6 ⟨rfl, u6⟩)
              | (go_at_call 9; (with_reducible refine (HT2.out _ u6).mono ?_); rintro e w7 ⟨rfl, u7⟩))
            all_goals
              go_ret
              exact ⟨rfl, bnext (bnext HB.out u6) u7⟩
  · go_upto_region 7 with (fail)
    have tw := u3.drew
    go_region_held3 (fun Z => Z.cell? ⟨bo, 0, none⟩ = some (.int .i64 x0)) (first | assumption | (exact (HC.out _ tw).1) | (exact (HC.out _ (bal tw _)).1) | (exact (HC.out _ u3).1)) (first
      | (go_at_call 6; (with_reducible refine (HNd.out _ _ HX.out.1).mono ?_); rintro e w4 ⟨p4, S4, rfl, hd, hS, u4⟩; have tw := bnext tw u4)
      | (go_at_call 7; (with_reducible refine (HNr.out _ _ HX.out.1).mono ?_); rintro e w5 ⟨p5, S5, rfl, hr, hR, u5⟩; have tw := bnext tw u5))
    all_goals
      have hone := (op1_new hd hS u4 u5 hr hR).back u3.drew
      have uA := bal tw (.cells #[.pointer (some ⟨p4, 0, none⟩), .pointer (some ⟨p5, 0, none⟩)] 32)
      clear hd hS u4 u5 hr hR tw
      generalize w5.alloc (.cells #[.pointer (some ⟨p4, 0, none⟩), .pointer (some ⟨p5, 0, none⟩)] 32) = wA at *
      generalize w5.heap.size = pA at *
      clear u3
      go_upto_region 8 with (fail)
      have tw := uA.drew
      go_region_held3 (fun Z => Z.cell? ⟨bo, 1, none⟩ = some (.int .i64 x1)) (first | assumption | (exact (HC.out _ tw).2) | (exact (HC.out _ (bal tw _)).2) | (exact (HC.out _ uA).2)) (first
        | (go_at_call 6; (with_reducible refine (HNd.out _ _ HX.out.2.1).mono ?_); rintro e w4 ⟨p4, S4, rfl, hd, hS, u4⟩; have tw := bnext tw u4)
        | (go_at_call 7; (with_reducible refine (HNr.out _ _ HX.out.2.1).mono ?_); rintro e w5 ⟨p5, S5, rfl, hr, hR, u5⟩; have tw := bnext tw u5))
      all_goals
        have hTp := tp_start hone ((op1_new hd hS u4 u5 hr hR).back (bdq _)) uA (bal (bnext (bdq _) (bnext u4 u5)) _)
        clear hd hS u4 u5 hr hR tw hone
        generalize w5.alloc (.cells #[.pointer (some ⟨p4, 0, none⟩), .pointer (some ⟨p5, 0, none⟩)] 32) = wB at *
        generalize w5.heap.size = qA at *
        have hTp0 := hide hTp
        clear hTp
        go_wp2
        go_loopg [10] 120 (fun g y wr => ∃ j : Nat, j ≤ 120 ∧ g = 120 - j ∧ y = .int .i64 (j : Int) ∧ Tp w1 wr pA qA (1048576 + j) ∧ j ≤ sn)
        case atStart => exact ⟨0, by omega, rfl, rfl, hTp0.out, Nat.zero_le _⟩
        case round =>
          obtain ⟨j, hj, rfl, rfl, hTp, hjn⟩ := hrel
          by_cases hlt : j < sn ∧ j < 120
          · obtain ⟨hl1, hl2⟩ := hlt
            obtain ⟨a, ha⟩ : ∃ a, so + j * 7 = a := ⟨_, rfl⟩
            obtain ⟨hsa, k0, k1, k2, k3, k4, k5, k6⟩ := HS.out wr j a hTp.below hl1 ha
            subst hsa
            have HP1 := hide (HP.out wr pA qA (1048576 + j) j hTp (by omega) hl1)
            have HP2 := hide (HP.out wr qA pA (1048576 + j) j hTp.symm (by omega) hl1)
            have HTq : Hid (∀ W, Tp w1 W qA pA (1048576 + j + 1) → Tp w1 W pA qA (1048576 + j + 1)) := fun W h => h.symm
            have hx1 : (j : Int) < (sn : Int) := by omega
            have hx2 : (j : Int) < 120 := by omega
            have hx0 : (0 : Int) ≤ (j : Int) := by omega
            have hw : IntKind.i64.wrap ((j : Int) + 1) = (j : Int) + 1 := by rw [IntKind.wrap_i64]; omega
            unfold OpV.val at HP1 HP2
            generalize lo j = o at *
            obtain ⟨kind, which, nm, dt, at_, n, ka, kc, kb, ko, keep⟩ := o
            simp only at k0 k1 k2 k3 k4 k5 k6 HP1 HP2
            generalize keep.length = kl at *
            clear hTp
            obtain ⟨uw, huw⟩ : ∃ uw, IntKind.u64.wrap which = uw := ⟨_, rfl⟩
            have hu0 : 0 ≤ uw := by rw [← huw, IntKind.wrap_u64]; omega
            have hmm : Int.tmod uw 2 = 0 ∨ Int.tmod uw 2 = 1 := by rw [Int.tmod_eq_emod_of_nonneg hu0]; omega
            have HJ : Hid (j < sn ∧ j < 120) := ⟨hl1, hl2⟩
            clear hu0 hj hjn hl1 hl2 HC HAl HOp HNd HNr HP HS HX
            rcases hmm with hm | hm
            · go_wp2_with (go_at_call 8; (with_reducible refine HP1.out.mono ?_); rintro e w6 ⟨rfl, hTp⟩)
              go_roundg (120 - (j + 1))
              case rel =>
                go_light
                exact ⟨j + 1, by have := HJ.out; omega, rfl, by have := HJ.out; go_num, hTp, by have := HJ.out; omega⟩
              case measure => go_light; have := HJ.out; omega
            · go_wp2_with (go_at_call 8; (with_reducible refine HP2.out.mono ?_); rintro e w6 ⟨rfl, hTp⟩)
              go_roundg (120 - (j + 1))
              case rel =>
                go_light
                exact ⟨j + 1, by have := HJ.out; omega, rfl, by have := HJ.out; go_num, HTq.out _ hTp, by have := HJ.out; omega⟩
              case measure => go_light; have := HJ.out; omega
          · have H1 := hide (HT.out w1 wr pA qA _ hTp)
            have HT2 : Hid (∀ W, Below wr.heap.size wr W → Calls Try.prog 9 #[.pointer (some ⟨qA, 0, none⟩)] W fun e w' => e = .returned (.bool true) ∧ Below W.heap.size W w') := fun W hW => HT.out w1 W qA pA _ (hTp.next hW).symm
            have HB := hide (HZ.out _ hTp.below)
            have hcond : ¬ (j < sn) ∨ (j < sn ∧ ¬ (j < 120)) := by omega
            clear hTp HC HAl HOp HNd HNr HP HS HX HZ HT hlt
            rcases hcond with hz | ⟨hz, hz2⟩
            · have hz1 : ¬ ((j : Int) < (sn : Int)) := by omega
              clear hz hj hjn
              go_wp2_with (first
                | (go_at_call 9; (with_reducible refine H1.out.mono ?_); rintro e w6 ⟨rfl, u6⟩)
                | (go_at_call 9; (with_reducible refine (HT2.out _ u6).mono ?_); rintro e w7 ⟨rfl, u7⟩))
              all_goals
                go_ret
                exact ⟨rfl, bnext (bnext HB.out u6) u7⟩
            · have hz1 : (j : Int) < (sn : Int) := by omega
              have hz3 : ¬ ((j : Int) < 120) := by omega
              clear hz hz2 hj hjn
              go_wp2_with (first
                | (go_at_call 9; (with_reducible refine H1.out.mono ?_); rintro e w6 ⟨rfl, u6⟩)
                | (go_at_call 9; (with_reducible refine (HT2.out _ u6).mono ?_); rintro e w7 ⟨rfl, u7⟩))
              all_goals
                go_ret
                exact ⟨rfl, bnext (bnext HB.out u6) u7⟩
end Go.Proofs.Ytmhedhhbdpdafab
