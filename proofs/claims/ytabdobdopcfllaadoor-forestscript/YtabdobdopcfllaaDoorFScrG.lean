/-
  The walk of ForestScript. Own work.
-/
import Derived.Test.YtabdobdopcfllaaDoorFScrF
import Derived.Test.YtabdobdopcfllaaDoorPlan2
namespace Go.Proofs.YtabdobdopcfllaaDoor
open Go.RowKit
open Mm (dv)
attribute [local go_sem ↓] Go.wp_at_zero Go.wp_at_succ
set_option maxRecDepth 100000 in
set_option maxHeartbeats 4000000 in
theorem script_walk (w : World) (ht : Tb w) (hr : Tr w) (k0 k1 : Int) (ao : Option Addr) (b off n c : Nat) (l : Nat → OpV) (ho : RdO w ao b off n l) :
    Calls Tryd.prog 7 #[.agg #[.int .i64 k0, .int .i64 k1], .slice ao n c] w fun e w' => e = .returned (.bool true) ∧ Below w.heap.size w w' := by
  obtain ⟨w0, hw0⟩ : ∃ w0, w.alloc (.cells #[.int .i64 k0, .int .i64 k1] 66) = w0 := ⟨_, rfl⟩
  have hb0 : Below w.heap.size w w0 := by rw [← hw0]; exact bal (Below.refl w.heap.size w) _
  have HAl : Hid (Calls Tryd.prog 8 #[] w0 fun e w' => e = .returned (.bool true) ∧ Below w0.heap.size w0 w') := alive_any w0 (ht.next hb0)
  have HT : Hid (Tb w0 ∧ Tr w0 ∧ Below w.heap.size w w0) := ⟨ht.next hb0, hr.next hb0, hb0⟩
  have HRo := hide (ho.next hb0)
  have HK : Hid (∀ W, Below w0.heap.size w0 W → W.cell? ⟨w.heap.size, 0, none⟩ = some (.int .i64 k0) ∧ W.cell? ⟨w.heap.size, 1, none⟩ = some (.int .i64 k1)) := fun W hb => by
    have X : W.heap[w.heap.size]? = some (.cells #[.int .i64 k0, .int .i64 k1] 66 (0, 0)) := by
      rw [hb.block _ (by rw [← hw0]; simp), ← hw0]; exact heap_alloc_new w _
    exact ⟨by rw [cell_of_row W _ 0 _ _ (0, 0) X]; rfl, by rw [cell_of_row W _ 1 _ _ (0, 0) X]; rfl⟩
  clear ht hr ho hb0
  go_enter Tryd.func7, Tryd.ntmps7
  go_upto_region 5 with (first
    | (go_at_call 8; with_reducible refine HAl.out.mono ?_; rintro e w1 ⟨rfl, hb1⟩))
  obtain ⟨w2, hw2⟩ : ∃ w2, (w1.alloc (.cells #[.pointer none, .pointer none] 68)).alloc (.cells #[.pointer none, .pointer none] 70) = w2 := ⟨_, rfl⟩
  have HM0 : Hid (∃ P0 P1, Ms w0 w2 w1.heap.size (w1.heap.size + 1) P0 P1) := by
    refine ⟨none, none, ?_, ⟨hb1.size, by omega⟩, trivial, trivial, (fun b hb => by rcases hb with e | e <;> exact False.elim e), (fun b e => False.elim e), ?_, ?_⟩
    · rw [← hw2]; exact bal (bal hb1 _) _
    · rw [← hw2, (MapKept.heap_alloc _ _).2 w1.heap.size (by simp)]
      exact heap_alloc_new w1 _
    · have := heap_alloc_new (w1.alloc (.cells #[.pointer none, .pointer none] 68)) (.cells #[.pointer none, .pointer none] 70)
      rw [World.size_alloc, hw2] at this
      exact this
  rw [hw2]
  clear hw2 hb1 HAl hw0
  obtain ⟨F, hF⟩ : ∃ F, w1.heap.size = F := ⟨_, rfl⟩
  rw [hF] at HM0 ⊢
  clear hF
  go_wp2
  go_loopg [7] 2 (fun gk i wr => ∃ j : Nat, j ≤ 2 ∧ gk = 2 - j ∧ i = .int .i64 (j : Int) ∧ Hid (∃ P0 P1, Ms w0 wr F (F + 1) P0 P1))
  case atStart =>
    go_light
    exact ⟨0, Nat.zero_le _, rfl, rfl, HM0⟩
  case round =>
    clear HM0
    obtain ⟨j, hj, rfl, rfl, HM⟩ := hrel
    obtain ⟨P0, P1, hM⟩ := HM.out
    have HN : Hid (∀ W, Below wr.heap.size wr W → Ms w0 W F (F + 1) P0 P1) := fun W hb => hM.next hb
    have HB := hide hM.bl
    clear hM HM
    rcases (by omega : j = 0 ∨ j = 1 ∨ j = 2) with rfl | rfl | rfl
    · obtain ⟨x0, x1⟩ := HK.out wr HB.out
      by_cases hk : 1 ≤ k0 ∧ k0 ≤ 32
      · have H1 : Hid (∀ W, Calls Tryd.prog 10 #[.int .i64 k0] W fun e w' => e = .returned (.tuple #[.pointer (some ⟨W.heap.size + 1, 0, none⟩), .int .i64 0]) ∧ Frs w' W.heap.size k0 [] ∧ Below W.heap.size W w') := fun W => fnew_ok W k0 hk.1 hk.2
        have H2 : Hid (∀ W, Calls Tryd.prog 28 #[.int .i64 k0] W fun e w' => e = .returned (.tuple #[.pointer (some ⟨W.heap.size + 1, 0, none⟩), .int .i64 0]) ∧ Rf w' W.heap.size (W.heap.size + 1) k0 [] W.heap.size 1 [dv] ∧ Below W.heap.size W w') := fun W => refnew_ok W k0 hk.1 hk.2
        clear hk
        go_upto_region 12 with (first
          | (go_at_call 10; with_reducible refine (H1.out _).mono ?_; rintro e w4 ⟨rfl, hF4, hb4⟩; obtain ⟨y0, y1⟩ := HK.out w4 (bnext HB.out hb4))
          | (go_at_call 28; with_reducible refine (H2.out _).mono ?_; rintro e w5 ⟨rfl, hR5, hb5⟩)
          | (go_at_call 11; with_reducible refine (num_id _ _).mono ?_; rintro e wn ⟨rfl, rfl⟩))
        obtain ⟨⟨cf0, cf1, ff0, ff1⟩, cr0, cr1, fr0, fr1⟩ := (HN.out w5 (bnext hb4 hb5)).cells
        have cr2 : (w5.setCell ⟨F, 0, none⟩ (.pointer (some ⟨wr.heap.size + 1, 0, none⟩))).cell? ⟨F + 1, 0, none⟩ = some (rP P0) := (World.cell?_setCell_other _ _ _ _ (by simp)).trans cr0
        have HN5 : Hid (∃ P0 P1, Ms w0 ((w5.setCell ⟨F, 0, none⟩ (.pointer (some ⟨wr.heap.size + 1, 0, none⟩))).setCell ⟨F + 1, 0, none⟩ (.pointer (some ⟨w4.heap.size + 1, 0, none⟩))) F (F + 1) P0 P1) := by
          obtain ⟨hn1, hn2⟩ := new_pair hF4 hR5 hb5 (B := w0.heap.size) HB.out.size
          exact ⟨_, _, (HN.out wr (Below.refl _ _)).put0 (bnext hb4 hb5) hn1 hn2⟩
        clear hb4 hb5 H1 H2 HN x0 x1 y0 y1 hF4 hR5
        go_wp2
        go_roundg (2 - (0 + 1))
        case rel =>
          go_light
          exact ⟨1, by decide, rfl, rfl, HN5.out⟩
        case measure => go_light; omega
      · have H1 : Hid (∀ W, Calls Tryd.prog 10 #[.int .i64 k0] W fun e w' => e = .returned (.tuple #[.pointer none, .int .i64 70]) ∧ Below W.heap.size W w') := fun W => fnew_no W k0 (by omega)
        have H2 : Hid (∀ W, Calls Tryd.prog 28 #[.int .i64 k0] W fun e w' => e = .returned (.tuple #[.pointer none, .int .i64 70]) ∧ Below W.heap.size W w') := fun W => refnew_no W k0 (by omega)
        clear hk
        go_upto_region 12 with (first
          | (go_at_call 10; with_reducible refine (H1.out _).mono ?_; rintro e w4 ⟨rfl, hb4⟩; obtain ⟨y0, y1⟩ := HK.out w4 (bnext HB.out hb4))
          | (go_at_call 28; with_reducible refine (H2.out _).mono ?_; rintro e w5 ⟨rfl, hb5⟩)
          | (go_at_call 11; with_reducible refine (num_id _ _).mono ?_; rintro e wn ⟨rfl, rfl⟩))
        obtain ⟨⟨cf0, cf1, ff0, ff1⟩, cr0, cr1, fr0, fr1⟩ := (HN.out w5 (bnext hb4 hb5)).cells
        have cr2 : (w5.setCell ⟨F, 0, none⟩ (.pointer none)).cell? ⟨F + 1, 0, none⟩ = some (rP P0) := (World.cell?_setCell_other _ _ _ _ (by simp)).trans cr0
        have HN5 : Hid (∃ P0 P1, Ms w0 ((w5.setCell ⟨F, 0, none⟩ (.pointer none)).setCell ⟨F + 1, 0, none⟩ (.pointer none)) F (F + 1) P0 P1) := by
          exact ⟨_, _, (HN.out wr (Below.refl _ _)).put0 (P := none) (bnext hb4 hb5) trivial (fun b e => False.elim e)⟩
        clear hb4 hb5 H1 H2 HN x0 x1 y0 y1
        go_wp2
        go_roundg (2 - (0 + 1))
        case rel =>
          go_light
          exact ⟨1, by decide, rfl, rfl, HN5.out⟩
        case measure => go_light; omega
    · obtain ⟨x0, x1⟩ := HK.out wr HB.out
      by_cases hk : 1 ≤ k1 ∧ k1 ≤ 32
      · have H1 : Hid (∀ W, Calls Tryd.prog 10 #[.int .i64 k1] W fun e w' => e = .returned (.tuple #[.pointer (some ⟨W.heap.size + 1, 0, none⟩), .int .i64 0]) ∧ Frs w' W.heap.size k1 [] ∧ Below W.heap.size W w') := fun W => fnew_ok W k1 hk.1 hk.2
        have H2 : Hid (∀ W, Calls Tryd.prog 28 #[.int .i64 k1] W fun e w' => e = .returned (.tuple #[.pointer (some ⟨W.heap.size + 1, 0, none⟩), .int .i64 0]) ∧ Rf w' W.heap.size (W.heap.size + 1) k1 [] W.heap.size 1 [dv] ∧ Below W.heap.size W w') := fun W => refnew_ok W k1 hk.1 hk.2
        clear hk
        go_upto_region 12 with (first
          | (go_at_call 10; with_reducible refine (H1.out _).mono ?_; rintro e w4 ⟨rfl, hF4, hb4⟩; obtain ⟨y0, y1⟩ := HK.out w4 (bnext HB.out hb4))
          | (go_at_call 28; with_reducible refine (H2.out _).mono ?_; rintro e w5 ⟨rfl, hR5, hb5⟩)
          | (go_at_call 11; with_reducible refine (num_id _ _).mono ?_; rintro e wn ⟨rfl, rfl⟩))
        obtain ⟨⟨cf0, cf1, ff0, ff1⟩, cr0, cr1, fr0, fr1⟩ := (HN.out w5 (bnext hb4 hb5)).cells
        have cr2 : (w5.setCell ⟨F, 1, none⟩ (.pointer (some ⟨wr.heap.size + 1, 0, none⟩))).cell? ⟨F + 1, 1, none⟩ = some (rP P1) := (World.cell?_setCell_other _ _ _ _ (by simp)).trans cr1
        have HN5 : Hid (∃ P0 P1, Ms w0 ((w5.setCell ⟨F, 1, none⟩ (.pointer (some ⟨wr.heap.size + 1, 0, none⟩))).setCell ⟨F + 1, 1, none⟩ (.pointer (some ⟨w4.heap.size + 1, 0, none⟩))) F (F + 1) P0 P1) := by
          obtain ⟨hn1, hn2⟩ := new_pair hF4 hR5 hb5 (B := w0.heap.size) HB.out.size
          exact ⟨_, _, (HN.out wr (Below.refl _ _)).put1 (bnext hb4 hb5) hn1 hn2⟩
        clear hb4 hb5 H1 H2 HN x0 x1 y0 y1 hF4 hR5
        go_wp2
        go_roundg (2 - (1 + 1))
        case rel =>
          go_light
          exact ⟨2, by decide, rfl, rfl, HN5.out⟩
        case measure => go_light; omega
      · have H1 : Hid (∀ W, Calls Tryd.prog 10 #[.int .i64 k1] W fun e w' => e = .returned (.tuple #[.pointer none, .int .i64 70]) ∧ Below W.heap.size W w') := fun W => fnew_no W k1 (by omega)
        have H2 : Hid (∀ W, Calls Tryd.prog 28 #[.int .i64 k1] W fun e w' => e = .returned (.tuple #[.pointer none, .int .i64 70]) ∧ Below W.heap.size W w') := fun W => refnew_no W k1 (by omega)
        clear hk
        go_upto_region 12 with (first
          | (go_at_call 10; with_reducible refine (H1.out _).mono ?_; rintro e w4 ⟨rfl, hb4⟩; obtain ⟨y0, y1⟩ := HK.out w4 (bnext HB.out hb4))
          | (go_at_call 28; with_reducible refine (H2.out _).mono ?_; rintro e w5 ⟨rfl, hb5⟩)
          | (go_at_call 11; with_reducible refine (num_id _ _).mono ?_; rintro e wn ⟨rfl, rfl⟩))
        obtain ⟨⟨cf0, cf1, ff0, ff1⟩, cr0, cr1, fr0, fr1⟩ := (HN.out w5 (bnext hb4 hb5)).cells
        have cr2 : (w5.setCell ⟨F, 1, none⟩ (.pointer none)).cell? ⟨F + 1, 1, none⟩ = some (rP P1) := (World.cell?_setCell_other _ _ _ _ (by simp)).trans cr1
        have HN5 : Hid (∃ P0 P1, Ms w0 ((w5.setCell ⟨F, 1, none⟩ (.pointer none)).setCell ⟨F + 1, 1, none⟩ (.pointer none)) F (F + 1) P0 P1) := by
          exact ⟨_, _, (HN.out wr (Below.refl _ _)).put1 (P := none) (bnext hb4 hb5) trivial (fun b e => False.elim e)⟩
        clear hb4 hb5 H1 H2 HN x0 x1 y0 y1
        go_wp2
        go_roundg (2 - (1 + 1))
        case rel =>
          go_light
          exact ⟨2, by decide, rfl, rfl, HN5.out⟩
        case measure => go_light; omega
    · have HM2 : Hid (∃ P0 P1, Ms w0 wr F (F + 1) P0 P1) := ⟨P0, P1, HN.out wr (Below.refl _ _)⟩
      clear HN HB HK
      go_wp2
      go_loopg [12] 80 (fun gk i wx => ∃ j : Nat, j ≤ n ∧ j ≤ 80 ∧ gk = 80 - j ∧ i = .int .i64 (j : Int) ∧ Hid (∃ P0 P1, Ms w0 wx F (F + 1) P0 P1))
      case atStart =>
        go_light
        exact ⟨0, Nat.zero_le _, Nat.zero_le _, rfl, rfl, HM2⟩
      case round =>
        clear HM2
        obtain ⟨j, hjn, hj8, rfl, rfl, HM⟩ := hrel
        have z0 : (0 : Int) ≤ (j : Int) := Int.natCast_nonneg _
        by_cases h1 : j < n
        · have z1 : (j : Int) < (n : Int) := by omega
          by_cases h2 : j < 80
          · have z2 : (j : Int) < 80 := by omega
            obtain ⟨P0, P1, hM⟩ := HM.out
            obtain rfl := HRo.out.ptr (by omega)
            have HN : Hid (∀ W, Below wr.heap.size wr W → Ms w0 W F (F + 1) P0 P1) := fun W hb => hM.next hb
            obtain ⟨_, f1, _, _, _⟩ := (HRo.out.next hM.bl).five h1 rfl
            have HFv : Hid (∀ W, Below wr.heap.size wr W → _) := fun W hb => (HRo.out.next (bnext hM.bl hb)).five h1 rfl
            have HOk := hide (HRo.out.cell j h1).2.2.2.2.2
            clear hM
            generalize l j = op at *
            obtain ⟨kd, at', s, nn, ao2, g2, off2, cap2, Bs⟩ := op
            obtain ⟨uw, huw⟩ : ∃ uw, IntKind.u64.wrap at' = uw := ⟨_, rfl⟩
            have hu0 : 0 ≤ uw := by rw [← huw, IntKind.wrap_u64]; omega
            have hmm : Int.tmod uw 2 = 0 ∨ Int.tmod uw 2 = 1 := by rw [Int.tmod_eq_emod_of_nonneg hu0]; omega
            have HJ : Hid (j < n ∧ j < 80) := ⟨h1, h2⟩
            have hd := (Below.refl wr.heap.size wr).drew
            obtain ⟨⟨cf0, cf1, _, _⟩, cr0, cr1, _, _⟩ := (HN.out _ hd).cells
            obtain ⟨e0, e1, e2, e3, e4⟩ := HFv.out _ hd
            clear hu0 h1 h2 HM hjn hj8
            rcases hmm with hm | hm
            · rcases P0 with _ | p
              · have HX : Hid (∀ W, Below wr.heap.size wr W → ∃ P0 P1, Ms w0 W F (F + 1) P0 P1) := fun W hb => ⟨_, _, HN.out W hb⟩
                clear HN cf1 cr1
                go_upto_region 18 with (fail)
                simp only [fP, rP] at cf0 cr0
                go_region
                go_wp2
                go_roundg (80 - (j + 1))
                case rel =>
                  go_light
                  exact ⟨j + 1, by have := HJ.out; omega, by have := HJ.out; omega, rfl, by have := HJ.out; go_num, HX.out _ (Cv.below_drewN (Below.refl _ _) _)⟩
                case measure => go_light; have := HJ.out; omega
              · have HPl : Hid (∀ W, Below wr.heap.size wr W → Calls Tryd.prog 29 #[.pointer (some ⟨p.m + 1, 0, none⟩), .pointer (some ⟨p.q, 0, none⟩), .agg #[.int .i64 kd, .int .i64 at', .string s, .int .u64 (nn : Int), .slice ao2 Bs.length cap2]] W fun e w' => e = .returned (.bool true) ∧ ∃ P0 P1, Ms w0 w' F (F + 1) P0 P1) := fun W hb => by
                  have hW := HN.out W hb
                  refine (plays_any w0 W HT.out.1 HT.out.2.1 hW.bl p.m p.q p.K p.L p.gA p.cA p.vs hW.p0 kd at' s nn ao2 g2 off2 cap2 Bs HOk.out).mono ?_
                  rintro e w' ⟨rfl, L', gA', cA', vs', hs⟩
                  exact ⟨rfl, _, _, hW.play0 hs⟩
                clear HOk cf0 cr0 cf1 cr1 e0 e1 e2 e3 e4 hd
                go_upto_region 18 with (fail)
                refine wp_region_planI (by kernel_rfl) [70, 71, 72, 73, 74, 75, 76, 77, 78, 79, 80, 81, 82, 83, 84, 85, 86, 87] [] [.int .i64 0, .pointer (some ⟨F + 1, 0, none⟩), .pointer (some ⟨p.q, 0, none⟩), .bool true, .bool true, .int .i64 0, .pointer (some ⟨F, 0, none⟩), .pointer (some ⟨p.m + 1, 0, none⟩), .int .i64 0, .pointer (some ⟨F + 1, 0, none⟩), .pointer (some ⟨p.q, 0, none⟩), .slice (some ⟨b, off, none⟩) n c, .int .i64 (j : Int), .pointer (some ⟨b, off + j * 5, none⟩), .agg #[.int .i64 kd, .int .i64 at', .string s, .int .u64 (nn : Int), .slice ao2 Bs.length cap2], .bool true, .bool false, .bool false] (by kernel_rfl) rfl (fun j hj => by cases hj) (fun L W => (L 15 = false → Below wr.heap.size wr W) ∧ (L 15 = true → ∃ P0 P1, Ms w0 W F (F + 1) P0 P1)) (fun W _ hb => ⟨fun _ => hb, fun h => by cases h⟩) ?step ?fin
                case step =>
                  refine ⟨?_, ?_, ?_, ?_, ?_, ?_, ?_, ?_, ?_, ?_, ?_, ?_, ?_, ?_, ?_, ?_, ?_, ?_, trivial⟩
                  · intro L Ac Wc K hI hj hcl hsm dep hK
                    have t13 : Ac.tmps.getD 13 undef = .int .i64 0 := hsm 13 rfl
                    show Oper.wp _ _ Ac Wc K _
                    go_simp
                    exact hK _ _ (.inr rfl) hI
                  · intro L Ac Wc K hI hj hcl hsm dep hK
                    have t6 : Ac.tmps.getD 6 undef = .pointer (some ⟨F + 1, 0, none⟩) := hsm 6 rfl
                    have t70 : Ac.tmps.getD 70 undef = .int .i64 0 := dep 0 rfl
                    show Oper.wp _ _ Ac Wc K _
                    go_simp
                    exact hK _ _ (.inr rfl) hI
                  · intro L Ac Wc K hI hj hcl hsm dep hK
                    have t71 : Ac.tmps.getD 71 undef = .pointer (some ⟨F + 1, 0, none⟩) := dep 1 rfl
                    show Oper.wp _ _ Ac Wc K _
                    have hL : L 15 = false := by
                      cases h : L 15 with
                      | false => rfl
                      | true => rw [hcl 3 2 (hcl 4 3 (hcl 15 4 h rfl) rfl) rfl] at hj; cases hj
                    have c0 : Wc.cell? ⟨F + 1, 0, none⟩ = some (.pointer (some ⟨p.q, 0, none⟩)) := (HN.out Wc (hI.1 hL)).cells.2.1
                    go_simp
                    exact hK _ _ (.inr rfl) hI
                  · intro L Ac Wc K hI hj hcl hsm dep hK
                    have t72 : Ac.tmps.getD 72 undef = .pointer (some ⟨p.q, 0, none⟩) := dep 2 rfl
                    show Oper.wp _ _ Ac Wc K _
                    go_simp
                    exact hK _ _ (.inr rfl) hI
                  · intro L Ac Wc K hI hj hcl hsm dep hK
                    have t73 : Ac.tmps.getD 73 undef = .bool true := dep 3 rfl
                    show Oper.wp _ _ Ac Wc K _
                    go_simp
                    exact hK _ _ (.inr rfl) hI
                  · intro L Ac Wc K hI hj hcl hsm dep hK
                    have t13 : Ac.tmps.getD 13 undef = .int .i64 0 := hsm 13 rfl
                    refine ⟨true, (show Ac.tmps.getD 74 undef = .bool true from dep 4 rfl), ?_⟩
                    rw [if_pos rfl]
                    go_simp
                    exact hK _ _ (.inr rfl) hI
                  · intro L Ac Wc K hI hj hcl hsm dep hK
                    have t5 : Ac.tmps.getD 5 undef = .pointer (some ⟨F, 0, none⟩) := hsm 5 rfl
                    have t75 : Ac.tmps.getD 75 undef = .int .i64 0 := dep 5 rfl
                    refine ⟨true, (show Ac.tmps.getD 74 undef = .bool true from dep 4 rfl), ?_⟩
                    rw [if_pos rfl]
                    go_simp
                    exact hK _ _ (.inr rfl) hI
                  · intro L Ac Wc K hI hj hcl hsm dep hK
                    have t76 : Ac.tmps.getD 76 undef = .pointer (some ⟨F, 0, none⟩) := dep 6 rfl
                    refine ⟨true, (show Ac.tmps.getD 74 undef = .bool true from dep 4 rfl), ?_⟩
                    rw [if_pos rfl]
                    have hL : L 15 = false := by
                      cases h : L 15 with
                      | false => rfl
                      | true => rw [hcl 15 7 h rfl] at hj; cases hj
                    have c0 : Wc.cell? ⟨F, 0, none⟩ = some (.pointer (some ⟨p.m + 1, 0, none⟩)) := (HN.out Wc (hI.1 hL)).cells.1.1
                    go_simp
                    exact hK _ _ (.inr rfl) hI
                  · intro L Ac Wc K hI hj hcl hsm dep hK
                    have t13 : Ac.tmps.getD 13 undef = .int .i64 0 := hsm 13 rfl
                    refine ⟨true, (show Ac.tmps.getD 74 undef = .bool true from dep 4 rfl), ?_⟩
                    rw [if_pos rfl]
                    go_simp
                    exact hK _ _ (.inr rfl) hI
                  · intro L Ac Wc K hI hj hcl hsm dep hK
                    have t6 : Ac.tmps.getD 6 undef = .pointer (some ⟨F + 1, 0, none⟩) := hsm 6 rfl
                    have t78 : Ac.tmps.getD 78 undef = .int .i64 0 := dep 8 rfl
                    refine ⟨true, (show Ac.tmps.getD 74 undef = .bool true from dep 4 rfl), ?_⟩
                    rw [if_pos rfl]
                    go_simp
                    exact hK _ _ (.inr rfl) hI
                  · intro L Ac Wc K hI hj hcl hsm dep hK
                    have t79 : Ac.tmps.getD 79 undef = .pointer (some ⟨F + 1, 0, none⟩) := dep 9 rfl
                    refine ⟨true, (show Ac.tmps.getD 74 undef = .bool true from dep 4 rfl), ?_⟩
                    rw [if_pos rfl]
                    have hL : L 15 = false := by
                      cases h : L 15 with
                      | false => rfl
                      | true => rw [hcl 15 10 h rfl] at hj; cases hj
                    have c0 : Wc.cell? ⟨F + 1, 0, none⟩ = some (.pointer (some ⟨p.q, 0, none⟩)) := (HN.out Wc (hI.1 hL)).cells.2.1
                    go_simp
                    exact hK _ _ (.inr rfl) hI
                  · intro L Ac Wc K hI hj hcl hsm dep hK
                    have t1 : Ac.tmps.getD 1 undef = .slice (some ⟨b, off, none⟩) n c := hsm 1 rfl
                    refine ⟨true, (show Ac.tmps.getD 74 undef = .bool true from dep 4 rfl), ?_⟩
                    rw [if_pos rfl]
                    go_simp
                    exact hK _ _ (.inr rfl) hI
                  · intro L Ac Wc K hI hj hcl hsm dep hK
                    have t12 : Ac.tmps.getD 12 undef = .int .i64 (j : Int) := hsm 12 rfl
                    refine ⟨true, (show Ac.tmps.getD 74 undef = .bool true from dep 4 rfl), ?_⟩
                    rw [if_pos rfl]
                    go_simp
                    exact hK _ _ (.inr rfl) hI
                  · intro L Ac Wc K hI hj hcl hsm dep hK
                    have t81 : Ac.tmps.getD 81 undef = .slice (some ⟨b, off, none⟩) n c := dep 11 rfl
                    have t82 : Ac.tmps.getD 82 undef = .int .i64 (j : Int) := dep 12 rfl
                    refine ⟨true, (show Ac.tmps.getD 74 undef = .bool true from dep 4 rfl), ?_⟩
                    rw [if_pos rfl]
                    go_simp
                    exact hK _ _ (.inr rfl) hI
                  · intro L Ac Wc K hI hj hcl hsm dep hK
                    have t83 : Ac.tmps.getD 83 undef = .pointer (some ⟨b, off + j * 5, none⟩) := dep 13 rfl
                    refine ⟨true, (show Ac.tmps.getD 74 undef = .bool true from dep 4 rfl), ?_⟩
                    rw [if_pos rfl]
                    have hL : L 15 = false := by
                      cases h : L 15 with
                      | false => rfl
                      | true => rw [hcl 15 14 h rfl] at hj; cases hj
                    obtain ⟨g0, g1, g2', g3, g4⟩ := HFv.out Wc (hI.1 hL)
                    go_simp
                    exact hK _ _ (.inr rfl) hI
                  · intro L Ac Wc K hI hj hcl hsm dep hK
                    have t77 : Ac.tmps.getD 77 undef = .pointer (some ⟨p.m + 1, 0, none⟩) := dep 7 rfl
                    have t80 : Ac.tmps.getD 80 undef = .pointer (some ⟨p.q, 0, none⟩) := dep 10 rfl
                    have t84 : Ac.tmps.getD 84 undef = .agg #[.int .i64 kd, .int .i64 at', .string s, .int .u64 (nn : Int), .slice ao2 Bs.length cap2] := dep 14 rfl
                    refine ⟨true, (show Ac.tmps.getD 74 undef = .bool true from dep 4 rfl), ?_⟩
                    rw [if_pos rfl]
                    go_simp
                    refine (HPl.out Wc (hI.1 hj)).mono ?_
                    rintro e w' ⟨rfl, hPl⟩
                    exact hK _ _ (.inr rfl) ⟨(fun h => by cases h), fun _ => hPl⟩
                  · intro L Ac Wc K hI hj hcl hsm dep hK
                    have t85 : Ac.tmps.getD 85 undef = .bool true := dep 15 rfl
                    refine ⟨true, (show Ac.tmps.getD 74 undef = .bool true from dep 4 rfl), ?_⟩
                    rw [if_pos rfl]
                    go_simp
                    exact hK _ _ (.inr rfl) hI
                  · intro L Ac Wc K hI hj hcl hsm dep hK
                    have t74 : Ac.tmps.getD 74 undef = .bool true := dep 4 rfl
                    have t86 : Ac.tmps.getD 86 undef = .bool false := dep 16 rfl
                    show Oper.wp _ _ Ac Wc K _
                    go_simp
                    exact hK _ _ (.inr rfl) hI
                case fin =>
                  intro L w5 hall hI
                  have HX := hide (hI.2 (hall 15 (by decide)))
                  clear hI hall HPl HN HFv
                  simp only [puts]
                  go_simp
                  go_wp2
                  go_roundg (80 - (j + 1))
                  case rel =>
                    go_light
                    exact ⟨j + 1, by have := HJ.out; omega, by have := HJ.out; omega, rfl, by have := HJ.out; go_num, HX.out⟩
                  case measure => go_light; have := HJ.out; omega
            · rcases P1 with _ | p
              · have HX : Hid (∀ W, Below wr.heap.size wr W → ∃ P0 P1, Ms w0 W F (F + 1) P0 P1) := fun W hb => ⟨_, _, HN.out W hb⟩
                clear HN cf0 cr0
                go_upto_region 18 with (fail)
                simp only [fP, rP] at cf1 cr1
                go_region
                go_wp2
                go_roundg (80 - (j + 1))
                case rel =>
                  go_light
                  exact ⟨j + 1, by have := HJ.out; omega, by have := HJ.out; omega, rfl, by have := HJ.out; go_num, HX.out _ (Cv.below_drewN (Below.refl _ _) _)⟩
                case measure => go_light; have := HJ.out; omega
              · have HPl : Hid (∀ W, Below wr.heap.size wr W → Calls Tryd.prog 29 #[.pointer (some ⟨p.m + 1, 0, none⟩), .pointer (some ⟨p.q, 0, none⟩), .agg #[.int .i64 kd, .int .i64 at', .string s, .int .u64 (nn : Int), .slice ao2 Bs.length cap2]] W fun e w' => e = .returned (.bool true) ∧ ∃ P0 P1, Ms w0 w' F (F + 1) P0 P1) := fun W hb => by
                  have hW := HN.out W hb
                  refine (plays_any w0 W HT.out.1 HT.out.2.1 hW.bl p.m p.q p.K p.L p.gA p.cA p.vs hW.p1 kd at' s nn ao2 g2 off2 cap2 Bs HOk.out).mono ?_
                  rintro e w' ⟨rfl, L', gA', cA', vs', hs⟩
                  exact ⟨rfl, _, _, hW.play1 hs⟩
                clear HOk cf0 cr0 cf1 cr1 e0 e1 e2 e3 e4 hd
                go_upto_region 18 with (fail)
                refine wp_region_planI (by kernel_rfl) [70, 71, 72, 73, 74, 75, 76, 77, 78, 79, 80, 81, 82, 83, 84, 85, 86, 87] [] [.int .i64 1, .pointer (some ⟨F + 1, 1, none⟩), .pointer (some ⟨p.q, 0, none⟩), .bool true, .bool true, .int .i64 1, .pointer (some ⟨F, 1, none⟩), .pointer (some ⟨p.m + 1, 0, none⟩), .int .i64 1, .pointer (some ⟨F + 1, 1, none⟩), .pointer (some ⟨p.q, 0, none⟩), .slice (some ⟨b, off, none⟩) n c, .int .i64 (j : Int), .pointer (some ⟨b, off + j * 5, none⟩), .agg #[.int .i64 kd, .int .i64 at', .string s, .int .u64 (nn : Int), .slice ao2 Bs.length cap2], .bool true, .bool false, .bool false] (by kernel_rfl) rfl (fun j hj => by cases hj) (fun L W => (L 15 = false → Below wr.heap.size wr W) ∧ (L 15 = true → ∃ P0 P1, Ms w0 W F (F + 1) P0 P1)) (fun W _ hb => ⟨fun _ => hb, fun h => by cases h⟩) ?step ?fin
                case step =>
                  refine ⟨?_, ?_, ?_, ?_, ?_, ?_, ?_, ?_, ?_, ?_, ?_, ?_, ?_, ?_, ?_, ?_, ?_, ?_, trivial⟩
                  · intro L Ac Wc K hI hj hcl hsm dep hK
                    have t13 : Ac.tmps.getD 13 undef = .int .i64 1 := hsm 13 rfl
                    show Oper.wp _ _ Ac Wc K _
                    go_simp
                    exact hK _ _ (.inr rfl) hI
                  · intro L Ac Wc K hI hj hcl hsm dep hK
                    have t6 : Ac.tmps.getD 6 undef = .pointer (some ⟨F + 1, 0, none⟩) := hsm 6 rfl
                    have t70 : Ac.tmps.getD 70 undef = .int .i64 1 := dep 0 rfl
                    show Oper.wp _ _ Ac Wc K _
                    go_simp
                    exact hK _ _ (.inr rfl) hI
                  · intro L Ac Wc K hI hj hcl hsm dep hK
                    have t71 : Ac.tmps.getD 71 undef = .pointer (some ⟨F + 1, 1, none⟩) := dep 1 rfl
                    show Oper.wp _ _ Ac Wc K _
                    have hL : L 15 = false := by
                      cases h : L 15 with
                      | false => rfl
                      | true => rw [hcl 3 2 (hcl 4 3 (hcl 15 4 h rfl) rfl) rfl] at hj; cases hj
                    have c0 : Wc.cell? ⟨F + 1, 1, none⟩ = some (.pointer (some ⟨p.q, 0, none⟩)) := (HN.out Wc (hI.1 hL)).cells.2.2.1
                    go_simp
                    exact hK _ _ (.inr rfl) hI
                  · intro L Ac Wc K hI hj hcl hsm dep hK
                    have t72 : Ac.tmps.getD 72 undef = .pointer (some ⟨p.q, 0, none⟩) := dep 2 rfl
                    show Oper.wp _ _ Ac Wc K _
                    go_simp
                    exact hK _ _ (.inr rfl) hI
                  · intro L Ac Wc K hI hj hcl hsm dep hK
                    have t73 : Ac.tmps.getD 73 undef = .bool true := dep 3 rfl
                    show Oper.wp _ _ Ac Wc K _
                    go_simp
                    exact hK _ _ (.inr rfl) hI
                  · intro L Ac Wc K hI hj hcl hsm dep hK
                    have t13 : Ac.tmps.getD 13 undef = .int .i64 1 := hsm 13 rfl
                    refine ⟨true, (show Ac.tmps.getD 74 undef = .bool true from dep 4 rfl), ?_⟩
                    rw [if_pos rfl]
                    go_simp
                    exact hK _ _ (.inr rfl) hI
                  · intro L Ac Wc K hI hj hcl hsm dep hK
                    have t5 : Ac.tmps.getD 5 undef = .pointer (some ⟨F, 0, none⟩) := hsm 5 rfl
                    have t75 : Ac.tmps.getD 75 undef = .int .i64 1 := dep 5 rfl
                    refine ⟨true, (show Ac.tmps.getD 74 undef = .bool true from dep 4 rfl), ?_⟩
                    rw [if_pos rfl]
                    go_simp
                    exact hK _ _ (.inr rfl) hI
                  · intro L Ac Wc K hI hj hcl hsm dep hK
                    have t76 : Ac.tmps.getD 76 undef = .pointer (some ⟨F, 1, none⟩) := dep 6 rfl
                    refine ⟨true, (show Ac.tmps.getD 74 undef = .bool true from dep 4 rfl), ?_⟩
                    rw [if_pos rfl]
                    have hL : L 15 = false := by
                      cases h : L 15 with
                      | false => rfl
                      | true => rw [hcl 15 7 h rfl] at hj; cases hj
                    have c0 : Wc.cell? ⟨F, 1, none⟩ = some (.pointer (some ⟨p.m + 1, 0, none⟩)) := (HN.out Wc (hI.1 hL)).cells.1.2.1
                    go_simp
                    exact hK _ _ (.inr rfl) hI
                  · intro L Ac Wc K hI hj hcl hsm dep hK
                    have t13 : Ac.tmps.getD 13 undef = .int .i64 1 := hsm 13 rfl
                    refine ⟨true, (show Ac.tmps.getD 74 undef = .bool true from dep 4 rfl), ?_⟩
                    rw [if_pos rfl]
                    go_simp
                    exact hK _ _ (.inr rfl) hI
                  · intro L Ac Wc K hI hj hcl hsm dep hK
                    have t6 : Ac.tmps.getD 6 undef = .pointer (some ⟨F + 1, 0, none⟩) := hsm 6 rfl
                    have t78 : Ac.tmps.getD 78 undef = .int .i64 1 := dep 8 rfl
                    refine ⟨true, (show Ac.tmps.getD 74 undef = .bool true from dep 4 rfl), ?_⟩
                    rw [if_pos rfl]
                    go_simp
                    exact hK _ _ (.inr rfl) hI
                  · intro L Ac Wc K hI hj hcl hsm dep hK
                    have t79 : Ac.tmps.getD 79 undef = .pointer (some ⟨F + 1, 1, none⟩) := dep 9 rfl
                    refine ⟨true, (show Ac.tmps.getD 74 undef = .bool true from dep 4 rfl), ?_⟩
                    rw [if_pos rfl]
                    have hL : L 15 = false := by
                      cases h : L 15 with
                      | false => rfl
                      | true => rw [hcl 15 10 h rfl] at hj; cases hj
                    have c0 : Wc.cell? ⟨F + 1, 1, none⟩ = some (.pointer (some ⟨p.q, 0, none⟩)) := (HN.out Wc (hI.1 hL)).cells.2.2.1
                    go_simp
                    exact hK _ _ (.inr rfl) hI
                  · intro L Ac Wc K hI hj hcl hsm dep hK
                    have t1 : Ac.tmps.getD 1 undef = .slice (some ⟨b, off, none⟩) n c := hsm 1 rfl
                    refine ⟨true, (show Ac.tmps.getD 74 undef = .bool true from dep 4 rfl), ?_⟩
                    rw [if_pos rfl]
                    go_simp
                    exact hK _ _ (.inr rfl) hI
                  · intro L Ac Wc K hI hj hcl hsm dep hK
                    have t12 : Ac.tmps.getD 12 undef = .int .i64 (j : Int) := hsm 12 rfl
                    refine ⟨true, (show Ac.tmps.getD 74 undef = .bool true from dep 4 rfl), ?_⟩
                    rw [if_pos rfl]
                    go_simp
                    exact hK _ _ (.inr rfl) hI
                  · intro L Ac Wc K hI hj hcl hsm dep hK
                    have t81 : Ac.tmps.getD 81 undef = .slice (some ⟨b, off, none⟩) n c := dep 11 rfl
                    have t82 : Ac.tmps.getD 82 undef = .int .i64 (j : Int) := dep 12 rfl
                    refine ⟨true, (show Ac.tmps.getD 74 undef = .bool true from dep 4 rfl), ?_⟩
                    rw [if_pos rfl]
                    go_simp
                    exact hK _ _ (.inr rfl) hI
                  · intro L Ac Wc K hI hj hcl hsm dep hK
                    have t83 : Ac.tmps.getD 83 undef = .pointer (some ⟨b, off + j * 5, none⟩) := dep 13 rfl
                    refine ⟨true, (show Ac.tmps.getD 74 undef = .bool true from dep 4 rfl), ?_⟩
                    rw [if_pos rfl]
                    have hL : L 15 = false := by
                      cases h : L 15 with
                      | false => rfl
                      | true => rw [hcl 15 14 h rfl] at hj; cases hj
                    obtain ⟨g0, g1, g2', g3, g4⟩ := HFv.out Wc (hI.1 hL)
                    go_simp
                    exact hK _ _ (.inr rfl) hI
                  · intro L Ac Wc K hI hj hcl hsm dep hK
                    have t77 : Ac.tmps.getD 77 undef = .pointer (some ⟨p.m + 1, 0, none⟩) := dep 7 rfl
                    have t80 : Ac.tmps.getD 80 undef = .pointer (some ⟨p.q, 0, none⟩) := dep 10 rfl
                    have t84 : Ac.tmps.getD 84 undef = .agg #[.int .i64 kd, .int .i64 at', .string s, .int .u64 (nn : Int), .slice ao2 Bs.length cap2] := dep 14 rfl
                    refine ⟨true, (show Ac.tmps.getD 74 undef = .bool true from dep 4 rfl), ?_⟩
                    rw [if_pos rfl]
                    go_simp
                    refine (HPl.out Wc (hI.1 hj)).mono ?_
                    rintro e w' ⟨rfl, hPl⟩
                    exact hK _ _ (.inr rfl) ⟨(fun h => by cases h), fun _ => hPl⟩
                  · intro L Ac Wc K hI hj hcl hsm dep hK
                    have t85 : Ac.tmps.getD 85 undef = .bool true := dep 15 rfl
                    refine ⟨true, (show Ac.tmps.getD 74 undef = .bool true from dep 4 rfl), ?_⟩
                    rw [if_pos rfl]
                    go_simp
                    exact hK _ _ (.inr rfl) hI
                  · intro L Ac Wc K hI hj hcl hsm dep hK
                    have t74 : Ac.tmps.getD 74 undef = .bool true := dep 4 rfl
                    have t86 : Ac.tmps.getD 86 undef = .bool false := dep 16 rfl
                    show Oper.wp _ _ Ac Wc K _
                    go_simp
                    exact hK _ _ (.inr rfl) hI
                case fin =>
                  intro L w5 hall hI
                  have HX := hide (hI.2 (hall 15 (by decide)))
                  clear hI hall HPl HN HFv
                  simp only [puts]
                  go_simp
                  go_wp2
                  go_roundg (80 - (j + 1))
                  case rel =>
                    go_light
                    exact ⟨j + 1, by have := HJ.out; omega, by have := HJ.out; omega, rfl, by have := HJ.out; go_num, HX.out⟩
                  case measure => go_light; have := HJ.out; omega
          · have z2 : ¬ ((j : Int) < 80) := by omega
            obtain ⟨P0, P1, hM⟩ := HM.out
            have HE := hide (bnext HT.out.2.2 hM.bl)
            clear hM HM h1 h2
            go_wp2
            go_ret
            first | exact ⟨rfl, HE.out⟩ | exact HE.out
        · have z1 : ¬ ((j : Int) < (n : Int)) := by omega
          obtain ⟨P0, P1, hM⟩ := HM.out
          have HE := hide (bnext HT.out.2.2 hM.bl)
          clear hM HM h1
          go_wp2
          go_ret
          first | exact ⟨rfl, HE.out⟩ | exact HE.out
end Go.Proofs.YtabdobdopcfllaaDoor
