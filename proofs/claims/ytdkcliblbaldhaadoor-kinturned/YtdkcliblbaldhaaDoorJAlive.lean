/-
  The statements' own functions: alive. Own work.
-/
import Derived.Test.YtdkcliblbaldhaaDoorJComp
import Derived.Test.YtdkcliblbaldhaaDoorPlan2
import Derived.Laws.StructEq
namespace Go.Proofs.YtdkcliblbaldhaaDoor
open Go.RowKit
open Cv (RdC zl cU cov)
attribute [local go_sem ↓] Go.wp_at_zero Go.wp_at_succ
abbrev fa : ByteArray := ⟨#[97]⟩
abbrev fb : ByteArray := ⟨#[98]⟩
abbrev fc : ByteArray := ⟨#[99]⟩
set_option maxRecDepth 100000 in
set_option maxHeartbeats 4000000 in
theorem alive_any (w : World) (ht : Tb w) : Calls Tryd.prog 8 #[] w fun e w' => e = .returned (.bool true) ∧ Below w.heap.size w w' := by
  have small : ∀ s ∈ [fa, fb, fc], s.size ≤ 1 := fun s hs => by
    simp only [List.mem_cons, List.mem_nil_iff, or_false] at hs
    rcases hs with rfl | rfl | rfl <;> decide
  have hb0 := bal (Below.refl w.heap.size w) (.cells #[.string fa, .string fb, .string fc] 9)
  have rd0 : RdS (w.alloc (.cells #[.string fa, .string fb, .string fc] 9)) (some ⟨w.heap.size, 0, none⟩) w.heap.size 0 3 [fa, fb, fc] := ⟨rfl, fun _ => rfl, range_new w [.string fa, .string fb, .string fc] 9, fun s hs => by have := small s hs; omega⟩
  have HGr := grown_any _ (ht.next hb0) 32 (by decide) (by decide) _ _ _ 3 3 [fa, fb, fc] rd0 (by decide) (fun s hs => by have := small s hs; omega)
  rw [World.size_alloc] at HGr
  obtain ⟨la, hla⟩ : ∃ x, dg (clk 32) (leafT fa) = x := ⟨_, rfl⟩
  obtain ⟨lb, hlb⟩ : ∃ x, dg (clk 32) (leafT fb) = x := ⟨_, rfl⟩
  obtain ⟨lc, hlc⟩ : ∃ x, dg (clk 32) (leafT fc) = x := ⟨_, rfl⟩
  obtain ⟨nab, hnab⟩ : ∃ x, dg (clk 32) (nodeT la lb) = x := ⟨_, rfl⟩
  have hD : dgKn (clk 32) [fa, fb, fc] 2 3 = [nab, lc] := by
    have e1 : kb 2 3 = [(1, 0), (0, 2)] := by decide
    rw [dgKn, e1]
    show [nd (clk 32) [fa, fb, fc] 1 0, nd (clk 32) [fa, fb, fc] 0 2] = _
    rw [← hlc, ← hnab, ← hla, ← hlb, nd, nd, nd, nd]
    rfl
  obtain ⟨r2, hr2⟩ : ∃ x, rtD (clk 32) [fa, fb, fc] 2 = x := ⟨_, rfl⟩
  obtain ⟨r3, hr3⟩ : ∃ x, rtD (clk 32) [fa, fb, fc] 3 = x := ⟨_, rfl⟩
  have hz3 : r3.size = 32 := by rw [← hr3, rtD, dg_size (clk_le 32)]; rfl
  have HP1 : Hid (∀ W f, Frs W f 32 [fa, fb, fc] → Calls Tryd.prog 12 #[.pointer (some ⟨f + 1, 0, none⟩), .int .u64 2, .int .u64 3] W fun e w' => ∃ bd cd, e = .returned (.tuple #[.agg #[.int .i64 3, .int .i64 32, .int .u64 2, .int .u64 3, .slice none 0 0, .slice (some ⟨bd, 0, none⟩) 2 cd], .int .i64 0]) ∧ RdS w' (some ⟨bd, 0, none⟩) bd 0 2 [nab, lc] ∧ 2 ≤ cd ∧ Below W.heap.size W w') := fun W f hF =>
    (kprove_rd W f 32 _ hF (by decide) 2 3 (by decide) (by decide) [nab, lc] hD).mono fun e w' ⟨ad, bd, cd, h1, h2, h3, _, _, h4⟩ => by
      obtain rfl := h2.ptr (by simp)
      exact ⟨bd, cd, h1, h2, h3, h4⟩
  have HP2 : Hid (∀ W f, Frs W f 32 [fa, fb, fc] → Calls Tryd.prog 12 #[.pointer (some ⟨f + 1, 0, none⟩), .int .u64 3, .int .u64 2] W fun e w' => e = .returned (.tuple #[noP, .int .i64 41]) ∧ Below W.heap.size W w') := fun W f hF => kprove_order W f 32 _ hF 3 2 (by decide) (by decide)
  have HP3 : Hid (∀ W f, Frs W f 32 [fa, fb, fc] → Calls Tryd.prog 12 #[.pointer (some ⟨f + 1, 0, none⟩), .int .u64 2, .int .u64 4] W fun e w' => e = .returned (.tuple #[noP, .int .i64 30]) ∧ Below W.heap.size W w') := fun W f hF => kprove_size W f 32 _ hF 2 4 (by decide)
  have HR1 : Hid (∀ W bd cd, Tb W → RdS W (some ⟨bd, 0, none⟩) bd 0 2 [nab, lc] → 2 ≤ cd → Calls Tryd.prog 13 #[.agg #[.int .i64 3, .int .i64 32, .int .u64 2, .int .u64 3, .slice none 0 0, .slice (some ⟨bd, 0, none⟩) 2 cd]] W fun e w' => e = .returned (.tuple #[.agg #[.int .u64 2, .string r2], .agg #[.int .u64 3, .string r3], .int .i64 0]) ∧ Below W.heap.size W w') := fun W bd cd hT hR hc => kroots_own W hT 32 (by decide) (by decide) [fa, fb, fc] (by decide) 2 3 (by decide) (by decide) [nab, lc] hD none 0 _ bd 0 cd hR hc r2 r3 hr2 hr3
  have HR2 : Hid (∀ W bd cd, RdS W (some ⟨bd, 0, none⟩) bd 0 2 [nab, lc] → Calls Tryd.prog 13 #[.agg #[.int .i64 3, .int .i64 32, .int .u64 2, .int .u64 3, .slice none 0 0, .slice (some ⟨bd, 0, none⟩) 1 cd]] W fun e w' => e = .returned (.tuple #[noR, noR, .int .i64 150]) ∧ Below W.heap.size W w') := fun W bd cd hR => by
    have hR1 : RdS W (some ⟨bd, 0, none⟩) bd 0 1 [nab] := rds_take (D := [nab, lc]) hR (H := 1) (by simp)
    exact kroots_no W 3 32 2 3 none 0 0 _ bd 0 cd [nab] hR1 (by simp) (fun h => by have := h.2.1; rw [show (kb 2 3).length = 2 by decide] at this; simp at this)
  have HF2 : Hid (∀ W f, Tb W → Frs W f 32 [fa, fb, fc] → Calls Tryd.prog 14 #[.pointer (some ⟨f + 1, 0, none⟩), .int .u64 2] W fun e w' => e = .returned (.tuple #[.agg #[.int .u64 2, .string r2], .int .i64 0]) ∧ Below W.heap.size W w') := fun W f hT hF => froot_ok W hT f 32 _ hF 2 (by decide) r2 (hide hr2)
  have HF3 : Hid (∀ W f, Tb W → Frs W f 32 [fa, fb, fc] → Calls Tryd.prog 14 #[.pointer (some ⟨f + 1, 0, none⟩), .int .u64 3] W fun e w' => e = .returned (.tuple #[.agg #[.int .u64 3, .string r3], .int .i64 0]) ∧ Below W.heap.size W w') := fun W f hT hF => froot_ok W hT f 32 _ hF 3 (by decide) r3 (hide hr3)
  have HLa : Hid (∀ W, Tb W → Calls Tryd.prog 28 #[.int .i64 32, .string ⟨#[97]⟩] W fun e w' => e = .returned (.string la) ∧ Below W.heap.size W w') := fun W hT => leaf_any W hT 32 fa (by decide) la hla
  have HLb : Hid (∀ W, Tb W → Calls Tryd.prog 28 #[.int .i64 32, .string ⟨#[98]⟩] W fun e w' => e = .returned (.string lb) ∧ Below W.heap.size W w') := fun W hT => leaf_any W hT 32 fb (by decide) lb hlb
  have HLc : Hid (∀ W, Tb W → Calls Tryd.prog 28 #[.int .i64 32, .string ⟨#[99]⟩] W fun e w' => e = .returned (.string lc) ∧ Below W.heap.size W w') := fun W hT => leaf_any W hT 32 fc (by decide) lc hlc
  have HNd : Hid (∀ W, Tb W → Calls Tryd.prog 29 #[.int .i64 32, .string la, .string lb] W fun e w' => e = .returned (.string nab) ∧ Below W.heap.size W w') := fun W hT => node_any W hT 32 la lb (by rw [← hla, dg_size (clk_le 32)]; decide) (by rw [← hlb, dg_size (clk_le 32)]; decide) nab hnab
  have HT : Hid (∀ W, Below w.heap.size w W → Tb W) := fun W hb => ht.next hb
  have hz3' : (r3.size : Int) = 32 := by omega
  clear ht rd0 hD hr2 hr3 small hla hlb hlc hnab hz3
  go_enter Tryd.func8, Tryd.ntmps8
  go_upto_region 4 with (go_at_call 11; with_reducible refine HGr.mono ?_; rintro e w1 ⟨rfl, hF1, hbw⟩)
  have hb1 : Below w.heap.size w w1 := bnext hb0 (by rw [World.size_alloc]; exact hbw)
  have HF1 : Hid (∀ W, Below w1.heap.size w1 W → Frs W (w.heap.size + 1) 32 [fa, fb, fc] ∧ Tb W ∧ Below w.heap.size w W) := fun W hb => ⟨hF1.next hb (Nat.le_refl _), HT.out W (bnext hb1 hb), bnext hb1 hb⟩
  clear hF1 hbw hb0 HGr hb1
  have hbr := Below.refl w1.heap.size w1
  go_upto_region 5 with (go_at_call 12; with_reducible refine (HP1.out _ _ (HF1.out _ hbr).1).mono ?_; rintro e w2 ⟨bd, cd, rfl, hR, hcd, hb2⟩)
  have x2 := six_new w2 (.int .i64 3) (.int .i64 32) (.int .u64 2) (.int .u64 3) (.slice none 0 0) (.slice (some ⟨bd, 0, none⟩) 2 cd)
  have hb3 := bal hb2 (.cells #[.int .i64 3, .int .i64 32, .int .u64 2, .int .u64 3, .slice none 0 0, .slice (some ⟨bd, 0, none⟩) 2 cd] 32)
  have hR3 := hR.next (bal (Below.refl w2.heap.size w2) (.cells #[.int .i64 3, .int .i64 32, .int .u64 2, .int .u64 3, .slice none 0 0, .slice (some ⟨bd, 0, none⟩) 2 cd] 32)) (Nat.le_refl _)
  obtain ⟨w3, hw3⟩ : ∃ w3, w2.alloc (.cells #[.int .i64 3, .int .i64 32, .int .u64 2, .int .u64 3, .slice none 0 0, .slice (some ⟨bd, 0, none⟩) 2 cd] 32) = w3 := ⟨_, rfl⟩
  rw [hw3] at x2 hb3 hR3 ⊢
  clear hw3
  have hq2 : w.heap.size ≤ w2.heap.size := (HF1.out w2 hb2).2.2.size
  generalize w2.heap.size = q2 at *
  have HQ2 := hide hq2
  clear hq2
  have HS3 : Hid (∀ W, Below w3.heap.size w3 W → Frs W (w.heap.size + 1) 32 [fa, fb, fc] ∧ Tb W ∧ Below w.heap.size w W ∧ Six W q2 (.int .i64 3) (.int .i64 32) (.int .u64 2) (.int .u64 3) (.slice none 0 0) (.slice (some ⟨bd, 0, none⟩) 2 cd) ∧ RdS W (some ⟨bd, 0, none⟩) bd 0 2 [nab, lc]) := fun W hb => by
    obtain ⟨y1, y2, y3⟩ := HF1.out W (bnext hb3 hb)
    exact ⟨y1, y2, y3, x2.next hb, hR3.next hb (Nat.le_refl _)⟩
  have hbs := Below.refl w3.heap.size w3
  clear HF1 hbr hR hb2 x2 hb3 hR3 HP1
  go_upto_region 7 with (first
    | (go_at_call 12; with_reducible refine (HP2.out _ _ (HS3.out _ hbs).1).mono ?_; rintro e w4 ⟨rfl, hb4⟩)
    | (go_at_call 12; with_reducible refine (HP3.out _ _ (HS3.out _ (bal hb4 _)).1).mono ?_; rintro e w5 ⟨rfl, hb5⟩))
  have hb6 := bal (bnext (bal hb4 (.cells #[.int .i64 0, .int .i64 0, .int .u64 0, .int .u64 0, .slice none 0 0, .slice none 0 0] 32)) hb5) (.cells #[.int .i64 0, .int .i64 0, .int .u64 0, .int .u64 0, .slice none 0 0, .slice none 0 0] 32)
  obtain ⟨w6, hw6⟩ : ∃ w6, w5.alloc (.cells #[.int .i64 0, .int .i64 0, .int .u64 0, .int .u64 0, .slice none 0 0, .slice none 0 0] 32) = w6 := ⟨_, rfl⟩
  rw [hw6] at hb6 ⊢
  have HS : Hid (∀ W, Below w6.heap.size w6 W → Frs W (w.heap.size + 1) 32 [fa, fb, fc] ∧ Tb W ∧ Below w.heap.size w W ∧ Six W q2 (.int .i64 3) (.int .i64 32) (.int .u64 2) (.int .u64 3) (.slice none 0 0) (.slice (some ⟨bd, 0, none⟩) 2 cd) ∧ RdS W (some ⟨bd, 0, none⟩) bd 0 2 [nab, lc]) := fun W hb => HS3.out W (bnext hb6 hb)
  clear hw6 hb6 hb4 hb5 hbs HS3 HP2 HP3
  refine wp_region_planI (by kernel_rfl) [37, 38, 39, 40, 41, 42, 43, 44, 45, 46, 47, 48, 49, 50, 51, 52, 53, 54, 55, 56, 57, 58, 59, 60, 61, 62, 63, 64, 65, 66, 67, 68, 69, 70, 71, 72, 73, 74, 75, 76, 77, 78, 79, 80, 81, 82, 83, 84, 85, 86, 87, 88] [] [.int .i64 0, .int .i64 0, .bool false, .bool false, .int .i64 41, .int .i64 41, .bool false, .bool false, .bool false, .int .i64 30, .int .i64 30, .bool false, .bool false, .bool false, .pointer (some ⟨q2, 5, none⟩), .slice (some ⟨bd, 0, none⟩) 2 cd, .int .i64 2, .bool false, .bool false, .bool false, .pointer (some ⟨q2, 0, none⟩), .int .i64 3, .bool false, .bool false, .bool false, .pointer (some ⟨q2, 2, none⟩), .int .u64 2, .bool false, .bool false, .bool false, .pointer (some ⟨q2, 3, none⟩), .int .u64 3, .bool false, .bool false, .bool false, .pointer (some ⟨q2, 5, none⟩), .slice (some ⟨bd, 0, none⟩) 2 cd, .pointer (some ⟨bd, 1, none⟩), .string lc, .string lc, .bool false, .bool false, .bool false, .pointer (some ⟨q2, 5, none⟩), .slice (some ⟨bd, 0, none⟩) 2 cd, .pointer (some ⟨bd, 0, none⟩), .string nab, .string la, .string lb, .string nab, .bool false, .bool false] (by kernel_rfl) rfl (fun j hj => by cases hj) (fun _ W => Below w6.heap.size w6 W) (fun W _ hb => hb) ?step ?fin
  case step =>
    refine ⟨?_, ?_, ?_, ?_, ?_, ?_, ?_, ?_, ?_, ?_, ?_, ?_, ?_, ?_, ?_, ?_, ?_, ?_, ?_, ?_, ?_, ?_, ?_, ?_, ?_, ?_, ?_, ?_, ?_, ?_, ?_, ?_, ?_, ?_, ?_, ?_, ?_, ?_, ?_, ?_, ?_, ?_, ?_, ?_, ?_, ?_, ?_, ?_, ?_, ?_, ?_, ?_, trivial⟩
    · intro L Ac Wc K hI hj hcl hsm dep hK
      have t3 : Ac.tmps.getD 3 undef = .int .i64 0 := hsm 3 rfl
      show Oper.wp _ _ Ac Wc K _
      go_simp
      exact hK _ _ (.inr rfl) hI
    · intro L Ac Wc K hI hj hcl hsm dep hK
      have t37 : Ac.tmps.getD 37 undef = .int .i64 0 := dep 0 rfl
      show Oper.wp _ _ Ac Wc K _
      go_simp
      refine (num_id _ _).mono ?_
      rintro e w' ⟨rfl, rfl⟩
      exact hK _ _ (.inr rfl) hI
    · intro L Ac Wc K hI hj hcl hsm dep hK
      have t38 : Ac.tmps.getD 38 undef = .int .i64 0 := dep 1 rfl
      show Oper.wp _ _ Ac Wc K _
      go_simp
      exact hK _ _ (.inr rfl) hI
    · intro L Ac Wc K hI hj hcl hsm dep hK
      have t39 : Ac.tmps.getD 39 undef = .bool false := dep 2 rfl
      show Oper.wp _ _ Ac Wc K _
      go_simp
      exact hK _ _ (.inr rfl) hI
    · intro L Ac Wc K hI hj hcl hsm dep hK
      have t5 : Ac.tmps.getD 5 undef = .int .i64 41 := hsm 5 rfl
      refine ⟨false, (show Ac.tmps.getD 40 undef = .bool false from dep 3 rfl), ?_⟩
      rw [if_pos rfl]
      go_simp
      exact hK _ _ (.inr rfl) hI
    · intro L Ac Wc K hI hj hcl hsm dep hK
      have t41 : Ac.tmps.getD 41 undef = .int .i64 41 := dep 4 rfl
      refine ⟨false, (show Ac.tmps.getD 40 undef = .bool false from dep 3 rfl), ?_⟩
      rw [if_pos rfl]
      go_simp
      refine (num_id _ _).mono ?_
      rintro e w' ⟨rfl, rfl⟩
      exact hK _ _ (.inr rfl) hI
    · intro L Ac Wc K hI hj hcl hsm dep hK
      have t42 : Ac.tmps.getD 42 undef = .int .i64 41 := dep 5 rfl
      refine ⟨false, (show Ac.tmps.getD 40 undef = .bool false from dep 3 rfl), ?_⟩
      rw [if_pos rfl]
      go_simp
      exact hK _ _ (.inr rfl) hI
    · intro L Ac Wc K hI hj hcl hsm dep hK
      have t40 : Ac.tmps.getD 40 undef = .bool false := dep 3 rfl
      have t43 : Ac.tmps.getD 43 undef = .bool false := dep 6 rfl
      show Oper.wp _ _ Ac Wc K _
      go_simp
      exact hK _ _ (.inr rfl) hI
    · intro L Ac Wc K hI hj hcl hsm dep hK
      have t44 : Ac.tmps.getD 44 undef = .bool false := dep 7 rfl
      show Oper.wp _ _ Ac Wc K _
      go_simp
      exact hK _ _ (.inr rfl) hI
    · intro L Ac Wc K hI hj hcl hsm dep hK
      have t7 : Ac.tmps.getD 7 undef = .int .i64 30 := hsm 7 rfl
      refine ⟨false, (show Ac.tmps.getD 45 undef = .bool false from dep 8 rfl), ?_⟩
      rw [if_pos rfl]
      go_simp
      exact hK _ _ (.inr rfl) hI
    · intro L Ac Wc K hI hj hcl hsm dep hK
      have t46 : Ac.tmps.getD 46 undef = .int .i64 30 := dep 9 rfl
      refine ⟨false, (show Ac.tmps.getD 45 undef = .bool false from dep 8 rfl), ?_⟩
      rw [if_pos rfl]
      go_simp
      refine (num_id _ _).mono ?_
      rintro e w' ⟨rfl, rfl⟩
      exact hK _ _ (.inr rfl) hI
    · intro L Ac Wc K hI hj hcl hsm dep hK
      have t47 : Ac.tmps.getD 47 undef = .int .i64 30 := dep 10 rfl
      refine ⟨false, (show Ac.tmps.getD 45 undef = .bool false from dep 8 rfl), ?_⟩
      rw [if_pos rfl]
      go_simp
      exact hK _ _ (.inr rfl) hI
    · intro L Ac Wc K hI hj hcl hsm dep hK
      have t45 : Ac.tmps.getD 45 undef = .bool false := dep 8 rfl
      have t48 : Ac.tmps.getD 48 undef = .bool false := dep 11 rfl
      show Oper.wp _ _ Ac Wc K _
      go_simp
      exact hK _ _ (.inr rfl) hI
    · intro L Ac Wc K hI hj hcl hsm dep hK
      have t49 : Ac.tmps.getD 49 undef = .bool false := dep 12 rfl
      show Oper.wp _ _ Ac Wc K _
      go_simp
      exact hK _ _ (.inr rfl) hI
    · intro L Ac Wc K hI hj hcl hsm dep hK
      have t2 : Ac.tmps.getD 2 undef = .pointer (some ⟨q2, 0, none⟩) := hsm 2 rfl
      refine ⟨false, (show Ac.tmps.getD 50 undef = .bool false from dep 13 rfl), ?_⟩
      rw [if_pos rfl]
      go_simp
      exact hK _ _ (.inr rfl) hI
    · intro L Ac Wc K hI hj hcl hsm dep hK
      have t51 : Ac.tmps.getD 51 undef = .pointer (some ⟨q2, 5, none⟩) := dep 14 rfl
      refine ⟨false, (show Ac.tmps.getD 50 undef = .bool false from dep 13 rfl), ?_⟩
      rw [if_pos rfl]
      obtain ⟨y1, y2, y3, y4, y5⟩ := HS.out Wc hI
      obtain ⟨p0, p1, p2, p3, p4, p5⟩ := y4.cells
      go_simp
      exact hK _ _ (.inr rfl) hI
    · intro L Ac Wc K hI hj hcl hsm dep hK
      have t52 : Ac.tmps.getD 52 undef = .slice (some ⟨bd, 0, none⟩) 2 cd := dep 15 rfl
      refine ⟨false, (show Ac.tmps.getD 50 undef = .bool false from dep 13 rfl), ?_⟩
      rw [if_pos rfl]
      go_simp
      exact hK _ _ (.inr rfl) hI
    · intro L Ac Wc K hI hj hcl hsm dep hK
      have t53 : Ac.tmps.getD 53 undef = .int .i64 2 := dep 16 rfl
      refine ⟨false, (show Ac.tmps.getD 50 undef = .bool false from dep 13 rfl), ?_⟩
      rw [if_pos rfl]
      go_simp
      exact hK _ _ (.inr rfl) hI
    · intro L Ac Wc K hI hj hcl hsm dep hK
      have t50 : Ac.tmps.getD 50 undef = .bool false := dep 13 rfl
      have t54 : Ac.tmps.getD 54 undef = .bool false := dep 17 rfl
      show Oper.wp _ _ Ac Wc K _
      go_simp
      exact hK _ _ (.inr rfl) hI
    · intro L Ac Wc K hI hj hcl hsm dep hK
      have t55 : Ac.tmps.getD 55 undef = .bool false := dep 18 rfl
      show Oper.wp _ _ Ac Wc K _
      go_simp
      exact hK _ _ (.inr rfl) hI
    · intro L Ac Wc K hI hj hcl hsm dep hK
      have t2 : Ac.tmps.getD 2 undef = .pointer (some ⟨q2, 0, none⟩) := hsm 2 rfl
      refine ⟨false, (show Ac.tmps.getD 56 undef = .bool false from dep 19 rfl), ?_⟩
      rw [if_pos rfl]
      go_simp
      exact hK _ _ (.inr rfl) hI
    · intro L Ac Wc K hI hj hcl hsm dep hK
      have t57 : Ac.tmps.getD 57 undef = .pointer (some ⟨q2, 0, none⟩) := dep 20 rfl
      refine ⟨false, (show Ac.tmps.getD 56 undef = .bool false from dep 19 rfl), ?_⟩
      rw [if_pos rfl]
      obtain ⟨y1, y2, y3, y4, y5⟩ := HS.out Wc hI
      obtain ⟨p0, p1, p2, p3, p4, p5⟩ := y4.cells
      go_simp
      exact hK _ _ (.inr rfl) hI
    · intro L Ac Wc K hI hj hcl hsm dep hK
      have t58 : Ac.tmps.getD 58 undef = .int .i64 3 := dep 21 rfl
      refine ⟨false, (show Ac.tmps.getD 56 undef = .bool false from dep 19 rfl), ?_⟩
      rw [if_pos rfl]
      go_simp
      exact hK _ _ (.inr rfl) hI
    · intro L Ac Wc K hI hj hcl hsm dep hK
      have t56 : Ac.tmps.getD 56 undef = .bool false := dep 19 rfl
      have t59 : Ac.tmps.getD 59 undef = .bool false := dep 22 rfl
      show Oper.wp _ _ Ac Wc K _
      go_simp
      exact hK _ _ (.inr rfl) hI
    · intro L Ac Wc K hI hj hcl hsm dep hK
      have t60 : Ac.tmps.getD 60 undef = .bool false := dep 23 rfl
      show Oper.wp _ _ Ac Wc K _
      go_simp
      exact hK _ _ (.inr rfl) hI
    · intro L Ac Wc K hI hj hcl hsm dep hK
      have t2 : Ac.tmps.getD 2 undef = .pointer (some ⟨q2, 0, none⟩) := hsm 2 rfl
      refine ⟨false, (show Ac.tmps.getD 61 undef = .bool false from dep 24 rfl), ?_⟩
      rw [if_pos rfl]
      go_simp
      exact hK _ _ (.inr rfl) hI
    · intro L Ac Wc K hI hj hcl hsm dep hK
      have t62 : Ac.tmps.getD 62 undef = .pointer (some ⟨q2, 2, none⟩) := dep 25 rfl
      refine ⟨false, (show Ac.tmps.getD 61 undef = .bool false from dep 24 rfl), ?_⟩
      rw [if_pos rfl]
      obtain ⟨y1, y2, y3, y4, y5⟩ := HS.out Wc hI
      obtain ⟨p0, p1, p2, p3, p4, p5⟩ := y4.cells
      go_simp
      exact hK _ _ (.inr rfl) hI
    · intro L Ac Wc K hI hj hcl hsm dep hK
      have t63 : Ac.tmps.getD 63 undef = .int .u64 2 := dep 26 rfl
      refine ⟨false, (show Ac.tmps.getD 61 undef = .bool false from dep 24 rfl), ?_⟩
      rw [if_pos rfl]
      go_simp
      exact hK _ _ (.inr rfl) hI
    · intro L Ac Wc K hI hj hcl hsm dep hK
      have t61 : Ac.tmps.getD 61 undef = .bool false := dep 24 rfl
      have t64 : Ac.tmps.getD 64 undef = .bool false := dep 27 rfl
      show Oper.wp _ _ Ac Wc K _
      go_simp
      exact hK _ _ (.inr rfl) hI
    · intro L Ac Wc K hI hj hcl hsm dep hK
      have t65 : Ac.tmps.getD 65 undef = .bool false := dep 28 rfl
      show Oper.wp _ _ Ac Wc K _
      go_simp
      exact hK _ _ (.inr rfl) hI
    · intro L Ac Wc K hI hj hcl hsm dep hK
      have t2 : Ac.tmps.getD 2 undef = .pointer (some ⟨q2, 0, none⟩) := hsm 2 rfl
      refine ⟨false, (show Ac.tmps.getD 66 undef = .bool false from dep 29 rfl), ?_⟩
      rw [if_pos rfl]
      go_simp
      exact hK _ _ (.inr rfl) hI
    · intro L Ac Wc K hI hj hcl hsm dep hK
      have t67 : Ac.tmps.getD 67 undef = .pointer (some ⟨q2, 3, none⟩) := dep 30 rfl
      refine ⟨false, (show Ac.tmps.getD 66 undef = .bool false from dep 29 rfl), ?_⟩
      rw [if_pos rfl]
      obtain ⟨y1, y2, y3, y4, y5⟩ := HS.out Wc hI
      obtain ⟨p0, p1, p2, p3, p4, p5⟩ := y4.cells
      go_simp
      exact hK _ _ (.inr rfl) hI
    · intro L Ac Wc K hI hj hcl hsm dep hK
      have t68 : Ac.tmps.getD 68 undef = .int .u64 3 := dep 31 rfl
      refine ⟨false, (show Ac.tmps.getD 66 undef = .bool false from dep 29 rfl), ?_⟩
      rw [if_pos rfl]
      go_simp
      exact hK _ _ (.inr rfl) hI
    · intro L Ac Wc K hI hj hcl hsm dep hK
      have t66 : Ac.tmps.getD 66 undef = .bool false := dep 29 rfl
      have t69 : Ac.tmps.getD 69 undef = .bool false := dep 32 rfl
      show Oper.wp _ _ Ac Wc K _
      go_simp
      exact hK _ _ (.inr rfl) hI
    · intro L Ac Wc K hI hj hcl hsm dep hK
      have t70 : Ac.tmps.getD 70 undef = .bool false := dep 33 rfl
      show Oper.wp _ _ Ac Wc K _
      go_simp
      exact hK _ _ (.inr rfl) hI
    · intro L Ac Wc K hI hj hcl hsm dep hK
      have t2 : Ac.tmps.getD 2 undef = .pointer (some ⟨q2, 0, none⟩) := hsm 2 rfl
      refine ⟨false, (show Ac.tmps.getD 71 undef = .bool false from dep 34 rfl), ?_⟩
      rw [if_pos rfl]
      go_simp
      exact hK _ _ (.inr rfl) hI
    · intro L Ac Wc K hI hj hcl hsm dep hK
      have t72 : Ac.tmps.getD 72 undef = .pointer (some ⟨q2, 5, none⟩) := dep 35 rfl
      refine ⟨false, (show Ac.tmps.getD 71 undef = .bool false from dep 34 rfl), ?_⟩
      rw [if_pos rfl]
      obtain ⟨y1, y2, y3, y4, y5⟩ := HS.out Wc hI
      obtain ⟨p0, p1, p2, p3, p4, p5⟩ := y4.cells
      go_simp
      exact hK _ _ (.inr rfl) hI
    · intro L Ac Wc K hI hj hcl hsm dep hK
      have t73 : Ac.tmps.getD 73 undef = .slice (some ⟨bd, 0, none⟩) 2 cd := dep 36 rfl
      refine ⟨false, (show Ac.tmps.getD 71 undef = .bool false from dep 34 rfl), ?_⟩
      rw [if_pos rfl]
      go_simp
      exact hK _ _ (.inr rfl) hI
    · intro L Ac Wc K hI hj hcl hsm dep hK
      have t74 : Ac.tmps.getD 74 undef = .pointer (some ⟨bd, 1, none⟩) := dep 37 rfl
      refine ⟨false, (show Ac.tmps.getD 71 undef = .bool false from dep 34 rfl), ?_⟩
      rw [if_pos rfl]
      obtain ⟨y1, y2, y3, y4, y5⟩ := HS.out Wc hI
      obtain ⟨p0, p1, p2, p3, p4, p5⟩ := y4.cells
      have c := y5.at (k := 1) (by decide)
      go_simp
      exact hK _ _ (.inr rfl) hI
    · intro L Ac Wc K hI hj hcl hsm dep hK
      refine ⟨false, (show Ac.tmps.getD 71 undef = .bool false from dep 34 rfl), ?_⟩
      rw [if_pos rfl]
      go_simp
      refine (HLc.out Wc (HS.out Wc hI).2.1).mono ?_
      rintro e w' ⟨rfl, hb'⟩
      exact hK _ _ (.inr rfl) (bnext hI hb')
    · intro L Ac Wc K hI hj hcl hsm dep hK
      have t75 : Ac.tmps.getD 75 undef = .string lc := dep 38 rfl
      have t76 : Ac.tmps.getD 76 undef = .string lc := dep 39 rfl
      refine ⟨false, (show Ac.tmps.getD 71 undef = .bool false from dep 34 rfl), ?_⟩
      rw [if_pos rfl]
      go_simp
      exact hK _ _ (.inr rfl) hI
    · intro L Ac Wc K hI hj hcl hsm dep hK
      have t71 : Ac.tmps.getD 71 undef = .bool false := dep 34 rfl
      have t77 : Ac.tmps.getD 77 undef = .bool false := dep 40 rfl
      show Oper.wp _ _ Ac Wc K _
      go_simp
      exact hK _ _ (.inr rfl) hI
    · intro L Ac Wc K hI hj hcl hsm dep hK
      have t78 : Ac.tmps.getD 78 undef = .bool false := dep 41 rfl
      show Oper.wp _ _ Ac Wc K _
      go_simp
      exact hK _ _ (.inr rfl) hI
    · intro L Ac Wc K hI hj hcl hsm dep hK
      have t2 : Ac.tmps.getD 2 undef = .pointer (some ⟨q2, 0, none⟩) := hsm 2 rfl
      refine ⟨false, (show Ac.tmps.getD 79 undef = .bool false from dep 42 rfl), ?_⟩
      rw [if_pos rfl]
      go_simp
      exact hK _ _ (.inr rfl) hI
    · intro L Ac Wc K hI hj hcl hsm dep hK
      have t80 : Ac.tmps.getD 80 undef = .pointer (some ⟨q2, 5, none⟩) := dep 43 rfl
      refine ⟨false, (show Ac.tmps.getD 79 undef = .bool false from dep 42 rfl), ?_⟩
      rw [if_pos rfl]
      obtain ⟨y1, y2, y3, y4, y5⟩ := HS.out Wc hI
      obtain ⟨p0, p1, p2, p3, p4, p5⟩ := y4.cells
      go_simp
      exact hK _ _ (.inr rfl) hI
    · intro L Ac Wc K hI hj hcl hsm dep hK
      have t81 : Ac.tmps.getD 81 undef = .slice (some ⟨bd, 0, none⟩) 2 cd := dep 44 rfl
      refine ⟨false, (show Ac.tmps.getD 79 undef = .bool false from dep 42 rfl), ?_⟩
      rw [if_pos rfl]
      go_simp
      exact hK _ _ (.inr rfl) hI
    · intro L Ac Wc K hI hj hcl hsm dep hK
      have t82 : Ac.tmps.getD 82 undef = .pointer (some ⟨bd, 0, none⟩) := dep 45 rfl
      refine ⟨false, (show Ac.tmps.getD 79 undef = .bool false from dep 42 rfl), ?_⟩
      rw [if_pos rfl]
      obtain ⟨y1, y2, y3, y4, y5⟩ := HS.out Wc hI
      obtain ⟨p0, p1, p2, p3, p4, p5⟩ := y4.cells
      have c := y5.at (k := 0) (by decide)
      go_simp
      exact hK _ _ (.inr rfl) hI
    · intro L Ac Wc K hI hj hcl hsm dep hK
      refine ⟨false, (show Ac.tmps.getD 79 undef = .bool false from dep 42 rfl), ?_⟩
      rw [if_pos rfl]
      go_simp
      refine (HLa.out Wc (HS.out Wc hI).2.1).mono ?_
      rintro e w' ⟨rfl, hb'⟩
      exact hK _ _ (.inr rfl) (bnext hI hb')
    · intro L Ac Wc K hI hj hcl hsm dep hK
      refine ⟨false, (show Ac.tmps.getD 79 undef = .bool false from dep 42 rfl), ?_⟩
      rw [if_pos rfl]
      go_simp
      refine (HLb.out Wc (HS.out Wc hI).2.1).mono ?_
      rintro e w' ⟨rfl, hb'⟩
      exact hK _ _ (.inr rfl) (bnext hI hb')
    · intro L Ac Wc K hI hj hcl hsm dep hK
      have t84 : Ac.tmps.getD 84 undef = .string la := dep 47 rfl
      have t85 : Ac.tmps.getD 85 undef = .string lb := dep 48 rfl
      refine ⟨false, (show Ac.tmps.getD 79 undef = .bool false from dep 42 rfl), ?_⟩
      rw [if_pos rfl]
      go_simp
      refine (HNd.out Wc (HS.out Wc hI).2.1).mono ?_
      rintro e w' ⟨rfl, hb'⟩
      exact hK _ _ (.inr rfl) (bnext hI hb')
    · intro L Ac Wc K hI hj hcl hsm dep hK
      have t83 : Ac.tmps.getD 83 undef = .string nab := dep 46 rfl
      have t86 : Ac.tmps.getD 86 undef = .string nab := dep 49 rfl
      refine ⟨false, (show Ac.tmps.getD 79 undef = .bool false from dep 42 rfl), ?_⟩
      rw [if_pos rfl]
      go_simp
      exact hK _ _ (.inr rfl) hI
    · intro L Ac Wc K hI hj hcl hsm dep hK
      have t79 : Ac.tmps.getD 79 undef = .bool false := dep 42 rfl
      have t87 : Ac.tmps.getD 87 undef = .bool false := dep 50 rfl
      show Oper.wp _ _ Ac Wc K _
      go_simp
      exact hK _ _ (.inr rfl) hI
  case fin =>
    intro L w7 hall hI
    clear hall
    simp only [puts]
    go_simp
    have hS7 := HS.out w7 hI
    obtain ⟨p0, p1, p2, p3, p4, p5⟩ := hS7.2.2.2.1.cells
    go_upto_region 10 with (go_at_call 13; with_reducible refine (HR1.out _ _ _ hS7.2.1 hS7.2.2.2.2 hcd).mono ?_; rintro e w8 ⟨rfl, hb8⟩)
    have hb9 := bal (bal (bnext hI hb8) (.cells #[.int .u64 2, .string r2] 37)) (.cells #[.int .u64 3, .string r3] 37)
    have y1 := (rh_new w8 2 r2).next (bal (Below.refl _ _) (.cells #[.int .u64 3, .string r3] 37))
    have y2 := rh_new (w8.alloc (.cells #[.int .u64 2, .string r2] 37)) 3 r3
    rw [World.size_alloc] at y2
    obtain ⟨w9, hw9⟩ : ∃ w9, (w8.alloc (.cells #[.int .u64 2, .string r2] 37)).alloc (.cells #[.int .u64 3, .string r3] 37) = w9 := ⟨_, rfl⟩
    have y1 : Rh w9 w8.heap.size 2 r2 := by rw [← hw9]; exact y1
    have y2 : Rh w9 (w8.heap.size + 1) 3 r3 := by rw [← hw9]; exact y2
    rw [hw9] at hb9 ⊢
    have HS9 : Hid (∀ W, Below w9.heap.size w9 W → (Frs W (w.heap.size + 1) 32 [fa, fb, fc] ∧ Tb W ∧ Below w.heap.size w W ∧ Six W q2 (.int .i64 3) (.int .i64 32) (.int .u64 2) (.int .u64 3) (.slice none 0 0) (.slice (some ⟨bd, 0, none⟩) 2 cd) ∧ RdS W (some ⟨bd, 0, none⟩) bd 0 2 [nab, lc]) ∧ Rh W w8.heap.size 2 r2 ∧ Rh W (w8.heap.size + 1) 3 r3) := fun W hb => ⟨HS.out W (bnext hb9 hb), y1.next hb, y2.next hb⟩
    have hbs := Below.refl w9.heap.size w9
    clear hw9 hb9 y1 y2 hb8 hI HS hS7 p0 p1 p2 p3 p4 p5 HR1 HLa HLb HLc HNd
    go_upto_region 12 with (first
      | (go_at_call 14; with_reducible refine (HF2.out _ _ (HS9.out _ hbs).1.2.1 (HS9.out _ hbs).1.1).mono ?_; rintro e w10 ⟨rfl, hb10⟩)
      | (go_at_call 14; with_reducible refine (HF3.out _ _ (HS9.out _ (bal hb10 _)).1.2.1 (HS9.out _ (bal hb10 _)).1.1).mono ?_; rintro e w11 ⟨rfl, hb11⟩))
    have hb12 := bal (bnext (bal hb10 (.cells #[.int .u64 2, .string r2] 37)) hb11) (.cells #[.int .u64 3, .string r3] 37)
    have y1 := ((rh_new w10 2 r2).next hb11).next (bal (Below.refl _ _) (.cells #[.int .u64 3, .string r3] 37))
    have y2 := rh_new w11 3 r3
    obtain ⟨w12, hw12⟩ : ∃ w12, w11.alloc (.cells #[.int .u64 3, .string r3] 37) = w12 := ⟨_, rfl⟩
    have y1 : Rh w12 w10.heap.size 2 r2 := by rw [← hw12]; exact y1
    have y2 : Rh w12 w11.heap.size 3 r3 := by rw [← hw12]; exact y2
    rw [hw12] at hb12 ⊢
    have hS12 := HS9.out w12 hb12
    have hb912 : Below w9.heap.size w9 w12 := hb12
    generalize w8.heap.size = q8 at *
    generalize w10.heap.size = q10 at *
    generalize w11.heap.size = q11 at *
    have h6 := hS12.1.2.2.2.1
    have hch := (ChT.refl (fun b => b = q2) w12).set q2 5 (.slice (some ⟨bd, 0, none⟩) 1 cd) rfl
    have h6' : Six (w12.setCell ⟨q2, 5, none⟩ (.slice (some ⟨bd, 0, none⟩) 1 cd)) q2 (.int .i64 3) (.int .i64 32) (.int .u64 2) (.int .u64 3) (.slice none 0 0) (.slice (some ⟨bd, 0, none⟩) 1 cd) := heap_setCell_same w12 q2 5 _ _ _ h6
    have hq : ∀ (g n : Nat) (d : ByteArray), Rh w12 g n d → g ≠ q2 := fun g n d h e => by
      subst e
      have h7 : w12.heap[g]? = _ := h6
      rw [show w12.heap[g]? = _ from h] at h7
      injection h7 with h7
      injection h7 with _ h7 _
      exact absurd h7 (by decide)
    have hbd : bd ≠ q2 := fun e => by
      have c := hS12.1.2.2.2.2.at (k := 0) (by decide)
      rw [e] at c
      have := h6.cells.1
      simp only [Nat.add_zero] at c
      rw [this] at c
      cases c
    obtain ⟨p0, p1, p2, p3, p4, p5⟩ := h6.cells
    have f5 := h6.fz 5
    obtain ⟨w13, hw13⟩ : ∃ w13, w12.setCell ⟨q2, 5, none⟩ (.slice (some ⟨bd, 0, none⟩) 1 cd) = w13 := ⟨_, rfl⟩
    rw [hw13] at h6' hch
    have z1 := hS12.2.1.same (hch.block q8 (hq _ _ _ hS12.2.1))
    have z2 := hS12.2.2.same (hch.block (q8 + 1) (hq _ _ _ hS12.2.2))
    have z3 := y1.same (hch.block q10 (hq _ _ _ y1))
    have z4 := y2.same (hch.block q11 (hq _ _ _ y2))
    have hRd := hS12.1.2.2.2.2.same (hch.block bd hbd)
    have hbw : Below w.heap.size w w13 := hS12.1.2.2.1.trans (hch.below (by rintro b rfl; exact HQ2.out))
    have hc1 : (1 : Int) ≤ (cd : Int) := by omega
    obtain ⟨d0, d1, d2, d3, d4, d5⟩ := h6'.cells
    have HZ : Hid (∀ W, Below w13.heap.size w13 W → Rh W q8 2 r2 ∧ Rh W (q8 + 1) 3 r3 ∧ Rh W q10 2 r2 ∧ Rh W q11 3 r3 ∧ Below w.heap.size w W) := fun W hb => ⟨z1.next hb, z2.next hb, z3.next hb, z4.next hb, bnext hbw hb⟩
    clear hb12 hb912 y1 y2 hS12 h6 hch h6' hq hbd z1 z2 z3 z4 hbw hb10 hb11 hbs HS9 HF2 HF3 hw12
    go_upto_region 14 with (go_at_call 13; with_reducible refine (HR2.out _ _ _ hRd).mono ?_; rintro e w14 ⟨rfl, hb14⟩)
    have hb15 := bal (bal hb14 (.cells #[.int .u64 0, .string ⟨#[]⟩] 37)) (.cells #[.int .u64 0, .string ⟨#[]⟩] 37)
    obtain ⟨w15, hw15⟩ : ∃ w15, (w14.alloc (.cells #[.int .u64 0, .string ⟨#[]⟩] 37)).alloc (.cells #[.int .u64 0, .string ⟨#[]⟩] 37) = w15 := ⟨_, rfl⟩
    rw [hw15] at hb15 ⊢
    obtain ⟨z1, z2, z3, z4, z5⟩ := HZ.out w15 hb15
    obtain ⟨a1, a2⟩ := z1.cells
    obtain ⟨a3, a4⟩ := z2.cells
    obtain ⟨a5, a6⟩ := z3.cells
    obtain ⟨a7, a8⟩ := z4.cells
    clear hw15 hb15 hb14 hRd HZ z1 z2 z3 z4 HR2 p0 p1 p2 p3 p4 p5 d0 d1 d2 d3 d4 d5 f5 hw13
    go_wp2_with (go_at_call 16; with_reducible refine (num_id _ _).mono ?_; rintro e wn ⟨rfl, rfl⟩)
    go_ret
    exact ⟨rfl, z5⟩
end Go.Proofs.YtdkcliblbaldhaaDoor
