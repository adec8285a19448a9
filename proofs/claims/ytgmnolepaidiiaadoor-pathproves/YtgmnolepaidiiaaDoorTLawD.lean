/-
  Walks of path's laws: fixed. Own work.
-/
import Derived.Test.YtgmnolepaidiiaaDoorTLawC
namespace Go.Proofs.YtgmnolepaidiiaaDoor
open Go.RowKit
open Cv (zl)
attribute [local go_sem ↓] Go.wp_at_zero Go.wp_at_succ
theorem RA.next {w W : World} {k : Int} {size b o i H : Nat} {A B : List (Nat × Nat)} (h : RA w k size b o i H A B) (hb : Below w.heap.size w W) : RA W k size b o i H A B :=
  ⟨h.k1, h.n, h.il, h.wy, (hb.cell (p := ⟨b, o, none⟩) (World.block_lt_of_cell? w _ h.ci)).trans h.ci⟩
theorem clk_id {k : Int} (h : 1 ≤ k ∧ k ≤ 32) : (clk k : Int) = k := by unfold clk; rw [if_neg (by omega), if_neg (by omega)]; omega
theorem prove_rd (w : World) (m : Nat) (k : Int) (L : List ByteArray) (hF : Frs w m k L) (n i H : Nat) (A B : List (Nat × Nat)) (hw : Wy n i A H B) (hn : n ≤ L.length) (hi : i < n) (D : List ByteArray) (hD : dgP (clk k) L i H A B = D) :
    Calls Tryd.prog 16 #[.pointer (some ⟨m + 1, 0, none⟩), .int .u64 (n : Int), .int .u64 (i : Int)] w fun e w' => ∃ bs cs ad bd cd, e = .returned (.tuple #[.agg #[.int .i64 1, .int .i64 k, .int .u64 0, .int .u64 (n : Int), .slice (some ⟨bs, 0, none⟩) 1 cs, .slice ad D.length cd], .int .i64 0]) ∧ RA w' k n bs 0 i H A B ∧ RdS w' ad bd 0 D.length D ∧ D.length ≤ cd ∧ cd ≤ 9223372036854775807 ∧ (ad = none → cd = 0) ∧ fil k (H + A.length + B.length) D ∧ OwnS w' w.heap.size (.slice ad D.length cd) D ∧ Cv.Own w' w.heap.size (.slice (some ⟨bs, 0, none⟩) 1 cs) [i] ∧ Below w.heap.size w w' := by
  have hk : 1 ≤ k ∧ k ≤ 32 := ⟨hF.k1, hF.k2⟩
  have hL := hF.hn
  refine (prove_ok w m k L hF n i H A B hw hn hi D hD).mono fun e w' ⟨vs, vd, e1, e2, e3, e4⟩ => ?_
  have hs : ∀ s ∈ D, s.size = clk k := by rw [← hD]; exact dgP_size (clk_le k) L i H A B
  have hc := clk_le k
  obtain ⟨ad, bd, cd, rfl, rd, hcd, hnd⟩ := owns_rds e3 (fun s hs' => by rw [hs s hs']; omega)
  obtain ⟨h1, h2⟩ := id e2
  rcases h2 with ⟨_, h2⟩ | ⟨bs, cs, cur, rfl, hg, hh, hcp, hcm, hcz, hct⟩
  · cases h2
  have hcd63 : cd ≤ 9223372036854775807 := by
    rcases e3.2 with ⟨h, _⟩ | ⟨_, _, _, h, _, _, _, h9, _⟩
    · have := (Value.slice.inj h).2.2; omega
    · have := (Value.slice.inj h).2.2; unfold maxLen at h9; omega
  refine ⟨bs, cs, ad, bd, cd, e1, ⟨hk, by omega, hi, hw, ?_⟩, rd, hcd, hcd63, hnd, ⟨?_, fun d hd => by rw [hs d hd]; exact clk_id hk⟩, e3, e2, e4⟩
  · have := e2.cells (g := bs) rfl 0 (.int .u64 (i : Int)) rfl
    rwa [Addr.add_mid] at this
  · rw [← hD, dgP_len]; omega
/-- Where it leads. -/
theorem rt_complete {c n i H : Nat} {A B : List (Nat × Nat)} {L : List ByteArray} (h : Wy n i A H B) (hn : n ≤ 2 ^ 40) (hL : n ≤ L.length) : rtP c n i A.length H (dgP c L i H A B) (L.getD i ByteArray.empty) = rtD c L n := by
  rw [rtP, pk_complete h hn hL]; rfl
theorem wy_fix : Wy 3 0 [] 1 [(0, 2)] := ⟨by decide, by decide, (fun a ha => by cases ha), fun b hb => by
  rw [List.mem_singleton] at hb
  subst hb
  decide⟩
abbrev fa : ByteArray := ⟨#[97]⟩
abbrev fb : ByteArray := ⟨#[98]⟩
abbrev fc : ByteArray := ⟨#[99]⟩
set_option maxRecDepth 100000 in
set_option maxHeartbeats 2000000 in
theorem fixed_any (w : World) (ht : Tb w) (hr : Tr w) : Calls Tryd.prog 7 #[] w fun e w' => e = .returned (.bool true) ∧ Below w.heap.size w w' := by
  obtain ⟨w0, hw0⟩ : ∃ w0, w.alloc (.cells #[.string fa, .string fb, .string fc] 9) = w0 := ⟨_, rfl⟩
  have hb0 : Below w.heap.size w w0 := by rw [← hw0]; exact bal (Below.refl _ _) _
  have rd0 : RdS w0 (some ⟨w.heap.size, 0, none⟩) w.heap.size 0 3 [fa, fb, fc] := by
    refine ⟨rfl, fun _ => rfl, by rw [← hw0]; exact range_new w [.string fa, .string fb, .string fc] 9, fun s hs => ?_⟩
    simp only [List.mem_cons, List.mem_nil_iff, or_false] at hs
    rcases hs with rfl | rfl | rfl <;> decide
  have HWd : Hid (Calls Tryd.prog 14 #[.int .i64 32, .slice (some ⟨w.heap.size, 0, none⟩) 3 3] w0 fun e w' => e = .returned (.pointer (some ⟨w0.heap.size + 1, 0, none⟩)) ∧ Frs w' w0.heap.size 32 [fa, fb, fc] ∧ Below w0.heap.size w0 w') :=
    wood_any w0 (ht.next hb0) 32 (by decide) (by decide) _ _ _ 3 3 [fa, fb, fc] rd0 (by decide) (fun s hs => by
      simp only [List.mem_cons, List.mem_nil_iff, or_false] at hs
      rcases hs with rfl | rfl | rfl <;> decide)
  obtain ⟨D, hD⟩ : ∃ D, dgP (clk 32) [fa, fb, fc] 0 1 [] [(0, 2)] = D := ⟨_, rfl⟩
  obtain ⟨hb1, hhb⟩ : ∃ hb1, dg (clk 32) (leafT fb) = hb1 := ⟨_, rfl⟩
  have hDl : D.length = 2 := by rw [← hD, dgP_len]; rfl
  have hD0 : D.getD 0 ByteArray.empty = hb1 := by
    have e1 : wyB 0 1 [] [(0, 2)] = [(0, 1), (0, 2)] := by decide
    rw [← hD, ← hhb, dgP, e1, List.map_cons]
    show nd (clk 32) [fa, fb, fc] 0 1 = _
    rw [nd]
    rfl
  obtain ⟨m, hm⟩ : ∃ m, w0.heap.size = m := ⟨_, rfl⟩
  have HPr : Hid (∀ W, Frs W m 32 [fa, fb, fc] → Calls Tryd.prog 16 #[.pointer (some ⟨m + 1, 0, none⟩), .int .u64 3, .int .u64 0] W fun e w' => ∃ bs cs bd cd, e = .returned (.tuple #[.agg #[.int .i64 1, .int .i64 32, .int .u64 0, .int .u64 3, .slice (some ⟨bs, 0, none⟩) 1 cs, .slice (some ⟨bd, 0, none⟩) 2 cd], .int .i64 0]) ∧ RA w' 32 3 bs 0 0 1 [] [(0, 2)] ∧ RdS w' (some ⟨bd, 0, none⟩) bd 0 2 D ∧ 2 ≤ cd ∧ cd ≤ 9223372036854775807 ∧ fil 32 2 D ∧ Below W.heap.size W w') := fun W hF =>
    (prove_rd W m 32 _ hF 3 0 1 [] [(0, 2)] wy_fix (by decide) (by decide) D hD).mono fun e w' ⟨bs, cs, ad, bd, cd, h1, h2, h3, h4, h5, _, h7, _, _, h8⟩ => by
      rw [hDl] at h1 h3 h4
      obtain rfl := h3.ptr (by decide)
      exact ⟨bs, cs, bd, cd, h1, h2, h3, h4, h5, h7, h8⟩
  obtain ⟨rr, hrr⟩ : ∃ rr, rtD (clk 32) [fa, fb, fc] 3 = rr := ⟨_, rfl⟩
  have hrt : rtP (clk 32) 3 0 0 1 D fa = rr := by
    have h := rt_complete (c := clk 32) (L := [fa, fb, fc]) wy_fix (by decide) (by decide)
    rw [List.length_nil, show ([fa, fb, fc] : List ByteArray).getD 0 ByteArray.empty = fa from rfl, hD, hrr] at h
    exact h
  have HRo : Hid (∀ W bs cs bd cd, Tb W → RA W 32 3 bs 0 0 1 [] [(0, 2)] → RdS W (some ⟨bd, 0, none⟩) bd 0 2 D → 2 ≤ cd → cd ≤ 9223372036854775807 → fil 32 2 D → Calls Tryd.prog 9 #[.agg #[.int .i64 1, .int .i64 32, .int .u64 0, .int .u64 3, .slice (some ⟨bs, 0, none⟩) 1 cs, .slice (some ⟨bd, 0, none⟩) 2 cd], .string fa] W fun e w' => e = .returned (.tuple #[.agg #[.int .u64 3, .string rr], .int .i64 0]) ∧ Below W.heap.size W w') := fun W bs cs bd cd hT hA hR h1 h2 hf => by
    have := proot_ok W 32 3 bs 0 cs 0 1 [] [(0, 2)] hA (some ⟨bd, 0, none⟩) bd 0 cd D (by rw [hDl]; exact hR) (by rw [hDl]; decide) fa hf (by decide) hT (by rw [hDl]; exact h1) h2 (fun e => by cases e) rr hrt
    rw [hDl] at this
    exact this
  have HFr : Hid (∀ W, Tb W → Frs W m 32 [fa, fb, fc] → Calls Tryd.prog 15 #[.pointer (some ⟨m + 1, 0, none⟩), .int .u64 3] W fun e w' => e = .returned (.tuple #[.agg #[.int .u64 3, .string rr], .int .i64 0]) ∧ Below W.heap.size W w') := fun W hT hF => froot_ok W hT m 32 _ hF 3 (by decide) rr hrr
  have HPi : Hid (∀ W, Frs W m 32 [fa, fb, fc] → Calls Tryd.prog 16 #[.pointer (some ⟨m + 1, 0, none⟩), .int .u64 3, .int .u64 3] W fun e w' => e = .returned (.tuple #[noP, .int .i64 31]) ∧ Below W.heap.size W w') := fun W hF => prove_index W m 32 _ hF 3 3 (by decide) (by decide)
  have HT : Hid (∀ W, Below w.heap.size w W → Tb W ∧ Tr W) := fun W hb => ⟨ht.next hb, hr.next hb⟩
  have HX : Hid (D.getD 0 ByteArray.empty = hb1 ∧ dg (clk 32) (leafT fb) = hb1) := ⟨hD0, hhb⟩
  have HWd : Hid (Calls Tryd.prog 14 #[.int .i64 32, .slice (some ⟨w.heap.size, 0, none⟩) 3 3] w0 fun e w' => e = .returned (.pointer (some ⟨m + 1, 0, none⟩)) ∧ Frs w' m 32 [fa, fb, fc] ∧ Below w.heap.size w w') := HWd.out.mono fun e w' ⟨h1, h2, h3⟩ => ⟨by rw [← hm]; exact h1, by rw [← hm]; exact h2, bnext hb0 h3⟩
  clear ht hr rd0 hD hDl hD0 hrr hrt hhb hm
  go_enter Tryd.func7, Tryd.ntmps7
  go_upto_region 4 with (go_at_call 14; with_reducible refine HWd.out.mono ?_; rintro e w1 ⟨rfl, hF1, hbw⟩)
  have hbA := hbw
  have HFb : Hid (∀ W, Below w1.heap.size w1 W → Frs W m 32 [fa, fb, fc] ∧ Tb W ∧ Tr W ∧ Below w.heap.size w W) := fun W hb => ⟨hF1.next hb (Nat.le_refl _), (HT.out W (bnext hbA hb)).1, (HT.out W (bnext hbA hb)).2, bnext hbA hb⟩
  clear hF1 hbw hb0 hbA HT hw0
  go_upto_region 10 with (first
    | (go_at_call 16; with_reducible refine (HPr.out _ (HFb.out _ (Below.refl _ _)).1).mono ?_; rintro e w2 ⟨bs, cs, bd, cd, rfl, hA, hR, h2c, hc63, hfl, hb2⟩)
    | (go_at_call 9; with_reducible refine (HRo.out _ _ _ _ _ (HFb.out _ (bal hb2 _)).2.1 (hA.next (bal (Below.refl _ _) _)) (hR.next (bal (Below.refl _ _) _) (Nat.le_refl _)) h2c hc63 hfl).mono ?_; rintro e w4 ⟨rfl, hb4⟩)
    | (go_at_call 15; with_reducible refine (HFr.out _ (HFb.out _ (bal (bnext (bal hb2 _) hb4) _)).2.1 (HFb.out _ (bal (bnext (bal hb2 _) hb4) _)).1).mono ?_; rintro e w5 ⟨rfl, hb5⟩)
    | (go_at_call 16; with_reducible refine (HPi.out _ (HFb.out _ (bal (bnext (bal (bnext (bal hb2 _) hb4) _) hb5) _)).1).mono ?_; rintro e w6 ⟨rfl, hb6⟩))
  obtain ⟨w9, hw9⟩ : ∃ w9, w6.alloc (.cells #[.int .i64 0, .int .i64 0, .int .u64 0, .int .u64 0, .slice none 0 0, .slice none 0 0] 26) = w9 := ⟨_, rfl⟩
  have hb9 : Below w6.heap.size w6 w9 := by rw [← hw9]; exact bal (Below.refl _ _) _
  have t6 := bnext hb6 hb9
  have t5 := bnext (bal hb5 (.cells #[.int .u64 3, .string rr] 30)) t6
  have t4 := bnext (bal hb4 (.cells #[.int .u64 3, .string rr] 30)) t5
  have x2 := (six_new w2 (.int .i64 1) (.int .i64 32) (.int .u64 0) (.int .u64 3) (.slice (some ⟨bs, 0, none⟩) 1 cs) (.slice (some ⟨bd, 0, none⟩) 2 cd)).next t4
  have x4 : Rt w9 w4.heap.size 3 rr := (rt_new w4 3 rr 30).below t5 (by simp)
  have x5 : Rt w9 w5.heap.size 3 rr := (rt_new w5 3 rr 30).below t6 (by simp)
  have x3 := hR.next (bnext (bal (Below.refl _ _) _) t4) (Nat.le_refl _)
  have hbF := (HFb.out w9 (bnext (bal hb2 _) t4)).2.2
  have HC : Hid (∀ W, Below w9.heap.size w9 W → W.cell? ⟨w2.heap.size, 5, none⟩ = some (.slice (some ⟨bd, 0, none⟩) 2 cd) ∧ W.cell? ⟨bd, 0, none⟩ = some (.string hb1) ∧ Rt W w4.heap.size 3 rr ∧ Rt W w5.heap.size 3 rr) := fun W hW => by
    have c := (x3.next hW (Nat.le_refl _)).at (k := 0) (by decide)
    rw [HX.out.1] at c
    exact ⟨(x2.next hW).cells.2.2.2.2.2, c, x4.below hW (World.block_lt_of_cell? w9 _ x4.c0), x5.below hW (World.block_lt_of_cell? w9 _ x5.c0)⟩
  have HHb : Hid (∀ W, Below w9.heap.size w9 W → Calls Tryd.prog 22 #[.int .i64 32, .string ⟨#[0, 98]⟩] W fun e w' => e = .returned (.string hb1) ∧ Below W.heap.size W w') := fun W hW => refH_any W (hbF.1.next hW) 32 (by decide) (by decide) _ (by decide) hb1 HX.out.2
  have HBF := hide hbF.2
  rw [hw9]
  generalize w2.heap.size = q2 at *
  generalize w4.heap.size = q4 at *
  generalize w5.heap.size = q5 at *
  clear hw9 t4 t5 t6 x2 x4 x5 x3 hbF hb2 hb4 hb5 hb6 hb9 hA hR HPr HRo HFr HPi HFb HX
  refine wp_region_planI (by kernel_rfl) [62, 63, 64, 65, 66, 67, 68, 69, 70, 71, 72, 73, 74, 75, 76, 77, 78, 79, 80, 81, 82, 83, 84, 85, 86, 87, 88, 89, 0] [] [.pointer (some ⟨q2, 5, none⟩), .slice (some ⟨bd, 0, none⟩) 2 cd, .pointer (some ⟨bd, 0, none⟩), .string hb1, .string hb1, .bool true, .bool true, .int .i64 0, .bool true, .bool true, .bool true, .int .i64 0, .bool true, .bool true, .bool true, .agg #[.int .u64 3, .string rr], .agg #[.int .u64 3, .string rr], .bool true, .bool true, .bool true, .pointer (some ⟨q4, 0, none⟩), .int .u64 3, .bool true, .bool true, .bool true, .int .i64 31, .bool true, .bool true, .bool true] (by kernel_rfl) rfl (fun j hj => by cases hj) (fun _ W => Below w9.heap.size w9 W) (fun W _ hb => hb) ?step ?fin
  case step =>
    refine ⟨?_, ?_, ?_, ?_, ?_, ?_, ?_, ?_, ?_, ?_, ?_, ?_, ?_, ?_, ?_, ?_, ?_, ?_, ?_, ?_, ?_, ?_, ?_, ?_, ?_, ?_, ?_, ?_, ?_, trivial⟩
    · intro L Ac Wc K hI hj hcl hsm dep hK
      have t2 : Ac.tmps.getD 2 undef = .pointer (some ⟨q2, 0, none⟩) := hsm 2 rfl
      show Oper.wp _ _ Ac Wc K _
      go_simp
      exact hK _ _ (.inr rfl) hI
    · intro L Ac Wc K hI hj hcl hsm dep hK
      have t62 : Ac.tmps.getD 62 undef = .pointer (some ⟨q2, 5, none⟩) := dep 0 rfl
      show Oper.wp _ _ Ac Wc K _
      obtain ⟨c2, c4, c5, c6⟩ := HC.out Wc hI
      go_simp
      exact hK _ _ (.inr rfl) hI
    · intro L Ac Wc K hI hj hcl hsm dep hK
      have t63 : Ac.tmps.getD 63 undef = .slice (some ⟨bd, 0, none⟩) 2 cd := dep 1 rfl
      show Oper.wp _ _ Ac Wc K _
      go_simp
      exact hK _ _ (.inr rfl) hI
    · intro L Ac Wc K hI hj hcl hsm dep hK
      have t64 : Ac.tmps.getD 64 undef = .pointer (some ⟨bd, 0, none⟩) := dep 2 rfl
      show Oper.wp _ _ Ac Wc K _
      obtain ⟨c2, c4, c5, c6⟩ := HC.out Wc hI
      go_simp
      exact hK _ _ (.inr rfl) hI
    · intro L Ac Wc K hI hj hcl hsm dep hK
      show Oper.wp _ _ Ac Wc K _
      go_simp
      refine (HHb.out Wc hI).mono ?_
      rintro e w' ⟨rfl, hb'⟩
      exact hK _ _ (.inr rfl) (bnext hI hb')
    · intro L Ac Wc K hI hj hcl hsm dep hK
      have t65 : Ac.tmps.getD 65 undef = .string hb1 := dep 3 rfl
      have t66 : Ac.tmps.getD 66 undef = .string hb1 := dep 4 rfl
      show Oper.wp _ _ Ac Wc K _
      go_simp
      exact hK _ _ (.inr rfl) hI
    · intro L Ac Wc K hI hj hcl hsm dep hK
      have t67 : Ac.tmps.getD 67 undef = .bool true := dep 5 rfl
      show Oper.wp _ _ Ac Wc K _
      go_simp
      exact hK _ _ (.inr rfl) hI
    · intro L Ac Wc K hI hj hcl hsm dep hK
      have t3 : Ac.tmps.getD 3 undef = .int .i64 0 := hsm 3 rfl
      refine ⟨true, (show Ac.tmps.getD 68 undef = .bool true from dep 6 rfl), ?_⟩
      rw [if_pos rfl]
      go_simp
      exact hK _ _ (.inr rfl) hI
    · intro L Ac Wc K hI hj hcl hsm dep hK
      have t69 : Ac.tmps.getD 69 undef = .int .i64 0 := dep 7 rfl
      refine ⟨true, (show Ac.tmps.getD 68 undef = .bool true from dep 6 rfl), ?_⟩
      rw [if_pos rfl]
      go_simp
      exact hK _ _ (.inr rfl) hI
    · intro L Ac Wc K hI hj hcl hsm dep hK
      have t68 : Ac.tmps.getD 68 undef = .bool true := dep 6 rfl
      have t70 : Ac.tmps.getD 70 undef = .bool true := dep 8 rfl
      show Oper.wp _ _ Ac Wc K _
      go_simp
      exact hK _ _ (.inr rfl) hI
    · intro L Ac Wc K hI hj hcl hsm dep hK
      have t71 : Ac.tmps.getD 71 undef = .bool true := dep 9 rfl
      show Oper.wp _ _ Ac Wc K _
      go_simp
      exact hK _ _ (.inr rfl) hI
    · intro L Ac Wc K hI hj hcl hsm dep hK
      have t6 : Ac.tmps.getD 6 undef = .int .i64 0 := hsm 6 rfl
      refine ⟨true, (show Ac.tmps.getD 72 undef = .bool true from dep 10 rfl), ?_⟩
      rw [if_pos rfl]
      go_simp
      exact hK _ _ (.inr rfl) hI
    · intro L Ac Wc K hI hj hcl hsm dep hK
      have t73 : Ac.tmps.getD 73 undef = .int .i64 0 := dep 11 rfl
      refine ⟨true, (show Ac.tmps.getD 72 undef = .bool true from dep 10 rfl), ?_⟩
      rw [if_pos rfl]
      go_simp
      exact hK _ _ (.inr rfl) hI
    · intro L Ac Wc K hI hj hcl hsm dep hK
      have t72 : Ac.tmps.getD 72 undef = .bool true := dep 10 rfl
      have t74 : Ac.tmps.getD 74 undef = .bool true := dep 12 rfl
      show Oper.wp _ _ Ac Wc K _
      go_simp
      exact hK _ _ (.inr rfl) hI
    · intro L Ac Wc K hI hj hcl hsm dep hK
      have t75 : Ac.tmps.getD 75 undef = .bool true := dep 13 rfl
      show Oper.wp _ _ Ac Wc K _
      go_simp
      exact hK _ _ (.inr rfl) hI
    · intro L Ac Wc K hI hj hcl hsm dep hK
      have t4 : Ac.tmps.getD 4 undef = .pointer (some ⟨q4, 0, none⟩) := hsm 4 rfl
      refine ⟨true, (show Ac.tmps.getD 76 undef = .bool true from dep 14 rfl), ?_⟩
      rw [if_pos rfl]
      obtain ⟨c2, c4, c5, c6⟩ := HC.out Wc hI
      have r4 := c5.c0
      have r5 := c5.c1
      go_simp
      exact hK _ _ (.inr rfl) hI
    · intro L Ac Wc K hI hj hcl hsm dep hK
      have t5 : Ac.tmps.getD 5 undef = .pointer (some ⟨q5, 0, none⟩) := hsm 5 rfl
      refine ⟨true, (show Ac.tmps.getD 76 undef = .bool true from dep 14 rfl), ?_⟩
      rw [if_pos rfl]
      obtain ⟨c2, c4, c5, c6⟩ := HC.out Wc hI
      have r4 := c6.c0
      have r5 := c6.c1
      go_simp
      exact hK _ _ (.inr rfl) hI
    · intro L Ac Wc K hI hj hcl hsm dep hK
      have t77 : Ac.tmps.getD 77 undef = .agg #[.int .u64 3, .string rr] := dep 15 rfl
      have t78 : Ac.tmps.getD 78 undef = .agg #[.int .u64 3, .string rr] := dep 16 rfl
      refine ⟨true, (show Ac.tmps.getD 76 undef = .bool true from dep 14 rfl), ?_⟩
      rw [if_pos rfl]
      go_simp
      exact hK _ _ (.inr rfl) hI
    · intro L Ac Wc K hI hj hcl hsm dep hK
      have t76 : Ac.tmps.getD 76 undef = .bool true := dep 14 rfl
      have t79 : Ac.tmps.getD 79 undef = .bool true := dep 17 rfl
      show Oper.wp _ _ Ac Wc K _
      go_simp
      exact hK _ _ (.inr rfl) hI
    · intro L Ac Wc K hI hj hcl hsm dep hK
      have t80 : Ac.tmps.getD 80 undef = .bool true := dep 18 rfl
      show Oper.wp _ _ Ac Wc K _
      go_simp
      exact hK _ _ (.inr rfl) hI
    · intro L Ac Wc K hI hj hcl hsm dep hK
      have t4 : Ac.tmps.getD 4 undef = .pointer (some ⟨q4, 0, none⟩) := hsm 4 rfl
      refine ⟨true, (show Ac.tmps.getD 81 undef = .bool true from dep 19 rfl), ?_⟩
      rw [if_pos rfl]
      go_simp
      exact hK _ _ (.inr rfl) hI
    · intro L Ac Wc K hI hj hcl hsm dep hK
      have t82 : Ac.tmps.getD 82 undef = .pointer (some ⟨q4, 0, none⟩) := dep 20 rfl
      refine ⟨true, (show Ac.tmps.getD 81 undef = .bool true from dep 19 rfl), ?_⟩
      rw [if_pos rfl]
      obtain ⟨c2, c4, c5, c6⟩ := HC.out Wc hI
      have r4 := c5.c0
      go_simp
      exact hK _ _ (.inr rfl) hI
    · intro L Ac Wc K hI hj hcl hsm dep hK
      have t83 : Ac.tmps.getD 83 undef = .int .u64 3 := dep 21 rfl
      refine ⟨true, (show Ac.tmps.getD 81 undef = .bool true from dep 19 rfl), ?_⟩
      rw [if_pos rfl]
      go_simp
      exact hK _ _ (.inr rfl) hI
    · intro L Ac Wc K hI hj hcl hsm dep hK
      have t81 : Ac.tmps.getD 81 undef = .bool true := dep 19 rfl
      have t84 : Ac.tmps.getD 84 undef = .bool true := dep 22 rfl
      show Oper.wp _ _ Ac Wc K _
      go_simp
      exact hK _ _ (.inr rfl) hI
    · intro L Ac Wc K hI hj hcl hsm dep hK
      have t85 : Ac.tmps.getD 85 undef = .bool true := dep 23 rfl
      show Oper.wp _ _ Ac Wc K _
      go_simp
      exact hK _ _ (.inr rfl) hI
    · intro L Ac Wc K hI hj hcl hsm dep hK
      have t8 : Ac.tmps.getD 8 undef = .int .i64 31 := hsm 8 rfl
      refine ⟨true, (show Ac.tmps.getD 86 undef = .bool true from dep 24 rfl), ?_⟩
      rw [if_pos rfl]
      go_simp
      exact hK _ _ (.inr rfl) hI
    · intro L Ac Wc K hI hj hcl hsm dep hK
      have t87 : Ac.tmps.getD 87 undef = .int .i64 31 := dep 25 rfl
      refine ⟨true, (show Ac.tmps.getD 86 undef = .bool true from dep 24 rfl), ?_⟩
      rw [if_pos rfl]
      go_simp
      exact hK _ _ (.inr rfl) hI
    · intro L Ac Wc K hI hj hcl hsm dep hK
      have t86 : Ac.tmps.getD 86 undef = .bool true := dep 24 rfl
      have t88 : Ac.tmps.getD 88 undef = .bool true := dep 26 rfl
      show Oper.wp _ _ Ac Wc K _
      go_simp
      exact hK _ _ (.inr rfl) hI
    · intro L Ac Wc K hI hj hcl hsm dep hK
      have t89 : Ac.tmps.getD 89 undef = .bool true := dep 27 rfl
      show Oper.wp _ _ Ac Wc K _
      go_simp
      exact hK _ _ (.inr rfl) hI
  case fin =>
    intro L w10 hall hI
    clear hall
    simp only [puts]
    go_simp
    go_wp2
    go_ret
    exact ⟨rfl, bnext HBF.out hI⟩
end Go.Proofs.YtgmnolepaidiiaaDoor
