/-
  The walk of PeaksMade. Own work.
-/
import Derived.Test.YtncndefggegicaaDoorKMade
import Derived.Test.YtncndefggegicaaDoorPlanG
import Derived.Laws.StructEq
namespace Go.Proofs.YtncndefggegicaaDoor
open Go.RowKit
attribute [local go_sem ↓] Go.wp_at_zero Go.wp_at_succ
set_option maxRecDepth 100000 in
set_option maxHeartbeats 1000000 in
theorem pmade_walk (w : World) (ht : Tb w) (hR : Tr w) (K : Int) (fr : Bool) (N : Nat) (sl : Value) (L : List ByteArray) (h : RdB w K fr N sl L) :
    Calls Tryd.prog 8 #[.agg #[.int .i64 K, .bool fr, .int .u64 (N : Int), sl]] w fun e w' => e = .returned (.bool true) ∧ Below w.heap.size w w' := by
  obtain ⟨e0, he⟩ : ∃ e0, fe K (bgN fr N) (bgL fr L) = e0 := ⟨_, rfl⟩
  obtain ⟨n, hn⟩ : ∃ n, bgN fr N = n := ⟨_, rfl⟩
  obtain ⟨P, hP⟩ : ∃ P, bgL fr L = P := ⟨_, rfl⟩
  have HMd : Hid (∀ W, Below w.heap.size w W → Calls Tryd.prog 29 #[.agg #[.int .i64 K, .bool fr, .int .u64 (N : Int), sl]] W fun e w' => MadeB W w' K n P e0 e) := fun W hb => by
    have := made_any W K fr N sl L (h.next hb) e0 he
    rw [hn, hP] at this
    exact this
  have HAl : Hid (∀ W, Below w.heap.size w W → Calls Tryd.prog 9 #[] W fun e w' => e = .returned (.bool true) ∧ Below W.heap.size W w') := fun W hb => alive_any W (ht.next hb)
  obtain ⟨ao, b, off, cap, hsl, _, _⟩ := h.lst
  obtain ⟨w0, hw0⟩ : ∃ w0, w.alloc (.cells #[.int .i64 K, .bool fr, .int .u64 (N : Int), sl] 69) = w0 := ⟨_, rfl⟩
  have hb : Below w.heap.size w w0 := by rw [← hw0]; exact bal (Below.refl w.heap.size w) _
  have HX : Hid (∀ W, Below w0.heap.size w0 W → W.cell? ⟨w.heap.size, 0, none⟩ = some (.int .i64 K) ∧ W.cell? ⟨w.heap.size, 1, none⟩ = some (.bool fr) ∧ W.cell? ⟨w.heap.size, 2, none⟩ = some (.int .u64 (N : Int)) ∧ W.cell? ⟨w.heap.size, 3, none⟩ = some sl) := fun W h => by
    have hlt : w.heap.size < w0.heap.size := by rw [← hw0]; simp
    refine ⟨?_, ?_, ?_, ?_⟩
    · rw [h.cell (p := ⟨w.heap.size, 0, none⟩) hlt, ← hw0, World.cell?_alloc_new]; rfl
    · rw [h.cell (p := ⟨w.heap.size, 1, none⟩) hlt, ← hw0, World.cell?_alloc_new]; rfl
    · rw [h.cell (p := ⟨w.heap.size, 2, none⟩) hlt, ← hw0, World.cell?_alloc_new]; rfl
    · rw [h.cell (p := ⟨w.heap.size, 3, none⟩) hlt, ← hw0, World.cell?_alloc_new]; rfl
  have HT := hide (And.intro ht hR)
  have HB := hide hb
  subst hsl
  clear ht hR h he hn hP hb
  by_cases h0 : e0 = 0
  · subst h0
    go_enter Tryd.func8, Tryd.ntmps8
    go_upto_region 7 with (first
      | (go_at_call 9; with_reducible refine (HAl.out _ HB.out).mono ?_; rintro e w1 ⟨rfl, hb1⟩; obtain ⟨y0, y1, y2, y3⟩ := HX.out _ hb1)
      | (go_at_call 29; with_reducible refine (HMd.out _ (bnext HB.out hb1)).mono ?_; intro e w2 hM; obtain ⟨p, v, q, u, rfl, r1, r2, _, _, hb2⟩ := hM.ok; clear hM; have c1 := r2.c1))
    have B2 : Below w.heap.size w w2 := bnext (bnext HB.out hb1) hb2
    have X3 := Below.refl w2.heap.size w2
    have C3 : (w2.alloc (.cells #[.int .u64 (n : Int), .string ⟨#[]⟩] 39)).cell? ⟨w2.heap.size, 0, none⟩ = some (.int .u64 (n : Int)) := by rw [World.cell?_alloc_new]; rfl
    have hlt3 : w2.heap.size < (w2.alloc (.cells #[.int .u64 (n : Int), .string ⟨#[]⟩] 39)).heap.size := by simp
    have b3 := bal X3 (.cells #[.int .u64 (n : Int), .string ⟨#[]⟩] 39)
    generalize w2.alloc (.cells #[.int .u64 (n : Int), .string ⟨#[]⟩] 39) = w3 at *
    generalize hg : w2.heap.size = g at *
    have HK : Hid (∀ W, Below w3.heap.size w3 W → (Tb W ∧ Tr W ∧ Rg W p v K n P ∧ Rf W q u K n P) ∧ Below w.heap.size w W ∧ W.cell? ⟨g, 0, none⟩ = some (.int .u64 (n : Int))) := fun W hb => by
      have b4 : Below w2.heap.size w2 W := bnext (by rw [hg]; exact b3) hb
      have b5 := bnext B2 b4
      exact ⟨⟨HT.out.1.next b5, HT.out.2.next b5, r1.next b4 (Nat.le_refl _), r2.next b4 (Nat.le_refl _)⟩, b5, (hb.cell (p := ⟨g, 0, none⟩) hlt3).trans C3⟩
    obtain ⟨rr, hrr⟩ : ∃ rr, Hid (rgD K n P = rr) := ⟨_, rfl⟩
    have HSz : Hid (∀ W, Tb W ∧ Tr W ∧ Rg W p v K n P ∧ Rf W q u K n P → Calls Tryd.prog 16 #[.pointer (some ⟨p, 0, none⟩)] W fun e w' => e = .returned (.int .u64 (n : Int)) ∧ Below W.heap.size W w') := fun W h => size_any W p v K n P h.2.2.1
    have HPa : Hid (∀ W, Tb W ∧ Tr W ∧ Rg W p v K n P ∧ Rf W q u K n P → Calls Tryd.prog 13 #[.pointer (some ⟨p, 0, none⟩)] W fun e w' => ∃ u, e = .returned u ∧ OwnS w' W.heap.size u P ∧ Below W.heap.size W w') := fun W h => rpeaks_own W p v K n P h.2.2.1
    have HPb : Hid (∀ W, Tb W ∧ Tr W ∧ Rg W p v K n P ∧ Rf W q u K n P → Calls Tryd.prog 30 #[.pointer (some ⟨q, 0, none⟩)] W fun e w' => ∃ u, e = .returned u ∧ OwnS w' W.heap.size u P ∧ Below W.heap.size W w') := fun W h => refpeaks_own W q u K n P h.2.2.2
    have HRa : Hid (∀ W, Tb W ∧ Tr W ∧ Rg W p v K n P ∧ Rf W q u K n P → Calls Tryd.prog 17 #[.pointer (some ⟨p, 0, none⟩)] W fun e w' => e = .returned (.agg #[.int .u64 (n : Int), .string rr]) ∧ Below W.heap.size W w') := fun W h => rroot_any W h.1 p v K n P h.2.2.1 rr hrr
    have HRb : Hid (∀ W, Tb W ∧ Tr W ∧ Rg W p v K n P ∧ Rf W q u K n P → Calls Tryd.prog 31 #[.pointer (some ⟨q, 0, none⟩)] W fun e w' => e = .returned (.agg #[.int .u64 (n : Int), .string rr]) ∧ Below W.heap.size W w') := fun W h => refrroot_any W h.2.1 q u K n P h.2.2.2 rr hrr
    have HZP : Hid ((∀ s ∈ P, s.size ≤ 9223372036854775807) ∧ P.length ≤ 8796093022208) := ⟨fun s hs => Nat.le_trans (r1.small s hs) (by decide), by have := r1.short; omega⟩
    clear hb1 hb2 B2 X3 C3 hlt3 b3 r1 r2 hrr y0 y1 y2 y3 c1 hg HMd HAl HX
    refine wp_region_plan (by kernel_rfl) [27, 28, 29, 30, 31, 32, 33, 34, 35, 36, 37, 38, 39, 40, 41, 42, 43, 44, 45, 2] (by kernel_rfl) (planG [.pointer (some ⟨p, 0, none⟩), .int .u64 (n : Int), .pointer (some ⟨g, 0, none⟩), .int .u64 (n : Int), .bool true, .bool true, .pointer (some ⟨p, 0, none⟩), undef, .pointer (some ⟨q, 0, none⟩), undef, .bool true, .bool true, .bool true, .pointer (some ⟨p, 0, none⟩), .agg #[.int .u64 (n : Int), .string rr], .pointer (some ⟨q, 0, none⟩), .agg #[.int .u64 (n : Int), .string rr], .bool true, .bool true, .bool true] [(7, P), (9, P)]) (planG_mono _ _) ?step ?fin
    case fin =>
      intro A w9 hB2 hde hsi hsm hΦ
      have h6 : A.tmps.getD 2 undef = .bool true := hΦ 19 (by decide)
      have hr : (results Tryd.f8 A.tmps).run Tryd.prog w9 = .ok (.bool true) w9 := by rw [← h6]; exact results_tmp rfl _ _ _
      have HF : Hid (A.defers = [] ∧ Below w.heap.size w w9 ∧ (results Tryd.f8 A.tmps).run Tryd.prog w9 = .ok (.bool true) w9) := ⟨hde, (HK.out _ hB2).2.1, hr⟩
      clear hr hde hsm hΦ h6 hB2 hsi
      go_wp2
      exact bodyPost_ret HF.out.2.2 HF.out.1 ⟨rfl, HF.out.2.1⟩
    case step =>
      refine ⟨?_, ?_, ?_, ?_, ?_, ?_, ?_, ?_, ?_, ?_, ?_, ?_, ?_, ?_, ?_, ?_, ?_, ?_, ?_, ?_, trivial⟩
      · intro Ac Wc Kc hB hsm dep hK
        have t3 : Ac.tmps.getD 3 undef = .pointer (some ⟨p, 0, none⟩) := hsm 3 rfl
        show Oper.wp _ _ Ac Wc Kc _
        go_simp
        exact hK _ _ rfl (Below.refl _ _)
      · intro Ac Wc Kc hB hsm dep hK
        have t27 : Ac.tmps.getD 27 undef = .pointer (some ⟨p, 0, none⟩) := dep 0 rfl
        show Oper.wp _ _ Ac Wc Kc _
        go_simp
        refine (HSz.out Wc (HK.out Wc hB).1).mono ?_
        rintro e w' ⟨rfl, hb⟩
        exact hK _ _ rfl hb
      · intro Ac Wc Kc hB hsm dep hK
        have t6 : Ac.tmps.getD 6 undef = .pointer (some ⟨g, 0, none⟩) := hsm 6 rfl
        show Oper.wp _ _ Ac Wc Kc _
        go_simp
        exact hK _ _ rfl (Below.refl _ _)
      · intro Ac Wc Kc hB hsm dep hK
        have t29 : Ac.tmps.getD 29 undef = .pointer (some ⟨g, 0, none⟩) := dep 2 rfl
        show Oper.wp _ _ Ac Wc Kc _
        have c0 := (HK.out Wc hB).2.2
        go_simp
        exact hK _ _ rfl (Below.refl _ _)
      · intro Ac Wc Kc hB hsm dep hK
        have t28 : Ac.tmps.getD 28 undef = .int .u64 (n : Int) := dep 1 rfl
        have t30 : Ac.tmps.getD 30 undef = .int .u64 (n : Int) := dep 3 rfl
        show Oper.wp _ _ Ac Wc Kc _
        go_simp
        exact hK _ _ rfl (Below.refl _ _)
      · intro Ac Wc Kc hB hsm dep hK
        have t31 : Ac.tmps.getD 31 undef = .bool true := dep 4 rfl
        show Oper.wp _ _ Ac Wc Kc _
        go_simp
        exact hK _ _ rfl (Below.refl _ _)
      · intro Ac Wc Kc hB hsm dep hK
        have t3 : Ac.tmps.getD 3 undef = .pointer (some ⟨p, 0, none⟩) := hsm 3 rfl
        refine ⟨true, (show Ac.tmps.getD 32 undef = .bool true from dep 5 rfl), ?_⟩
        rw [if_pos rfl]
        go_simp
        exact hK _ _ rfl (Below.refl _ _)
      · intro Ac Wc Kc hB hsm dep hK
        have t33 : Ac.tmps.getD 33 undef = .pointer (some ⟨p, 0, none⟩) := dep 6 rfl
        refine ⟨true, (show Ac.tmps.getD 32 undef = .bool true from dep 5 rfl), ?_⟩
        rw [if_pos rfl]
        go_simp
        refine (HPa.out Wc (HK.out Wc hB).1).mono ?_
        rintro e w' ⟨v, rfl, ho, hb⟩
        exact hK _ _ (rdl_own ho HZP.out.1) hb
      · intro Ac Wc Kc hB hsm dep hK
        have t4 : Ac.tmps.getD 4 undef = .pointer (some ⟨q, 0, none⟩) := hsm 4 rfl
        refine ⟨true, (show Ac.tmps.getD 32 undef = .bool true from dep 5 rfl), ?_⟩
        rw [if_pos rfl]
        go_simp
        exact hK _ _ rfl (Below.refl _ _)
      · intro Ac Wc Kc hB hsm dep hK
        have t35 : Ac.tmps.getD 35 undef = .pointer (some ⟨q, 0, none⟩) := dep 8 rfl
        refine ⟨true, (show Ac.tmps.getD 32 undef = .bool true from dep 5 rfl), ?_⟩
        rw [if_pos rfl]
        go_simp
        refine (HPb.out Wc (HK.out Wc hB).1).mono ?_
        rintro e w' ⟨v, rfl, ho, hb⟩
        exact hK _ _ (rdl_own ho HZP.out.1) hb
      · intro Ac Wc Kc hB hsm dep hK
        obtain ⟨ao34, b34, c34, t34, r34⟩ := (show RdL Wc (Ac.tmps.getD 34 undef) P from dep 7 rfl)
        obtain ⟨ao36, b36, c36, t36, r36⟩ := (show RdL Wc (Ac.tmps.getD 36 undef) P from dep 9 rfl)
        refine ⟨true, (show Ac.tmps.getD 32 undef = .bool true from dep 5 rfl), ?_⟩
        rw [if_pos rfl]
        go_simp
        refine (same_any Wc _ _ 0 _ _ P r34 _ _ 0 _ r36 HZP.out.2).mono ?_
        rintro e w' ⟨rfl, hb⟩
        exact hK _ _ rfl hb
      · intro Ac Wc Kc hB hsm dep hK
        have t32 : Ac.tmps.getD 32 undef = .bool true := dep 5 rfl
        have t37 : Ac.tmps.getD 37 undef = .bool true := dep 10 rfl
        show Oper.wp _ _ Ac Wc Kc _
        go_simp
        exact hK _ _ rfl (Below.refl _ _)
      · intro Ac Wc Kc hB hsm dep hK
        have t38 : Ac.tmps.getD 38 undef = .bool true := dep 11 rfl
        show Oper.wp _ _ Ac Wc Kc _
        go_simp
        exact hK _ _ rfl (Below.refl _ _)
      · intro Ac Wc Kc hB hsm dep hK
        have t3 : Ac.tmps.getD 3 undef = .pointer (some ⟨p, 0, none⟩) := hsm 3 rfl
        refine ⟨true, (show Ac.tmps.getD 39 undef = .bool true from dep 12 rfl), ?_⟩
        rw [if_pos rfl]
        go_simp
        exact hK _ _ rfl (Below.refl _ _)
      · intro Ac Wc Kc hB hsm dep hK
        have t40 : Ac.tmps.getD 40 undef = .pointer (some ⟨p, 0, none⟩) := dep 13 rfl
        refine ⟨true, (show Ac.tmps.getD 39 undef = .bool true from dep 12 rfl), ?_⟩
        rw [if_pos rfl]
        go_simp
        refine (HRa.out Wc (HK.out Wc hB).1).mono ?_
        rintro e w' ⟨rfl, hb⟩
        exact hK _ _ rfl hb
      · intro Ac Wc Kc hB hsm dep hK
        have t4 : Ac.tmps.getD 4 undef = .pointer (some ⟨q, 0, none⟩) := hsm 4 rfl
        refine ⟨true, (show Ac.tmps.getD 39 undef = .bool true from dep 12 rfl), ?_⟩
        rw [if_pos rfl]
        go_simp
        exact hK _ _ rfl (Below.refl _ _)
      · intro Ac Wc Kc hB hsm dep hK
        have t42 : Ac.tmps.getD 42 undef = .pointer (some ⟨q, 0, none⟩) := dep 15 rfl
        refine ⟨true, (show Ac.tmps.getD 39 undef = .bool true from dep 12 rfl), ?_⟩
        rw [if_pos rfl]
        go_simp
        refine (HRb.out Wc (HK.out Wc hB).1).mono ?_
        rintro e w' ⟨rfl, hb⟩
        exact hK _ _ rfl hb
      · intro Ac Wc Kc hB hsm dep hK
        have t41 : Ac.tmps.getD 41 undef = .agg #[.int .u64 (n : Int), .string rr] := dep 14 rfl
        have t43 : Ac.tmps.getD 43 undef = .agg #[.int .u64 (n : Int), .string rr] := dep 16 rfl
        refine ⟨true, (show Ac.tmps.getD 39 undef = .bool true from dep 12 rfl), ?_⟩
        rw [if_pos rfl]
        go_simp
        exact hK _ _ rfl (Below.refl _ _)
      · intro Ac Wc Kc hB hsm dep hK
        have t39 : Ac.tmps.getD 39 undef = .bool true := dep 12 rfl
        have t44 : Ac.tmps.getD 44 undef = .bool true := dep 17 rfl
        show Oper.wp _ _ Ac Wc Kc _
        go_simp
        exact hK _ _ rfl (Below.refl _ _)
      · intro Ac Wc Kc hB hsm dep hK
        have t45 : Ac.tmps.getD 45 undef = .bool true := dep 18 rfl
        show Oper.wp _ _ Ac Wc Kc _
        go_simp
        exact hK _ _ rfl (Below.refl _ _)
  · have H0 := hide h0
    clear h0
    go_enter Tryd.func8, Tryd.ntmps8
    go_wp2_with (first
      | (go_at_call 9; with_reducible refine (HAl.out _ HB.out).mono ?_; rintro e w1 ⟨rfl, hb1⟩; obtain ⟨y0, y1, y2, y3⟩ := HX.out _ hb1)
      | (go_at_call 29; with_reducible refine (HMd.out _ (bnext HB.out hb1)).mono ?_; intro e w2 hM; obtain ⟨rfl, hb2⟩ := hM.no H0.out; clear hM))
    go_ret
    exact ⟨rfl, bnext (bnext HB.out hb1) hb2⟩
theorem pmade_row (w : World) (ht : Tb w) (hR : Tr w) (K : Int) (fr : Bool) (a : Int) (ha : (Lit.int .u64 a).wf = true) (ao : Option Addr) (b off len cap : Nat) (L : List ByteArray) (hr : RdS w ao b off len L) (hsz : ∀ s ∈ L, s.size ≤ 140737488351232) (hmx : len ≤ 8796093021952) (hno : ao = none → cap = 0) :
    Calls Tryd.prog 8 #[.agg #[.int .i64 K, .bool fr, .int .u64 a, .slice ao len cap]] w fun e w' => e = .returned (.bool true) ∧ Below w.heap.size w w' := by
  have hw := bounds_u64 ha
  obtain ⟨n0, rfl⟩ : ∃ n0 : Nat, a = (n0 : Int) := ⟨a.toNat, by omega⟩
  obtain rfl := hr.hl
  exact pmade_walk w ht hR K fr n0 _ L ⟨by omega, ⟨ao, b, off, cap, rfl, hr, hno⟩, hmx, hsz⟩
end Go.Proofs.YtncndefggegicaaDoor
