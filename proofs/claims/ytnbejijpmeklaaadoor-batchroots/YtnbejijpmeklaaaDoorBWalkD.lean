/-
  Walks of package batch: Root, where it answers no root. Own work.
-/
import Derived.Test.YtnbejijpmeklaaaDoorBWalkC
namespace Go.Proofs.YtnbejijpmeklaaaDoor
open Go.RowKit
open Cv (RdC zl cU tno)
open Pl (pw)
attribute [local go_sem ↓] Go.wp_at_zero Go.wp_at_succ
theorem Rt.drew {w : World} {g n : Nat} {d : ByteArray} (h : Rt w g n d) : Rt w.drew g n d := ⟨h.c0, h.c1, h.f0, h.f1⟩
abbrev noR : Value := .agg #[.int .u64 0, .string ⟨#[]⟩]
theorem root_start {w W0 : World} {kd k : Int} {old size : Nat} {vs vd : Value} (h : (w.alloc (.cells #[.int .i64 kd, .int .i64 k, .int .u64 (old : Int), .int .u64 (size : Int), vs, vd] 32)).alloc (.cells #[.int .u64 0, .string ⟨#[]⟩] 38) = W0) :
    Below w.heap.size w W0 ∧ Six W0 w.heap.size (.int .i64 kd) (.int .i64 k) (.int .u64 (old : Int)) (.int .u64 (size : Int)) vs vd ∧ Rt W0 (w.heap.size + 1) 0 ⟨#[]⟩ ∧ W0.heap.size = w.heap.size + 2 := by
  subst h
  refine ⟨bal (bal (Below.refl _ _) _) _, ?_, ?_, by simp⟩
  · exact (six_new w _ _ _ _ _ _).next (bal (Below.refl _ _) _)
  · have := rt_new (w.alloc (.cells #[.int .i64 kd, .int .i64 k, .int .u64 (old : Int), .int .u64 (size : Int), vs, vd] 32)) 0 ⟨#[]⟩ 38
    rw [World.size_alloc] at this
    exact this
/-- A root is put in its place. -/
theorem rt_put {w : World} {g n : Nat} {d : ByteArray} (h : Rt w g n d) (a : Int) (b : ByteArray) :
    ((w.setCell ⟨g, 0, none⟩ (.int .u64 a)).setCell ⟨g, 1, none⟩ (.string b)).cell? ⟨g, 0, none⟩ = some (.int .u64 a) ∧ ((w.setCell ⟨g, 0, none⟩ (.int .u64 a)).setCell ⟨g, 1, none⟩ (.string b)).cell? ⟨g, 1, none⟩ = some (.string b) ∧ ChT (fun x => x = g) w ((w.setCell ⟨g, 0, none⟩ (.int .u64 a)).setCell ⟨g, 1, none⟩ (.string b)) := by
  refine ⟨?_, ?_, ((ChT.refl (fun x => x = g) w).set g 0 _ rfl).set g 1 _ rfl⟩
  · exact (World.cell?_setCell_other _ _ _ _ (by simp)).trans (World.cell?_setCell_same _ _ _ h.c0)
  · exact World.cell?_setCell_same _ _ _ ((World.cell?_setCell_other _ _ _ _ (by simp)).trans h.c1)
/-- A batch that is well formed. -/
def okB (kd k : Int) (old size : Nat) (S : List Nat) (D : List ByteArray) : Prop := (kd = 2 ∧ (1 ≤ k ∧ k ≤ 32) ∧ old = 0) ∧ (Cv.errS size S = 0 ∧ fil k (Cv.rstS size S).length D)
instance (kd k : Int) (old size : Nat) (S : List Nat) (D : List ByteArray) : Decidable (okB kd k old size S D) := by unfold okB; infer_instance
set_option maxRecDepth 100000 in
set_option maxHeartbeats 1000000 in
theorem broot_no (w : World) (kd k : Int) (old size : Nat) (sa : Option Addr) (sb so ns sc : Nat) (S : List Nat) (hs : RdU w sa sb so ns S) (hns : ns ≤ 5000) (da : Option Addr) (db dO dn dc : Nat) (D : List ByteArray) (hr : RdS w da db dO dn D) (hm : dn ≤ 8796093022208) (xa : Option Addr) (xn xc : Nat) (hno : ¬ (okB kd k old size S D ∧ xn = ns)) :
    Calls Tryd.prog 14 #[vP kd k old size (.slice sa ns sc) (.slice da dn dc), .slice xa xn xc] w fun e w' => e = .returned (.tuple #[noR, .int .i64 150]) ∧ Below w.heap.size w w' := by
  have hl := hs.hl
  have hdl := hr.hl
  subst hdl
  obtain ⟨r1, hr1⟩ : ∃ r, decide (kd = 2 ∧ (1 ≤ k ∧ k ≤ 32) ∧ old = 0) = r := ⟨_, rfl⟩
  obtain ⟨r2, hr2⟩ : ∃ r, decide (Cv.errS size S = 0 ∧ fil k (Cv.rstS size S).length D) = r := ⟨_, rfl⟩
  have HI : Hid (∀ W, Calls Tryd.prog 31 #[vP kd k old size (.slice sa ns sc) (.slice da D.length dc)] W fun e w' => e = .returned (.bool r1) ∧ Below W.heap.size W w') := fun W => isb_core W kd k old size sa ns sc da D.length dc r1 hr1
  have HF : Hid (∀ W, Below w.heap.size w W → Calls Tryd.prog 32 #[vP kd k old size (.slice sa ns sc) (.slice da D.length dc)] W fun e w' => e = .returned (.bool r2) ∧ Below W.heap.size W w') := fun W hb => bfilled_core W kd k old size sa sb so ns sc S (hs.next hb) hns da db dO dc D (hr.next hb (Nat.le_refl _)) hm _ rfl _ rfl r2 hr2
  have HN : Hid (r1 = true → r2 = true → ¬ xn = ns) := fun h1 h2 h3 => hno ⟨⟨of_decide_eq_true (hr1.trans h1), of_decide_eq_true (hr2.trans h2)⟩, h3⟩
  obtain ⟨W0, hW0⟩ : ∃ W0, (w.alloc (.cells #[.int .i64 kd, .int .i64 k, .int .u64 (old : Int), .int .u64 (size : Int), .slice sa ns sc, .slice da D.length dc] 32)).alloc (.cells #[.int .u64 0, .string ⟨#[]⟩] 38) = W0 := ⟨_, rfl⟩
  obtain ⟨hb, h6, hRt, hz⟩ := root_start hW0
  obtain ⟨c0, c1, c2, c3, c4, c5⟩ := h6.cells
  have HR := hide (And.intro hRt hz)
  have H6 := hide h6
  clear hs hr hm hno hr1 hr2 h6 hRt hz
  cases r1 with
  | false =>
    clear HF HN
    go_enter Tryd.func14, Tryd.ntmps14
    go_wp2_with (go_at_call 31; with_reducible refine (HI.out _).mono ?_; rintro e w1 ⟨rfl, hb1⟩; have hR := HR.out.1.below hb1 (by rw [HR.out.2]; omega); have k0 := hR.c0; have k1 := hR.c1; have f0 := hR.f0; have f1 := hR.f1)
    obtain ⟨s0, s1, hch⟩ := rt_put hR 0 ⟨#[]⟩
    refine bodyPost_ret (v := .tuple #[noR, .int .i64 150]) (by simp [results, Tryd.results14, go_sem, s0, s1]) rfl ⟨rfl, ?_⟩
    exact (bnext hb hb1).trans (hch.below (by rintro b rfl; omega))
  | true =>
    cases r2 with
    | false =>
      clear HN
      go_enter Tryd.func14, Tryd.ntmps14
      go_wp2_with (first
        | (go_at_call 31; with_reducible refine (HI.out _).mono ?_; rintro e w1 ⟨rfl, hb1⟩; obtain ⟨d0, d1, d2, d3, d4, d5⟩ := (H6.out.next hb1).cells)
        | (go_at_call 32; with_reducible refine (HF.out _ (bnext hb hb1)).mono ?_; rintro e w2 ⟨rfl, hb2⟩; have hR := HR.out.1.below (bnext hb1 hb2) (by rw [HR.out.2]; omega); have k0 := hR.c0; have k1 := hR.c1; have f0 := hR.f0; have f1 := hR.f1))
      obtain ⟨s0, s1, hch⟩ := rt_put hR 0 ⟨#[]⟩
      refine bodyPost_ret (v := .tuple #[noR, .int .i64 150]) (by simp [results, Tryd.results14, go_sem, s0, s1]) rfl ⟨rfl, ?_⟩
      exact (bnext (bnext hb hb1) hb2).trans (hch.below (by rintro b rfl; omega))
    | true =>
      have hne := HN.out rfl rfl
      have hz : ¬ (xn : Int) = (ns : Int) := by omega
      clear HN hne
      go_enter Tryd.func14, Tryd.ntmps14
      go_wp2_with (first
        | (go_at_call 31; with_reducible refine (HI.out _).mono ?_; rintro e w1 ⟨rfl, hb1⟩; obtain ⟨d0, d1, d2, d3, d4, d5⟩ := (H6.out.next hb1).cells)
        | (go_at_call 32; with_reducible refine (HF.out _ (bnext hb hb1)).mono ?_; rintro e w2 ⟨rfl, hb2⟩; have hR := HR.out.1.below (bnext hb1 hb2) (by rw [HR.out.2]; omega); have k0 := hR.c0; have k1 := hR.c1; have f0 := hR.f0; have f1 := hR.f1; obtain ⟨g0, g1, g2, g3, g4, g5⟩ := (H6.out.next (bnext hb1 hb2)).cells))
      obtain ⟨s0, s1, hch⟩ := rt_put hR 0 ⟨#[]⟩
      refine bodyPost_ret (v := .tuple #[noR, .int .i64 150]) (by simp [results, Tryd.results14, go_sem, s0, s1]) rfl ⟨rfl, ?_⟩
      exact (bnext (bnext hb hb1) hb2).trans (hch.below (by rintro b rfl; omega))
set_option maxRecDepth 100000 in
set_option maxHeartbeats 1000000 in
theorem broot_long (w : World) (k : Int) (size : Nat) (sa : Option Addr) (sb so sc : Nat) (S : List Nat) (X : List ByteArray) (hs : RdU w sa sb so X.length S) (hns : X.length ≤ 5000) (da : Option Addr) (db dO dc : Nat) (D : List ByteArray) (hr : RdS w da db dO D.length D) (hm : D.length ≤ 8796093022208) (xa : Option Addr) (xb xo xc : Nat) (hx : RdS w xa xb xo X.length X) (hok : okB 2 k 0 size S D) (hlong : ¬ ∀ s ∈ X, s.size ≤ 1048576) :
    Calls Tryd.prog 14 #[vP 2 k 0 size (.slice sa X.length sc) (.slice da D.length dc), .slice xa X.length xc] w fun e w' => e = .returned (.tuple #[noR, .int .i64 100]) ∧ Below w.heap.size w w' := by
  have HI : Hid (∀ W, Calls Tryd.prog 31 #[vP 2 k 0 size (.slice sa X.length sc) (.slice da D.length dc)] W fun e w' => e = .returned (.bool true) ∧ Below W.heap.size W w') := fun W => isb_core W 2 k 0 size sa X.length sc da D.length dc true (decide_eq_true hok.1)
  have HF : Hid (∀ W, Below w.heap.size w W → Calls Tryd.prog 32 #[vP 2 k 0 size (.slice sa X.length sc) (.slice da D.length dc)] W fun e w' => e = .returned (.bool true) ∧ Below W.heap.size W w') := fun W hb => bfilled_core W 2 k 0 size sa sb so X.length sc S (hs.next hb) hns da db dO dc D (hr.next hb (Nat.le_refl _)) hm _ rfl _ rfl true (decide_eq_true hok.2)
  have HX : Hid (∀ W, Below w.heap.size w W → RdS W xa xb xo X.length X) := fun W hb => hx.next hb (Nat.le_refl _)
  obtain ⟨W0, hW0⟩ : ∃ W0, (w.alloc (.cells #[.int .i64 2, .int .i64 k, .int .u64 ((0 : Nat) : Int), .int .u64 (size : Int), .slice sa X.length sc, .slice da D.length dc] 32)).alloc (.cells #[.int .u64 0, .string ⟨#[]⟩] 38) = W0 := ⟨_, rfl⟩
  obtain ⟨hb, h6, hRt, hz⟩ := root_start hW0
  rw [show ((0 : Nat) : Int) = 0 from rfl] at hW0 h6
  obtain ⟨c0, c1, c2, c3, c4, c5⟩ := h6.cells
  have HR := hide (And.intro hRt hz)
  have H6 := hide h6
  have HN := hide hlong
  have hn5 : (X.length : Int) ≤ 5000 := by omega
  clear hs hr hm hok h6 hRt hz hx hlong
  unfold vP at HI HF
  rw [show ((0 : Nat) : Int) = 0 from rfl] at HI HF
  unfold vP
  rw [show ((0 : Nat) : Int) = 0 from rfl]
  go_enter Tryd.func14, Tryd.ntmps14
  go_upto_region 3 with (first
    | (go_at_call 31; with_reducible refine (HI.out _).mono ?_; rintro e w1 ⟨rfl, hb1⟩; obtain ⟨d0, d1, d2, d3, d4, d5⟩ := (H6.out.next hb1).cells)
    | (go_at_call 32; with_reducible refine (HF.out _ (bnext hb hb1)).mono ?_; rintro e w2 ⟨rfl, hb2⟩; have hR := HR.out.1.below (bnext hb1 hb2) (by rw [HR.out.2]; omega); have k0 := hR.c0; have k1 := hR.c1; have f0 := hR.f0; have f1 := hR.f1; obtain ⟨g0, g1, g2, g3, g4, g5⟩ := (H6.out.next (bnext hb1 hb2)).cells))
  have hbw := bnext (bnext hb hb1) hb2
  clear hb hb1 hb2 c0 c1 c2 c3 c4 c5 d0 d1 d2 d3 d4 d5 HI HF
  go_wp2
  go_loopg [36] X.length (fun g i wr => ∃ j : Nat, j ≤ X.length ∧ g = X.length - j ∧ i = .int .i64 (j : Int) ∧ (∀ t, t < j → (X.getD t ByteArray.empty).size ≤ 1048576) ∧ w2 = wr)
  case atStart =>
    go_light
    exact ⟨0, Nat.zero_le _, rfl, rfl, fun t ht => absurd ht (Nat.not_lt_zero _), rfl⟩
  case round =>
    obtain ⟨j, hj, rfl, rfl, hal, rfl⟩ := hrel
    by_cases hlt : j < X.length
    · have hz : (j : Int) < (X.length : Int) := by omega
      have hz0 : (0 : Int) ≤ (j : Int) := Int.natCast_nonneg _
      have hrd := HX.out w2 hbw
      obtain rfl := hrd.ptr (by omega)
      have cj := hrd.at hlt
      obtain ⟨d, hd⟩ : ∃ d, X.getD j ByteArray.empty = d := ⟨_, rfl⟩
      rw [hd] at cj
      by_cases hk : d.size ≤ 1048576
      · have HN2 : Hid (∀ t, t < j + 1 → (X.getD t ByteArray.empty).size ≤ 1048576) := fun t ht => by
          rcases Nat.lt_or_eq_of_le (Nat.le_of_lt_succ ht) with hx | rfl
          · exact hal t hx
          · rw [hd]; exact hk
        have hkz : ¬ (1048576 : Int) < (d.size : Int) := by omega
        clear hd hal hrd hk
        go_wp2
        go_roundg (X.length - (j + 1))
        case rel =>
          go_light
          exact ⟨j + 1, by omega, rfl, by go_num, HN2.out, rfl⟩
        case measure => go_light; omega
      · have hkz : (1048576 : Int) < (d.size : Int) := by omega
        clear hd hal hrd hk
        go_wp2
        obtain ⟨s0, s1, hch⟩ := rt_put hR 0 ⟨#[]⟩
        refine bodyPost_ret (v := .tuple #[noR, .int .i64 100]) (by simp [results, Tryd.results14, go_sem, s0, s1]) rfl ⟨rfl, ?_⟩
        exact hbw.trans (hch.below (by rintro b rfl; omega))
    · exfalso
      refine HN.out fun s hs => ?_
      obtain ⟨t, ht, rfl⟩ := List.getElem_of_mem hs
      have := hal t (by omega)
      rwa [List.getD_eq_getElem?_getD, List.getElem?_eq_getElem ht] at this
end Go.Proofs.YtnbejijpmeklaaaDoor
