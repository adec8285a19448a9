/-
  Walks of the reference: Block, Height, Parent, Sibling. Own work.
-/
import Derived.Test.YtilflepomeoffabRefB
namespace Go.Proofs.Ytilflepomeoffab
open Go.RowKit
attribute [local go_sem ↓] Go.wp_at_zero Go.wp_at_succ
theorem Bk.set1 {w wr : World} {B h k : Nat} (s : Bk w wr B h k) (k' : Nat) : Bk w (wr.setCell ⟨B, 1, none⟩ (.int .u64 (k' : Int))) B h k' := by
  refine ⟨⟨(World.cell?_setCell_other _ _ _ _ (by simp)).trans s.two.c0, World.cell?_setCell_same _ _ _ s.two.c1, (World.frozen?_setCell _ _ _ _).trans s.two.f0, (World.frozen?_setCell _ _ _ _).trans s.two.f1⟩, ?_, ?_, s.lt, by simpa using s.size⟩
  · exact s.res.other (Nat.ne_of_lt s.lt) _ _
  · have := s.lt
    exact s.below.setCell (p := ⟨B, 1, none⟩) (by show w.heap.size ≤ B; omega) _
theorem Bk.begin (w : World) (t t' : Nat) : Bk w ((w.alloc (.cells #[.int .i64 0, .int .u64 0] t)).alloc (.cells #[.int .i64 40, .int .u64 0] t')) (w.heap.size + 1) 40 0 := by
  have q := two_new (w.alloc (.cells #[.int .i64 0, .int .u64 0] t)) 40 0 t'
  rw [World.size_alloc] at q
  refine ⟨q, (two_new w 0 0 t).next (ball _ _), bal (ball _ _) _, by omega, by simp⟩
theorem rblock_no (p : Nat) (w : World) (hp : most < p) :
    Calls Try.prog 7 #[.int .u64 p] w fun e w' => e = .returned (.tuple #[bv 0 0, .bool false]) ∧ Below w.heap.size w w' := by
  have HN : ∀ w', Calls Try.prog 27 #[.int .i64 40] w' fun e w'' => e = .returned (.int .u64 2199023255551) ∧ w' = w'' := fun w' => rnodes_any 40 w' (by omega)
  have ht : decide ((2199023255551 : Int) ≤ (p : Int)) = true := decide_eq_true (by simp only [most] at hp; omega)
  clear hp
  go_enter Try.func7, Try.ntmps7
  go_wp2_with (go_at_call 27; with_reducible refine (HN _).mono ?_; rintro e w' ⟨rfl, rfl⟩)
  go_returns
  exact ⟨rfl, by go_grown⟩
set_option maxHeartbeats 1000000 in
theorem rblock_yes (p : Nat) (w : World) (hp : p ≤ most) :
    Calls Try.prog 7 #[.int .u64 p] w fun e w' => e = .returned (.tuple #[bv (blk p).1 (blk p).2, .bool true]) ∧ Below w.heap.size w w' := by
  have HN : ∀ w', Calls Try.prog 27 #[.int .i64 40] w' fun e w'' => e = .returned (.int .u64 2199023255551) ∧ w' = w'' := fun w' => rnodes_any 40 w' (by omega)
  have ht : decide ((2199023255551 : Int) ≤ (p : Int)) = false := decide_eq_false (by simp only [most] at hp; omega)
  have HP : Hid (p ≤ most ∧ down 40 0 p = blk p) := ⟨hp, rfl⟩
  obtain ⟨bl, hbl⟩ : ∃ bl, blk p = bl := ⟨_, rfl⟩
  rw [hbl] at HP ⊢
  clear hp hbl
  go_enter Try.func7, Try.ntmps7
  go_wp2_with (go_at_call 27; with_reducible refine (HN _).mono ?_; rintro e w' ⟨rfl, rfl⟩)
  have hS := Bk.begin w 25 25
  obtain ⟨B, hB⟩ : ∃ B, w.heap.size + 1 = B := ⟨_, rfl⟩
  rw [hB] at hS ⊢
  generalize ((w.alloc (.cells #[.int .i64 0, .int .u64 0] 25)).alloc (.cells #[.int .i64 40, .int .u64 0] 25)) = w1 at *
  clear HN hB
  go_loopg [5] 40 (fun g v wr => ∃ h k f : Nat, h ≤ 40 ∧ h = g ∧ v = .int .u64 (f : Int) ∧ k < pw (40 - h) ∧ f = fr h k ∧ f ≤ p ∧ p - f < 2 * pw h - 1 ∧ down h k (p - f) = bl ∧ Bk w wr B h k)
  case atStart =>
    go_light
    obtain ⟨z1, z2⟩ := HP.out
    exact ⟨40, 0, 0, by omega, rfl, rfl, by decide, fr_all.symm, Nat.zero_le _, by simp only [most] at z1; simp [pw]; omega, by rw [Nat.sub_zero]; exact z2, hS⟩
  case round =>
    clear hS
    obtain ⟨h, k, f, hh, hg, rfl, hk, hf, hfp, ha, hd, hs⟩ := hrel
    subst hg
    obtain ⟨hpm, _⟩ := HP.out
    simp only [most] at hpm
    have hc0 := hs.two.c0
    have hc1 := hs.two.c1
    have hf0 := hs.two.f0
    have hf1 := hs.two.f1
    have hr0 := hs.res.c0
    have hr1 := hs.res.c1
    have hg0 := hs.res.f0
    have hg1 := hs.res.f1
    have HTR : ∀ w', Calls Try.prog 27 #[.int .i64 (h : Int)] w' fun e w'' => e = .returned (.int .u64 (2 * pw h - 1 : Nat)) ∧ w' = w'' := fun w' => rnodes_any h w' hh
    have hpp := pw_40 h hh
    have hpq := pw_pos h
    obtain ⟨y1, hy1⟩ : ∃ y, f + (2 * pw h - 1) = y := ⟨_, rfl⟩
    obtain ⟨y2, hy2⟩ : ∃ y, y1 - 1 = y := ⟨_, rfl⟩
    have ew1 : IntKind.u64.wrap ((f : Int) + ((2 * pw h - 1 : Nat) : Int)) = (y1 : Int) := by rw [IntKind.wrap_u64]; omega
    have ew2 : IntKind.u64.wrap ((y1 : Int) - 1) = (y2 : Int) := by rw [IntKind.wrap_u64]; omega
    by_cases hlast : p - f = 2 * pw h - 2
    · have hz : down h k (p - f) = (h, k) := by
        cases h with
        | zero => rfl
        | succ h => rw [down, if_pos (by rw [hlast, pw_succ]; omega)]
      rw [hz] at hd
      subst hd
      have HB : Hid (Below w.heap.size w wr) := hs.below
      have s0 : (wr.setCell ⟨w.heap.size, 0, none⟩ (.int .i64 (h : Int))).cell? ⟨w.heap.size, 0, none⟩ = some (.int .i64 (h : Int)) := World.cell?_setCell_same _ _ _ hr0
      have s1 : ((wr.setCell ⟨w.heap.size, 0, none⟩ (.int .i64 (h : Int))).setCell ⟨w.heap.size, 1, none⟩ (.int .u64 (k : Int))).cell? ⟨w.heap.size, 1, none⟩ = some (.int .u64 (k : Int)) :=
        World.cell?_setCell_same _ _ _ ((World.cell?_setCell_other _ _ _ _ (by simp)).trans hr1)
      obtain rfl : p = y2 := by omega
      clear hlast ha hk hz hs hpp hpq hy1 hy2 hf hfp hpm HP
      generalize 2 * pw h - 1 = t at *
      go_wp2_with (go_at_call 27; with_reducible refine (HTR _).mono ?_; rintro e w' ⟨rfl, rfl⟩)
      refine bodyPost_ret (v := .tuple #[.agg #[.int .i64 (h : Int), .int .u64 (k : Int)], .bool true]) (by simp [results, Try.results7, go_sem, s0, s1]) rfl ⟨rfl, ?_⟩
      go_light
      exact (HB.out.setCell (p := ⟨w.heap.size, 0, none⟩) (Nat.le_refl _) _).setCell (p := ⟨w.heap.size, 1, none⟩) (Nat.le_refl _) _
    · obtain ⟨j, hj⟩ : ∃ j, h = j + 1 := ⟨h - 1, by have : h ≠ 0 := by { rintro rfl; simp [pw_zero] at ha; simp [pw_zero] at hlast; omega }; omega⟩
      have HT2 : ∀ w', Calls Try.prog 27 #[.int .i64 (j : Int)] w' fun e w'' => e = .returned (.int .u64 (2 * pw j - 1 : Nat)) ∧ w' = w'' := fun w' => rnodes_any j w' (by omega)
      have tn : ¬ ((p : Int) = (y2 : Int)) := by omega
      have hkb := may_big hk
      have hdj : down h k (p - f) = if p - f < 2 * pw j - 1 then down j (2 * k) (p - f) else down j (2 * k + 1) (p - f - (2 * pw j - 1)) := by
        rw [hj, down, if_neg (by rw [hj, pw_succ] at hlast; omega)]
      have hm2 : 2 * k + 1 < pw (40 - j) := may_two (by omega) (by rw [← hj]; exact hk)
      have hpj := pw_pos j
      have hpj2 := pw_40 j (by omega)
      have hph : pw h = 2 * pw j := by rw [hj, pw_succ]
      have fl := fr_left j k (by omega)
      have fR := fr_right j k (by omega)
      rw [← hj, ← hf] at fl fR
      rw [hd] at hdj
      obtain ⟨t, ht'⟩ : ∃ t, 2 * pw j - 1 = t := ⟨_, rfl⟩
      rw [ht'] at HT2 hdj fR
      obtain ⟨y3, hy3⟩ : ∃ y, f + t = y := ⟨_, rfl⟩
      have ew3 : IntKind.u64.wrap ((f : Int) + (t : Int)) = (y3 : Int) := by rw [IntKind.wrap_u64]; omega
      have ej : (h : Int) - 1 = (j : Int) := by omega
      have ej2 : IntKind.i64.wrap (j : Int) = (j : Int) := by rw [IntKind.wrap_i64]; omega
      obtain ⟨l, hl⟩ : ∃ l, 2 * k = l := ⟨_, rfl⟩
      obtain ⟨r, hr⟩ : ∃ r, l + 1 = r := ⟨_, rfl⟩
      have el : IntKind.u64.wrap (2 * (k : Int)) = (l : Int) := by rw [IntKind.wrap_u64]; omega
      have er : IntKind.u64.wrap ((l : Int) + 1) = (r : Int) := by rw [IntKind.wrap_u64]; omega
      rw [hl] at hdj fl fR hm2
      rw [hr] at hdj fR hm2
      have HS : Hid (Bk w wr B h k) := hs
      have s0 : (wr.setCell ⟨B, 0, none⟩ (.int .i64 (j : Int))).cell? ⟨B, 0, none⟩ = some (.int .i64 (j : Int)) := World.cell?_setCell_same _ _ _ hc0
      have s1 : ((wr.setCell ⟨B, 0, none⟩ (.int .i64 (j : Int))).setCell ⟨B, 1, none⟩ (.int .u64 (l : Int))).cell? ⟨B, 1, none⟩ = some (.int .u64 (l : Int)) :=
        World.cell?_setCell_same _ _ _ ((World.cell?_setCell_other _ _ _ _ (by simp)).trans hc1)
      by_cases hz : p - f < t
      · have hzi : ¬ (y3 : Int) ≤ (p : Int) := by omega
        rw [if_pos hz] at hdj
        have HX : Hid (j ≤ 40 ∧ j < h ∧ l < pw (40 - j) ∧ f = fr j l ∧ f ≤ p ∧ p - f < 2 * pw j - 1 ∧ down j l (p - f) = bl) := ⟨by omega, by omega, by omega, fl.symm, hfp, by omega, hdj.symm⟩
        clear hd hdj hm2 hpj hpj2 hph hpp hpq hlast ha hk hh hj hs hf hfp hpm HP hkb fl fR ht' hy1 hy2 hy3 hl hr hz er hr0 hr1 hg0 hg1
        generalize 2 * pw h - 1 = t1 at *
        go_wp2_with (first | (go_at_call 27; with_reducible refine (HTR _).mono ?_; rintro e w' ⟨rfl, rfl⟩) | (go_at_call 27; with_reducible refine (HT2 _).mono ?_; rintro e w' ⟨rfl, rfl⟩))
        go_roundg j
        case rel =>
          go_light
          obtain ⟨x1, x2, x3, x4, x5, x6, x7⟩ := HX.out
          exact ⟨j, l, f, x1, rfl, rfl, x3, x4, x5, x6, x7, HS.out.set j l⟩
        case measure => go_light; exact HX.out.2.1
      · have hzi : (y3 : Int) ≤ (p : Int) := by omega
        rw [if_neg hz] at hdj
        have e5 : p - f - t = p - y3 := by omega
        rw [e5] at hdj
        have HX : Hid (j ≤ 40 ∧ j < h ∧ r < pw (40 - j) ∧ y3 = fr j r ∧ y3 ≤ p ∧ p - y3 < 2 * pw j - 1 ∧ down j r (p - y3) = bl) := ⟨by omega, by omega, by omega, by omega, by omega, by omega, hdj.symm⟩
        clear hd hdj hm2 hpj hpj2 hph hpp hpq hlast ha hk hh hj hs hf hfp hpm HP hkb fl fR ht' hy1 hy2 hy3 hl hr hz hr0 hr1 hg0 hg1 e5
        generalize 2 * pw h - 1 = t1 at *
        go_wp2_with (first | (go_at_call 27; with_reducible refine (HTR _).mono ?_; rintro e w' ⟨rfl, rfl⟩) | (go_at_call 27; with_reducible refine (HT2 _).mono ?_; rintro e w' ⟨rfl, rfl⟩))
        go_roundg j
        case rel =>
          go_light
          obtain ⟨x1, x2, x3, x4, x5, x6, x7⟩ := HX.out
          exact ⟨j, r, y3, x1, rfl, rfl, x3, x4, x5, x6, x7, (HS.out.set j l).set1 r⟩
        case measure => go_light; exact HX.out.2.1
end Go.Proofs.Ytilflepomeoffab
