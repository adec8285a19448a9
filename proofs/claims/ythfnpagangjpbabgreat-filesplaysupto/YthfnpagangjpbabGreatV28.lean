/-
  Own work: FWalkL.
-/
import Derived.Test.YthfnpagangjpbabGreatV22
namespace Go.Proofs.YthfnpagangjpbabGreat
open Go.RowKit
open Rc
attribute [local go_sem ↓] Go.wp_at_zero Go.wp_at_succ
theorem rm_cutI {n : Nat} {D : DV} (s : List UInt8) (m : Nat) (hz : (fget D.L s).now.length ≤ 268435456) (h : Rm (n + 1) D) : Rm n (cutI s m D).1 := by
  unfold cutI
  split
  · exact h.mono (by omega)
  · exact rm_cut s _ hz h
section
variable {q p : Nat} {T : Nat → Prop} {D : DV} {S : SV}
theorem str3_at {W : World} {g : Nat} {a b c : Value} {U : TypeId} (h : W.heap[g]? = some (.cells #[a, b, c] U (0, 0))) : W.cell? ⟨g, 0, none⟩ = some a ∧ W.cell? ⟨g, 1, none⟩ = some b ∧ W.cell? ⟨g, 2, none⟩ = some c := three_at h
theorem Sk.cutI {w w0 : World} {T1 : Nat → Prop} {D1 : DV} (h : Sk w q p T1 D1 S) (hT : ∀ x, T1 x → T x ∨ w0.heap.size ≤ x) (hu : Upo T w0 w) (hr : Rmy D1) (s : ByteArray) (hs : s.size ≤ maxLen) (n : Nat) (hn : n ≤ 9223372036854775807) (D2 : DV) (r : Int) (hD : cutD D1 s.data.toList (n : Int) = (D2, r)) :
    Hid (∀ W, Below w.heap.size w W → Calls Tryz.prog 101 #[.pointer (some ⟨p, 0, none⟩), .string s, .int .i64 (n : Int)] W fun e w' => e = .returned (.int .i64 r) ∧ SkM w0 w' q p T D2 S) := fun W hW => by
  have := (h.next hW).cut hr s hs n (by omega) (by omega)
  rw [hD] at this
  exact this.mono fun e w' z => ⟨z.1, skm_join hT hu (z.2.first hW)⟩
set_option maxRecDepth 100000 in
set_option maxHeartbeats 4000000 in
theorem settle_any (w : World) (h : Sk w q p T D S) (hrm : Rm 7 D) (D' : DV) (r : Int) (hR : runA (stl S.ends) D = (D', r)) :
    Calls Tryz.prog 53 #[.pointer (some ⟨q, 0, none⟩)] w fun e w' => e = .returned (.int .i64 r) ∧ SkM w w' q p T D' S := by
  obtain ⟨hk1, hk2, hf, _, _, hlow⟩ := h.small
  have hnn := nn_le S.ends.length
  obtain ⟨w1, hw1⟩ : ∃ W, w.alloc (.cells #[.string ⟨#[105, 116, 101, 109, 115]⟩, .string ⟨#[110, 111, 100, 101, 115]⟩, .string ⟨#[109, 97, 114, 107, 115]⟩] 9) = W := ⟨_, rfl⟩
  have u1 : Below w.heap.size w w1 := by rw [← hw1]; exact bal (Below.refl _ _) _
  obtain ⟨bn, hbn⟩ : ∃ b, w.heap.size = b := ⟨_, rfl⟩
  have k1 : w1.heap[bn]? = some (.cells #[.string ⟨#[105, 116, 101, 109, 115]⟩, .string ⟨#[110, 111, 100, 101, 115]⟩, .string ⟨#[109, 97, 114, 107, 115]⟩] 9 (0, 0)) := by rw [← hw1, ← hbn]; exact new1 _ _
  have nT : ¬ T bn := fun e => by have := h.lt e; omega
  have HW := hide hw1
  have HB := hide hbn
  have HC : Hid (∀ W Dj, SkM w1 W q p T Dj S → W.cell? ⟨bn, 0, none⟩ = some (.string ⟨#[105, 116, 101, 109, 115]⟩) ∧ W.cell? ⟨bn, 1, none⟩ = some (.string ⟨#[110, 111, 100, 101, 115]⟩) ∧ W.cell? ⟨bn, 2, none⟩ = some (.string ⟨#[109, 97, 114, 107, 115]⟩) ∧ W.cell? ⟨q, 0, none⟩ = some (.pointer (some ⟨p, 0, none⟩))) := fun W Dj hW => by
    obtain ⟨y0, y1, y2⟩ := str3_at k1
    refine ⟨hW.cell y0 nT, hW.cell y1 nT, hW.cell y2 nT, ?_⟩
    obtain ⟨T1, hk, _, _⟩ := hW
    obtain ⟨_, _, ⟨c0, _⟩, _⟩ := hk.cells
    exact c0
  have HS0 : Hid (SkM w1 w1 q p T D S) := SkM.of (h.next u1) (Below.refl _ _)
  have HR0 := hide hrm
  have HU := hide u1
  have HQ : Hid (runA (stl S.ends) D = (D', r)) := hR
  have hsz : ∀ (Dj : DV) (W : World), SkM w1 W q p T Dj S → ∀ s, sizD Dj s ≤ 268435456 := fun Dj W hW s => by
    obtain ⟨T1, hk, _, _⟩ := hW
    unfold sizD
    split
    · omega
    · exact hk.sz s
  clear hw1 hbn u1 h k1 nT hrm hR
  go_enter Tryz.func53, Tryz.ntmps53
  go_upto_region 2 with (fail)
  try rw [HW.out, HB.out]
  go_wp2
  go_loopg [13] 3 (fun g x wr => ∃ (j : Nat) (Dj : DV), j ≤ 3 ∧ g = 3 - j ∧ x = .int .i64 (j : Int) ∧ Hid (SkM w1 wr q p T Dj S) ∧ Hid (Rm (7 - j) Dj) ∧ Hid (runA ((stl S.ends).drop j) Dj = (D', r)))
  case atStart =>
    go_light
    exact ⟨0, D, by decide, rfl, rfl, HS0, HR0, HQ⟩
  case round =>
    obtain ⟨j, Dj, hj, rfl, rfl, HS, HRj, HI⟩ := hrel
    have HI := HI.out
    clear HS0 HR0 HQ
    rcases (show j = 0 ∨ j = 1 ∨ j = 2 ∨ j = 3 by omega) with rfl | rfl | rfl | rfl
    · have hrj : Rm 7 Dj := HRj.out
      obtain ⟨T1, hk, hT, hu⟩ := HS.out
      have HL : Hid (∀ W, Below wr.heap.size wr W → Calls Tryz.prog 57 #[.pointer (some ⟨q, 0, none⟩), .string ⟨#[105, 116, 101, 109, 115]⟩] W fun e w' => e = .returned (.int .i64 ((lst S.ends : Nat) : Int)) ∧ w' = W) := fun W hW => length_items W (hk.next hW)
      have HZs : Hid (∀ W, Below wr.heap.size wr W → Calls Tryz.prog 98 #[.pointer (some ⟨p, 0, none⟩), .string ⟨#[105, 116, 101, 109, 115]⟩] W fun e w' => e = .returned (.int .i64 (sizD Dj nmI : Int)) ∧ w' = W) := fun W hW => (hk.next hW).size ⟨#[105, 116, 101, 109, 115]⟩ (by decide)
      have hrc : Rm 6 (cutI nmI (lst S.ends) Dj).1 := rm_cutI _ _ (hk.sz _) hrj
      have hE : runA ((stl S.ends).drop 0) Dj = if (cutI nmI (lst S.ends) Dj).2 = 0 then runA ((stl S.ends).drop 1) (cutI nmI (lst S.ends) Dj).1 else cutI nmI (lst S.ends) Dj := rfl
      rw [hE] at HI
      obtain ⟨c0, c1, c2, c3⟩ := HC.out _ _ HS.out
      have hz : ((0 : Nat) : Int) < 3 := by decide
      have hss := hsz Dj wr HS.out nmI
      obtain ⟨D1, r1, hD1⟩ : ∃ D1 r1, cutD Dj nmI ((lst S.ends : Nat) : Int) = (D1, r1) := ⟨_, _, rfl⟩
      have HCu := Sk.cutI hk hT hu hrj.rmy ⟨#[105, 116, 101, 109, 115]⟩ (by decide) (lst S.ends) (by omega) D1 r1 hD1
      unfold cutI at HI hrc
      rw [hD1] at HI hrc
      clear hE hD1 hk hT hu hrj HRj
      generalize (lst S.ends) = ls at *
      obtain ⟨z, hzz⟩ : ∃ z, sizD Dj nmI = z := ⟨_, rfl⟩
      rw [hzz] at HI hrc HZs hss
      clear hzz
      by_cases hle : z ≤ ls
      · have hle1 : (z : Int) ≤ (ls : Int) := by omega
        rw [if_pos hle, if_pos rfl] at HI
        rw [if_pos hle] at hrc
        have HI2 := hide HI
        have HR2 := hide hrc
        clear HI hrc HCu
        go_wp2_with (first
          | (go_at_call 98; (with_reducible refine (HZs.out _ (Below.refl _ _)).mono ?_); rintro e w2 ⟨rfl, rfl⟩)
          | (go_at_call 57; (with_reducible refine (HL.out _ (Below.refl _ _)).mono ?_); rintro e w2 ⟨rfl, rfl⟩))
        go_roundg 2
        case rel =>
          go_light
          exact ⟨1, Dj, by decide, rfl, by first | rfl | go_num, HS, HR2, HI2⟩
        case measure => go_light; decide
      · have hle1 : ¬ (z : Int) ≤ (ls : Int) := by omega
        rw [if_neg hle] at HI hrc
        have HC3 : Hid (∀ W, SkM w1 W q p T D1 S → W.cell? ⟨q, 0, none⟩ = some (.pointer (some ⟨p, 0, none⟩))) := fun W hW => (HC.out _ _ hW).2.2.2
        have HC4 : Hid (∀ W, Below wr.heap.size wr W → W.cell? ⟨q, 0, none⟩ = some (.pointer (some ⟨p, 0, none⟩))) := fun W hW => (HC.out _ _ (SkM.last HS.out hW)).2.2.2
        by_cases h0 : r1 = 0
        · subst h0
          simp only [if_true] at HI
          have HI2 := hide HI
          have HR2 := hide hrc
          clear HI hrc
          go_upto_region 6 with (first
            | (go_at_call 98; (with_reducible refine (HZs.out _ (Below.refl _ _)).mono ?_); rintro e w2 ⟨rfl, rfl⟩)
            | (go_at_call 57; (with_reducible refine (HL.out _ (Below.refl _ _)).mono ?_); rintro e w2 ⟨rfl, rfl⟩))
          have u := bdz w2
          go_region_held3 (fun Z => Z.cell? ⟨q, 0, none⟩ = some (.pointer (some ⟨p, 0, none⟩))) (first | assumption | (with_reducible exact HC3.out _ t9) | (with_reducible exact HC4.out _ u)) (first
            | (go_at_call 57; (with_reducible refine (HL.out _ u).mono ?_); rintro e w2 ⟨rfl, rfl⟩)
            | (go_at_call 101; (with_reducible refine (HCu.out _ u).mono ?_); rintro e w9 ⟨rfl, t9⟩))
          all_goals
            go_wp2
            go_roundg 2
            case rel =>
              go_light
              exact ⟨1, D1, by decide, rfl, by first | rfl | go_num, t9, HR2, HI2⟩
            case measure => go_light; decide
        · simp only [if_neg h0] at HI
          injection HI with HI1 HI3
          subst HI1 HI3
          have hr0 : (r1 != 0) = true := by simp [h0]
          have HZ : Hid (∀ W, SkM w1 W q p T D1 S → SkM w W q p T D1 S) := fun W hW => hW.first HU.out
          go_upto_region 6 with (first
            | (go_at_call 98; (with_reducible refine (HZs.out _ (Below.refl _ _)).mono ?_); rintro e w2 ⟨rfl, rfl⟩)
            | (go_at_call 57; (with_reducible refine (HL.out _ (Below.refl _ _)).mono ?_); rintro e w2 ⟨rfl, rfl⟩))
          have u := bdz w2
          go_region_held3 (fun Z => Z.cell? ⟨q, 0, none⟩ = some (.pointer (some ⟨p, 0, none⟩))) (first | assumption | (with_reducible exact HC3.out _ t9) | (with_reducible exact HC4.out _ u)) (first
            | (go_at_call 57; (with_reducible refine (HL.out _ u).mono ?_); rintro e w2 ⟨rfl, rfl⟩)
            | (go_at_call 101; (with_reducible refine (HCu.out _ u).mono ?_); rintro e w9 ⟨rfl, t9⟩))
          all_goals
            go_wp2
            go_ret
            exact ⟨rfl, HZ.out _ t9⟩
    · have hrj : Rm 6 Dj := HRj.out
      obtain ⟨T1, hk, hT, hu⟩ := HS.out
      have HL : Hid (∀ W, Below wr.heap.size wr W → Calls Tryz.prog 57 #[.pointer (some ⟨q, 0, none⟩), .string ⟨#[110, 111, 100, 101, 115]⟩] W fun e w' => e = .returned (.int .i64 ((nn S.ends.length * 40 : Nat) : Int)) ∧ w' = W) := fun W hW => length_nodes W (hk.next hW)
      have HZs : Hid (∀ W, Below wr.heap.size wr W → Calls Tryz.prog 98 #[.pointer (some ⟨p, 0, none⟩), .string ⟨#[110, 111, 100, 101, 115]⟩] W fun e w' => e = .returned (.int .i64 (sizD Dj nmN : Int)) ∧ w' = W) := fun W hW => (hk.next hW).size ⟨#[110, 111, 100, 101, 115]⟩ (by decide)
      have hrc : Rm 5 (cutI nmN (nn S.ends.length * 40) Dj).1 := rm_cutI _ _ (hk.sz _) hrj
      have hE : runA ((stl S.ends).drop 1) Dj = if (cutI nmN (nn S.ends.length * 40) Dj).2 = 0 then runA ((stl S.ends).drop 2) (cutI nmN (nn S.ends.length * 40) Dj).1 else cutI nmN (nn S.ends.length * 40) Dj := rfl
      rw [hE] at HI
      obtain ⟨c0, c1, c2, c3⟩ := HC.out _ _ HS.out
      have hz : ((1 : Nat) : Int) < 3 := by decide
      have hss := hsz Dj wr HS.out nmN
      obtain ⟨D1, r1, hD1⟩ : ∃ D1 r1, cutD Dj nmN ((nn S.ends.length * 40 : Nat) : Int) = (D1, r1) := ⟨_, _, rfl⟩
      have HCu := Sk.cutI hk hT hu hrj.rmy ⟨#[110, 111, 100, 101, 115]⟩ (by decide) (nn S.ends.length * 40) (by omega) D1 r1 hD1
      unfold cutI at HI hrc
      rw [hD1] at HI hrc
      clear hE hD1 hk hT hu hrj HRj
      generalize (nn S.ends.length * 40) = ln at *
      obtain ⟨z, hzz⟩ : ∃ z, sizD Dj nmN = z := ⟨_, rfl⟩
      rw [hzz] at HI hrc HZs hss
      clear hzz
      by_cases hle : z ≤ ln
      · have hle1 : (z : Int) ≤ (ln : Int) := by omega
        rw [if_pos hle, if_pos rfl] at HI
        rw [if_pos hle] at hrc
        have HI2 := hide HI
        have HR2 := hide hrc
        clear HI hrc HCu
        go_wp2_with (first
          | (go_at_call 98; (with_reducible refine (HZs.out _ (Below.refl _ _)).mono ?_); rintro e w2 ⟨rfl, rfl⟩)
          | (go_at_call 57; (with_reducible refine (HL.out _ (Below.refl _ _)).mono ?_); rintro e w2 ⟨rfl, rfl⟩))
        go_roundg 1
        case rel =>
          go_light
          exact ⟨2, Dj, by decide, rfl, by first | rfl | go_num, HS, HR2, HI2⟩
        case measure => go_light; decide
      · have hle1 : ¬ (z : Int) ≤ (ln : Int) := by omega
        rw [if_neg hle] at HI hrc
        have HC3 : Hid (∀ W, SkM w1 W q p T D1 S → W.cell? ⟨q, 0, none⟩ = some (.pointer (some ⟨p, 0, none⟩))) := fun W hW => (HC.out _ _ hW).2.2.2
        have HC4 : Hid (∀ W, Below wr.heap.size wr W → W.cell? ⟨q, 0, none⟩ = some (.pointer (some ⟨p, 0, none⟩))) := fun W hW => (HC.out _ _ (SkM.last HS.out hW)).2.2.2
        by_cases h0 : r1 = 0
        · subst h0
          simp only [if_true] at HI
          have HI2 := hide HI
          have HR2 := hide hrc
          clear HI hrc
          go_upto_region 6 with (first
            | (go_at_call 98; (with_reducible refine (HZs.out _ (Below.refl _ _)).mono ?_); rintro e w2 ⟨rfl, rfl⟩)
            | (go_at_call 57; (with_reducible refine (HL.out _ (Below.refl _ _)).mono ?_); rintro e w2 ⟨rfl, rfl⟩))
          have u := bdz w2
          go_region_held3 (fun Z => Z.cell? ⟨q, 0, none⟩ = some (.pointer (some ⟨p, 0, none⟩))) (first | assumption | (with_reducible exact HC3.out _ t9) | (with_reducible exact HC4.out _ u)) (first
            | (go_at_call 57; (with_reducible refine (HL.out _ u).mono ?_); rintro e w2 ⟨rfl, rfl⟩)
            | (go_at_call 101; (with_reducible refine (HCu.out _ u).mono ?_); rintro e w9 ⟨rfl, t9⟩))
          all_goals
            go_wp2
            go_roundg 1
            case rel =>
              go_light
              exact ⟨2, D1, by decide, rfl, by first | rfl | go_num, t9, HR2, HI2⟩
            case measure => go_light; decide
        · simp only [if_neg h0] at HI
          injection HI with HI1 HI3
          subst HI1 HI3
          have hr0 : (r1 != 0) = true := by simp [h0]
          have HZ : Hid (∀ W, SkM w1 W q p T D1 S → SkM w W q p T D1 S) := fun W hW => hW.first HU.out
          go_upto_region 6 with (first
            | (go_at_call 98; (with_reducible refine (HZs.out _ (Below.refl _ _)).mono ?_); rintro e w2 ⟨rfl, rfl⟩)
            | (go_at_call 57; (with_reducible refine (HL.out _ (Below.refl _ _)).mono ?_); rintro e w2 ⟨rfl, rfl⟩))
          have u := bdz w2
          go_region_held3 (fun Z => Z.cell? ⟨q, 0, none⟩ = some (.pointer (some ⟨p, 0, none⟩))) (first | assumption | (with_reducible exact HC3.out _ t9) | (with_reducible exact HC4.out _ u)) (first
            | (go_at_call 57; (with_reducible refine (HL.out _ u).mono ?_); rintro e w2 ⟨rfl, rfl⟩)
            | (go_at_call 101; (with_reducible refine (HCu.out _ u).mono ?_); rintro e w9 ⟨rfl, t9⟩))
          all_goals
            go_wp2
            go_ret
            exact ⟨rfl, HZ.out _ t9⟩
    · have hrj : Rm 5 Dj := HRj.out
      obtain ⟨T1, hk, hT, hu⟩ := HS.out
      have HL : Hid (∀ W, Below wr.heap.size wr W → Calls Tryz.prog 57 #[.pointer (some ⟨q, 0, none⟩), .string ⟨#[109, 97, 114, 107, 115]⟩] W fun e w' => e = .returned (.int .i64 ((S.ends.length * 64 : Nat) : Int)) ∧ w' = W) := fun W hW => length_marks W (hk.next hW)
      have HZs : Hid (∀ W, Below wr.heap.size wr W → Calls Tryz.prog 98 #[.pointer (some ⟨p, 0, none⟩), .string ⟨#[109, 97, 114, 107, 115]⟩] W fun e w' => e = .returned (.int .i64 (sizD Dj nmM : Int)) ∧ w' = W) := fun W hW => (hk.next hW).size ⟨#[109, 97, 114, 107, 115]⟩ (by decide)
      have hrc : Rm 4 (cutI nmM (S.ends.length * 64) Dj).1 := rm_cutI _ _ (hk.sz _) hrj
      have hE : runA ((stl S.ends).drop 2) Dj = if (cutI nmM (S.ends.length * 64) Dj).2 = 0 then runA ((stl S.ends).drop 3) (cutI nmM (S.ends.length * 64) Dj).1 else cutI nmM (S.ends.length * 64) Dj := rfl
      rw [hE] at HI
      obtain ⟨c0, c1, c2, c3⟩ := HC.out _ _ HS.out
      have hz : ((2 : Nat) : Int) < 3 := by decide
      have hss := hsz Dj wr HS.out nmM
      obtain ⟨D1, r1, hD1⟩ : ∃ D1 r1, cutD Dj nmM ((S.ends.length * 64 : Nat) : Int) = (D1, r1) := ⟨_, _, rfl⟩
      have HCu := Sk.cutI hk hT hu hrj.rmy ⟨#[109, 97, 114, 107, 115]⟩ (by decide) (S.ends.length * 64) (by omega) D1 r1 hD1
      unfold cutI at HI hrc
      rw [hD1] at HI hrc
      clear hE hD1 hk hT hu hrj HRj
      generalize (S.ends.length * 64) = lm at *
      obtain ⟨z, hzz⟩ : ∃ z, sizD Dj nmM = z := ⟨_, rfl⟩
      rw [hzz] at HI hrc HZs hss
      clear hzz
      by_cases hle : z ≤ lm
      · have hle1 : (z : Int) ≤ (lm : Int) := by omega
        rw [if_pos hle, if_pos rfl] at HI
        rw [if_pos hle] at hrc
        have HI2 := hide HI
        have HR2 := hide hrc
        clear HI hrc HCu
        go_wp2_with (first
          | (go_at_call 98; (with_reducible refine (HZs.out _ (Below.refl _ _)).mono ?_); rintro e w2 ⟨rfl, rfl⟩)
          | (go_at_call 57; (with_reducible refine (HL.out _ (Below.refl _ _)).mono ?_); rintro e w2 ⟨rfl, rfl⟩))
        go_roundg 0
        case rel =>
          go_light
          exact ⟨3, Dj, by decide, rfl, by first | rfl | go_num, HS, HR2, HI2⟩
        case measure => go_light; decide
      · have hle1 : ¬ (z : Int) ≤ (lm : Int) := by omega
        rw [if_neg hle] at HI hrc
        have HC3 : Hid (∀ W, SkM w1 W q p T D1 S → W.cell? ⟨q, 0, none⟩ = some (.pointer (some ⟨p, 0, none⟩))) := fun W hW => (HC.out _ _ hW).2.2.2
        have HC4 : Hid (∀ W, Below wr.heap.size wr W → W.cell? ⟨q, 0, none⟩ = some (.pointer (some ⟨p, 0, none⟩))) := fun W hW => (HC.out _ _ (SkM.last HS.out hW)).2.2.2
        by_cases h0 : r1 = 0
        · subst h0
          simp only [if_true] at HI
          have HI2 := hide HI
          have HR2 := hide hrc
          clear HI hrc
          go_upto_region 6 with (first
            | (go_at_call 98; (with_reducible refine (HZs.out _ (Below.refl _ _)).mono ?_); rintro e w2 ⟨rfl, rfl⟩)
            | (go_at_call 57; (with_reducible refine (HL.out _ (Below.refl _ _)).mono ?_); rintro e w2 ⟨rfl, rfl⟩))
          have u := bdz w2
          go_region_held3 (fun Z => Z.cell? ⟨q, 0, none⟩ = some (.pointer (some ⟨p, 0, none⟩))) (first | assumption | (with_reducible exact HC3.out _ t9) | (with_reducible exact HC4.out _ u)) (first
            | (go_at_call 57; (with_reducible refine (HL.out _ u).mono ?_); rintro e w2 ⟨rfl, rfl⟩)
            | (go_at_call 101; (with_reducible refine (HCu.out _ u).mono ?_); rintro e w9 ⟨rfl, t9⟩))
          all_goals
            go_wp2
            go_roundg 0
            case rel =>
              go_light
              exact ⟨3, D1, by decide, rfl, by first | rfl | go_num, t9, HR2, HI2⟩
            case measure => go_light; decide
        · simp only [if_neg h0] at HI
          injection HI with HI1 HI3
          subst HI1 HI3
          have hr0 : (r1 != 0) = true := by simp [h0]
          have HZ : Hid (∀ W, SkM w1 W q p T D1 S → SkM w W q p T D1 S) := fun W hW => hW.first HU.out
          go_upto_region 6 with (first
            | (go_at_call 98; (with_reducible refine (HZs.out _ (Below.refl _ _)).mono ?_); rintro e w2 ⟨rfl, rfl⟩)
            | (go_at_call 57; (with_reducible refine (HL.out _ (Below.refl _ _)).mono ?_); rintro e w2 ⟨rfl, rfl⟩))
          have u := bdz w2
          go_region_held3 (fun Z => Z.cell? ⟨q, 0, none⟩ = some (.pointer (some ⟨p, 0, none⟩))) (first | assumption | (with_reducible exact HC3.out _ t9) | (with_reducible exact HC4.out _ u)) (first
            | (go_at_call 57; (with_reducible refine (HL.out _ u).mono ?_); rintro e w2 ⟨rfl, rfl⟩)
            | (go_at_call 101; (with_reducible refine (HCu.out _ u).mono ?_); rintro e w9 ⟨rfl, t9⟩))
          all_goals
            go_wp2
            go_ret
            exact ⟨rfl, HZ.out _ t9⟩
    · have hz : ¬ ((3 : Nat) : Int) < 3 := by decide
      have HI2 : Hid (runA ((stl S.ends).drop 3) Dj = (D', r)) := HI
      have HR2 : Hid (Rm 4 Dj) := HRj.out
      clear HI HRj hsz
      go_wp2
      go_loopg [42] 3 (fun g x wr => ∃ (j : Nat) (Dj : DV), j ≤ 3 ∧ g = 3 - j ∧ x = .int .i64 (j : Int) ∧ Hid (SkM w1 wr q p T Dj S) ∧ Hid (Rm (4 - j) Dj) ∧ Hid (runA ((stl S.ends).drop (3 + j)) Dj = (D', r)))
      case atStart =>
        go_light
        exact ⟨0, Dj, by decide, rfl, rfl, HS, HR2, HI2⟩
      case round =>
        clear HS HR2 HI2
        obtain ⟨j, Di, hj, rfl, rfl, HS, HRj, HI⟩ := hrel
        have HI := HI.out
        rcases (show j = 0 ∨ j = 1 ∨ j = 2 ∨ j = 3 by omega) with rfl | rfl | rfl | rfl
        · have hrj : Rm 4 Di := HRj.out
          obtain ⟨T1, hk, hT, hu⟩ := HS.out
          obtain ⟨D1, r1, hD1⟩ : ∃ D1 r1, synD Di nmI = (D1, r1) := ⟨_, _, rfl⟩
          have HCu : Hid (Calls Tryz.prog 64 #[.pointer (some ⟨p, 0, none⟩), .string ⟨#[105, 116, 101, 109, 115]⟩] wr fun e w' => e = .returned (.int .i64 r1) ∧ SkM w1 w' q p T D1 S) := by
            have := hk.sync hrj.rmy ⟨#[105, 116, 101, 109, 115]⟩ (by decide)
            rw [show (ByteArray.mk #[105, 116, 101, 109, 115]).data.toList = nmI from rfl, hD1] at this
            exact this.mono fun e w' z => ⟨z.1, skm_join hT hu z.2⟩
          have hr1 : Rm 3 D1 := by
            have : Rm 3 (synD Di nmI).1 := rm_syn _ (hk.sz _) hrj
            rw [hD1] at this
            exact this
          have hE : runA ((stl S.ends).drop (3 + 0)) Di = if r1 = 0 then runA ((stl S.ends).drop (3 + 1)) D1 else (D1, r1) := by
            show runA ((fun D => synD D nmI) :: ((stl S.ends).drop (3 + 1))) Di = _
            simp only [runA, hD1]
          rw [hE] at HI
          obtain ⟨c0, c1, c2, c3⟩ := HC.out _ _ HS.out
          have hz : ((0 : Nat) : Int) < 3 := by decide
          clear hE hD1 hk hT hu hrj HRj
          by_cases h0 : r1 = 0
          · subst h0
            rw [if_pos rfl] at HI
            have HI2 := hide HI
            have HR2 := hide hr1
            clear HI hr1 HS HC
            go_wp2_with (go_at_call 64; (with_reducible refine HCu.out.mono ?_); rintro e w9 ⟨rfl, t9⟩)
            go_roundg 2
            case rel =>
              go_light
              exact ⟨1, D1, by decide, rfl, by first | rfl | go_num, t9, HR2, HI2⟩
            case measure => go_light; decide
          · rw [if_neg h0] at HI
            injection HI with HI1 HI3
            subst HI1 HI3
            have hr0 : (r1 != 0) = true := by simp [h0]
            have HZ : Hid (∀ W, SkM w1 W q p T D1 S → SkM w W q p T D1 S) := fun W hW => hW.first HU.out
            clear hr1 HS HC
            go_wp2_with (go_at_call 64; (with_reducible refine HCu.out.mono ?_); rintro e w9 ⟨rfl, t9⟩)
            go_ret
            exact ⟨rfl, HZ.out _ t9⟩
        · have hrj : Rm 3 Di := HRj.out
          obtain ⟨T1, hk, hT, hu⟩ := HS.out
          obtain ⟨D1, r1, hD1⟩ : ∃ D1 r1, synD Di nmN = (D1, r1) := ⟨_, _, rfl⟩
          have HCu : Hid (Calls Tryz.prog 64 #[.pointer (some ⟨p, 0, none⟩), .string ⟨#[110, 111, 100, 101, 115]⟩] wr fun e w' => e = .returned (.int .i64 r1) ∧ SkM w1 w' q p T D1 S) := by
            have := hk.sync hrj.rmy ⟨#[110, 111, 100, 101, 115]⟩ (by decide)
            rw [show (ByteArray.mk #[110, 111, 100, 101, 115]).data.toList = nmN from rfl, hD1] at this
            exact this.mono fun e w' z => ⟨z.1, skm_join hT hu z.2⟩
          have hr1 : Rm 2 D1 := by
            have : Rm 2 (synD Di nmN).1 := rm_syn _ (hk.sz _) hrj
            rw [hD1] at this
            exact this
          have hE : runA ((stl S.ends).drop (3 + 1)) Di = if r1 = 0 then runA ((stl S.ends).drop (3 + 2)) D1 else (D1, r1) := by
            show runA ((fun D => synD D nmN) :: ((stl S.ends).drop (3 + 2))) Di = _
            simp only [runA, hD1]
          rw [hE] at HI
          obtain ⟨c0, c1, c2, c3⟩ := HC.out _ _ HS.out
          have hz : ((1 : Nat) : Int) < 3 := by decide
          clear hE hD1 hk hT hu hrj HRj
          by_cases h0 : r1 = 0
          · subst h0
            rw [if_pos rfl] at HI
            have HI2 := hide HI
            have HR2 := hide hr1
            clear HI hr1 HS HC
            go_wp2_with (go_at_call 64; (with_reducible refine HCu.out.mono ?_); rintro e w9 ⟨rfl, t9⟩)
            go_roundg 1
            case rel =>
              go_light
              exact ⟨2, D1, by decide, rfl, by first | rfl | go_num, t9, HR2, HI2⟩
            case measure => go_light; decide
          · rw [if_neg h0] at HI
            injection HI with HI1 HI3
            subst HI1 HI3
            have hr0 : (r1 != 0) = true := by simp [h0]
            have HZ : Hid (∀ W, SkM w1 W q p T D1 S → SkM w W q p T D1 S) := fun W hW => hW.first HU.out
            clear hr1 HS HC
            go_wp2_with (go_at_call 64; (with_reducible refine HCu.out.mono ?_); rintro e w9 ⟨rfl, t9⟩)
            go_ret
            exact ⟨rfl, HZ.out _ t9⟩
        · have hrj : Rm 2 Di := HRj.out
          obtain ⟨T1, hk, hT, hu⟩ := HS.out
          obtain ⟨D1, r1, hD1⟩ : ∃ D1 r1, synD Di nmM = (D1, r1) := ⟨_, _, rfl⟩
          have HCu : Hid (Calls Tryz.prog 64 #[.pointer (some ⟨p, 0, none⟩), .string ⟨#[109, 97, 114, 107, 115]⟩] wr fun e w' => e = .returned (.int .i64 r1) ∧ SkM w1 w' q p T D1 S) := by
            have := hk.sync hrj.rmy ⟨#[109, 97, 114, 107, 115]⟩ (by decide)
            rw [show (ByteArray.mk #[109, 97, 114, 107, 115]).data.toList = nmM from rfl, hD1] at this
            exact this.mono fun e w' z => ⟨z.1, skm_join hT hu z.2⟩
          have hr1 : Rm 1 D1 := by
            have : Rm 1 (synD Di nmM).1 := rm_syn _ (hk.sz _) hrj
            rw [hD1] at this
            exact this
          have hE : runA ((stl S.ends).drop (3 + 2)) Di = if r1 = 0 then runA ((stl S.ends).drop (3 + 3)) D1 else (D1, r1) := by
            show runA ((fun D => synD D nmM) :: ((stl S.ends).drop (3 + 3))) Di = _
            simp only [runA, hD1]
          rw [hE] at HI
          obtain ⟨c0, c1, c2, c3⟩ := HC.out _ _ HS.out
          have hz : ((2 : Nat) : Int) < 3 := by decide
          clear hE hD1 hk hT hu hrj HRj
          by_cases h0 : r1 = 0
          · subst h0
            rw [if_pos rfl] at HI
            have HI2 := hide HI
            have HR2 := hide hr1
            clear HI hr1 HS HC
            go_wp2_with (go_at_call 64; (with_reducible refine HCu.out.mono ?_); rintro e w9 ⟨rfl, t9⟩)
            go_roundg 0
            case rel =>
              go_light
              exact ⟨3, D1, by decide, rfl, by first | rfl | go_num, t9, HR2, HI2⟩
            case measure => go_light; decide
          · rw [if_neg h0] at HI
            injection HI with HI1 HI3
            subst HI1 HI3
            have hr0 : (r1 != 0) = true := by simp [h0]
            have HZ : Hid (∀ W, SkM w1 W q p T D1 S → SkM w W q p T D1 S) := fun W hW => hW.first HU.out
            clear hr1 HS HC
            go_wp2_with (go_at_call 64; (with_reducible refine HCu.out.mono ?_); rintro e w9 ⟨rfl, t9⟩)
            go_ret
            exact ⟨rfl, HZ.out _ t9⟩
        · have hz : ¬ ((3 : Nat) : Int) < 3 := by decide
          injection (show (Di, (0 : Int)) = (D', r) from HI) with HI1 HI3
          subst HI1 HI3
          have HZ : Hid (SkM w wr q p T Di S) := SkM.first HU.out HS.out
          clear HI HRj HS HC
          go_wp2
          go_ret
          exact ⟨rfl, HZ.out⟩
end
end Go.Proofs.YthfnpagangjpbabGreat
