/-
  Walks of path's laws: trail. Own work.
-/
import Derived.Test.YtgmnolepaidiiaaDoorTLawB
namespace Go.Proofs.YtgmnolepaidiiaaDoor
open Go.RowKit
open Cv (zl)
attribute [local go_sem ↓] Go.wp_at_zero Go.wp_at_succ
/-- Each mountain begins where the one ahead of it ends. -/
def Ch2 : Nat → List (Nat × Nat) → Prop
  | _, [] => True
  | lo, b :: r => b.2 * 2 ^ b.1 = lo ∧ Ch2 ((b.2 + 1) * 2 ^ b.1) r
theorem dn_ch (n : Nat) : ∀ h lo, 2 ^ h ∣ lo → Ch2 lo (Cv.dnL h lo n)
  | 0, lo, _ => trivial
  | h + 1, lo, hd => by
    have hd' : 2 ^ h ∣ lo := Nat.dvd_trans (Nat.pow_dvd_pow 2 (by omega)) hd
    rw [Cv.dnL, show Pl.pw h = 2 ^ h from rfl]
    split
    · refine ⟨Nat.div_mul_cancel hd', ?_⟩
      rw [Nat.add_mul, Nat.div_mul_cancel hd', Nat.one_mul]
      exact dn_ch n h _ (Nat.dvd_add hd' (Nat.dvd_refl _))
    · exact dn_ch n h lo hd'
theorem ch2_at {lo : Nat} {M : List (Nat × Nat)} {j : Nat} (h : Ch2 lo (M.drop j)) (hj : j < M.length) : (M.getD j (0, 0)).2 * 2 ^ (M.getD j (0, 0)).1 = lo ∧ Ch2 (((M.getD j (0, 0)).2 + 1) * 2 ^ (M.getD j (0, 0)).1) (M.drop (j + 1)) := by
  rw [List.drop_eq_getElem_cons hj] at h
  rw [List.getD_eq_getElem?_getD, List.getElem?_eq_getElem hj]
  exact h
theorem s0 (x : ByteArray) : (⟨#[0]⟩ : ByteArray) ++ x = leafT x := rfl
theorem s1 (a x : ByteArray) : ((⟨#[1]⟩ : ByteArray) ++ a) ++ x = nodeT a x := rfl
theorem s2 (a x : ByteArray) : ((⟨#[2]⟩ : ByteArray) ++ a) ++ x = bagT a x := rfl
theorem s3 (x : ByteArray) : (⟨#[114, 111, 111, 116, 32]⟩ : ByteArray) ++ x = rootW ++ x := rfl
/-- A part of the way. -/
def wl (c i : Nat) (x : ByteArray) (D : List ByteArray) (t : Nat) : List ByteArray := leafT x :: upT c i (dg c (leafT x)) (D.take t)
theorem wl_len (c i : Nat) (x : ByteArray) (D : List ByteArray) (t : Nat) (h : t ≤ D.length) : (wl c i x D t).length = t + 1 := by rw [wl, List.length_cons, upT_len, List.length_take]; omega
theorem wl_succ (c i : Nat) (x : ByteArray) (D : List ByteArray) (t : Nat) (h : t < D.length) : wl c i x D (t + 1) = wl c i x D t ++ [stT (i / 2 ^ t) (rs c i (dg c (leafT x)) (D.take t)) (D.getD t ByteArray.empty)] := by
  rw [wl, take_succ_getD ByteArray.empty D t h, upT_app, List.length_take, Nat.min_eq_left (by omega)]
  rfl
theorem pkP_at {c i a H : Nat} {D : List ByteArray} {x : ByteArray} (h : H + a ≤ D.length) (j : Nat) : (pkP c i a H D x).getD j ByteArray.empty = if j < a then D.getD (H + j) ByteArray.empty else if j = a then rs c i (dg c (leafT x)) (D.take H) else D.getD (H + (j - 1)) ByteArray.empty := by
  have lt : ((D.drop H).take a).length = a := by rw [List.length_take, List.length_drop]; omega
  rw [pkP, List.getD_eq_getElem?_getD]
  split
  · rename_i h1
    rw [List.getElem?_append_left (by omega), List.getElem?_take_of_lt h1, List.getElem?_drop, List.getD_eq_getElem?_getD]
  · rw [List.getElem?_append_right (by omega), lt]
    split
    · rename_i h2
      rw [h2, Nat.sub_self]; rfl
    · obtain ⟨u, rfl⟩ : ∃ u, j = a + (u + 1) := ⟨j - a - 1, by omega⟩
      rw [show a + (u + 1) - a = u + 1 by omega, List.getElem?_cons_succ, List.getElem?_drop, List.getElem?_drop, List.getD_eq_getElem?_getD]
      congr 2
theorem pkP_size {c i a H : Nat} (hc : c ≤ 32) {D : List ByteArray} {x : ByteArray} (hs : ∀ s ∈ D, s.size = c) : ∀ s ∈ pkP c i a H D x, s.size = c := fun s hx => by
  rw [pkP, List.mem_append, List.mem_cons] at hx
  rcases hx with hx | rfl | hx
  · exact hs s (List.mem_of_mem_drop (List.mem_of_mem_take hx))
  · exact rs_size hc _ _ _ (dg_size hc _)
  · exact hs s (List.mem_of_mem_drop (List.mem_of_mem_drop hx))
set_option maxRecDepth 100000 in
set_option maxHeartbeats 4000000 in
theorem ltrail_any (w : World) (hT : Tr w) (k : Int) (size : Nat) (b o sc : Nat) (i H : Nat) (A B : List (Nat × Nat)) (ha : RA w k size b o i H A B) (da : Option Addr) (db dO dc : Nat) (D : List ByteArray) (hr : RdS w da db dO D.length D) (hf : fil k (H + A.length + B.length) D) (x : ByteArray) (hx : x.size ≤ 2000) :
    Calls Tryd.prog 19 #[.agg #[.int .i64 1, .int .i64 k, .int .u64 0, .int .u64 (size : Int), .slice (some ⟨b, o, none⟩) 1 sc, .slice da D.length dc], .string x] w fun e w' => ∃ v, e = .returned v ∧ OwnS w' w.heap.size v (trl (clk k) i A.length H D x) ∧ Below w.heap.size w w' := by
  have hi0 := ha.il
  have hn0 := ha.n
  have hk1 := ha.k1
  have hwy := ha.wy
  have hln := hwy.len
  have hH := hwy.hH
  obtain ⟨M, hM⟩ : ∃ M, Cv.dnL 41 0 size = M := ⟨_, rfl⟩
  have hin := dn_in size hn0
  have hch := dn_ch size 41 0 (Nat.dvd_zero _)
  rw [hM] at hin hch
  have hMl : M.length = A.length + 1 + B.length := by rw [← hM, hwy.all, List.length_append, List.length_cons]; omega
  have HM : Hid (∀ W, Calls Tryd.prog 31 #[.int .u64 (size : Int)] W fun e w' => ∃ g cap, e = .returned (.slice (some ⟨g, 0, none⟩) M.length cap) ∧ RdB w' (some ⟨g, 0, none⟩) g 0 M.length (zl M) ∧ Below W.heap.size W w') := fun W => rmount_rd size W hn0 M hM (by omega)
  obtain ⟨W0, hW0⟩ : ∃ W0, w.alloc (.cells #[.int .i64 1, .int .i64 k, .int .u64 0, .int .u64 (size : Int), .slice (some ⟨b, o, none⟩) 1 sc, .slice da D.length dc] 26) = W0 := ⟨_, rfl⟩
  have hb : Below w.heap.size w W0 := by rw [← hW0]; exact bal (Below.refl _ _) _
  have h6 : Six W0 w.heap.size (.int .i64 1) (.int .i64 k) (.int .u64 0) (.int .u64 (size : Int)) (.slice (some ⟨b, o, none⟩) 1 sc) (.slice da D.length dc) := by rw [← hW0]; exact six_new w _ _ _ _ _ _
  have HS : Hid (∀ W, Below W0.heap.size W0 W → Six W w.heap.size (.int .i64 1) (.int .i64 k) (.int .u64 0) (.int .u64 (size : Int)) (.slice (some ⟨b, o, none⟩) 1 sc) (.slice da D.length dc) ∧ W.cell? ⟨b, o, none⟩ = some (.int .u64 (i : Int)) ∧ RdS W da db dO D.length D ∧ Tr W ∧ Below w.heap.size w W) := fun W hbW => by
    have hw := bnext hb hbW
    exact ⟨h6.next hbW, (hw.cell (p := ⟨b, o, none⟩) (World.block_lt_of_cell? w _ ha.ci)).trans ha.ci, hr.next hw (Nat.le_refl _), hT.next hw, hw⟩
  have hck : (clk k : Int) = k := by unfold clk; rw [if_neg (by omega), if_neg (by omega)]; omega
  have hsD : ∀ s ∈ D, s.size = clk k := fun s hs => by have := hf.2 s hs; omega
  have hDl := hf.1
  obtain ⟨c, hc⟩ : ∃ c, clk k = c := ⟨_, rfl⟩
  have hc32 : c ≤ 32 := by rw [← hc]; exact clk_le k
  rw [hc] at hsD
  have HHs : Hid (∀ W t r, Tr W → t.size ≤ 1000000 → dg c t = r → Calls Tryd.prog 22 #[.int .i64 k, .string t] W fun e w' => e = .returned (.string r) ∧ Below W.heap.size W w') := fun W t r hW ht hr => refH_any W hW k hk1.1 hk1.2 t (by omega) r (by rw [hc]; exact hr)
  have HX : Hid (Wy size i A H B ∧ Cv.dnL 41 0 size = M ∧ M.length = A.length + 1 + B.length ∧ i < size ∧ size ≤ 2 ^ 40 ∧ A.length + B.length ≤ 40 ∧ H ≤ 40 ∧ (∀ b ∈ M, (b.2 + 1) * 2 ^ b.1 ≤ size) ∧ D.length = H + A.length + B.length) := ⟨hwy, hM, hMl, hi0, hn0, hln, hH, hin, hDl⟩
  have HD : Hid ((∀ s ∈ D, s.size = c) ∧ c ≤ 32 ∧ x.size ≤ 2000 ∧ clk k = c) := ⟨hsD, hc32, hx, hc⟩
  have HCh := hide hch
  obtain ⟨e0, e1, e2, e3, e4, e5⟩ := h6.cells
  have ci := (HS.out W0 (Below.refl _ _)).2.1
  have hl63 : (M.length : Int) ≤ 41 := by omega
  have hD63 : (D.length : Int) ≤ 100 := by omega
  have hns0 : ¬ (9223372036854775807 < 1 + x.size) := by omega
  rw [show trl (clk k) i A.length H D x = trl c i A.length H D x by rw [hc]]
  clear ha hr hi0 hn0 hk1 hwy hln hH hin hMl h6 hM hf hsD hDl hc hc32 hch hck hT
  go_enter Tryd.func19, Tryd.ntmps19
  go_upto_region 1 with (fail)
  try rw [hW0]
  clear hW0
  go_upto_region 2 with (go_at_call 31; with_reducible refine (HM.out _).mono ?_; rintro e w1 ⟨g, cap, rfl, hR, hb1⟩)
  have HB1 : Hid (Below W0.heap.size W0 w1) := hb1
  have HR : Hid (∀ W, Below w1.heap.size w1 W → RdB W (some ⟨g, 0, none⟩) g 0 M.length (zl M)) := fun W hb => hR.below hb
  clear e0 e1 e2 e3 e4 e5 ci hR
  obtain ⟨e0, e1, e2, e3, e4, e5⟩ := (HS.out w1 hb1).1.cells
  have ci := (HS.out w1 hb1).2.1
  obtain ⟨lf, hlf⟩ : ∃ lf, leafT x = lf := ⟨_, rfl⟩
  have hsx := s0 x
  rw [hlf] at hsx
  go_upto_region 4 with (fail)
  obtain ⟨w2, hw2⟩ : ∃ w2, w1.alloc (.cells #[.string lf] 9) = w2 := ⟨_, rfl⟩
  have HL0 : Hid (OwnS w2 w1.heap.size (.slice (some ⟨w1.heap.size, 0, none⟩) 1 1) (wl c i x D 0)) := by
    have : wl c i x D 0 = [lf] := by rw [wl, List.take_zero, upT, hlf]
    rw [this, ← hw2]
    exact ⟨rfl, .inr ⟨w1.heap.size, 1, _, rfl, Nat.le_refl _, heap_alloc_new w1 _, by simp, by decide, rfl, rfl⟩⟩
  have hb2 : Below w1.heap.size w1 w2 := by rw [← hw2]; exact bal (Below.refl _ _) _
  have cl0 : w2.cell? ⟨w1.heap.size, 0, none⟩ = some (.string lf) := by rw [← hw2]; simp
  rw [hw2]
  clear hw2 e0 e1 e2 e3 e4 e5 ci
  obtain ⟨e0, e1, e2, e3, e4, e5⟩ := (HS.out w2 (bnext hb1 hb2)).1.cells
  obtain ⟨d0, hd0⟩ : ∃ d0, dg c lf = d0 := ⟨_, rfl⟩
  have zlf : lf.size ≤ 1000000 := by rw [← hlf, leafT_size]; have := HD.out.2.2.1; omega
  have HH0 : Hid (∀ W, Below w2.heap.size w2 W → Calls Tryd.prog 22 #[.int .i64 k, .string lf] W fun e w' => e = .returned (.string d0) ∧ Below W.heap.size W w') := fun W hw => HHs.out W lf d0 (HS.out W (bnext (bnext hb1 hb2) hw)).2.2.2.1 zlf hd0
  have HLf : Hid (leafT x = lf ∧ dg c lf = d0) := ⟨hlf, hd0⟩
  clear hd0 zlf hlf hsx
  refine wp_region_planI (by kernel_rfl) [33, 34, 35, 36, 37, 38, 8] [] [.pointer (some ⟨w.heap.size, 1, none⟩), .int .i64 k, .slice (some ⟨w1.heap.size, 0, none⟩) 1 1, .pointer (some ⟨w1.heap.size, 0, none⟩), .string lf, .string d0, .string d0] (by kernel_rfl) rfl (fun j hj => by cases hj) (fun _ W => Below w2.heap.size w2 W) (fun W _ hb => hb) ?step ?fin
  case step =>
    refine ⟨?_, ?_, ?_, ?_, ?_, ?_, ?_, trivial⟩
    · intro L Ac Wc K hI hj hcl hsm dep hK
      have t2 : Ac.tmps.getD 2 undef = .pointer (some ⟨w.heap.size, 0, none⟩) := hsm 2 rfl
      show Oper.wp _ _ Ac Wc K _
      go_simp
      exact hK _ _ (.inr rfl) hI
    · intro L Ac Wc K hI hj hcl hsm dep hK
      have t33 : Ac.tmps.getD 33 undef = .pointer (some ⟨w.heap.size, 1, none⟩) := dep 0 rfl
      show Oper.wp _ _ Ac Wc K _
      obtain ⟨g0, g1, g2, g3, g4, g5⟩ := (HS.out Wc (bnext (bnext hb1 hb2) hI)).1.cells
      go_simp
      exact hK _ _ (.inr rfl) hI
    · intro L Ac Wc K hI hj hcl hsm dep hK
      have t7 : Ac.tmps.getD 7 undef = .slice (some ⟨w1.heap.size, 0, none⟩) 1 1 := hsm 7 rfl
      show Oper.wp _ _ Ac Wc K _
      go_simp
      exact hK _ _ (.inr rfl) hI
    · intro L Ac Wc K hI hj hcl hsm dep hK
      have t35 : Ac.tmps.getD 35 undef = .slice (some ⟨w1.heap.size, 0, none⟩) 1 1 := dep 2 rfl
      show Oper.wp _ _ Ac Wc K _
      go_simp
      exact hK _ _ (.inr rfl) hI
    · intro L Ac Wc K hI hj hcl hsm dep hK
      have t36 : Ac.tmps.getD 36 undef = .pointer (some ⟨w1.heap.size, 0, none⟩) := dep 3 rfl
      show Oper.wp _ _ Ac Wc K _
      have cl := (hI.cell (p := ⟨w1.heap.size, 0, none⟩) (World.block_lt_of_cell? w2 _ cl0)).trans cl0
      go_simp
      exact hK _ _ (.inr rfl) hI
    · intro L Ac Wc K hI hj hcl hsm dep hK
      have t34 : Ac.tmps.getD 34 undef = .int .i64 k := dep 1 rfl
      have t37 : Ac.tmps.getD 37 undef = .string lf := dep 4 rfl
      show Oper.wp _ _ Ac Wc K _
      go_simp
      refine (HH0.out Wc hI).mono ?_
      rintro e w' ⟨rfl, hb'⟩
      exact hK _ _ (.inr rfl) (bnext hI hb')
    · intro L Ac Wc K hI hj hcl hsm dep hK
      have t38 : Ac.tmps.getD 38 undef = .string d0 := dep 5 rfl
      show Oper.wp _ _ Ac Wc K _
      go_simp
      exact hK _ _ (.inr rfl) hI
  case fin =>
    intro L w3 hall hI
    simp only [puts]
    go_simp
    have hb3' : Below w1.heap.size w1 w3 := bnext hb2 hI
    have HL3 : Hid (OwnS w3 w1.heap.size (.slice (some ⟨w1.heap.size, 0, none⟩) 1 1) (wl c i x D 0)) := own_next HL0.out hI (Nat.le_refl _)
    clear HL0 hb2 hI hall cl0 e0 e1 e2 e3 e4 e5 HH0 hb1
    go_wp2
    go_loopg [7, 8, 9, 10, 11, 12, 13] M.length (fun gh l d at' mine lo bl jj wr => ∃ (j t n mi bq : Nat) (y : ByteArray), j ≤ M.length ∧ gh = M.length - j ∧ jj = .int .i64 (j : Int) ∧ d = .string y ∧ at' = .int .i64 (t : Int) ∧ bl = .int .u64 (bq : Int) ∧ lo = .int .u64 (n : Int) ∧ mine = .int .i64 (mi : Int) ∧ Hid (mi = (if A.length < j then A.length else 0) ∧ i / 2 ^ t = bq) ∧ Hid (t = (if A.length < j then H else 0) ∧ y = rs c i d0 (D.take t) ∧ OwnS wr w1.heap.size l (wl c i x D t) ∧ Ch2 n (M.drop j) ∧ n ≤ size) ∧ Below w1.heap.size w1 wr)
    case atStart =>
      go_light
      refine ⟨0, 0, 0, 0, i, d0, Nat.zero_le _, rfl, rfl, rfl, rfl, rfl, rfl, rfl, ⟨by rw [if_neg (by omega)], by simp⟩, ⟨by rw [if_neg (by omega)], by rw [List.take_zero, rs], HL3.out, by rw [List.drop_zero]; exact HCh.out, Nat.zero_le _⟩, hb3'⟩
    case round =>
      clear hb3' HL3
      obtain ⟨j, t, n, mi, bq, y, hj, rfl, rfl, rfl, rfl, rfl, rfl, rfl, HMI, HI, hb⟩ := hrel
      have HBr := hide hb
      by_cases hlt : j < M.length
      · have hz : (j : Int) < (M.length : Int) := by omega
        have hz0 : (0 : Int) ≤ (j : Int) := Int.natCast_nonneg _
        obtain ⟨mh, hmm⟩ : ∃ mh, (M.getD j (0, 0)).1 = mh := ⟨_, rfl⟩
        have HMc : Hid (∀ W, Below w1.heap.size w1 W → W.cell? ⟨g, j * 2, none⟩ = some (.int .i64 (mh : Int))) := fun W hb => by
          have := ((HR.out W hb).cell j hlt).1
          rw [getD_zl M j hlt, Nat.zero_add, hmm] at this
          exact this
        have HMM := hide hmm
        have hmem : M.getD j (0, 0) ∈ M := by rw [List.getD_eq_getElem?_getD, List.getElem?_eq_getElem hlt]; exact List.getElem_mem _
        have hin := HX.out.2.2.2.2.2.2.2.1 _ hmem
        obtain ⟨_, hm40, _⟩ := fit40 hin HX.out.2.2.2.2.1
        rw [hmm] at hm40
        have hm40' : (mh : Int) ≤ 40 := by omega
        have HIN := hide (And.intro hin hm40)
        clear hmm hmem hin hm40
        generalize wr = wo at *
        clear wr
        go_wp2
        go_loopg [14, 15] mh (fun gh n' x' wr => ∃ s : Nat, s ≤ mh ∧ gh = mh - s ∧ n' = .int .u64 ((2 ^ s : Nat) : Int) ∧ x' = .int .i64 (s : Int) ∧ wo = wr)
        case atStart =>
          go_light
          exact ⟨0, Nat.zero_le _, rfl, rfl, rfl, rfl⟩
        case round =>
          obtain ⟨s, hs, rfl, rfl, rfl, rfl⟩ := hrel
          have cm := HMc.out wo hb
          by_cases hsl : s < mh
          · have hsz : (s : Int) < (mh : Int) := by omega
            obtain ⟨q, hq⟩ : ∃ q, 2 ^ s = q := ⟨_, rfl⟩
            have hqb : 2 ^ s ≤ 2 ^ 40 := Nat.pow_le_pow_right (by decide) (by have := HIN.out.2; omega)
            rw [hq] at hqb ⊢
            have e1 : IntKind.u64.wrap (2 * (q : Int)) = 2 * (q : Int) := by rw [IntKind.wrap_u64]; omega
            have HQ : Hid (2 * (q : Int) = ((2 ^ (s + 1) : Nat) : Int)) := by show _ = _; rw [Nat.pow_succ, hq]; omega
            clear hq hqb
            go_wp2
            go_roundg (mh - (s + 1))
            case rel =>
              go_light
              exact ⟨s + 1, by omega, rfl, by rw [HQ.out], by go_num, rfl⟩
            case measure => go_light; omega
          · obtain rfl : s = mh := by omega
            have hsz : ¬ ((s : Int) < (s : Int)) := by omega
            obtain ⟨ww1, ww2, ww3⟩ := wy_where HX.out.1 HX.out.2.1 hlt
            obtain ⟨hca, hcb⟩ := ch2_at HI.out.2.2.2.1 hlt
            rw [HMM.out] at hca hcb ww1 ww3
            have hin := HIN.out.1
            rw [HMM.out] at hin
            obtain ⟨q, hq⟩ : ∃ q, 2 ^ s = q := ⟨_, rfl⟩
            rw [hq] at hca hcb ww1 ww3 hin ⊢
            rw [Nat.add_mul, Nat.one_mul, hca] at hcb ww1 hin
            rw [hca] at ww3
            have hsz40 := HX.out.2.2.2.2.1
            have hqp : 0 < q := by rw [← hq]; exact Nat.two_pow_pos _
            have elo : IntKind.u64.wrap ((n : Int) + (q : Int)) = ((n + q : Nat) : Int) := by rw [IntKind.wrap_u64]; omega
            have hlen3 := HX.out.2.2.1
            rcases Nat.lt_trichotomy j A.length with hjA | hjA | hjA
            · have hge : (n : Int) ≤ (i : Int) := by have := ww1 hjA; omega
              have hnl : ¬ (i : Int) < (n : Int) + (q : Int) := by have := ww1 hjA; omega
              have HN : Hid (t = (if A.length < j + 1 then H else 0) ∧ y = rs c i d0 (D.take t) ∧ OwnS wo w1.heap.size u7 (wl c i x D t) ∧ Ch2 (n + q) (M.drop (j + 1)) ∧ n + q ≤ size) := ⟨by rw [HI.out.1, if_neg (by omega), if_neg (by omega)], HI.out.2.1, HI.out.2.2.1, hcb, hin⟩
              have HM2 : Hid (mi = (if A.length < j + 1 then A.length else 0) ∧ i / 2 ^ t = bq) := ⟨by rw [HMI.out.1, if_neg (by omega), if_neg (by omega)], HMI.out.2⟩
              clear hca hcb ww1 ww2 ww3 hin hq hqp hsz40 hlen3 HI
              go_wp2
              go_roundg (M.length - (j + 1))
              case rel =>
                go_light
                exact ⟨j + 1, t, n + q, mi, bq, y, by omega, rfl, by go_num, rfl, rfl, rfl, by go_num, rfl, HM2, HN, hb⟩
              case measure => go_light; omega
            · obtain rfl : s = H := by
                have := ww2 hjA
                rw [← HMM.out, this]
              have hmk : (M.getD j (0, 0)).2 = i / 2 ^ s := by rw [ww2 hjA]
              have hge : (n : Int) ≤ (i : Int) := by
                have : i / 2 ^ s * 2 ^ s ≤ i := Nat.div_mul_le_self _ _
                rw [← hmk, hq, hca] at this; omega
              have hnl : (i : Int) < (n : Int) + (q : Int) := by
                have : i < (i / 2 ^ s + 1) * 2 ^ s := Nat.lt_mul_of_div_lt (Nat.lt_succ_self _) (Nat.two_pow_pos _)
                rw [← hmk, hq, Nat.add_mul, hca] at this; omega
              obtain rfl : t = 0 := by rw [HI.out.1, if_neg (by omega)]
              obtain rfl : i = bq := by rw [← HMI.out.2]; simp
              have hsD : s ≤ D.length := by have := HX.out.2.2.2.2.2.2.2.2; omega
              have HN0 : Hid (y = rs c i d0 (D.take 0) ∧ OwnS wo w1.heap.size u7 (wl c i x D 0) ∧ Ch2 (n + q) (M.drop (j + 1)) ∧ n + q ≤ size ∧ j = A.length ∧ s ≤ D.length ∧ s ≤ 40 ∧ y.size = c) := ⟨HI.out.2.1, HI.out.2.2.1, hcb, hin, hjA, hsD, HX.out.2.2.2.2.2.2.1, by rw [HI.out.2.1, List.take_zero, rs, ← HLf.out.2]; exact dg_size HD.out.2.1 _⟩
              clear hca hcb ww1 ww2 ww3 hin hq hqp hsz40 hlen3 HI hmk hjA hsD
              go_wp2
              go_loopg [7, 8, 9, 12, 16] s (fun gh l d a1 bl hh wr => ∃ (h bq : Nat) (y : ByteArray), h ≤ s ∧ gh = s - h ∧ hh = .int .i64 (h : Int) ∧ a1 = .int .i64 (h : Int) ∧ bl = .int .u64 (bq : Int) ∧ d = .string y ∧ Hid (i / 2 ^ h = bq ∧ y = rs c i d0 (D.take h) ∧ y.size = c ∧ OwnS wr w1.heap.size l (wl c i x D h)) ∧ Below w1.heap.size w1 wr)
              case atStart =>
                go_light
                exact ⟨0, i, y, Nat.zero_le _, rfl, rfl, rfl, rfl, rfl, ⟨by simp, HN0.out.1, HN0.out.2.2.2.2.2.2.2, HN0.out.2.1⟩, hb⟩
              case round =>
                clear cm
                obtain ⟨h, bq, y2, hh, rfl, rfl, rfl, rfl, rfl, HJ, hbh⟩ := hrel
                have cm := HMc.out wr hbh
                by_cases hhl : h < s
                · have hhz : (h : Int) < (s : Int) := by omega
                  have hhz0 : (0 : Int) ≤ (h : Int) := Int.natCast_nonneg _
                  have hhD : (h : Int) < (D.length : Int) := by have := HN0.out.2.2.2.2.2.1; omega
                  have hh41 : (h : Int) < 41 := by have := HN0.out.2.2.2.2.2.2.1; omega
                  have hhn : h < D.length := by omega
                  obtain ⟨HSx, _, hrd, hTr, _⟩ := HS.out wr (bnext HB1.out hbh)
                  obtain ⟨e0, e1, e2, e3, e4, e5⟩ := HSx.cells
                  obtain rfl := hrd.ptr (by omega)
                  have cz := hrd.at hhn
                  obtain ⟨z, hz'⟩ : ∃ z, D.getD h ByteArray.empty = z := ⟨_, rfl⟩
                  rw [hz'] at cz
                  have zz : z.size = c := by rw [← hz']; exact HD.out.1 _ (getD_mem hhn)
                  have hc32 := HD.out.2.1
                  have zy := HJ.out.2.2.1
                  have hq1 : ¬ (9223372036854775807 < 1 + y2.size) := by omega
                  have hq2 : ¬ (9223372036854775807 < 1 + y2.size + z.size) := by omega
                  have hq3 : ¬ (9223372036854775807 < 1 + z.size) := by omega
                  have hq4 : ¬ (9223372036854775807 < 1 + z.size + y2.size) := by omega
                  have hws := wl_succ c i x D h hhn
                  rw [hz', HLf.out.1, HLf.out.2, ← HJ.out.2.1, HJ.out.1] at hws
                  have hrs : rs c i d0 (D.take (h + 1)) = dg c (stT bq y2 z) := by
                    rw [take_succ_getD ByteArray.empty D h hhn, hz', rs_app, ← HJ.out.2.1, List.length_take, Nat.min_eq_left (by omega), HJ.out.1]
                  obtain ⟨T1, hT1⟩ : ∃ T1, nodeT y2 z = T1 := ⟨_, rfl⟩
                  obtain ⟨T2, hT2⟩ : ∃ T2, nodeT z y2 = T2 := ⟨_, rfl⟩
                  have n1 := s1 y2 z
                  have n2 := s1 z y2
                  rw [hT1] at n1
                  rw [hT2] at n2
                  have zT1 : T1.size ≤ 1000000 := by rw [← hT1, nodeT_size]; omega
                  have zT2 : T2.size ≤ 1000000 := by rw [← hT2, nodeT_size]; omega
                  have hlw := wl_len c i x D h (by omega)
                  have eb : IntKind.u64.wrap ((bq : Int) / 2) = ((bq / 2 : Nat) : Int) := by
                    have h1 := HJ.out.1
                    have := Nat.div_le_self i (2 ^ h)
                    have := HX.out.2.2.2.1; have := HX.out.2.2.2.2.1
                    rw [IntKind.wrap_u64]; omega
                  have hbn : i / 2 ^ (h + 1) = bq / 2 := by rw [← half_next, HJ.out.1]
                  have HOl := hide HJ.out.2.2.2
                  obtain ⟨WL, hWL⟩ : ∃ WL, wl c i x D h = WL := ⟨_, rfl⟩
                  rw [hWL] at hws hlw HOl
                  by_cases hodd : bq % 2 = 1
                  · have hod : (bq : Int) % 2 = 1 := by omega
                    rw [stT, if_pos hodd, hT2] at hws hrs
                    obtain ⟨y3, hy3⟩ : ∃ y3, dg c T2 = y3 := ⟨_, rfl⟩
                    rw [hy3] at hrs
                    have HHt : Hid (∀ W, Below w1.heap.size w1 W → Calls Tryd.prog 22 #[.int .i64 k, .string T2] W fun e w' => e = .returned (.string y3) ∧ Below W.heap.size W w') := fun W hw => HHs.out W T2 y3 (HS.out W (bnext HB1.out hw)).2.2.2.1 zT2 hy3
                    have HG : Hid (wl c i x D (h + 1) = WL ++ [T2] ∧ rs c i d0 (D.take (h + 1)) = y3 ∧ y3.size = c ∧ i / 2 ^ (h + 1) = bq / 2 ∧ WL.length = h + 1 ∧ T2.size ≤ 1000000 ∧ h < s ∧ s ≤ 40) := ⟨hws, hrs, by rw [← hy3]; exact dg_size hc32 _, hbn, hlw, zT2, hhl, HN0.out.2.2.2.2.2.2.1⟩
                    have HBh := hide hbh
                    clear hws hrs hT1 hT2 zT1 zT2 hlw hbn hodd hz' hrd HSx hTr HJ hWL hy3 hc32 zy zz hhn hhl hbh
                    go_wp2_with (at_builtin; refine wpList_append_S _ rfl _ _ rfl w1.heap.size _ WL rfl (own_al HOl.out _) (some ⟨wr.heap.size, 0, none⟩) wr.heap.size 0 1 [T2] rfl (rds_one wr T2 (by have := HG.out.2.2.2.2.2.1; omega)) (fun h => by cases h) ?c1 ?c2 ?_)
                    case c1 => have := HG.out.2.2.2.2.1; have := HG.out.2.2.2.2.2.2; simp; omega
                    case c2 => have := HBh.out.size; simp; omega
                    intro v' w5 o1 o2
                    have hb5 : Below w1.heap.size w1 w5 := (bal HBh.out _).trans o2
                    rw [← HG.out.1] at o1
                    have HO5 := hide o1
                    clear o1 o2 e0 e1 e2 e3 e4 e5 cm cz
                    obtain ⟨e0, e1, e2, e3, e4, e5⟩ := (HS.out w5 (bnext HB1.out hb5)).1.cells
                    go_wp2_with (go_at_call 22; with_reducible refine (HHt.out _ hb5).mono ?_; rintro e w6 ⟨rfl, hb6⟩)
                    go_roundg (s - (h + 1))
                    case rel =>
                      go_light
                      exact ⟨h + 1, bq / 2, y3, by have := HG.out.2.2.2.2.2.2.1; omega, rfl, by go_num, by go_num, by go_num, rfl, ⟨HG.out.2.2.2.1, HG.out.2.1.symm, HG.out.2.2.1, own_next HO5.out hb6 (Nat.le_refl _)⟩, bnext hb5 hb6⟩
                    case measure => go_light; have := HG.out.2.2.2.2.2.2.1; omega
                  · have hod : ¬ (bq : Int) % 2 = 1 := by omega
                    rw [stT, if_neg hodd, hT1] at hws hrs
                    obtain ⟨y3, hy3⟩ : ∃ y3, dg c T1 = y3 := ⟨_, rfl⟩
                    rw [hy3] at hrs
                    have HHt : Hid (∀ W, Below w1.heap.size w1 W → Calls Tryd.prog 22 #[.int .i64 k, .string T1] W fun e w' => e = .returned (.string y3) ∧ Below W.heap.size W w') := fun W hw => HHs.out W T1 y3 (HS.out W (bnext HB1.out hw)).2.2.2.1 zT1 hy3
                    have HG : Hid (wl c i x D (h + 1) = WL ++ [T1] ∧ rs c i d0 (D.take (h + 1)) = y3 ∧ y3.size = c ∧ i / 2 ^ (h + 1) = bq / 2 ∧ WL.length = h + 1 ∧ T1.size ≤ 1000000 ∧ h < s ∧ s ≤ 40) := ⟨hws, hrs, by rw [← hy3]; exact dg_size hc32 _, hbn, hlw, zT1, hhl, HN0.out.2.2.2.2.2.2.1⟩
                    have HBh := hide hbh
                    clear hws hrs hT1 hT2 zT1 zT2 hlw hbn hodd hz' hrd HSx hTr HJ hWL hy3 hc32 zy zz hhn hhl hbh
                    go_wp2_with (at_builtin; refine wpList_append_S _ rfl _ _ rfl w1.heap.size _ WL rfl (own_al HOl.out _) (some ⟨wr.heap.size, 0, none⟩) wr.heap.size 0 1 [T1] rfl (rds_one wr T1 (by have := HG.out.2.2.2.2.2.1; omega)) (fun h => by cases h) ?c1 ?c2 ?_)
                    case c1 => have := HG.out.2.2.2.2.1; have := HG.out.2.2.2.2.2.2; simp; omega
                    case c2 => have := HBh.out.size; simp; omega
                    intro v' w5 o1 o2
                    have hb5 : Below w1.heap.size w1 w5 := (bal HBh.out _).trans o2
                    rw [← HG.out.1] at o1
                    have HO5 := hide o1
                    clear o1 o2 e0 e1 e2 e3 e4 e5 cm cz
                    obtain ⟨e0, e1, e2, e3, e4, e5⟩ := (HS.out w5 (bnext HB1.out hb5)).1.cells
                    go_wp2_with (go_at_call 22; with_reducible refine (HHt.out _ hb5).mono ?_; rintro e w6 ⟨rfl, hb6⟩)
                    go_roundg (s - (h + 1))
                    case rel =>
                      go_light
                      exact ⟨h + 1, bq / 2, y3, by have := HG.out.2.2.2.2.2.2.1; omega, rfl, by go_num, by go_num, by go_num, rfl, ⟨HG.out.2.2.2.1, HG.out.2.1.symm, HG.out.2.2.1, own_next HO5.out hb6 (Nat.le_refl _)⟩, bnext hb5 hb6⟩
                    case measure => go_light; have := HG.out.2.2.2.2.2.2.1; omega
                · obtain rfl : h = s := by omega
                  have hhz : ¬ ((h : Int) < (h : Int)) := by omega
                  have HN : Hid (h = (if A.length < j + 1 then h else 0) ∧ y2 = rs c i d0 (D.take h) ∧ OwnS wr w1.heap.size u7 (wl c i x D h) ∧ Ch2 (n + q) (M.drop (j + 1)) ∧ n + q ≤ size) := ⟨by rw [if_pos (by have := HN0.out.2.2.2.2.1; omega)], HJ.out.2.1, HJ.out.2.2.2, HN0.out.2.2.1, HN0.out.2.2.2.1⟩
                  have HM2 : Hid (j = (if A.length < j + 1 then A.length else 0) ∧ i / 2 ^ h = bq) := ⟨by rw [if_pos (by have := HN0.out.2.2.2.2.1; omega)]; exact HN0.out.2.2.2.2.1, HJ.out.1⟩
                  clear hhl HJ
                  go_wp2
                  go_roundg (M.length - (j + 1))
                  case rel =>
                    go_light
                    exact ⟨j + 1, h, n + q, j, bq, y2, by omega, rfl, by go_num, rfl, rfl, rfl, by go_num, rfl, HM2, HN, hbh⟩
                  case measure => go_light; omega
            · have hge : ¬ (n : Int) ≤ (i : Int) := by have := ww3 hjA; omega
              have HN : Hid (t = (if A.length < j + 1 then H else 0) ∧ y = rs c i d0 (D.take t) ∧ OwnS wo w1.heap.size u7 (wl c i x D t) ∧ Ch2 (n + q) (M.drop (j + 1)) ∧ n + q ≤ size) := ⟨by rw [HI.out.1, if_pos (by omega), if_pos (by omega)], HI.out.2.1, HI.out.2.2.1, hcb, hin⟩
              have HM2 : Hid (mi = (if A.length < j + 1 then A.length else 0) ∧ i / 2 ^ t = bq) := ⟨by rw [HMI.out.1, if_pos (by omega), if_pos (by omega)], HMI.out.2⟩
              clear hca hcb ww1 ww2 ww3 hin hq hqp hsz40 hlen3 HI
              go_wp2
              go_roundg (M.length - (j + 1))
              case rel =>
                go_light
                exact ⟨j + 1, t, n + q, mi, bq, y, by omega, rfl, by go_num, rfl, rfl, rfl, by go_num, rfl, HM2, HN, hb⟩
              case measure => go_light; omega
      · obtain rfl : j = M.length := by omega
        have hz : ¬ ((M.length : Int) < (M.length : Int)) := by omega
        have hlen3 := HX.out.2.2.1
        have hDl3 := HX.out.2.2.2.2.2.2.2.2
        obtain rfl : t = H := by rw [HI.out.1, if_pos (by omega)]
        obtain rfl : mi = A.length := by rw [HMI.out.1, if_pos (by omega)]
        obtain ⟨P, hP⟩ : ∃ P, pkP c i A.length t D x = P := ⟨_, rfl⟩
        have hPl : P.length = M.length := by rw [← hP, pkP_len (by omega)]; omega
        have hPa : ∀ j, P.getD j ByteArray.empty = if j < A.length then D.getD (t + j) ByteArray.empty else if j = A.length then y else D.getD (t + (j - 1)) ByteArray.empty := fun j => by rw [← hP, pkP_at (by omega), HLf.out.1, HLf.out.2, HI.out.2.1]
        have hPs : ∀ s ∈ P, s.size = c := by rw [← hP]; exact pkP_size HD.out.2.1 HD.out.1
        have hyz : y.size = c := hPs y (by rw [← hP, pkP, HLf.out.1, HLf.out.2, ← HI.out.2.1]; simp)
        have HP : Hid (P.length = M.length ∧ (∀ j, P.getD j ByteArray.empty = if j < A.length then D.getD (t + j) ByteArray.empty else if j = A.length then y else D.getD (t + (j - 1)) ByteArray.empty) ∧ (∀ s ∈ P, s.size = c) ∧ M.length = A.length + 1 + B.length ∧ D.length = t + A.length + B.length ∧ A.length + B.length ≤ 40 ∧ t ≤ 40 ∧ y.size = c ∧ pkP c i A.length t D x = P) := ⟨hPl, hPa, hPs, hlen3, hDl3, HX.out.2.2.2.2.2.1, HX.out.2.2.2.2.2.2.1, hyz, hP⟩
        have HLo : Hid (OwnS wr w1.heap.size u7 (wl c i x D t) ∧ Below w1.heap.size w1 wr) := ⟨HI.out.2.2.1, hb⟩
        clear hPl hPa hPs hyz hP hlen3 hDl3 HI HMI hlt hj hb HBr HX
        generalize wr = wo at *
        clear wr
        go_wp2
        go_loopg [9, 18, 19] M.length (fun gh a1 v jj wr => ∃ j a : Nat, j ≤ M.length ∧ gh = M.length - j ∧ jj = .int .i64 (j : Int) ∧ a1 = .int .i64 (a : Int) ∧ Hid (a = t + (if A.length < j then j - 1 else j)) ∧ OwnS wr wo.heap.size v (P.take j) ∧ Below wo.heap.size wo wr)
        case atStart =>
          go_light
          exact ⟨0, t, Nat.zero_le _, rfl, rfl, rfl, by show _ = _; rw [if_neg (by omega)]; rfl, owns_nil _ _, Below.refl _ _⟩
        case round =>
          obtain ⟨j, a, hj, rfl, rfl, rfl, Ha, ho, hb⟩ := hrel
          by_cases hlt : j < M.length
          · have hz : (j : Int) < (M.length : Int) := by omega
            have hz0 : (0 : Int) ≤ (j : Int) := Int.natCast_nonneg _
            have ha0 : (0 : Int) ≤ (a : Int) := Int.natCast_nonneg _
            obtain ⟨p1, p2, p3, p4, p5, p6, p7, p8, p9⟩ := HP.out
            have htk := take_succ_getD ByteArray.empty P j (by omega)
            have hpj := p2 j
            have hlt0 : (P.take j).length = j := by rw [List.length_take]; omega
            obtain ⟨TK, hTK⟩ : ∃ TK, P.take j = TK := ⟨_, rfl⟩
            rw [hTK] at htk hlt0 ho
            have HBo := hide hb
            by_cases hjA : j = A.length
            · have hjz : (j : Int) = (A.length : Int) := by omega
              rw [if_neg (by omega), if_pos hjA] at hpj
              rw [hpj] at htk
              have HG : Hid (P.take (j + 1) = TK ++ [y] ∧ TK.length = j ∧ y.size ≤ 32 ∧ a = t + (if A.length < j + 1 then j + 1 - 1 else j + 1)) := ⟨htk, hlt0, by have := HD.out.2.1; omega, by rw [Ha.out, if_neg (by omega), if_pos (by omega)]; omega⟩
              have HO := hide ho
              clear p1 p2 p3 p4 p5 p6 p7 p8 p9 htk hpj hlt0 ho hTK Ha hb hjA
              go_wp2_with (at_builtin; refine wpList_append_S _ rfl _ _ rfl wo.heap.size _ TK rfl (own_al HO.out _) (some ⟨wr.heap.size, 0, none⟩) wr.heap.size 0 1 [y] rfl (rds_one wr y (by have := HG.out.2.2.1; omega)) (fun h => by cases h) ?c1 ?c2 ?_)
              case c1 => have := HG.out.2.1; simp; omega
              case c2 => have := HBo.out.size; simp; omega
              intro v' w5 o1 o2
              rw [← HG.out.1] at o1
              have hb5 : Below wo.heap.size wo w5 := (bal HBo.out _).trans o2
              clear o2
              go_wp2
              go_roundg (M.length - (j + 1))
              case rel =>
                go_light
                exact ⟨j + 1, a, by omega, rfl, by go_num, rfl, HG.out.2.2.2, o1, hb5⟩
              case measure => go_light; omega
            · have hjz : ¬ (j : Int) = (A.length : Int) := by omega
              have haD : a < D.length := by rw [Ha.out]; split <;> omega
              have haz : (a : Int) < (D.length : Int) := by omega
              obtain ⟨HSx, _, hrd, _, _⟩ := HS.out wr (bnext (bnext HB1.out HLo.out.2) hb)
              obtain ⟨e0, e1, e2, e3, e4, e5⟩ := HSx.cells
              obtain rfl := hrd.ptr (by omega)
              have cz := hrd.at haD
              have hpz : P.getD j ByteArray.empty = D.getD a ByteArray.empty := by
                rw [hpj, Ha.out]
                by_cases h1 : j < A.length
                · rw [if_pos h1, if_neg (by omega)]
                · rw [if_neg h1, if_neg hjA, if_pos (by omega)]
              rw [hpz] at htk
              obtain ⟨z, hz'⟩ : ∃ z, D.getD a ByteArray.empty = z := ⟨_, rfl⟩
              rw [hz'] at cz htk
              have zz : z.size ≤ 32 := by rw [← hz', HD.out.1 _ (getD_mem haD)]; exact HD.out.2.1
              have HG : Hid (P.take (j + 1) = TK ++ [z] ∧ TK.length = j ∧ z.size ≤ 32 ∧ a + 1 = t + (if A.length < j + 1 then j + 1 - 1 else j + 1)) := ⟨htk, hlt0, zz, by rw [Ha.out]; split <;> split <;> omega⟩
              have HO := hide ho
              have ha100 : (a : Int) ≤ 100 := by omega
              clear p1 p2 p3 p4 p5 p6 p7 p8 p9 htk hpj hlt0 ho hTK Ha hb hjA hpz hz' zz hrd HSx haD
              go_wp2_with (at_builtin; refine wpList_append_S _ rfl _ _ rfl wo.heap.size _ TK rfl (own_al HO.out _) (some ⟨wr.heap.size, 0, none⟩) wr.heap.size 0 1 [z] rfl (rds_one wr z (by have := HG.out.2.2.1; omega)) (fun h => by cases h) ?c1 ?c2 ?_)
              case c1 => have := HG.out.2.1; simp; omega
              case c2 => have := HBo.out.size; simp; omega
              intro v' w5 o1 o2
              rw [← HG.out.1] at o1
              have hb5 : Below wo.heap.size wo w5 := (bal HBo.out _).trans o2
              clear o2
              go_wp2
              go_roundg (M.length - (j + 1))
              case rel =>
                go_light
                exact ⟨j + 1, a + 1, by omega, rfl, by go_num, by go_num, HG.out.2.2.2, o1, hb5⟩
              case measure => go_light; omega
          · obtain rfl : j = M.length := by omega
            have hz : ¬ ((M.length : Int) < (M.length : Int)) := by omega
            obtain ⟨p1, p2, p3, p4, p5, p6, p7, p8, p9⟩ := HP.out
            rw [← p1, List.take_length] at ho
            obtain ⟨gp, cp, rfl, hgp, hcp, _⟩ := own_form ho (by omega)
            rw [p1] at hcp ⊢
            obtain ⟨m1, hm1⟩ : ∃ m1, M.length = m1 + 1 := ⟨M.length - 1, by omega⟩
            have hgl : gp < wr.heap.size := (ho.lt gp rfl).2
            have HPc : Hid (∀ W : World, W.heap[gp]? = wr.heap[gp]? → ∀ j, j < m1 + 1 → W.cell? ⟨gp, j, none⟩ = some (.string (P.getD j ByteArray.empty))) := fun W hW j hj => by
              have := (own_cell ho (j := j) (by omega)).1
              exact (World.cell?_of_block (a := ⟨gp, j, none⟩) hW).trans this
            have HLw : Hid (OwnS wr w1.heap.size u7 (wl c i x D t) ∧ (∀ b, u7.ownBlock = some b → b ≠ gp) ∧ Below w1.heap.size w1 wr ∧ gp < wr.heap.size) := by
              refine ⟨own_next HLo.out.1 hb (Nat.le_refl _), fun b e => ?_, bnext HLo.out.2 hb, hgl⟩
              have := (HLo.out.1.lt b e).2
              omega
            have hlast := bagL_last c P (by omega)
            rw [p1, hm1, show m1 + 1 - 1 = m1 by omega] at hlast
            have hPl0 : bgT c (P.drop m1) = [] := by
              have : (bgT c (P.drop m1)).length = 0 := by rw [bgT_len, List.length_drop]; omega
              exact List.length_eq_zero_iff.1 this
            obtain ⟨g0, hg0⟩ : ∃ g0, P.getD m1 ByteArray.empty = g0 := ⟨_, rfl⟩
            have cl := HPc.out wr rfl m1 (by omega)
            rw [hg0] at cl
            have HB0 : Hid (g0 = bagL c (P.drop m1) ∧ bgT c (P.drop m1) = [] ∧ P.length = m1 + 1 ∧ m1 ≤ 40) := ⟨by rw [← hg0, ← hlast], hPl0, by omega, by omega⟩
            have hm40 : (m1 : Int) ≤ 40 := by omega
            have hm00 : (0 : Int) ≤ (m1 : Int) := Int.natCast_nonneg _
            rw [hm1]
            clear p1 p2 p3 p4 p5 p6 p7 p8 p9 hlast hPl0 hg0 hgl hcp ho hb hm1 hlt hj hl63 hz
            generalize wr = wq at *
            clear wr
            obtain ⟨i0, hi1, hi2, hi3, hi4⟩ := info_parts Tryd.infoS
            have HI0 : Hid (Tryd.prog.info? 9 = some i0 ∧ i0.zero = some (.string ByteArray.empty) ∧ i0.size = 1 ∧ i0.bytes = 16) := ⟨hi1, hi2, hi3, hi4⟩
            clear hi1 hi2 hi3 hi4
            go_wp2
            go_loopg [7, 20, 21] m1 (fun gh l bg jj wr => ∃ (m : Nat) (bv : ByteArray), m = gh ∧ m ≤ m1 ∧ jj = .int .i64 ((m : Int) - 1) ∧ bg = .string bv ∧ Hid (bv = bagL c (P.drop m) ∧ OwnS wr w1.heap.size l (wl c i x D t ++ bgT c (P.drop m)) ∧ (∀ b, l.ownBlock = some b → b ≠ gp) ∧ wr.heap[gp]? = wq.heap[gp]?) ∧ Below w1.heap.size w1 wr)
            case atStart =>
              go_light
              refine ⟨m1, g0, rfl, Nat.le_refl _, by go_num, rfl, ⟨HB0.out.1, ?_, HLw.out.2.1, rfl⟩, HLw.out.2.2.1⟩
              rw [HB0.out.2.1, List.append_nil]; exact HLw.out.1
            case round =>
              clear cl
              obtain ⟨m, bv, hg, hm, rfl, rfl, HJ, hb⟩ := hrel
              subst hg
              have zb : bv.size ≤ 32 := by rw [HJ.out.1]; exact bagL_size HD.out.2.1 (Nat.le_refl _) _ (fun s hs => by rw [HP.out.2.2.1 s (List.mem_of_mem_drop hs)]; exact HD.out.2.1)
              have hLl : (wl c i x D t ++ bgT c (P.drop m)).length ≤ 200 := by
                rw [List.length_append, wl_len c i x D t (by have := HP.out.2.2.2.2.1; omega), bgT_len, List.length_drop]
                have := HP.out.2.2.2.2.2.2.1; have := HB0.out.2.2.1; have := HB0.out.2.2.2; omega
              obtain ⟨LL, hLL⟩ : ∃ LL, wl c i x D t ++ bgT c (P.drop m) = LL := ⟨_, rfl⟩
              have HO : Hid (OwnS wr w1.heap.size u7 LL ∧ LL.length ≤ 200 ∧ (∀ b, u7.ownBlock = some b → b ≠ gp) ∧ wr.heap[gp]? = wq.heap[gp]? ∧ Below w1.heap.size w1 wr) := ⟨by rw [← hLL]; exact HJ.out.2.1, by rw [← hLL]; exact hLl, HJ.out.2.2.1, HJ.out.2.2.2, hb⟩
              cases m with
              | zero =>
                have hz : ¬ ((0 : Int) ≤ -1) := by decide
                rw [show ((0 : Nat) : Int) - 1 = -1 from rfl]
                obtain ⟨T, hTt⟩ : ∃ T, rootW ++ bv = T := ⟨_, rfl⟩
                have n3 := s3 bv
                rw [hTt] at n3
                have zT : T.size ≤ 1000 := by rw [← hTt, ByteArray.size_append]; show 5 + bv.size ≤ 1000; omega
                have hq5 : ¬ (9223372036854775807 < 5 + bv.size) := by omega
                have HF : Hid (trl c i A.length t D x = LL ++ [T] ∧ T.size ≤ 1000) := by
                  refine ⟨?_, zT⟩
                  rw [trl, HP.out.2.2.2.2.2.2.2.2, ← hLL, ← hTt, List.drop_zero, HJ.out.1, List.drop_zero, List.append_assoc]
                  rfl
                clear hLl hLL HJ zb hTt zT hm hb
                go_wp2_with (at_builtin; refine wpList_append_S _ rfl _ _ rfl w1.heap.size _ LL rfl (own_al HO.out.1 _) (some ⟨wr.heap.size, 0, none⟩) wr.heap.size 0 1 [T] rfl (rds_one wr T (by have := HF.out.2; omega)) (fun h => by cases h) ?c1 ?c2 ?_)
                case c1 => have := HO.out.2.1; simp; omega
                case c2 => have := HO.out.2.2.2.2.size; simp; omega
                intro v' w5 o1 o2
                rw [← HF.out.1] at o1
                have HFin : Hid (OwnS w5 w.heap.size v' (trl c i A.length t D x) ∧ Below w.heap.size w w5) := ⟨o1.mono (HS.out w1 HB1.out).2.2.2.2.size, (bnext (HS.out w1 HB1.out).2.2.2.2 (bal HO.out.2.2.2.2 _)).trans (o2.mono (HS.out w1 HB1.out).2.2.2.2.size)⟩
                clear o1 o2
                go_wp2
                go_ret
                exact ⟨_, rfl, HFin.out.1, HFin.out.2⟩
              | succ m =>
                have ei : (((m + 1 : Nat) : Int) - 1) = (m : Int) := by omega
                rw [ei]
                have hz0 : (0 : Int) ≤ (m : Int) := Int.natCast_nonneg _
                have hz1 : (m : Int) < (m1 : Int) + 1 := by omega
                have hz40 : (m : Int) ≤ 40 := by have := HB0.out.2.2.2; omega
                have cp' := HPc.out wr HO.out.2.2.2.1 m (by omega)
                obtain ⟨p, hp⟩ : ∃ p, P.getD m ByteArray.empty = p := ⟨_, rfl⟩
                rw [hp] at cp'
                have zp : p.size ≤ 32 := by rw [← hp, HP.out.2.2.1 _ (getD_mem (by have := HB0.out.2.2.1; omega))]; exact HD.out.2.1
                have hq1 : ¬ (9223372036854775807 < 1 + p.size) := by omega
                have hq2 : ¬ (9223372036854775807 < 1 + p.size + bv.size) := by omega
                obtain ⟨T, hTt⟩ : ∃ T, bagT p bv = T := ⟨_, rfl⟩
                have n2 := s2 p bv
                rw [hTt] at n2
                have zT : T.size ≤ 1000 := by rw [← hTt, bagT_size]; omega
                have hbd := bagL_drop c P m (by have := HB0.out.2.2.1; omega)
                have hgd := bgT_drop c P m (by have := HB0.out.2.2.1; omega)
                rw [hp, ← HJ.out.1, hTt] at hbd hgd
                obtain ⟨b2, hb2⟩ : ∃ b2, dg c T = b2 := ⟨_, rfl⟩
                rw [hb2] at hbd
                have HHt : Hid (∀ W, Below w1.heap.size w1 W → Calls Tryd.prog 22 #[.int .i64 k, .string T] W fun e w' => e = .returned (.string b2) ∧ Below W.heap.size W w') := fun W hw => HHs.out W T b2 (HS.out W (bnext HB1.out hw)).2.2.2.1 (by omega) hb2
                have HG : Hid (b2 = bagL c (P.drop m) ∧ wl c i x D t ++ bgT c (P.drop m) = LL ++ [T] ∧ T.size ≤ 1000 ∧ m + 1 ≤ m1) := ⟨hbd.symm, by rw [hgd, ← List.append_assoc, hLL], zT, hm⟩
                clear hLl hLL HJ zb hTt zT hm hb hbd hgd hb2 zp hp
                go_wp2_with (at_builtin; refine Cv.wpList_append_ap _ rfl _ _ _ rfl w1.heap.size 9 i0 (.string ByteArray.empty) 1 16 Tryd.underlying24 HI0.out.1 HI0.out.2.1 HI0.out.2.2.1 HI0.out.2.2.2 rfl (by decide) _ LL.length (cS LL) rfl (own_al HO.out.1 _) _ 1 (cS [T]) rfl (rds_rdc (rds_one wr T (by have := HG.out.2.2.1; omega)) (fun h => by cases h)) (cS_len [T]) (cS_one [T]) ?c1 ?c2 ?c3 ?_)
                case c1 => have := HO.out.2.1; unfold maxLen; omega
                case c2 => have := HO.out.2.1; omega
                case c3 => have := HO.out.2.2.2.2.size; simp; omega
                intro v' w5 hap
                have o1 : OwnS w5 w1.heap.size v' (LL ++ [T]) := by
                  rw [OwnS, List.length_append, List.map_append]; exact hap.own
                have hst := Cv.ownB_step HO.out.2.2.2.2 HO.out.2.2.2.2.size HO.out.1 hap.grown
                have hgq : gp < wr.heap.size := by
                  have := HLw.out.2.2.2
                  have h1 := HO.out.2.2.2.1
                  apply Nat.lt_of_not_le
                  intro hle
                  rw [Array.getElem?_eq_none hle] at h1
                  have h2 := h1.symm
                  rw [Array.getElem?_eq_none_iff] at h2
                  omega
                have hgk : w5.heap[gp]? = wq.heap[gp]? := by
                  rw [hap.grown.block gp (by simp; omega) (fun e => HO.out.2.2.1 gp e.symm rfl), Below.heap_alloc _ _ _ hgq]
                  exact HO.out.2.2.2.1
                have hfr : ∀ b, v'.ownBlock = some b → b ≠ gp := fun b e => by
                  rcases hap.fresh with h | h
                  · rw [h] at e; exact HO.out.2.2.1 b e
                  · have := h b e; rw [World.size_alloc] at this; omega
                rw [← HG.out.2.1] at o1
                have HY : Hid (OwnS w5 w1.heap.size v' (wl c i x D t ++ bgT c (P.drop m)) ∧ w5.heap[gp]? = wq.heap[gp]? ∧ (∀ b, v'.ownBlock = some b → b ≠ gp) ∧ gp < w5.heap.size) := ⟨o1, hgk, hfr, by have := hap.grown.size; rw [World.size_alloc] at this; omega⟩
                have hb5 := hst.1
                obtain ⟨e0, e1, e2, e3, e4, e5⟩ := (HS.out w5 (bnext HB1.out hb5)).1.cells
                clear o1 hst hgq hgk hfr hap
                go_wp2_with (go_at_call 22; with_reducible refine (HHt.out _ hb5).mono ?_; rintro e w6 ⟨rfl, hb6⟩)
                go_roundg m
                case rel =>
                  go_light
                  exact ⟨m, b2, rfl, by have := HG.out.2.2.2; omega, by go_num, rfl, ⟨HG.out.1, own_next HY.out.1 hb6 (Nat.le_refl _), HY.out.2.2.1, (hb6.block gp HY.out.2.2.2).trans HY.out.2.1⟩, bnext hb5 hb6⟩
                case measure => go_light; omega
end Go.Proofs.YtgmnolepaidiiaaDoor
