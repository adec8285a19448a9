/-
  DiskFates, by kinds. Own work.
-/
import Derived.Test.YtmhedhhbdpdafaaDFtD
namespace Go.Proofs.Ytmhedhhbdpdafaa
open Go.RowKit
set_option maxRecDepth 100000 in
set_option maxHeartbeats 40000000 in
theorem fates_walkA (w : World) (a0 : Option Addr) (b0 o0 n0 c0 : Nat) (l0 : Nat → OpV) (r0 : RdO w a0 b0 o0 n0 l0) (m0 : n0 ≤ maxLen) (at0 kd0 : Int) (ka : Option Addr) (kb ko kc : Nat) (ks : List Bool) (hk : RdL w ka kb ko ks) (hkl : ks.length ≤ 140737488355328) (hkind : 1 + bentV kd0 4 ≤ 3) :
    Calls Try.prog 6 #[.slice a0 n0 c0, .agg #[.int .i64 at0, .int .i64 kd0, .slice ka ks.length kc]] w fun e w' => e = .returned (.bool true) ∧ Below w.heap.size w w' := by
  have HR : Hid (RdO w a0 b0 o0 n0 l0 ∧ n0 ≤ maxLen) := ⟨r0, m0⟩
  have HA : Hid (∀ W, Calls Try.prog 9 #[] W fun e w' => e = .returned (.bool true) ∧ Below W.heap.size W w') := fun W => alive_any W
  have HN : Hid (∀ W, Calls Try.prog 11 #[.int .i64 1048576] W fun e w' => ∃ p S, e = .returned (.pointer (some ⟨p, 0, none⟩)) ∧ Dsk w' p S (newD 1048576) ∧ (∀ x, S x → W.heap.size ≤ x) ∧ Below W.heap.size W w') := fun W => new_any W 1048576 1048576 rfl (by decide)
  obtain ⟨z1, hz1⟩ : ∃ z, bentV at0 30 = z := ⟨_, rfl⟩
  obtain ⟨z2, hz2⟩ : ∃ z, bentV kd0 4 = z := ⟨_, rfl⟩
  have HB1 : Hid (∀ W, Calls Try.prog 10 #[.int .i64 at0, .int .i64 30] W fun e w' => e = .returned (.int .i64 (z1 : Int)) ∧ w' = W) := fun W => by rw [← hz1]; exact bent_any W at0 30 (by omega)
  have HB2 : Hid (∀ W, Calls Try.prog 10 #[.int .i64 kd0, .int .i64 4] W fun e w' => e = .returned (.int .i64 (z2 : Int)) ∧ w' = W) := fun W => by rw [← hz2]; exact bent_any W kd0 4 (by omega)
  have hb1 := bentV_le at0 30
  have hb2 := bentV_le kd0 4
  rw [hz1] at hb1
  rw [hz2] at hb2
  rw [hz2] at hkind
  obtain ⟨at_, hat⟩ : ∃ z, 1 + z1 = z := ⟨_, rfl⟩
  obtain ⟨K, hK⟩ : ∃ z, 1 + z2 = z := ⟨_, rfl⟩
  have e1 : IntKind.i64.wrap (1 + (z1 : Int)) = (at_ : Int) := by rw [IntKind.wrap_i64]; omega
  have e2 : IntKind.i64.wrap (1 + (z2 : Int)) = (K : Int) := by rw [IntKind.wrap_i64]; omega
  have hat1 : 1 ≤ at_ ∧ at_ ≤ 31 := by omega
  have hK1 : 1 ≤ K ∧ K ≤ 5 := by omega
  obtain ⟨kl, hkl2⟩ : ∃ kl, ks.length = kl := ⟨_, rfl⟩
  have HKs : Hid (RdL w ka kb ko ks ∧ ks.length ≤ 140737488355328 ∧ ks.length = kl) := ⟨hk, hkl, hkl2⟩
  rw [hkl2]
  have HKind : Hid (K ≤ 3) := by rw [← hK]; exact hkind
  clear r0 m0 hk hkl hkl2 hz1 hz2 hb1 hb2 hat hK hkind
  obtain ⟨w1, hw1⟩ : ∃ W, w.alloc (.cells #[.int .i64 at0, .int .i64 kd0, .slice ka kl kc] 54) = W := ⟨_, rfl⟩
  have HW1 := hide hw1
  have u1 : Below w.heap.size w w1 := by rw [← hw1]; exact bal (Below.refl _ _) _
  have k1 : w1.heap[w.heap.size]? = some (.cells #[.int .i64 at0, .int .i64 kd0, .slice ka kl kc] 54 (0, 0)) := by rw [← hw1]; exact new1 _ _
  clear hw1
  go_enter Try.func6, Try.ntmps6
  go_upto_region 1 with (fail)
  rw [HW1.out]
  obtain ⟨bf, hbf⟩ : ∃ b, w.heap.size = b := ⟨_, rfl⟩
  have HBf := hide hbf
  rw [hbf] at k1 ⊢
  go_upto_region 3 with (go_at_call 9; (with_reducible refine (HA.out _).mono ?_); rintro e w2 ⟨rfl, u2⟩)
  have k2 : w2.heap[bf]? = some (.cells #[.int .i64 at0, .int .i64 kd0, .slice ka kl kc] 54 (0, 0)) := (u2.block bf (Array.getElem?_eq_some_iff.1 k1).1).trans k1
  obtain ⟨c20, c21, c22⟩ := three_at' k2
  have z20 : w2.frozen? ⟨bf, 0, none⟩ = false := frozen_of_row w2 _ 0 _ _ k2
  have u2' := bnext u1 u2
  have HU2 := hide u2'
  have HK2 := hide k2
  clear u1 u2 u2' k1 k2 hbf
  go_upto_region 4 with (go_at_call 10; (with_reducible refine (HB1.out _).mono ?_); rintro e w3 ⟨rfl, h3⟩; rw [h3]; clear h3 w3)
  obtain ⟨w3, hw3⟩ : ∃ W, w2.setCell ⟨bf, 0, none⟩ (.int .i64 (at_ : Int)) = W := ⟨_, rfl⟩
  have k3 : w3.heap[bf]? = some (.cells #[.int .i64 (at_ : Int), .int .i64 kd0, .slice ka kl kc] 54 (0, 0)) := by rw [← hw3]; exact heap_setCell_same w2 bf 0 _ _ _ HK2.out
  have u3 : Below w.heap.size w w3 := by rw [← hw3]; exact upo_below HU2.out (S := fun x => x = bf) (fun x h => by rw [h, ← HBf.out]; exact Nat.le_refl _) ((Upo.refl _ _).set _ _ _ (.inl rfl))
  rw [hw3]
  clear c20 c21 c22 z20 hw3
  obtain ⟨c20, c21, c22⟩ := three_at' k3
  have z21 : w3.frozen? ⟨bf, 1, none⟩ = false := frozen_of_row w3 _ 1 _ _ k3
  have HU3 := hide u3
  have HK3 := hide k3
  clear u3 k3
  go_upto_region 5 with (go_at_call 10; (with_reducible refine (HB2.out _).mono ?_); rintro e w4 ⟨rfl, h4⟩; rw [h4]; clear h4 w4)
  obtain ⟨w4, hw4⟩ : ∃ W, w3.setCell ⟨bf, 1, none⟩ (.int .i64 (K : Int)) = W := ⟨_, rfl⟩
  have k4 : w4.heap[bf]? = some (fB at_ K ka kl kc) := by rw [← hw4]; exact heap_setCell_same w3 bf 1 _ _ _ HK3.out
  have u4 : Below w.heap.size w w4 := by rw [← hw4]; exact upo_below HU3.out (S := fun x => x = bf) (fun x h => by rw [h, ← HBf.out]; exact Nat.le_refl _) ((Upo.refl _ _).set _ _ _ (.inl rfl))
  rw [hw4]
  clear c20 c21 c22 z21 hw4 HB1 HB2 HA HU2 HK2 HU3 HK3 HW1 e1 e2
  go_upto_region 6 with (go_at_call 11; (with_reducible refine (HN.out _).mono ?_); rintro e w5 ⟨p, S, rfl, d1, s1, u5⟩)
  go_upto_region 7 with (go_at_call 11; (with_reducible refine (HN.out _).mono ?_); rintro e w6 ⟨q, T, rfl, d2, s2, u6⟩)
  have hlt4 : bf < w4.heap.size := (Array.getElem?_eq_some_iff.1 k4).1
  have b6 : Bw w w6 p q (newD 1048576) (newD 1048576) [(bf, fB at_ K ka kl kc)] := by
    refine bw_new d1 (fun x hx => Nat.le_trans u4.size (s1 x hx)) (bnext u4 u5) (fun c hc => ?_) d2 s2 u6
    simp only [List.mem_singleton] at hc
    subst hc
    exact ⟨fun e => by have := s1 _ e; simp only at this; omega, by rw [HBf.out]; exact Nat.le_refl _, (u5.block bf hlt4).trans k4⟩
  have HLy := hide (b6.lay (at_ : Int) (K : Int) (by omega) ka kb ko kc ks HKs.out.1 HKs.out.2.1)
  rw [HKs.out.2.2] at HLy
  obtain ⟨c60, c61, c62⟩ := three_at' (show w6.heap[bf]? = some (.cells #[.int .i64 (at_ : Int), .int .i64 (K : Int), .slice ka kl kc] 54 (0, 0)) from b6.box (List.mem_cons_self ..))
  have HF0 := hide (ft_new at_ K ks hat1.1 hK1.1 hK1.2)
  clear d1 d2 s1 s2 u4 u5 u6 k4 hlt4 HN b6
  go_upto_region 8 with (go_at_call 25; (with_reducible refine HLy.out.mono ?_); rintro e w7 ⟨rfl, b7⟩)
  have HB7 := hide b7
  clear c60 c61 c62 HLy b7
  go_wp2
  go_loopg [7] 60 (fun g x wr => ∃ (j : Nat) (D E : DV), j ≤ 60 ∧ g = 60 - j ∧ x = .int .i64 (j : Int) ∧ Ft D E at_ K ks j ∧ Bw w wr p q D E [(bf, fB at_ K ka kl kc)] ∧ j ≤ n0)
  case atStart =>
    exact ⟨0, _, _, by omega, rfl, rfl, HF0.out, HB7.out, Nat.zero_le _⟩
  case round =>
    clear HF0 HB7
    obtain ⟨j, D, E, hj, rfl, rfl, hft, bx, hjn⟩ := hrel
    by_cases hlt : j < n0 ∧ j < 60
    · obtain ⟨hl1, hl2⟩ := hlt
      obtain ⟨q0, q2⟩ := HR.out
      obtain ⟨a, ha⟩ : ∃ a, o0 + j * 7 = a := ⟨_, rfl⟩
      obtain ⟨k0, k1, k2, k3, k4, k5, k6⟩ := q0.seven bx.below hl1 ha
      have hok := (q0.cell j hl1).2.2.2.2.2.2.2
      obtain rfl := q0.ptr (by omega)
      generalize l0 j = o at *
      obtain ⟨kind, which, nm, dt, oat, n, oka, okc, okb, oko, keep⟩ := o
      simp only at k0 k1 k2 k3 k4 k5 k6 hok
      obtain ⟨okl, hokl⟩ : ∃ kl, keep.length = kl := ⟨_, rfl⟩
      rw [hokl] at k6
      obtain ⟨w8, hw8⟩ : ∃ W, wr.alloc (.cells #[.int .i64 kind, .int .i64 which, .string nm, .string dt, .int .i64 oat, .int .i64 n, .slice oka okl okc] 30) = W := ⟨_, rfl⟩
      have HW8 := hide hw8
      have b8 : Bw w w8 p q D E [(wr.heap.size, oB kind which nm dt oat n oka okl okc), (bf, fB at_ K ka kl kc)] := by rw [← hw8]; exact bx.alloc _
      have hne8 : bf ≠ wr.heap.size := by have := bx.lt (c := (bf, fB at_ K ka kl kc)) (by simp); simp only at this; omega
      obtain ⟨bo, hbo⟩ : ∃ bo, wr.heap.size = bo := ⟨_, rfl⟩
      rw [hbo] at b8 hne8
      have HBo := hide hbo
      have hx1 : (j : Int) < (n0 : Int) := by omega
      have hx2 : (j : Int) < 60 := by omega
      have hx0 : (0 : Int) ≤ (j : Int) := by omega
      have hnm := hok.nm
      simp only at hnm
      obtain ⟨sz, hsz⟩ : ∃ sz, (fget E.L nm.data.toList).now.length = sz := ⟨_, rfl⟩
      have hszl : sz ≤ 30000 := by rw [← hsz]; exact hft.sz (by omega) _
      have HSz : Hid (∀ W B, Bw w W p q D E B → Calls Try.prog 17 #[.pointer (some ⟨q, 0, none⟩), .string nm] W fun e w' => e = .returned (.int .i64 (sz : Int)) ∧ w' = W) := fun W B h => h.symm.size nm hnm (by unfold sizD; rw [if_neg (by simp [hft.pf.down])]; exact hsz)
      obtain ⟨z, hz⟩ : ∃ z, bentV oat sz = z := ⟨_, rfl⟩
      have hzl : z ≤ sz := by rw [← hz]; exact bentV_le _ _
      have HBt : Hid (∀ W, Calls Try.prog 10 #[.int .i64 oat, .int .i64 (sz : Int)] W fun e w' => e = .returned (.int .i64 (z : Int)) ∧ w' = W) := fun W => by rw [← hz]; exact bent_any W oat sz (by omega)
      have HAc : Hid (∀ W B, Bw w W p q D E B → Calls Try.prog 18 #[.pointer (some ⟨p, 0, none⟩)] W fun e w' => e = .returned (.int .i64 (j : Int)) ∧ w' = W) := fun W B h => h.acts hft.acts
      obtain ⟨lw, hlw⟩ : ∃ l, aft ks E.L 0 = l := ⟨_, rfl⟩
      have hlw2 : lw.length ≤ 200 := by rw [← hlw]; have := aft_len ks E.L 0; have := hft.pf.cnt; omega
      obtain ⟨nw, hnw⟩ : ∃ n, lw.length = n := ⟨_, rfl⟩
      have HAf : Hid (∀ W B, Bw w W p q D E B → Calls Try.prog 22 #[.pointer (some ⟨p, 0, none⟩), .slice ka kl kc] W fun e w' => ∃ ao b c, e = .returned (.slice ao nw c) ∧ RdF w' ao b 0 lw ∧ Below W.heap.size W w' ∧ (0 < nw → W.heap.size ≤ b)) := fun W B h => by
        have := h.after (l := lw) ka kb ko kc ks HKs.out.1 (by have := HKs.out.2.1; omega) (by rw [hft.L, hlw])
        rw [hnw, HKs.out.2.2] at this
        exact this
      obtain ⟨⟨D', er⟩, hact⟩ : ∃ x, actO D kind nm.data.toList (z : Int) dt.data.toList = x := ⟨_, rfl⟩
      have hro := hft.roomy (by omega)
      have HAp : Hid (∀ W B, Bw w W p q D E B → Calls Try.prog 23 #[.pointer (some ⟨p, 0, none⟩), .agg #[.int .i64 kind, .int .i64 which, .string nm, .string dt, .int .i64 (z : Int), .int .i64 n, .slice oka okl okc]] W fun e w' => e = .returned (.int .i64 er) ∧ Bw w w' p q D' E B) := fun W B h => h.act hro kind which _ n nm dt oka okl okc hnm (by omega) (by omega) hact
      have hwj : IntKind.i64.wrap ((j : Int) + 1) = ((j + 1 : Nat) : Int) := by rw [IntKind.wrap_i64]; omega
      obtain ⟨g0, g1, g2, g3, g4, g5, g6⟩ := seven_at (show w8.heap[bo]? = some (.cells #[.int .i64 kind, .int .i64 which, .string nm, .string dt, .int .i64 oat, .int .i64 n, .slice oka okl okc] 30 (0, 0)) from b8.box (List.mem_cons_self ..))
      have gz : w8.frozen? ⟨bo, 4, none⟩ = false := frozen_of_row w8 _ 4 _ _ (b8.box (List.mem_cons_self ..))
      obtain ⟨w9, hw9⟩ : ∃ W, w8.setCell ⟨bo, 4, none⟩ (.int .i64 (z : Int)) = W := ⟨_, rfl⟩
      have b9 : Bw w w9 p q D E [(bo, oB kind which nm dt (z : Int) n oka okl okc), (bf, fB at_ K ka kl kc)] := by
        rw [← hw9]
        exact b8.put (fun c hc => by simp only [List.mem_singleton] at hc; rw [hc]; exact hne8) ((Upo.refl (fun y => y = bo) w8).set _ _ _ (.inl rfl)) (oB_put (b8.box (List.mem_cons_self ..)) (z : Int))
      have HW9 := hide hw9
      have HFt : Hid (Ft D E at_ K ks j ∧ aft ks E.L 0 = lw ∧ (fget E.L nm.data.toList).now.length = sz ∧ actO D kind nm.data.toList (z : Int) dt.data.toList = (D', er) ∧ nm.size ≤ maxLen ∧ z ≤ sz ∧ lw.length = nw ∧ lw.length ≤ 200) := ⟨hft, hlw, hsz, hact, hnm, hzl, hnw, hlw2⟩
      clear hw8 hbo hw9 hft hlw hsz hact hro hz q0 q2 hok hokl hne8 hnw hlw2 bx
      go_upto_region 13 with (first
        | (go_at_call 17; rw [HW8.out, HBo.out]; (with_reducible refine (HSz.out _ _ b8).mono ?_); rintro e w10 ⟨rfl, h10⟩; rw [h10]; clear h10 w10))
      go_upto_region 14 with (go_at_call 10; (with_reducible refine (HBt.out _).mono ?_); rintro e w10 ⟨rfl, h10⟩; rw [h10]; clear h10 w10)
      rw [HW9.out]
      clear HSz HBt HW8 HW9 g0 g1 g2 g3 g4 g5 g6 gz k0 k1 k2 k3 k4 k5 k6 b8
      have HCe : Hid (∀ W D2 E2 B, Bw w W p q D2 E2 B → (bo, oB kind which nm dt (z : Int) n oka okl okc) ∈ B → (bf, fB at_ K ka kl kc) ∈ B → (W.cell? ⟨bo, 0, none⟩ = some (.int .i64 kind) ∧ W.cell? ⟨bo, 1, none⟩ = some (.int .i64 which) ∧ W.cell? ⟨bo, 2, none⟩ = some (.string nm) ∧ W.cell? ⟨bo, 3, none⟩ = some (.string dt) ∧ W.cell? ⟨bo, 4, none⟩ = some (.int .i64 (z : Int)) ∧ W.cell? ⟨bo, 5, none⟩ = some (.int .i64 n) ∧ W.cell? ⟨bo, 6, none⟩ = some (.slice oka okl okc)) ∧ W.cell? ⟨bf, 0, none⟩ = some (.int .i64 (at_ : Int)) ∧ W.cell? ⟨bf, 1, none⟩ = some (.int .i64 (K : Int)) ∧ W.cell? ⟨bf, 2, none⟩ = some (.slice ka kl kc)) := fun W D2 E2 B h h1 h2 => ⟨seven_at (h.box h1), three_at' (h.box h2)⟩
      obtain ⟨⟨g0, g1, g2, g3, g4, g5, g6⟩, y0, y1, y2⟩ := HCe.out _ _ _ _ b9 (by simp) (by simp)
      go_upto_region 16 with (first
        | (go_at_call 18; (with_reducible refine (HAc.out _ _ b9).mono ?_); rintro e w10 ⟨rfl, h10⟩; rw [h10]; clear h10 w10)
        | (go_at_call 22; (with_reducible refine (HAf.out _ _ b9).mono ?_); rintro e w10 ⟨wa, wb, wc', rfl, fw, u10, hg10⟩))
      obtain ⟨B', b10, hsub, hrow⟩ := b9.row u10 fw (fun h => hg10 (by rw [← HFt.out.2.2.2.2.2.2.1]; exact h))
      have hin1 := hsub (bo, oB kind which nm dt (z : Int) n oka okl okc) (by simp)
      have hin2 := hsub (bf, fB at_ K ka kl kc) (by simp)
      have HIn : Hid ((bo, oB kind which nm dt (z : Int) n oka okl okc) ∈ B' ∧ (bf, fB at_ K ka kl kc) ∈ B' ∧ ∀ W2 D2 E2, Bw w W2 p q D2 E2 B' → RdF W2 wa wb 0 lw) := ⟨hin1, hin2, hrow⟩
      clear g0 g1 g2 g3 g4 g5 g6 y0 y1 y2 hsub hrow hin1 hin2 u10 fw hg10 b9 HAf HAc
      obtain ⟨⟨g0, g1, g2, g3, g4, g5, g6⟩, y0, y1, y2⟩ := HCe.out _ _ _ _ b10 HIn.out.1 HIn.out.2.1
      go_upto_region 17 with (go_at_call 23; (with_reducible refine (HAp.out _ _ b10).mono ?_); rintro e w11 ⟨rfl, b11⟩)
      clear g0 g1 g2 g3 g4 g5 g6 y0 y1 y2 HAp b10
      obtain ⟨⟨g0, g1, g2, g3, g4, g5, g6⟩, y0, y1, y2⟩ := HCe.out _ _ _ _ b11 HIn.out.1 HIn.out.2.1
      obtain ⟨hft, hlw, hsz, hact, hnm, hzl, hnw, hlw2⟩ := HFt.out
      obtain ⟨E', hE1, hE2, hE3, hE4⟩ := hft.other (by omega) kind nm.data.toList z dt.data.toList (by omega)
      have hroE := hft.pf.roomy (by omega)
      have HAq : Hid (∀ W D2 B, Bw w W p q D2 E B → Calls Try.prog 23 #[.pointer (some ⟨q, 0, none⟩), .agg #[.int .i64 kind, .int .i64 which, .string nm, .string dt, .int .i64 (z : Int), .int .i64 n, .slice oka okl okc]] W fun e w' => e = .returned (.int .i64 0) ∧ Bw w w' p q D2 E' B) := fun W D2 B h => (h.symm.act hroE kind which _ n nm dt oka okl okc hnm (by omega) (by omega) hE1).mono fun e w' z => ⟨z.1, z.2.symm⟩
      have hw1 : IntKind.i64.wrap ((j : Int) + 1) = ((j + 1 : Nat) : Int) := hwj
      have HRd : Hid (∀ {l : List (List UInt8 × List UInt8)} (W : World) a b c a' b' c', l.length ≤ 1000 → RdF W a b 0 l → RdF W a' b' 0 l → Calls Try.prog 20 #[.slice a l.length c, .slice a' l.length c'] W fun e w' => e = .returned (.bool true) ∧ Below W.heap.size W w') := fun {l} W a b c a' b' c' hl h1 h2 => same_yes W l a b 0 c h1 a' b' 0 c' h2 (by omega)
      by_cases hm : j + 1 = at_
      · have hme : (((j + 1 : Nat) : Int) == (at_ : Int)) = true := by simp [hm]
        have hme2 : ((j + 1 : Nat) : Int) = (at_ : Int) := by omega
        rw [hme2] at hw1
        clear hme hme2
        rcases (show (K = 1 ∨ K = 2 ∨ K = 3) ∨ K = 4 ∨ K = 5 by omega) with hKk | hKk | hKk
        · have hEE : ∃ EE, Ft D' EE at_ K ks (j + 1) ∧ ((EE = E ∧ ¬ K = 3) ∨ (EE = E' ∧ K = 3)) ∧ er = (if K = 2 then 172 else 171) := by
            rcases hKk with hKk | hKk | hKk
            · subst hKk
              obtain ⟨D2, hD2, hft2⟩ := hft.fail (by omega) (.inl rfl) hm kind nm.data.toList z dt.data.toList (by omega)
              rw [hact] at hD2
              injection hD2 with h1 h2
              subst h1
              exact ⟨E, hft2, .inl ⟨rfl, by omega⟩, h2⟩
            · subst hKk
              obtain ⟨D2, hD2, hft2⟩ := hft.fail (by omega) (.inr rfl) hm kind nm.data.toList z dt.data.toList (by omega)
              rw [hact] at hD2
              injection hD2 with h1 h2
              subst h1
              exact ⟨E, hft2, .inl ⟨rfl, by omega⟩, h2⟩
            · subst hKk
              obtain ⟨D2, hD2, hft2⟩ := hft.doubt (by omega) hm kind nm.data.toList z dt.data.toList (by omega) hE2 hE3 hE4
              rw [hact] at hD2
              injection hD2 with h1 h2
              subst h1
              exact ⟨E', hft2, .inr ⟨rfl, rfl⟩, h2⟩
          obtain ⟨EE, hft2, hEk, her⟩ := hEE
          have hKn : K ≤ 3 := by omega
          have hLp : D'.L = EE.L := hft2.L
          have hpf := hft2.pf
          obtain ⟨nf, hnf⟩ : ∃ n, (tell EE.L).length = n := ⟨_, rfl⟩
          have hnf2 : nf ≤ 1000 := by rw [← hnf]; have := tell_len' EE.L; have := hpf.cnt; omega
          obtain ⟨ng, hng⟩ : ∃ n, (aft ks EE.L 0).length = n := ⟨_, rfl⟩
          have hng2 : ng ≤ 1000 := by rw [← hng]; have := aft_len ks EE.L 0; have := hpf.cnt; omega
          have HDn : Hid (∀ W B, Bw w W p q D' EE B → Calls Try.prog 19 #[.pointer (some ⟨p, 0, none⟩)] W fun e w' => e = .returned (.bool false) ∧ w' = W) := fun W B h => h.down hft2.down
          have HFp : Hid (∀ W B, Bw w W p q D' EE B → Calls Try.prog 21 #[.pointer (some ⟨p, 0, none⟩)] W fun e w' => ∃ ao b c, e = .returned (.slice ao nf c) ∧ RdF w' ao b 0 (tell EE.L) ∧ Below W.heap.size W w') := fun W B h => by
            rw [← hnf]; exact h.files (by rw [hLp])
          have HFq : Hid (∀ W B, Bw w W p q D' EE B → Calls Try.prog 21 #[.pointer (some ⟨q, 0, none⟩)] W fun e w' => ∃ ao b c, e = .returned (.slice ao nf c) ∧ RdF w' ao b 0 (tell EE.L) ∧ Below W.heap.size W w') := fun W B h => by
            rw [← hnf]; exact h.symm.files rfl
          have HGp : Hid (∀ W B, Bw w W p q D' EE B → Calls Try.prog 22 #[.pointer (some ⟨p, 0, none⟩), .slice ka kl kc] W fun e w' => ∃ ao b c, e = .returned (.slice ao ng c) ∧ RdF w' ao b 0 (aft ks EE.L 0) ∧ Below W.heap.size W w') := fun W B h => by
            have := h.after (l := aft ks EE.L 0) ka kb ko kc ks HKs.out.1 (by have := HKs.out.2.1; omega) (by rw [hLp])
            rw [hng, HKs.out.2.2] at this
            exact this.mono fun e w' z => by obtain ⟨x1, x2, x3, x4, x5, x6, _⟩ := z; exact ⟨x1, x2, x3, x4, x5, x6⟩
          have HGq : Hid (∀ W B, Bw w W p q D' EE B → Calls Try.prog 22 #[.pointer (some ⟨q, 0, none⟩), .slice ka kl kc] W fun e w' => ∃ ao b c, e = .returned (.slice ao ng c) ∧ RdF w' ao b 0 (aft ks EE.L 0) ∧ Below W.heap.size W w') := fun W B h => by
            have := h.symm.after (l := aft ks EE.L 0) ka kb ko kc ks HKs.out.1 (by have := HKs.out.2.1; omega) rfl
            rw [hng, HKs.out.2.2] at this
            exact this.mono fun e w' z => by obtain ⟨x1, x2, x3, x4, x5, x6, _⟩ := z; exact ⟨x1, x2, x3, x4, x5, x6⟩
          have HSf : Hid (∀ (W : World) a b c a' b' c', RdF W a b 0 (tell EE.L) → RdF W a' b' 0 (tell EE.L) → Calls Try.prog 20 #[.slice a nf c, .slice a' nf c'] W fun e w' => e = .returned (.bool true) ∧ Below W.heap.size W w') := fun W a b c a' b' c' h1 h2 => by
            have := HRd.out W a b c a' b' c' (by omega) h1 h2
            rw [hnf] at this
            exact this
          have HSg : Hid (∀ (W : World) a b c a' b' c', RdF W a b 0 (aft ks EE.L 0) → RdF W a' b' 0 (aft ks EE.L 0) → Calls Try.prog 20 #[.slice a ng c, .slice a' ng c'] W fun e w' => e = .returned (.bool true) ∧ Below W.heap.size W w') := fun W a b c a' b' c' h1 h2 => by
            have := HRd.out W a b c a' b' c' (by omega) h1 h2
            rw [hng] at this
            exact this
          have HFt2 := hide hft2
          have HCf : Hid (∀ W D2 E2 B, Bw w W p q D2 E2 B → (∀ c ∈ B', c ∈ B) → W.cell? ⟨bf, 1, none⟩ = some (.int .i64 (K : Int)) ∧ W.cell? ⟨bf, 2, none⟩ = some (.slice ka kl kc)) := fun W D2 E2 B h hs => by
            obtain ⟨_, _, x1, x2⟩ := HCe.out _ _ _ _ h (hs _ HIn.out.1) (hs _ HIn.out.2.1)
            exact ⟨x1, x2⟩
          have HEk := hide (And.intro hEk her)
          have HK3 := hide hKk
          have hKi0 : (0 : Int) ≤ (K : Int) := by omega
          have hKi4 : (K : Int) < 4 := by omega
          have hKi5 : ¬ ((4 : Int) ≤ (K : Int)) := by omega
          clear hft hft2 hlw hsz hact hnm hzl hnw hlw2 hE1 hE2 hE3 hE4 hroE hwj hnf hnf2 hng hng2 HRd HFt hLp hpf hEk her hKn hKk
          as_aux_lemma =>
            go_upto_region 18 with (fail)
            go_cut [82] from 34 to 188 (fun v wx => v = .bool (decide (K = 3)) ∧ wx = w11)
            case first =>
              as_aux_lemma =>
                rcases HK3.out with h | h | h
                · subst h
                  clear hKi0 hKi4 hKi5 HEk HK3
                  go_wp2
                  go_meet
                  case rel => exact ⟨rfl, rfl⟩
                · subst h
                  clear hKi0 hKi4 hKi5 HEk HK3
                  go_wp2
                  go_meet
                  case rel => exact ⟨rfl, rfl⟩
                · subst h
                  clear hKi0 hKi4 hKi5 HEk HK3
                  go_wp2
                  go_meet
                  case rel => exact ⟨rfl, rfl⟩
            case rest =>
            obtain ⟨rfl, hwc⟩ := hcut
            rw [hwc]
            clear hwc wc
            go_upto_if 82 with (fail)
            go_cut [] from 34 to 188 (fun wx => Bw w wx p q D' EE B')
            case first =>
              as_aux_lemma =>
                by_cases h3 : K = 3
                · have hd : decide (K = 3) = true := decide_eq_true h3
                  have hee : EE = E' := HEk.out.1.elim (fun q => absurd h3 q.2) (fun q => q.1)
                  rw [hd]
                  clear HEk HK3 hd h3
                  subst hee
                  go_wp2_with (go_at_call 23; (with_reducible refine (HAq.out _ _ _ b11).mono ?_); rintro e w12 ⟨rfl, b12⟩)
                  go_meet
                  case rel => exact b12
                · have hd : decide (K = 3) = false := decide_eq_false h3
                  have hee : EE = E := HEk.out.1.elim (fun q => q.1) (fun q => absurd q.2 h3)
                  rw [hd]
                  clear HEk HK3 hd h3
                  subst hee
                  go_wp2
                  go_meet
                  case rel => exact b11
            case rest =>
            obtain ⟨w12, hw12⟩ : ∃ W, W = wc := ⟨_, rfl⟩
            subst hw12
            have b12 := hcut
            clear hcut b11 g0 g1 g2 g3 g4 g5 g6 y0 y1 y2
            obtain ⟨⟨g0, g1, g2, g3, g4, g5, g6⟩, y0, y1, y2⟩ := HCe.out _ _ _ _ b12 HIn.out.1 HIn.out.2.1
            go_upto_region 29 with (fail)
            have v0 : (w12.alloc (.cells #[.int .i64 0, .int .i64 171, .int .i64 172, .int .i64 171] 3)).cell? ⟨w12.heap.size, K, none⟩ = some (.int .i64 er) := by
              rw [cell_of_row _ _ K _ _ (0, 0) (new1 w12 (.cells #[.int .i64 0, .int .i64 171, .int .i64 172, .int .i64 171] 3)), HEk.out.2]
              rcases HK3.out with h | h | h <;> subst h <;> rfl
            have v1 : (w12.alloc (.cells #[.int .i64 0, .int .i64 171, .int .i64 172, .int .i64 171] 3)).drew.cell? ⟨w12.heap.size, K, none⟩ = some (.int .i64 er) := v0
            have v2 : (w12.drew.alloc (.cells #[.int .i64 0, .int .i64 171, .int .i64 172, .int .i64 171] 3)).cell? ⟨w12.heap.size, K, none⟩ = some (.int .i64 er) := v0
            have tw := (b12.alloc (.cells #[.int .i64 0, .int .i64 171, .int .i64 172, .int .i64 171] 3)).next (bdw _)
            as_aux_lemma =>
              refine wp_region_held_drew (S := fun Z => Z.cell? ⟨bf, 1, none⟩ = some (.int .i64 (K : Int)) ∧ Z.cell? ⟨bf, 2, none⟩ = some (.slice ka kl kc)) (by kernel_rfl) ?_ (fun hHeld => ?_)
              · exact HCf.out _ _ _ _ (b12.next (bdw _)) (fun _ h => h)
              refine wpAnyH_take (i := 0) (oi := { dst := some 158, op := Op.move (Operand.tmp 12), type := 32, pos := "outright.go:268", after := #[], guard := none }) (v := ?_) rfl (by kernel_rfl) (by kernel_rfl) (by kernel_rfl) (fun _ _ _ h => h) (Or.inl ⟨by rfl, ?_⟩) hHeld ?_
              rotate_left 1
              · intro wv hSw
                (try dsimp only at hSw)
                first | (go_simp; done) | (go_simp; with_reducible rfl)
              try simp only [Act.put, List.setIfInBounds_toArray, List.set_cons_zero, List.set_cons_succ]
              refine wpAnyH_take (i := 2) (oi := { dst := some 160, op := Op.fieldAddr 54 (Operand.tmp 3) 1, type := 0, pos := "outright.go:268", after := #[], guard := none }) (v := ?_) rfl (by kernel_rfl) (by kernel_rfl) (by kernel_rfl) (fun _ _ _ h => h) (Or.inl ⟨by rfl, ?_⟩) hHeld ?_
              rotate_left 1
              · intro wv hSw
                (try dsimp only at hSw)
                first | (go_simp; done) | (go_simp; with_reducible rfl)
              try simp only [Act.put, List.setIfInBounds_toArray, List.set_cons_zero, List.set_cons_succ]
              refine wpAnyH_take (i := 3) (oi := { dst := some 161, op := Op.load 3 (Operand.tmp 160), type := 3, pos := "outright.go:268", after := #[{ on := 2, ground := Ground.data }], guard := none }) (v := ?_) rfl (by kernel_rfl) (by kernel_rfl) (by kernel_rfl) (fun _ _ _ h => h) (Or.inl ⟨by rfl, ?_⟩) hHeld ?_
              rotate_left 1
              · intro wv hSw
                (try dsimp only at hSw)
                first | (go_simp; done) | (go_simp; with_reducible rfl)
              try simp only [Act.put, List.setIfInBounds_toArray, List.set_cons_zero, List.set_cons_succ]
              refine wpAnyH_ready (rs := [1]) (by kernel_rfl) (by simp) ?_
              refine AllReadyH.cons (o := { dst := some 159, op := Op.buildSlice 57 4 #[(0, Operand.const (Value.int IntKind.i64 0)), (1, Operand.const (Value.int IntKind.i64 171)), (2, Operand.const (Value.int IntKind.i64 172)), (3, Operand.const (Value.int IntKind.i64 171))], type := 57, pos := "outright.go:268", after := #[], guard := none }) rfl (fun K hK => ?_) AllReadyH.nil
              go_simp
              skip
              refine hK.out _ _ ?_ (fun hH2 => ?_)
              · (try dsimp only)
                (first | (with_reducible exact hHeld) | (exact HCf.out _ _ _ _ tw (fun _ h => List.mem_cons_of_mem _ h)))
              clear hK K hHeld
              have hHeld := hH2
              clear hH2
              try simp only [Act.put, List.setIfInBounds_toArray, List.set_cons_zero, List.set_cons_succ]
              refine wpAnyH_take (i := 4) (oi := { dst := some 162, op := Op.indexAddr 57 (Operand.tmp 159) (Operand.tmp 161), type := 0, pos := "outright.go:268", after := #[{ on := 1, ground := Ground.data }, { on := 3, ground := Ground.data }], guard := none }) (v := ?_) rfl (by kernel_rfl) (by kernel_rfl) (by kernel_rfl) (fun _ _ _ h => h) (Or.inl ⟨by rfl, ?_⟩) hHeld ?_
              rotate_left 1
              · intro wv hSw
                (try dsimp only at hSw)
                first | (go_simp; done) | (go_simp; with_reducible rfl)
              try simp only [Act.put, List.setIfInBounds_toArray, List.set_cons_zero, List.set_cons_succ]
              refine wpAnyH_ready (rs := [5]) (by kernel_rfl) (by simp) ?_
              refine AllReadyH.cons (o := { dst := some 163, op := Op.load 3 (Operand.tmp 162), type := 3, pos := "outright.go:268", after := #[{ on := 4, ground := Ground.data }], guard := none }) rfl (fun K hK => ?_) AllReadyH.nil
              go_simp
              skip
              refine hK.out _ _ ?_ (fun hH2 => ?_)
              · (try dsimp only)
                (first | (with_reducible exact hHeld) | (exact HCf.out _ _ _ _ tw (fun _ h => List.mem_cons_of_mem _ h)))
              clear hK K hHeld
              have hHeld := hH2
              clear hH2
              try simp only [Act.put, List.setIfInBounds_toArray, List.set_cons_zero, List.set_cons_succ]
              refine wpAnyH_take (i := 6) (oi := { dst := some 164, op := Op.binOp BinOp.neq 3 (Operand.tmp 158) (Operand.tmp 163) 3, type := 4, pos := "outright.go:268", after := #[{ on := 0, ground := Ground.data }, { on := 5, ground := Ground.data }], guard := none }) (v := ?_) rfl (by kernel_rfl) (by kernel_rfl) (by kernel_rfl) (fun _ _ _ h => h) (Or.inl ⟨by rfl, ?_⟩) hHeld ?_
              rotate_left 1
              · intro wv hSw
                (try dsimp only at hSw)
                first | (go_simp; done) | (go_simp; with_reducible rfl)
              try simp only [Act.put, List.setIfInBounds_toArray, List.set_cons_zero, List.set_cons_succ]
              refine wpAnyH_take (i := 7) (oi := { dst := some 165, op := Op.move (Operand.tmp 164), type := 4, pos := "outright.go:268", after := #[{ on := 6, ground := Ground.data }], guard := none }) (v := ?_) rfl (by kernel_rfl) (by kernel_rfl) (by kernel_rfl) (fun _ _ _ h => h) (Or.inl ⟨by rfl, ?_⟩) hHeld ?_
              rotate_left 1
              · intro wv hSw
                (try dsimp only at hSw)
                first | (go_simp; done) | (go_simp; with_reducible rfl)
              try simp only [Act.put, List.setIfInBounds_toArray, List.set_cons_zero, List.set_cons_succ]
              refine wpAnyH_take (i := 8) (oi := { dst := some 166, op := Op.move (Operand.tmp 5), type := 25, pos := "outright.go:268", after := #[{ on := 7, ground := Ground.guard }], guard := some (7, false) }) (v := ?_) rfl (by kernel_rfl) (by kernel_rfl) (by kernel_rfl) (fun _ _ _ h => h) (Or.inl ⟨by rfl, ?_⟩) hHeld ?_
              rotate_left 1
              · intro wv hSw
                (try dsimp only at hSw)
                first | (go_simp; done) | (go_simp; with_reducible rfl)
              try simp only [Act.put, List.setIfInBounds_toArray, List.set_cons_zero, List.set_cons_succ]
              refine wpAnyH_ready (rs := [9]) (by kernel_rfl) (by simp) ?_
              refine AllReadyH.cons (o := { dst := some 167, op := Op.call { callee := Callee.value (Operand.func 19), args := #[Operand.tmp 166], argTypes := #[25] }, type := 4, pos := "outright.go:268", after := #[{ on := 8, ground := Ground.data }, { on := 7, ground := Ground.chain }, { on := 7, ground := Ground.guard }], guard := some (7, false) }) rfl (fun K hK => ?_) AllReadyH.nil
              go_simp
              (go_at_call 19; (with_reducible refine (HDn.out _ _ tw).mono ?_); rintro e W1 ⟨rfl, rfl⟩)
              try go_wp2_with (fail)
              refine hK.out _ _ ?_ (fun hH2 => ?_)
              · (try dsimp only)
                (first | (with_reducible exact hHeld) | (exact HCf.out _ _ _ _ tw (fun _ h => List.mem_cons_of_mem _ h)))
              clear hK K hHeld
              have hHeld := hH2
              clear hH2
              try simp only [Act.put, List.setIfInBounds_toArray, List.set_cons_zero, List.set_cons_succ]
              refine wpAnyH_take (i := 10) (oi := { dst := some 168, op := Op.pick (Operand.tmp 165) (Operand.const (Value.bool true)) (Operand.tmp 167), type := 4, pos := "outright.go:268", after := #[{ on := 7, ground := Ground.data }, { on := 9, ground := Ground.data }], guard := none }) (v := ?_) rfl (by kernel_rfl) (by kernel_rfl) (by kernel_rfl) (fun _ _ _ h => h) (Or.inl ⟨by rfl, ?_⟩) hHeld ?_
              rotate_left 1
              · intro wv hSw
                (try dsimp only at hSw)
                first | (go_simp; done) | (go_simp; with_reducible rfl)
              try simp only [Act.put, List.setIfInBounds_toArray, List.set_cons_zero, List.set_cons_succ]
              refine wpAnyH_take (i := 11) (oi := { dst := some 169, op := Op.move (Operand.tmp 168), type := 4, pos := "outright.go:268", after := #[{ on := 10, ground := Ground.data }, { on := 9, ground := Ground.chain }], guard := none }) (v := ?_) rfl (by kernel_rfl) (by kernel_rfl) (by kernel_rfl) (fun _ _ _ h => h) (Or.inl ⟨by rfl, ?_⟩) hHeld ?_
              rotate_left 1
              · intro wv hSw
                (try dsimp only at hSw)
                first | (go_simp; done) | (go_simp; with_reducible rfl)
              try simp only [Act.put, List.setIfInBounds_toArray, List.set_cons_zero, List.set_cons_succ]
              refine wpAnyH_take (i := 12) (oi := { dst := some 170, op := Op.move (Operand.tmp 5), type := 25, pos := "outright.go:268", after := #[{ on := 11, ground := Ground.guard }], guard := some (11, false) }) (v := ?_) rfl (by kernel_rfl) (by kernel_rfl) (by kernel_rfl) (fun _ _ _ h => h) (Or.inl ⟨by rfl, ?_⟩) hHeld ?_
              rotate_left 1
              · intro wv hSw
                (try dsimp only at hSw)
                first | (go_simp; done) | (go_simp; with_reducible rfl)
              try simp only [Act.put, List.setIfInBounds_toArray, List.set_cons_zero, List.set_cons_succ]
              refine wpAnyH_take (i := 14) (oi := { dst := some 172, op := Op.move (Operand.tmp 6), type := 25, pos := "outright.go:268", after := #[{ on := 11, ground := Ground.guard }], guard := some (11, false) }) (v := ?_) rfl (by kernel_rfl) (by kernel_rfl) (by kernel_rfl) (fun _ _ _ h => h) (Or.inl ⟨by rfl, ?_⟩) hHeld ?_
              rotate_left 1
              · intro wv hSw
                (try dsimp only at hSw)
                first | (go_simp; done) | (go_simp; with_reducible rfl)
              try simp only [Act.put, List.setIfInBounds_toArray, List.set_cons_zero, List.set_cons_succ]
              refine wpAnyH_ready (rs := [13]) (by kernel_rfl) (by simp) ?_
              refine AllReadyH.cons (o := { dst := some 171, op := Op.call { callee := Callee.value (Operand.func 21), args := #[Operand.tmp 170], argTypes := #[25] }, type := 40, pos := "outright.go:268", after := #[{ on := 12, ground := Ground.data }, { on := 11, ground := Ground.chain }, { on := 11, ground := Ground.guard }], guard := some (11, false) }) rfl (fun K hK => ?_) AllReadyH.nil
              go_simp
              (go_at_call 21; (with_reducible refine (HFp.out _ _ tw).mono ?_); rintro e W1 ⟨fa1, fb1, fc1, rfl, f1, uu⟩; replace tw := tw.next uu; clear uu)
              try go_wp2_with (fail)
              refine hK.out _ _ ?_ (fun hH2 => ?_)
              · (try dsimp only)
                (first | (with_reducible exact hHeld) | (exact HCf.out _ _ _ _ tw (fun _ h => List.mem_cons_of_mem _ h)))
              clear hK K hHeld
              have hHeld := hH2
              clear hH2
              try simp only [Act.put, List.setIfInBounds_toArray, List.set_cons_zero, List.set_cons_succ]
              refine wpAnyH_ready (rs := [15]) (by kernel_rfl) (by simp) ?_
              refine AllReadyH.cons (o := { dst := some 173, op := Op.call { callee := Callee.value (Operand.func 21), args := #[Operand.tmp 172], argTypes := #[25] }, type := 40, pos := "outright.go:268", after := #[{ on := 14, ground := Ground.data }, { on := 13, ground := Ground.chain }, { on := 11, ground := Ground.guard }], guard := some (11, false) }) rfl (fun K hK => ?_) AllReadyH.nil
              go_simp
              (go_at_call 21; (with_reducible refine (HFq.out _ _ tw).mono ?_); rintro e W2 ⟨fa2, fb2, fc2, rfl, f2, uu⟩; replace tw := tw.next uu; replace f1 := f1.next uu; clear uu)
              try go_wp2_with (fail)
              refine hK.out _ _ ?_ (fun hH2 => ?_)
              · (try dsimp only)
                (first | (with_reducible exact hHeld) | (exact HCf.out _ _ _ _ tw (fun _ h => List.mem_cons_of_mem _ h)))
              clear hK K hHeld
              have hHeld := hH2
              clear hH2
              try simp only [Act.put, List.setIfInBounds_toArray, List.set_cons_zero, List.set_cons_succ]
              refine wpAnyH_ready (rs := [16]) (by kernel_rfl) (by simp) ?_
              refine AllReadyH.cons (o := { dst := some 174, op := Op.call { callee := Callee.value (Operand.func 20), args := #[Operand.tmp 171, Operand.tmp 173], argTypes := #[40, 40] }, type := 4, pos := "outright.go:268", after := #[{ on := 13, ground := Ground.data }, { on := 15, ground := Ground.data }, { on := 15, ground := Ground.chain }, { on := 11, ground := Ground.guard }], guard := some (11, false) }) rfl (fun K hK => ?_) AllReadyH.nil
              go_simp
              (go_at_call 20; (with_reducible refine (HSf.out _ _ _ _ _ _ _ f1 f2).mono ?_); rintro e W3 ⟨rfl, uu⟩; replace tw := tw.next uu; clear uu)
              try go_wp2_with (fail)
              refine hK.out _ _ ?_ (fun hH2 => ?_)
              · (try dsimp only)
                (first | (with_reducible exact hHeld) | (exact HCf.out _ _ _ _ tw (fun _ h => List.mem_cons_of_mem _ h)))
              clear hK K hHeld
              have hHeld := hH2
              clear hH2
              try simp only [Act.put, List.setIfInBounds_toArray, List.set_cons_zero, List.set_cons_succ]
              refine wpAnyH_take (i := 17) (oi := { dst := some 175, op := Op.unOp UnOp.not 4 (Operand.tmp 174), type := 4, pos := "outright.go:268", after := #[{ on := 16, ground := Ground.data }, { on := 11, ground := Ground.guard }], guard := some (11, false) }) (v := ?_) rfl (by kernel_rfl) (by kernel_rfl) (by kernel_rfl) (fun _ _ _ h => h) (Or.inl ⟨by rfl, ?_⟩) hHeld ?_
              rotate_left 1
              · intro wv hSw
                (try dsimp only at hSw)
                first | (go_simp; done) | (go_simp; with_reducible rfl)
              try simp only [Act.put, List.setIfInBounds_toArray, List.set_cons_zero, List.set_cons_succ]
              refine wpAnyH_take (i := 18) (oi := { dst := some 176, op := Op.pick (Operand.tmp 169) (Operand.const (Value.bool true)) (Operand.tmp 175), type := 4, pos := "outright.go:268", after := #[{ on := 11, ground := Ground.data }, { on := 17, ground := Ground.data }], guard := none }) (v := ?_) rfl (by kernel_rfl) (by kernel_rfl) (by kernel_rfl) (fun _ _ _ h => h) (Or.inl ⟨by rfl, ?_⟩) hHeld ?_
              rotate_left 1
              · intro wv hSw
                (try dsimp only at hSw)
                first | (go_simp; done) | (go_simp; with_reducible rfl)
              try simp only [Act.put, List.setIfInBounds_toArray, List.set_cons_zero, List.set_cons_succ]
              refine wpAnyH_take (i := 19) (oi := { dst := some 177, op := Op.move (Operand.tmp 176), type := 4, pos := "outright.go:268", after := #[{ on := 18, ground := Ground.data }, { on := 16, ground := Ground.chain }], guard := none }) (v := ?_) rfl (by kernel_rfl) (by kernel_rfl) (by kernel_rfl) (fun _ _ _ h => h) (Or.inl ⟨by rfl, ?_⟩) hHeld ?_
              rotate_left 1
              · intro wv hSw
                (try dsimp only at hSw)
                first | (go_simp; done) | (go_simp; with_reducible rfl)
              try simp only [Act.put, List.setIfInBounds_toArray, List.set_cons_zero, List.set_cons_succ]
              refine wpAnyH_take (i := 20) (oi := { dst := some 178, op := Op.move (Operand.tmp 5), type := 25, pos := "outright.go:268", after := #[{ on := 19, ground := Ground.guard }], guard := some (19, false) }) (v := ?_) rfl (by kernel_rfl) (by kernel_rfl) (by kernel_rfl) (fun _ _ _ h => h) (Or.inl ⟨by rfl, ?_⟩) hHeld ?_
              rotate_left 1
              · intro wv hSw
                (try dsimp only at hSw)
                first | (go_simp; done) | (go_simp; with_reducible rfl)
              try simp only [Act.put, List.setIfInBounds_toArray, List.set_cons_zero, List.set_cons_succ]
              refine wpAnyH_take (i := 21) (oi := { dst := some 179, op := Op.fieldAddr 54 (Operand.tmp 3) 2, type := 0, pos := "outright.go:268", after := #[{ on := 19, ground := Ground.guard }], guard := some (19, false) }) (v := ?_) rfl (by kernel_rfl) (by kernel_rfl) (by kernel_rfl) (fun _ _ _ h => h) (Or.inl ⟨by rfl, ?_⟩) hHeld ?_
              rotate_left 1
              · intro wv hSw
                (try dsimp only at hSw)
                first | (go_simp; done) | (go_simp; with_reducible rfl)
              try simp only [Act.put, List.setIfInBounds_toArray, List.set_cons_zero, List.set_cons_succ]
              refine wpAnyH_take (i := 22) (oi := { dst := some 180, op := Op.load 28 (Operand.tmp 179), type := 28, pos := "outright.go:268", after := #[{ on := 21, ground := Ground.data }, { on := 19, ground := Ground.guard }], guard := some (19, false) }) (v := ?_) rfl (by kernel_rfl) (by kernel_rfl) (by kernel_rfl) (fun _ _ _ h => h) (Or.inl ⟨by rfl, ?_⟩) hHeld ?_
              rotate_left 1
              · intro wv hSw
                (try dsimp only at hSw)
                first | (go_simp; done) | (go_simp; with_reducible rfl)
              try simp only [Act.put, List.setIfInBounds_toArray, List.set_cons_zero, List.set_cons_succ]
              refine wpAnyH_take (i := 24) (oi := { dst := some 182, op := Op.move (Operand.tmp 6), type := 25, pos := "outright.go:268", after := #[{ on := 19, ground := Ground.guard }], guard := some (19, false) }) (v := ?_) rfl (by kernel_rfl) (by kernel_rfl) (by kernel_rfl) (fun _ _ _ h => h) (Or.inl ⟨by rfl, ?_⟩) hHeld ?_
              rotate_left 1
              · intro wv hSw
                (try dsimp only at hSw)
                first | (go_simp; done) | (go_simp; with_reducible rfl)
              try simp only [Act.put, List.setIfInBounds_toArray, List.set_cons_zero, List.set_cons_succ]
              refine wpAnyH_take (i := 25) (oi := { dst := some 183, op := Op.fieldAddr 54 (Operand.tmp 3) 2, type := 0, pos := "outright.go:268", after := #[{ on := 19, ground := Ground.guard }], guard := some (19, false) }) (v := ?_) rfl (by kernel_rfl) (by kernel_rfl) (by kernel_rfl) (fun _ _ _ h => h) (Or.inl ⟨by rfl, ?_⟩) hHeld ?_
              rotate_left 1
              · intro wv hSw
                (try dsimp only at hSw)
                first | (go_simp; done) | (go_simp; with_reducible rfl)
              try simp only [Act.put, List.setIfInBounds_toArray, List.set_cons_zero, List.set_cons_succ]
              refine wpAnyH_take (i := 26) (oi := { dst := some 184, op := Op.load 28 (Operand.tmp 183), type := 28, pos := "outright.go:268", after := #[{ on := 25, ground := Ground.data }, { on := 19, ground := Ground.guard }], guard := some (19, false) }) (v := ?_) rfl (by kernel_rfl) (by kernel_rfl) (by kernel_rfl) (fun _ _ _ h => h) (Or.inl ⟨by rfl, ?_⟩) hHeld ?_
              rotate_left 1
              · intro wv hSw
                (try dsimp only at hSw)
                first | (go_simp; done) | (go_simp; with_reducible rfl)
              try simp only [Act.put, List.setIfInBounds_toArray, List.set_cons_zero, List.set_cons_succ]
              refine wpAnyH_ready (rs := [23]) (by kernel_rfl) (by simp) ?_
              refine AllReadyH.cons (o := { dst := some 181, op := Op.call { callee := Callee.value (Operand.func 22), args := #[Operand.tmp 178, Operand.tmp 180], argTypes := #[25, 28] }, type := 40, pos := "outright.go:268", after := #[{ on := 20, ground := Ground.data }, { on := 22, ground := Ground.data }, { on := 19, ground := Ground.chain }, { on := 19, ground := Ground.guard }], guard := some (19, false) }) rfl (fun K hK => ?_) AllReadyH.nil
              go_simp
              (go_at_call 22; (with_reducible refine (HGp.out _ _ tw).mono ?_); rintro e W4 ⟨ga1, gb1, gc1, rfl, h1, uu⟩; replace tw := tw.next uu; clear uu)
              try go_wp2_with (fail)
              refine hK.out _ _ ?_ (fun hH2 => ?_)
              · (try dsimp only)
                (first | (with_reducible exact hHeld) | (exact HCf.out _ _ _ _ tw (fun _ h => List.mem_cons_of_mem _ h)))
              clear hK K hHeld
              have hHeld := hH2
              clear hH2
              try simp only [Act.put, List.setIfInBounds_toArray, List.set_cons_zero, List.set_cons_succ]
              refine wpAnyH_ready (rs := [27]) (by kernel_rfl) (by simp) ?_
              refine AllReadyH.cons (o := { dst := some 185, op := Op.call { callee := Callee.value (Operand.func 22), args := #[Operand.tmp 182, Operand.tmp 184], argTypes := #[25, 28] }, type := 40, pos := "outright.go:268", after := #[{ on := 24, ground := Ground.data }, { on := 26, ground := Ground.data }, { on := 23, ground := Ground.chain }, { on := 19, ground := Ground.guard }], guard := some (19, false) }) rfl (fun K hK => ?_) AllReadyH.nil
              go_simp
              (go_at_call 22; (with_reducible refine (HGq.out _ _ tw).mono ?_); rintro e W5 ⟨ga2, gb2, gc2, rfl, h2, uu⟩; replace tw := tw.next uu; replace h1 := h1.next uu; clear uu)
              try go_wp2_with (fail)
              refine hK.out _ _ ?_ (fun hH2 => ?_)
              · (try dsimp only)
                (first | (with_reducible exact hHeld) | (exact HCf.out _ _ _ _ tw (fun _ h => List.mem_cons_of_mem _ h)))
              clear hK K hHeld
              have hHeld := hH2
              clear hH2
              try simp only [Act.put, List.setIfInBounds_toArray, List.set_cons_zero, List.set_cons_succ]
              refine wpAnyH_ready (rs := [28]) (by kernel_rfl) (by simp) ?_
              refine AllReadyH.cons (o := { dst := some 186, op := Op.call { callee := Callee.value (Operand.func 20), args := #[Operand.tmp 181, Operand.tmp 185], argTypes := #[40, 40] }, type := 4, pos := "outright.go:268", after := #[{ on := 23, ground := Ground.data }, { on := 27, ground := Ground.data }, { on := 27, ground := Ground.chain }, { on := 19, ground := Ground.guard }], guard := some (19, false) }) rfl (fun K hK => ?_) AllReadyH.nil
              go_simp
              (go_at_call 20; (with_reducible refine (HSg.out _ _ _ _ _ _ _ h1 h2).mono ?_); rintro e W6 ⟨rfl, uu⟩; replace tw := tw.next uu; clear uu)
              try go_wp2_with (fail)
              refine hK.out _ _ ?_ (fun hH2 => ?_)
              · (try dsimp only)
                (first | (with_reducible exact hHeld) | (exact HCf.out _ _ _ _ tw (fun _ h => List.mem_cons_of_mem _ h)))
              clear hK K hHeld
              have hHeld := hH2
              clear hH2
              try simp only [Act.put, List.setIfInBounds_toArray, List.set_cons_zero, List.set_cons_succ]
              refine wpAnyH_take (i := 29) (oi := { dst := some 187, op := Op.unOp UnOp.not 4 (Operand.tmp 186), type := 4, pos := "outright.go:268", after := #[{ on := 28, ground := Ground.data }, { on := 19, ground := Ground.guard }], guard := some (19, false) }) (v := ?_) rfl (by kernel_rfl) (by kernel_rfl) (by kernel_rfl) (fun _ _ _ h => h) (Or.inl ⟨by rfl, ?_⟩) hHeld ?_
              rotate_left 1
              · intro wv hSw
                (try dsimp only at hSw)
                first | (go_simp; done) | (go_simp; with_reducible rfl)
              try simp only [Act.put, List.setIfInBounds_toArray, List.set_cons_zero, List.set_cons_succ]
              refine wpAnyH_take (i := 30) (oi := { dst := some 188, op := Op.pick (Operand.tmp 177) (Operand.const (Value.bool true)) (Operand.tmp 187), type := 4, pos := "outright.go:268", after := #[{ on := 19, ground := Ground.data }, { on := 29, ground := Ground.data }], guard := none }) (v := ?_) rfl (by kernel_rfl) (by kernel_rfl) (by kernel_rfl) (fun _ _ _ h => h) (Or.inl ⟨by rfl, ?_⟩) hHeld ?_
              rotate_left 1
              · intro wv hSw
                (try dsimp only at hSw)
                first | (go_simp; done) | (go_simp; with_reducible rfl)
              try simp only [Act.put, List.setIfInBounds_toArray, List.set_cons_zero, List.set_cons_succ]
              refine wpAnyH_done (by kernel_rfl) ?_ _
              all_goals
                clear HDn HFp HFq HGp HGq HSf HSg v0 v1 v2
                go_wp2
                go_roundg (60 - (j + 1))
                case rel =>
                  go_light
                  exact ⟨j + 1, D', EE, by omega, rfl, by go_num, HFt2.out, tw.sub (fun c hc => by simp only [List.mem_singleton] at hc; rw [hc]; exact List.mem_cons_of_mem _ HIn.out.2.1), by omega⟩
                case measure => go_light; omega
        · exact absurd hKk (by have := HKind.out; omega)
        · exact absurd hKk (by have := HKind.out; omega)
      · obtain ⟨D2, hD2, hft2⟩ := hft.miss (by omega) hK1.1 hm kind nm.data.toList z dt.data.toList (by omega) hE2 hE3 hE4
        rw [hact] at hD2
        injection hD2 with h1 h2
        subst h1 h2
        obtain ⟨nf, hnf⟩ : ∃ n, (tell E'.L).length = n := ⟨_, rfl⟩
        have hnf2 : nf ≤ 1000 := by rw [← hnf]; have := tell_len' E'.L; have := hE2.cnt; omega
        have HFp : Hid (∀ W B, Bw w W p q D' E' B → Calls Try.prog 21 #[.pointer (some ⟨p, 0, none⟩)] W fun e w' => ∃ ao b c, e = .returned (.slice ao nf c) ∧ RdF w' ao b 0 (tell E'.L) ∧ Below W.heap.size W w') := fun W B h => by
          rw [← hnf]; exact h.files (by rw [hft2.L])
        have HFq : Hid (∀ W B, Bw w W p q D' E' B → Calls Try.prog 21 #[.pointer (some ⟨q, 0, none⟩)] W fun e w' => ∃ ao b c, e = .returned (.slice ao nf c) ∧ RdF w' ao b 0 (tell E'.L) ∧ Below W.heap.size W w') := fun W B h => by
          rw [← hnf]; exact h.symm.files rfl
        have HSm : Hid (∀ (W : World) a b c a' b' c', RdF W a b 0 (tell E'.L) → RdF W a' b' 0 (tell E'.L) → Calls Try.prog 20 #[.slice a nf c, .slice a' nf c'] W fun e w' => e = .returned (.bool true) ∧ Below W.heap.size W w') := fun W a b c a' b' c' h1 h2 => by
          have := HRd.out W a b c a' b' c' (by omega) h1 h2
          rw [hnf] at this
          exact this
        have hme : (((j + 1 : Nat) : Int) == (at_ : Int)) = false := by simp; omega
        have hme2 : ¬ (((j + 1 : Nat) : Int) = (at_ : Int)) := by omega
        have HFt2 := hide hft2
        obtain ⟨j1, hj1⟩ : ∃ x, j + 1 = x := ⟨_, rfl⟩
        rw [hj1] at hw1 hme hme2 HFt2
        clear hft hft2 hlw hsz hact hnm hzl hnw hlw2 hE1 hE2 hE3 hE4 hroE hwj hnf hnf2 hm HRd HFt
        as_aux_lemma =>
          go_upto_region 20 with (first
            | (go_at_call 23; (with_reducible refine (HAq.out _ _ _ b11).mono ?_); rintro e w12 ⟨rfl, b12⟩))
          go_wp2_with (first
            | (go_at_call 21; (with_reducible refine (HFp.out _ _ b12).mono ?_); rintro e w13 ⟨fa1, fb1, fc1, rfl, f1, u13⟩; have b13 := b12.next u13)
            | (go_at_call 21; (with_reducible refine (HFq.out _ _ b13).mono ?_); rintro e w14 ⟨fa2, fb2, fc2, rfl, f2, u14⟩; have b14 := b13.next u14; have f1 := f1.next u14)
            | (go_at_call 20; (with_reducible refine (HSm.out _ _ _ _ _ _ _ f1 f2).mono ?_); rintro e w15 ⟨rfl, u15⟩; have b15 := b14.next u15))
          go_roundg (60 - (j + 1))
          case rel =>
            go_light
            exact ⟨j1, D', E', by omega, by omega, rfl, HFt2.out, b15.sub (fun c hc => by simp only [List.mem_singleton] at hc; rw [hc]; exact HIn.out.2.1), by omega⟩
          case measure => go_light; omega
    · have HD := hide hft.down
      clear hft
      have HDn : Hid (∀ W B, Bw w W p q D E B → Calls Try.prog 19 #[.pointer (some ⟨p, 0, none⟩)] W fun e w' => e = .returned (.bool false) ∧ w' = W) := fun W B h => h.down HD.out
      have HBe := hide bx.below
      by_cases hl1 : (j : Int) < (n0 : Int)
      · have hl2 : ¬ ((j : Int) < 60) := by omega
        clear hlt
        go_wp2_with (go_at_call 19; (with_reducible refine (HDn.out _ _ bx).mono ?_); rintro e w10 ⟨rfl, h10⟩; rw [h10]; clear h10 w10)
        go_ret
        exact ⟨rfl, HBe.out⟩
      · clear hlt
        go_wp2_with (go_at_call 19; (with_reducible refine (HDn.out _ _ bx).mono ?_); rintro e w10 ⟨rfl, h10⟩; rw [h10]; clear h10 w10)
        go_ret
        exact ⟨rfl, HBe.out⟩
end Go.Proofs.Ytmhedhhbdpdafaa
