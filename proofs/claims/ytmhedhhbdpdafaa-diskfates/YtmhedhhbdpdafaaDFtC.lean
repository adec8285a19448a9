/-
  DiskFates, by kinds. Own work.
-/
import Derived.Test.YtmhedhhbdpdafaaDFtD
namespace Go.Proofs.Ytmhedhhbdpdafaa
open Go.RowKit
set_option maxRecDepth 100000 in
set_option maxHeartbeats 40000000 in
theorem fates_walkC (w : World) (a0 : Option Addr) (b0 o0 n0 c0 : Nat) (l0 : Nat → OpV) (r0 : RdO w a0 b0 o0 n0 l0) (m0 : n0 ≤ maxLen) (at0 kd0 : Int) (ka : Option Addr) (kb ko kc : Nat) (ks : List Bool) (hk : RdL w ka kb ko ks) (hkl : ks.length ≤ 140737488355328) (hkind : 1 + bentV kd0 4 = 5) :
    Calls Try.prog 6 #[.slice a0 n0 c0, .agg #[.int .i64 at0, .int .i64 kd0, .slice ka ks.length kc]] w fun e w' => e = .returned (.bool true) ∧ Below w.heap.size w w' := by
  have HR : Hid (RdO w a0 b0 o0 n0 l0 ∧ n0 ≤ maxLen) := ⟨r0, m0⟩
  have HA : Hid (∀ W, Calls Try.prog 9 #[] W fun e w' => e = .returned (.bool true) ∧ Below W.heap.size W w') := fun W => alive_any W
  have HN : Hid (∀ W, Calls Try.prog 11 #[.int .i64 1048576] W fun e w' => ∃ p S, e = .returned (.pointer (some ⟨p, 0, none⟩)) ∧ Dsk w' p S (newD 1048576) ∧ (∀ x, S x → W.heap.size ≤ x) ∧ Below W.heap.size W w') := fun W => new_any W 1048576 1048576 rfl (by decide)
  obtain ⟨z1, hz1⟩ : ∃ z, bentV at0 30 = z := ⟨_, rfl⟩
  obtain ⟨z2, hz2⟩ : ∃ z, bentV kd0 4 = z := ⟨_, rfl⟩
  have HB1 : Hid (∀ W, Calls Try.prog 10 #[.int .i64 at0, .int .i64 30] W fun e w' => e = .returned (.int .i64 (z1 : Int)) ∧ w' = W) := fun W => by rw [← hz1]; exact bent_any W at0 30 (by omega)
  have HB2 : Hid (∀ W, Calls Try.prog 10 #[.int .i64 kd0, .int .i64 4] W fun e w' => e = .returned (.int .i64 (z2 : Int)) ∧ w' = W) := fun W => by rw [← hz2]; exact bent_any W kd0 4 (by omega)
  have hb1 := bentV_le at0 30
  have hb2 := bentV_le kd0 4
  rw [hz1] at hb1
  rw [hz2] at hb2
  rw [hz2] at hkind
  obtain ⟨at_, hat⟩ : ∃ z, 1 + z1 = z := ⟨_, rfl⟩
  obtain ⟨K, hK⟩ : ∃ z, 1 + z2 = z := ⟨_, rfl⟩
  have e1 : IntKind.i64.wrap (1 + (z1 : Int)) = (at_ : Int) := by rw [IntKind.wrap_i64]; omega
  have e2 : IntKind.i64.wrap (1 + (z2 : Int)) = (K : Int) := by rw [IntKind.wrap_i64]; omega
  have hat1 : 1 ≤ at_ ∧ at_ ≤ 31 := by omega
  have hK1 : 1 ≤ K ∧ K ≤ 5 := by omega
  obtain ⟨kl, hkl2⟩ : ∃ kl, ks.length = kl := ⟨_, rfl⟩
  have HKs : Hid (RdL w ka kb ko ks ∧ ks.length ≤ 140737488355328 ∧ ks.length = kl) := ⟨hk, hkl, hkl2⟩
  rw [hkl2]
  have HKind : Hid (K = 5) := by rw [← hK]; exact hkind
  clear r0 m0 hk hkl hkl2 hz1 hz2 hb1 hb2 hat hK hkind
  obtain ⟨w1, hw1⟩ : ∃ W, w.alloc (.cells #[.int .i64 at0, .int .i64 kd0, .slice ka kl kc] 54) = W := ⟨_, rfl⟩
  have HW1 := hide hw1
  have u1 : Below w.heap.size w w1 := by rw [← hw1]; exact bal (Below.refl _ _) _
  have k1 : w1.heap[w.heap.size]? = some (.cells #[.int .i64 at0, .int .i64 kd0, .slice ka kl kc] 54 (0, 0)) := by rw [← hw1]; exact new1 _ _
  clear hw1
  go_enter Try.func6, Try.ntmps6
  go_upto_region 1 with (fail)
  rw [HW1.out]
  obtain ⟨bf, hbf⟩ : ∃ b, w.heap.size = b := ⟨_, rfl⟩
  have HBf := hide hbf
  rw [hbf] at k1 ⊢
  go_upto_region 3 with (go_at_call 9; (with_reducible refine (HA.out _).mono ?_); rintro e w2 ⟨rfl, u2⟩)
  have k2 : w2.heap[bf]? = some (.cells #[.int .i64 at0, .int .i64 kd0, .slice ka kl kc] 54 (0, 0)) := (u2.block bf (Array.getElem?_eq_some_iff.1 k1).1).trans k1
  obtain ⟨c20, c21, c22⟩ := three_at' k2
  have z20 : w2.frozen? ⟨bf, 0, none⟩ = false := frozen_of_row w2 _ 0 _ _ k2
  have u2' := bnext u1 u2
  have HU2 := hide u2'
  have HK2 := hide k2
  clear u1 u2 u2' k1 k2 hbf
  go_upto_region 4 with (go_at_call 10; (with_reducible refine (HB1.out _).mono ?_); rintro e w3 ⟨rfl, h3⟩; rw [h3]; clear h3 w3)
  obtain ⟨w3, hw3⟩ : ∃ W, w2.setCell ⟨bf, 0, none⟩ (.int .i64 (at_ : Int)) = W := ⟨_, rfl⟩
  have k3 : w3.heap[bf]? = some (.cells #[.int .i64 (at_ : Int), .int .i64 kd0, .slice ka kl kc] 54 (0, 0)) := by rw [← hw3]; exact heap_setCell_same w2 bf 0 _ _ _ HK2.out
  have u3 : Below w.heap.size w w3 := by rw [← hw3]; exact upo_below HU2.out (S := fun x => x = bf) (fun x h => by rw [h, ← HBf.out]; exact Nat.le_refl _) ((Upo.refl _ _).set _ _ _ (.inl rfl))
  rw [hw3]
  clear c20 c21 c22 z20 hw3
  obtain ⟨c20, c21, c22⟩ := three_at' k3
  have z21 : w3.frozen? ⟨bf, 1, none⟩ = false := frozen_of_row w3 _ 1 _ _ k3
  have HU3 := hide u3
  have HK3 := hide k3
  clear u3 k3
  go_upto_region 5 with (go_at_call 10; (with_reducible refine (HB2.out _).mono ?_); rintro e w4 ⟨rfl, h4⟩; rw [h4]; clear h4 w4)
  obtain ⟨w4, hw4⟩ : ∃ W, w3.setCell ⟨bf, 1, none⟩ (.int .i64 (K : Int)) = W := ⟨_, rfl⟩
  have k4 : w4.heap[bf]? = some (fB at_ K ka kl kc) := by rw [← hw4]; exact heap_setCell_same w3 bf 1 _ _ _ HK3.out
  have u4 : Below w.heap.size w w4 := by rw [← hw4]; exact upo_below HU3.out (S := fun x => x = bf) (fun x h => by rw [h, ← HBf.out]; exact Nat.le_refl _) ((Upo.refl _ _).set _ _ _ (.inl rfl))
  rw [hw4]
  clear c20 c21 c22 z21 hw4 HB1 HB2 HA HU2 HK2 HU3 HK3 HW1 e1 e2
  go_upto_region 6 with (go_at_call 11; (with_reducible refine (HN.out _).mono ?_); rintro e w5 ⟨p, S, rfl, d1, s1, u5⟩)
  go_upto_region 7 with (go_at_call 11; (with_reducible refine (HN.out _).mono ?_); rintro e w6 ⟨q, T, rfl, d2, s2, u6⟩)
  have hlt4 : bf < w4.heap.size := (Array.getElem?_eq_some_iff.1 k4).1
  have b6 : Bw w w6 p q (newD 1048576) (newD 1048576) [(bf, fB at_ K ka kl kc)] := by
    refine bw_new d1 (fun x hx => Nat.le_trans u4.size (s1 x hx)) (bnext u4 u5) (fun c hc => ?_) d2 s2 u6
    simp only [List.mem_singleton] at hc
    subst hc
    exact ⟨fun e => by have := s1 _ e; simp only at this; omega, by rw [HBf.out]; exact Nat.le_refl _, (u5.block bf hlt4).trans k4⟩
  have HLy := hide (b6.lay (at_ : Int) (K : Int) (by omega) ka kb ko kc ks HKs.out.1 HKs.out.2.1)
  rw [HKs.out.2.2] at HLy
  obtain ⟨c60, c61, c62⟩ := three_at' (show w6.heap[bf]? = some (.cells #[.int .i64 (at_ : Int), .int .i64 (K : Int), .slice ka kl kc] 54 (0, 0)) from b6.box (List.mem_cons_self ..))
  have HF0 := hide (ft_new at_ K ks hat1.1 hK1.1 hK1.2)
  clear d1 d2 s1 s2 u4 u5 u6 k4 hlt4 HN b6
  go_upto_region 8 with (go_at_call 25; (with_reducible refine HLy.out.mono ?_); rintro e w7 ⟨rfl, b7⟩)
  have HB7 := hide b7
  clear c60 c61 c62 HLy b7
  go_wp2
  go_loopg [7] 60 (fun g x wr => ∃ (j : Nat) (D E : DV), j ≤ 60 ∧ g = 60 - j ∧ x = .int .i64 (j : Int) ∧ Ft D E at_ K ks j ∧ Bw w wr p q D E [(bf, fB at_ K ka kl kc)] ∧ j ≤ n0)
  case atStart =>
    exact ⟨0, _, _, by omega, rfl, rfl, HF0.out, HB7.out, Nat.zero_le _⟩
  case round =>
    clear HF0 HB7
    obtain ⟨j, D, E, hj, rfl, rfl, hft, bx, hjn⟩ := hrel
    by_cases hlt : j < n0 ∧ j < 60
    · obtain ⟨hl1, hl2⟩ := hlt
      obtain ⟨q0, q2⟩ := HR.out
      obtain ⟨a, ha⟩ : ∃ a, o0 + j * 7 = a := ⟨_, rfl⟩
      obtain ⟨k0, k1, k2, k3, k4, k5, k6⟩ := q0.seven bx.below hl1 ha
      have hok := (q0.cell j hl1).2.2.2.2.2.2.2
      obtain rfl := q0.ptr (by omega)
      generalize l0 j = o at *
      obtain ⟨kind, which, nm, dt, oat, n, oka, okc, okb, oko, keep⟩ := o
      simp only at k0 k1 k2 k3 k4 k5 k6 hok
      obtain ⟨okl, hokl⟩ : ∃ kl, keep.length = kl := ⟨_, rfl⟩
      rw [hokl] at k6
      obtain ⟨w8, hw8⟩ : ∃ W, wr.alloc (.cells #[.int .i64 kind, .int .i64 which, .string nm, .string dt, .int .i64 oat, .int .i64 n, .slice oka okl okc] 30) = W := ⟨_, rfl⟩
      have HW8 := hide hw8
      have b8 : Bw w w8 p q D E [(wr.heap.size, oB kind which nm dt oat n oka okl okc), (bf, fB at_ K ka kl kc)] := by rw [← hw8]; exact bx.alloc _
      have hne8 : bf ≠ wr.heap.size := by have := bx.lt (c := (bf, fB at_ K ka kl kc)) (by simp); simp only at this; omega
      obtain ⟨bo, hbo⟩ : ∃ bo, wr.heap.size = bo := ⟨_, rfl⟩
      rw [hbo] at b8 hne8
      have HBo := hide hbo
      have hx1 : (j : Int) < (n0 : Int) := by omega
      have hx2 : (j : Int) < 60 := by omega
      have hx0 : (0 : Int) ≤ (j : Int) := by omega
      have hnm := hok.nm
      simp only at hnm
      obtain ⟨sz, hsz⟩ : ∃ sz, (fget E.L nm.data.toList).now.length = sz := ⟨_, rfl⟩
      have hszl : sz ≤ 30000 := by rw [← hsz]; exact hft.sz (by omega) _
      have HSz : Hid (∀ W B, Bw w W p q D E B → Calls Try.prog 17 #[.pointer (some ⟨q, 0, none⟩), .string nm] W fun e w' => e = .returned (.int .i64 (sz : Int)) ∧ w' = W) := fun W B h => h.symm.size nm hnm (by unfold sizD; rw [if_neg (by simp [hft.pf.down])]; exact hsz)
      obtain ⟨z, hz⟩ : ∃ z, bentV oat sz = z := ⟨_, rfl⟩
      have hzl : z ≤ sz := by rw [← hz]; exact bentV_le _ _
      have HBt : Hid (∀ W, Calls Try.prog 10 #[.int .i64 oat, .int .i64 (sz : Int)] W fun e w' => e = .returned (.int .i64 (z : Int)) ∧ w' = W) := fun W => by rw [← hz]; exact bent_any W oat sz (by omega)
      have HAc : Hid (∀ W B, Bw w W p q D E B → Calls Try.prog 18 #[.pointer (some ⟨p, 0, none⟩)] W fun e w' => e = .returned (.int .i64 (j : Int)) ∧ w' = W) := fun W B h => h.acts hft.acts
      obtain ⟨lw, hlw⟩ : ∃ l, aft ks E.L 0 = l := ⟨_, rfl⟩
      have hlw2 : lw.length ≤ 200 := by rw [← hlw]; have := aft_len ks E.L 0; have := hft.pf.cnt; omega
      obtain ⟨nw, hnw⟩ : ∃ n, lw.length = n := ⟨_, rfl⟩
      have HAf : Hid (∀ W B, Bw w W p q D E B → Calls Try.prog 22 #[.pointer (some ⟨p, 0, none⟩), .slice ka kl kc] W fun e w' => ∃ ao b c, e = .returned (.slice ao nw c) ∧ RdF w' ao b 0 lw ∧ Below W.heap.size W w' ∧ (0 < nw → W.heap.size ≤ b)) := fun W B h => by
        have := h.after (l := lw) ka kb ko kc ks HKs.out.1 (by have := HKs.out.2.1; omega) (by rw [hft.L, hlw])
        rw [hnw, HKs.out.2.2] at this
        exact this
      obtain ⟨⟨D', er⟩, hact⟩ : ∃ x, actO D kind nm.data.toList (z : Int) dt.data.toList = x := ⟨_, rfl⟩
      have hro := hft.roomy (by omega)
      have HAp : Hid (∀ W B, Bw w W p q D E B → Calls Try.prog 23 #[.pointer (some ⟨p, 0, none⟩), .agg #[.int .i64 kind, .int .i64 which, .string nm, .string dt, .int .i64 (z : Int), .int .i64 n, .slice oka okl okc]] W fun e w' => e = .returned (.int .i64 er) ∧ Bw w w' p q D' E B) := fun W B h => h.act hro kind which _ n nm dt oka okl okc hnm (by omega) (by omega) hact
      have hwj : IntKind.i64.wrap ((j : Int) + 1) = ((j + 1 : Nat) : Int) := by rw [IntKind.wrap_i64]; omega
      obtain ⟨g0, g1, g2, g3, g4, g5, g6⟩ := seven_at (show w8.heap[bo]? = some (.cells #[.int .i64 kind, .int .i64 which, .string nm, .string dt, .int .i64 oat, .int .i64 n, .slice oka okl okc] 30 (0, 0)) from b8.box (List.mem_cons_self ..))
      have gz : w8.frozen? ⟨bo, 4, none⟩ = false := frozen_of_row w8 _ 4 _ _ (b8.box (List.mem_cons_self ..))
      obtain ⟨w9, hw9⟩ : ∃ W, w8.setCell ⟨bo, 4, none⟩ (.int .i64 (z : Int)) = W := ⟨_, rfl⟩
      have b9 : Bw w w9 p q D E [(bo, oB kind which nm dt (z : Int) n oka okl okc), (bf, fB at_ K ka kl kc)] := by
        rw [← hw9]
        exact b8.put (fun c hc => by simp only [List.mem_singleton] at hc; rw [hc]; exact hne8) ((Upo.refl (fun y => y = bo) w8).set _ _ _ (.inl rfl)) (oB_put (b8.box (List.mem_cons_self ..)) (z : Int))
      have HW9 := hide hw9
      have HFt : Hid (Ft D E at_ K ks j ∧ aft ks E.L 0 = lw ∧ (fget E.L nm.data.toList).now.length = sz ∧ actO D kind nm.data.toList (z : Int) dt.data.toList = (D', er) ∧ nm.size ≤ maxLen ∧ z ≤ sz ∧ lw.length = nw ∧ lw.length ≤ 200) := ⟨hft, hlw, hsz, hact, hnm, hzl, hnw, hlw2⟩
      clear hw8 hbo hw9 hft hlw hsz hact hro hz q0 q2 hok hokl hne8 hnw hlw2 bx
      go_upto_region 13 with (first
        | (go_at_call 17; rw [HW8.out, HBo.out]; (with_reducible refine (HSz.out _ _ b8).mono ?_); rintro e w10 ⟨rfl, h10⟩; rw [h10]; clear h10 w10))
      go_upto_region 14 with (go_at_call 10; (with_reducible refine (HBt.out _).mono ?_); rintro e w10 ⟨rfl, h10⟩; rw [h10]; clear h10 w10)
      rw [HW9.out]
      clear HSz HBt HW8 HW9 g0 g1 g2 g3 g4 g5 g6 gz k0 k1 k2 k3 k4 k5 k6 b8
      have HCe : Hid (∀ W D2 E2 B, Bw w W p q D2 E2 B → (bo, oB kind which nm dt (z : Int) n oka okl okc) ∈ B → (bf, fB at_ K ka kl kc) ∈ B → (W.cell? ⟨bo, 0, none⟩ = some (.int .i64 kind) ∧ W.cell? ⟨bo, 1, none⟩ = some (.int .i64 which) ∧ W.cell? ⟨bo, 2, none⟩ = some (.string nm) ∧ W.cell? ⟨bo, 3, none⟩ = some (.string dt) ∧ W.cell? ⟨bo, 4, none⟩ = some (.int .i64 (z : Int)) ∧ W.cell? ⟨bo, 5, none⟩ = some (.int .i64 n) ∧ W.cell? ⟨bo, 6, none⟩ = some (.slice oka okl okc)) ∧ W.cell? ⟨bf, 0, none⟩ = some (.int .i64 (at_ : Int)) ∧ W.cell? ⟨bf, 1, none⟩ = some (.int .i64 (K : Int)) ∧ W.cell? ⟨bf, 2, none⟩ = some (.slice ka kl kc)) := fun W D2 E2 B h h1 h2 => ⟨seven_at (h.box h1), three_at' (h.box h2)⟩
      obtain ⟨⟨g0, g1, g2, g3, g4, g5, g6⟩, y0, y1, y2⟩ := HCe.out _ _ _ _ b9 (by simp) (by simp)
      go_upto_region 16 with (first
        | (go_at_call 18; (with_reducible refine (HAc.out _ _ b9).mono ?_); rintro e w10 ⟨rfl, h10⟩; rw [h10]; clear h10 w10)
        | (go_at_call 22; (with_reducible refine (HAf.out _ _ b9).mono ?_); rintro e w10 ⟨wa, wb, wc', rfl, fw, u10, hg10⟩))
      obtain ⟨B', b10, hsub, hrow⟩ := b9.row u10 fw (fun h => hg10 (by rw [← HFt.out.2.2.2.2.2.2.1]; exact h))
      have hin1 := hsub (bo, oB kind which nm dt (z : Int) n oka okl okc) (by simp)
      have hin2 := hsub (bf, fB at_ K ka kl kc) (by simp)
      have HIn : Hid ((bo, oB kind which nm dt (z : Int) n oka okl okc) ∈ B' ∧ (bf, fB at_ K ka kl kc) ∈ B' ∧ ∀ W2 D2 E2, Bw w W2 p q D2 E2 B' → RdF W2 wa wb 0 lw) := ⟨hin1, hin2, hrow⟩
      clear g0 g1 g2 g3 g4 g5 g6 y0 y1 y2 hsub hrow hin1 hin2 u10 fw hg10 b9 HAf HAc
      obtain ⟨⟨g0, g1, g2, g3, g4, g5, g6⟩, y0, y1, y2⟩ := HCe.out _ _ _ _ b10 HIn.out.1 HIn.out.2.1
      go_upto_region 17 with (go_at_call 23; (with_reducible refine (HAp.out _ _ b10).mono ?_); rintro e w11 ⟨rfl, b11⟩)
      clear g0 g1 g2 g3 g4 g5 g6 y0 y1 y2 HAp b10
      obtain ⟨⟨g0, g1, g2, g3, g4, g5, g6⟩, y0, y1, y2⟩ := HCe.out _ _ _ _ b11 HIn.out.1 HIn.out.2.1
      obtain ⟨hft, hlw, hsz, hact, hnm, hzl, hnw, hlw2⟩ := HFt.out
      obtain ⟨E', hE1, hE2, hE3, hE4⟩ := hft.other (by omega) kind nm.data.toList z dt.data.toList (by omega)
      have hroE := hft.pf.roomy (by omega)
      have HAq : Hid (∀ W D2 B, Bw w W p q D2 E B → Calls Try.prog 23 #[.pointer (some ⟨q, 0, none⟩), .agg #[.int .i64 kind, .int .i64 which, .string nm, .string dt, .int .i64 (z : Int), .int .i64 n, .slice oka okl okc]] W fun e w' => e = .returned (.int .i64 0) ∧ Bw w w' p q D2 E' B) := fun W D2 B h => (h.symm.act hroE kind which _ n nm dt oka okl okc hnm (by omega) (by omega) hE1).mono fun e w' z => ⟨z.1, z.2.symm⟩
      have hw1 : IntKind.i64.wrap ((j : Int) + 1) = ((j + 1 : Nat) : Int) := hwj
      have HRd : Hid (∀ {l : List (List UInt8 × List UInt8)} (W : World) a b c a' b' c', l.length ≤ 1000 → RdF W a b 0 l → RdF W a' b' 0 l → Calls Try.prog 20 #[.slice a l.length c, .slice a' l.length c'] W fun e w' => e = .returned (.bool true) ∧ Below W.heap.size W w') := fun {l} W a b c a' b' c' hl h1 h2 => same_yes W l a b 0 c h1 a' b' 0 c' h2 (by omega)
      by_cases hm : j + 1 = at_
      · have hme : (((j + 1 : Nat) : Int) == (at_ : Int)) = true := by simp [hm]
        have hme2 : ((j + 1 : Nat) : Int) = (at_ : Int) := by omega
        rw [hme2] at hw1
        clear hme hme2
        rcases (show (K = 1 ∨ K = 2 ∨ K = 3) ∨ K = 4 ∨ K = 5 by omega) with hKk | hKk | hKk
        · exact absurd hKk (by have := HKind.out; omega)
        · exact absurd hKk (by have := HKind.out; omega)
        · obtain rfl : K = 5 := hKk
          obtain ⟨D2, hD2, hgo⟩ := hft.late (by omega) hm kind nm.data.toList z dt.data.toList (by omega) hE2 hE3 hE4
          rw [hact] at hD2
          injection hD2 with h1 h2
          subst h1
          obtain rfl : er = 170 := h2
          obtain ⟨l, hl⟩ : ∃ l, aft ks E'.L 0 = l := ⟨_, rfl⟩
          rw [hl] at hgo
          obtain ⟨nl, hnl⟩ : ∃ n, l.length = n := ⟨_, rfl⟩
          have hnl2 : nl ≤ 1000 := by rw [← hnl]; have := hgo.cnt; omega
          have HDn : Hid (∀ W B, Bw w W p q D' E' B → Calls Try.prog 19 #[.pointer (some ⟨p, 0, none⟩)] W fun e w' => e = .returned (.bool true) ∧ w' = W) := fun W B h => h.down hgo.down
          have HFp : Hid (∀ W B, Bw w W p q D' E' B → Calls Try.prog 21 #[.pointer (some ⟨p, 0, none⟩)] W fun e w' => ∃ ao b c, e = .returned (.slice ao nl c) ∧ RdF w' ao b 0 l ∧ Below W.heap.size W w') := fun W B h => by
            rw [← hnl]; exact h.files hgo.tell
          have HGz : Hid (∀ W B, Bw w W p q D' E' B → Calls Try.prog 22 #[.pointer (some ⟨p, 0, none⟩), .slice none 0 0] W fun e w' => ∃ ao b c, e = .returned (.slice ao nl c) ∧ RdF w' ao b 0 l ∧ Below W.heap.size W w') := fun W B h => by
            have := h.after (l := l) none 0 0 0 [] (rdl_nil _ _ _ _) (by decide) (hgo.aft [])
            rw [hnl] at this
            exact this.mono fun e w' z => by obtain ⟨x1, x2, x3, x4, x5, x6, _⟩ := z; exact ⟨x1, x2, x3, x4, x5, x6⟩
          have HGq : Hid (∀ W B, Bw w W p q D' E' B → Calls Try.prog 22 #[.pointer (some ⟨q, 0, none⟩), .slice ka kl kc] W fun e w' => ∃ ao b c, e = .returned (.slice ao nl c) ∧ RdF w' ao b 0 l ∧ Below W.heap.size W w') := fun W B h => by
            have := h.symm.after (l := l) ka kb ko kc ks HKs.out.1 (by have := HKs.out.2.1; omega) hl
            rw [hnl, HKs.out.2.2] at this
            exact this.mono fun e w' z => by obtain ⟨x1, x2, x3, x4, x5, x6, _⟩ := z; exact ⟨x1, x2, x3, x4, x5, x6⟩
          have HRe : Hid (∀ W B, Bw w W p q D' E' B → Calls Try.prog 16 #[.pointer (some ⟨p, 0, none⟩), .string nm, .int .i64 0, .int .i64 0] W fun e w' => e = .returned (.tuple #[.string ⟨#[]⟩, .int .i64 170]) ∧ Below W.heap.size W w') := fun W B h => h.read nm hnm 0 0 (by decide) (by decide) (by decide) (by decide) (hgo.rd _ 0 0) rfl
          have HSi : Hid (∀ W B, Bw w W p q D' E' B → Calls Try.prog 17 #[.pointer (some ⟨p, 0, none⟩), .string nm] W fun e w' => e = .returned (.int .i64 0) ∧ w' = W) := fun W B h => h.size nm hnm (hgo.sz _)
          have HAd : Hid (∀ W B, Bw w W p q D' E' B → Calls Try.prog 23 #[.pointer (some ⟨p, 0, none⟩), .agg #[.int .i64 kind, .int .i64 which, .string nm, .string dt, .int .i64 (z : Int), .int .i64 n, .slice oka okl okc]] W fun e w' => e = .returned (.int .i64 170) ∧ Bw w w' p q D' E' B) := fun W B h => h.act (hgo.roomy (by omega)) kind which _ n nm dt oka okl okc hnm (by omega) (by omega) (act_down hgo.down _ _ _ _)
          have HAz : Hid (∀ W B, Bw w W p q D' E' B → Calls Try.prog 18 #[.pointer (some ⟨p, 0, none⟩)] W fun e w' => e = .returned (.int .i64 (at_ : Int)) ∧ w' = W) := fun W B h => h.acts (by rw [hgo.acts]; exact hm)
          have HSf : Hid (∀ (W : World) a b c a' b' c', RdF W a b 0 l → RdF W a' b' 0 l → Calls Try.prog 20 #[.slice a nl c, .slice a' nl c'] W fun e w' => e = .returned (.bool true) ∧ Below W.heap.size W w') := fun W a b c a' b' c' h1 h2 => by
            have := HRd.out W a b c a' b' c' (by omega) h1 h2
            rw [hnl] at this
            exact this
          have HCg : Hid (∀ W D2 E2, Bw w W p q D2 E2 B' → W.cell? ⟨bo, 0, none⟩ = some (.int .i64 kind) ∧ W.cell? ⟨bo, 1, none⟩ = some (.int .i64 which) ∧ W.cell? ⟨bo, 2, none⟩ = some (.string nm) ∧ W.cell? ⟨bo, 3, none⟩ = some (.string dt) ∧ W.cell? ⟨bo, 4, none⟩ = some (.int .i64 (z : Int)) ∧ W.cell? ⟨bo, 5, none⟩ = some (.int .i64 n) ∧ W.cell? ⟨bo, 6, none⟩ = some (.slice oka okl okc) ∧ W.cell? ⟨bf, 0, none⟩ = some (.int .i64 (at_ : Int))) := fun W D2 E2 h => by
            obtain ⟨⟨x0, x1, x2, x3, x4, x5, x6⟩, x7, _, _⟩ := HCe.out _ _ _ _ h HIn.out.1 HIn.out.2.1
            exact ⟨x0, x1, x2, x3, x4, x5, x6, x7⟩
          skip
          clear hft hlw hsz hact hzl hnw hlw2 hE1 hE2 hE3 hE4 hroE hwj hnl hnl2 HRd HFt hgo hl
          go_upto_region 28 with (first
            | (go_at_call 23; (with_reducible refine (HAq.out _ _ _ b11).mono ?_); rintro e w12 ⟨rfl, b12⟩; obtain ⟨⟨g0, g1, g2, g3, g4, g5, g6⟩, y0, y1, y2⟩ := HCe.out _ _ _ _ b12 HIn.out.1 HIn.out.2.1)
            | (go_at_call 22; (with_reducible refine (HGq.out _ _ b12).mono ?_); rintro e w13 ⟨xa, xb, xc, rfl, fx, u13⟩; have b13 := b12.next u13; obtain ⟨⟨g0, g1, g2, g3, g4, g5, g6⟩, y0, y1, y2⟩ := HCe.out _ _ _ _ b13 HIn.out.1 HIn.out.2.1)
            | (go_at_call 16; (with_reducible refine (HRe.out _ _ b13).mono ?_); rintro e w14 ⟨rfl, u14⟩; have b14 := b13.next u14; have f14a := fx.next u14))
          have tw := b14.next (bdw _)
          have f14 := f14a.next (bdw _)
          go_region_held3 (fun Z => Z.cell? ⟨bo, 0, none⟩ = some (.int .i64 kind) ∧ Z.cell? ⟨bo, 1, none⟩ = some (.int .i64 which) ∧ Z.cell? ⟨bo, 2, none⟩ = some (.string nm) ∧ Z.cell? ⟨bo, 3, none⟩ = some (.string dt) ∧ Z.cell? ⟨bo, 4, none⟩ = some (.int .i64 (z : Int)) ∧ Z.cell? ⟨bo, 5, none⟩ = some (.int .i64 n) ∧ Z.cell? ⟨bo, 6, none⟩ = some (.slice oka okl okc) ∧ Z.cell? ⟨bf, 0, none⟩ = some (.int .i64 (at_ : Int))) (first | assumption | (exact HCg.out _ _ _ tw) | (exact HCg.out _ _ _ b14)) (first
            | (go_at_call 19; (with_reducible refine (HDn.out _ _ tw).mono ?_); rintro e W1 ⟨rfl, rfl⟩)
            | (go_at_call 21; (with_reducible refine (HFp.out _ _ tw).mono ?_); rintro e W1 ⟨fa1, fb1, fc1, rfl, f1, uu⟩; have tw := tw.next uu; have f14 := f14.next uu)
            | (go_at_call 20; (with_reducible refine (HSf.out _ _ _ _ _ _ _ f1 f14).mono ?_); rintro e W1 ⟨rfl, uu⟩; have tw := tw.next uu; have f14 := f14.next uu)
            | (go_at_call 22; (with_reducible refine (HGz.out _ _ tw).mono ?_); rintro e W1 ⟨ga1, gb1, gc1, rfl, h1, uu⟩; have tw := tw.next uu; have f14 := f14.next uu)
            | (go_at_call 20; (with_reducible refine (HSf.out _ _ _ _ _ _ _ h1 f14).mono ?_); rintro e W1 ⟨rfl, uu⟩; have tw := tw.next uu; have f14 := f14.next uu)
            | (go_at_call 17; (with_reducible refine (HSi.out _ _ tw).mono ?_); rintro e W1 ⟨rfl, rfl⟩)
            | (go_at_call 23; (with_reducible refine (HAd.out _ _ tw).mono ?_); rintro e W1 ⟨rfl, tw⟩)
            | (go_at_call 18; (with_reducible refine (HAz.out _ _ tw).mono ?_); rintro e W1 ⟨rfl, rfl⟩))
          all_goals
            go_wp2
            go_ret
            exact ⟨rfl, tw.below⟩
      · obtain ⟨D2, hD2, hft2⟩ := hft.miss (by omega) hK1.1 hm kind nm.data.toList z dt.data.toList (by omega) hE2 hE3 hE4
        rw [hact] at hD2
        injection hD2 with h1 h2
        subst h1 h2
        obtain ⟨nf, hnf⟩ : ∃ n, (tell E'.L).length = n := ⟨_, rfl⟩
        have hnf2 : nf ≤ 1000 := by rw [← hnf]; have := tell_len' E'.L; have := hE2.cnt; omega
        have HFp : Hid (∀ W B, Bw w W p q D' E' B → Calls Try.prog 21 #[.pointer (some ⟨p, 0, none⟩)] W fun e w' => ∃ ao b c, e = .returned (.slice ao nf c) ∧ RdF w' ao b 0 (tell E'.L) ∧ Below W.heap.size W w') := fun W B h => by
          rw [← hnf]; exact h.files (by rw [hft2.L])
        have HFq : Hid (∀ W B, Bw w W p q D' E' B → Calls Try.prog 21 #[.pointer (some ⟨q, 0, none⟩)] W fun e w' => ∃ ao b c, e = .returned (.slice ao nf c) ∧ RdF w' ao b 0 (tell E'.L) ∧ Below W.heap.size W w') := fun W B h => by
          rw [← hnf]; exact h.symm.files rfl
        have HSm : Hid (∀ (W : World) a b c a' b' c', RdF W a b 0 (tell E'.L) → RdF W a' b' 0 (tell E'.L) → Calls Try.prog 20 #[.slice a nf c, .slice a' nf c'] W fun e w' => e = .returned (.bool true) ∧ Below W.heap.size W w') := fun W a b c a' b' c' h1 h2 => by
          have := HRd.out W a b c a' b' c' (by omega) h1 h2
          rw [hnf] at this
          exact this
        have hme : (((j + 1 : Nat) : Int) == (at_ : Int)) = false := by simp; omega
        have hme2 : ¬ (((j + 1 : Nat) : Int) = (at_ : Int)) := by omega
        have HFt2 := hide hft2
        obtain ⟨j1, hj1⟩ : ∃ x, j + 1 = x := ⟨_, rfl⟩
        rw [hj1] at hw1 hme hme2 HFt2
        clear hft hft2 hlw hsz hact hnm hzl hnw hlw2 hE1 hE2 hE3 hE4 hroE hwj hnf hnf2 hm HRd HFt
        as_aux_lemma =>
          go_upto_region 20 with (first
            | (go_at_call 23; (with_reducible refine (HAq.out _ _ _ b11).mono ?_); rintro e w12 ⟨rfl, b12⟩))
          go_wp2_with (first
            | (go_at_call 21; (with_reducible refine (HFp.out _ _ b12).mono ?_); rintro e w13 ⟨fa1, fb1, fc1, rfl, f1, u13⟩; have b13 := b12.next u13)
            | (go_at_call 21; (with_reducible refine (HFq.out _ _ b13).mono ?_); rintro e w14 ⟨fa2, fb2, fc2, rfl, f2, u14⟩; have b14 := b13.next u14; have f1 := f1.next u14)
            | (go_at_call 20; (with_reducible refine (HSm.out _ _ _ _ _ _ _ f1 f2).mono ?_); rintro e w15 ⟨rfl, u15⟩; have b15 := b14.next u15))
          go_roundg (60 - (j + 1))
          case rel =>
            go_light
            exact ⟨j1, D', E', by omega, by omega, rfl, HFt2.out, b15.sub (fun c hc => by simp only [List.mem_singleton] at hc; rw [hc]; exact HIn.out.2.1), by omega⟩
          case measure => go_light; omega
    · have HD := hide hft.down
      clear hft
      have HDn : Hid (∀ W B, Bw w W p q D E B → Calls Try.prog 19 #[.pointer (some ⟨p, 0, none⟩)] W fun e w' => e = .returned (.bool false) ∧ w' = W) := fun W B h => h.down HD.out
      have HBe := hide bx.below
      by_cases hl1 : (j : Int) < (n0 : Int)
      · have hl2 : ¬ ((j : Int) < 60) := by omega
        clear hlt
        go_wp2_with (go_at_call 19; (with_reducible refine (HDn.out _ _ bx).mono ?_); rintro e w10 ⟨rfl, h10⟩; rw [h10]; clear h10 w10)
        go_ret
        exact ⟨rfl, HBe.out⟩
      · clear hlt
        go_wp2_with (go_at_call 19; (with_reducible refine (HDn.out _ _ bx).mono ?_); rintro e w10 ⟨rfl, h10⟩; rw [h10]; clear h10 w10)
        go_ret
        exact ⟨rfl, HBe.out⟩
end Go.Proofs.Ytmhedhhbdpdafaa
