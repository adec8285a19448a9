/-
  DiskLooks. Own work.
-/
import Derived.Test.YtmhedhhbdpdafaaDTwo
namespace Go.Proofs.Ytmhedhhbdpdafaa
open Go.RowKit
theorem bdrew (w : World) : Below w.heap.size w w.drew := ⟨rfl, rfl, rfl, Nat.le_refl _, fun _ _ => rfl⟩
theorem tell_len : ∀ L : List (List UInt8 × FV), (tell L).length ≤ L.length
  | [] => Nat.le_refl _
  | (s, f) :: r => by
    have := tell_len r
    rw [tell]
    split
    · simp; omega
    · simp; omega
/-- An Op's box. -/
def opC (kind which : Int) (nm dt : ByteArray) (x n : Int) (ka : Option Addr) (kl kc : Nat) : Obj := .cells #[.int .i64 kind, .int .i64 which, .string nm, .string dt, .int .i64 x, .int .i64 n, .slice ka kl kc] 30
theorem opC_put {W : World} {b : Nat} {kind which : Int} {nm dt : ByteArray} {x n : Int} {ka : Option Addr} {kl kc : Nat} (h : W.heap[b]? = some (opC kind which nm dt x n ka kl kc)) (y : Int) : (W.setCell ⟨b, 4, none⟩ (.int .i64 y)).heap[b]? = some (opC kind which nm dt y n ka kl kc) := heap_setCell_same W b 4 _ _ _ h
set_option maxRecDepth 100000 in
set_option maxHeartbeats 4000000 in
theorem looks_walk (w : World) (a0 : Option Addr) (b0 o0 n0 c0 : Nat) (l0 : Nat → OpV) (r0 : RdO w a0 b0 o0 n0 l0) (m0 : n0 ≤ maxLen) (a1 : Option Addr) (b1 o1 n1 c1 : Nat) (l1 : Nat → OpV) (r1 : RdO w a1 b1 o1 n1 l1) (m1 : n1 ≤ maxLen) :
    Calls Try.prog 4 #[.slice a0 n0 c0, .slice a1 n1 c1] w fun e w' => e = .returned (.bool true) ∧ Below w.heap.size w w' := by
  have HR : Hid (RdO w a0 b0 o0 n0 l0 ∧ RdO w a1 b1 o1 n1 l1 ∧ n0 ≤ maxLen ∧ n1 ≤ maxLen) := ⟨r0, r1, m0, m1⟩
  have HA := alive_any w
  have HN : Hid (∀ W, Calls Try.prog 11 #[.int .i64 1048576] W fun e w' => ∃ p S, e = .returned (.pointer (some ⟨p, 0, none⟩)) ∧ Dsk w' p S (newD 1048576) ∧ (∀ x, S x → W.heap.size ≤ x) ∧ Below W.heap.size W w') := fun W => new_any W 1048576 1048576 rfl (by decide)
  clear r0 r1 m0 m1
  go_enter Try.func4, Try.ntmps4
  go_upto_region 4 with (first
    | (go_at_call 9; (with_reducible refine HA.mono ?_); rintro e w1 ⟨rfl, u1⟩)
    | (go_at_call 11; (with_reducible refine (HN.out _).mono ?_); rintro e w2 ⟨p, S, rfl, d1, s1, u2⟩))
  go_upto_region 5 with (go_at_call 11; (with_reducible refine (HN.out _).mono ?_); rintro e w3 ⟨q, T, rfl, d2, s2, u3⟩)
  have tw : Tw0 w w3 p q (newD 1048576) (newD 1048576) := tw_new d1 (fun x hx => Nat.le_trans u1.size (s1 x hx)) (bnext u1 u2) d2 s2 u3
  clear HA HN u1 u2 u3 s1 s2 d1 d2
  go_wp2
  go_loopg [7] 40 (fun g x wr => ∃ (j : Nat) (D : DV), j ≤ 40 ∧ g = 40 - j ∧ x = .int .i64 (j : Int) ∧ Pln D 1048576 j ∧ Tw0 w wr p q D D ∧ j ≤ n0)
  case atStart =>
    exact ⟨0, newD 1048576, by omega, rfl, rfl, pln_new _, tw, Nat.zero_le _⟩
  case round =>
    clear tw
    obtain ⟨j, D, hj, rfl, rfl, hP, tw, hjn⟩ := hrel
    by_cases hlt : j < n0 ∧ j < 40
    · obtain ⟨hl1, hl2⟩ := hlt
      obtain ⟨q0, q1, q2, q3⟩ := HR.out
      obtain ⟨a, ha⟩ : ∃ a, o0 + j * 7 = a := ⟨_, rfl⟩
      obtain ⟨k0, k1, k2, k3, k4, k5, k6⟩ := q0.seven tw.below hl1 ha
      have hok := (q0.cell j hl1).2.2.2.2.2.2.2
      obtain rfl := q0.ptr (by omega)
      generalize l0 j = o at *
      obtain ⟨kind, which, nm, dt, at_, n, ka, kc, kb, ko, keep⟩ := o
      simp only at k0 k1 k2 k3 k4 k5 k6 hok
      obtain ⟨kl, hkl⟩ : ∃ kl, keep.length = kl := ⟨_, rfl⟩
      rw [hkl] at k6
      obtain ⟨w4, hw4⟩ : ∃ W, wr.alloc (.cells #[.int .i64 kind, .int .i64 which, .string nm, .string dt, .int .i64 at_, .int .i64 n, .slice ka kl kc] 30) = W := ⟨_, rfl⟩
      have HW4 := hide hw4
      have HB0 := hide tw.below.size
      have t4 : Tw w w4 p q D D wr.heap.size (opC kind which nm dt at_ n ka kl kc) := by rw [← hw4]; exact tw.alloc _
      have hx1 : (j : Int) < (n0 : Int) := by omega
      have hx2 : (j : Int) < 40 := by omega
      have hx0 : (0 : Int) ≤ (j : Int) := by omega
      obtain ⟨g0, g1, g2, g3, g4, g5, g6⟩ := seven_at t4.box
      have gz : w4.frozen? ⟨wr.heap.size, 4, none⟩ = false := frozen_of_row w4 _ 4 _ _ t4.box
      obtain ⟨sz, hsz⟩ : ∃ sz, sizD D nm.data.toList = sz := ⟨_, rfl⟩
      have HSz := hide ((t4.next (bdrew w4)).size nm hok.nm)
      rw [hsz] at HSz
      obtain ⟨z, hx⟩ : ∃ z, bentV at_ sz = z := ⟨_, rfl⟩
      have hszl : sz ≤ 4611686018427387904 := by have := t4.sz nm.data.toList; omega
      have hxl : z ≤ 4611686018427387904 := by have := bentV_le at_ sz; omega
      have HBt : Hid (∀ W, Calls Try.prog 10 #[.int .i64 at_, .int .i64 (sz : Int)] W fun e w' => e = .returned (.int .i64 (z : Int)) ∧ w' = W) := fun W => by rw [← hx]; exact bent_any W at_ sz hszl
      obtain ⟨w5, hw5⟩ : ∃ W, (w4.setCell ⟨wr.heap.size, 4, none⟩ (.int .i64 (z : Int))).drew = W := ⟨_, rfl⟩
      have t5 : Tw w w5 p q D D wr.heap.size (opC kind which nm dt (z : Int) n ka kl kc) := by
        rw [← hw5]
        exact t4.put tw.below.size ((Upo.refl (fun y => y = wr.heap.size) w4).set _ _ _ (.inl rfl)).drew (opC_put t4.box (z : Int))
      have HW5 := hide hw5
      have HT : Hid (Tw w w5 p q D D wr.heap.size (opC kind which nm dt (z : Int) n ka kl kc) ∧ Pln D 1048576 j ∧ OpOk w ⟨kind, which, nm, dt, at_, n, ka, kc, kb, ko, keep⟩ ∧ keep.length = kl) := ⟨t5, hP, hok, hkl⟩
      clear q0 q1 q2 q3 hok hw4 tw hP t4 hkl t5 hw5 hsz hx g1 g3 g5 g6
      go_upto_region 9 with (fail)
      rw [HW4.out]
      go_cut [] from 29 to 36 (fun wx => wx = w5)
      case first =>
        go_region_with (first
          | (go_at_call 17; (with_reducible refine HSz.out.mono ?_); rintro e w6 ⟨rfl, rfl⟩)
          | (go_at_call 10; (with_reducible refine (HBt.out _).mono ?_); rintro e w6 ⟨rfl, rfl⟩))
        all_goals
          rw [HW5.out]
          go_wp2
          go_meet
          case rel => exact rfl
      case rest =>
      subst hcut
      obtain ⟨bo, hbo⟩ : ∃ bo, wr.heap.size = bo := ⟨_, rfl⟩
      rw [hbo] at HT ⊢
      have hbw : w.heap.size ≤ bo := by rw [← hbo]; exact HB0.out
      clear HSz HBt HW4 HW5 g0 g2 g4 gz hszl k0 k1 k2 k3 k4 k5 k6 HB0 hbo
      go_wp2
      generalize wr = wo at *
      clear wr
      go_loopg [9] 10 (fun g x wr => ∃ i : Nat, i ≤ 10 ∧ g = 10 - i ∧ x = .int .i64 (i : Int) ∧ Tw w wr p q D D bo (opC kind which nm dt (z : Int) n ka kl kc) ∧ i ≤ n1)
      case atStart =>
        exact ⟨0, by omega, rfl, rfl, HT.out.1, Nat.zero_le _⟩
      case round =>
        obtain ⟨i, hi, rfl, rfl, t5, hin⟩ := hrel
        by_cases hli : i < n1 ∧ i < 10
        · obtain ⟨hm1, hm2⟩ := hli
          obtain ⟨_, q1, _, q3⟩ := HR.out
          obtain ⟨c, hc⟩ : ∃ c, o1 + i * 7 = c := ⟨_, rfl⟩
          obtain ⟨k0, k1, k2, k3, k4, k5, k6⟩ := q1.seven t5.below hm1 hc
          have hok := (q1.cell i hm1).2.2.2.2.2.2.2
          obtain rfl := q1.ptr (by omega)
          generalize l1 i = o at *
          obtain ⟨kind2, which2, nm2, dt2, at2, n2, ka2, kc2, kb2, ko2, keep2⟩ := o
          simp only at k0 k1 k2 k3 k4 k5 k6 hok
          obtain ⟨kl2, hkl2⟩ : ∃ kl, keep2.length = kl := ⟨_, rfl⟩
          rw [hkl2] at k6
          obtain ⟨w6, hw6⟩ : ∃ W, wr.alloc (.cells #[.int .i64 kind2, .int .i64 which2, .string nm2, .string dt2, .int .i64 at2, .int .i64 n2, .slice ka2 kl2 kc2] 30) = W := ⟨_, rfl⟩
          have HW6 := hide hw6
          have u6 : Below wr.heap.size wr w6 := by rw [← hw6]; exact bal (Below.refl _ _) _
          have bx : w6.heap[wr.heap.size]? = some (.cells #[.int .i64 kind2, .int .i64 which2, .string nm2, .string dt2, .int .i64 at2, .int .i64 n2, .slice ka2 kl2 kc2] 30 (0, 0)) := by rw [← hw6]; exact new1 _ _
          have t6 := t5.next u6
          have HC : Hid (∀ W, Below w6.heap.size w6 W → W.cell? ⟨wr.heap.size, 2, none⟩ = some (.string nm2) ∧ W.cell? ⟨wr.heap.size, 4, none⟩ = some (.int .i64 at2) ∧ W.cell? ⟨wr.heap.size, 5, none⟩ = some (.int .i64 n2) ∧ W.cell? ⟨wr.heap.size, 6, none⟩ = some (.slice ka2 kl2 kc2)) := fun W hW => by
            obtain ⟨_, _, y2, _, y4, y5, y6⟩ := seven_at ((hW.block _ (Array.getElem?_eq_some_iff.1 bx).1).trans bx)
            exact ⟨y2, y4, y5, y6⟩
          have HT6 : Hid (∀ W, Below w6.heap.size w6 W → Tw w W q p D D bo (opC kind which nm dt (z : Int) n ka kl kc)) := fun W hW => (t6.next hW).symm
          have HRe : Hid (∀ W, Below w6.heap.size w6 W → Calls Try.prog 16 #[.pointer (some ⟨q, 0, none⟩), .string nm2, .int .i64 at2, .int .i64 n2] W fun e w' => (∃ t r, e = .returned (.tuple #[.string t, .int .i64 r])) ∧ Below w6.heap.size w6 w') := fun W hW => ((HT6.out W hW).read nm2 hok.nm at2 n2 hok.a1 hok.a2 hok.n1 hok.n2).mono fun e w' z => ⟨z.1, bnext hW z.2⟩
          have HSi : Hid (∀ W, Below w6.heap.size w6 W → Calls Try.prog 17 #[.pointer (some ⟨q, 0, none⟩), .string nm2] W fun e w' => e = .returned (.int .i64 (sizD D nm2.data.toList : Int)) ∧ w' = W) := fun W hW => (HT6.out W hW).size nm2 hok.nm
          have HAf : Hid (∀ W, Below w6.heap.size w6 W → Calls Try.prog 22 #[.pointer (some ⟨q, 0, none⟩), .slice ka2 kl2 kc2] W fun e w' => (∃ v, e = .returned v) ∧ Below w6.heap.size w6 w') := fun W hW => by
            have := (HT6.out W hW).after ka2 kb2 ko2 kc2 keep2 hok.kp (by have := hok.kl; simp only at this; omega) rfl
            rw [hkl2] at this
            exact this.mono fun e w' z => by obtain ⟨_, _, _, z1, _, _, z2⟩ := z; exact ⟨⟨_, z1⟩, bnext hW z2⟩
          have HFi : Hid (∀ W, Below w6.heap.size w6 W → Calls Try.prog 21 #[.pointer (some ⟨q, 0, none⟩)] W fun e w' => (∃ v, e = .returned v) ∧ Below w6.heap.size w6 w') := fun W hW =>
            ((HT6.out W hW).files rfl).mono fun e w' z => by obtain ⟨_, _, _, z1, _, _, z2⟩ := z; exact ⟨⟨_, z1⟩, bnext hW z2⟩
          have HAc : Hid (∀ W, Below w6.heap.size w6 W → Calls Try.prog 18 #[.pointer (some ⟨q, 0, none⟩)] W fun e w' => e = .returned (.int .i64 (D.acts : Int)) ∧ w' = W) := fun W hW => (HT6.out W hW).acts
          have HDo : Hid (∀ W, Below w6.heap.size w6 W → Calls Try.prog 19 #[.pointer (some ⟨q, 0, none⟩)] W fun e w' => e = .returned (.bool D.down) ∧ w' = W) := fun W hW => (HT6.out W hW).down
          have hx1 : (i : Int) < (n1 : Int) := by omega
          have hx2 : (i : Int) < 10 := by omega
          have hx0 : (0 : Int) ≤ (i : Int) := by omega
          clear q1 q3 hok hw6 t5 t6 u6 bx hkl2
          go_upto_region 14 with (fail)
          rw [HW6.out]
          obtain ⟨y2, y4, y5, y6⟩ := HC.out w6 (Below.refl _ _)
          go_upto_region 15 with (go_at_call 16; (with_reducible refine (HRe.out w6 (Below.refl _ _)).mono ?_); rintro e w7 ⟨⟨_, _, rfl⟩, v7⟩)
          clear y2 y4 y5 y6
          obtain ⟨y2, y4, y5, y6⟩ := HC.out w7 v7
          go_upto_region 16 with (go_at_call 17; (with_reducible refine (HSi.out w7 v7).mono ?_); rintro e w8 ⟨rfl, rfl⟩)
          go_upto_region 17 with (go_at_call 22; (with_reducible refine (HAf.out _ v7).mono ?_); rintro e w9 ⟨⟨_, rfl⟩, v9⟩)
          go_upto_region 18 with (go_at_call 21; (with_reducible refine (HFi.out _ v9).mono ?_); rintro e w10 ⟨⟨_, rfl⟩, v10⟩)
          have t10 := (HT6.out _ v10).symm
          go_upto_region 19 with (go_at_call 18; (with_reducible refine (HAc.out _ v10).mono ?_); rintro e w11 ⟨rfl, rfl⟩)
          go_wp2_with (go_at_call 19; (with_reducible refine (HDo.out _ v10).mono ?_); rintro e w12 ⟨rfl, rfl⟩)
          go_roundg (10 - (i + 1))
          case rel =>
            go_light
            exact ⟨i + 1, by omega, rfl, by go_num, t10, by omega⟩
          case measure => go_light; omega
        · obtain ⟨D', r, hact⟩ : ∃ D' r, actO D kind nm.data.toList (z : Int) dt.data.toList = (D', r) := ⟨_, _, rfl⟩
          obtain ⟨_, hP, hok, hkl⟩ := HT.out
          have hP' : Pln D' 1048576 (j + 1) := by have := hP.act kind nm.data.toList (z : Int) dt.data.toList; rw [hact] at this; exact this
          have hro := hP.roomy (by omega) (by omega)
          have HAp : Hid (∀ W E, Tw w W p q D E bo (opC kind which nm dt (z : Int) n ka kl kc) → Calls Try.prog 23 #[.pointer (some ⟨p, 0, none⟩), .agg #[.int .i64 kind, .int .i64 which, .string nm, .string dt, .int .i64 (z : Int), .int .i64 n, .slice ka kl kc]] W fun e w' => e = .returned (.int .i64 r) ∧ Tw w w' p q D' E bo (opC kind which nm dt (z : Int) n ka kl kc)) := fun W E h => h.act hro kind which _ n nm dt ka kl kc hok.nm (by omega) (by omega) hact
          have HAq : Hid (∀ W E, Tw w W p q E D bo (opC kind which nm dt (z : Int) n ka kl kc) → Calls Try.prog 23 #[.pointer (some ⟨q, 0, none⟩), .agg #[.int .i64 kind, .int .i64 which, .string nm, .string dt, .int .i64 (z : Int), .int .i64 n, .slice ka kl kc]] W fun e w' => e = .returned (.int .i64 r) ∧ Tw w w' p q E D' bo (opC kind which nm dt (z : Int) n ka kl kc)) := fun W E h => (h.symm.act hro kind which _ n nm dt ka kl kc hok.nm (by omega) (by omega) hact).mono fun e w' z => ⟨z.1, z.2.symm⟩
          obtain ⟨nf, hnf⟩ : ∃ nf, (tell D'.L).length = nf := ⟨_, rfl⟩
          obtain ⟨na, hna⟩ : ∃ na, (aft keep D'.L 0).length = na := ⟨_, rfl⟩
          have hnf2 : nf ≤ 4611686018427387904 := by have := tell_len D'.L; have := hP'.cnt; omega
          have hna2 : na ≤ 4611686018427387904 := by have := aft_len keep D'.L 0; have := hP'.cnt; omega
          have HCp : Hid (∀ W, Tw w W p q D' D' bo (opC kind which nm dt (z : Int) n ka kl kc) → Calls Try.prog 18 #[.pointer (some ⟨p, 0, none⟩)] W fun e w' => e = .returned (.int .i64 (D'.acts : Int)) ∧ w' = W) := fun W h => h.acts
          have HCq : Hid (∀ W, Tw w W p q D' D' bo (opC kind which nm dt (z : Int) n ka kl kc) → Calls Try.prog 18 #[.pointer (some ⟨q, 0, none⟩)] W fun e w' => e = .returned (.int .i64 (D'.acts : Int)) ∧ w' = W) := fun W h => h.symm.acts
          have HFp : Hid (∀ W, Tw w W p q D' D' bo (opC kind which nm dt (z : Int) n ka kl kc) → Calls Try.prog 21 #[.pointer (some ⟨p, 0, none⟩)] W fun e w' => ∃ ao b c, e = .returned (.slice ao nf c) ∧ RdF w' ao b 0 (tell D'.L) ∧ Tw w w' p q D' D' bo (opC kind which nm dt (z : Int) n ka kl kc) ∧ Below W.heap.size W w') := fun W h => by
            rw [← hnf]; exact h.files rfl
          have HFq : Hid (∀ W, Tw w W p q D' D' bo (opC kind which nm dt (z : Int) n ka kl kc) → Calls Try.prog 21 #[.pointer (some ⟨q, 0, none⟩)] W fun e w' => ∃ ao b c, e = .returned (.slice ao nf c) ∧ RdF w' ao b 0 (tell D'.L) ∧ Tw w w' p q D' D' bo (opC kind which nm dt (z : Int) n ka kl kc) ∧ Below W.heap.size W w') := fun W h => by
            rw [← hnf]; exact (h.symm.files rfl).mono fun e w' z => by obtain ⟨x1, x2, x3, x4, x5, x6, x7⟩ := z; exact ⟨x1, x2, x3, x4, x5, x6.symm, x7⟩
          have HGp : Hid (∀ W, Tw w W p q D' D' bo (opC kind which nm dt (z : Int) n ka kl kc) → Calls Try.prog 22 #[.pointer (some ⟨p, 0, none⟩), .slice ka kl kc] W fun e w' => ∃ ao b c, e = .returned (.slice ao na c) ∧ RdF w' ao b 0 (aft keep D'.L 0) ∧ Tw w w' p q D' D' bo (opC kind which nm dt (z : Int) n ka kl kc) ∧ Below W.heap.size W w') := fun W h => by
            have := h.after ka kb ko kc keep hok.kp (by have := hok.kl; simp only at this; omega) rfl
            rw [hna, hkl] at this
            exact this
          have HGq : Hid (∀ W, Tw w W p q D' D' bo (opC kind which nm dt (z : Int) n ka kl kc) → Calls Try.prog 22 #[.pointer (some ⟨q, 0, none⟩), .slice ka kl kc] W fun e w' => ∃ ao b c, e = .returned (.slice ao na c) ∧ RdF w' ao b 0 (aft keep D'.L 0) ∧ Tw w w' p q D' D' bo (opC kind which nm dt (z : Int) n ka kl kc) ∧ Below W.heap.size W w') := fun W h => by
            have := h.symm.after ka kb ko kc keep hok.kp (by have := hok.kl; simp only at this; omega) rfl
            rw [hna, hkl] at this
            exact this.mono fun e w' z => by obtain ⟨x1, x2, x3, x4, x5, x6, x7⟩ := z; exact ⟨x1, x2, x3, x4, x5, x6.symm, x7⟩
          have HSf : Hid (∀ W a b c a' b' c', RdF W a b 0 (tell D'.L) → RdF W a' b' 0 (tell D'.L) → Calls Try.prog 20 #[.slice a nf c, .slice a' nf c'] W fun e w' => e = .returned (.bool true) ∧ Below W.heap.size W w') := fun W a b c a' b' c' h1 h2 => by
            rw [← hnf]; exact same_yes W _ a b 0 c h1 a' b' 0 c' h2 (by omega)
          have HSa : Hid (∀ W a b c a' b' c', RdF W a b 0 (aft keep D'.L 0) → RdF W a' b' 0 (aft keep D'.L 0) → Calls Try.prog 20 #[.slice a na c, .slice a' na c'] W fun e w' => e = .returned (.bool true) ∧ Below W.heap.size W w') := fun W a b c a' b' c' h1 h2 => by
            rw [← hna]; exact same_yes W _ a b 0 c h1 a' b' 0 c' h2 (by omega)
          have HP' := hide hP'
          have hwj : IntKind.i64.wrap ((j : Int) + 1) = (j : Int) + 1 := by rw [IntKind.wrap_i64]; omega
          have tw := t5.next (bdrew wr)
          have hcell : wr.cell? ⟨bo, 0, none⟩ = some (.int .i64 kind) ∧ wr.cell? ⟨bo, 1, none⟩ = some (.int .i64 which) ∧ wr.cell? ⟨bo, 2, none⟩ = some (.string nm) ∧ wr.cell? ⟨bo, 3, none⟩ = some (.string dt) ∧ wr.cell? ⟨bo, 4, none⟩ = some (.int .i64 (z : Int)) ∧ wr.cell? ⟨bo, 5, none⟩ = some (.int .i64 n) ∧ wr.cell? ⟨bo, 6, none⟩ = some (.slice ka kl kc) := seven_at t5.box
          clear hact hP hok hkl hP' hro hnf hna hnf2 hna2 HT
          by_cases hi1 : (i : Int) < (n1 : Int)
          · have hi2 : ¬ ((i : Int) < 10) := by omega
            clear hli t5
            go_upto_region 20 with (fail)
            go_region_held3 (fun Z => Z.cell? ⟨bo, 0, none⟩ = some (.int .i64 kind) ∧ Z.cell? ⟨bo, 1, none⟩ = some (.int .i64 which) ∧ Z.cell? ⟨bo, 2, none⟩ = some (.string nm) ∧ Z.cell? ⟨bo, 3, none⟩ = some (.string dt) ∧ Z.cell? ⟨bo, 4, none⟩ = some (.int .i64 (z : Int)) ∧ Z.cell? ⟨bo, 5, none⟩ = some (.int .i64 n) ∧ Z.cell? ⟨bo, 6, none⟩ = some (.slice ka kl kc)) (first | assumption | (exact seven_at tw.box)) (first
              | (go_at_call 23; (with_reducible refine (HAp.out _ _ tw).mono ?_); rintro e W1 ⟨rfl, tw⟩)
              | (go_at_call 23; (with_reducible refine (HAq.out _ _ tw).mono ?_); rintro e W1 ⟨rfl, tw⟩)
              | (go_at_call 18; (with_reducible refine (HCp.out _ tw).mono ?_); rintro e W1 ⟨rfl, rfl⟩)
              | (go_at_call 18; (with_reducible refine (HCq.out _ tw).mono ?_); rintro e W1 ⟨rfl, rfl⟩)
              | (go_at_call 21; (with_reducible refine (HFp.out _ tw).mono ?_); rintro e W1 ⟨fa1, fb1, fc1, rfl, f1, tw, uu⟩; try (have f2 := f2.next uu))
              | (go_at_call 21; (with_reducible refine (HFq.out _ tw).mono ?_); rintro e W1 ⟨fa2, fb2, fc2, rfl, f2, tw, uu⟩; try (have f1 := f1.next uu))
              | (go_at_call 22; (with_reducible refine (HGp.out _ tw).mono ?_); rintro e W1 ⟨ga1, gb1, gc1, rfl, g1, tw, uu⟩; try (have g2 := g2.next uu))
              | (go_at_call 22; (with_reducible refine (HGq.out _ tw).mono ?_); rintro e W1 ⟨ga2, gb2, gc2, rfl, g2, tw, uu⟩; try (have g1 := g1.next uu))
              | (go_at_call 20; (with_reducible refine (HSf.out _ _ _ _ _ _ _ f1 f2).mono ?_); rintro e W1 ⟨rfl, uu⟩; have tw := tw.next uu)
              | (go_at_call 20; (with_reducible refine (HSa.out _ _ _ _ _ _ _ g1 g2).mono ?_); rintro e W1 ⟨rfl, uu⟩; have tw := tw.next uu))
            all_goals
              clear HAp HAq HCp HCq HFp HFq HGp HGq HSf HSa
              go_wp2
              go_roundg (40 - (j + 1))
              case rel =>
                go_light
                exact ⟨j + 1, D', by omega, rfl, by go_num, HP'.out, tw.to0, by omega⟩
              case measure => go_light; omega
          · clear hli t5
            go_upto_region 20 with (fail)
            go_region_held3 (fun Z => Z.cell? ⟨bo, 0, none⟩ = some (.int .i64 kind) ∧ Z.cell? ⟨bo, 1, none⟩ = some (.int .i64 which) ∧ Z.cell? ⟨bo, 2, none⟩ = some (.string nm) ∧ Z.cell? ⟨bo, 3, none⟩ = some (.string dt) ∧ Z.cell? ⟨bo, 4, none⟩ = some (.int .i64 (z : Int)) ∧ Z.cell? ⟨bo, 5, none⟩ = some (.int .i64 n) ∧ Z.cell? ⟨bo, 6, none⟩ = some (.slice ka kl kc)) (first | assumption | (exact seven_at tw.box)) (first
              | (go_at_call 23; (with_reducible refine (HAp.out _ _ tw).mono ?_); rintro e W1 ⟨rfl, tw⟩)
              | (go_at_call 23; (with_reducible refine (HAq.out _ _ tw).mono ?_); rintro e W1 ⟨rfl, tw⟩)
              | (go_at_call 18; (with_reducible refine (HCp.out _ tw).mono ?_); rintro e W1 ⟨rfl, rfl⟩)
              | (go_at_call 18; (with_reducible refine (HCq.out _ tw).mono ?_); rintro e W1 ⟨rfl, rfl⟩)
              | (go_at_call 21; (with_reducible refine (HFp.out _ tw).mono ?_); rintro e W1 ⟨fa1, fb1, fc1, rfl, f1, tw, uu⟩; try (have f2 := f2.next uu))
              | (go_at_call 21; (with_reducible refine (HFq.out _ tw).mono ?_); rintro e W1 ⟨fa2, fb2, fc2, rfl, f2, tw, uu⟩; try (have f1 := f1.next uu))
              | (go_at_call 22; (with_reducible refine (HGp.out _ tw).mono ?_); rintro e W1 ⟨ga1, gb1, gc1, rfl, g1, tw, uu⟩; try (have g2 := g2.next uu))
              | (go_at_call 22; (with_reducible refine (HGq.out _ tw).mono ?_); rintro e W1 ⟨ga2, gb2, gc2, rfl, g2, tw, uu⟩; try (have g1 := g1.next uu))
              | (go_at_call 20; (with_reducible refine (HSf.out _ _ _ _ _ _ _ f1 f2).mono ?_); rintro e W1 ⟨rfl, uu⟩; have tw := tw.next uu)
              | (go_at_call 20; (with_reducible refine (HSa.out _ _ _ _ _ _ _ g1 g2).mono ?_); rintro e W1 ⟨rfl, uu⟩; have tw := tw.next uu))
            all_goals
              clear HAp HAq HCp HCq HFp HFq HGp HGq HSf HSa
              go_wp2
              go_roundg (40 - (j + 1))
              case rel =>
                go_light
                exact ⟨j + 1, D', by omega, rfl, by go_num, HP'.out, tw.to0, by omega⟩
              case measure => go_light; omega
    · have HB := hide tw.below
      clear tw hP
      by_cases hl1 : (j : Int) < (n0 : Int)
      · have hl2 : ¬ ((j : Int) < 40) := by omega
        clear hlt
        go_wp2
        go_ret
        exact ⟨rfl, HB.out⟩
      · clear hlt
        go_wp2
        go_ret
        exact ⟨rfl, HB.out⟩
end Go.Proofs.Ytmhedhhbdpdafaa
