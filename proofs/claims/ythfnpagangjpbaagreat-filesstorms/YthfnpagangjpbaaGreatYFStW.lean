/-
  FilesStorms. Own work.
-/
import Derived.Test.YthfnpagangjpbaaGreatYFStT
namespace Go.Proofs.YthfnpagangjpbaaGreat
open Go.RowKit
open Rc
attribute [local go_sem ↓] Go.wp_at_zero Go.wp_at_succ
set_option maxRecDepth 100000 in
set_option maxHeartbeats 8000000 in
theorem storms_walk (w : World) (k0 : Int) (ao : Option Addr) (b off len cap : Nat) (ss : List ByteArray) (hr : RdS w ao b off len ss) (hmx : len ≤ 9223372036854775807)
    (x0 x1 x2 x6 x7 : Int) (pw : Bool) (ka ta ga : Option Addr) (kb ko kc tb tO tc gb gO gc : Nat) (ks ts gs : List Bool) (hks : RdL w ka kb ko ks) (hts : RdL w ta tb tO ts) (hgs : RdL w ga gb gO gs) (lks : ks.length ≤ 140737488355328) (lts : ts.length ≤ 140737488355328) (lgs : gs.length ≤ 140737488355328) :
    Calls Tryz.prog 8 #[.int .i64 k0, .slice ao len cap, .agg #[.int .i64 x0, .int .i64 x1, .int .i64 x2, .slice ka ks.length kc, .bool pw, .slice ta ts.length tc, .int .i64 x6, .int .i64 x7, .slice ga gs.length gc]] w fun e w' => e = .returned (.bool true) ∧ Below w.heap.size w w' := by
  obtain ⟨k, L, N, hB⟩ := beg_any w k0 ao b off len cap ss hr hmx
  have HSt := hide hB.st
  have HL := hide hB.ls
  have HA := hide falive_any
  have HN : Hid (∀ W, Calls Tryz.prog 12 #[.int .i64 1048576] W fun e w' => ∃ p, e = .returned (.pointer (some ⟨p, 0, none⟩)) ∧ Mvd W w' p NoB (newD 1048576)) := fun W => mvd_new W 1048576 (by decide)
  have hn12 := hB.n12
  have hln := hB.ln
  have k1 := hB.k1
  have k2 := hB.k2
  have hsml := hB.sml
  -- the numbers
  obtain ⟨u0, hu0, eu0⟩ := uint_ofS x0
  obtain ⟨i, hi⟩ : ∃ i, u0 % (N + 1) = i := ⟨_, rfl⟩
  have hiN : i ≤ N := by have := Nat.mod_lt u0 (show 0 < N + 1 by omega); omega
  have wN : IntKind.i64.wrap ((N : Int) + 1) = (N : Int) + 1 := by rw [IntKind.wrap_i64]; omega
  have wN2 : IntKind.u64.wrap ((N : Int) + 1) = (N : Int) + 1 := wrap_u _ (by omega) (by omega)
  have hN0 : ¬ (N : Int) + 1 = 0 := by omega
  have em0 : (u0 : Int) % ((N : Int) + 1) = (i : Int) := by rw [← hi]; rfl
  have em0' : (u0 : Int).tmod ((N : Int) + 1) = (i : Int) := by rw [← hi]; rfl
  have wi : IntKind.i64.wrap (i : Int) = (i : Int) := by rw [IntKind.wrap_i64]; omega
  obtain ⟨wB, hwB⟩ : ∃ W, w.alloc (.cells #[.int .i64 x0, .int .i64 x1, .int .i64 x2, .slice ka ks.length kc, .bool pw, .slice ta ts.length tc, .int .i64 x6, .int .i64 x7, .slice ga gs.length gc] 59) = W := ⟨_, rfl⟩
  have uB : Below w.heap.size w wB := by rw [← hwB]; exact bal (Below.refl _ _) _
  have HBx : Hid (∀ W, Below wB.heap.size wB W → W.cell? ⟨w.heap.size, 0, none⟩ = some (.int .i64 x0) ∧ W.cell? ⟨w.heap.size, 1, none⟩ = some (.int .i64 x1) ∧ W.cell? ⟨w.heap.size, 2, none⟩ = some (.int .i64 x2) ∧ W.cell? ⟨w.heap.size, 3, none⟩ = some (.slice ka ks.length kc) ∧ W.cell? ⟨w.heap.size, 4, none⟩ = some (.bool pw) ∧ W.cell? ⟨w.heap.size, 5, none⟩ = some (.slice ta ts.length tc) ∧ W.cell? ⟨w.heap.size, 6, none⟩ = some (.int .i64 x6) ∧ W.cell? ⟨w.heap.size, 7, none⟩ = some (.int .i64 x7) ∧ W.cell? ⟨w.heap.size, 8, none⟩ = some (.slice ga gs.length gc)) := fun W hW => by
    rw [← hwB] at hW
    exact nine_box w _ _ _ _ _ _ _ _ _ _ W hW
  have HMd : Hid (∀ w2 W p la lb lc, Mvd w2 W p NoB (newD 1048576) → RdS w2 la lb 0 N L → Calls Tryz.prog 17 #[.pointer (some ⟨p, 0, none⟩), .int .i64 (k : Int), .slice la i lc] W fun e w' => ∃ q D', e = .returned (.pointer (some ⟨q, 0, none⟩)) ∧ MdS w2 w' q p NoB D' (sA k (itA k (L.take i))) ∧ Qt 1048576 D' ∧ Ext k (itA k (L.take i)) D'.L ∧ D'.acts ≤ 100) := fun w2 W p la lb lc hm rd => by
    obtain ⟨e0, q0⟩ := new_ext k 1048576
    have hsm := hsml.take i
    have := hm.made1 1048576 q0 k k1 k2 e0 (by decide) (by decide) (by decide) la lb 0 i lc (L.take i) (rds_first rd i hiN) (fun _ q => q) hsm
    exact this.mono fun e w' z => by
      obtain ⟨q, D', z1, z2, z3, z4, z5⟩ := z
      exact ⟨q, D', z1, z2, z3, z4, by rw [z5]; show 0 + 3 + 6 * i ≤ _; omega⟩
  clear hr hi
  go_enter Tryz.func8, Tryz.ntmps8
  go_upto_region 10 with (first
    | (go_at_call 9; (with_reducible refine (HA.out _).mono ?_); rintro e w1 ⟨rfl, u1⟩)
    | (go_at_call 10; (with_reducible refine (HSt.out _).mono ?_); rintro e wa ⟨rfl, rfl⟩)
    | (go_at_call 11; (with_reducible refine (HL.out _ (bnext uB u1)).mono ?_); rintro e w2 ⟨la, lb, lc, rfl, rd, u2, hlc⟩; obtain ⟨b0, b1, b2, b3, b4, b5, b6, b7, b8⟩ := HBx.out _ (bnext u1 u2); have hic : i ≤ lc := by omega)
    | (go_at_call 12; (with_reducible refine (HN.out _).mono ?_); rintro e w3 ⟨p, rfl, t3⟩)
    | (go_at_call 17; (with_reducible refine (HMd.out _ _ _ _ _ _ t3 rd).mono ?_); rintro e w4 ⟨q, D1, rfl, t4, q4, x4, a4⟩))
  have hW2 : Below w.heap.size w w2 := bnext uB (bnext u1 u2)
  have HB2 : Hid (Below wB.heap.size wB w2) := bnext u1 u2
  have HBy : Hid (∀ W, Below w2.heap.size w2 W → W.cell? ⟨w.heap.size, 1, none⟩ = some (.int .i64 x1) ∧ W.cell? ⟨w.heap.size, 2, none⟩ = some (.int .i64 x2) ∧ W.cell? ⟨w.heap.size, 3, none⟩ = some (.slice ka ks.length kc) ∧ W.cell? ⟨w.heap.size, 4, none⟩ = some (.bool pw) ∧ W.cell? ⟨w.heap.size, 5, none⟩ = some (.slice ta ts.length tc) ∧ W.cell? ⟨w.heap.size, 6, none⟩ = some (.int .i64 x6) ∧ W.cell? ⟨w.heap.size, 7, none⟩ = some (.int .i64 x7) ∧ W.cell? ⟨w.heap.size, 8, none⟩ = some (.slice ga gs.length gc)) := fun W h => (HBx.out W (bnext HB2.out h)).2
  have HK : Hid (∀ W, Below w2.heap.size w2 W → RdL W ka kb ko ks) := fun W h => hks.next (bnext hW2 h)
  have HT : Hid (∀ W, Below w2.heap.size w2 W → RdL W ta tb tO ts) := fun W h => hts.next (bnext hW2 h)
  have HG : Hid (∀ W, Below w2.heap.size w2 W → RdL W ga gb gO gs) := fun W h => hgs.next (bnext hW2 h)
  have hkb : 0 < ks.length → kb < w2.heap.size := fun h0 => Nat.lt_of_lt_of_le (hks.lt h0) hW2.size
  have hgb : 0 < gs.length → gb < w2.heap.size := fun h0 => Nat.lt_of_lt_of_le (hgs.lt h0) hW2.size
  have HRd : Hid (∀ W, Below w2.heap.size w2 W → RdS W la lb 0 N L) := fun W h => rd.next h (Nat.le_refl _)
  have HU2 := hide hW2
  -- the first fate
  obtain ⟨u1', hu1', eu1⟩ := uint_ofS x1
  obtain ⟨u2', hu2', eu2⟩ := uint_ofS x2
  obtain ⟨a1, ha1⟩ : ∃ a, u1' % 40 = a := ⟨_, rfl⟩
  obtain ⟨kd, hkd⟩ : ∃ a, u2' % 5 = a := ⟨_, rfl⟩
  have ea1 : (u1' : Int) % 40 = (a1 : Int) := by omega
  have ea1' : (u1' : Int).tmod 40 = (a1 : Int) := by rw [← ha1]; rfl
  have ek1 : (u2' : Int) % 5 = (kd : Int) := by omega
  have ek1' : (u2' : Int).tmod 5 = (kd : Int) := by rw [← hkd]; rfl
  have wa1 : IntKind.i64.wrap (a1 : Int) = (a1 : Int) := by rw [IntKind.wrap_i64]; omega
  have wk1 : IntKind.i64.wrap (kd : Int) = (kd : Int) := by rw [IntKind.wrap_i64]; omega
  have wa2 : IntKind.i64.wrap (1 + (a1 : Int)) = 1 + (a1 : Int) := by rw [IntKind.wrap_i64]; omega
  have wk2 : IntKind.i64.wrap (1 + (kd : Int)) = 1 + (kd : Int) := by rw [IntKind.wrap_i64]; omega
  obtain ⟨qf2, eL2, eA2⟩ := lay_f q4.qf (1 + (a1 : Int)) (1 + (kd : Int)) ks (by omega) (by omega)
  obtain ⟨D2, hD2⟩ : ∃ D, layD D1 (1 + (a1 : Int)) (1 + (kd : Int)) ks = D := ⟨_, rfl⟩
  rw [hD2] at qf2 eL2 eA2
  have HLy : Hid (∀ W, MdS w2 W q p NoB D1 (sA k (itA k (L.take i))) → Calls Tryz.prog 27 #[.pointer (some ⟨p, 0, none⟩), .agg #[.int .i64 (1 + (a1 : Int)), .int .i64 (1 + (kd : Int)), .slice ka ks.length kc]] W fun e w' => e = .returned (.tuple #[]) ∧ MdS w2 w' q p NoB D2 (sA k (itA k (L.take i)))) := fun W h => by
    rw [← hD2]
    exact h.lay1 _ _ (by omega) ka kb ko kc ks (HK.out W h.mvd.nob) lks hkb
  have HMt : Hid (∀ W, MdS w2 W q p NoB D2 (sA k (itA k (L.take i))) → Calls Tryz.prog 28 #[.pointer (some ⟨q, 0, none⟩), .int .i64 (k : Int), .slice la N lc, .int .i64 (i : Int)] W (MtQ w2 q p NoB 1048576 k L D2 i)) := fun W h => met_any1 w2 W 1048576 k k1 k2 (by decide) (by decide) (by omega) la lb N lc L rd (fun _ q => q) hsml i hiN h qf2 (by rw [eL2]; exact x4)
  obtain ⟨c1, c2, c3, _⟩ := HBy.out w4 t4.mvd.nob
  generalize sA k (itA k (L.take i)) = S1 at *
  clear HSt HL HA HN HMd HBx HB2 hks hts hgs b0 b1 b2 b3 b4 b5 b6 b7 b8 rd u1 u2 t3 uB hwB em0 em0' eu0 q4 x4 wN wN2 hN0 wi hB ha1 hkd hu1' hu2' hu0 hmx
  go_upto_if 73 with (first
    | (go_at_call 27; (with_reducible refine (HLy.out _ t4).mono ?_); rintro e w5 ⟨rfl, t5⟩)
    | (go_at_call 28; (with_reducible refine (HMt.out _ t5).mono ?_); rintro e w6 ⟨m, r, D3, S3, rfl, t6, M6⟩))
  have HAc : Hid (D3.acts ≤ 900) := by
    have := M6.acts
    show D3.acts ≤ 900
    omega
  clear HLy HMt eu1 eu2 ea1 ea1' ek1 ek1' wa1 wk1 wa2 wk2 c1 c2 c3 hD2 qf2 eL2 eA2 t4 t5 a4
  go_cut [11] from 72 to 110 (fun x11 wx => ∃ (m : Nat) (D : DV), x11 = .int .i64 (m : Int) ∧ m ≤ N ∧ Hid (Mvd w2 wx p NoB D) ∧ Hid (Sg k L m D.L ∧ D.acts ≤ 900 ∧ (Qf 1048576 D ∨ D.down = true)))
  case first =>
    rcases M6.out with ⟨rfl, hm, rfl, o4, o5⟩ | ⟨o1, o2, s, o3, rfl, o5, o6, o7, o8⟩
    · obtain rfl : m = N := by omega
      have HZ : Hid (Sg k L m D3.L ∧ D3.acts ≤ 900 ∧ (Qf 1048576 D3 ∨ D3.down = true)) := by
        refine ⟨?_, HAc.out, .inl o4⟩
        have := ext_sg (hsml.smk k1 k2) o4.ord o5
        rwa [hln] at this
      clear M6 o4 o5 HAc hm
      go_wp2_with fail
      go_meet
      case rel => exact ⟨m, D3, rfl, Nat.le_refl _, t6.mvd, HZ⟩
    · have hmN : m < N := by have := (List.getElem?_eq_some_iff.1 o3).1; omega
      have sm1 := (hsml.take (m + 1)).smk k1 k2
      rw [itA_next o3] at sm1
      have hX := smx_some sm1
      have HZ : Hid (Sg k L m D3.L ∧ D3.acts ≤ 900 ∧ (Qf 1048576 D3 ∨ D3.down = true)) := ⟨⟨by omega, o6, _, (fun x hx => ⟨s, o3, by cases hx; rfl⟩), hX, o7⟩, HAc.out, o8⟩
      obtain ⟨pa, pb, po⟩ := o7.pre
      have hrm : Rm 7 D3 := rm_of (by have := HAc.out; omega) o6 po o5 (by decide)
      obtain ⟨S3, hS3⟩ : ∃ S, ({ sA k (itA k (L.take m)) with lame := true } : SV) = S := ⟨_, rfl⟩
      have hel : S3.ends.length = m := by rw [← hS3]; show (sA k (itA k (L.take m))).ends.length = m; rw [itA_ends hX.a.ok, List.length_take]; omega
      rw [hS3] at t6
      have HLm : Hid (∀ W, MdS w2 W q p NoB D3 S3 → Calls Tryz.prog 19 #[.pointer (some ⟨q, 0, none⟩)] W fun e w' => e = .returned (.bool true) ∧ w' = W) := fun W h => h.lame1 true (by rw [← hS3])
      obtain ⟨dm, hdm⟩ : ∃ x, 1 + Pl.trl 64 m = x := ⟨_, rfl⟩
      have hdl := dg0_len k m
      rw [hdm] at hdl
      have hdm41 : dm ≤ 1000 := by have := nn_next m (by omega); have := nn_mono m (by omega); have := nn_le m; omega
      have HD : Hid (∀ W, MdS w2 W q p NoB D3 S3 → Calls Tryz.prog 14 #[.int .u64 (m : Int), .int .i64 (k : Int), .slice none 0 0] W fun e w' => ∃ va vc, e = .returned (.slice va dm vc) ∧ (∃ vb, RdS w' va vb 0 dm (dg0 k m)) ∧ MdS w2 w' q p NoB D3 S3) := fun W h => by
        have := digests0_any W m k (by omega) k2
        rw [hdm] at this
        refine this.mono fun e w' z => ?_
        obtain ⟨va, vc, z1, z2, z3⟩ := z
        obtain ⟨va', vb, vc', hv, rds, _, _⟩ := owns_rds z2 (fun x hx => by rw [dg0_sz k m x hx]; omega)
        injection hv with g1 g2 g3
        subst g1 g3
        rw [hdl] at rds
        exact ⟨va, vc, z1, ⟨vb, rds⟩, h.next z3⟩
      have HAd : Hid (∀ W va vb vc, MdS w2 W q p NoB D3 S3 → RdS W va vb 0 dm (dg0 k m) → Calls Tryz.prog 15 #[.pointer (some ⟨q, 0, none⟩), .string ⟨#[]⟩, .slice va dm vc] W fun e w' => e = .returned (.int .i64 191) ∧ MdS w2 w' q p NoB D3 S3) := fun W va vb vc h rr => h.add1 hrm ⟨#[]⟩ (by decide) va vb 0 dm vc (dg0 k m) rr (by omega) 191 (by rw [← hS3]; exact lame_add _ _)
      have HSz : Hid (∀ W, MdS w2 W q p NoB D3 S3 → Calls Tryz.prog 20 #[.pointer (some ⟨q, 0, none⟩)] W fun e w' => e = .returned (.int .u64 (m : Int)) ∧ w' = W) := fun W h => h.size1 m hel
      have wm : IntKind.u64.wrap (m : Int) = (m : Int) := wrap_u _ (by omega) (by omega)
      have hmc : m ≤ lc := by omega
      have hr0 : (r == 0) = false := by simpa using o1
      cases hdn : D3.down with
      | true =>
        have HDn : Hid (∀ W, MdS w2 W q p NoB D3 S3 → Calls Tryz.prog 29 #[.pointer (some ⟨p, 0, none⟩)] W fun e w' => e = .returned (.bool true) ∧ w' = W) := fun W h => h.mvd.down1 true hdn
        clear M6 o2 o3 o5 o6 o7 o8 sm1 hX pa pb po hrm hS3 hel hdl hdm HAc hdn
        go_wp2_with (first
          | (go_at_call 19; (with_reducible refine (HLm.out _ t6).mono ?_); rintro e wa ⟨rfl, rfl⟩)
          | (go_at_call 14; (with_reducible refine (HD.out _ t6).mono ?_); rintro e w7 ⟨va, vc, rfl, ⟨vb, r7⟩, t7⟩)
          | (go_at_call 15; (with_reducible refine (HAd.out _ _ _ _ t7 r7).mono ?_); rintro e w8 ⟨rfl, t8⟩)
          | (go_at_call 20; (with_reducible refine (HSz.out _ t8).mono ?_); rintro e wa ⟨rfl, rfl⟩)
          | (go_at_call 29; (with_reducible refine (HDn.out _ t8).mono ?_); rintro e wa ⟨rfl, rfl⟩))
        go_meet
        case rel => exact ⟨m, D3, rfl, by omega, t8.mvd, HZ⟩
      | false =>
        have HDn : Hid (∀ W, MdS w2 W q p NoB D3 S3 → Calls Tryz.prog 29 #[.pointer (some ⟨p, 0, none⟩)] W fun e w' => e = .returned (.bool false) ∧ w' = W) := fun W h => h.mvd.down1 false hdn
        have HHs : Hid (∀ W, MdS w2 W q p NoB D3 S3 → Calls Tryz.prog 16 #[.pointer (some ⟨q, 0, none⟩), .int .i64 (k : Int), .slice la m lc] W fun e w' => e = .returned (.bool true) ∧ MdS w2 w' q p NoB D3 S3) := fun W h => (h.has1 k (L.take m) ⟨hX.a.ok, by rw [← hS3]; rfl, by rw [← hS3]; rfl, hdn, pa, pb⟩ la lb 0 m lc (rds_first (HRd.out W h.mvd.nob) m (by omega))).mono fun e w' z => ⟨z.1, z.2.1⟩
        clear M6 o2 o3 o5 o6 o7 o8 sm1 hX pa pb po hrm hS3 hel hdl hdm HAc hdn
        go_wp2_with (first
          | (go_at_call 19; (with_reducible refine (HLm.out _ t6).mono ?_); rintro e wa ⟨rfl, rfl⟩)
          | (go_at_call 14; (with_reducible refine (HD.out _ t6).mono ?_); rintro e w7 ⟨va, vc, rfl, ⟨vb, r7⟩, t7⟩)
          | (go_at_call 15; (with_reducible refine (HAd.out _ _ _ _ t7 r7).mono ?_); rintro e w8 ⟨rfl, t8⟩)
          | (go_at_call 20; (with_reducible refine (HSz.out _ t8).mono ?_); rintro e wa ⟨rfl, rfl⟩)
          | (go_at_call 29; (with_reducible refine (HDn.out _ t8).mono ?_); rintro e wa ⟨rfl, rfl⟩)
          | (go_at_call 16; (with_reducible refine (HHs.out _ t8).mono ?_); rintro e w9 ⟨rfl, t9⟩))
        go_meet
        case rel => exact ⟨m, D3, rfl, by omega, t9.mvd, HZ⟩
  case rest =>
    clear M6 HAc t6
    obtain ⟨m, D, rfl, hmN, HM, HQ⟩ := hcut
    have sg0 := HQ.out.1
    cases pw with
    | true =>
      cases hdn : D.down with
      | true =>
        obtain ⟨F, hF⟩ : ∃ F, tell D.L = F := ⟨_, rfl⟩
        obtain ⟨fn, hfn⟩ : ∃ n, F.length = n := ⟨_, rfl⟩
        have HFi : Hid (∀ W, Mvd w2 W p NoB D → Calls Tryz.prog 21 #[.pointer (some ⟨p, 0, none⟩)] W fun e w' => ∃ fa fb fc, e = .returned (.slice fa fn fc) ∧ RdF w' fa fb 0 F ∧ Mvd w2 w' p NoB D) := fun W h => by
          refine (h.files1 F hF).mono fun e w' z => ?_
          obtain ⟨fa, fb, fc, z1, z2, z3⟩ := z
          rw [hfn] at z1
          exact ⟨fa, fb, fc, z1, z2, h.then z3⟩
        have hOn : ∀ G gn, G.length = gn → Fo k L m G → ∀ W fa fb fc, Mvd w2 W p NoB D → RdF W fa fb 0 G → Calls Tryz.prog 26 #[.int .i64 1048576, .slice fa gn fc] W fun e w' => ∃ pb, e = .returned (.tuple #[.pointer (some ⟨pb, 0, none⟩), .int .i64 0]) ∧ Mvd w2 w' pb NoB (openD 1048576 G) ∧ Mvd w2 w' p NoB D := fun G gn hgn hG W fa fb fc h rf => (mvd_opened W 1048576 (by decide) fa fb fc gn G rf hgn hG.fz).mono fun e w' z => by
          obtain ⟨pb, z1, z2⟩ := z
          exact ⟨pb, z1, Mvd.base h.nob z2, h.then z2.nob⟩
        have hfo : Fo k L m F := by rw [← hF]; exact sg0.told
        have HOn := hide (hOn F fn hfn hfo)
        have HDn : Hid (∀ W, Mvd w2 W p NoB D → Calls Tryz.prog 29 #[.pointer (some ⟨p, 0, none⟩)] W fun e w' => e = .returned (.bool true) ∧ w' = W) := fun W h => h.down1 true hdn
        have s7 : Sg k L m (openD 1048576 F).L := hfo.sg
        have q7 := hfo.fz.qf
        clear hOn hF hfn hdn HQ
        go_upto_region 25 with (first
          | (go_at_call 21; (with_reducible refine (HFi.out _ HM.out).mono ?_); rintro e w6 ⟨fa, fb, fc, rfl, r6, t6⟩; obtain ⟨_, _, _, c4, c5, _⟩ := HBy.out w6 t6.nob)
          | (go_at_call 26; (with_reducible refine (HOn.out _ _ _ _ t6 r6).mono ?_); rintro e w7 ⟨pb, rfl, t7, t7'⟩; obtain ⟨_, _, _, c4', _⟩ := HBy.out w7 t7.nob)
          | (go_at_call 29; (with_reducible refine (HDn.out _ t7').mono ?_); rintro e wa ⟨rfl, rfl⟩)
          | (go_at_call 29; (with_reducible refine (HDn.out _ t6).mono ?_); rintro e wa ⟨rfl, rfl⟩))
        have a7 : (openD 1048576 F).acts ≤ 900 := Nat.zero_le _
        generalize openD 1048576 F = D4 at *
        clear HOn HFi HDn t7' c4 c4' c5 r6 t6 hfo HM

        have hm12 : m ≤ 12 := by omega
        obtain ⟨u3, hu3, eu3⟩ := uint_ofS x6
        obtain ⟨u4, hu4, eu4⟩ := uint_ofS x7
        obtain ⟨a2, ha2⟩ : ∃ a, u3 % 9 = a := ⟨_, rfl⟩
        obtain ⟨kd2, hkd2⟩ : ∃ a, u4 % 5 = a := ⟨_, rfl⟩
        have ea2 : (u3 : Int) % 9 = (a2 : Int) := by omega
        have ea2' : (u3 : Int).tmod 9 = (a2 : Int) := by rw [← ha2]; rfl
        have ek2 : (u4 : Int) % 5 = (kd2 : Int) := by omega
        have ek2' : (u4 : Int).tmod 5 = (kd2 : Int) := by rw [← hkd2]; rfl
        have wa1 : IntKind.i64.wrap (a2 : Int) = (a2 : Int) := by rw [IntKind.wrap_i64]; omega
        have wk1 : IntKind.i64.wrap (kd2 : Int) = (kd2 : Int) := by rw [IntKind.wrap_i64]; omega
        have wa2 : IntKind.i64.wrap (1 + (a2 : Int)) = 1 + (a2 : Int) := by rw [IntKind.wrap_i64]; omega
        have wk2 : IntKind.i64.wrap (1 + (kd2 : Int)) = 1 + (kd2 : Int) := by rw [IntKind.wrap_i64]; omega
        have wm : IntKind.u64.wrap (m : Int) = (m : Int) := wrap_u _ (by omega) (by omega)
        have wm1 : IntKind.u64.wrap ((m : Int) + 1) = (m : Int) + 1 := wrap_u _ (by omega) (by omega)
        obtain ⟨qf5, eL5, eA5⟩ := lay_f q7 (1 + (a2 : Int)) (1 + (kd2 : Int)) gs (by omega) (by omega)
        obtain ⟨D5, hD5⟩ : ∃ Y, layD D4 (1 + (a2 : Int)) (1 + (kd2 : Int)) gs = Y := ⟨_, rfl⟩
        rw [hD5] at qf5 eL5 eA5
        have s5 : Sg k L m D5.L := by rw [eL5]; exact s7
        have HLy : Hid (∀ W, Mvd w2 W pb NoB D4 → Calls Tryz.prog 27 #[.pointer (some ⟨pb, 0, none⟩), .agg #[.int .i64 (1 + (a2 : Int)), .int .i64 (1 + (kd2 : Int)), .slice ga gs.length gc]] W fun e w' => e = .returned (.tuple #[]) ∧ Mvd w2 w' pb NoB D5) := fun W h => by
          rw [← hD5]
          exact h.lay1 _ _ (by omega) ga gb gO gc gs (HG.out W h.nob) lgs hgb
        obtain ⟨_, _, _, _, _, c6, c7, c8⟩ := HBy.out _ t7.nob
        obtain ⟨D6, o, e6, eo, a6, oe⟩ := s5.opn qf5
        have hrm5 : Rm 7 D5 := qf5.rm s5.oth (by decide) (by omega)
        clear ha2 hkd2 hu3 hu4 hD5 eL5 eA5 q7 s7
        rcases oe with ⟨m', hnx, rfl, rfl, q6, x6', sm6⟩ | ⟨rfl, he6, s6, _⟩
        · obtain ⟨S6, hS6⟩ : ∃ S, sA k (itA k (L.take m')) = S := ⟨_, rfl⟩
          have hm'N : m' ≤ N := by have := hnx.2; omega
          have hel : S6.ends.length = m' := by rw [← hS6, itA_ends sm6.ok, List.length_take]; omega
          have HOp : Hid (∀ W, Mvd w2 W pb NoB D5 → Calls Tryz.prog 13 #[.pointer (some ⟨pb, 0, none⟩), .int .i64 (k : Int)] W fun e w' => ∃ q, e = .returned (.tuple #[.pointer (some ⟨q, 0, none⟩), .int .i64 0]) ∧ MdS w2 w' q pb NoB D6 S6) := fun W h => by
            rw [← hS6]; exact h.open1 hrm5 k eo
          have HSz : Hid (∀ W q, MdS w2 W q pb NoB D6 S6 → Calls Tryz.prog 20 #[.pointer (some ⟨q, 0, none⟩)] W fun e w' => e = .returned (.int .u64 (m' : Int)) ∧ w' = W) := fun W q h => h.size1 m' hel
          have HHs : Hid (∀ W q, MdS w2 W q pb NoB D6 S6 → Calls Tryz.prog 16 #[.pointer (some ⟨q, 0, none⟩), .int .i64 (k : Int), .slice la m' lc] W fun e w' => e = .returned (.bool true) ∧ MdS w2 w' q pb NoB D6 S6) := fun W q h => by
            rw [← hS6] at h ⊢
            exact (h.has1 k (L.take m') (hasA_ext sm6.ok q6.down x6') la lb 0 m' lc (rds_first (HRd.out W h.mvd.nob) m' hm'N)).mono fun e w' z => ⟨z.1, z.2.1⟩
          obtain ⟨F6, hF6⟩ : ∃ F, aft ks D6.L 0 = F := ⟨_, rfl⟩
          obtain ⟨fn6, hfn6⟩ : ∃ n, F6.length = n := ⟨_, rfl⟩
          have HAf : Hid (∀ W q, MdS w2 W q pb NoB D6 S6 → Calls Tryz.prog 23 #[.pointer (some ⟨pb, 0, none⟩), .slice ka ks.length kc] W fun e w' => ∃ fa fb fc, e = .returned (.slice fa fn6 fc) ∧ RdF w' fa fb 0 F6 ∧ MdS w2 w' q pb NoB D6 S6) := fun W q h => by
            refine (h.mvd.after1 ka kb ko kc ks (HK.out W h.mvd.nob) (by omega) F6 hF6).mono fun e w' z => ?_
            obtain ⟨fa, fb, fc, z1, z2, z3⟩ := z
            rw [hfn6] at z1
            exact ⟨fa, fb, fc, z1, z2, h.next z3⟩
          have hwk : Wk k (itA k (L.take m')) (layL F6) := by rw [← hF6]; exact (sm6.wk x6').fall sm6.ok q6.ord ks
          have hso : Sor F6 := by rw [← hF6]; exact aft_sor ks _ 0 q6.ord.1
          have HSe : Hid (∀ W q fa fb fc, MdS w2 W q pb NoB D6 S6 → RdF W fa fb 0 F6 → Calls Tryz.prog 30 #[.slice fa fn6 fc, .int .i64 (k : Int), .slice la N lc, .int .i64 (m' : Int)] W fun e w' => e = .returned (.tuple #[.int .i64 (m' : Int), .bool true]) ∧ MdS w2 w' q pb NoB D6 S6) := fun W q fa fb fc h rf => (settled_any W fa fb fc fn6 F6 rf hfn6 k k1 k2 la lb N lc L (HRd.out W h.mvd.nob) hlc hsml m' m' hm'N (.inl rfl) hso hwk).mono fun e w' z => ⟨z.1, h.next z.2⟩
          have wi' : IntKind.i64.wrap (m' : Int) = (m' : Int) := by rw [IntKind.wrap_i64]; omega
          have hgt : ¬ (N : Int) < (m' : Int) := by omega
          have hmc : m' ≤ lc := by omega
          have hnx1 := hnx.1
          clear eo a6 q6 x6' sm6 hS6 hel hF6 hfn6 hwk hso hrm5 s5 qf5 hnx HG HT HK
          rcases hnx1 with hq | hq
          · have hmm : ((m' : Int) == (m : Int)) = true := by simp; omega
            have hmm2 : (m' : Int) = (m : Int) := by omega
            subst hq
            go_wp2_with (first
              | (go_at_call 27; (with_reducible refine (HLy.out _ t7).mono ?_); rintro e w8 ⟨rfl, t8⟩)
              | (go_at_call 13; (with_reducible refine (HOp.out _ t8).mono ?_); rintro e w9 ⟨q9, rfl, t9⟩)
              | (go_at_call 16; (with_reducible refine (HHs.out _ _ t9).mono ?_); rintro e w10 ⟨rfl, t10⟩; obtain ⟨_, _, c3, _⟩ := HBy.out w10 t10.mvd.nob)
              | (go_at_call 23; (with_reducible refine (HAf.out _ _ t10).mono ?_); rintro e w11 ⟨fa, fb, fc, rfl, r11, t11⟩)
              | (go_at_call 30; (with_reducible refine (HSe.out _ _ _ _ _ t11 r11).mono ?_); rintro e w12 ⟨rfl, t12⟩)
              | (go_at_call 20; (with_reducible refine (HSz.out _ _ t12).mono ?_); rintro e wa ⟨rfl, rfl⟩)
              | (go_at_call 20; (with_reducible refine (HSz.out _ _ t11).mono ?_); rintro e wa ⟨rfl, rfl⟩)
              | (go_at_call 20; (with_reducible refine (HSz.out _ _ t9).mono ?_); rintro e wa ⟨rfl, rfl⟩))
            go_ret
            exact ⟨rfl, bnext HU2.out t12.mvd.nob⟩
          · have hmm : ¬ (m' : Int) = (m : Int) := by omega
            have wm2 : IntKind.u64.wrap ((m : Int) + 1) = (m' : Int) := by rw [wm1]; omega
            clear wm1 hq
            go_wp2_with (first
              | (go_at_call 27; (with_reducible refine (HLy.out _ t7).mono ?_); rintro e w8 ⟨rfl, t8⟩)
              | (go_at_call 13; (with_reducible refine (HOp.out _ t8).mono ?_); rintro e w9 ⟨q9, rfl, t9⟩)
              | (go_at_call 16; (with_reducible refine (HHs.out _ _ t9).mono ?_); rintro e w10 ⟨rfl, t10⟩; obtain ⟨_, _, c3, _⟩ := HBy.out w10 t10.mvd.nob)
              | (go_at_call 23; (with_reducible refine (HAf.out _ _ t10).mono ?_); rintro e w11 ⟨fa, fb, fc, rfl, r11, t11⟩)
              | (go_at_call 30; (with_reducible refine (HSe.out _ _ _ _ _ t11 r11).mono ?_); rintro e w12 ⟨rfl, t12⟩)
              | (go_at_call 20; (with_reducible refine (HSz.out _ _ t12).mono ?_); rintro e wa ⟨rfl, rfl⟩)
              | (go_at_call 20; (with_reducible refine (HSz.out _ _ t11).mono ?_); rintro e wa ⟨rfl, rfl⟩)
              | (go_at_call 20; (with_reducible refine (HSz.out _ _ t9).mono ?_); rintro e wa ⟨rfl, rfl⟩))
            go_ret
            exact ⟨rfl, bnext HU2.out t12.mvd.nob⟩
        · have HOp : Hid (∀ W, Mvd w2 W pb NoB D5 → Calls Tryz.prog 13 #[.pointer (some ⟨pb, 0, none⟩), .int .i64 (k : Int)] W fun e w' => e = .returned (.tuple #[.pointer none, .int .i64 e6]) ∧ Mvd w2 w' pb NoB D6) := fun W h => h.open0 hrm5 k e6 eo
          have he60 : (e6 == 0) = false := by simpa using he6
          have hSt : ∀ F, Fo k L m F → ∀ W fa fb fc, Mvd w2 W pb NoB D6 → RdF W fa fb 0 F → ∃ m' : Nat, Calls Tryz.prog 30 #[.slice fa F.length fc, .int .i64 (k : Int), .slice la N lc, .int .i64 (m : Int)] W fun e w' => e = .returned (.tuple #[.int .i64 (m' : Int), .bool true]) ∧ Mvd w2 w' pb NoB D6 := fun F hF W fa fb fc h rf => by
            obtain ⟨m', h1, h2⟩ := hF.wk
            have h3 := h1.2
            exact ⟨m', (settled_any W fa fb fc F.length F rf rfl k k1 k2 la lb N lc L (HRd.out W h.nob) hlc hsml m' m (by omega) h1.1 hF.sor h2).mono fun e w' z => ⟨z.1, h.then z.2⟩⟩
          obtain ⟨F6, hF6⟩ : ∃ F, tell D6.L = F := ⟨_, rfl⟩
          obtain ⟨fn6, hfn6⟩ : ∃ n, F6.length = n := ⟨_, rfl⟩
          have HFi : Hid (∀ W, Mvd w2 W pb NoB D6 → Calls Tryz.prog 21 #[.pointer (some ⟨pb, 0, none⟩)] W fun e w' => ∃ fa fb fc, e = .returned (.slice fa fn6 fc) ∧ RdF w' fa fb 0 F6 ∧ Mvd w2 w' pb NoB D6) := fun W h => by
            refine (h.files1 F6 hF6).mono fun e w' z => ?_
            obtain ⟨fa, fb, fc, z1, z2, z3⟩ := z
            rw [hfn6] at z1
            exact ⟨fa, fb, fc, z1, z2, h.then z3⟩
          have HS1 : Hid (∀ W fa fb fc, Mvd w2 W pb NoB D6 → RdF W fa fb 0 F6 → ∃ m' : Nat, Calls Tryz.prog 30 #[.slice fa fn6 fc, .int .i64 (k : Int), .slice la N lc, .int .i64 (m : Int)] W fun e w' => e = .returned (.tuple #[.int .i64 (m' : Int), .bool true]) ∧ Mvd w2 w' pb NoB D6) := fun W fa fb fc h rf => by
            have := hSt F6 (by rw [← hF6]; exact s6.told) W fa fb fc h rf
            rwa [hfn6] at this
          obtain ⟨G6, hG6⟩ : ∃ F, aft gs D6.L 0 = F := ⟨_, rfl⟩
          obtain ⟨gn6, hgn6⟩ : ∃ n, G6.length = n := ⟨_, rfl⟩
          have HAf : Hid (∀ W, Mvd w2 W pb NoB D6 → Calls Tryz.prog 23 #[.pointer (some ⟨pb, 0, none⟩), .slice ga gs.length gc] W fun e w' => ∃ fa fb fc, e = .returned (.slice fa gn6 fc) ∧ RdF w' fa fb 0 G6 ∧ Mvd w2 w' pb NoB D6) := fun W h => by
            refine (h.after1 ga gb gO gc gs (HG.out W h.nob) (by omega) G6 hG6).mono fun e w' z => ?_
            obtain ⟨fa, fb, fc, z1, z2, z3⟩ := z
            rw [hgn6] at z1
            exact ⟨fa, fb, fc, z1, z2, h.then z3⟩
          have HS2 : Hid (∀ W fa fb fc, Mvd w2 W pb NoB D6 → RdF W fa fb 0 G6 → ∃ m' : Nat, Calls Tryz.prog 30 #[.slice fa gn6 fc, .int .i64 (k : Int), .slice la N lc, .int .i64 (m : Int)] W fun e w' => e = .returned (.tuple #[.int .i64 (m' : Int), .bool true]) ∧ Mvd w2 w' pb NoB D6) := fun W fa fb fc h rf => by
            have := hSt G6 (by rw [← hG6]; exact s6.fall gs) W fa fb fc h rf
            rwa [hgn6] at this
          cases hdn : D6.down with
          | true =>
            have HDn : Hid (∀ W, Mvd w2 W pb NoB D6 → Calls Tryz.prog 29 #[.pointer (some ⟨pb, 0, none⟩)] W fun e w' => e = .returned (.bool true) ∧ w' = W) := fun W h => h.down1 true hdn
            clear eo a6 hrm5 s5 qf5 hSt s6 hF6 hfn6 hdn HG HT HK hG6 hgn6
            go_upto_region 37 with (first
              | (go_at_call 27; (with_reducible refine (HLy.out _ t7).mono ?_); rintro e w8 ⟨rfl, t8⟩)
              | (go_at_call 13; (with_reducible refine (HOp.out _ t8).mono ?_); rintro e w9 ⟨rfl, t9⟩)
              | (go_at_call 21; (with_reducible refine (HFi.out _ t9).mono ?_); rintro e w10 ⟨fa, fb, fc, rfl, r10, t10⟩)
              | (go_at_call 29; (with_reducible refine (HDn.out _ t10).mono ?_); rintro e wa ⟨rfl, rfl⟩))
            obtain ⟨m', HSe⟩ := HS1.out _ _ _ fc t10 r10
            have HSe := hide HSe
            go_wp2_with (go_at_call 30; (with_reducible refine HSe.out.mono ?_); rintro e w12 ⟨rfl, t12⟩)
            go_ret
            exact ⟨rfl, bnext HU2.out t12.nob⟩
          | false =>
            have HDn : Hid (∀ W, Mvd w2 W pb NoB D6 → Calls Tryz.prog 29 #[.pointer (some ⟨pb, 0, none⟩)] W fun e w' => e = .returned (.bool false) ∧ w' = W) := fun W h => h.down1 false hdn
            clear eo a6 hrm5 s5 qf5 hSt s6 hF6 hfn6 hdn HG HT HK hG6 hgn6
            go_upto_region 37 with (first
              | (go_at_call 27; (with_reducible refine (HLy.out _ t7).mono ?_); rintro e w8 ⟨rfl, t8⟩)
              | (go_at_call 13; (with_reducible refine (HOp.out _ t8).mono ?_); rintro e w9 ⟨rfl, t9⟩)
              | (go_at_call 21; (with_reducible refine (HFi.out _ t9).mono ?_); rintro e w10 ⟨fa, fb, fc, rfl, r10, t10⟩; obtain ⟨_, _, _, c4, _, _, _, c8⟩ := HBy.out w10 t10.nob)
              | (go_at_call 29; (with_reducible refine (HDn.out _ t10).mono ?_); rintro e wa ⟨rfl, rfl⟩)
              | (go_at_call 23; (with_reducible refine (HAf.out _ t10).mono ?_); rintro e w11 ⟨ea, eb, ec, rfl, r11, t11⟩))
            obtain ⟨m', HSe⟩ := HS2.out _ _ _ ec t11 r11
            have HSe := hide HSe
            go_wp2_with (go_at_call 30; (with_reducible refine HSe.out.mono ?_); rintro e w12 ⟨rfl, t12⟩)
            go_ret
            exact ⟨rfl, bnext HU2.out t12.nob⟩
      | false =>
        obtain ⟨F, hF⟩ : ∃ F, tell D.L = F := ⟨_, rfl⟩
        obtain ⟨fn, hfn⟩ : ∃ n, F.length = n := ⟨_, rfl⟩
        have HFi : Hid (∀ W, Mvd w2 W p NoB D → Calls Tryz.prog 21 #[.pointer (some ⟨p, 0, none⟩)] W fun e w' => ∃ fa fb fc, e = .returned (.slice fa fn fc) ∧ RdF w' fa fb 0 F ∧ Mvd w2 w' p NoB D) := fun W h => by
          refine (h.files1 F hF).mono fun e w' z => ?_
          obtain ⟨fa, fb, fc, z1, z2, z3⟩ := z
          rw [hfn] at z1
          exact ⟨fa, fb, fc, z1, z2, h.then z3⟩
        have hOn : ∀ G gn, G.length = gn → Fo k L m G → ∀ W fa fb fc, Mvd w2 W p NoB D → RdF W fa fb 0 G → Calls Tryz.prog 26 #[.int .i64 1048576, .slice fa gn fc] W fun e w' => ∃ pb, e = .returned (.tuple #[.pointer (some ⟨pb, 0, none⟩), .int .i64 0]) ∧ Mvd w2 w' pb NoB (openD 1048576 G) ∧ Mvd w2 w' p NoB D := fun G gn hgn hG W fa fb fc h rf => (mvd_opened W 1048576 (by decide) fa fb fc gn G rf hgn hG.fz).mono fun e w' z => by
          obtain ⟨pb, z1, z2⟩ := z
          exact ⟨pb, z1, Mvd.base h.nob z2, h.then z2.nob⟩
        have hfo : Fo k L m F := by rw [← hF]; exact sg0.told
        have HOn := hide (hOn F fn hfn hfo)
        have HDn : Hid (∀ W, Mvd w2 W p NoB D → Calls Tryz.prog 29 #[.pointer (some ⟨p, 0, none⟩)] W fun e w' => e = .returned (.bool false) ∧ w' = W) := fun W h => h.down1 false hdn
        obtain ⟨G, hG⟩ : ∃ F, aft ts D.L 0 = F := ⟨_, rfl⟩
        obtain ⟨gn, hgn⟩ : ∃ n, G.length = n := ⟨_, rfl⟩
        have HAf : Hid (∀ W, Mvd w2 W p NoB D → Calls Tryz.prog 23 #[.pointer (some ⟨p, 0, none⟩), .slice ta ts.length tc] W fun e w' => ∃ fa fb fc, e = .returned (.slice fa gn fc) ∧ RdF w' fa fb 0 G ∧ Mvd w2 w' p NoB D) := fun W h => by
          refine (h.after1 ta tb tO tc ts (HT.out W h.nob) (by omega) G hG).mono fun e w' z => ?_
          obtain ⟨fa, fb, fc, z1, z2, z3⟩ := z
          rw [hgn] at z1
          exact ⟨fa, fb, fc, z1, z2, h.then z3⟩
        have hfo2 : Fo k L m G := by rw [← hG]; exact sg0.fall ts
        have HOn2 := hide (hOn G gn hgn hfo2)
        have s7 : Sg k L m (openD 1048576 G).L := hfo2.sg
        have q7 := hfo2.fz.qf
        clear hOn hF hfn hdn HQ hG hgn HOn
        go_upto_region 25 with (first
          | (go_at_call 21; (with_reducible refine (HFi.out _ HM.out).mono ?_); rintro e w6 ⟨fa, fb, fc, rfl, r6, t6⟩; obtain ⟨_, _, _, c4, c5, _⟩ := HBy.out w6 t6.nob)
          | (go_at_call 23; (with_reducible refine (HAf.out _ t6).mono ?_); rintro e wx ⟨fa', fb', fc', rfl, rx, tx6⟩)
          | (go_at_call 26; (with_reducible refine (HOn2.out _ _ _ _ tx6 rx).mono ?_); rintro e w7 ⟨pb, rfl, t7, t7'⟩; obtain ⟨_, _, _, c4', _⟩ := HBy.out w7 t7.nob)
          | (go_at_call 29; (with_reducible refine (HDn.out _ t7').mono ?_); rintro e wa ⟨rfl, rfl⟩)
          | (go_at_call 29; (with_reducible refine (HDn.out _ t6).mono ?_); rintro e wa ⟨rfl, rfl⟩))
        have a7 : (openD 1048576 G).acts ≤ 900 := Nat.zero_le _
        generalize openD 1048576 G = D4 at *
        clear HOn2 HFi HAf HDn t7' c4 c4' c5 r6 t6 tx6 rx hfo hfo2 HM

        have hm12 : m ≤ 12 := by omega
        obtain ⟨u3, hu3, eu3⟩ := uint_ofS x6
        obtain ⟨u4, hu4, eu4⟩ := uint_ofS x7
        obtain ⟨a2, ha2⟩ : ∃ a, u3 % 9 = a := ⟨_, rfl⟩
        obtain ⟨kd2, hkd2⟩ : ∃ a, u4 % 5 = a := ⟨_, rfl⟩
        have ea2 : (u3 : Int) % 9 = (a2 : Int) := by omega
        have ea2' : (u3 : Int).tmod 9 = (a2 : Int) := by rw [← ha2]; rfl
        have ek2 : (u4 : Int) % 5 = (kd2 : Int) := by omega
        have ek2' : (u4 : Int).tmod 5 = (kd2 : Int) := by rw [← hkd2]; rfl
        have wa1 : IntKind.i64.wrap (a2 : Int) = (a2 : Int) := by rw [IntKind.wrap_i64]; omega
        have wk1 : IntKind.i64.wrap (kd2 : Int) = (kd2 : Int) := by rw [IntKind.wrap_i64]; omega
        have wa2 : IntKind.i64.wrap (1 + (a2 : Int)) = 1 + (a2 : Int) := by rw [IntKind.wrap_i64]; omega
        have wk2 : IntKind.i64.wrap (1 + (kd2 : Int)) = 1 + (kd2 : Int) := by rw [IntKind.wrap_i64]; omega
        have wm : IntKind.u64.wrap (m : Int) = (m : Int) := wrap_u _ (by omega) (by omega)
        have wm1 : IntKind.u64.wrap ((m : Int) + 1) = (m : Int) + 1 := wrap_u _ (by omega) (by omega)
        obtain ⟨qf5, eL5, eA5⟩ := lay_f q7 (1 + (a2 : Int)) (1 + (kd2 : Int)) gs (by omega) (by omega)
        obtain ⟨D5, hD5⟩ : ∃ Y, layD D4 (1 + (a2 : Int)) (1 + (kd2 : Int)) gs = Y := ⟨_, rfl⟩
        rw [hD5] at qf5 eL5 eA5
        have s5 : Sg k L m D5.L := by rw [eL5]; exact s7
        have HLy : Hid (∀ W, Mvd w2 W pb NoB D4 → Calls Tryz.prog 27 #[.pointer (some ⟨pb, 0, none⟩), .agg #[.int .i64 (1 + (a2 : Int)), .int .i64 (1 + (kd2 : Int)), .slice ga gs.length gc]] W fun e w' => e = .returned (.tuple #[]) ∧ Mvd w2 w' pb NoB D5) := fun W h => by
          rw [← hD5]
          exact h.lay1 _ _ (by omega) ga gb gO gc gs (HG.out W h.nob) lgs hgb
        obtain ⟨_, _, _, _, _, c6, c7, c8⟩ := HBy.out _ t7.nob
        obtain ⟨D6, o, e6, eo, a6, oe⟩ := s5.opn qf5
        have hrm5 : Rm 7 D5 := qf5.rm s5.oth (by decide) (by omega)
        clear ha2 hkd2 hu3 hu4 hD5 eL5 eA5 q7 s7
        rcases oe with ⟨m', hnx, rfl, rfl, q6, x6', sm6⟩ | ⟨rfl, he6, s6, _⟩
        · obtain ⟨S6, hS6⟩ : ∃ S, sA k (itA k (L.take m')) = S := ⟨_, rfl⟩
          have hm'N : m' ≤ N := by have := hnx.2; omega
          have hel : S6.ends.length = m' := by rw [← hS6, itA_ends sm6.ok, List.length_take]; omega
          have HOp : Hid (∀ W, Mvd w2 W pb NoB D5 → Calls Tryz.prog 13 #[.pointer (some ⟨pb, 0, none⟩), .int .i64 (k : Int)] W fun e w' => ∃ q, e = .returned (.tuple #[.pointer (some ⟨q, 0, none⟩), .int .i64 0]) ∧ MdS w2 w' q pb NoB D6 S6) := fun W h => by
            rw [← hS6]; exact h.open1 hrm5 k eo
          have HSz : Hid (∀ W q, MdS w2 W q pb NoB D6 S6 → Calls Tryz.prog 20 #[.pointer (some ⟨q, 0, none⟩)] W fun e w' => e = .returned (.int .u64 (m' : Int)) ∧ w' = W) := fun W q h => h.size1 m' hel
          have HHs : Hid (∀ W q, MdS w2 W q pb NoB D6 S6 → Calls Tryz.prog 16 #[.pointer (some ⟨q, 0, none⟩), .int .i64 (k : Int), .slice la m' lc] W fun e w' => e = .returned (.bool true) ∧ MdS w2 w' q pb NoB D6 S6) := fun W q h => by
            rw [← hS6] at h ⊢
            exact (h.has1 k (L.take m') (hasA_ext sm6.ok q6.down x6') la lb 0 m' lc (rds_first (HRd.out W h.mvd.nob) m' hm'N)).mono fun e w' z => ⟨z.1, z.2.1⟩
          obtain ⟨F6, hF6⟩ : ∃ F, aft ks D6.L 0 = F := ⟨_, rfl⟩
          obtain ⟨fn6, hfn6⟩ : ∃ n, F6.length = n := ⟨_, rfl⟩
          have HAf : Hid (∀ W q, MdS w2 W q pb NoB D6 S6 → Calls Tryz.prog 23 #[.pointer (some ⟨pb, 0, none⟩), .slice ka ks.length kc] W fun e w' => ∃ fa fb fc, e = .returned (.slice fa fn6 fc) ∧ RdF w' fa fb 0 F6 ∧ MdS w2 w' q pb NoB D6 S6) := fun W q h => by
            refine (h.mvd.after1 ka kb ko kc ks (HK.out W h.mvd.nob) (by omega) F6 hF6).mono fun e w' z => ?_
            obtain ⟨fa, fb, fc, z1, z2, z3⟩ := z
            rw [hfn6] at z1
            exact ⟨fa, fb, fc, z1, z2, h.next z3⟩
          have hwk : Wk k (itA k (L.take m')) (layL F6) := by rw [← hF6]; exact (sm6.wk x6').fall sm6.ok q6.ord ks
          have hso : Sor F6 := by rw [← hF6]; exact aft_sor ks _ 0 q6.ord.1
          have HSe : Hid (∀ W q fa fb fc, MdS w2 W q pb NoB D6 S6 → RdF W fa fb 0 F6 → Calls Tryz.prog 30 #[.slice fa fn6 fc, .int .i64 (k : Int), .slice la N lc, .int .i64 (m' : Int)] W fun e w' => e = .returned (.tuple #[.int .i64 (m' : Int), .bool true]) ∧ MdS w2 w' q pb NoB D6 S6) := fun W q fa fb fc h rf => (settled_any W fa fb fc fn6 F6 rf hfn6 k k1 k2 la lb N lc L (HRd.out W h.mvd.nob) hlc hsml m' m' hm'N (.inl rfl) hso hwk).mono fun e w' z => ⟨z.1, h.next z.2⟩
          have wi' : IntKind.i64.wrap (m' : Int) = (m' : Int) := by rw [IntKind.wrap_i64]; omega
          have hgt : ¬ (N : Int) < (m' : Int) := by omega
          have hmc : m' ≤ lc := by omega
          have hnx1 := hnx.1
          clear eo a6 q6 x6' sm6 hS6 hel hF6 hfn6 hwk hso hrm5 s5 qf5 hnx HG HT HK
          rcases hnx1 with hq | hq
          · have hmm : ((m' : Int) == (m : Int)) = true := by simp; omega
            have hmm2 : (m' : Int) = (m : Int) := by omega
            subst hq
            go_wp2_with (first
              | (go_at_call 27; (with_reducible refine (HLy.out _ t7).mono ?_); rintro e w8 ⟨rfl, t8⟩)
              | (go_at_call 13; (with_reducible refine (HOp.out _ t8).mono ?_); rintro e w9 ⟨q9, rfl, t9⟩)
              | (go_at_call 16; (with_reducible refine (HHs.out _ _ t9).mono ?_); rintro e w10 ⟨rfl, t10⟩; obtain ⟨_, _, c3, _⟩ := HBy.out w10 t10.mvd.nob)
              | (go_at_call 23; (with_reducible refine (HAf.out _ _ t10).mono ?_); rintro e w11 ⟨fa, fb, fc, rfl, r11, t11⟩)
              | (go_at_call 30; (with_reducible refine (HSe.out _ _ _ _ _ t11 r11).mono ?_); rintro e w12 ⟨rfl, t12⟩)
              | (go_at_call 20; (with_reducible refine (HSz.out _ _ t12).mono ?_); rintro e wa ⟨rfl, rfl⟩)
              | (go_at_call 20; (with_reducible refine (HSz.out _ _ t11).mono ?_); rintro e wa ⟨rfl, rfl⟩)
              | (go_at_call 20; (with_reducible refine (HSz.out _ _ t9).mono ?_); rintro e wa ⟨rfl, rfl⟩))
            go_ret
            exact ⟨rfl, bnext HU2.out t12.mvd.nob⟩
          · have hmm : ¬ (m' : Int) = (m : Int) := by omega
            have wm2 : IntKind.u64.wrap ((m : Int) + 1) = (m' : Int) := by rw [wm1]; omega
            clear wm1 hq
            go_wp2_with (first
              | (go_at_call 27; (with_reducible refine (HLy.out _ t7).mono ?_); rintro e w8 ⟨rfl, t8⟩)
              | (go_at_call 13; (with_reducible refine (HOp.out _ t8).mono ?_); rintro e w9 ⟨q9, rfl, t9⟩)
              | (go_at_call 16; (with_reducible refine (HHs.out _ _ t9).mono ?_); rintro e w10 ⟨rfl, t10⟩; obtain ⟨_, _, c3, _⟩ := HBy.out w10 t10.mvd.nob)
              | (go_at_call 23; (with_reducible refine (HAf.out _ _ t10).mono ?_); rintro e w11 ⟨fa, fb, fc, rfl, r11, t11⟩)
              | (go_at_call 30; (with_reducible refine (HSe.out _ _ _ _ _ t11 r11).mono ?_); rintro e w12 ⟨rfl, t12⟩)
              | (go_at_call 20; (with_reducible refine (HSz.out _ _ t12).mono ?_); rintro e wa ⟨rfl, rfl⟩)
              | (go_at_call 20; (with_reducible refine (HSz.out _ _ t11).mono ?_); rintro e wa ⟨rfl, rfl⟩)
              | (go_at_call 20; (with_reducible refine (HSz.out _ _ t9).mono ?_); rintro e wa ⟨rfl, rfl⟩))
            go_ret
            exact ⟨rfl, bnext HU2.out t12.mvd.nob⟩
        · have HOp : Hid (∀ W, Mvd w2 W pb NoB D5 → Calls Tryz.prog 13 #[.pointer (some ⟨pb, 0, none⟩), .int .i64 (k : Int)] W fun e w' => e = .returned (.tuple #[.pointer none, .int .i64 e6]) ∧ Mvd w2 w' pb NoB D6) := fun W h => h.open0 hrm5 k e6 eo
          have he60 : (e6 == 0) = false := by simpa using he6
          have hSt : ∀ F, Fo k L m F → ∀ W fa fb fc, Mvd w2 W pb NoB D6 → RdF W fa fb 0 F → ∃ m' : Nat, Calls Tryz.prog 30 #[.slice fa F.length fc, .int .i64 (k : Int), .slice la N lc, .int .i64 (m : Int)] W fun e w' => e = .returned (.tuple #[.int .i64 (m' : Int), .bool true]) ∧ Mvd w2 w' pb NoB D6 := fun F hF W fa fb fc h rf => by
            obtain ⟨m', h1, h2⟩ := hF.wk
            have h3 := h1.2
            exact ⟨m', (settled_any W fa fb fc F.length F rf rfl k k1 k2 la lb N lc L (HRd.out W h.nob) hlc hsml m' m (by omega) h1.1 hF.sor h2).mono fun e w' z => ⟨z.1, h.then z.2⟩⟩
          obtain ⟨F6, hF6⟩ : ∃ F, tell D6.L = F := ⟨_, rfl⟩
          obtain ⟨fn6, hfn6⟩ : ∃ n, F6.length = n := ⟨_, rfl⟩
          have HFi : Hid (∀ W, Mvd w2 W pb NoB D6 → Calls Tryz.prog 21 #[.pointer (some ⟨pb, 0, none⟩)] W fun e w' => ∃ fa fb fc, e = .returned (.slice fa fn6 fc) ∧ RdF w' fa fb 0 F6 ∧ Mvd w2 w' pb NoB D6) := fun W h => by
            refine (h.files1 F6 hF6).mono fun e w' z => ?_
            obtain ⟨fa, fb, fc, z1, z2, z3⟩ := z
            rw [hfn6] at z1
            exact ⟨fa, fb, fc, z1, z2, h.then z3⟩
          have HS1 : Hid (∀ W fa fb fc, Mvd w2 W pb NoB D6 → RdF W fa fb 0 F6 → ∃ m' : Nat, Calls Tryz.prog 30 #[.slice fa fn6 fc, .int .i64 (k : Int), .slice la N lc, .int .i64 (m : Int)] W fun e w' => e = .returned (.tuple #[.int .i64 (m' : Int), .bool true]) ∧ Mvd w2 w' pb NoB D6) := fun W fa fb fc h rf => by
            have := hSt F6 (by rw [← hF6]; exact s6.told) W fa fb fc h rf
            rwa [hfn6] at this
          obtain ⟨G6, hG6⟩ : ∃ F, aft gs D6.L 0 = F := ⟨_, rfl⟩
          obtain ⟨gn6, hgn6⟩ : ∃ n, G6.length = n := ⟨_, rfl⟩
          have HAf : Hid (∀ W, Mvd w2 W pb NoB D6 → Calls Tryz.prog 23 #[.pointer (some ⟨pb, 0, none⟩), .slice ga gs.length gc] W fun e w' => ∃ fa fb fc, e = .returned (.slice fa gn6 fc) ∧ RdF w' fa fb 0 G6 ∧ Mvd w2 w' pb NoB D6) := fun W h => by
            refine (h.after1 ga gb gO gc gs (HG.out W h.nob) (by omega) G6 hG6).mono fun e w' z => ?_
            obtain ⟨fa, fb, fc, z1, z2, z3⟩ := z
            rw [hgn6] at z1
            exact ⟨fa, fb, fc, z1, z2, h.then z3⟩
          have HS2 : Hid (∀ W fa fb fc, Mvd w2 W pb NoB D6 → RdF W fa fb 0 G6 → ∃ m' : Nat, Calls Tryz.prog 30 #[.slice fa gn6 fc, .int .i64 (k : Int), .slice la N lc, .int .i64 (m : Int)] W fun e w' => e = .returned (.tuple #[.int .i64 (m' : Int), .bool true]) ∧ Mvd w2 w' pb NoB D6) := fun W fa fb fc h rf => by
            have := hSt G6 (by rw [← hG6]; exact s6.fall gs) W fa fb fc h rf
            rwa [hgn6] at this
          cases hdn : D6.down with
          | true =>
            have HDn : Hid (∀ W, Mvd w2 W pb NoB D6 → Calls Tryz.prog 29 #[.pointer (some ⟨pb, 0, none⟩)] W fun e w' => e = .returned (.bool true) ∧ w' = W) := fun W h => h.down1 true hdn
            clear eo a6 hrm5 s5 qf5 hSt s6 hF6 hfn6 hdn HG HT HK hG6 hgn6
            go_upto_region 37 with (first
              | (go_at_call 27; (with_reducible refine (HLy.out _ t7).mono ?_); rintro e w8 ⟨rfl, t8⟩)
              | (go_at_call 13; (with_reducible refine (HOp.out _ t8).mono ?_); rintro e w9 ⟨rfl, t9⟩)
              | (go_at_call 21; (with_reducible refine (HFi.out _ t9).mono ?_); rintro e w10 ⟨fa, fb, fc, rfl, r10, t10⟩)
              | (go_at_call 29; (with_reducible refine (HDn.out _ t10).mono ?_); rintro e wa ⟨rfl, rfl⟩))
            obtain ⟨m', HSe⟩ := HS1.out _ _ _ fc t10 r10
            have HSe := hide HSe
            go_wp2_with (go_at_call 30; (with_reducible refine HSe.out.mono ?_); rintro e w12 ⟨rfl, t12⟩)
            go_ret
            exact ⟨rfl, bnext HU2.out t12.nob⟩
          | false =>
            have HDn : Hid (∀ W, Mvd w2 W pb NoB D6 → Calls Tryz.prog 29 #[.pointer (some ⟨pb, 0, none⟩)] W fun e w' => e = .returned (.bool false) ∧ w' = W) := fun W h => h.down1 false hdn
            clear eo a6 hrm5 s5 qf5 hSt s6 hF6 hfn6 hdn HG HT HK hG6 hgn6
            go_upto_region 37 with (first
              | (go_at_call 27; (with_reducible refine (HLy.out _ t7).mono ?_); rintro e w8 ⟨rfl, t8⟩)
              | (go_at_call 13; (with_reducible refine (HOp.out _ t8).mono ?_); rintro e w9 ⟨rfl, t9⟩)
              | (go_at_call 21; (with_reducible refine (HFi.out _ t9).mono ?_); rintro e w10 ⟨fa, fb, fc, rfl, r10, t10⟩; obtain ⟨_, _, _, c4, _, _, _, c8⟩ := HBy.out w10 t10.nob)
              | (go_at_call 29; (with_reducible refine (HDn.out _ t10).mono ?_); rintro e wa ⟨rfl, rfl⟩)
              | (go_at_call 23; (with_reducible refine (HAf.out _ t10).mono ?_); rintro e w11 ⟨ea, eb, ec, rfl, r11, t11⟩))
            obtain ⟨m', HSe⟩ := HS2.out _ _ _ ec t11 r11
            have HSe := hide HSe
            go_wp2_with (go_at_call 30; (with_reducible refine HSe.out.mono ?_); rintro e w12 ⟨rfl, t12⟩)
            go_ret
            exact ⟨rfl, bnext HU2.out t12.nob⟩
    | false =>
      cases hdn : D.down with
      | true =>
        obtain ⟨F, hF⟩ : ∃ F, tell D.L = F := ⟨_, rfl⟩
        obtain ⟨fn, hfn⟩ : ∃ n, F.length = n := ⟨_, rfl⟩
        have HFi : Hid (∀ W, Mvd w2 W p NoB D → Calls Tryz.prog 21 #[.pointer (some ⟨p, 0, none⟩)] W fun e w' => ∃ fa fb fc, e = .returned (.slice fa fn fc) ∧ RdF w' fa fb 0 F ∧ Mvd w2 w' p NoB D) := fun W h => by
          refine (h.files1 F hF).mono fun e w' z => ?_
          obtain ⟨fa, fb, fc, z1, z2, z3⟩ := z
          rw [hfn] at z1
          exact ⟨fa, fb, fc, z1, z2, h.then z3⟩
        have hOn : ∀ G gn, G.length = gn → Fo k L m G → ∀ W fa fb fc, Mvd w2 W p NoB D → RdF W fa fb 0 G → Calls Tryz.prog 26 #[.int .i64 1048576, .slice fa gn fc] W fun e w' => ∃ pb, e = .returned (.tuple #[.pointer (some ⟨pb, 0, none⟩), .int .i64 0]) ∧ Mvd w2 w' pb NoB (openD 1048576 G) ∧ Mvd w2 w' p NoB D := fun G gn hgn hG W fa fb fc h rf => (mvd_opened W 1048576 (by decide) fa fb fc gn G rf hgn hG.fz).mono fun e w' z => by
          obtain ⟨pb, z1, z2⟩ := z
          exact ⟨pb, z1, Mvd.base h.nob z2, h.then z2.nob⟩
        have hfo : Fo k L m F := by rw [← hF]; exact sg0.told
        have HOn := hide (hOn F fn hfn hfo)
        have HDn : Hid (∀ W, Mvd w2 W p NoB D → Calls Tryz.prog 29 #[.pointer (some ⟨p, 0, none⟩)] W fun e w' => e = .returned (.bool true) ∧ w' = W) := fun W h => h.down1 true hdn
        have s7 : Sg k L m (openD 1048576 F).L := hfo.sg
        have q7 := hfo.fz.qf
        clear hOn hF hfn hdn HQ
        go_upto_region 25 with (first
          | (go_at_call 21; (with_reducible refine (HFi.out _ HM.out).mono ?_); rintro e w6 ⟨fa, fb, fc, rfl, r6, t6⟩; obtain ⟨_, _, _, c4, c5, _⟩ := HBy.out w6 t6.nob)
          | (go_at_call 26; (with_reducible refine (HOn.out _ _ _ _ t6 r6).mono ?_); rintro e w7 ⟨pb, rfl, t7, t7'⟩; obtain ⟨_, _, _, c4', _⟩ := HBy.out w7 t7.nob)
          | (go_at_call 29; (with_reducible refine (HDn.out _ t7').mono ?_); rintro e wa ⟨rfl, rfl⟩)
          | (go_at_call 29; (with_reducible refine (HDn.out _ t6).mono ?_); rintro e wa ⟨rfl, rfl⟩))
        have a7 : (openD 1048576 F).acts ≤ 900 := Nat.zero_le _
        generalize openD 1048576 F = D4 at *
        clear HOn HFi HDn t7' c4 c4' c5 r6 t6 hfo HM

        have hm12 : m ≤ 12 := by omega
        obtain ⟨u3, hu3, eu3⟩ := uint_ofS x6
        obtain ⟨u4, hu4, eu4⟩ := uint_ofS x7
        obtain ⟨a2, ha2⟩ : ∃ a, u3 % 9 = a := ⟨_, rfl⟩
        obtain ⟨kd2, hkd2⟩ : ∃ a, u4 % 5 = a := ⟨_, rfl⟩
        have ea2 : (u3 : Int) % 9 = (a2 : Int) := by omega
        have ea2' : (u3 : Int).tmod 9 = (a2 : Int) := by rw [← ha2]; rfl
        have ek2 : (u4 : Int) % 5 = (kd2 : Int) := by omega
        have ek2' : (u4 : Int).tmod 5 = (kd2 : Int) := by rw [← hkd2]; rfl
        have wa1 : IntKind.i64.wrap (a2 : Int) = (a2 : Int) := by rw [IntKind.wrap_i64]; omega
        have wk1 : IntKind.i64.wrap (kd2 : Int) = (kd2 : Int) := by rw [IntKind.wrap_i64]; omega
        have wa2 : IntKind.i64.wrap (1 + (a2 : Int)) = 1 + (a2 : Int) := by rw [IntKind.wrap_i64]; omega
        have wk2 : IntKind.i64.wrap (1 + (kd2 : Int)) = 1 + (kd2 : Int) := by rw [IntKind.wrap_i64]; omega
        have wm : IntKind.u64.wrap (m : Int) = (m : Int) := wrap_u _ (by omega) (by omega)
        have wm1 : IntKind.u64.wrap ((m : Int) + 1) = (m : Int) + 1 := wrap_u _ (by omega) (by omega)
        obtain ⟨qf5, eL5, eA5⟩ := lay_f q7 (1 + (a2 : Int)) (1 + (kd2 : Int)) gs (by omega) (by omega)
        obtain ⟨D5, hD5⟩ : ∃ Y, layD D4 (1 + (a2 : Int)) (1 + (kd2 : Int)) gs = Y := ⟨_, rfl⟩
        rw [hD5] at qf5 eL5 eA5
        have s5 : Sg k L m D5.L := by rw [eL5]; exact s7
        have HLy : Hid (∀ W, Mvd w2 W pb NoB D4 → Calls Tryz.prog 27 #[.pointer (some ⟨pb, 0, none⟩), .agg #[.int .i64 (1 + (a2 : Int)), .int .i64 (1 + (kd2 : Int)), .slice ga gs.length gc]] W fun e w' => e = .returned (.tuple #[]) ∧ Mvd w2 w' pb NoB D5) := fun W h => by
          rw [← hD5]
          exact h.lay1 _ _ (by omega) ga gb gO gc gs (HG.out W h.nob) lgs hgb
        obtain ⟨_, _, _, _, _, c6, c7, c8⟩ := HBy.out _ t7.nob
        obtain ⟨D6, o, e6, eo, a6, oe⟩ := s5.opn qf5
        have hrm5 : Rm 7 D5 := qf5.rm s5.oth (by decide) (by omega)
        clear ha2 hkd2 hu3 hu4 hD5 eL5 eA5 q7 s7
        rcases oe with ⟨m', hnx, rfl, rfl, q6, x6', sm6⟩ | ⟨rfl, he6, s6, _⟩
        · obtain ⟨S6, hS6⟩ : ∃ S, sA k (itA k (L.take m')) = S := ⟨_, rfl⟩
          have hm'N : m' ≤ N := by have := hnx.2; omega
          have hel : S6.ends.length = m' := by rw [← hS6, itA_ends sm6.ok, List.length_take]; omega
          have HOp : Hid (∀ W, Mvd w2 W pb NoB D5 → Calls Tryz.prog 13 #[.pointer (some ⟨pb, 0, none⟩), .int .i64 (k : Int)] W fun e w' => ∃ q, e = .returned (.tuple #[.pointer (some ⟨q, 0, none⟩), .int .i64 0]) ∧ MdS w2 w' q pb NoB D6 S6) := fun W h => by
            rw [← hS6]; exact h.open1 hrm5 k eo
          have HSz : Hid (∀ W q, MdS w2 W q pb NoB D6 S6 → Calls Tryz.prog 20 #[.pointer (some ⟨q, 0, none⟩)] W fun e w' => e = .returned (.int .u64 (m' : Int)) ∧ w' = W) := fun W q h => h.size1 m' hel
          have HHs : Hid (∀ W q, MdS w2 W q pb NoB D6 S6 → Calls Tryz.prog 16 #[.pointer (some ⟨q, 0, none⟩), .int .i64 (k : Int), .slice la m' lc] W fun e w' => e = .returned (.bool true) ∧ MdS w2 w' q pb NoB D6 S6) := fun W q h => by
            rw [← hS6] at h ⊢
            exact (h.has1 k (L.take m') (hasA_ext sm6.ok q6.down x6') la lb 0 m' lc (rds_first (HRd.out W h.mvd.nob) m' hm'N)).mono fun e w' z => ⟨z.1, z.2.1⟩
          obtain ⟨F6, hF6⟩ : ∃ F, aft ks D6.L 0 = F := ⟨_, rfl⟩
          obtain ⟨fn6, hfn6⟩ : ∃ n, F6.length = n := ⟨_, rfl⟩
          have HAf : Hid (∀ W q, MdS w2 W q pb NoB D6 S6 → Calls Tryz.prog 23 #[.pointer (some ⟨pb, 0, none⟩), .slice ka ks.length kc] W fun e w' => ∃ fa fb fc, e = .returned (.slice fa fn6 fc) ∧ RdF w' fa fb 0 F6 ∧ MdS w2 w' q pb NoB D6 S6) := fun W q h => by
            refine (h.mvd.after1 ka kb ko kc ks (HK.out W h.mvd.nob) (by omega) F6 hF6).mono fun e w' z => ?_
            obtain ⟨fa, fb, fc, z1, z2, z3⟩ := z
            rw [hfn6] at z1
            exact ⟨fa, fb, fc, z1, z2, h.next z3⟩
          have hwk : Wk k (itA k (L.take m')) (layL F6) := by rw [← hF6]; exact (sm6.wk x6').fall sm6.ok q6.ord ks
          have hso : Sor F6 := by rw [← hF6]; exact aft_sor ks _ 0 q6.ord.1
          have HSe : Hid (∀ W q fa fb fc, MdS w2 W q pb NoB D6 S6 → RdF W fa fb 0 F6 → Calls Tryz.prog 30 #[.slice fa fn6 fc, .int .i64 (k : Int), .slice la N lc, .int .i64 (m' : Int)] W fun e w' => e = .returned (.tuple #[.int .i64 (m' : Int), .bool true]) ∧ MdS w2 w' q pb NoB D6 S6) := fun W q fa fb fc h rf => (settled_any W fa fb fc fn6 F6 rf hfn6 k k1 k2 la lb N lc L (HRd.out W h.mvd.nob) hlc hsml m' m' hm'N (.inl rfl) hso hwk).mono fun e w' z => ⟨z.1, h.next z.2⟩
          have wi' : IntKind.i64.wrap (m' : Int) = (m' : Int) := by rw [IntKind.wrap_i64]; omega
          have hgt : ¬ (N : Int) < (m' : Int) := by omega
          have hmc : m' ≤ lc := by omega
          have hnx1 := hnx.1
          clear eo a6 q6 x6' sm6 hS6 hel hF6 hfn6 hwk hso hrm5 s5 qf5 hnx HG HT HK
          rcases hnx1 with hq | hq
          · have hmm : ((m' : Int) == (m : Int)) = true := by simp; omega
            have hmm2 : (m' : Int) = (m : Int) := by omega
            subst hq
            go_wp2_with (first
              | (go_at_call 27; (with_reducible refine (HLy.out _ t7).mono ?_); rintro e w8 ⟨rfl, t8⟩)
              | (go_at_call 13; (with_reducible refine (HOp.out _ t8).mono ?_); rintro e w9 ⟨q9, rfl, t9⟩)
              | (go_at_call 16; (with_reducible refine (HHs.out _ _ t9).mono ?_); rintro e w10 ⟨rfl, t10⟩; obtain ⟨_, _, c3, _⟩ := HBy.out w10 t10.mvd.nob)
              | (go_at_call 23; (with_reducible refine (HAf.out _ _ t10).mono ?_); rintro e w11 ⟨fa, fb, fc, rfl, r11, t11⟩)
              | (go_at_call 30; (with_reducible refine (HSe.out _ _ _ _ _ t11 r11).mono ?_); rintro e w12 ⟨rfl, t12⟩)
              | (go_at_call 20; (with_reducible refine (HSz.out _ _ t12).mono ?_); rintro e wa ⟨rfl, rfl⟩)
              | (go_at_call 20; (with_reducible refine (HSz.out _ _ t11).mono ?_); rintro e wa ⟨rfl, rfl⟩)
              | (go_at_call 20; (with_reducible refine (HSz.out _ _ t9).mono ?_); rintro e wa ⟨rfl, rfl⟩))
            go_ret
            exact ⟨rfl, bnext HU2.out t12.mvd.nob⟩
          · have hmm : ¬ (m' : Int) = (m : Int) := by omega
            have wm2 : IntKind.u64.wrap ((m : Int) + 1) = (m' : Int) := by rw [wm1]; omega
            clear wm1 hq
            go_wp2_with (first
              | (go_at_call 27; (with_reducible refine (HLy.out _ t7).mono ?_); rintro e w8 ⟨rfl, t8⟩)
              | (go_at_call 13; (with_reducible refine (HOp.out _ t8).mono ?_); rintro e w9 ⟨q9, rfl, t9⟩)
              | (go_at_call 16; (with_reducible refine (HHs.out _ _ t9).mono ?_); rintro e w10 ⟨rfl, t10⟩; obtain ⟨_, _, c3, _⟩ := HBy.out w10 t10.mvd.nob)
              | (go_at_call 23; (with_reducible refine (HAf.out _ _ t10).mono ?_); rintro e w11 ⟨fa, fb, fc, rfl, r11, t11⟩)
              | (go_at_call 30; (with_reducible refine (HSe.out _ _ _ _ _ t11 r11).mono ?_); rintro e w12 ⟨rfl, t12⟩)
              | (go_at_call 20; (with_reducible refine (HSz.out _ _ t12).mono ?_); rintro e wa ⟨rfl, rfl⟩)
              | (go_at_call 20; (with_reducible refine (HSz.out _ _ t11).mono ?_); rintro e wa ⟨rfl, rfl⟩)
              | (go_at_call 20; (with_reducible refine (HSz.out _ _ t9).mono ?_); rintro e wa ⟨rfl, rfl⟩))
            go_ret
            exact ⟨rfl, bnext HU2.out t12.mvd.nob⟩
        · have HOp : Hid (∀ W, Mvd w2 W pb NoB D5 → Calls Tryz.prog 13 #[.pointer (some ⟨pb, 0, none⟩), .int .i64 (k : Int)] W fun e w' => e = .returned (.tuple #[.pointer none, .int .i64 e6]) ∧ Mvd w2 w' pb NoB D6) := fun W h => h.open0 hrm5 k e6 eo
          have he60 : (e6 == 0) = false := by simpa using he6
          have hSt : ∀ F, Fo k L m F → ∀ W fa fb fc, Mvd w2 W pb NoB D6 → RdF W fa fb 0 F → ∃ m' : Nat, Calls Tryz.prog 30 #[.slice fa F.length fc, .int .i64 (k : Int), .slice la N lc, .int .i64 (m : Int)] W fun e w' => e = .returned (.tuple #[.int .i64 (m' : Int), .bool true]) ∧ Mvd w2 w' pb NoB D6 := fun F hF W fa fb fc h rf => by
            obtain ⟨m', h1, h2⟩ := hF.wk
            have h3 := h1.2
            exact ⟨m', (settled_any W fa fb fc F.length F rf rfl k k1 k2 la lb N lc L (HRd.out W h.nob) hlc hsml m' m (by omega) h1.1 hF.sor h2).mono fun e w' z => ⟨z.1, h.then z.2⟩⟩
          obtain ⟨F6, hF6⟩ : ∃ F, tell D6.L = F := ⟨_, rfl⟩
          obtain ⟨fn6, hfn6⟩ : ∃ n, F6.length = n := ⟨_, rfl⟩
          have HFi : Hid (∀ W, Mvd w2 W pb NoB D6 → Calls Tryz.prog 21 #[.pointer (some ⟨pb, 0, none⟩)] W fun e w' => ∃ fa fb fc, e = .returned (.slice fa fn6 fc) ∧ RdF w' fa fb 0 F6 ∧ Mvd w2 w' pb NoB D6) := fun W h => by
            refine (h.files1 F6 hF6).mono fun e w' z => ?_
            obtain ⟨fa, fb, fc, z1, z2, z3⟩ := z
            rw [hfn6] at z1
            exact ⟨fa, fb, fc, z1, z2, h.then z3⟩
          have HS1 : Hid (∀ W fa fb fc, Mvd w2 W pb NoB D6 → RdF W fa fb 0 F6 → ∃ m' : Nat, Calls Tryz.prog 30 #[.slice fa fn6 fc, .int .i64 (k : Int), .slice la N lc, .int .i64 (m : Int)] W fun e w' => e = .returned (.tuple #[.int .i64 (m' : Int), .bool true]) ∧ Mvd w2 w' pb NoB D6) := fun W fa fb fc h rf => by
            have := hSt F6 (by rw [← hF6]; exact s6.told) W fa fb fc h rf
            rwa [hfn6] at this
          cases hdn : D6.down with
          | true =>
            have HDn : Hid (∀ W, Mvd w2 W pb NoB D6 → Calls Tryz.prog 29 #[.pointer (some ⟨pb, 0, none⟩)] W fun e w' => e = .returned (.bool true) ∧ w' = W) := fun W h => h.down1 true hdn
            clear eo a6 hrm5 s5 qf5 hSt s6 hF6 hfn6 hdn HG HT HK
            go_upto_region 37 with (first
              | (go_at_call 27; (with_reducible refine (HLy.out _ t7).mono ?_); rintro e w8 ⟨rfl, t8⟩)
              | (go_at_call 13; (with_reducible refine (HOp.out _ t8).mono ?_); rintro e w9 ⟨rfl, t9⟩)
              | (go_at_call 21; (with_reducible refine (HFi.out _ t9).mono ?_); rintro e w10 ⟨fa, fb, fc, rfl, r10, t10⟩)
              | (go_at_call 29; (with_reducible refine (HDn.out _ t10).mono ?_); rintro e wa ⟨rfl, rfl⟩))
            obtain ⟨m', HSe⟩ := HS1.out _ _ _ fc t10 r10
            have HSe := hide HSe
            go_wp2_with (go_at_call 30; (with_reducible refine HSe.out.mono ?_); rintro e w12 ⟨rfl, t12⟩)
            go_ret
            exact ⟨rfl, bnext HU2.out t12.nob⟩
          | false =>
            have HDn : Hid (∀ W, Mvd w2 W pb NoB D6 → Calls Tryz.prog 29 #[.pointer (some ⟨pb, 0, none⟩)] W fun e w' => e = .returned (.bool false) ∧ w' = W) := fun W h => h.down1 false hdn
            clear eo a6 hrm5 s5 qf5 hSt s6 hF6 hfn6 hdn HG HT HK
            go_upto_region 37 with (first
              | (go_at_call 27; (with_reducible refine (HLy.out _ t7).mono ?_); rintro e w8 ⟨rfl, t8⟩)
              | (go_at_call 13; (with_reducible refine (HOp.out _ t8).mono ?_); rintro e w9 ⟨rfl, t9⟩)
              | (go_at_call 21; (with_reducible refine (HFi.out _ t9).mono ?_); rintro e w10 ⟨fa, fb, fc, rfl, r10, t10⟩; obtain ⟨_, _, _, c4, _, _, _, c8⟩ := HBy.out w10 t10.nob)
              | (go_at_call 29; (with_reducible refine (HDn.out _ t10).mono ?_); rintro e wa ⟨rfl, rfl⟩))
            obtain ⟨m', HSe⟩ := HS1.out _ _ _ fc t10 r10
            have HSe := hide HSe
            go_wp2_with (go_at_call 30; (with_reducible refine HSe.out.mono ?_); rintro e w12 ⟨rfl, t12⟩)
            go_ret
            exact ⟨rfl, bnext HU2.out t12.nob⟩
      | false =>
        obtain ⟨F, hF⟩ : ∃ F, tell D.L = F := ⟨_, rfl⟩
        obtain ⟨fn, hfn⟩ : ∃ n, F.length = n := ⟨_, rfl⟩
        have HFi : Hid (∀ W, Mvd w2 W p NoB D → Calls Tryz.prog 21 #[.pointer (some ⟨p, 0, none⟩)] W fun e w' => ∃ fa fb fc, e = .returned (.slice fa fn fc) ∧ RdF w' fa fb 0 F ∧ Mvd w2 w' p NoB D) := fun W h => by
          refine (h.files1 F hF).mono fun e w' z => ?_
          obtain ⟨fa, fb, fc, z1, z2, z3⟩ := z
          rw [hfn] at z1
          exact ⟨fa, fb, fc, z1, z2, h.then z3⟩
        have hOn : ∀ G gn, G.length = gn → Fo k L m G → ∀ W fa fb fc, Mvd w2 W p NoB D → RdF W fa fb 0 G → Calls Tryz.prog 26 #[.int .i64 1048576, .slice fa gn fc] W fun e w' => ∃ pb, e = .returned (.tuple #[.pointer (some ⟨pb, 0, none⟩), .int .i64 0]) ∧ Mvd w2 w' pb NoB (openD 1048576 G) ∧ Mvd w2 w' p NoB D := fun G gn hgn hG W fa fb fc h rf => (mvd_opened W 1048576 (by decide) fa fb fc gn G rf hgn hG.fz).mono fun e w' z => by
          obtain ⟨pb, z1, z2⟩ := z
          exact ⟨pb, z1, Mvd.base h.nob z2, h.then z2.nob⟩
        have hfo : Fo k L m F := by rw [← hF]; exact sg0.told
        have HOn := hide (hOn F fn hfn hfo)
        have HDn : Hid (∀ W, Mvd w2 W p NoB D → Calls Tryz.prog 29 #[.pointer (some ⟨p, 0, none⟩)] W fun e w' => e = .returned (.bool false) ∧ w' = W) := fun W h => h.down1 false hdn
        have s7 := sg0
        have q7 : Qf 1048576 D := by
          rcases HQ.out.2.2 with h | h
          · exact h
          · rw [hdn] at h; cases h
        have a7 := HQ.out.2.1
        clear hOn hF hfn hdn HQ
        go_upto_region 25 with (first
          | (go_at_call 21; (with_reducible refine (HFi.out _ HM.out).mono ?_); rintro e w6 ⟨fa, fb, fc, rfl, r6, t6⟩; obtain ⟨_, _, _, c4, c5, _⟩ := HBy.out w6 t6.nob)
          | (go_at_call 26; (with_reducible refine (HOn.out _ _ _ _ t6 r6).mono ?_); rintro e w7 ⟨pb, rfl, t7, t7'⟩; obtain ⟨_, _, _, c4', _⟩ := HBy.out w7 t7.nob)
          | (go_at_call 29; (with_reducible refine (HDn.out _ t7').mono ?_); rintro e wa ⟨rfl, rfl⟩)
          | (go_at_call 29; (with_reducible refine (HDn.out _ t6).mono ?_); rintro e wa ⟨rfl, rfl⟩))
        clear HOn HFi HDn t7 c4 c4' c5 r6 t6 hfo HM
        have t7 := t7'
        clear t7'

        have hm12 : m ≤ 12 := by omega
        obtain ⟨u3, hu3, eu3⟩ := uint_ofS x6
        obtain ⟨u4, hu4, eu4⟩ := uint_ofS x7
        obtain ⟨a2, ha2⟩ : ∃ a, u3 % 9 = a := ⟨_, rfl⟩
        obtain ⟨kd2, hkd2⟩ : ∃ a, u4 % 5 = a := ⟨_, rfl⟩
        have ea2 : (u3 : Int) % 9 = (a2 : Int) := by omega
        have ea2' : (u3 : Int).tmod 9 = (a2 : Int) := by rw [← ha2]; rfl
        have ek2 : (u4 : Int) % 5 = (kd2 : Int) := by omega
        have ek2' : (u4 : Int).tmod 5 = (kd2 : Int) := by rw [← hkd2]; rfl
        have wa1 : IntKind.i64.wrap (a2 : Int) = (a2 : Int) := by rw [IntKind.wrap_i64]; omega
        have wk1 : IntKind.i64.wrap (kd2 : Int) = (kd2 : Int) := by rw [IntKind.wrap_i64]; omega
        have wa2 : IntKind.i64.wrap (1 + (a2 : Int)) = 1 + (a2 : Int) := by rw [IntKind.wrap_i64]; omega
        have wk2 : IntKind.i64.wrap (1 + (kd2 : Int)) = 1 + (kd2 : Int) := by rw [IntKind.wrap_i64]; omega
        have wm : IntKind.u64.wrap (m : Int) = (m : Int) := wrap_u _ (by omega) (by omega)
        have wm1 : IntKind.u64.wrap ((m : Int) + 1) = (m : Int) + 1 := wrap_u _ (by omega) (by omega)
        obtain ⟨qf5, eL5, eA5⟩ := lay_f q7 (1 + (a2 : Int)) (1 + (kd2 : Int)) gs (by omega) (by omega)
        obtain ⟨D5, hD5⟩ : ∃ Y, layD D (1 + (a2 : Int)) (1 + (kd2 : Int)) gs = Y := ⟨_, rfl⟩
        rw [hD5] at qf5 eL5 eA5
        have s5 : Sg k L m D5.L := by rw [eL5]; exact s7
        have HLy : Hid (∀ W, Mvd w2 W p NoB D → Calls Tryz.prog 27 #[.pointer (some ⟨p, 0, none⟩), .agg #[.int .i64 (1 + (a2 : Int)), .int .i64 (1 + (kd2 : Int)), .slice ga gs.length gc]] W fun e w' => e = .returned (.tuple #[]) ∧ Mvd w2 w' p NoB D5) := fun W h => by
          rw [← hD5]
          exact h.lay1 _ _ (by omega) ga gb gO gc gs (HG.out W h.nob) lgs hgb
        obtain ⟨_, _, _, _, _, c6, c7, c8⟩ := HBy.out _ t7.nob
        obtain ⟨D6, o, e6, eo, a6, oe⟩ := s5.opn qf5
        have hrm5 : Rm 7 D5 := qf5.rm s5.oth (by decide) (by omega)
        clear ha2 hkd2 hu3 hu4 hD5 eL5 eA5 q7 s7
        rcases oe with ⟨m', hnx, rfl, rfl, q6, x6', sm6⟩ | ⟨rfl, he6, s6, _⟩
        · obtain ⟨S6, hS6⟩ : ∃ S, sA k (itA k (L.take m')) = S := ⟨_, rfl⟩
          have hm'N : m' ≤ N := by have := hnx.2; omega
          have hel : S6.ends.length = m' := by rw [← hS6, itA_ends sm6.ok, List.length_take]; omega
          have HOp : Hid (∀ W, Mvd w2 W p NoB D5 → Calls Tryz.prog 13 #[.pointer (some ⟨p, 0, none⟩), .int .i64 (k : Int)] W fun e w' => ∃ q, e = .returned (.tuple #[.pointer (some ⟨q, 0, none⟩), .int .i64 0]) ∧ MdS w2 w' q p NoB D6 S6) := fun W h => by
            rw [← hS6]; exact h.open1 hrm5 k eo
          have HSz : Hid (∀ W q, MdS w2 W q p NoB D6 S6 → Calls Tryz.prog 20 #[.pointer (some ⟨q, 0, none⟩)] W fun e w' => e = .returned (.int .u64 (m' : Int)) ∧ w' = W) := fun W q h => h.size1 m' hel
          have HHs : Hid (∀ W q, MdS w2 W q p NoB D6 S6 → Calls Tryz.prog 16 #[.pointer (some ⟨q, 0, none⟩), .int .i64 (k : Int), .slice la m' lc] W fun e w' => e = .returned (.bool true) ∧ MdS w2 w' q p NoB D6 S6) := fun W q h => by
            rw [← hS6] at h ⊢
            exact (h.has1 k (L.take m') (hasA_ext sm6.ok q6.down x6') la lb 0 m' lc (rds_first (HRd.out W h.mvd.nob) m' hm'N)).mono fun e w' z => ⟨z.1, z.2.1⟩
          obtain ⟨F6, hF6⟩ : ∃ F, aft ks D6.L 0 = F := ⟨_, rfl⟩
          obtain ⟨fn6, hfn6⟩ : ∃ n, F6.length = n := ⟨_, rfl⟩
          have HAf : Hid (∀ W q, MdS w2 W q p NoB D6 S6 → Calls Tryz.prog 23 #[.pointer (some ⟨p, 0, none⟩), .slice ka ks.length kc] W fun e w' => ∃ fa fb fc, e = .returned (.slice fa fn6 fc) ∧ RdF w' fa fb 0 F6 ∧ MdS w2 w' q p NoB D6 S6) := fun W q h => by
            refine (h.mvd.after1 ka kb ko kc ks (HK.out W h.mvd.nob) (by omega) F6 hF6).mono fun e w' z => ?_
            obtain ⟨fa, fb, fc, z1, z2, z3⟩ := z
            rw [hfn6] at z1
            exact ⟨fa, fb, fc, z1, z2, h.next z3⟩
          have hwk : Wk k (itA k (L.take m')) (layL F6) := by rw [← hF6]; exact (sm6.wk x6').fall sm6.ok q6.ord ks
          have hso : Sor F6 := by rw [← hF6]; exact aft_sor ks _ 0 q6.ord.1
          have HSe : Hid (∀ W q fa fb fc, MdS w2 W q p NoB D6 S6 → RdF W fa fb 0 F6 → Calls Tryz.prog 30 #[.slice fa fn6 fc, .int .i64 (k : Int), .slice la N lc, .int .i64 (m' : Int)] W fun e w' => e = .returned (.tuple #[.int .i64 (m' : Int), .bool true]) ∧ MdS w2 w' q p NoB D6 S6) := fun W q fa fb fc h rf => (settled_any W fa fb fc fn6 F6 rf hfn6 k k1 k2 la lb N lc L (HRd.out W h.mvd.nob) hlc hsml m' m' hm'N (.inl rfl) hso hwk).mono fun e w' z => ⟨z.1, h.next z.2⟩
          have wi' : IntKind.i64.wrap (m' : Int) = (m' : Int) := by rw [IntKind.wrap_i64]; omega
          have hgt : ¬ (N : Int) < (m' : Int) := by omega
          have hmc : m' ≤ lc := by omega
          have hnx1 := hnx.1
          clear eo a6 q6 x6' sm6 hS6 hel hF6 hfn6 hwk hso hrm5 s5 qf5 hnx HG HT HK
          rcases hnx1 with hq | hq
          · have hmm : ((m' : Int) == (m : Int)) = true := by simp; omega
            have hmm2 : (m' : Int) = (m : Int) := by omega
            subst hq
            go_wp2_with (first
              | (go_at_call 27; (with_reducible refine (HLy.out _ t7).mono ?_); rintro e w8 ⟨rfl, t8⟩)
              | (go_at_call 13; (with_reducible refine (HOp.out _ t8).mono ?_); rintro e w9 ⟨q9, rfl, t9⟩)
              | (go_at_call 16; (with_reducible refine (HHs.out _ _ t9).mono ?_); rintro e w10 ⟨rfl, t10⟩; obtain ⟨_, _, c3, _⟩ := HBy.out w10 t10.mvd.nob)
              | (go_at_call 23; (with_reducible refine (HAf.out _ _ t10).mono ?_); rintro e w11 ⟨fa, fb, fc, rfl, r11, t11⟩)
              | (go_at_call 30; (with_reducible refine (HSe.out _ _ _ _ _ t11 r11).mono ?_); rintro e w12 ⟨rfl, t12⟩)
              | (go_at_call 20; (with_reducible refine (HSz.out _ _ t12).mono ?_); rintro e wa ⟨rfl, rfl⟩)
              | (go_at_call 20; (with_reducible refine (HSz.out _ _ t11).mono ?_); rintro e wa ⟨rfl, rfl⟩)
              | (go_at_call 20; (with_reducible refine (HSz.out _ _ t9).mono ?_); rintro e wa ⟨rfl, rfl⟩))
            go_ret
            exact ⟨rfl, bnext HU2.out t12.mvd.nob⟩
          · have hmm : ¬ (m' : Int) = (m : Int) := by omega
            have wm2 : IntKind.u64.wrap ((m : Int) + 1) = (m' : Int) := by rw [wm1]; omega
            clear wm1 hq
            go_wp2_with (first
              | (go_at_call 27; (with_reducible refine (HLy.out _ t7).mono ?_); rintro e w8 ⟨rfl, t8⟩)
              | (go_at_call 13; (with_reducible refine (HOp.out _ t8).mono ?_); rintro e w9 ⟨q9, rfl, t9⟩)
              | (go_at_call 16; (with_reducible refine (HHs.out _ _ t9).mono ?_); rintro e w10 ⟨rfl, t10⟩; obtain ⟨_, _, c3, _⟩ := HBy.out w10 t10.mvd.nob)
              | (go_at_call 23; (with_reducible refine (HAf.out _ _ t10).mono ?_); rintro e w11 ⟨fa, fb, fc, rfl, r11, t11⟩)
              | (go_at_call 30; (with_reducible refine (HSe.out _ _ _ _ _ t11 r11).mono ?_); rintro e w12 ⟨rfl, t12⟩)
              | (go_at_call 20; (with_reducible refine (HSz.out _ _ t12).mono ?_); rintro e wa ⟨rfl, rfl⟩)
              | (go_at_call 20; (with_reducible refine (HSz.out _ _ t11).mono ?_); rintro e wa ⟨rfl, rfl⟩)
              | (go_at_call 20; (with_reducible refine (HSz.out _ _ t9).mono ?_); rintro e wa ⟨rfl, rfl⟩))
            go_ret
            exact ⟨rfl, bnext HU2.out t12.mvd.nob⟩
        · have HOp : Hid (∀ W, Mvd w2 W p NoB D5 → Calls Tryz.prog 13 #[.pointer (some ⟨p, 0, none⟩), .int .i64 (k : Int)] W fun e w' => e = .returned (.tuple #[.pointer none, .int .i64 e6]) ∧ Mvd w2 w' p NoB D6) := fun W h => h.open0 hrm5 k e6 eo
          have he60 : (e6 == 0) = false := by simpa using he6
          have hSt : ∀ F, Fo k L m F → ∀ W fa fb fc, Mvd w2 W p NoB D6 → RdF W fa fb 0 F → ∃ m' : Nat, Calls Tryz.prog 30 #[.slice fa F.length fc, .int .i64 (k : Int), .slice la N lc, .int .i64 (m : Int)] W fun e w' => e = .returned (.tuple #[.int .i64 (m' : Int), .bool true]) ∧ Mvd w2 w' p NoB D6 := fun F hF W fa fb fc h rf => by
            obtain ⟨m', h1, h2⟩ := hF.wk
            have h3 := h1.2
            exact ⟨m', (settled_any W fa fb fc F.length F rf rfl k k1 k2 la lb N lc L (HRd.out W h.nob) hlc hsml m' m (by omega) h1.1 hF.sor h2).mono fun e w' z => ⟨z.1, h.then z.2⟩⟩
          obtain ⟨F6, hF6⟩ : ∃ F, tell D6.L = F := ⟨_, rfl⟩
          obtain ⟨fn6, hfn6⟩ : ∃ n, F6.length = n := ⟨_, rfl⟩
          have HFi : Hid (∀ W, Mvd w2 W p NoB D6 → Calls Tryz.prog 21 #[.pointer (some ⟨p, 0, none⟩)] W fun e w' => ∃ fa fb fc, e = .returned (.slice fa fn6 fc) ∧ RdF w' fa fb 0 F6 ∧ Mvd w2 w' p NoB D6) := fun W h => by
            refine (h.files1 F6 hF6).mono fun e w' z => ?_
            obtain ⟨fa, fb, fc, z1, z2, z3⟩ := z
            rw [hfn6] at z1
            exact ⟨fa, fb, fc, z1, z2, h.then z3⟩
          have HS1 : Hid (∀ W fa fb fc, Mvd w2 W p NoB D6 → RdF W fa fb 0 F6 → ∃ m' : Nat, Calls Tryz.prog 30 #[.slice fa fn6 fc, .int .i64 (k : Int), .slice la N lc, .int .i64 (m : Int)] W fun e w' => e = .returned (.tuple #[.int .i64 (m' : Int), .bool true]) ∧ Mvd w2 w' p NoB D6) := fun W fa fb fc h rf => by
            have := hSt F6 (by rw [← hF6]; exact s6.told) W fa fb fc h rf
            rwa [hfn6] at this
          cases hdn : D6.down with
          | true =>
            have HDn : Hid (∀ W, Mvd w2 W p NoB D6 → Calls Tryz.prog 29 #[.pointer (some ⟨p, 0, none⟩)] W fun e w' => e = .returned (.bool true) ∧ w' = W) := fun W h => h.down1 true hdn
            clear eo a6 hrm5 s5 qf5 hSt s6 hF6 hfn6 hdn HG HT HK
            go_upto_region 37 with (first
              | (go_at_call 27; (with_reducible refine (HLy.out _ t7).mono ?_); rintro e w8 ⟨rfl, t8⟩)
              | (go_at_call 13; (with_reducible refine (HOp.out _ t8).mono ?_); rintro e w9 ⟨rfl, t9⟩)
              | (go_at_call 21; (with_reducible refine (HFi.out _ t9).mono ?_); rintro e w10 ⟨fa, fb, fc, rfl, r10, t10⟩)
              | (go_at_call 29; (with_reducible refine (HDn.out _ t10).mono ?_); rintro e wa ⟨rfl, rfl⟩))
            obtain ⟨m', HSe⟩ := HS1.out _ _ _ fc t10 r10
            have HSe := hide HSe
            go_wp2_with (go_at_call 30; (with_reducible refine HSe.out.mono ?_); rintro e w12 ⟨rfl, t12⟩)
            go_ret
            exact ⟨rfl, bnext HU2.out t12.nob⟩
          | false =>
            have HDn : Hid (∀ W, Mvd w2 W p NoB D6 → Calls Tryz.prog 29 #[.pointer (some ⟨p, 0, none⟩)] W fun e w' => e = .returned (.bool false) ∧ w' = W) := fun W h => h.down1 false hdn
            clear eo a6 hrm5 s5 qf5 hSt s6 hF6 hfn6 hdn HG HT HK
            go_upto_region 37 with (first
              | (go_at_call 27; (with_reducible refine (HLy.out _ t7).mono ?_); rintro e w8 ⟨rfl, t8⟩)
              | (go_at_call 13; (with_reducible refine (HOp.out _ t8).mono ?_); rintro e w9 ⟨rfl, t9⟩)
              | (go_at_call 21; (with_reducible refine (HFi.out _ t9).mono ?_); rintro e w10 ⟨fa, fb, fc, rfl, r10, t10⟩; obtain ⟨_, _, _, c4, _, _, _, c8⟩ := HBy.out w10 t10.nob)
              | (go_at_call 29; (with_reducible refine (HDn.out _ t10).mono ?_); rintro e wa ⟨rfl, rfl⟩))
            obtain ⟨m', HSe⟩ := HS1.out _ _ _ fc t10 r10
            have HSe := hide HSe
            go_wp2_with (go_at_call 30; (with_reducible refine HSe.out.mono ?_); rintro e w12 ⟨rfl, t12⟩)
            go_ret
            exact ⟨rfl, bnext HU2.out t12.nob⟩
end Go.Proofs.YthfnpagangjpbaaGreat
