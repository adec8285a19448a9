/-
  FilesMemory. Own work.
-/
import Derived.Test.YthfnpagangjpbaaGreatYFMmB
import Derived.Deep.CutRange
namespace Go.Proofs.YthfnpagangjpbaaGreat
open Go.RowKit
open Rc
attribute [local go_sem ↓] Go.wp_at_zero Go.wp_at_succ
/-- The first is opened, the second's disk apart. -/
def Fst (w W : World) (q p p2 : Nat) (D E : DV) (S : SV) : Prop := ∃ T U, Sk W q p T D S ∧ Dsk W p2 U E ∧ (∀ x, T x → ¬ U x) ∧ (∀ x, T x → w.heap.size ≤ x) ∧ (∀ x, U x → w.heap.size ≤ x) ∧ Below w.heap.size w W
set_option maxRecDepth 100000 in
set_option maxHeartbeats 4000000 in
theorem memory_walk (w : World) (k0 : Int) (ao : Option Addr) (b off len cap : Nat) (ss : List ByteArray) (hr : RdS w ao b off len ss) (hmx : len ≤ 9223372036854775807) (ao2 : Option Addr) (b2 off2 len2 cap2 : Nat) (ss2 : List ByteArray) (hr2 : RdS w ao2 b2 off2 len2 ss2) (hmx2 : len2 ≤ 9223372036854775807) :
    Calls Tryz.prog 3 #[.int .i64 k0, .slice ao len cap, .slice ao2 len2 cap2] w fun e w' => e = .returned (.bool true) ∧ Below w.heap.size w w' := by
  obtain ⟨k, hk⟩ : ∃ k, str k0 = k := ⟨_, rfl⟩
  have hkk := str_ok k0
  have HSt := hide (fun W => strength1_any W k0)
  rw [hk] at HSt hkk
  obtain ⟨k1, k2⟩ := hkk
  obtain ⟨L, N, sL, lL, nL, hL⟩ := ls_any w ao b off len cap ss hr hmx
  obtain ⟨M, N2, sM, lM, nM, hM⟩ := ls_any w ao2 b2 off2 len2 cap2 ss2 hr2 hmx2
  have HL := hide hL
  have HM := hide hM
  have HA := hide (falive_any w)
  have HN : Hid (∀ W, Calls Tryz.prog 12 #[.int .i64 1048576] W fun e w' => ∃ p, e = .returned (.pointer (some ⟨p, 0, none⟩)) ∧ Mvd W w' p NoB (newD 1048576)) := fun W => mvd_new W 1048576 (by decide)
  obtain ⟨e0, q0⟩ := new_ext k 1048576
  obtain ⟨D1, j1, o1, q1, x1, a1, _, z1⟩ := open_ok (okA_nil k1 k2) q0 e0.beh
  obtain ⟨_, rfl⟩ := z1 e0
  have hrm0 : Rm 7 (newD 1048576) := qt_rm q0 e0.oth (by decide) (by decide)
  have HO1 : Hid (∀ w2 w3 w4 p p2, Mvd w2 w3 p NoB (newD 1048576) → Mvd w3 w4 p2 NoB (newD 1048576) → Calls Tryz.prog 13 #[.pointer (some ⟨p, 0, none⟩), .int .i64 (k : Int)] w4 fun e w' => ∃ q, e = .returned (.tuple #[.pointer (some ⟨q, 0, none⟩), .int .i64 0]) ∧ Fst w2 w' q p p2 D1 (newD 1048576) (sA k [])) := fun w2 w3 w4 p p2 h1 h2 => tws_first h1 h2 hrm0 k o1
  have HO2 : Hid (∀ w2 W q p p2, Fst w2 W q p p2 D1 (newD 1048576) (sA k []) → Calls Tryz.prog 13 #[.pointer (some ⟨p2, 0, none⟩), .int .i64 (k : Int)] W fun e w' => ∃ q2, e = .returned (.tuple #[.pointer (some ⟨q2, 0, none⟩), .int .i64 0]) ∧ Tws w2 w' q p D1 (sA k []) q2 p2 D1 (sA k []) NoB) := fun w2 W q p p2 h => tws_second h hrm0 k o1
  have HS0 : Hid (∀ l : List ByteArray, Hf k l 0 D1) := fun l => ⟨q1, x1, by have : D1.acts = 3 := a1; omega⟩
  clear hr hr2 hL hM e0 q0 o1 q1 x1 a1 hrm0 hk
  go_enter Tryz.func3, Tryz.ntmps3
  go_upto_region 7 with (first
    | (go_at_call 9; (with_reducible refine HA.out.mono ?_); rintro e w1 ⟨rfl, u1⟩)
    | (go_at_call 10; (with_reducible refine (HSt.out _).mono ?_); rintro e wa ⟨rfl, rfl⟩)
    | (go_at_call 11; (with_reducible refine (HL.out _ u1).mono ?_); rintro e w2 ⟨la, lb, lc, rfl, rd, u2⟩; have V2 := bnext u1 u2)
    | (go_at_call 11; (with_reducible refine (HM.out _ V2).mono ?_); rintro e w2 ⟨ma, mb, mc, rfl, rd2, u2⟩; have V3 := bnext V2 u2)
    | (go_at_call 12; (with_reducible refine (HN.out _).mono ?_); rintro e w3 ⟨p, rfl, t3⟩))
  go_upto_region 12 with (first
    | (go_at_call 12; (with_reducible refine (HN.out _).mono ?_); rintro e w4 ⟨p2, rfl, t4⟩)
    | (go_at_call 13; (with_reducible refine (HO1.out _ _ _ _ _ t3 t4).mono ?_); rintro e w5 ⟨q, rfl, t5⟩)
    | (go_at_call 13; (with_reducible refine (HO2.out _ _ _ _ _ t5).mono ?_); rintro e w6 ⟨q2, rfl, t6⟩))
  have HV : Hid (Below w.heap.size w w2) := V3
  have HR1 : Hid (∀ W, Below w2.heap.size w2 W → RdS W la lb 0 N L) := fun W h => rd.next (bnext u2 h) (Nat.le_refl _)
  have HR2 : Hid (∀ W, Below w2.heap.size w2 W → RdS W ma mb 0 N2 M) := fun W h => rd2.next h (Nat.le_refl _)
  have HT0 : Hid (Tws w2 w6 q p D1 (sA k (itA k (L.take 0))) q2 p2 D1 (sA k (itA k (M.take 0))) NoB) := t6
  have HD : Hid (∀ (n : Nat) (W : World), n ≤ 65536 → Calls Tryz.prog 14 #[.int .u64 (n : Int), .int .i64 (k : Int), .slice none 0 0] W fun e w' => ∃ va vc, e = .returned (.slice va (1 + Pl.trl 64 n) vc) ∧ OwnS w' W.heap.size (.slice va (1 + Pl.trl 64 n) vc) (dg0 k n) ∧ Below W.heap.size W w') := fun n W hn => digests0_any W n k hn k2
  have hp1 := rd.ptr
  have hp2 := rd2.ptr
  clear HSt HL HM HA HN HO1 HO2 u1 V2 V3 rd rd2 u2 t3 t4 t5 t6
  go_wp2
  go_loopg [15] 13 (fun g x wr => ∃ (i : Nat) (Di Ei : DV), i ≤ 12 ∧ g = 13 - i ∧ x = .int .i64 (i : Int) ∧ Hid (Tws w2 wr q p Di (sA k (itA k (L.take i))) q2 p2 Ei (sA k (itA k (M.take i))) NoB) ∧ Hid (Hf k L i Di ∧ Hf k M i Ei))
  case atStart =>
    go_light
    exact ⟨0, D1, D1, by omega, rfl, rfl, HT0, HS0.out L, HS0.out M⟩
  case round =>
    clear HT0 HS0
    obtain ⟨i, Di, Ei, hi, rfl, rfl, HT, HF⟩ := hrel
    by_cases hany : i < N ∨ i < N2
    · have hi12 : i < 12 := by omega
      generalize wr = wo at *
      clear wr
      go_upto_region 13 with fail
      go_cut [66] from 57 to 66 (fun x wx => x = .bool true ∧ wx = wo)
      case first =>
        by_cases h1 : i < N
        · have z1 : (i : Int) < (N : Int) := by omega
          go_wp2_with fail
          go_meet
          case rel => exact ⟨rfl, rfl⟩
        · have z1 : ¬ (i : Int) < (N : Int) := by omega
          have z2 : (i : Int) < (N2 : Int) := by omega
          go_wp2_with fail
          go_meet
          case rel => exact ⟨rfl, rfl⟩
      case rest =>
        obtain ⟨rfl, rfl⟩ := hcut
        generalize wc = wo at *
        clear wc
        go_upto_if 72 with fail
        go_cut [16, 17, 18, 19, 20] from 57 to 151 (fun _ _ _ _ _ wx => ∃ Dn, Hid (Tws w2 wx q p Dn (sA k (itA k (L.take (i + 1)))) q2 p2 Ei (sA k (itA k (M.take i))) NoB) ∧ Hid (Hf k L (i + 1) Dn))
        case first =>
          by_cases h1 : i < N
          · have z1 : (i : Int) < (N : Int) := by omega
            obtain ⟨s, hsi⟩ : ∃ s, L[i]? = some s := ⟨_, List.getElem?_eq_getElem (by omega)⟩
            obtain ⟨Dn, hAd, hHf, hrm, hss⟩ := hf_add k1 k2 sL hsi HF.out.1
            have HFn := hide hHf
            obtain ⟨m, hm⟩ : ∃ m, 1 + Pl.trl 64 i = m := ⟨_, rfl⟩
            have hdl := dg0_len k i
            rw [hm] at hdl
            have hm1 : 1 ≤ m := by omega
            have hm41 : m ≤ 41 := by have := nn_next i (by omega); have := nn_mono i (by omega); have := nn_le (i + 1); omega
            have HD1 : Hid (∀ W, Calls Tryz.prog 14 #[.int .u64 (i : Int), .int .i64 (k : Int), .slice none 0 0] W fun e w' => ∃ va vc, e = .returned (.slice va m vc) ∧ OwnS w' W.heap.size (.slice va m vc) (dg0 k i) ∧ Below W.heap.size W w') := fun W => by
              have := HD.out i W (by omega)
              rwa [hm] at this
            have ew1 : IntKind.u64.wrap (i : Int) = (i : Int) := wrap_u _ (by omega) (by omega)
            obtain rfl := hp1 (by omega)
            have hsd : L.getD i ByteArray.empty = s := by rw [List.getD_eq_getElem?_getD, hsi]; rfl
            have CL : Hid (∀ W, Below w2.heap.size w2 W → W.cell? ⟨lb, i, none⟩ = some (.string s)) := fun W hW => by
              have := (HR1.out W hW).at h1
              rwa [hsd, Nat.zero_add] at this
            obtain ⟨Z, hZ⟩ : ∃ Z, dg0 k i = Z := ⟨_, rfl⟩
            have hZsz : ∀ x ∈ Z, x.size ≤ 32 := fun x hx => by rw [← hZ] at hx; rw [dg0_sz k i x hx]; exact k2
            rw [hZ] at hAd hdl HD1
            obtain ⟨Sn, hSn⟩ : ∃ S, sA k (itA k (L.take (i + 1))) = S := ⟨_, rfl⟩
            obtain ⟨S0, hS0⟩ : ∃ S, sA k (itA k (L.take i)) = S := ⟨_, rfl⟩
            obtain ⟨Se, hSe⟩ : ∃ S, sA k (itA k (M.take i)) = S := ⟨_, rfl⟩
            rw [hSn, hS0] at hAd
            rw [hS0, hSe] at HT
            have HSE : Hid (∀ W, Tws w2 W q p Dn Sn q2 p2 Ei Se NoB → Tws w2 W q p Dn (sA k (itA k (L.take (i + 1)))) q2 p2 Ei (sA k (itA k (M.take i))) NoB) := fun W hW => by rw [hSn, hSe]; exact hW
            have HAW : Hid (∀ W g cap, Below wo.heap.size wo W → OwnS W wo.heap.size (.slice (some ⟨g, 0, none⟩) (m + 9) cap) (Z ++ List.replicate 9 rmT) → Calls Tryz.prog 15 #[.pointer (some ⟨q, 0, none⟩), .string s, .slice (some ⟨g, 0, none⟩) m cap] W fun e w' => e = .returned (.int .i64 0) ∧ Wst w2 w' q p Dn Sn q2 p2 Ei Se wo.heap.size g (m + 9) cap (Z ++ List.replicate 9 rmT)) := fun W g cap hb ow => by
              refine wst_add HT.out hb ow (by simp) m (by simp; omega) (fun x hx => ?_) (by omega) hrm s hss 0 ?_
              · rcases List.mem_append.1 hx with h | h
                · have := hZsz x h; omega
                · rw [List.eq_of_mem_replicate h]; decide
              · rw [List.take_append_of_le_length (by omega), List.take_of_length_le (by omega)]; exact hAd
            have HB0 : Hid (Below w2.heap.size w2 wo) := HT.out.below
            clear hm hsd hsi hAd hHf hrm HD HF HT hZ hSn hS0 hSe
            go_upto_region 18 with (go_at_call 14; (with_reducible refine (HD1.out _).mono ?_); rintro e w3 ⟨va, vc, rfl, o3, u3⟩)
            have HO3 : Hid (OwnS w3 wo.heap.size (.slice va m vc) (Z ++ List.replicate 0 rmT)) := by
              rw [List.replicate_zero, List.append_nil]; exact o3
            have HU3 := hide u3
            clear o3 u3
            go_wp2
            go_loopg [16, 18] 9 (fun g x y wz => ∃ j : Nat, j ≤ 9 ∧ g = 9 - j ∧ y = .int .i64 (j : Int) ∧ Hid (OwnS wz wo.heap.size x (Z ++ List.replicate j rmT)) ∧ Hid (Below wo.heap.size wo wz))
            case atStart =>
              go_light
              exact ⟨0, by omega, rfl, rfl, HO3, HU3⟩
            case round =>
              clear HO3 HU3
              obtain ⟨j, hj, rfl, rfl, HO, HB⟩ := hrel
              by_cases hlt : j < 9
              · have hz : (j : Int) < 9 := by omega
                have ew : IntKind.i64.wrap ((j : Int) + 1) = (j : Int) + 1 := by rw [IntKind.wrap_i64]; omega
                go_wp2_with (at_builtin; refine wpList_append_S _ rfl _ _ rfl wo.heap.size _ (Z ++ List.replicate j rmT) rfl (own_al HO.out _) (some ⟨wr.heap.size, 0, none⟩) wr.heap.size 0 1 [rmT] rfl (rds_one wr rmT (by decide)) (fun h => by cases h) (by simp; omega) (by have := HB.out.size; rw [al_size]; omega) ?_)
                intro v5 w5 h5 u5
                have HZ : Hid (OwnS w5 wo.heap.size v5 (Z ++ List.replicate (j + 1) rmT) ∧ Below wo.heap.size wo w5) := ⟨by rw [List.replicate_succ']; exact h5, (bal HB.out _).trans u5⟩
                clear h5 u5 HO HB
                go_wp2
                go_roundg (9 - (j + 1))
                case rel =>
                  go_light
                  exact ⟨j + 1, by omega, rfl, by go_num, HZ.out.1, HZ.out.2⟩
                case measure => go_light; omega
              · have hz : ¬ (j : Int) < 9 := by omega
                obtain rfl : j = 9 := by omega
                obtain ⟨g, cp, hv, hBg, hcap, hcm⟩ := own_form HO.out (by simp)
                have hzl : (Z ++ List.replicate 9 rmT).length = m + 9 := by simp; omega
                rw [hzl] at hv hcap
                have ow := HO.out
                rw [hv] at ow
                subst hv
                have HOw : Hid (∀ W, Below wr.heap.size wr W → OwnS W wo.heap.size (.slice (some ⟨g, 0, none⟩) (m + 9) cp) (Z ++ List.replicate 9 rmT) ∧ Below wo.heap.size wo W) := fun W hW => ⟨own_next ow hW (Nat.le_refl _), bnext HB.out hW⟩
                have HAX : Hid (∀ W, Below wr.heap.size wr W → Calls Tryz.prog 15 #[.pointer (some ⟨q, 0, none⟩), .string s, .slice (some ⟨g, 0, none⟩) m cp] W fun e w' => e = .returned (.int .i64 0) ∧ Wst w2 w' q p Dn Sn q2 p2 Ei Se wo.heap.size g (m + 9) cp (Z ++ List.replicate 9 rmT)) := fun W hW => HAW.out W g cp (HOw.out W hW).2 (HOw.out W hW).1
                have CL1 : Hid (∀ W, Below wr.heap.size wr W → W.cell? ⟨lb, i, none⟩ = some (.string s)) := fun W hW => CL.out W (bnext HB0.out (HOw.out W hW).2)
                have CL2 : Hid (∀ W, Wst w2 W q p Dn Sn q2 p2 Ei Se wo.heap.size g (m + 9) cp (Z ++ List.replicate 9 rmT) → W.cell? ⟨lb, i, none⟩ = some (.string s)) := fun W hW => CL.out W hW.tws.below
                have c0 := CL1.out wr (Below.refl _ _)
                have hmc : m ≤ cp := by omega
                clear HAW ow HO HB HOw CL
                go_upto_region 22 with fail
                have u := bdz wr
                go_region_held3 (fun Y => Y.cell? ⟨lb, i, none⟩ = some (.string s)) (first | assumption | (with_reducible exact CL2.out _ t7) | (with_reducible exact CL1.out _ u)) (first | (go_at_call 15; (with_reducible refine (HAX.out _ u).mono ?_); rintro e w7 ⟨rfl, t7⟩))
                have HW7 := hide t7
                clear HAX CL1 CL2 c0 u t7
                go_upto_region 25 with (go_at_call 14; (with_reducible refine (HD1.out _).mono ?_); rintro e w8 ⟨va2, vc2, rfl, o8, u8⟩)
                have hgl : g < w7.heap.size := World.block_lt_of_cell? w7 _ (HW7.out.cell (j := 0) (by simp)).1
                obtain ⟨g8, cp8, hv8, hB8, _, _⟩ := own_form o8 (by omega)
                injection hv8 with y1 y2 y3
                subst y1 y3
                clear y2
                have HW8 : Hid (Wst w2 w8 q p Dn Sn q2 p2 Ei Se wo.heap.size g (m + 9) cp (ovL (Z ++ List.replicate 9 rmT) 0)) := by rw [ovL_zero]; exact HW7.out.next u8
                have HO8 := hide o8
                obtain ⟨B8, hB8'⟩ : ∃ B, w7.heap.size = B := ⟨_, rfl⟩
                rw [hB8'] at HO8 hB8 hgl
                have hgne : g8 ≠ g := by omega
                have hmB : m + 9 ≤ 50 := by omega
                clear HW7 o8 u8 hB8 hgl HD1
                generalize wr = wq at *
                clear wr
                go_wp2
                go_loopg [20] (m + 9) (fun g' y wz => ∃ j : Nat, j ≤ m + 9 ∧ g' = m + 9 - j ∧ y = .int .i64 (j : Int) ∧ Hid (Wst w2 wz q p Dn Sn q2 p2 Ei Se wo.heap.size g (m + 9) cp (ovL (Z ++ List.replicate 9 rmT) j)) ∧ Hid (OwnS wz B8 (.slice (some ⟨g8, 0, none⟩) m vc2) Z))
                case atStart =>
                  go_light
                  exact ⟨0, Nat.zero_le _, rfl, rfl, HW8, HO8⟩
                case round =>
                  clear HW8 HO8
                  obtain ⟨j, hj, rfl, rfl, HW, HO⟩ := hrel
                  by_cases hlt : j < m + 9
                  · have hz : (j : Int) < ((m + 9 : Nat) : Int) := by omega
                    have hz' : (j : Int) < (m : Int) + 9 := by omega
                    have ew : IntKind.i64.wrap ((j : Int) + 1) = (j : Int) + 1 := by rw [IntKind.wrap_i64]; omega
                    have hll : (ovL (Z ++ List.replicate 9 rmT) j).length = m + 9 := by rw [ovL_len (by omega)]; exact hzl
                    obtain ⟨cW, fW⟩ := HW.out.cell (j := j) (by omega)
                    rw [ovL_at] at cW
                    have HN : Hid (∀ n, Wst w2 ((wr.drewN n).setCell ⟨g, j, none⟩ (.string ovT)) q p Dn Sn q2 p2 Ei Se wo.heap.size g (m + 9) cp (ovL (Z ++ List.replicate 9 rmT) (j + 1)) ∧ OwnS ((wr.drewN n).setCell ⟨g, j, none⟩ (.string ovT)) B8 (.slice (some ⟨g8, 0, none⟩) m vc2) Z) := fun n => by
                      have bn : Below wr.heap.size wr (wr.drewN n) := ⟨rfl, rfl, rfl, Nat.le_refl _, fun _ _ => rfl⟩
                      refine ⟨?_, ?_⟩
                      · have := (HW.out.next bn).set j ovT
                        rwa [ovL_set (by omega)] at this
                      · refine row_keep (own_next HO.out bn (Nat.le_refl _)) (fun x hx => ?_)
                        cases hx
                        have ho := own_next HO.out bn (Nat.le_refl _)
                        exact ((Upo.refl (fun x => x = g) (wr.drewN n)).set g j _ (.inl rfl)).block g8 (World.block_lt_of_cell? _ _ (own_cell ho (j := 0) (by omega)).1) hgne
                    by_cases hjm : j < m
                    · have z3 : (j : Int) < (m : Int) := by omega
                      have z4 : ¬ (m : Int) ≤ (j : Int) := by omega
                      have z5 : decide ((j : Int) < (m : Int)) = true := decide_eq_true z3
                      have z6 : decide (j < m) = true := decide_eq_true hjm
                      have z7 : decide ((m : Int) ≤ (j : Int)) = false := decide_eq_false z4
                      have z8 : decide (m ≤ j) = false := decide_eq_false (by omega)
                      obtain ⟨cV, _⟩ := own_cell HO.out (j := j) (by omega)
                      obtain ⟨d, hd⟩ : ∃ d, Z.getD j ByteArray.empty = d := ⟨_, rfl⟩
                      have hdd : (Z ++ List.replicate 9 rmT).getD j ByteArray.empty = d := by rw [← hd, List.getD_eq_getElem?_getD, List.getD_eq_getElem?_getD, List.getElem?_append_left (by omega)]
                      rw [hdd] at cW
                      rw [hd] at cV
                      have hbe := beq_yes (rfl : d = d)
                      clear hd hdd HW HO hll
                      go_upto_region 28 with fail
                      go_quiet (fail)
                      go_wp2
                      go_roundg (m + 9 - (j + 1))
                      case rel =>
                        go_light
                        exact ⟨j + 1, by omega, rfl, by go_num, (HN.out _).1, (HN.out _).2⟩
                      case measure => go_light; omega
                    · have z3 : ¬ (j : Int) < (m : Int) := by omega
                      have z4 : (m : Int) ≤ (j : Int) := by omega
                      have z5 : decide ((j : Int) < (m : Int)) = false := decide_eq_false z3
                      have z6 : decide (j < m) = false := decide_eq_false hjm
                      have z7 : decide ((m : Int) ≤ (j : Int)) = true := decide_eq_true z4
                      have z8 : decide (m ≤ j) = true := decide_eq_true (by omega)
                      have hdd : (Z ++ List.replicate 9 rmT).getD j ByteArray.empty = rmT := by rw [List.getD_eq_getElem?_getD, List.getElem?_append_right (by omega), List.getElem?_replicate, if_pos (by omega)]; rfl
                      rw [hdd] at cW
                      have cW' : wr.cell? ⟨g, j, none⟩ = some (.string ⟨#[114, 111, 111, 109]⟩) := cW
                      clear hdd HW HO hll cW
                      go_upto_region 28 with fail
                      go_quiet (fail)
                      go_wp2
                      go_roundg (m + 9 - (j + 1))
                      case rel =>
                        go_light
                        exact ⟨j + 1, by omega, rfl, by go_num, (HN.out _).1, (HN.out _).2⟩
                      case measure => go_light; omega
                  · have hz : ¬ (j : Int) < ((m + 9 : Nat) : Int) := by omega
                    have hz' : ¬ (j : Int) < (m : Int) + 9 := by omega
                    have HZ := hide (HSE.out _ HW.out.tws)
                    clear HW HO
                    go_wp2_with fail
                    go_meet
                    case rel => exact ⟨Dn, HZ, HFn⟩
          · have z1 : ¬ (i : Int) < (N : Int) := by omega
            obtain ⟨g1, g2⟩ := hf_same (by omega) HF.out.1
            have HFn := hide g1
            have HTn : Hid (Tws w2 wo q p Di (sA k (itA k (L.take (i + 1)))) q2 p2 Ei (sA k (itA k (M.take i))) NoB) := by rw [g2]; exact HT
            clear g1 g2 HT HF
            go_wp2_with fail
            go_meet
            case rel => exact ⟨Di, HTn, HFn⟩
        case rest =>
          obtain ⟨Dn, HTn, HFn⟩ := hcut
          clear HT
          generalize wc = wo' at *
          clear wc
          by_cases h2 : i < N2
          · have z2 : (i : Int) < (N2 : Int) := by omega
            obtain ⟨s, hsi⟩ : ∃ s, M[i]? = some s := ⟨_, List.getElem?_eq_getElem (by omega)⟩
            obtain ⟨En, hAd, hHf, hrm, hss⟩ := hf_add k1 k2 sM hsi HF.out.2
            have HFm := hide hHf
            obtain ⟨m, hm⟩ : ∃ m, 1 + Pl.trl 64 i = m := ⟨_, rfl⟩
            have hdl := dg0_len k i
            rw [hm] at hdl
            have hm41 : m ≤ 41 := by have := nn_next i (by omega); have := nn_mono i (by omega); have := nn_le (i + 1); omega
            have ew1 : IntKind.u64.wrap (i : Int) = (i : Int) := wrap_u _ (by omega) (by omega)
            have ew2 : IntKind.i64.wrap ((i : Int) + 1) = (i : Int) + 1 := by rw [IntKind.wrap_i64]; omega
            obtain rfl := hp2 (by omega)
            have hsd : M.getD i ByteArray.empty = s := by rw [List.getD_eq_getElem?_getD, hsi]; rfl
            have CL : Hid (∀ W, Below w2.heap.size w2 W → W.cell? ⟨mb, i, none⟩ = some (.string s)) := fun W hW => by
              have := (HR2.out W hW).at h2
              rwa [hsd, Nat.zero_add] at this
            have HD1 : Hid (∀ W, Below wo'.heap.size wo' W → Calls Tryz.prog 14 #[.int .u64 (i : Int), .int .i64 (k : Int), .slice none 0 0] W fun e w' => ∃ va vc, e = .returned (.slice va m vc) ∧ OwnS w' wo'.heap.size (.slice va m vc) (dg0 k i) ∧ Below wo'.heap.size wo' w') := fun W hW => by
              have := HD.out i W (by omega)
              rw [hm] at this
              exact this.mono fun e w' z => by
                obtain ⟨va, vc, z1, z2, z3⟩ := z
                exact ⟨va, vc, z1, World.ownsRow.mono z2 hW.size, bnext hW z3⟩
            have HAd : Hid (∀ W va vc, Below wo'.heap.size wo' W → OwnS W wo'.heap.size (.slice va m vc) (dg0 k i) → Calls Tryz.prog 15 #[.pointer (some ⟨q2, 0, none⟩), .string s, .slice va m vc] W fun e w' => e = .returned (.int .i64 0) ∧ Tws w2 w' q p Dn (sA k (itA k (L.take (i + 1)))) q2 p2 En (sA k (itA k (M.take (i + 1)))) NoB) := fun W va vc hW ow => by
              obtain ⟨va', rb, vc', hv, rds, _, _⟩ := owns_rds ow (fun x hx => by rw [dg0_sz k i x hx]; omega)
              injection hv with y1 y2 y3
              subst y1 y3
              rw [hdl] at rds
              exact ((HTn.out.next hW).symm.add hrm s hss va rb 0 m vc (dg0 k i) rds (by omega) 0 hAd).mono fun e w' z => ⟨z.1, z.2.1.symm⟩
            have CL1 : Hid (∀ W, Below wo'.heap.size wo' W → W.cell? ⟨mb, i, none⟩ = some (.string s)) := fun W hW => CL.out W (bnext HTn.out.below hW)
            have CL2 : Hid (∀ W, Tws w2 W q p Dn (sA k (itA k (L.take (i + 1)))) q2 p2 En (sA k (itA k (M.take (i + 1)))) NoB → W.cell? ⟨mb, i, none⟩ = some (.string s)) := fun W hW => CL.out W hW.below
            have c0 := CL1.out wo' (Below.refl _ _)
            have z5 : decide ((i : Int) < (N2 : Int)) = true := decide_eq_true z2
            have z6 : decide (i < N2) = true := decide_eq_true h2
            clear hm hdl hsd hsi hAd hHf hrm HD CL HF HTn HR1 HR2
            go_upto_region 31 with fail
            have u := bdz wo'
            go_region_held3 (fun Y => Y.cell? ⟨mb, i, none⟩ = some (.string s)) (first | assumption | (with_reducible exact CL2.out _ t4) | (with_reducible exact CL1.out _ u)) (first
              | (go_at_call 14; (with_reducible refine (HD1.out _ u).mono ?_); rintro e w3 ⟨va, vc, rfl, o3, u⟩)
              | (go_at_call 15; (with_reducible refine (HAd.out _ _ _ u o3).mono ?_); rintro e w4 ⟨rfl, t4⟩))
            all_goals
              go_wp2
              go_roundg (13 - (i + 1))
              case rel =>
                go_light
                exact ⟨i + 1, Dn, En, by omega, rfl, by go_num, t4, HFn.out, HFm.out⟩
              case measure => go_light; omega
          · have z2 : ¬ (i : Int) < (N2 : Int) := by omega
            obtain ⟨g1, g2⟩ := hf_same (by omega) HF.out.2
            have HFm := hide g1
            have HTm : Hid (∀ n, Tws w2 (wo'.drewN n) q p Dn (sA k (itA k (L.take (i + 1)))) q2 p2 Ei (sA k (itA k (M.take (i + 1)))) NoB) := fun n => by
              rw [g2]
              exact HTn.out.next ⟨rfl, rfl, rfl, Nat.le_refl _, fun _ _ => rfl⟩
            have ew2 : IntKind.i64.wrap ((i : Int) + 1) = (i : Int) + 1 := by rw [IntKind.wrap_i64]; omega
            have z5 : decide ((i : Int) < (N2 : Int)) = false := decide_eq_false z2
            have z6 : decide (i < N2) = false := decide_eq_false h2
            clear g1 g2 HF HTn HD HR1 HR2
            go_upto_region 31 with fail
            go_quiet (fail)
            go_wp2
            go_roundg (13 - (i + 1))
            case rel =>
              go_light
              exact ⟨i + 1, Dn, Ei, by omega, rfl, by go_num, HTm.out _, HFn.out, HFm.out⟩
            case measure => go_light; omega
    · have z1 : ¬ (i : Int) < (N : Int) := by omega
      have z2 : ¬ (i : Int) < (N2 : Int) := by omega
      obtain ⟨⟨g1, g2, g3⟩, g4, g5, g6⟩ := HF.out
      have e1 : L.take i = L := List.take_of_length_le (by omega)
      have e2 : M.take i = M := List.take_of_length_le (by omega)
      have t7 := HT.out
      rw [e1, e2] at t7
      rw [e1] at g2
      rw [e2] at g5
      have hs1 := hasA_ext (sL.ok k1 k2) g1.down g2
      have hs2 := hasA_ext (sM.ok k1 k2) g4.down g5
      have HH1 : Hid (∀ W, Tws w2 W q p Di (sA k (itA k L)) q2 p2 Ei (sA k (itA k M)) NoB → Calls Tryz.prog 16 #[.pointer (some ⟨q, 0, none⟩), .int .i64 (k : Int), .slice la N lc] W fun e w' => e = .returned (.bool true) ∧ Tws w2 w' q p Di (sA k (itA k L)) q2 p2 Ei (sA k (itA k M)) NoB) := fun W h => h.has k L hs1 la lb 0 N lc (HR1.out W h.below)
      have HH2 : Hid (∀ W, Tws w2 W q p Di (sA k (itA k L)) q2 p2 Ei (sA k (itA k M)) NoB → Calls Tryz.prog 16 #[.pointer (some ⟨q2, 0, none⟩), .int .i64 (k : Int), .slice ma N2 mc] W fun e w' => e = .returned (.bool true) ∧ Tws w2 w' q p Di (sA k (itA k L)) q2 p2 Ei (sA k (itA k M)) NoB) := fun W h => (h.symm.has k M hs2 ma mb 0 N2 mc (HR2.out W h.below)).mono fun e w' z => ⟨z.1, z.2.symm⟩
      clear HT HF HD HR1 HR2 g1 g2 g3 g4 g5 g6 e1 e2 hs1 hs2
      go_wp2_with (first
        | (go_at_call 16; (with_reducible refine (HH1.out _ t9).mono ?_); rintro e w10 ⟨rfl, t10⟩)
        | (go_at_call 16; (with_reducible refine (HH2.out _ t8).mono ?_); rintro e w9 ⟨rfl, t9⟩)
        | (go_at_call 16; (with_reducible refine (HH1.out _ t7).mono ?_); rintro e w8 ⟨rfl, t8⟩))
      go_ret
      exact ⟨rfl, bnext HV.out t10.below⟩
end Go.Proofs.YthfnpagangjpbaaGreat
