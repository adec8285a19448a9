/-
  The walk of RecordBack. Own work.
-/
import Derived.Test.YtggkjleibhpnfaaNFix
import Derived.Laws.Concat
import Derived.Laws.StructEq
namespace Go.Proofs.Ytggkjleibhpnfaa
open Go.RowKit
attribute [local go_sem ↓] Go.wp_at_zero Go.wp_at_succ
theorem add_of' (a b c : ByteArray) (x y : List UInt8) (ha : a.data.toList = x) (hb : b.data.toList = y) (hc : (⟨(x ++ y).toArray⟩ : ByteArray) = c) (hz : a.size + b.size ≤ 9223372036854775807) (W : World) : (Op.stringOp .add a b).run Try.prog W = .ok (.string c) W := by
  rw [run_string_add_sum W a b hz]
  congr 2
  apply ba_ext
  rw [← hc, ByteArray.data_append, Array.toList_append, ha, hb]
set_option maxRecDepth 100000 in
set_option maxHeartbeats 4000000 in
theorem back_walk (w : World) (item : ByteArray) (hi : item.size ≤ 140737488351232) (p : Nat) (hp : p < 18446744073709551616) (dg : ByteArray) (hdg : dg.size ≤ 140737488351232) (k : Int) (ma mb mc : Nat) (ha : ma < 18446744073709551616) (hb : mb < 18446744073709551616) (hc : mc < 18446744073709551616) (md : BitVec 32) (tail : ByteArray) (ht : tail.size ≤ 140737488351232) :
    Calls Try.prog 3 #[.string item, .int .u64 (p : Int), .string dg, .agg #[.int .i64 k, .int .u64 (ma : Int), .int .u64 (mb : Int), .int .u64 (mc : Int), .int .u32 (md.toNat : Int)], .string tail] w fun e w' => e = .returned (.bool true) ∧ Below w.heap.size w w' := by
  obtain ⟨d, hd⟩ : ∃ d, md.toNat = d := ⟨_, rfl⟩
  have HF : Hid (∀ W, Calls Try.prog 7 #[] W fun e w' => e = .returned (.bool true) ∧ Below W.heap.size W w') := fun W => fixed_any W
  obtain ⟨sp, hsp⟩ : ∃ sp : ByteArray, (⟨(payS item.data.toList).toArray⟩ : ByteArray) = sp := ⟨_, rfl⟩
  have hspl : sp.data.toList = payS item.data.toList := by rw [← hsp]
  have HP : Hid (∀ W, Calls Try.prog 8 #[.string item] W fun e w' => e = .returned (.string sp) ∧ Below W.heap.size W w') := fun W => payload_any W item (by omega) sp hsp
  rw [hd]
  obtain ⟨wa, hwa⟩ : ∃ wa, w.alloc (.cells #[.int .i64 k, .int .u64 (ma : Int), .int .u64 (mb : Int), .int .u64 (mc : Int), .int .u32 (d : Int)] 25) = wa := ⟨_, rfl⟩
  have HC : Hid (∀ W, Below wa.heap.size wa W → W.cell? ⟨w.heap.size, 0, none⟩ = some (.int .i64 k) ∧ W.cell? ⟨w.heap.size, 1, none⟩ = some (.int .u64 (ma : Int)) ∧ W.cell? ⟨w.heap.size, 2, none⟩ = some (.int .u64 (mb : Int)) ∧ W.cell? ⟨w.heap.size, 3, none⟩ = some (.int .u64 (mc : Int)) ∧ W.cell? ⟨w.heap.size, 4, none⟩ = some (.int .u32 (d : Int))) := fun W hb => by
    have hh : W.heap[w.heap.size]? = some (.cells #[.int .i64 k, .int .u64 (ma : Int), .int .u64 (mb : Int), .int .u64 (mc : Int), .int .u32 (d : Int)] 25 (0, 0)) := by
      rw [hb.block _ (by rw [← hwa]; simp), ← hwa]; exact new1 _ _
    refine ⟨?_, ?_, ?_, ?_, ?_⟩
    iterate 5 (rw [cell_of_row W _ _ _ _ (0, 0) hh]; rfl)
  have HA : Hid (Below w.heap.size w wa) := by rw [← hwa]; exact bal (Below.refl _ _) _
  have hB := Below.refl wa.heap.size wa
  go_enter Try.func3, Try.ntmps3
  go_upto_if 28 with (first
    | (go_at_call 7; with_reducible refine (HF.out _).mono ?_; rintro e w1 ⟨rfl, hb⟩; replace hB := bnext hB hb; clear hb)
    | (go_at_call 8; with_reducible refine (HP.out _).mono ?_; rintro e w2 ⟨rfl, hb⟩; replace hB := bnext hB hb; clear hb))
  clear hwa HF
  go_cut [] from 12 to 56 (fun wx => Hid (Below wa.heap.size wa wx))
  case first =>
    by_cases h1 : item.size ≤ 1048576
    · have z1 : (item.size : Int) ≤ 1048576 := by omega
      rw [payS, if_pos (by rw [size_list]; exact h1)] at hspl
      have hss : sp.size = item.size + 8 := by rw [← size_list, hspl, pay_len, size_list]
      obtain ⟨st, hst⟩ : ∃ st : ByteArray, (⟨(sp.data.toList ++ tail.data.toList).toArray⟩ : ByteArray) = st := ⟨_, rfl⟩
      have hstl : st.data.toList = sp.data.toList ++ tail.data.toList := by rw [← hst]
      have hsts : st.size = sp.size + tail.size := by rw [← size_list, hstl, List.length_append, size_list, size_list]
      have ka := add_of' sp tail st _ _ rfl rfl hst (by omega)
      have HR : Hid (∀ W, Calls Try.prog 9 #[.string st] W fun e w' => e = .returned (.tuple #[.string item, .int .i64 (sp.size : Int), .int .i64 0]) ∧ Below W.heap.size W w') := fun W => rpayload_any W st (by omega) item sp.size 0 (by
        rw [hstl, hspl, rpT_yes (rpay_pay item.data.toList tail.data.toList (by rw [size_list]; exact h1)), size_list, hss])
      have z2 : (sp.size : Int) = (item.size : Int) + 8 := by omega
      have z3 : IntKind.i64.wrap ((item.size : Int) + 8) = (item.size : Int) + 8 := by rw [IntKind.wrap_i64]; omega
      clear hspl hst hstl hsts hss hsp
      go_wp2_with (go_at_call 9; with_reducible refine (HR.out _).mono ?_; rintro e w3 ⟨rfl, hb3⟩; replace hB := bnext hB hb3; clear hb3)
      go_meet
      case rel => exact hB
    · have z1 : ¬ (item.size : Int) ≤ 1048576 := by omega
      go_wp2_with fail
      go_meet
      case rel => exact hB
  case rest =>
    replace hB := hcut.out
    clear hcut HP hsp hspl
    go_upto_region 8 with fail
    go_cut [64] from 57 to 63 (fun x wx => x = .bool (decide (1 ≤ dg.size ∧ dg.size ≤ 32)) ∧ wx = wc)
    case first =>
      by_cases h1 : 1 ≤ dg.size
      · by_cases h2 : dg.size ≤ 32
        · have z1 : (1 : Int) ≤ (dg.size : Int) := by omega
          have z2 : (dg.size : Int) ≤ 32 := by omega
          have z3 : decide (1 ≤ dg.size ∧ dg.size ≤ 32) = true := by simp [h1, h2]
          go_wp2_with fail
          go_meet
          case rel => exact ⟨by rw [z3], rfl⟩
        · have z1 : (1 : Int) ≤ (dg.size : Int) := by omega
          have z2 : ¬ (dg.size : Int) ≤ 32 := by omega
          have z3 : decide (1 ≤ dg.size ∧ dg.size ≤ 32) = false := by simp [h2]
          go_wp2_with fail
          go_meet
          case rel => exact ⟨by rw [z3], rfl⟩
      · have z1 : ¬ (1 : Int) ≤ (dg.size : Int) := by omega
        have z3 : decide (1 ≤ dg.size ∧ dg.size ≤ 32) = false := by simp [h1]
        go_wp2_with fail
        go_meet
        case rel => exact ⟨by rw [z3], rfl⟩
    obtain ⟨rfl, rfl⟩ := hcut
    go_upto_if 64 with fail
    go_cut [] from 12 to 81 (fun wx => Hid (Below wa.heap.size wa wx))
    case first =>
      by_cases h1 : 1 ≤ dg.size
      · by_cases h2 : dg.size ≤ 32
        · have z1 : (1 : Int) ≤ (dg.size : Int) := by omega
          have z2 : (dg.size : Int) ≤ 32 := by omega
          have z3 : decide (1 ≤ dg.size ∧ dg.size ≤ 32) = true := by simp [h1, h2]
          rw [z3]
          obtain ⟨t, htt⟩ : ∃ t : ByteArray, (⟨(nodS p dg.data.toList).toArray⟩ : ByteArray) = t := ⟨_, rfl⟩
          have htl : t.data.toList = nod p dg.data.toList := by rw [← htt, nodS, if_pos (by rw [size_list]; exact h2)]
          have HN : Hid (∀ W, Calls Try.prog 11 #[.int .u64 (p : Int), .string dg] W fun e w' => e = .returned (.string t) ∧ Below W.heap.size W w') := fun W => node_any W p hp dg (by omega) t htt
          have HR : Hid (∀ W, Calls Try.prog 10 #[.int .i64 (dg.size : Int), .int .u64 (p : Int), .string t] W fun e w' => e = .returned (.tuple #[.string dg, .int .i64 0]) ∧ Below W.heap.size W w') := fun W => rnode_any W dg.size p hp t dg 0 (by
            rw [htl, rnT_yes ⟨z1, z2⟩ (x := dg.data.toList)]
            rw [Int.toNat_natCast, ← size_list]
            exact rnod_nod p _ (by rw [size_list]; exact h2))
          clear htt htl
          go_wp2_with (first
            | (go_at_call 11; with_reducible refine (HN.out _).mono ?_; rintro e w3 ⟨rfl, hb3⟩; replace hB := bnext hB hb3; clear hb3)
            | (go_at_call 10; with_reducible refine (HR.out _).mono ?_; rintro e w3 ⟨rfl, hb3⟩; replace hB := bnext hB hb3; clear hb3))
          go_meet
          case rel => exact hB
        · rw [show decide (1 ≤ dg.size ∧ dg.size ≤ 32) = false by simp [h2]]
          go_wp2_with fail
          go_meet
          case rel => exact hB
      · rw [show decide (1 ≤ dg.size ∧ dg.size ≤ 32) = false by simp [h1]]
        go_wp2_with fail
        go_meet
        case rel => exact hB
    case rest =>
      replace hB := hcut.out
      clear hcut
      obtain ⟨c0, c1, c2, c3, c4⟩ := HC.out _ hB
      obtain ⟨sm, hsm⟩ : ∃ sm : ByteArray, (⟨(mrk ⟨k, ma, mb, mc, md⟩).toArray⟩ : ByteArray) = sm := ⟨_, rfl⟩
      have hsml : sm.data.toList = mrk ⟨k, ma, mb, mc, md⟩ := by rw [← hsm]
      have HMi : Hid (∀ W, Calls Try.prog 14 #[.agg #[.int .i64 k, .int .u64 (ma : Int), .int .u64 (mb : Int), .int .u64 (mc : Int), .int .u32 (d : Int)]] W fun e w' => e = .returned (.agg #[.int .i64 k, .int .u64 (ma : Int), .int .u64 (mb : Int), .int .u64 (mc : Int), .int .u32 (d : Int)]) ∧ Below W.heap.size W w') := fun W => mine_any W _ _ _ _ _
      have HMa : Hid (∀ W, Calls Try.prog 13 #[.agg #[.int .i64 k, .int .u64 (ma : Int), .int .u64 (mb : Int), .int .u64 (mc : Int), .int .u32 (d : Int)]] W fun e w' => e = .returned (.string sm) ∧ Below W.heap.size W w') := fun W => by
        have := mark_any W ⟨k, ma, mb, mc, md⟩ ha hb hc sm hsm
        unfold mC at this
        simp only [hd] at this
        exact this
      obtain ⟨x, xe, hx⟩ : ∃ x xe, rmT sm.data.toList = (x, xe) := ⟨_, _, rfl⟩
      obtain ⟨xk, xa, xb, xc, xd⟩ := x
      obtain ⟨x5, hx5⟩ : ∃ x5, xd.toNat = x5 := ⟨_, rfl⟩
      have HRm : Hid (∀ W, Calls Try.prog 12 #[.string sm] W fun e w' => e = .returned (.tuple #[.agg #[.int .i64 xk, .int .u64 (xa : Int), .int .u64 (xb : Int), .int .u64 (xc : Int), .int .u32 (x5 : Int)], .int .i64 xe]) ∧ Below W.heap.size W w') := fun W => by
        have := rmark_any W sm _ xe hx
        unfold mC at this
        simp only [hx5] at this
        exact this
      have HX : Hid (1 ≤ k ∧ k ≤ 32 → xk = k ∧ xa = ma ∧ xb = mb ∧ xc = mc ∧ x5 = d ∧ xe = 0) := fun hk => by
        rw [hsml, rmT_yes (rmrk_mrk _ ⟨hk.1, hk.2, ha, hb, hc⟩)] at hx
        simp only [Prod.mk.injEq, MV.mk.injEq] at hx
        obtain ⟨⟨q1, q2, q3, q4, q5⟩, q6⟩ := hx
        exact ⟨q1.symm, q2.symm, q3.symm, q4.symm, by rw [← hx5, ← hd, q5], q6.symm⟩
      clear hx hx5 hsm hsml
      go_upto_region 13 with (first
        | (go_at_call 14; with_reducible refine (HMi.out _).mono ?_; rintro e w3 ⟨rfl, hb3⟩; replace hB := bnext hB hb3; clear hb3)
        | (go_at_call 13; with_reducible refine (HMa.out _).mono ?_; rintro e w3 ⟨rfl, hb3⟩; replace hB := bnext hB hb3; clear hb3)
        | (go_at_call 12; with_reducible refine (HRm.out _).mono ?_; rintro e w4 ⟨rfl, hb3⟩; replace hB := bnext hB hb3; clear hb3))
      obtain ⟨bx, hbx⟩ : ∃ bx, w4.heap.size = bx := ⟨_, rfl⟩
      obtain ⟨wr, hwr⟩ : ∃ wr, w4.alloc (.cells #[.int .i64 xk, .int .u64 (xa : Int), .int .u64 (xb : Int), .int .u64 (xc : Int), .int .u32 (x5 : Int)] 34) = wr := ⟨_, rfl⟩
      have HCX : Hid (∀ Z, Below wr.heap.size wr Z → (Z.cell? ⟨w.heap.size, 0, none⟩ = some (.int .i64 k) ∧ Z.cell? ⟨w.heap.size, 1, none⟩ = some (.int .u64 (ma : Int)) ∧ Z.cell? ⟨w.heap.size, 2, none⟩ = some (.int .u64 (mb : Int)) ∧ Z.cell? ⟨w.heap.size, 3, none⟩ = some (.int .u64 (mc : Int)) ∧ Z.cell? ⟨w.heap.size, 4, none⟩ = some (.int .u32 (d : Int))) ∧ Z.cell? ⟨bx, 0, none⟩ = some (.int .i64 xk) ∧ Z.cell? ⟨bx, 1, none⟩ = some (.int .u64 (xa : Int)) ∧ Z.cell? ⟨bx, 2, none⟩ = some (.int .u64 (xb : Int)) ∧ Z.cell? ⟨bx, 3, none⟩ = some (.int .u64 (xc : Int)) ∧ Z.cell? ⟨bx, 4, none⟩ = some (.int .u32 (x5 : Int))) := fun Z hz => by
        have hh : Z.heap[bx]? = some (.cells #[.int .i64 xk, .int .u64 (xa : Int), .int .u64 (xb : Int), .int .u64 (xc : Int), .int .u32 (x5 : Int)] 34 (0, 0)) := by
          rw [hz.block _ (by rw [← hwr, ← hbx]; simp), ← hwr, ← hbx]; exact new1 _ _
        refine ⟨HC.out _ (bnext (by rw [← hwr]; exact bal hB _) hz), ?_, ?_, ?_, ?_, ?_⟩
        iterate 5 (rw [cell_of_row Z _ _ _ _ (0, 0) hh]; rfl)
      have HBR : Hid (Below wa.heap.size wa wr) := by rw [← hwr]; exact bal hB _
      rw [hwr, hbx]
      clear hwr hbx hB c0 c1 c2 c3 c4 HMa HRm
      have tw := bdrew (Below.refl wr.heap.size wr)
      go_cut [106] from 89 to 105 (fun x wx => x = .bool false ∧ Hid (Below wa.heap.size wa wx))
      case first =>
        by_cases h1 : 1 ≤ k
        · by_cases h2 : k ≤ 32
          · obtain ⟨rfl, rfl, rfl, rfl, rfl, rfl⟩ := HX.out ⟨h1, h2⟩
            have g1 : decide (1 ≤ xk) = true := by simp [h1]
            have g2 : decide (xk ≤ 32) = true := by simp [h2]
            go_region_held3 (fun Z => (Z.cell? ⟨w.heap.size, 0, none⟩ = some (.int .i64 xk) ∧ Z.cell? ⟨w.heap.size, 1, none⟩ = some (.int .u64 (xa : Int)) ∧ Z.cell? ⟨w.heap.size, 2, none⟩ = some (.int .u64 (xb : Int)) ∧ Z.cell? ⟨w.heap.size, 3, none⟩ = some (.int .u64 (xc : Int)) ∧ Z.cell? ⟨w.heap.size, 4, none⟩ = some (.int .u32 (x5 : Int))) ∧ Z.cell? ⟨bx, 0, none⟩ = some (.int .i64 xk) ∧ Z.cell? ⟨bx, 1, none⟩ = some (.int .u64 (xa : Int)) ∧ Z.cell? ⟨bx, 2, none⟩ = some (.int .u64 (xb : Int)) ∧ Z.cell? ⟨bx, 3, none⟩ = some (.int .u64 (xc : Int)) ∧ Z.cell? ⟨bx, 4, none⟩ = some (.int .u32 (x5 : Int))) (first | assumption | (exact HCX.out _ tw)) (first | (go_at_call 14; with_reducible refine (HMi.out _).mono ?_; rintro e w6 ⟨rfl, hb6⟩; replace tw := bnext tw hb6; clear hb6))
            go_wp2_with fail
            go_meet
            case rel => exact ⟨rfl, bnext HBR.out tw⟩
          · have g1 : decide (1 ≤ k) = true := by simp [h1]
            have g2 : decide (k ≤ 32) = false := by simp [h2]
            obtain ⟨⟨c0, _⟩, _⟩ := HCX.out wr (Below.refl _ _)
            go_quiet (fail)
            all_goals
              go_wp2_with fail
              go_meet
              case rel => exact ⟨rfl, below_drewN HBR.out _⟩
        · have g1 : decide (1 ≤ k) = false := by simp [h1]
          obtain ⟨⟨c0, _⟩, _⟩ := HCX.out wr (Below.refl _ _)
          go_quiet (fail)
          all_goals
            go_wp2_with fail
            go_meet
            case rel => exact ⟨rfl, below_drewN HBR.out _⟩
      case rest =>
        obtain ⟨rfl, HB⟩ := hcut
        have hB := HB.out
        clear HB HBR HCX tw HX HMi
        obtain ⟨y, yn, ye, hy⟩ : ∃ y yn ye, rpT tail.data.toList = (y, yn, ye) := ⟨_, _, _, rfl⟩
        have HRp : Hid (∀ W, Calls Try.prog 9 #[.string tail] W fun e w' => e = .returned (.tuple #[.string y, .int .i64 (yn : Int), .int .i64 ye]) ∧ Below W.heap.size W w') := fun W => rpayload_any W tail (by omega) y yn ye hy
        go_upto_region 16 with (first
          | (go_at_call 9; with_reducible refine (HRp.out _).mono ?_; rintro e w7 ⟨rfl, hb3⟩; replace hB := bnext hB hb3; clear hb3))
        have tw := bdrew (Below.refl w7.heap.size w7)
        go_cut [132] from 113 to 131 (fun x wx => x = .bool false ∧ Hid (Below wa.heap.size wa wx))
        case first =>
          cases hq : rpay tail.data.toList with
          | none =>
            rw [rpT_no hq] at hy
            obtain ⟨rfl, rfl, rfl⟩ : (⟨#[]⟩ : ByteArray) = y ∧ 0 = yn ∧ 180 = ye := by simpa using hy
            clear hy hq
            go_quiet (fail)
            go_wp2_with fail
            go_meet
            case rel => exact ⟨rfl, below_drewN hB _⟩
          | some x =>
            rw [rpT_yes hq] at hy
            obtain ⟨h1, h2, h3, _⟩ := rpay_len hq
            obtain ⟨hy', hN, rfl⟩ : (⟨x.toArray⟩ : ByteArray) = y ∧ x.length + 8 = yn ∧ 0 = ye := by simpa using hy
            rw [hN] at h2 h3
            rw [size_list] at h2
            have g1 : decide ((yn : Int) < 0) = false := decide_eq_false (by omega)
            have g2 : decide ((tail.size : Int) < (yn : Int)) = false := decide_eq_false (by omega)
            have g5 : decide (tail.size < yn) = false := decide_eq_false (by omega)
            have g3 : (0 : Int) ≤ (yn : Int) := by omega
            have g4 : (yn : Int) ≤ (tail.size : Int) := by omega
            obtain ⟨tn, htn⟩ : ∃ tn, tail.extract 0 yn = tn := ⟨_, rfl⟩
            have htnl : tn.data.toList = tail.data.toList.take yn := by rw [← htn, ext_take]
            have hyl : y.data.toList = x := by rw [← hy']
            have hys : y.size = x.length := by rw [← size_list, hyl]
            have HPy : Hid (∀ W, Calls Try.prog 8 #[.string y] W fun e w' => e = .returned (.string tn) ∧ Below W.heap.size W w') := fun W => payload_any W y (by omega) tn (ba_ext (by rw [htnl, ← h3, hyl, payS, if_pos h1]))
            clear hy hq h1 h2 h3 hN htnl hy' hyl hys HRp
            go_region_held3 (fun _ => True) (first | exact True.intro) (first | (go_at_call 8; with_reducible refine (HPy.out _).mono ?_; rintro e w8 ⟨rfl, hb8⟩))
            all_goals
              go_wp2_with fail
              go_meet
              case rel => exact ⟨rfl, bnext hB (bnext tw hb8)⟩
        case rest =>
          obtain ⟨rfl, HB⟩ := hcut
          have hB := HB.out
          clear HB tw
          obtain ⟨z, ze, hz⟩ : ∃ z ze, rmT tail.data.toList = (z, ze) := ⟨_, _, rfl⟩
          cases hq : rmrk tail.data.toList with
          | none =>
            rw [rmT_no hq] at hz
            have HRm : Hid (∀ W, Calls Try.prog 12 #[.string tail] W fun e w' => e = .returned (.tuple #[.agg #[.int .i64 0, .int .u64 0, .int .u64 0, .int .u64 0, .int .u32 0], .int .i64 180]) ∧ Below W.heap.size W w') := fun W => rmark_any W tail MV.z 180 (rmT_no hq)
            go_wp2_with (go_at_call 12; with_reducible refine (HRm.out _).mono ?_; rintro e w7 ⟨rfl, hb3⟩; replace hB := bnext hB hb3; clear hb3)
            go_ret
            exact ⟨rfl, bnext HA.out (bal hB _)⟩
          | some x =>
            obtain ⟨xk, xa, xb, xc, xd⟩ := x
            obtain ⟨x5, hx5⟩ : ∃ x5, xd.toNat = x5 := ⟨_, rfl⟩
            have HRm : Hid (∀ W, Calls Try.prog 12 #[.string tail] W fun e w' => e = .returned (.tuple #[.agg #[.int .i64 xk, .int .u64 (xa : Int), .int .u64 (xb : Int), .int .u64 (xc : Int), .int .u32 (x5 : Int)], .int .i64 0]) ∧ Below W.heap.size W w') := fun W => by
              have := rmark_any W tail _ 0 (rmT_yes hq)
              unfold mC at this
              simp only [hx5] at this
              exact this
            have hmo : mOf tail.data.toList = ⟨xk, xa, xb, xc, xd⟩ ∧ tail.data.toList.length = 64 ∧ mrk (mOf tail.data.toList) = tail.data.toList := by
              unfold rmrk at hq
              split at hq
              · rename_i hh
                exact ⟨by injection hq, hh⟩
              · cases hq
            have hsz : xa < 256 ^ 8 ∧ xb < 256 ^ 8 ∧ xc < 256 ^ 8 := by
              have e1 := congrArg MV.size hmo.1
              have e2 := congrArg MV.items hmo.1
              have e3 := congrArg MV.nodes hmo.1
              simp only [mOf] at e1 e2 e3
              rw [← e1, ← e2, ← e3]
              exact ⟨num_le _ 8 (by simp; omega), num_le _ 8 (by simp; omega), num_le _ 8 (by simp; omega)⟩
            have HMz : Hid (∀ W, Calls Try.prog 13 #[.agg #[.int .i64 xk, .int .u64 (xa : Int), .int .u64 (xb : Int), .int .u64 (xc : Int), .int .u32 (x5 : Int)]] W fun e w' => e = .returned (.string tail) ∧ Below W.heap.size W w') := fun W => by
              have := mark_any W ⟨xk, xa, xb, xc, xd⟩ hsz.1 hsz.2.1 hsz.2.2 tail (ba_ext (by rw [← hmo.1]; exact hmo.2.2))
              unfold mC at this
              simp only [hx5] at this
              exact this
            clear hz hq hx5 hmo hsz
            go_wp2_with (first
              | (go_at_call 12; with_reducible refine (HRm.out _).mono ?_; rintro e w7 ⟨rfl, hb3⟩; replace hB := bal (bnext hB hb3) (.cells #[.int .i64 xk, .int .u64 (xa : Int), .int .u64 (xb : Int), .int .u64 (xc : Int), .int .u32 (x5 : Int)] 34); clear hb3)
              | (go_at_call 13; with_reducible refine (HMz.out _).mono ?_; rintro e w8 ⟨rfl, hb3⟩; replace hB := bnext hB hb3; clear hb3))
            go_ret
            exact ⟨rfl, bnext HA.out hB⟩
end Go.Proofs.Ytggkjleibhpnfaa
