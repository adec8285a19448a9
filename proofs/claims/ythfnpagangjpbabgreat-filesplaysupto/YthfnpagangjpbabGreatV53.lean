/-
  Own work: FGd.
-/
import Derived.BigQuiet
import Derived.Test.YthfnpagangjpbabGreatV50
import Derived.Test.YthfnpagangjpbabGreatV51
namespace Go.Proofs.YthfnpagangjpbabGreat
open Go.RowKit
open Rc
attribute [local go_sem ↓] Go.wp_at_zero Go.wp_at_succ
attribute [local go_sem ↓] exec_appR
theorem rdR_none {k : Nat} {s : List UInt8} {j : Nat} (h : rdR k s j = none) : ∀ c, j ≤ c → rdR k s c = none := fun c hc => by
  induction c with
  | zero => obtain rfl : j = 0 := by omega
            exact h
  | succ c ih =>
    by_cases e : j = c + 1
    · rw [← e]; exact h
    · rw [rdR, ih (by omega)]
theorem rdR_no1 {k : Nat} {s : List UInt8} {j : Nat} {l : List MV} (h : rdR k s j = some l) (hm : rmrk (rowM s j) = none) : rdR k s (j + 1) = none := by rw [rdR, h]; simp only; rw [hm]
theorem rdR_no2 {k : Nat} {s : List UInt8} {j : Nat} {l : List MV} (h : rdR k s j = some l) {m : MV} (hm : rmrk (rowM s j) = some m) (hn : nxR k l m = false) : rdR k s (j + 1) = none := by
  rw [rdR, h]; simp only; rw [hm]; simp only; rw [if_neg (by rw [hn]; decide)]
theorem rdR_yes {k : Nat} {s : List UInt8} {j : Nat} {l : List MV} (h : rdR k s j = some l) {m : MV} (hm : rmrk (rowM s j) = some m) (hn : nxR k l m = true) : rdR k s (j + 1) = some (l ++ [m]) := by
  rw [rdR, h]; simp only; rw [hm]; simp only; rw [if_pos hn]
theorem bgM_last (l : List MV) (j : Nat) (hl : l.length = j + 1) : bgM l = (l.getD j MV.z).items := by
  rcases List.eq_nil_or_concat l with rfl | ⟨a, b, rfl⟩
  · simp at hl
  · rw [List.concat_eq_append] at *
    have e : a.length = j := by simp at hl; omega
    rw [bgM_snoc, ← e, getD_snoc_eq]
def ReQ (w : World) (o : Option (List MV)) (e : Ending) (w' : World) : Prop := Below w.heap.size w w' ∧ match o with
  | none => e = .returned (.tuple #[.slice none 0 0, .bool false])
  | some l => ∃ va vc, e = .returned (.tuple #[.slice va l.length vc, .bool true]) ∧ OwnK w' w.heap.size (.slice va l.length vc) l
theorem nxR_false {k : Nat} {l : List MV} {m : MV} {j : Nat} (hl : l.length = j) (h : ¬ (j < 65536 ∧ m.size = j + 1 ∧ m.k = (k : Int) ∧ bgM l < m.items ∧ m.nodes = 40 * nn m.size)) : nxR k l m = false := by
  cases hq : nxR k l m
  · rfl
  · have := nxR_iff.1 hq
    rw [hl] at this
    exact absurd this h
set_option maxRecDepth 100000 in
set_option maxHeartbeats 4000000 in
theorem rread19_any (w : World) (s : ByteArray) (hs : s.size ≤ 268435456) (k : Nat) (S : List UInt8) (hS : s.data.toList = S) :
    Calls Tryz.prog 71 #[.string s, .int .i64 (k : Int)] w (ReQ w (rdR k S (cntM S))) := by
  obtain ⟨n, hn⟩ : ∃ n, s.size / 64 = n := ⟨_, rfl⟩
  have hlS : S.length = s.size := by rw [← hS, size_list]
  have hn1 : (s.size : Int) / 64 = (n : Int) := by omega
  have hn2 : (s.size : Int).tdiv 64 = (n : Int) := by rw [Int.tdiv_eq_ediv_of_nonneg (by omega)]; exact hn1
  have hn3 : IntKind.i64.wrap (n : Int) = (n : Int) := by rw [IntKind.wrap_i64]; omega
  have hcn : cntM S = if 0 < n ∧ rowM S (n - 1) = zer 64 then n - 1 else n := by unfold cntM; rw [hlS, hn]
  have hn64 : 64 * n ≤ s.size := by omega
  obtain ⟨z64, hz64⟩ : ∃ z, tx (zer 64) = z := ⟨_, rfl⟩
  have HZr : Hid (∀ W, Calls Tryz.prog 115 #[.int .i64 64] W fun e w' => e = .returned (.string z64) ∧ Below W.heap.size W w') := fun W => refzeros_any W 64 (by decide) z64 hz64
  have HRm : Hid (∀ W x m, rmrk x = some m → Calls Tryz.prog 116 #[.string (tx x)] W fun e w' => e = .returned (.tuple #[.agg #[.int .i64 m.k, .int .u64 (m.size : Int), .int .u64 (m.items : Int), .int .u64 (m.nodes : Int), .int .u32 (m.chain.toNat : Int)], .int .i64 0]) ∧ Below W.heap.size W w') := fun W x m hx => refrmark_any W (tx x) m 0 (rmT_yes hx)
  have HRn : Hid (∀ W x, rmrk x = none → Calls Tryz.prog 116 #[.string (tx x)] W fun e w' => e = .returned (.tuple #[.agg #[.int .i64 0, .int .u64 0, .int .u64 0, .int .u64 0, .int .u32 0], .int .i64 180]) ∧ Below W.heap.size W w') := fun W x hx => refrmark_any W (tx x) MV.z 180 (rmT_no hx)
  have HS : Hid (s.data.toList = S ∧ 64 * n ≤ s.size ∧ s.size ≤ 268435456 ∧ tx (zer 64) = z64 ∧ cntM S = if 0 < n ∧ rowM S (n - 1) = zer 64 then n - 1 else n) := ⟨hS, hn64, hs, hz64, hcn⟩
  obtain ⟨o, ho⟩ : ∃ o, rdR k S (cntM S) = o := ⟨_, rfl⟩
  have HO := hide ho
  rw [ho]
  clear hn hn64 hs hlS hz64 hcn hS ho
  clear hn1
  go_enter Tryz.func71, Tryz.ntmps71
  go_wp2
  go_loopg [6, 8] n (fun g v y wr => ∃ (j : Nat) (l : List MV), j ≤ n ∧ g = n - j ∧ y = .int .i64 (j : Int) ∧ Hid (rdR k S j = some l ∧ OwnK wr w.heap.size v l ∧ Below w.heap.size w wr ∧ j ≤ cntM S))
  case atStart =>
    go_light
    refine ⟨0, [], Nat.zero_le _, rfl, rfl, rfl, ownK_nil _ _, Below.refl _ _, Nat.zero_le _⟩
  case round =>
    obtain ⟨j, l, hj, rfl, rfl, HL⟩ := hrel
    clear hn2 hn3
    have hll := rdR_len HL.out.1
    obtain ⟨ao, b, cap, hv, rd, _⟩ := ownK_rd HL.out.2.1
    obtain ⟨ln, hln⟩ : ∃ m, l.length = m := ⟨_, rfl⟩
    rw [hln] at hv
    subst hv
    have HB : Hid (∀ W, Below wr.heap.size wr W → OwnK W w.heap.size (.slice ao ln cap) l ∧ Below w.heap.size w W ∧ RdK W ao b l) := fun W hW => ⟨ownK_next HL.out.2.1 hW, bnext HL.out.2.2.1 hW, rd.next hW⟩
    have HLl : Hid (l.length = j ∧ l.length = ln) := ⟨hll, hln⟩
    by_cases hlt : j < n
    · have hz : (j : Int) < (n : Int) := by omega
      obtain ⟨q1, q2, q3, q4, q5⟩ := HS.out
      obtain ⟨o1, ho1⟩ : ∃ x, 64 * j = x := ⟨_, rfl⟩
      obtain ⟨j1, hj1⟩ : ∃ x, j + 1 = x := ⟨_, rfl⟩
      obtain ⟨o2, ho2⟩ : ∃ x, 64 * j1 = x := ⟨_, rfl⟩
      obtain ⟨m1, hm1⟩ : ∃ x, n - 1 = x := ⟨_, rfl⟩
      have ew1 : IntKind.i64.wrap (64 * (j : Int)) = (o1 : Int) := by rw [IntKind.wrap_i64]; omega
      have ew2 : IntKind.i64.wrap ((j : Int) + 1) = (j1 : Int) := by rw [IntKind.wrap_i64]; omega
      have ew3 : IntKind.i64.wrap (64 * (j1 : Int)) = (o2 : Int) := by rw [IntKind.wrap_i64]; omega
      have ew4 : IntKind.i64.wrap ((n : Int) - 1) = (m1 : Int) := by rw [IntKind.wrap_i64]; omega
      have b1 : (0 : Int) ≤ (o1 : Int) := by omega
      have b2 : (o1 : Int) ≤ (o2 : Int) := by omega
      have b3 : (o2 : Int) ≤ (s.size : Int) := by omega
      have hex : s.extract o1 o2 = tx (rowM S j) := Rc.ba_ext (by rw [ext_mid, q1, tx_data, rowM, ho1]; congr 1; omega)
      obtain ⟨row, hrow⟩ : ∃ x, rowM S j = x := ⟨_, rfl⟩
      rw [hrow] at hex
      have HQ : Hid (j + 1 = j1 ∧ rowM S j = row ∧ n - 1 = m1 ∧ j < n ∧ n ≤ 4194304) := ⟨hj1, hrow, hm1, hlt, by omega⟩
      have HP : Hid (tx row = z64 ↔ row = zer 64) := by
        rw [← q4]
        exact ⟨fun h => by have := congrArg (fun x : ByteArray => x.data.toList) h; simpa [tx_data] using this, fun h => by rw [h]⟩
      clear q1 q2 q3 q4 q5 ho1 hj1 ho2 hm1 hrow hll hln rd hj
      obtain ⟨xr, hxr⟩ : ∃ x, tx row = x := ⟨_, rfl⟩
      rw [hxr] at hex HP
      have HRm2 : Hid (∀ W m, rmrk row = some m → Calls Tryz.prog 116 #[.string xr] W fun e w' => e = .returned (.tuple #[.agg #[.int .i64 m.k, .int .u64 (m.size : Int), .int .u64 (m.items : Int), .int .u64 (m.nodes : Int), .int .u32 (m.chain.toNat : Int)], .int .i64 0]) ∧ Below W.heap.size W w') := fun W m hm => by rw [← hxr]; exact HRm.out W row m hm
      have HRn2 : Hid (∀ W, rmrk row = none → Calls Tryz.prog 116 #[.string xr] W fun e w' => e = .returned (.tuple #[.agg #[.int .i64 0, .int .u64 0, .int .u64 0, .int .u64 0, .int .u32 0], .int .i64 180]) ∧ Below W.heap.size W w') := fun W hm => by rw [← hxr]; exact HRn.out W row hm
      clear hxr HRm HRn
      go_upto_region 7 with (fail)
      go_cut [36] from 16 to 89 (fun v wx => v = .bool (decide (j = m1 ∧ row = zer 64)) ∧ Hid (Below wr.heap.size wr wx))
      case first =>
        by_cases hjm : j = m1
        · have hjm2 : (j : Int) = (m1 : Int) := by omega
          have hjm3 : ((j : Int) == (m1 : Int)) = true := by simpa using hjm2
          clear hjm2
          have HE : Hid ((xr.toList == z64.toList) = decide (j = m1 ∧ row = zer 64)) := by
            by_cases h : xr = z64
            · rw [beq_yes h]; exact (decide_eq_true ⟨hjm, HP.out.1 h⟩).symm
            · rw [beq_ne h]; exact (decide_eq_false fun q => h (HP.out.2 q.2)).symm
          generalize decide (j = m1 ∧ row = zer 64) = dd at *
          have hE := HE.out
          clear hjm
          go_wp2_with (go_at_call 115; (with_reducible refine (HZr.out _).mono ?_); rintro e w1 ⟨rfl, u1⟩)
          go_meet
          case rel =>
            go_light
            exact ⟨by first | rfl | simp_all, u1⟩
        · have hjm2 : ¬ (j : Int) = (m1 : Int) := by omega
          have hjm3 : ((j : Int) == (m1 : Int)) = false := by simpa using hjm2
          have HE : Hid (decide (j = m1 ∧ row = zer 64) = false) := decide_eq_false fun q => hjm q.1
          generalize decide (j = m1 ∧ row = zer 64) = dd at *
          clear hjm
          go_wp2
          go_meet
          case rel =>
            go_light
            exact ⟨by rw [HE.out], Below.refl _ _⟩
      case rest =>
      obtain ⟨rfl, HBc⟩ := hcut
      obtain ⟨w2, hw2⟩ : ∃ W, W = wc := ⟨_, rfl⟩
      subst hw2
      by_cases hz0 : j = m1 ∧ row = zer 64
      · rw [decide_eq_true hz0]
        have HZ : Hid (ReQ w o (.returned (.tuple #[.slice ao ln cap, .bool true])) w2) := by
          obtain ⟨g1, g2, g3, g4, g5⟩ := HQ.out
          obtain ⟨p1, p2, p3⟩ := HB.out w2 HBc.out
          have hc : cntM S = j := by
            rw [HS.out.2.2.2.2, if_pos ⟨by omega, by rw [g3, ← hz0.1, g2]; exact hz0.2⟩]; omega
          have : o = some l := by rw [← HO.out, hc]; exact HL.out.1
          rw [this]
          refine ⟨p2, ao, cap, by rw [HLl.out.2], ?_⟩
          rw [HLl.out.2]
          exact p1
        clear hz0 HB HL HS HQ HP HRm2 HRn2 HBc HO
        go_wp2
        go_ret2
        exact HZ.out
      · rw [decide_eq_false hz0]
        have HC : Hid (j + 1 ≤ cntM S) := by
          obtain ⟨g1, g2, g3, g4, g5⟩ := HQ.out
          show _ ≤ _
          rw [HS.out.2.2.2.2]
          split
          · rename_i hc
            by_cases e : j = m1
            · exact absurd ⟨e, by rw [← g2, e, ← g3]; exact hc.2⟩ hz0
            · omega
          · omega
        obtain ⟨m, re, HM, HOK⟩ : ∃ (m : MV) (re : Int), Hid (∀ W, Calls Tryz.prog 116 #[.string xr] W fun e w' => e = .returned (.tuple #[.agg #[.int .i64 m.k, .int .u64 (m.size : Int), .int .u64 (m.items : Int), .int .u64 (m.nodes : Int), .int .u32 (m.chain.toNat : Int)], .int .i64 re]) ∧ Below W.heap.size W w') ∧ Hid ((re = 0 ∧ rmrk row = some m) ∨ (re = 180 ∧ rmrk row = none)) := by
          cases hm : rmrk row with
          | none => exact ⟨MV.z, 180, fun W => HRn2.out W hm, .inr ⟨rfl, rfl⟩⟩
          | some m => exact ⟨m, 0, fun W => HRm2.out W m hm, .inl ⟨rfl, rfl⟩⟩
        obtain ⟨mk, ek⟩ : ∃ x, m.k = x := ⟨_, rfl⟩
        obtain ⟨ms, es⟩ : ∃ x, m.size = x := ⟨_, rfl⟩
        obtain ⟨mi, ei⟩ : ∃ x, m.items = x := ⟨_, rfl⟩
        obtain ⟨mn, en⟩ : ∃ x, m.nodes = x := ⟨_, rfl⟩
        obtain ⟨mc, ec⟩ : ∃ x, m.chain.toNat = x := ⟨_, rfl⟩
        rw [ek, es, ei, en, ec] at HM
        obtain ⟨bl, hbl⟩ : ∃ x, bgM l = x := ⟨_, rfl⟩
        have HMM : Hid (m.k = mk ∧ m.size = ms ∧ m.items = mi ∧ m.nodes = mn ∧ m.chain.toNat = mc ∧ bgM l = bl) := ⟨ek, es, ei, en, ec, hbl⟩
        clear ek es ei en ec hbl HRm2 HRn2 hz0
        go_upto_region 11 with (go_at_call 116; (with_reducible refine (HM.out _).mono ?_); rintro e w3 ⟨rfl, u3⟩)
        have HK4 : Hid (∀ W, Below (w3.alloc (.cells #[.int .i64 mk, .int .u64 (ms : Int), .int .u64 (mi : Int), .int .u64 (mn : Int), .int .u32 (mc : Int)] 85)).heap.size (w3.alloc (.cells #[.int .i64 mk, .int .u64 (ms : Int), .int .u64 (mi : Int), .int .u64 (mn : Int), .int .u32 (mc : Int)] 85)) W → (W.cell? ⟨w3.heap.size, 0, none⟩ = some (.int .i64 mk) ∧ W.cell? ⟨w3.heap.size, 1, none⟩ = some (.int .u64 (ms : Int)) ∧ W.cell? ⟨w3.heap.size, 2, none⟩ = some (.int .u64 (mi : Int)) ∧ W.cell? ⟨w3.heap.size, 3, none⟩ = some (.int .u64 (mn : Int)) ∧ W.cell? ⟨w3.heap.size, 4, none⟩ = some (.int .u32 (mc : Int))) ∧ Below wr.heap.size wr W) := fun W hW => ⟨five_at ((hW.block w3.heap.size (by rw [al_size]; omega)).trans (new1 _ _)), bnext (bal (bnext HBc.out u3) _) hW⟩
        obtain ⟨bm, hbm⟩ : ∃ x, w3.heap.size = x := ⟨_, rfl⟩
        rw [hbm] at HK4 ⊢
        generalize w3.alloc (.cells #[.int .i64 mk, .int .u64 (ms : Int), .int .u64 (mi : Int), .int .u64 (mn : Int), .int .u32 (mc : Int)] 85) = w4 at *
        clear hbm u3 HBc HM HZr
        go_upto_if 44 with (fail)
        go_cut [12] from 16 to 89 (fun v wx => v = .int .u64 (bl : Int) ∧ wx = w4)
        case first =>
          by_cases hj0 : 0 < j
          · obtain ⟨jm, hjm⟩ : ∃ x, j - 1 = x := ⟨_, rfl⟩
            have rd4 := (HB.out w4 (HK4.out w4 (Below.refl _ _)).2).2.2
            obtain ⟨p1, p2⟩ := HLl.out
            obtain ⟨_, _, y2, _, _⟩ := rd4.c0 jm (by omega)
            rw [← bgM_last l jm (by omega), HMM.out.2.2.2.2.2] at y2
            obtain rfl := rd4.ptr (by omega)
            have g0 : (0 : Int) < (j : Int) := by omega
            have g1 : IntKind.i64.wrap ((j : Int) - 1) = (jm : Int) := by have := HQ.out.2.2.2.2; rw [IntKind.wrap_i64]; omega
            have g2 : (jm : Int) < (ln : Int) := by omega
            clear rd4 p1 p2 hjm hj0
            go_wp2
            go_meet
            case rel => exact ⟨rfl, rfl⟩
          · have g0 : ¬ (0 : Int) < (j : Int) := by omega
            have HE : Hid (0 = bl) := by
              obtain ⟨p1, p2⟩ := HLl.out
              have : l = [] := List.length_eq_zero_iff.1 (by omega)
              rw [← HMM.out.2.2.2.2.2, this]; rfl
            clear hj0
            go_wp2
            go_meet
            case rel => exact ⟨by rw [← HE.out]; rfl, rfl⟩
        case rest =>
        obtain ⟨rfl, hwc⟩ := hcut
        rw [hwc]
        clear hwc wc
        obtain ⟨⟨x0, x1, x2, x3, x4⟩, u4⟩ := HK4.out w4 (Below.refl _ _)
        have ew5 : IntKind.u64.wrap (j : Int) = (j : Int) := wrap_u _ (by omega) (by have := HQ.out.2.2.2.2; omega)
        have ew6 : IntKind.u64.wrap ((j : Int) + 1) = (j1 : Int) := by rw [wrap_u _ (by omega) (by have := HQ.out.2.2.2.2; omega)]; have := HQ.out.1; omega
        go_upto_region 13 with (fail)
        go_cut [85] from 16 to 89 (fun v wx => ∃ okb : Bool, v = .bool (!okb) ∧ Hid ((okb = true ↔ (re = 0 ∧ j < 65536 ∧ ms = j + 1 ∧ mk = (k : Int) ∧ bl < mi ∧ mn = 40 * nn ms)) ∧ Below w4.heap.size w4 wx))
        case first =>
          clear hex ew1 ew2 ew3 ew4 b1 b2 b3 HS HL HO HB HLl HP HC HOK HMM u4 hz
          have HW56 := hide (And.intro ew5 ew6)
          clear ew5 ew6
          have HJ1 := HQ.out.1
          obtain ⟨N0, hN0⟩ : ∃ x, nn ms = x := ⟨_, rfl⟩
          obtain ⟨N4, hN4⟩ : ∃ x, 40 * N0 = x := ⟨_, rfl⟩
          have HG : Hid (j + 1 = j1 ∧ nn ms = N0 ∧ 40 * N0 = N4) := ⟨HJ1, hN0, hN4⟩
          have HNn := nn_le ms
          rw [hN0] at HNn
          clear hN0 hN4
          by_cases r00 : re = 0
          rotate_left
          · have r0a : ((re : Int) != (0 : Int)) = true := by simpa using r00
            have HEn : Hid (True ∧ ¬ (re = 0)) := ⟨trivial, r00⟩
            clear HJ1 HNn r00
            obtain ⟨ew5, ew6⟩ := HW56.out
            go_quiet (fail)
            go_wp2
            go_meet
            case rel =>
              go_light
              exact ⟨false, by first | rfl | simp_all, ⟨fun h => (by cases h), fun h => by clear ew5 ew6; have := HEn.out; have := HG.out; omega⟩, below_drewN (Below.refl _ _) _⟩
          have r0a : ((re : Int) != (0 : Int)) = false := by simpa using r00
          by_cases r10 : (65536 : Int) ≤ (j : Int)
          · have r1a : decide ((65536 : Int) ≤ (j : Int)) = true := decide_eq_true r10
            have r1c : decide (65536 ≤ j) = true := decide_eq_true (by omega)
            have HEn : Hid (True ∧ re = 0 ∧ (65536 : Int) ≤ (j : Int)) := ⟨trivial, r00, r10⟩
            clear HJ1 HNn r00 r10
            obtain ⟨ew5, ew6⟩ := HW56.out
            go_quiet (fail)
            go_wp2
            go_meet
            case rel =>
              go_light
              exact ⟨false, by first | rfl | simp_all, ⟨fun h => (by cases h), fun h => by clear ew5 ew6; have := HEn.out; have := HG.out; omega⟩, below_drewN (Below.refl _ _) _⟩
          have r1a : decide ((65536 : Int) ≤ (j : Int)) = false := decide_eq_false r10
          have r1c : decide (65536 ≤ j) = false := decide_eq_false (by omega)
          by_cases r20 : (ms : Int) = (j1 : Int)
          rotate_left
          · have r2a : ((ms : Int) != (j1 : Int)) = true := by simpa using r20
            have HEn : Hid (True ∧ re = 0 ∧ ¬ ((65536 : Int) ≤ (j : Int)) ∧ ¬ ((ms : Int) = (j1 : Int))) := ⟨trivial, r00, r10, r20⟩
            clear HJ1 HNn r00 r10 r20
            obtain ⟨ew5, ew6⟩ := HW56.out
            go_quiet (fail)
            go_wp2
            go_meet
            case rel =>
              go_light
              exact ⟨false, by first | rfl | simp_all, ⟨fun h => (by cases h), fun h => by clear ew5 ew6; have := HEn.out; have := HG.out; omega⟩, below_drewN (Below.refl _ _) _⟩
          have r2a : ((ms : Int) != (j1 : Int)) = false := by simpa using r20
          by_cases r30 : mk = (k : Int)
          rotate_left
          · have r3a : ((mk : Int) != (k : Int)) = true := by simpa using r30
            have HNN : Hid (∀ W, Calls Tryz.prog 36 #[.int .u64 (ms : Int)] W fun e w' => e = .returned (.int .u64 (N0 : Int)) ∧ w' = W) := fun W => by rw [← HG.out.2.1]; exact rcount_any W ms (by have := HQ.out.2.2.2.2; omega)
            have HWN : Hid (IntKind.u64.wrap (40 * (N0 : Int)) = (N4 : Int)) := by show _ = _; rw [wrap_u _ (by omega) (by have := HQ.out.2.2.2.2; omega)]; have := HG.out.2.2; omega
            have HEn : Hid (True ∧ re = 0 ∧ ¬ ((65536 : Int) ≤ (j : Int)) ∧ (ms : Int) = (j1 : Int) ∧ ¬ (mk = (k : Int))) := ⟨trivial, r00, r10, r20, r30⟩
            clear HJ1 HNn r00 r10 r20 r30
            obtain ⟨ew5, ew6⟩ := HW56.out
            have ewN := HWN.out
            go_quiet (first | (go_at_call 36; refine Calls.quiet_of_same (HNN.out _)))
            go_wp2
            go_meet
            case rel =>
              go_light
              exact ⟨false, by first | rfl | simp_all, ⟨fun h => (by cases h), fun h => by clear ew5 ew6 ewN; have := HEn.out; have h2 := HG.out; rw [h2.2.1] at h; omega⟩, below_drewN (Below.refl _ _) _⟩
          have r3a : ((mk : Int) != (k : Int)) = false := by simpa using r30
          by_cases r40 : (mi : Int) ≤ (bl : Int)
          · have r4a : decide ((mi : Int) ≤ (bl : Int)) = true := decide_eq_true r40
            have r4c : decide (mi ≤ bl) = true := decide_eq_true (by omega)
            have HNN : Hid (∀ W, Calls Tryz.prog 36 #[.int .u64 (ms : Int)] W fun e w' => e = .returned (.int .u64 (N0 : Int)) ∧ w' = W) := fun W => by rw [← HG.out.2.1]; exact rcount_any W ms (by have := HQ.out.2.2.2.2; omega)
            have HWN : Hid (IntKind.u64.wrap (40 * (N0 : Int)) = (N4 : Int)) := by show _ = _; rw [wrap_u _ (by omega) (by have := HQ.out.2.2.2.2; omega)]; have := HG.out.2.2; omega
            have HEn : Hid (True ∧ re = 0 ∧ ¬ ((65536 : Int) ≤ (j : Int)) ∧ (ms : Int) = (j1 : Int) ∧ mk = (k : Int) ∧ (mi : Int) ≤ (bl : Int)) := ⟨trivial, r00, r10, r20, r30, r40⟩
            clear HJ1 HNn r00 r10 r20 r30 r40
            obtain ⟨ew5, ew6⟩ := HW56.out
            have ewN := HWN.out
            go_quiet (first | (go_at_call 36; refine Calls.quiet_of_same (HNN.out _)))
            go_wp2
            go_meet
            case rel =>
              go_light
              exact ⟨false, by first | rfl | simp_all, ⟨fun h => (by cases h), fun h => by clear ew5 ew6 ewN; have := HEn.out; have h2 := HG.out; rw [h2.2.1] at h; omega⟩, below_drewN (Below.refl _ _) _⟩
          have r4a : decide ((mi : Int) ≤ (bl : Int)) = false := decide_eq_false r40
          have r4c : decide (mi ≤ bl) = false := decide_eq_false (by omega)
          by_cases r50 : (mn : Int) = (N4 : Int)
          rotate_left
          · have r5a : ((mn : Int) != (N4 : Int)) = true := by simpa using r50
            have HNN : Hid (∀ W, Calls Tryz.prog 36 #[.int .u64 (ms : Int)] W fun e w' => e = .returned (.int .u64 (N0 : Int)) ∧ w' = W) := fun W => by rw [← HG.out.2.1]; exact rcount_any W ms (by have := HQ.out.2.2.2.2; omega)
            have HWN : Hid (IntKind.u64.wrap (40 * (N0 : Int)) = (N4 : Int)) := by show _ = _; rw [wrap_u _ (by omega) (by have := HQ.out.2.2.2.2; omega)]; have := HG.out.2.2; omega
            have HEn : Hid (True ∧ re = 0 ∧ ¬ ((65536 : Int) ≤ (j : Int)) ∧ (ms : Int) = (j1 : Int) ∧ mk = (k : Int) ∧ ¬ ((mi : Int) ≤ (bl : Int)) ∧ ¬ ((mn : Int) = (N4 : Int))) := ⟨trivial, r00, r10, r20, r30, r40, r50⟩
            clear HJ1 HNn r00 r10 r20 r30 r40 r50
            obtain ⟨ew5, ew6⟩ := HW56.out
            have ewN := HWN.out
            go_quiet (first | (go_at_call 36; refine Calls.quiet_of_same (HNN.out _)))
            go_wp2
            go_meet
            case rel =>
              go_light
              exact ⟨false, by first | rfl | simp_all, ⟨fun h => (by cases h), fun h => by clear ew5 ew6 ewN; have := HEn.out; have h2 := HG.out; rw [h2.2.1] at h; omega⟩, below_drewN (Below.refl _ _) _⟩
          have r5a : ((mn : Int) != (N4 : Int)) = false := by simpa using r50
          have HNN : Hid (∀ W, Calls Tryz.prog 36 #[.int .u64 (ms : Int)] W fun e w' => e = .returned (.int .u64 (N0 : Int)) ∧ w' = W) := fun W => by rw [← HG.out.2.1]; exact rcount_any W ms (by have := HQ.out.2.2.2.2; omega)
          have HWN : Hid (IntKind.u64.wrap (40 * (N0 : Int)) = (N4 : Int)) := by show _ = _; rw [wrap_u _ (by omega) (by have := HQ.out.2.2.2.2; omega)]; have := HG.out.2.2; omega
          have HEn : Hid (True ∧ re = 0 ∧ ¬ ((65536 : Int) ≤ (j : Int)) ∧ (ms : Int) = (j1 : Int) ∧ mk = (k : Int) ∧ ¬ ((mi : Int) ≤ (bl : Int)) ∧ (mn : Int) = (N4 : Int)) := ⟨trivial, r00, r10, r20, r30, r40, r50⟩
          clear HJ1 HNn r00 r10 r20 r30 r40 r50
          obtain ⟨ew5, ew6⟩ := HW56.out
          have ewN := HWN.out
          go_quiet (first | (go_at_call 36; refine Calls.quiet_of_same (HNN.out _)))
          go_wp2
          go_meet
          case rel =>
            go_light
            exact ⟨true, by first | rfl | simp_all, ⟨fun _ => by clear ew5 ew6 ewN; have := HEn.out; have h2 := HG.out; refine ⟨by omega, by omega, by omega, by omega, by omega, by rw [h2.2.1]; omega⟩, fun _ => rfl⟩, below_drewN (Below.refl _ _) _⟩
        case rest =>
        obtain ⟨okb, rfl, HCc⟩ := hcut
        obtain ⟨w5, hw5⟩ : ∃ W, W = wc := ⟨_, rfl⟩
        subst hw5
        obtain ⟨⟨y0, y1, y2, y3, y4⟩, u5⟩ := HK4.out w5 HCc.out.2
        clear x0 x1 x2 x3 x4
        cases okb
        · have HZ : Hid (ReQ w o (.returned (.tuple #[.slice none 0 0, .bool false])) w5) := by
            have : o = none := by
              rw [← HO.out]
              refine rdR_none (j := j + 1) ?_ _ HC.out
              rcases HOK.out with ⟨h1, h2⟩ | ⟨h1, h2⟩
              · refine rdR_no2 HL.out.1 (by rw [HQ.out.2.1]; exact h2) ?_
                obtain ⟨e1, e2, e3, e4, e5, e6⟩ := HMM.out
                refine nxR_false HLl.out.1 fun hh => ?_
                rw [e1, e2, e3, e4, e6] at hh
                have := HCc.out.1.2 ⟨h1, hh⟩
                cases this
              · exact rdR_no1 HL.out.1 (by rw [HQ.out.2.1]; exact h2)
            rw [this]
            exact ⟨(HB.out w5 u5).2.1, rfl⟩
          clear HB HL HS HQ HP HO HCc u5 u4 HK4 HC HOK HMM HLl
          go_wp2
          go_ret2
          exact HZ.out
        · obtain ⟨h0, hnx⟩ := HCc.out.1.1 rfl
          have HZ : Hid (rdR k S (j + 1) = some (l ++ [m]) ∧ ms = j + 1) := by
            rcases HOK.out with ⟨h1, h2⟩ | ⟨h1, h2⟩
            · refine ⟨rdR_yes HL.out.1 (by rw [HQ.out.2.1]; exact h2) ?_, hnx.2.1⟩
              obtain ⟨e1, e2, e3, e4, e5, e6⟩ := HMM.out
              rw [nxR_iff, HLl.out.1, e1, e2, e3, e4, e6]
              exact hnx
            · omega
          obtain ⟨p1, p2, p3⟩ := HB.out w5 u5
          have hb6 : Below w5.heap.size w5 (w5.alloc (.cells #[.int .i64 mk, .int .u64 (ms : Int), .int .u64 (mi : Int), .int .u64 (mn : Int), .int .u32 (mc : Int)] 85)) := bal (Below.refl _ _) _
          obtain ⟨v7, w7, hrn, o7, g7⟩ := run_app_K (w5.alloc (.cells #[.int .i64 mk, .int .u64 (ms : Int), .int .u64 (mi : Int), .int .u64 (mn : Int), .int .u32 (mc : Int)] 85)) 72 w.heap.size _ l (ownK_next p1 hb6) ⟨w5.heap.size, 0, none⟩ 1 m (by
            obtain ⟨e1, e2, e3, e4, e5, e6⟩ := HMM.out
            rw [cK, e1, e2, e3, e4, e5]
            exact five_new w5 _ _ _ _ _ _) (by have := HLl.out.1; have := hnx.1; omega) (Nat.le_trans p2.size hb6.size)
          have b7 : Below w.heap.size w w7 := (bnext p2 hb6).trans (g7.below (ownK_next p1 hb6) (Nat.le_trans p2.size hb6.size))
          have hap := appR_of hrn
          have HN : Hid (OwnK w7 w.heap.size v7 (l ++ [m]) ∧ Below w.heap.size w w7) := ⟨o7, b7⟩
          clear hrn o7 g7 b7 p1 p2 p3 hb6 HB HL HS HP HO HCc u5 u4 HK4 HOK HMM HLl h0 hnx
          go_wp2
          go_roundg (n - (j + 1))
          case rel =>
            go_light
            exact ⟨j + 1, l ++ [m], hlt, rfl, by rw [← HQ.out.1], HZ.out.1, HN.out.1, HN.out.2, HC.out⟩
          case measure => go_light; omega
    · obtain rfl : j = n := by omega
      have hz : ¬ ((j : Int) < (j : Int)) := by omega
      have HZ : Hid (ReQ w o (.returned (.tuple #[.slice ao ln cap, .bool true])) wr) := by
        obtain ⟨p1, p2, p3⟩ := HB.out wr (Below.refl _ _)
        have hc : cntM S = j := by
          have h1 := HL.out.2.2.2
          have h2 := HS.out.2.2.2.2
          split at h2 <;> omega
        have : o = some l := by rw [← HO.out, hc]; exact HL.out.1
        rw [this]
        refine ⟨p2, ao, cap, by rw [HLl.out.2], ?_⟩
        rw [HLl.out.2]
        exact p1
      clear HB HL HS HO HRm HRn HZr rd hlt hj
      go_wp2
      go_ret2
      exact HZ.out
end Go.Proofs.YthfnpagangjpbabGreat
