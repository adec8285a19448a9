/-
  Own work: NRefE.
-/
import Derived.Test.YthfnpagangjpbabGreatV48
namespace Go.Proofs.YthfnpagangjpbabGreat.Rc
open Go.RowKit
attribute [local go_sem ↓] Go.wp_at_zero Go.wp_at_succ
set_option maxRecDepth 100000 in
set_option maxHeartbeats 2000000 in
theorem refrmark_any (w : World) (s : ByteArray) (rm : MV) (re : Int) (h : rmT s.data.toList = (rm, re)) :
    Calls Tryz.prog 116 #[.string s] w fun e w' => e = .returned (.tuple #[.agg (mC rm), .int .i64 re]) ∧ Below w.heap.size w w' := by
  by_cases h64 : s.size = 64
  · have z1 : ((s.size : Int) == 64) = true := by simp; omega
    have hsl : s.data.toList.length = 64 := by rw [size_list, h64]
    obtain ⟨n0, hn0⟩ : ∃ n, num ((s.data.toList.drop 4).take 1) = n := ⟨_, rfl⟩
    obtain ⟨n1, hn1⟩ : ∃ n, num ((s.data.toList.drop 8).take 8) = n := ⟨_, rfl⟩
    obtain ⟨n2, hn2⟩ : ∃ n, num ((s.data.toList.drop 16).take 8) = n := ⟨_, rfl⟩
    obtain ⟨n3, hn3⟩ : ∃ n, num ((s.data.toList.drop 24).take 8) = n := ⟨_, rfl⟩
    obtain ⟨n4, hn4⟩ : ∃ n, num ((s.data.toList.drop 32).take 4) = n := ⟨_, rfl⟩
    have hi4 : 4 < s.size := by omega
    have e0 : s[4].toNat = n0 := by
      have hl : 4 < s.data.toList.length := by omega
      rw [← hn0, List.drop_eq_getElem_cons hl]
      simp only [List.take_succ_cons, List.take_zero, num, List.foldl_cons, List.foldl_nil]
      rw [Nat.zero_mul, Nat.zero_add]
      rfl
    have ix : ∀ W, (Instr.index 9 (.string s) (.int .i64 4)).run Tryz.prog W = .ok (.int .u8 (n0 : Int)) W := fun W => by
      have h2 : s[4]? = some s[4] := getElem?_pos s 4 hi4
      rw [← e0]
      simp [Instr.index, asIntOf, run_underlying Tryz.underlying9, h2]
    obtain ⟨x1, hx1⟩ : ∃ x, s.extract 8 16 = x := ⟨_, rfl⟩
    obtain ⟨x2, hx2⟩ : ∃ x, s.extract 16 24 = x := ⟨_, rfl⟩
    obtain ⟨x3, hx3⟩ : ∃ x, s.extract 24 32 = x := ⟨_, rfl⟩
    obtain ⟨x4, hx4⟩ : ∃ x, s.extract 32 36 = x := ⟨_, rfl⟩
    have l1' : x1.data.toList = (s.data.toList.drop 8).take 8 := by rw [← hx1, ext_mid]
    have l2' : x2.data.toList = (s.data.toList.drop 16).take 8 := by rw [← hx2, ext_mid]
    have l3' : x3.data.toList = (s.data.toList.drop 24).take 8 := by rw [← hx3, ext_mid]
    have l4' : x4.data.toList = (s.data.toList.drop 32).take 4 := by rw [← hx4, ext_mid]
    have H1 : Hid (∀ W, Calls Tryz.prog 80 #[.string x1] W fun e w' => e = .returned (.int .u64 (n1 : Int)) ∧ w' = W) := fun W => refsmall_any W x1 (by rw [← size_list, l1']; simp; omega) n1 (by rw [l1']; exact hn1)
    have H2 : Hid (∀ W, Calls Tryz.prog 80 #[.string x2] W fun e w' => e = .returned (.int .u64 (n2 : Int)) ∧ w' = W) := fun W => refsmall_any W x2 (by rw [← size_list, l2']; simp; omega) n2 (by rw [l2']; exact hn2)
    have H3 : Hid (∀ W, Calls Tryz.prog 80 #[.string x3] W fun e w' => e = .returned (.int .u64 (n3 : Int)) ∧ w' = W) := fun W => refsmall_any W x3 (by rw [← size_list, l3']; simp; omega) n3 (by rw [l3']; exact hn3)
    have H4 : Hid (∀ W, Calls Tryz.prog 80 #[.string x4] W fun e w' => e = .returned (.int .u64 (n4 : Int)) ∧ w' = W) := fun W => refsmall_any W x4 (by rw [← size_list, l4']; simp; omega) n4 (by rw [l4']; exact hn4)
    have l0 : n0 < 256 := by rw [← hn0]; exact num_le _ 1 (by simp; omega)
    have l1 : n1 < 256 ^ 8 := by rw [← hn1]; exact num_le _ 8 (by simp; omega)
    have l2 : n2 < 256 ^ 8 := by rw [← hn2]; exact num_le _ 8 (by simp; omega)
    have l3 : n3 < 256 ^ 8 := by rw [← hn3]; exact num_le _ 8 (by simp; omega)
    have l4 : n4 < 256 ^ 4 := by rw [← hn4]; exact num_le _ 4 (by simp; omega)
    have v0 : IntKind.i64.wrap (n0 : Int) = (n0 : Int) := by rw [IntKind.wrap_i64]; omega
    have v4 : IntKind.u32.wrap (n4 : Int) = (n4 : Int) := by rw [IntKind.wrap_u32]; omega
    have v4' : (n4 : Int) % 4294967296 = (n4 : Int) := by omega
    have hmO : mOf s.data.toList = ⟨(n0 : Int), n1, n2, n3, BitVec.ofNat 32 n4⟩ := by rw [mOf, hn0, hn1, hn2, hn3, hn4]
    have y1 : (16 : Int) ≤ (s.size : Int) := by omega
    have y2 : (24 : Int) ≤ (s.size : Int) := by omega
    have y3 : (32 : Int) ≤ (s.size : Int) := by omega
    have y4 : (36 : Int) ≤ (s.size : Int) := by omega
    obtain ⟨wz, hwz⟩ : ∃ wz, w.alloc (.cells #[.int .i64 0, .int .u64 0, .int .u64 0, .int .u64 0, .int .u32 0] 85) = wz := ⟨_, rfl⟩
    have HB : Hid (wz.heap[w.heap.size]? = some (.cells #[.int .i64 0, .int .u64 0, .int .u64 0, .int .u64 0, .int .u32 0] 85 (0, 0)) ∧ Below w.heap.size w wz ∧ w.heap.size < wz.heap.size) := by
      rw [← hwz]
      exact ⟨new1 _ _, bal (Below.refl _ _) _, by simp⟩
    obtain ⟨t, ht⟩ : ∃ t : ByteArray, (⟨(mrk (mOf s.data.toList)).toArray⟩ : ByteArray) = t := ⟨_, rfl⟩
    have HMK : Hid (Calls Tryz.prog 128 #[.agg #[.int .i64 (n0 : Int), .int .u64 (n1 : Int), .int .u64 (n2 : Int), .int .u64 (n3 : Int), .int .u32 (n4 : Int)]] (wz.alloc (.cells #[.int .i64 (n0 : Int), .int .u64 (n1 : Int), .int .u64 (n2 : Int), .int .u64 (n3 : Int), .int .u32 (n4 : Int)] 85)).drew fun e w' => e = .returned (.string t) ∧ (w'.cell? ⟨wz.heap.size, 0, none⟩ = some (.int .i64 (n0 : Int)) ∧ w'.cell? ⟨wz.heap.size, 1, none⟩ = some (.int .u64 (n1 : Int)) ∧ w'.cell? ⟨wz.heap.size, 2, none⟩ = some (.int .u64 (n2 : Int)) ∧ w'.cell? ⟨wz.heap.size, 3, none⟩ = some (.int .u64 (n3 : Int)) ∧ w'.cell? ⟨wz.heap.size, 4, none⟩ = some (.int .u32 (n4 : Int))) ∧ w'.heap[w.heap.size]? = some (.cells #[.int .i64 0, .int .u64 0, .int .u64 0, .int .u64 0, .int .u32 0] 85 (0, 0)) ∧ Below w.heap.size w w') := by
      have e4 : (BitVec.ofNat 32 n4).toNat = n4 := by rw [BitVec.toNat_ofNat]; omega
      obtain ⟨wa, hwa⟩ : ∃ wa, (wz.alloc (.cells #[.int .i64 (n0 : Int), .int .u64 (n1 : Int), .int .u64 (n2 : Int), .int .u64 (n3 : Int), .int .u32 (n4 : Int)] 85)).drew = wa := ⟨_, rfl⟩
      have ha1 : wa.heap[wz.heap.size]? = some (.cells #[.int .i64 (n0 : Int), .int .u64 (n1 : Int), .int .u64 (n2 : Int), .int .u64 (n3 : Int), .int .u32 (n4 : Int)] 85 (0, 0)) := by rw [← hwa]; exact new1 wz _
      have ha2 : wa.heap[w.heap.size]? = some (.cells #[.int .i64 0, .int .u64 0, .int .u64 0, .int .u64 0, .int .u32 0] 85 (0, 0)) := by
        rw [← hwa]
        exact ((MapKept.heap_alloc wz _).2 _ HB.out.2.2).trans HB.out.1
      have ha3 : Below w.heap.size w wa := by rw [← hwa]; exact bdrew (bal HB.out.2.1 _)
      rw [hwa]
      have := refmark_any wa ⟨(n0 : Int), n1, n2, n3, BitVec.ofNat 32 n4⟩ l1 l2 l3 t (by rw [← hmO]; exact ht)
      unfold mC at this
      simp only [e4] at this
      refine this.mono ?_
      rintro e w' ⟨rfl, hb⟩
      have hh := (hb.block _ (Array.getElem?_eq_some_iff.1 ha1).1).trans ha1
      refine ⟨rfl, ?_, (hb.block _ (Array.getElem?_eq_some_iff.1 ha2).1).trans ha2, bnext ha3 hb⟩
      refine ⟨?_, ?_, ?_, ?_, ?_⟩
      iterate 5 (rw [cell_of_row w' _ _ _ _ (0, 0) hh]; rfl)
    have HRS : Hid (∀ W : World, W.heap[w.heap.size]? = some (.cells #[.int .i64 0, .int .u64 0, .int .u64 0, .int .u64 0, .int .u32 0] 85 (0, 0)) → (W.cell? ⟨w.heap.size, 0, none⟩ = some (.int .i64 0) ∧ W.cell? ⟨w.heap.size, 1, none⟩ = some (.int .u64 0) ∧ W.cell? ⟨w.heap.size, 2, none⟩ = some (.int .u64 0) ∧ W.cell? ⟨w.heap.size, 3, none⟩ = some (.int .u64 0) ∧ W.cell? ⟨w.heap.size, 4, none⟩ = some (.int .u32 0)) ∧ W.frozen? ⟨w.heap.size, 0, none⟩ = false ∧ W.frozen? ⟨w.heap.size, 1, none⟩ = false ∧ W.frozen? ⟨w.heap.size, 2, none⟩ = false ∧ W.frozen? ⟨w.heap.size, 3, none⟩ = false ∧ W.frozen? ⟨w.heap.size, 4, none⟩ = false) := fun W hh => by
      refine ⟨⟨?_, ?_, ?_, ?_, ?_⟩, ?_, ?_, ?_, ?_, ?_⟩
      iterate 5 (rw [cell_of_row W _ _ _ _ (0, 0) hh]; rfl)
      iterate 5 (exact frozen_of_row W _ _ _ _ hh)
    have HEN : Hid (∀ (W : World) (m : MV), W.heap[w.heap.size]? = some (.cells #[.int .i64 0, .int .u64 0, .int .u64 0, .int .u64 0, .int .u32 0] 85 (0, 0)) → Below w.heap.size w W → ∃ W', (((((W.setCell ⟨w.heap.size, 0, none⟩ (.int .i64 m.k)).setCell ⟨w.heap.size, 1, none⟩ (.int .u64 (m.size : Int))).setCell ⟨w.heap.size, 2, none⟩ (.int .u64 (m.items : Int))).setCell ⟨w.heap.size, 3, none⟩ (.int .u64 (m.nodes : Int))).setCell ⟨w.heap.size, 4, none⟩ (.int .u32 (m.chain.toNat : Int))) = W' ∧ (W'.cell? ⟨w.heap.size, 0, none⟩ = some (.int .i64 m.k) ∧ W'.cell? ⟨w.heap.size, 1, none⟩ = some (.int .u64 (m.size : Int)) ∧ W'.cell? ⟨w.heap.size, 2, none⟩ = some (.int .u64 (m.items : Int)) ∧ W'.cell? ⟨w.heap.size, 3, none⟩ = some (.int .u64 (m.nodes : Int)) ∧ W'.cell? ⟨w.heap.size, 4, none⟩ = some (.int .u32 (m.chain.toNat : Int))) ∧ Below w.heap.size w W') := fun W m hh hb => by
      have q1 := heap_setCell_same W w.heap.size 0 _ _ (.int .i64 m.k) hh
      have q2 := heap_setCell_same _ w.heap.size 1 _ _ (.int .u64 (m.size : Int)) q1
      have q3 := heap_setCell_same _ w.heap.size 2 _ _ (.int .u64 (m.items : Int)) q2
      have q4 := heap_setCell_same _ w.heap.size 3 _ _ (.int .u64 (m.nodes : Int)) q3
      have q5 := heap_setCell_same _ w.heap.size 4 _ _ (.int .u32 (m.chain.toNat : Int)) q4
      refine ⟨_, rfl, ⟨?_, ?_, ?_, ?_, ?_⟩, ((((hb.setCell (Nat.le_refl _) _).setCell (Nat.le_refl _) _).setCell (Nat.le_refl _) _).setCell (Nat.le_refl _) _).setCell (Nat.le_refl _) _⟩
      iterate 5 (rw [cell_of_row _ _ _ _ _ (0, 0) q5]; rfl)
    have HT : Hid ((⟨(mrk (mOf s.data.toList)).toArray⟩ : ByteArray) = t ∧ mOf s.data.toList = ⟨(n0 : Int), n1, n2, n3, BitVec.ofNat 32 n4⟩ ∧ n4 < 256 ^ 4 ∧ s.data.toList.length = 64 ∧ rmT s.data.toList = (rm, re)) := ⟨ht, hmO, l4, hsl, h⟩
    clear ht hmO l0 l1 l2 l3 l4 hsl h l1' l2' l3' l4' hn0 hn1 hn2 hn3 hn4 e0 hi4
    go_enter Tryz.func116, Tryz.ntmps116
    go_upto_region 3 with fail
    go_cut [4] from 9 to 25 (fun x wx => x = .pointer (some ⟨wz.heap.size, 0, none⟩) ∧ wx = (wz.alloc (.cells #[.int .i64 (n0 : Int), .int .u64 (n1 : Int), .int .u64 (n2 : Int), .int .u64 (n3 : Int), .int .u32 (n4 : Int)] 85)).drew)
    case first =>
      go_region_with (go_at_call 80; (first
        | (with_reducible refine (H1.out _).mono ?_) | (with_reducible refine (H2.out _).mono ?_) | (with_reducible refine (H3.out _).mono ?_) | (with_reducible refine (H4.out _).mono ?_)); rintro e w4 ⟨rfl, rfl⟩)
      all_goals
        go_wp2_with fail
        go_meet
        case rel => exact ⟨rfl, rfl⟩
    case rest =>
      obtain ⟨rfl, rfl⟩ := hcut
      clear H1 H2 H3 H4 ix
      by_cases heq : t = s
      · have hbq := beq_yes heq
        obtain ⟨hT1, hT2, hT3, hT4, h⟩ := HT.out
        have e4 : (BitVec.ofNat 32 n4).toNat = n4 := by rw [BitVec.toNat_ofNat]; omega
        rw [rmT_yes (x := ⟨(n0 : Int), n1, n2, n3, BitVec.ofNat 32 n4⟩) (by rw [rmrk, hT2]; refine if_pos ⟨hT4, ?_⟩; have := congrArg (fun z : ByteArray => z.data.toList) (hT1.trans heq); rw [hT2] at this; exact this)] at h
        obtain ⟨rfl, rfl⟩ : (⟨(n0 : Int), n1, n2, n3, BitVec.ofNat 32 n4⟩ : MV) = rm ∧ 0 = re := by simpa using h
        clear hT1 hT2 hT3 hT4 h heq
        go_wp2_with (go_at_call 128; with_reducible refine HMK.out.mono ?_; rintro e w5 ⟨rfl, ⟨m0, m1, m2, m3, m4⟩, hh5, hb5⟩; obtain ⟨⟨r0, r1, r2, r3, r4⟩, f0, f1, f2, f3, f4⟩ := HRS.out _ hh5)
        obtain ⟨w6, hw6, ⟨u0, u1, u2, u3, u4⟩, hb6⟩ := HEN.out w5 ⟨(n0 : Int), n1, n2, n3, BitVec.ofNat 32 n4⟩ hh5 hb5
        simp only [e4] at hw6 u4
        rw [hw6]
        exact bodyPost_ret (v := .tuple #[.agg (mC ⟨(n0 : Int), n1, n2, n3, BitVec.ofNat 32 n4⟩), .int .i64 0]) (by simp [results, Tryz.results116, go_sem, u0, u1, u2, u3, u4, mC]; omega) rfl ⟨rfl, hb6⟩
      · have hbq := beq_ne heq
        obtain ⟨hT1, _, _, _, h⟩ := HT.out
        rw [rmT_no (if_neg fun q => heq (ba_ext (by rw [← hT1]; exact q.2)))] at h
        obtain ⟨rfl, rfl⟩ : MV.z = rm ∧ 180 = re := by simpa using h
        clear hT1 h heq
        go_wp2_with (go_at_call 128; with_reducible refine HMK.out.mono ?_; rintro e w5 ⟨rfl, ⟨m0, m1, m2, m3, m4⟩, hh5, hb5⟩; obtain ⟨⟨r0, r1, r2, r3, r4⟩, f0, f1, f2, f3, f4⟩ := HRS.out _ hh5)
        obtain ⟨w6, hw6, ⟨u0, u1, u2, u3, u4⟩, hb6⟩ := HEN.out w5 MV.z hh5 hb5
        simp only [MV.z, show (0#32).toNat = 0 from rfl, show ((0 : Nat) : Int) = 0 from rfl] at hw6 u0 u1 u2 u3 u4
        rw [hw6]
        exact bodyPost_ret (v := .tuple #[.agg (mC MV.z), .int .i64 180]) (by simp [results, Tryz.results116, go_sem, u0, u1, u2, u3, u4, mC, MV.z]) rfl ⟨rfl, hb6⟩
  · have z1 : ((s.size : Int) == 64) = false := by simp; omega
    rw [rmT_no (if_neg fun q => h64 (by rw [← size_list]; exact q.1))] at h
    obtain ⟨rfl, rfl⟩ : MV.z = rm ∧ 180 = re := by simpa using h
    clear h
    go_enter Tryz.func116, Tryz.ntmps116
    go_wp2
    exact bodyPost_ret (v := .tuple #[.agg (mC MV.z), .int .i64 180]) (by simp [results, Tryz.results116, go_sem, mC, MV.z]) rfl ⟨rfl, bal (Below.refl _ _) _⟩
end Go.Proofs.YthfnpagangjpbabGreat.Rc
