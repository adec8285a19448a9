/-
  Walks: ReadMark. Own work.
-/
import Derived.Test.YtggkjleibhpnfaaNMrk
import Derived.Test.YtggkjleibhpnfaaNRd
import Derived.Deep.Cut
import Derived.Deep.CutRange
namespace Go.Proofs.Ytggkjleibhpnfaa
open Go.RowKit
attribute [local go_sem ↓] Go.wp_at_zero Go.wp_at_succ
/-- What ReadMark answers. -/
def rmT (s : List UInt8) : MV × Int := match rmrk s with
  | some x => (x, 0)
  | none => (MV.z, 180)
theorem rmT_no {s : List UInt8} (h : rmrk s = none) : rmT s = (MV.z, 180) := by rw [rmT, h]
theorem rmT_yes {s : List UInt8} {x : MV} (h : rmrk s = some x) : rmT s = (x, 0) := by rw [rmT, h]
set_option maxRecDepth 100000 in
set_option maxHeartbeats 2000000 in
theorem rmark_any (w : World) (s : ByteArray) (rm : MV) (re : Int) (h : rmT s.data.toList = (rm, re)) :
    Calls Try.prog 12 #[.string s] w fun e w' => e = .returned (.tuple #[.agg (mC rm), .int .i64 re]) ∧ Below w.heap.size w w' := by
  by_cases h64 : s.size = 64
  · have z1 : ((s.size : Int) == 64) = true := by simp; omega
    obtain ⟨wz, hwz⟩ : ∃ wz, w.alloc (.cells #[.int .i64 0, .int .u64 0, .int .u64 0, .int .u64 0, .int .u32 0] 34) = wz := ⟨_, rfl⟩
    obtain ⟨c0, w1, kb, hc0, hy, hb1, hlt⟩ := bytes_of wz s 64 h64
    have HPP : Hid (∀ W g, Calls Try.prog 29 #[.slice (some ⟨g, 0, none⟩) 64 c0] W fun e w' => e = .returned (mP g) ∧ Below W.heap.size W w') := fun W g => mparts_any W g 64 c0 (by omega)
    have hsz : wz.heap.size = w.heap.size + 1 := by rw [← hwz]; simp
    rw [hsz] at kb hy
    go_enter Try.func12, Try.ntmps12
    go_upto_region 4 with (first
      | (go_at_call 29; with_reducible refine (HPP.out _ _).mono ?_; rintro e w2 ⟨rfl, hb2⟩; unfold mP))
    obtain ⟨w3, hw3⟩ : ∃ w3, w2.alloc (.cells (pC (w.heap.size + 1)) 56) = w3 := ⟨_, rfl⟩
    obtain ⟨bp, hbp⟩ : ∃ bp, w2.heap.size = bp := ⟨_, rfl⟩
    have hs2 : w.heap.size + 2 ≤ w2.heap.size := by have := hb1.size; have := hb2.size; omega
    have HB : Hid (Byt w3 (w.heap.size + 1) s.data.toList ∧ w3.heap[bp]? = some (.cells (pC (w.heap.size + 1)) 56 (0, 0)) ∧ w3.heap[w.heap.size]? = some (.cells #[.int .i64 0, .int .u64 0, .int .u64 0, .int .u64 0, .int .u32 0] 34 (0, 0)) ∧ Below w.heap.size w w3 ∧ w.heap.size + 2 ≤ bp ∧ bp < w3.heap.size) := by
      have hq := (hy.next hb2 (by omega))
      have b2 : Below wz.heap.size wz w2 := bnext hb1 hb2
      rw [← hw3, ← hbp]
      refine ⟨hq.same ((MapKept.heap_alloc w2 _).2 _ (by omega)), new1 _ _, ?_, bal (bnext (by rw [← hwz]; exact bal (Below.refl _ _) _) b2) _, hs2, by simp⟩
      rw [(MapKept.heap_alloc w2 _).2 _ (by omega), b2.block _ (by omega), ← hwz]
      exact new1 _ _
    unfold pC at hw3
    rw [hw3, hbp]
    obtain ⟨g, hg⟩ : ∃ g, w.heap.size + 1 = g := ⟨_, rfl⟩
    rw [hg] at HB
    rw [hg]
    have HC : Hid (∀ W, Below w3.heap.size w3 W → W.cell? ⟨bp, 1, none⟩ = some (.slice (some ⟨g, 4, none⟩) 1 1) ∧ W.cell? ⟨bp, 2, none⟩ = some (.slice (some ⟨g, 8, none⟩) 8 8) ∧ W.cell? ⟨bp, 3, none⟩ = some (.slice (some ⟨g, 16, none⟩) 8 8) ∧ W.cell? ⟨bp, 4, none⟩ = some (.slice (some ⟨g, 24, none⟩) 8 8) ∧ W.cell? ⟨bp, 5, none⟩ = some (.slice (some ⟨g, 32, none⟩) 4 4)) := fun W hb => by
      have hh : W.heap[bp]? = some (.cells (pC g) 56 (0, 0)) := (hb.block _ HB.out.2.2.2.2.2).trans HB.out.2.1
      refine ⟨?_, ?_, ?_, ?_, ?_⟩
      iterate 5 (rw [cell_of_row W bp _ _ _ (0, 0) hh]; rfl)
    obtain ⟨n0, hn0⟩ : ∃ n, num ((s.data.toList.drop 4).take 1) = n := ⟨_, rfl⟩
    obtain ⟨n1, hn1⟩ : ∃ n, num ((s.data.toList.drop 8).take 8) = n := ⟨_, rfl⟩
    obtain ⟨n2, hn2⟩ : ∃ n, num ((s.data.toList.drop 16).take 8) = n := ⟨_, rfl⟩
    obtain ⟨n3, hn3⟩ : ∃ n, num ((s.data.toList.drop 24).take 8) = n := ⟨_, rfl⟩
    obtain ⟨n4, hn4⟩ : ∃ n, num ((s.data.toList.drop 32).take 4) = n := ⟨_, rfl⟩
    have hsl : s.data.toList.length = 64 := by rw [size_list, h64]
    have gs : g < w3.heap.size := by have := HB.out.2.2.2.2; omega
    have H0 : Hid (∀ W, Below w3.heap.size w3 W → Calls Try.prog 26 #[.slice (some ⟨g, 4, none⟩) 1 1] W fun e w' => e = .returned (.int .u64 (n0 : Int)) ∧ w' = W) := fun W hb => number_any W g 4 1 1 _ (HB.out.1.next hb gs) (by omega) (by decide) n0 hn0
    have H1 : Hid (∀ W, Below w3.heap.size w3 W → Calls Try.prog 26 #[.slice (some ⟨g, 8, none⟩) 8 8] W fun e w' => e = .returned (.int .u64 (n1 : Int)) ∧ w' = W) := fun W hb => number_any W g 8 8 8 _ (HB.out.1.next hb gs) (by omega) (by decide) n1 hn1
    have H2 : Hid (∀ W, Below w3.heap.size w3 W → Calls Try.prog 26 #[.slice (some ⟨g, 16, none⟩) 8 8] W fun e w' => e = .returned (.int .u64 (n2 : Int)) ∧ w' = W) := fun W hb => number_any W g 16 8 8 _ (HB.out.1.next hb gs) (by omega) (by decide) n2 hn2
    have H3 : Hid (∀ W, Below w3.heap.size w3 W → Calls Try.prog 26 #[.slice (some ⟨g, 24, none⟩) 8 8] W fun e w' => e = .returned (.int .u64 (n3 : Int)) ∧ w' = W) := fun W hb => number_any W g 24 8 8 _ (HB.out.1.next hb gs) (by omega) (by decide) n3 hn3
    have H4 : Hid (∀ W, Below w3.heap.size w3 W → Calls Try.prog 26 #[.slice (some ⟨g, 32, none⟩) 4 4] W fun e w' => e = .returned (.int .u64 (n4 : Int)) ∧ w' = W) := fun W hb => number_any W g 32 4 4 _ (HB.out.1.next hb gs) (by omega) (by decide) n4 hn4
    have l0 : n0 < 256 := by rw [← hn0]; exact num_le _ 1 (by simp; omega)
    have l1 : n1 < 256 ^ 8 := by rw [← hn1]; exact num_le _ 8 (by simp; omega)
    have l2 : n2 < 256 ^ 8 := by rw [← hn2]; exact num_le _ 8 (by simp; omega)
    have l3 : n3 < 256 ^ 8 := by rw [← hn3]; exact num_le _ 8 (by simp; omega)
    have l4 : n4 < 256 ^ 4 := by rw [← hn4]; exact num_le _ 4 (by simp; omega)
    have v0 : IntKind.i64.wrap (n0 : Int) = (n0 : Int) := by rw [IntKind.wrap_i64]; omega
    have v4 : IntKind.u32.wrap (n4 : Int) = (n4 : Int) := by rw [IntKind.wrap_u32]; omega
    have v4' : (n4 : Int) % 4294967296 = (n4 : Int) := by omega
    have hmO : mOf s.data.toList = ⟨(n0 : Int), n1, n2, n3, BitVec.ofNat 32 n4⟩ := by rw [mOf, hn0, hn1, hn2, hn3, hn4]
    have hD := bdrew (Below.refl w3.heap.size w3)
    clear hw3 hbp hy hb1 hb2 kb hwz HPP hn0 hn1 hn2 hn3 hn4
    obtain ⟨t, ht⟩ : ∃ t : ByteArray, (⟨(mrk (mOf s.data.toList)).toArray⟩ : ByteArray) = t := ⟨_, rfl⟩
    have HMK : Hid (Calls Try.prog 13 #[.agg #[.int .i64 (n0 : Int), .int .u64 (n1 : Int), .int .u64 (n2 : Int), .int .u64 (n3 : Int), .int .u32 (n4 : Int)]] (w3.alloc (.cells #[.int .i64 (n0 : Int), .int .u64 (n1 : Int), .int .u64 (n2 : Int), .int .u64 (n3 : Int), .int .u32 (n4 : Int)] 34)).drew fun e w' => e = .returned (.string t) ∧ (w'.cell? ⟨w3.heap.size, 0, none⟩ = some (.int .i64 (n0 : Int)) ∧ w'.cell? ⟨w3.heap.size, 1, none⟩ = some (.int .u64 (n1 : Int)) ∧ w'.cell? ⟨w3.heap.size, 2, none⟩ = some (.int .u64 (n2 : Int)) ∧ w'.cell? ⟨w3.heap.size, 3, none⟩ = some (.int .u64 (n3 : Int)) ∧ w'.cell? ⟨w3.heap.size, 4, none⟩ = some (.int .u32 (n4 : Int))) ∧ w'.heap[w.heap.size]? = some (.cells #[.int .i64 0, .int .u64 0, .int .u64 0, .int .u64 0, .int .u32 0] 34 (0, 0)) ∧ Below w.heap.size w w') := by
      have e4 : (BitVec.ofNat 32 n4).toNat = n4 := by rw [BitVec.toNat_ofNat]; omega
      obtain ⟨wa, hwa⟩ : ∃ wa, (w3.alloc (.cells #[.int .i64 (n0 : Int), .int .u64 (n1 : Int), .int .u64 (n2 : Int), .int .u64 (n3 : Int), .int .u32 (n4 : Int)] 34)).drew = wa := ⟨_, rfl⟩
      have ha1 : wa.heap[w3.heap.size]? = some (.cells #[.int .i64 (n0 : Int), .int .u64 (n1 : Int), .int .u64 (n2 : Int), .int .u64 (n3 : Int), .int .u32 (n4 : Int)] 34 (0, 0)) := by rw [← hwa]; exact new1 w3 _
      have ha2 : wa.heap[w.heap.size]? = some (.cells #[.int .i64 0, .int .u64 0, .int .u64 0, .int .u64 0, .int .u32 0] 34 (0, 0)) := by
        rw [← hwa]
        exact ((MapKept.heap_alloc w3 _).2 _ (by have := HB.out.2.2.2.2; omega)).trans HB.out.2.2.1
      have ha3 : Below w.heap.size w wa := by rw [← hwa]; exact bdrew (bal HB.out.2.2.2.1 _)
      rw [hwa]
      have := mark_any wa ⟨(n0 : Int), n1, n2, n3, BitVec.ofNat 32 n4⟩ l1 l2 l3 t (by rw [← hmO]; exact ht)
      unfold mC at this
      simp only [e4] at this
      refine this.mono ?_
      rintro e w' ⟨rfl, hb⟩
      have hh := (hb.block _ (Array.getElem?_eq_some_iff.1 ha1).1).trans ha1
      refine ⟨rfl, ?_, (hb.block _ (Array.getElem?_eq_some_iff.1 ha2).1).trans ha2, bnext ha3 hb⟩
      refine ⟨?_, ?_, ?_, ?_, ?_⟩
      iterate 5 (rw [cell_of_row w' _ _ _ _ (0, 0) hh]; rfl)
    have HRS : Hid (∀ W : World, W.heap[w.heap.size]? = some (.cells #[.int .i64 0, .int .u64 0, .int .u64 0, .int .u64 0, .int .u32 0] 34 (0, 0)) → (W.cell? ⟨w.heap.size, 0, none⟩ = some (.int .i64 0) ∧ W.cell? ⟨w.heap.size, 1, none⟩ = some (.int .u64 0) ∧ W.cell? ⟨w.heap.size, 2, none⟩ = some (.int .u64 0) ∧ W.cell? ⟨w.heap.size, 3, none⟩ = some (.int .u64 0) ∧ W.cell? ⟨w.heap.size, 4, none⟩ = some (.int .u32 0)) ∧ W.frozen? ⟨w.heap.size, 0, none⟩ = false ∧ W.frozen? ⟨w.heap.size, 1, none⟩ = false ∧ W.frozen? ⟨w.heap.size, 2, none⟩ = false ∧ W.frozen? ⟨w.heap.size, 3, none⟩ = false ∧ W.frozen? ⟨w.heap.size, 4, none⟩ = false) := fun W hh => by
      refine ⟨⟨?_, ?_, ?_, ?_, ?_⟩, ?_, ?_, ?_, ?_, ?_⟩
      iterate 5 (rw [cell_of_row W _ _ _ _ (0, 0) hh]; rfl)
      iterate 5 (exact frozen_of_row W _ _ _ _ hh)
    have HEN : Hid (∀ (W : World) (m : MV), W.heap[w.heap.size]? = some (.cells #[.int .i64 0, .int .u64 0, .int .u64 0, .int .u64 0, .int .u32 0] 34 (0, 0)) → Below w.heap.size w W → ∃ W', (((((W.setCell ⟨w.heap.size, 0, none⟩ (.int .i64 m.k)).setCell ⟨w.heap.size, 1, none⟩ (.int .u64 (m.size : Int))).setCell ⟨w.heap.size, 2, none⟩ (.int .u64 (m.items : Int))).setCell ⟨w.heap.size, 3, none⟩ (.int .u64 (m.nodes : Int))).setCell ⟨w.heap.size, 4, none⟩ (.int .u32 (m.chain.toNat : Int))) = W' ∧ (W'.cell? ⟨w.heap.size, 0, none⟩ = some (.int .i64 m.k) ∧ W'.cell? ⟨w.heap.size, 1, none⟩ = some (.int .u64 (m.size : Int)) ∧ W'.cell? ⟨w.heap.size, 2, none⟩ = some (.int .u64 (m.items : Int)) ∧ W'.cell? ⟨w.heap.size, 3, none⟩ = some (.int .u64 (m.nodes : Int)) ∧ W'.cell? ⟨w.heap.size, 4, none⟩ = some (.int .u32 (m.chain.toNat : Int))) ∧ Below w.heap.size w W') := fun W m hh hb => by
      have q1 := heap_setCell_same W w.heap.size 0 _ _ (.int .i64 m.k) hh
      have q2 := heap_setCell_same _ w.heap.size 1 _ _ (.int .u64 (m.size : Int)) q1
      have q3 := heap_setCell_same _ w.heap.size 2 _ _ (.int .u64 (m.items : Int)) q2
      have q4 := heap_setCell_same _ w.heap.size 3 _ _ (.int .u64 (m.nodes : Int)) q3
      have q5 := heap_setCell_same _ w.heap.size 4 _ _ (.int .u32 (m.chain.toNat : Int)) q4
      refine ⟨_, rfl, ⟨?_, ?_, ?_, ?_, ?_⟩, ((((hb.setCell (Nat.le_refl _) _).setCell (Nat.le_refl _) _).setCell (Nat.le_refl _) _).setCell (Nat.le_refl _) _).setCell (Nat.le_refl _) _⟩
      iterate 5 (rw [cell_of_row _ _ _ _ _ (0, 0) q5]; rfl)
    have HT : Hid ((⟨(mrk (mOf s.data.toList)).toArray⟩ : ByteArray) = t ∧ mOf s.data.toList = ⟨(n0 : Int), n1, n2, n3, BitVec.ofNat 32 n4⟩ ∧ n4 < 256 ^ 4 ∧ s.data.toList.length = 64 ∧ rmT s.data.toList = (rm, re)) := ⟨ht, hmO, l4, hsl, h⟩
    clear ht hmO l0 l1 l2 l3 l4 hsl h
    go_cut [5] from 13 to 30 (fun x wx => x = .pointer (some ⟨w3.heap.size, 0, none⟩) ∧ wx = (w3.alloc (.cells #[.int .i64 (n0 : Int), .int .u64 (n1 : Int), .int .u64 (n2 : Int), .int .u64 (n3 : Int), .int .u32 (n4 : Int)] 34)).drew)
    case first =>
      go_region_held3 (fun Z => Z.cell? ⟨bp, 1, none⟩ = some (.slice (some ⟨g, 4, none⟩) 1 1) ∧ Z.cell? ⟨bp, 2, none⟩ = some (.slice (some ⟨g, 8, none⟩) 8 8) ∧ Z.cell? ⟨bp, 3, none⟩ = some (.slice (some ⟨g, 16, none⟩) 8 8) ∧ Z.cell? ⟨bp, 4, none⟩ = some (.slice (some ⟨g, 24, none⟩) 8 8) ∧ Z.cell? ⟨bp, 5, none⟩ = some (.slice (some ⟨g, 32, none⟩) 4 4)) (first | assumption | (exact HC.out _ hD) | (exact HC.out _ (bdrew (bal (Below.refl _ _) _)))) (first
        | (go_at_call 26; (first
            | (with_reducible refine (H0.out _ hD).mono ?_) | (with_reducible refine (H0.out _ (bdrew (bal (Below.refl _ _) _))).mono ?_)
            | (with_reducible refine (H1.out _ hD).mono ?_) | (with_reducible refine (H1.out _ (bdrew (bal (Below.refl _ _) _))).mono ?_)
            | (with_reducible refine (H2.out _ hD).mono ?_) | (with_reducible refine (H2.out _ (bdrew (bal (Below.refl _ _) _))).mono ?_)
            | (with_reducible refine (H3.out _ hD).mono ?_) | (with_reducible refine (H3.out _ (bdrew (bal (Below.refl _ _) _))).mono ?_)
            | (with_reducible refine (H4.out _ hD).mono ?_) | (with_reducible refine (H4.out _ (bdrew (bal (Below.refl _ _) _))).mono ?_)); rintro e w4 ⟨rfl, rfl⟩))
      all_goals
        go_wp2_with fail
        go_meet
        case rel => exact ⟨rfl, rfl⟩
    case rest =>
      obtain ⟨rfl, rfl⟩ := hcut
      clear HC H0 H1 H2 H3 H4 hD
      by_cases heq : t = s
      · have hbq := beq_yes heq
        obtain ⟨hT1, hT2, hT3, hT4, h⟩ := HT.out
        have e4 : (BitVec.ofNat 32 n4).toNat = n4 := by rw [BitVec.toNat_ofNat]; omega
        rw [rmT_yes (x := ⟨(n0 : Int), n1, n2, n3, BitVec.ofNat 32 n4⟩) (by rw [rmrk, hT2]; refine if_pos ⟨hT4, ?_⟩; have := congrArg (fun z : ByteArray => z.data.toList) (hT1.trans heq); rw [hT2] at this; exact this)] at h
        obtain ⟨rfl, rfl⟩ : (⟨(n0 : Int), n1, n2, n3, BitVec.ofNat 32 n4⟩ : MV) = rm ∧ 0 = re := by simpa using h
        clear hT1 hT2 hT3 hT4 h heq
        go_wp2_with (go_at_call 13; with_reducible refine HMK.out.mono ?_; rintro e w5 ⟨rfl, ⟨m0, m1, m2, m3, m4⟩, hh5, hb5⟩; obtain ⟨⟨r0, r1, r2, r3, r4⟩, f0, f1, f2, f3, f4⟩ := HRS.out _ hh5)
        obtain ⟨w6, hw6, ⟨x0, x1, x2, x3, x4⟩, hb6⟩ := HEN.out w5 ⟨(n0 : Int), n1, n2, n3, BitVec.ofNat 32 n4⟩ hh5 hb5
        simp only [e4] at hw6 x4
        rw [hw6]
        exact bodyPost_ret (v := .tuple #[.agg (mC ⟨(n0 : Int), n1, n2, n3, BitVec.ofNat 32 n4⟩), .int .i64 0]) (by simp [results, Try.results12, go_sem, x0, x1, x2, x3, x4, mC]; omega) rfl ⟨rfl, hb6⟩
      · have hbq := beq_ne heq
        obtain ⟨hT1, _, _, _, h⟩ := HT.out
        rw [rmT_no (if_neg fun q => heq (ba_ext (by rw [← hT1]; exact q.2)))] at h
        obtain ⟨rfl, rfl⟩ : MV.z = rm ∧ 180 = re := by simpa using h
        clear hT1 h heq
        go_wp2_with (go_at_call 13; with_reducible refine HMK.out.mono ?_; rintro e w5 ⟨rfl, ⟨m0, m1, m2, m3, m4⟩, hh5, hb5⟩; obtain ⟨⟨r0, r1, r2, r3, r4⟩, f0, f1, f2, f3, f4⟩ := HRS.out _ hh5)
        obtain ⟨w6, hw6, ⟨x0, x1, x2, x3, x4⟩, hb6⟩ := HEN.out w5 MV.z hh5 hb5
        simp only [MV.z, show (0#32).toNat = 0 from rfl, show ((0 : Nat) : Int) = 0 from rfl] at hw6 x0 x1 x2 x3 x4
        rw [hw6]
        exact bodyPost_ret (v := .tuple #[.agg (mC MV.z), .int .i64 180]) (by simp [results, Try.results12, go_sem, x0, x1, x2, x3, x4, mC, MV.z]) rfl ⟨rfl, hb6⟩
  · have z1 : ((s.size : Int) == 64) = false := by simp; omega
    rw [rmT_no (if_neg fun q => h64 (by rw [← size_list]; exact q.1))] at h
    obtain ⟨rfl, rfl⟩ : MV.z = rm ∧ 180 = re := by simpa using h
    clear h
    go_enter Try.func12, Try.ntmps12
    go_wp2
    exact bodyPost_ret (v := .tuple #[.agg (mC MV.z), .int .i64 180]) (by simp [results, Try.results12, go_sem, mC, MV.z]) rfl ⟨rfl, bal (Below.refl _ _) _⟩
end Go.Proofs.Ytggkjleibhpnfaa
