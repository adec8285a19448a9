/-
  Own work: NRefD.
-/
import Derived.Test.YthfnpagangjpbabGreatV48
namespace Go.Proofs.YthfnpagangjpbabGreat.Rc
open Go.RowKit
attribute [local go_sem ↓] Go.wp_at_zero Go.wp_at_succ
set_option maxRecDepth 100000 in
set_option maxHeartbeats 1000000 in
theorem refrpayload_any (w : World) (s : ByteArray) (hs : s.size ≤ 9223372036854775807) (rt : ByteArray) (rn : Nat) (re : Int) (h : rpT s.data.toList = (rt, rn, re)) :
    Calls Tryz.prog 33 #[.string s] w fun e w' => e = .returned (.tuple #[.string rt, .int .i64 (rn : Int), .int .i64 re]) ∧ Below w.heap.size w w' := by
  by_cases h4 : s.size < 4
  · have z1 : (s.size : Int) < 4 := by omega
    rw [rpT_no (if_neg (by rw [size_list]; omega))] at h
    obtain ⟨rfl, rfl, rfl⟩ : (⟨#[]⟩ : ByteArray) = rt ∧ 0 = rn ∧ 180 = re := by simpa using h
    go_enter Tryz.func33, Tryz.ntmps33
    go_wp2
    exact bodyPost_ret (v := .tuple #[.string ⟨#[]⟩, .int .i64 0, .int .i64 180]) (by simp [results, Tryz.results33, go_sem]) rfl ⟨rfl, Below.refl _ _⟩
  have z1 : ¬ (s.size : Int) < 4 := by omega
  have z2 : (4 : Int) ≤ (s.size : Int) := by omega
  obtain ⟨x4, hx4⟩ : ∃ x, s.extract 0 4 = x := ⟨_, rfl⟩
  have hx4l : x4.data.toList = s.data.toList.take 4 := by rw [← hx4, ext_take]
  have hx4s : x4.size = 4 := by rw [← size_list, hx4l, List.length_take, size_list]; omega
  obtain ⟨n, hn⟩ : ∃ n, num (s.data.toList.take 4) = n := ⟨_, rfl⟩
  have hn4 : n < 4294967296 := by rw [← hn]; exact num_le _ 4 (by simp; omega)
  have HN : Hid (∀ W, Calls Tryz.prog 80 #[.string x4] W fun e w' => e = .returned (.int .u64 (n : Int)) ∧ w' = W) := fun W => refsmall_any W x4 (by omega) n (by rw [hx4l]; exact hn)
  have z3 : (s.size : Int) ≤ 9223372036854775807 := by omega
  have hws : IntKind.u64.wrap (s.size : Int) = (s.size : Int) := by rw [IntKind.wrap_u64]; omega
  obtain ⟨N, hN⟩ : ∃ N, n + 8 = N := ⟨_, rfl⟩
  obtain ⟨M, hM⟩ : ∃ M, n + 4 = M := ⟨_, rfl⟩
  have hw1 : IntKind.u64.wrap ((n : Int) + 8) = (N : Int) := by rw [IntKind.wrap_u64]; omega
  have hw2 : IntKind.u64.wrap (4 + (n : Int)) = (M : Int) := by rw [IntKind.wrap_u64]; omega
  by_cases hbig : n ≤ 1048576 ∧ n + 8 ≤ s.size
  · obtain ⟨g1, g2⟩ := hbig
    have y1 : ¬ (n : Int) > 1048576 := by omega
    have y2 : ¬ (s.size : Int) < (N : Int) := by omega
    have y3 : IntKind.i64.wrap (n : Int) = (n : Int) := by rw [IntKind.wrap_i64]; omega
    have y4 : (n : Int) + 8 = (N : Int) := by omega
    have y5 : (0 : Int) ≤ (N : Int) := by omega
    have y6 : (N : Int) ≤ (s.size : Int) := by omega
    have y7 : (4 : Int) ≤ (M : Int) := by omega
    have y8 : (M : Int) ≤ (s.size : Int) := by omega
    have y9 : (4 : Int) + (n : Int) = (M : Int) := by omega
    have v1 : IntKind.u64.wrap (N : Int) = (N : Int) := by rw [IntKind.wrap_u64]; omega
    have v2 : IntKind.u64.wrap (M : Int) = (M : Int) := by rw [IntKind.wrap_u64]; omega
    have v3 : IntKind.i64.wrap (N : Int) = (N : Int) := by rw [IntKind.wrap_i64]; omega
    obtain ⟨x8, hx8⟩ : ∃ x, s.extract 0 N = x := ⟨_, rfl⟩
    have hx8l : x8.data.toList = s.data.toList.take N := by rw [← hx8, ext_take]
    obtain ⟨v, hv⟩ : ∃ v, s.extract 4 M = v := ⟨_, rfl⟩
    have hvl : v.data.toList = (s.data.toList.drop 4).take n := by rw [← hv, ext_mid]; congr 1; omega
    have hlen : ((s.data.toList.drop 4).take n).length = n := by simp; omega
    have hvs : v.size = n := by rw [← size_list, hvl, hlen]
    obtain ⟨t, ht⟩ : ∃ t : ByteArray, (⟨(payS v.data.toList).toArray⟩ : ByteArray) = t := ⟨_, rfl⟩
    have htl : t.data.toList = pay ((s.data.toList.drop 4).take n) := by rw [← ht, payS, if_pos (by rw [size_list, hvs]; exact g1), hvl]
    have HP : Hid (∀ W, Calls Tryz.prog 81 #[.string v] W fun e w' => e = .returned (.string t) ∧ Below W.heap.size W w') := fun W => refpayload_any W v (by omega) t ht
    have tw := bdrew (Below.refl w.heap.size w)
    by_cases heq : x8 = t
    · have hbq := beq_yes heq
      have hre : rpay s.data.toList = some ((s.data.toList.drop 4).take n) := by
        unfold rpay
        rw [hn]
        refine if_pos ⟨by rw [size_list]; omega, g1, by rw [size_list]; exact g2, ?_⟩
        rw [← htl, ← heq, hx8l, hN]
      rw [rpT_yes hre] at h
      have hvb : (⟨((s.data.toList.drop 4).take n).toArray⟩ : ByteArray) = v := by rw [← hvl]
      rw [hlen, hvb, hN] at h
      obtain ⟨rfl, rfl, rfl⟩ : v = rt ∧ N = rn ∧ 0 = re := by simpa using h
      clear hx4s hx4l h hn hx8l ht heq hre hlen htl hvl hvb hN hM
      go_enter Tryz.func33, Tryz.ntmps33
      go_upto_region 7 with (go_at_call 80; with_reducible refine (HN.out _).mono ?_; rintro e w3 ⟨rfl, rfl⟩)
      go_region_with (go_at_call 81; with_reducible refine (HP.out _).mono ?_; rintro e w4 ⟨rfl, hb4⟩)
      go_wp2
      exact bodyPost_ret (v := .tuple #[.string v, .int .i64 (N : Int), .int .i64 0]) (by simp [results, Tryz.results33, go_sem]) rfl ⟨rfl, bnext tw hb4⟩
    · have hbq := beq_ne heq
      have hno : rpay s.data.toList = none := by
        unfold rpay
        rw [hn]
        refine if_neg fun q => heq (ba_ext ?_)
        rw [hx8l, htl, ← hN]
        exact q.2.2.2.symm
      rw [rpT_no hno] at h
      obtain ⟨rfl, rfl, rfl⟩ : (⟨#[]⟩ : ByteArray) = rt ∧ 0 = rn ∧ 180 = re := by simpa using h
      clear hx4s hx4l h hn hx8l ht heq hno hlen htl hvl hN hM
      go_enter Tryz.func33, Tryz.ntmps33
      go_upto_region 7 with (go_at_call 80; with_reducible refine (HN.out _).mono ?_; rintro e w3 ⟨rfl, rfl⟩)
      go_region_with (go_at_call 81; with_reducible refine (HP.out _).mono ?_; rintro e w4 ⟨rfl, hb4⟩)
      go_wp2
      exact bodyPost_ret (v := .tuple #[.string ⟨#[]⟩, .int .i64 0, .int .i64 180]) (by simp [results, Tryz.results33, go_sem]) rfl ⟨rfl, bnext tw hb4⟩
  · have hno : rpay s.data.toList = none := by
      unfold rpay
      rw [hn, size_list]
      exact if_neg (fun q => hbig ⟨q.2.1, q.2.2.1⟩)
    rw [rpT_no hno] at h
    obtain ⟨rfl, rfl, rfl⟩ : (⟨#[]⟩ : ByteArray) = rt ∧ 0 = rn ∧ 180 = re := by simpa using h
    by_cases hb2 : n ≤ 1048576
    · have g1 : ¬ (n : Int) > 1048576 := by omega
      have g2 : (s.size : Int) < (N : Int) := by omega
      clear hx4s hx4l hbig h hn hno
      go_enter Tryz.func33, Tryz.ntmps33
      go_wp2_with (go_at_call 80; with_reducible refine (HN.out _).mono ?_; rintro e w2 ⟨rfl, rfl⟩)
      exact bodyPost_ret (v := .tuple #[.string ⟨#[]⟩, .int .i64 0, .int .i64 180]) (by simp [results, Tryz.results33, go_sem]) rfl ⟨rfl, Below.refl _ _⟩
    · have g1 : (n : Int) > 1048576 := by omega
      clear hx4s hx4l hbig h hn hno
      go_enter Tryz.func33, Tryz.ntmps33
      go_wp2_with (go_at_call 80; with_reducible refine (HN.out _).mono ?_; rintro e w2 ⟨rfl, rfl⟩)
      exact bodyPost_ret (v := .tuple #[.string ⟨#[]⟩, .int .i64 0, .int .i64 180]) (by simp [results, Tryz.results33, go_sem]) rfl ⟨rfl, Below.refl _ _⟩
set_option maxRecDepth 100000 in
set_option maxHeartbeats 1000000 in
theorem refrnode_any (w : World) (k : Int) (p : Nat) (hp : p < 18446744073709551616) (s : ByteArray) (rt : ByteArray) (re : Int) (h : rnT k p s.data.toList = (rt, re)) :
    Calls Tryz.prog 37 #[.int .i64 k, .int .u64 (p : Int), .string s] w fun e w' => e = .returned (.tuple #[.string rt, .int .i64 re]) ∧ Below w.heap.size w w' := by
  by_cases hk : 1 ≤ k ∧ k ≤ 32
  · have y1 : ¬ k < 1 := by omega
    have y2 : ¬ k > 32 := by omega
    by_cases h40 : s.size = 40
    · have z1 : ((s.size : Int) == 40) = true := by simp; omega
      obtain ⟨n, rfl⟩ : ∃ n : Nat, k = (n : Int) := ⟨k.toNat, by omega⟩
      have y3 : (0 : Int) ≤ (n : Int) := by omega
      have y4 : (n : Int) ≤ (s.size : Int) := by omega
      obtain ⟨d, hd⟩ : ∃ d, s.extract 0 n = d := ⟨_, rfl⟩
      have hdl : d.data.toList = s.data.toList.take n := by rw [← hd, ext_take]
      have hds : d.size = n := by rw [← size_list, hdl, List.length_take, size_list]; omega
      obtain ⟨t, ht⟩ : ∃ t : ByteArray, (⟨(nodS p d.data.toList).toArray⟩ : ByteArray) = t := ⟨_, rfl⟩
      have HND : Hid (∀ W, Calls Tryz.prog 87 #[.int .u64 (p : Int), .string d] W fun e w' => e = .returned (.string t) ∧ Below W.heap.size W w') := fun W => refnode_any W p hp d (by omega) t ht
      have htt : t.data.toList = nod p (s.data.toList.take n) := by
        rw [← ht, nodS, if_pos (by rw [hdl, List.length_take]; omega), hdl]
      have hdb : (⟨(s.data.toList.take n).toArray⟩ : ByteArray) = d := by rw [← hdl]
      by_cases heq : s = t
      · have hbq := beq_yes heq
        rw [rnT_yes hk (x := s.data.toList.take n) (if_pos ⟨by rw [size_list]; exact h40, by rw [Int.toNat_natCast, ← htt, ← heq]⟩), hdb] at h
        obtain ⟨rfl, rfl⟩ : d = rt ∧ 0 = re := by simpa using h
        clear hdl hds ht htt heq h hdb
        go_enter Tryz.func37, Tryz.ntmps37
        go_wp2_with (go_at_call 87; with_reducible refine (HND.out _).mono ?_; rintro e w4 ⟨rfl, hb4⟩)
        exact bodyPost_ret (v := .tuple #[.string d, .int .i64 0]) (by simp [results, Tryz.results37, go_sem]) rfl ⟨rfl, hb4⟩
      · have hbq := beq_ne heq
        rw [rnT_no hk (if_neg fun q => heq (ba_ext (by rw [htt]; have := q.2; rw [Int.toNat_natCast] at this; exact this.symm)))] at h
        obtain ⟨rfl, rfl⟩ : (⟨#[]⟩ : ByteArray) = rt ∧ 180 = re := by simpa using h
        clear hdl hds ht htt heq h hdb
        go_enter Tryz.func37, Tryz.ntmps37
        go_wp2_with (go_at_call 87; with_reducible refine (HND.out _).mono ?_; rintro e w4 ⟨rfl, hb4⟩)
        exact bodyPost_ret (v := .tuple #[.string ⟨#[]⟩, .int .i64 180]) (by simp [results, Tryz.results37, go_sem]) rfl ⟨rfl, hb4⟩
    · have z1 : ((s.size : Int) == 40) = false := by simp; omega
      rw [rnT_no hk (if_neg fun q => h40 (by rw [← size_list]; exact q.1))] at h
      obtain ⟨rfl, rfl⟩ : (⟨#[]⟩ : ByteArray) = rt ∧ 180 = re := by simpa using h
      clear h
      go_enter Tryz.func37, Tryz.ntmps37
      go_wp2
      exact bodyPost_ret (v := .tuple #[.string ⟨#[]⟩, .int .i64 180]) (by simp [results, Tryz.results37, go_sem]) rfl ⟨rfl, Below.refl _ _⟩
  · rw [rnT_off hk] at h
    obtain ⟨rfl, rfl⟩ : (⟨#[]⟩ : ByteArray) = rt ∧ 70 = re := by simpa using h
    clear h
    by_cases hk1 : k < 1
    · go_enter Tryz.func37, Tryz.ntmps37
      go_wp2
      exact bodyPost_ret (v := .tuple #[.string ⟨#[]⟩, .int .i64 70]) (by simp [results, Tryz.results37, go_sem]) rfl ⟨rfl, Below.refl _ _⟩
    · have hk2 : k > 32 := by omega
      go_enter Tryz.func37, Tryz.ntmps37
      go_wp2
      exact bodyPost_ret (v := .tuple #[.string ⟨#[]⟩, .int .i64 70]) (by simp [results, Tryz.results37, go_sem]) rfl ⟨rfl, Below.refl _ _⟩
end Go.Proofs.YthfnpagangjpbabGreat.Rc
