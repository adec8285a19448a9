/-
  The reference's Mark. Own work.
-/
import Derived.Test.YtggkjleibhpnfaaNRefB
import Derived.Test.YtggkjleibhpnfaaNMrk
import Derived.Test.YtggkjleibhpnfaaNRd
namespace Go.Proofs.Ytggkjleibhpnfaa
open Go.RowKit
attribute [local go_sem ↓] Go.wp_at_zero Go.wp_at_succ
theorem txt (l : List UInt8) (n : Nat) (hn : l.length = n) : ∃ t : ByteArray, (⟨l.toArray⟩ : ByteArray) = t ∧ t.data.toList = l ∧ t.size = n := ⟨_, rfl, rfl, by rw [← size_list]; exact hn⟩
set_option maxRecDepth 100000 in
set_option maxHeartbeats 4000000 in
theorem refmark_any (w : World) (m : MV) (h1 : m.size < 18446744073709551616) (h2 : m.items < 18446744073709551616) (h3 : m.nodes < 18446744073709551616) (t : ByteArray) (ht : (⟨(mrk m).toArray⟩ : ByteArray) = t) :
    Calls Try.prog 17 #[.agg (mC m)] w fun e w' => e = .returned (.string t) ∧ Below w.heap.size w w' := by
  obtain ⟨mk, ma, mb, mc, md⟩ := m
  have h4 := md.isLt
  by_cases hk : 1 ≤ mk ∧ mk ≤ 32
  · rw [mrk, if_pos hk] at ht
    obtain ⟨k, rfl⟩ : ∃ k : Nat, mk = (k : Int) := ⟨mk.toNat, by omega⟩
    simp only [Int.toNat_natCast] at ht h1 h2 h3
    obtain ⟨d, hd⟩ : ∃ d, md.toNat = d := ⟨_, rfl⟩
    rw [hd] at ht
    have z1 : ¬ (k : Int) < 1 := by omega
    have z2 : ¬ (k : Int) > 32 := by omega
    have hw : IntKind.u64.wrap (k : Int) = (k : Int) := by rw [IntKind.wrap_u64]; omega
    have hw2 : IntKind.u64.wrap (d : Int) = (d : Int) := by rw [IntKind.wrap_u64]; omega
    obtain ⟨p0, hp0, lp0, sp0⟩ := txt (big 1 k) 1 (big_len _ _)
    obtain ⟨p1, hp1, lp1, sp1⟩ := txt (zer 3) 3 (zer_len _)
    obtain ⟨p2, hp2, lp2, sp2⟩ := txt (big 8 ma) 8 (big_len _ _)
    obtain ⟨p3, hp3, lp3, sp3⟩ := txt (big 8 mb) 8 (big_len _ _)
    obtain ⟨p4, hp4, lp4, sp4⟩ := txt (big 8 mc) 8 (big_len _ _)
    obtain ⟨p5, hp5, lp5, sp5⟩ := txt (big 4 d) 4 (big_len _ _)
    obtain ⟨p6, hp6, lp6, sp6⟩ := txt (zer 24) 24 (zer_len _)
    obtain ⟨q0, hq0, lq0, sq0⟩ := txt ([109, 115, 102, 1] ++ big 1 k) 5 (by simp [big_len])
    obtain ⟨q1, hq1, lq1, sq1⟩ := txt ([109, 115, 102, 1] ++ big 1 k ++ zer 3) 8 (by simp [big_len, zer_len])
    obtain ⟨q2, hq2, lq2, sq2⟩ := txt ([109, 115, 102, 1] ++ big 1 k ++ zer 3 ++ big 8 ma) 16 (by simp [big_len, zer_len])
    obtain ⟨q3, hq3, lq3, sq3⟩ := txt ([109, 115, 102, 1] ++ big 1 k ++ zer 3 ++ big 8 ma ++ big 8 mb) 24 (by simp [big_len, zer_len])
    obtain ⟨q4, hq4, lq4, sq4⟩ := txt ([109, 115, 102, 1] ++ big 1 k ++ zer 3 ++ big 8 ma ++ big 8 mb ++ big 8 mc) 32 (by simp [big_len, zer_len])
    obtain ⟨q5, hq5, lq5, sq5⟩ := txt ([109, 115, 102, 1] ++ big 1 k ++ zer 3 ++ big 8 ma ++ big 8 mb ++ big 8 mc ++ big 4 d) 36 (by simp [big_len, zer_len])
    obtain ⟨q6, hq6, lq6, sq6⟩ := txt (bodyM k ma mb mc d) 60 (bodyM_len _ _ _ _ _)
    have k0 := add_of ⟨#[109, 115, 102, 1]⟩ p0 q0 [109, 115, 102, 1] _ rfl lp0 hq0 (by rw [sp0]; decide)
    have k1 := add_of q0 p1 q1 _ _ lq0 lp1 hq1 (by omega)
    have k2 := add_of q1 p2 q2 _ _ lq1 lp2 hq2 (by omega)
    have k3 := add_of q2 p3 q3 _ _ lq2 lp3 hq3 (by omega)
    have k4 := add_of q3 p4 q4 _ _ lq3 lp4 hq4 (by omega)
    have k5 := add_of q4 p5 q5 _ _ lq4 lp5 hq5 (by omega)
    have k6 := add_of q5 p6 q6 _ _ lq5 lp6 hq6 (by omega)
    have H0 : Hid (∀ W, Calls Try.prog 31 #[.int .u64 (k : Int), .int .i64 1] W fun e w' => e = .returned (.string p0) ∧ Below W.heap.size W w') := fun W => refbig_any W k 1 (by omega) (by decide) p0 hp0
    have H1 : Hid (∀ W, Calls Try.prog 32 #[.int .i64 3] W fun e w' => e = .returned (.string p1) ∧ Below W.heap.size W w') := fun W => refzeros_any W 3 (by omega) p1 hp1
    have H2 : Hid (∀ W, Calls Try.prog 31 #[.int .u64 (ma : Int), .int .i64 8] W fun e w' => e = .returned (.string p2) ∧ Below W.heap.size W w') := fun W => refbig_any W ma 8 (by omega) (by decide) p2 hp2
    have H3 : Hid (∀ W, Calls Try.prog 31 #[.int .u64 (mb : Int), .int .i64 8] W fun e w' => e = .returned (.string p3) ∧ Below W.heap.size W w') := fun W => refbig_any W mb 8 (by omega) (by decide) p3 hp3
    have H4 : Hid (∀ W, Calls Try.prog 31 #[.int .u64 (mc : Int), .int .i64 8] W fun e w' => e = .returned (.string p4) ∧ Below W.heap.size W w') := fun W => refbig_any W mc 8 (by omega) (by decide) p4 hp4
    have H5 : Hid (∀ W, Calls Try.prog 31 #[.int .u64 (d : Int), .int .i64 4] W fun e w' => e = .returned (.string p5) ∧ Below W.heap.size W w') := fun W => refbig_any W d 4 (by omega) (by decide) p5 hp5
    have H6 : Hid (∀ W, Calls Try.prog 32 #[.int .i64 24] W fun e w' => e = .returned (.string p6) ∧ Below W.heap.size W w') := fun W => refzeros_any W 24 (by omega) p6 hp6
    have H7 : Hid (∀ W, Calls Try.prog 30 #[.string q6] W fun e w' => e = .returned (.string t) ∧ Below W.heap.size W w') := fun W => refsummed_any W q6 (by omega) t (by rw [lq6]; exact ht)
    clear hp0 hp1 hp2 hp3 hp4 hp5 hp6 lp0 lp1 lp2 lp3 lp4 lp5 lp6 hq0 hq1 hq2 hq3 hq4 hq5 hq6 lq0 lq1 lq2 lq3 lq4 lq5 lq6 sp0 sp1 sp2 sp3 sp4 sp5 sp6 sq0 sq1 sq2 sq3 sq4 sq5 sq6 ht h1 h2 h3 hk h4
    unfold mC
    rw [hd]
    obtain ⟨wa, hwa⟩ : ∃ wa, w.alloc (.cells #[.int .i64 (k : Int), .int .u64 (ma : Int), .int .u64 (mb : Int), .int .u64 (mc : Int), .int .u32 (d : Int)] 25) = wa := ⟨_, rfl⟩
    have HC : Hid (∀ W, Below wa.heap.size wa W → W.cell? ⟨w.heap.size, 0, none⟩ = some (.int .i64 (k : Int)) ∧ W.cell? ⟨w.heap.size, 1, none⟩ = some (.int .u64 (ma : Int)) ∧ W.cell? ⟨w.heap.size, 2, none⟩ = some (.int .u64 (mb : Int)) ∧ W.cell? ⟨w.heap.size, 3, none⟩ = some (.int .u64 (mc : Int)) ∧ W.cell? ⟨w.heap.size, 4, none⟩ = some (.int .u32 (d : Int))) := fun W hb => by
      have hh : W.heap[w.heap.size]? = some (.cells #[.int .i64 (k : Int), .int .u64 (ma : Int), .int .u64 (mb : Int), .int .u64 (mc : Int), .int .u32 (d : Int)] 25 (0, 0)) := by
        rw [hb.block _ (by rw [← hwa]; simp), ← hwa]; exact new1 _ _
      refine ⟨?_, ?_, ?_, ?_, ?_⟩
      iterate 5 (rw [cell_of_row W _ _ _ _ (0, 0) hh]; rfl)
    have HA : Hid (Below w.heap.size w wa) := by rw [← hwa]; exact bal (Below.refl _ _) _
    go_enter Try.func17, Try.ntmps17
    obtain ⟨c0, c1, c2, c3, c4⟩ := HC.out wa (Below.refl _ _)
    go_upto_region 3 with fail
    have tw := bdrew (Below.refl wa.heap.size wa)
    clear hwa
    go_region_held3 (fun Z => Z.cell? ⟨w.heap.size, 0, none⟩ = some (.int .i64 (k : Int)) ∧ Z.cell? ⟨w.heap.size, 1, none⟩ = some (.int .u64 (ma : Int)) ∧ Z.cell? ⟨w.heap.size, 2, none⟩ = some (.int .u64 (mb : Int)) ∧ Z.cell? ⟨w.heap.size, 3, none⟩ = some (.int .u64 (mc : Int)) ∧ Z.cell? ⟨w.heap.size, 4, none⟩ = some (.int .u32 (d : Int))) (first | assumption | (exact HC.out _ tw)) (first
      | (go_at_call 31; (first
          | (with_reducible refine (H0.out _).mono ?_) | (with_reducible refine (H2.out _).mono ?_) | (with_reducible refine (H3.out _).mono ?_) | (with_reducible refine (H4.out _).mono ?_) | (with_reducible refine (H5.out _).mono ?_)); rintro e w4 ⟨rfl, hb4⟩; replace tw := bnext tw hb4; clear hb4)
      | (go_at_call 32; (first
          | (with_reducible refine (H1.out _).mono ?_) | (with_reducible refine (H6.out _).mono ?_)); rintro e w4 ⟨rfl, hb4⟩; replace tw := bnext tw hb4; clear hb4)
      | (go_at_call 30; (with_reducible refine (H7.out _).mono ?_); rintro e w4 ⟨rfl, hb4⟩; replace tw := bnext tw hb4; clear hb4))
    all_goals
      go_wp2
      go_ret
      exact ⟨rfl, bnext HA.out tw⟩
  · rw [mrk, if_neg hk] at ht
    subst ht
    unfold mC
    by_cases hk1 : mk < 1
    · go_enter Try.func17, Try.ntmps17
      go_wp2
      go_ret
      exact ⟨rfl, bal (Below.refl _ _) _⟩
    · have hk2 : mk > 32 := by omega
      go_enter Try.func17, Try.ntmps17
      go_wp2
      go_ret
      exact ⟨rfl, bal (Below.refl _ _) _⟩
end Go.Proofs.Ytggkjleibhpnfaa
