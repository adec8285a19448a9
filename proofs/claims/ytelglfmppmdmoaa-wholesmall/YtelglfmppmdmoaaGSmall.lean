/-
  WholeSmall. Own work. (written by mkSmall.py)
-/
import Derived.Test.YtelglfmppmdmoaaGWalkA
namespace Go.Proofs.Ytelglfmppmdmoaa
open Go.RowKit
open Cv (rst cov errS rstS)
attribute [local go_sem ↓] Go.wp_at_zero Go.wp_at_succ
theorem kin_small {old size c : Nat} (h : cnt 3 1 old size [] = some c) : c ≤ 120 := by
  have ho := cnt_ok h
  have hz := ho.hsz
  rw [cnt_kin ⟨by decide, by decide, hz⟩] at h
  split at h
  · rename_i h1
    have h3 := Cv.cov_forty old (Nat.le_trans h1.1 hz)
    have h4 := Cv.cov_len old size h1.1 hz
    cases h
    omega
  · cases h
theorem rdu_take {w : World} {sa : Option Addr} {sb so : Nat} {S : List Nat} (rs : RdU w sa sb so S.length S) {m : Nat} (hm : m ≤ S.length) : RdU w sa sb so m (S.take m) := by
  refine ⟨by rw [List.length_take]; omega, fun h => rs.ptr (by omega), fun j v hj => rs.rng j v ?_⟩
  have hj' : j < m := by have := (List.getElem?_eq_some_iff.1 hj).1; simp [Cv.cU] at this; omega
  rw [Cv.cU, List.map_take, List.getElem?_take_of_lt hj'] at hj
  exact hj
theorem small_le {n C ms c : Nat} {S : List Nat} (he : errS n S = 0) (hl : S.length = ms) (hC : n ≤ Pl.pw C) (hc : (rst 0 n S).length = c) : c ≤ ms * C + 40 := by
  obtain ⟨g1, _, _, g4⟩ := Cv.errS_ok he
  have := Cv.rst_count n C S g1 g4 hC
  rw [hl, hc] at this
  exact this
theorem count3 (m n : Nat) (hm : m < 18446744073709551616) (hn : n < 18446744073709551616) : ∃ k e : Nat, ((e = 0 ∧ k ≤ 120) ∨ (e = 150 ∧ k = 0)) ∧
    ∀ w, Calls Try.prog 12 #[.agg #[.int .i64 3, .int .i64 1, .int .u64 (m : Int), .int .u64 (n : Int), .slice none 0 0, .slice none 0 0]] w fun x w' => x = .returned (.tuple #[.int .u64 (k : Int), .int .i64 (e : Int)]) ∧ Below w.heap.size w w' := by
  have h := fun w => count_any w 3 1 m n none 0 0 0 [] (.slice none 0 0) hm hn ⟨rfl, fun h => absurd h (Nat.lt_irrefl 0), fun j v h => by cases h⟩ (fun _ => by simp)
  rcases hc : cnt 3 1 m n [] with _ | c
  · simp only [hc] at h; exact ⟨0, 150, .inr ⟨rfl, rfl⟩, h⟩
  · simp only [hc] at h; exact ⟨c, 0, .inl ⟨rfl, kin_small hc⟩, h⟩
set_option maxRecDepth 100000 in
set_option maxHeartbeats 4000000 in
theorem small_walk (w : World) (n m : Nat) (hn : n < 18446744073709551616) (hm : m < 18446744073709551616) (sa : Option Addr) (sb so sc : Nat) (S : List Nat) (rs : RdU w sa sb so S.length S) (hS : S.length ≤ 17592186044416) (hsc : S.length ≤ sc) :
    Calls Try.prog 8 #[.int .u64 (n : Int), .int .u64 (m : Int), .slice sa S.length sc] w fun e w' => e = .returned (.bool true) ∧ Below w.heap.size w w' := by
  have HR : Hid (∀ F, Below w.heap.size w F → RdU F sa sb so S.length S) := fun F hF => rs.next hF
  have HN : Hid (n < 18446744073709551616 ∧ m < 18446744073709551616) := ⟨hn, hm⟩
  have hS1 : (S.length : Int) ≤ 17592186044416 := by omega
  by_cases hlong : 200 < S.length
  · have hl1 : (200 : Int) < (S.length : Int) := by omega
    have hc1 : (200 : Int) ≤ (sc : Int) := by omega
    have HR2 : Hid (∀ F, Below w.heap.size w F → RdU F sa sb so 200 (S.take 200)) := fun F hF => rdu_take (HR.out F hF) (by omega)
    clear hn hm rs hS
    go_enter Try.func8, Try.ntmps8
    go_upto_region 5 with (go_at_call 20; with_reducible refine (formed_any _).mono ?_; rintro x w1 ⟨rfl, hb1⟩)
    have R := HR2.out _ hb1
    have hms : (200 : Nat) ≤ 200 := Nat.le_refl _
    have hmi : (200 : Int) ≤ 200 := by decide
    have hmc : ((200 : Nat) : Int) = 200 := rfl
    have HRt : Hid (∀ F, Below w1.heap.size w1 F → RdU F sa sb so 200 (S.take 200)) := fun F hF => R.next hF
    by_cases he : errS n (S.take 200) = 0
    · have HC := Cv.count_ok n w1 sa sb so 200 sc (S.take 200) (rd_of R) (by omega) he
      obtain ⟨g1, g2, g3, g4⟩ := Cv.errS_ok he
      have hn0 : 0 < n := by omega
      have HCe : Hid (∀ F, Calls Try.prog 24 #[.int .u64 (n : Int)] F fun e w' => ∃ c : Nat, e = .returned (.int .i64 (c : Int)) ∧ n ≤ Pl.pw c ∧ c ≤ 64 ∧ F = w') := fun F => ceil_any n F g1 hn0
      have HRe : Hid (∀ F, Below w1.heap.size w1 F → Calls Try.prog 23 #[.int .u64 (n : Int), .slice sa 200 sc] F fun x w' => ∃ v, x = .returned (.tuple #[v, .int .i64 0]) ∧ Cv.OwnB w' F.heap.size v (Cv.zl (rst 0 n (S.take 200))) ∧ Below F.heap.size F w') := fun F hF => Cv.rest_ok n F sa sb so 200 sc (S.take 200) (rd_of (HRt.out F hF)) (by omega) he
      obtain ⟨c, hc⟩ : ∃ c, (rst 0 n (S.take 200)).length = c := ⟨_, rfl⟩
      have hc40 : c ≤ 1099511627776 := by have := rst_le g1 g4; omega
      have HZ : Hid ((Cv.zl (rst 0 n (S.take 200))).length = c) := by rw [Cv.zl_len]; exact hc
      have HL : Hid (∀ C : Nat, n ≤ Pl.pw C → c ≤ 200 * C + 40) := fun C hC => small_le he R.hl hC hc
      rw [hc] at HC
      generalize Cv.zl (rst 0 n (S.take 200)) = Z at *
      have hc9 : (c : Int) ≤ 1099511627776 := by omega
      have ec : IntKind.u64.wrap (c : Int) = (c : Int) := by rw [IntKind.wrap_u64]; omega
      have fc := bne_self_eq_false (c : Int)
      clear he g1 g2 g3 g4 hn0 hc hc40 R HRt
      go_upto_region 8 with (first
        | (go_at_call 22; with_reducible refine HC.mono ?_; rintro x w2 ⟨rfl, hb2⟩)
        | (go_at_call 23; (refine (HRe.out _ hb2).mono ?_); rintro x w3 ⟨v, rfl, ov, hb3⟩; (obtain ⟨va, vm, vc, rfl⟩ := Cv.own_slice ov); (obtain rfl : vm = c := by (have h := own_len ov; rw [HZ.out] at h; exact h))))
      have hbx : Below w.heap.size w w3 := bnext (bnext hb1 hb2) hb3
      clear ov hb1 hb2 hb3 HC HRe HZ
      go_upto_region 12 with (go_at_call 24; (refine (HCe.out _).mono ?_); rintro x w4 ⟨C, rfl, h1, h2, rfl⟩; (have hL := HL.out C h1); (obtain ⟨q, hq⟩ : ∃ q : Nat, 200 * C = q := ⟨_, rfl⟩); (have hq2 : 200 * C ≤ 200 * 64 := Nat.mul_le_mul hms h2); (have eq1 : (200 : Int) * (C : Int) = (q : Int) := by (rw [← hq, Int.natCast_mul]; try rfl)); (have eq2 : (q : Int) ≤ 12800 := by omega); (have eq3 : ¬ (q : Int) + 64 < (vm : Int) := by omega); (have eq4 : IntKind.u64.wrap ((q : Int) + 64) = (q : Int) + 64 := by (rw [IntKind.wrap_u64]; omega)); (have eq5 : wrap64 (q : Int) = (q : Int) := by (unfold wrap64; omega)); clear hL hq hq2 h1 h2)
      obtain ⟨k, e, hke, HK⟩ := count3 m n HN.out.2 HN.out.1
      rcases hke with ⟨rfl, hk⟩ | ⟨rfl, rfl⟩
      · have hk1 : (k : Int) ≤ 128 := by omega
        clear hk
        go_wp2_with (go_at_call 12; (refine (HK _).mono ?_); rintro x w6 ⟨rfl, hb6⟩)
        go_ret
        exact ⟨rfl, bnext hbx hb6⟩
      · go_wp2_with (go_at_call 12; (refine (HK _).mono ?_); rintro x w6 ⟨rfl, hb6⟩)
        go_ret
        exact ⟨rfl, bnext hbx hb6⟩
    · have HC := Cv.count_any n w1 sa sb so 200 sc (S.take 200) (rd_of R) (by omega)
      rw [rstS, if_neg he] at HC
      obtain ⟨er, her⟩ : ∃ er, errS n (S.take 200) = er := ⟨_, rfl⟩
      rw [her] at HC he
      have hz : ((er : Int) == 0) = false := beq_false_of_ne (by omega)
      clear R HRt her he
      go_upto_region 12 with (go_at_call 22; with_reducible refine HC.mono ?_; rintro x w2 ⟨rfl, hb2⟩)
      have hbx : Below w.heap.size w w2 := bnext hb1 hb2
      obtain ⟨k, e, hke, HK⟩ := count3 m n HN.out.2 HN.out.1
      rcases hke with ⟨rfl, hk⟩ | ⟨rfl, rfl⟩
      · have hk1 : (k : Int) ≤ 128 := by omega
        clear hk
        go_wp2_with (go_at_call 12; (refine (HK _).mono ?_); rintro x w6 ⟨rfl, hb6⟩)
        go_ret
        exact ⟨rfl, bnext hbx hb6⟩
      · go_wp2_with (go_at_call 12; (refine (HK _).mono ?_); rintro x w6 ⟨rfl, hb6⟩)
        go_ret
        exact ⟨rfl, bnext hbx hb6⟩
  · obtain ⟨ms, hmsE⟩ : ∃ ms, S.length = ms := ⟨_, rfl⟩
    rw [hmsE] at HR hS1 hlong ⊢
    have hl1 : ¬ (200 : Int) < (ms : Int) := by omega
    clear hn hm rs hS hsc hmsE
    go_enter Try.func8, Try.ntmps8
    go_upto_region 5 with (go_at_call 20; with_reducible refine (formed_any _).mono ?_; rintro x w1 ⟨rfl, hb1⟩)
    have R := HR.out _ hb1
    have hms : ms ≤ 200 := by omega
    have hmi : (ms : Int) ≤ 200 := by omega
    have hmc : ((ms : Nat) : Int) = (ms : Int) := rfl
    have HRt : Hid (∀ F, Below w1.heap.size w1 F → RdU F sa sb so ms S) := fun F hF => R.next hF
    by_cases he : errS n S = 0
    · have HC := Cv.count_ok n w1 sa sb so ms sc S (rd_of R) (by omega) he
      obtain ⟨g1, g2, g3, g4⟩ := Cv.errS_ok he
      have hn0 : 0 < n := by omega
      have HCe : Hid (∀ F, Calls Try.prog 24 #[.int .u64 (n : Int)] F fun e w' => ∃ c : Nat, e = .returned (.int .i64 (c : Int)) ∧ n ≤ Pl.pw c ∧ c ≤ 64 ∧ F = w') := fun F => ceil_any n F g1 hn0
      have HRe : Hid (∀ F, Below w1.heap.size w1 F → Calls Try.prog 23 #[.int .u64 (n : Int), .slice sa ms sc] F fun x w' => ∃ v, x = .returned (.tuple #[v, .int .i64 0]) ∧ Cv.OwnB w' F.heap.size v (Cv.zl (rst 0 n S)) ∧ Below F.heap.size F w') := fun F hF => Cv.rest_ok n F sa sb so ms sc S (rd_of (HRt.out F hF)) (by omega) he
      obtain ⟨c, hc⟩ : ∃ c, (rst 0 n S).length = c := ⟨_, rfl⟩
      have hc40 : c ≤ 1099511627776 := by have := rst_le g1 g4; omega
      have HZ : Hid ((Cv.zl (rst 0 n S)).length = c) := by rw [Cv.zl_len]; exact hc
      have HL : Hid (∀ C : Nat, n ≤ Pl.pw C → c ≤ ms * C + 40) := fun C hC => small_le he R.hl hC hc
      rw [hc] at HC
      generalize Cv.zl (rst 0 n S) = Z at *
      have hc9 : (c : Int) ≤ 1099511627776 := by omega
      have ec : IntKind.u64.wrap (c : Int) = (c : Int) := by rw [IntKind.wrap_u64]; omega
      have fc := bne_self_eq_false (c : Int)
      clear he g1 g2 g3 g4 hn0 hc hc40 R HRt
      go_upto_region 8 with (first
        | (go_at_call 22; with_reducible refine HC.mono ?_; rintro x w2 ⟨rfl, hb2⟩)
        | (go_at_call 23; (refine (HRe.out _ hb2).mono ?_); rintro x w3 ⟨v, rfl, ov, hb3⟩; (obtain ⟨va, vm, vc, rfl⟩ := Cv.own_slice ov); (obtain rfl : vm = c := by (have h := own_len ov; rw [HZ.out] at h; exact h))))
      have hbx : Below w.heap.size w w3 := bnext (bnext hb1 hb2) hb3
      clear ov hb1 hb2 hb3 HC HRe HZ
      go_upto_region 12 with (go_at_call 24; (refine (HCe.out _).mono ?_); rintro x w4 ⟨C, rfl, h1, h2, rfl⟩; (have hL := HL.out C h1); (obtain ⟨q, hq⟩ : ∃ q : Nat, ms * C = q := ⟨_, rfl⟩); (have hq2 : ms * C ≤ 200 * 64 := Nat.mul_le_mul hms h2); (have eq1 : (ms : Int) * (C : Int) = (q : Int) := by (rw [← hq, Int.natCast_mul]; try rfl)); (have eq2 : (q : Int) ≤ 12800 := by omega); (have eq3 : ¬ (q : Int) + 64 < (vm : Int) := by omega); (have eq4 : IntKind.u64.wrap ((q : Int) + 64) = (q : Int) + 64 := by (rw [IntKind.wrap_u64]; omega)); (have eq5 : wrap64 (q : Int) = (q : Int) := by (unfold wrap64; omega)); clear hL hq hq2 h1 h2)
      obtain ⟨k, e, hke, HK⟩ := count3 m n HN.out.2 HN.out.1
      rcases hke with ⟨rfl, hk⟩ | ⟨rfl, rfl⟩
      · have hk1 : (k : Int) ≤ 128 := by omega
        clear hk
        go_wp2_with (go_at_call 12; (refine (HK _).mono ?_); rintro x w6 ⟨rfl, hb6⟩)
        go_ret
        exact ⟨rfl, bnext hbx hb6⟩
      · go_wp2_with (go_at_call 12; (refine (HK _).mono ?_); rintro x w6 ⟨rfl, hb6⟩)
        go_ret
        exact ⟨rfl, bnext hbx hb6⟩
    · have HC := Cv.count_any n w1 sa sb so ms sc S (rd_of R) (by omega)
      rw [rstS, if_neg he] at HC
      obtain ⟨er, her⟩ : ∃ er, errS n S = er := ⟨_, rfl⟩
      rw [her] at HC he
      have hz : ((er : Int) == 0) = false := beq_false_of_ne (by omega)
      clear R HRt her he
      go_upto_region 12 with (go_at_call 22; with_reducible refine HC.mono ?_; rintro x w2 ⟨rfl, hb2⟩)
      have hbx : Below w.heap.size w w2 := bnext hb1 hb2
      obtain ⟨k, e, hke, HK⟩ := count3 m n HN.out.2 HN.out.1
      rcases hke with ⟨rfl, hk⟩ | ⟨rfl, rfl⟩
      · have hk1 : (k : Int) ≤ 128 := by omega
        clear hk
        go_wp2_with (go_at_call 12; (refine (HK _).mono ?_); rintro x w6 ⟨rfl, hb6⟩)
        go_ret
        exact ⟨rfl, bnext hbx hb6⟩
      · go_wp2_with (go_at_call 12; (refine (HK _).mono ?_); rintro x w6 ⟨rfl, hb6⟩)
        go_ret
        exact ⟨rfl, bnext hbx hb6⟩
end Go.Proofs.Ytelglfmppmdmoaa
