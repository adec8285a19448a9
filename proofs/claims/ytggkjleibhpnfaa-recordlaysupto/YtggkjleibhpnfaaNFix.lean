/-
  Walks: mine, fixed. Own work.
-/
import Derived.Test.YtggkjleibhpnfaaNRm
namespace Go.Proofs.Ytggkjleibhpnfaa
open Go.RowKit
attribute [local go_sem ↓] Go.wp_at_zero Go.wp_at_succ
set_option maxRecDepth 100000 in
theorem mine_any (w : World) (k a b c d : Int) : Calls Try.prog 14 #[.agg #[.int .i64 k, .int .u64 a, .int .u64 b, .int .u64 c, .int .u32 d]] w fun e w' => e = .returned (.agg #[.int .i64 k, .int .u64 a, .int .u64 b, .int .u64 c, .int .u32 d]) ∧ Below w.heap.size w w' := by
  go_enter Try.func14, Try.ntmps14
  go_wp2
  exact bodyPost_ret (v := .agg #[.int .i64 k, .int .u64 a, .int .u64 b, .int .u64 c, .int .u32 d]) (by simp [results, Try.results14, go_sem]) rfl ⟨rfl, bal (bal (Below.refl _ _) _) _⟩
theorem fix_a : (⟨(payS []).toArray⟩ : ByteArray) = ⟨#[0, 0, 0, 0, 72, 103, 75, 199]⟩ := by kernel_rfl
theorem fix_c : [0, 0, 0, 0, 72, 103, 75, 199, 122] = pay [] ++ [122] := by kernel_rfl
theorem fix_b : rpay [0, 0, 0, 0, 72, 103, 75, 199, 122] = some [] := fix_c ▸ rpay_pay [] [122] (Nat.zero_le _)
theorem fix_d : rnod 1 6 (nod 5 [120]) = none := by
  have hl := nod_len 5 [120] (by decide)
  have e : (nod 5 [120]).take 1 = [120] := nod_take 5 [120]
  rw [rnod, e]
  refine if_neg fun q => ?_
  have q2 := congrArg (fun l => (l.drop 32).take 4) q.2
  have c := fun p : Nat => cut_at ([120] ++ zer 31) (big 4 p) (big 4 (crc ([120] ++ zer 31 ++ big 4 p))) 32 4 (by simp [zer_len]) (big_len _ _)
  have c5 := c 5
  have c6 := c 6
  have q3 : big 4 6 = big 4 5 := c6.symm.trans (q2.trans c5)
  exact absurd (big_inj (by decide) (by decide) q3) (by decide)
set_option maxRecDepth 100000 in
set_option maxHeartbeats 2000000 in
theorem fixed_any (w : World) : Calls Try.prog 7 #[] w fun e w' => e = .returned (.bool true) ∧ Below w.heap.size w w' := by
  have HA : Hid (∀ W, Calls Try.prog 8 #[.string ⟨#[]⟩] W fun e w' => e = .returned (.string ⟨#[0, 0, 0, 0, 72, 103, 75, 199]⟩) ∧ Below W.heap.size W w') := fun W => payload_any W ⟨#[]⟩ (by decide) _ fix_a
  have HB : Hid (∀ W, Calls Try.prog 9 #[.string ⟨#[0, 0, 0, 0, 72, 103, 75, 199, 122]⟩] W fun e w' => e = .returned (.tuple #[.string ⟨#[]⟩, .int .i64 8, .int .i64 0]) ∧ Below W.heap.size W w') := fun W => rpayload_any W ⟨#[0, 0, 0, 0, 72, 103, 75, 199, 122]⟩ (by decide) ⟨#[]⟩ 8 0 (rpT_yes fix_b)
  obtain ⟨d, hd⟩ : ∃ d : ByteArray, (⟨(nod 5 [120]).toArray⟩ : ByteArray) = d := ⟨_, rfl⟩
  have hdl : d.data.toList = nod 5 [120] := by rw [← hd]
  have hds : d.size = 40 := by rw [← size_list, hdl]; exact nod_len 5 [120] (by decide)
  have hd40 : ((d.size : Int) == 40) = true := by simp; omega
  have HC : Hid (∀ W, Calls Try.prog 11 #[.int .u64 5, .string ⟨#[120]⟩] W fun e w' => e = .returned (.string d) ∧ Below W.heap.size W w') := fun W => node_any W 5 (by decide) ⟨#[120]⟩ (by decide) d hd
  have HD : Hid (∀ W, Calls Try.prog 10 #[.int .i64 1, .int .u64 5, .string d] W fun e w' => e = .returned (.tuple #[.string ⟨#[120]⟩, .int .i64 0]) ∧ Below W.heap.size W w') := fun W => rnode_any W 1 5 (by decide) d ⟨#[120]⟩ 0 (by rw [hdl]; exact rnT_yes (by decide) (rnod_nod 5 [120] (by decide)))
  have HE : Hid (∀ W, Calls Try.prog 10 #[.int .i64 1, .int .u64 6, .string d] W fun e w' => e = .returned (.tuple #[.string ⟨#[]⟩, .int .i64 180]) ∧ Below W.heap.size W w') := fun W => rnode_any W 1 6 (by decide) d ⟨#[]⟩ 180 (by rw [hdl]; exact rnT_no (by decide) fix_d)
  obtain ⟨m, hm⟩ : ∃ m : ByteArray, (⟨(mrk ⟨3, 7, 0, 0, 0#32⟩).toArray⟩ : ByteArray) = m := ⟨_, rfl⟩
  have hml : m.data.toList = mrk ⟨3, 7, 0, 0, 0#32⟩ := by rw [← hm]
  have HM : Hid (∀ W, Calls Try.prog 13 #[.agg #[.int .i64 3, .int .u64 7, .int .u64 0, .int .u64 0, .int .u32 0]] W fun e w' => e = .returned (.string m) ∧ Below W.heap.size W w') := fun W => mark_any W ⟨3, 7, 0, 0, 0#32⟩ (by decide) (by decide) (by decide) m hm
  have HR : Hid (∀ W, Calls Try.prog 12 #[.string m] W fun e w' => e = .returned (.tuple #[.agg #[.int .i64 3, .int .u64 7, .int .u64 0, .int .u64 0, .int .u32 0], .int .i64 0]) ∧ Below W.heap.size W w') := fun W => rmark_any W m ⟨3, 7, 0, 0, 0#32⟩ 0 (by rw [hml]; exact rmT_yes (rmrk_mrk _ ⟨by decide, by decide, by decide, by decide, by decide⟩))
  have hB := Below.refl w.heap.size w
  clear hd hdl hds hm hml
  go_enter Try.func7, Try.ntmps7
  go_wp2_with (first
    | (go_at_call 8; with_reducible refine (HA.out _).mono ?_; rintro e w1 ⟨rfl, hb⟩; replace hB := bnext hB hb; clear hb)
    | (go_at_call 9; with_reducible refine (HB.out _).mono ?_; rintro e w1 ⟨rfl, hb⟩; replace hB := bnext hB hb; clear hb)
    | (go_at_call 11; with_reducible refine (HC.out _).mono ?_; rintro e w1 ⟨rfl, hb⟩; replace hB := bnext hB hb; clear hb)
    | (go_at_call 10; (first | (with_reducible refine (HD.out _).mono ?_) | (with_reducible refine (HE.out _).mono ?_)); rintro e w1 ⟨rfl, hb⟩; replace hB := bnext hB hb; clear hb)
    | (go_at_call 13; with_reducible refine (HM.out _).mono ?_; rintro e w1 ⟨rfl, hb⟩; replace hB := bnext hB hb; clear hb)
    | (go_at_call 12; with_reducible refine (HR.out _).mono ?_; rintro e w1 ⟨rfl, hb⟩; replace hB := bnext hB hb; clear hb))
  go_ret
  exact ⟨rfl, bal hB _⟩
end Go.Proofs.Ytggkjleibhpnfaa
