/-
  The walk of WireCut. Own work.
-/
import Derived.Test.YtfgpmpopmpobgaaWWalkE
namespace Go.Proofs.Ytfgpmpopmpobgaa
open Go.RowKit
attribute [local go_sem ↓] Go.wp_at_zero Go.wp_at_succ
theorem u64_nat {a : Int} (wf : (Lit.int .u64 a).wf = true) : ∃ n : Nat, a = (n : Int) ∧ n < 2 ^ 64 := by
  have := bounds_u64 wf
  exact ⟨a.toNat, by omega, by omega⟩
/-- Bytes as a text. -/
def txt (l : List UInt8) : ByteArray := ⟨l.toArray⟩
theorem txt_list (l : List UInt8) : (txt l).data.toList = l := by simp [txt]
theorem txt_size (l : List UInt8) : (txt l).size = l.length := by simp [txt, ByteArray.size]
theorem cut_list (s : ByteArray) (k : Nat) : (s.extract 0 k).data.toList = s.data.toList.take k := by simp [ByteArray.data_extract]
theorem cut_num (n k : Nat) (hn : n < 18446744073709551616) (hk : k < (num n).length) : nb ((txt (num n)).extract 0 k) 0 = (0, 60, ByteArray.empty) := by
  refine nb_err (k := 0) ?_ (by decide)
  rw [cut_list, txt_list]
  exact scan_cut n 0 0 k (by simpa using hn) (by omega) hk
theorem mod_at (a : Int) (b : Nat) (h1 : 1 ≤ b) (h2 : b ≤ 10) : ∃ k : Nat, (wrap64 (a.tmod (b : Int) + (b : Int))).tmod (b : Int) = (k : Int) ∧ k < b := by
  have q1 := Int.tmod_lt_of_pos a (show (0 : Int) < (b : Int) by omega)
  have q2 := Int.lt_tmod_of_pos a (show (0 : Int) < (b : Int) by omega)
  obtain ⟨x, hx⟩ : ∃ x, x = a.tmod (b : Int) + (b : Int) := ⟨_, rfl⟩
  rw [← hx]
  have e : wrap64 x = x := by unfold wrap64; omega
  rw [e, Int.tmod_eq_emod_of_nonneg (by omega)]
  have q3 := Int.emod_nonneg x (show (b : Int) ≠ 0 by omega)
  have q4 := Int.emod_lt_of_pos x (show (0 : Int) < (b : Int) by omega)
  exact ⟨(x % (b : Int)).toNat, by omega, by omega⟩
set_option maxRecDepth 100000 in
set_option maxHeartbeats 2000000 in
theorem cut_walk (w : World) (n : Nat) (hn : n < 18446744073709551616) (a : Int) :
    Calls Try.prog 4 #[.int .u64 (n : Int), .int .i64 a] w fun e w' => e = .returned (.bool true) ∧ Below w.heap.size w w' := by
  have H0 := fixed_any
  have H1 := fun W => num_any W n hn
  obtain ⟨X, hX⟩ : ∃ X, X = txt (num n) := ⟨_, rfl⟩
  obtain ⟨L, hL⟩ : ∃ L, L = (num n).length := ⟨_, rfl⟩
  have hL10 : L ≤ 10 := by rw [hL]; exact num_len hn
  have hXs : X.size = L := by rw [hX, hL, txt_size]
  have HC : Hid (∀ k, k < L → nb (X.extract 0 k) 0 = (0, 60, ByteArray.empty)) := fun k hk => by rw [hX]; exact cut_num n k hn (hL ▸ hk)
  have HL : Hid (1 + (if 0 < n / 128 then (num (n / 128)).length else 0) = L) := by
    show _ = _
    rw [hL]
    by_cases h : n < 128
    · rw [if_neg (by omega), num_low h]; rfl
    · rw [if_pos (by omega), num_high (n := n) (by omega), List.length_cons]; omega
  simp only [show (⟨(num n).toArray⟩ : ByteArray) = X from hX.symm] at H1
  clear hX hL
  go_enter Try.func4, Try.ntmps4
  have hB := Below.refl w.heap.size w
  go_upto_region 6 with (first
    | (go_at_call 6; with_reducible refine (H0 _).mono ?_; rintro e w' ⟨rfl, hb⟩; replace hB := bnext hB hb; clear hb)
    | (go_at_call 7; with_reducible refine (H1 _).mono ?_; rintro e w' ⟨rfl, hb⟩; replace hB := bnext hB hb; clear hb))
  go_loopg [6, 7] (n / 128) (fun g c x wr => w' = wr ∧ ∃ (y b : Nat), y = g ∧ c = .int .i64 (b : Int) ∧ x = .int .u64 (y : Int) ∧ y ≤ n ∧ b ≤ 10 ∧ 1 ≤ b ∧ Hid (b + (if 0 < y then (num y).length else 0) = L))
  case atStart =>
    go_light
    exact ⟨rfl, n / 128, 1, rfl, rfl, rfl, by omega, by omega, by omega, HL.out⟩
  case round =>
    obtain ⟨rfl, y, b, hg, rfl, rfl, hyn, hb, hb1, HY⟩ := hrel
    subst hg
    by_cases hy : 0 < y
    · have hy' : (0 : Int) < (y : Int) := by omega
      have HR : Hid ((b + 1) + (if 0 < y / 128 then (num (y / 128)).length else 0) = L ∧ b + 1 ≤ 10 ∧ y / 128 < y) := by
        have h := HY.out
        rw [if_pos hy] at h
        by_cases hl : y < 128
        · rw [num_low hl, List.length_singleton] at h
          rw [if_neg (by omega)]
          exact ⟨h, by omega, by omega⟩
        · rw [num_high (by omega), List.length_cons] at h
          rw [if_pos (by omega)]
          exact ⟨by omega, by omega, by omega⟩
      have eq : IntKind.u64.wrap ((y : Int) / 128) = ((y / 128 : Nat) : Int) := by rw [IntKind.wrap_u64]; omega
      clear HY
      go_wp2
      go_roundg (y / 128)
      case rel =>
        go_light
        exact ⟨rfl, y / 128, b + 1, rfl, by go_num, by go_num, by omega, HR.out.2.1, by omega, HR.out.1⟩
      case measure => go_light; exact HR.out.2.2
    · obtain rfl : y = 0 := by omega
      have hbL : b = L := by have := HY.out; simpa using this
      subst hbL
      have hb0 : ¬ (b : Int) = 0 := by omega
      clear HY HL
      obtain ⟨k, e1, hk⟩ := mod_at a b hb1 hb
      have hk1 : (0 : Int) ≤ (k : Int) := by omega
      have hk2 : (k : Int) ≤ (b : Int) := by omega
      have H2 := fun W => st_first W W.heap.size rfl (X.extract 0 k)
      have H3 := fun W V (h : St W V W.heap.size (X.extract 0 k) 0) => st_rnum h (by simp [ByteArray.size_extract]; omega) 0 60 ByteArray.empty (HC.out k hk) 0 60 rfl rfl
      have H4 := fun W V (h : St W V W.heap.size ByteArray.empty 60) => st_left h 0 (by decide)
      go_wp2_with (first
        | (go_at_call 8; with_reducible refine (H2 _).mono ?_; rintro e w2 ⟨rfl, hS⟩)
        | (go_at_call 9; with_reducible refine (H3 _ _ hS).mono ?_; clear hS; rintro e w3 ⟨rfl, hS⟩)
        | (go_at_call 10; with_reducible refine (H4 _ _ hS).mono ?_; clear hS; rintro e w3 ⟨rfl, hS⟩))
      go_ret
      exact ⟨rfl, bnext hB hS.below⟩
theorem cut_row (w : World) (n a : Int) (h : (Lit.int .u64 n).wf = true) :
    Calls Try.prog 4 #[.int .u64 n, .int .i64 a] w fun e w' => e = .returned (.bool true) ∧ Below w.heap.size w w' := by
  obtain ⟨p, rfl, hp⟩ := u64_nat h
  exact cut_walk w p hp a
end Go.Proofs.Ytfgpmpopmpobgaa
