/-
  Walks: the reference's More and Of. Own work.
-/
import Derived.Test.YtplopgkoikeohaaRWalkB
namespace Go.Proofs.Ytplopgkoikeohaa
open Go.RowKit
attribute [local go_sem ↓] Go.wp_at_zero Go.wp_at_succ
theorem st_bt (r : BitVec 32) (b : Bool) : st (r ^^^ bt b) = (r >>> 1) ^^^ (if (r.getLsbD 0 ^^ b) then PL else 0#32) := by
  have h0 : (r ^^^ bt b).getLsbD 0 = (r.getLsbD 0 ^^ b) := by
    rw [BitVec.getLsbD_xor]
    cases b <;> simp [bt]
  rw [st, h0, shr_xor]
  have : bt b >>> 1 = 0#32 := by cases b <;> decide
  rw [this, xor_zero']
theorem and_one (x : Nat) (hx : x < 4294967296) : bits .and .u32 (x : Int) 1 = ((x.testBit 0).toNat : Int) := by
  have := u32_and_nat x 1 hx (by decide)
  rw [show ((1 : Nat) : Int) = 1 from rfl] at this
  rw [this, Nat.and_one_is_mod, Nat.testBit_zero]
  have h2 : x % 2 = 0 ∨ x % 2 = 1 := by omega
  rcases h2 with h | h <;> rw [h] <;> rfl
theorem bit_and (n j : Nat) (hn : n < 256) : bits .and .u32 ((n : Int) / 2 ^ j % 4294967296) 1 = ((n.testBit j).toNat : Int) := by
  have e : ((n : Int) / 2 ^ j % 4294967296) = ((n / 2 ^ j : Nat) : Int) := by
    have h1 : n / 2 ^ j ≤ n := Nat.div_le_self _ _
    have h2 : ((n : Int) / 2 ^ j) = ((n / 2 ^ j : Nat) : Int) := by simp
    rw [h2]
    generalize n / 2 ^ j = y at h1 ⊢
    omega
  have h1 : n / 2 ^ j ≤ n := Nat.div_le_self _ _
  rw [e, and_one _ (by omega), Nat.testBit_div_two_pow, Nat.zero_add]
theorem bitstep (R : BitVec 32) (d : Nat) (hd : d = R.toNat) (b : UInt8) (j : Nat) : ∃ q y : Nat, (d : Int) / 2 = (q : Int) ∧ bits .xor .u32 (q : Int) 2197175160 = (y : Int) ∧
    (bits .and .u32 (d : Int) 1 != bits .and .u32 ((b.toNat : Int) / 2 ^ j % 4294967296) 1) = (R.getLsbD 0 ^^ b.toNat.testBit j) ∧
    (st (R ^^^ bt (b.toNat.testBit j))).toNat = if (R.getLsbD 0 ^^ b.toNat.testBit j) then y else q := by
  subst hd
  have e : R.toNat / 2 = (R >>> 1).toNat := by rw [BitVec.toNat_ushiftRight, Nat.shiftRight_eq_div_pow]
  refine ⟨R.toNat / 2, ((R >>> 1) ^^^ PL).toNat, by omega, ?_, ?_, ?_⟩
  · rw [e, show (2197175160 : Int) = (PL.toNat : Int) from rfl, xor32]
  · rw [bit_and _ _ b.toNat_lt, and_one _ R.isLt]
    rw [show R.toNat.testBit 0 = R.getLsbD 0 from rfl]
    cases R.getLsbD 0 <;> cases b.toNat.testBit j <;> rfl
  · rw [st_bt, e]
    cases (R.getLsbD 0 ^^ b.toNat.testBit j)
    · rw [if_neg (by decide), xor_zero', if_neg (by decide)]
    · rw [if_pos rfl, if_pos rfl]
theorem not32' (a : BitVec 32) : bits .xor .u32 (a.toNat : Int) 4294967295 = ((~~~ a).toNat : Int) := by
  rw [show (4294967295 : Int) = ((BitVec.allOnes 32).toNat : Int) from rfl, xor32, BitVec.xor_allOnes]
set_option maxRecDepth 100000 in
theorem refmore_any (w : World) (c : BitVec 32) (m0 : Nat) (hm0 : m0 = c.toNat) (s : ByteArray) (hs : s.size ≤ 9223372036854775807) :
    Calls Try.prog 14 #[.int .u32 (m0 : Int), .string s] w fun e w' => e = .returned (.int .u32 ((mor c s.data.toList).toNat : Int)) ∧ w' = w := by
  have e00 := not32' c
  rw [← hm0] at e00
  have H0 : Hid ((~~~ c).toNat = (run (~~~ c) (s.data.toList.take 0)).toNat) := rfl
  generalize (~~~ c).toNat = x0 at e00 H0
  clear hm0
  go_enter Try.func14, Try.ntmps14
  go_wp2
  go_loopg [5, 6] s.size (fun g x i wr => w = wr ∧ ∃ (k m : Nat), k ≤ s.size ∧ g = s.size - k ∧ x = .int .u32 (m : Int) ∧ i = .int .i64 k ∧ Hid (m = (run (~~~ c) (s.data.toList.take k)).toNat))
  case atStart =>
    go_light
    exact ⟨rfl, 0, x0, Nat.zero_le _, rfl, rfl, rfl, H0⟩
  case round =>
    clear H0
    obtain ⟨rfl, k, m, hk, rfl, rfl, rfl, HM⟩ := hrel
    by_cases hlt : k < s.size
    · have hz : (k : Int) < (s.size : Int) := by omega
      have HX : Hid (brun (run (~~~ c) (s.data.toList.take k)) (fun i => s[k].toNat.testBit i) 8 = run (~~~ c) (s.data.toList.take (k + 1))) := by
        show _ = _
        rw [take_step s k hlt, run_snoc, by8_bits]
      go_wp2
      go_loopg [5, 7] 8 (fun g x i wr => w = wr ∧ ∃ (j d : Nat), j ≤ 8 ∧ g = 8 - j ∧ x = .int .u32 (d : Int) ∧ i = .int .i64 j ∧ Hid (d = (brun (run (~~~ c) (s.data.toList.take k)) (fun i => s[k].toNat.testBit i) j).toNat))
      case atStart =>
        go_light
        exact ⟨rfl, 0, m, Nat.zero_le _, rfl, rfl, rfl, HM⟩
      case round =>
        clear HM
        obtain ⟨rfl, j, d, hj, rfl, rfl, rfl, HJ⟩ := hrel
        by_cases hjl : j < 8
        · have hz2 : (j : Int) < 8 := by omega
          obtain ⟨q, y, e1, e2, e3, e4⟩ := bitstep _ d HJ.out s[k] j
          cases hb : ((brun (run (~~~ c) (s.data.toList.take k)) (fun i => s[k].toNat.testBit i) j).getLsbD 0 ^^ s[k].toNat.testBit j) with
          | true =>
            rw [hb] at e3 e4
            have HY : Hid (y = (brun (run (~~~ c) (s.data.toList.take k)) (fun i => s[k].toNat.testBit i) (j + 1)).toNat) := by
              show _ = _
              rw [brun, e4, if_pos rfl]
            clear e4 hb HJ HX
            go_wp2
            go_roundg (8 - (j + 1))
            case rel =>
              go_light
              exact ⟨rfl, j + 1, y, by omega, rfl, rfl, by go_num, HY.out⟩
            case measure => go_light; omega
          | false =>
            rw [hb] at e3 e4
            have HY : Hid (q = (brun (run (~~~ c) (s.data.toList.take k)) (fun i => s[k].toNat.testBit i) (j + 1)).toNat) := by
              show _ = _
              rw [brun, e4, if_neg (by decide)]
            clear e4 hb HJ e2 HX
            go_wp2
            go_roundg (8 - (j + 1))
            case rel =>
              go_light
              exact ⟨rfl, j + 1, q, by omega, rfl, rfl, by go_num, HY.out⟩
            case measure => go_light; omega
        · obtain rfl : j = 8 := by omega
          have HY : Hid (d = (run (~~~ c) (s.data.toList.take (k + 1))).toNat) := by
            show _ = _
            rw [HJ.out, HX.out]
          clear HJ HX
          go_wp2
          go_roundg (s.size - (k + 1))
          case rel =>
            go_light
            exact ⟨rfl, k + 1, d, by omega, rfl, rfl, by go_num, HY.out⟩
          case measure => go_light; omega
    · obtain rfl : k = s.size := by omega
      have hz : ¬ (s.size : Int) < (s.size : Int) := by omega
      have e0 := not32' (run (~~~ c) (s.data.toList.take s.size))
      rw [← HM.out] at e0
      have HE : Hid ((~~~ (run (~~~ c) (s.data.toList.take s.size))).toNat = (mor c s.data.toList).toNat) := by
        show _ = _
        rw [List.take_of_length_le (by simp), mor]
      generalize (~~~ (run (~~~ c) (s.data.toList.take s.size))).toNat = x at e0 HE
      clear HM
      go_wp2
      go_ret
      exact ⟨by rw [HE.out]; rfl, rfl⟩
set_option maxRecDepth 100000 in
theorem refof_any (w : World) (ao : Option Addr) (b off len cap : Nat) (ss : List ByteArray) (hr : RdS w ao b off len ss) (hmx : len ≤ 9223372036854775807) :
    Calls Try.prog 13 #[.slice ao len cap] w fun e w' => e = .returned (.int .u32 ((sumL ss).toNat : Int)) ∧ w' = w := by
  go_enter Try.func13, Try.ntmps13
  go_wp2
  go_loopg [3, 4] len (fun g x i wr => w = wr ∧ ∃ (k m : Nat), k ≤ len ∧ g = len - k ∧ x = .int .u32 (m : Int) ∧ i = .int .i64 k ∧ Hid (m = (mor 0#32 (flat (ss.take k))).toNat))
  case atStart =>
    go_light
    exact ⟨rfl, 0, 0, Nat.zero_le _, rfl, rfl, rfl, by show _ = _; rw [List.take_zero, show flat [] = [] from rfl, mor_nil]; rfl⟩
  case round =>
    obtain ⟨rfl, k, m, hk, rfl, rfl, rfl, HM⟩ := hrel
    by_cases hlt : k < len
    · have hz : (k : Int) < (len : Int) := by omega
      obtain rfl := hr.ptr (by omega)
      have ck := hr.at hlt
      have hcall := refmore_any w _ m HM.out (ss.getD k ByteArray.empty) (hr.szAt hlt)
      rw [← mor_append, ← flat_snoc ss k (by rw [hr.hl]; exact hlt)] at hcall
      obtain ⟨y, hy⟩ : ∃ y, y = (mor 0#32 (flat (ss.take (k + 1)))).toNat := ⟨_, rfl⟩
      rw [← hy] at hcall
      have HY : Hid (y = (mor 0#32 (flat (ss.take (k + 1)))).toNat) := hy
      clear hy HM hr
      generalize ss.getD k ByteArray.empty = part at *
      go_wp2_with (go_at_call 14; refine hcall.mono ?_; rintro e w' ⟨rfl, rfl⟩)
      go_roundg (len - (k + 1))
      case rel =>
        go_light
        exact ⟨rfl, k + 1, y, by omega, rfl, rfl, by go_num, HY.out⟩
      case measure => go_light; omega
    · obtain rfl : k = len := by omega
      have hz : ¬ (k : Int) < (k : Int) := by omega
      have HE : Hid (m = (sumL ss).toNat) := by
        show _ = _
        rw [HM.out, sumL, List.take_of_length_le (by rw [hr.hl]; exact Nat.le_refl _)]
      clear HM
      go_wp2
      go_ret
      exact ⟨by rw [← HE.out]; rfl, rfl⟩
end Go.Proofs.Ytplopgkoikeohaa
