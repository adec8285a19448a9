/-
  The reference's Sum, Big, Small, Zeros, summed. Own work.
-/
import Derived.Test.YtggkjleibhpnfaaNLay
namespace Go.Proofs.Ytggkjleibhpnfaa
open Go.RowKit
attribute [local go_sem ↓] Go.wp_at_zero Go.wp_at_succ
theorem not32' (a : BitVec 32) : bits .xor .u32 (a.toNat : Int) 4294967295 = ((~~~ a).toNat : Int) := by
  rw [show (4294967295 : Int) = ((BitVec.allOnes 32).toNat : Int) from rfl, xor32, BitVec.xor_allOnes]
theorem refstep (R : BitVec 32) (d : Nat) (hd : d = R.toNat) : ∃ q y : Nat, (d : Int).tdiv 2 = (q : Int) ∧ bits .xor .u32 (q : Int) 2197175160 = (y : Int) ∧ ((d : Int) % 2 == 1) = R.getLsbD 0 ∧ ((st R).toNat = if R.getLsbD 0 then y else q) ∧ (q : Int) % 4294967296 = (q : Int) := by
  subst hd
  have e : R.toNat / 2 = (R >>> 1).toNat := by rw [BitVec.toNat_ushiftRight, Nat.shiftRight_eq_div_pow]
  refine ⟨R.toNat / 2, ((R >>> 1) ^^^ PL).toNat, rfl, ?_, ?_, ?_, by have := R.isLt; omega⟩
  · rw [e, show (2197175160 : Int) = (PL.toNat : Int) from rfl, xor32]
  · have e1 : (R.toNat : Int) % 2 = ((R.toNat % 2 : Nat) : Int) := rfl
    rw [e1, show R.getLsbD 0 = R.toNat.testBit 0 from rfl, Nat.testBit_zero]
    have h2 : R.toNat % 2 < 2 := Nat.mod_lt _ (by decide)
    generalize R.toNat % 2 = y at *
    have : y = 0 ∨ y = 1 := by omega
    rcases this with rfl | rfl <;> rfl
  · rw [st, e]
    cases R.getLsbD 0
    · rw [if_neg (by decide), xor_zero', if_neg (by decide)]
    · rw [if_pos rfl, if_pos rfl]
set_option maxRecDepth 100000 in
set_option maxHeartbeats 1000000 in
theorem refsum_any (w : World) (s : ByteArray) (hs : s.size ≤ 9223372036854775807) (r : Nat) (hr : crc s.data.toList = r) :
    Calls Try.prog 35 #[.string s] w fun e w' => e = .returned (.int .u32 (r : Int)) ∧ w' = w := by
  have HR : Hid (crc s.data.toList = r) := hr
  have H0 : Hid (4294967295 = (run (~~~ 0#32) (s.data.toList.take 0)).toNat) := by show _ = _; rfl
  clear hr
  go_enter Try.func35, Try.ntmps35
  go_wp2
  go_loopg [3, 4] s.size (fun g x i wr => w = wr ∧ ∃ (k m : Nat), k ≤ s.size ∧ g = s.size - k ∧ x = .int .u32 (m : Int) ∧ i = .int .i64 k ∧ Hid (m = (run (~~~ 0#32) (s.data.toList.take k)).toNat))
  case atStart =>
    go_light
    exact ⟨rfl, 0, 4294967295, Nat.zero_le _, rfl, rfl, rfl, H0⟩
  case round =>
    clear H0
    obtain ⟨rfl, k, m, hk, rfl, rfl, rfl, HM⟩ := hrel
    by_cases hlt : k < s.size
    · have hz : (k : Int) < (s.size : Int) := by omega
      have hz0 : (0 : Int) ≤ (k : Int) := by omega
      have e0 := byte32 (run (~~~ 0#32) (s.data.toList.take k)) s[k]
      rw [← HM.out] at e0
      obtain ⟨x0, hx0⟩ : ∃ x, ((run (~~~ 0#32) (s.data.toList.take k)) ^^^ bw s[k]).toNat = x := ⟨_, rfl⟩
      rw [hx0] at e0
      have HX : Hid (x0 = (stN 0 ((run (~~~ 0#32) (s.data.toList.take k)) ^^^ bw s[k])).toNat ∧ stN 8 ((run (~~~ 0#32) (s.data.toList.take k)) ^^^ bw s[k]) = run (~~~ 0#32) (s.data.toList.take (k + 1))) := by
        refine ⟨hx0.symm, ?_⟩
        rw [take_step s k hlt, run_snoc, by8]
      generalize (run (~~~ 0#32) (s.data.toList.take k)) ^^^ bw s[k] = C at *
      clear HM hx0
      go_wp2
      go_loopg [3, 5] 8 (fun g x i wr => w = wr ∧ ∃ (j d : Nat), j ≤ 8 ∧ g = 8 - j ∧ x = .int .u32 (d : Int) ∧ i = .int .i64 j ∧ Hid (d = (stN j C).toNat))
      case atStart =>
        go_light
        exact ⟨rfl, 0, x0, Nat.zero_le _, rfl, rfl, rfl, HX.out.1⟩
      case round =>
        obtain ⟨rfl, j, d, hj, rfl, rfl, rfl, HJ⟩ := hrel
        by_cases hjl : j < 8
        · have hz2 : (j : Int) < 8 := by omega
          obtain ⟨q, y, e1, e2, e3, e4, e5⟩ := refstep _ d HJ.out
          cases hb : (stN j C).getLsbD 0 with
          | true =>
            rw [hb] at e3 e4
            have HY : Hid (y = (stN (j + 1) C).toNat) := by
              show _ = _
              rw [stN, e4, if_pos rfl]
            clear e4 hb HJ HX e0
            go_wp2
            go_roundg (8 - (j + 1))
            case rel =>
              go_light
              exact ⟨rfl, j + 1, y, by omega, rfl, rfl, by go_num, HY⟩
            case measure => go_light; omega
          | false =>
            rw [hb] at e3 e4
            have HY : Hid (q = (stN (j + 1) C).toNat) := by
              show _ = _
              rw [stN, e4, if_neg (by decide)]
            clear e4 hb HJ e2 HX e0
            go_wp2
            go_roundg (8 - (j + 1))
            case rel =>
              go_light
              exact ⟨rfl, j + 1, q, by omega, rfl, rfl, by go_num, HY⟩
            case measure => go_light; omega
        · obtain rfl : j = 8 := by omega
          have HY : Hid (d = (run (~~~ 0#32) (s.data.toList.take (k + 1))).toNat) := by
            show _ = _
            rw [HJ.out, HX.out.2]
          clear HJ HX e0
          go_wp2
          go_roundg (s.size - (k + 1))
          case rel =>
            go_light
            exact ⟨rfl, k + 1, d, by omega, rfl, rfl, by go_num, HY⟩
          case measure => go_light; omega
    · obtain rfl : k = s.size := by omega
      have hz : ¬ (s.size : Int) < (s.size : Int) := by omega
      have e0 := not32' (run (~~~ 0#32) (s.data.toList.take s.size))
      rw [← HM.out] at e0
      have HE : Hid ((~~~ (run (~~~ 0#32) (s.data.toList.take s.size))).toNat = r) := by
        show _ = _
        rw [List.take_of_length_le (by simp), ← HR.out]
        rfl
      generalize (~~~ (run (~~~ 0#32) (s.data.toList.take s.size))).toNat = x at e0 HE
      clear HM
      go_wp2
      go_ret
      exact ⟨by rw [HE.out]; rfl, rfl⟩
theorem zer_step (m : Nat) (t : List UInt8) (x : UInt8) : (zer (m + 1) ++ t).set m x = zer m ++ x :: t := by
  rw [zer, List.replicate_succ', List.append_assoc, List.set_append_right _ _ (by simp)]
  simp [zer]
set_option maxRecDepth 100000 in
set_option maxHeartbeats 1000000 in
theorem refbig_any (w : World) (n K : Nat) (hn : n < 18446744073709551616) (hK : K ≤ 8) (t : ByteArray) (ht : (⟨(big K n).toArray⟩ : ByteArray) = t) :
    Calls Try.prog 31 #[.int .u64 (n : Int), .int .i64 (K : Int)] w fun e w' => e = .returned (.string t) ∧ Below w.heap.size w w' := by
  obtain ⟨w0, hw0⟩ : ∃ w0, w.alloc (.cells (Array.replicate K (Value.int .u8 0)) 5) = w0 := ⟨_, rfl⟩
  have hmk : (Instr.makeSlice 41 (.int .i64 (K : Int)) (.int .i64 (K : Int))).run Try.prog w = .ok (.slice (some ⟨w.heap.size, 0, none⟩) K K) w0 := by
    rw [← hw0]; exact make_bytes K (by omega) w
  have H0 : Hid (Byt w0 w.heap.size (zer K ++ big 0 n) ∧ Below w.heap.size w w0) := by
    rw [← hw0]
    exact ⟨by simp [big]; exact byt_made w K, bal (Below.refl _ _) _⟩
  have k8 : (K : Int) ≤ 8 := by omega
  have k0 : (0 : Int) ≤ (K : Int) := by omega
  have hN : Hid (n < 18446744073709551616) := hn
  have HT : Hid ((⟨(big K n).toArray⟩ : ByteArray) = t) := ht
  clear hw0 hn ht
  go_enter Try.func31, Try.ntmps31
  go_wp2
  clear hmk
  go_loopg [0, 6] K (fun G x i wr => ∃ (j d : Nat), j + d = K ∧ j = G ∧ x = .int .u64 ((n / 256 ^ d : Nat) : Int) ∧ i = .int .i64 ((j : Int) - 1) ∧ Hid (Byt wr w.heap.size (zer j ++ big d n) ∧ Below w.heap.size w wr))
  case atStart =>
    go_light
    exact ⟨K, 0, by omega, rfl, by simp, by simp, H0⟩
  case round =>
    clear H0
    obtain ⟨j, d, hj, rfl, rfl, rfl, HB⟩ := hrel
    have hx : n / 256 ^ d ≤ n := Nat.div_le_self _ _
    by_cases hz : 0 < j
    · obtain ⟨m, rfl⟩ : ∃ m, j = m + 1 := ⟨j - 1, by omega⟩
      have em : ((m + 1 : Nat) : Int) - 1 = (m : Int) := by omega
      rw [em]
      have m0 : (0 : Int) ≤ (m : Int) := by omega
      have m1 : (m : Int) < (K : Int) := by omega
      have cl := HB.out.1.at (j := m) (by simp [zer_len]; omega)
      have fz := HB.out.1.free (j := m) (by simp [zer_len]; omega)
      obtain ⟨z, hz'⟩ : ∃ z, ((zer (m + 1) ++ big d n).getD m 0).toNat = z := ⟨_, rfl⟩
      rw [hz'] at cl
      obtain ⟨x, hxd⟩ : ∃ x, n / 256 ^ d = x := ⟨_, rfl⟩
      have e1 : (x : Int).tmod 256 = ((x % 256 : Nat) : Int) := rfl
      have hx64 : x < 18446744073709551616 := by have := hN.out; omega
      have e2 : IntKind.u64.wrap ((x : Int) / 256) = ((x / 256 : Nat) : Int) := by rw [IntKind.wrap_u64]; omega
      have e3 : (x : Int) % 256 = ((x % 256 : Nat) : Int) := rfl
      obtain ⟨y, hy⟩ : ∃ y, x % 256 = y := ⟨_, rfl⟩
      have hy2 : (y : Int) < 256 := by omega
      have hy0 : (0 : Int) ≤ (y : Int) := by omega
      have hy3 : (y : Int) % 256 = (y : Int) := by omega
      have HX : Hid (Byt (wr.setCell ⟨w.heap.size, m, none⟩ (.int .u8 (y : Int))) w.heap.size (zer m ++ big (d + 1) n) ∧ Below w.heap.size w (wr.setCell ⟨w.heap.size, m, none⟩ (.int .u8 (y : Int)))) := by
        refine ⟨?_, HB.out.2.setCell (Nat.le_refl _) _⟩
        have := HB.out.1.set m (UInt8.ofNat x) (y : Int) (by rw [UInt8.toNat_ofNat']; omega)
        rw [zer_step] at this
        rw [big_cons, hxd]
        exact this
      have HD : Hid (x / 256 = n / 256 ^ (d + 1)) := by
        show _ = _
        rw [Nat.pow_succ, ← Nat.div_div_eq_div_mul, hxd]
      rw [hy] at e1 e3
      rw [hxd]
      clear HB hxd hz' hx hy
      go_wp2
      go_roundg m
      case rel =>
        go_light
        refine ⟨m, d + 1, by omega, rfl, ?_, ?_, HX⟩
        · have := HD.out; rw [← this]; go_num
        · go_num
      case measure => go_light; omega
    · obtain rfl : j = 0 := by omega
      obtain rfl : d = K := by omega
      have em : ((0 : Nat) : Int) - 1 = -1 := by omega
      rw [em]
      have hcv : (convert 41 9 (.slice (some ⟨w.heap.size, 0, none⟩) d d)).run Try.prog wr = .ok (.string t) wr := by
        have := HB.out.1
        rw [show zer 0 = [] from rfl, List.nil_append] at this
        exact this.conv (k := 0) (n := d) (by rw [big_len]; omega) 0 (fun _ => rfl) d t (by rw [List.drop_zero, List.take_of_length_le (by rw [big_len]; exact Nat.le_refl _)]; exact HT.out)
      have HE : Hid (Below w.heap.size w wr) := HB.out.2
      clear HB hx hj
      go_wp2
      go_ret
      exact ⟨rfl, HE.out⟩
set_option maxRecDepth 100000 in
set_option maxHeartbeats 1000000 in
theorem refsmall_any (w : World) (s : ByteArray) (h8 : s.size ≤ 8) (r : Nat) (hr : num s.data.toList = r) :
    Calls Try.prog 36 #[.string s] w fun e w' => e = .returned (.int .u64 (r : Int)) ∧ w' = w := by
  have HR : Hid (num s.data.toList = r) := hr
  have hs : s.size ≤ 9223372036854775807 := by omega
  clear hr
  go_enter Try.func36, Try.ntmps36
  go_wp2
  go_loopg [3, 4] s.size (fun G x i wr => w = wr ∧ ∃ (k m : Nat), k ≤ s.size ∧ G = s.size - k ∧ x = .int .u64 (m : Int) ∧ i = .int .i64 (k : Int) ∧ Hid (num (s.data.toList.take k) = m))
  case atStart =>
    go_light
    exact ⟨rfl, 0, 0, by omega, rfl, rfl, rfl, rfl⟩
  case round =>
    obtain ⟨rfl, k, m, hk, rfl, rfl, rfl, HM⟩ := hrel
    by_cases hlt : k < s.size
    · have hz : (k : Int) < (s.size : Int) := by omega
      have kk : (0 : Int) ≤ (k : Int) := by omega
      have hb : s[k].toNat < 256 := s[k].toNat_lt
      have hst : num (s.data.toList.take (k + 1)) = num (s.data.toList.take k) * 256 + s[k].toNat := by rw [take_step s k hlt, num_snoc]
      rw [HM.out] at hst
      have hm : m < 72057594037927936 := by
        rw [← HM.out]
        exact num_le _ 7 (by simp; omega)
      obtain ⟨v, hv⟩ : ∃ v, num (s.data.toList.take (k + 1)) = v := ⟨_, rfl⟩
      rw [hv] at hst
      have e1 : IntKind.u64.wrap ((m : Int) * 256) = ((m * 256 : Nat) : Int) := by rw [IntKind.wrap_u64]; omega
      have e2 : IntKind.u64.wrap (((m * 256 : Nat) : Int) + (s[k].toNat : Int)) = (v : Int) := by rw [IntKind.wrap_u64]; omega
      have e3 : (s[k].toNat : Int) % 18446744073709551616 = (s[k].toNat : Int) := by omega
      have HV : Hid (num (s.data.toList.take (k + 1)) = v) := hv
      obtain ⟨M, hM⟩ : ∃ M, m * 256 = M := ⟨_, rfl⟩
      rw [hM] at e1 e2
      clear HM hv hst hm hM
      go_wp2
      go_roundg (s.size - (k + 1))
      case rel =>
        go_light
        exact ⟨rfl, k + 1, v, by omega, rfl, rfl, by go_num, HV⟩
      case measure => go_light; omega
    · obtain rfl : k = s.size := by omega
      have hz : ¬ (s.size : Int) < (s.size : Int) := by omega
      have HE : Hid (m = r) := by
        show _ = _
        have := HM.out
        rw [List.take_of_length_le (by simp), HR.out] at this
        exact this.symm
      clear HM
      go_wp2
      go_ret
      exact ⟨by rw [HE.out]; rfl, rfl⟩
set_option maxRecDepth 100000 in
theorem refzeros_any (w : World) (n : Nat) (hn : n ≤ 64) (t : ByteArray) (ht : (⟨(zer n).toArray⟩ : ByteArray) = t) :
    Calls Try.prog 32 #[.int .i64 (n : Int)] w fun e w' => e = .returned (.string t) ∧ Below w.heap.size w w' := by
  obtain ⟨w0, hw0⟩ : ∃ w0, w.alloc (.cells (Array.replicate n (Value.int .u8 0)) 5) = w0 := ⟨_, rfl⟩
  have hmk : (Instr.makeSlice 41 (.int .i64 (n : Int)) (.int .i64 (n : Int))).run Try.prog w = .ok (.slice (some ⟨w.heap.size, 0, none⟩) n n) w0 := by
    rw [← hw0]; exact make_bytes n (by omega) w
  have hcv : (convert 41 9 (.slice (some ⟨w.heap.size, 0, none⟩) n n)).run Try.prog w0 = .ok (.string t) w0 := by
    rw [← hw0]
    exact (byt_made w n).conv (k := 0) (n := n) (by rw [zer_len]; omega) 0 (fun _ => rfl) n t (by rw [List.drop_zero, List.take_of_length_le (by rw [zer_len]; exact Nat.le_refl _)]; exact ht)
  have HB : Hid (Below w.heap.size w w0) := by rw [← hw0]; exact bal (Below.refl _ _) _
  clear hw0 ht
  go_enter Try.func32, Try.ntmps32
  go_wp2
  go_ret
  exact ⟨rfl, HB.out⟩
end Go.Proofs.Ytggkjleibhpnfaa
