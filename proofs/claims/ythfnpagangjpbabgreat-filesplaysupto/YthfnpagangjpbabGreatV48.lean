/-
  Own work: NRefA, NRefB, NRefC.
-/
import Derived.Test.YthfnpagangjpbabGreatV03
namespace Go.Proofs.YthfnpagangjpbabGreat.Rc
open Go.RowKit
attribute [local go_sem ↓] Go.wp_at_zero Go.wp_at_succ
theorem not32' (a : BitVec 32) : bits .xor .u32 (a.toNat : Int) 4294967295 = ((~~~ a).toNat : Int) := by
  rw [show (4294967295 : Int) = ((BitVec.allOnes 32).toNat : Int) from rfl, xor32, BitVec.xor_allOnes]
theorem refstep (R : BitVec 32) (d : Nat) (hd : d = R.toNat) : ∃ q y : Nat, (d : Int).tdiv 2 = (q : Int) ∧ bits .xor .u32 (q : Int) 2197175160 = (y : Int) ∧ ((d : Int) % 2 == 1) = R.getLsbD 0 ∧ ((st R).toNat = if R.getLsbD 0 then y else q) ∧ (q : Int) % 4294967296 = (q : Int) := by
  subst hd
  have e : R.toNat / 2 = (R >>> 1).toNat := by rw [BitVec.toNat_ushiftRight, Nat.shiftRight_eq_div_pow]
  refine ⟨R.toNat / 2, ((R >>> 1) ^^^ PL).toNat, rfl, ?_, ?_, ?_, by have := R.isLt; omega⟩
  · rw [e, show (2197175160 : Int) = (PL.toNat : Int) from rfl, xor32]
  · have e1 : (R.toNat : Int) % 2 = ((R.toNat % 2 : Nat) : Int) := rfl
    rw [e1, show R.getLsbD 0 = R.toNat.testBit 0 from rfl, Nat.testBit_zero]
    have h2 : R.toNat % 2 < 2 := Nat.mod_lt _ (by decide)
    generalize R.toNat % 2 = y at *
    have : y = 0 ∨ y = 1 := by omega
    rcases this with rfl | rfl <;> rfl
  · rw [st, e]
    cases R.getLsbD 0
    · rw [if_neg (by decide), xor_zero', if_neg (by decide)]
    · rw [if_pos rfl, if_pos rfl]
set_option maxRecDepth 100000 in
set_option maxHeartbeats 1000000 in
theorem refsum_any (w : World) (s : ByteArray) (hs : s.size ≤ 9223372036854775807) (r : Nat) (hr : crc s.data.toList = r) :
    Calls Tryz.prog 145 #[.string s] w fun e w' => e = .returned (.int .u32 (r : Int)) ∧ w' = w := by
  have HR : Hid (crc s.data.toList = r) := hr
  have H0 : Hid (4294967295 = (run (~~~ 0#32) (s.data.toList.take 0)).toNat) := by show _ = _; rfl
  clear hr
  go_enter Tryz.func145, Tryz.ntmps145
  go_wp2
  go_loopg [3, 4] s.size (fun g x i wr => w = wr ∧ ∃ (k m : Nat), k ≤ s.size ∧ g = s.size - k ∧ x = .int .u32 (m : Int) ∧ i = .int .i64 k ∧ Hid (m = (run (~~~ 0#32) (s.data.toList.take k)).toNat))
  case atStart =>
    go_light
    exact ⟨rfl, 0, 4294967295, Nat.zero_le _, rfl, rfl, rfl, H0⟩
  case round =>
    clear H0
    obtain ⟨rfl, k, m, hk, rfl, rfl, rfl, HM⟩ := hrel
    by_cases hlt : k < s.size
    · have hz : (k : Int) < (s.size : Int) := by omega
      have hz0 : (0 : Int) ≤ (k : Int) := by omega
      have e0 := byte32 (run (~~~ 0#32) (s.data.toList.take k)) s[k]
      rw [← HM.out] at e0
      obtain ⟨x0, hx0⟩ : ∃ x, ((run (~~~ 0#32) (s.data.toList.take k)) ^^^ bw s[k]).toNat = x := ⟨_, rfl⟩
      rw [hx0] at e0
      have HX : Hid (x0 = (stN 0 ((run (~~~ 0#32) (s.data.toList.take k)) ^^^ bw s[k])).toNat ∧ stN 8 ((run (~~~ 0#32) (s.data.toList.take k)) ^^^ bw s[k]) = run (~~~ 0#32) (s.data.toList.take (k + 1))) := by
        refine ⟨hx0.symm, ?_⟩
        rw [take_step s k hlt, run_snoc, by8]
      generalize (run (~~~ 0#32) (s.data.toList.take k)) ^^^ bw s[k] = C at *
      clear HM hx0
      go_wp2
      go_loopg [3, 5] 8 (fun g x i wr => w = wr ∧ ∃ (j d : Nat), j ≤ 8 ∧ g = 8 - j ∧ x = .int .u32 (d : Int) ∧ i = .int .i64 j ∧ Hid (d = (stN j C).toNat))
      case atStart =>
        go_light
        exact ⟨rfl, 0, x0, Nat.zero_le _, rfl, rfl, rfl, HX.out.1⟩
      case round =>
        obtain ⟨rfl, j, d, hj, rfl, rfl, rfl, HJ⟩ := hrel
        by_cases hjl : j < 8
        · have hz2 : (j : Int) < 8 := by omega
          obtain ⟨q, y, e1, e2, e3, e4, e5⟩ := refstep _ d HJ.out
          cases hb : (stN j C).getLsbD 0 with
          | true =>
            rw [hb] at e3 e4
            have HY : Hid (y = (stN (j + 1) C).toNat) := by
              show _ = _
              rw [stN, e4, if_pos rfl]
            clear e4 hb HJ HX e0
            go_wp2
            go_roundg (8 - (j + 1))
            case rel =>
              go_light
              exact ⟨rfl, j + 1, y, by omega, rfl, rfl, by go_num, HY⟩
            case measure => go_light; omega
          | false =>
            rw [hb] at e3 e4
            have HY : Hid (q = (stN (j + 1) C).toNat) := by
              show _ = _
              rw [stN, e4, if_neg (by decide)]
            clear e4 hb HJ e2 HX e0
            go_wp2
            go_roundg (8 - (j + 1))
            case rel =>
              go_light
              exact ⟨rfl, j + 1, q, by omega, rfl, rfl, by go_num, HY⟩
            case measure => go_light; omega
        · obtain rfl : j = 8 := by omega
          have HY : Hid (d = (run (~~~ 0#32) (s.data.toList.take (k + 1))).toNat) := by
            show _ = _
            rw [HJ.out, HX.out.2]
          clear HJ HX e0
          go_wp2
          go_roundg (s.size - (k + 1))
          case rel =>
            go_light
            exact ⟨rfl, k + 1, d, by omega, rfl, rfl, by go_num, HY⟩
          case measure => go_light; omega
    · obtain rfl : k = s.size := by omega
      have hz : ¬ (s.size : Int) < (s.size : Int) := by omega
      have e0 := not32' (run (~~~ 0#32) (s.data.toList.take s.size))
      rw [← HM.out] at e0
      have HE : Hid ((~~~ (run (~~~ 0#32) (s.data.toList.take s.size))).toNat = r) := by
        show _ = _
        rw [List.take_of_length_le (by simp), ← HR.out]
        rfl
      generalize (~~~ (run (~~~ 0#32) (s.data.toList.take s.size))).toNat = x at e0 HE
      clear HM
      go_wp2
      go_ret
      exact ⟨by rw [HE.out]; rfl, rfl⟩
theorem zer_step (m : Nat) (t : List UInt8) (x : UInt8) : (zer (m + 1) ++ t).set m x = zer m ++ x :: t := by
  rw [zer, List.replicate_succ', List.append_assoc, List.set_append_right _ _ (by simp)]
  simp [zer]
set_option maxRecDepth 100000 in
set_option maxHeartbeats 1000000 in
theorem refbig_any (w : World) (n K : Nat) (hn : n < 18446744073709551616) (hK : K ≤ 8) (t : ByteArray) (ht : (⟨(big K n).toArray⟩ : ByteArray) = t) :
    Calls Tryz.prog 123 #[.int .u64 (n : Int), .int .i64 (K : Int)] w fun e w' => e = .returned (.string t) ∧ Below w.heap.size w w' := by
  obtain ⟨w0, hw0⟩ : ∃ w0, w.alloc (.cells (Array.replicate K (Value.int .u8 0)) 5) = w0 := ⟨_, rfl⟩
  have hmk : (Instr.makeSlice 111 (.int .i64 (K : Int)) (.int .i64 (K : Int))).run Tryz.prog w = .ok (.slice (some ⟨w.heap.size, 0, none⟩) K K) w0 := by
    rw [← hw0]; exact make_bytes K (by omega) w
  have H0 : Hid (Byt w0 w.heap.size (zer K ++ big 0 n) ∧ Below w.heap.size w w0) := by
    rw [← hw0]
    exact ⟨by simp [big]; exact byt_made w K, bal (Below.refl _ _) _⟩
  have k8 : (K : Int) ≤ 8 := by omega
  have k0 : (0 : Int) ≤ (K : Int) := by omega
  have hN : Hid (n < 18446744073709551616) := hn
  have HT : Hid ((⟨(big K n).toArray⟩ : ByteArray) = t) := ht
  clear hw0 hn ht
  go_enter Tryz.func123, Tryz.ntmps123
  go_wp2
  clear hmk
  go_loopg [0, 6] K (fun G x i wr => ∃ (j d : Nat), j + d = K ∧ j = G ∧ x = .int .u64 ((n / 256 ^ d : Nat) : Int) ∧ i = .int .i64 ((j : Int) - 1) ∧ Hid (Byt wr w.heap.size (zer j ++ big d n) ∧ Below w.heap.size w wr))
  case atStart =>
    go_light
    exact ⟨K, 0, by omega, rfl, by simp, by simp, H0⟩
  case round =>
    clear H0
    obtain ⟨j, d, hj, rfl, rfl, rfl, HB⟩ := hrel
    have hx : n / 256 ^ d ≤ n := Nat.div_le_self _ _
    by_cases hz : 0 < j
    · obtain ⟨m, rfl⟩ : ∃ m, j = m + 1 := ⟨j - 1, by omega⟩
      have em : ((m + 1 : Nat) : Int) - 1 = (m : Int) := by omega
      rw [em]
      have m0 : (0 : Int) ≤ (m : Int) := by omega
      have m1 : (m : Int) < (K : Int) := by omega
      have cl := HB.out.1.at (j := m) (by simp [zer_len]; omega)
      have fz := HB.out.1.free (j := m) (by simp [zer_len]; omega)
      obtain ⟨z, hz'⟩ : ∃ z, ((zer (m + 1) ++ big d n).getD m 0).toNat = z := ⟨_, rfl⟩
      rw [hz'] at cl
      obtain ⟨x, hxd⟩ : ∃ x, n / 256 ^ d = x := ⟨_, rfl⟩
      have e1 : (x : Int).tmod 256 = ((x % 256 : Nat) : Int) := rfl
      have hx64 : x < 18446744073709551616 := by have := hN.out; omega
      have e2 : IntKind.u64.wrap ((x : Int) / 256) = ((x / 256 : Nat) : Int) := by rw [IntKind.wrap_u64]; omega
      have e3 : (x : Int) % 256 = ((x % 256 : Nat) : Int) := rfl
      obtain ⟨y, hy⟩ : ∃ y, x % 256 = y := ⟨_, rfl⟩
      have hy2 : (y : Int) < 256 := by omega
      have hy0 : (0 : Int) ≤ (y : Int) := by omega
      have hy3 : (y : Int) % 256 = (y : Int) := by omega
      have HX : Hid (Byt (wr.setCell ⟨w.heap.size, m, none⟩ (.int .u8 (y : Int))) w.heap.size (zer m ++ big (d + 1) n) ∧ Below w.heap.size w (wr.setCell ⟨w.heap.size, m, none⟩ (.int .u8 (y : Int)))) := by
        refine ⟨?_, HB.out.2.setCell (Nat.le_refl _) _⟩
        have := HB.out.1.set m (UInt8.ofNat x) (y : Int) (by rw [UInt8.toNat_ofNat']; omega)
        rw [zer_step] at this
        rw [big_cons, hxd]
        exact this
      have HD : Hid (x / 256 = n / 256 ^ (d + 1)) := by
        show _ = _
        rw [Nat.pow_succ, ← Nat.div_div_eq_div_mul, hxd]
      rw [hy] at e1 e3
      rw [hxd]
      clear HB hxd hz' hx hy
      go_wp2
      go_roundg m
      case rel =>
        go_light
        refine ⟨m, d + 1, by omega, rfl, ?_, ?_, HX⟩
        · have := HD.out; rw [← this]; go_num
        · go_num
      case measure => go_light; omega
    · obtain rfl : j = 0 := by omega
      obtain rfl : d = K := by omega
      have em : ((0 : Nat) : Int) - 1 = -1 := by omega
      rw [em]
      have hcv : (convert 111 9 (.slice (some ⟨w.heap.size, 0, none⟩) d d)).run Tryz.prog wr = .ok (.string t) wr := by
        have := HB.out.1
        rw [show zer 0 = [] from rfl, List.nil_append] at this
        exact this.conv (k := 0) (n := d) (by rw [big_len]; omega) 0 (fun _ => rfl) d t (by rw [List.drop_zero, List.take_of_length_le (by rw [big_len]; exact Nat.le_refl _)]; exact HT.out)
      have HE : Hid (Below w.heap.size w wr) := HB.out.2
      clear HB hx hj
      go_wp2
      go_ret
      exact ⟨rfl, HE.out⟩
set_option maxRecDepth 100000 in
set_option maxHeartbeats 1000000 in
theorem refsmall_any (w : World) (s : ByteArray) (h8 : s.size ≤ 8) (r : Nat) (hr : num s.data.toList = r) :
    Calls Tryz.prog 80 #[.string s] w fun e w' => e = .returned (.int .u64 (r : Int)) ∧ w' = w := by
  have HR : Hid (num s.data.toList = r) := hr
  have hs : s.size ≤ 9223372036854775807 := by omega
  clear hr
  go_enter Tryz.func80, Tryz.ntmps80
  go_wp2
  go_loopg [3, 4] s.size (fun G x i wr => w = wr ∧ ∃ (k m : Nat), k ≤ s.size ∧ G = s.size - k ∧ x = .int .u64 (m : Int) ∧ i = .int .i64 (k : Int) ∧ Hid (num (s.data.toList.take k) = m))
  case atStart =>
    go_light
    exact ⟨rfl, 0, 0, by omega, rfl, rfl, rfl, rfl⟩
  case round =>
    obtain ⟨rfl, k, m, hk, rfl, rfl, rfl, HM⟩ := hrel
    by_cases hlt : k < s.size
    · have hz : (k : Int) < (s.size : Int) := by omega
      have kk : (0 : Int) ≤ (k : Int) := by omega
      have hb : s[k].toNat < 256 := s[k].toNat_lt
      have hst : num (s.data.toList.take (k + 1)) = num (s.data.toList.take k) * 256 + s[k].toNat := by rw [take_step s k hlt, num_snoc]
      rw [HM.out] at hst
      have hm : m < 72057594037927936 := by
        rw [← HM.out]
        exact num_le _ 7 (by simp; omega)
      obtain ⟨v, hv⟩ : ∃ v, num (s.data.toList.take (k + 1)) = v := ⟨_, rfl⟩
      rw [hv] at hst
      have e1 : IntKind.u64.wrap ((m : Int) * 256) = ((m * 256 : Nat) : Int) := by rw [IntKind.wrap_u64]; omega
      have e2 : IntKind.u64.wrap (((m * 256 : Nat) : Int) + (s[k].toNat : Int)) = (v : Int) := by rw [IntKind.wrap_u64]; omega
      have e3 : (s[k].toNat : Int) % 18446744073709551616 = (s[k].toNat : Int) := by omega
      have HV : Hid (num (s.data.toList.take (k + 1)) = v) := hv
      obtain ⟨M, hM⟩ : ∃ M, m * 256 = M := ⟨_, rfl⟩
      rw [hM] at e1 e2
      clear HM hv hst hm hM
      go_wp2
      go_roundg (s.size - (k + 1))
      case rel =>
        go_light
        exact ⟨rfl, k + 1, v, by omega, rfl, rfl, by go_num, HV⟩
      case measure => go_light; omega
    · obtain rfl : k = s.size := by omega
      have hz : ¬ (s.size : Int) < (s.size : Int) := by omega
      have HE : Hid (m = r) := by
        show _ = _
        have := HM.out
        rw [List.take_of_length_le (by simp), HR.out] at this
        exact this.symm
      clear HM
      go_wp2
      go_ret
      exact ⟨by rw [HE.out]; rfl, rfl⟩
set_option maxRecDepth 100000 in
theorem refzeros_any (w : World) (n : Nat) (hn : n ≤ 64) (t : ByteArray) (ht : (⟨(zer n).toArray⟩ : ByteArray) = t) :
    Calls Tryz.prog 115 #[.int .i64 (n : Int)] w fun e w' => e = .returned (.string t) ∧ Below w.heap.size w w' := by
  obtain ⟨w0, hw0⟩ : ∃ w0, w.alloc (.cells (Array.replicate n (Value.int .u8 0)) 5) = w0 := ⟨_, rfl⟩
  have hmk : (Instr.makeSlice 111 (.int .i64 (n : Int)) (.int .i64 (n : Int))).run Tryz.prog w = .ok (.slice (some ⟨w.heap.size, 0, none⟩) n n) w0 := by
    rw [← hw0]; exact make_bytes n (by omega) w
  have hcv : (convert 111 9 (.slice (some ⟨w.heap.size, 0, none⟩) n n)).run Tryz.prog w0 = .ok (.string t) w0 := by
    rw [← hw0]
    exact (byt_made w n).conv (k := 0) (n := n) (by rw [zer_len]; omega) 0 (fun _ => rfl) n t (by rw [List.drop_zero, List.take_of_length_le (by rw [zer_len]; exact Nat.le_refl _)]; exact ht)
  have HB : Hid (Below w.heap.size w w0) := by rw [← hw0]; exact bal (Below.refl _ _) _
  clear hw0 ht
  go_enter Tryz.func115, Tryz.ntmps115
  go_wp2
  go_ret
  exact ⟨rfl, HB.out⟩
end Go.Proofs.YthfnpagangjpbabGreat.Rc
namespace Go.Proofs.YthfnpagangjpbabGreat.Rc
open Go.RowKit
attribute [local go_sem ↓] Go.wp_at_zero Go.wp_at_succ
theorem add_of (a b c : ByteArray) (x y : List UInt8) (ha : a.data.toList = x) (hb : b.data.toList = y) (hc : (⟨(x ++ y).toArray⟩ : ByteArray) = c) (hz : a.size + b.size ≤ 9223372036854775807) (W : World) : (Op.stringOp .add a b).run Tryz.prog W = .ok (.string c) W := by
  rw [run_string_add_sum W a b hz]
  congr 2
  apply ba_ext
  rw [← hc, ByteArray.data_append, Array.toList_append, ha, hb]
theorem crc_lt32 (l : List UInt8) : crc l < 4294967296 := crc_lt l
set_option maxRecDepth 100000 in
set_option maxHeartbeats 1000000 in
theorem refsummed_any (w : World) (s : ByteArray) (hs : s.size ≤ 9223372036854775800) (t : ByteArray) (ht : (⟨(sld s.data.toList).toArray⟩ : ByteArray) = t) :
    Calls Tryz.prog 122 #[.string s] w fun e w' => e = .returned (.string t) ∧ Below w.heap.size w w' := by
  obtain ⟨r, hr⟩ : ∃ r, crc s.data.toList = r := ⟨_, rfl⟩
  have hr4 := crc_lt32 s.data.toList
  rw [hr] at hr4
  obtain ⟨b, hb⟩ : ∃ b : ByteArray, (⟨(big 4 r).toArray⟩ : ByteArray) = b := ⟨_, rfl⟩
  have hbl : b.data.toList = big 4 r := by rw [← hb]
  have hbs : b.size = 4 := by rw [← size_list, hbl, big_len]
  have HS : Hid (∀ W, Calls Tryz.prog 145 #[.string s] W fun e w' => e = .returned (.int .u32 (r : Int)) ∧ w' = W) := fun W => refsum_any W s (by omega) r hr
  have HB : Hid (∀ W, Calls Tryz.prog 123 #[.int .u64 (r : Int), .int .i64 4] W fun e w' => e = .returned (.string b) ∧ Below W.heap.size W w') := fun W => refbig_any W r 4 (by omega) (by decide) b hb
  have ka := add_of s b t _ _ rfl hbl (by rw [← ht, sld, hr]) (by omega)
  have hw2 : IntKind.u64.wrap (r : Int) = (r : Int) := by rw [IntKind.wrap_u64]; omega
  clear hr hb hbl ht
  go_enter Tryz.func122, Tryz.ntmps122
  go_wp2_with (first
    | (go_at_call 145; with_reducible refine (HS.out _).mono ?_; rintro e w1 ⟨rfl, rfl⟩)
    | (go_at_call 123; with_reducible refine (HB.out _).mono ?_; rintro e w2 ⟨rfl, hb2⟩))
  go_ret
  exact ⟨rfl, hb2⟩
set_option maxRecDepth 100000 in
set_option maxHeartbeats 1000000 in
theorem refpayload_any (w : World) (s : ByteArray) (hs : s.size ≤ 9223372036854775807) (t : ByteArray) (ht : (⟨(payS s.data.toList).toArray⟩ : ByteArray) = t) :
    Calls Tryz.prog 81 #[.string s] w fun e w' => e = .returned (.string t) ∧ Below w.heap.size w w' := by
  rw [payS, size_list] at ht
  by_cases h1 : s.size ≤ 1048576
  · rw [if_pos h1] at ht
    have z1 : ¬ (s.size : Int) > 1048576 := by omega
    obtain ⟨b, hb⟩ : ∃ b : ByteArray, (⟨(big 4 s.size).toArray⟩ : ByteArray) = b := ⟨_, rfl⟩
    have hbl : b.data.toList = big 4 s.size := by rw [← hb]
    have hbs : b.size = 4 := by rw [← size_list, hbl, big_len]
    obtain ⟨c, hc⟩ : ∃ c : ByteArray, (⟨(big 4 s.size ++ s.data.toList).toArray⟩ : ByteArray) = c := ⟨_, rfl⟩
    have hcl : c.data.toList = big 4 s.size ++ s.data.toList := by rw [← hc]
    have hcs : c.size = s.size + 4 := by rw [← size_list, hcl, List.length_append, big_len, size_list]; omega
    have HB : Hid (∀ W, Calls Tryz.prog 123 #[.int .u64 (s.size : Int), .int .i64 4] W fun e w' => e = .returned (.string b) ∧ Below W.heap.size W w') := fun W => refbig_any W s.size 4 (by omega) (by decide) b hb
    have ka := add_of b s c _ _ hbl rfl hc (by omega)
    have HS : Hid (∀ W, Calls Tryz.prog 122 #[.string c] W fun e w' => e = .returned (.string t) ∧ Below W.heap.size W w') := fun W => refsummed_any W c (by omega) t (by rw [hcl, ← ht, pay, size_list])
    have hw2 : IntKind.u64.wrap (s.size : Int) = (s.size : Int) := by rw [IntKind.wrap_u64]; omega
    clear hb hbl ht hc hcl
    go_enter Tryz.func81, Tryz.ntmps81
    go_wp2_with (first
      | (go_at_call 123; with_reducible refine (HB.out _).mono ?_; rintro e w2 ⟨rfl, hb2⟩)
      | (go_at_call 122; with_reducible refine (HS.out _).mono ?_; rintro e w3 ⟨rfl, hb3⟩))
    go_ret
    exact ⟨rfl, bnext hb2 hb3⟩
  · rw [if_neg h1] at ht
    subst ht
    have z1 : (s.size : Int) > 1048576 := by omega
    go_enter Tryz.func81, Tryz.ntmps81
    go_wp2
    go_ret
    exact ⟨rfl, Below.refl _ _⟩
set_option maxRecDepth 100000 in
set_option maxHeartbeats 1000000 in
theorem refnode_any (w : World) (p : Nat) (hp : p < 18446744073709551616) (s : ByteArray) (hs : s.size ≤ 9223372036854775807) (t : ByteArray) (ht : (⟨(nodS p s.data.toList).toArray⟩ : ByteArray) = t) :
    Calls Tryz.prog 87 #[.int .u64 (p : Int), .string s] w fun e w' => e = .returned (.string t) ∧ Below w.heap.size w w' := by
  rw [nodS, size_list] at ht
  by_cases h1 : s.size ≤ 32
  · rw [if_pos h1] at ht
    have z1 : ¬ (s.size : Int) > 32 := by omega
    obtain ⟨n, hn⟩ : ∃ n, 32 - s.size = n := ⟨_, rfl⟩
    have z2 : (32 : Int) - (s.size : Int) = (n : Int) := by omega
    obtain ⟨z, hz⟩ : ∃ z : ByteArray, (⟨(zer n).toArray⟩ : ByteArray) = z := ⟨_, rfl⟩
    have hzl : z.data.toList = zer n := by rw [← hz]
    have hzs : z.size = n := by rw [← size_list, hzl, zer_len]
    obtain ⟨b, hb⟩ : ∃ b : ByteArray, (⟨(big 4 p).toArray⟩ : ByteArray) = b := ⟨_, rfl⟩
    have hbl : b.data.toList = big 4 p := by rw [← hb]
    have hbs : b.size = 4 := by rw [← size_list, hbl, big_len]
    obtain ⟨c, hc⟩ : ∃ c : ByteArray, (⟨(s.data.toList ++ zer n).toArray⟩ : ByteArray) = c := ⟨_, rfl⟩
    have hcl : c.data.toList = s.data.toList ++ zer n := by rw [← hc]
    have hcs : c.size = 32 := by rw [← size_list, hcl, List.length_append, zer_len, size_list]; omega
    obtain ⟨d, hd⟩ : ∃ d : ByteArray, (⟨(s.data.toList ++ zer n ++ big 4 p).toArray⟩ : ByteArray) = d := ⟨_, rfl⟩
    have hdl : d.data.toList = s.data.toList ++ zer n ++ big 4 p := by rw [← hd]
    have hds : d.size = 36 := by rw [← size_list, hdl, List.length_append, List.length_append, zer_len, size_list, big_len]; omega
    have HZ : Hid (∀ W, Calls Tryz.prog 115 #[.int .i64 (n : Int)] W fun e w' => e = .returned (.string z) ∧ Below W.heap.size W w') := fun W => refzeros_any W n (by omega) z hz
    have HB : Hid (∀ W, Calls Tryz.prog 123 #[.int .u64 (p : Int), .int .i64 4] W fun e w' => e = .returned (.string b) ∧ Below W.heap.size W w') := fun W => refbig_any W p 4 hp (by decide) b hb
    have ka := add_of s z c _ _ rfl hzl hc (by omega)
    have kd := add_of c b d _ _ hcl hbl hd (by omega)
    have HS : Hid (∀ W, Calls Tryz.prog 122 #[.string d] W fun e w' => e = .returned (.string t) ∧ Below W.heap.size W w') := fun W => refsummed_any W d (by omega) t (by rw [hdl, ← ht, nod, size_list, hn])
    clear hb hbl ht hc hcl hz hzl hd hdl hn hp
    go_enter Tryz.func87, Tryz.ntmps87
    go_wp2_with (first
      | (go_at_call 115; with_reducible refine (HZ.out _).mono ?_; rintro e w1 ⟨rfl, hb1⟩)
      | (go_at_call 123; with_reducible refine (HB.out _).mono ?_; rintro e w2 ⟨rfl, hb2⟩)
      | (go_at_call 122; with_reducible refine (HS.out _).mono ?_; rintro e w3 ⟨rfl, hb3⟩))
    go_ret
    exact ⟨rfl, bnext hb1 (bnext hb2 hb3)⟩
  · rw [if_neg h1] at ht
    subst ht
    have z1 : (s.size : Int) > 32 := by omega
    go_enter Tryz.func87, Tryz.ntmps87
    go_wp2
    go_ret
    exact ⟨rfl, Below.refl _ _⟩
theorem flat_len_take (ss : List ByteArray) (k : Nat) : (flat (ss.take k)).length ≤ (flat ss).length := by
  have e : flat ss = flat (ss.take k) ++ flat (ss.drop k) := by
    rw [flat, flat, flat, ← List.flatMap_append, List.take_append_drop]
  rw [e, List.length_append]
  omega
set_option maxRecDepth 100000 in
set_option maxHeartbeats 1000000 in
theorem refchain_any (w : World) (c : BitVec 32) (s : ByteArray) (ao : Option Addr) (b off len cap : Nat) (ss : List ByteArray) (hr : RdS w ao b off len ss) (hmx : len ≤ 9223372036854775807) (hz : s.size + (flat ss).length ≤ 9223372036854775800) (r : Nat) (hR : chn c s.data.toList ss = r) :
    Calls Tryz.prog 118 #[.int .u32 (c.toNat : Int), .string s, .slice ao len cap] w fun e w' => e = .returned (.int .u32 (r : Int)) ∧ Below w.heap.size w w' := by
  obtain ⟨d, hd⟩ : ∃ d, c.toNat = d := ⟨_, rfl⟩
  have hd4 : d < 4294967296 := by rw [← hd]; exact c.isLt
  have hw2 : IntKind.u64.wrap (d : Int) = (d : Int) := by rw [IntKind.wrap_u64]; omega
  obtain ⟨u, hu⟩ : ∃ u : ByteArray, (⟨(big 4 d).toArray⟩ : ByteArray) = u := ⟨_, rfl⟩
  have hul : u.data.toList = big 4 d := by rw [← hu]
  have hus : u.size = 4 := by rw [← size_list, hul, big_len]
  obtain ⟨v, hv⟩ : ∃ v : ByteArray, (⟨(big 4 d ++ s.data.toList).toArray⟩ : ByteArray) = v := ⟨_, rfl⟩
  have HB : Hid (∀ W, Calls Tryz.prog 123 #[.int .u64 (d : Int), .int .i64 4] W fun e w' => e = .returned (.string u) ∧ Below W.heap.size W w') := fun W => refbig_any W d 4 (by omega) (by decide) u hu
  have ka := add_of u s v _ _ hul rfl hv (by omega)
  have HV : Hid (v.data.toList = big 4 d ++ s.data.toList ++ flat (ss.take 0) ∧ chn c s.data.toList ss = r ∧ c.toNat = d ∧ s.size + (flat ss).length ≤ 9223372036854775800) := ⟨by rw [← hv, List.take_zero, show flat [] = [] from rfl, List.append_nil], hR, hd, hz⟩
  rw [hd]
  clear hu hul hv hR hd hz
  go_enter Tryz.func118, Tryz.ntmps118
  go_wp2_with (go_at_call 123; with_reducible refine (HB.out _).mono ?_; rintro e w1 ⟨rfl, hb1⟩)
  clear ka
  go_loopg [7, 8] len (fun G y i wr => w1 = wr ∧ ∃ (k : Nat) (t : ByteArray), k ≤ len ∧ G = len - k ∧ y = .string t ∧ i = .int .i64 (k : Int) ∧ Hid (t.data.toList = big 4 d ++ s.data.toList ++ flat (ss.take k)))
  case atStart =>
    go_light
    exact ⟨rfl, 0, v, by omega, rfl, rfl, rfl, HV.out.1⟩
  case round =>
    obtain ⟨rfl, k, t, hk, rfl, rfl, rfl, HM⟩ := hrel
    have hts : t.size ≤ 9223372036854775806 := by
      have h1 := HV.out.2.2.2
      have h2 := flat_len_take ss k
      rw [← size_list, HM.out, List.length_append, List.length_append, big_len, size_list]
      omega
    by_cases hlt : k < len
    · have hz : (k : Int) < (len : Int) := by omega
      have k0 : (0 : Int) ≤ (k : Int) := by omega
      obtain rfl := hr.ptr (by omega)
      have hr' := hr.next hb1 (Nat.le_refl _)
      have ck := hr'.at hlt
      have hsn := flat_snoc ss k (by rw [hr.hl]; exact hlt)
      obtain ⟨t', ht'⟩ : ∃ t' : ByteArray, (⟨(t.data.toList ++ (ss.getD k ByteArray.empty).data.toList).toArray⟩ : ByteArray) = t' := ⟨_, rfl⟩
      have ka := add_of t (ss.getD k ByteArray.empty) t' _ _ rfl rfl ht' (by
        have h1 := HV.out.2.2.2
        have h2 := flat_len_take ss (k + 1)
        rw [hsn, List.length_append, size_list] at h2
        rw [← size_list t, HM.out, List.length_append, List.length_append, big_len, size_list]
        omega)
      have HY : Hid (t'.data.toList = big 4 d ++ s.data.toList ++ flat (ss.take (k + 1))) := by
        show _ = _
        rw [← ht', hsn, HM.out]
        simp
      clear HM hr' hsn ht'
      generalize ss.getD k ByteArray.empty = part at *
      go_wp2
      go_roundg (len - (k + 1))
      case rel =>
        go_light
        exact ⟨rfl, k + 1, t', by omega, rfl, rfl, by go_num, HY⟩
      case measure => go_light; omega
    · obtain rfl : k = len := by omega
      have hz : ¬ (k : Int) < (k : Int) := by omega
      have HS : Hid (∀ W, Calls Tryz.prog 145 #[.string t] W fun e w' => e = .returned (.int .u32 (r : Int)) ∧ w' = W) := fun W => refsum_any W t (by omega) r (by rw [HM.out, ← HV.out.2.1, chn, HV.out.2.2.1, List.take_of_length_le (by rw [hr.hl]; exact Nat.le_refl _)])
      clear HM
      go_wp2_with (go_at_call 145; with_reducible refine (HS.out _).mono ?_; rintro e w3 ⟨rfl, rfl⟩)
      go_ret
      exact ⟨rfl, hb1⟩
end Go.Proofs.YthfnpagangjpbabGreat.Rc
namespace Go.Proofs.YthfnpagangjpbabGreat.Rc
open Go.RowKit
attribute [local go_sem ↓] Go.wp_at_zero Go.wp_at_succ
theorem txt (l : List UInt8) (n : Nat) (hn : l.length = n) : ∃ t : ByteArray, (⟨l.toArray⟩ : ByteArray) = t ∧ t.data.toList = l ∧ t.size = n := ⟨_, rfl, rfl, by rw [← size_list]; exact hn⟩
set_option maxRecDepth 100000 in
set_option maxHeartbeats 4000000 in
theorem refmark_any (w : World) (m : MV) (h1 : m.size < 18446744073709551616) (h2 : m.items < 18446744073709551616) (h3 : m.nodes < 18446744073709551616) (t : ByteArray) (ht : (⟨(mrk m).toArray⟩ : ByteArray) = t) :
    Calls Tryz.prog 128 #[.agg (mC m)] w fun e w' => e = .returned (.string t) ∧ Below w.heap.size w w' := by
  obtain ⟨mk, ma, mb, mc, md⟩ := m
  have h4 := md.isLt
  by_cases hk : 1 ≤ mk ∧ mk ≤ 32
  · rw [mrk, if_pos hk] at ht
    obtain ⟨k, rfl⟩ : ∃ k : Nat, mk = (k : Int) := ⟨mk.toNat, by omega⟩
    simp only [Int.toNat_natCast] at ht h1 h2 h3
    obtain ⟨d, hd⟩ : ∃ d, md.toNat = d := ⟨_, rfl⟩
    rw [hd] at ht
    have z1 : ¬ (k : Int) < 1 := by omega
    have z2 : ¬ (k : Int) > 32 := by omega
    have hw : IntKind.u64.wrap (k : Int) = (k : Int) := by rw [IntKind.wrap_u64]; omega
    have hw2 : IntKind.u64.wrap (d : Int) = (d : Int) := by rw [IntKind.wrap_u64]; omega
    obtain ⟨p0, hp0, lp0, sp0⟩ := txt (big 1 k) 1 (big_len _ _)
    obtain ⟨p1, hp1, lp1, sp1⟩ := txt (zer 3) 3 (zer_len _)
    obtain ⟨p2, hp2, lp2, sp2⟩ := txt (big 8 ma) 8 (big_len _ _)
    obtain ⟨p3, hp3, lp3, sp3⟩ := txt (big 8 mb) 8 (big_len _ _)
    obtain ⟨p4, hp4, lp4, sp4⟩ := txt (big 8 mc) 8 (big_len _ _)
    obtain ⟨p5, hp5, lp5, sp5⟩ := txt (big 4 d) 4 (big_len _ _)
    obtain ⟨p6, hp6, lp6, sp6⟩ := txt (zer 24) 24 (zer_len _)
    obtain ⟨q0, hq0, lq0, sq0⟩ := txt ([109, 115, 102, 1] ++ big 1 k) 5 (by simp [big_len])
    obtain ⟨q1, hq1, lq1, sq1⟩ := txt ([109, 115, 102, 1] ++ big 1 k ++ zer 3) 8 (by simp [big_len, zer_len])
    obtain ⟨q2, hq2, lq2, sq2⟩ := txt ([109, 115, 102, 1] ++ big 1 k ++ zer 3 ++ big 8 ma) 16 (by simp [big_len, zer_len])
    obtain ⟨q3, hq3, lq3, sq3⟩ := txt ([109, 115, 102, 1] ++ big 1 k ++ zer 3 ++ big 8 ma ++ big 8 mb) 24 (by simp [big_len, zer_len])
    obtain ⟨q4, hq4, lq4, sq4⟩ := txt ([109, 115, 102, 1] ++ big 1 k ++ zer 3 ++ big 8 ma ++ big 8 mb ++ big 8 mc) 32 (by simp [big_len, zer_len])
    obtain ⟨q5, hq5, lq5, sq5⟩ := txt ([109, 115, 102, 1] ++ big 1 k ++ zer 3 ++ big 8 ma ++ big 8 mb ++ big 8 mc ++ big 4 d) 36 (by simp [big_len, zer_len])
    obtain ⟨q6, hq6, lq6, sq6⟩ := txt (bodyM k ma mb mc d) 60 (bodyM_len _ _ _ _ _)
    have k0 := add_of ⟨#[109, 115, 102, 1]⟩ p0 q0 [109, 115, 102, 1] _ rfl lp0 hq0 (by rw [sp0]; decide)
    have k1 := add_of q0 p1 q1 _ _ lq0 lp1 hq1 (by omega)
    have k2 := add_of q1 p2 q2 _ _ lq1 lp2 hq2 (by omega)
    have k3 := add_of q2 p3 q3 _ _ lq2 lp3 hq3 (by omega)
    have k4 := add_of q3 p4 q4 _ _ lq3 lp4 hq4 (by omega)
    have k5 := add_of q4 p5 q5 _ _ lq4 lp5 hq5 (by omega)
    have k6 := add_of q5 p6 q6 _ _ lq5 lp6 hq6 (by omega)
    have H0 : Hid (∀ W, Calls Tryz.prog 123 #[.int .u64 (k : Int), .int .i64 1] W fun e w' => e = .returned (.string p0) ∧ Below W.heap.size W w') := fun W => refbig_any W k 1 (by omega) (by decide) p0 hp0
    have H1 : Hid (∀ W, Calls Tryz.prog 115 #[.int .i64 3] W fun e w' => e = .returned (.string p1) ∧ Below W.heap.size W w') := fun W => refzeros_any W 3 (by omega) p1 hp1
    have H2 : Hid (∀ W, Calls Tryz.prog 123 #[.int .u64 (ma : Int), .int .i64 8] W fun e w' => e = .returned (.string p2) ∧ Below W.heap.size W w') := fun W => refbig_any W ma 8 (by omega) (by decide) p2 hp2
    have H3 : Hid (∀ W, Calls Tryz.prog 123 #[.int .u64 (mb : Int), .int .i64 8] W fun e w' => e = .returned (.string p3) ∧ Below W.heap.size W w') := fun W => refbig_any W mb 8 (by omega) (by decide) p3 hp3
    have H4 : Hid (∀ W, Calls Tryz.prog 123 #[.int .u64 (mc : Int), .int .i64 8] W fun e w' => e = .returned (.string p4) ∧ Below W.heap.size W w') := fun W => refbig_any W mc 8 (by omega) (by decide) p4 hp4
    have H5 : Hid (∀ W, Calls Tryz.prog 123 #[.int .u64 (d : Int), .int .i64 4] W fun e w' => e = .returned (.string p5) ∧ Below W.heap.size W w') := fun W => refbig_any W d 4 (by omega) (by decide) p5 hp5
    have H6 : Hid (∀ W, Calls Tryz.prog 115 #[.int .i64 24] W fun e w' => e = .returned (.string p6) ∧ Below W.heap.size W w') := fun W => refzeros_any W 24 (by omega) p6 hp6
    have H7 : Hid (∀ W, Calls Tryz.prog 122 #[.string q6] W fun e w' => e = .returned (.string t) ∧ Below W.heap.size W w') := fun W => refsummed_any W q6 (by omega) t (by rw [lq6]; exact ht)
    clear hp0 hp1 hp2 hp3 hp4 hp5 hp6 lp0 lp1 lp2 lp3 lp4 lp5 lp6 hq0 hq1 hq2 hq3 hq4 hq5 hq6 lq0 lq1 lq2 lq3 lq4 lq5 lq6 sp0 sp1 sp2 sp3 sp4 sp5 sp6 sq0 sq1 sq2 sq3 sq4 sq5 sq6 ht h1 h2 h3 hk h4
    unfold mC
    rw [hd]
    obtain ⟨wa, hwa⟩ : ∃ wa, w.alloc (.cells #[.int .i64 (k : Int), .int .u64 (ma : Int), .int .u64 (mb : Int), .int .u64 (mc : Int), .int .u32 (d : Int)] 85) = wa := ⟨_, rfl⟩
    have HC : Hid (∀ W, Below wa.heap.size wa W → W.cell? ⟨w.heap.size, 0, none⟩ = some (.int .i64 (k : Int)) ∧ W.cell? ⟨w.heap.size, 1, none⟩ = some (.int .u64 (ma : Int)) ∧ W.cell? ⟨w.heap.size, 2, none⟩ = some (.int .u64 (mb : Int)) ∧ W.cell? ⟨w.heap.size, 3, none⟩ = some (.int .u64 (mc : Int)) ∧ W.cell? ⟨w.heap.size, 4, none⟩ = some (.int .u32 (d : Int))) := fun W hb => by
      have hh : W.heap[w.heap.size]? = some (.cells #[.int .i64 (k : Int), .int .u64 (ma : Int), .int .u64 (mb : Int), .int .u64 (mc : Int), .int .u32 (d : Int)] 85 (0, 0)) := by
        rw [hb.block _ (by rw [← hwa]; simp), ← hwa]; exact new1 _ _
      refine ⟨?_, ?_, ?_, ?_, ?_⟩
      iterate 5 (rw [cell_of_row W _ _ _ _ (0, 0) hh]; rfl)
    have HA : Hid (Below w.heap.size w wa) := by rw [← hwa]; exact bal (Below.refl _ _) _
    go_enter Tryz.func128, Tryz.ntmps128
    obtain ⟨c0, c1, c2, c3, c4⟩ := HC.out wa (Below.refl _ _)
    go_upto_region 3 with fail
    have tw := bdrew (Below.refl wa.heap.size wa)
    clear hwa
    go_region_held3 (fun Z => Z.cell? ⟨w.heap.size, 0, none⟩ = some (.int .i64 (k : Int)) ∧ Z.cell? ⟨w.heap.size, 1, none⟩ = some (.int .u64 (ma : Int)) ∧ Z.cell? ⟨w.heap.size, 2, none⟩ = some (.int .u64 (mb : Int)) ∧ Z.cell? ⟨w.heap.size, 3, none⟩ = some (.int .u64 (mc : Int)) ∧ Z.cell? ⟨w.heap.size, 4, none⟩ = some (.int .u32 (d : Int))) (first | assumption | (exact HC.out _ tw)) (first
      | (go_at_call 123; (first
          | (with_reducible refine (H0.out _).mono ?_) | (with_reducible refine (H2.out _).mono ?_) | (with_reducible refine (H3.out _).mono ?_) | (with_reducible refine (H4.out _).mono ?_) | (with_reducible refine (H5.out _).mono ?_)); rintro e w4 ⟨rfl, hb4⟩; replace tw := bnext tw hb4; clear hb4)
      | (go_at_call 115; (first
          | (with_reducible refine (H1.out _).mono ?_) | (with_reducible refine (H6.out _).mono ?_)); rintro e w4 ⟨rfl, hb4⟩; replace tw := bnext tw hb4; clear hb4)
      | (go_at_call 122; (with_reducible refine (H7.out _).mono ?_); rintro e w4 ⟨rfl, hb4⟩; replace tw := bnext tw hb4; clear hb4))
    all_goals
      go_wp2
      go_ret
      exact ⟨rfl, bnext HA.out tw⟩
  · rw [mrk, if_neg hk] at ht
    subst ht
    unfold mC
    by_cases hk1 : mk < 1
    · go_enter Tryz.func128, Tryz.ntmps128
      go_wp2
      go_ret
      exact ⟨rfl, bal (Below.refl _ _) _⟩
    · have hk2 : mk > 32 := by omega
      go_enter Tryz.func128, Tryz.ntmps128
      go_wp2
      go_ret
      exact ⟨rfl, bal (Below.refl _ _) _⟩
end Go.Proofs.YthfnpagangjpbabGreat.Rc
