/-
  The reference's summed, Payload, Node, Chain. Own work.
-/
import Derived.Test.YtggkjleibhpnfaaNRefA
import Derived.Test.YtggkjleibhpnfaaNChn
namespace Go.Proofs.Ytggkjleibhpnfaa
open Go.RowKit
attribute [local go_sem ↓] Go.wp_at_zero Go.wp_at_succ
theorem add_of (a b c : ByteArray) (x y : List UInt8) (ha : a.data.toList = x) (hb : b.data.toList = y) (hc : (⟨(x ++ y).toArray⟩ : ByteArray) = c) (hz : a.size + b.size ≤ 9223372036854775807) (W : World) : (Op.stringOp .add a b).run Try.prog W = .ok (.string c) W := by
  rw [run_string_add_sum W a b hz]
  congr 2
  apply ba_ext
  rw [← hc, ByteArray.data_append, Array.toList_append, ha, hb]
theorem crc_lt32 (l : List UInt8) : crc l < 4294967296 := crc_lt l
set_option maxRecDepth 100000 in
set_option maxHeartbeats 1000000 in
theorem refsummed_any (w : World) (s : ByteArray) (hs : s.size ≤ 9223372036854775800) (t : ByteArray) (ht : (⟨(sld s.data.toList).toArray⟩ : ByteArray) = t) :
    Calls Try.prog 30 #[.string s] w fun e w' => e = .returned (.string t) ∧ Below w.heap.size w w' := by
  obtain ⟨r, hr⟩ : ∃ r, crc s.data.toList = r := ⟨_, rfl⟩
  have hr4 := crc_lt32 s.data.toList
  rw [hr] at hr4
  obtain ⟨b, hb⟩ : ∃ b : ByteArray, (⟨(big 4 r).toArray⟩ : ByteArray) = b := ⟨_, rfl⟩
  have hbl : b.data.toList = big 4 r := by rw [← hb]
  have hbs : b.size = 4 := by rw [← size_list, hbl, big_len]
  have HS : Hid (∀ W, Calls Try.prog 35 #[.string s] W fun e w' => e = .returned (.int .u32 (r : Int)) ∧ w' = W) := fun W => refsum_any W s (by omega) r hr
  have HB : Hid (∀ W, Calls Try.prog 31 #[.int .u64 (r : Int), .int .i64 4] W fun e w' => e = .returned (.string b) ∧ Below W.heap.size W w') := fun W => refbig_any W r 4 (by omega) (by decide) b hb
  have ka := add_of s b t _ _ rfl hbl (by rw [← ht, sld, hr]) (by omega)
  have hw2 : IntKind.u64.wrap (r : Int) = (r : Int) := by rw [IntKind.wrap_u64]; omega
  clear hr hb hbl ht
  go_enter Try.func30, Try.ntmps30
  go_wp2_with (first
    | (go_at_call 35; with_reducible refine (HS.out _).mono ?_; rintro e w1 ⟨rfl, rfl⟩)
    | (go_at_call 31; with_reducible refine (HB.out _).mono ?_; rintro e w2 ⟨rfl, hb2⟩))
  go_ret
  exact ⟨rfl, hb2⟩
set_option maxRecDepth 100000 in
set_option maxHeartbeats 1000000 in
theorem refpayload_any (w : World) (s : ByteArray) (hs : s.size ≤ 9223372036854775807) (t : ByteArray) (ht : (⟨(payS s.data.toList).toArray⟩ : ByteArray) = t) :
    Calls Try.prog 15 #[.string s] w fun e w' => e = .returned (.string t) ∧ Below w.heap.size w w' := by
  rw [payS, size_list] at ht
  by_cases h1 : s.size ≤ 1048576
  · rw [if_pos h1] at ht
    have z1 : ¬ (s.size : Int) > 1048576 := by omega
    obtain ⟨b, hb⟩ : ∃ b : ByteArray, (⟨(big 4 s.size).toArray⟩ : ByteArray) = b := ⟨_, rfl⟩
    have hbl : b.data.toList = big 4 s.size := by rw [← hb]
    have hbs : b.size = 4 := by rw [← size_list, hbl, big_len]
    obtain ⟨c, hc⟩ : ∃ c : ByteArray, (⟨(big 4 s.size ++ s.data.toList).toArray⟩ : ByteArray) = c := ⟨_, rfl⟩
    have hcl : c.data.toList = big 4 s.size ++ s.data.toList := by rw [← hc]
    have hcs : c.size = s.size + 4 := by rw [← size_list, hcl, List.length_append, big_len, size_list]; omega
    have HB : Hid (∀ W, Calls Try.prog 31 #[.int .u64 (s.size : Int), .int .i64 4] W fun e w' => e = .returned (.string b) ∧ Below W.heap.size W w') := fun W => refbig_any W s.size 4 (by omega) (by decide) b hb
    have ka := add_of b s c _ _ hbl rfl hc (by omega)
    have HS : Hid (∀ W, Calls Try.prog 30 #[.string c] W fun e w' => e = .returned (.string t) ∧ Below W.heap.size W w') := fun W => refsummed_any W c (by omega) t (by rw [hcl, ← ht, pay, size_list])
    have hw2 : IntKind.u64.wrap (s.size : Int) = (s.size : Int) := by rw [IntKind.wrap_u64]; omega
    clear hb hbl ht hc hcl
    go_enter Try.func15, Try.ntmps15
    go_wp2_with (first
      | (go_at_call 31; with_reducible refine (HB.out _).mono ?_; rintro e w2 ⟨rfl, hb2⟩)
      | (go_at_call 30; with_reducible refine (HS.out _).mono ?_; rintro e w3 ⟨rfl, hb3⟩))
    go_ret
    exact ⟨rfl, bnext hb2 hb3⟩
  · rw [if_neg h1] at ht
    subst ht
    have z1 : (s.size : Int) > 1048576 := by omega
    go_enter Try.func15, Try.ntmps15
    go_wp2
    go_ret
    exact ⟨rfl, Below.refl _ _⟩
set_option maxRecDepth 100000 in
set_option maxHeartbeats 1000000 in
theorem refnode_any (w : World) (p : Nat) (hp : p < 18446744073709551616) (s : ByteArray) (hs : s.size ≤ 9223372036854775807) (t : ByteArray) (ht : (⟨(nodS p s.data.toList).toArray⟩ : ByteArray) = t) :
    Calls Try.prog 16 #[.int .u64 (p : Int), .string s] w fun e w' => e = .returned (.string t) ∧ Below w.heap.size w w' := by
  rw [nodS, size_list] at ht
  by_cases h1 : s.size ≤ 32
  · rw [if_pos h1] at ht
    have z1 : ¬ (s.size : Int) > 32 := by omega
    obtain ⟨n, hn⟩ : ∃ n, 32 - s.size = n := ⟨_, rfl⟩
    have z2 : (32 : Int) - (s.size : Int) = (n : Int) := by omega
    obtain ⟨z, hz⟩ : ∃ z : ByteArray, (⟨(zer n).toArray⟩ : ByteArray) = z := ⟨_, rfl⟩
    have hzl : z.data.toList = zer n := by rw [← hz]
    have hzs : z.size = n := by rw [← size_list, hzl, zer_len]
    obtain ⟨b, hb⟩ : ∃ b : ByteArray, (⟨(big 4 p).toArray⟩ : ByteArray) = b := ⟨_, rfl⟩
    have hbl : b.data.toList = big 4 p := by rw [← hb]
    have hbs : b.size = 4 := by rw [← size_list, hbl, big_len]
    obtain ⟨c, hc⟩ : ∃ c : ByteArray, (⟨(s.data.toList ++ zer n).toArray⟩ : ByteArray) = c := ⟨_, rfl⟩
    have hcl : c.data.toList = s.data.toList ++ zer n := by rw [← hc]
    have hcs : c.size = 32 := by rw [← size_list, hcl, List.length_append, zer_len, size_list]; omega
    obtain ⟨d, hd⟩ : ∃ d : ByteArray, (⟨(s.data.toList ++ zer n ++ big 4 p).toArray⟩ : ByteArray) = d := ⟨_, rfl⟩
    have hdl : d.data.toList = s.data.toList ++ zer n ++ big 4 p := by rw [← hd]
    have hds : d.size = 36 := by rw [← size_list, hdl, List.length_append, List.length_append, zer_len, size_list, big_len]; omega
    have HZ : Hid (∀ W, Calls Try.prog 32 #[.int .i64 (n : Int)] W fun e w' => e = .returned (.string z) ∧ Below W.heap.size W w') := fun W => refzeros_any W n (by omega) z hz
    have HB : Hid (∀ W, Calls Try.prog 31 #[.int .u64 (p : Int), .int .i64 4] W fun e w' => e = .returned (.string b) ∧ Below W.heap.size W w') := fun W => refbig_any W p 4 hp (by decide) b hb
    have ka := add_of s z c _ _ rfl hzl hc (by omega)
    have kd := add_of c b d _ _ hcl hbl hd (by omega)
    have HS : Hid (∀ W, Calls Try.prog 30 #[.string d] W fun e w' => e = .returned (.string t) ∧ Below W.heap.size W w') := fun W => refsummed_any W d (by omega) t (by rw [hdl, ← ht, nod, size_list, hn])
    clear hb hbl ht hc hcl hz hzl hd hdl hn hp
    go_enter Try.func16, Try.ntmps16
    go_wp2_with (first
      | (go_at_call 32; with_reducible refine (HZ.out _).mono ?_; rintro e w1 ⟨rfl, hb1⟩)
      | (go_at_call 31; with_reducible refine (HB.out _).mono ?_; rintro e w2 ⟨rfl, hb2⟩)
      | (go_at_call 30; with_reducible refine (HS.out _).mono ?_; rintro e w3 ⟨rfl, hb3⟩))
    go_ret
    exact ⟨rfl, bnext hb1 (bnext hb2 hb3)⟩
  · rw [if_neg h1] at ht
    subst ht
    have z1 : (s.size : Int) > 32 := by omega
    go_enter Try.func16, Try.ntmps16
    go_wp2
    go_ret
    exact ⟨rfl, Below.refl _ _⟩
theorem flat_len_take (ss : List ByteArray) (k : Nat) : (flat (ss.take k)).length ≤ (flat ss).length := by
  have e : flat ss = flat (ss.take k) ++ flat (ss.drop k) := by
    rw [flat, flat, flat, ← List.flatMap_append, List.take_append_drop]
  rw [e, List.length_append]
  omega
set_option maxRecDepth 100000 in
set_option maxHeartbeats 1000000 in
theorem refchain_any (w : World) (c : BitVec 32) (s : ByteArray) (ao : Option Addr) (b off len cap : Nat) (ss : List ByteArray) (hr : RdS w ao b off len ss) (hmx : len ≤ 9223372036854775807) (hz : s.size + (flat ss).length ≤ 9223372036854775800) (r : Nat) (hR : chn c s.data.toList ss = r) :
    Calls Try.prog 19 #[.int .u32 (c.toNat : Int), .string s, .slice ao len cap] w fun e w' => e = .returned (.int .u32 (r : Int)) ∧ Below w.heap.size w w' := by
  obtain ⟨d, hd⟩ : ∃ d, c.toNat = d := ⟨_, rfl⟩
  have hd4 : d < 4294967296 := by rw [← hd]; exact c.isLt
  have hw2 : IntKind.u64.wrap (d : Int) = (d : Int) := by rw [IntKind.wrap_u64]; omega
  obtain ⟨u, hu⟩ : ∃ u : ByteArray, (⟨(big 4 d).toArray⟩ : ByteArray) = u := ⟨_, rfl⟩
  have hul : u.data.toList = big 4 d := by rw [← hu]
  have hus : u.size = 4 := by rw [← size_list, hul, big_len]
  obtain ⟨v, hv⟩ : ∃ v : ByteArray, (⟨(big 4 d ++ s.data.toList).toArray⟩ : ByteArray) = v := ⟨_, rfl⟩
  have HB : Hid (∀ W, Calls Try.prog 31 #[.int .u64 (d : Int), .int .i64 4] W fun e w' => e = .returned (.string u) ∧ Below W.heap.size W w') := fun W => refbig_any W d 4 (by omega) (by decide) u hu
  have ka := add_of u s v _ _ hul rfl hv (by omega)
  have HV : Hid (v.data.toList = big 4 d ++ s.data.toList ++ flat (ss.take 0) ∧ chn c s.data.toList ss = r ∧ c.toNat = d ∧ s.size + (flat ss).length ≤ 9223372036854775800) := ⟨by rw [← hv, List.take_zero, show flat [] = [] from rfl, List.append_nil], hR, hd, hz⟩
  rw [hd]
  clear hu hul hv hR hd hz
  go_enter Try.func19, Try.ntmps19
  go_wp2_with (go_at_call 31; with_reducible refine (HB.out _).mono ?_; rintro e w1 ⟨rfl, hb1⟩)
  clear ka
  go_loopg [7, 8] len (fun G y i wr => w1 = wr ∧ ∃ (k : Nat) (t : ByteArray), k ≤ len ∧ G = len - k ∧ y = .string t ∧ i = .int .i64 (k : Int) ∧ Hid (t.data.toList = big 4 d ++ s.data.toList ++ flat (ss.take k)))
  case atStart =>
    go_light
    exact ⟨rfl, 0, v, by omega, rfl, rfl, rfl, HV.out.1⟩
  case round =>
    obtain ⟨rfl, k, t, hk, rfl, rfl, rfl, HM⟩ := hrel
    have hts : t.size ≤ 9223372036854775806 := by
      have h1 := HV.out.2.2.2
      have h2 := flat_len_take ss k
      rw [← size_list, HM.out, List.length_append, List.length_append, big_len, size_list]
      omega
    by_cases hlt : k < len
    · have hz : (k : Int) < (len : Int) := by omega
      have k0 : (0 : Int) ≤ (k : Int) := by omega
      obtain rfl := hr.ptr (by omega)
      have hr' := hr.next hb1 (Nat.le_refl _)
      have ck := hr'.at hlt
      have hsn := flat_snoc ss k (by rw [hr.hl]; exact hlt)
      obtain ⟨t', ht'⟩ : ∃ t' : ByteArray, (⟨(t.data.toList ++ (ss.getD k ByteArray.empty).data.toList).toArray⟩ : ByteArray) = t' := ⟨_, rfl⟩
      have ka := add_of t (ss.getD k ByteArray.empty) t' _ _ rfl rfl ht' (by
        have h1 := HV.out.2.2.2
        have h2 := flat_len_take ss (k + 1)
        rw [hsn, List.length_append, size_list] at h2
        rw [← size_list t, HM.out, List.length_append, List.length_append, big_len, size_list]
        omega)
      have HY : Hid (t'.data.toList = big 4 d ++ s.data.toList ++ flat (ss.take (k + 1))) := by
        show _ = _
        rw [← ht', hsn, HM.out]
        simp
      clear HM hr' hsn ht'
      generalize ss.getD k ByteArray.empty = part at *
      go_wp2
      go_roundg (len - (k + 1))
      case rel =>
        go_light
        exact ⟨rfl, k + 1, t', by omega, rfl, rfl, by go_num, HY⟩
      case measure => go_light; omega
    · obtain rfl : k = len := by omega
      have hz : ¬ (k : Int) < (k : Int) := by omega
      have HS : Hid (∀ W, Calls Try.prog 35 #[.string t] W fun e w' => e = .returned (.int .u32 (r : Int)) ∧ w' = W) := fun W => refsum_any W t (by omega) r (by rw [HM.out, ← HV.out.2.1, chn, HV.out.2.2.1, List.take_of_length_le (by rw [hr.hl]; exact Nat.le_refl _)])
      clear HM
      go_wp2_with (go_at_call 35; with_reducible refine (HS.out _).mono ?_; rintro e w3 ⟨rfl, rfl⟩)
      go_ret
      exact ⟨rfl, hb1⟩
end Go.Proofs.Ytggkjleibhpnfaa
