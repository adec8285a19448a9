/-
  Walks: put, number. Own work.
-/
import Derived.Test.YtggkjleibhpnfaaNMem
namespace Go.Proofs.Ytggkjleibhpnfaa
open Go.RowKit
attribute [local go_sem ↓] Go.wp_at_zero Go.wp_at_succ
theorem ovr_step (l : List UInt8) (a : Nat) (t r : List UInt8) (x : UInt8) (ha : a < l.length) : (l.take (a + 1) ++ t ++ r).set a x = l.take a ++ x :: t ++ r := by
  have e : (l.take a).length = a := by simp; omega
  rw [List.take_succ_eq_append_getElem ha, List.append_assoc, List.append_assoc, List.set_append_right _ _ (by omega), e, Nat.sub_self]
  simp
set_option maxRecDepth 100000 in
set_option maxHeartbeats 1000000 in
theorem put_any (w : World) (g off len cap n : Nat) (l : List UInt8) (hl : Byt w g l) (ho : off + len ≤ l.length) (h8 : len ≤ 8) (hn : n < 18446744073709551616) :
    Calls Try.prog 24 #[.slice (some ⟨g, off, none⟩) len cap, .int .u64 (n : Int)] w fun e w' => e = .returned (.tuple #[]) ∧ Byt w' g (ovr l off (big len n)) ∧ Upo (fun b => b = g) w w' := by
  have HO : Hid (off + len ≤ l.length) := ho
  have H0 : Hid (Byt w g (l.take (off + len) ++ big 0 n ++ l.drop (off + len)) ∧ Upo (fun b => b = g) w w) := ⟨by simp [big]; exact hl, Upo.refl _ _⟩
  have k8 : (len : Int) ≤ 8 := by omega
  have k0 : (0 : Int) ≤ (len : Int) := by omega
  have hN : Hid (n < 18446744073709551616) := hn
  clear hl ho hn
  go_enter Try.func24, Try.ntmps24
  go_wp2
  go_loopg [1, 4] len (fun G x i wr => ∃ (j d : Nat), j + d = len ∧ j = G ∧ x = .int .u64 ((n / 256 ^ d : Nat) : Int) ∧ i = .int .i64 ((j : Int) - 1) ∧ Hid (Byt wr g (l.take (off + j) ++ big d n ++ l.drop (off + len)) ∧ Upo (fun b => b = g) w wr))
  case atStart =>
    go_light
    exact ⟨len, 0, by omega, rfl, by simp, by simp, H0⟩
  case round =>
    clear H0
    obtain ⟨j, d, hj, rfl, rfl, rfl, HB⟩ := hrel
    have hx : n / 256 ^ d ≤ n := Nat.div_le_self _ _
    by_cases hz : 0 < j
    · obtain ⟨m, rfl⟩ : ∃ m, j = m + 1 := ⟨j - 1, by omega⟩
      have em : ((m + 1 : Nat) : Int) - 1 = (m : Int) := by omega
      rw [em]
      have m0 : (0 : Int) ≤ (m : Int) := by omega
      have m1 : (m : Int) < (len : Int) := by omega
      have hol := HO.out
      have cl := HB.out.1.at (j := off + m) (by simp [big_len]; omega)
      have fz := HB.out.1.free (j := off + m) (by simp [big_len]; omega)
      obtain ⟨z, hz'⟩ : ∃ z, ((l.take (off + (m + 1)) ++ big d n ++ l.drop (off + len)).getD (off + m) 0).toNat = z := ⟨_, rfl⟩
      rw [hz'] at cl
      obtain ⟨x, hxd⟩ : ∃ x, n / 256 ^ d = x := ⟨_, rfl⟩
      have hx2 : Hid (x < 18446744073709551616) := by show _ < _; have := hN.out; omega
      have HX : Hid (Byt (wr.setCell ⟨g, off + m, none⟩ (.int .u8 ((x : Int) % 256))) g (l.take (off + m) ++ big (d + 1) n ++ l.drop (off + len)) ∧ Upo (fun b => b = g) w (wr.setCell ⟨g, off + m, none⟩ (.int .u8 ((x : Int) % 256)))) := by
        refine ⟨?_, HB.out.2.set _ _ _ (.inl rfl)⟩
        have := HB.out.1.set (off + m) (UInt8.ofNat x) ((x : Int) % 256) (by rw [UInt8.toNat_ofNat']; omega)
        rw [show off + (m + 1) = off + m + 1 by omega, ovr_step l (off + m) _ _ _ (by omega)] at this
        rw [big_cons, hxd]
        exact this
      have HD : Hid (x / 256 = n / 256 ^ (d + 1)) := by
        show _ = _
        rw [Nat.pow_succ, ← Nat.div_div_eq_div_mul, hxd]
      rw [hxd]
      clear HB hxd hz' hx hol
      go_wp2
      go_roundg m
      case rel =>
        go_light
        refine ⟨m, d + 1, by omega, rfl, ?_, ?_, HX⟩
        · have := HD.out; rw [← this]; go_num
        · go_num
      case measure => go_light; omega
    · obtain rfl : j = 0 := by omega
      obtain rfl : d = len := by omega
      have em : ((0 : Nat) : Int) - 1 = -1 := by omega
      rw [em]
      have HE : Hid (Byt wr g (ovr l off (big d n)) ∧ Upo (fun b => b = g) w wr) := by
        refine ⟨?_, HB.out.2⟩
        have := HB.out.1
        rw [Nat.add_zero] at this
        rw [ovr, big_len]; exact this
      clear HB hx hj
      go_wp2
      exact bodyPost_end (results_none rfl _ Try.prog wr) rfl ⟨rfl, HE.out⟩
/-- A number out of its bytes. -/
theorem num_step (l : List UInt8) (k : Nat) (hk : k < l.length) : num (l.take (k + 1)) = num (l.take k) * 256 + (l.getD k 0).toNat := by
  rw [List.take_succ_eq_append_getElem hk, num_snoc, List.getD_eq_getElem?_getD, List.getElem?_eq_getElem hk]
  rfl
theorem or_byte (x y : Nat) (hx : x < 72057594037927936) (hy : y < 256) : bits .or .u64 (IntKind.u64.wrap ((x : Int) * 256)) (y : Int) = ((x * 256 + y : Nat) : Int) := by
  have e : IntKind.u64.wrap ((x : Int) * 256) = ((x * 256 : Nat) : Int) := by rw [IntKind.wrap_u64]; omega
  rw [e, u64_or_nat _ _ (by omega) (by omega), show x * 256 = x <<< 8 by rw [Nat.shiftLeft_eq], ← Nat.shiftLeft_add_eq_or_of_lt (show y < 2 ^ 8 by omega)]
set_option maxRecDepth 100000 in
set_option maxHeartbeats 1000000 in
theorem number_any (w : World) (g off len cap : Nat) (l : List UInt8) (hl : Byt w g l) (ho : off + len ≤ l.length) (h8 : len ≤ 8) (r : Nat) (hr : num ((l.drop off).take len) = r) :
    Calls Try.prog 26 #[.slice (some ⟨g, off, none⟩) len cap] w fun e w' => e = .returned (.int .u64 (r : Int)) ∧ w' = w := by
  obtain ⟨t, ht⟩ : ∃ t, (l.drop off).take len = t := ⟨_, rfl⟩
  have htl : t.length = len := by rw [← ht]; simp; omega
  have HC : Hid (∀ k, k < len → w.cell? ⟨g, off + k, none⟩ = some (.int .u8 ((t.getD k 0).toNat : Int))) := fun k hk => by
    rw [hl.at (by omega), ← ht]
    simp [List.getD_eq_getElem?_getD, List.getElem?_drop, hk]
  rw [ht] at hr
  have HR : Hid (num t = r ∧ t.length = len) := ⟨hr, htl⟩
  have k8 : (len : Int) ≤ 8 := by omega
  have k0 : (0 : Int) ≤ (len : Int) := by omega
  clear hl ho ht hr htl
  go_enter Try.func26, Try.ntmps26
  go_wp2
  go_loopg [3, 8] len (fun G x i wr => w = wr ∧ ∃ (k m : Nat), k ≤ len ∧ G = len - k ∧ x = .int .u64 (m : Int) ∧ i = .int .i64 (k : Int) ∧ Hid (num (t.take k) = m))
  case atStart =>
    go_light
    exact ⟨rfl, 0, 0, by omega, rfl, rfl, rfl, rfl⟩
  case round =>
    obtain ⟨rfl, k, m, hk, rfl, rfl, rfl, HM⟩ := hrel
    by_cases hlt : k < len
    · have hz : (k : Int) < (len : Int) := by omega
      have kk : (0 : Int) ≤ (k : Int) := by omega
      have cl := HC.out k hlt
      have hb : (t.getD k 0).toNat < 256 := (t.getD k 0).toNat_lt
      have hst := num_step t k (by rw [HR.out.2]; exact hlt)
      rw [HM.out] at hst
      have hm : m < 72057594037927936 := by
        rw [← HM.out]
        exact num_le _ 7 (by simp; omega)
      obtain ⟨y, hy⟩ : ∃ y, (t.getD k 0).toNat = y := ⟨_, rfl⟩
      rw [hy] at cl hb hst
      have eo := or_byte m y hm hb
      rw [← hst] at eo
      have e1 : (y : Int) % 18446744073709551616 = (y : Int) := by omega
      obtain ⟨v, hv⟩ : ∃ v, num (t.take (k + 1)) = v := ⟨_, rfl⟩
      rw [hv] at eo hst
      have HV : Hid (num (t.take (k + 1)) = v) := hv
      clear HM hv hst hm hb hy
      go_wp2
      go_roundg (len - (k + 1))
      case rel =>
        go_light
        exact ⟨rfl, k + 1, v, by omega, rfl, rfl, by go_num, HV⟩
      case measure => go_light; omega
    · obtain rfl : k = len := by omega
      have hz : ¬ (k : Int) < (k : Int) := by omega
      have HE : Hid (m = r) := by
        show _ = _
        have := HM.out
        rw [List.take_of_length_le (by rw [HR.out.2]; exact Nat.le_refl _), HR.out.1] at this
        exact this.symm
      clear HM
      go_wp2
      go_ret
      exact ⟨by rw [HE.out]; rfl, rfl⟩
end Go.Proofs.Ytggkjleibhpnfaa
