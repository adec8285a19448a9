/-
  Walks: Chain. Own work.
-/
import Derived.Test.YtggkjleibhpnfaaNLay
namespace Go.Proofs.Ytggkjleibhpnfaa
open Go.RowKit
attribute [local go_sem ↓] Go.wp_at_zero Go.wp_at_succ
/-- What a chain sums. -/
def chn (c : BitVec 32) (s : List UInt8) (ss : List ByteArray) : Nat := crc (big 4 c.toNat ++ s ++ flat ss)
set_option maxRecDepth 100000 in
set_option maxHeartbeats 1000000 in
theorem chain_any (w : World) (c : BitVec 32) (s : ByteArray) (hs : s.size ≤ 9223372036854775807) (ao : Option Addr) (b off len cap : Nat) (ss : List ByteArray) (hr : RdS w ao b off len ss) (hmx : len ≤ 9223372036854775807) (r : Nat) (hR : chn c s.data.toList ss = r) :
    Calls Try.prog 18 #[.int .u32 (c.toNat : Int), .string s, .slice ao len cap] w fun e w' => e = .returned (.int .u32 (r : Int)) ∧ Below w.heap.size w w' := by
  obtain ⟨w0, hw0⟩ : ∃ w0, w.alloc (.cells (Array.replicate 4 (Value.int .u8 0)) 5) = w0 := ⟨_, rfl⟩
  have hmk : (Instr.makeSlice 41 (.int .i64 4) (.int .i64 4)).run Try.prog w = .ok (.slice (some ⟨w.heap.size, 0, none⟩) 4 4) w0 := by
    rw [← hw0]; exact make_bytes 4 (by decide) w
  have HW : Hid (Byt w0 w.heap.size (zer 4) ∧ Below w.heap.size w w0) := by
    rw [← hw0]
    exact ⟨byt_made w _, bal (Below.refl _ _) _⟩
  obtain ⟨d, hd⟩ : ∃ d, c.toNat = d := ⟨_, rfl⟩
  have hd4 : d < 4294967296 := by rw [← hd]; exact c.isLt
  have hw2 : IntKind.u64.wrap (d : Int) = (d : Int) := by rw [IntKind.wrap_u64]; omega
  obtain ⟨u, hu⟩ : ∃ u : ByteArray, (⟨(big 4 d).toArray⟩ : ByteArray) = u := ⟨_, rfl⟩
  have hul : u.data.toList = big 4 d := by rw [← hu]
  have HPU : Hid (Calls Try.prog 24 #[.slice (some ⟨w.heap.size, 0, none⟩) 4 4, .int .u64 (d : Int)] w0 fun e w' => e = .returned (.tuple #[]) ∧ (convert 41 9 (.slice (some ⟨w.heap.size, 0, none⟩) 4 4)).run Try.prog w' = .ok (.string u) w' ∧ Below w.heap.size w w') := by
    refine (put_any w0 w.heap.size 0 4 4 d (zer 4) HW.out.1 (by rw [zer_len]; decide) (by decide) (by omega)).mono ?_
    rintro e w' ⟨rfl, hy, hup⟩
    rw [show zer 4 = [] ++ zer 4 from rfl, ovr_zer [] _ _ 0 rfl, big_len, List.nil_append, show zer (4 - 4) = [] from rfl, List.append_nil] at hy
    refine ⟨rfl, hy.conv (k := 0) (n := 4) (by rw [big_len]; decide) 0 (fun _ => rfl) 4 u (by rw [List.drop_zero, List.take_of_length_le (by rw [big_len]; decide)]; exact hu), hup.since HW.out.2 (Nat.le_refl _)⟩
  obtain ⟨x, hx⟩ : ∃ x, crc (big 4 d ++ s.data.toList) = x := ⟨_, rfl⟩
  have HF : Hid (∀ W, Calls Try.prog 33 #[.slice (some ⟨W.heap.size, 0, none⟩) 2 2] (W.alloc (.cells #[.string u, .string s] 9)) fun e w' => e = .returned (.int .u32 (x : Int)) ∧ Below W.heap.size W w') := fun W => by
    refine (of_any _ _ W.heap.size 0 2 2 [u, s] ⟨rfl, fun _ => rfl, range_new W [.string u, .string s] 9, by intro z hz; simp at hz; rcases hz with rfl | rfl; rw [← size_list, hul, big_len]; decide; exact hs⟩ (by decide)).mono ?_
    rintro e w' ⟨rfl, hb⟩
    refine ⟨?_, ((Below.refl _ _).alloc (Nat.le_refl _) _).trans (hb.mono (by simp))⟩
    rw [← hx, crc, sumL, ← hul]
    simp [flat]
  have HR : Hid (chn c s.data.toList ss = r ∧ crc (big 4 d ++ s.data.toList) = x ∧ c.toNat = d) := ⟨hR, hx, hd⟩
  rw [hd]
  clear hw0 hu hul hx hR hd
  go_enter Try.func18, Try.ntmps18
  go_wp2_with (first
    | (go_at_call 24; with_reducible refine HPU.out.mono ?_; rintro e w2 ⟨rfl, kc, hb2⟩)
    | (go_at_call 33; with_reducible refine (HF.out _).mono ?_; rintro e w3 ⟨rfl, hb3⟩))
  have HB3 : Hid (Below w.heap.size w w3) := bnext hb2 hb3
  clear kc hb2 hb3 HPU HF
  go_loopg [8, 23] len (fun G y i wr => ∃ (k z : Nat), k ≤ len ∧ G = len - k ∧ y = .int .u32 (z : Int) ∧ i = .int .i64 (k : Int) ∧ Hid (z = (mor (mor 0#32 (big 4 d ++ s.data.toList)) (flat (ss.take k))).toNat) ∧ Hid (Below w.heap.size w wr))
  case atStart =>
    go_light
    exact ⟨0, x, by omega, rfl, rfl, rfl, by show _ = _; rw [List.take_zero, show flat [] = [] from rfl, mor_nil, ← HR.out.2.1]; rfl, HB3⟩
  case round =>
    obtain ⟨k, z, hk, rfl, rfl, rfl, HM, HB⟩ := hrel
    by_cases hlt : k < len
    · have hz : (k : Int) < (len : Int) := by omega
      have k0 : (0 : Int) ≤ (k : Int) := by omega
      obtain rfl := hr.ptr (by omega)
      have hr' := hr.next HB.out (Nat.le_refl _)
      have ck := hr'.at hlt
      have hcall := more_m wr _ z HM.out (ss.getD k ByteArray.empty) (hr.szAt hlt)
      rw [← mor_append, ← flat_snoc ss k (by rw [hr.hl]; exact hlt)] at hcall
      obtain ⟨y, hy⟩ : ∃ y, y = (mor (mor 0#32 (big 4 d ++ s.data.toList)) (flat (ss.take (k + 1)))).toNat := ⟨_, rfl⟩
      rw [← hy] at hcall
      have HY : Hid (y = (mor (mor 0#32 (big 4 d ++ s.data.toList)) (flat (ss.take (k + 1)))).toNat) := hy
      clear hy HM hr'
      generalize ss.getD k ByteArray.empty = part at *
      go_wp2_with (go_at_call 34; refine hcall.mono ?_; rintro e w' ⟨rfl, hb'⟩)
      go_roundg (len - (k + 1))
      case rel =>
        go_light
        exact ⟨k + 1, y, by omega, rfl, rfl, by go_num, HY, bnext HB.out hb'⟩
      case measure => go_light; omega
    · obtain rfl : k = len := by omega
      have hz : ¬ (k : Int) < (k : Int) := by omega
      have HE : Hid (z = r) := by
        show _ = _
        rw [HM.out, ← HR.out.1, chn, crc, HR.out.2.2, List.take_of_length_le (by rw [hr.hl]; exact Nat.le_refl _), mor_append _ (big 4 d ++ s.data.toList)]
      clear HM
      go_wp2
      go_ret
      exact ⟨by rw [HE.out]; rfl, HB.out⟩
end Go.Proofs.Ytggkjleibhpnfaa
