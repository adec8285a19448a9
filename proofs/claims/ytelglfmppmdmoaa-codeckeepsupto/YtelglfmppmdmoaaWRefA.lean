/-
  Walks of the reference: Number. Own work.
-/
import Derived.Test.YtelglfmppmdmoaaWWalkD
namespace Go.Proofs.Ytelglfmppmdmoaa
open Go.RowKit
attribute [local go_sem ↓] Go.wp_at_zero Go.wp_at_succ
set_option maxRecDepth 100000 in
theorem refnum_any (w : World) (n : Nat) (hn : n < 18446744073709551616) :
    Calls Try.prog 40 #[.int .u64 (n : Int)] w fun x w' => x = .returned (.string ⟨(num n).toArray⟩) ∧ Below w.heap.size w w' := by
  have HL := hide (num_len (n := n) hn)
  go_enter Try.func40, Try.ntmps40
  go_wp2
  go_loopg [0, 3] n (fun g x v wr => ∃ (m : Nat) (pre : List UInt8), m = g ∧ x = .int .u64 (m : Int) ∧ OwnY wr w.heap.size v pre ∧ Hid (pre ++ num m = num n ∧ m ≤ n) ∧ Below w.heap.size w wr)
  case atStart =>
    go_light
    exact ⟨n, [], rfl, rfl, World.ownsRow_nil _ _ _ _, ⟨rfl, Nat.le_refl _⟩, Below.refl _ _⟩
  case round =>
    obtain ⟨m, pre, hg, rfl, hown, HP, hb⟩ := hrel
    subst hg
    have HS : Hid (pre.length ≤ 10 ∧ w.heap.size ≤ wr.heap.size) := by
      have := congrArg List.length HP.out.1
      rw [List.length_append] at this
      have := HL.out
      exact ⟨by omega, hb.size⟩
    by_cases hm : m < 128
    · have hm' : (m : Int) < 128 := by omega
      have HY := hide (ofNat_toNat (x := m) (by omega)).symm
      have HR : Hid (pre ++ [UInt8.ofNat m] = num n) := by
        have := HP.out.1
        rw [num_low hm] at this
        exact this
      go_wp2_with (at_builtin; refine wpList_append_Y _ rfl _ _ rfl w.heap.size _ pre rfl hown m (UInt8.ofNat m) HY.out rfl ?c1 ?c2 ?_)
      case c1 => have := HS.out; omega
      case c2 => exact HS.out.2
      intro v' w2 r1 r2
      have hcv := owny_conv r1
      rw [HR.out] at hcv
      go_wp2
      go_ret
      exact ⟨rfl, hb.trans r2⟩
    · have hm' : ¬ (m : Int) < 128 := by omega
      have hm2 : (128 : Int) ≤ (m : Int) := by omega
      obtain ⟨c, hc⟩ : ∃ c, c = UInt8.ofNat (m % 128 + 128) := ⟨_, rfl⟩
      obtain ⟨y, hy⟩ : ∃ y, y = c.toNat := ⟨_, rfl⟩
      have ey : (m : Int) % 128 + 128 = (y : Int) := by rw [hy, hc, ofNat_toNat (by omega)]; omega
      have HY := hide hy
      clear hy
      have HR : Hid ((pre ++ [c]) ++ num (m / 128) = num n ∧ m / 128 ≤ n) := by
        have := HP.out
        rw [num_high (by omega), ← hc] at this
        exact ⟨by rw [← this.1]; simp, by omega⟩
      clear hc
      have ew : IntKind.u64.wrap ((m : Int) / 128) = (m : Int) / 128 := by
        have := HP.out.2
        rw [IntKind.wrap_u64]; omega
      have HQ : Hid ((m : Int) / 128 = ((m / 128 : Nat) : Int) ∧ m / 128 < m) := ⟨by omega, by omega⟩
      go_wp2_with (at_builtin; refine wpList_append_Y _ rfl _ _ rfl w.heap.size _ pre rfl hown y c HY.out rfl ?c1 ?c2 ?_)
      case c1 => have := HS.out; omega
      case c2 => exact HS.out.2
      intro v' w2 r1 r2
      have hb2 := hb.trans r2
      clear r2 hb hown
      go_wp2
      go_roundg (m / 128)
      case rel =>
        go_light
        exact ⟨m / 128, _, rfl, by rw [← HQ.out.1], r1, HR.out, hb2⟩
      case measure => go_light; exact HQ.out.2
end Go.Proofs.Ytelglfmppmdmoaa
