/-
  Walks of package crc: More. Own work.
-/
import Derived.Test.YtggkjleibhpnfaaProg
import Derived.Test.YtggkjleibhpnfaaRSpec
import Derived.Deep.MidRow
import Derived.Below
import Derived.WalkKit
import Derived.WalkSpells
import Derived.Outline
import Derived.KernelRfl
import Derived.Deep.LoopGhost
import Derived.Deep.RegionHeld3
import Derived.Deep.RegionWith
import Derived.Deep.DrawnRows
import Derived.Deep.Light
import Derived.Laws.BitsAllLaws
import Derived.BigQuiet
namespace Go.Proofs.Ytggkjleibhpnfaa
open Go.RowKit
attribute [local go_sem ↓] Go.wp_at_zero Go.wp_at_succ
def cW (l : List (BitVec 32)) : List Value := l.map fun c => Value.int .u32 (c.toNat : Int)
def tabO : Obj := .cells (cW TB).toArray 65
theorem cW_len (l : List (BitVec 32)) : (cW l).length = l.length := by simp [cW]
theorem range_new (w : World) (cs : List Value) (t : TypeId) : (w.alloc (.cells cs.toArray t)).rangeAt w.heap.size 0 cs := fun j v hv => by
  rw [Nat.zero_add, World.cell?_alloc_new]
  simpa using hv
theorem tab_cell (w : World) (n : Nat) (hn : n < 16) : (w.alloc tabO).cell? ⟨w.heap.size, n, none⟩ = some (.int .u32 ((TB.getD n 0#32).toNat : Int)) := by
  have hl : n < TB.length := hn
  have := range_new w (cW TB) 65 n (.int .u32 ((TB.getD n 0#32).toNat : Int)) (by simp [cW, List.getElem?_eq_getElem hl, List.getD_eq_getElem?_getD])
  rwa [Nat.zero_add] at this
theorem xor32 (a b : BitVec 32) : bits .xor .u32 (a.toNat : Int) (b.toNat : Int) = ((a ^^^ b).toNat : Int) := by
  rw [u32_xor_nat _ _ a.isLt b.isLt, BitVec.toNat_xor]
theorem not32 (a : BitVec 32) : bits .xor .u32 IntKind.u32.max (a.toNat : Int) = ((~~~ a).toNat : Int) := by
  have e : IntKind.u32.max = ((BitVec.allOnes 32).toNat : Int) := by decide
  rw [e, xor32, BitVec.allOnes_xor]
theorem byte32 (a : BitVec 32) (b : UInt8) : bits .xor .u32 (a.toNat : Int) ((b.toNat : Int) % 4294967296) = ((a ^^^ bw b).toNat : Int) := by
  have hb : b.toNat < 256 := b.toNat_lt
  have e : (b.toNat : Int) % 4294967296 = ((bw b).toNat : Int) := by
    rw [bw, BitVec.toNat_ofNat, Nat.mod_eq_of_lt (by omega)]; omega
  rw [e, xor32]
theorem half (X : BitVec 32) : ∃ q n t y : Nat, (X.toNat : Int) / 16 = (q : Int) ∧ bits .and .u32 (X.toNat : Int) 15 = (n : Int) ∧ n < 16 ∧ (TB.getD n 0#32).toNat = t ∧ bits .xor .u32 (q : Int) (t : Int) = (y : Int) ∧ y = (stN 4 X).toNat := by
  refine ⟨X.toNat / 16, X.toNat % 16, _, _, by omega, ?_, Nat.mod_lt _ (by decide), rfl, ?_, rfl⟩
  · have := u32_and_nat X.toNat 15 X.isLt (by decide)
    rw [show ((15 : Nat) : Int) = 15 from rfl] at this
    rw [this]
    have : X.toNat &&& 15 = X.toNat % 2 ^ 4 := Nat.and_two_pow_sub_one_eq_mod _ 4
    rw [this]
  · have e : X.toNat / 16 = (X >>> 4).toNat := by rw [BitVec.toNat_ushiftRight, Nat.shiftRight_eq_div_pow]
    rw [e, xor32, halves]
theorem take_step (s : ByteArray) (k : Nat) (hk : k < s.size) : s.data.toList.take (k + 1) = s.data.toList.take k ++ [s[k]] := by
  rw [List.take_succ_eq_append_getElem (by simpa using hk)]
  rfl
set_option maxRecDepth 100000 in
theorem more_any (w : World) (c : BitVec 32) (s : ByteArray) (hs : s.size ≤ 9223372036854775807) :
    Calls Try.prog 34 #[.int .u32 (c.toNat : Int), .string s] w fun e w' => e = .returned (.int .u32 ((mor c s.data.toList).toNat : Int)) ∧ w' = w.alloc tabO := by
  have HN : Hid (bits .xor .u32 IntKind.u32.max (c.toNat : Int) = ((~~~ c).toNat : Int)) := not32 c
  go_enter Try.func34, Try.ntmps34
  go_wp2
  go_loopg [6, 13] s.size (fun g x i wr => w.alloc tabO = wr ∧ ∃ (k m : Nat), k ≤ s.size ∧ g = s.size - k ∧ x = .int .u32 (m : Int) ∧ i = .int .i64 k ∧ Hid (m = (run (~~~ c) (s.data.toList.take k)).toNat))
  case atStart =>
    go_light
    exact ⟨rfl, 0, (~~~ c).toNat, Nat.zero_le _, rfl, by rw [HN.out], rfl, rfl⟩
  case round =>
    obtain ⟨rfl, k, d, hk, rfl, rfl, rfl, HD⟩ := hrel
    by_cases hlt : k < s.size
    · have hz : (k : Int) < (s.size : Int) := by omega
      have e0 := byte32 (run (~~~ c) (s.data.toList.take k)) s[k]
      rw [← HD.out] at e0
      obtain ⟨q, n, t, y, e1, e2, hn, ht, e3, hy⟩ := half (run (~~~ c) (s.data.toList.take k) ^^^ bw s[k])
      obtain ⟨q', n', t', y', e1', e2', hn', ht', e3', hy'⟩ := half (stN 4 (run (~~~ c) (s.data.toList.take k) ^^^ bw s[k]))
      have HY : Hid (y' = (run (~~~ c) (s.data.toList.take (k + 1))).toNat) := by
        show _ = _
        rw [hy', take_step s k hlt, run_snoc, by8, ← stN_add]
      rw [← hy] at e1' e2'
      have c1 := tab_cell w n hn
      have c2 := tab_cell w n' hn'
      rw [ht] at c1
      rw [ht'] at c2
      have n0 : (0 : Int) ≤ (n : Int) := Int.natCast_nonneg _
      have n1 : (n : Int) < 16 := by omega
      have n0' : (0 : Int) ≤ (n' : Int) := Int.natCast_nonneg _
      have n1' : (n' : Int) < 16 := by omega
      generalize (run (~~~ c) (s.data.toList.take k) ^^^ bw s[k]).toNat = x at e0 e1 e2
      clear hy hy' ht ht' HD hn hn'
      go_wp2
      go_roundg (s.size - (k + 1))
      case rel =>
        go_light
        exact ⟨rfl, k + 1, y', by omega, rfl, rfl, by go_num, HY.out⟩
      case measure => go_light; omega
    · obtain rfl : k = s.size := by omega
      have hz : ¬ (s.size : Int) < (s.size : Int) := by omega
      have e0 := not32 (run (~~~ c) (s.data.toList.take s.size))
      rw [← HD.out] at e0
      have HE : Hid ((~~~ (run (~~~ c) (s.data.toList.take s.size))).toNat = (mor c s.data.toList).toNat) := by
        show _ = _
        rw [List.take_of_length_le (by simp), mor]
      generalize (~~~ (run (~~~ c) (s.data.toList.take s.size))).toNat = x at e0 HE
      clear HD
      go_wp2
      go_ret
      exact ⟨by rw [HE.out]; rfl, rfl⟩
end Go.Proofs.Ytggkjleibhpnfaa
