/-
  What the laws have of their own. Own work.
-/
import Derived.Test.YtmhedhhbdpdafaaDNew
import Derived.BigQuiet
namespace Go.Proofs.Ytmhedhhbdpdafaa
open Go.RowKit
set_option maxRecDepth 100000 in
set_option maxHeartbeats 1000000 in
theorem same_yes (w : World) (l : List (List UInt8 × List UInt8)) (a1 : Option Addr) (b1 o1 c1 : Nat) (h1 : RdF w a1 b1 o1 l) (a2 : Option Addr) (b2 o2 c2 : Nat) (h2 : RdF w a2 b2 o2 l) (hl : l.length ≤ 4611686018427387904) :
    Calls Try.prog 20 #[.slice a1 l.length c1, .slice a2 l.length c2] w fun e w' => e = .returned (.bool true) ∧ Below w.heap.size w w' := by
  obtain ⟨n, hn⟩ : ∃ n, l.length = n := ⟨_, rfl⟩
  have HH : Hid (RdF w a1 b1 o1 l ∧ RdF w a2 b2 o2 l ∧ l.length = n ∧ n ≤ 4611686018427387904) := ⟨h1, h2, hn, by omega⟩
  rw [hn]
  clear h1 h2 hl hn
  go_enter Try.func20, Try.ntmps20
  go_wp2
  go_loopg [5] n (fun g x wr => ∃ j : Nat, j ≤ n ∧ g = n - j ∧ x = .int .i64 (j : Int) ∧ Below w.heap.size w wr)
  case atStart =>
    go_light
    exact ⟨0, Nat.zero_le _, rfl, rfl, Below.refl _ _⟩
  case round =>
    obtain ⟨j, hj, rfl, rfl, hb⟩ := hrel
    have HB := hide hb
    by_cases hlt : j < n
    · have hz : (j : Int) < (n : Int) := by omega
      have hz0 : (0 : Int) ≤ (j : Int) := Int.natCast_nonneg _
      obtain ⟨q1, q2, q3, q4⟩ := HH.out
      have r1 := q1.next hb
      have r2 := q2.next hb
      obtain rfl := r1.ptr (by omega)
      obtain rfl := r2.ptr (by omega)
      have x1 := r1.c0 j (by omega)
      have x2 := r1.c1 j (by omega)
      have x3 := r2.c0 j (by omega)
      have x4 := r2.c1 j (by omega)
      generalize l.getD j ([], []) = v at *
      obtain ⟨nm, hnm⟩ : ∃ nm : ByteArray, (⟨v.1.toArray⟩ : ByteArray) = nm := ⟨_, rfl⟩
      obtain ⟨dt, hdt⟩ : ∃ dt : ByteArray, (⟨v.2.toArray⟩ : ByteArray) = dt := ⟨_, rfl⟩
      rw [hnm] at x1 x3
      rw [hdt] at x2 x4
      have hw : IntKind.i64.wrap ((j : Int) + 1) = (j : Int) + 1 := by rw [IntKind.wrap_i64]; omega
      clear q1 q2 q3 r1 r2 hb hnm hdt
      go_upto_region 6 with (fail)
      go_quiet (fail)
      go_wp2
      go_roundg (n - (j + 1))
      case rel =>
        go_light
        exact ⟨j + 1, by omega, rfl, by go_num, below_drewN HB.out _⟩
      case measure => go_light; omega
    · obtain rfl : j = n := by omega
      have hz : ¬ ((j : Int) < (j : Int)) := by omega
      clear hb hlt
      go_wp2
      go_ret
      exact ⟨rfl, HB.out⟩
/-- bent. -/
def bentV (n : Int) (m : Nat) : Nat := ((n % 18446744073709551616).toNat) % (m + 1)
theorem bentV_le (n : Int) (m : Nat) : bentV n m ≤ m := by
  exact Nat.lt_succ_iff.1 (Nat.mod_lt _ (Nat.succ_pos m))
theorem bent_any (w : World) (n : Int) (m : Nat) (hm : m ≤ 4611686018427387904) :
    Calls Try.prog 10 #[.int .i64 n, .int .i64 (m : Int)] w fun e w' => e = .returned (.int .i64 (bentV n m : Int)) ∧ w' = w := by
  have e1 : IntKind.u64.wrap n = (((n % 18446744073709551616).toNat : Nat) : Int) := by rw [IntKind.wrap_u64]; omega
  have e2 : IntKind.u64.wrap (m : Int) = (m : Int) := by rw [IntKind.wrap_u64]; omega
  have e3 : IntKind.u64.wrap ((m : Int) + 1) = ((m + 1 : Nat) : Int) := by rw [IntKind.wrap_u64]; omega
  have e4 : ¬ ((m : Int) < 0) := by omega
  obtain ⟨k, hk⟩ : ∃ k, (n % 18446744073709551616).toNat = k := ⟨_, rfl⟩
  have hb := bentV_le n m
  have e7 : bentV n m = k % (m + 1) := by unfold bentV; rw [hk]
  rw [hk] at e1
  obtain ⟨b, hbv⟩ : ∃ b, bentV n m = b := ⟨_, rfl⟩
  rw [hbv] at hb e7
  have e5 : Int.tmod (k : Int) ((m + 1 : Nat) : Int) = (b : Int) := by rw [e7]; rfl
  have e8 : ((m + 1 : Nat) : Int) ≠ 0 := by omega
  have e6 : IntKind.i64.wrap (b : Int) = (b : Int) := by rw [IntKind.wrap_i64]; omega
  have e9 : IntKind.u64.wrap (b : Int) = (b : Int) := by rw [IntKind.wrap_u64]; omega
  rw [hbv]
  have e10 : wrap64 ((k : Int) % ((m : Int) + 1)) = (b : Int) := by
    have : (k : Int) % ((m : Int) + 1) = (b : Int) := by rw [e7]; rfl
    rw [this]; unfold wrap64; omega
  clear hbv hk e7
  go_enter Try.func10, Try.ntmps10
  go_wp2
  go_ret
  exact ⟨rfl, rfl⟩
theorem ba_take (s : ByteArray) (n : Nat) : s.extract 0 n = ⟨(s.data.toList.take n).toArray⟩ := by
  apply ByteArray.ext
  apply Array.ext'
  simp [ByteArray.data_extract, Array.toList_extract, List.extract]
set_option maxRecDepth 100000 in
/-- short. -/
theorem short_any (w : World) (s : ByteArray) (n : Nat) (hn : n ≤ 4611686018427387904) :
    Calls Try.prog 12 #[.string s, .int .i64 (n : Int)] w fun e w' => e = .returned (.string ⟨(s.data.toList.take n).toArray⟩) ∧ w' = w := by
  by_cases h : n < s.size
  · have h1 : (n : Int) < (s.size : Int) := by omega
    have h2 : (0 : Int) ≤ (n : Int) := by omega
    have h3 : (n : Int) ≤ (s.size : Int) := by omega
    go_enter Try.func12, Try.ntmps12
    go_wp2
    go_ret
    exact ⟨congrArg (fun x => Ending.returned (.string x)) (ba_take s n), rfl⟩
  · have h1 : ¬ (n : Int) < (s.size : Int) := by omega
    have he : s = ⟨(s.data.toList.take n).toArray⟩ := by
      rw [List.take_of_length_le (by rw [size_list]; omega), Array.toArray_toList]
    rw [← he]; clear he
    go_enter Try.func12, Try.ntmps12
    go_wp2
    go_ret
    exact ⟨rfl, rfl⟩
end Go.Proofs.Ytmhedhhbdpdafaa
