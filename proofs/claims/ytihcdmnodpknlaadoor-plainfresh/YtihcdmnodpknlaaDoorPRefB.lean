/-
  The reference's walks: Tree. Own work.
-/
import Derived.Test.YtihcdmnodpknlaaDoorPRefA
namespace Go.Proofs.YtihcdmnodpknlaaDoor
open Go.RowKit
attribute [local go_sem ↓] Go.wp_at_zero Go.wp_at_succ
theorem RdS.cut {w : World} {b off len : Nat} {ss : List ByteArray} (h : RdS w (some ⟨b, off, none⟩) b off len ss) (i n : Nat) (hn : i + n ≤ len) : RdS w (some ⟨b, off + i, none⟩) b (off + i) n ((ss.drop i).take n) := by
  refine ⟨by rw [List.length_take, List.length_drop, h.hl]; omega, fun _ => rfl, fun j v hv => ?_, fun s hs => h.sz s (List.mem_of_mem_drop (List.mem_of_mem_take hs))⟩
  rw [List.map_take, List.getElem?_take] at hv
  split at hv
  · rw [List.map_drop, List.getElem?_drop] at hv
    rw [Nat.add_assoc]
    exact h.rng (i + j) v hv
  · cases hv
set_option maxRecDepth 100000 in
set_option maxHeartbeats 1000000 in
theorem rtree_yes (w : World) (ht : Tr w) (k : Int) (ao : Option Addr) (b off len cap : Nat) (L : List ByteArray) (hr : RdS w ao b off len L) (hsz : ∀ s ∈ L, s.size ≤ 140737488351232) (hmx : len ≤ 8796093022208) (hc : len ≤ cap) (h i : Nat) (hh : h ≤ 40) (hi : (i + 1) * 2 ^ h ≤ len) (r : ByteArray) (hq : nd (clk k) L h i = r) :
    Calls Tryd.prog 18 #[.int .i64 k, .slice ao len cap, .agg #[.int .i64 (h : Int), .int .u64 (i : Int)]] w fun e w' => e = .returned (.tuple #[.string r, .bool true]) ∧ Below w.heap.size w w' := by
  obtain ⟨N, hN⟩ : ∃ N, 2 ^ h = N := ⟨_, rfl⟩
  have hN0 : 0 < N := by rw [← hN]; exact Nat.two_pow_pos h
  rw [hN] at hi
  have hi2 : i * N + N ≤ len := by rw [Nat.add_mul, Nat.one_mul] at hi; exact hi
  obtain rfl := hr.ptr (by omega)
  obtain ⟨lo, hlo⟩ : ∃ lo, i * N = lo := ⟨_, rfl⟩
  rw [hlo] at hi2
  have hil : i ≤ lo := by rw [← hlo]; exact Nat.le_mul_of_pos_right i hN0
  have HTr : Hid (∀ W, Below w.heap.size w W → Calls Tryd.prog 30 #[.int .i64 k, .slice (some ⟨b, off + lo, none⟩) N (cap - lo)] W fun e w' => e = .returned (.string r) ∧ Below W.heap.size W w') := fun W hb => by
    refine rtree_any W (ht.next hb) k _ b (off + lo) (cap - lo) h N hh hN ((L.drop lo).take N) ((hr.next hb (Nat.le_refl _)).cut lo N hi2) (fun s hs => hsz s (List.mem_of_mem_drop (List.mem_of_mem_take hs))) r ?_
    show _ = _
    rw [← hlo, ← hN, nd_cut]; exact hq
  obtain ⟨q, hqq⟩ : ∃ q, len / N = q := ⟨_, rfl⟩
  have hq1 : i + 1 ≤ q := by rw [← hqq, Nat.le_div_iff_mul_le hN0]; exact hi
  have hql : q ≤ len := by rw [← hqq]; exact Nat.div_le_self _ _
  obtain ⟨p, rfl⟩ : ∃ p, q = p + 1 := ⟨q - 1, by omega⟩
  have t1 : ¬ ((h : Int) < 0) := by omega
  have t2 : ¬ ((40 : Int) < (h : Int)) := by omega
  have e0 : IntKind.u64.wrap (len : Int) = (len : Int) := wrap_u _ (by omega) (by omega)
  have eq : (len : Int) / (N : Int) = (p : Int) + 1 := by
    have : (len : Int) / (N : Int) = ((len / N : Nat) : Int) := by simp
    rw [this, hqq]; rfl
  have ep : IntKind.u64.wrap (p : Int) = (p : Int) := wrap_u _ (by omega) (by omega)
  have ep1 : IntKind.u64.wrap ((p : Int) + 1) = (p : Int) + 1 := wrap_u _ (by omega) (by omega)
  have t3 : decide (p < i) = false := by simp; omega
  have t4 : decide (len < N) = false := by simp; omega
  have em1 : (i : Int) * (N : Int) = (lo : Int) := by rw [← hlo]; simp
  have em2 : ((i : Int) + 1) * (N : Int) = (lo : Int) + (N : Int) := by rw [Int.add_mul, em1, Int.one_mul]
  have ei : IntKind.u64.wrap ((i : Int) + 1) = (i : Int) + 1 := wrap_u _ (by omega) (by omega)
  have el : IntKind.u64.wrap (lo : Int) = (lo : Int) := wrap_u _ (by omega) (by omega)
  have eh : IntKind.u64.wrap ((lo : Int) + (N : Int)) = (lo : Int) + (N : Int) := wrap_u _ (by omega) (by omega)
  have hN' : ¬ ((N : Int) = 0) := by omega
  have s1 : (lo : Int) ≤ (lo : Int) + (N : Int) := by omega
  have s2 : (lo : Int) + (N : Int) ≤ (cap : Int) := by omega
  have s3 : ¬ (cap = lo) := by omega
  have s4 : lo + N - lo = N := by omega
  have HN : Hid (2 ^ h = N ∧ N ≤ 1099511627776 ∧ h ≤ 40) := ⟨hN, by rw [← hN]; exact Nat.pow_le_pow_right (n := 2) (by decide) hh, hh⟩
  have hb := Below.refl w.heap.size w
  clear hN hN0 hi hi2 hlo hil hqq hq1 hql hq ht hr hsz hmx hc hh
  go_enter Tryd.func18, Tryd.ntmps18
  go_wp2
  go_loopg [8, 9] h (fun gg v i0 wr => ∃ (j M : Nat), j ≤ h ∧ gg = h - j ∧ v = .int .u64 (M : Int) ∧ i0 = .int .i64 (j : Int) ∧ Hid (2 ^ j = M) ∧ w.alloc (.cells #[.int .i64 (h : Int), .int .u64 (i : Int)] 34) = wr)
  case atStart =>
    go_light
    exact ⟨0, 1, Nat.zero_le _, rfl, rfl, rfl, rfl, rfl⟩
  case round =>
    obtain ⟨j, M, hj, rfl, rfl, rfl, HM, rfl⟩ := hrel
    by_cases hlt : j < h
    · have hlt' : (j : Int) < (h : Int) := by omega
      obtain ⟨M2, hM2⟩ : ∃ M2, 2 * M = M2 := ⟨_, rfl⟩
      have e2 : IntKind.u64.wrap (2 * (M : Int)) = (M2 : Int) := by
        have h1 := HM.out
        have h2 := Nat.pow_le_pow_right (n := 2) (by decide) (show j ≤ 40 by have := HN.out.2.2; omega)
        rw [wrap_u _ (by omega) (by omega)]; omega
      have HX : Hid (2 ^ (j + 1) = M2 ∧ j + 1 ≤ h) := ⟨by rw [Nat.pow_succ, HM.out]; omega, hlt⟩
      clear hlt hj HM hM2
      go_wp2
      go_roundg (h - (j + 1))
      case rel =>
        go_light
        exact ⟨j + 1, M2, HX.out.2, rfl, rfl, by go_num, HX.out.1, rfl⟩
      case measure => go_light; have := HX.out.2; omega
    · obtain rfl : j = h := by omega
      obtain rfl : M = N := by rw [← HM.out]; exact HN.out.1
      have hlt' : ¬ ((j : Int) < (j : Int)) := by omega
      clear hj hlt HM
      go_upto_region 9 with (fail)
      go_quiet (fail)
      go_wp2_with (go_at_call 30; with_reducible refine (HTr.out _ (below_drewN (bal hb _) _)).mono ?_; rintro e w2 ⟨rfl, hb2⟩)
      go_ret2
      exact ⟨rfl, bnext (below_drewN (bal hb _) _) hb2⟩
set_option maxRecDepth 100000 in
set_option maxHeartbeats 1000000 in
theorem rtree_no (w : World) (k : Int) (ao : Option Addr) (len cap : Nat) (hmx : len ≤ 8796093022208) (h : Int) (i : Nat) (hno : h < 0 ∨ 40 < h ∨ (0 ≤ h ∧ h ≤ 40 ∧ len < (i + 1) * 2 ^ h.toNat)) :
    Calls Tryd.prog 18 #[.int .i64 k, .slice ao len cap, .agg #[.int .i64 h, .int .u64 (i : Int)]] w fun e w' => e = .returned (.tuple #[.string ⟨#[]⟩, .bool false]) ∧ Below w.heap.size w w' := by
  have hb := Below.refl w.heap.size w
  rcases hno with h1 | h1 | ⟨h1, h2, h3⟩
  · clear hmx
    go_enter Tryd.func18, Tryd.ntmps18
    go_wp2
    go_ret2
    exact ⟨rfl, bal hb _⟩
  · have h0 : ¬ (h < 0) := by omega
    clear hmx
    go_enter Tryd.func18, Tryd.ntmps18
    go_wp2
    go_ret2
    exact ⟨rfl, bal hb _⟩
  · obtain ⟨g, rfl⟩ : ∃ g : Nat, h = (g : Int) := ⟨h.toNat, by omega⟩
    rw [Int.toNat_natCast] at h3
    obtain ⟨N, hN⟩ : ∃ N, 2 ^ g = N := ⟨_, rfl⟩
    have hN0 : 0 < N := by rw [← hN]; exact Nat.two_pow_pos g
    have t1 : ¬ ((g : Int) < 0) := by omega
    have t2 : ¬ ((40 : Int) < (g : Int)) := by omega
    have e0 : IntKind.u64.wrap (len : Int) = (len : Int) := wrap_u _ (by omega) (by omega)
    have HN : Hid (2 ^ g = N ∧ g ≤ 40) := ⟨hN, by omega⟩
    obtain ⟨q, hqq⟩ : ∃ q, len / N = q := ⟨_, rfl⟩
    have hql : q ≤ len := by rw [← hqq]; exact Nat.div_le_self _ _
    have eq : (len : Int) / (N : Int) = (q : Int) := by
      have : (len : Int) / (N : Int) = ((len / N : Nat) : Int) := by simp
      rw [this, hqq]
    have hN' : ¬ ((N : Int) = 0) := by omega
    have hle : ¬ (i < q) := fun hh => by rw [← hqq, ← hN] at hh; have := within.1 hh; omega
    have hor : (len < N) ∨ (¬ (len < N) ∧ 1 ≤ q) := by
      by_cases hc : len < N
      · exact .inl hc
      · refine .inr ⟨hc, ?_⟩
        rw [← hqq, Nat.le_div_iff_mul_le hN0]; omega
    have HQ : Hid (len < N ∨ (¬ (len < N) ∧ 1 ≤ q)) := hor
    have HL : Hid (¬ (i < q) ∧ q ≤ 8796093022208) := ⟨hle, by omega⟩
    clear hor hle hqq hN hN0 hql h1 h2 h3 hmx
    go_enter Tryd.func18, Tryd.ntmps18
    go_wp2
    go_loopg [8, 9] g (fun gg v i0 wr => ∃ (j M : Nat), j ≤ g ∧ gg = g - j ∧ v = .int .u64 (M : Int) ∧ i0 = .int .i64 (j : Int) ∧ Hid (2 ^ j = M) ∧ w.alloc (.cells #[.int .i64 (g : Int), .int .u64 (i : Int)] 34) = wr)
    case atStart =>
      go_light
      exact ⟨0, 1, Nat.zero_le _, rfl, rfl, rfl, rfl, rfl⟩
    case round =>
      obtain ⟨j, M, hj, rfl, rfl, rfl, HM, rfl⟩ := hrel
      by_cases hlt : j < g
      · have hlt' : (j : Int) < (g : Int) := by omega
        obtain ⟨M2, hM2⟩ : ∃ M2, 2 * M = M2 := ⟨_, rfl⟩
        have e2 : IntKind.u64.wrap (2 * (M : Int)) = (M2 : Int) := by
          have h1 := HM.out
          have h2 := Nat.pow_le_pow_right (n := 2) (by decide) (show j ≤ 40 by have := HN.out.2; omega)
          rw [wrap_u _ (by omega) (by omega)]; omega
        have HX : Hid (2 ^ (j + 1) = M2 ∧ j + 1 ≤ g) := ⟨by rw [Nat.pow_succ, HM.out]; omega, hlt⟩
        clear hlt hj HM hM2
        go_wp2
        go_roundg (g - (j + 1))
        case rel =>
          go_light
          exact ⟨j + 1, M2, HX.out.2, rfl, rfl, by go_num, HX.out.1, rfl⟩
        case measure => go_light; have := HX.out.2; omega
      · obtain rfl : j = g := by omega
        obtain rfl : M = N := by rw [← HM.out]; exact HN.out.1
        have hlt' : ¬ ((j : Int) < (j : Int)) := by omega
        clear hj hlt HM
        rcases HQ.out with h5 | ⟨h5, h6⟩
        · have h7 : decide (len < M) = true := by simp; omega
          clear h5
          go_upto_region 9 with (fail)
          go_quiet (fail)
          go_wp2
          go_ret2
          exact ⟨rfl, below_drewN (bal hb _) _⟩
        · obtain ⟨p, rfl⟩ : ∃ p, q = p + 1 := ⟨q - 1, by omega⟩
          have h7 : decide (len < M) = false := by simp; omega
          have h8 : decide (p < i) = true := by have := HL.out.1; simp; omega
          have ep : IntKind.u64.wrap (p : Int) = (p : Int) := wrap_u _ (by omega) (by have := HL.out.2; omega)
          have ep1 : IntKind.u64.wrap ((p : Int) + 1) = (p : Int) + 1 := wrap_u _ (by omega) (by have := HL.out.2; omega)
          have eq' : (len : Int) / (M : Int) = (p : Int) + 1 := eq
          clear h5 h6 eq
          go_upto_region 9 with (fail)
          go_quiet (fail)
          go_wp2
          go_ret2
          exact ⟨rfl, below_drewN (bal hb _) _⟩
end Go.Proofs.YtihcdmnodpknlaaDoor
