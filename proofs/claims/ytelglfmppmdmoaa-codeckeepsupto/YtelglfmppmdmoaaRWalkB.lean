/-
  Walks of the reference of codec: Mountains. Own work.
-/
import Derived.Test.YtelglfmppmdmoaaRWalkA
namespace Go.Proofs.Ytelglfmppmdmoaa.Cv
open Pl
open Go.RowKit
attribute [local go_sem ↓] Go.wp_at_zero Go.wp_at_succ
set_option maxRecDepth 100000 in
set_option maxHeartbeats 1000000 in
theorem rmounts_any (n : Nat) (w : World) (hn : n ≤ 2 ^ 40) :
    Calls Try.prog 35 #[.int .u64 (n : Int)] w fun e w' => ∃ v, e = .returned v ∧ OwnB w' w.heap.size v (zl (dnL 41 0 n)) ∧ Below w.heap.size w w' := by
  have HN : Hid (n ≤ 2 ^ 40) := hn
  clear hn
  go_enter Try.func35, Try.ntmps35
  go_wp2
  go_loopg [3, 4, 5] 41 (fun g v f h wr => ∃ (m x : Nat) (acc : List (Nat × Nat)), m ≤ 41 ∧ m = g ∧ h = .int .i64 ((m : Int) - 1) ∧ f = .int .u64 (x : Int) ∧ x ≤ n ∧ OwnB wr w.heap.size v (zl acc) ∧ acc ++ dnL m x n = dnL 41 0 n ∧ acc.length + m ≤ 41 ∧ Below w.heap.size w wr)
  case atStart =>
    go_light
    exact ⟨41, 0, [], by decide, rfl, rfl, rfl, Nat.zero_le _, World.ownsRow_nil _ _ _ _, rfl, by decide, Below.refl _ _⟩
  case round =>
    obtain ⟨m, x, acc, hm, rfl, rfl, rfl, hx, hown, hacc, hlen, hb⟩ := hrel
    have hn := HN.out
    by_cases hm0 : m = 0
    · subst hm0
      have ht : ¬ (0 : Int) ≤ ((0 : Nat) : Int) - 1 := by omega
      have HF : Hid (OwnB wr w.heap.size u3 (zl (dnL 41 0 n)) ∧ Below w.heap.size w wr) := ⟨by
        rw [← hacc]; simpa [dnL] using hown, hb⟩
      clear hx hown hacc hlen hb hn hm
      go_wp2
      go_ret
      exact ⟨_, rfl, HF.out⟩
    · obtain ⟨i, rfl⟩ : ∃ i, m = i + 1 := ⟨m - 1, by omega⟩
      have ei : (((i + 1 : Nat) : Int) - 1) = (i : Int) := by omega
      rw [ei]
      have hi0 : (0 : Int) ≤ (i : Int) := Int.natCast_nonneg _
      have hi1 : (i : Int) ≤ 40 := by omega
      obtain ⟨p, hp⟩ : ∃ p, pw i = p := ⟨_, rfl⟩
      have HPw := fun W => pow_any W i (by omega) p hp
      have hp40 : pw i ≤ pw 40 := pw_le (by omega)
      have e40 : pw 40 = 2 ^ 40 := rfl
      have hpp := pw_pos i
      rw [hp] at hp40 hpp
      obtain ⟨d, hd⟩ : ∃ d, n - x = d := ⟨_, rfl⟩
      have ed : IntKind.u64.wrap ((n : Int) - (x : Int)) = (d : Int) := by rw [IntKind.wrap_u64]; omega
      have hne : ¬ (p : Int) = 0 := by omega
      have hsz := hb.size
      by_cases hfit : p ≤ d
      · have hfi : (p : Int) ≤ (d : Int) := by omega
        obtain ⟨q, hq⟩ : ∃ q, x / pw i = q := ⟨_, rfl⟩
        have hq2 : x / p = q := by rw [← hp]; exact hq
        have hqx : q ≤ x := by rw [← hq]; exact Nat.div_le_self _ _
        have eq : (x : Int) / (p : Int) = (q : Int) := by rw [← hq2]; rfl
        have eq2 : IntKind.u64.wrap (q : Int) = (q : Int) := by rw [IntKind.wrap_u64]; omega
        have ef : IntKind.u64.wrap ((x : Int) + (p : Int)) = ((x + p : Nat) : Int) := by rw [IntKind.wrap_u64]; omega
        have hu := dn_yes (h := i) (lo := x) (hi := n) (by omega)
        rw [hq, hp] at hu
        have HX : Hid (acc ++ [(i, q)] ++ dnL i (x + p) n = dnL 41 0 n ∧ x + p ≤ n ∧ (acc ++ [(i, q)]).length + i ≤ 41 ∧ Below w.heap.size w wr ∧ w.heap.size ≤ wr.heap.size ∧ acc.length ≤ 41) := by
          refine ⟨?_, by omega, by simp; omega, hb, hsz, by omega⟩
          rw [List.append_assoc, ← hacc, hu]; rfl
        have HO : Hid (OwnB wr w.heap.size _ (zl acc)) := hown
        clear hx hacc hlen hb hn hm hm0 hp hd hq hq2 hqx hu e40 hp40 hpp hsz hfit hown
        go_wp2_with (first
          | (go_at_call 37; (refine (HPw _).mono ?_); rintro e w' ⟨rfl, rfl⟩)
          | (at_builtin; refine wpList_append_B _ rfl _ _ rfl w.heap.size _ (zl acc) rfl (HO.out.alloc _) _ [((i : Int), q)] rfl (rdc_block _ (i : Int) q 60) ?c1 ?c2 ?_))
        case c1 => have := HX.out.2.2.2.2.2; rw [zl_len]; simp; omega
        case c2 => have := HX.out.2.2.2.2.1; simp; omega
        intro v' w1 r1 r2 _
        have R := ownB_step HX.out.2.2.2.1 HX.out.2.2.2.2.1 HO.out r2
        clear r2
        go_wp2_with (go_at_call 37; (refine (HPw _).mono ?_); rintro e w' ⟨rfl, rfl⟩)
        go_roundg i
        case rel =>
          go_light
          obtain ⟨x1, x2, x3, x4, x5, x6⟩ := HX.out
          refine ⟨i, x + p, acc ++ [(i, q)], by omega, rfl, by go_num, by go_num, x2, ?_, x1, x3, R.1⟩
          rw [zl_app]; exact r1
        case measure => go_light; omega
      · have hfi : ¬ (p : Int) ≤ (d : Int) := by omega
        have hu := dn_no (h := i) (lo := x) (hi := n) (by omega)
        rw [hu] at hacc
        have HX : Hid (acc ++ dnL i x n = dnL 41 0 n ∧ x ≤ n ∧ acc.length + i ≤ 41 ∧ Below w.heap.size w wr) := ⟨hacc, hx, by omega, hb⟩
        clear hx hacc hlen hb hn hm hm0 hp hd hu e40 hp40 hpp hsz
        go_wp2_with (go_at_call 37; (refine (HPw _).mono ?_); rintro e w' ⟨rfl, rfl⟩)
        go_roundg i
        case rel =>
          go_light
          obtain ⟨x1, x2, x3, x4⟩ := HX.out
          exact ⟨i, x, acc, by omega, rfl, by go_num, rfl, x2, hown, x1, x3, x4⟩
        case measure => go_light; omega
end Go.Proofs.Ytelglfmppmdmoaa.Cv
