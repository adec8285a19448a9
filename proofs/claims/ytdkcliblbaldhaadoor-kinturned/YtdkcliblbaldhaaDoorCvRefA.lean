/-
  Walks of the reference: span, mountains, within, Mountains, Range. Own work.
-/
import Derived.Test.YtdkcliblbaldhaaDoorCvSpec2
namespace Go.Proofs.YtdkcliblbaldhaaDoor.Cv
open Pl
open Go.RowKit
attribute [local go_sem ↓] Go.wp_at_zero Go.wp_at_succ
/-- Blocks appended to blocks, many. -/
theorem wpList_append_M (w : World) {ops : Array Oper} {rest : List Oper} {o : Oper} {a : Act} {Q : Exit → Act → World → Prop}
    (hg : o.guard = none) (s x : Operand) (hop : o.op = Op.call { callee := Callee.builtin Builtin.append, args := #[s, x], argTypes := #[42, 42] })
    (B : Nat) (v : Value) (L : List (Int × Nat)) (hs : a.eval s = v) (hown : OwnB w B v L) (u : Value) (M : List (Int × Nat)) (hx : a.eval x = u) (hr : RdC w u M.length (cB M))
    (hlen : L.length + M.length ≤ 2199023255552) (hB : B ≤ w.heap.size)
    (hK : ∀ v' w', OwnB w' B v' (L ++ M) → w.grownBy w' v.ownBlock → wpList Tryd.prog ops Q rest (a.put o.dst v') w') : wpList Tryd.prog ops Q (o :: rest) a w := by
  obtain ⟨i0, hi, hz0, hz1, hz2⟩ := info_parts Tryd.infoB
  refine wpList_append_ap w hg s x _ hop B 82 i0 (.agg #[.int .i64 0, .int .u64 0]) 2 16 Tryd.underlying42 hi hz0 hz1 hz2 rfl (by decide) v L.length (cB L) hs hown u M.length (cB M) hx hr (cB_len M) (cB_one M) (by unfold maxLen; omega) (by omega) hB ?_
  intro v' w' h
  refine hK v' w' ?_ h.grown
  rw [OwnB, cB_app, List.length_append]
  exact h.own
/-- A block in two cells. -/
structure Two (w : World) (g : Nat) (h : Int) (k : Nat) : Prop where
  c0 : w.cell? ⟨g, 0, none⟩ = some (.int .i64 h)
  c1 : w.cell? ⟨g, 1, none⟩ = some (.int .u64 (k : Int))
theorem Two.below {w w' : World} {g k : Nat} {h : Int} (t : Two w g h k) (hb : Below w.heap.size w w') : Two w' g h k :=
  ⟨(hb.cell (p := ⟨g, 0, none⟩) (World.block_lt_of_cell? w _ t.c0)).trans t.c0, (hb.cell (p := ⟨g, 1, none⟩) (World.block_lt_of_cell? w _ t.c1)).trans t.c1⟩
theorem two_new (w : World) (h : Int) (k t : Nat) : Two (w.alloc (.cells #[.int .i64 h, .int .u64 (k : Int)] t)) w.heap.size h k := by
  refine ⟨?_, ?_⟩ <;> simp
theorem rspan_any (h k : Nat) (w : World) (hh : h ≤ 40) (hk : k < pw (40 - h)) :
    Calls Tryd.prog 92 #[bv h k] w fun e w' => e = .returned (.tuple #[.int .u64 (k * pw h : Nat), .int .u64 ((k + 1) * pw h : Nat)]) ∧ Below w.heap.size w w' := by
  have hm := may_mul hh hk
  have hk2 := may_big hk
  have T : Hid (Two (w.alloc (.cells #[.int .i64 (h : Int), .int .u64 (k : Int)] 82)) w.heap.size h k) := two_new w h k 82
  have HM : Hid ((k + 1) * pw h ≤ 2 ^ 40 ∧ h ≤ 40) := ⟨hm, hh⟩
  have ek : IntKind.u64.wrap ((k : Int) + 1) = (k : Int) + 1 := by rw [IntKind.wrap_u64]; omega
  clear hm hk2 hh hk
  go_enter Tryd.func92, Tryd.ntmps92
  go_wp2
  go_loopg [4, 5, 6] h (fun g lo hi i wr => ∃ j x y : Nat, j ≤ h ∧ g = h - j ∧ i = .int .i64 (j : Int) ∧ lo = .int .u64 (x : Int) ∧ hi = .int .u64 (y : Int) ∧ x = k * pw j ∧ y = (k + 1) * pw j ∧ wr = w.alloc (.cells #[.int .i64 (h : Int), .int .u64 (k : Int)] 82))
  case atStart =>
    go_light
    exact ⟨0, k, k + 1, Nat.zero_le _, rfl, rfl, rfl, rfl, by simp [pw], by simp [pw], rfl⟩
  case round =>
    obtain ⟨j, x, y, hj, rfl, rfl, rfl, rfl, hx, hy, rfl⟩ := hrel
    obtain ⟨hm, hh⟩ := HM.out
    obtain ⟨t0, t1⟩ := T.out
    have hj0 : (0 : Int) ≤ (j : Int) := Int.natCast_nonneg _
    have hj1 : (j : Int) ≤ 40 := by omega
    by_cases hlt : j < h
    · have hlt' : (j : Int) < (h : Int) := by omega
      have hb : (k + 1) * pw (j + 1) ≤ (k + 1) * pw h := Nat.mul_le_mul_left _ (pw_le hlt)
      have e1 : k * pw (j + 1) = 2 * x := by rw [hx, mul_half, Nat.mul_assoc]
      have e2 : (k + 1) * pw (j + 1) = 2 * y := by rw [hy, mul_half, Nat.mul_assoc]
      have hxy : x ≤ y := by rw [hx, hy]; exact Nat.mul_le_mul_right _ (by omega)
      have w1 : IntKind.u64.wrap (2 * (x : Int)) = 2 * (x : Int) := by rw [IntKind.wrap_u64]; omega
      have w2 : IntKind.u64.wrap (2 * (y : Int)) = 2 * (y : Int) := by rw [IntKind.wrap_u64]; omega
      have HX : Hid (2 * x = k * pw (j + 1) ∧ 2 * y = (k + 1) * pw (j + 1)) := ⟨e1.symm, e2.symm⟩
      clear hb e1 e2 hxy hx hy hm hh hj
      go_wp2
      go_roundg (h - (j + 1))
      case rel =>
        go_light
        exact ⟨j + 1, 2 * x, 2 * y, by omega, rfl, by go_num, by go_num, by go_num, HX.out.1, HX.out.2, rfl⟩
      case measure => go_light; omega
    · obtain rfl : j = h := by omega
      have hlt' : ¬ (j : Int) < (j : Int) := by omega
      have HX : Hid (x = k * pw j ∧ y = (k + 1) * pw j) := ⟨hx, hy⟩
      clear hx hy hm hh hj hlt
      go_wp2
      go_ret2
      obtain ⟨rfl, rfl⟩ := HX.out
      exact ⟨rfl, bal (Below.refl _ _) _⟩
theorem pw_half (m : Nat) : pw (m + 1) / 2 = pw m := by rw [pw_succ]; omega
set_option maxHeartbeats 1000000 in
theorem rmounts_any (n : Nat) (w : World) (hn : n ≤ 2 ^ 40) :
    Calls Tryd.prog 72 #[.int .u64 (n : Int)] w fun e w' => ∃ v, e = .returned v ∧ OwnB w' w.heap.size v (zl (dnL 41 0 n)) ∧ Below w.heap.size w w' := by
  have HN : Hid (n ≤ 2 ^ 40) := hn
  clear hn
  go_enter Tryd.func72, Tryd.ntmps72
  go_wp2
  go_loopg [3, 4, 5, 6] 41 (fun g v f p h wr => ∃ (m x : Nat) (acc : List (Nat × Nat)), m ≤ 41 ∧ m = g ∧ h = .int .i64 ((m : Int) - 1) ∧ p = .int .u64 ((pw m / 2 : Nat) : Int) ∧ f = .int .u64 (x : Int) ∧ x ≤ n ∧ OwnB wr w.heap.size v (zl acc) ∧ acc ++ dnL m x n = dnL 41 0 n ∧ acc.length + m ≤ 41 ∧ Below w.heap.size w wr)
  case atStart =>
    go_light
    exact ⟨41, 0, [], by decide, rfl, rfl, rfl, rfl, Nat.zero_le _, World.ownsRow_nil _ _ _ _, rfl, by decide, Below.refl _ _⟩
  case round =>
    obtain ⟨m, x, acc, hm, rfl, rfl, rfl, rfl, hx, hown, hacc, hlen, hb⟩ := hrel
    have hn := HN.out
    by_cases hm0 : m = 0
    · subst hm0
      have ht : ¬ (0 : Int) ≤ ((0 : Nat) : Int) - 1 := by omega
      have HF : Hid (OwnB wr w.heap.size u3 (zl (dnL 41 0 n)) ∧ Below w.heap.size w wr) := ⟨by
        rw [← hacc]; simpa [dnL] using hown, hb⟩
      clear hx hown hacc hlen hb hn hm
      go_wp2
      go_ret
      exact ⟨_, rfl, HF.out⟩
    · obtain ⟨i, rfl⟩ : ∃ i, m = i + 1 := ⟨m - 1, by omega⟩
      have ei : (((i + 1 : Nat) : Int) - 1) = (i : Int) := by omega
      rw [ei, pw_half]
      have hi0 : (0 : Int) ≤ (i : Int) := Int.natCast_nonneg _
      have hi1 : (i : Int) ≤ 40 := by omega
      obtain ⟨p, hp⟩ : ∃ p, pw i = p := ⟨_, rfl⟩
      have hp40 : pw i ≤ pw 40 := pw_le (by omega)
      have e40 : pw 40 = 2 ^ 40 := rfl
      have hpp := pw_pos i
      rw [hp] at hp40 hpp ⊢
      obtain ⟨d, hd⟩ : ∃ d, n - x = d := ⟨_, rfl⟩
      have ed : IntKind.u64.wrap ((n : Int) - (x : Int)) = (d : Int) := by rw [IntKind.wrap_u64]; omega
      obtain ⟨p2, hp2⟩ : ∃ p2, p / 2 = p2 := ⟨_, rfl⟩
      have ep : IntKind.u64.wrap ((p : Int) / 2) = (p2 : Int) := by rw [IntKind.wrap_u64]; omega
      have hne : ¬ (p : Int) = 0 := by omega
      have hsz := hb.size
      by_cases hfit : p ≤ d
      · have hfi : (p : Int) ≤ (d : Int) := by omega
        obtain ⟨q, hq⟩ : ∃ q, x / pw i = q := ⟨_, rfl⟩
        have hq2 : x / p = q := by rw [← hp]; exact hq
        have hqx : q ≤ x := by rw [← hq]; exact Nat.div_le_self _ _
        have eq : (x : Int) / (p : Int) = (q : Int) := by rw [← hq2]; rfl
        have eq2 : IntKind.u64.wrap (q : Int) = (q : Int) := by rw [IntKind.wrap_u64]; omega
        have ef : IntKind.u64.wrap ((x : Int) + (p : Int)) = ((x + p : Nat) : Int) := by rw [IntKind.wrap_u64]; omega
        have hu := dn_yes (h := i) (lo := x) (hi := n) (by omega)
        rw [hq, hp] at hu
        have HX : Hid (acc ++ [(i, q)] ++ dnL i (x + p) n = dnL 41 0 n ∧ x + p ≤ n ∧ (acc ++ [(i, q)]).length + i ≤ 41 ∧ Below w.heap.size w wr ∧ w.heap.size ≤ wr.heap.size ∧ acc.length ≤ 41 ∧ pw i / 2 = p2) := by
          refine ⟨?_, by omega, by simp; omega, hb, hsz, by omega, by rw [hp, hp2]⟩
          rw [List.append_assoc, ← hacc, hu]; rfl
        clear hx hacc hlen hb hn hm hm0 hp hd hp2 hq hq2 hqx hu e40 hp40 hpp hsz hfit
        go_wp2_with (at_builtin; refine wpList_append_B _ rfl _ _ rfl w.heap.size _ (zl acc) rfl (hown.alloc _) _ [((i : Int), q)] rfl (rdc_block wr (i : Int) q 82) ?c1 ?c2 ?_)
        case c1 => have := HX.out.2.2.2.2.2.1; rw [zl_len]; simp; omega
        case c2 => have := HX.out.2.2.2.2.1; simp; omega
        intro v' w1 r1 r2 _
        have R := ownB_step HX.out.2.2.2.1 HX.out.2.2.2.2.1 hown r2
        clear r2 hown
        go_wp2
        go_roundg i
        case rel =>
          go_light
          obtain ⟨x1, x2, x3, x4, x5, x6, x7⟩ := HX.out
          refine ⟨i, x + p, acc ++ [(i, q)], by omega, rfl, by go_num, by rw [x7], by go_num, x2, ?_, x1, x3, R.1⟩
          rw [zl_app]; exact r1
        case measure => go_light; omega
      · have hfi : ¬ (p : Int) ≤ (d : Int) := by omega
        have hu := dn_no (h := i) (lo := x) (hi := n) (by omega)
        rw [hu] at hacc
        have HX : Hid (acc ++ dnL i x n = dnL 41 0 n ∧ x ≤ n ∧ acc.length + i ≤ 41 ∧ Below w.heap.size w wr ∧ pw i / 2 = p2) := ⟨hacc, hx, by omega, hb, by rw [hp, hp2]⟩
        clear hx hacc hlen hb hn hm hm0 hp hd hp2 hu e40 hp40 hpp hsz
        go_wp2
        go_roundg i
        case rel =>
          go_light
          obtain ⟨x1, x2, x3, x4, x5⟩ := HX.out
          exact ⟨i, x, acc, by omega, rfl, by go_num, by rw [x5], rfl, x2, hown, x1, x3, x4⟩
        case measure => go_light; omega
end Go.Proofs.YtdkcliblbaldhaaDoor.Cv
