/-
  Walks of the reference of codec: pow. Own work.
-/
import Derived.Test.YtelglfmppmdmoaaSWalkA
namespace Go.Proofs.Ytelglfmppmdmoaa
open Go.RowKit
attribute [local go_sem ↓] Go.wp_at_zero Go.wp_at_succ
set_option maxRecDepth 100000 in
theorem pow_any (w : World) (h : Nat) (hh : h ≤ 40) (p : Nat) (hp : 2 ^ h = p) :
    Calls Try.prog 37 #[.int .i64 (h : Int)] w fun e w' => e = .returned (.int .u64 (p : Int)) ∧ w = w' := by
  have HP := hide hp
  clear hp
  have h40 : (h : Int) ≤ 40 := by omega
  go_enter Try.func37, Try.ntmps37
  go_wp2
  go_loopg [3, 4] h (fun g n i wr => ∃ j : Nat, j ≤ h ∧ g = h - j ∧ n = .int .u64 ((2 ^ j : Nat) : Int) ∧ i = .int .i64 (j : Int) ∧ w = wr)
  case atStart =>
    go_light
    exact ⟨0, Nat.zero_le _, rfl, rfl, rfl, rfl⟩
  case round =>
    obtain ⟨j, hj, rfl, rfl, rfl, rfl⟩ := hrel
    by_cases hlt : j < h
    · have hz : (j : Int) < (h : Int) := by omega
      obtain ⟨q, hq⟩ : ∃ q, 2 ^ j = q := ⟨_, rfl⟩
      have hb : 2 ^ j ≤ 2 ^ 40 := Nat.pow_le_pow_right (by decide) (by omega)
      rw [hq] at hb ⊢
      have e1 : IntKind.u64.wrap (2 * (q : Int)) = 2 * (q : Int) := by rw [IntKind.wrap_u64]; omega
      have HQ : Hid (2 * (q : Int) = ((2 ^ (j + 1) : Nat) : Int)) := by show _ = _; rw [Nat.pow_succ, hq]; omega
      clear hq hb
      go_wp2
      go_roundg (h - (j + 1))
      case rel =>
        go_light
        exact ⟨j + 1, by omega, rfl, by rw [HQ.out], by go_num, rfl⟩
      case measure => go_light; omega
    · obtain rfl : j = h := by omega
      have hz : ¬ ((j : Int) < (j : Int)) := by omega
      rw [HP.out]
      clear hlt
      go_wp2
      go_ret
      exact ⟨rfl, rfl⟩
open Cv (cU RdC) in
set_option maxRecDepth 100000 in
set_option maxHeartbeats 1000000 in
theorem within_any (w : World) (sa : Option Addr) (sb so sc : Nat) (S : List Nat) (lo hi : Nat) (rs : RdU w sa sb so S.length S) (hS : S.length ≤ 17592186043904) :
    Calls Try.prog 38 #[.slice sa S.length sc, .int .u64 (lo : Int), .int .u64 (hi : Int)] w fun e w' => ∃ v, e = .returned v ∧ Cv.Own w' w.heap.size v (S.filter fun i => decide (lo ≤ i) && decide (i < hi)) ∧ Below w.heap.size w w' := by
  obtain ⟨u0, hu1, hu2, hu3, hu4⟩ := info_parts Cv.Try.infoU
  have HU : Hid (Try.prog.info? 22 = some u0 ∧ u0.zero = some (.int .u64 0) ∧ u0.size = 1 ∧ u0.bytes = 8) := ⟨hu1, hu2, hu3, hu4⟩
  have HS : Hid (∀ F, Below w.heap.size w F → RdU F sa sb so S.length S) := fun F hF => rs.next hF
  have HL : Hid (S.length ≤ 17592186043904) := hS
  have hS1 : (S.length : Int) ≤ 17592186043904 := by omega
  clear rs hS hu1 hu2 hu3 hu4
  go_enter Try.func38, Try.ntmps38
  go_wp2
  go_loopg [7, 8] S.length (fun g l ix wr => ∃ j : Nat, j ≤ S.length ∧ g = S.length - j ∧ ix = .int .i64 (j : Int) ∧ Cv.Own wr w.heap.size l ((S.take j).filter fun i => decide (lo ≤ i) && decide (i < hi)) ∧ Below w.heap.size w wr)
  case atStart =>
    go_light
    exact ⟨0, Nat.zero_le _, rfl, rfl, World.ownsRow_nil _ _ _ _, Below.refl _ _⟩
  case round =>
    obtain ⟨j, hj, rfl, rfl, ho, hb⟩ := hrel
    have hj0 : (0 : Int) ≤ (j : Int) := Int.natCast_nonneg _
    by_cases hlt : j < S.length
    · have hlt' : (j : Int) < (S.length : Int) := by omega
      have R := HS.out _ hb
      obtain rfl := R.ptr (by omega)
      have cj := R.at (j := j) hlt
      have htk := take_next (S := S) (j := j) hlt
      obtain ⟨i, hi'⟩ : ∃ i, S.getD j 0 = i := ⟨_, rfl⟩
      rw [hi'] at cj htk
      by_cases hin : lo ≤ i ∧ i < hi
      · have h1 : (lo : Int) ≤ (i : Int) := by omega
        have h2 : (i : Int) < (hi : Int) := by omega
        have hf : (S.take (j + 1)).filter (fun i => decide (lo ≤ i) && decide (i < hi)) = (S.take j).filter (fun i => decide (lo ≤ i) && decide (i < hi)) ++ [i] := by
          rw [htk, List.filter_append]
          congr 1
          simp [hin.1, hin.2]
        have hlen : ((S.take j).filter fun i => decide (lo ≤ i) && decide (i < hi)).length ≤ j := Nat.le_trans (List.length_filter_le _ _) (by rw [List.length_take]; omega)
        generalize hX : (S.take j).filter (fun i => decide (lo ≤ i) && decide (i < hi)) = X at *
        have HX : Hid ((S.take (j + 1)).filter (fun i => decide (lo ≤ i) && decide (i < hi)) = X ++ [i] ∧ X.length ≤ j ∧ Below w.heap.size w wr) := ⟨hf, hlen, hb⟩
        have HO : Hid (Cv.Own wr w.heap.size _ X) := ho
        clear hf hlen htk hi' hin R hX ho hb
        go_wp2_with (at_builtin; refine Cv.wpList_append_ap _ rfl _ _ _ rfl w.heap.size 22 u0 (.int .u64 0) 1 8 Try.underlying23 HU.out.1 HU.out.2.1 HU.out.2.2.1 HU.out.2.2.2 rfl (by decide) _ X.length (cU X) rfl (HO.out.alloc _) _ 1 (cU [i]) rfl (rdc_num wr i) rfl (Cv.cU_one [i]) ?c1 ?c2 ?c3 ?_)
        case c1 => have := HX.out.2.1; have := HL.out; unfold maxLen; omega
        case c2 => have := HX.out.2.1; have := HL.out; omega
        case c3 => have := HX.out.2.2.size; simp; omega
        intro v2 w2 a2
        have hb2 := (Cv.ownB_step HX.out.2.2 HX.out.2.2.size HO.out a2.grown).1
        have o2 : Cv.Own w2 w.heap.size v2 (X ++ [i]) := by
          have := a2.own
          rw [Cv.Own, List.length_append]
          simpa [cU] using this
        have H2 : Hid (Cv.Own w2 w.heap.size v2 (X ++ [i]) ∧ Below w.heap.size w w2) := ⟨o2, hb2⟩
        clear a2 o2 hb2
        go_wp2
        go_roundg (S.length - (j + 1))
        case rel =>
          go_light
          refine ⟨j + 1, hlt, rfl, by go_num, ?_, H2.out.2⟩
          rw [HX.out.1]; exact H2.out.1
        case measure => go_light; omega
      · have hf : (S.take (j + 1)).filter (fun i => decide (lo ≤ i) && decide (i < hi)) = (S.take j).filter (fun i => decide (lo ≤ i) && decide (i < hi)) := by
          rw [htk, List.filter_append, List.filter_cons_of_neg (by simp; omega), List.filter_nil, List.append_nil]
        have HX := hide hf
        have HB := hide hb
        have HO := hide ho
        clear htk hi' R hf hb ho
        by_cases h1 : lo ≤ i
        · have h1' : (lo : Int) ≤ (i : Int) := by omega
          have h2' : ¬ (i : Int) < (hi : Int) := by omega
          clear hin
          go_wp2
          go_roundg (S.length - (j + 1))
          case rel =>
            go_light
            refine ⟨j + 1, hlt, rfl, by go_num, ?_, HB.out⟩
            rw [HX.out]; exact HO.out
          case measure => go_light; omega
        · have h1' : ¬ (lo : Int) ≤ (i : Int) := by omega
          clear hin
          go_wp2
          go_roundg (S.length - (j + 1))
          case rel =>
            go_light
            refine ⟨j + 1, hlt, rfl, by go_num, ?_, HB.out⟩
            rw [HX.out]; exact HO.out
          case measure => go_light; omega
    · obtain hje : j = S.length := by omega
      have hlt' : ¬ (j : Int) < (S.length : Int) := by omega
      rw [hje, List.take_length] at ho
      obtain ⟨av, mv, cv, rfl⟩ := Cv.own_slice ho
      have HO : Hid (Cv.Own wr w.heap.size (.slice av mv cv) (S.filter fun i => decide (lo ≤ i) && decide (i < hi)) ∧ Below w.heap.size w wr) := ⟨ho, hb⟩
      clear ho hb
      go_wp2
      go_ret
      exact ⟨_, rfl, HO.out.1, HO.out.2⟩
end Go.Proofs.Ytelglfmppmdmoaa
