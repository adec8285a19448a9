/-
  Walks of the reference: within, Mountains, Range. Own work.
-/
import Derived.Test.YtdkcliblbaldhaaDoorCvRefA
namespace Go.Proofs.YtdkcliblbaldhaaDoor.Cv
open Pl
open Go.RowKit
attribute [local go_sem ↓] Go.wp_at_zero Go.wp_at_succ
theorem tin_here {lo hi H K : Nat} (h1 : lo ≤ K * pw H) (h2 : (K + 1) * pw H ≤ hi) : tin lo hi H K = [(H, K)] := by
  cases H with
  | zero => rw [tin, if_pos ⟨h1, h2⟩]
  | succ H => rw [tin, if_pos ⟨h1, h2⟩]
theorem tin_out {lo hi H K : Nat} (h : ¬ (lo ≤ K * pw H ∧ (K + 1) * pw H ≤ hi)) (h2 : (K + 1) * pw H ≤ lo ∨ hi ≤ K * pw H) : tin lo hi H K = [] := by
  cases H with
  | zero => rw [tin, if_neg h]
  | succ H => rw [tin, if_neg h, if_pos h2]
theorem tin_two {lo hi H K : Nat} (h : ¬ (lo ≤ K * pw (H + 1) ∧ (K + 1) * pw (H + 1) ≤ hi)) (h2 : ¬ ((K + 1) * pw (H + 1) ≤ lo ∨ hi ≤ K * pw (H + 1))) : tin lo hi (H + 1) K = tin lo hi H (2 * K) ++ tin lo hi H (2 * K + 1) := by
  rw [tin, if_neg h, if_neg h2]
set_option maxHeartbeats 2000000 in
theorem rwithin_zero (lo hi h K : Nat) (w : World) (h0 : h = 0) (hK : K < pw (40 - h)) :
    Calls Tryd.prog 84 #[bv h K, .int .u64 (lo : Int), .int .u64 (hi : Int)] w fun e w' => ∃ v, e = .returned v ∧ OwnB w' w.heap.size v (zl (tin lo hi h K)) ∧ Below w.heap.size w w' := by
  have HS := fun w' => rspan_any h K w' (by omega) hK
  have e0 : pw h = 1 := by rw [h0]; rfl
  obtain ⟨x, hx⟩ : ∃ x, K * pw h = x := ⟨_, rfl⟩
  obtain ⟨y, hy⟩ : ∃ y, (K + 1) * pw h = y := ⟨_, rfl⟩
  rw [hx, hy] at HS
  have hxy : y = x + 1 := by rw [e0] at hx hy; omega
  have T := two_new w (h : Int) K 82
  by_cases c1 : lo ≤ x
  · have c1' : (lo : Int) ≤ (x : Int) := by omega
    by_cases c2 : y ≤ hi
    · have c2' : (y : Int) ≤ (hi : Int) := by omega
      have HT : Hid (tin lo hi h K = [(h, K)]) := tin_here (by rw [hx]; exact c1) (by rw [hy]; exact c2)
      clear hx hy hxy e0 h0 hK
      go_enter Tryd.func84, Tryd.ntmps84
      go_wp2_with (go_at_call 92; with_reducible refine (HS _).mono ?_; rintro e w1 ⟨rfl, hb1⟩; obtain ⟨t0, t1⟩ := T.below hb1)
      go_ret
      rw [HT.out]
      exact ⟨_, rfl, own_lit w1 w.heap.size _ [((h : Int), K)] rfl (by have := hb1.size; simp at this; omega) (by simp), bal (below_new hb1) _⟩
    · have c2' : ¬ (y : Int) ≤ (hi : Int) := by omega
      have c3' : ¬ (y : Int) ≤ (lo : Int) := by omega
      have c4' : (hi : Int) ≤ (x : Int) := by omega
      have c3 : ¬ y ≤ lo := by omega
      have c4 : hi ≤ x := by omega
      have HT : Hid (tin lo hi h K = []) := tin_out (by rw [hx, hy]; omega) (by rw [hx, hy]; omega)
      clear hx hy hxy e0 h0 hK
      go_enter Tryd.func84, Tryd.ntmps84
      go_wp2_with (go_at_call 92; with_reducible refine (HS _).mono ?_; rintro e w1 ⟨rfl, hb1⟩; obtain ⟨t0, t1⟩ := T.below hb1)
      go_ret
      rw [HT.out]
      exact ⟨_, rfl, World.ownsRow_nil _ _ _ _, below_new hb1⟩
  · have c1' : ¬ (lo : Int) ≤ (x : Int) := by omega
    have c3' : (y : Int) ≤ (lo : Int) := by omega
    have c3 : y ≤ lo := by omega
    have HT : Hid (tin lo hi h K = []) := tin_out (by rw [hx, hy]; omega) (by rw [hx, hy]; omega)
    clear hx hy hxy e0 h0 hK
    go_enter Tryd.func84, Tryd.ntmps84
    go_wp2_with (go_at_call 92; with_reducible refine (HS _).mono ?_; rintro e w1 ⟨rfl, hb1⟩; obtain ⟨t0, t1⟩ := T.below hb1)
    go_ret
    rw [HT.out]
    exact ⟨_, rfl, World.ownsRow_nil _ _ _ _, below_new hb1⟩
set_option maxHeartbeats 4000000 in
theorem rwithin_any (lo hi : Nat) : ∀ (H K : Nat) (w : World), H ≤ 40 → K < pw (40 - H) →
    Calls Tryd.prog 84 #[bv H K, .int .u64 (lo : Int), .int .u64 (hi : Int)] w fun e w' => ∃ v, e = .returned v ∧ OwnB w' w.heap.size v (zl (tin lo hi H K)) ∧ Below w.heap.size w w' := by
  intro H
  induction H with
  | zero => intro K w _ hK; exact rwithin_zero lo hi 0 K w rfl hK
  | succ H ih =>
    intro K w hH hK
    have HS := fun w' => rspan_any (H + 1) K w' hH hK
    obtain ⟨x, hx⟩ : ∃ x, K * pw (H + 1) = x := ⟨_, rfl⟩
    obtain ⟨y, hy⟩ : ∃ y, (K + 1) * pw (H + 1) = y := ⟨_, rfl⟩
    have hxy : x < y := by rw [← hx, ← hy]; exact blk_lt _ _
    rw [hx, hy] at HS
    have T := two_new w ((H + 1 : Nat) : Int) K 82
    have hKK := may_two (h := H) (k := K) (by omega) hK
    have hbig := may_big hK
    have I1 := fun w' => ih (2 * K) w' (by omega) (by omega)
    have I2 := fun w' => ih (2 * K + 1) w' (by omega) hKK
    have l1 := tin_len lo hi H (2 * K)
    have l2 := tin_len lo hi H (2 * K + 1)
    have hp40 : pw H ≤ pw 40 := pw_le (by omega)
    have e40 : pw 40 = 2 ^ 40 := rfl
    have HZ : Hid ((zl (tin lo hi H (2 * K))).length + (zl (tin lo hi H (2 * K + 1))).length ≤ 2199023255552) := by
      show _ ≤ _
      rw [zl_len, zl_len]; omega
    have htwo := tin_two (lo := lo) (hi := hi) (H := H) (K := K)
    have hhere := tin_here (lo := lo) (hi := hi) (H := H + 1) (K := K)
    have hout := tin_out (lo := lo) (hi := hi) (H := H + 1) (K := K)
    rw [hx, hy] at htwo hhere hout
    obtain ⟨h, hh⟩ : ∃ h, H + 1 = h := ⟨_, rfl⟩
    rw [hh] at HS T htwo hhere hout ⊢
    obtain ⟨p, hp⟩ : ∃ p, 2 * K = p := ⟨_, rfl⟩
    obtain ⟨q, hq⟩ : ∃ q, p + 1 = q := ⟨_, rfl⟩
    rw [hp] at I1 I2 HZ htwo
    rw [hq] at I2 HZ htwo
    have eh : IntKind.i64.wrap ((h : Int) - 1) = (H : Int) := by rw [IntKind.wrap_i64]; omega
    have ep : IntKind.u64.wrap (2 * (K : Int)) = (p : Int) := by rw [IntKind.wrap_u64]; omega
    have eq : IntKind.u64.wrap ((p : Int) + 1) = (q : Int) := by rw [IntKind.wrap_u64]; omega
    have key : ∀ (b1 b2 b3 b4 : Bool), True := fun _ _ _ _ => trivial
    clear key l1 l2 hp40 e40 hh hp hq hbig hKK hx hy hH hK ih
    by_cases c1 : lo ≤ x
    · have c1' : (lo : Int) ≤ (x : Int) := by omega
      by_cases c2 : y ≤ hi
      · have c2' : (y : Int) ≤ (hi : Int) := by omega
        have HT : Hid (tin lo hi h K = [(h, K)]) := hhere c1 c2
        clear htwo hhere hout hxy I1 I2
        go_enter Tryd.func84, Tryd.ntmps84
        go_wp2_with (go_at_call 92; with_reducible refine (HS _).mono ?_; rintro e w1 ⟨rfl, hb1⟩; obtain ⟨t0, t1⟩ := T.below hb1)
        go_ret
        rw [HT.out]
        exact ⟨_, rfl, own_lit w1 w.heap.size _ [((h : Int), K)] rfl (by have := hb1.size; simp at this; omega) (by simp), bal (below_new hb1) _⟩
      · have c2' : ¬ (y : Int) ≤ (hi : Int) := by omega
        have c3' : ¬ (y : Int) ≤ (lo : Int) := by omega
        have c3 : ¬ y ≤ lo := by omega
        by_cases c4 : hi ≤ x
        · have c4' : (hi : Int) ≤ (x : Int) := by omega
          have HT : Hid (tin lo hi h K = []) := hout (fun h => c2 h.2) (.inr c4)
          clear htwo hhere hout hxy I1 I2
          go_enter Tryd.func84, Tryd.ntmps84
          go_wp2_with (go_at_call 92; with_reducible refine (HS _).mono ?_; rintro e w1 ⟨rfl, hb1⟩; obtain ⟨t0, t1⟩ := T.below hb1)
          go_ret
          rw [HT.out]
          exact ⟨_, rfl, World.ownsRow_nil _ _ _ _, below_new hb1⟩
        · have c4' : ¬ (hi : Int) ≤ (x : Int) := by omega
          have HT : Hid (tin lo hi h K = tin lo hi H p ++ tin lo hi H q) := htwo (fun h => c2 h.2) (fun h => h.elim c3 c4)
          clear htwo hhere hout hxy
          go_enter Tryd.func84, Tryd.ntmps84
          go_upto_region 8 with (first
            | (go_at_call 92; with_reducible refine (HS _).mono ?_; rintro e w1 ⟨rfl, hb1⟩; obtain ⟨t0, t1⟩ := T.below hb1)
            | (go_at_call 84; with_reducible refine (I1 _).mono ?_; rintro e w2 ⟨v2, rfl, o2, hb2⟩; clear t0 t1; obtain ⟨t0, t1⟩ := (T.below hb1).below hb2)
            | (go_at_call 84; with_reducible refine (I2 _).mono ?_; rintro e w3 ⟨v3, rfl, o3, hb3⟩))
          have o23 := (ownB_next o2 hb3).mono (base' := w.heap.size) (by have := hb1.size; simp at this; omega)
          have hb := bnext (bnext (below_new hb1) hb2) hb3
          clear o2 hb1 hb2 hb3 I1 I2 HS t0 t1 T
          go_wp2_with (at_builtin; refine wpList_append_M _ rfl _ _ rfl w.heap.size v2 (zl (tin lo hi H p)) rfl o23 v3 (zl (tin lo hi H q)) rfl (rdc_own o3) HZ.out hb.size ?_)
          intro v' w4 r1 r2
          have R := ownB_step0 hb hb.size o23 r2
          go_wp2
          go_ret
          rw [HT.out, zl_app]
          exact ⟨_, rfl, r1, R.1⟩
    · have c1' : ¬ (lo : Int) ≤ (x : Int) := by omega
      by_cases c3 : y ≤ lo
      · have c3' : (y : Int) ≤ (lo : Int) := by omega
        have HT : Hid (tin lo hi h K = []) := hout (fun h => c1 h.1) (.inl c3)
        clear htwo hhere hout hxy I1 I2
        go_enter Tryd.func84, Tryd.ntmps84
        go_wp2_with (go_at_call 92; with_reducible refine (HS _).mono ?_; rintro e w1 ⟨rfl, hb1⟩; obtain ⟨t0, t1⟩ := T.below hb1)
        go_ret
        rw [HT.out]
        exact ⟨_, rfl, World.ownsRow_nil _ _ _ _, below_new hb1⟩
      · have c3' : ¬ (y : Int) ≤ (lo : Int) := by omega
        by_cases c4 : hi ≤ x
        · have c4' : (hi : Int) ≤ (x : Int) := by omega
          have HT : Hid (tin lo hi h K = []) := hout (fun h => c1 h.1) (.inr c4)
          clear htwo hhere hout hxy I1 I2
          go_enter Tryd.func84, Tryd.ntmps84
          go_wp2_with (go_at_call 92; with_reducible refine (HS _).mono ?_; rintro e w1 ⟨rfl, hb1⟩; obtain ⟨t0, t1⟩ := T.below hb1)
          go_ret
          rw [HT.out]
          exact ⟨_, rfl, World.ownsRow_nil _ _ _ _, below_new hb1⟩
        · have c4' : ¬ (hi : Int) ≤ (x : Int) := by omega
          have HT : Hid (tin lo hi h K = tin lo hi H p ++ tin lo hi H q) := htwo (fun h => c1 h.1) (fun h => h.elim c3 c4)
          clear htwo hhere hout hxy
          go_enter Tryd.func84, Tryd.ntmps84
          go_upto_region 8 with (first
            | (go_at_call 92; with_reducible refine (HS _).mono ?_; rintro e w1 ⟨rfl, hb1⟩; obtain ⟨t0, t1⟩ := T.below hb1)
            | (go_at_call 84; with_reducible refine (I1 _).mono ?_; rintro e w2 ⟨v2, rfl, o2, hb2⟩; clear t0 t1; obtain ⟨t0, t1⟩ := (T.below hb1).below hb2)
            | (go_at_call 84; with_reducible refine (I2 _).mono ?_; rintro e w3 ⟨v3, rfl, o3, hb3⟩))
          have o23 := (ownB_next o2 hb3).mono (base' := w.heap.size) (by have := hb1.size; simp at this; omega)
          have hb := bnext (bnext (below_new hb1) hb2) hb3
          clear o2 hb1 hb2 hb3 I1 I2 HS t0 t1 T
          go_wp2_with (at_builtin; refine wpList_append_M _ rfl _ _ rfl w.heap.size v2 (zl (tin lo hi H p)) rfl o23 v3 (zl (tin lo hi H q)) rfl (rdc_own o3) HZ.out hb.size ?_)
          intro v' w4 r1 r2
          have R := ownB_step0 hb hb.size o23 r2
          go_wp2
          go_ret
          rw [HT.out, zl_app]
          exact ⟨_, rfl, r1, R.1⟩
end Go.Proofs.YtdkcliblbaldhaaDoor.Cv
