/-
  Walks of the reference: Mountains, Range; the walk of CoverSpans. Own work.
-/
import Derived.Test.YtdkcliblbaldhaaDoorCvRefB
namespace Go.Proofs.YtdkcliblbaldhaaDoor.Cv
open Pl
open Go.RowKit
attribute [local go_sem ↓] Go.wp_at_zero Go.wp_at_succ
theorem rMountains_any (n : Nat) (w : World) :
    Calls Tryd.prog 52 #[.int .u64 (n : Int)] w fun x w' => ∃ v, x = .returned (.tuple #[v, .int .i64 (errR 0 n n : Nat)]) ∧ OwnB w' w.heap.size v (zl (covR 0 n n)) ∧ Below w.heap.size w w' := by
  by_cases h : 2 ^ 40 < n
  · have e : errR 0 n n = 30 := by rw [errR, if_pos h]
    have ht : decide ((1099511627776 : Int) < (n : Int)) = true := decide_eq_true (by omega)
    rw [covR, e, if_neg (by decide)]
    clear h e
    go_enter Tryd.func52, Tryd.ntmps52
    go_wp2
    go_ret2
    exact ⟨_, rfl, World.ownsRow_nil _ _ _ _, Below.refl _ _⟩
  · have e : errR 0 n n = 0 := by rw [errR, if_neg h, if_neg (by omega), if_neg (by omega)]
    have ht : decide ((1099511627776 : Int) < (n : Int)) = false := decide_eq_false (by omega)
    have HM := fun w' => rmounts_any n w' (by omega)
    rw [covR, e, if_pos rfl, cov_zero n (by omega)]
    clear h e
    go_enter Tryd.func52, Tryd.ntmps52
    go_wp2_with (go_at_call 72; with_reducible refine (HM _).mono ?_; rintro x w1 ⟨v, rfl, h1, h2⟩)
    go_ret2
    exact ⟨_, rfl, h1, h2⟩
theorem rrange_err (lo hi n e : Nat) (w : World) (he : errR lo hi n = e) (h0 : e ≠ 0) :
    Calls Tryd.prog 71 #[.int .u64 (lo : Int), .int .u64 (hi : Int), .int .u64 (n : Int)] w fun x w' => ∃ v, x = .returned (.tuple #[v, .int .i64 (e : Int)]) ∧ OwnB w' w.heap.size v [] ∧ Below w.heap.size w w' := by
  unfold errR at he
  by_cases h1 : 2 ^ 40 < n
  · rw [if_pos h1] at he
    subst he
    have ht : decide ((1099511627776 : Int) < (n : Int)) = true := decide_eq_true (by omega)
    clear h0 h1
    go_enter Tryd.func71, Tryd.ntmps71
    go_wp2
    go_ret2
    exact ⟨_, rfl, World.ownsRow_nil _ _ _ _, Below.refl _ _⟩
  · rw [if_neg h1] at he
    have ht : decide ((1099511627776 : Int) < (n : Int)) = false := decide_eq_false (by omega)
    by_cases h2 : n < hi
    · rw [if_pos h2] at he
      subst he
      have ht2 : (n : Int) < (hi : Int) := by omega
      clear h0 h1
      go_enter Tryd.func71, Tryd.ntmps71
      go_wp2
      go_ret2
      exact ⟨_, rfl, World.ownsRow_nil _ _ _ _, Below.refl _ _⟩
    · rw [if_neg h2] at he
      have ht2 : ¬ (n : Int) < (hi : Int) := by omega
      by_cases h3 : hi < lo
      · rw [if_pos h3] at he
        subst he
        have ht3 : (hi : Int) < (lo : Int) := by omega
        clear h0 h1
        go_enter Tryd.func71, Tryd.ntmps71
        go_wp2
        go_ret2
        exact ⟨_, rfl, World.ownsRow_nil _ _ _ _, Below.refl _ _⟩
      · rw [if_neg h3] at he
        exact absurd he.symm h0
theorem row_mem {q : Nat} : ∀ {L : List (Nat × Nat)} {p : Nat}, Row q p L → ∀ b ∈ L, b.1 ≤ 40 ∧ b.2 < pw (40 - b.1) := by
  intro L
  induction L with
  | nil => intro p _ b hb; cases hb
  | cons c L ih =>
    intro p h b hb
    rcases List.mem_cons.1 hb with rfl | hb
    · exact ⟨h.2.1, h.2.2.1⟩
    · exact ih h.2.2.2 b hb
theorem take_flat {t : Nat × Nat → List (Nat × Nat)} (M : List (Nat × Nat)) (k : Nat) (h : k < M.length) : (M.take (k + 1)).flatMap t = (M.take k).flatMap t ++ t (M.getD k (0, 0)) := by
  rw [List.take_succ_eq_append_getElem h, List.flatMap_append, List.getD_eq_getElem?_getD, List.getElem?_eq_getElem h]
  simp
theorem take_flat_len {t : Nat × Nat → List (Nat × Nat)} (M : List (Nat × Nat)) (k : Nat) : ((M.take k).flatMap t).length ≤ (M.flatMap t).length := by
  conv => rhs; rw [← List.take_append_drop k M, List.flatMap_append, List.length_append]
  omega
set_option maxHeartbeats 1000000 in
theorem rrange_ok (lo hi n : Nat) (w : World) (hn : n ≤ 2 ^ 40) (hh : hi ≤ n) (hl : lo ≤ hi) :
    Calls Tryd.prog 71 #[.int .u64 (lo : Int), .int .u64 (hi : Int), .int .u64 (n : Int)] w fun x w' => ∃ v, x = .returned (.tuple #[v, .int .i64 0]) ∧ OwnB w' w.heap.size v (zl (cov lo hi)) ∧ Below w.heap.size w w' := by
  have ht : decide ((1099511627776 : Int) < (n : Int)) = false := decide_eq_false (by omega)
  have ht2 : ¬ (n : Int) < (hi : Int) := by omega
  have ht3 : ¬ (hi : Int) < (lo : Int) := by omega
  have ht2' : ¬ n < hi := by omega
  have ht3' : ¬ hi < lo := by omega
  have HM := fun w' => rmounts_any n w' hn
  have hrow := cov_row 0 n (Nat.zero_le _) hn
  rw [cov_zero n hn] at hrow
  have hlen := cov_len lo hi hl (by omega)
  rw [range_ref lo hi n hl hh hn] at hlen ⊢
  have HQ : Hid ((∀ b ∈ dnL 41 0 n, b.1 ≤ 40 ∧ b.2 < pw (40 - b.1)) ∧ ((dnL 41 0 n).flatMap (fun b => tin lo hi b.1 b.2)).length ≤ 80 ∧ (dnL 41 0 n).length ≤ 41) := ⟨row_mem hrow, hlen, dn_len 41 0 n⟩
  clear hn hh hl hrow hlen
  generalize dnL 41 0 n = M at *
  go_enter Tryd.func71, Tryd.ntmps71
  go_upto_region 9 with ((go_at_call 72; with_reducible refine (HM _).mono ?_; rintro e w1 ⟨v1, rfl, o1, hb1⟩))
  obtain ⟨ao, g, m, cap, rfl, r, _⟩ := own_rdB o1
  have HR : Hid (RdB w1 ao g m (zl M) ∧ M.length = m ∧ Below w.heap.size w w1) := ⟨r, by have := r.len; rwa [zl_len] at this, hb1⟩
  clear r o1 hb1 HM
  go_wp2
  go_loopg [8, 10] m (fun gg v i wr => ∃ k : Nat, k ≤ m ∧ gg = m - k ∧ i = .int .i64 (k : Int) ∧ OwnB wr w1.heap.size v (zl ((M.take k).flatMap (fun b => tin lo hi b.1 b.2))) ∧ Below w1.heap.size w1 wr)
  case atStart =>
    go_light
    exact ⟨0, Nat.zero_le _, rfl, rfl, World.ownsRow_nil _ _ _ _, Below.refl _ _⟩
  case round =>
    obtain ⟨k, hk, rfl, rfl, hown, hb⟩ := hrel
    obtain ⟨s1, s2, s3⟩ := HR.out
    obtain ⟨g1, g2, g3⟩ := HQ.out
    have hk0 : (0 : Int) ≤ (k : Int) := Int.natCast_nonneg _
    have hk41 : (k : Int) ≤ 41 := by omega
    by_cases hlt : k < m
    · have hlt' : (k : Int) < (m : Int) := by omega
      have r' := s1.below hb
      obtain rfl := r'.addr (by omega)
      have hc := r'.cell k hlt
      rw [zl_getD] at hc
      have htk := take_flat (t := fun b => tin lo hi b.1 b.2) M k (by omega)
      have hl1 := take_flat_len (t := fun b => tin lo hi b.1 b.2) M (k + 1)
      have hmem := g1 (M.getD k (0, 0)) (by rw [List.getD_eq_getElem?_getD, List.getElem?_eq_getElem (by omega)]; exact List.getElem_mem _)
      obtain ⟨⟨h, q⟩, hx⟩ : ∃ x, M.getD k (0, 0) = x := ⟨_, rfl⟩
      rw [hx] at hc hmem htk
      obtain ⟨c1, c2⟩ := hc
      dsimp only at c1 c2 hmem htk
      have HW := fun w' => rwithin_any lo hi h q w' hmem.1 hmem.2
      rw [htk, List.length_append] at hl1
      generalize (M.take k).flatMap (fun b => tin lo hi b.1 b.2) = P at *
      generalize tin lo hi h q = R at *
      have HX : Hid ((M.take (k + 1)).flatMap (fun b => tin lo hi b.1 b.2) = P ++ R ∧ Below w1.heap.size w1 wr ∧ P.length + R.length ≤ 80 ∧ k + 1 ≤ m) := ⟨htk, hb, by omega, hlt⟩
      clear htk hl1 hmem hx r' s1 s2 s3 g1 g2 g3 hlt hk hb
      go_wp2_with (first
        | (go_at_call 84; with_reducible refine (HW _).mono ?_; rintro e w2 ⟨v2, rfl, o2, hb2⟩)
        | (at_builtin; refine wpList_append_B _ rfl _ _ rfl w1.heap.size _ (zl P) rfl (ownB_next hown hb2) _ (zl R) rfl (rdc_own o2) ?c1 ?c2 ?_))
      case c1 => have := HX.out.2.2.1; rw [zl_len, zl_len]; omega
      case c2 => have := (bnext HX.out.2.1 hb2).size; exact this
      intro v' w3 r1 r2 _
      have hb12 := bnext HX.out.2.1 hb2
      have RR := ownB_step0 hb12 hb12.size (ownB_next hown hb2) r2
      clear r2 hown o2 hb2 hb12 HW
      go_wp2
      go_roundg (m - (k + 1))
      case rel =>
        go_light
        refine ⟨k + 1, HX.out.2.2.2, rfl, by go_num, ?_, RR.1⟩
        rw [HX.out.1, zl_app]; exact r1
      case measure => go_light; have := HX.out.2.2.2; omega
    · obtain rfl : k = m := by omega
      have hlt' : ¬ (k : Int) < (k : Int) := by omega
      rw [List.take_of_length_le (by omega)] at hown
      obtain ⟨ao8, m8, c8, rfl⟩ := own_slice hown
      have HF : Hid (OwnB wr w.heap.size (.slice ao8 m8 c8) (zl (M.flatMap (fun b => tin lo hi b.1 b.2))) ∧ Below w.heap.size w wr) := ⟨hown.mono s3.size, bnext s3 hb⟩
      clear s1 s2 s3 g1 g2 g3 hlt hk hb hown HR HQ
      go_wp2
      go_ret2
      exact ⟨_, rfl, HF.out⟩
theorem rrange_any (lo hi n : Nat) (w : World) :
    Calls Tryd.prog 71 #[.int .u64 (lo : Int), .int .u64 (hi : Int), .int .u64 (n : Int)] w fun x w' => ∃ v, x = .returned (.tuple #[v, .int .i64 (errR lo hi n : Nat)]) ∧ OwnB w' w.heap.size v (zl (covR lo hi n)) ∧ Below w.heap.size w w' := by
  by_cases h : errR lo hi n = 0
  · have h' := h
    unfold errR at h'
    split at h'
    · cases h'
    · split at h'
      · cases h'
      · split at h'
        · cases h'
        · rw [h, covR, if_pos h]
          exact rrange_ok lo hi n w (by omega) (by omega) (by omega)
  · rw [covR, if_neg h]
    exact rrange_err lo hi n _ w rfl h
end Go.Proofs.YtdkcliblbaldhaaDoor.Cv
