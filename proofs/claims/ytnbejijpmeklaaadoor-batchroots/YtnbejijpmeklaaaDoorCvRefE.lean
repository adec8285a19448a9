/-
  Walks of the reference's Rest, and of the laws' few, lent, kept. Own work.
-/
import Derived.Test.YtnbejijpmeklaaaDoorCvRefD
namespace Go.Proofs.YtnbejijpmeklaaaDoor.Cv
open Pl
open Go.RowKit
attribute [local go_sem ↓] Go.wp_at_zero Go.wp_at_succ
theorem rrest_big (n : Nat) (w : World) (ao : Option Addr) (m cap : Nat) (h : 2 ^ 40 < n) :
    Calls Tryd.prog 43 #[.int .u64 (n : Int), .slice ao m cap] w fun x w' => ∃ v, x = .returned (.tuple #[v, .int .i64 30]) ∧ OwnB w' w.heap.size v [] ∧ Below w.heap.size w w' := by
  have ht : decide ((1099511627776 : Int) < (n : Int)) = true := decide_eq_true (by omega)
  clear h
  go_enter Tryd.func43, Tryd.ntmps43
  go_wp2
  go_ret2
  exact ⟨_, rfl, World.ownsRow_nil _ _ _ _, Below.refl _ _⟩
theorem rrest_err (n e : Nat) (w : World) (ao : Option Addr) (b off m cap : Nat) (l : List Nat) (r : Rd w ao b off m l) (hm : m ≤ maxLen) (h : ¬ 2 ^ 40 < n) (he : errT n l = e) (h0 : e ≠ 0) :
    Calls Tryd.prog 43 #[.int .u64 (n : Int), .slice ao m cap] w fun x w' => ∃ v, x = .returned (.tuple #[v, .int .i64 (e : Int)]) ∧ OwnB w' w.heap.size v [] ∧ Below w.heap.size w w' := by
  have ht : decide ((1099511627776 : Int) < (n : Int)) = false := decide_eq_false (by omega)
  have HC := rset_any n w ao b off m cap l r hm
  rw [he] at HC
  have h0' : ¬ (e : Int) = 0 := by omega
  clear he r hm h
  go_enter Tryd.func43, Tryd.ntmps43
  go_wp2_with (go_at_call 64; with_reducible refine HC.mono ?_; rintro x w1 ⟨rfl, hb⟩)
  go_ret2
  exact ⟨_, rfl, World.ownsRow_nil _ _ _ _, hb⟩
set_option maxHeartbeats 1000000 in
theorem rrest_ok (n : Nat) (w : World) (ao : Option Addr) (b off m cap : Nat) (l : List Nat) (r : Rd w ao b off m l) (hm : m ≤ 5000) (he : errS n l = 0) :
    Calls Tryd.prog 43 #[.int .u64 (n : Int), .slice ao m cap] w fun x w' => ∃ v, x = .returned (.tuple #[v, .int .i64 0]) ∧ OwnB w' w.heap.size v (zl (rst 0 n l)) ∧ Below w.heap.size w w' := by
  obtain ⟨hn, _, _, hch⟩ := errS_ok he
  have ht : decide ((1099511627776 : Int) < (n : Int)) = false := decide_eq_false (by omega)
  rw [errS_T (by omega)] at he
  have HC := rset_any n w ao b off m cap l r (by unfold maxLen; omega)
  rw [he] at HC
  have HM := fun w' => rmounts_any n w' hn
  have hrow := cov_row 0 n (Nat.zero_le _) hn
  rw [cov_zero n hn] at hrow
  have hlen := rst_len n hn l 0 hch
  rw [rest_ref n l hn hch] at hlen ⊢
  have HQ : Hid ((∀ b ∈ dnL 41 0 n, b.1 ≤ 40 ∧ b.2 < pw (40 - b.1)) ∧ ((dnL 41 0 n).flatMap (fun b => tno b.1 b.2 l)).length ≤ 80 * (m + 1) ∧ (dnL 41 0 n).length ≤ 41 ∧ Rd w ao b off m l ∧ m ≤ 5000) := ⟨row_mem hrow, by rw [r.len] at hlen; exact hlen, dn_len 41 0 n, r, hm⟩
  clear hn hch hrow hlen r hm he
  generalize dnL 41 0 n = M at *
  go_enter Tryd.func43, Tryd.ntmps43
  go_upto_region 8 with (first
    | (go_at_call 64; with_reducible refine HC.mono ?_; rintro x w0 ⟨rfl, hb0⟩)
    | (go_at_call 65; with_reducible refine (HM _).mono ?_; rintro e w1 ⟨v1, rfl, o1, hb1⟩))
  obtain ⟨ao9, g, M9, cap9, rfl, r9, _⟩ := own_rdB o1
  have HR : Hid (RdB w1 ao9 g M9 (zl M) ∧ M.length = M9 ∧ Below w.heap.size w w1) := ⟨r9, by have := r9.len; rwa [zl_len] at this, bnext hb0 hb1⟩
  clear r9 o1 hb1 hb0 HM HC
  go_wp2
  go_loopg [7, 9] M9 (fun gg v i wr => ∃ k : Nat, k ≤ M9 ∧ gg = M9 - k ∧ i = .int .i64 (k : Int) ∧ OwnB wr w1.heap.size v (zl ((M.take k).flatMap (fun b => tno b.1 b.2 l))) ∧ Below w1.heap.size w1 wr)
  case atStart =>
    go_light
    exact ⟨0, Nat.zero_le _, rfl, rfl, World.ownsRow_nil _ _ _ _, Below.refl _ _⟩
  case round =>
    obtain ⟨k, hk, rfl, rfl, hown, hb⟩ := hrel
    obtain ⟨s1, s2, s3⟩ := HR.out
    obtain ⟨g1, g2, g3, g4, g5⟩ := HQ.out
    have hk0 : (0 : Int) ≤ (k : Int) := Int.natCast_nonneg _
    have hk41 : (k : Int) ≤ 41 := by omega
    by_cases hlt : k < M9
    · have hlt' : (k : Int) < (M9 : Int) := by omega
      have r' := s1.below hb
      obtain rfl := r'.addr (by omega)
      have hc := r'.cell k hlt
      rw [zl_getD] at hc
      have htk := take_flat (t := fun b => tno b.1 b.2 l) M k (by omega)
      have hl1 := take_flat_len (t := fun b => tno b.1 b.2 l) M (k + 1)
      have hmem := g1 (M.getD k (0, 0)) (by rw [List.getD_eq_getElem?_getD, List.getElem?_eq_getElem (by omega)]; exact List.getElem_mem _)
      obtain ⟨⟨h, q⟩, hx⟩ : ∃ x, M.getD k (0, 0) = x := ⟨_, rfl⟩
      rw [hx] at hc hmem htk
      obtain ⟨c1, c2⟩ := hc
      dsimp only at c1 c2 hmem htk
      have HW := rwithout_any h q l hmem.1 hmem.2 wr ao b off m cap ((g4.below s3).below hb) g5
      rw [htk, List.length_append] at hl1
      generalize (M.take k).flatMap (fun b => tno b.1 b.2 l) = P at *
      generalize tno h q l = R at *
      have HX : Hid ((M.take (k + 1)).flatMap (fun b => tno b.1 b.2 l) = P ++ R ∧ Below w1.heap.size w1 wr ∧ P.length + R.length ≤ 500000 ∧ k + 1 ≤ M9) := ⟨htk, hb, by omega, hlt⟩
      clear htk hl1 hmem hx r' s1 s2 s3 g1 g2 g3 g4 g5 hlt hk hb
      go_wp2_with (first
        | (go_at_call 66; with_reducible refine HW.mono ?_; rintro e w2 ⟨v2, rfl, o2, hb2⟩)
        | (at_builtin; refine wpList_append_B _ rfl _ _ rfl w1.heap.size _ (zl P) rfl (ownB_next hown hb2) _ (zl R) rfl (rdc_own o2) ?c1 ?c2 ?_))
      case c1 => have := HX.out.2.2.1; rw [zl_len, zl_len]; omega
      case c2 => have := (bnext HX.out.2.1 hb2).size; exact this
      intro v' w3 r1 r2 _
      have hb12 := bnext HX.out.2.1 hb2
      have RR := ownB_step0 hb12 hb12.size (ownB_next hown hb2) r2
      clear r2 hown o2 hb2 hb12 HW
      go_wp2
      go_roundg (M9 - (k + 1))
      case rel =>
        go_light
        refine ⟨k + 1, HX.out.2.2.2, rfl, by go_num, ?_, RR.1⟩
        rw [HX.out.1, zl_app]; exact r1
      case measure => go_light; have := HX.out.2.2.2; omega
    · obtain rfl : k = M9 := by omega
      have hlt' : ¬ (k : Int) < (k : Int) := by omega
      rw [List.take_of_length_le (by omega)] at hown
      obtain ⟨ao8, m8, c8, rfl⟩ := own_slice hown
      have HF : Hid (OwnB wr w.heap.size (.slice ao8 m8 c8) (zl (M.flatMap (fun b => tno b.1 b.2 l))) ∧ Below w.heap.size w wr) := ⟨hown.mono s3.size, bnext s3 hb⟩
      clear s1 s2 s3 g1 g2 g3 g4 g5 hlt hk hb hown HR HQ
      go_wp2
      go_ret2
      exact ⟨_, rfl, HF.out⟩
theorem rrest_any (n : Nat) (w : World) (ao : Option Addr) (b off m cap : Nat) (l : List Nat) (r : Rd w ao b off m l) (hm : m ≤ 5000) :
    Calls Tryd.prog 43 #[.int .u64 (n : Int), .slice ao m cap] w fun x w' => ∃ v, x = .returned (.tuple #[v, .int .i64 (errS n l : Nat)]) ∧ OwnB w' w.heap.size v (zl (rstS n l)) ∧ Below w.heap.size w w' := by
  by_cases h : errS n l = 0
  · rw [rstS, if_pos h, h]; exact rrest_ok n w ao b off m cap l r hm h
  · rw [rstS, if_neg h]
    by_cases h1 : 2 ^ 40 < n
    · have e : errS n l = 30 := by rw [errS, if_pos h1]
      rw [e]; exact rrest_big n w ao m cap h1
    · exact rrest_err n _ w ao b off m cap l r (by unfold maxLen; omega) h1 (errS_T h1).symm h
theorem getD_take (l : List Nat) (j k : Nat) (h : j < k) : (l.take k).getD j 0 = l.getD j 0 := by
  simp [List.getD_eq_getElem?_getD, h]
theorem Rd.take {w : World} {ao : Option Addr} {b off n : Nat} {l : List Nat} (r : Rd w ao b off n l) (k : Nat) (hk : k ≤ n) : Rd w ao b off k (l.take k) :=
  ⟨by rw [List.length_take, r.len]; omega, fun h => r.addr (by omega), fun j hj => by rw [getD_take l j k hj]; exact r.cell j (by omega)⟩
theorem rd_rdc {w : World} {ao : Option Addr} {b off n cap : Nat} {l : List Nat} (r : Rd w ao b off n l) (hn : ao = none → cap = 0) : RdC w (.slice ao n cap) l.length (cU l) := by
  refine ⟨ao, cap, by rw [r.len], fun h => ⟨?_, hn h⟩, fun ad ha j c hj => ?_⟩
  · by_cases h0 : 0 < n
    · have := r.addr h0; rw [h] at this; cases this
    · rw [r.len]; omega
  · have hjl : j < l.length := by have := (List.getElem?_eq_some_iff.1 hj).1; simpa [cU] using this
    have hj2 := r.cell j (by rw [← r.len]; exact hjl)
    have := r.addr (by rw [← r.len]; omega)
    rw [this] at ha
    cases ha
    rw [Addr.add_mid, hj2, ← hj]
    simp [cU, List.getD_eq_getElem?_getD, List.getElem?_eq_getElem hjl]
end Go.Proofs.YtnbejijpmeklaaaDoor.Cv
