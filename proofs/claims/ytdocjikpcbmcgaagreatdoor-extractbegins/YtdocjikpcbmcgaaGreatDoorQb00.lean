/-
  Own work: CvSpec, CvWalkH, JSpec, ESpec, JWalkA, JWalkF.
-/
import Derived.Test.YtdocjikpcbmcgaaGreatDoorQs44
import Derived.Test.YtdocjikpcbmcgaaGreatDoorRows
import Derived.Test.YtdocjikpcbmcgaaGreatDoorProg
import Derived.WalkKit
import Derived.WalkSpells
import Derived.Outline
import Derived.KernelRfl
import Derived.Deep.LoopGhost
import Derived.Deep.DrawnRows
import Derived.Deep.Light
import Derived.Deep.MidRow
import Derived.Deep.Onto
import Derived.Deep.RegionWith
import Derived.BigQuiet
import Derived.Laws.Bits64b
import Derived.Handy
import Derived.ArgAppend
import Derived.Laws.AppendOwnNone
import Derived.WalkMore
import Derived.Deep.OwnRows
import Derived.Laws.IdiomStrings
import Derived.Deep.RegionHeld3
import Derived.Deep.Cut
import Derived.Deep.CutRange
import Derived.Lib.SliceRun
import Derived.Below
import Derived.Lib.LazyBuf
import Derived.Deep.RegionLaw
import Derived.Lib.BufferOwn
import Derived.Maps.Keyed
import Derived.DeepKeys4
import Derived.Lib.AppendZeros
import Derived.Lib.BufferMore
import Derived.BigRegion
namespace Go.Proofs.YtdocjikpcbmcgaaGreatDoor.Cv
open Pl
theorem cov_self (lo : Nat) : cov lo lo = [] := by simp [cov, upL, pw, dnL]
end Go.Proofs.YtdocjikpcbmcgaaGreatDoor.Cv
namespace Go.Proofs.YtdocjikpcbmcgaaGreatDoor.Cv
open Pl
open Go.RowKit
attribute [local go_sem ↓] Go.wp_at_zero Go.wp_at_succ
theorem row_app {q m : Nat} {M : List (Nat × Nat)} (h' : Row q m M) : ∀ {L : List (Nat × Nat)} {p : Nat}, Row m p L → Row q p (L ++ M) := by
  intro L
  induction L with
  | nil => intro p h; obtain rfl : p = m := h; exact h'
  | cons b L ih => intro p h; exact ⟨h.1, h.2.1, h.2.2.1, ih h.2.2.2⟩
end Go.Proofs.YtdocjikpcbmcgaaGreatDoor.Cv
namespace Go.Proofs.YtdocjikpcbmcgaaGreatDoor
open Pl (pw pw_succ pw_pos pw_zero pw_add pw_le)
open Cv (dnL cov cov_zero Row row_app cov_row)
theorem dn_nil (h x : Nat) : dnL h x x = [] := by
  induction h with
  | zero => rfl
  | succ h ih => rw [dnL, if_neg (by have := pw_pos h; omega)]; exact ih
theorem pw_cut {h j : Nat} (hj : h ≤ j) : pw j = pw (j - h) * pw h := by rw [← pw_add]; congr 1; omega
theorem dn_split (h : Nat) : ∀ j lo hi q, h ≤ j → hi - lo < pw j → (hi - lo) / pw h * pw h = q → dnL j lo hi = dnL j lo (lo + q) ++ dnL h (lo + q) hi := by
  intro j
  induction j with
  | zero =>
    intro lo hi q hj _ _
    obtain rfl : h = 0 := by omega
    rfl
  | succ j ih =>
    intro lo hi q hj hl hq
    have hp := pw_pos h
    have hpj := pw_pos j
    by_cases he : h = j + 1
    · subst he
      have : q = 0 := by rw [← hq, Nat.div_eq_of_lt hl, Nat.zero_mul]
      subst this
      show dnL (j + 1) lo hi = dnL (j + 1) lo lo ++ dnL (j + 1) lo hi
      rw [dn_nil, List.nil_append]
    · have hj' : h ≤ j := by omega
      have hc := pw_cut hj'
      have hps := pw_succ j
      rw [dnL, dnL]
      by_cases hf : pw j ≤ hi - lo
      · have hq1 : pw j ≤ q := by
          rw [← hq, hc]
          refine Nat.mul_le_mul_right _ ?_
          rw [Nat.le_div_iff_mul_le hp, ← hc]
          exact hf
        have e2 : (hi - (lo + pw j)) / pw h * pw h = q - pw j := by
          have e3 : hi - lo = (hi - (lo + pw j)) + pw (j - h) * pw h := by rw [← hc]; omega
          rw [e3, Nat.add_mul_div_right _ _ hp, Nat.add_mul, ← hc] at hq
          omega
        have := ih (lo + pw j) hi (q - pw j) hj' (by omega) e2
        rw [show lo + pw j + (q - pw j) = lo + q by omega] at this
        rw [if_pos hf, if_pos (by omega), this, List.cons_append]
      · have hq1 : ¬ pw j ≤ q := by
          have := Nat.div_mul_le_self (hi - lo) (pw h)
          omega
        rw [if_neg hf, if_neg (by omega)]
        exact ih lo hi q hj' (by omega) hq
theorem dn_high (h : Nat) : ∀ j lo hi, hi - lo < pw j → (∃ c, hi - lo = c * pw h) → ∀ b ∈ dnL j lo hi, h ≤ b.1 := by
  intro j
  induction j with
  | zero => intro lo hi _ _ b hb; cases hb
  | succ j ih =>
    intro lo hi hl hc b hb
    obtain ⟨c, hc⟩ := hc
    have hps := pw_succ j
    have hpj := pw_pos j
    rw [dnL] at hb
    split at hb
    · rename_i hf
      have hj : h ≤ j := by
        apply Classical.byContradiction
        intro hlt
        have h1 : pw (j + 1) ≤ pw h := pw_le (by omega)
        have h2 : c = 0 := by
          apply Classical.byContradiction
          intro h0
          have := Nat.mul_le_mul_right (pw h) (show 1 ≤ c by omega)
          omega
        subst h2
        omega
      rcases List.mem_cons.1 hb with rfl | hb
      · exact hj
      · refine ih (lo + pw j) hi (by omega) ⟨c - pw (j - h), ?_⟩ b hb
        rw [Nat.sub_mul, ← pw_cut hj, ← hc]; omega
    · exact ih lo hi (by omega) ⟨c, hc⟩ b hb
theorem h40_of {h k : Nat} (hk : 0 < k) (hl : k * pw h ≤ 2 ^ 40) : h ≤ 40 := Cv.pw40 (Nat.le_trans (by have := Nat.mul_le_mul_right (pw h) hk; rwa [Nat.one_mul] at this) hl)
theorem cov_odd (h K : Nat) (hl : (2 * K + 1) * pw h ≤ 2 ^ 40) : cov 0 ((2 * K + 1) * pw h) = cov 0 (2 * K * pw h) ++ [(h, 2 * K)] := by
  have h40 := h40_of (by omega) hl
  have hp := pw_pos h
  have e1 : (2 * K + 1) * pw h = 2 * K * pw h + pw h := by rw [Nat.add_mul, Nat.one_mul]
  have e2 : 2 * K * pw h = K * pw (h + 1) := (Cv.mul_half K h).symm
  have hps := pw_succ h
  have h41 : pw 41 = 2 ^ 41 := rfl
  rw [cov_zero _ hl, cov_zero _ (by omega), dn_split (h + 1) 41 0 ((2 * K + 1) * pw h) (2 * K * pw h) (by omega) (by omega) ?_]
  · rw [Nat.zero_add]
    congr 1
    rw [dnL, if_pos (by omega), Nat.mul_div_cancel _ hp, ← e1, dn_nil]
  · rw [Nat.sub_zero, e1, e2]
    congr 1
    rw [Nat.add_comm, Nat.add_mul_div_right _ _ (pw_pos _), Nat.div_eq_of_lt (by omega), Nat.zero_add]
theorem cov_even (h K : Nat) (hl : 2 * K * pw h ≤ 2 ^ 40) : ∀ b ∈ cov 0 (2 * K * pw h), h < b.1 := by
  intro b hb
  have h41 : pw 41 = 2 ^ 41 := rfl
  rw [cov_zero _ hl] at hb
  exact dn_high (h + 1) 41 0 _ (by omega) ⟨K, by rw [Nat.sub_zero, Cv.mul_half]⟩ b hb
theorem cov_none : cov 0 0 = [] := Cv.cov_self 0
def kb (m n : Nat) : List (Nat × Nat) := cov 0 m ++ cov m n
theorem kb_row {m n : Nat} (hm : m ≤ n) (hn : n ≤ 2 ^ 40) : Row n 0 (kb m n) := row_app (cov_row m n hm hn) (cov_row 0 m (Nat.zero_le _) (by omega))
theorem kb_len {m n : Nat} (hm : m ≤ n) (hn : n ≤ 2 ^ 40) : (kb m n).length ≤ 120 := by
  have h1 := Cv.cov_forty m (by omega)
  have h2 := Cv.cov_len m n hm hn
  rw [kb, List.length_append]; omega
theorem row_leJ {q : Nat} : ∀ {M : List (Nat × Nat)} {p : Nat}, Row q p M → p ≤ q
  | [], _, h => Nat.le_of_eq h
  | m :: M, p, h => by
    have := row_leJ h.2.2.2
    have h1 := Cv.blk_lt m.1 m.2
    have h2 := h.1
    omega
theorem row_fromJ {q : Nat} : ∀ {M : List (Nat × Nat)} {p : Nat}, Row q p M → ∀ b ∈ M, p ≤ b.2 * pw b.1 ∧ (b.2 + 1) * pw b.1 ≤ q
  | [], _, _, b, hb => by cases hb
  | m :: M, p, h, b, hb => by
    rcases List.mem_cons.1 hb with rfl | hb
    · exact ⟨Nat.le_of_eq h.1, row_leJ h.2.2.2⟩
    · have := row_fromJ h.2.2.2 b hb
      have h1 := Cv.blk_lt m.1 m.2
      have h2 := h.1
      exact ⟨by omega, this.2⟩
theorem row_end {q : Nat} : ∀ {L : List (Nat × Nat)} {p : Nat}, Row q p L → ∀ b ∈ L, ∀ b' ∈ L, (b.2 + 1) * pw b.1 = (b'.2 + 1) * pw b'.1 → b = b'
  | [], _, _, b, hb, _, _, _ => by cases hb
  | c :: L, p, h, b, hb, b', hb', he => by
    have hf := row_fromJ h.2.2.2
    rcases List.mem_cons.1 hb with h1 | h1
    · rcases List.mem_cons.1 hb' with h2 | h2
      · rw [h1, h2]
      · have := hf b' h2
        have := Cv.blk_lt b'.1 b'.2
        rw [h1] at he
        omega
    · rcases List.mem_cons.1 hb' with h2 | h2
      · have := hf b h1
        have := Cv.blk_lt b.1 b.2
        rw [h2] at he
        omega
      · exact row_end h.2.2.2 b h1 b' h2 he
theorem row_ix {q : Nat} : ∀ {L : List (Nat × Nat)} {p : Nat}, Row q p L → ∀ i j, i < L.length → j < L.length → L.getD i (0, 0) = L.getD j (0, 0) → i = j
  | [], _, _, i, _, hi, _, _ => by cases hi
  | c :: L, p, h, i, j, hi, hj, he => by
    have hf := row_fromJ h.2.2.2
    have key : ∀ t, t < L.length → L.getD t (0, 0) ≠ c := fun t ht e => by
      have hm : L.getD t (0, 0) ∈ L := by rw [List.getD_eq_getElem?_getD, List.getElem?_eq_getElem ht]; exact List.getElem_mem ht
      have h1 := hf _ hm
      rw [e] at h1
      have := Cv.blk_lt c.1 c.2
      omega
    rw [List.length_cons] at hi hj
    cases i with
    | zero =>
      cases j with
      | zero => rfl
      | succ j => rw [List.getD_cons_zero, List.getD_cons_succ] at he; exact absurd he.symm (key j (by omega))
    | succ i =>
      cases j with
      | zero => rw [List.getD_cons_zero, List.getD_cons_succ] at he; exact absurd he (key i (by omega))
      | succ j =>
        rw [List.getD_cons_succ, List.getD_cons_succ] at he
        rw [row_ix h.2.2.2 i j (by omega) (by omega) he]
def dgK (c : Nat) (L : List (Nat × Nat)) (D : List ByteArray) : Nat → Nat → ByteArray
  | 0, k => if (0, k) ∈ L then D.getD (L.idxOf (0, k)) ⟨#[]⟩ else ⟨#[]⟩
  | h + 1, k => if (h + 1, k) ∈ L then D.getD (L.idxOf (h + 1, k)) ⟨#[]⟩ else dg c (nodeT (dgK c L D h (2 * k)) (dgK c L D h (2 * k + 1)))
theorem idx_at {b : Nat × Nat} : ∀ {L : List (Nat × Nat)} {j : Nat}, j < L.length → L.getD j (0, 0) = b → (∀ t, t < j → L.getD t (0, 0) ≠ b) → L.idxOf b = j
  | [], _, hj, _, _ => by cases hj
  | a :: L, 0, _, h, _ => by
    have h : a = b := h
    subst h
    exact List.idxOf_cons_self
  | a :: L, j + 1, hj, h, hn => by
    have h0 : a ≠ b := hn 0 (by omega)
    have h1 : L.idxOf b = j := idx_at (show j < L.length by rw [List.length_cons] at hj; omega) (by rw [List.getD_cons_succ] at h; exact h) (fun t ht => by have := hn (t + 1) (by omega); rwa [List.getD_cons_succ] at this)
    rw [List.idxOf_cons, (beq_false_of_ne h0 : (a == b) = false), cond_false, h1]
theorem dgK_in {c : Nat} {L : List (Nat × Nat)} {D : List ByteArray} {h k j : Nat} (hj : j < L.length) (hb : L.getD j (0, 0) = (h, k)) (hn : ∀ t, t < j → L.getD t (0, 0) ≠ (h, k)) : dgK c L D h k = D.getD j ⟨#[]⟩ := by
  have hm : (h, k) ∈ L := by rw [← hb]; exact mem_getD hj
  have hi := idx_at hj hb hn
  cases h with
  | zero => rw [dgK, if_pos hm, hi]
  | succ h => rw [dgK, if_pos hm, hi]
theorem dgK_at {c q p : Nat} {L : List (Nat × Nat)} {D : List ByteArray} (hr : Row q p L) {j : Nat} (hj : j < L.length) : dgK c L D (L.getD j (0, 0)).1 (L.getD j (0, 0)).2 = D.getD j ⟨#[]⟩ :=
  dgK_in hj rfl fun t ht e => by have := row_ix hr t j (by omega) hj e; omega
theorem dgK_node {c : Nat} {L : List (Nat × Nat)} {D : List ByteArray} {h k : Nat} (hn : (h + 1, k) ∉ L) : dgK c L D (h + 1) k = dg c (nodeT (dgK c L D h (2 * k)) (dgK c L D h (2 * k + 1))) := by rw [dgK, if_neg hn]
theorem dgK_size {c : Nat} (hc : c ≤ 32) {L : List (Nat × Nat)} {D : List ByteArray} (hD : ∀ d ∈ D, d.size ≤ 32) (h k : Nat) : (dgK c L D h k).size ≤ 32 := by
  have hg : ∀ i, (D.getD i ⟨#[]⟩).size ≤ 32 := fun i => by
    by_cases hi : i < D.length
    · rw [List.getD_eq_getElem?_getD, List.getElem?_eq_getElem hi]; exact hD _ (List.getElem_mem hi)
    · rw [List.getD_eq_getElem?_getD, List.getElem?_eq_none (by omega)]; exact Nat.zero_le _
  cases h with
  | zero => rw [dgK]; split; exact hg _; exact Nat.zero_le _
  | succ h => rw [dgK]; split; exact hg _; rw [dg_size hc]; exact hc
structure Jn (c : Nat) (L : List (Nat × Nat)) (D : List ByteArray) (F : Nat → Nat → ByteArray) : Prop where
  at' : ∀ j, j < L.length → F (L.getD j (0, 0)).1 (L.getD j (0, 0)).2 = D.getD j ⟨#[]⟩
  up : ∀ h k, (h + 1, k) ∉ L → F (h + 1) k = dg c (nodeT (F h (2 * k)) (F h (2 * k + 1)))
  sz : ∀ h k, (F h k).size ≤ 32
theorem jn_dgK {c q p : Nat} (hc : c ≤ 32) {L : List (Nat × Nat)} {D : List ByteArray} (hr : Row q p L) (hD : ∀ d ∈ D, d.size ≤ 32) : Jn c L D (dgK c L D) :=
  ⟨fun _ hj => dgK_at hr hj, fun _ _ hn => dgK_node hn, dgK_size hc hD⟩
theorem Jn.join {c q p : Nat} {L : List (Nat × Nat)} {D : List ByteArray} {F : Nat → Nat → ByteArray} (hJ : Jn c L D F) (hr : Row q p L) {h k : Nat} (hb : (h, k) ∈ L) {h' K : Nat} (hh : h ≤ h') (he : (K + 1) * pw (h' + 1) = (k + 1) * pw h) : F (h' + 1) K = dg c (nodeT (F h' (2 * K)) (F h' (2 * K + 1))) :=
  hJ.up h' K fun hm => by
    have := row_end hr _ hm _ hb he
    injection this with h1 _
    omega
end Go.Proofs.YtdocjikpcbmcgaaGreatDoor
namespace Go.Proofs.YtdocjikpcbmcgaaGreatDoor
open Pl (pw pw_succ pw_pos pw_zero)
section
variable (c : Nat) (L : List ByteArray) (M : Nat → Nat → Option Nat) (D : List ByteArray) (V : Nat → ByteArray)
end
section
variable {c : Nat} {L : List ByteArray} {M : Nat → Nat → Option Nat} {D : List ByteArray} {V : Nat → ByteArray}
theorem xd_nd (L' : List ByteArray) : ∀ h k, xd c (fun _ _ => none) D (fun i => L'.getD i ByteArray.empty) h k = nd c L' h k := by
  intro h
  induction h with
  | zero => intro k; rw [xd_leaf rfl]; rfl
  | succ h ih => intro k; rw [xd_node rfl, ih, ih]; rfl
theorem vis_none (n : Nat) : ∀ h k, (k + 1) * 2 ^ h ≤ n → Vis (fun _ _ => none) (fun i => i < n) h k := by
  intro h
  induction h with
  | zero => intro k hk _; rw [Nat.pow_zero, Nat.mul_one] at hk; exact hk
  | succ h ih =>
    intro k hk _
    have e : (k + 1) * 2 ^ (h + 1) = (2 * k + 1 + 1) * 2 ^ h := by rw [Nat.pow_succ, Nat.mul_comm (2 ^ h), ← Nat.mul_assoc]; congr 1; omega
    rw [e] at hk
    refine ⟨ih _ (Nat.le_trans (Nat.mul_le_mul_right _ (by omega)) hk), ih _ hk⟩
end
end Go.Proofs.YtdocjikpcbmcgaaGreatDoor
namespace Go.Proofs.YtdocjikpcbmcgaaGreatDoor
open Go.RowKit
open Cv (RdC zl cU cov)
open Pl (pw)
attribute [local go_sem ↓] Go.wp_at_zero Go.wp_at_succ
def isK (kd k : Int) (old size ns : Nat) : Prop := (kd = 3 ∧ (1 ≤ k ∧ k ≤ 32)) ∧ size ≤ 2 ^ 40 ∧ old ≤ size ∧ ns = 0
instance (kd k : Int) (old size ns : Nat) : Decidable (isK kd k old size ns) := by unfold isK; infer_instance
set_option maxRecDepth 100000 in
theorem isk_core (w : World) (kd k : Int) (old size : Nat) (sa : Option Addr) (ns sc : Nat) (da : Option Addr) (n2 dc : Nat) (r : Bool) (hr : decide (isK kd k old size ns) = r) :
    Calls Tryz.prog 77 #[vP kd k old size (.slice sa ns sc) (.slice da n2 dc)] w fun e w' => e = .returned (.bool r) ∧ Below w.heap.size w w' := by
  have hb := bal (Below.refl w.heap.size w) (oP kd k old size (.slice sa ns sc) (.slice da n2 dc))
  by_cases h1 : kd = 3
  · subst h1
    by_cases h2 : 1 ≤ k ∧ k ≤ 32
    · have HC : Hid (∀ W, Calls Tryz.prog 61 #[.int .i64 k] W fun e w' => e = .returned (.int .i64 0) ∧ W = w') := fun W => by
        have := (check_any W k)
        rw [show chk k = 0 by rw [chk, if_neg (by omega)]] at this
        exact this.mono fun _ _ h => ⟨h.1, h.2.symm⟩
      by_cases h3 : size ≤ 2 ^ 40
      · have z3 : (size : Int) ≤ 1099511627776 := by omega
        by_cases h4 : old ≤ size
        · have z4 : (old : Int) ≤ (size : Int) := by omega
          by_cases h5 : ns = 0
          · subst h5
            obtain rfl : true = r := by rw [← hr]; exact (decide_eq_true ⟨⟨rfl, h2⟩, h3, h4, rfl⟩).symm
            clear hr h2 h3 h4
            unfold vP
            unfold oP at hb
            go_enter Tryz.func77, Tryz.ntmps77
            go_wp2_with (go_at_call 61; with_reducible refine (HC.out _).mono ?_; rintro e w1 ⟨rfl, rfl⟩)
            go_ret
            exact ⟨rfl, hb⟩
          · have hz : ((ns : Int) == 0) = false := beq_false_of_ne (by omega)
            obtain rfl : false = r := by rw [← hr]; exact (decide_eq_false (by rintro ⟨_, _, _, h⟩; exact h5 h)).symm
            clear hr h2 h3 h4 h5
            go_enter Tryz.func77, Tryz.ntmps77
            go_wp2_with (go_at_call 61; with_reducible refine (HC.out _).mono ?_; rintro e w1 ⟨rfl, rfl⟩)
            go_ret
            exact ⟨rfl, hb⟩
        · have z4 : ¬ (old : Int) ≤ (size : Int) := by omega
          obtain rfl : false = r := by rw [← hr]; exact (decide_eq_false (by rintro ⟨_, _, h, _⟩; exact h4 h)).symm
          clear hr h2 h3 h4
          go_enter Tryz.func77, Tryz.ntmps77
          go_wp2_with (go_at_call 61; with_reducible refine (HC.out _).mono ?_; rintro e w1 ⟨rfl, rfl⟩)
          go_ret
          exact ⟨rfl, hb⟩
      · have z3 : ¬ (size : Int) ≤ 1099511627776 := by omega
        obtain rfl : false = r := by rw [← hr]; exact (decide_eq_false (by rintro ⟨_, h, _⟩; exact h3 h)).symm
        clear hr h2 h3
        go_enter Tryz.func77, Tryz.ntmps77
        go_wp2_with (go_at_call 61; with_reducible refine (HC.out _).mono ?_; rintro e w1 ⟨rfl, rfl⟩)
        go_ret
        exact ⟨rfl, hb⟩
    · have HC : Hid (∀ W, Calls Tryz.prog 61 #[.int .i64 k] W fun e w' => e = .returned (.int .i64 70) ∧ W = w') := fun W => by
        have := (check_any W k)
        rw [show chk k = 70 by rw [chk, if_pos (by omega)]] at this
        exact this.mono fun _ _ h => ⟨h.1, h.2.symm⟩
      obtain rfl : false = r := by rw [← hr]; exact (decide_eq_false (by rintro ⟨⟨_, h⟩, _⟩; exact h2 h)).symm
      clear hr h2
      go_enter Tryz.func77, Tryz.ntmps77
      go_wp2_with (go_at_call 61; with_reducible refine (HC.out _).mono ?_; rintro e w1 ⟨rfl, rfl⟩)
      go_ret
      exact ⟨rfl, hb⟩
  · obtain rfl : false = r := by rw [← hr]; exact (decide_eq_false (by rintro ⟨⟨h, _⟩, _⟩; exact h1 h)).symm
    clear hr
    go_enter Tryz.func77, Tryz.ntmps77
    go_wp2
    go_ret
    exact ⟨rfl, hb⟩
set_option maxRecDepth 100000 in
set_option maxHeartbeats 1000000 in
theorem kfilled_core (w : World) (kd k : Int) (old size : Nat) (sa : Option Addr) (ns sc : Nat) (da : Option Addr) (db dO dc : Nat) (D : List ByteArray) (hr : RdS w da db dO D.length D) (hm : D.length ≤ 8796093022208) (ao : Option Addr) (m0 c0 : Nat) (r : Bool) (hq : decide (fil k m0 D) = r) :
    Calls Tryz.prog 79 #[.slice ao m0 c0, vP kd k old size (.slice sa ns sc) (.slice da D.length dc)] w fun e w' => e = .returned (.bool r) ∧ Below w.heap.size w w' := by
  obtain ⟨o1, ho1⟩ : ∃ o1, oP kd k old size (.slice sa ns sc) (.slice da D.length dc) = o1 := ⟨_, rfl⟩
  have hb0 := bal (Below.refl w.heap.size w) o1
  have h6 : Six (w.alloc o1) w.heap.size (.int .i64 kd) (.int .i64 k) (.int .u64 (old : Int)) (.int .u64 (size : Int)) (.slice sa ns sc) (.slice da D.length dc) := by rw [← ho1]; exact six_new w _ _ _ _ _ _
  have HB := hide hb0
  obtain ⟨z0, z1, z2, z3, z4, z5⟩ := h6.cells
  have HR : Hid (∀ W, Below w.heap.size w W → RdS W da db dO D.length D) := fun W hb => hr.next hb (Nat.le_refl _)
  have hm1 : (D.length : Int) ≤ 8796093022208 := by omega
  by_cases hl : D.length = m0
  · subst hl
    have HQ : Hid (decide (∀ d ∈ D, (d.size : Int) = k) = r) := by
      rw [← hq]
      show decide _ = decide _
      simp only [fil, true_and]
    clear hr hq hm hb0 h6
    unfold vP
    go_enter Tryz.func79, Tryz.ntmps79
    go_upto_region 1 with (fail)
    clear ho1
    go_wp2
    go_loopg [16] D.length (fun g i wr => ∃ j : Nat, j ≤ D.length ∧ g = D.length - j ∧ i = .int .i64 (j : Int) ∧ (∀ t, t < j → ((D.getD t ByteArray.empty).size : Int) = k) ∧ w.alloc o1 = wr)
    case atStart =>
      go_light
      exact ⟨0, Nat.zero_le _, rfl, rfl, fun t ht => absurd ht (Nat.not_lt_zero _), rfl⟩
    case round =>
      obtain ⟨j, hj, rfl, rfl, hal, rfl⟩ := hrel
      by_cases hlt : j < D.length
      · have hz : (j : Int) < (D.length : Int) := by omega
        have hz0 : (0 : Int) ≤ (j : Int) := Int.natCast_nonneg _
        have hrd := HR.out _ HB.out
        obtain rfl := hrd.ptr (by omega)
        have cj := hrd.at hlt
        obtain ⟨d, hd⟩ : ∃ d, D.getD j ByteArray.empty = d := ⟨_, rfl⟩
        rw [hd] at cj
        by_cases hk : (d.size : Int) = k
        · have HN : Hid (∀ t, t < j + 1 → ((D.getD t ByteArray.empty).size : Int) = k) := fun t ht => by
            rcases Nat.lt_or_eq_of_le (Nat.le_of_lt_succ ht) with hx | rfl
            · exact hal t hx
            · rw [hd]; exact hk
          clear hd hal hrd
          go_wp2
          go_roundg (D.length - (j + 1))
          case rel =>
            go_light
            exact ⟨j + 1, by omega, rfl, by go_num, HN.out, rfl⟩
          case measure => go_light; omega
        · obtain rfl : false = r := by
            rw [← HQ.out]
            refine (decide_eq_false fun h => hk ?_).symm
            rw [← hd]
            exact h _ (getD_mem hlt)
          clear hd hal hrd
          go_wp2
          go_ret
          exact ⟨rfl, HB.out⟩
      · obtain rfl : j = D.length := by omega
        have hz : ¬ ((D.length : Int) < (D.length : Int)) := by omega
        obtain rfl : true = r := by
          rw [← HQ.out]
          refine (decide_eq_true fun d hd => ?_).symm
          obtain ⟨t, ht, rfl⟩ := List.getElem_of_mem hd
          have := hal t ht
          rwa [List.getD_eq_getElem?_getD, List.getElem?_eq_getElem ht] at this
        clear hal hlt
        go_wp2
        go_ret
        exact ⟨rfl, HB.out⟩
  · have hz : ¬ (D.length : Int) = (m0 : Int) := by omega
    obtain rfl : false = r := by rw [← hq]; exact (decide_eq_false (by rintro ⟨h, _⟩; exact hl h)).symm
    rw [← ho1] at z0 z1 z2 z3 z4 z5 HB
    clear hr hq hm hb0 h6 ho1 hl HR
    go_enter Tryz.func79, Tryz.ntmps79
    go_wp2
    go_ret
    exact ⟨rfl, HB.out⟩
theorem range40 {m n : Nat} (hm : m ≤ n) (hn : n ≤ 2 ^ 40) : Cv.errR m n n = 0 ∧ Cv.covR m n n = cov m n := by
  have : Cv.errR m n n = 0 := by unfold Cv.errR; rw [if_neg (by omega), if_neg (by omega), if_neg (by omega)]
  exact ⟨this, by rw [Cv.covR, if_pos this]⟩
theorem kb_zl (m n : Nat) : zl (cov 0 m) ++ zl (cov m n) = zl (kb m n) := by rw [kb, Cv.zl_app]
set_option maxRecDepth 100000 in
theorem blocksof_any (w : World) (m n : Nat) (hm : m ≤ n) (hn : n ≤ 2 ^ 40) :
    Calls Tryz.prog 78 #[.int .u64 (m : Int), .int .u64 (n : Int)] w fun e w' => ∃ v, e = .returned v ∧ Cv.OwnB w' w.heap.size v (zl (kb m n)) ∧ Below w.heap.size w w' := by
  have HM : Hid (∀ W, Calls Tryz.prog 75 #[.int .u64 (m : Int)] W fun e w' => ∃ ao n1 cap, e = .returned (.tuple #[.slice ao n1 cap, .int .i64 0]) ∧ Cv.OwnB w' W.heap.size (.slice ao n1 cap) (zl (cov 0 m)) ∧ Below W.heap.size W w') := fun W => by
    have h := Cv.mountains_any m W
    rw [(range40 (Nat.zero_le _) (by omega)).1, (range40 (Nat.zero_le _) (by omega)).2] at h
    refine h.mono fun e w' ⟨v, e1, e2, e3⟩ => ?_
    obtain ⟨ao, n1, cap, rfl⟩ := Cv.own_slice e2
    exact ⟨ao, n1, cap, e1, e2, e3⟩
  have HR : Hid (∀ W, Calls Tryz.prog 110 #[.int .u64 (m : Int), .int .u64 (n : Int), .int .u64 (n : Int)] W fun e w' => ∃ ao n1 cap, e = .returned (.tuple #[.slice ao n1 cap, .int .i64 0]) ∧ Cv.OwnB w' W.heap.size (.slice ao n1 cap) (zl (cov m n)) ∧ Below W.heap.size W w') := fun W => by
    have h := Cv.range_any m n n W
    rw [(range40 hm hn).1, (range40 hm hn).2] at h
    refine h.mono fun e w' ⟨v, e1, e2, e3⟩ => ?_
    obtain ⟨ao, n1, cap, rfl⟩ := Cv.own_slice e2
    exact ⟨ao, n1, cap, e1, e2, e3⟩
  have hl := kb_len hm hn
  have HCat : Hid (∀ W v0 v1, Cv.OwnB W w.heap.size v0 (zl (cov 0 m)) → Cv.OwnB W w.heap.size v1 (zl (cov m n)) → ∀ t, Calls Tryz.prog 111 #[.slice (some ⟨W.heap.size, 0, none⟩) 2 2] (W.alloc (.cells #[v0, v1] t)) fun e w' => ∃ v, e = .returned v ∧ Cv.OwnB w' W.heap.size v (zl (kb m n)) ∧ Below W.heap.size W w') := fun W v0 v1 o0 o1 t => by
    have hb := bal (Below.refl W.heap.size W) (.cells #[v0, v1] t)
    have hx := heap_alloc_new W (.cells #[v0, v1] t)
    have hc : CatB (W.alloc (.cells #[v0, v1] t)) W.heap.size [v0, v1] [zl (cov 0 m), zl (cov m n)] := by
      refine cat2_B ?_ ?_ (Cv.rdc_keep (Cv.rdc_own o0) hb) (Cv.rdc_keep (Cv.rdc_own o1) hb)
      · rw [cell_of_row _ _ 0 _ _ (0, 0) hx]; rfl
      · rw [cell_of_row _ _ 1 _ _ (0, 0) hx]; rfl
    have hf : [zl (cov 0 m), zl (cov m n)].flatten = zl (kb m n) := by
      simp only [List.flatten_cons, List.flatten_nil, List.append_nil]
      exact kb_zl m n
    refine (concat_B _ _ 2 _ _ hc (by simp) (by rw [hf, Cv.zl_len]; omega) _ hf).mono fun e w' ⟨v, e1, e2, e3⟩ => ⟨v, e1, ?_, bnext hb e3⟩
    exact World.ownsRow.mono e2 (by simp)
  clear hm hn hl
  go_enter Tryz.func78, Tryz.ntmps78
  go_wp2_with (first
    | (go_at_call 75; with_reducible refine (HM.out _).mono ?_; rintro e w1 ⟨a1, n1, c1, rfl, h1, hb1⟩)
    | (go_at_call 110; with_reducible refine (HR.out _).mono ?_; rintro e w2 ⟨a2, n2, c2, rfl, h2, hb2⟩)
    | (go_at_call 111; with_reducible refine (HCat.out w2 _ _ (World.ownsRow.mono (row_nextJ h1 hb2) (Nat.le_refl _)) (World.ownsRow.mono h2 hb1.size) _).mono ?_; rintro e w3 ⟨v, rfl, h3, hb3⟩))
  obtain ⟨a3, n3, c3, rfl⟩ := Cv.own_slice h3
  go_ret
  exact ⟨_, rfl, World.ownsRow.mono h3 (Nat.le_trans hb1.size hb2.size), bnext (bnext hb1 hb2) hb3⟩
end Go.Proofs.YtdocjikpcbmcgaaGreatDoor
namespace Go.Proofs.YtdocjikpcbmcgaaGreatDoor
open Go.RowKit
open Cv (RdC zl cU cov)
open Pl (pw)
attribute [local go_sem ↓] Go.wp_at_zero Go.wp_at_succ
theorem kb_in {m n : Nat} (hm : m ≤ n) (hn : n ≤ 2 ^ 40) : ∀ b ∈ kb m n, (b.2 + 1) * 2 ^ b.1 ≤ n := fun b hb => (row_fromJ (kb_row hm hn) b hb).2
section
variable {w W : World} {g n : Nat} {d : ByteArray}
end
structure K3 (w : World) (s0 : Nat) (kd k : Int) (old size : Nat) (vs vd : Value) (n1 : Nat) (d1 : ByteArray) (n2 : Nat) (d2 : ByteArray) : Prop where
  six : Six w s0 (.int .i64 kd) (.int .i64 k) (.int .u64 (old : Int)) (.int .u64 (size : Int)) vs vd
  r1 : Rh w (s0 + 1) n1 d1
  r2 : Rh w (s0 + 2) n2 d2
section
variable {w W : World} {s0 : Nat} {kd k : Int} {old size : Nat} {vs vd : Value} {n1 n2 : Nat} {d1 d2 : ByteArray}
theorem K3.next (h : K3 w s0 kd k old size vs vd n1 d1 n2 d2) (hb : Below w.heap.size w W) : K3 W s0 kd k old size vs vd n1 d1 n2 d2 := ⟨h.six.next hb, h.r1.next hb, h.r2.next hb⟩
theorem K3.put1 (h : K3 w s0 kd k old size vs vd n1 d1 n2 d2) (n : Nat) (d : ByteArray) : K3 (putR w (s0 + 1) n d) s0 kd k old size vs vd n d n2 d2 := by
  have hc := putR_ch w (s0 + 1) n d
  exact ⟨h.six.same (hc.block s0 (by omega)), h.r1.put n d, h.r2.same (hc.block (s0 + 2) (by omega))⟩
theorem K3.put2 (h : K3 w s0 kd k old size vs vd n1 d1 n2 d2) (n : Nat) (d : ByteArray) : K3 (putR w (s0 + 2) n d) s0 kd k old size vs vd n1 d1 n d := by
  have hc := putR_ch w (s0 + 2) n d
  exact ⟨h.six.same (hc.block s0 (by omega)), h.r1.same (hc.block (s0 + 1) (by omega)), h.r2.put n d⟩
theorem k3_start (w : World) (kd k : Int) (old size : Nat) (vs vd : Value) {W0 : World} (h : ((w.alloc (.cells #[.int .i64 kd, .int .i64 k, .int .u64 (old : Int), .int .u64 (size : Int), vs, vd] 55)).alloc (.cells #[.int .u64 0, .string ⟨#[]⟩] 30)).alloc (.cells #[.int .u64 0, .string ⟨#[]⟩] 30) = W0) :
    K3 W0 w.heap.size kd k old size vs vd 0 ⟨#[]⟩ 0 ⟨#[]⟩ ∧ Below w.heap.size w W0 := by
  subst h
  refine ⟨⟨?_, ?_, ?_⟩, bal (bal (bal (Below.refl _ _) _) _) _⟩
  · exact (six_new w _ _ _ _ _ _).next (bal (bal (Below.refl _ _) _) _)
  · have := rh_new (w.alloc (.cells #[.int .i64 kd, .int .i64 k, .int .u64 (old : Int), .int .u64 (size : Int), vs, vd] 55)) 0 ⟨#[]⟩
    rw [World.size_alloc] at this
    exact this.next (bal (Below.refl _ _) _)
  · have := rh_new ((w.alloc (.cells #[.int .i64 kd, .int .i64 k, .int .u64 (old : Int), .int .u64 (size : Int), vs, vd] 55)).alloc (.cells #[.int .u64 0, .string ⟨#[]⟩] 30)) 0 ⟨#[]⟩
    rw [World.size_alloc, World.size_alloc] at this
    exact this
end
def okK (kd k : Int) (old size ns : Nat) (D : List ByteArray) : Prop := isK kd k old size ns ∧ fil k (kb old size).length D
instance (kd k : Int) (old size ns : Nat) (D : List ByteArray) : Decidable (okK kd k old size ns D) := by unfold okK; infer_instance
set_option maxRecDepth 100000 in
set_option maxHeartbeats 1000000 in
theorem kroots_no (w : World) (kd k : Int) (old size : Nat) (sa : Option Addr) (ns sc : Nat) (da : Option Addr) (db dO dc : Nat) (D : List ByteArray) (hr : RdS w da db dO D.length D) (hm : D.length ≤ 8796093022208) (hno : ¬ okK kd k old size ns D) :
    Calls Tryz.prog 36 #[vP kd k old size (.slice sa ns sc) (.slice da D.length dc)] w fun e w' => e = .returned (.tuple #[noR, noR, .int .i64 150]) ∧ Below w.heap.size w w' := by
  obtain ⟨W0, hW0⟩ : ∃ W0, ((w.alloc (.cells #[.int .i64 kd, .int .i64 k, .int .u64 (old : Int), .int .u64 (size : Int), .slice sa ns sc, .slice da D.length dc] 55)).alloc (.cells #[.int .u64 0, .string ⟨#[]⟩] 30)).alloc (.cells #[.int .u64 0, .string ⟨#[]⟩] 30) = W0 := ⟨_, rfl⟩
  obtain ⟨h3, hb⟩ := k3_start w kd k old size (.slice sa ns sc) (.slice da D.length dc) hW0
  obtain ⟨c0, c1, c2, c3, c4, c5⟩ := h3.six.cells
  have H3 := hide h3
  by_cases h1 : isK kd k old size ns
  · have h2 : ¬ fil k (kb old size).length D := fun h => hno ⟨h1, h⟩
    have HI : Hid (∀ W, Calls Tryz.prog 77 #[vP kd k old size (.slice sa ns sc) (.slice da D.length dc)] W fun e w' => e = .returned (.bool true) ∧ Below W.heap.size W w') := fun W => isk_core W kd k old size sa ns sc da D.length dc true (decide_eq_true h1)
    have HBk : Hid (∀ W, Calls Tryz.prog 78 #[.int .u64 (old : Int), .int .u64 (size : Int)] W fun e w' => ∃ ao cap, e = .returned (.slice ao (kb old size).length cap) ∧ Below W.heap.size W w') := fun W => (blocksof_any W old size h1.2.2.1 h1.2.1).mono fun e w' ⟨v, e1, e2, e3⟩ => by
      obtain ⟨ao, n', cap, rfl⟩ := Cv.own_slice e2
      rcases e2.2 with ⟨q1, q2⟩ | ⟨_, _, _, q1, _⟩
      · obtain ⟨rfl, rfl, rfl⟩ := Value.slice.inj q1
        rw [Cv.zl_len] at q2
        rw [q2]
        exact ⟨_, _, e1, e3⟩
      · obtain ⟨rfl, rfl, rfl⟩ := Value.slice.inj q1
        rw [Cv.zl_len] at e1
        exact ⟨_, _, e1, e3⟩
    have HF : Hid (∀ W ao c, Below w.heap.size w W → Calls Tryz.prog 79 #[.slice ao (kb old size).length c, vP kd k old size (.slice sa ns sc) (.slice da D.length dc)] W fun e w' => e = .returned (.bool false) ∧ Below W.heap.size W w') := fun W ao c hb => kfilled_core W kd k old size sa ns sc da db dO dc D (hr.next hb (Nat.le_refl _)) hm ao (kb old size).length c false (decide_eq_false h2)
    clear hr hm hno h1 h2 h3
    unfold vP at HI HF
    unfold vP
    go_enter Tryz.func36, Tryz.ntmps36
    go_wp2_with (first
      | (go_at_call 77; with_reducible refine (HI.out _).mono ?_; rintro e w1 ⟨rfl, hb1⟩; obtain ⟨d0, d1, d2, d3, d4, d5⟩ := (H3.out.next hb1).six.cells)
      | (go_at_call 78; with_reducible refine (HBk.out _).mono ?_; rintro e w2 ⟨ao, cap, rfl, hb2⟩; obtain ⟨g0, g1, g2, g3, g4, g5⟩ := (H3.out.next (bnext hb1 hb2)).six.cells)
      | (go_at_call 79; with_reducible refine (HF.out _ _ _ (bnext (bnext hb hb1) hb2)).mono ?_; rintro e w3 ⟨rfl, hb3⟩; have hK := H3.out.next (bnext (bnext hb1 hb2) hb3); obtain ⟨k0, k1⟩ := hK.r1.cells; obtain ⟨k2, k3⟩ := hK.r2.cells; have f0 := hK.r1.fz; have f1 := hK.r2.fz))
    have hK1 := (hK.put1 0 ⟨#[]⟩).put2 0 ⟨#[]⟩
    have hc1 := putR_ch w3 (w.heap.size + 1) 0 ⟨#[]⟩
    have hc2 := putR_ch (putR w3 (w.heap.size + 1) 0 ⟨#[]⟩) (w.heap.size + 2) 0 ⟨#[]⟩
    unfold putR at hK1 hc1 hc2
    rw [show ((0 : Nat) : Int) = 0 from rfl] at hK1 hc1 hc2
    obtain ⟨s0, s1⟩ := hK1.r1.cells
    obtain ⟨s2, s3⟩ := hK1.r2.cells
    refine bodyPost_ret (v := .tuple #[noR, noR, .int .i64 150]) (by simp [results, Tryz.results36, go_sem, s0, s1, s2, s3]) rfl ⟨rfl, ?_⟩
    exact ((bnext (bnext (bnext hb hb1) hb2) hb3).trans (hc1.below (by rintro b rfl; omega))).trans (hc2.below (by rintro b rfl; omega))
  · have HI : Hid (∀ W, Calls Tryz.prog 77 #[vP kd k old size (.slice sa ns sc) (.slice da D.length dc)] W fun e w' => e = .returned (.bool false) ∧ Below W.heap.size W w') := fun W => isk_core W kd k old size sa ns sc da D.length dc false (decide_eq_false h1)
    clear hr hm hno h1 h3
    unfold vP at HI
    unfold vP
    go_enter Tryz.func36, Tryz.ntmps36
    go_wp2_with (go_at_call 77; with_reducible refine (HI.out _).mono ?_; rintro e w3 ⟨rfl, hb3⟩; have hK := H3.out.next hb3; obtain ⟨k0, k1⟩ := hK.r1.cells; obtain ⟨k2, k3⟩ := hK.r2.cells; have f0 := hK.r1.fz; have f1 := hK.r2.fz)
    have hK1 := (hK.put1 0 ⟨#[]⟩).put2 0 ⟨#[]⟩
    have hc1 := putR_ch w3 (w.heap.size + 1) 0 ⟨#[]⟩
    have hc2 := putR_ch (putR w3 (w.heap.size + 1) 0 ⟨#[]⟩) (w.heap.size + 2) 0 ⟨#[]⟩
    unfold putR at hK1 hc1 hc2
    rw [show ((0 : Nat) : Int) = 0 from rfl] at hK1 hc1 hc2
    obtain ⟨s0, s1⟩ := hK1.r1.cells
    obtain ⟨s2, s3⟩ := hK1.r2.cells
    refine bodyPost_ret (v := .tuple #[noR, noR, .int .i64 150]) (by simp [results, Tryz.results36, go_sem, s0, s1, s2, s3]) rfl ⟨rfl, ?_⟩
    exact ((bnext hb hb3).trans (hc1.below (by rintro b rfl; omega))).trans (hc2.below (by rintro b rfl; omega))
end Go.Proofs.YtdocjikpcbmcgaaGreatDoor
