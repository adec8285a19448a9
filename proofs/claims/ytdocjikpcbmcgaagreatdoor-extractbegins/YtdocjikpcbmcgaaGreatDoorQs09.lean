/-
  Own work: CvWalkC, KSpec, FMap, FSpec, FWalkB, FWalkC, TSpec.
-/
import Derived.Test.YtdocjikpcbmcgaaGreatDoorProg
import Derived.WalkKit
import Derived.WalkSpells
import Derived.Outline
import Derived.KernelRfl
import Derived.Maps.Keyed
import Derived.DeepKeys4
import Derived.BigQuiet
import Derived.WalkMore
import Derived.Deep.OwnRows
import Derived.Test.YtdocjikpcbmcgaaGreatDoorQs06
import Derived.Test.YtdocjikpcbmcgaaGreatDoorQs08
namespace Go.Proofs.YtdocjikpcbmcgaaGreatDoor.Cv
open Pl
open Go.RowKit
attribute [local go_sem ↓] Go.wp_at_zero Go.wp_at_succ
def errR (lo hi n : Nat) : Nat := if 2 ^ 40 < n then 30 else if n < hi then 31 else if hi < lo then 41 else 0
def covR (lo hi n : Nat) : List (Nat × Nat) := if errR lo hi n = 0 then cov lo hi else []
theorem ia_new (w : World) : IA w.heap.size (fun _ => False) [] (w.alloc (.cells #[.slice none 0 0] 77)) :=
  ⟨⟨.slice none 0 0, heap_new _ _, World.ownsRow_nil _ _ _ _, fun _ _ h => h⟩, fun h => h⟩
theorem range_err (lo hi n e : Nat) (w : World) (he : errR lo hi n = e) (h0 : e ≠ 0) :
    Calls Tryz.prog 110 #[.int .u64 (lo : Int), .int .u64 (hi : Int), .int .u64 (n : Int)] w fun x w' => ∃ v, x = .returned (.tuple #[v, .int .i64 (e : Int)]) ∧ OwnB w' w.heap.size v [] ∧ Below w.heap.size w w' := by
  unfold errR at he
  by_cases h1 : 2 ^ 40 < n
  · rw [if_pos h1] at he
    subst he
    have ht : decide ((1099511627776 : Int) < (n : Int)) = true := decide_eq_true (by omega)
    clear h0 h1
    go_enter Tryz.func110, Tryz.ntmps110
    go_wp2
    go_ret2
    exact ⟨_, rfl, World.ownsRow_nil _ _ _ _, Below.refl _ _⟩
  · rw [if_neg h1] at he
    have ht : decide ((1099511627776 : Int) < (n : Int)) = false := decide_eq_false (by omega)
    by_cases h2 : n < hi
    · rw [if_pos h2] at he
      subst he
      have ht2 : (n : Int) < (hi : Int) := by omega
      clear h0 h1
      go_enter Tryz.func110, Tryz.ntmps110
      go_wp2
      go_ret2
      exact ⟨_, rfl, World.ownsRow_nil _ _ _ _, Below.refl _ _⟩
    · rw [if_neg h2] at he
      have ht2 : ¬ (n : Int) < (hi : Int) := by omega
      by_cases h3 : hi < lo
      · rw [if_pos h3] at he
        subst he
        have ht3 : (hi : Int) < (lo : Int) := by omega
        clear h0 h1
        go_enter Tryz.func110, Tryz.ntmps110
        go_wp2
        go_ret2
        exact ⟨_, rfl, World.ownsRow_nil _ _ _ _, Below.refl _ _⟩
      · rw [if_neg h3] at he
        exact absurd he.symm h0
theorem range_ok (lo hi n : Nat) (w : World) (hn : n ≤ 2 ^ 40) (hh : hi ≤ n) (hl : lo ≤ hi) :
    Calls Tryz.prog 110 #[.int .u64 (lo : Int), .int .u64 (hi : Int), .int .u64 (n : Int)] w fun x w' => ∃ v, x = .returned (.tuple #[v, .int .i64 0]) ∧ OwnB w' w.heap.size v (zl (cov lo hi)) ∧ Below w.heap.size w w' := by
  have ht : decide ((1099511627776 : Int) < (n : Int)) = false := decide_eq_false (by omega)
  have ht2 : ¬ (n : Int) < (hi : Int) := by omega
  have ht3 : ¬ (hi : Int) < (lo : Int) := by omega
  have ht2' : ¬ n < hi := by omega
  have ht3' : ¬ hi < lo := by omega
  have HE := each_any (.inl rfl) (give_range w.heap.size) (fun _ => False) [] lo hi (w.alloc (.cells #[.slice none 0 0] 77)) (ia_new w) (fun _ h => h.elim) (by decide) hl (by omega)
  clear hn hh hl
  go_enter Tryz.func110, Tryz.ntmps110
  go_upto_region 9 with ((go_at_call 161; with_reducible refine HE.mono ?_; rintro e w1 ⟨rfl, hI, hb, _⟩))
  obtain ⟨⟨v, h1, h2, _⟩, _⟩ := hI
  have c0 := cell_of_one h1
  obtain ⟨ao, m, c, rfl⟩ := own_slice h2
  have HF : Hid (OwnB w1 w.heap.size (.slice ao m c) (zl (cov lo hi)) ∧ Below w.heap.size w w1) := ⟨by
    have := h2.mono (base' := w.heap.size) (by omega)
    simpa using this, ((Below.refl _ w).alloc (Nat.le_refl _) _).trans hb⟩
  clear h1 h2 hb HE
  go_wp2
  go_ret2
  exact ⟨_, rfl, HF.out.1, HF.out.2⟩
theorem range_any (lo hi n : Nat) (w : World) :
    Calls Tryz.prog 110 #[.int .u64 (lo : Int), .int .u64 (hi : Int), .int .u64 (n : Int)] w fun x w' => ∃ v, x = .returned (.tuple #[v, .int .i64 (errR lo hi n : Nat)]) ∧ OwnB w' w.heap.size v (zl (covR lo hi n)) ∧ Below w.heap.size w w' := by
  by_cases h : errR lo hi n = 0
  · have h' := h
    unfold errR at h'
    split at h'
    · cases h'
    · split at h'
      · cases h'
      · split at h'
        · cases h'
        · rw [h, covR, if_pos h]
          exact range_ok lo hi n w (by omega) (by omega) (by omega)
  · rw [covR, if_neg h]
    exact range_err lo hi n _ w rfl h
theorem mountains_any (n : Nat) (w : World) :
    Calls Tryz.prog 75 #[.int .u64 (n : Int)] w fun x w' => ∃ v, x = .returned (.tuple #[v, .int .i64 (errR 0 n n : Nat)]) ∧ OwnB w' w.heap.size v (zl (covR 0 n n)) ∧ Below w.heap.size w w' := by
  have HR : Calls Tryz.prog 110 #[.int .u64 0, .int .u64 (n : Int), .int .u64 (n : Int)] w fun x w' => ∃ v, x = .returned (.tuple #[v, .int .i64 (errR 0 n n : Nat)]) ∧ OwnB w' w.heap.size v (zl (covR 0 n n)) ∧ Below w.heap.size w w' := range_any 0 n n w
  generalize errR 0 n n = e at *
  generalize covR 0 n n = L at *
  go_enter Tryz.func75, Tryz.ntmps75
  go_wp2_with (go_at_call 110; with_reducible refine HR.mono ?_; rintro x w1 ⟨v, rfl, h1, h2⟩)
  go_ret2
  exact ⟨_, rfl, h1, h2⟩
end Go.Proofs.YtdocjikpcbmcgaaGreatDoor.Cv
namespace Go.Proofs.YtdocjikpcbmcgaaGreatDoor
open Go.RowKit
open Pl (ones)
theorem clk_of {k : Int} (h1 : 1 ≤ k) (h2 : k ≤ 32) : (clk k : Int) = k := by
  unfold clk
  rw [if_neg (by omega), if_neg (by omega)]
  omega
end Go.Proofs.YtdocjikpcbmcgaaGreatDoor
namespace Go.Proofs.YtdocjikpcbmcgaaGreatDoor
open Go.RowKit
def Fitb (h : Int) (k : Nat) : Prop := (-9223372036854775808 ≤ h ∧ h ≤ 9223372036854775807) ∧ k < 18446744073709551616
end Go.Proofs.YtdocjikpcbmcgaaGreatDoor
namespace Go.Proofs.YtdocjikpcbmcgaaGreatDoor
open Go.RowKit
open Pl (ones pw)
theorem nd_app (c : Nat) (L M : List ByteArray) (h k : Nat) (hk : (k + 1) * 2 ^ h ≤ L.length) : nd c (L ++ M) h k = nd c L h k := by
  refine nd_alike h k k fun t ht => ?_
  rw [List.getD_eq_getElem?_getD, List.getD_eq_getElem?_getD, List.getElem?_append_left]
  rw [Nat.add_mul, Nat.one_mul] at hk
  omega
theorem nd_pre (c : Nat) (L : List ByteArray) (n h k : Nat) (hk : (k + 1) * 2 ^ h ≤ n) (hn : n ≤ L.length) : nd c (L.take n) h k = nd c L h k := by
  have := nd_app c (L.take n) (L.drop n) h k (by rw [List.length_take]; omega)
  rw [List.take_append_drop] at this
  exact this.symm
theorem dn_peaks (c : Nat) (L : List ByteArray) : ∀ (h lo : Nat), lo = L.length / 2 ^ h * 2 ^ h → (Cv.dnL h lo L.length).map (fun b => nd c L b.1 b.2) = pks c L h ∧ ∀ b ∈ Cv.dnL h lo L.length, (b.2 + 1) * 2 ^ b.1 ≤ L.length
  | 0, lo, _ => ⟨rfl, fun b hb => by cases hb⟩
  | h + 1, lo, hlo => by
    have hp := Nat.two_pow_pos h
    have e2 : 2 ^ (h + 1) = 2 * 2 ^ h := by rw [Nat.pow_succ, Nat.mul_comm]
    have d1 := Nat.div_add_mod L.length (2 ^ h)
    have d2 := Nat.div_add_mod (L.length / 2 ^ h) 2
    have d3 : L.length / 2 ^ (h + 1) = L.length / 2 ^ h / 2 := by rw [Nat.pow_succ, Nat.div_div_eq_div_mul]
    have m1 := Nat.mod_lt L.length hp
    rw [d3, e2] at hlo
    generalize hX : L.length / 2 ^ h = X at *
    have hlo2 : lo = (2 * (X / 2)) * 2 ^ h := by rw [hlo, Nat.mul_comm 2 (X / 2), Nat.mul_assoc]
    have e3 : 2 ^ h * X = X * 2 ^ h := Nat.mul_comm _ _
    rw [Cv.dnL, show pw h = 2 ^ h from rfl]
    by_cases hb : X % 2 = 1
    · have hX2 : X = 2 * (X / 2) + 1 := by omega
      have e4 : X * 2 ^ h = lo + 2 ^ h := by rw [hlo2]; conv => lhs; rw [hX2, Nat.add_mul, Nat.one_mul]
      have hlt : 2 ^ h ≤ L.length - lo := by omega
      have e5 : lo / 2 ^ h = 2 * (X / 2) := by rw [hlo2, Nat.mul_div_cancel _ hp]
      obtain ⟨r1, r2⟩ := dn_peaks c L h (lo + 2 ^ h) (by rw [hX, ← e4])
      rw [if_pos hlt, pks_one (by rw [hX]; exact hb), List.map_cons, r1, e5, hX]
      refine ⟨by rw [show X - 1 = 2 * (X / 2) by omega], fun b hbm => ?_⟩
      rcases List.mem_cons.1 hbm with rfl | hbm
      · show (2 * (X / 2) + 1) * 2 ^ h ≤ _
        rw [← hX2]; omega
      · exact r2 b hbm
    · have hX2 : X = 2 * (X / 2) := by omega
      have e4 : X * 2 ^ h = lo := by rw [hlo2]; conv => lhs; rw [hX2]
      have hlt : ¬ 2 ^ h ≤ L.length - lo := by omega
      obtain ⟨r1, r2⟩ := dn_peaks c L h lo (by rw [hX, ← e4])
      rw [if_neg hlt, pks_none (by rw [hX]; exact hb)]
      exact ⟨r1, r2⟩
theorem cov_peaks (c : Nat) (L : List ByteArray) (n : Nat) (hn : n ≤ L.length) (h40 : n ≤ 2 ^ 40) : (Cv.cov 0 n).map (fun b => nd c L b.1 b.2) = pks c (L.take n) 41 ∧ ∀ b ∈ Cv.cov 0 n, (b.2 + 1) * 2 ^ b.1 ≤ n := by
  have hl : (L.take n).length = n := by rw [List.length_take]; omega
  have hz : 0 = (L.take n).length / 2 ^ 41 * 2 ^ 41 := by rw [hl, Nat.div_eq_of_lt (by omega), Nat.zero_mul]
  obtain ⟨r1, r2⟩ := dn_peaks c (L.take n) 41 0 hz
  rw [hl] at r1 r2
  rw [Cv.cov_zero n h40]
  refine ⟨?_, r2⟩
  rw [← r1]
  refine List.map_congr_left fun b hb => ?_
  exact (nd_pre c L n b.1 b.2 (r2 b hb) hn).symm
end Go.Proofs.YtdocjikpcbmcgaaGreatDoor
namespace Go.Proofs.YtdocjikpcbmcgaaGreatDoor
open Go.RowKit
attribute [local go_sem ↓] Go.wp_at_zero Go.wp_at_succ
theorem make_S (w : World) (n : Nat) (hn : n ≤ 8796093022208) : (Instr.makeSlice 22 (.int .i64 0) (.int .i64 (n : Int))).run Tryz.prog w = .ok (.slice (some ⟨w.heap.size, 0, none⟩) 0 n) (w.alloc (.cells (madeCells #[.string ByteArray.empty] n) 9)) := by
  obtain ⟨i0, hi, hz0, hz1, hz2⟩ := info_parts Tryz.infoS
  have hr := run_make (P := Tryz.prog) w 22 9 i0 _ Tryz.underlying22 hi hz0 .i64 .i64 0 n (by omega) (by omega) (by rw [hz2]; omega) (by omega)
  simp only [Int.toNat_natCast, hz1, Nat.mul_one] at hr
  exact hr
theorem own_made (w : World) (n : Nat) (hn : n ≤ 8796093022208) : OwnS (w.alloc (.cells (madeCells #[.string ByteArray.empty] n) 9)) w.heap.size (.slice (some ⟨w.heap.size, 0, none⟩) 0 n) [] :=
  ⟨rfl, .inr ⟨w.heap.size, n, _, rfl, Nat.le_refl _, heap_alloc_new w _, Nat.zero_le _, by unfold maxLen; omega, by rw [size_madeCells, Nat.mul_one], rfl⟩⟩
structure RdB (w : World) (ao : Option Addr) (g off n : Nat) (l : List (Int × Nat)) : Prop where
  len : l.length = n
  addr : 0 < n → ao = some ⟨g, off, none⟩
  cell : ∀ j, j < n → w.cell? ⟨g, off + j * 2, none⟩ = some (.int .i64 (l.getD j (0, 0)).1) ∧ w.cell? ⟨g, off + j * 2 + 1, none⟩ = some (.int .u64 ((l.getD j (0, 0)).2 : Nat))
  fit : ∀ b ∈ l, Fitb b.1 b.2
theorem RdB.below {w w' : World} {ao : Option Addr} {g off n : Nat} {l : List (Int × Nat)} (r : RdB w ao g off n l) (h : Below w.heap.size w w') : RdB w' ao g off n l :=
  ⟨r.len, r.addr, fun j hj => ⟨(h.cell (p := ⟨g, off + j * 2, none⟩) (World.block_lt_of_cell? w _ (r.cell j hj).1)).trans (r.cell j hj).1, (h.cell (p := ⟨g, off + j * 2 + 1, none⟩) (World.block_lt_of_cell? w _ (r.cell j hj).2)).trans (r.cell j hj).2⟩, r.fit⟩
theorem own_rdB {w : World} {base : Nat} {v : Value} {l : List (Int × Nat)} (h : Cv.OwnB w base v l) (hf : ∀ b ∈ l, Fitb b.1 b.2) : ∃ ao g n cap, v = .slice ao n cap ∧ RdB w ao g 0 n l ∧ n ≤ maxLen := by
  have h0 := h
  obtain ⟨h1, h2⟩ := h
  rcases h2 with ⟨rfl, h2⟩ | ⟨g, cap, cur, rfl, hg, hh, hc1, hc2, hc3, hc4⟩
  · exact ⟨none, 0, 0, 0, rfl, ⟨h2, fun h => absurd h (by omega), fun j hj => absurd hj (by omega), hf⟩, Nat.zero_le _⟩
  · refine ⟨some ⟨g, 0, none⟩, g, l.length, cap, rfl, ⟨rfl, fun _ => rfl, fun j hj => ?_, hf⟩, by omega⟩
    have hcl := h0.cells (g := g) rfl
    obtain ⟨⟨a, b⟩, hq⟩ : ∃ q, l[j] = q := ⟨_, rfl⟩
    have hget : l[j]? = some (a, b) := by rw [List.getElem?_eq_getElem hj, hq]
    obtain ⟨e1, e2⟩ := Cv.cB_get l j a b hget
    have f1 := hcl _ _ e1
    have f2 := hcl _ _ e2
    rw [Addr.add_mid, Nat.zero_add, Nat.mul_comm] at f1 f2
    rw [List.getD_eq_getElem?_getD, hget, Nat.zero_add]
    exact ⟨f1, f2⟩
end Go.Proofs.YtdocjikpcbmcgaaGreatDoor
namespace Go.Proofs.YtdocjikpcbmcgaaGreatDoor
open Go.RowKit
attribute [local go_sem ↓] Go.wp_at_zero Go.wp_at_succ
theorem own_mono {w : World} {B B' : Nat} {v : Value} {l : List ByteArray} (h : OwnS w B v l) (hB : B' ≤ B) : OwnS w B' v l := by
  obtain ⟨h1, h2⟩ := h
  refine ⟨h1, ?_⟩
  rcases h2 with h2 | ⟨g, cap, cur, hv, hg, h3⟩
  · exact .inl h2
  · exact .inr ⟨g, cap, cur, hv, by omega, h3⟩
end Go.Proofs.YtdocjikpcbmcgaaGreatDoor
namespace Go.Proofs.YtdocjikpcbmcgaaGreatDoor
open Go.RowKit
structure Wy (n i : Nat) (A : List (Nat × Nat)) (H : Nat) (B : List (Nat × Nat)) : Prop where
  all : Cv.dnL 41 0 n = A ++ (H, i / 2 ^ H) :: B
  hH : H ≤ 40
  left : ∀ a ∈ A, (a.2 + 1) * 2 ^ a.1 ≤ i
  right : ∀ b ∈ B, i < b.2 * 2 ^ b.1
theorem dn_ge (n : Nat) : ∀ h lo, 2 ^ h ∣ lo → ∀ b ∈ Cv.dnL h lo n, lo ≤ b.2 * 2 ^ b.1
  | 0, lo, _, b, hb => by cases hb
  | h + 1, lo, hd, b, hb => by
    have hp := Nat.two_pow_pos h
    have hd' : 2 ^ h ∣ lo := Nat.dvd_trans (Nat.pow_dvd_pow 2 (by omega)) hd
    rw [Cv.dnL, show Pl.pw h = 2 ^ h from rfl] at hb
    split at hb
    · rcases List.mem_cons.1 hb with rfl | hb
      · show lo ≤ lo / 2 ^ h * 2 ^ h
        rw [Nat.div_mul_cancel hd']
        exact Nat.le_refl _
      · have := dn_ge n h (lo + 2 ^ h) (Nat.dvd_add hd' (Nat.dvd_refl _)) b hb
        omega
    · exact dn_ge n h lo hd' b hb
theorem dn_has (n i : Nat) (hi : i < n) : ∀ h lo, lo ≤ i → n - lo < 2 ^ h → 2 ^ h ∣ lo → ∃ A H B, Cv.dnL h lo n = A ++ (H, i / 2 ^ H) :: B ∧ H < h ∧ (∀ a ∈ A, (a.2 + 1) * 2 ^ a.1 ≤ i) ∧ ∀ b ∈ B, i < b.2 * 2 ^ b.1
  | 0, lo, h1, h2, _ => by rw [Nat.pow_zero] at h2; omega
  | h + 1, lo, h1, h2, hd => by
    have hp := Nat.two_pow_pos h
    have hd' : 2 ^ h ∣ lo := Nat.dvd_trans (Nat.pow_dvd_pow 2 (by omega)) hd
    have hd2 : 2 ^ h ∣ lo + 2 ^ h := Nat.dvd_add hd' (Nat.dvd_refl _)
    rw [Nat.pow_succ] at h2
    rw [Cv.dnL, show Pl.pw h = 2 ^ h from rfl]
    by_cases hf : 2 ^ h ≤ n - lo
    · rw [if_pos hf]
      by_cases hm : i < lo + 2 ^ h
      · refine ⟨[], h, Cv.dnL h (lo + 2 ^ h) n, ?_, by omega, (fun a ha => by cases ha), fun b hb => ?_⟩
        · have : i / 2 ^ h = lo / 2 ^ h := by
            obtain ⟨q, rfl⟩ := hd'
            rw [Nat.mul_div_cancel_left _ hp]
            exact Nat.div_eq_of_lt_le (by rw [Nat.mul_comm]; omega) (by rw [Nat.add_mul, Nat.mul_comm]; omega)
          rw [this]; rfl
        · have := dn_ge n h _ hd2 b hb
          omega
      · obtain ⟨A, H, B, e, hH, hl, hr⟩ := dn_has n i hi h (lo + 2 ^ h) (by omega) (by omega) hd2
        refine ⟨(h, lo / 2 ^ h) :: A, H, B, by rw [e]; rfl, by omega, fun a ha => ?_, hr⟩
        rcases List.mem_cons.1 ha with rfl | ha
        · show (lo / 2 ^ h + 1) * 2 ^ h ≤ i
          rw [Nat.add_mul, Nat.div_mul_cancel hd']
          omega
        · exact hl a ha
    · rw [if_neg hf]
      obtain ⟨A, H, B, e, hH, hl, hr⟩ := dn_has n i hi h lo h1 (by omega) hd'
      exact ⟨A, H, B, e, by omega, hl, hr⟩
theorem wy_ex (n i : Nat) (hn : n ≤ 2 ^ 40) (hi : i < n) : ∃ A H B, Wy n i A H B := by
  obtain ⟨A, H, B, e, hH, hl, hr⟩ := dn_has n i hi 41 0 (Nat.zero_le _) (by omega) (Nat.dvd_zero _)
  exact ⟨A, H, B, e, by omega, hl, hr⟩
section
variable {n i H : Nat} {A B : List (Nat × Nat)}
theorem Wy.len (h : Wy n i A H B) : A.length + B.length ≤ 40 := by
  have := Cv.dn_len 41 0 n
  rw [h.all, List.length_append, List.length_cons] at this
  omega
theorem Wy.no_left (h : Wy n i A H B) {a : Nat × Nat} (ha : a ∈ A) : a.2 < i / 2 ^ a.1 := by
  have := h.left a ha
  exact (Nat.le_div_iff_mul_le (Nat.two_pow_pos _)).2 this
theorem Wy.no_right (h : Wy n i A H B) {b : Nat × Nat} (hb : b ∈ B) : i / 2 ^ b.1 < b.2 := by
  have := h.right b hb
  exact (Nat.div_lt_iff_lt_mul (Nat.two_pow_pos _)).2 this
end
theorem dn_in (n : Nat) (hn : n ≤ 2 ^ 40) : ∀ b ∈ Cv.dnL 41 0 n, (b.2 + 1) * 2 ^ b.1 ≤ n := by
  have := (cov_peaks 1 (List.replicate n ByteArray.empty) n (by simp) hn).2
  rwa [Cv.cov_zero n hn] at this
def sb (q : Nat) : Nat := if q % 2 = 1 then q - 1 else q + 1
def bes (i : Nat) (H : Nat) : List (Nat × Nat) := (List.range H).map fun h => (h, sb (i / 2 ^ h))
theorem bes_len (i H : Nat) : (bes i H).length = H := by simp [bes]
theorem bes_succ (i H : Nat) : bes i (H + 1) = bes i H ++ [(H, sb (i / 2 ^ H))] := by simp [bes, List.range_succ]
theorem half_next (i h : Nat) : i / 2 ^ h / 2 = i / 2 ^ (h + 1) := by rw [Nat.div_div_eq_div_mul, ← Nat.pow_succ]
def wyB (i H : Nat) (A B : List (Nat × Nat)) : List (Nat × Nat) := bes i H ++ (A ++ B)
theorem wyB_len (i H : Nat) (A B : List (Nat × Nat)) : (wyB i H A B).length = H + (A.length + B.length) := by simp [wyB, bes_len]
def stT (q : Nat) (d x : ByteArray) : ByteArray := if q % 2 = 1 then nodeT x d else nodeT d x
def rs (c : Nat) : Nat → ByteArray → List ByteArray → ByteArray
  | _, d, [] => d
  | q, d, x :: r => rs c (q / 2) (dg c (stT q d x)) r
theorem rs_app (c : Nat) (x : ByteArray) : ∀ (D : List ByteArray) (q : Nat) (d : ByteArray), rs c q d (D ++ [x]) = dg c (stT (q / 2 ^ D.length) (rs c q d D) x)
  | [], q, d => by simp [rs]
  | y :: r, q, d => by
    rw [List.cons_append, rs, rs_app c x r, rs, List.length_cons, Nat.pow_succ, Nat.div_div_eq_div_mul, Nat.mul_comm 2]
theorem rs_size {c : Nat} (hc : c ≤ 32) : ∀ (D : List ByteArray) (q : Nat) (d : ByteArray), d.size = c → (rs c q d D).size = c
  | [], _, _, h => h
  | y :: r, q, d, _ => by
    rw [rs]
    exact rs_size hc r _ _ (dg_size hc _)
def pkP (c i : Nat) (a H : Nat) (D : List ByteArray) (x : ByteArray) : List ByteArray := (D.drop H).take a ++ rs c i (dg c (leafT x)) (D.take H) :: (D.drop H).drop a
def rtP (c n i a H : Nat) (D : List ByteArray) (x : ByteArray) : ByteArray := dg c (rootT n (bagL c (pkP c i a H D x)))
end Go.Proofs.YtdocjikpcbmcgaaGreatDoor
