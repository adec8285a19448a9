/-
  CvWalkD, CvWalkE, CvWalkF, CvWalkG, CvWalkH in one text. Own work.
-/
import Derived.Test.YtdkcliblbaldhaaDoorC0
/-
  Walks of package cover: sets. Own work.
-/
namespace Go.Proofs.YtdkcliblbaldhaaDoor.Cv
open Pl
open Go.RowKit
attribute [local go_sem ↓] Go.wp_at_zero Go.wp_at_succ
/-- A list of numbers that can be read. -/
structure Rd (w : World) (ao : Option Addr) (b off n : Nat) (l : List Nat) : Prop where
  len : l.length = n
  addr : 0 < n → ao = some ⟨b, off, none⟩
  cell : ∀ j, j < n → w.cell? ⟨b, off + j, none⟩ = some (.int .u64 (l.getD j 0 : Nat))
theorem Rd.below {w w' : World} {ao : Option Addr} {b off n : Nat} {l : List Nat} (r : Rd w ao b off n l) (h : Below w.heap.size w w') : Rd w' ao b off n l :=
  ⟨r.len, r.addr, fun j hj => (h.cell (p := ⟨b, off + j, none⟩) (World.block_lt_of_cell? w _ (r.cell j hj))).trans (r.cell j hj)⟩
theorem Rd.lt {w : World} {ao : Option Addr} {b off n : Nat} {l : List Nat} (r : Rd w ao b off n l) (h : 0 < n) : b < w.heap.size := World.block_lt_of_cell? w ⟨b, off + 0, none⟩ (r.cell 0 h)
theorem Rd.at {w w' : World} {ao : Option Addr} {b off n B : Nat} {l : List Nat} (r : Rd w ao b off n l) (h : Below B w w') (hb : 0 < n → b < B) : Rd w' ao b off n l :=
  ⟨r.len, r.addr, fun j hj => (World.cell?_of_block (h.block b (hb (by omega)))).trans (r.cell j hj)⟩
/-- Each number above the one ahead of it; not empty. -/
def Inc (l : List Nat) : Prop := 0 < l.length ∧ ∀ i, i + 1 < l.length → l.getD i 0 < l.getD (i + 1) 0
def incB (l : List Nat) : Bool := decide (0 < l.length) && (List.range (l.length - 1)).all (fun i => decide (l.getD i 0 < l.getD (i + 1) 0))
theorem incB_iff (l : List Nat) : incB l = true ↔ Inc l := by
  unfold incB Inc
  rw [Bool.and_eq_true, decide_eq_true_iff, List.all_eq_true]
  constructor
  · rintro ⟨h1, h2⟩
    exact ⟨h1, fun i hi => by simpa using h2 i (List.mem_range.2 (by omega))⟩
  · rintro ⟨h1, h2⟩
    exact ⟨h1, fun i hi => by have := List.mem_range.1 hi; simpa using h2 i (by omega)⟩
/-- From x on, below n. -/
def Chain : Nat → List Nat → Nat → Prop
  | x, [], n => x ≤ n
  | x, i :: S, n => x ≤ i ∧ Chain (i + 1) S n
theorem chain_le : ∀ {S : List Nat} {x n : Nat}, Chain x S n → x ≤ n := by
  intro S
  induction S with
  | nil => intro x n h; exact h
  | cons i S ih => intro x n h; have := ih h.2; have := h.1; omega
theorem chain_of : ∀ (l : List Nat) (x n : Nat), (∀ i, i + 1 < l.length → l.getD i 0 < l.getD (i + 1) 0) → (0 < l.length → x ≤ l.getD 0 0) → (0 < l.length → l.getD (l.length - 1) 0 < n) → x ≤ n → Chain x l n := by
  intro l
  induction l with
  | nil => intro x n _ _ _ h; exact h
  | cons a l ih =>
    intro x n h1 h2 h3 h4
    refine ⟨by simpa using h2 (by simp), ih (a + 1) n (fun i hi => ?_) (fun h => ?_) (fun h => ?_) ?_⟩
    · have := h1 (i + 1) (by simp; omega)
      simpa using this
    · have := h1 0 (by simp; omega)
      simp at this ⊢
      omega
    · have := h3 (by simp)
      rw [show (a :: l).length - 1 = (l.length - 1) + 1 by simp; omega] at this
      simpa using this
    · cases l with
      | nil => have := h3 (by simp); simp at this; omega
      | cons b l =>
        have h5 : ∀ j, j < (b :: l).length → a < (a :: b :: l).getD (j + 1) 0 := fun j => by
          induction j with
          | zero => intro _; have := h1 0 (by simp); simpa using this
          | succ j ihj => intro hj; have g1 := ihj (by omega); have g2 := h1 (j + 1) (by simp at *; omega); omega
        have h6 := h5 l.length (by simp)
        have h7 := h3 (by simp)
        simp only [List.length_cons, Nat.add_sub_cancel] at h7
        omega
/-- What is wrong with a set. -/
def errS (n : Nat) (l : List Nat) : Nat := if 2 ^ 40 < n then 30 else if incB l = false then 40 else if n ≤ l.getD (l.length - 1) 0 then 31 else 0
def rstS (n : Nat) (l : List Nat) : List (Nat × Nat) := if errS n l = 0 then rst 0 n l else []
theorem errS_ok {n : Nat} {l : List Nat} (h : errS n l = 0) : n ≤ 2 ^ 40 ∧ Inc l ∧ l.getD (l.length - 1) 0 < n ∧ Chain 0 l n := by
  unfold errS at h
  split at h
  · cases h
  · rename_i h1
    split at h
    · cases h
    · rename_i h2
      split at h
      · cases h
      · rename_i h3
        have hi : Inc l := (incB_iff l).1 (by cases hb : incB l with
          | true => rfl
          | false => exact absurd hb h2)
        exact ⟨by omega, hi, by omega, chain_of l 0 n hi.2 (fun _ => Nat.zero_le _) (fun _ => by omega) (Nat.zero_le _)⟩
end Go.Proofs.YtdkcliblbaldhaaDoor.Cv
/-
  Walks of package cover: eachOfRest, Rest, Count. Own work.
-/
namespace Go.Proofs.YtdkcliblbaldhaaDoor.Cv
open Pl
open Go.RowKit
attribute [local go_sem ↓] Go.wp_at_zero Go.wp_at_succ
theorem drop_get (l : List Nat) (j : Nat) (h : j < l.length) : l.drop j = l.getD j 0 :: l.drop (j + 1) := by
  rw [List.drop_eq_getElem_cons h, List.getD_eq_getElem?_getD, List.getElem?_eq_getElem h]; rfl
theorem ic_new (w : World) : IC w.heap.size (fun _ => False) [] (w.alloc (.cells #[.int .u64 0] 28)) := ⟨heap_new _ _, fun h => h⟩
end Go.Proofs.YtdkcliblbaldhaaDoor.Cv
/-
  Walks of the laws' own helpers: same. Own work.
-/
namespace Go.Proofs.YtdkcliblbaldhaaDoor.Cv
open Pl
open Go.RowKit
attribute [local go_sem ↓] Go.wp_at_zero Go.wp_at_succ
/-- A list of blocks that can be read. -/
structure RdB (w : World) (ao : Option Addr) (g n : Nat) (l : List (Int × Nat)) : Prop where
  len : l.length = n
  addr : 0 < n → ao = some ⟨g, 0, none⟩
  cell : ∀ j, j < n → w.cell? ⟨g, j * 2, none⟩ = some (.int .i64 (l.getD j (0, 0)).1) ∧ w.cell? ⟨g, j * 2 + 1, none⟩ = some (.int .u64 ((l.getD j (0, 0)).2 : Nat))
theorem RdB.below {w w' : World} {ao : Option Addr} {g n : Nat} {l : List (Int × Nat)} (r : RdB w ao g n l) (h : Below w.heap.size w w') : RdB w' ao g n l :=
  ⟨r.len, r.addr, fun j hj => ⟨(h.cell (p := ⟨g, j * 2, none⟩) (World.block_lt_of_cell? w _ (r.cell j hj).1)).trans (r.cell j hj).1, (h.cell (p := ⟨g, j * 2 + 1, none⟩) (World.block_lt_of_cell? w _ (r.cell j hj).2)).trans (r.cell j hj).2⟩⟩
theorem own_rdB {w : World} {base : Nat} {v : Value} {l : List (Int × Nat)} (h : OwnB w base v l) : ∃ ao g n cap, v = .slice ao n cap ∧ RdB w ao g n l ∧ n ≤ maxLen := by
  have h0 := h
  obtain ⟨h1, h2⟩ := h
  rcases h2 with ⟨rfl, h2⟩ | ⟨g, cap, cur, rfl, hg, hh, hc1, hc2, hc3, hc4⟩
  · exact ⟨none, 0, 0, 0, rfl, ⟨h2, fun h => absurd h (by omega), fun j hj => absurd hj (by omega)⟩, Nat.zero_le _⟩
  · refine ⟨some ⟨g, 0, none⟩, g, l.length, cap, rfl, ⟨rfl, fun _ => rfl, fun j hj => ?_⟩, by omega⟩
    have hcl := h0.cells (g := g) rfl
    obtain ⟨⟨a, b⟩, hq⟩ : ∃ q, l[j] = q := ⟨_, rfl⟩
    have hget : l[j]? = some (a, b) := by rw [List.getElem?_eq_getElem hj, hq]
    obtain ⟨e1, e2⟩ := cB_get l j a b hget
    have f1 := hcl _ _ e1
    have f2 := hcl _ _ e2
    rw [Addr.add_mid, Nat.zero_add, Nat.mul_comm] at f1 f2
    rw [List.getD_eq_getElem?_getD, hget]
    exact ⟨f1, f2⟩
theorem ext_getD {α : Type} {d : α} {l m : List α} {n : Nat} (hl : l.length = n) (hm : m.length = n) (h : ∀ j, j < n → l.getD j d = m.getD j d) : l = m := by
  apply List.ext_getElem?
  intro j
  by_cases hj : j < n
  · have := h j hj
    rw [List.getD_eq_getElem?_getD, List.getD_eq_getElem?_getD, List.getElem?_eq_getElem (by omega), List.getElem?_eq_getElem (by omega)] at this
    rw [List.getElem?_eq_getElem (by omega), List.getElem?_eq_getElem (by omega)]
    simpa using this
  · rw [List.getElem?_eq_none (by omega), List.getElem?_eq_none (by omega)]
end Go.Proofs.YtdkcliblbaldhaaDoor.Cv
/-
  Walks of the laws' own helpers: num, alive, within. Own work.
-/
namespace Go.Proofs.YtdkcliblbaldhaaDoor.Cv
open Pl
open Go.RowKit
attribute [local go_sem ↓] Go.wp_at_zero Go.wp_at_succ
theorem own_lit (w : World) (B : Nat) (cs : Array Value) (l : List (Int × Nat)) (hcs : cs.toList = cB l) (hB : B ≤ w.heap.size) (hl : l.length ≤ 1000) :
    OwnB (w.alloc (.cells cs 82)) B (.slice (some ⟨w.heap.size, 0, none⟩) l.length l.length) l := by
  refine ⟨cB_len l, .inr ⟨w.heap.size, l.length, cs, rfl, hB, heap_new _ _, Nat.le_refl _, by unfold maxLen; omega, ?_, ?_⟩⟩
  · rw [← Array.length_toList, hcs, cB_len]
  · rw [hcs, ← cB_len, List.take_length]
theorem rd_one (w : World) (x : Nat) : Rd (w.alloc (.cells #[.int .u64 (x : Int)] 28)) (some ⟨w.heap.size, 0, none⟩) w.heap.size 0 1 [x] := by
  refine ⟨rfl, fun _ => rfl, fun j hj => ?_⟩
  obtain rfl : j = 0 := by omega
  simp
theorem rd_two (w : World) (x y : Nat) : Rd (w.alloc (.cells #[.int .u64 (x : Int), .int .u64 (y : Int)] 28)) (some ⟨w.heap.size, 0, none⟩) w.heap.size 0 2 [x, y] := by
  refine ⟨rfl, fun _ => rfl, fun j hj => ?_⟩
  match j, hj with
  | 0, _ => simp
  | 1, _ => simp
theorem below_new {w w' : World} {o : Obj} (h : Below (w.alloc o).heap.size (w.alloc o) w') : Below w.heap.size w w' :=
  ((Below.refl _ w).alloc (Nat.le_refl _) o).trans (h.mono (by simp))
end Go.Proofs.YtdkcliblbaldhaaDoor.Cv
/-
  Walks of the laws' own helpers: span, tiles; num.Ones. Own work.
-/
namespace Go.Proofs.YtdkcliblbaldhaaDoor.Cv
open Pl
open Go.RowKit
attribute [local go_sem ↓] Go.wp_at_zero Go.wp_at_succ
abbrev bv (h k : Nat) : Value := .agg #[.int .i64 (h : Int), .int .u64 (k : Int)]
theorem u64_nat {a : Int} (wf : (Lit.int .u64 a).wf = true) : ∃ n : Nat, a = (n : Int) ∧ n < 2 ^ 64 := by
  have := bounds_u64 wf
  exact ⟨a.toNat, by omega, by omega⟩
/-- Blocks one behind the other, from p to q. -/
def Row (q : Nat) : Nat → List (Nat × Nat) → Prop
  | p, [] => p = q
  | p, b :: L => p = b.2 * pw b.1 ∧ b.1 ≤ 40 ∧ b.2 < pw (40 - b.1) ∧ Row q ((b.2 + 1) * pw b.1) L
theorem row_app {q m : Nat} {M : List (Nat × Nat)} (h' : Row q m M) : ∀ {L : List (Nat × Nat)} {p : Nat}, Row m p L → Row q p (L ++ M) := by
  intro L
  induction L with
  | nil => intro p h; obtain rfl : p = m := h; exact h'
  | cons b L ih => intro p h; exact ⟨h.1, h.2.1, h.2.2.1, ih h.2.2.2⟩
theorem blk_may {h k : Nat} (hb : (k + 1) * pw h ≤ 2 ^ 40) : h ≤ 40 ∧ k < pw (40 - h) := by
  have h1 : pw h ≤ (k + 1) * pw h := Nat.le_mul_of_pos_left _ (by omega)
  have hh : h ≤ 40 := pw40 (by omega)
  refine ⟨hh, ?_⟩
  have e : (2 : Nat) ^ 40 = pw (40 - h) * pw h := by rw [← pw_add, show 40 - h + h = 40 by omega]; rfl
  rw [e] at hb
  exact Nat.lt_of_lt_of_le (Nat.lt_succ_self k) (Nat.le_of_mul_le_mul_right hb (pw_pos h))
theorem til_row {lo hi : Nat} (hhi : hi ≤ 2 ^ 40) : ∀ {L : List (Nat × Nat)} {p : Nat}, lo ≤ p → Til (Rg lo hi) hi p L → Row hi p L := by
  intro L
  induction L with
  | nil =>
    intro p h1 h2
    show p = hi
    have := h2.1
    by_cases he : p = hi
    · exact he
    · exact absurd ⟨h1, by omega⟩ (h2.2 p (Nat.le_refl _) (by omega))
  | cons b L ih =>
    intro p h1 h2
    obtain ⟨a1, a2, a3, a4, a5, a6⟩ := h2
    have hlt := blk_lt b.1 b.2
    have hm := blk_may (Nat.le_trans a2 hhi)
    refine ⟨?_, hm.1, hm.2, ih (by omega) a6⟩
    by_cases he : p = b.2 * pw b.1
    · exact he
    · exact absurd ⟨h1, by omega⟩ (a3 p (Nat.le_refl _) (by omega))
theorem cov_row (lo hi : Nat) (h : lo ≤ hi) (hhi : hi ≤ 2 ^ 40) : Row hi lo (cov lo hi) := til_row hhi (Nat.le_refl _) (cov_til lo hi h hhi)
theorem til_mem {A : Nat → Prop} {q : Nat} : ∀ {L : List (Nat × Nat)} {p : Nat}, Til A q p L → ∀ b ∈ L, ¬ All A (b.1 + 1) (b.2 / 2) ∧ (b.2 + 1) * pw b.1 ≤ q := by
  intro L
  induction L with
  | nil => intro p _ b hb; cases hb
  | cons c L ih =>
    intro p h b hb
    rcases List.mem_cons.1 hb with rfl | hb
    · exact ⟨h.2.2.2.2.1, h.2.1⟩
    · exact ih h.2.2.2.2.2 b hb
theorem drop_at {α : Type} (d : α) (l : List α) (j : Nat) (h : j < l.length) : l.drop j = l.getD j d :: l.drop (j + 1) := by
  rw [List.drop_eq_getElem_cons h, List.getD_eq_getElem?_getD, List.getElem?_eq_getElem h]; rfl
theorem zl_getD (L : List (Nat × Nat)) (j : Nat) : (zl L).getD j (0, 0) = (((L.getD j (0, 0)).1 : Int), (L.getD j (0, 0)).2) := by
  by_cases h : j < L.length
  · simp [zl, List.getD_eq_getElem?_getD, List.getElem?_eq_getElem h]
  · simp [zl, List.getD_eq_getElem?_getD, List.getElem?_eq_none (Nat.le_of_not_lt h)]
theorem bit_eq (n k : Nat) (hn : n < 2 ^ 64) : (bits BinOp.and IntKind.u64 ((n : Int) / 2 ^ k) 1 == 1) = decide (n / 2 ^ k % 2 = 1) := by
  have e : ((n : Int) / 2 ^ k) = ((n / 2 ^ k : Nat) : Int) := by simp
  rw [e]
  have hm : n / 2 ^ k < 18446744073709551616 := Nat.lt_of_le_of_lt (Nat.div_le_self _ _) hn
  revert hm
  generalize n / 2 ^ k = m
  intro hm
  have := bits_and_u64_nat m 1 hm (by decide)
  rw [show (1 : Int) = ((1 : Nat) : Int) from rfl, this, Nat.and_one_is_mod]
  by_cases h : m % 2 = 1
  · simp [h]
  · have : m % 2 = 0 := by omega
    simp [this]
theorem isOne_any (n k : Nat) (w : World) (hn : n < 2 ^ 64) (hk : k < 64) :
    Calls Tryd.prog 43 #[.int .u64 n, .int .i64 k] w fun e w' => e = .returned (.bool (decide (n / 2 ^ k % 2 = 1))) ∧ w' = w := by
  have hk0 : (0 : Int) ≤ (k : Int) := Int.natCast_nonneg _
  go_enter Tryd.func43, Tryd.ntmps43
  go_wp2
  go_ret
  refine ⟨?_, rfl⟩
  rw [← bit_eq n k hn]
  rfl
theorem ones_any (n : Nat) (w : World) (hn : n < 2 ^ 64) :
    Calls Tryd.prog 17 #[.int .u64 n] w fun e w' => e = .returned (.int .i64 (ones 64 n : Nat)) ∧ w' = w := by
  go_enter Tryd.func17, Tryd.ntmps17
  go_wp2
  go_loopg [3, 5] 64 (fun g c i wr => ∃ k m : Nat, k ≤ 64 ∧ g = 64 - k ∧ i = .int .i64 k ∧ c = .int .i64 m ∧ m ≤ k ∧ m + ones (64 - k) (n / 2 ^ k) = ones 64 n ∧ w = wr)
  case atStart =>
    go_light
    exact ⟨0, 0, Nat.zero_le _, rfl, rfl, rfl, Nat.zero_le _, by simp, rfl⟩
  case round =>
    obtain ⟨k, m, hk, rfl, rfl, rfl, hm, hs, rfl⟩ := hrel
    have hk0 : (0 : Int) ≤ (k : Int) := Int.natCast_nonneg _
    have hm0 : (0 : Int) ≤ (m : Int) := Int.natCast_nonneg _
    have hm1 : (m : Int) ≤ 64 := by omega
    by_cases hlt : k < 64
    · have hk8 : (k : Int) < 64 := by omega
      have HS := ones_step k n hlt
      have HC := isOne_any n k w hn hlt
      by_cases hb : n / 2 ^ k % 2 = 1
      · rw [decide_eq_true hb] at HC
        go_wp2_with (go_at_call 43; refine HC.mono ?_; rintro e w' ⟨rfl, rfl⟩)
        go_roundg (64 - (k + 1))
        case rel =>
          go_light
          exact ⟨k + 1, m + 1, by omega, rfl, by go_num, by go_num, by omega, by omega, rfl⟩
        case measure => go_light; omega
      · rw [decide_eq_false hb] at HC
        go_wp2_with (go_at_call 43; refine HC.mono ?_; rintro e w' ⟨rfl, rfl⟩)
        go_roundg (64 - (k + 1))
        case rel =>
          go_light
          exact ⟨k + 1, m, by omega, rfl, by go_num, rfl, by omega, by omega, rfl⟩
        case measure => go_light; omega
    · obtain rfl : k = 64 := by omega
      clear hk hlt
      go_wp2
      go_ret
      refine ⟨?_, rfl⟩
      rw [← hs]
      rfl
end Go.Proofs.YtdkcliblbaldhaaDoor.Cv
