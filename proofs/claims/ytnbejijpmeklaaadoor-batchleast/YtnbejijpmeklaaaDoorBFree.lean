/-
  BatchLeast: blocks that are free; the greatest ones, found by trying. Own work.
-/
import Derived.Test.YtnbejijpmeklaaaDoorBWhole
namespace Go.Proofs.YtnbejijpmeklaaaDoor
open Go.RowKit
open Cv (RdC zl cU All Til But)
open Pl (pw pw_succ pw_pos)
attribute [local go_sem ↓] Go.wp_at_zero Go.wp_at_succ
/-- Free: all of it below n, none of the set in it. -/
def frB (n : Nat) (S : List Nat) (h k : Nat) : Prop := (k + 1) * 2 ^ h ≤ n ∧ ∀ i ∈ S, i / 2 ^ h ≠ k
instance (n : Nat) (S : List Nat) (h k : Nat) : Decidable (frB n S h k) := by unfold frB; infer_instance
theorem in_blk {i h k : Nat} : i / 2 ^ h = k ↔ k * pw h ≤ i ∧ i < (k + 1) * pw h := by
  have hp := Nat.two_pow_pos h
  show i / 2 ^ h = k ↔ k * 2 ^ h ≤ i ∧ i < (k + 1) * 2 ^ h
  rw [Nat.div_eq_iff hp, Nat.add_mul, Nat.one_mul]
  omega
theorem frB_all {n : Nat} {S : List Nat} {h k : Nat} : frB n S h k ↔ All (But n S) h k := by
  have hlt := Cv.blk_lt h k
  constructor
  · rintro ⟨h1, h2⟩ i i1 i2
    exact ⟨Nat.lt_of_lt_of_le i2 h1, fun hi => h2 i hi (in_blk.2 ⟨i1, i2⟩)⟩
  · intro ha
    refine ⟨?_, fun i hi e => ?_⟩
    · have := (ha ((k + 1) * pw h - 1) (by omega) (by omega)).1
      show (k + 1) * pw h ≤ n
      omega
    · obtain ⟨i1, i2⟩ := in_blk.1 e
      exact (ha i i1 i2).2 hi
/-- The greatest free block that begins where the next one of the cover does, is it. -/
theorem climb_end {A : Nat → Prop} {q h k : Nat} {b : Nat × Nat} {M : List (Nat × Nat)} (ht : Til A q (k * pw h) (b :: M)) (ha : All A h k) (hend : ¬ (k % 2 = 0 ∧ All A (h + 1) (k / 2))) : b = (h, k) := by
  obtain ⟨a1, a2, a3, a4, a5, a6⟩ := ht
  obtain ⟨bh, bk⟩ := b
  simp only at *
  have hlt := Cv.blk_lt h k
  have he : k * pw h = bk * pw bh := by
    rcases Nat.lt_or_ge (k * pw h) (bk * pw bh) with hh | hh
    · exact absurd (ha _ (Nat.le_refl _) hlt) (a3 _ (Nat.le_refl _) hh)
    · omega
  rcases Nat.lt_trichotomy h bh with hh | hh | hh
  · exfalso
    refine hend ⟨?_, Cv.in_greater A h k bh bk he hh a4⟩
    obtain ⟨d, rfl⟩ : ∃ d, bh = h + 1 + d := ⟨bh - (h + 1), by omega⟩
    have e1 : pw (h + 1 + d) = 2 * pw d * pw h := by rw [Pl.pw_add, pw_succ, Nat.mul_comm (2 * pw h), ← Nat.mul_assoc, Nat.mul_comm (pw d)]
    have hk : k = bk * (2 * pw d) := by
      rw [e1, ← Nat.mul_assoc] at he
      exact Nat.eq_of_mul_eq_mul_right (pw_pos h) he
    rw [hk, ← Nat.mul_assoc, Nat.mul_comm bk 2, Nat.mul_assoc, Nat.mul_mod_right]
  · subst hh
    rw [Nat.eq_of_mul_eq_mul_right (pw_pos h) he]
  · exact absurd (Cv.in_greater A bh bk h k he.symm hh ha) a5
set_option maxRecDepth 100000 in
set_option maxHeartbeats 1000000 in
theorem free_any (w : World) (h k n : Nat) (hh : h ≤ 20) (hk : k ≤ 1000) (sa : Option Addr) (sb so sc : Nat) (S : List Nat) (rs : RdU w sa sb so S.length S) (hS : S.length ≤ 300) (r : Bool) (hr : decide (frB n S h k) = r) :
    Calls Tryd.prog 16 #[.agg #[.int .i64 (h : Int), .int .u64 (k : Int)], .int .u64 (n : Int), .slice sa S.length sc] w fun e w' => e = .returned (.bool r) ∧ Below w.heap.size w w' := by
  obtain ⟨o1, ho1⟩ : ∃ o1, Obj.cells #[.int .i64 (h : Int), .int .u64 (k : Int)] 45 (0, 0) = o1 := ⟨_, rfl⟩
  have hb := bal (Below.refl w.heap.size w) o1
  have e1 := heap_alloc_new w o1
  rw [← ho1] at e1 hb
  have c0 : (w.alloc (Obj.cells #[.int .i64 (h : Int), .int .u64 (k : Int)] 45 (0, 0))).cell? ⟨w.heap.size, 0, none⟩ = some (.int .i64 (h : Int)) := by rw [cell_of_row _ _ 0 _ _ (0, 0) e1]; rfl
  have c1 : (w.alloc (Obj.cells #[.int .i64 (h : Int), .int .u64 (k : Int)] 45 (0, 0))).cell? ⟨w.heap.size, 1, none⟩ = some (.int .u64 (k : Int)) := by rw [cell_of_row _ _ 1 _ _ (0, 0) e1]; rfl
  have HR := hide (rs.next hb)
  obtain ⟨W, hW⟩ : ∃ W, w.alloc (Obj.cells #[.int .i64 (h : Int), .int .u64 (k : Int)] 45 (0, 0)) = W := ⟨_, rfl⟩
  rw [hW] at c0 c1 hb HR
  have hpb : 2 ^ h ≤ 2 ^ 20 := Nat.pow_le_pow_right (by decide) hh
  have hpp := Nat.two_pow_pos h
  have h0 : (0 : Int) ≤ (h : Int) := Int.natCast_nonneg _
  have h1 : (h : Int) < 64 := by omega
  have u2 : IntKind.u64.wrap (h : Int) = (h : Int) := by rw [IntKind.wrap_u64]; omega
  have u1 : IntKind.u64.wrap ((k : Int) + 1) = (k : Int) + 1 := by rw [IntKind.wrap_u64]; omega
  obtain ⟨p, hp⟩ : ∃ p, (k + 1) * 2 ^ h = p := ⟨_, rfl⟩
  have u3 : IntKind.u64.wrap (((k : Int) + 1) * (2 : Int) ^ h) = (p : Int) := by
    have e : ((k : Int) + 1) * ((2 : Int) ^ h) = (p : Int) := by rw [← hp]; simp
    have hpl : p ≤ 1001 * 2 ^ 20 := by rw [← hp]; exact Nat.mul_le_mul (by omega) hpb
    rw [e, IntKind.wrap_u64]; omega
  have hs3 : (S.length : Int) ≤ 300 := by omega
  have HP : Hid (frB n S h k ↔ p ≤ n ∧ ∀ i ∈ S, i / 2 ^ h ≠ k) := by show _ ↔ _; rw [← hp]; exact Iff.rfl
  have HQ := hide hr
  clear e1 ho1 hpb hp hr hk rs hpp
  by_cases hle : p ≤ n
  · have hl2 : ¬ (n : Int) < (p : Int) := by omega
    go_enter Tryd.func16, Tryd.ntmps16
    go_wp2
    clear hW
    go_loopg [7] S.length (fun g i wr => ∃ j : Nat, j ≤ S.length ∧ g = S.length - j ∧ i = .int .i64 (j : Int) ∧ Hid (∀ t, t < j → S.getD t 0 / 2 ^ h ≠ k) ∧ Hid (Below W.heap.size W wr))
    case atStart =>
      go_light
      exact ⟨0, Nat.zero_le _, rfl, rfl, fun t ht => absurd ht (Nat.not_lt_zero _), Below.refl _ _⟩
    case round =>
      obtain ⟨j, hj, rfl, rfl, HA, HB⟩ := hrel
      by_cases hlt : j < S.length
      · have hz : (j : Int) < (S.length : Int) := by omega
        have hz0 : (0 : Int) ≤ (j : Int) := Int.natCast_nonneg _
        have hrd := HR.out.next HB.out
        obtain rfl := hrd.ptr (by omega)
        have cj := hrd.at hlt
        obtain ⟨i, hi⟩ : ∃ i, S.getD j 0 = i := ⟨_, rfl⟩
        rw [hi] at cj
        have b0 := (HB.out.cell (p := ⟨w.heap.size, 0, none⟩) (World.block_lt_of_cell? W _ c0)).trans c0
        have b1 := (HB.out.cell (p := ⟨w.heap.size, 1, none⟩) (World.block_lt_of_cell? W _ c1)).trans c1
        have es : (i : Int) / (2 : Int) ^ h = ((i / 2 ^ h : Nat) : Int) := by simp
        obtain ⟨y, hy⟩ : ∃ y, i / 2 ^ h = y := ⟨_, rfl⟩
        rw [hy] at es
        by_cases hyk : y = k
        · subst hyk
          obtain rfl : false = r := by
            rw [← HQ.out]
            refine (decide_eq_false fun hf => ?_).symm
            exact (HP.out.1 hf).2 i (by rw [← hi, List.getD_eq_getElem?_getD, List.getElem?_eq_getElem hlt]; exact List.getElem_mem _) hy
          clear hi hrd HA hy
          go_wp2
          go_quiet (fail)
          go_wp2
          go_ret
          exact ⟨rfl, below_drewN (bnext hb HB.out) _⟩
        · have hyz : ((y : Int) == (k : Int)) = false := beq_false_of_ne (by omega)
          have HN : Hid (∀ t, t < j + 1 → S.getD t 0 / 2 ^ h ≠ k) := fun t ht => by
            rcases Nat.lt_or_eq_of_le (Nat.le_of_lt_succ ht) with hx | rfl
            · exact HA.out t hx
            · rw [hi, hy]; exact hyk
          clear hi hrd HA hy hyk
          go_wp2
          go_quiet (fail)
          go_wp2
          go_roundg (S.length - (j + 1))
          case rel =>
            go_light
            exact ⟨j + 1, by omega, rfl, by go_num, HN.out, below_drewN HB.out _⟩
          case measure => go_light; omega
      · obtain rfl : j = S.length := by omega
        have hz : ¬ ((S.length : Int) < (S.length : Int)) := by omega
        obtain rfl : true = r := by
          rw [← HQ.out]
          refine (decide_eq_true (HP.out.2 ⟨hle, fun i hi => ?_⟩)).symm
          obtain ⟨t, ht, rfl⟩ := List.getElem_of_mem hi
          have := HA.out t ht
          rwa [List.getD_eq_getElem?_getD, List.getElem?_eq_getElem ht] at this
        clear HA hlt
        go_wp2
        go_ret
        exact ⟨rfl, bnext hb HB.out⟩
  · have hl2 : (n : Int) < (p : Int) := by omega
    obtain rfl : false = r := by rw [← HQ.out]; exact (decide_eq_false fun hf => hle (HP.out.1 hf).1).symm
    go_enter Tryd.func16, Tryd.ntmps16
    go_wp2
    go_ret
    exact ⟨rfl, hb⟩
end Go.Proofs.YtnbejijpmeklaaaDoor
