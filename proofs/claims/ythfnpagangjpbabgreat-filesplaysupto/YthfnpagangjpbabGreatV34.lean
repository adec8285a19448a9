/-
  Own work: FAlv.
-/
import Derived.Test.YthfnpagangjpbabGreatV31
namespace Go.Proofs.YthfnpagangjpbabGreat
open Go.RowKit
open Rc
attribute [local go_sem ↓] Go.wp_at_zero Go.wp_at_succ
set_option maxRecDepth 100000 in
set_option maxHeartbeats 4000000 in
theorem falive_any (w : World) : Calls Tryz.prog 5 #[] w fun e w' => e = .returned (.bool true) ∧ Below w.heap.size w w' := by
  obtain ⟨D1, D2, D4, D5, hA⟩ := al_data
  have HN : Hid (Calls Tryz.prog 16 #[.int .i64 100000] w fun e w' => ∃ p, e = .returned (.pointer (some ⟨p, 0, none⟩)) ∧ Nw w w' p (newD 100000)) := (new_any w 100000 100000 rfl (by decide)).mono fun e w' z => by
    obtain ⟨p, S0, z1, z2, z3, z4⟩ := z
    exact ⟨p, z1, S0, z2, z3, z4⟩
  have HO1 : Hid (∀ W p, Nw w W p (newD 100000) → Calls Tryz.prog 20 #[.pointer (some ⟨p, 0, none⟩), .int .i64 2] W fun e w' => ∃ q, e = .returned (.tuple #[.pointer (some ⟨q, 0, none⟩), .int .i64 0]) ∧ Ms w w' q p D1 (sA 2 [])) := fun W p h => h.open1 hA.r0 2 hA.o1
  have HAc : Hid (∀ W q p, Ms w W q p D1 (sA 2 []) → Calls Tryz.prog 21 #[.pointer (some ⟨p, 0, none⟩)] W fun e w' => e = .returned (.int .i64 3) ∧ w' = W) := fun W q p h => by
    obtain ⟨S0, h1, _⟩ := h.nw
    have := h1.acts
    rw [hA.a1] at this
    exact this
  have HP1 : Hid (∀ W q p, Ms w W q p D1 (sA 2 []) → Calls Tryz.prog 22 #[.pointer (some ⟨q, 0, none⟩), .string ⟨#[97]⟩, .slice (some ⟨W.heap.size, 0, none⟩) 1 1] (W.alloc (.cells #[.string ⟨#[97, 97]⟩] 9)) fun e w' => e = .returned (.int .i64 0) ∧ Ms w w' q p D2 (sA 2 ([] ++ [al1]))) := fun W q p h => Ms.add (MdS.next h (bal (Below.refl _ _) _)) hA.r1 ⟨#[97]⟩ (by decide) _ _ 0 1 1 _ (rds_one W ⟨#[97, 97]⟩ (by decide)) (by decide) 0 hA.p1
  have HP2 : Hid (∀ W q p, Ms w W q p D2 (sA 2 ([] ++ [al1])) → Calls Tryz.prog 22 #[.pointer (some ⟨q, 0, none⟩), .string ⟨#[98]⟩, .slice (some ⟨W.heap.size, 0, none⟩) 1 1] (W.alloc (.cells #[.string ⟨#[98, 98]⟩] 9)) fun e w' => e = .returned (.int .i64 192) ∧ Ms w w' q p D2 (sA 2 ([] ++ [al1]))) := fun W q p h => Ms.add (MdS.next h (bal (Below.refl _ _) _)) hA.r2 ⟨#[98]⟩ (by decide) _ _ 0 1 1 _ (rds_one W ⟨#[98, 98]⟩ (by decide)) (by decide) 192 hA.p2
  have HP3 : Hid (∀ W q p, Ms w W q p D2 (sA 2 ([] ++ [al1])) → Calls Tryz.prog 22 #[.pointer (some ⟨q, 0, none⟩), .string ⟨#[98]⟩, .slice (some ⟨W.heap.size, 0, none⟩) 2 2] (W.alloc (.cells #[.string ⟨#[98, 98]⟩, .string ⟨#[97, 98]⟩] 9)) fun e w' => e = .returned (.int .i64 0) ∧ Ms w w' q p D4 (sA 2 (([] ++ [al1]) ++ [al2]))) := fun W q p h => Ms.add (MdS.next h (bal (Below.refl _ _) _)) hA.r2 ⟨#[98]⟩ (by decide) _ _ 0 2 2 _ (rds_two W ⟨#[98, 98]⟩ ⟨#[97, 98]⟩ (by decide) (by decide)) (by decide) 0 hA.p3
  obtain ⟨S4, hS4⟩ : ∃ S, sA 2 (([] ++ [al1]) ++ [al2]) = S := ⟨_, rfl⟩
  have HI1 : Hid (∀ W q p, Ms w W q p D4 S4 → Calls Tryz.prog 10 #[.pointer (some ⟨q, 0, none⟩), .int .u64 1] W fun e w' => e = .returned (.tuple #[.string ⟨#[98]⟩, .int .i64 0]) ∧ Ms w w' q p D4 S4) := fun W q p h => by rw [← hS4] at h ⊢; exact h.item 1 (by decide) _ _ _ hA.i1 rfl
  have HN2 : Hid (∀ W q p, Ms w W q p D4 S4 → Calls Tryz.prog 12 #[.pointer (some ⟨q, 0, none⟩), .int .u64 2] W fun e w' => e = .returned (.tuple #[.string ⟨#[97, 98]⟩, .int .i64 0]) ∧ Ms w w' q p D4 S4) := fun W q p h => by rw [← hS4] at h ⊢; exact h.node 2 (by decide) _ _ _ hA.n2 rfl
  have HI2 : Hid (∀ W q p, Ms w W q p D4 S4 → Calls Tryz.prog 10 #[.pointer (some ⟨q, 0, none⟩), .int .u64 2] W fun e w' => e = .returned (.tuple #[.string ⟨#[]⟩, .int .i64 31]) ∧ Ms w w' q p D4 S4) := fun W q p h => by rw [← hS4] at h ⊢; exact h.item 2 (by decide) _ _ _ hA.i2 rfl
  have HSz : Hid (∀ D W q p, Ms w W q p D S4 → Calls Tryz.prog 14 #[.pointer (some ⟨q, 0, none⟩)] W fun e w' => e = .returned (.int .u64 2) ∧ w' = W) := fun D W q p h => h.size 2 (by rw [← hS4]; exact hA.sz)
  have HLm : Hid (∀ W q p, Ms w W q p D4 S4 → Calls Tryz.prog 15 #[.pointer (some ⟨q, 0, none⟩)] W fun e w' => e = .returned (.bool false) ∧ w' = W) := fun W q p h => h.lame false (by rw [← hS4]; rfl)
  have HO3 : Hid (∀ W p, Nw w W p D4 → Calls Tryz.prog 20 #[.pointer (some ⟨p, 0, none⟩), .int .i64 3] W fun e w' => e = .returned (.tuple #[.pointer none, .int .i64 190]) ∧ Nw w w' p D4) := fun W p h => h.open0 hA.r4 3 190 hA.o3
  have HO0 : Hid (∀ W p, Nw w W p D4 → Calls Tryz.prog 20 #[.pointer (some ⟨p, 0, none⟩), .int .i64 0] W fun e w' => e = .returned (.tuple #[.pointer none, .int .i64 70]) ∧ Nw w w' p D4) := fun W p h => h.open0 hA.r4 0 70 hA.o0
  have HO2 : Hid (∀ W p, Nw w W p D4 → Calls Tryz.prog 20 #[.pointer (some ⟨p, 0, none⟩), .int .i64 2] W fun e w' => ∃ q, e = .returned (.tuple #[.pointer (some ⟨q, 0, none⟩), .int .i64 0]) ∧ Ms w w' q p D5 S4) := fun W p h => by rw [← hS4]; exact h.open1 hA.r4 2 hA.o2
  rw [hS4] at HP3
  generalize sA 2 ([] ++ [al1]) = S2 at *
  generalize sA 2 ([] : List It) = S1 at *
  clear hA hS4
  go_enter Tryz.func5, Tryz.ntmps5
  go_wp2_with (first
    | (go_at_call 16; (with_reducible refine HN.out.mono ?_); rintro e w1 ⟨p, rfl, t1⟩)
    | (go_at_call 20; (with_reducible refine (HO1.out _ _ t1).mono ?_); rintro e w2 ⟨q, rfl, t2⟩)
    | (go_at_call 21; (with_reducible refine (HAc.out _ _ _ t2).mono ?_); rintro e w3 ⟨rfl, rfl⟩)
    | (go_at_call 22; (with_reducible refine (HP1.out _ _ _ t2).mono ?_); rintro e w4 ⟨rfl, t4⟩)
    | (go_at_call 22; (with_reducible refine (HP2.out _ _ _ t4).mono ?_); rintro e w5 ⟨rfl, t5⟩)
    | (go_at_call 22; (with_reducible refine (HP3.out _ _ _ t5).mono ?_); rintro e w6 ⟨rfl, t6⟩)
    | (go_at_call 10; (with_reducible refine (HI1.out _ _ _ t6).mono ?_); rintro e w7 ⟨rfl, t7⟩)
    | (go_at_call 12; (with_reducible refine (HN2.out _ _ _ t7).mono ?_); rintro e w8 ⟨rfl, t8⟩)
    | (go_at_call 10; (with_reducible refine (HI2.out _ _ _ t8).mono ?_); rintro e w9 ⟨rfl, t9⟩)
    | (go_at_call 14; (with_reducible refine (HSz.out _ _ _ _ t9).mono ?_); rintro e wa ⟨rfl, rfl⟩)
    | (go_at_call 15; (with_reducible refine (HLm.out _ _ _ t9).mono ?_); rintro e wa ⟨rfl, rfl⟩)
    | (go_at_call 20; (with_reducible refine (HO3.out _ _ t9.nw).mono ?_); rintro e wb ⟨rfl, tb⟩)
    | (go_at_call 20; (with_reducible refine (HO0.out _ _ tb).mono ?_); rintro e wc ⟨rfl, tc⟩)
    | (go_at_call 20; (with_reducible refine (HO2.out _ _ tc).mono ?_); rintro e wd ⟨q2, rfl, td⟩)
    | (go_at_call 14; (with_reducible refine (HSz.out _ _ _ _ td).mono ?_); rintro e we ⟨rfl, rfl⟩))
  go_ret
  exact ⟨rfl, td.below⟩
end Go.Proofs.YthfnpagangjpbabGreat
