/-
  Own work: LKin, LRow.
-/
import Derived.OpenShut
import Derived.Test.YtipcenbndhnnhaaGreatDoorQk36
import Derived.Test.YtipcenbndhnnhaaGreatDoorQk49
namespace Go.Proofs.YtipcenbndhnnhaaGreatDoor
open Go.RowKit
attribute [local go_sem ↓] Go.wp_at_zero Go.wp_at_succ
set_option maxRecDepth 100000 in
set_option maxHeartbeats 2000000 in
theorem kin_walk (w : World) (ht : Tb w) (hr : Tr w) (k : Int) (o1 : Nat) (c1 : ByteArray) (o2 : Nat) (c2 : ByteArray) (s : ByteArray) (hs : s.size ≤ 8796093021952) :
    Calls Tryz.prog 5 #[.int .i64 k, .agg #[.int .u64 (o1 : Int), .string c1, .int .u64 (o2 : Int), .string c2], .string s] w fun e w' => e = .returned (.bool true) ∧ Below w.heap.size w w' := by
  obtain ⟨r, hk1, hk2⟩ := kin_both k o1 c1 o2 c2 s hs
  have hb0 := bal (Below.refl w.heap.size w) (.cells #[.int .u64 (o1 : Int), .string c1, .int .u64 (o2 : Int), .string c2] 51)
  have hq := heap_alloc_new w (.cells #[.int .u64 (o1 : Int), .string c1, .int .u64 (o2 : Int), .string c2] 51)
  obtain ⟨W0, hW0⟩ : ∃ W0, w.alloc (.cells #[.int .u64 (o1 : Int), .string c1, .int .u64 (o2 : Int), .string c2] 51) = W0 := ⟨_, rfl⟩
  rw [hW0] at hb0 hq
  have HA := alive_light W0 (ht.next hb0) (hr.next hb0)
  have HX : Hid (∀ F, Below W0.heap.size W0 F → F.cell? ⟨w.heap.size, 0, none⟩ = some (.int .u64 (o1 : Int)) ∧ F.cell? ⟨w.heap.size, 1, none⟩ = some (.string c1) ∧ F.cell? ⟨w.heap.size, 2, none⟩ = some (.int .u64 (o2 : Int)) ∧ F.cell? ⟨w.heap.size, 3, none⟩ = some (.string c2) ∧ Below w.heap.size w F) := fun F hF => by
    have h := (hF.block w.heap.size (Array.getElem?_eq_some_iff.1 hq).1).trans hq
    exact ⟨by rw [cell_of_row F w.heap.size 0 _ _ (0, 0) h]; rfl, by rw [cell_of_row F w.heap.size 1 _ _ (0, 0) h]; rfl, by rw [cell_of_row F w.heap.size 2 _ _ (0, 0) h]; rfl, by rw [cell_of_row F w.heap.size 3 _ _ (0, 0) h]; rfl, bnext hb0 hF⟩
  have HK1 : Hid (∀ W, Below w.heap.size w W → Calls Tryz.prog 15 #[.int .i64 k, .agg #[.int .u64 (o1 : Int), .string c1], .agg #[.int .u64 (o2 : Int), .string c2], .string s] W fun e w' => e = .returned (.int .i64 r) ∧ Below W.heap.size W w') := fun W hb => hk1 W (ht.next hb)
  have HK2 : Hid (∀ W, Below w.heap.size w W → Calls Tryz.prog 18 #[.int .i64 k, .agg #[.int .u64 (o1 : Int), .string c1], .agg #[.int .u64 (o2 : Int), .string c2], .string s] W fun e w' => e = .returned (.int .i64 r) ∧ Below W.heap.size W w') := fun W hb => hk2 W (hr.next hb)
  clear ht hr hk1 hk2 hb0 hq hs
  go_enter Tryz.func5, Tryz.ntmps5
  go_upto_region 1 with (fail)
  try rw [hW0]
  clear hW0
  go_upto_region 3 with (go_at_call 7; with_reducible refine HA.mono ?_; rintro e w1 ⟨rfl, hb1⟩)
  have HC : Hid (∀ W, Below w1.heap.size w1 W → W.cell? ⟨w.heap.size, 0, none⟩ = some (.int .u64 (o1 : Int)) ∧ W.cell? ⟨w.heap.size, 1, none⟩ = some (.string c1) ∧ W.cell? ⟨w.heap.size, 2, none⟩ = some (.int .u64 (o2 : Int)) ∧ W.cell? ⟨w.heap.size, 3, none⟩ = some (.string c2) ∧ Below w.heap.size w W) := fun W hb => HX.out W (bnext hb1 hb)
  clear HA hb1 HX
  refine wp_region_planI (by kernel_rfl) [9, 10, 11, 12, 13, 14, 15, 16, 17, 18, 19, 20, 21, 22, 23, 6] [] [.int .i64 k, .pointer (some ⟨w.heap.size, 0, none⟩), .agg #[.int .u64 (o1 : Int), .string c1], .pointer (some ⟨w.heap.size, 2, none⟩), .agg #[.int .u64 (o2 : Int), .string c2], .string s, .int .i64 r, .int .i64 k, .pointer (some ⟨w.heap.size, 0, none⟩), .agg #[.int .u64 (o1 : Int), .string c1], .pointer (some ⟨w.heap.size, 2, none⟩), .agg #[.int .u64 (o2 : Int), .string c2], .string s, .int .i64 r, .bool true, .bool true] (by kernel_rfl) rfl (fun j hj => by cases hj) (fun _ W => Below w1.heap.size w1 W) (fun W _ hb => hb) ?step ?fin
  case step =>
    refine ⟨?_, ?_, ?_, ?_, ?_, ?_, ?_, ?_, ?_, ?_, ?_, ?_, ?_, ?_, ?_, ?_, trivial⟩
    · intro L Ac Wc K hI hj hcl hsm dep hK
      have t0 : Ac.tmps.getD 0 undef = .int .i64 k := hsm 0 rfl
      show Oper.wp _ _ Ac Wc K _
      go_simp
      exact hK _ _ (.inr rfl) hI
    · intro L Ac Wc K hI hj hcl hsm dep hK
      have t4 : Ac.tmps.getD 4 undef = .pointer (some ⟨w.heap.size, 0, none⟩) := hsm 4 rfl
      show Oper.wp _ _ Ac Wc K _
      go_simp
      exact hK _ _ (.inr rfl) hI
    · intro L Ac Wc K hI hj hcl hsm dep hK
      have t10 : Ac.tmps.getD 10 undef = .pointer (some ⟨w.heap.size, 0, none⟩) := dep 1 rfl
      show Oper.wp _ _ Ac Wc K _
      obtain ⟨p0, p1, p2, p3, p4⟩ := HC.out Wc hI
      go_simp
      exact hK _ _ (.inr rfl) hI
    · intro L Ac Wc K hI hj hcl hsm dep hK
      have t4 : Ac.tmps.getD 4 undef = .pointer (some ⟨w.heap.size, 0, none⟩) := hsm 4 rfl
      show Oper.wp _ _ Ac Wc K _
      go_simp
      exact hK _ _ (.inr rfl) hI
    · intro L Ac Wc K hI hj hcl hsm dep hK
      have t12 : Ac.tmps.getD 12 undef = .pointer (some ⟨w.heap.size, 2, none⟩) := dep 3 rfl
      show Oper.wp _ _ Ac Wc K _
      obtain ⟨p0, p1, p2, p3, p4⟩ := HC.out Wc hI
      go_simp
      exact hK _ _ (.inr rfl) hI
    · intro L Ac Wc K hI hj hcl hsm dep hK
      have t2 : Ac.tmps.getD 2 undef = .string s := hsm 2 rfl
      show Oper.wp _ _ Ac Wc K _
      go_simp
      exact hK _ _ (.inr rfl) hI
    · intro L Ac Wc K hI hj hcl hsm dep hK
      have t9 : Ac.tmps.getD 9 undef = .int .i64 k := dep 0 rfl
      have t11 : Ac.tmps.getD 11 undef = .agg #[.int .u64 (o1 : Int), .string c1] := dep 2 rfl
      have t13 : Ac.tmps.getD 13 undef = .agg #[.int .u64 (o2 : Int), .string c2] := dep 4 rfl
      have t14 : Ac.tmps.getD 14 undef = .string s := dep 5 rfl
      show Oper.wp _ _ Ac Wc K _
      go_simp
      refine (HK1.out Wc (HC.out Wc hI).2.2.2.2).mono ?_
      rintro e w' ⟨rfl, hb'⟩
      exact hK _ _ (.inr rfl) (bnext hI hb')
    · intro L Ac Wc K hI hj hcl hsm dep hK
      have t0 : Ac.tmps.getD 0 undef = .int .i64 k := hsm 0 rfl
      show Oper.wp _ _ Ac Wc K _
      go_simp
      exact hK _ _ (.inr rfl) hI
    · intro L Ac Wc K hI hj hcl hsm dep hK
      have t4 : Ac.tmps.getD 4 undef = .pointer (some ⟨w.heap.size, 0, none⟩) := hsm 4 rfl
      show Oper.wp _ _ Ac Wc K _
      go_simp
      exact hK _ _ (.inr rfl) hI
    · intro L Ac Wc K hI hj hcl hsm dep hK
      have t17 : Ac.tmps.getD 17 undef = .pointer (some ⟨w.heap.size, 0, none⟩) := dep 8 rfl
      show Oper.wp _ _ Ac Wc K _
      obtain ⟨p0, p1, p2, p3, p4⟩ := HC.out Wc hI
      go_simp
      exact hK _ _ (.inr rfl) hI
    · intro L Ac Wc K hI hj hcl hsm dep hK
      have t4 : Ac.tmps.getD 4 undef = .pointer (some ⟨w.heap.size, 0, none⟩) := hsm 4 rfl
      show Oper.wp _ _ Ac Wc K _
      go_simp
      exact hK _ _ (.inr rfl) hI
    · intro L Ac Wc K hI hj hcl hsm dep hK
      have t19 : Ac.tmps.getD 19 undef = .pointer (some ⟨w.heap.size, 2, none⟩) := dep 10 rfl
      show Oper.wp _ _ Ac Wc K _
      obtain ⟨p0, p1, p2, p3, p4⟩ := HC.out Wc hI
      go_simp
      exact hK _ _ (.inr rfl) hI
    · intro L Ac Wc K hI hj hcl hsm dep hK
      have t2 : Ac.tmps.getD 2 undef = .string s := hsm 2 rfl
      show Oper.wp _ _ Ac Wc K _
      go_simp
      exact hK _ _ (.inr rfl) hI
    · intro L Ac Wc K hI hj hcl hsm dep hK
      have t16 : Ac.tmps.getD 16 undef = .int .i64 k := dep 7 rfl
      have t18 : Ac.tmps.getD 18 undef = .agg #[.int .u64 (o1 : Int), .string c1] := dep 9 rfl
      have t20 : Ac.tmps.getD 20 undef = .agg #[.int .u64 (o2 : Int), .string c2] := dep 11 rfl
      have t21 : Ac.tmps.getD 21 undef = .string s := dep 12 rfl
      show Oper.wp _ _ Ac Wc K _
      go_simp
      refine (HK2.out Wc (HC.out Wc hI).2.2.2.2).mono ?_
      rintro e w' ⟨rfl, hb'⟩
      exact hK _ _ (.inr rfl) (bnext hI hb')
    · intro L Ac Wc K hI hj hcl hsm dep hK
      have t15 : Ac.tmps.getD 15 undef = .int .i64 r := dep 6 rfl
      have t22 : Ac.tmps.getD 22 undef = .int .i64 r := dep 13 rfl
      show Oper.wp _ _ Ac Wc K _
      go_simp
      exact hK _ _ (.inr rfl) hI
    · intro L Ac Wc K hI hj hcl hsm dep hK
      have t23 : Ac.tmps.getD 23 undef = .bool true := dep 14 rfl
      show Oper.wp _ _ Ac Wc K _
      go_simp
      exact hK _ _ (.inr rfl) hI
  case fin =>
    intro L w7 hall hI
    clear hall
    simp only [puts]
    go_simp
    go_wp2
    go_ret
    exact ⟨rfl, (HC.out w7 hI).2.2.2.2⟩
end Go.Proofs.YtipcenbndhnnhaaGreatDoor
namespace Go.Proofs.YtipcenbndhnnhaaGreatDoor
open Go.RowKit
theorem u64_nat {a : Int} (wf : (Lit.int .u64 a).wf = true) : ∃ n : Nat, a = (n : Int) ∧ n < 18446744073709551616 := by
  have := bounds_u64 wf
  exact ⟨a.toNat, by omega, by omega⟩
end Go.Proofs.YtipcenbndhnnhaaGreatDoor
