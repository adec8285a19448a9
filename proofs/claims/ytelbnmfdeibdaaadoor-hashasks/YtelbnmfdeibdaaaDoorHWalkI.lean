/-
  The walk of HashAsks. Own work.
-/
import Derived.Test.YtelbnmfdeibdaaaDoorHWalkH
import Derived.Test.YtelbnmfdeibdaaaDoorHRefB
namespace Go.Proofs.YtelbnmfdeibdaaaDoor
open Go.RowKit
attribute [local go_sem ↓] Go.wp_at_zero Go.wp_at_succ
theorem wrap_some (x : Int) : ∃ N : Nat, IntKind.u64.wrap x = (N : Int) ∧ N < 18446744073709551616 := by
  refine ⟨(IntKind.u64.wrap x).toNat, ?_, ?_⟩ <;> simp only [IntKind.wrap, IntKind.signed, IntKind.bits] <;> simp <;> omega
set_option maxRecDepth 100000 in
set_option maxHeartbeats 4000000 in
theorem asks_walk (w : World) (ht : Tb w) (hr : Tr w) (k : Int) (a b : ByteArray) (ha : a.size ≤ 140737488351232) (hb : b.size ≤ 140737488351232) (ao : Option Addr) (pb off len cap : Nat) (ss : List ByteArray) (hrd : RdS w ao pb off len ss) (hsz : ∀ s ∈ ss, s.size ≤ 140737488351232) (hmx : len ≤ 8796093021952) (hn : ao = none → cap = 0) :
    Calls Tryd.prog 6 #[.int .i64 k, .agg #[.string a, .string b], .slice ao len cap] w fun e w' => e = .returned (.bool true) ∧ Below w.heap.size w w' := by
  have HA : Hid (∀ W, Below w.heap.size w W → Calls Tryd.prog 8 #[] W fun e w' => e = .returned (.bool true) ∧ Below W.heap.size W w') := fun W hb => alive_any W (ht.next hb)
  have HRm : Hid (∀ W, Below w.heap.size w W → Calls Tryd.prog 14 #[.slice ao len cap] W fun e w' => ∃ g cap', e = .returned (.slice (some ⟨g, 0, none⟩) len cap') ∧ len + 1 ≤ cap' ∧ w'.rangeAt g 0 ((ss ++ [markB]).map Value.string) ∧ Below W.heap.size W w') := fun W h => roomy_any W ao pb off len cap ss (hrd.next h (Nat.le_refl _)) hmx hn
  have hB := Below.refl w.heap.size w
  obtain ⟨N, eN, hN⟩ := wrap_some (IntKind.u64.wrap (IntKind.u64.wrap (a.size : Int) * 72057594037927937) + IntKind.u64.wrap (b.size : Int))
  have HT : Hid (Tb w ∧ Tr w ∧ RdS w ao pb off len ss ∧ (∀ s ∈ ss, s.size ≤ 140737488351232)) := ⟨ht, hr, hrd, hsz⟩
  have HS : Hid (a.size ≤ 140737488351232 ∧ b.size ≤ 140737488351232 ∧ N < 18446744073709551616) := ⟨ha, hb, hN⟩
  clear ht hr hrd hsz ha hb hN
  go_enter Tryd.func6, Tryd.ntmps6
  go_upto_region 3 with (go_at_call 8; with_reducible refine (HA.out _ (bal hB _)).mono ?_; rintro e w1 ⟨rfl, hb1⟩)
  have c0 : w1.cell? ⟨w.heap.size, 0, none⟩ = some (.string a) := by
    rw [hb1.cell (p := ⟨w.heap.size, 0, none⟩) (by simp), World.cell?_alloc_new]; rfl
  have c1 : w1.cell? ⟨w.heap.size, 1, none⟩ = some (.string b) := by
    rw [hb1.cell (p := ⟨w.heap.size, 1, none⟩) (by simp), World.cell?_alloc_new]; rfl
  replace hB := bnext (bal hB _) hb1
  clear hb1 HA
  go_region
  replace hB := hB.drew
  clear c0 c1
  generalize w1.drew = w2 at *
  go_upto_region 6 with (go_at_call 14; with_reducible refine (HRm.out _ hB).mono ?_; rintro e w3 ⟨g, cap', rfl, hc, hg, hb1⟩)
  replace hB := bnext hB hb1
  clear hb1 HRm eN
  obtain ⟨ht, hr, hrd, hsz⟩ := HT.out
  obtain ⟨ha, hb, hN⟩ := HS.out
  have TB := fun W (h : Below w3.heap.size w3 W) => ht.next (bnext hB h)
  have TR := fun W (h : Below w3.heap.size w3 W) => hr.next (bnext hB h)
  have RP := fun W (h : Below w3.heap.size w3 W) => hrd.next (bnext hB h) (Nat.le_refl _)
  have RG := fun W (h : Below w3.heap.size w3 W) => range_below h (range_lt hg (by simp)) hg
  have RL : ∀ W, Below w3.heap.size w3 W → RdS W (some ⟨g, 0, none⟩) g 0 len ss := fun W h => by
    have := room_rds (RG W h) hrd.sz
    rwa [hrd.hl] at this
  obtain ⟨T1, h1⟩ : ∃ t, leafT a = t := ⟨_, rfl⟩
  obtain ⟨T2, h2⟩ : ∃ t, nodeT a b = t := ⟨_, rfl⟩
  obtain ⟨T3, h3⟩ : ∃ t, bagT a b = t := ⟨_, rfl⟩
  obtain ⟨T4, h4⟩ : ∃ t, rootT N a = t := ⟨_, rfl⟩
  obtain ⟨D1, d1⟩ : ∃ t, dg (clk k) a = t := ⟨_, rfl⟩
  obtain ⟨D2, d2⟩ : ∃ t, dg (clk k) (leafT a) = t := ⟨_, rfl⟩
  obtain ⟨D3, d3⟩ : ∃ t, dg (clk k) (nodeT a b) = t := ⟨_, rfl⟩
  obtain ⟨D4, d4⟩ : ∃ t, bagL (clk k) ss = t := ⟨_, rfl⟩
  obtain ⟨D5, d5⟩ : ∃ t, dg (clk k) (rootT N (bagL (clk k) ss)) = t := ⟨_, rfl⟩
  obtain ⟨C, hC⟩ : ∃ C, chk k = C := ⟨_, rfl⟩
  have J1 := fun W => check_any W k
  have J2 := fun W => refcheck_any W k
  rw [hC] at J1 J2
  have HJ1 := hide J1
  have HJ2 := hide J2
  have K1 : Hid (∀ W, Calls Tryd.prog 17 #[.string a] W fun e w' => e = .returned (.string T1) ∧ Below W.heap.size W w') := fun W => by have := leaft_any W a (by omega); rw [h1] at this; exact this
  have K2 : Hid (∀ W, Calls Tryd.prog 18 #[.string a] W fun e w' => e = .returned (.string T1) ∧ Below W.heap.size W w') := fun W => by have := refleaft_any W a (by omega); rw [h1] at this; exact this
  have K3 : Hid (∀ W, Calls Tryd.prog 19 #[.string a, .string b] W fun e w' => e = .returned (.string T2) ∧ Below W.heap.size W w') := fun W => by have := nodet_any W a b (by omega) (by omega); rw [h2] at this; exact this
  have K4 : Hid (∀ W, Calls Tryd.prog 20 #[.string a, .string b] W fun e w' => e = .returned (.string T2) ∧ Below W.heap.size W w') := fun W => by have := refnodet_any W a b (by omega) (by omega); rw [h2] at this; exact this
  have K5 : Hid (∀ W, Calls Tryd.prog 11 #[.string a, .string b] W fun e w' => e = .returned (.string T3) ∧ Below W.heap.size W w') := fun W => bagt_any W a b (by omega) (by omega) T3 h3
  have K6 : Hid (∀ W, Calls Tryd.prog 21 #[.string a, .string b] W fun e w' => e = .returned (.string T3) ∧ Below W.heap.size W w') := fun W => refbagt_any W a b (by omega) (by omega) T3 h3
  have K7 : Hid (∀ W, Calls Tryd.prog 7 #[.int .u64 (N : Int), .string a] W fun e w' => e = .returned (.string T4) ∧ Below W.heap.size W w') := fun W => roott_any W N a (by omega) T4 h4
  have K8 : Hid (∀ W, Calls Tryd.prog 22 #[.int .u64 (N : Int), .string a] W fun e w' => e = .returned (.string T4) ∧ Below W.heap.size W w') := fun W => refroott_any W N hN a (by omega) T4 h4
  have K9 : Hid (∀ W, Below w3.heap.size w3 W → Calls Tryd.prog 10 #[.int .i64 k, .string a] W fun e w' => e = .returned (.string D1) ∧ Below W.heap.size W w') := fun W h => hof_any W (TB W h) k a (by omega) D1 d1
  have K10 : Hid (∀ W, Below w3.heap.size w3 W → Calls Tryd.prog 23 #[.int .i64 k, .string a] W fun e w' => e = .returned (.string D1) ∧ Below W.heap.size W w') := fun W h => refof_any W (TR W h) k a (by omega) D1 d1
  have K11 : Hid (∀ W, Below w3.heap.size w3 W → Calls Tryd.prog 24 #[.int .i64 k, .string a] W fun e w' => e = .returned (.string D2) ∧ Below W.heap.size W w') := fun W h => leaf_any W (TB W h) k a (by omega) D2 d2
  have K12 : Hid (∀ W, Below w3.heap.size w3 W → Calls Tryd.prog 25 #[.int .i64 k, .string a] W fun e w' => e = .returned (.string D2) ∧ Below W.heap.size W w') := fun W h => refleaf_any W (TR W h) k a (by omega) D2 d2
  have K13 : Hid (∀ W, Below w3.heap.size w3 W → Calls Tryd.prog 26 #[.int .i64 k, .string a, .string b] W fun e w' => e = .returned (.string D3) ∧ Below W.heap.size W w') := fun W h => node_any W (TB W h) k a b (by omega) (by omega) D3 d3
  have K14 : Hid (∀ W, Below w3.heap.size w3 W → Calls Tryd.prog 27 #[.int .i64 k, .string a, .string b] W fun e w' => e = .returned (.string D3) ∧ Below W.heap.size W w') := fun W h => refnode_any W (TR W h) k a b (by omega) (by omega) D3 d3
  have K15 : Hid (∀ W, Below w3.heap.size w3 W → Calls Tryd.prog 9 #[.int .i64 k, .slice (some ⟨g, 0, none⟩) len cap'] W fun e w' => e = .returned (.string D4) ∧ Below W.heap.size W w') := fun W h => bagged_any W (TB W h) k _ g 0 len cap' ss (RL W h) hsz (by omega) D4 d4
  have K16 : Hid (∀ W, Below w3.heap.size w3 W → Calls Tryd.prog 28 #[.int .i64 k, .slice ao len cap] W fun e w' => e = .returned (.string D4) ∧ Below W.heap.size W w') := fun W h => refbagged_any W (TR W h) k _ pb off len cap ss (RP W h) hsz (by omega) D4 d4
  have K17 : Hid (∀ W, Below w3.heap.size w3 W → Calls Tryd.prog 12 #[.int .i64 k, .int .u64 (N : Int), .slice (some ⟨g, 0, none⟩) len cap'] W fun e w' => e = .returned (.string D5) ∧ Below W.heap.size W w') := fun W h => root_any W (TB W h) k N _ g 0 len cap' ss (RL W h) hsz (by omega) D5 d5
  have K18 : Hid (∀ W, Below w3.heap.size w3 W → Calls Tryd.prog 29 #[.int .i64 k, .int .u64 (N : Int), .slice ao len cap] W fun e w' => e = .returned (.string D5) ∧ Below W.heap.size W w') := fun W h => refroot_any W (TR W h) k N hN _ pb off len cap ss (RP W h) hsz (by omega) D5 d5
  have K19 : Hid (∀ W, Below w3.heap.size w3 W → Calls Tryd.prog 30 #[.slice (some ⟨g, 0, none⟩) len cap', .slice ao len cap] W fun e w' => e = .returned (.bool true) ∧ Below W.heap.size W w') := fun W h => whole_any W ao pb off len cap ss (RP W h) hmx g cap' hc (RG W h)
  have HB : Hid (∀ W, Below w3.heap.size w3 W → Below w.heap.size w W) := fun W h => bnext hB h
  clear HT HS ht hr hrd hsz ha hb hN TB TR RP RG RL h1 h2 h3 h4 d1 d2 d3 d4 d5 hC J1 J2 hg hB
  have hb := Below.refl w3.heap.size w3
  go_wp2_with (first
    | (go_at_call 15; with_reducible refine (HJ1.out _).mono ?_; rintro e w1 ⟨rfl, rfl⟩)
    | (go_at_call 16; with_reducible refine (HJ2.out _).mono ?_; rintro e w1 ⟨rfl, rfl⟩)
    | (go_at_call 17; with_reducible refine (K1.out _).mono ?_; rintro e w1 ⟨rfl, hb1⟩; replace hb := bnext hb hb1; clear hb1)
    | (go_at_call 18; with_reducible refine (K2.out _).mono ?_; rintro e w1 ⟨rfl, hb1⟩; replace hb := bnext hb hb1; clear hb1)
    | (go_at_call 19; with_reducible refine (K3.out _).mono ?_; rintro e w1 ⟨rfl, hb1⟩; replace hb := bnext hb hb1; clear hb1)
    | (go_at_call 20; with_reducible refine (K4.out _).mono ?_; rintro e w1 ⟨rfl, hb1⟩; replace hb := bnext hb hb1; clear hb1)
    | (go_at_call 11; with_reducible refine (K5.out _).mono ?_; rintro e w1 ⟨rfl, hb1⟩; replace hb := bnext hb hb1; clear hb1)
    | (go_at_call 21; with_reducible refine (K6.out _).mono ?_; rintro e w1 ⟨rfl, hb1⟩; replace hb := bnext hb hb1; clear hb1)
    | (go_at_call 7; with_reducible refine (K7.out _).mono ?_; rintro e w1 ⟨rfl, hb1⟩; replace hb := bnext hb hb1; clear hb1)
    | (go_at_call 22; with_reducible refine (K8.out _).mono ?_; rintro e w1 ⟨rfl, hb1⟩; replace hb := bnext hb hb1; clear hb1)
    | (go_at_call 10; with_reducible refine (K9.out _ hb).mono ?_; rintro e w1 ⟨rfl, hb1⟩; replace hb := bnext hb hb1; clear hb1)
    | (go_at_call 23; with_reducible refine (K10.out _ hb).mono ?_; rintro e w1 ⟨rfl, hb1⟩; replace hb := bnext hb hb1; clear hb1)
    | (go_at_call 24; with_reducible refine (K11.out _ hb).mono ?_; rintro e w1 ⟨rfl, hb1⟩; replace hb := bnext hb hb1; clear hb1)
    | (go_at_call 25; with_reducible refine (K12.out _ hb).mono ?_; rintro e w1 ⟨rfl, hb1⟩; replace hb := bnext hb hb1; clear hb1)
    | (go_at_call 26; with_reducible refine (K13.out _ hb).mono ?_; rintro e w1 ⟨rfl, hb1⟩; replace hb := bnext hb hb1; clear hb1)
    | (go_at_call 27; with_reducible refine (K14.out _ hb).mono ?_; rintro e w1 ⟨rfl, hb1⟩; replace hb := bnext hb hb1; clear hb1)
    | (go_at_call 9; with_reducible refine (K15.out _ hb).mono ?_; rintro e w1 ⟨rfl, hb1⟩; replace hb := bnext hb hb1; clear hb1)
    | (go_at_call 28; with_reducible refine (K16.out _ hb).mono ?_; rintro e w1 ⟨rfl, hb1⟩; replace hb := bnext hb hb1; clear hb1)
    | (go_at_call 12; with_reducible refine (K17.out _ hb).mono ?_; rintro e w1 ⟨rfl, hb1⟩; replace hb := bnext hb hb1; clear hb1)
    | (go_at_call 29; with_reducible refine (K18.out _ hb).mono ?_; rintro e w1 ⟨rfl, hb1⟩; replace hb := bnext hb hb1; clear hb1)
    | (go_at_call 30; with_reducible refine (K19.out _ hb).mono ?_; rintro e w1 ⟨rfl, hb1⟩; replace hb := bnext hb hb1; clear hb1))
  go_ret
  exact ⟨rfl, HB.out _ hb⟩
end Go.Proofs.YtelbnmfdeibdaaaDoor
