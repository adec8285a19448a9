/-
  The walk of HashBegins. Own work.
-/
import Derived.Test.YtelbnmfdeibdaaaDoorHWalkD
import Derived.Test.YtelbnmfdeibdaaaDoorHRefA
namespace Go.Proofs.YtelbnmfdeibdaaaDoor
open Go.RowKit
attribute [local go_sem ↓] Go.wp_at_zero Go.wp_at_succ
theorem dg_begin {c c' : Nat} (h : c ≤ c') (t : ByteArray) : (dg c' t).extract 0 c = dg c t := by
  unfold dg
  rw [ByteArray.extract_extract]
  congr 1
  omega
theorem dg_all (t : ByteArray) : dg (clk 32) t = shaS RS (tB t) := by
  rw [dg, show clk 32 = 32 from rfl]
  have := ByteArray.extract_zero_size (b := shaS RS (tB t))
  rwa [shaS_size] at this
theorem clk_in {k : Int} (h1 : ¬ k < 1) (h2 : ¬ 32 < k) : (clk k : Int) = k := by
  unfold clk
  rw [if_neg h1, if_neg h2]; omega
set_option maxRecDepth 100000 in
set_option maxHeartbeats 4000000 in
theorem begins_walk (w : World) (ht : Tb w) (hr : Tr w) (k j : Int) (t : ByteArray) (hs : t.size ≤ 140737488351232) :
    Calls Tryd.prog 5 #[.int .i64 k, .int .i64 j, .string t] w fun e w' => e = .returned (.bool true) ∧ Below w.heap.size w w' := by
  have HA : Hid (∀ W, Below w.heap.size w W → Calls Tryd.prog 8 #[] W fun e w' => e = .returned (.bool true) ∧ Below W.heap.size W w') := fun W hb => alive_any W (ht.next hb)
  obtain ⟨q, hq⟩ : ∃ q, IntKind.i64.wrap (-k) = q := ⟨_, rfl⟩
  obtain ⟨X, hX⟩ : ∃ X, dg (clk k) t = X := ⟨_, rfl⟩
  obtain ⟨Y, hY⟩ : ∃ Y, dg (clk j) t = Y := ⟨_, rfl⟩
  obtain ⟨Z, hZ⟩ : ∃ Z, dg (clk 32) t = Z := ⟨_, rfl⟩
  obtain ⟨V, hV⟩ : ∃ V, dg (clk q) t = V := ⟨_, rfl⟩
  have HO1 : Hid (∀ W, Below w.heap.size w W → Calls Tryd.prog 10 #[.int .i64 k, .string t] W fun e w' => e = .returned (.string X) ∧ Below W.heap.size W w') := fun W h => hof_any W (ht.next h) k t (by omega) X hX
  have HO2 : Hid (∀ W, Below w.heap.size w W → Calls Tryd.prog 10 #[.int .i64 j, .string t] W fun e w' => e = .returned (.string Y) ∧ Below W.heap.size W w') := fun W h => hof_any W (ht.next h) j t (by omega) Y hY
  have HO3 : Hid (∀ W, Below w.heap.size w W → Calls Tryd.prog 10 #[.int .i64 32, .string t] W fun e w' => e = .returned (.string Z) ∧ Below W.heap.size W w') := fun W h => hof_any W (ht.next h) 32 t (by omega) Z hZ
  have HO4 : Hid (∀ W, Below w.heap.size w W → Calls Tryd.prog 10 #[.int .i64 q, .string t] W fun e w' => e = .returned (.string V) ∧ Below W.heap.size W w') := fun W h => hof_any W (ht.next h) q t (by omega) V hV
  have HRf : Hid (∀ W, Below w.heap.size w W → Calls Tryd.prog 13 #[.slice (some ⟨W.heap.size, 0, none⟩) 1 1] (W.alloc (.cells #[.string t] 9)) fun e w' => e = .returned (.string Z) ∧ Below W.heap.size W w') := fun W h => ref_one W (hr.next h) t (by omega) Z (by rw [← hZ, dg_all])
  have zX : X.size = clk k := by rw [← hX]; exact dg_size (clk_le k) t
  have zY : Y.size = clk j := by rw [← hY]; exact dg_size (clk_le j) t
  have zZ : Z.size = 32 := by rw [← hZ]; exact dg_size (clk_le 32) t
  have zV : V.size = clk q := by rw [← hV]; exact dg_size (clk_le q) t
  have hv := clk_ge q
  have hv' : (1 : Int) ≤ (clk q : Int) := by omega
  have hc := clk_le k
  have hc' := clk_le j
  have hK : (k < 1) ∨ (32 < k) ∨ (¬ (k < 1) ∧ ¬ (32 < k) ∧ (clk k : Int) = k) := by
    by_cases h1 : k < 1
    · exact .inl h1
    · by_cases h2 : 32 < k
      · exact .inr (.inl h2)
      · exact .inr (.inr ⟨h1, h2, clk_in h1 h2⟩)
  have b1 : clk k ≤ clk j → Y.extract 0 (clk k) = X := fun h => by rw [← hX, ← hY]; exact dg_begin h t
  have b2 : clk j ≤ clk k → X.extract 0 (clk j) = Y := fun h => by rw [← hX, ← hY]; exact dg_begin h t
  have b3 : Z.extract 0 (clk k) = X := by rw [← hX, ← hZ]; exact dg_begin (show clk k ≤ clk 32 from hc) t
  have b4 : Z.extract 0 (clk j) = Y := by rw [← hY, ← hZ]; exact dg_begin (show clk j ≤ clk 32 from hc') t
  have hb := Below.refl w.heap.size w
  generalize clk k = c at *
  generalize clk j = c' at *
  generalize clk q = v at *
  have e1 : (c : Int) ≤ 32 := by omega
  have e2 : (c' : Int) ≤ 32 := by omega
  have e3 : (0 : Int) ≤ (c : Int) := by omega
  have e4 : (0 : Int) ≤ (c' : Int) := by omega
  clear hX hY hZ hV ht hr hs hc hc' hv
  by_cases hlt : c' < c
  · have h5 : (c' : Int) < (c : Int) := by omega
    have h6 : (c' : Int) ≤ (c : Int) := by omega
    replace b2 := b2 (by omega)
    clear b1 b4 hlt
    go_enter Tryd.func5, Tryd.ntmps5
    rcases hK with h | h | h
    · have h1 : ¬ (1 ≤ k) := by omega
      go_wp2_with (first
            | (go_at_call 8; with_reducible refine (HA.out _ hb).mono ?_; rintro e w1 ⟨rfl, hb1⟩; replace hb := bnext hb hb1; clear hb1)
            | (go_at_call 10; with_reducible refine (HO1.out _ hb).mono ?_; rintro e w1 ⟨rfl, hb1⟩; replace hb := bnext hb hb1; clear hb1)
            | (go_at_call 10; with_reducible refine (HO2.out _ hb).mono ?_; rintro e w1 ⟨rfl, hb1⟩; replace hb := bnext hb hb1; clear hb1)
            | (go_at_call 10; with_reducible refine (HO3.out _ hb).mono ?_; rintro e w1 ⟨rfl, hb1⟩; replace hb := bnext hb hb1; clear hb1)
            | (go_at_call 10; with_reducible refine (HO4.out _ hb).mono ?_; rintro e w1 ⟨rfl, hb1⟩; replace hb := bnext hb hb1; clear hb1)
            | (go_at_call 13; with_reducible refine (HRf.out _ hb).mono ?_; rintro e w1 ⟨rfl, hb1⟩; replace hb := bnext hb hb1; clear hb1))
      go_ret
      exact ⟨rfl, hb⟩
    · have h1 : ¬ (k < 1) := by omega
      go_wp2_with (first
            | (go_at_call 8; with_reducible refine (HA.out _ hb).mono ?_; rintro e w1 ⟨rfl, hb1⟩; replace hb := bnext hb hb1; clear hb1)
            | (go_at_call 10; with_reducible refine (HO1.out _ hb).mono ?_; rintro e w1 ⟨rfl, hb1⟩; replace hb := bnext hb hb1; clear hb1)
            | (go_at_call 10; with_reducible refine (HO2.out _ hb).mono ?_; rintro e w1 ⟨rfl, hb1⟩; replace hb := bnext hb hb1; clear hb1)
            | (go_at_call 10; with_reducible refine (HO3.out _ hb).mono ?_; rintro e w1 ⟨rfl, hb1⟩; replace hb := bnext hb hb1; clear hb1)
            | (go_at_call 10; with_reducible refine (HO4.out _ hb).mono ?_; rintro e w1 ⟨rfl, hb1⟩; replace hb := bnext hb hb1; clear hb1)
            | (go_at_call 13; with_reducible refine (HRf.out _ hb).mono ?_; rintro e w1 ⟨rfl, hb1⟩; replace hb := bnext hb hb1; clear hb1))
      go_ret
      exact ⟨rfl, hb⟩
    · obtain ⟨h1, h2, rfl⟩ := h
      go_wp2_with (first
            | (go_at_call 8; with_reducible refine (HA.out _ hb).mono ?_; rintro e w1 ⟨rfl, hb1⟩; replace hb := bnext hb hb1; clear hb1)
            | (go_at_call 10; with_reducible refine (HO1.out _ hb).mono ?_; rintro e w1 ⟨rfl, hb1⟩; replace hb := bnext hb hb1; clear hb1)
            | (go_at_call 10; with_reducible refine (HO2.out _ hb).mono ?_; rintro e w1 ⟨rfl, hb1⟩; replace hb := bnext hb hb1; clear hb1)
            | (go_at_call 10; with_reducible refine (HO3.out _ hb).mono ?_; rintro e w1 ⟨rfl, hb1⟩; replace hb := bnext hb hb1; clear hb1)
            | (go_at_call 10; with_reducible refine (HO4.out _ hb).mono ?_; rintro e w1 ⟨rfl, hb1⟩; replace hb := bnext hb hb1; clear hb1)
            | (go_at_call 13; with_reducible refine (HRf.out _ hb).mono ?_; rintro e w1 ⟨rfl, hb1⟩; replace hb := bnext hb hb1; clear hb1))
      go_ret
      exact ⟨rfl, hb⟩
  · have h5 : ¬ ((c' : Int) < (c : Int)) := by omega
    have h6 : (c : Int) ≤ (c' : Int) := by omega
    replace b1 := b1 (by omega)
    clear b2 b3 hlt
    go_enter Tryd.func5, Tryd.ntmps5
    rcases hK with h | h | h
    · have h1 : ¬ (1 ≤ k) := by omega
      go_wp2_with (first
            | (go_at_call 8; with_reducible refine (HA.out _ hb).mono ?_; rintro e w1 ⟨rfl, hb1⟩; replace hb := bnext hb hb1; clear hb1)
            | (go_at_call 10; with_reducible refine (HO1.out _ hb).mono ?_; rintro e w1 ⟨rfl, hb1⟩; replace hb := bnext hb hb1; clear hb1)
            | (go_at_call 10; with_reducible refine (HO2.out _ hb).mono ?_; rintro e w1 ⟨rfl, hb1⟩; replace hb := bnext hb hb1; clear hb1)
            | (go_at_call 10; with_reducible refine (HO3.out _ hb).mono ?_; rintro e w1 ⟨rfl, hb1⟩; replace hb := bnext hb hb1; clear hb1)
            | (go_at_call 10; with_reducible refine (HO4.out _ hb).mono ?_; rintro e w1 ⟨rfl, hb1⟩; replace hb := bnext hb hb1; clear hb1)
            | (go_at_call 13; with_reducible refine (HRf.out _ hb).mono ?_; rintro e w1 ⟨rfl, hb1⟩; replace hb := bnext hb hb1; clear hb1))
      go_ret
      exact ⟨rfl, hb⟩
    · have h1 : ¬ (k < 1) := by omega
      go_wp2_with (first
            | (go_at_call 8; with_reducible refine (HA.out _ hb).mono ?_; rintro e w1 ⟨rfl, hb1⟩; replace hb := bnext hb hb1; clear hb1)
            | (go_at_call 10; with_reducible refine (HO1.out _ hb).mono ?_; rintro e w1 ⟨rfl, hb1⟩; replace hb := bnext hb hb1; clear hb1)
            | (go_at_call 10; with_reducible refine (HO2.out _ hb).mono ?_; rintro e w1 ⟨rfl, hb1⟩; replace hb := bnext hb hb1; clear hb1)
            | (go_at_call 10; with_reducible refine (HO3.out _ hb).mono ?_; rintro e w1 ⟨rfl, hb1⟩; replace hb := bnext hb hb1; clear hb1)
            | (go_at_call 10; with_reducible refine (HO4.out _ hb).mono ?_; rintro e w1 ⟨rfl, hb1⟩; replace hb := bnext hb hb1; clear hb1)
            | (go_at_call 13; with_reducible refine (HRf.out _ hb).mono ?_; rintro e w1 ⟨rfl, hb1⟩; replace hb := bnext hb hb1; clear hb1))
      go_ret
      exact ⟨rfl, hb⟩
    · obtain ⟨h1, h2, rfl⟩ := h
      go_wp2_with (first
            | (go_at_call 8; with_reducible refine (HA.out _ hb).mono ?_; rintro e w1 ⟨rfl, hb1⟩; replace hb := bnext hb hb1; clear hb1)
            | (go_at_call 10; with_reducible refine (HO1.out _ hb).mono ?_; rintro e w1 ⟨rfl, hb1⟩; replace hb := bnext hb hb1; clear hb1)
            | (go_at_call 10; with_reducible refine (HO2.out _ hb).mono ?_; rintro e w1 ⟨rfl, hb1⟩; replace hb := bnext hb hb1; clear hb1)
            | (go_at_call 10; with_reducible refine (HO3.out _ hb).mono ?_; rintro e w1 ⟨rfl, hb1⟩; replace hb := bnext hb hb1; clear hb1)
            | (go_at_call 10; with_reducible refine (HO4.out _ hb).mono ?_; rintro e w1 ⟨rfl, hb1⟩; replace hb := bnext hb hb1; clear hb1)
            | (go_at_call 13; with_reducible refine (HRf.out _ hb).mono ?_; rintro e w1 ⟨rfl, hb1⟩; replace hb := bnext hb hb1; clear hb1))
      go_ret
      exact ⟨rfl, hb⟩
end Go.Proofs.YtelbnmfdeibdaaaDoor
