/-
  Walks of hash's laws: alive, HashNumbers. Own work.
-/
import Derived.Test.YtelbnmfdeibdaaaDoorHWalkC
namespace Go.Proofs.YtelbnmfdeibdaaaDoor
open Go.RowKit
attribute [local go_sem ↓] Go.wp_at_zero Go.wp_at_succ
theorem ev_zero : shaE RS [0] = [110, 52, 11, 156, 255, 179, 122, 152, 156, 165, 68, 230, 187, 120, 10, 44, 120, 144, 29, 63, 179, 55, 56, 118, 133, 17, 163, 6, 23, 175, 160, 29] := by kernel_rfl
theorem dg_zero : dg (clk 4) (leafT ⟨#[]⟩) = ⟨#[110, 52, 11, 156]⟩ := by
  rw [dg, show tB (leafT ⟨#[]⟩) = [0] by kernel_rfl, shaS, ← shaE_eq _ _ (by decide), ev_zero]; kernel_rfl
theorem rt_258 : rootT 258 ⟨#[120]⟩ = ⟨#[3, 0, 0, 0, 0, 0, 0, 1, 2, 120]⟩ := by kernel_rfl
theorem rds_one (w : World) (s : ByteArray) (hs : s.size ≤ 9223372036854775807) : RdS (w.alloc (.cells #[.string s] 9)) (some ⟨w.heap.size, 0, none⟩) w.heap.size 0 1 [s] :=
  ⟨rfl, fun _ => rfl, range_new w [.string s] 9, fun x hx => by simp at hx; subst hx; exact hs⟩
set_option maxRecDepth 100000 in
theorem alive_any (w : World) (ht : Tb w) : Calls Tryd.prog 8 #[] w fun e w' => e = .returned (.bool true) ∧ Below w.heap.size w w' := by
  have H1 : Hid (∀ W, Below w.heap.size w W → Calls Tryd.prog 24 #[.int .i64 4, .string ⟨#[]⟩] W fun e w' => e = .returned (.string ⟨#[110, 52, 11, 156]⟩) ∧ Below W.heap.size W w') := fun W hb => leaf_any W (ht.next hb) 4 _ (by decide) _ dg_zero
  have H2 : Hid (∀ W, Calls Tryd.prog 7 #[.int .u64 258, .string ⟨#[120]⟩] W fun e w' => e = .returned (.string ⟨#[3, 0, 0, 0, 0, 0, 0, 1, 2, 120]⟩) ∧ Below W.heap.size W w') := fun W => roott_any W 258 _ (by decide) _ rt_258
  have H3 : Hid (∀ W, Below w.heap.size w W → Calls Tryd.prog 9 #[.int .i64 8, .slice (some ⟨W.heap.size, 0, none⟩) 1 1] (W.alloc (.cells #[.string ⟨#[120]⟩] 9)) fun e w' => e = .returned (.string ⟨#[120]⟩) ∧ Below W.heap.size W w') := fun W hb => by
    refine (bagged_any (W.alloc (.cells #[.string ⟨#[120]⟩] 9)) (ht.next (bal hb _)) 8 _ W.heap.size 0 1 1 [⟨#[120]⟩] (rds_one W _ (by decide)) (fun s hs => by simp at hs; subst hs; decide) (by decide) ⟨#[120]⟩ rfl).mono ?_
    rintro e w' ⟨rfl, hb'⟩
    exact ⟨rfl, bnext (bal (Below.refl _ _) _) hb'⟩
  have H4 := fun W => check_any W 0
  have H5 := fun W => check_any W 32
  rw [show chk 0 = 70 from rfl] at H4
  rw [show chk 32 = 0 from rfl] at H5
  have hb := Below.refl w.heap.size w
  clear ht
  go_enter Tryd.func8, Tryd.ntmps8
  go_wp2_with (first
    | (go_at_call 24; with_reducible refine (H1.out _ hb).mono ?_; rintro e w1 ⟨rfl, hb1⟩; replace hb := bnext hb hb1; clear hb1)
    | (go_at_call 7; with_reducible refine (H2.out _).mono ?_; rintro e w1 ⟨rfl, hb1⟩; replace hb := bnext hb hb1; clear hb1)
    | (go_at_call 9; with_reducible refine (H3.out _ hb).mono ?_; rintro e w1 ⟨rfl, hb1⟩; replace hb := bnext hb hb1; clear hb1)
    | (go_at_call 15; with_reducible refine (H4 _).mono ?_; rintro e w1 ⟨rfl, rfl⟩)
    | (go_at_call 15; with_reducible refine (H5 _).mono ?_; rintro e w1 ⟨rfl, rfl⟩))
  go_ret
  exact ⟨rfl, hb⟩
end Go.Proofs.YtelbnmfdeibdaaaDoor
