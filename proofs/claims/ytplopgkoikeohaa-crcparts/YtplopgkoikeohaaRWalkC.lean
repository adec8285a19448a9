/-
  Walks: alive; calls over lists that are laid for them. Own work.
-/
import Derived.Test.YtplopgkoikeohaaRRefA
namespace Go.Proofs.Ytplopgkoikeohaa
open Go.RowKit
attribute [local go_sem ↓] Go.wp_at_zero Go.wp_at_succ
theorem flat_one (s : ByteArray) : flat [s] = s.data.toList := by simp [flat]
/-- A list laid for the call. -/
theorem rds_new (w : World) (n : Nat) (ss : List ByteArray) (hn : ss.length = n) (hs : ∀ s ∈ ss, s.size ≤ 9223372036854775807) : RdS (w.alloc (.cells (ss.map Value.string).toArray 9)) (some ⟨w.heap.size, 0, none⟩) w.heap.size 0 n ss :=
  ⟨hn, fun _ => rfl, range_new w (ss.map Value.string) 9, hs⟩
theorem of_row (w : World) (n : Nat) (ss : List ByteArray) (x : Int) (hx : ((sumL ss).toNat : Int) = x) (hn : ss.length = n) (hm : n ≤ 1000) (hs : ∀ s ∈ ss, s.size ≤ 9223372036854775807) :
    Calls Try.prog 10 #[.slice (some ⟨w.heap.size, 0, none⟩) n n] (w.alloc (.cells (ss.map Value.string).toArray 9)) fun e w' => e = .returned (.int .u32 x) ∧ Below w.heap.size w w' := by
  refine (of_any _ _ w.heap.size 0 n n ss (rds_new w n ss hn hs) (by omega)).mono ?_
  rintro e w' ⟨rfl, hb⟩
  exact ⟨by rw [hx], ((Below.refl _ _).alloc (Nat.le_refl _) _).trans (hb.mono (by simp))⟩
theorem of_nil (w : World) : Calls Try.prog 10 #[.slice none 0 0] w fun e w' => e = .returned (.int .u32 0) ∧ Below w.heap.size w w' := by
  refine (of_any w none 0 0 0 0 [] ⟨rfl, fun h => absurd h (Nat.lt_irrefl 0), (fun j v h => by cases h), (fun s h => by cases h)⟩ (by decide)).mono ?_
  rintro e w' ⟨rfl, hb⟩
  exact ⟨rfl, hb⟩
theorem sum_a : ((sumL [⟨#[49, 50, 51, 52]⟩, ⟨#[]⟩, ⟨#[53, 54, 55, 56, 57]⟩]).toNat : Int) = 3808858755 := by kernel_rfl
theorem sum_b : ((sumL [⟨#[]⟩]).toNat : Int) = 0 := by kernel_rfl
theorem sum_c : ((sumL [⟨#[0]⟩]).toNat : Int) = 1383945041 := by kernel_rfl
theorem sum_d : ((sumL [⟨#[49, 50, 51, 52, 53]⟩]).toNat : Int) = ((mor 0#32 [49, 50, 51, 52, 53]).toNat : Int) := by rfl
theorem sum_e : ((mor (mor 0#32 [49, 50, 51, 52, 53]) [54, 55, 56, 57]).toNat : Int) = 3808858755 := by kernel_rfl
theorem sum_f : ((mor 4294967295#32 []).toNat : Int) = 4294967295 := by kernel_rfl
theorem sum_g : ((sumL [⟨#[97]⟩]).toNat : Int) = 3251651376 := by kernel_rfl
set_option maxRecDepth 100000 in
set_option maxHeartbeats 1000000 in
theorem alive_any (w : World) : Calls Try.prog 9 #[] w fun e w' => e = .returned (.bool true) ∧ Below w.heap.size w w' := by
  have h9 : ∀ (ss : List ByteArray), (∀ s ∈ ss, s.size ≤ 9) → ∀ s ∈ ss, s.size ≤ 9223372036854775807 := fun ss h s hs => Nat.le_trans (h s hs) (by decide)
  have A := fun W => of_row W 3 [⟨#[49, 50, 51, 52]⟩, ⟨#[]⟩, ⟨#[53, 54, 55, 56, 57]⟩] _ sum_a rfl (by decide) (h9 _ (by decide))
  have N := fun W => of_nil W
  have B := fun W => of_row W 1 [⟨#[]⟩] _ sum_b rfl (by decide) (h9 _ (by decide))
  have C := fun W => of_row W 1 [⟨#[0]⟩] _ sum_c rfl (by decide) (h9 _ (by decide))
  obtain ⟨d, hd⟩ : ∃ d, d = (mor 0#32 [49, 50, 51, 52, 53]).toNat := ⟨_, rfl⟩
  have D := fun W => of_row W 1 [⟨#[49, 50, 51, 52, 53]⟩] d (sum_d.trans (by rw [hd])) rfl (by decide) (h9 _ (by decide))
  have E := fun W => more_m W _ d hd ⟨#[54, 55, 56, 57]⟩ (by decide)
  have F := fun W => more_m W 4294967295#32 4294967295 rfl ⟨#[]⟩ (by decide)
  simp only [show (((4294967295 : Nat)) : Int) = 4294967295 from rfl] at F
  have G := fun W => of_row W 1 [⟨#[97]⟩] _ sum_g rfl (by decide) (h9 _ (by decide))
  simp only [List.map_cons, List.map_nil] at A B C D G
  have e1 : ((mor (mor 0#32 [49, 50, 51, 52, 53]) (⟨#[54, 55, 56, 57]⟩ : ByteArray).data.toList).toNat : Int) = 3808858755 := sum_e
  have e2 : ((mor 4294967295#32 (⟨#[]⟩ : ByteArray).data.toList).toNat : Int) = 4294967295 := sum_f
  simp only [e1] at E
  simp only [e2] at F
  have hB := Below.refl w.heap.size w
  clear e1 e2 hd h9
  go_enter Try.func9, Try.ntmps9
  go_wp2_with (first
    | (go_at_call 10; first
        | (with_reducible refine (A _).mono ?_) | (with_reducible refine (N _).mono ?_) | (with_reducible refine (B _).mono ?_) | (with_reducible refine (C _).mono ?_) | (with_reducible refine (D _).mono ?_) | (with_reducible refine (G _).mono ?_)
       rintro e w' ⟨rfl, hb⟩; replace hB := bnext hB hb; clear hb)
    | (go_at_call 11; first
        | (with_reducible refine (E _).mono ?_) | (with_reducible refine (F _).mono ?_)
       rintro e w' ⟨rfl, hb⟩; replace hB := bnext hB hb; clear hb))
  go_ret
  exact ⟨rfl, hB⟩
end Go.Proofs.Ytplopgkoikeohaa
