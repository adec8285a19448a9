/-
  The walk of 'fixed': the published sums. Own work.
-/
import Derived.Test.YthcldaejihdahaaDoorEval
namespace Go.Proofs.YthcldaejihdahaaDoor
open Go.RowKit
attribute [local go_sem ↓] Go.wp_at_zero Go.wp_at_succ
theorem of_nil (w : World) (hr : w.rangeAt 1 0 (cW RS)) :
    Calls Tryd.prog 10 #[.slice none 0 0] w fun e w' => e = .returned (.string (shaS RS [])) ∧ Below w.heap.size w w' :=
  of_any w none 0 0 0 0 [] rfl (fun h => absurd h (Nat.lt_irrefl 0)) (fun j v h => by cases h) (by decide) RS RS_len hr (by decide)
theorem of_row (w : World) (b n : Nat) (ss : List ByteArray) (hn : ss.length = n) (hm : n ≤ 1000) (hs : w.rangeAt b 0 (ss.map Value.string)) (hr : w.rangeAt 1 0 (cW RS)) (hl : (flat ss).length < 4611686018427387904) :
    Calls Tryd.prog 10 #[.slice (some ⟨b, 0, none⟩) n n] w fun e w' => e = .returned (.string (shaS RS (flat ss))) ∧ Below w.heap.size w w' :=
  of_any w _ b 0 n n ss hn (fun _ => rfl) hs (by omega) RS RS_len hr hl
theorem of_abc (w : World) (hr : w.rangeAt 1 0 (cW RS)) :
    Calls Tryd.prog 10 #[.slice (some ⟨w.heap.size, 0, none⟩) 1 1] (w.alloc (.cells #[.string ⟨#[97, 98, 99]⟩] 9)) fun e w' => e = .returned (.string ⟨#[186, 120, 22, 191, 143, 1, 207, 234, 65, 65, 64, 222, 93, 174, 34, 35, 176, 3, 97, 163, 150, 23, 122, 156, 180, 16, 255, 97, 242, 0, 21, 173]⟩) ∧ Below w.heap.size w w' := by
  refine (of_row _ w.heap.size 1 [⟨#[97, 98, 99]⟩] rfl (by decide) (range_new w [.string ⟨#[97, 98, 99]⟩] 9) (World.rangeAt_alloc hr _) (by decide)).mono fun e w' ⟨he, hb⟩ => ⟨?_, ?_⟩
  · rw [he, ← sha_abc]; rfl
  · exact ((Below.refl _ _).alloc (Nat.le_refl _) _).trans (hb.mono (by simp))
theorem of_nil' (w : World) (hr : w.rangeAt 1 0 (cW RS)) :
    Calls Tryd.prog 10 #[.slice none 0 0] w fun e w' => e = .returned (.string ⟨#[227, 176, 196, 66, 152, 252, 28, 20, 154, 251, 244, 200, 153, 111, 185, 36, 39, 174, 65, 228, 100, 155, 147, 76, 164, 149, 153, 27, 120, 82, 184, 85]⟩) ∧ Below w.heap.size w w' := by
  have := of_nil w hr
  rwa [sha_nil] at this
theorem of_long (w : World) (hr : w.rangeAt 1 0 (cW RS)) :
    Calls Tryd.prog 10 #[.slice (some ⟨w.heap.size, 0, none⟩) 3 3] (w.alloc (.cells #[.string ⟨#[97, 98, 99, 100, 98, 99, 100, 101, 99, 100, 101, 102, 100, 101, 102, 103, 101, 102, 103, 104, 102, 103, 104, 105, 103, 104, 105, 106, 104, 105, 106, 107, 105, 106, 107, 108]⟩, .string ⟨#[]⟩, .string ⟨#[106, 107, 108, 109, 107, 108, 109, 110, 108, 109, 110, 111, 109, 110, 111, 112, 110, 111, 112, 113]⟩] 9)) fun e w' => e = .returned (.string ⟨#[36, 141, 106, 97, 210, 6, 56, 184, 229, 192, 38, 147, 12, 62, 96, 57, 163, 60, 228, 89, 100, 255, 33, 103, 246, 236, 237, 212, 25, 219, 6, 193]⟩) ∧ Below w.heap.size w w' := by
  refine (of_row _ w.heap.size 3 [⟨#[97, 98, 99, 100, 98, 99, 100, 101, 99, 100, 101, 102, 100, 101, 102, 103, 101, 102, 103, 104, 102, 103, 104, 105, 103, 104, 105, 106, 104, 105, 106, 107, 105, 106, 107, 108]⟩, ⟨#[]⟩, ⟨#[106, 107, 108, 109, 107, 108, 109, 110, 108, 109, 110, 111, 109, 110, 111, 112, 110, 111, 112, 113]⟩] rfl (by decide) (range_new w [.string ⟨#[97, 98, 99, 100, 98, 99, 100, 101, 99, 100, 101, 102, 100, 101, 102, 103, 101, 102, 103, 104, 102, 103, 104, 105, 103, 104, 105, 106, 104, 105, 106, 107, 105, 106, 107, 108]⟩, .string ⟨#[]⟩, .string ⟨#[106, 107, 108, 109, 107, 108, 109, 110, 108, 109, 110, 111, 109, 110, 111, 112, 110, 111, 112, 113]⟩] 9) (World.rangeAt_alloc hr _) (by decide)).mono fun e w' ⟨he, hb⟩ => ⟨?_, ?_⟩
  · rw [he, ← sha_long]; rfl
  · exact ((Below.refl _ _).alloc (Nat.le_refl _) _).trans (hb.mono (by simp))
set_option maxHeartbeats 2000000 in
set_option maxRecDepth 100000 in
theorem fixed_any (w : World) (hr : w.rangeAt 1 0 (cW RS)) :
    Calls Tryd.prog 6 #[] w fun e w' => e = .returned (.bool true) ∧ Below w.heap.size w w' := by
  have h1w : 1 < w.heap.size := range_lt hr (by intro h; have := congrArg List.length h; simp [cW_len, RS_len] at this)
  go_enter Tryd.func6, Tryd.ntmps6
  go_upto_region 2 with (go_at_call 10; refine (of_abc w hr).mono ?_; rintro e w1 ⟨rfl, hb1⟩)
  have hr1 : w1.rangeAt 1 0 (cW RS) := range_below hb1 h1w hr
  go_upto_region 3 with (go_at_call 10; refine (of_nil' w1 hr1).mono ?_; rintro e w2 ⟨rfl, hb2⟩)
  have hr2 : w2.rangeAt 1 0 (cW RS) := range_below hb2 (Nat.lt_of_lt_of_le h1w hb1.size) hr1
  go_upto_region 4 with (go_at_call 10; refine (of_long w2 hr2).mono ?_; rintro e w3 ⟨rfl, hb3⟩)
  have k0 : (((⟨#[227, 176, 196, 66, 152, 252, 28, 20, 154, 251, 244, 200, 153, 111, 185, 36, 39, 174, 65, 228, 100, 155, 147, 76, 164, 149, 153, 27, 120, 82, 184, 85]⟩ : ByteArray)[0]'(by decide)).toNat : Int) = 227 := rfl
  have k1 : (((⟨#[227, 176, 196, 66, 152, 252, 28, 20, 154, 251, 244, 200, 153, 111, 185, 36, 39, 174, 65, 228, 100, 155, 147, 76, 164, 149, 153, 27, 120, 82, 184, 85]⟩ : ByteArray)[31]'(by decide)).toNat : Int) = 85 := rfl
  have k2 : (((⟨#[36, 141, 106, 97, 210, 6, 56, 184, 229, 192, 38, 147, 12, 62, 96, 57, 163, 60, 228, 89, 100, 255, 33, 103, 246, 236, 237, 212, 25, 219, 6, 193]⟩ : ByteArray)[0]'(by decide)).toNat : Int) = 36 := rfl
  have k3 : (((⟨#[36, 141, 106, 97, 210, 6, 56, 184, 229, 192, 38, 147, 12, 62, 96, 57, 163, 60, 228, 89, 100, 255, 33, 103, 246, 236, 237, 212, 25, 219, 6, 193]⟩ : ByteArray)[31]'(by decide)).toNat : Int) = 193 := rfl
  go_wp2
  go_ret
  exact ⟨rfl, (hb1.trans (hb2.mono hb1.size)).trans (hb3.mono (Nat.le_trans hb1.size hb2.size))⟩
end Go.Proofs.YthcldaejihdahaaDoor
