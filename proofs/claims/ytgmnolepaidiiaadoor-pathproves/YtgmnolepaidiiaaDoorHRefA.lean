/-
  The reference's walks: Of, the texts, Leaf, Node, Check. Own work.
-/
import Derived.Test.YtgmnolepaidiiaaDoorHWalkC
import Derived.Test.YtgmnolepaidiiaaDoorR0
namespace Go.Proofs.YtgmnolepaidiiaaDoor
open Go.RowKit
attribute [local go_sem ↓] Go.wp_at_zero Go.wp_at_succ
/-- The reference's tables. -/
structure Tr (w : World) : Prop where
  rr : w.rangeAt 1 0 (cW RS)
  iv : w.rangeAt 0 0 (cW IV)
theorem Tr.next {w W : World} (h : Tr w) (hb : Below w.heap.size w W) : Tr W :=
  ⟨range_below hb (range_lt h.rr (cW_ne (by rw [RS_len]; decide))) h.rr, range_below hb (range_lt h.iv (cW_ne (by decide))) h.iv⟩
theorem ref_one (w : World) (ht : Tr w) (t : ByteArray) (hs : t.size < 1152921504606846976) (r : ByteArray) (hr : shaS RS (tB t) = r) :
    Calls Tryd.prog 44 #[.slice (some ⟨w.heap.size, 0, none⟩) 1 1] (w.alloc (.cells #[.string t] 9)) fun e w' => e = .returned (.string r) ∧ Below w.heap.size w w' := by
  subst hr
  have e : flat [t] = tB t := by simp [flat]
  refine (refOf_any _ (some ⟨w.heap.size, 0, none⟩) w.heap.size 0 1 1 [t] rfl (fun _ => rfl) (range_new w [.string t] 9) (by decide) RS RS_len (World.rangeAt_alloc ht.rr _) (World.rangeAt_alloc ht.iv _) (by rw [e, tB_len]; exact hs)).mono fun e' w' ⟨he, hb'⟩ => ⟨?_, ?_⟩
  · rw [he, e]
  · exact ((Below.refl _ _).alloc (Nat.le_refl _) _).trans (hb'.mono (by simp))
theorem app_nil (a : ByteArray) : a ++ (⟨#[]⟩ : ByteArray) = a := by
  have := ByteArray.append_empty (b := a)
  exact this
end Go.Proofs.YtgmnolepaidiiaaDoor
