/-
  Walks: Of; the reference's More and Of. Own work.
-/
import Derived.Test.YtggkjleibhpnfaaRWalkA
namespace Go.Proofs.Ytggkjleibhpnfaa
open Go.RowKit
attribute [local go_sem ↓] Go.wp_at_zero Go.wp_at_succ
theorem bnext {w W w2 : World} (h : Below w.heap.size w W) (h2 : Below W.heap.size W w2) : Below w.heap.size w w2 := h.trans (h2.mono h.size)
theorem bal {w W : World} (h : Below w.heap.size w W) (o : Obj) : Below w.heap.size w (W.alloc o) := h.alloc h.size o
theorem below_drewN {B : Nat} {a w : World} (h : Below B a w) (n : Nat) : Below B a (w.drewN n) := ⟨h.os, h.tape, h.output, h.size, h.block⟩
theorem range_lt {w : World} {b o : Nat} {cs : List Value} (h : w.rangeAt b o cs) (hc : cs ≠ []) : b < w.heap.size := by
  obtain ⟨v, r, rfl⟩ := List.exists_cons_of_ne_nil hc
  have := h 0 v rfl
  exact World.block_lt_of_cell? _ _ this
theorem range_below {B : Nat} {a w : World} (hb : Below B a w) {b o : Nat} {cs : List Value} (hlt : b < B) (h : a.rangeAt b o cs) : w.rangeAt b o cs := fun j v hv => by
  rw [hb.cell (p := ⟨b, o + j, none⟩) hlt]; exact h j v hv
theorem more_m (w : World) (c : BitVec 32) (m : Nat) (hm : m = c.toNat) (s : ByteArray) (hs : s.size ≤ 9223372036854775807) :
    Calls Try.prog 34 #[.int .u32 (m : Int), .string s] w fun e w' => e = .returned (.int .u32 ((mor c s.data.toList).toNat : Int)) ∧ Below w.heap.size w w' := by
  subst hm
  refine (more_any w c s hs).mono ?_
  rintro e w' ⟨rfl, rfl⟩
  exact ⟨rfl, (Below.refl _ _).alloc (Nat.le_refl _) _⟩
/-- The parts, one behind the other. -/
def flat (ss : List ByteArray) : List UInt8 := ss.flatMap fun s => s.data.toList
def sumL (ss : List ByteArray) : BitVec 32 := mor 0#32 (flat ss)
theorem flat_snoc (ss : List ByteArray) (k : Nat) (hk : k < ss.length) : flat (ss.take (k + 1)) = flat (ss.take k) ++ (ss.getD k ByteArray.empty).data.toList := by
  have e : ss.getD k ByteArray.empty = ss[k] := by rw [List.getD_eq_getElem?_getD, List.getElem?_eq_getElem hk]; rfl
  unfold flat
  rw [List.take_succ_eq_append_getElem hk, List.flatMap_append, e]
  simp
/-- A list of texts that can be read. -/
structure RdS (w : World) (ao : Option Addr) (b off len : Nat) (ss : List ByteArray) : Prop where
  hl : ss.length = len
  ptr : 0 < len → ao = some ⟨b, off, none⟩
  rng : w.rangeAt b off (ss.map Value.string)
  sz : ∀ s ∈ ss, s.size ≤ 9223372036854775807
theorem RdS.lt {w : World} {ao : Option Addr} {b off len : Nat} {ss : List ByteArray} (h : RdS w ao b off len ss) (h0 : 0 < len) : b < w.heap.size :=
  range_lt h.rng (by intro e; have := congrArg List.length e; rw [List.length_map, List.length_nil, h.hl] at this; omega)
theorem RdS.next {w W : World} {ao : Option Addr} {b off len B : Nat} {ss : List ByteArray} (h : RdS w ao b off len ss) (hb : Below B w W) (hB : w.heap.size ≤ B) : RdS W ao b off len ss := by
  refine ⟨h.hl, h.ptr, ?_, h.sz⟩
  by_cases h0 : 0 < len
  · exact range_below hb (Nat.lt_of_lt_of_le (h.lt h0) hB) h.rng
  · have : ss = [] := List.length_eq_zero_iff.1 (by rw [h.hl]; omega)
    rw [this]; intro j v hv; cases hv
theorem RdS.at {w : World} {ao : Option Addr} {b off len : Nat} {ss : List ByteArray} (h : RdS w ao b off len ss) {k : Nat} (hk : k < len) : w.cell? ⟨b, off + k, none⟩ = some (.string (ss.getD k ByteArray.empty)) :=
  h.rng k _ (by have := h.hl; simp [List.getElem?_eq_getElem (show k < ss.length by omega), List.getD_eq_getElem?_getD])
theorem RdS.szAt {w : World} {ao : Option Addr} {b off len : Nat} {ss : List ByteArray} (h : RdS w ao b off len ss) {k : Nat} (hk : k < len) : (ss.getD k ByteArray.empty).size ≤ 9223372036854775807 := by
  have hl : k < ss.length := by have := h.hl; omega
  have e : ss.getD k ByteArray.empty = ss[k] := by rw [List.getD_eq_getElem?_getD, List.getElem?_eq_getElem hl]; rfl
  rw [e]; exact h.sz _ (List.getElem_mem _)
set_option maxRecDepth 100000 in
theorem of_any (w : World) (ao : Option Addr) (b off len cap : Nat) (ss : List ByteArray) (hr : RdS w ao b off len ss) (hmx : len ≤ 9223372036854775807) :
    Calls Try.prog 33 #[.slice ao len cap] w fun e w' => e = .returned (.int .u32 ((sumL ss).toNat : Int)) ∧ Below w.heap.size w w' := by
  go_enter Try.func33, Try.ntmps33
  go_wp2
  go_loopg [3, 8] len (fun g x i wr => ∃ (k m : Nat), k ≤ len ∧ g = len - k ∧ x = .int .u32 (m : Int) ∧ i = .int .i64 k ∧ Hid (m = (mor 0#32 (flat (ss.take k))).toNat) ∧ Below w.heap.size w wr)
  case atStart =>
    go_light
    exact ⟨0, 0, Nat.zero_le _, rfl, rfl, rfl, by show _ = _; rw [List.take_zero, show flat [] = [] from rfl, mor_nil]; rfl, Below.refl _ _⟩
  case round =>
    obtain ⟨k, m, hk, rfl, rfl, rfl, HM, hb⟩ := hrel
    by_cases hlt : k < len
    · have hz : (k : Int) < (len : Int) := by omega
      obtain rfl := hr.ptr (by omega)
      have hr' := hr.next hb (Nat.le_refl _)
      have ck := hr'.at hlt
      have hcall := more_m wr _ m HM.out (ss.getD k ByteArray.empty) (hr.szAt hlt)
      rw [← mor_append, ← flat_snoc ss k (by rw [hr.hl]; exact hlt)] at hcall
      have HB : Hid (∀ w', Below wr.heap.size wr w' → Below w.heap.size w w') := fun w' h => bnext hb h
      obtain ⟨y, hy⟩ : ∃ y, y = (mor 0#32 (flat (ss.take (k + 1)))).toNat := ⟨_, rfl⟩
      rw [← hy] at hcall
      have HY : Hid (y = (mor 0#32 (flat (ss.take (k + 1)))).toNat) := hy
      clear hy HM hb hr hr'
      generalize ss.getD k ByteArray.empty = part at *
      go_wp2_with (go_at_call 34; refine hcall.mono ?_; rintro e w' ⟨rfl, hb'⟩)
      go_roundg (len - (k + 1))
      case rel =>
        go_light
        exact ⟨k + 1, y, by omega, rfl, rfl, by go_num, HY.out, HB.out _ hb'⟩
      case measure => go_light; omega
    · obtain rfl : k = len := by omega
      have hz : ¬ (k : Int) < (k : Int) := by omega
      have HE : Hid (m = (sumL ss).toNat) := by
        show _ = _
        rw [HM.out, sumL, List.take_of_length_le (by rw [hr.hl]; exact Nat.le_refl _)]
      clear HM
      go_wp2
      go_ret
      exact ⟨by rw [← HE.out]; rfl, hb⟩
end Go.Proofs.Ytggkjleibhpnfaa
