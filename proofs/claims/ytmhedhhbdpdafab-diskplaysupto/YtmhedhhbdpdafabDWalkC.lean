/-
  Walks: the next choice; a sector of a row. Own work.
-/
import Derived.Test.YtmhedhhbdpdafabDWalkA
namespace Go.Proofs.Ytmhedhhbdpdafab
open Go.RowKit
/-- A list of choices that can be read. -/
structure RdL (w : World) (ao : Option Addr) (b off : Nat) (ks : List Bool) : Prop where
  ptr : 0 < ks.length → ao = some ⟨b, off, none⟩
  cell : ∀ j, j < ks.length → w.cell? ⟨b, off + j, none⟩ = some (.bool (ks.getD j false))
theorem RdL.lt {w : World} {ao : Option Addr} {b off : Nat} {ks : List Bool} (h : RdL w ao b off ks) (h0 : 0 < ks.length) : b < w.heap.size := World.block_lt_of_cell? w _ (h.cell 0 h0)
theorem RdL.same {w W : World} {ao : Option Addr} {b off : Nat} {ks : List Bool} (h : RdL w ao b off ks) (hb : 0 < ks.length → W.heap[b]? = w.heap[b]?) : RdL W ao b off ks :=
  ⟨h.ptr, fun j hj => (World.cell?_of_block (a := ⟨b, off + j, none⟩) (hb (by omega))).trans (h.cell j hj)⟩
theorem RdL.next {w W : World} {ao : Option Addr} {b off : Nat} {ks : List Bool} (h : RdL w ao b off ks) (hb : Below w.heap.size w W) : RdL W ao b off ks := h.same fun h0 => hb.block b (h.lt h0)
theorem rdl_nil (w : World) (ao : Option Addr) (b off : Nat) : RdL w ao b off [] := ⟨fun h => by simp at h, fun j hj => by simp at hj⟩
/-- Which place is next. -/
def cat (ks : List Bool) (i : Nat) : Nat := if ks.length = 0 then 0 else i % ks.length
theorem cat_next (ks : List Bool) (i : Nat) (h : ks.length ≠ 0) : (cat ks i + 1) % ks.length = cat ks (i + 1) := by
  rw [cat, cat, if_neg h, if_neg h]
  simp
theorem cat_ch (ks : List Bool) (i : Nat) (h : ks.length ≠ 0) : ks.getD (cat ks i) false = ch ks i := by
  rw [cat, if_neg h, ch]
/-- The choices at q, of which i were taken. -/
def Chs (w : World) (q : Nat) (ao : Option Addr) (kc : Nat) (ks : List Bool) (i : Nat) : Prop := w.heap[q]? = some (.cells #[.slice ao ks.length kc, .int .i64 (cat ks i : Int)] 75 (0, 0))
theorem Chs.at {w : World} {q : Nat} {ao : Option Addr} {kc : Nat} {ks : List Bool} {i : Nat} (h : Chs w q ao kc ks i) : w.cell? ⟨q, 0, none⟩ = some (.slice ao ks.length kc) ∧ w.cell? ⟨q, 1, none⟩ = some (.int .i64 (cat ks i : Int)) ∧ w.frozen? ⟨q, 1, none⟩ = false :=
  ⟨by rw [cell_of_row w q 0 _ _ (0, 0) h]; rfl, by rw [cell_of_row w q 1 _ _ (0, 0) h]; rfl, frozen_of_row w q 1 _ _ h⟩
theorem Chs.lt {w : World} {q : Nat} {ao : Option Addr} {kc : Nat} {ks : List Bool} {i : Nat} (h : Chs w q ao kc ks i) : q < w.heap.size := (Array.getElem?_eq_some_iff.1 h).1
theorem Chs.same {w W : World} {q : Nat} {ao : Option Addr} {kc : Nat} {ks : List Bool} {i : Nat} (h : Chs w q ao kc ks i) (hb : W.heap[q]? = w.heap[q]?) : Chs W q ao kc ks i := hb.trans h
theorem chs_ne {w : World} {q b off : Nat} {ao ao' : Option Addr} {kc : Nat} {ks : List Bool} {i : Nat} (h : Chs w q ao kc ks i) (hr : RdL w ao' b off ks) (h0 : 0 < ks.length) : b ≠ q := by
  rintro rfl
  have e := hr.cell 0 h0
  rw [cell_of_row w b (off + 0) _ _ (0, 0) h] at e
  rcases Nat.lt_or_ge off 2 with q | q
  · rcases Nat.lt_or_ge off 1 with q | q
    · obtain rfl : off = 0 := by omega
      cases e
    · obtain rfl : off = 1 := by omega
      cases e
  · rw [Array.getElem?_eq_none (by simp; omega)] at e
    cases e
set_option maxHeartbeats 1000000 in
theorem next_any (w : World) (q : Nat) (ao : Option Addr) (b off kc : Nat) (ks : List Bool) (i : Nat) (h : Chs w q ao kc ks i) (hr : RdL w ao b off ks) (hl : ks.length ≤ 9223372036854775807) (r : Bool) (hc : ch ks i = r) :
    Calls Try.prog 59 #[.pointer (some ⟨q, 0, none⟩)] w fun e w' => e = .returned (.bool r) ∧ Chs w' q ao kc ks (i + 1) ∧ Upo (fun x => x = q) w w' := by
  obtain ⟨c0, c1, f1⟩ := h.at
  have HH : Hid (Chs w q ao kc ks i) := h
  by_cases hz : ks.length = 0
  · have hr' : r = false := by rw [← hc, ch, List.length_eq_zero_iff.1 hz]; rfl
    subst hr'
    have z : ((ks.length : Int) == 0) = true := by simp [hz]
    have hz2 : (ks.length : Int) = 0 := by omega
    clear h hr hc
    go_enter Try.func59, Try.ntmps59
    go_wp2
    go_ret
    refine ⟨rfl, ?_, Upo.refl _ _⟩
    have := HH.out
    unfold Chs at this ⊢
    rw [this, cat, cat, if_pos hz, if_pos hz]
  · have z : ((ks.length : Int) == 0) = false := by simp; intro q; exact hz (by simp [q])
    have hlt : cat ks i < ks.length := by rw [cat, if_neg hz]; exact Nat.mod_lt _ (by omega)
    obtain ⟨n, hn⟩ : ∃ n, ks.length = n := ⟨_, rfl⟩
    obtain ⟨k, hk⟩ : ∃ k, cat ks i = k := ⟨_, rfl⟩
    have ea := hr.ptr (by omega)
    have cr := hr.cell (cat ks i) hlt
    rw [cat_ch ks i hz, hc] at cr
    have ck := cat_next ks i hz
    obtain ⟨k2, hk2⟩ : ∃ k2, cat ks (i + 1) = k2 := ⟨_, rfl⟩
    rw [hk, hn] at hlt
    rw [hk] at cr c1
    rw [hk, hn, hk2] at ck
    rw [hn] at c0 z hl
    have HN : Hid (ks.length = n ∧ cat ks i = k ∧ cat ks (i + 1) = k2) := ⟨hn, hk, hk2⟩
    subst ea
    have h1 : (0 : Int) ≤ (k : Int) := by omega
    have h2 : (k : Int) < (n : Int) := by omega
    have e1 : IntKind.i64.wrap ((k : Int) + 1) = (k : Int) + 1 := by rw [IntKind.wrap_i64]; omega
    have e2 : ((k : Int) + 1).tmod (n : Int) = (k2 : Int) := by
      rw [show (k : Int) + 1 = ((k + 1 : Nat) : Int) by omega]
      rw [← Int.ofNat_tmod, ck]
    have nz : ¬ (n : Int) = 0 := by omega
    clear hn hk hk2 ck hz hc hr h hl
    go_enter Try.func59, Try.ntmps59
    go_upto_region 3 with (fail)
    go_region
    all_goals
      go_upto_region 4 with (fail)
      go_region
    all_goals
      go_wp2
      go_ret
      refine ⟨rfl, ?_, ((Upo.refl (fun x => x = q) w).set q 1 _ (.inl rfl)).drew.drew⟩
      have := heap_setCell_same w q 1 _ _ (.int .i64 (k2 : Int)) HH.out
      show (w.setCell ⟨q, 1, none⟩ (.int .i64 (k2 : Int))).heap[q]? = _
      rw [this, HN.out.2.2]
      rfl
end Go.Proofs.Ytmhedhhbdpdafab
