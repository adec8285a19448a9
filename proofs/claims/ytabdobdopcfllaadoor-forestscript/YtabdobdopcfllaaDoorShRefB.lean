/-
  The reference's words are the program's. Own work.
-/
import Derived.Test.YtabdobdopcfllaaDoorShRefA
namespace Go.Proofs.YtabdobdopcfllaaDoor
open Go.RowKit
theorem word_eq (a b c d : Int) (ha : 0 ≤ a ∧ a < 256) (hb : 0 ≤ b ∧ b < 256) (hc : 0 ≤ c ∧ c < 256) (hd : 0 ≤ d ∧ d < 256) :
    wordI a b c d = a * 16777216 + b * 65536 + c * 256 + d := by
  obtain ⟨a, rfl⟩ := Int.eq_ofNat_of_zero_le ha.1
  obtain ⟨b, rfl⟩ := Int.eq_ofNat_of_zero_le hb.1
  obtain ⟨c, rfl⟩ := Int.eq_ofNat_of_zero_le hc.1
  obtain ⟨d, rfl⟩ := Int.eq_ofNat_of_zero_le hd.1
  have h1 : a < 256 := by omega
  have h2 : b < 256 := by omega
  have h3 : c < 256 := by omega
  have h4 : d < 256 := by omega
  have e1 : IntKind.u32.wrap (IntKind.u32.wrap (a : Int) * 16777216) = ((a * 16777216 : Nat) : Int) := by simp only [IntKind.wrap_u32']; omega
  have e2 : IntKind.u32.wrap (IntKind.u32.wrap (b : Int) * 65536) = ((b * 65536 : Nat) : Int) := by simp only [IntKind.wrap_u32']; omega
  have e3 : IntKind.u32.wrap (IntKind.u32.wrap (c : Int) * 256) = ((c * 256 : Nat) : Int) := by simp only [IntKind.wrap_u32']; omega
  have e4 : IntKind.u32.wrap (d : Int) = ((d : Nat) : Int) := by simp only [IntKind.wrap_u32']; omega
  have j1 : a * 16777216 ||| b * 65536 = a * 16777216 + b * 65536 := nat_join 24 _ _ (by omega) (by omega)
  have j2 : (a * 16777216 + b * 65536) ||| c * 256 = a * 16777216 + b * 65536 + c * 256 := nat_join 16 _ _ (by omega) (by omega)
  have j3 : (a * 16777216 + b * 65536 + c * 256) ||| d = a * 16777216 + b * 65536 + c * 256 + d := nat_join 8 _ _ (by omega) (by omega)
  unfold wordI
  rw [e1, e2, e3, e4, u32_or_nat _ _ (by omega) (by omega), j1, u32_or_nat _ _ (by omega) (by omega), j2, u32_or_nat _ _ (by omega) (by omega), j3]
  omega
def Bytes (l : List Int) : Prop := ∀ x ∈ l, 0 ≤ x ∧ x < 256
theorem Bytes.getD {l : List Int} (h : Bytes l) (i : Nat) : 0 ≤ l.getD i 0 ∧ l.getD i 0 < 256 := by
  rw [List.getD_eq_getElem?_getD]
  cases e : l[i]? with
  | none => exact ⟨by decide, by decide⟩
  | some x => exact h x (List.mem_of_getElem? e)
theorem hor_eq {blk : List Int} (h : Bytes blk) (k : Nat) : horI blk k 4 = wordI (blk.getD (4 * k) 0) (blk.getD (4 * k + 1) 0) (blk.getD (4 * k + 2) 0) (blk.getD (4 * k + 3) 0) := by
  have h0 := h.getD (4 * k)
  have h1 := h.getD (4 * k + 1)
  have h2 := h.getD (4 * k + 2)
  have h3 := h.getD (4 * k + 3)
  rw [word_eq _ _ _ _ h0 h1 h2 h3]
  simp only [horI, IntKind.wrap_u32', Nat.add_zero]
  omega
theorem schR_eq {blk : List Int} (h : Bytes blk) (k : Nat) : schR blk k = schN blk k := by
  have h0 : ∀ k, schR0 blk k = sch0 blk k := fun k => by
    induction k with
    | zero => rfl
    | succ k ih => rw [schR0, sch0, ih, hor_eq h]
  induction k with
  | zero => exact h0 16
  | succ k ih => rw [schR, schN, ih]
theorem tB_bytes (s : ByteArray) : Bytes (tB s) := by
  intro x hx
  obtain ⟨y, _, rfl⟩ := List.mem_map.1 hx
  have := y.toNat_lt
  omega
end Go.Proofs.YtabdobdopcfllaaDoor
