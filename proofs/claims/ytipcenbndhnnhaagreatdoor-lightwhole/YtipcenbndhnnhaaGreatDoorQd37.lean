/-
  Own work: ShRefE.
-/
import Derived.Test.YtipcenbndhnnhaaGreatDoorQd36
namespace Go.Proofs.YtipcenbndhnnhaaGreatDoor
open Go.RowKit
theorem fold_push (l : List Int) (acc : ByteArray) : (l.foldl (fun r n => r.push (UInt8.ofNat n.toNat)) acc).data.toList = acc.data.toList ++ l.map fun n => UInt8.ofNat n.toNat := by
  induction l generalizing acc with
  | nil => simp
  | cons x r ih => rw [List.foldl_cons, ih]; simp [ByteArray.push]
theorem strB_list (l : List Int) : (strB l).data.toList = l.map fun n => UInt8.ofNat n.toNat := by
  rw [strB, fold_push]; rfl
theorem tB_strB {l : List Int} (h : Bytes l) : tB (strB l) = l := by
  rw [tB, strB_list, List.map_map]
  conv => rhs; rw [← List.map_id l]
  apply List.map_congr_left
  intro x hx
  obtain ⟨h0, h1⟩ := h x hx
  obtain ⟨n, rfl⟩ := Int.eq_ofNat_of_zero_le h0
  simp
  omega
theorem strB_tB (s : ByteArray) : strB (tB s) = s := by
  have : (strB (tB s)).data.toList = s.data.toList := by
    rw [strB_list, tB, List.map_map]
    conv => rhs; rw [← List.map_id s.data.toList]
    apply List.map_congr_left
    intro x _
    simp
  cases s with
  | mk d =>
    cases h : strB (tB ⟨d⟩) with
    | mk d' =>
      rw [h] at this
      simp only at this
      rw [Array.toList_inj.1 this]
def msg (t : List Int) (z : Nat) : List Int := (t ++ (128 :: List.replicate z 0)) ++ tl (8 * (t.length : Int)) 8
theorem lenAt_tl {l : List Int} (h : l.length = 64) (b : Int) : lenAt l b 8 = l.take 56 ++ tl b 8 := by
  obtain ⟨s0, s1, s2, s3, s4, s5, s6, s7, hd⟩ := list8 (st := l.drop 56) (by simp [h])
  have e : l = l.take 56 ++ [s0, s1, s2, s3, s4, s5, s6, s7] := by rw [← hd, List.take_append_drop]
  have hA : (l.take 56).length = 56 := by simp [h]
  generalize l.take 56 = A at *
  subst e
  simp only [lenAt, tl, IntKind.wrap_u8']
  rw [List.set_append_right _ _ (by omega), List.set_append_right _ _ (by omega), List.set_append_right _ _ (by omega), List.set_append_right _ _ (by omega), List.set_append_right _ _ (by omega), List.set_append_right _ _ (by omega), List.set_append_right _ _ (by omega), List.set_append_right _ _ (by omega), hA]
  congr 1
theorem take56_tl (A : List Int) (h : A.length = 56) (B : List Int) : (A ++ B).take 56 = A := by
  rw [List.take_append_of_le_length (by omega), List.take_of_length_le (by omega)]
theorem msg_sum (rs t : List Int) (z : Nat) (hlt : t.length < 1152921504606846976) (hz : (t.length + (z + 1) + 8) % 64 = 0) (hz2 : z < 64) :
    stN rs IV (msg t z) ((msg t z).length / 64) = closeI rs (stN rs IV t (t.length / 64)) (pad (t.drop (64 * (t.length / 64)))) t.length := by
  have hml : (msg t z).length = t.length + (z + 1) + 8 := by simp [msg, tl_len]; omega
  have hb8 : IntKind.u64.wrap ((t.length : Int) * 8) = 8 * (t.length : Int) := by
    simp [IntKind.wrap, IntKind.bits, IntKind.signed]; omega
  have hdl : (t.drop (64 * (t.length / 64))).length = t.length % 64 := by rw [List.length_drop]; omega
  have hpl : (pad (t.drop (64 * (t.length / 64)))).length = 64 := pad_len (by omega)
  have hpt : (pad (t.drop (64 * (t.length / 64)))).take (t.length % 64) = t.drop (64 * (t.length / 64)) := by
    rw [pad, List.take_append_of_le_length (by omega), List.take_of_length_le (by omega)]
  have hdrop : ∀ q, q = t.length / 64 → (msg t z).drop (64 * q) = (t.drop (64 * q) ++ (128 :: List.replicate z 0)) ++ tl (8 * (t.length : Int)) 8 := fun q hq => by
    unfold msg
    rw [List.drop_append_of_le_length (by simp; omega), List.drop_append_of_le_length (by omega)]
  have hpre : stN rs IV (msg t z) (t.length / 64) = stN rs IV t (t.length / 64) := by
    unfold msg
    rw [List.append_assoc, stN_append _ _ _ _ _ (by omega)]
  unfold closeI
  rw [hb8]
  have hend : endL (pad (t.drop (64 * (t.length / 64)))) (t.length % 64) = (t.drop (64 * (t.length / 64)) ++ [128]) ++ List.replicate (64 - (t.length % 64 + 1)) 0 := by
    rw [endL_eq hpl (Nat.mod_lt _ (by decide)), hpt]
  by_cases h55 : 55 < t.length % 64
  · rw [if_pos h55]
    have hq : (msg t z).length / 64 = t.length / 64 + 1 + 1 := by omega
    have hzz : z = (64 - (t.length % 64 + 1)) + 56 := by omega
    rw [hq, stN, stN, hpre, hdrop _ rfl, hend, lenAt_tl (by simp)]
    have e1 : ((t.drop (64 * (t.length / 64)) ++ (128 :: List.replicate z 0)) ++ tl (8 * (t.length : Int)) 8).take 64 = (t.drop (64 * (t.length / 64)) ++ [128]) ++ List.replicate (64 - (t.length % 64 + 1)) 0 := by
      rw [hzz, ← List.replicate_append_replicate]
      have : t.drop (64 * (t.length / 64)) ++ (128 :: (List.replicate (64 - (t.length % 64 + 1)) 0 ++ List.replicate 56 0)) ++ tl (8 * (t.length : Int)) 8 = ((t.drop (64 * (t.length / 64)) ++ [128]) ++ List.replicate (64 - (t.length % 64 + 1)) 0) ++ (List.replicate 56 0 ++ tl (8 * (t.length : Int)) 8) := by simp
      rw [this, List.take_append_of_le_length (by simp; omega), List.take_of_length_le (by simp; omega)]
    have e2 : ((msg t z).drop (64 * (t.length / 64 + 1))).take 64 = (List.replicate 64 (0 : Int)).take 56 ++ tl (8 * (t.length : Int)) 8 := by
      have hd2 : (msg t z).drop (64 * (t.length / 64 + 1)) = ((msg t z).drop (64 * (t.length / 64))).drop 64 := by rw [List.drop_drop]; congr 1
      rw [hd2, hdrop _ rfl, hzz, ← List.replicate_append_replicate]
      have : t.drop (64 * (t.length / 64)) ++ (128 :: (List.replicate (64 - (t.length % 64 + 1)) 0 ++ List.replicate 56 0)) ++ tl (8 * (t.length : Int)) 8 = ((t.drop (64 * (t.length / 64)) ++ [128]) ++ List.replicate (64 - (t.length % 64 + 1)) 0) ++ (List.replicate 56 0 ++ tl (8 * (t.length : Int)) 8) := by simp
      rw [this, List.drop_append_of_le_length (by simp; omega), List.drop_eq_nil_of_le (by simp; omega), List.nil_append, List.take_of_length_le (by simp [tl_len])]
      simp
    rw [e1, e2]
  · rw [if_neg h55]
    have hq : (msg t z).length / 64 = t.length / 64 + 1 := by omega
    have hzz : z = 55 - t.length % 64 := by omega
    rw [hq, stN, hpre, hdrop _ rfl, hend, lenAt_tl (by simp; omega)]
    congr 1
    rw [List.take_of_length_le (by simp [tl_len]; omega)]
    congr 1
    have : (t.drop (64 * (t.length / 64)) ++ [128]) ++ List.replicate (64 - (t.length % 64 + 1)) 0 = (t.drop (64 * (t.length / 64)) ++ (128 :: List.replicate z 0)) ++ List.replicate 8 0 := by
      rw [show 64 - (t.length % 64 + 1) = z + 8 by omega, ← List.replicate_append_replicate]; simp
    rw [this, take56_tl _ (by simp; omega)]
def outR (H : List Int) : Nat → List Int
  | 0 => []
  | k + 1 => outR H k ++ tl (H.getD k 0) 4
theorem outR_eq (H : List Int) (k : Nat) : outR H k = outB H k := by
  induction k with
  | zero => rfl
  | succ k ih =>
    rw [outR, outB, ih]
    simp [tl, w4, IntKind.wrap_u8']
end Go.Proofs.YtipcenbndhnnhaaGreatDoor
