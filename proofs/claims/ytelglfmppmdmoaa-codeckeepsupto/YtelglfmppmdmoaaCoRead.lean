/-
  The reference's reader, as lists. Own work.
-/
import Derived.Test.YtelglfmppmdmoaaWRefC
import Derived.Test.YtelglfmppmdmoaaRWalkH
namespace Go.Proofs.Ytelglfmppmdmoaa
open Cv (Chain)
/-- The bytes from a place on. -/
def rst8 (T : ByteArray) (a : Nat) : List UInt8 := T.data.toList.drop a
theorem rst8_len (T : ByteArray) (a : Nat) : (rst8 T a).length = T.size - a := by rw [rst8, List.length_drop, size_list]
theorem rst8_add (T : ByteArray) (a k : Nat) : rst8 T (a + k) = (rst8 T a).drop k := by rw [rst8, rst8, List.drop_drop]
/-- A number that stands there is read. -/
theorem rnb_num {T : ByteArray} {a n : Nat} {r : List UInt8} (h : rst8 T a = num n ++ r) (hn : n < 2 ^ 64) : rnb T a 0 = (a + (num n).length, 0, n) ∧ rst8 T (a + (num n).length) = r := by
  have hs := scan_num r n 0 0 (by decide) (by simpa using hn) (by decide) (.inl rfl)
  refine ⟨?_, by rw [rst8_add, h]; simp⟩
  refine rnb_of ?_
  rw [rst8] at h
  rw [h, hs]
  simp
/-- Whatever stands there: the place stays within, the number is small. -/
theorem rnb_any (T : ByteArray) (a e : Nat) (ha : a ≤ T.size) : (rnb T a e).1 ≤ T.size ∧ (rnb T a e).2.2 < 18446744073709551616 := by
  by_cases he : e = 0
  · subst he
    obtain ⟨n, e', k, hc⟩ : ∃ n e' k, scan (T.data.toList.drop a) 0 0 = (n, e', k) := ⟨_, _, _, rfl⟩
    by_cases h0 : e' = 0
    · subst h0
      rw [rnb_of hc]
      obtain ⟨m, h1, h2, h3, h4, h5, h6, h7⟩ := scan_back _ 0 0 n k (by decide) (by decide) hc
      rw [List.length_drop, size_list] at h5
      exact ⟨by simp only; omega, h7⟩
    · rw [rnb_err hc h0]
      rcases scan_err (T.data.toList.drop a) 0 0 with h | h | h
      · rw [hc] at h; exact absurd h h0
      · rw [hc] at h; cases h; exact ⟨ha, by simp only; omega⟩
      · rw [hc] at h; cases h; exact ⟨ha, by simp only; omega⟩
  · simp [rnb, he, ha]
/-- A text that stands there is taken. -/
theorem rtk_num {T : ByteArray} {a k : Nat} {d : ByteArray} {r : List UInt8} (h : rst8 T a = d.data.toList ++ r) (hk : d.size = k) : rtk T a 0 (k : Int) = (a + k, 0, d) ∧ rst8 T (a + k) = r := by
  have hl := congrArg List.length h
  rw [rst8_len, List.length_append, size_list, hk] at hl
  refine ⟨?_, by rw [rst8_add, h, List.drop_append_of_le_length (by rw [size_list]; omega), List.drop_of_length_le (by rw [size_list]; omega), List.nil_append]⟩
  rw [rtk, if_neg (by simp), if_neg (by omega), Int.toNat_natCast]
  have : T.extract a (a + k) = d := by
    apply ba_ext
    have e1 : (T.extract a (a + k)).data.toList = (T.data.toList.drop a).take k := by
      rw [ByteArray.data_extract, Array.toList_extract, List.extract_eq_take_drop, Nat.add_sub_cancel_left]
    rw [e1]
    rw [rst8] at h
    rw [h, List.take_append_of_le_length (by rw [size_list]; omega), List.take_of_length_le (by rw [size_list]; omega)]
  rw [this]
theorem rtk_any (T : ByteArray) (a k : Nat) (ha : a ≤ T.size) : (rtk T a 0 (k : Int)).1 ≤ T.size ∧ (rtk T a 0 (k : Int)).2.2.size ≤ T.size := by
  rw [rtk, if_neg (by simp)]
  split
  · exact ⟨ha, Nat.zero_le _⟩
  · rename_i h
    simp only [Int.toNat_natCast]
    refine ⟨by omega, ?_⟩
    rw [ByteArray.size_extract]; omega
end Go.Proofs.Ytelglfmppmdmoaa
