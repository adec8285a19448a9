/-
  Walks of package codec: numbers, isWellFormed, Encode. Own work.
-/
import Derived.Test.YtelglfmppmdmoaaEWalkA
import Derived.Test.YtelglfmppmdmoaaCoJoin
namespace Go.Proofs.Ytelglfmppmdmoaa
open Go.RowKit
open Cv (Chain)
attribute [local go_sem ↓] Go.wp_at_zero Go.wp_at_succ
/-- The bytes ahead of the digests. -/
def hd (p : PV) : List UInt8 := UInt8.ofNat p.kd.toNat :: UInt8.ofNat p.k.toNat :: (num p.size ++ mid p)
theorem enc_hd (p : PV) : enc p = hd p ++ flat p.D := by simp [enc, hd, List.append_assoc]
theorem str_add (a b : List UInt8) : (⟨a.toArray⟩ : ByteArray) ++ ⟨b.toArray⟩ = ⟨(a ++ b).toArray⟩ := by
  apply ba_ext
  rw [ByteArray.data_append]
  simp
/-- A proof's bytes ahead of the index or set, as a text. -/
theorem two_bytes (w : World) (a b : Nat) (ha : a < 256) (hb : b < 256) : (convert 38 9 (.slice (some ⟨w.heap.size, 0, none⟩) 2 2)).run Try.prog (w.alloc (.cells #[.int .u8 (a : Int), .int .u8 (b : Int)] 5)) = .ok (.string ⟨[UInt8.ofNat a, UInt8.ofNat b].toArray⟩) (w.alloc (.cells #[.int .u8 (a : Int), .int .u8 (b : Int)] 5)) := by
  refine run_convert_bytes_back _ 38 9 5 ⟨w.heap.size, 0, none⟩ 2 [UInt8.ofNat a, UInt8.ofNat b] Try.underlying38 Try.underlying5 Try.underlying9 fun j hj => ?_
  rw [Addr.add_mid]
  have h1 := ofNat_toNat ha
  have h2 := ofNat_toNat hb
  refine range_new w [.int .u8 (a : Int), .int .u8 (b : Int)] 5 j _ ?_
  match j, hj with
  | 0, _ => simp [h1]
  | 1, _ => simp [h2]
theorem two_at {W : World} {g a b : Nat} (ha : a < 256) (hb : b < 256) (h : W.heap[g]? = some (.cells #[.int .u8 (a : Int), .int .u8 (b : Int)] 5 (0, 0))) : (convert 38 9 (.slice (some ⟨g, 0, none⟩) 2 2)).run Try.prog W = .ok (.string ⟨[UInt8.ofNat a, UInt8.ofNat b].toArray⟩) W := by
  refine run_convert_bytes_back _ 38 9 5 ⟨g, 0, none⟩ 2 [UInt8.ofNat a, UInt8.ofNat b] Try.underlying38 Try.underlying5 Try.underlying9 fun j hj => ?_
  rw [Addr.add_mid, Nat.zero_add, cell_of_row W g j _ _ (0, 0) h]
  have h1 := ofNat_toNat ha
  have h2 := ofNat_toNat hb
  match j, hj with
  | 0, _ => simp [h1]
  | 1, _ => simp [h2]
end Go.Proofs.Ytelglfmppmdmoaa
