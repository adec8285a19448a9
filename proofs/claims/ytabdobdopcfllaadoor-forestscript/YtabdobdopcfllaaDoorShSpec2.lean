/-
  The rounds of package sha as plain functions, in the walk's own forms. Own work.
-/
import Derived.Test.YtabdobdopcfllaaDoorShSpec
namespace Go.Proofs.YtabdobdopcfllaaDoor
open Go.RowKit

structure S8 where
  a : Int
  b : Int
  c : Int
  d : Int
  e : Int
  f : Int
  g : Int
  h : Int
def oneI (e f g h r w : Int) : Int :=
  IntKind.u32.wrap (IntKind.u32.wrap (IntKind.u32.wrap (IntKind.u32.wrap (h + bits .xor .u32 (bits .xor .u32 (rotI e 6) (rotI e 11)) (rotI e 25)) + bits .xor .u32 (bits .and .u32 e f) (bits .and .u32 (bits .xor .u32 IntKind.u32.max e) g)) + r) + w)
def twoI (a b c : Int) : Int :=
  IntKind.u32.wrap (bits .xor .u32 (bits .xor .u32 (rotI a 2) (rotI a 13)) (rotI a 22) + bits .xor .u32 (bits .xor .u32 (bits .and .u32 a b) (bits .and .u32 a c)) (bits .and .u32 b c))
def S8.rnd (v : S8) (r w : Int) : S8 :=
  { a := IntKind.u32.wrap (oneI v.e v.f v.g v.h r w + twoI v.a v.b v.c), b := v.a, c := v.b, d := v.c, e := IntKind.u32.wrap (v.d + oneI v.e v.f v.g v.h r w), f := v.e, g := v.f, h := v.g }
def rnds (v : S8) (rs ws : List Int) : Nat → S8
  | 0 => v
  | k + 1 => (rnds v rs ws k).rnd (rs.getD k 0) (ws.getD k 0)
def s8of (st : List Int) : S8 := ⟨st.getD 0 0, st.getD 1 0, st.getD 2 0, st.getD 3 0, st.getD 4 0, st.getD 5 0, st.getD 6 0, st.getD 7 0⟩
def sumI (s v : S8) : List Int :=
  [IntKind.u32.wrap (s.a + v.a), IntKind.u32.wrap (s.b + v.b), IntKind.u32.wrap (s.c + v.c), IntKind.u32.wrap (s.d + v.d), IntKind.u32.wrap (s.e + v.e), IntKind.u32.wrap (s.f + v.f), IntKind.u32.wrap (s.g + v.g), IntKind.u32.wrap (s.h + v.h)]
/-- The state behind one block more. -/
def foldI (rs st blk : List Int) : List Int := sumI (s8of st) (rnds (s8of st) rs (schN blk 48) 64)
theorem foldI_len (rs st blk : List Int) : (foldI rs st blk).length = 8 := rfl
theorem list8 {st : List Int} (h : st.length = 8) : ∃ s0 s1 s2 s3 s4 s5 s6 s7, st = [s0, s1, s2, s3, s4, s5, s6, s7] := by
  match st, h with
  | [s0, s1, s2, s3, s4, s5, s6, s7], _ => exact ⟨s0, s1, s2, s3, s4, s5, s6, s7, rfl⟩
end Go.Proofs.YtabdobdopcfllaaDoor
