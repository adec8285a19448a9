/-
  PathTurned, as its row asks. Own work.
-/
import Derived.Test.YtgmnolepaidiiaaDoorTTurn
import Derived.Test.YtgmnolepaidiiaaDoorTCompR
namespace Go.Proofs.YtgmnolepaidiiaaDoor
open Go.RowKit
theorem u8_nat {a : Int} (wf : (Lit.int .u8 a).wf = true) : ∃ n : Nat, a = (n : Int) ∧ n < 256 := by
  have := bounds_u8 wf
  exact ⟨a.toNat, by omega, by omega⟩
theorem turned_row (w : World) (ht : Tb w) (hr : Tr w) (k : Int) (ao : Option Addr) (b off len cap : Nat) (L : List ByteArray) (rd : RdS w ao b off len L) (hm : len ≤ 8796093021952) (a2 : Int) (w2 : (Lit.int .u64 a2).wf = true) (a3 : Int) (w3 : (Lit.int .u64 a3).wf = true) (a4 : Int) (a5 : Int) (w5 : (Lit.int .u8 a5).wf = true) :
    Calls Tryd.prog 6 #[.int .i64 k, .slice ao len cap, .int .u64 a2, .int .u64 a3, .int .i64 a4, .int .u8 a5] w fun e w' => e = .returned (.bool true) ∧ Below w.heap.size w w' := by
  obtain ⟨n, rfl, _⟩ := u64_nat w2
  obtain ⟨i, rfl, _⟩ := u64_nat w3
  obtain ⟨y, rfl, hy⟩ := u8_nat w5
  exact turned_walk w ht hr k ao b off len cap L rd (by omega) n i a4 y hy
end Go.Proofs.YtgmnolepaidiiaaDoor
