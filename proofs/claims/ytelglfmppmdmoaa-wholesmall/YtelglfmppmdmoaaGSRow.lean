/-
  WholeSmall as its row asks for it. Own work.
-/
import Derived.Test.YtelglfmppmdmoaaGSmall
import Derived.Test.YtelglfmppmdmoaaGRow
namespace Go.Proofs.Ytelglfmppmdmoaa
open Go.RowKit
abbrev Rd := @Cv.Rd
theorem rdu_rd {w : World} {ao : Option Addr} {b off n : Nat} {l : List Nat} (h : Cv.Rd w ao b off n l) : RdU w ao b off n l :=
  ⟨h.len, h.addr, fun j v hv => by
    have hj : j < l.length := by have := (List.getElem?_eq_some_iff.1 hv).1; simpa [Cv.cU] using this
    have := h.cell j (by have := h.len; omega)
    rw [this, ← hv]
    simp [Cv.cU, List.getD_eq_getElem?_getD, List.getElem?_eq_getElem hj]⟩
theorem small_row (W : World) (a0 a1 : Int) (w0 : (Lit.int .u64 a0).wf = true) (w1 : (Lit.int .u64 a1).wf = true) (ao : Option Addr) (b off n cap : Nat) (l : List Nat) (rd : Cv.Rd W ao b off n l) (hm : n ≤ 17592186044416) (hc : n ≤ cap) :
    Calls Try.prog 8 #[.int .u64 a0, .int .u64 a1, .slice ao n cap] W fun e w' => e = .returned (.bool true) ∧ Below W.heap.size W w' := by
  obtain ⟨n0, rfl, h0⟩ := u64_nat w0
  obtain ⟨n1, rfl, h1⟩ := u64_nat w1
  have hl := rd.len
  subst hl
  exact small_walk W n0 n1 h0 h1 ao b off cap l (rdu_rd rd) hm hc
end Go.Proofs.Ytelglfmppmdmoaa
