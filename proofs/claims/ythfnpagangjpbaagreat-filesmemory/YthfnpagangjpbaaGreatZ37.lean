/-
  How the laws begin. Own work.
-/
import Derived.Test.YthfnpagangjpbaaGreatZ36
namespace Go.Proofs.YthfnpagangjpbaaGreat
open Go.RowKit
open Rc
/-- A strength, a list, a disk, a store. -/
structure Beg (w : World) (k0 : Int) (ao : Option Addr) (len cap : Nat) (k : Nat) (L : List ByteArray) (n : Nat) : Prop where
  k1 : 1 ≤ k
  k2 : k ≤ 32
  sml : Sml L
  ln : L.length = n
  n12 : n ≤ 12
  st : ∀ W, Calls Tryz.prog 10 #[.int .i64 k0] W fun e w' => e = .returned (.int .i64 (k : Int)) ∧ w' = W
  ls : ∀ W, Below w.heap.size w W → Calls Tryz.prog 11 #[.slice ao len cap] W fun e w' => ∃ la lb lc, e = .returned (.slice la n lc) ∧ RdS w' la lb 0 n L ∧ Below W.heap.size W w' ∧ n ≤ lc
  md : ∀ w2 W p la lb lc, Mvd w2 W p NoB (newD 1048576) → RdS w2 la lb 0 n L → Calls Tryz.prog 17 #[.pointer (some ⟨p, 0, none⟩), .int .i64 (k : Int), .slice la n lc] W fun e w' => ∃ q D', e = .returned (.pointer (some ⟨q, 0, none⟩)) ∧ MdS w2 w' q p NoB D' (sA k (itA k L)) ∧ Qt 1048576 D' ∧ Ext k (itA k L) D'.L ∧ D'.acts = 3 + 6 * n
theorem beg_any (w : World) (k0 : Int) (ao : Option Addr) (b off len cap : Nat) (ss : List ByteArray) (hr : RdS w ao b off len ss) (hmx : len ≤ 9223372036854775807) : ∃ k L n, Beg w k0 ao len cap k L n := by
  have hkk := str_ok k0
  have hsml := lsL_sml ss
  have hln := lsL_len ss
  refine ⟨str k0, lsL ss, (lsL ss).length, hkk.1, hkk.2, hsml, rfl, by omega, fun W => strength1_any W k0, fun W hW => ?_, fun w2 W p la lb lc hm rd => ?_⟩
  · refine (list_any W ao b off len cap ss (hr.next hW (Nat.le_refl _)) hmx _ rfl).mono fun e w' z => ?_
    obtain ⟨va, vc, z1, z2, z3⟩ := z
    obtain ⟨la, lb, lc, hv, rd, hc, _⟩ := owns_rds z2 (fun x hx => by have := hsml.sz x hx; omega)
    injection hv with g1 g2 g3
    subst g1 g3
    exact ⟨va, lb, vc, z1, rd, z3, hc⟩
  · obtain ⟨e0, q0⟩ := new_ext (str k0) 1048576
    have hf := hsml.few
    have := hm.made1 1048576 q0 (str k0) hkk.1 hkk.2 e0 (by decide) (by decide) (by decide) la lb 0 _ lc (lsL ss) rd (fun _ q => q) hsml
    exact this.mono fun e w' z => by
      obtain ⟨q, D', z1, z2, z3, z4, z5⟩ := z
      exact ⟨q, D', z1, z2, z3, z4, by rw [z5]; show 0 + 3 + 6 * _ = _; omega⟩
end Go.Proofs.YthfnpagangjpbaaGreat
