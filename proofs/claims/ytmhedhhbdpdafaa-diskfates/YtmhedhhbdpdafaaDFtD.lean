/-
  DiskFates. Own work.
-/
import Derived.Test.YtmhedhhbdpdafaaDBw
namespace Go.Proofs.Ytmhedhhbdpdafaa
open Go.RowKit
/-- A fate's box. -/
def fB (a k : Nat) (ka : Option Addr) (kl kc : Nat) : Obj := .cells #[.int .i64 (a : Int), .int .i64 (k : Int), .slice ka kl kc] 54
/-- An Op's box. -/
def oB (kind which : Int) (nm dt : ByteArray) (x n : Int) (ka : Option Addr) (kl kc : Nat) : Obj := .cells #[.int .i64 kind, .int .i64 which, .string nm, .string dt, .int .i64 x, .int .i64 n, .slice ka kl kc] 30
theorem oB_put {W : World} {b : Nat} {kind which : Int} {nm dt : ByteArray} {x n : Int} {ka : Option Addr} {kl kc : Nat} (h : W.heap[b]? = some (oB kind which nm dt x n ka kl kc)) (y : Int) : (W.setCell ⟨b, 4, none⟩ (.int .i64 y)).heap[b]? = some (oB kind which nm dt y n ka kl kc) := heap_setCell_same W b 4 _ _ _ h
theorem ft_new (at_ k : Nat) (ks : List Bool) (ha : 1 ≤ at_) (hk : 1 ≤ k) (hk5 : k ≤ 5) : Ft (layD (newD 1048576) (at_ : Int) (k : Int) ks) (newD 1048576) at_ k ks 0 := by
  have e : layD (newD 1048576) (at_ : Int) (k : Int) ks = { newD 1048576 with fa := (at_ : Int), fk := (k : Int), ks := ks } := by
    unfold layD
    rw [if_neg (by simp [newD]), if_pos (by omega)]
  rw [e]
  exact ⟨⟨rfl, rfl, ord_nil, rfl, Nat.le_refl _, Nat.le_refl _, Nat.le_refl _⟩, rfl, rfl, rfl, rfl, .inl ⟨rfl, by simp, by omega, rfl⟩⟩
theorem tell_len' : ∀ L : List (List UInt8 × FV), (tell L).length ≤ L.length
  | [] => Nat.le_refl _
  | (s, f) :: r => by
    have := tell_len' r
    rw [tell]
    split
    · simp; omega
    · simp; omega
end Go.Proofs.Ytmhedhhbdpdafaa
