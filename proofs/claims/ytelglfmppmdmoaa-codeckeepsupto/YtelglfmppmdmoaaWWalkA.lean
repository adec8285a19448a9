/-
  Walks of package wire: NewReader, Left, fail, Take. Own work.
-/
import Derived.Test.YtelglfmppmdmoaaProg
import Derived.Test.YtelglfmppmdmoaaWSpec
import Derived.Deep.MidRow
import Derived.Below
import Derived.WalkKit
import Derived.WalkSpells
import Derived.Outline
import Derived.KernelRfl
import Derived.Deep.LoopGhost
import Derived.Deep.RegionHeld3
import Derived.Deep.RegionWith
import Derived.Deep.DrawnRows
import Derived.Deep.Light
import Derived.Laws.BitsAllLaws
import Derived.BigQuiet
namespace Go.Proofs.Ytelglfmppmdmoaa
open Go.RowKit
attribute [local go_sem ↓] Go.wp_at_zero Go.wp_at_succ
theorem bnext {w W w2 : World} (h : Below w.heap.size w W) (h2 : Below W.heap.size W w2) : Below w.heap.size w w2 := h.trans (h2.mono h.size)
theorem bal {w W : World} (h : Below w.heap.size w W) (o : Obj) : Below w.heap.size w (W.alloc o) := h.alloc h.size o
theorem below_drewN {B : Nat} {a w : World} (h : Below B a w) (n : Nat) : Below B a (w.drewN n) := ⟨h.os, h.tape, h.output, h.size, h.block⟩
/-- A Reader lies at p: the bytes that are left, its first error. -/
structure Rdr (w : World) (p : Nat) (s : ByteArray) (e : Nat) : Prop where
  c0 : w.cell? ⟨p, 0, none⟩ = some (.string s)
  c1 : w.cell? ⟨p, 1, none⟩ = some (.int .i64 (e : Int))
  f0 : w.frozen? ⟨p, 0, none⟩ = false
  f1 : w.frozen? ⟨p, 1, none⟩ = false
/-- Nothing but p's block has changed. -/
structure Ch (p : Nat) (w w' : World) : Prop where
  below : Below p w w'
  block : ∀ q, q < w.heap.size → q ≠ p → w'.heap[q]? = w.heap[q]?
theorem Ch.refl (p : Nat) (w : World) : Ch p w w := ⟨Below.refl _ _, fun _ _ _ => rfl⟩
theorem Ch.drewN {p : Nat} {w w' : World} (h : Ch p w w') (n : Nat) : Ch p w (w'.drewN n) := ⟨below_drewN h.below n, h.block⟩
theorem Ch.set {p : Nat} {w w' : World} (h : Ch p w w') (i : Nat) (v : Value) : Ch p w (w'.setCell ⟨p, i, none⟩ v) := by
  refine ⟨h.below.setCell (p := ⟨p, i, none⟩) (Nat.le_refl _) v, fun q hq hne => ?_⟩
  rw [← h.block q hq hne]
  exact Below.heap_setCell _ _ _ _ hne
theorem Rdr.lt {w : World} {p e : Nat} {s : ByteArray} (h : Rdr w p s e) : p < w.heap.size := World.block_lt_of_cell? _ _ h.c0
theorem Rdr.next {w w' : World} {p B e : Nat} {s : ByteArray} (h : Rdr w p s e) (hb : Below B w w') (hp : p < B) : Rdr w' p s e :=
  ⟨(hb.cell (p := ⟨p, 0, none⟩) hp).trans h.c0, (hb.cell (p := ⟨p, 1, none⟩) hp).trans h.c1, (hb.frozen (p := ⟨p, 0, none⟩) hp).trans h.f0, (hb.frozen (p := ⟨p, 1, none⟩) hp).trans h.f1⟩
theorem Rdr.drewN {w : World} {p e : Nat} {s : ByteArray} (h : Rdr w p s e) (n : Nat) : Rdr (w.drewN n) p s e := h.next (below_drewN (Below.refl (p + 1) w) n) (by omega)
theorem Rdr.set0 {w : World} {p e : Nat} {s : ByteArray} (h : Rdr w p s e) (t : ByteArray) : Rdr (w.setCell ⟨p, 0, none⟩ (.string t)) p t e :=
  ⟨World.cell?_setCell_same _ _ _ h.c0, (World.cell?_setCell_other _ _ _ _ (by simp)).trans h.c1, (World.frozen?_setCell _ _ _ _).trans h.f0, (World.frozen?_setCell _ _ _ _).trans h.f1⟩
theorem Rdr.set1 {w : World} {p e : Nat} {s : ByteArray} (h : Rdr w p s e) (e' : Nat) : Rdr (w.setCell ⟨p, 1, none⟩ (.int .i64 (e' : Int))) p s e' :=
  ⟨(World.cell?_setCell_other _ _ _ _ (by simp)).trans h.c0, World.cell?_setCell_same _ _ _ h.c1, (World.frozen?_setCell _ _ _ _).trans h.f0, (World.frozen?_setCell _ _ _ _).trans h.f1⟩
theorem rdr_new (w : World) (s : ByteArray) (t : Nat) : Rdr (w.alloc (.cells #[.string s, .int .i64 0] t)) w.heap.size s 0 := by
  refine ⟨?_, ?_, ?_, ?_⟩ <;> simp
theorem new_any (w : World) (s : ByteArray) :
    Calls Try.prog 27 #[.string s] w fun e w' => e = .returned (.pointer (some ⟨w.heap.size, 0, none⟩)) ∧ w' = w.alloc (.cells #[.string s, .int .i64 0] 76) := by
  go_enter Try.func27, Try.ntmps27
  go_wp2
  go_ret
  exact ⟨rfl, rfl⟩
theorem left_any (w : World) (p e : Nat) (s : ByteArray) (hr : Rdr w p s e) :
    Calls Try.prog 67 #[.pointer (some ⟨p, 0, none⟩)] w fun x w' => x = .returned (.int .i64 (s.size : Int)) ∧ w' = w := by
  have c0 := hr.c0
  go_enter Try.func67, Try.ntmps67
  go_wp2
  go_ret
  exact ⟨rfl, rfl⟩
theorem fail_any (w : World) (p e : Nat) (s : ByteArray) (hr : Rdr w p s 0) :
    Calls Try.prog 74 #[.pointer (some ⟨p, 0, none⟩), .int .i64 (e : Int)] w fun x w' => x = .returned (.int .i64 (e : Int)) ∧ Rdr w' p ByteArray.empty e ∧ Ch p w w' := by
  have c0 := hr.c0
  have c1 := hr.c1
  have f0 := hr.f0
  have f1 := hr.f1
  have R1 : Hid (Rdr ((w.setCell ⟨p, 0, none⟩ (.string ByteArray.empty)).setCell ⟨p, 1, none⟩ (.int .i64 (e : Int))) p ByteArray.empty e) := (hr.set0 _).set1 e
  clear hr
  go_enter Try.func74, Try.ntmps74
  go_wp2
  go_ret
  exact ⟨rfl, R1.out, ((Ch.refl p w).set 0 _).set 1 _⟩
end Go.Proofs.Ytelglfmppmdmoaa
