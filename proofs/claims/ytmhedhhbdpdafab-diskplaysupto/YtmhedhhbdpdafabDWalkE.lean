/-
  Two sectors: are they the same? Own work.
-/
import Derived.Test.YtmhedhhbdpdafabDWalkD
import Derived.DeepKeys
import Derived.Laws.StructEq
namespace Go.Proofs.Ytmhedhhbdpdafab
open Go.RowKit
theorem mapM_some {α β : Type} {f : α → Option β} {g : α → β} : ∀ {l : List α}, (∀ x ∈ l, f x = some (g x)) → l.mapM f = some (l.map g)
  | [], _ => rfl
  | x :: r, h => by
    rw [List.mapM_cons, h x (by simp), mapM_some (l := r) (fun y hy => h y (by simp [hy]))]
    rfl
theorem Try.deepSec : Try.prog.keyTypeAt 2 98 = true := by kernel_rfl
theorem cellsSec : Try.prog.cellsOf 98 = 64 := by kernel_rfl
theorem cellsU8 : Try.prog.cellsOf 5 = 1 := by kernel_rfl
/-- What a sector reads as. -/
def litS (l : List UInt8) : List Lit := ((List.range 64).map fun i => [Lit.int .u8 ((l.getD i 0).toNat : Int)]).flatten
theorem lit_sec (l : List UInt8) (hl : l.length = 64) : Try.prog.keyLits 2 98 (cY l) = some (litS l) := by
  simp only [Program.keyLits, Try.underlying98, cY_len, hl, cellsSec, if_true]
  rw [mapM_some (g := fun i => [Lit.int .u8 ((l.getD i 0).toNat : Int)])]
  · rfl
  · intro i hi
    have hi' : i < 64 := by simpa using hi
    have e : ((cY l).drop (i * Try.prog.cellsOf 5)).take (Try.prog.cellsOf 5) = [Value.int .u8 ((l.getD i 0).toNat : Int)] := by
      rw [cellsU8, Nat.mul_one]
      have hlt : i < (cY l).length := by rw [cY_len]; omega
      rw [List.drop_eq_getElem_cons hlt, List.take_succ_cons, List.take_zero]
      simp [cY, List.getD_eq_getElem?_getD, List.getElem?_eq_getElem (show i < l.length by omega)]
    rw [e]
    generalize l.getD i 0 = x
    have hw : (Lit.int .u8 (x.toNat : Int)).wf = true := WalkArith.wf_u8 (by have h1 := x.toNat_lt; omega)
    simp [Try.underlying5, hw]
theorem litS_at (l : List UInt8) (i : Nat) (hi : i < 64) : (litS l)[i]? = some (Lit.int .u8 ((l.getD i 0).toNat : Int)) := by
  have : litS l = (List.range 64).map fun i => Lit.int .u8 ((l.getD i 0).toNat : Int) := by
    simp only [litS]
    generalize List.range 64 = r
    induction r with
    | nil => rfl
    | cons x r ih => rw [List.map_cons, List.flatten_cons, ih, List.map_cons]; rfl
  rw [this, List.getElem?_map, List.getElem?_range hi]
  rfl
theorem litS_inj {A B : List UInt8} (hA : A.length = 64) (hB : B.length = 64) (h : litS A = litS B) : A = B := by
  apply List.ext_getElem (by omega)
  intro i h1 h2
  have e1 := litS_at A i (by omega)
  rw [h, litS_at B i (by omega)] at e1
  injection e1 with e1
  injection e1 with _ e1
  have e2 : (B.getD i 0).toNat = (A.getD i 0).toNat := by omega
  have e3 := UInt8.toNat_inj.1 e2
  simpa [List.getD_eq_getElem?_getD, List.getElem?_eq_getElem h1, List.getElem?_eq_getElem h2] using e3.symm
theorem sec_eqD (d : Nat) (w : World) (A B : List UInt8) (hA : A.length = 64) (hB : B.length = 64) : (Op.equalIn (d + 2) 98 (sv A) (sv B)).run Try.prog w = .ok (decide (A = B)) w := by
  have fm : ∀ l : List UInt8, l.length = 64 → (sv l).formed Try.prog 98 = true := fun l hl => by
    simp [sv, Value.formed, Try.underlying98, cellsSec, cY_len, hl]
  obtain ⟨r, h1, h2⟩ := run_equalIn_deep d 2 98 Try.deepSec w 2 2 (sv A) (sv B) (litS A) (litS B) (fm A hA) (fm B hB) (by simpa [sv, Value.cells] using lit_sec A hA) (by simpa [sv, Value.cells] using lit_sec B hB)
  have hrr : r = decide (A = B) := by
    by_cases e : A = B
    · subst e
      simp [h2.2 rfl]
    · have : r = false := by
        cases r
        · rfl
        · exact absurd (litS_inj hA hB (h2.1 rfl)) e
      simp [this, e]
  rw [h1, hrr]
theorem sec_eq (w : World) (A B : List UInt8) (hA : A.length = 64) (hB : B.length = 64) : (Op.equalIn 10000 98 (sv A) (sv B)).run Try.prog w = .ok (decide (A = B)) w := sec_eqD 9998 w A B hA hB
theorem wpList_neq_sec {w : World} {ops : Array Oper} {rest : List Oper} {o : Oper} {a : Act} {Q : Exit → Act → World → Prop} (hg : o.guard = none) (x y : Operand) (hop : o.op = Op.binOp BinOp.neq 98 x y 98) (A B : List UInt8)
    (hx : a.eval x = sv A) (hy : a.eval y = sv B) (hA : A.length = 64) (hB : B.length = 64) (r : Bool) (hr : decide (A = B) = !r) (hK : wpList Try.prog ops Q rest (a.put o.dst (.bool r)) w) : wpList Try.prog ops Q (o :: rest) a w := by
  refine wpList_plain hg fun K hK' => ?_
  have he := sec_eq w A B hA hB
  have hn : (binOp .neq 98 (sv A) (sv B)).run Try.prog w = .ok (.bool r) w := by
    unfold sv at he ⊢
    rw [run_neq_struct, he, hr]
    simp [Result.andThen]
  unfold Oper.wp
  have hq : (eqGuard BinOp.neq 98 x y (sv A) (sv B)).run Try.prog w = .ok () w := run_eqGuard_agg w _ _ _ _ _ _ (by kernel_rfl)
  simp [execOp, hop, hx, hy, hq, hn, Result.andThen]
  exact hK' _ _ hK
end Go.Proofs.Ytmhedhhbdpdafab
