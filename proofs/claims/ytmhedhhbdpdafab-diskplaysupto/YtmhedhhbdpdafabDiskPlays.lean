/-
  DiskPlays: the row, where what comes in is small. Own work.
-/
import Derived.Test.YtmhedhhbdpdafabRows
import Derived.Laws.IdiomArrays
import Derived.Test.YtmhedhhbdpdafabQEnd
import Derived.Test.YtmhedhhbdpdafabGRw
import Derived.WalkKit
import Derived.ProofKit
import Derived.OpenShut
import Derived.Below
import Derived.ChangeSame
import Derived.ChangeMaps5
import Derived.JoinedCond
import Derived.Deep.SlicePairs
import Derived.Carry
namespace Go.Proofs.Ytmhedhhbdpdafab.diskPlays
open Go.ChangeShapes Go.WideShapes Go.ChangeAt Go.RowKit
theorem own : ownKnob Try.prog.godebug = none := by kernel_rfl
theorem laidOut : laidOutB Try.prog = true := by kernel_rfl
theorem cellsA2i : Try.prog.cellsOf 22 = 2 := by kernel_rfl
theorem cellsAI : Try.prog.cellsOf 3 = 1 := by kernel_rfl
theorem twoCellsI {cs : Array Value} (h : cs.size = 2) : ∃ x y, cs = #[x, y] := by
  obtain ⟨l⟩ := cs
  match l, h with
  | [x, y], _ => exact ⟨x, y, rfl⟩
theorem openA2i {H : Type} {enc : TypeId × Value → H} {W : World} {sp : Nat → Bool} {fuel : Nat} {x y : Value} {z : DataW H × List MemPlace} (h : DataW.trod enc Try.prog W 0 sp true fuel 22 [x, y] = some z) :
    ∃ s t : Int, x = .int .i64 s ∧ y = .int .i64 t ∧ z = (.agg [.lit (.int .i64 s), .lit (.int .i64 t)], []) ∧ (Lit.int .i64 s).wf = true ∧ (Lit.int .i64 t).wf = true := by
  obtain ⟨xs, m, _, rfl, _, hl, hf⟩ := DataW.trod_array Try.underlying22 h
  have h0 := hf 0 (by decide)
  have h1 := hf 1 (by decide)
  simp [cellsAI] at h0 h1
  match xs, hl with
  | [z0, z1], _ =>
    simp at h0 h1
    obtain ⟨s, e0, rfl, w0⟩ := DataW.trod_int Try.underlying3 h0
    obtain ⟨t, e1, rfl, w1⟩ := DataW.trod_int Try.underlying3 h1
    simp at e0 e1
    exact ⟨s, t, e0, e1, rfl, w0, w1⟩
theorem shutA2i {H : Type} (enc : TypeId × Value → H) (W' : World) (sp : Nat → Bool) (s t : Int) (hs : (Lit.int .i64 s).wf = true) (ht : (Lit.int .i64 t).wf = true) : DataW.Trod enc Try.prog W' 0 sp true 22 (.agg #[.int .i64 s, .int .i64 t]) (.agg [.lit (.int .i64 s), .lit (.int .i64 t)]) [] := ⟨2, by
  have r2 : List.range 2 = [0, 1] := rfl
  simp [DataW.trod, Value.cells, Try.underlying22, Try.underlying3, cellsA2i, cellsAI, r2, hs, ht]⟩
set_option maxRecDepth 100000 in
theorem contract (H : Type) (enc : TypeId × Value → H) (W : World) (base : Nat) (args : Array Value) (ds gs : List (DataW H)) (before : List MemPlace)
    (hval : ∀ (j : Nat) t v, Try.f3.params[j]? = some t → args[j]? = some v → Value.okWide Try.prog W .any base t v)
    (hW : DataW.Whole enc Try.prog Try.f3.params.toList Rows.diskPlaysSpec.vars false W args.toList ds gs before) (hk : Rows.uptoSmall H (ds ++ gs) = true) :
    Calls Try.prog 3 args W fun e W' => ∃ v, e = .returned v ∧ Rows.diskPlaysSpec.post enc Try.prog Try.f3 false true false false W args v W' := by
  have hW' := hW
  obtain ⟨p, q, hA0, hV, rfl, hfz, hnd⟩ := hW
  have hA : DataW.TrodAll enc Try.prog W 0 (fun _ => true) true Try.f3.params.toList args.toList ds p := hA0
  rw [Try.params3] at hA hval
  obtain ⟨v0, vs0, d0, ds0, p0, q0, hargs, rfl, rfl, h0, r0⟩ := trodAll_cons hA
  obtain ⟨v1, vs1, d1, ds1, p1, q1, rfl, rfl, rfl, h1, r1⟩ := trodAll_cons r0
  obtain ⟨v2, vs2, d2, ds2, p2, q2, rfl, rfl, rfl, h2, r2⟩ := trodAll_cons r1
  obtain ⟨rfl, rfl, rfl⟩ := trodAll_nil r2
  obtain rfl : args = #[v0, v1, v2] := by cases args; simp_all
  obtain ⟨rfl, rfl⟩ := trodVars_none hV
  have hk2 : Rows.uptoBulk d1 ≤ 1048576 ∧ Rows.uptoBulk d2 ≤ 1048576 := by
    have hq : Rows.uptoSmall H [d0, d1, d2] = true := by simpa using hk
    have h : Rows.uptoBulkAll (H := H) [d0, d1, d2] ≤ 1048576 := of_decide_eq_true hq
    simp only [Rows.uptoBulkAll] at h
    omega
  obtain ⟨cs0, rfl, hsz0, _⟩ : ∃ cs, v0 = .agg cs ∧ cs.size = Try.prog.cellsOf 22 ∧ Row.okWide Try.prog W .any base 22 cs := by
    have := hval 0 22 v0 rfl rfl
    simpa [Value.okWide, Try.underlying22] using this
  rw [cellsA2i] at hsz0
  obtain ⟨x0, y0, rfl⟩ := twoCellsI hsz0
  obtain ⟨fuel0, hf0⟩ := h0
  obtain ⟨s0, t0, rfl, rfl, hx0, ws0, wt0⟩ := openA2i hf0
  simp only [Prod.mk.injEq] at hx0
  obtain ⟨rfl, rfl⟩ := hx0
  obtain ⟨A1, n1, c1, rfl⟩ := okWide_slice Try.underlying23 (hval 1 23 v1 rfl rfl)
  have hk1 := h1
  obtain ⟨fuel1, hf1⟩ := h1
  obtain ⟨b1, o1, l1, rfl, rd1, hs1, hm1, hy1, hn1⟩ := sliceRdFz (by simpa [Value.cells] using hf1) hk2.1
  obtain ⟨A2, n2, c2, rfl⟩ := okWide_slice Try.underlying24 (hval 2 24 v2 rfl rfl)
  have hk3 := h2
  obtain ⟨fuel2, hf2⟩ := h2
  obtain ⟨b2, o2, l2, rd2, hm2⟩ := sliceRdZ (by simpa [Value.cells] using hf2) hk2.2
  clear hA0
  simp only [List.append_nil, List.nil_append] at hW' hk
  have hlt1 : ∀ x ∈ p1, x.block < W.heap.size := fun x hx => by simpa using hW'.lt x (by simp [hx])
  have hlt2 : ∀ x ∈ p2, x.block < W.heap.size := fun x hx => by simpa using hW'.lt x (by simp [hx])
  have bs := bounds_i64 ws0
  have bt := bounds_i64 wt0
  refine (disk_walk W s0 t0 (by omega) (by omega) A1 b1 o1 c1 l1 rd1 hn1 hs1 hm1 hy1 A2 b2 o2 n2 c2 l2 rd2 hm2).mono fun e W' ⟨he, hb⟩ => ?_
  subst he
  have hsh := trodAll_cons_mk (shutA2i enc W' _ s0 t0 ws0 wt0) (trodAll_cons_mk (Below.trod laidOut (by kernel_rfl) (of_decide_eq_true (by kernel_rfl)) hk1 hb hlt1) (trodAll_cons_mk (Below.trod laidOut (by kernel_rfl) (of_decide_eq_true (by kernel_rfl)) hk3 hb hlt2) trodAll_mk0))
  simp only [List.append_nil, List.nil_append] at hsh
  exact ⟨_, rfl, _, _, _, [], p1 ++ p2, [], hW', trodAll_cons_mk (shut_bool Try.underlying4 _) trodAll_mk0, hsh, rfl, hb.frame _, fun h => by cases h⟩
set_option maxRecDepth 100000 in
theorem lifted (os : Os) (started : os.Started) (H : Type) (enc : TypeId × Value → H) (F : Stop.Interp) :
    ReturnsInHanded {} Try.checked os 3 .any ((Rows.OpenSpec.upto Rows.diskPlaysSpec).pre6 enc Try.prog Try.f3 Rows.diskPlaysUptoRow.domain false) (((Rows.OpenSpec.upto Rows.diskPlaysSpec).at F).post enc Try.prog Try.f3 false true false false) := by
  refine returnsInHanded_of_cond (C := Try.checked) (s := Rows.OpenSpec.upto Rows.diskPlaysSpec) (k := Rows.uptoSmall) rfl own started (by kernel_rfl) Try.func3
    (OpenSpec.witness (enc := enc) (C := Try.checked) (s := Rows.OpenSpec.upto Rows.diskPlaysSpec) (k := Rows.uptoSmall) rfl false ⟨#[], #[.agg #[.int .i64 0, .int .i64 0], .slice none 0 0, .slice none 0 0], []⟩ 8 (by kernel_rfl) (by kernel_rfl) (by kernel_rfl)
      (x := ([.agg [.lit (.int .i64 0), .lit (.int .i64 0)], .nil, .nil], [], [])) (by kernel_rfl) rfl (by kernel_rfl)) ?_
  intro W base args ds gs before hval hW _ hk _
  exact contract H enc W base args ds gs before hval hW hk
theorem over : Rows.DiskPlaysUptoSaid :=
  OpenClaim.holds_of_cond 3 Try.f3 rfl rfl rfl rfl rfl rfl rfl ⟨rfl, rfl, rfl, rfl, rfl⟩ rfl rfl rfl rfl rfl (by kernel_rfl) Try.func3 (by kernel_rfl)
    (of_decide_eq_true (by kernel_rfl)) (by unfold Func.isWrapper; first | (rw [if_pos (by decide +kernel)]; kernel_rfl) | (rw [if_neg (by decide +kernel)]; exact ⟨rfl, rfl⟩))
    (fun os started H enc _ F => lifted os started H enc F)
end Go.Proofs.Ytmhedhhbdpdafab.diskPlays
namespace Go.Proofs.Ytmhedhhbdpdafab
theorem diskPlays_holds : Rows.DiskPlaysUptoSaid := diskPlays.over
#print axioms diskPlays_holds
end Go.Proofs.Ytmhedhhbdpdafab
