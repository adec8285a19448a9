/-
  Walks: a sector of a row. Own work.
-/
import Derived.Test.YtmhedhhbdpdafabDWalkA
namespace Go.Proofs.Ytmhedhhbdpdafab
open Go.RowKit
/-- A sector as a value. -/
def sv (l : List UInt8) : Value := .agg (cY l).toArray
/-- Zeros. -/
def z64 : List UInt8 := List.replicate 64 0
theorem z64_len : z64.length = 64 := by simp [z64]
theorem Try.sizeSec : (Try.prog.info? 98).map (·.size) = some 64 := by kernel_rfl
theorem zero_sec (w : World) : (zeroValue 98).run Try.prog w = .ok (sv z64) w := by kernel_rfl
theorem results_cell_mid {P : Program} {fn : Func} {p : Tmp} {ty : TypeId} (h : fn.results = #[.cell p ty]) (tmps : Array Value) (w : World) (b o : Nat) (cs : List Value) (d : TypeDesc)
    (hp : tmps.getD p undef = .pointer (some ⟨b, o, none⟩)) (hc : w.rangeAt b o cs)
    (hu : P.underlying ty = some d) (hd : d.isRow = true) (hi : (P.info? ty).map (·.size) = some cs.length) :
    (results fn tmps).run P w = .ok (.agg cs.toArray) w := by
  have hp' : tmps[p]?.getD undef = .pointer (some ⟨b, o, none⟩) := by simpa using hp
  simp [results, h, hp', asAddr, run_loadVar_mid w b o ty cs d hc hu hd hi]
/-- A sector at a block. -/
structure Sx (w : World) (g : Nat) (l : List UInt8) : Prop where
  ty : Ty w g 98
  len : l.length = 64
  rng : w.rangeAt g 0 (cY l)
  thr : w.there g 0 64
section
variable {w W : World} {g : Nat} {l l' : List UInt8}
theorem Sx.same (h : Sx w g l) (hb : W.heap[g]? = w.heap[g]?) : Sx W g l := ⟨h.ty.same hb, h.len, range_same h.rng hb, there_same h.thr hb⟩
theorem Sx.next (h : Sx w g l) (hb : Below w.heap.size w W) : Sx W g l := h.same (hb.block g h.ty.lt)
theorem Sx.set (h : Sx w g l) (hl : l'.length = 64) : Sx (w.setCells g 0 (cY l')) g l' :=
  ⟨Ty.sets g _ _ _ h.ty, hl, World.rangeAt_setCells_same w g 0 (cY l') (by rw [cY_len, hl]; exact h.thr), World.there_setCells h.thr _ _ _⟩
theorem Sx.off (h : Sx w g l) {p : Nat} (hp : g ≠ p) (o : Nat) (vs : List Value) : Sx (w.setCells p o vs) g l :=
  ⟨Ty.sets p _ _ _ h.ty, h.len, World.rangeAt_setCells_apart h.rng p o vs (.inl hp), World.there_setCells h.thr _ _ _⟩
theorem sx_new (w : World) (l : List UInt8) (hl : l.length = 64) : Sx (w.alloc (.cells (cY l).toArray 98)) w.heap.size l := by
  refine ⟨⟨_, _, new1 w _⟩, hl, fun j v hv => ?_, there_new w _ _ _ (by simp [cY_len, hl])⟩
  rw [World.cell?_alloc_new, Nat.zero_add]
  simpa using hv
theorem Sx.size (h : Sx w g l) : (Try.prog.info? 98).map (·.size) = some (cY l).length := by rw [cY_len, h.len]; exact Try.sizeSec
theorem below_sets {B : Nat} {a w : World} (h : Below B a w) {b : Nat} (hb : B ≤ b) (o : Nat) (cs : List Value) : Below B a (w.setCells b o cs) := by
  induction cs generalizing o w with
  | nil => exact h
  | cons c r ih => exact ih (h.setCell (p := ⟨b, o, none⟩) hb c) (o + 1)
theorem size_sets (g : Nat) : ∀ (vs : List Value) (o : Nat) (w : World), (w.setCells g o vs).heap.size = w.heap.size
  | [], _, _ => rfl
  | v :: r, o, w => by
    rw [World.setCells, size_sets g r (o + 1)]
    simp
end
theorem wpList_alloc_sec {w : World} {ops : Array Oper} {rest : List Oper} {o : Oper} {a : Act} {Q : Exit → Act → World → Prop} (hg : o.guard = none) (hop : o.op = Op.alloc 98)
    (hK : ∀ w', Sx w' w.heap.size z64 → Below w.heap.size w w' → w'.heap.size = w.heap.size + 1 → wpList Try.prog ops Q rest (a.put o.dst (.pointer (some ⟨w.heap.size, 0, none⟩))) w') : wpList Try.prog ops Q (o :: rest) a w := by
  refine wpList_plain hg fun K hK' => ?_
  have hz := zero_sec w
  unfold Oper.wp
  simp [execOp, hop, Instr.alloc, newVar, hz, Result.andThen, sv, Value.cells]
  exact hK' _ _ (hK _ (sx_new w z64 z64_len) (bal (Below.refl _ _) _) (by simp))
theorem wpList_build_sec {w : World} {ops : Array Oper} {rest : List Oper} {o : Oper} {a : Act} {Q : Exit → Act → World → Prop} (hg : o.guard = none) (hop : o.op = Op.build 98 #[])
    (hK : wpList Try.prog ops Q rest (a.put o.dst (sv z64)) w) : wpList Try.prog ops Q (o :: rest) a w := by
  refine wpList_plain hg fun K hK' => ?_
  have hz := zero_sec w
  unfold Oper.wp
  simp [execOp, hop, Instr.build, hz, Result.andThen]
  exact hK' _ _ hK
theorem wpList_store_sec {w : World} {ops : Array Oper} {rest : List Oper} {o : Oper} {a : Act} {Q : Exit → Act → World → Prop} (hg : o.guard = none) (p x : Operand) (hop : o.op = Op.store 98 p x) (g : Nat) (l l' : List UInt8)
    (hp : a.eval p = .pointer (some ⟨g, 0, none⟩)) (hx : a.eval x = sv l') (h : Sx w g l) (hl : l'.length = 64)
    (hK : ∀ w', Sx w' g l' → Upo (fun x => x = g) w w' → w'.heap.size = w.heap.size → wpList Try.prog ops Q rest (a.put o.dst undef) w') : wpList Try.prog ops Q (o :: rest) a w := by
  refine wpList_store_mid hg 98 p x hop g 0 (cY l').toArray hp hx (by simp only [List.size_toArray, cY_len, hl]; exact h.thr) (by rw [List.size_toArray, cY_len, hl]; exact Try.sizeSec) (all_oneCell_toArray (cY_one l')) ?_
  exact hK _ (h.set hl) (upo_sets (S := fun x => x = g) (.inl rfl) _ _ _ (Upo.refl _ _)) (size_sets _ _ _ _)
theorem wpList_load_sec {w : World} {ops : Array Oper} {rest : List Oper} {o : Oper} {a : Act} {Q : Exit → Act → World → Prop} (hg : o.guard = none) (p : Operand) (hop : o.op = Op.load 98 p) (g : Nat) (l : List UInt8)
    (hp : a.eval p = .pointer (some ⟨g, 0, none⟩)) (h : Sx w g l) (hK : wpList Try.prog ops Q rest (a.put o.dst (sv l)) w) : wpList Try.prog ops Q (o :: rest) a w :=
  wpList_load_mid hg 98 p hop g 0 hp (cY l) _ h.rng Try.underlying98 rfl h.size hK
/-- copy, of whatever yields bytes. -/
theorem run_copy_any (W : World) (ty tx : TypeId) {d : Option Addr} {gd od dLen dCap n c : Nat} {x : Value} {t : List UInt8} (hlen : ∀ w', (Builtin.lenOf x).run Try.prog w' = .ok n w') (hc : Nat.min n dLen = c) (ht : t.length = c)
    (hcells : (Builtin.firstCells 1 c x).run Try.prog W = .ok (cY t).toArray W) (hd : 0 < c → d = some ⟨gd, od, none⟩ ∧ W.there gd od c) :
    (Builtin.copy_ #[67, tx] ty #[.slice d dLen dCap, x]).run Try.prog W = .ok (goInt c) (W.setCells gd od (cY t)) := by
  have hs : ∀ W, (Go.sizeOf 5).run Try.prog W = .ok 1 W := fun W => by kernel_rfl
  by_cases z : c = 0
  · subst z
    have e0 : t = [] := List.length_eq_zero_iff.1 ht
    subst e0
    have hcells' : (Builtin.firstCells 1 0 x).run Try.prog W = .ok #[] W := hcells
    cases d with
    | none => simp [Builtin.copy_, run_underlying Try.underlying67, hlen, hs, hc, hcells']; rfl
    | some a => simp [Builtin.copy_, run_underlying Try.underlying67, hlen, hs, hc, hcells']; rfl
  · obtain ⟨rfl, hth⟩ := hd (by omega)
    have hst := run_storeCells_cells (P := Try.prog) gd od (cY t) 0 W (by rw [cY_len, ht]; intro j hj; simpa using (hth j hj).1) (by rw [cY_len, ht]; intro j hj; simpa using (hth j hj).2) (cY_one _)
    simp only [Nat.add_zero] at hst
    simp [Builtin.copy_, run_underlying Try.underlying67, hlen, hs, hc, hcells]
    rw [hst]
    rfl
/-- The first bytes of a row from a place on. -/
theorem Rw.first {w : World} {ao : Option Addr} {g cap : Nat} {l : List UInt8} (h : Rw w ao g cap l) {k n c : Nat} (hk : k + c ≤ l.length) (hcn : c ≤ n) {ax : Option Addr} (hx : ax = ao ∨ ax = ao.map (·.add k)) (h0 : ax = ao → k = 0 ∨ c = 0) (m : Nat) :
    (Builtin.firstCells 1 c (.slice ax n m)).run Try.prog w = .ok (cY ((l.drop k).take c)).toArray w := by
  have hlen : ((l.drop k).take c).length = c := by simp; omega
  rcases Nat.eq_zero_or_pos c with z | z
  · subst z
    cases ax with
    | none => exact run_firstCells_none w 1 0 n m
    | some a => exact run_firstCells_some w 1 0 a n m [] (by simp) (fun j u hu => by simp at hu)
  · have ea := h.sm (by omega)
    have eax : ax = some ⟨g, k, none⟩ := by
      rcases hx with e | e
      · rcases h0 e with q | q
        · rw [e, ea, q]
        · omega
      · rw [e, ea, Option.map_some, Addr.add_mid, Nat.zero_add]
    rw [eax]
    refine run_firstCells_some w 1 c _ n m (cY ((l.drop k).take c)) (by rw [cY_len, hlen, Nat.mul_one]) (fun j u hu => ?_)
    rw [Addr.add_mid]
    have hj : j < c := by have := (List.getElem?_eq_some_iff.1 hu).1; rw [cY_len, hlen] at this; exact this
    rw [cY, List.map_take, List.getElem?_take, if_pos hj, List.map_drop, List.getElem?_drop] at hu
    have := h.rng ea (k + j) u hu
    rwa [Nat.zero_add] at this
/-- The sector of a row. -/
theorem sec_is (l : List UInt8) (s k c : Nat) (hk : min (64 * s) l.length = k) (hc : min (l.length - k) 64 = c) : (l.drop k).take c ++ z64.drop c = sec l s := by
  apply List.ext_getElem?
  intro j
  have hlen : ((l.drop k).take c).length = c := by simp; omega
  by_cases hj : j < 64
  · rw [sec, List.getElem?_map, List.getElem?_range hj, Option.map_some]
    by_cases hjc : j < c
    · rw [List.getElem?_append_left (by omega), List.getElem?_take, if_pos hjc, List.getElem?_drop, show k + j = 64 * s + j by omega, List.getD_eq_getElem?_getD, List.getElem?_eq_getElem (by omega)]
      rfl
    · rw [List.getElem?_append_right (by omega), hlen, List.getElem?_drop, show c + (j - c) = j by omega, z64, List.getElem?_replicate, if_pos hj, List.getD_eq_getElem?_getD, List.getElem?_eq_none (by omega)]
      rfl
  · rw [List.getElem?_eq_none (by simp [z64_len]; omega), List.getElem?_eq_none (by rw [sec_len]; omega)]
set_option maxRecDepth 100000 in
set_option maxHeartbeats 1000000 in
theorem sector_any (w : World) (a : Option Addr) (g n c s : Nat) (l : List UInt8) (ra : Rw w a g c l) (hn : l.length = n) :
    Calls Try.prog 60 #[.slice a n c, .int .i64 ((64 * s : Nat) : Int)] w fun e w' => e = .returned (sv (sec l s)) ∧ Below w.heap.size w w' := by
  obtain ⟨k, hk⟩ : ∃ k, 64 * s = k := ⟨_, rfl⟩
  have HK : Hid (64 * s = k) := hk
  rw [hk]
  obtain ⟨e, he⟩ : ∃ e, min k n = e := ⟨_, rfl⟩
  have he1 : (0 : Int) ≤ (e : Int) := by omega
  have he2 : (e : Int) ≤ (n : Int) := by omega
  have hmin : (if n < k then (n : Int) else (k : Int)) = (e : Int) := by split <;> omega
  obtain ⟨ax, hx⟩ : ∃ ax, (if c = e then a else a.map (·.add e)) = ax := ⟨_, rfl⟩
  obtain ⟨hx1, hx2⟩ := sub_ok ra (by omega) hx hn
  obtain ⟨cc, hcc⟩ : ∃ cc, Nat.min (n - e) 64 = cc := ⟨_, rfl⟩
  have hcc' : min (n - e) 64 = cc := hcc
  have HR : Hid (Rw w a g c l ∧ l.length = n ∧ min k n = e ∧ (ax = a ∨ ax = a.map (·.add e)) ∧ (ax = a → e = 0 ∨ n - e = 0)) := ⟨ra, hn, he, hx1, hx2⟩
  clear ra hx1 hx2 hk he
  go_enter Try.func60, Try.ntmps60
  go_upto_region 1 with (first
    | (refine wpList_alloc_sec (by rfl) (by rfl) ?_; intro w1 hs1 hb1 hz1))
  have HZ1 : Hid (w1.heap.size = w.heap.size + 1) := hz1
  clear hz1
  go_upto_region 2 with (first
    | (refine wpList_build_sec (by rfl) (by rfl) ?_)
    | (refine wpList_alloc_sec (by rfl) (by rfl) ?_; intro w2 hs2 hb2 hz2; have HZ2 : Hid (w2.heap.size = w1.heap.size + 1) := hz2; clear hz2)
    | (refine wpList_store_sec (by rfl) _ _ (by rfl) w1.heap.size z64 z64 (by rfl) (by rfl) hs2 z64_len ?_; intro w3 hs3 hu3 hz3; have HZ3 : Hid (w3.heap.size = w2.heap.size) := hz3; clear hz3))
  go_frame
  obtain ⟨ra, hnn, he, hx1, hx2⟩ := HR.out
  have hb3 : Below w.heap.size w w3 := by
    have h2 := bnext hb1 hb2
    exact ⟨hu3.os.trans h2.os, hu3.tape.trans h2.tape, hu3.output.trans h2.output, Nat.le_trans h2.size hu3.size, fun b hb => (hu3.block b (by have := h2.size; omega) (fun q => by have := hb1.size; omega)).trans (h2.block b hb)⟩
  have r3 : Rw w3.drew a g c l := (ra.next hb3 (Nat.le_refl _)).same (W := w3.drew) (fun _ => rfl)
  have hs3' : Sx w3.drew w1.heap.size z64 := hs3.same (W := w3.drew) rfl
  have HC := run_copy_any w3.drew 3 67 (d := some ⟨w1.heap.size, 0, none⟩) (gd := w1.heap.size) (od := 0) (dLen := 64) (dCap := 64) (x := .slice ax (n - e) (c - e)) (t := (l.drop e).take cc) (fun w' => rfl) hcc (by simp; omega)
    (r3.first (by omega) (by omega) hx1 (fun q => (hx2 q).imp id (fun z => by omega)) (c - e)) (fun _ => ⟨rfl, fun j hj => hs3'.thr j (by omega)⟩)
  have HS : Hid (Sx (w3.drew.setCells w1.heap.size 0 (cY ((l.drop e).take cc))) w1.heap.size (sec l s)) := by
    have e1 := sec_is l s e cc (by rw [HK.out, hnn]; exact he) (by rw [hnn]; exact hcc')
    have hl4 : ((l.drop e).take cc).length = cc := by simp; omega
    refine ⟨Ty.sets _ _ _ _ hs3'.ty, sec_len _ _, ?_, World.there_setCells hs3'.thr _ _ _⟩
    have := range_mid hs3'.rng 0 (cY ((l.drop e).take cc)) (by rw [cY_len, cY_len, hl4, z64_len]; omega) (fun j hj => hs3'.thr j (by rw [cY_len, hl4] at hj; omega))
    rw [cY_len, hl4] at this
    rw [← e1, cY_app]
    simpa [cY, List.map_drop] using this
  have HB : Hid (Below w.heap.size w w3 ∧ Sx w1 w.heap.size z64 ∧ w1.heap.size = w.heap.size + 1 ∧ Below w1.heap.size w1 w3) := ⟨hb3, hs1, HZ1.out, ⟨hu3.os.trans hb2.os, hu3.tape.trans hb2.tape, hu3.output.trans hb2.output, Nat.le_trans hb2.size hu3.size, fun b hb => (hu3.block b (by have := hb2.size; omega) (fun q => by omega)).trans (hb2.block b hb)⟩⟩
  clear hb3 r3 hs3' ra hx1 hx2 hs1 hs2 hs3 hb1 hb2 hu3 HZ2 HZ3 hcc hcc' hnn he HZ1
  go_region_law (first
    | (refine step_copy (by rfl) _ _ _ _ (by rfl) (by rfl) (by rfl) HC ?_))
  obtain ⟨w4, hw4⟩ : ∃ W, w3.drew.setCells w1.heap.size 0 (cY ((l.drop e).take cc)) = W := ⟨_, rfl⟩
  have hs4 : Sx w4 w1.heap.size (sec l s) := by rw [← hw4]; exact HS.out
  have hr4 : Sx w4 w.heap.size z64 := by
    obtain ⟨h1, h2, h3, h4⟩ := HB.out
    rw [← hw4]
    exact ((h2.next h4).same (W := w3.drew) rfl).off (by omega) _ _
  have HB4 : Hid (Below w.heap.size w w4) := by
    obtain ⟨h1, h2, h3, h4⟩ := HB.out
    rw [← hw4]
    exact below_sets h1.drew (by omega) _ _
  rw [hw4]
  clear hw4 HS HB HC hx
  go_wp2_with (first
    | (refine wpList_load_sec (by rfl) _ (by rfl) w1.heap.size (sec l s) (by rfl) hs4 ?_)
    | (refine wpList_store_sec (by rfl) _ _ (by rfl) w.heap.size z64 (sec l s) (by rfl) (by rfl) hr4 (sec_len l s) ?_; intro w5 hs5 hu5 hz5))
  refine bodyPost_ret (v := sv (sec l s)) ?_ rfl ⟨rfl, ?_⟩
  · exact results_cell_mid Try.results60 _ _ w.heap.size 0 (cY (sec l s)) _ (by rfl) hs5.rng Try.underlying98 rfl hs5.size
  · exact ⟨hu5.os.trans HB4.out.os, hu5.tape.trans HB4.out.tape, hu5.output.trans HB4.out.output, Nat.le_trans HB4.out.size hu5.size, fun b hb => (hu5.block b (by have := HB4.out.size; omega) (fun q => by omega)).trans (HB4.out.block b hb)⟩
end Go.Proofs.Ytmhedhhbdpdafab
