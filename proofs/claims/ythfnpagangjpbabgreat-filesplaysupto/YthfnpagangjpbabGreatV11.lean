/-
  Own work: DWalkF, DWalkG.
-/
import Derived.Deep.LoopGhost
import Derived.Deep.Light
import Derived.Deep.OwnRows
import Derived.Test.YthfnpagangjpbabGreatV10
namespace Go.Proofs.YthfnpagangjpbabGreat
open Go.RowKit
theorem put_at (a : Act) (t s : Nat) (v : Value) (h : t < a.tmps.size) : (a.put (some t) v).tmps.getD s undef = if s = t then v else a.tmps.getD s undef := by
  by_cases e : s = t
  · subst e
    rw [if_pos rfl]
    simp [Act.put, Array.getD, h]
  · rw [if_neg e]
    by_cases hs : s < a.tmps.size
    · simp [Act.put, Array.getD, hs, Ne.symm e]
    · simp [Act.put, Array.getD, hs]
structure S8 (W : World) (a0 : Act) (V : Nat → Value) (A B : List UInt8) (L : Nat → Bool) (a : Act) (w : World) : Prop where
  df : a.defers = a0.defers
  sz : a.tmps.size = 62
  ot : ∀ t, t ≠ 8 → t ≠ 9 → (t < 38 ∨ 45 < t) → a.tmps.getD t undef = a0.tmps.getD t undef
  be : Below W.heap.size W w
  vl : ∀ j, j < 8 → L j = true → a.tmps.getD (38 + j) undef = V j
  p8 : L 8 = true → ∃ p, a.tmps.getD 8 undef = .pointer (some ⟨p, 0, none⟩) ∧ W.heap.size ≤ p ∧ Sx w p (if L 10 then A else z64)
  p9 : L 9 = true → ∃ p, a.tmps.getD 9 undef = .pointer (some ⟨p, 0, none⟩) ∧ W.heap.size ≤ p ∧ Sx w p (if L 11 then B else z64)
  ne : L 8 = true → L 9 = true → a.tmps.getD 8 undef ≠ a.tmps.getD 9 undef
section
variable {W w w' : World} {a0 a : Act} {V : Nat → Value} {A B : List UInt8} {L : Nat → Bool} {Q : Exit → Act → World → Prop} {ops : List Oper} {ty : TypeId} {ps : String} {af : Array Edge}
theorem S8.put (h : S8 W a0 V A B L a w) {j : Nat} (hj : j < 8) (hb : Below w.heap.size w w') : S8 W a0 V A B (fun i => if i = j then true else L i) (a.put (some (38 + j)) (V j)) w' := by
  have hs : 38 + j < a.tmps.size := by rw [h.sz]; omega
  have e8 : (if 8 = j then true else L 8) = L 8 := if_neg (by omega)
  have e9 : (if 9 = j then true else L 9) = L 9 := if_neg (by omega)
  have e10 : (if 10 = j then true else L 10) = L 10 := if_neg (by omega)
  have e11 : (if 11 = j then true else L 11) = L 11 := if_neg (by omega)
  refine ⟨h.df, by simp [Act.put, h.sz], fun t h1 h2 h3 => ?_, bnext h.be hb, fun i hi hL => ?_, ?_, ?_, ?_⟩
  · rw [put_at a _ _ _ hs, if_neg (by omega)]; exact h.ot t h1 h2 h3
  · rw [put_at a _ _ _ hs]
    by_cases e : i = j
    · subst e; rw [if_pos rfl]
    · rw [if_neg (by omega)]
      rw [if_neg e] at hL
      exact h.vl i hi hL
  · simp only [e8, e10]
    intro q
    obtain ⟨p, h1, h2, h3⟩ := h.p8 q
    exact ⟨p, by rw [put_at a _ _ _ hs, if_neg (by omega)]; exact h1, h2, h3.next hb⟩
  · simp only [e9, e11]
    intro q
    obtain ⟨p, h1, h2, h3⟩ := h.p9 q
    exact ⟨p, by rw [put_at a _ _ _ hs, if_neg (by omega)]; exact h1, h2, h3.next hb⟩
  · simp only [e8, e9]
    intro q r
    rw [put_at a _ _ _ hs, if_neg (by omega), put_at a _ _ _ hs, if_neg (by omega)]
    exact h.ne q r
set_option maxRecDepth 100000 in
theorem s8_field {bx k : Nat} {j : Nat} (hj : j < 8) (h2 : a0.tmps.getD 2 undef = .pointer (some ⟨bx, 0, none⟩)) (hk : k < 2) (hV : V j = .pointer (some ⟨bx, k, none⟩)) :
    StepJ Tryz.prog Q ops (S8 W a0 V A B) j { dst := some (38 + j), op := Op.fieldAddr 113 (Operand.tmp 2) k, type := ty, pos := ps, after := af, guard := none } := by
  intro L a w K hI _ _ _ hK
  have t2 := hI.ot 2 (by omega) (by omega) (.inl (by omega))
  rw [h2] at t2
  have hF := hI.put hj (Below.refl _ _)
  rw [hV] at hF
  show Oper.wp _ _ a w K _
  rcases (by omega : k = 0 ∨ k = 1) with rfl | rfl
  · go_simp
    exact hK _ _ hF
  · go_simp
    exact hK _ _ hF
set_option maxRecDepth 100000 in
theorem s8_load {bx k i : Nat} {j : Nat} {v : Value} (hj : j < 8) (hi : i < 8) (hVi : V i = .pointer (some ⟨bx, k, none⟩)) (hV : V j = v) (d : (af.toList.any fun e => e.on == i && Region.binds .any e) = true) (hc : ∀ w, Below W.heap.size W w → w.cell? ⟨bx, k, none⟩ = some v) (n c : Nat) (q : Option Addr) (hv : v = .slice q n c) (s : Nat) (hs : s = 38 + i) :
    StepJ Tryz.prog Q ops (S8 W a0 V A B) j { dst := some (38 + j), op := Op.load 111 (Operand.tmp s), type := ty, pos := ps, after := af, guard := none } := by
  intro L a w K hI _ _ hdep hK
  subst hs
  have t2 := hI.vl i hi (hdep i d)
  rw [hVi] at t2
  have hcc := hc w hI.be
  subst hv
  have hF := hI.put hj (Below.refl _ _)
  rw [hV] at hF
  show Oper.wp _ _ a w K _
  go_simp
  exact hK _ _ hF
set_option maxRecDepth 100000 in
theorem s8_move {j : Nat} {n : Int} (hj : j < 8) (h7 : a0.tmps.getD 7 undef = .int .i64 n) (hV : V j = .int .i64 n) :
    StepJ Tryz.prog Q ops (S8 W a0 V A B) j { dst := some (38 + j), op := Op.move (Operand.tmp 7), type := ty, pos := ps, after := af, guard := none } := by
  intro L a w K hI _ _ _ hK
  have t2 := hI.ot 7 (by omega) (by omega) (.inl (by omega))
  rw [h7] at t2
  have hF := hI.put hj (Below.refl _ _)
  rw [hV] at hF
  show Oper.wp _ _ a w K _
  go_simp
  exact hK _ _ hF
set_option maxRecDepth 100000 in
theorem s8_call {i k : Nat} {j : Nat} {v u : Value} {l : List UInt8} (hj : j < 8) (hi : i < 8) (hk : k < 8) (hVi : V i = v) (hVk : V k = u) (hV : V j = sv l) (d1 : (af.toList.any fun e => e.on == i && Region.binds .any e) = true) (d2 : (af.toList.any fun e => e.on == k && Region.binds .any e) = true)
    (hc : ∀ w, Below W.heap.size W w → Calls Tryz.prog 131 #[v, u] w fun e w' => e = .returned (sv l) ∧ Below w.heap.size w w') (s t : Nat) (hs : s = 38 + i) (ht : t = 38 + k) :
    StepJ Tryz.prog Q ops (S8 W a0 V A B) j { dst := some (38 + j), op := Op.call { callee := Callee.value (Operand.func 131), args := #[Operand.tmp s, Operand.tmp t], argTypes := #[111, 3] }, type := ty, pos := ps, after := af, guard := none } := by
  intro L a w K hI _ _ hdep hK
  subst hs ht
  have t1 := hI.vl i hi (hdep i d1)
  have t2 := hI.vl k hk (hdep k d2)
  rw [hVi] at t1
  rw [hVk] at t2
  show Oper.wp _ _ a w K _
  go_simp
  refine (hc w hI.be).mono ?_
  rintro e w' ⟨rfl, hb⟩
  have hF := hI.put hj hb
  rw [hV] at hF
  exact hK _ _ hF
theorem wp_alloc_sec {o : Oper} {K : Act → World → Prop} (hop : o.op = Op.alloc 171) (hK : ∀ w', Sx w' w.heap.size z64 → Below w.heap.size w w' → K (a.put o.dst (.pointer (some ⟨w.heap.size, 0, none⟩))) w') : Oper.wp Tryz.prog o a w K Q := by
  have hz := zero_sec w
  unfold Oper.wp
  simp [execOp, hop, Instr.alloc, newVar, hz, Result.andThen, sv, Value.cells]
  exact hK _ (sx_new w z64 z64_len) (bal (Below.refl _ _) _)
theorem wp_store_sec {o : Oper} {K : Act → World → Prop} (p x : Operand) (hop : o.op = Op.store 171 p x) (g : Nat) (l l' : List UInt8)
    (hp : a.eval p = .pointer (some ⟨g, 0, none⟩)) (hx : a.eval x = sv l') (h : Sx w g l) (hl : l'.length = 64)
    (hK : ∀ w', Sx w' g l' → Upo (fun x => x = g) w w' → w'.heap.size = w.heap.size → K (a.put o.dst undef) w') : Oper.wp Tryz.prog o a w K Q := by
  refine wp_store_mid 171 p x hop g 0 (cY l').toArray hp hx (by simp only [List.size_toArray, cY_len, hl]; exact h.thr) (by rw [List.size_toArray, cY_len, hl]; exact Tryz.sizeSec) (all_oneCell_toArray (cY_one l')) ?_
  exact hK _ (h.set hl) (upo_sets (S := fun x => x = g) (.inl rfl) _ _ _ (Upo.refl _ _)) (size_sets _ _ _ _)
set_option maxRecDepth 100000 in
theorem s8_al8 (hd : dep ops 10 8 = true) : StepJ Tryz.prog Q ops (S8 W a0 V A B) 8 { dst := some 8, op := Op.alloc 171, type := ty, pos := ps, after := af, guard := none } := by
  intro L a w K hI hj hcl _ hK
  have h10 : L 10 = false := by
    cases e : L 10
    · rfl
    · rw [hcl 10 8 e hd] at hj; cases hj
  refine wp_alloc_sec rfl fun w' hs hb => hK _ _ ?_
  have hz : 8 < a.tmps.size := by rw [hI.sz]; omega
  refine ⟨hI.df, by simp [Act.put, hI.sz], fun t h1 h2 h3 => ?_, bnext hI.be hb, fun i hi hL => ?_, fun _ => ?_, fun q => ?_, fun _ q => ?_⟩
  · rw [put_at a _ _ _ hz, if_neg h1]; exact hI.ot t h1 h2 h3
  · rw [put_at a _ _ _ hz, if_neg (by omega)]
    rw [if_neg (by omega)] at hL
    exact hI.vl i hi hL
  · refine ⟨w.heap.size, by rw [put_at a _ _ _ hz, if_pos rfl], hI.be.size, ?_⟩
    have : (if (10 : Nat) = 8 then true else L 10) = false := by rw [if_neg (by omega)]; exact h10
    simp only [this]
    exact hs
  · rw [if_neg (by omega)] at q
    obtain ⟨p, h1, h2, h3⟩ := hI.p9 q
    exact ⟨p, by rw [put_at a _ _ _ hz, if_neg (by omega)]; exact h1, h2, by rw [if_neg (by omega : ¬ (11 = 8))]; exact h3.next hb⟩
  · rw [if_neg (by omega)] at q
    obtain ⟨p, h1, h2, h3⟩ := hI.p9 q
    rw [put_at a _ _ _ hz, if_pos rfl, put_at a _ _ _ hz, if_neg (by omega), h1]
    intro e
    have := h3.ty.lt
    injection e with e
    injection e with e
    injection e with e _ _
    omega
set_option maxRecDepth 100000 in
theorem s8_al9 (hd : dep ops 11 9 = true) : StepJ Tryz.prog Q ops (S8 W a0 V A B) 9 { dst := some 9, op := Op.alloc 171, type := ty, pos := ps, after := af, guard := none } := by
  intro L a w K hI hj hcl _ hK
  have h11 : L 11 = false := by
    cases e : L 11
    · rfl
    · rw [hcl 11 9 e hd] at hj; cases hj
  refine wp_alloc_sec rfl fun w' hs hb => hK _ _ ?_
  have hz : 9 < a.tmps.size := by rw [hI.sz]; omega
  refine ⟨hI.df, by simp [Act.put, hI.sz], fun t h1 h2 h3 => ?_, bnext hI.be hb, fun i hi hL => ?_, fun q => ?_, fun _ => ?_, fun q _ => ?_⟩
  · rw [put_at a _ _ _ hz, if_neg h2]; exact hI.ot t h1 h2 h3
  · rw [put_at a _ _ _ hz, if_neg (by omega)]
    rw [if_neg (by omega)] at hL
    exact hI.vl i hi hL
  · rw [if_neg (by omega)] at q
    obtain ⟨p, h1, h2, h3⟩ := hI.p8 q
    exact ⟨p, by rw [put_at a _ _ _ hz, if_neg (by omega)]; exact h1, h2, by rw [if_neg (by omega : ¬ (10 = 9))]; exact h3.next hb⟩
  · refine ⟨w.heap.size, by rw [put_at a _ _ _ hz, if_pos rfl], hI.be.size, ?_⟩
    have : (if (11 : Nat) = 9 then true else L 11) = false := by rw [if_neg (by omega)]; exact h11
    simp only [this]
    exact hs
  · rw [if_neg (by omega)] at q
    obtain ⟨p, h1, h2, h3⟩ := hI.p8 q
    rw [put_at a _ _ _ hz, if_neg (by omega), put_at a _ _ _ hz, if_pos rfl, h1]
    intro e
    have := h3.ty.lt
    injection e with e
    injection e with e
    injection e with e _ _
    omega
theorem below_upo {B g : Nat} {w w1 w2 : World} (h : Below B w w1) (hu : Upo (fun x => x = g) w1 w2) (hB : B ≤ w1.heap.size) (hg : B ≤ g) : Below B w w2 :=
  ⟨hu.os.trans h.os, hu.tape.trans h.tape, hu.output.trans h.output, Nat.le_trans h.size hu.size, fun b hb => (hu.block b (by omega) (fun q => by omega)).trans (h.block b hb)⟩
set_option maxRecDepth 100000 in
theorem s8_st10 (hA : A.length = 64) (hV : V 3 = sv A) (d1 : (af.toList.any fun e => e.on == 8 && Region.binds .any e) = true) (d2 : (af.toList.any fun e => e.on == 3 && Region.binds .any e) = true) :
    StepJ Tryz.prog Q ops (S8 W a0 V A B) 10 { dst := none, op := Op.store 171 (Operand.tmp 8) (Operand.tmp 41), type := ty, pos := ps, after := af, guard := none } := by
  intro L a w K hI hj hcl hdep hK
  have h8 := hdep 8 d1
  obtain ⟨p, h1, h2, h3⟩ := hI.p8 h8
  have t3 := hI.vl 3 (by omega) (hdep 3 d2)
  rw [hV] at t3
  refine wp_store_sec (Operand.tmp 8) (Operand.tmp 41) rfl p _ A h1 t3 h3 hA fun w' hs hu hz => hK _ _ ?_
  have hbe : Below W.heap.size W w' := below_upo hI.be hu hI.be.size h2
  refine ⟨hI.df, hI.sz, hI.ot, hbe, fun i hi hL => ?_, fun _ => ⟨p, h1, h2, ?_⟩, fun q => ?_, fun q r => ?_⟩
  · rw [if_neg (by omega)] at hL; exact hI.vl i hi hL
  · simpa using hs
  · rw [if_neg (by omega)] at q
    obtain ⟨p', e1, e2, e3⟩ := hI.p9 q
    refine ⟨p', e1, e2, ?_⟩
    rw [if_neg (by omega : ¬ (11 = 10))]
    refine e3.same (hu.block p' e3.ty.lt fun e => ?_)
    exact hI.ne h8 q (by rw [h1, e1, e])
  · rw [if_neg (by omega)] at q r
    exact hI.ne q r
set_option maxRecDepth 100000 in
theorem s8_st11 (hB : B.length = 64) (hV : V 7 = sv B) (d1 : (af.toList.any fun e => e.on == 9 && Region.binds .any e) = true) (d2 : (af.toList.any fun e => e.on == 7 && Region.binds .any e) = true) :
    StepJ Tryz.prog Q ops (S8 W a0 V A B) 11 { dst := none, op := Op.store 171 (Operand.tmp 9) (Operand.tmp 45), type := ty, pos := ps, after := af, guard := none } := by
  intro L a w K hI hj hcl hdep hK
  have h9 := hdep 9 d1
  obtain ⟨p, h1, h2, h3⟩ := hI.p9 h9
  have t3 := hI.vl 7 (by omega) (hdep 7 d2)
  rw [hV] at t3
  refine wp_store_sec (Operand.tmp 9) (Operand.tmp 45) rfl p _ B h1 t3 h3 hB fun w' hs hu hz => hK _ _ ?_
  have hbe : Below W.heap.size W w' := below_upo hI.be hu hI.be.size h2
  refine ⟨hI.df, hI.sz, hI.ot, hbe, fun i hi hL => ?_, fun q => ?_, fun _ => ⟨p, h1, h2, ?_⟩, fun q r => ?_⟩
  · rw [if_neg (by omega)] at hL; exact hI.vl i hi hL
  · rw [if_neg (by omega)] at q
    obtain ⟨p', e1, e2, e3⟩ := hI.p8 q
    refine ⟨p', e1, e2, ?_⟩
    rw [if_neg (by omega : ¬ (10 = 11))]
    refine e3.same (hu.block p' e3.ty.lt fun e => ?_)
    exact hI.ne q h9 (by rw [h1, e1, e])
  · simpa using hs
  · rw [if_neg (by omega)] at q r
    exact hI.ne q r
theorem S8.fin (h : S8 W a0 V A B L a w) (hL : ∀ k, k < 12 → L k = true) (h0 : a0.tmps.size = 62) : ∃ p8 p9, a = puts a0 [38, 39, 40, 41, 42, 43, 44, 45, 8, 9] [V 0, V 1, V 2, V 3, V 4, V 5, V 6, V 7, .pointer (some ⟨p8, 0, none⟩), .pointer (some ⟨p9, 0, none⟩)] ∧ Sx w p8 A ∧ Sx w p9 B ∧ W.heap.size ≤ p8 ∧ W.heap.size ≤ p9 ∧ p8 ≠ p9 ∧ Below W.heap.size W w := by
  obtain ⟨p8, a1, a2, a3⟩ := h.p8 (hL 8 (by omega))
  obtain ⟨p9, b1, b2, b3⟩ := h.p9 (hL 9 (by omega))
  rw [hL 10 (by omega)] at a3
  rw [hL 11 (by omega)] at b3
  have hne := h.ne (hL 8 (by omega)) (hL 9 (by omega))
  refine ⟨p8, p9, act_putsI h.df (by rw [h.sz, h0]) (fun t ht => ?_) (fun k hk => ?_) rfl (fun i j hij hj => ?_), by simpa using a3, by simpa using b3, a2, b2, fun e => hne (by rw [a1, b1, e]), h.be⟩
  · have : t ∉ [38, 39, 40, 41, 42, 43, 44, 45, 8, 9] := by simpa using ht
    simp only [List.mem_cons, List.not_mem_nil, or_false, not_or] at this
    exact h.ot t (by omega) (by omega) (by omega)
  · have hk' : k < 10 := hk
    rcases (by omega : k < 8 ∨ k = 8 ∨ k = 9) with h1 | h1 | h1
    · have e := h.vl k h1 (hL k (by omega))
      rcases (by omega : k = 0 ∨ k = 1 ∨ k = 2 ∨ k = 3 ∨ k = 4 ∨ k = 5 ∨ k = 6 ∨ k = 7) with rfl | rfl | rfl | rfl | rfl | rfl | rfl | rfl <;> exact e
    · subst h1; exact a1
    · subst h1; exact b1
  · have hj' : j < 10 := hj
    have : ∀ x, x < 10 → [38, 39, 40, 41, 42, 43, 44, 45, 8, 9].getD x 0 = if x < 8 then 38 + x else x := by decide
    rw [this i (by omega), this j hj']
    split <;> split <;> omega
theorem region8 {P : Program} {ops : Array Oper} {id : Nat} {w0 : World} (hm : P.follows .mixedOrders = true)
    (hok : (List.range ops.size).all (fun j => match ops[j]? with | none => false | some o => o.after.all (fun e => !Region.binds .any e || decide (e.on < j)) && o.guard.isNone) = true)
    (V : Nat → Value) (A B : List UInt8) (step : StepAll (StepJ P Q ops.toList (S8 w0 a0 V A B)) 0 ops.toList) (h62 : a0.tmps.size = 62) (h12 : ops.size = 12)
    (fin : ∀ p8 p9 w, Sx w p8 A → Sx w p9 B → w0.heap.size ≤ p8 → w0.heap.size ≤ p9 → p8 ≠ p9 → Below w0.heap.size w0 w → Q .normal (puts a0 [38, 39, 40, 41, 42, 43, 44, 45, 8, 9] [V 0, V 1, V 2, V 3, V 4, V 5, V 6, V 7, .pointer (some ⟨p8, 0, none⟩), .pointer (some ⟨p9, 0, none⟩)]) w) : (Code.region id ops true).wp P Q a0 w0 := by
  refine wp_region_planJ hm hok (S8 w0 a0 V A B) (fun Z _ hZ => ⟨rfl, h62, fun _ _ _ _ => rfl, hZ, fun _ _ h => (Bool.false_ne_true h).elim, fun h => (Bool.false_ne_true h).elim, fun h => (Bool.false_ne_true h).elim, fun h => (Bool.false_ne_true h).elim⟩) step ?_
  intro L a8 w8 hall hI
  obtain ⟨p8, p9, rfl, x8, x9, g8, g9, hne, hb8⟩ := hI.fin (fun k hk => hall k (by rw [h12]; exact hk)) h62
  exact fin p8 p9 w8 x8 x9 g8 g9 hne hb8
end
end Go.Proofs.YthfnpagangjpbabGreat
namespace Go.Proofs.YthfnpagangjpbabGreat
open Go.RowKit
def rowk (X : List UInt8) (N : Nat) : List UInt8 := X.take N ++ List.replicate (N - X.length) 0
theorem rowk_len (X : List UInt8) (N : Nat) : (rowk X N).length = N := by simp [rowk]; omega
theorem rowk_nil (N : Nat) : rowk [] N = List.replicate N 0 := by simp [rowk]
theorem rowk_step (X S : List UInt8) (N e c : Nat) (he : min X.length N = e) (hc : min S.length (N - e) = c) : (rowk X N).take e ++ S.take c ++ (rowk X N).drop (e + c) = rowk (X ++ S) N := by
  have h1 : (rowk X N).take e = X.take N := by
    rw [rowk, List.take_append_of_le_length (by simp; omega)]
    rw [List.take_take]
    rcases Nat.le_total X.length N with h | h
    · rw [List.take_of_length_le (by omega), List.take_of_length_le h]
    · rw [show min e N = N by omega]
  have h2 : (rowk X N).drop (e + c) = List.replicate (N - (X ++ S).length) 0 := by
    have hl : (X.take N).length = e := by simp; omega
    rw [rowk, List.drop_append, List.drop_eq_nil_of_le (by omega), List.nil_append, hl, List.drop_replicate, List.length_append]
    congr 1
    omega
  have h3 : X.take N ++ S.take c = (X ++ S).take N := by
    rw [List.take_append]
    congr 1
    rcases Nat.le_total S.length (N - e) with h | h
    · rw [List.take_of_length_le (by omega), List.take_of_length_le (by omega)]
    · rw [show c = N - X.length by omega]
  rw [h1, h2, h3, rowk]
theorem rowk_full (X : List UInt8) (N : Nat) (h : N ≤ X.length) : rowk X N = X.take N := by
  rw [rowk, show N - X.length = 0 by omega]
  simp
theorem madeCells_one (v : Value) (n : Nat) : madeCells #[v] n = Array.replicate n v := by
  apply Array.ext
  · simp [size_madeCells]
  · intro i h1 h2
    simp [madeCells, Nat.mod_one]
theorem row_new (w : World) (n : Nat) : Rw (w.alloc (.cells (Array.replicate n (Value.int .u8 0)) 5)) (some ⟨w.heap.size, 0, none⟩) w.heap.size n (List.replicate n 0) := by
  refine ⟨.inr rfl, fun e => (by cases e), fun _ => ⟨_, _, new1 _ _⟩, by simp, fun _ j v hv => ?_, fun _ => there_new w _ _ _ (by simp)⟩
  rw [World.cell?_alloc_new, Nat.zero_add]
  have : cY (List.replicate n 0) = List.replicate n (Value.int .u8 0) := by simp [cY]
  rw [this] at hv
  rw [← hv]
  simp [Array.getElem?_replicate, List.getElem?_replicate]
theorem make_bytes (n : Nat) (hn : n ≤ 140737488355328) (u : World) : (Instr.makeSlice 111 (.int .i64 (n : Int)) (.int .i64 (n : Int))).run Tryz.prog u = .ok (.slice (some ⟨u.heap.size, 0, none⟩) n n) (u.alloc (.cells (Array.replicate n (Value.int .u8 0)) 5)) := by
  have := run_make_row' (P := Tryz.prog) 111 5 (.int .u8 0) 1 Tryz.underlying111 Tryz.infoY rfl .i64 .i64 n (by omega) (by omega) u
  rw [this, madeCells_one]
structure Sy (w : World) (bx gr q : Nat) (va vb : Value) (s : Nat) (ao : Option Addr) (kc : Nat) (ks : List Bool) (f : FV) (i1 N k : Nat) (wr : World) : Prop where
  up : Upo (fun x => x = q) w wr
  box : wr.heap[bx]? = some (.cells #[va, vb, .int .i64 (s : Int)] 113 (0, 0))
  row : Rw wr (some ⟨gr, 0, none⟩) gr N (rowk (sgo ks f i1 k).1 N)
  chs : Chs wr q ao kc ks (sgo ks f i1 k).2
set_option maxRecDepth 100000 in
set_option maxHeartbeats 2000000 in
theorem stays_any (w : World) (a : Option Addr) (g n c : Nat) (l : List UInt8) (b : Option Addr) (h m d s : Nat) (l2 : List UInt8) (q : Nat) (ao : Option Addr) (kb ko kc : Nat) (ks : List Bool) (i : Nat) (ra : Rw w a g c l) (rb : Rw w b h d l2) (hn : l.length = n) (hm : l2.length = m)
    (hc : Chs w q ao kc ks i) (hk : RdL w ao kb ko ks) (hkl : ks.length ≤ 9223372036854775807) (hn2 : n ≤ 1099511627776) (hm2 : m ≤ 1099511627776) (P : List UInt8 × Nat) (hP : Hid (stay ks ⟨l, l2⟩ i = P)) :
    Calls Tryz.prog 95 #[.agg #[.slice a n c, .slice b m d, .int .i64 (s : Int)], .pointer (some ⟨q, 0, none⟩)] w fun e w' => ∃ gr, e = .returned (.slice (some ⟨gr, 0, none⟩) P.1.length P.1.length) ∧ w.heap.size ≤ gr ∧ Rw w' (some ⟨gr, 0, none⟩) gr P.1.length P.1 ∧ Chs w' q ao kc ks P.2 ∧ Upo (fun x => x = q) w w' := by
  obtain ⟨N, i1, hN⟩ : ∃ N i1, slen ks ⟨l, l2⟩ i = (N, i1) := ⟨_, _, rfl⟩
  obtain ⟨r, hr⟩ : ∃ r, (!decide (n = m) && ch ks i) = r := ⟨_, rfl⟩
  have hN2 : N = (if r then n else m) := by
    have := congrArg Prod.fst hN
    simp only [slen] at this
    rw [hn, hm] at this
    rw [← hr, ← this]
    by_cases e : n = m
    · simp [e]
    · simp [e]
  have hq := hc.lt
  have HH : Hid (Rw w a g c l ∧ Rw w b h d l2 ∧ RdL w ao kb ko ks ∧ ks.length ≤ 9223372036854775807 ∧ l.length = n ∧ l2.length = m ∧ n ≤ 1099511627776 ∧ m ≤ 1099511627776 ∧ q < w.heap.size) := ⟨ra, rb, hk, hkl, hn, hm, hn2, hm2, hq⟩
  have HN : Hid (slen ks ⟨l, l2⟩ i = (N, i1) ∧ N = (if r then n else m)) := ⟨hN, hN2⟩
  have HG : Hid (∀ W, Upo (fun x => x = q) w W → Rw W a g c l ∧ Rw W b h d l2 ∧ RdL W ao kb ko ks) := fun W hu => by
    have ty : ∀ {x : Nat}, Ty w x 5 → x ≠ q := fun {x} hx => hx.ne ⟨_, _, hc⟩ (by decide)
    exact ⟨ra.same fun e => hu.block g (ra.ty e).lt (ty (ra.ty e)), rb.same fun e => hu.block h (rb.ty e).lt (ty (rb.ty e)), hk.same fun h0 => hu.block kb (hk.lt h0) (chs_ne hc hk h0)⟩
  have HC : Hid (Chs w q ao kc ks i) := hc
  have HR : Hid ((!decide (n = m) && ch ks i) = r) := hr
  clear ra rb hk hkl hn hm hn2 hm2 hq hN hN2 hc hr
  go_enter Tryz.func95, Tryz.ntmps95
  go_upto_region 2 with (fail)
  obtain ⟨w1, hw1⟩ : ∃ W, w.alloc (.cells #[.slice a n c, .slice b m d, .int .i64 (s : Int)] 113) = W := ⟨_, rfl⟩
  have k1 : w1.heap[w.heap.size]? = some (.cells #[.slice a n c, .slice b m d, .int .i64 (s : Int)] 113 (0, 0)) := by rw [← hw1]; exact new1 _ _
  have HB1 : Hid (Below w.heap.size w w1 ∧ w1.heap.size = w.heap.size + 1) := ⟨by rw [← hw1]; exact bal (Below.refl _ _) _, by rw [← hw1]; simp⟩
  have HC1 : Hid (Chs w1 q ao kc ks i) := HC.out.same (HB1.out.1.block q HH.out.2.2.2.2.2.2.2.2)
  obtain ⟨b0, b1, b2⟩ := three_at k1
  have K1 : Hid (w1.heap[w.heap.size]? = some (.cells #[.slice a n c, .slice b m d, .int .i64 (s : Int)] 113 (0, 0))) := k1
  rw [hw1]
  clear hw1 k1
  go_cut [21] from 13 to 20 (fun x wx => x = .bool r ∧ Chs wx q ao kc ks i1 ∧ Upo (fun x => x = q) w1 wx)
  case first =>
    by_cases e : n = m
    · have hr : false = r := by rw [← HR.out]; simp [e]
      have hi : i = i1 := by have := congrArg Prod.snd HN.out.1; simp only [slen] at this; rw [if_pos (by rw [HH.out.2.2.2.2.1, HH.out.2.2.2.2.2.1, e])] at this; exact this
      have e1 : ((n : Int) != (m : Int)) = false := by simp [e]
      subst hr hi
      have e' : (n : Int) = (m : Int) := by omega
      clear e
      go_wp2
      go_meet
      case rel => exact ⟨rfl, HC1.out, Upo.refl _ _⟩
    · have hr : ch ks i = r := by rw [← HR.out]; simp [e]
      have hi : i + 1 = i1 := by have := congrArg Prod.snd HN.out.1; simp only [slen] at this; rw [if_neg (by rw [HH.out.2.2.2.2.1, HH.out.2.2.2.2.2.1]; exact e)] at this; exact this
      have e1 : ((n : Int) != (m : Int)) = true := by simp; omega
      have HX := next_any w1 q ao kb ko kc ks i HC1.out (HH.out.2.2.1.next HB1.out.1) HH.out.2.2.2.1 r hr
      subst hi
      clear hr
      have e' : ¬ (n : Int) = (m : Int) := by omega
      clear e
      go_wp2_with (go_at_call 130; with_reducible refine HX.mono ?_; rintro e w2 ⟨rfl, hc2, hu2⟩)
      go_meet
      case rel => exact ⟨rfl, hc2, hu2⟩
  case rest =>
    obtain ⟨rfl, hc2, hu2⟩ := hcut
    obtain ⟨w2, hw2⟩ : ∃ W, W = wc := ⟨_, rfl⟩
    subst hw2
    have K2 : Hid (w2.heap[w.heap.size]? = some (.cells #[.slice a n c, .slice b m d, .int .i64 (s : Int)] 113 (0, 0))) := (hu2.block _ (by have := HB1.out.2; omega) (fun e => by have := HH.out.2.2.2.2.2.2.2.2; omega)).trans K1.out
    obtain ⟨b0, b1, b2⟩ := three_at K2.out
    have HU2 : Hid (Upo (fun x => x = q) w w2 ∧ Chs w2 q ao kc ks i1 ∧ w.heap.size + 1 ≤ w2.heap.size) := ⟨(Upo.of HB1.out.1).trans hu2 (fun _ _ q => q), hc2, by have := hu2.size; have := HB1.out.2; omega⟩
    clear hc2 hu2 HC1 HC HR K1 HB1
    go_upto_if 21 with (fail)
    go_cut [5] from 22 to 24 (fun x wx => x = .int .i64 (N : Int) ∧ w2 = wx)
    case first =>
      cases r
      · have e : N = m := by simpa using HN.out.2
        subst e
        go_wp2
        go_meet
        case rel => exact ⟨rfl, rfl⟩
      · have e : N = n := by simpa using HN.out.2
        subst e
        go_wp2
        go_meet
        case rel => exact ⟨rfl, rfl⟩
    case rest =>
      obtain ⟨rfl, rfl⟩ := hcut
      have hNle : N ≤ 1099511627776 := by
        have := HN.out.2
        have h1 := HH.out.2.2.2.2.2.2.1
        have h2 := HH.out.2.2.2.2.2.2.2.1
        cases r
        · simp at this; omega
        · simp at this; omega
      have hmk := make_bytes N (by omega)
      have HN3 : Hid (N ≤ 1099511627776) := hNle
      clear hNle
      go_upto_region 5 with (fail)
      obtain ⟨w3, hw3⟩ : ∃ W, w2.alloc (.cells (Array.replicate N (Value.int .u8 0)) 5) = W := ⟨_, rfl⟩
      have S0 : Sy w w.heap.size w2.heap.size q (.slice a n c) (.slice b m d) s ao kc ks ⟨l, l2⟩ i1 N 0 w3 := by
        rw [← hw3]
        refine ⟨HU2.out.1.alloc _, ((MapKept.heap_alloc _ _).2 _ (by have := HU2.out.2.2; omega)).trans K2.out, ?_, HU2.out.2.1.same ((MapKept.heap_alloc _ _).2 _ HU2.out.2.1.lt)⟩
        have := row_new w2 N
        simpa [sgo, rowk_nil] using this
      rw [hw3]
      clear hw3 K2
      have HS0 : Hid (Sy w w.heap.size w2.heap.size q (.slice a n c) (.slice b m d) s ao kc ks ⟨l, l2⟩ i1 N 0 w3 ∧ w.heap.size + 1 ≤ w2.heap.size) := ⟨S0, HU2.out.2.2⟩
      clear S0 HU2 b0 b1 b2 hmk
      obtain ⟨NS, hNS⟩ : ∃ k, nsec ⟨l, l2⟩ = k := ⟨_, rfl⟩
      have HNS : Hid (nsec ⟨l, l2⟩ = NS) := hNS
      clear hNS
      go_wp2
      go_loopg [7] NS (fun gg x wr => ∃ k : Nat, k ≤ NS ∧ gg = NS - k ∧ x = .int .i64 ((64 * k : Nat) : Int) ∧ Sy w w.heap.size w2.heap.size q (.slice a n c) (.slice b m d) s ao kc ks ⟨l, l2⟩ i1 N k wr)
      case atStart => exact ⟨0, Nat.zero_le _, rfl, rfl, HS0.out.1⟩
      case round =>
        obtain ⟨k, hk, rfl, rfl, hS⟩ := hrel
        obtain ⟨M, hM⟩ : ∃ M, max n m = M := ⟨_, rfl⟩
        have hNS : (M + 63) / 64 = NS := by rw [← HNS.out, nsec]; show _ = (max l.length l2.length + 63) / 64; rw [HH.out.2.2.2.2.1, HH.out.2.2.2.2.2.1, hM]
        have hm1 : (if n < m then (m : Int) else (n : Int)) = (M : Int) := by split <;> omega
        obtain ⟨kk, hkk⟩ : ∃ kk, 64 * k = kk := ⟨_, rfl⟩
        have HKK : Hid (64 * k = kk) := hkk
        rw [hkk]
        obtain ⟨b0, b1, b2⟩ := three_at hS.box
        have HS : Hid (Sy w w.heap.size w2.heap.size q (.slice a n c) (.slice b m d) s ao kc ks ⟨l, l2⟩ i1 N k wr) := hS
        clear hS
        by_cases hlt : k < NS
        · have hc1 : (kk : Int) < (M : Int) := by omega
          have HM : Hid (max n m = M ∧ k < NS ∧ (M + 63) / 64 = NS) := ⟨hM, hlt, hNS⟩
          clear hkk hM hNS hlt hk
          go_upto_region 8 with (fail)
          rename_i K8 hK8
          obtain ⟨A, hA⟩ : ∃ A, sec l k = A := ⟨_, rfl⟩
          obtain ⟨B, hB⟩ : ∃ B, sec l2 k = B := ⟨_, rfl⟩
          have HAB : Hid (sec l k = A ∧ sec l2 k = B ∧ A.length = 64 ∧ B.length = 64) := ⟨hA, hB, by rw [← hA]; exact sec_len _ _, by rw [← hB]; exact sec_len _ _⟩
          have HA : Hid (∀ W, Below wr.heap.size wr W → Calls Tryz.prog 131 #[.slice a n c, .int .i64 (kk : Int)] W fun e w' => e = .returned (sv A) ∧ Below W.heap.size W w') := fun W hb => by
            have := sector_any W a g n c k l (HG.out W (HS.out.up.next hb)).1 HH.out.2.2.2.2.1
            rw [HKK.out, hA] at this
            exact this
          have HB : Hid (∀ W, Below wr.heap.size wr W → Calls Tryz.prog 131 #[.slice b m d, .int .i64 (kk : Int)] W fun e w' => e = .returned (sv B) ∧ Below W.heap.size W w') := fun W hb => by
            have := sector_any W b h m d k l2 (HG.out W (HS.out.up.next hb)).2.1 HH.out.2.2.2.2.2.1
            rw [HKK.out, hB] at this
            exact this
          clear hA hB
          have HBx : Hid (∀ W, Below wr.heap.size wr W → W.cell? ⟨w.heap.size, 0, none⟩ = some (.slice a n c) ∧ W.cell? ⟨w.heap.size, 1, none⟩ = some (.slice b m d)) := fun W hb => by
            have := three_at ((hb.block _ (Array.getElem?_eq_some_iff.1 HS.out.box).1).trans HS.out.box)
            exact ⟨this.1, this.2.1⟩
          clear b0 b1 b2 hc1 hm1
          refine region8 (by kernel_rfl) (by kernel_rfl) (fun j => match j with | 0 => .pointer (some ⟨w.heap.size, 0, none⟩) | 1 => .slice a n c | 2 => .int .i64 (kk : Int) | 3 => sv A | 4 => .pointer (some ⟨w.heap.size, 1, none⟩) | 5 => .slice b m d | 6 => .int .i64 (kk : Int) | 7 => sv B | _ => undef) A B
            ⟨s8_field (bx := w.heap.size) (k := 0) (j := 0) (by omega) rfl (by omega) rfl, s8_load (bx := w.heap.size) (k := 0) (i := 0) (j := 1) (v := .slice a n c) (by omega) (by omega) rfl rfl rfl (fun W hb => (HBx.out W hb).1) n c a rfl _ rfl, s8_move (j := 2) (n := (kk : Int)) (by omega) rfl rfl,
             s8_call (j := 3) (i := 1) (k := 2) (v := .slice a n c) (u := .int .i64 (kk : Int)) (l := A) (by omega) (by omega) (by omega) rfl rfl rfl rfl rfl HA.out _ _ rfl rfl, s8_field (bx := w.heap.size) (k := 1) (j := 4) (by omega) rfl (by omega) rfl, s8_load (bx := w.heap.size) (k := 1) (i := 4) (j := 5) (v := .slice b m d) (by omega) (by omega) rfl rfl rfl (fun W hb => (HBx.out W hb).2) m d b rfl _ rfl, s8_move (j := 6) (n := (kk : Int)) (by omega) rfl rfl,
             s8_call (j := 7) (i := 5) (k := 6) (v := .slice b m d) (u := .int .i64 (kk : Int)) (l := B) (by omega) (by omega) (by omega) rfl rfl rfl rfl rfl HB.out _ _ rfl rfl, s8_al8 rfl, s8_al9 rfl, s8_st10 HAB.out.2.2.1 rfl rfl rfl, s8_st11 HAB.out.2.2.2 rfl rfl rfl, trivial⟩ rfl rfl ?_
          intro p8 p9 w8 x8 x9 g8 g9 hne hb8
          simp only [puts]
          go_simp
          refine hK8 _ _ ?_
          clear hK8
          obtain ⟨j, hj⟩ : ∃ j, (sgo ks ⟨l, l2⟩ i1 k).2 = j := ⟨_, rfl⟩
          obtain ⟨r9, hr9⟩ : ∃ r, (!decide (A = B) && ch ks j) = r := ⟨_, rfl⟩
          have HJ : Hid ((sgo ks ⟨l, l2⟩ i1 k).2 = j ∧ (!decide (A = B) && ch ks j) = r9) := ⟨hj, hr9⟩
          have HU8 : Hid (Upo (fun x => x = q) w w8) := HS.out.up.next hb8
          have HC8 : Hid (Chs w8 q ao kc ks j) := by have := HS.out.chs; rw [hj] at this; exact this.same (hb8.block q this.lt)
          have HX8 : Hid (Sx w8 p8 A ∧ Sx w8 p9 B ∧ wr.heap.size ≤ p8 ∧ wr.heap.size ≤ p9 ∧ p8 ≠ p9 ∧ Below wr.heap.size wr w8) := ⟨x8, x9, g8, g9, hne, hb8⟩
          obtain ⟨j2, hj2⟩ : ∃ j2, (if A = B then j else j + 1) = j2 := ⟨_, rfl⟩
          have HJ2 : Hid ((if A = B then j else j + 1) = j2) := hj2
          clear hj hr9 hj2 g8 g9 hne hb8 HA HB HBx
          go_upto_region 9 with (fail)
          go_cut [52] from 27 to 51 (fun x wx => x = .bool r9 ∧ Chs wx q ao kc ks j2 ∧ Upo (fun x => x = q) w8 wx)
          case first =>
            by_cases e : A = B
            · have hr : false = r9 := by rw [← HJ.out.2]; simp [e]
              have hi : j = j2 := by rw [← HJ2.out, if_pos e]
              subst hr hi
              have e9 : decide (A = B) = !false := by simp [e]
              clear e
              go_wp2_with (first
                | (refine wpList_load_sec (by rfl) _ (by rfl) p8 A (by rfl) x8 ?_)
                | (refine wpList_load_sec (by rfl) _ (by rfl) p9 B (by rfl) x9 ?_)
                | (refine wpList_neq_sec (by rfl) _ _ (by rfl) A B (by rfl) (by rfl) HAB.out.2.2.1 HAB.out.2.2.2 false e9 ?_))
              go_meet
              case rel => exact ⟨rfl, HC8.out, Upo.refl _ _⟩
            · have hr : ch ks j = r9 := by rw [← HJ.out.2]; simp [e]
              have hi : j + 1 = j2 := by rw [← HJ2.out, if_neg e]
              have HX := next_any w8 q ao kb ko kc ks j HC8.out (HG.out w8 HU8.out).2.2 HH.out.2.2.2.1 r9 hr
              subst hi
              clear hr
              have e9 : decide (A = B) = !true := by simp [e]
              clear e
              go_wp2_with (first
                | (refine wpList_load_sec (by rfl) _ (by rfl) p8 A (by rfl) x8 ?_)
                | (refine wpList_load_sec (by rfl) _ (by rfl) p9 B (by rfl) x9 ?_)
                | (refine wpList_neq_sec (by rfl) _ _ (by rfl) A B (by rfl) (by rfl) HAB.out.2.2.1 HAB.out.2.2.2 true e9 ?_)
                | (go_at_call 130; with_reducible refine HX.mono ?_; rintro e w9 ⟨rfl, hc9, hu9⟩))
              go_meet
              case rel => exact ⟨rfl, hc9, hu9⟩
          case rest =>
            obtain ⟨rfl, hc9, hu9⟩ := hcut
            obtain ⟨w9, hw9⟩ : ∃ W, W = wc := ⟨_, rfl⟩
            subst hw9
            have hq : q < wr.heap.size := by have := HH.out.2.2.2.2.2.2.2.2; have := HS.out.up.size; omega
            have y8 : Sx w9 p8 A := x8.same (hu9.block p8 x8.ty.lt (fun e => by have := HX8.out.2.2.1; omega))
            have y9 : Sx w9 p9 B := x9.same (hu9.block p9 x9.ty.lt (fun e => by have := HX8.out.2.2.2.1; omega))
            obtain ⟨S, hS⟩ : ∃ S, (if r9 then A else B) = S := ⟨_, rfl⟩
            have HSS : Hid ((if r9 then A else B) = S) := hS
            have HC9 : Hid (Chs w9 q ao kc ks j2 ∧ Upo (fun x => x = q) w8 w9 ∧ q < wr.heap.size) := ⟨hc9, hu9, hq⟩
            clear hS hc9 hu9 hq x8 x9
            go_upto_if 52 with (fail)
            go_cut [53] from 54 to 54 (fun x wx => Sx wx p9 S ∧ Upo (fun x => x = p9) w9 wx)
            case first =>
              cases r9
              · have e : B = S := by simpa using HSS.out
                subst e
                go_wp2
                go_meet
                case rel => exact ⟨y9, Upo.refl _ _⟩
              · have e : A = S := by simpa using HSS.out
                subst e
                go_wp2_with (first
                  | (refine wpList_load_sec (by rfl) _ (by rfl) p8 A (by rfl) y8 ?_)
                  | (refine wpList_store_sec (by rfl) _ _ (by rfl) p9 B A (by rfl) (by rfl) y9 HAB.out.2.2.1 ?_; intro w10 y10 hu10 hz10))
                go_meet
                case rel => exact ⟨y10, hu10⟩
            case rest =>
              obtain ⟨y10, hu10⟩ := hcut
              obtain ⟨w10, hw10⟩ : ∃ W, W = wc := ⟨_, rfl⟩
              subst hw10
              obtain ⟨X, hX⟩ : ∃ X, (sgo ks ⟨l, l2⟩ i1 k).1 = X := ⟨_, rfl⟩
              have hXl : X.length = kk := by rw [← hX, sgo_len, HKK.out]
              obtain ⟨e, he⟩ : ∃ e, min kk N = e := ⟨_, rfl⟩
              have he1 : (0 : Int) ≤ (e : Int) := by omega
              have he2 : (e : Int) ≤ (N : Int) := by omega
              have hmin : (if N < kk then (N : Int) else (kk : Int)) = (e : Int) := by split <;> omega
              obtain ⟨c0, hc0⟩ : ∃ c, Nat.min 64 (N - e) = c := ⟨_, rfl⟩
              have hc0' : min 64 (N - e) = c0 := hc0
              have HGR : Hid (w2.heap.size ≠ q ∧ w2.heap.size ≠ p8 ∧ w2.heap.size ≠ p9 ∧ w.heap.size ≠ p9) := by
                have h1 := HS0.out.2
                have h2 := HH.out.2.2.2.2.2.2.2.2
                have h3 := (HS.out.row.ty rfl).lt
                have h4 := (Array.getElem?_eq_some_iff.1 HS.out.box).1
                have h5 := HX8.out.2.2.1
                have h6 := HX8.out.2.2.2.1
                exact ⟨by omega, by omega, by omega, by omega⟩
              have keep : ∀ x, x < wr.heap.size → x ≠ q → w10.heap[x]? = wr.heap[x]? := fun x hx hxq => by
                obtain ⟨_, _, h5, h6, _, hb8⟩ := HX8.out
                have hu9 := HC9.out.2.1
                exact (hu10.block x (by have := hb8.size; have := hu9.size; omega) (fun e => by omega)).trans ((hu9.block x (by have := hb8.size; omega) hxq).trans (hb8.block x hx))
              have r10 : Rw w10.drew (some ⟨w2.heap.size, 0, none⟩) w2.heap.size N (rowk X N) := by
                have := HS.out.row
                rw [hX] at this
                exact this.same (W := w10.drew) fun _ => keep _ (this.ty rfl).lt HGR.out.1
              have y10' : Sx w10.drew p9 S := y10.same (W := w10.drew) rfl
              obtain ⟨ax, hx⟩ : ∃ ax, (if N = e then some (⟨w2.heap.size, 0, none⟩ : Addr) else some (⟨w2.heap.size, e, none⟩ : Addr)) = ax := ⟨_, rfl⟩
              have hfirst : (Builtin.firstCells 1 c0 (.slice (some ⟨p9, 0, none⟩) 64 64)).run Tryz.prog w10.drew = .ok (cY (S.take c0)).toArray w10.drew := by
                have hl := y10'.len
                refine run_firstCells_some w10.drew 1 c0 _ 64 64 (cY (S.take c0)) (by rw [cY_len]; simp; omega) (fun t u hu => ?_)
                rw [Addr.add_mid]
                refine y10'.rng t u ?_
                rw [cY, List.map_take, List.getElem?_take] at hu
                split at hu
                · exact hu
                · cases hu
              have HC := run_copy_any w10.drew 3 111 (d := ax) (gd := w2.heap.size) (od := e) (dLen := N - e) (dCap := N - e) (x := .slice (some ⟨p9, 0, none⟩) 64 64) (t := S.take c0) (fun w' => rfl) hc0 (by have := y10'.len; simp; omega) hfirst
                (fun h0 => ⟨by rw [← hx, if_neg (by omega)], fun t ht => by
                  have := r10.thr rfl (e + t) (by omega)
                  rwa [Nat.zero_add] at this⟩)
              have HNX : Hid (Sy w w.heap.size w2.heap.size q (.slice a n c) (.slice b m d) s ao kc ks ⟨l, l2⟩ i1 N (k + 1) (w10.drew.setCells w2.heap.size e (cY (S.take c0)))) := by
                have hl := y10'.len
                have hsg : sgo ks ⟨l, l2⟩ i1 (k + 1) = (X ++ S, j2) := by
                  obtain ⟨hA, hB, _, _⟩ := HAB.out
                  simp only [sgo]
                  rw [hA, hB, hX, HJ.out.1, ← HSS.out, ← HJ.out.2, ← HJ2.out]
                  by_cases eab : A = B
                  · simp [eab]
                  · simp [eab]
                have hu : Upo (fun x => x = q ∨ x = w2.heap.size) wr (w10.drew.setCells w2.heap.size e (cY (S.take c0))) := by
                  obtain ⟨_, _, h5, h6, _, hb8⟩ := HX8.out
                  have hu9 := HC9.out.2.1
                  refine upo_sets (.inl (.inr rfl)) _ _ _ (Upo.drew ⟨hu10.os.trans (hu9.os.trans hb8.os), hu10.tape.trans (hu9.tape.trans hb8.tape), hu10.output.trans (hu9.output.trans hb8.output), by have := hb8.size; have := hu9.size; have := hu10.size; omega, fun x hx hn => keep x hx (fun e => hn (.inl e))⟩)
                have h0 := HS0.out.2
                have hgr := HGR.out
                refine ⟨HS.out.up.trans hu (fun x hx hq => hq.resolve_right (by omega)), (hu.block _ (Array.getElem?_eq_some_iff.1 HS.out.box).1 (fun e => by have := HH.out.2.2.2.2.2.2.2.2; rcases e with e | e <;> omega)).trans HS.out.box, ?_, ?_⟩
                · rw [hsg]
                  have := r10.over e (S.take c0) (by rw [rowk_len]; simp; omega)
                  have hlc : (S.take c0).length = c0 := by simp; omega
                  rw [hlc, rowk_step X S N e c0 (by rw [hXl]; exact he) (by rw [hl]; exact hc0')] at this
                  exact this
                · rw [hsg]
                  have hch := HC9.out.1
                  refine hch.same ?_
                  refine ((upo_sets (S := fun x => x = w2.heap.size) (.inl rfl) _ _ _ (Upo.refl _ w10.drew)).block q ?_ (fun e => hgr.1 e.symm)).trans (hu10.block q hch.lt (fun e => by have := HX8.out.2.2.2.1; have := HC9.out.2.2; omega))
                  have := hu10.size
                  have := hch.lt
                  show q < w10.heap.size
                  omega
              have hkk : IntKind.i64.wrap ((kk : Int) + 64) = ((64 * (k + 1) : Nat) : Int) := by
                have h1 := HM.out
                have h2 := HH.out.2.2.2.2.2.2.1
                have h3 := HH.out.2.2.2.2.2.2.2.1
                have h4 := HKK.out
                rw [IntKind.wrap_i64]
                omega
              have HF : Hid (k < NS) := HM.out.2.1
              clear hXl he hc0 hc0' keep r10 y10' hfirst y10 hu10 HX8 HC9 HGR HJ HJ2 HAB HSS HS HU8 HC8 y8 y9 hX
              go_upto_region 11 with (fail)
              go_region_law (first
                | (refine step_copy (by rfl) _ _ _ _ (by rfl) (by rfl) (by rfl) HC ?_))
              all_goals
                obtain ⟨w11, hw11⟩ : ∃ W, w10.drew.setCells w2.heap.size e (cY (S.take c0)) = W := ⟨_, rfl⟩
                rw [hw11] at HNX ⊢
                clear hw11 HC hx
                go_wp2
                go_roundg (NS - (k + 1))
                case rel =>
                  go_light
                  exact ⟨k + 1, by have := HF.out; omega, rfl, by go_num, HNX.out⟩
                case measure => go_light; have := HF.out; omega
        · have hc1 : ¬ ((kk : Int) < (M : Int)) := by omega
          obtain rfl : k = NS := by omega
          have HP : Hid (P.1.length = N ∧ rowk (sgo ks ⟨l, l2⟩ i1 k).1 N = P.1 ∧ (sgo ks ⟨l, l2⟩ i1 k).2 = P.2) := by
            have e1 := hP.out
            simp only [stay, HN.out.1, HNS.out] at e1
            have hNM : N ≤ 64 * k := by
              have := HN.out.2
              cases r
              · simp at this; omega
              · simp at this; omega
            have e2 : P.1 = (sgo ks ⟨l, l2⟩ i1 k).1.take N := by rw [← e1]
            refine ⟨by rw [e2, List.length_take, sgo_len]; omega, by rw [rowk_full _ _ (by rw [sgo_len]; exact hNM), e2], by rw [← e1]⟩
          clear hkk hM hNS hlt hk
          go_wp2
          go_ret
          obtain ⟨e1, e2, e3⟩ := HP.out
          refine ⟨w2.heap.size, by rw [e1]; rfl, by have := HS0.out.2; omega, ?_, ?_, HS.out.up⟩
          · rw [e1, ← e2]; exact HS.out.row
          · rw [← e3]; exact HS.out.chs
end Go.Proofs.YthfnpagangjpbabGreat
