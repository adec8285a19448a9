/-
  The walk of made. Own work.
-/
import Derived.Test.YtncndefggegicabDoorKRefC
import Derived.Test.YtncndefggegicabDoorKAlive
namespace Go.Proofs.YtncndefggegicabDoor
open Go.RowKit
attribute [local go_sem ↓] Go.wp_at_zero Go.wp_at_succ
/-- Texts appended to texts of one's own, at the operation. -/
theorem wp_append_S (w : World) {o : Oper} {a : Act} {K : Act → World → Prop} {Q : Exit → Act → World → Prop}
    (s x : Operand) (hop : o.op = Op.call { callee := Callee.builtin Builtin.append, args := #[s, x], argTypes := #[23, 23] })
    (B : Nat) (v : Value) (L : List ByteArray) (hs : a.eval s = v) (hown : OwnS w B v L) (ao : Option Addr) (b off cap : Nat) (M : List ByteArray) (hx : a.eval x = .slice ao M.length cap) (hr : RdS w ao b off M.length M) (hn : ao = none → cap = 0)
    (hlen : L.length + M.length ≤ 8796093022208) (hB : B ≤ w.heap.size)
    (hK : ∀ v' w', OwnS w' B v' (L ++ M) → Below B w w' → K (a.put o.dst v') w') : o.wp Tryd.prog a w K Q := by
  obtain ⟨i0, hi, hz0, hz1, hz2⟩ := info_parts Tryd.infoS
  have hlt : ∀ k, v.ownBlock = some k → B ≤ k := fun k hk => (World.ownsRow.lt hown k hk).1
  cases ao with
  | none =>
    obtain rfl := hn rfl
    have hM : M = [] := by
      cases M with
      | nil => rfl
      | cons m r => exact absurd (hr.ptr (by simp)) (by simp)
    subst hM
    have hrun := run_append_owned_none (P := Tryd.prog) (w := w) B 23 o.type 9 i0 1 Tryd.underlying23 hi v L.length _ hown
    unfold Oper.wp
    simp only [List.length_nil] at hx
    simp [execOp, hop, resolve, invoke, builtin, hs, hx, hrun, Result.andThen]
    exact hK v w (by rw [List.append_nil]; exact hown) (Below.refl _ _)
  | some ad =>
    have hnews : ∀ j u, (M.map Value.string)[j]? = some u → w.cell? (ad.add j) = some u := fun j u hu => by
      have hj : j < M.length := by have := (List.getElem?_eq_some_iff.1 hu).1; rwa [List.length_map] at this
      have := Option.some.inj (hr.ptr (by omega))
      subst this
      rw [Addr.add_mid]; exact hr.rng j u hu
    obtain ⟨v', w', hrun, r1, r2, _⟩ := run_append_own (P := Tryd.prog) w B 23 o.type 9 i0 (.string ByteArray.empty) 1 16 Tryd.underlying23 hi hz0 hz1 hz2 rfl (by decide) v L.length _ hown ad M.length cap (M.map Value.string) (by simp) hnews (by intro u hu; obtain ⟨y, _, rfl⟩ := List.mem_map.1 hu; rfl) (by unfold maxLen; omega) (by omega) hB
    unfold Oper.wp
    simp [execOp, hop, resolve, invoke, builtin, hs, hx, hrun, Result.andThen]
    refine hK v' w' ?_ ((Below.refl _ _).grown r2 hB hlt)
    rw [OwnS, List.length_append, List.map_append]; exact r1
theorem step_append_S (w : World) {ops : Array Oper} {o : Oper} {a : Act} {K : Act → World → Prop} {Q : Exit → Act → World → Prop} {E : Prop} (hgd : o.guard = none)
    (s x : Operand) (hop : o.op = Op.call { callee := Callee.builtin Builtin.append, args := #[s, x], argTypes := #[23, 23] })
    (B : Nat) (v : Value) (L : List ByteArray) (hs : a.eval s = v) (hown : OwnS w B v L) (ao : Option Addr) (b off cap : Nat) (M : List ByteArray) (hx : a.eval x = .slice ao M.length cap) (hr : RdS w ao b off M.length M) (hn : ao = none → cap = 0)
    (hlen : L.length + M.length ≤ 8796093022208) (hB : B ≤ w.heap.size)
    (hK : ∀ v' w', OwnS w' B v' (L ++ M) → Below B w w' → K (a.put o.dst v') w') : if Region.wanted o (yielded ops a.tmps) = true then Oper.wp Tryd.prog o a w K Q else E := by
  have hw : Region.wanted o (yielded ops a.tmps) = true := by simp [Region.wanted, hgd]
  rw [if_pos hw]
  exact wp_append_S w s x hop B v L hs hown ao b off cap M hx hr hn hlen hB hK
/-- What made answers: n, L: the size and the peaks that it was asked for. -/
def MadeB (w w' : World) (K : Int) (n : Nat) (L : List ByteArray) (e0 : Nat) (e : Ending) : Prop :=
  Below w.heap.size w w' ∧ ((e0 ≠ 0 ∧ e = .returned (.tuple #[.pointer none, .pointer none, .bool true])) ∨ (e0 = 0 ∧ ∃ p v q u, e = .returned (.tuple #[.pointer (some ⟨p, 0, none⟩), .pointer (some ⟨q, 0, none⟩), .bool true]) ∧ Rg w' p v K n L ∧ Rf w' q u K n L ∧ w.heap.size ≤ p ∧ p < q))
set_option maxRecDepth 100000 in
set_option maxHeartbeats 1000000 in
theorem made_new (w : World) (K : Int) (N : Nat) (sl : Value) (ao : Option Addr) (len cap : Nat) (hsl : sl = .slice ao len cap) (e0 : Nat) (he : fe K 0 [] = e0) :
    Calls Tryd.prog 5 #[.agg #[.int .i64 K, .bool false, .int .u64 (N : Int), sl]] w fun e w' => MadeB w w' K 0 [] e0 e := by
  subst hsl
  have HN1 : Hid (∀ W, Calls Tryd.prog 14 #[.int .i64 K] W fun e w' => Made W w' K 0 [] e0 e) := fun W => knew_any W K e0 he
  have HN2 : Hid (∀ W, Calls Tryd.prog 18 #[.int .i64 K] W fun e w' => MadeR W w' K 0 [] e0 e) := fun W => refnew_any W K e0 he
  have hb := bal (Below.refl w.heap.size w) (.cells #[.int .i64 K, .bool false, .int .u64 (N : Int), .slice ao len cap] 25)
  have HX : Hid (∀ W, Below (w.alloc (.cells #[.int .i64 K, .bool false, .int .u64 (N : Int), .slice ao len cap] 25)).heap.size (w.alloc (.cells #[.int .i64 K, .bool false, .int .u64 (N : Int), .slice ao len cap] 25)) W → W.cell? ⟨w.heap.size, 0, none⟩ = some (.int .i64 K)) := fun W h => by
    rw [h.cell (p := ⟨w.heap.size, 0, none⟩) (by simp), World.cell?_alloc_new]; rfl
  clear he
  by_cases h0 : e0 = 0
  · subst h0
    go_enter Tryd.func5, Tryd.ntmps5
    go_wp2_with (first
      | (go_at_call 14; with_reducible refine (HN1.out _).mono ?_; intro e w1 hM; obtain ⟨p, v, rfl, h2, h3, _, hb1⟩ := hM.ok; clear hM; have y0 := HX.out _ hb1)
      | (go_at_call 18; with_reducible refine (HN2.out _).mono ?_; intro e w2 hM; obtain ⟨q, u, rfl, g2, g3, hb2⟩ := hM.ok; clear hM))
    refine bodyPost_ret (v := .tuple #[.pointer (some ⟨p, 0, none⟩), .pointer (some ⟨q, 0, none⟩), .bool true]) (by simp [results, Tryd.results5, go_sem]) rfl ⟨bnext (bnext hb hb1) hb2, .inr ⟨rfl, p, v, q, u, rfl, h2.next hb2 (Nat.le_refl _), g2, ?_, Nat.lt_of_lt_of_le h2.lt g3⟩⟩
    simp at h3; omega
  · have H0 := hide h0
    clear h0
    go_enter Tryd.func5, Tryd.ntmps5
    go_wp2_with (first
      | (go_at_call 14; with_reducible refine (HN1.out _).mono ?_; intro e w1 hM; obtain ⟨rfl, hb1⟩ := hM.no H0.out; clear hM; have y0 := HX.out _ hb1)
      | (go_at_call 18; with_reducible refine (HN2.out _).mono ?_; intro e w2 hM; obtain ⟨rfl, hb2⟩ := hM.no H0.out; clear hM))
    refine bodyPost_ret (v := .tuple #[.pointer none, .pointer none, .bool true]) (by simp [results, Tryd.results5, go_sem]) rfl ⟨bnext (bnext hb hb1) hb2, .inl ⟨H0.out, rfl⟩⟩
set_option maxRecDepth 100000 in
set_option maxHeartbeats 1000000 in
theorem made_from (w : World) (K : Int) (N : Nat) (hN : N < 18446744073709551616) (ao : Option Addr) (b off cap : Nat) (L : List ByteArray) (hr : RdS w ao b off L.length L) (hno : ao = none → cap = 0) (hmx : L.length ≤ 8796093021952) (hsz : ∀ s ∈ L, s.size ≤ 140737488351232) (e0 : Nat) (he : fe K N L = e0) :
    Calls Tryd.prog 5 #[.agg #[.int .i64 K, .bool true, .int .u64 (N : Int), .slice ao L.length cap]] w fun e w' => MadeB w w' K N L e0 e := by
  have HF1 : Hid (∀ W B v, OwnS W B v L → Calls Tryd.prog 19 #[.int .i64 K, .int .u64 (N : Int), v] W fun e w' => Made W w' K N L e0 e) := fun W B v h => by
    obtain ⟨a2, b2, c2, rfl, h4, _, h5⟩ := owns_rds h (fun s hs => Nat.le_trans (hsz s hs) (by decide))
    exact from_any W K N hN a2 b2 0 c2 L h4 h5 (by omega) e0 he
  have HF2 : Hid (∀ W, Below w.heap.size w W → Calls Tryd.prog 20 #[.int .i64 K, .int .u64 (N : Int), .slice ao L.length cap] W fun e w' => MadeR W w' K N L e0 e) := fun W hb => reffrom_any W K N hN ao b off cap L (hr.next hb (Nat.le_refl _)) e0 he
  obtain ⟨w0, hw0⟩ : ∃ w0, w.alloc (.cells #[.int .i64 K, .bool true, .int .u64 (N : Int), .slice ao L.length cap] 25) = w0 := ⟨_, rfl⟩
  have hb : Below w.heap.size w w0 := by rw [← hw0]; exact bal (Below.refl w.heap.size w) _
  have HX : Hid (∀ W, Below w0.heap.size w0 W → W.cell? ⟨w.heap.size, 0, none⟩ = some (.int .i64 K) ∧ W.cell? ⟨w.heap.size, 2, none⟩ = some (.int .u64 (N : Int)) ∧ W.cell? ⟨w.heap.size, 3, none⟩ = some (.slice ao L.length cap)) := fun W h => by
    have hlt : w.heap.size < w0.heap.size := by rw [← hw0]; simp
    refine ⟨?_, ?_, ?_⟩
    · rw [h.cell (p := ⟨w.heap.size, 0, none⟩) hlt, ← hw0, World.cell?_alloc_new]; rfl
    · rw [h.cell (p := ⟨w.heap.size, 2, none⟩) hlt, ← hw0, World.cell?_alloc_new]; rfl
    · rw [h.cell (p := ⟨w.heap.size, 3, none⟩) hlt, ← hw0, World.cell?_alloc_new]; rfl
  have HR : Hid (∀ W, Below w.heap.size w W → RdS W ao b off L.length L) := fun W hb => hr.next hb (Nat.le_refl _)
  have HM : Hid ((ao = none → cap = 0) ∧ L.length ≤ 8796093021952) := ⟨hno, hmx⟩
  have HB := hide hb
  have y1 : w0.cell? ⟨w.heap.size, 1, none⟩ = some (.bool true) := by rw [← hw0, World.cell?_alloc_new]; rfl
  clear he hr hno hmx hsz hN
  go_enter Tryd.func5, Tryd.ntmps5
  go_upto_region 5 with (fail)
  have hd : Below w0.heap.size w0 w0.drew := (Below.refl w0.heap.size w0).drew
  obtain ⟨y0, y2, y3⟩ := HX.out w0.drew hd
  have HK2 : Hid (∀ W, Below w0.heap.size w0 W → ∀ W2, Below W.heap.size W W2 → (fun w' : World => w'.cell? ⟨w.heap.size, 0, none⟩ = some (.int .i64 K) ∧ w'.cell? ⟨w.heap.size, 2, none⟩ = some (.int .u64 (N : Int)) ∧ w'.cell? ⟨w.heap.size, 3, none⟩ = some (.slice ao L.length cap)) W2) := fun W h W2 h2 => HX.out W2 (bnext h h2)
  by_cases h0 : e0 = 0
  · subst h0
    clear hb y1
    go_region_held3 (fun w' => w'.cell? ⟨w.heap.size, 0, none⟩ = some (.int .i64 K) ∧ w'.cell? ⟨w.heap.size, 2, none⟩ = some (.int .u64 (N : Int)) ∧ w'.cell? ⟨w.heap.size, 3, none⟩ = some (.slice ao L.length cap)) (first | assumption | (exact HX.out _ hd) | (exact HX.out _ (bal hd _)) | (exact HX.out _ (bnext hb3 hb4)) | (exact HX.out _ hb3)) (first
      | (refine step_append_S _ (by rfl) _ _ (by rfl) w0.heap.size _ [] (by rfl) (own_empty w0.drew) ao b off cap L (by rfl) (HR.out _ (bal (bnext HB.out hd) _)) HM.out.1 (by have := HM.out.2; simp; omega) (by simp) ?_; intro v3 w3 ho3 hb3'; have hb3 : Below w0.heap.size w0 w3 := (bal hd (.cells #[] 9)).trans hb3')
      | (go_at_call 19; with_reducible refine (HF1.out _ _ _ ho3).mono ?_; intro e w4 hM; obtain ⟨p, v, rfl, h2, h3, _, hb4⟩ := hM.ok; clear hM))
    have HQ : Hid (Rg w4 p v K N L ∧ w0.heap.size ≤ p ∧ Below w.heap.size w w4) := ⟨h2, Nat.le_trans hb3.size h3, bnext HB.out (bnext hb3 hb4)⟩
    obtain ⟨z0, z2, z3⟩ := HX.out w4 (bnext hb3 hb4)
    clear h2 h3 hb3 hb3' hb4 ho3 hd y0 y2 y3 HK2
    go_wp2_with (go_at_call 20; with_reducible refine (HF2.out _ HQ.out.2.2).mono ?_; intro e w5 hM; obtain ⟨q, u, rfl, g2, g3, hb5⟩ := hM.ok; clear hM)
    refine bodyPost_ret (v := .tuple #[.pointer (some ⟨p, 0, none⟩), .pointer (some ⟨q, 0, none⟩), .bool true]) (by simp [results, Tryd.results5, go_sem]) rfl ⟨bnext HQ.out.2.2 hb5, .inr ⟨rfl, p, v, q, u, rfl, HQ.out.1.next hb5 (Nat.le_refl _), g2, Nat.le_trans HB.out.size HQ.out.2.1, Nat.lt_of_lt_of_le HQ.out.1.lt g3⟩⟩
  · have H0 := hide h0
    clear hb y1 h0
    go_region_held3 (fun w' => w'.cell? ⟨w.heap.size, 0, none⟩ = some (.int .i64 K) ∧ w'.cell? ⟨w.heap.size, 2, none⟩ = some (.int .u64 (N : Int)) ∧ w'.cell? ⟨w.heap.size, 3, none⟩ = some (.slice ao L.length cap)) (first | assumption | (exact HX.out _ hd) | (exact HX.out _ (bal hd _)) | (exact HX.out _ (bnext hb3 hb4)) | (exact HX.out _ hb3)) (first
      | (refine step_append_S _ (by rfl) _ _ (by rfl) w0.heap.size _ [] (by rfl) (own_empty w0.drew) ao b off cap L (by rfl) (HR.out _ (bal (bnext HB.out hd) _)) HM.out.1 (by have := HM.out.2; simp; omega) (by simp) ?_; intro v3 w3 ho3 hb3'; have hb3 : Below w0.heap.size w0 w3 := (bal hd (.cells #[] 9)).trans hb3')
      | (go_at_call 19; with_reducible refine (HF1.out _ _ _ ho3).mono ?_; intro e w4 hM; obtain ⟨rfl, hb4⟩ := hM.no H0.out; clear hM))
    have HQ : Hid (Below w.heap.size w w4) := bnext HB.out (bnext hb3 hb4)
    obtain ⟨z0, z2, z3⟩ := HX.out w4 (bnext hb3 hb4)
    clear hb3 hb3' hb4 ho3 hd y0 y2 y3 HK2
    go_wp2_with (go_at_call 20; with_reducible refine (HF2.out _ HQ.out).mono ?_; intro e w5 hM; obtain ⟨rfl, hb5⟩ := hM.no H0.out; clear hM)
    refine bodyPost_ret (v := .tuple #[.pointer none, .pointer none, .bool true]) (by simp [results, Tryd.results5, go_sem]) rfl ⟨bnext HQ.out hb5, .inl ⟨H0.out, rfl⟩⟩
/-- A Begin: its strength, how it is made, its size, its peaks. -/
structure RdB (w : World) (K : Int) (fr : Bool) (N : Nat) (sl : Value) (L : List ByteArray) : Prop where
  hN : N < 18446744073709551616
  lst : ∃ ao b off cap, sl = .slice ao L.length cap ∧ RdS w ao b off L.length L ∧ (ao = none → cap = 0)
  mx : L.length ≤ 8796093021952
  sz : ∀ s ∈ L, s.size ≤ 140737488351232
theorem RdB.next {w W : World} {K : Int} {fr : Bool} {N : Nat} {sl : Value} {L : List ByteArray} (h : RdB w K fr N sl L) (hb : Below w.heap.size w W) : RdB W K fr N sl L := by
  obtain ⟨ao, b, off, cap, h1, h2, h3⟩ := h.lst
  exact ⟨h.hN, ⟨ao, b, off, cap, h1, h2.next hb (Nat.le_refl _), h3⟩, h.mx, h.sz⟩
def bgN (fr : Bool) (N : Nat) : Nat := if fr then N else 0
def bgL (fr : Bool) (L : List ByteArray) : List ByteArray := if fr then L else []
theorem made_any (w : World) (K : Int) (fr : Bool) (N : Nat) (sl : Value) (L : List ByteArray) (h : RdB w K fr N sl L) (e0 : Nat) (he : fe K (bgN fr N) (bgL fr L) = e0) :
    Calls Tryd.prog 5 #[.agg #[.int .i64 K, .bool fr, .int .u64 (N : Int), sl]] w fun e w' => MadeB w w' K (bgN fr N) (bgL fr L) e0 e := by
  obtain ⟨ao, b, off, cap, rfl, h2, h3⟩ := h.lst
  cases fr with
  | false => exact made_new w K N _ ao L.length cap rfl e0 he
  | true => exact made_from w K N h.hN ao b off cap L h2 h3 h.mx h.sz e0 he
theorem MadeB.no {w w' : World} {k : Int} {n : Nat} {L : List ByteArray} {e0 : Nat} {e : Ending} (h : MadeB w w' k n L e0 e) (h0 : e0 ≠ 0) : e = .returned (.tuple #[.pointer none, .pointer none, .bool true]) ∧ Below w.heap.size w w' := by
  obtain ⟨hb, ⟨_, h2⟩ | ⟨h1, _⟩⟩ := h
  · exact ⟨h2, hb⟩
  · exact absurd h1 h0
theorem MadeB.ok {w w' : World} {k : Int} {n : Nat} {L : List ByteArray} {e : Ending} (h : MadeB w w' k n L 0 e) : ∃ p v q u, e = .returned (.tuple #[.pointer (some ⟨p, 0, none⟩), .pointer (some ⟨q, 0, none⟩), .bool true]) ∧ Rg w' p v k n L ∧ Rf w' q u k n L ∧ w.heap.size ≤ p ∧ p < q ∧ Below w.heap.size w w' := by
  obtain ⟨hb, ⟨h1, _⟩ | ⟨_, p, v, q, u, h2, h3, h4, h5, h6⟩⟩ := h
  · exact absurd rfl h1
  · exact ⟨p, v, q, u, h2, h3, h4, h5, h6, hb⟩
end Go.Proofs.YtncndefggegicabDoor
