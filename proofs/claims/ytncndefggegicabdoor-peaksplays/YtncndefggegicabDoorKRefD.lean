/-
  The reference of peaks: comes. Own work.
-/
import Derived.Test.YtncndefggegicabDoorKMade
import Derived.BigRegion
namespace Go.Proofs.YtncndefggegicabDoor
open Go.RowKit
attribute [local go_sem ↓] Go.wp_at_zero Go.wp_at_succ
theorem ol_mem : ∀ (F m x : Nat), x ∈ ol (fun h _ => h) F m → m / 2 ^ x % 2 = 1
  | 0, _, _, h => by cases h
  | F + 1, m, x, h => by
    rw [ol] at h
    rcases List.mem_append.1 h with h | h
    · by_cases e : m / 2 ^ F % 2 = 1
      · rw [if_pos e] at h; rw [List.mem_singleton.1 h]; exact e
      · rw [if_neg e] at h; cases h
    · exact ol_mem F m x h
/-- A list of peaks that can be read. -/
def RdK (w : World) (ao : Option Addr) (cap : Nat) (l : List (Nat × ByteArray)) : Prop :=
  (ao = none → l = [] ∧ cap = 0) ∧ ∀ ad, ao = some ad → ∀ j u, (cK l)[j]? = some u → w.cell? (ad.add j) = some u
theorem ownK_rd {w : World} {B : Nat} {ao : Option Addr} {n cap : Nat} {l : List (Nat × ByteArray)} (h : OwnK w B (.slice ao n cap) l) : RdK w ao cap l := by
  have h0 := h
  obtain ⟨h1, h2⟩ := h
  rcases h2 with ⟨hv, hl⟩ | ⟨g, cp, cur, hv, hg, hh, r⟩
  · obtain ⟨rfl, _, rfl⟩ := Value.slice.inj hv
    exact ⟨fun _ => ⟨List.length_eq_zero_iff.1 hl, rfl⟩, fun ad e => by cases e⟩
  · obtain ⟨rfl, rfl, rfl⟩ := Value.slice.inj hv
    refine ⟨fun e => (by cases e), fun ad e j u hu => ?_⟩
    cases e
    exact World.ownsRow.cells h0 (g := g) rfl j u hu
theorem cK_take (l : List (Nat × ByteArray)) (m : Nat) : cK (l.take m) = (cK l).take (m * 2) := by
  induction l generalizing m with
  | nil => simp [cK]
  | cons b r ih =>
    cases m with
    | zero => simp [cK]
    | succ m =>
      rw [List.take_succ_cons, cK, cK, ih, show (m + 1) * 2 = m * 2 + 1 + 1 by omega, List.take_succ_cons, List.take_succ_cons]
theorem RdK.take {w : World} {ad : Addr} {cap : Nat} {l : List (Nat × ByteArray)} (h : RdK w (some ad) cap l) (m : Nat) : RdK w (some ad) cap (l.take m) := by
  refine ⟨fun e => (by cases e), fun ad' e j u hu => ?_⟩
  rw [cK_take, List.getElem?_take] at hu
  split at hu
  · exact h.2 ad' e j u hu
  · cases hu
theorem RdK.next {w W : World} {ao : Option Addr} {cap : Nat} {l : List (Nat × ByteArray)} (h : RdK w ao cap l) (hb : Below w.heap.size w W) : RdK W ao cap l := by
  refine ⟨h.1, fun ad e j u hu => ?_⟩
  have h1 := h.2 ad e j u hu
  have hlt : (ad.add j).block < w.heap.size := World.block_lt_of_cell? _ _ h1
  exact (hb.cell hlt).trans h1
theorem cK_one (M : List (Nat × ByteArray)) : ∀ u ∈ cK M, u.oneCell' = true := by
  induction M with
  | nil => intro u hu; cases hu
  | cons b r ih =>
    intro u hu
    simp only [cK, List.mem_cons] at hu
    rcases hu with rfl | rfl | hu
    · rfl
    · rfl
    · exact ih u hu
theorem wp_append_K (w : World) {o : Oper} {a : Act} {K : Act → World → Prop} {Q : Exit → Act → World → Prop}
    (s x : Operand) (hop : o.op = Op.call { callee := Callee.builtin Builtin.append, args := #[s, x], argTypes := #[55, 55] })
    (B : Nat) (v : Value) (L : List (Nat × ByteArray)) (hs : a.eval s = v) (hown : OwnK w B v L) (ao : Option Addr) (n cap : Nat) (M : List (Nat × ByteArray)) (hl : M.length = n) (hx : a.eval x = .slice ao n cap) (hr : RdK w ao cap M)
    (hlen : L.length + M.length ≤ 1048576) (hB : B ≤ w.heap.size)
    (hK : ∀ v' w', OwnK w' B v' (L ++ M) → Below B w w' → K (a.put o.dst v') w') : o.wp Tryd.prog a w K Q := by
  obtain ⟨i0, hi, hz0, hz1, hz2⟩ := info_parts Tryd.infoK
  have hlt : ∀ k, v.ownBlock = some k → B ≤ k := fun k hk => (World.ownsRow.lt hown k hk).1
  subst hl
  cases ao with
  | none =>
    obtain ⟨rfl, rfl⟩ := hr.1 rfl
    have hrun := run_append_owned_none (P := Tryd.prog) (w := w) B 55 o.type 63 i0 2 Tryd.underlying55 hi v L.length _ hown
    unfold Oper.wp
    simp only [List.length_nil] at hx
    simp [execOp, hop, resolve, invoke, builtin, hs, hx, hrun, Result.andThen]
    exact hK v w (by rw [List.append_nil]; exact hown) (Below.refl _ _)
  | some ad =>
    obtain ⟨v', w', hrun, r1, r2, _⟩ := run_append_own (P := Tryd.prog) w B 55 o.type 63 i0 (.agg #[.int .i64 0, .string ByteArray.empty]) 2 24 Tryd.underlying55 hi hz0 hz1 hz2 rfl (by decide) v L.length _ hown ad M.length cap (cK M) (cK_len M) (hr.2 ad rfl) (cK_one M) (by unfold maxLen; omega) (by omega) hB
    unfold Oper.wp
    simp [execOp, hop, resolve, invoke, builtin, hs, hx, hrun, Result.andThen]
    refine hK v' w' ?_ ((Below.refl _ _).grown r2 hB hlt)
    rw [OwnK, List.length_append, cK_app]; exact r1
theorem step_append_K (w : World) {ops : Array Oper} {o : Oper} {a : Act} {K : Act → World → Prop} {Q : Exit → Act → World → Prop} {E : Prop} (hgd : o.guard = none)
    (s x : Operand) (hop : o.op = Op.call { callee := Callee.builtin Builtin.append, args := #[s, x], argTypes := #[55, 55] })
    (B : Nat) (v : Value) (L : List (Nat × ByteArray)) (hs : a.eval s = v) (hown : OwnK w B v L) (ao : Option Addr) (n cap : Nat) (M : List (Nat × ByteArray)) (hl : M.length = n) (hx : a.eval x = .slice ao n cap) (hr : RdK w ao cap M)
    (hlen : L.length + M.length ≤ 1048576) (hB : B ≤ w.heap.size)
    (hK : ∀ v' w', OwnK w' B v' (L ++ M) → Below B w w' → K (a.put o.dst v') w') : if Region.wanted o (yielded ops a.tmps) = true then Oper.wp Tryd.prog o a w K Q else E := by
  have hw : Region.wanted o (yielded ops a.tmps) = true := by simp [Region.wanted, hgd]
  rw [if_pos hw]
  exact wp_append_K w s x hop B v L hs hown ao n cap M hl hx hr hlen hB hK
theorem ownK_empty (w : World) : OwnK (w.alloc (.cells #[] 63)) w.heap.size (.slice (some ⟨w.heap.size, 0, none⟩) 0 0) [] :=
  ⟨rfl, .inr ⟨w.heap.size, 0, #[], rfl, Nat.le_refl _, heap_alloc_new w _, Nat.le_refl _, Nat.zero_le _, rfl, rfl⟩⟩
theorem rdK_new (w : World) (h : Nat) (d : ByteArray) : RdK (w.alloc (.cells #[.int .i64 (h : Int), .string d] 63)) (some ⟨w.heap.size, 0, none⟩) 1 [(h, d)] :=
  ⟨fun e => (by cases e), fun ad e j u hu => by cases e; exact news_one w h d j u hu⟩
theorem ownK_al {w : World} {B : Nat} {v : Value} {l : List (Nat × ByteArray)} (h : OwnK w B v l) (o : Obj) : OwnK (w.alloc o) B v l := ownK_next h (bal (Below.refl _ _) o) (Nat.le_refl _)
/-- Peaks appended to an empty list without room: what was there stays. -/
theorem step_append_K0 (w : World) {ops : Array Oper} {o : Oper} {a : Act} {K : Act → World → Prop} {Q : Exit → Act → World → Prop} {E : Prop} (hgd : o.guard = none)
    (s x : Operand) (hop : o.op = Op.call { callee := Callee.builtin Builtin.append, args := #[s, x], argTypes := #[55, 55] })
    (B g : Nat) (hs : a.eval s = .slice (some ⟨g, 0, none⟩) 0 0) (hown : OwnK w B (.slice (some ⟨g, 0, none⟩) 0 0) []) (ao : Option Addr) (n cap : Nat) (M : List (Nat × ByteArray)) (hl : M.length = n) (hx : a.eval x = .slice ao n cap) (hr : RdK w ao cap M)
    (hlen : M.length ≤ 1048576) (hB : B ≤ w.heap.size)
    (hK : ∀ v' w', OwnK w' B v' M → Below w.heap.size w w' → K (a.put o.dst v') w') : if Region.wanted o (yielded ops a.tmps) = true then Oper.wp Tryd.prog o a w K Q else E := by
  have hw : Region.wanted o (yielded ops a.tmps) = true := by simp [Region.wanted, hgd]
  rw [if_pos hw]
  obtain ⟨i0, hi, hz0, hz1, hz2⟩ := info_parts Tryd.infoK
  subst hl
  by_cases hM : M = []
  · subst hM
    cases ao with
    | none =>
      obtain ⟨_, rfl⟩ := hr.1 rfl
      have hrun := run_append_owned_none (P := Tryd.prog) (w := w) B 55 o.type 63 i0 2 Tryd.underlying55 hi _ 0 _ hown
      unfold Oper.wp
      simp only [List.length_nil] at hx
      simp [execOp, hop, resolve, invoke, builtin, hs, hx, hrun, Result.andThen]
      exact hK _ w hown (Below.refl _ _)
    | some ad =>
      have hrun2 := run_append_room_cells (P := Tryd.prog) w 55 o.type 63 i0 Tryd.underlying55 hi g 0 0 0 ad 0 cap [] (by simp) (fun j u hu => by cases hu) (fun u hu => by cases hu) (Nat.le_refl _) (fun j hj => absurd hj (Nat.not_lt_zero j)) (fun j hj => absurd hj (Nat.not_lt_zero j))
      unfold Oper.wp
      simp only [List.length_nil] at hx
      simp [execOp, hop, resolve, invoke, builtin, hs, hx, hrun2, Result.andThen]
      exact hK _ w hown (Below.refl _ _)
  · have hpos : 0 < M.length := by cases M with | nil => exact absurd rfl hM | cons b r => simp
    cases ao with
    | none => exact absurd (hr.1 rfl).1 hM
    | some ad =>
      obtain ⟨v', w', hrun, r1, r2⟩ := run_append_arg_grows (P := Tryd.prog) w 55 o.type 63 i0 (.agg #[.int .i64 0, .string ByteArray.empty]) 2 24 Tryd.underlying55 hi hz0 hz1 hz2 rfl (by decide) ⟨g, 0, none⟩ 0 0 [] rfl (fun j u hu => by cases hu) ad M.length cap (cK M) (cK_len M) (hr.2 ad rfl) (by omega) (by unfold maxLen; omega) (by omega)
      unfold Oper.wp
      simp [execOp, hop, resolve, invoke, builtin, hs, hx, hrun, Result.andThen]
      refine hK v' w' ?_ ((Below.refl _ _).grown r2 (Nat.le_refl _) (fun k hk => by cases hk))
      rw [Nat.zero_add, List.nil_append] at r1
      exact ownK_mono r1 hB
/-- What a digest that came has done to the reference's Range. -/
structure DidR (w w' : World) (p : Nat) (k : Int) (n' : Nat) (P' : List ByteArray) (vm : Value) (M : List ByteArray) (v' : Value) : Prop where
  rf : Rf w' p v' k n' P'
  own : OwnS w' w.heap.size vm M
  ch : Ch p w w'
/-- What holds at each round. -/
structure Atr (w wr : World) (G c h t f left : Nat) (d : ByteArray) (A0 P' M Q : List ByteArray) (vm vl : Value) : Prop where
  hG : left + 2 ^ h = G
  hleft : left = 2 ^ h * t
  ht : t < 2 ^ f
  hf : h + f = 40
  hd : d.size = c
  hP : ∀ s ∈ P', s.size = c
  hl : P'.length = (ol (fun h _ => h) 41 left).length
  hA : A0.length ≤ h
  hM : A0 ++ (carry c f t P' d).1 = M
  hQ : (carry c f t P' d).2 = Q
  own : OwnS wr w.heap.size vm (A0 ++ [d])
  lst : OwnK wr w.heap.size vl ((ol (fun h _ => h) 41 left).zip P' ++ [(h, d)])
  below : Below w.heap.size w wr
/-- One mountain goes into the next. -/
theorem Atr.pop {w wr W : World} {G c h t f left : Nat} {d d' : ByteArray} {A0 P' M Q : List ByteArray} {vm vl vm' vl' : Value} {m : Nat} (hc : c ≤ 32) (s : Atr w wr G c h t f left d A0 P' M Q vm vl) (hm : P'.length = m + 1) (ho : t % 2 = 1) (hd : dg c (nodeT (P'.getD m ByteArray.empty) d) = d') (hb : Below w.heap.size w W) (ho' : OwnS W w.heap.size vm' ((A0 ++ [d]) ++ [d']))
    (hv : OwnK W w.heap.size vl' ((((ol (fun h _ => h) 41 left).zip P' ++ [(h, d)]).take m) ++ [(h + 1, d')])) :
    ∃ f', Atr w W G c (h + 1) (t / 2) f' (left - 2 ^ h) d' (A0 ++ [d]) (P'.take m) M Q vm' vl' := by
  have hf := s.hf
  have hlt := s.ht
  have hl := s.hl
  have hA := s.hA
  cases f with
  | zero => simp at hlt; omega
  | succ f =>
    have hM := s.hM
    have hQ := s.hQ
    have e : P'.length - 1 = m := by omega
    rw [carry_odd ho (d' := d') (by rw [e]; exact hd), e] at hM hQ
    rw [s.hleft] at hl hv ⊢
    have eo := ol_odd (fun h _ => h) (F := 41) (h := h) (t := t) (by omega) ho
    rw [eo, List.length_append, List.length_singleton] at hl
    rw [Nat.pow_succ] at hlt
    have hG : 2 ^ h * t - 2 ^ h + 2 ^ (h + 1) = G := by rw [(step_num ho).1, (step_num ho).2, ← s.hleft]; exact s.hG
    refine ⟨f, ⟨hG, (step_num ho).1, by omega, by omega, by rw [← hd]; exact dg_size hc _, fun s' hs => s.hP s' (List.mem_of_mem_take hs), by rw [(step_num ho).1, List.length_take]; omega, by simp; omega, by rw [← hM]; simp, hQ, ho', ?_, hb⟩⟩
    have hz : (((ol (fun h _ => h) 41 (2 ^ h * t)).zip P' ++ [(h, d)]).take m) = (ol (fun h _ => h) 41 (2 ^ h * t - 2 ^ h)).zip (P'.take m) := by
      have hx : (ol (fun h _ => h) 41 (2 ^ (h + 1) * (t / 2))).length = m := by omega
      rw [(step_num ho).1, eo, List.take_append_of_le_length (by rw [List.length_zip, List.length_append, List.length_singleton]; omega)]
      conv => lhs; rw [show P' = P'.take m ++ P'.drop m from (List.take_append_drop _ _).symm]
      rw [List.zip_append (by rw [List.length_take]; omega), List.take_append_of_le_length (by rw [List.length_zip, List.length_take]; omega), List.take_of_length_le (by rw [List.length_zip, List.length_take]; omega)]
    rw [hz] at hv
    exact hv
end Go.Proofs.YtncndefggegicabDoor
