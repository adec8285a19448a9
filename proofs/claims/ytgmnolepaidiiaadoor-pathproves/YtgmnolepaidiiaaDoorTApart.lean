/-
  The law's marks; its lists apart. Own work.
-/
import Derived.Deep.RegionHeld3
import Derived.Test.YtgmnolepaidiiaaDoorTTag
import Derived.Test.YtgmnolepaidiiaaDoorTLent
import Derived.Test.YtgmnolepaidiiaaDoorTWalkE
import Derived.Test.YtgmnolepaidiiaaDoorPlan2
namespace Go.Proofs.YtgmnolepaidiiaaDoor
open Go.RowKit
open Cv (RdC)
attribute [local go_sem ↓] Go.wp_at_zero Go.wp_at_succ
theorem conv_mark (w : World) (k : Nat) : (convert 54 9 (.slice (some ⟨w.heap.size, 0, none⟩) 2 2)).run Tryd.prog (w.alloc (.cells #[.int .u8 (k : Int), .int .u8 0] 5)) = .ok (.string (strB [(k : Int), 0])) (w.alloc (.cells #[.int .u8 (k : Int), .int .u8 0] 5)) :=
  conv_str _ _ [(k : Int), 0] 2 rfl (range_new w (cB [(k : Int), 0]) 5)
theorem mark_any (w : World) (k : Nat) (hk : k < 256) : Calls Tryd.prog 43 #[.int .i64 (k : Int)] w fun e w' => e = .returned (.string (mT k)) ∧ Below w.heap.size w w' := by
  have e8 : IntKind.u8.wrap (k : Int) = (k : Int) := by simp [IntKind.wrap, IntKind.signed, IntKind.bits]; omega
  have ed : (k : Int) / 256 = 0 := by omega
  have cv := conv_mark w k
  have hb := bal (Below.refl w.heap.size w) (.cells #[.int .u8 (k : Int), .int .u8 0] 5)
  have hk0 : (0 : Int) ≤ (k : Int) := Int.natCast_nonneg _
  have hk1 : (k : Int) < 256 := by omega
  have hz : (strB [(k : Int), 0]).size = 2 := by rw [strB_size]; rfl
  have ht : (⟨#[97, 32, 109, 97, 114, 107, 32, 116, 104, 97, 116, 32, 110, 111, 32, 100, 105, 103, 101, 115, 116, 32, 105, 115, 44, 32, 111, 102, 32, 110, 117, 109, 98, 101, 114, 32]⟩ : ByteArray) ++ strB [(k : Int), 0] = mT k := rfl
  clear hk
  generalize mT k = t at *
  generalize strB [(k : Int), 0] = r at *
  go_enter Tryd.func43, Tryd.ntmps43
  go_wp2
  go_ret
  exact ⟨rfl, hb⟩
/-- The form of a list of one's own. -/
theorem Ow.form {w : World} {τ : Nat → Nat} {B t e n : Nat} {v : Value} {xs : List Value} (h : Ow w τ B t e 1 v n xs) : ∃ sa sc, v = .slice sa n sc ∧ (0 < n → ∃ g, sa = some ⟨g, 0, none⟩ ∧ B ≤ g) := by
  rcases row_form h.own with ⟨h0, h1⟩ | ⟨g, cap, h1, h2, h3⟩
  · exact ⟨none, 0, by rw [h1, h0], fun h => by omega⟩
  · exact ⟨_, cap, h1, fun _ => ⟨g, rfl, h2⟩⟩
theorem S0.same {w : World} {τ : Nat → Nat} {B n ab : Nat} {sv dv : Nat → Value} {cs ds cs' ds' : Nat → List Value} (h : S0 w τ B n ab sv dv cs ds) (h1 : cs = cs') (h2 : ds = ds') : S0 w τ B n ab sv dv cs' ds' := by subst h1 h2; exact h
theorem Tryd.infoVU : (Tryd.prog.info? 23).map (fun i => (i.zero, i.size, i.bytes)) = some (some (.slice none 0 0), 1, 24) := by kernel_rfl
theorem Tryd.infoVS : (Tryd.prog.info? 24).map (fun i => (i.zero, i.size, i.bytes)) = some (some (.slice none 0 0), 1, 24) := by kernel_rfl
theorem rdc_one (w : World) (x : Value) (t : Nat) : RdC (w.alloc (.cells #[x] t)) (.slice (some ⟨w.heap.size, 0, none⟩) 1 1) 1 [x] := by
  refine ⟨some ⟨w.heap.size, 0, none⟩, 1, rfl, (fun h => by cases h), fun ad ha j c hj => ?_⟩
  cases ha
  match j, hj with
  | 0, hj => simp at hj; subst hj; simp [Addr.add, World.cell?_alloc_at]
section
variable (w : World) {ops : Array Oper} {rest : List Oper} {o : Oper} {a : Act} {Q : Exit → Act → World → Prop}
theorem wpList_app_U (hg : o.guard = none) (s x : Operand) (hop : o.op = Op.call { callee := Callee.builtin Builtin.append, args := #[s, x], argTypes := #[23, 23] }) (B : Nat) (v : Value) (n : Nat) (xs : List Value) (hs : a.eval s = v) (hown : w.ownsRow B 22 1 v n xs) (u y : Value) (hx : a.eval x = u) (hr : RdC w u 1 [y]) (h1c : y.oneCell' = true) (hlen : n + 1 ≤ 1048576) (hB : B ≤ w.heap.size) (hK : ∀ v' w', Ap2 w w' B 22 1 v v' (n + 1) (xs ++ [y]) → wpList Tryd.prog ops Q rest (a.put o.dst v') w') : wpList Tryd.prog ops Q (o :: rest) a w := by
  obtain ⟨i0, hi, hz0, hz1, hz2⟩ := info_parts Cv.Tryd.infoU
  exact wpList_append_tag w hg s x _ hop B 22 i0 (.int .u64 0) 1 8 Tryd.underlying23 hi hz0 hz1 hz2 rfl (by decide) v n xs hs hown u 1 [y] hx hr rfl (by intro u hu; simp at hu; subst hu; exact h1c) (by unfold maxLen; omega) (by omega) hB hK
theorem wpList_app_S (hg : o.guard = none) (s x : Operand) (hop : o.op = Op.call { callee := Callee.builtin Builtin.append, args := #[s, x], argTypes := #[24, 24] }) (B : Nat) (v : Value) (n : Nat) (xs : List Value) (hs : a.eval s = v) (hown : w.ownsRow B 9 1 v n xs) (u y : Value) (hx : a.eval x = u) (hr : RdC w u 1 [y]) (h1c : y.oneCell' = true) (hlen : n + 1 ≤ 1048576) (hB : B ≤ w.heap.size) (hK : ∀ v' w', Ap2 w w' B 9 1 v v' (n + 1) (xs ++ [y]) → wpList Tryd.prog ops Q rest (a.put o.dst v') w') : wpList Tryd.prog ops Q (o :: rest) a w := by
  obtain ⟨i0, hi, hz0, hz1, hz2⟩ := info_parts Tryd.infoS
  exact wpList_append_tag w hg s x _ hop B 9 i0 (.string ByteArray.empty) 1 16 Tryd.underlying24 hi hz0 hz1 hz2 rfl (by decide) v n xs hs hown u 1 [y] hx hr rfl (by intro u hu; simp at hu; subst hu; exact h1c) (by unfold maxLen; omega) (by omega) hB hK
theorem wpList_app_VU (hg : o.guard = none) (s x : Operand) (hop : o.op = Op.call { callee := Callee.builtin Builtin.append, args := #[s, x], argTypes := #[87, 87] }) (B : Nat) (v : Value) (n : Nat) (xs : List Value) (hs : a.eval s = v) (hown : w.ownsRow B 23 1 v n xs) (u y : Value) (hx : a.eval x = u) (hr : RdC w u 1 [y]) (h1c : y.oneCell' = true) (hlen : n + 1 ≤ 1048576) (hB : B ≤ w.heap.size) (hK : ∀ v' w', Ap2 w w' B 23 1 v v' (n + 1) (xs ++ [y]) → wpList Tryd.prog ops Q rest (a.put o.dst v') w') : wpList Tryd.prog ops Q (o :: rest) a w := by
  obtain ⟨i0, hi, hz0, hz1, hz2⟩ := info_parts Tryd.infoVU
  exact wpList_append_tag w hg s x _ hop B 23 i0 (.slice none 0 0) 1 24 Tryd.underlying87 hi hz0 hz1 hz2 rfl (by decide) v n xs hs hown u 1 [y] hx hr rfl (by intro u hu; simp at hu; subst hu; exact h1c) (by unfold maxLen; omega) (by omega) hB hK
theorem wpList_app_VS (hg : o.guard = none) (s x : Operand) (hop : o.op = Op.call { callee := Callee.builtin Builtin.append, args := #[s, x], argTypes := #[88, 88] }) (B : Nat) (v : Value) (n : Nat) (xs : List Value) (hs : a.eval s = v) (hown : w.ownsRow B 24 1 v n xs) (u y : Value) (hx : a.eval x = u) (hr : RdC w u 1 [y]) (h1c : y.oneCell' = true) (hlen : n + 1 ≤ 1048576) (hB : B ≤ w.heap.size) (hK : ∀ v' w', Ap2 w w' B 24 1 v v' (n + 1) (xs ++ [y]) → wpList Tryd.prog ops Q rest (a.put o.dst v') w') : wpList Tryd.prog ops Q (o :: rest) a w := by
  obtain ⟨i0, hi, hz0, hz1, hz2⟩ := info_parts Tryd.infoVS
  exact wpList_append_tag w hg s x _ hop B 24 i0 (.slice none 0 0) 1 24 Tryd.underlying88 hi hz0 hz1 hz2 rfl (by decide) v n xs hs hown u 1 [y] hx hr rfl (by intro u hu; simp at hu; subst hu; exact h1c) (by unfold maxLen; omega) (by omega) hB hK
end
/-- The lists as they grow: i6 of the numbers' and i7 of the texts' lie in their rows, the one at i has grown by p, q. -/
def G5 (w wx : World) (B n ab : Nat) (sv dv : Nat → Value) (a c : Nat → Nat) (i i6 i7 p q : Nat) (v6 v7 s9 d10 : Value) : Prop :=
  ∃ τ X Y b d, St wx τ B n ab sv dv X Y a b c d ∧ Ow wx τ B 1 23 1 v6 i6 ((List.range i6).map X) ∧ Ow wx τ B 2 24 1 v7 i7 ((List.range i7).map Y) ∧ X i = s9 ∧ Y i = d10 ∧ b i = a i + p ∧ d i = c i + q ∧ (∀ k, k < n → (k < i → b k = a k + 40 ∧ d k = c k + 40) ∧ (i < k → b k = a k ∧ d k = c k ∧ X k = sv k ∧ Y k = dv k)) ∧ Below B w wx
def G4 (w wx : World) (B n ab : Nat) (sv dv : Nat → Value) (a c : Nat → Nat) (i : Nat) (v6 v7 : Value) : Prop :=
  ∃ τ X Y b d, St wx τ B n ab sv dv X Y a b c d ∧ Ow wx τ B 1 23 1 v6 i ((List.range i).map X) ∧ Ow wx τ B 2 24 1 v7 i ((List.range i).map Y) ∧ (∀ k, k < n → (k < i → b k = a k + 40 ∧ d k = c k + 40) ∧ (i ≤ k → b k = a k ∧ d k = c k ∧ X k = sv k ∧ Y k = dv k)) ∧ Below B w wx
section
variable {w wx w' : World} {B n ab i i6 i7 p q : Nat} {sv dv : Nat → Value} {a c : Nat → Nat} {v6 v7 s9 d10 v' : Value}
theorem G4.start {τ : Nat → Nat} (h : St wx τ B n ab sv dv sv dv a a c c) (hb : Below B w wx) : G4 w wx B n ab sv dv a c 0 (.slice none 0 0) (.slice none 0 0) :=
  ⟨τ, sv, dv, a, c, h, ⟨World.ownsRow_nil _ _ _ _, fun g hg => by cases hg⟩, ⟨World.ownsRow_nil _ _ _ _, fun g hg => by cases hg⟩, fun k hk => ⟨fun h => absurd h (Nat.not_lt_zero k), fun _ => ⟨rfl, rfl, rfl, rfl⟩⟩, hb⟩
theorem G4.open (h : G4 w wx B n ab sv dv a c i v6 v7) (hi : i < n) : G5 w wx B n ab sv dv a c i i i 0 0 v6 v7 (sv i) (dv i) := by
  obtain ⟨τ, X, Y, b, d, h1, h2, h3, h4, h5⟩ := h
  have := (h4 i hi).2 (Nat.le_refl _)
  exact ⟨τ, X, Y, b, d, h1, h2, h3, this.2.2.1, this.2.2.2, this.1, this.2.1, fun k hk => ⟨(h4 k hk).1, fun hik => (h4 k hk).2 (by omega)⟩, h5⟩
theorem G5.shut (h : G5 w wx B n ab sv dv a c i (i + 1) (i + 1) 40 40 v6 v7 s9 d10) : G4 w wx B n ab sv dv a c (i + 1) v6 v7 := by
  obtain ⟨τ, X, Y, b, d, h1, h2, h3, h4, h5, h6, h7, h8, h9⟩ := h
  refine ⟨τ, X, Y, b, d, h1, h2, h3, fun k hk => ⟨fun hki => ?_, fun hik => (h8 k hk).2 (by omega)⟩, h9⟩
  by_cases e : k = i
  · subst e; exact ⟨h6, h7⟩
  · exact (h8 k hk).1 (by omega)
theorem G5.next (h : G5 w wx B n ab sv dv a c i i6 i7 p q v6 v7 s9 d10) (hb : Below wx.heap.size wx w') (hB : B ≤ w.heap.size) : G5 w w' B n ab sv dv a c i i6 i7 p q v6 v7 s9 d10 := by
  obtain ⟨τ, X, Y, b, d, h1, h2, h3, h4, h5, h6, h7, h8, h9⟩ := h
  exact ⟨τ, X, Y, b, d, h1.next hb, h2.next hb, h3.next hb, h4, h5, h6, h7, h8, h9.trans (hb.mono (Nat.le_trans hB h9.size))⟩
theorem G5.below (h : G5 w wx B n ab sv dv a c i i6 i7 p q v6 v7 s9 d10) : Below B w wx := by
  obtain ⟨τ, X, Y, b, d, h1, h2, h3, h4, h5, h6, h7, h8, h9⟩ := h
  exact h9
theorem G5.own9 (h : G5 w wx B n ab sv dv a c i i6 i7 p q v6 v7 s9 d10) (hi : i < n) : wx.ownsRow B 22 1 s9 (a i + p) (List.replicate (a i + p) (mU i)) := by
  obtain ⟨τ, X, Y, b, d, h1, h2, h3, h4, h5, h6, h7, h8, h9⟩ := h
  have := (h1.s i hi).ow.own
  rw [h4, h6] at this
  exact this
theorem G5.own10 (h : G5 w wx B n ab sv dv a c i i6 i7 p q v6 v7 s9 d10) (hi : i < n) : wx.ownsRow B 9 1 d10 (c i + q) (List.replicate (c i + q) (mS i)) := by
  obtain ⟨τ, X, Y, b, d, h1, h2, h3, h4, h5, h6, h7, h8, h9⟩ := h
  have := (h1.d i hi).ow.own
  rw [h5, h7] at this
  exact this
theorem range_upd {X : Nat → Value} {i m : Nat} {v : Value} (h : m ≤ i) : (List.range m).map (upd X i v) = (List.range m).map X := by
  refine List.map_congr_left fun k hk => ?_
  rw [upd_ne _ _ (by have := List.mem_range.1 hk; omega)]
theorem G5.appU (h : G5 w wx B n ab sv dv a c i i6 i7 p q v6 v7 s9 d10) (hi : i < n) (h6i : i6 ≤ i) (hB : B ≤ w.heap.size) (ha : Ap2 wx w' B 22 1 s9 v' (a i + p + 1) (List.replicate (a i + p) (mU i) ++ [mU i])) : G5 w w' B n ab sv dv a c i i6 i7 (p + 1) q v6 v7 v' d10 := by
  obtain ⟨τ, X, Y, b, d, h1, h2, h3, h4, h5, h6, h7, h8, h9⟩ := h
  rw [← h4, ← h6] at ha
  have hs := ha.stp (h1.s i hi).ow.tag
  refine ⟨_, _, _, _, _, h1.appU hi ha, ?_, h3.keep hs (by omega) fun b hb => ex_lt hb, upd_at _ _ _, h5, by rw [upd_at, h6]; rfl, h7, fun k hk => ?_, ha.below h9 (h1.s i hi).ow.own (Nat.le_trans hB h9.size)⟩
  · rw [range_upd h6i]; exact h2.keep hs (by omega) fun b hb => ex_lt hb
  · by_cases e : k = i
    · subst e; exact ⟨fun h => absurd h (Nat.lt_irrefl _), fun h => absurd h (Nat.lt_irrefl _)⟩
    · rw [upd_ne _ _ e, upd_ne _ _ e]; exact h8 k hk
theorem G5.appS (h : G5 w wx B n ab sv dv a c i i6 i7 p q v6 v7 s9 d10) (hi : i < n) (h7i : i7 ≤ i) (hB : B ≤ w.heap.size) (ha : Ap2 wx w' B 9 1 d10 v' (c i + q + 1) (List.replicate (c i + q) (mS i) ++ [mS i])) : G5 w w' B n ab sv dv a c i i6 i7 p (q + 1) v6 v7 s9 v' := by
  obtain ⟨τ, X, Y, b, d, h1, h2, h3, h4, h5, h6, h7, h8, h9⟩ := h
  rw [← h5, ← h7] at ha
  have hs := ha.stp (h1.d i hi).ow.tag
  refine ⟨_, _, _, _, _, h1.appS hi ha, h2.keep hs (by omega) fun b hb => ex_lt hb, ?_, h4, upd_at _ _ _, h6, by rw [upd_at, h7]; rfl, fun k hk => ?_, ha.below h9 (h1.d i hi).ow.own (Nat.le_trans hB h9.size)⟩
  · rw [range_upd h7i]; exact h3.keep hs (by omega) fun b hb => ex_lt hb
  · by_cases e : k = i
    · subst e; exact ⟨fun h => absurd h (Nat.lt_irrefl _), fun h => absurd h (Nat.lt_irrefl _)⟩
    · rw [upd_ne _ _ e, upd_ne _ _ e]; exact h8 k hk
theorem range_snoc (X : Nat → Value) (i : Nat) : (List.range (i + 1)).map X = (List.range i).map X ++ [X i] := by rw [List.range_succ, List.map_append]; rfl
theorem G5.row6 (h : G5 w wx B n ab sv dv a c i i i7 p q v6 v7 s9 d10) (hB : B ≤ w.heap.size) : ∃ L, wx.ownsRow B 23 1 v6 i L ∧ ∀ w' v', Ap2 wx w' B 23 1 v6 v' (i + 1) (L ++ [s9]) → G5 w w' B n ab sv dv a c i (i + 1) i7 p q v' v7 s9 d10 := by
  obtain ⟨τ, X, Y, b, d, h1, h2, h3, h4, h5, h6, h7, h8, h9⟩ := h
  refine ⟨_, h2.own, fun w' v' ha => ?_⟩
  have hs := ha.stp h2.tag
  refine ⟨ex τ wx.heap.size 1, X, Y, b, d, h1.keep hs (Nat.le_refl _) (by omega) fun b hb => ex_lt hb, ?_, h3.keep hs (by omega) fun b hb => ex_lt hb, h4, h5, h6, h7, h8, ha.below h9 h2.own (Nat.le_trans hB h9.size)⟩
  rw [range_snoc, h4]
  exact h2.app ha
theorem G5.row7 (h : G5 w wx B n ab sv dv a c i i6 i p q v6 v7 s9 d10) (hB : B ≤ w.heap.size) : ∃ L, wx.ownsRow B 24 1 v7 i L ∧ ∀ w' v', Ap2 wx w' B 24 1 v7 v' (i + 1) (L ++ [d10]) → G5 w w' B n ab sv dv a c i i6 (i + 1) p q v6 v' s9 d10 := by
  obtain ⟨τ, X, Y, b, d, h1, h2, h3, h4, h5, h6, h7, h8, h9⟩ := h
  refine ⟨_, h3.own, fun w' v' ha => ?_⟩
  have hs := ha.stp h3.tag
  refine ⟨ex τ wx.heap.size 2, X, Y, b, d, h1.keep hs (by omega) (Nat.le_refl _) fun b hb => ex_lt hb, h2.keep hs (by omega) fun b hb => ex_lt hb, ?_, h4, h5, h6, h7, h8, ha.below h9 h3.own (Nat.le_trans hB h9.size)⟩
  rw [range_snoc, h5]
  exact h3.app ha
theorem G4.below (h : G4 w wx B n ab sv dv a c i v6 v7) : Below B w wx := by
  obtain ⟨τ, X, Y, b, d, h1, h2, h3, h4, h5⟩ := h
  exact h5
/-- What is read in the end. -/
theorem G4.readU (h : G4 w wx B n ab sv dv a c n v6 v7) (hi : i < n) : ∃ g6 c6 gx cx sa sc, v6 = .slice (some ⟨g6, 0, none⟩) n c6 ∧ (∀ W, Below wx.heap.size wx W → W.cell? ⟨g6, i, none⟩ = some (.slice (some ⟨gx, 0, none⟩) (a i + 40) cx) ∧ W.cell? ⟨ab, i * 6 + 4, none⟩ = some (.slice sa (a i) sc) ∧ ∀ j, j < a i + 40 → W.cell? ⟨gx, j, none⟩ = some (mU i)) ∧ (0 < a i → ∃ gs, sa = some ⟨gs, 0, none⟩ ∧ ∀ W, Below wx.heap.size wx W → ∀ j, j < a i → W.cell? ⟨gs, j, none⟩ = some (mU i)) := by
  obtain ⟨τ, X, Y, b, d, h1, h2, h3, h4, h5⟩ := h
  have hbi := ((h4 i hi).1 hi).1
  have hp := h1.s i hi
  rw [hbi] at hp
  rcases row_form h2.own with ⟨h0, _⟩ | ⟨g6, c6, e6, _, l6⟩
  · omega
  rcases row_form hp.ow.own with ⟨h0, _⟩ | ⟨gx, cx, ex', _, lx⟩
  · omega
  have hsv : ∃ sa sc, sv i = .slice sa (a i) sc ∧ (0 < a i → ∃ gs, sa = some ⟨gs, 0, none⟩ ∧ gs < wx.heap.size ∧ ∀ j, j < a i → wx.cell? ⟨gs, j, none⟩ = some (mU i)) := by
    rcases hp.rd with ⟨k1, k2⟩ | ⟨g, cap, k1, k2, k3, k4⟩
    · exact ⟨none, 0, by rw [k2, k1], fun h => by omega⟩
    · exact ⟨_, cap, k1, fun _ => ⟨g, rfl, k3, k4⟩⟩
  obtain ⟨sa, sc, es, hs⟩ := hsv
  refine ⟨g6, c6, gx, cx, sa, sc, e6, fun W hW => ⟨?_, ?_, fun j hj => ?_⟩, fun h0 => ?_⟩
  · have := (row_at h2.own (g := g6) (by rw [e6]; rfl) (j := i) (c := X i) (by rw [List.getElem?_map, List.getElem?_range hi]; rfl)).1
    rw [ex'] at this
    exact (World.cell?_of_block (a := ⟨g6, i, none⟩) (hW.block g6 l6)).trans this
  · have := (h1.al i hi).1
    rw [es] at this
    exact (World.cell?_of_block (a := ⟨ab, i * 6 + 4, none⟩) (hW.block ab (h1.lo (by omega)).2)).trans this
  · exact (World.cell?_of_block (a := ⟨gx, j, none⟩) (hW.block gx lx)).trans (row_at hp.ow.own (by rw [ex']; rfl) (rep_at hj)).1
  · obtain ⟨gs, k1, k2, k3⟩ := hs h0
    exact ⟨gs, k1, fun W hW j hj => (World.cell?_of_block (a := ⟨gs, j, none⟩) (hW.block gs k2)).trans (k3 j hj)⟩
theorem G4.readS (h : G4 w wx B n ab sv dv a c n v6 v7) (hi : i < n) : ∃ g6 c6 gx cx sa sc, v7 = .slice (some ⟨g6, 0, none⟩) n c6 ∧ (∀ W, Below wx.heap.size wx W → W.cell? ⟨g6, i, none⟩ = some (.slice (some ⟨gx, 0, none⟩) (c i + 40) cx) ∧ W.cell? ⟨ab, i * 6 + 5, none⟩ = some (.slice sa (c i) sc) ∧ ∀ j, j < c i + 40 → W.cell? ⟨gx, j, none⟩ = some (mS i)) ∧ (0 < c i → ∃ gs, sa = some ⟨gs, 0, none⟩ ∧ ∀ W, Below wx.heap.size wx W → ∀ j, j < c i → W.cell? ⟨gs, j, none⟩ = some (mS i)) := by
  obtain ⟨τ, X, Y, b, d, h1, h2, h3, h4, h5⟩ := h
  have hbi := ((h4 i hi).1 hi).2
  have hp := h1.d i hi
  rw [hbi] at hp
  rcases row_form h3.own with ⟨h0, _⟩ | ⟨g6, c6, e6, _, l6⟩
  · omega
  rcases row_form hp.ow.own with ⟨h0, _⟩ | ⟨gx, cx, ex', _, lx⟩
  · omega
  have hsv : ∃ sa sc, dv i = .slice sa (c i) sc ∧ (0 < c i → ∃ gs, sa = some ⟨gs, 0, none⟩ ∧ gs < wx.heap.size ∧ ∀ j, j < c i → wx.cell? ⟨gs, j, none⟩ = some (mS i)) := by
    rcases hp.rd with ⟨k1, k2⟩ | ⟨g, cap, k1, k2, k3, k4⟩
    · exact ⟨none, 0, by rw [k2, k1], fun h => by omega⟩
    · exact ⟨_, cap, k1, fun _ => ⟨g, rfl, k3, k4⟩⟩
  obtain ⟨sa, sc, es, hs⟩ := hsv
  refine ⟨g6, c6, gx, cx, sa, sc, e6, fun W hW => ⟨?_, ?_, fun j hj => ?_⟩, fun h0 => ?_⟩
  · have := (row_at h3.own (g := g6) (by rw [e6]; rfl) (j := i) (c := Y i) (by rw [List.getElem?_map, List.getElem?_range hi]; rfl)).1
    rw [ex'] at this
    exact (World.cell?_of_block (a := ⟨g6, i, none⟩) (hW.block g6 l6)).trans this
  · have := (h1.al i hi).2
    rw [es] at this
    exact (World.cell?_of_block (a := ⟨ab, i * 6 + 5, none⟩) (hW.block ab (h1.lo (by omega)).2)).trans this
  · exact (World.cell?_of_block (a := ⟨gx, j, none⟩) (hW.block gx lx)).trans (row_at hp.ow.own (by rw [ex']; rfl) (rep_at hj)).1
  · obtain ⟨gs, k1, k2, k3⟩ := hs h0
    exact ⟨gs, k1, fun W hW j hj => (World.cell?_of_block (a := ⟨gs, j, none⟩) (hW.block gs k2)).trans (k3 j hj)⟩
end
set_option maxRecDepth 100000 in
set_option maxHeartbeats 4000000 in
theorem apart_any (w : World) (B : Nat) (hB : B ≤ w.heap.size) (n ab cap : Nat) (hn : n ≤ 24) (ao : Option Addr) (hao : 0 < n → ao = some ⟨ab, 0, none⟩) (τ : Nat → Nat) (sv dv : Nat → Value) (cs ds : Nat → List Value) (hS : S0 w τ B n ab sv dv cs ds) (hl : ∀ i, i < n → (cs i).length ≤ 60 ∧ (ds i).length ≤ 60) :
    Calls Tryd.prog 21 #[.slice ao n cap] w fun e w' => e = .returned (.bool true) ∧ Below B w w' := by
  obtain ⟨a, ha⟩ : ∃ a : Nat → Nat, ∀ k, (cs k).length = a k := ⟨_, fun _ => rfl⟩
  obtain ⟨c, hc⟩ : ∃ c : Nat → Nat, ∀ k, (ds k).length = c k := ⟨_, fun _ => rfl⟩
  have HL : Hid ((∀ i, i < n → a i ≤ 60 ∧ c i ≤ 60) ∧ n ≤ 24 ∧ (0 < n → ao = some ⟨ab, 0, none⟩) ∧ B ≤ w.heap.size) := ⟨fun i hi => by have := hl i hi; rw [ha, hc] at this; exact this, hn, hao, hB⟩
  have HS0 : Hid (S0 w τ B n ab sv dv cs ds ∧ ∀ k, (cs k).length = a k ∧ (ds k).length = c k) := ⟨hS, fun k => ⟨ha k, hc k⟩⟩
  have HMk : Hid (∀ W (i : Nat), i < n → Calls Tryd.prog 43 #[.int .i64 (i : Int)] W fun e w' => e = .returned (.string (mT i)) ∧ Below W.heap.size W w') := fun W i hi => mark_any W i (by omega)
  have hn24 : (n : Int) ≤ 24 := by omega
  clear hl hn hao hB hS ha hc
  go_enter Tryd.func21, Tryd.ntmps21
  go_wp2
  go_loopg [3] n (fun gh ii wr => ∃ i : Nat, i ≤ n ∧ gh = n - i ∧ ii = .int .i64 (i : Int) ∧ Hid (∃ cs' ds', S0 wr τ B n ab sv dv cs' ds' ∧ (∀ k, k < n → (cs' k).length = a k ∧ (ds' k).length = c k) ∧ (∀ k, k < i → cs' k = List.replicate (a k) (mU k) ∧ ds' k = List.replicate (c k) (mS k)) ∧ Below B w wr))
  case atStart =>
    go_light
    exact ⟨0, Nat.zero_le _, rfl, rfl, cs, ds, HS0.out.1, fun k _ => HS0.out.2 k, fun k hk => absurd hk (Nat.not_lt_zero k), Below.refl _ _⟩
  case round =>
    obtain ⟨i, hi, rfl, rfl, HI⟩ := hrel
    by_cases hlt : i < n
    · have hz : (i : Int) < (n : Int) := by omega
      have hz0 : (0 : Int) ≤ (i : Int) := Int.natCast_nonneg _
      obtain rfl := HL.out.2.2.1 (by omega)
      obtain ⟨cs1, ds1, h1, h2, h3, hb⟩ := HI.out
      obtain ⟨m0, m1⟩ := h1.al i hlt
      have hs1 := h1.s i hlt
      have hd1 := h1.d i hlt
      obtain ⟨l1, l2⟩ := h2 i hlt
      rw [l1] at hs1
      rw [l2] at hd1
      obtain ⟨sa, sc, hsv, hsp⟩ := hs1.form
      obtain ⟨da, dc, hdv, hdp⟩ := hd1.form
      have h60 := HL.out.1 i hlt
      obtain ⟨ai, hai⟩ : ∃ ai, a i = ai := ⟨_, rfl⟩
      obtain ⟨ci, hci⟩ : ∃ ci, c i = ci := ⟨_, rfl⟩
      rw [hai] at hsv hsp l1 h60
      rw [hci] at hdv hdp l2 h60
      have e1 : IntKind.u64.wrap (i : Int) = (i : Int) := by rw [IntKind.wrap_u64]; omega
      have e2 : IntKind.u64.wrap (1125899906842624 + (i : Int)) = 1125899906842624 + (i : Int) := by rw [IntKind.wrap_u64]; omega
      have HV : Hid (sv i = .slice sa ai sc ∧ (0 < ai → ∃ g, sa = some ⟨g, 0, none⟩ ∧ B ≤ g) ∧ dv i = .slice da ci dc ∧ (0 < ci → ∃ g, da = some ⟨g, 0, none⟩ ∧ B ≤ g) ∧ (cs1 i).length = ai ∧ (ds1 i).length = ci ∧ a i = ai ∧ c i = ci ∧ i < n) := ⟨hsv, hsp, hdv, hdp, l1, l2, hai, hci, hlt⟩
      have ha60 : (ai : Int) ≤ 60 := by omega
      have hc60 : (ci : Int) ≤ 60 := by omega
      have H1 : Hid (S0 wr τ B n ab sv dv cs1 ds1 ∧ (∀ k, k < n → (cs1 k).length = a k ∧ (ds1 k).length = c k) ∧ (∀ k, k < i → cs1 k = List.replicate (a k) (mU k) ∧ ds1 k = List.replicate (c k) (mS k)) ∧ Below B w wr) := ⟨h1, h2, h3, hb⟩
      clear h1 h2 h3 hb hs1 hd1 l1 l2 hsv hsp hdv hdp hai hci h60 HI m0 m1
      go_wp2
      go_loopg [4] ai (fun gh jj wx => ∃ j : Nat, j ≤ ai ∧ gh = ai - j ∧ jj = .int .i64 (j : Int) ∧ Hid (S0 wx τ B n ab sv dv (upd cs1 i (List.replicate j (mU i) ++ (cs1 i).drop j)) ds1 ∧ Below B w wx))
      case atStart =>
        go_light
        exact ⟨0, Nat.zero_le _, rfl, rfl, by rw [List.replicate_zero, List.drop_zero, List.nil_append, upd_self]; exact H1.out.1, H1.out.2.2.2⟩
      case round =>
        obtain ⟨j, hj, rfl, rfl, HJ⟩ := hrel
        have q0 := (HJ.out.1.al i HV.out.2.2.2.2.2.2.2.2).1
        rw [HV.out.1] at q0
        by_cases hjl : j < ai
        · have hjz : (j : Int) < (ai : Int) := by omega
          have hj0 : (0 : Int) ≤ (j : Int) := Int.natCast_nonneg _
          obtain ⟨g, rfl, hgB⟩ := HV.out.2.1 (by omega)
          have hlen : (List.replicate j (mU i) ++ (cs1 i).drop j).length = ai := by rw [List.length_append, List.length_replicate, List.length_drop, HV.out.2.2.2.2.1]; omega
          have hat := HJ.out.1.s i HV.out.2.2.2.2.2.2.2.2
          rw [upd_at] at hat
          obtain ⟨y, hy⟩ : ∃ y, (List.replicate j (mU i) ++ (cs1 i).drop j)[j]? = some y := ⟨_, List.getElem?_eq_getElem (by rw [hlen]; exact hjl)⟩
          obtain ⟨x1, x2⟩ := row_at hat.own (g := g) (by rw [HV.out.1]; rfl) hy
          have HN : Hid (S0 (wr.setCell ⟨g, j, none⟩ (.int .u64 (1125899906842624 + (i : Int)))) τ B n ab sv dv (upd cs1 i (List.replicate (j + 1) (mU i) ++ (cs1 i).drop (j + 1))) ds1 ∧ Below B w (wr.setCell ⟨g, j, none⟩ (.int .u64 (1125899906842624 + (i : Int))))) := by
            refine ⟨(HJ.out.1.setU (i := i) HV.out.2.2.2.2.2.2.2.2 HV.out.1 (j := j) (by rw [upd_at, hlen]; exact hjl) (mU i)).same ?_ rfl, HJ.out.2.setCell hgB _⟩
            rw [upd_upd, upd_at, mark_set _ _ _ (by rw [HV.out.2.2.2.2.1]; exact hjl)]
          clear hat hlen hgB hy
          go_wp2
          go_roundg (ai - (j + 1))
          case rel =>
            go_light
            exact ⟨j + 1, hjl, rfl, by go_num, HN.out⟩
          case measure => go_light; omega
        · obtain rfl : j = ai := by omega
          have hjz : ¬ ((j : Int) < (j : Int)) := by omega
          have H2 : Hid (S0 wr τ B n ab sv dv (upd cs1 i (List.replicate j (mU i))) ds1 ∧ Below B w wr) := by
            refine ⟨HJ.out.1.same ?_ rfl, HJ.out.2⟩
            rw [List.drop_eq_nil_of_le (by rw [HV.out.2.2.2.2.1]; exact Nat.le_refl _), List.append_nil]
          clear HJ hjl hj
          go_wp2
          go_loopg [5] ci (fun gh jj wx => ∃ t : Nat, t ≤ ci ∧ gh = ci - t ∧ jj = .int .i64 (t : Int) ∧ Hid (S0 wx τ B n ab sv dv (upd cs1 i (List.replicate j (mU i))) (upd ds1 i (List.replicate t (mS i) ++ (ds1 i).drop t)) ∧ Below B w wx))
          case atStart =>
            go_light
            exact ⟨0, Nat.zero_le _, rfl, rfl, by rw [List.replicate_zero, List.drop_zero, List.nil_append, upd_self]; exact H2.out.1, H2.out.2⟩
          case round =>
            obtain ⟨t, ht, rfl, rfl, HJ⟩ := hrel
            have q1 := (HJ.out.1.al i HV.out.2.2.2.2.2.2.2.2).2
            rw [HV.out.2.2.1] at q1
            by_cases htl : t < ci
            · have htz : (t : Int) < (ci : Int) := by omega
              have ht0 : (0 : Int) ≤ (t : Int) := Int.natCast_nonneg _
              obtain ⟨g, rfl, hgB⟩ := HV.out.2.2.2.1 (by omega)
              have hlen : (List.replicate t (mS i) ++ (ds1 i).drop t).length = ci := by rw [List.length_append, List.length_replicate, List.length_drop, HV.out.2.2.2.2.2.1]; omega
              have HC : Hid (∀ W, Below wr.heap.size wr W → W.cell? ⟨ab, i * 6 + 5, none⟩ = some (.slice (some ⟨g, 0, none⟩) ci dc) ∧ (∃ y, W.cell? ⟨g, t, none⟩ = some y) ∧ W.frozen? ⟨g, t, none⟩ = false ∧ S0 (W.setCell ⟨g, t, none⟩ (.string (mT i))) τ B n ab sv dv (upd cs1 i (List.replicate j (mU i))) (upd ds1 i (List.replicate (t + 1) (mS i) ++ (ds1 i).drop (t + 1))) ∧ Below B w (W.setCell ⟨g, t, none⟩ (.string (mT i)))) := fun W hW => by
                have hJ := HJ.out.1.next hW
                have hat := hJ.d i HV.out.2.2.2.2.2.2.2.2
                rw [upd_at] at hat
                obtain ⟨x1, x2⟩ := row_at hat.own (g := g) (by rw [HV.out.2.2.1]; rfl) (List.getElem?_eq_getElem (show t < _ by rw [hlen]; exact htl))
                refine ⟨by have := (hJ.al i HV.out.2.2.2.2.2.2.2.2).2; rw [HV.out.2.2.1] at this; exact this, ⟨_, x1⟩, x2, (hJ.setS (i := i) HV.out.2.2.2.2.2.2.2.2 HV.out.2.2.1 (j := t) (by rw [upd_at, hlen]; exact htl) (mS i)).same rfl ?_, (HJ.out.2.trans (hW.mono (Nat.le_trans HL.out.2.2.2 HJ.out.2.size))).setCell hgB _⟩
                rw [upd_upd, upd_at, mark_set _ _ _ (by rw [HV.out.2.2.2.2.2.1]; exact htl)]
              have hlt' := HV.out.2.2.2.2.2.2.2.2
              clear hlen hgB HJ
              go_upto_region 11 with (fail)
              have hdr := (Below.refl wr.heap.size wr).drew
              obtain ⟨p0, ⟨y0, p1⟩, p2, _, _⟩ := HC.out _ hdr
              clear H1 H2 HV q1 HL HS0 e1 e2
              go_region_with (go_at_call 43; with_reducible refine (HMk.out _ _ hlt').mono ?_; rintro e w4 ⟨rfl, hb4⟩; have hr4 := bnext hdr hb4; obtain ⟨o0, ⟨y4, o1⟩, o2, o3, o4⟩ := HC.out _ hr4)
              all_goals
                go_wp2
                go_roundg (ci - (t + 1))
                case rel =>
                  go_light
                  exact ⟨t + 1, htl, rfl, by go_num, o3, o4⟩
                case measure => go_light; omega
            · obtain rfl : t = ci := by omega
              have htz : ¬ ((t : Int) < (t : Int)) := by omega
              have H3 : Hid (∃ cs' ds', S0 wr τ B n ab sv dv cs' ds' ∧ (∀ k, k < n → (cs' k).length = a k ∧ (ds' k).length = c k) ∧ (∀ k, k < i + 1 → cs' k = List.replicate (a k) (mU k) ∧ ds' k = List.replicate (c k) (mS k)) ∧ Below B w wr) := by
                obtain ⟨v1, v2, v3, v4, v5, v6, v7, v8, v9⟩ := HV.out
                refine ⟨_, _, HJ.out.1, fun k hk => ?_, fun k hk => ?_, HJ.out.2⟩
                · by_cases e : k = i
                  · subst e
                    rw [upd_at, upd_at, List.length_replicate, List.length_append, List.length_replicate, List.length_drop]
                    omega
                  · rw [upd_ne _ _ e, upd_ne _ _ e]; exact H1.out.2.1 k hk
                · by_cases e : k = i
                  · subst e
                    rw [upd_at, upd_at, v7, v8, List.drop_eq_nil_of_le (by omega), List.append_nil]
                    exact ⟨rfl, rfl⟩
                  · rw [upd_ne _ _ e, upd_ne _ _ e]; exact H1.out.2.2.1 k (by omega)
              clear H1 H2 HV HJ htl ht
              go_wp2
              go_roundg (n - (i + 1))
              case rel =>
                go_light
                exact ⟨i + 1, hlt, rfl, by go_num, H3.out⟩
              case measure => go_light; omega
    · obtain rfl : i = n := by omega
      have hz : ¬ ((i : Int) < (i : Int)) := by omega
      have HG : Hid (G4 w wr B i ab sv dv a c 0 (.slice none 0 0) (.slice none 0 0)) := by
        obtain ⟨cs1, ds1, h1, h2, h3, hb⟩ := HI.out
        exact G4.start (St.start h1 (fun k hk => (h3 k hk).1) (fun k hk => (h3 k hk).2)) hb
      clear HI HS0 hlt hi
      go_wp2
      go_loopg [6, 7, 8] i (fun gh v6 v7 ii wx => ∃ t : Nat, t ≤ i ∧ gh = i - t ∧ ii = .int .i64 (t : Int) ∧ Hid (G4 w wx B i ab sv dv a c t v6 v7))
      case atStart =>
        go_light
        exact ⟨0, Nat.zero_le _, rfl, rfl, HG.out⟩
      case round =>
        obtain ⟨t, ht, rfl, rfl, HI⟩ := hrel
        clear HG
        by_cases htl : t < i
        · have htz : (t : Int) < (i : Int) := by omega
          have ht0 : (0 : Int) ≤ (t : Int) := Int.natCast_nonneg _
          obtain rfl := HL.out.2.2.1 (by omega)
          have hG5 := HI.out.open htl
          have HA : Hid (wr.cell? ⟨ab, t * 6 + 4, none⟩ = some (sv t) ∧ wr.cell? ⟨ab, t * 6 + 5, none⟩ = some (dv t)) := by
            obtain ⟨τ, X, Y, b, d, h1, _⟩ := HI.out
            exact h1.al t htl
          obtain ⟨m0, m1⟩ := HA.out
          obtain ⟨sa, sm, sc, hsv⟩ := Cv.own_slice (hG5.own9 htl)
          obtain ⟨da, dm, dc, hdv⟩ := Cv.own_slice (hG5.own10 htl)
          rw [hsv] at m0
          rw [hdv] at m1
          rw [hsv, hdv] at hG5
          have HG5 := hide hG5
          have e1 : IntKind.u64.wrap (t : Int) = (t : Int) := by rw [IntKind.wrap_u64]; have := HL.out.2.1; omega
          have e2 : IntKind.u64.wrap (1125899906842624 + (t : Int)) = 1125899906842624 + (t : Int) := by rw [IntKind.wrap_u64]; have := HL.out.2.1; omega
          have HT := hide htl
          have H60 := hide (HL.out.1 t htl)
          clear HI hG5 hsv hdv htl ht
          go_wp2
          go_loopg [9, 10, 11] 40 (fun gh s9 d10 hh wx => ∃ h : Nat, h ≤ 40 ∧ gh = 40 - h ∧ hh = .int .i64 (h : Int) ∧ Hid (G5 w wx B i ab sv dv a c t t t h h u6 u7 s9 d10))
          case atStart =>
            go_light
            exact ⟨0, by omega, rfl, rfl, HG5.out⟩
          case round =>
            obtain ⟨h, hh, rfl, rfl, HJ⟩ := hrel
            clear HG5 HA
            by_cases hhl : h < 40
            · have hhz : (h : Int) < 40 := by omega
              have hhz0 : (0 : Int) ≤ (h : Int) := Int.natCast_nonneg _
              have hJ1 := HJ.out.next (bal (Below.refl _ _) (.cells #[.int .u64 (1125899906842624 + (t : Int))] 22)) HL.out.2.2.2
              have HJ1 := hide hJ1
              clear hJ1 HJ
              go_upto_region 23 with (at_builtin; refine wpList_app_U _ rfl _ _ rfl B _ (a t + h) _ rfl (HJ1.out.own9 HT.out) (.slice (some ⟨wr.heap.size, 0, none⟩) 1 1) (mU t) rfl (rdc_one wr (mU t) 22) rfl ?c1 ?c2 ?_)
              case c1 => have := H60.out; omega
              case c2 => exact Nat.le_trans HL.out.2.2.2 HJ1.out.below.size
              intro v9 w5 ha5
              have HJ2 : Hid (G5 w w5 B i ab sv dv a c t t t (h + 1) h u6 u7 v9 u10) := HJ1.out.appU HT.out (Nat.le_refl _) HL.out.2.2.2 ha5
              clear HJ1 ha5
              go_upto_region 21 with (first
                | (go_at_call 43; with_reducible refine (HMk.out _ _ HT.out).mono ?_; rintro e w6 ⟨rfl, hb6⟩; have HJ3 := hide (HJ2.out.next (bal hb6 (.cells #[.string (mT t)] 9)) HL.out.2.2.2))
                | (at_builtin; refine wpList_app_S _ rfl _ _ rfl B _ (c t + h) _ rfl (HJ3.out.own10 HT.out) (.slice (some ⟨w6.heap.size, 0, none⟩) 1 1) (mS t) rfl (rdc_one w6 (mS t) 9) rfl ?c1 ?c2 ?_))
              case c1 => have := H60.out; omega
              case c2 => exact Nat.le_trans HL.out.2.2.2 HJ3.out.below.size
              intro v10 w7 ha7
              have HJ4 : Hid (G5 w w7 B i ab sv dv a c t t t (h + 1) (h + 1) u6 u7 v9 v10) := HJ3.out.appS HT.out (Nat.le_refl _) HL.out.2.2.2 ha7
              clear HJ3 ha7 HJ2
              go_wp2
              go_roundg (40 - (h + 1))
              case rel =>
                go_light
                exact ⟨h + 1, hhl, rfl, by go_num, HJ4.out⟩
              case measure => go_light; omega
            · obtain rfl : h = 40 := by omega
              obtain ⟨xa, xm, xc, hx9⟩ := Cv.own_slice (HJ.out.own9 HT.out)
              obtain ⟨ya, ym, yc, hy10⟩ := Cv.own_slice (HJ.out.own10 HT.out)
              subst hx9 hy10
              obtain ⟨L6, o6, k6⟩ := (HJ.out.next (bal (Below.refl _ _) (.cells #[.slice xa xm xc] 23)) HL.out.2.2.2).row6 HL.out.2.2.2
              have HR6 := hide (And.intro o6 k6)
              have hsz := HJ.out.below.size
              clear o6 k6 hhl hh HJ
              go_upto_region 25 with (at_builtin; refine wpList_app_VU _ rfl _ _ rfl B _ t L6 rfl HR6.out.1 (.slice (some ⟨wr.heap.size, 0, none⟩) 1 1) (.slice xa xm xc) rfl (rdc_one wr (.slice xa xm xc) 23) rfl ?c1 ?c2 ?_)
              case c1 => have := HL.out.2.1; have := HT.out; omega
              case c2 => have := HL.out.2.2.2; rw [World.size_alloc]; omega
              intro v6 w5 ha5
              have hJ2 := HR6.out.2 _ _ ha5
              obtain ⟨L7, o7, k7⟩ := (hJ2.next (bal (Below.refl _ _) (.cells #[.slice ya ym yc] 24)) HL.out.2.2.2).row7 HL.out.2.2.2
              have HR7 := hide (And.intro o7 k7)
              have hsz2 := hJ2.below.size
              clear o7 k7 hJ2 HR6 ha5 hsz
              go_upto_region 16 with (at_builtin; refine wpList_app_VS _ rfl _ _ rfl B _ t L7 rfl HR7.out.1 (.slice (some ⟨w5.heap.size, 0, none⟩) 1 1) (.slice ya ym yc) rfl (rdc_one w5 (.slice ya ym yc) 24) rfl ?c1 ?c2 ?_)
              case c1 => have := HL.out.2.1; have := HT.out; omega
              case c2 => have := HL.out.2.2.2; rw [World.size_alloc]; omega
              intro v7 w7 ha7
              have HJ4 := hide (HR7.out.2 _ _ ha7).shut
              clear HR7 ha7 hsz2
              go_wp2
              go_roundg (i - (t + 1))
              case rel =>
                go_light
                exact ⟨t + 1, HT.out, rfl, by go_num, HJ4.out⟩
              case measure => go_light; have := HT.out; omega
        · obtain rfl : t = i := by omega
          have htz : ¬ ((t : Int) < (t : Int)) := by omega
          obtain ⟨w3, hw3⟩ : ∃ w3, w3 = wr := ⟨_, rfl⟩
          subst hw3
          have HB3 := hide HI.out.below
          clear htl ht
          go_wp2
          go_loopg [12] t (fun gh ii wx => ∃ p : Nat, p ≤ t ∧ gh = t - p ∧ ii = .int .i64 (p : Int) ∧ Below w3.heap.size w3 wx)
          case atStart =>
            go_light
            exact ⟨0, Nat.zero_le _, rfl, rfl, Below.refl _ _⟩
          case round =>
            obtain ⟨p, hp, rfl, rfl, hb⟩ := hrel
            by_cases hpl : p < t
            · have hpz : (p : Int) < (t : Int) := by omega
              have hp0 : (0 : Int) ≤ (p : Int) := Int.natCast_nonneg _
              obtain rfl := HL.out.2.2.1 (by omega)
              obtain ⟨g6, c6, gx, cx, sa, sc, e6, hR, hs⟩ := HI.out.readU hpl
              obtain ⟨g7, c7, gy, cy, da, dc, e7, hR7, hd⟩ := HI.out.readS hpl
              subst e6 e7
              have h60 := HL.out.1 p hpl
              obtain ⟨ai, hai⟩ : ∃ ai, a p = ai := ⟨_, rfl⟩
              obtain ⟨ci, hci⟩ : ∃ ci, c p = ci := ⟨_, rfl⟩
              rw [hai] at hR hs h60
              rw [hci] at hR7 hd h60
              obtain ⟨bi, hbi⟩ : ∃ bi, ai + 40 = bi := ⟨_, rfl⟩
              obtain ⟨di, hdi⟩ : ∃ di, ci + 40 = di := ⟨_, rfl⟩
              rw [hbi] at hR
              rw [hdi] at hR7
              have HU := hide (And.intro hR hs)
              have HD := hide (And.intro hR7 hd)
              have e1 : IntKind.u64.wrap (p : Int) = (p : Int) := by rw [IntKind.wrap_u64]; have := HL.out.2.1; omega
              have e2 : IntKind.u64.wrap (1125899906842624 + (p : Int)) = 1125899906842624 + (p : Int) := by rw [IntKind.wrap_u64]; have := HL.out.2.1; omega
              have hb60 : (bi : Int) ≤ 100 := by omega
              have hd60 : (di : Int) ≤ 100 := by omega
              have HT := hide hpl
              clear hR hs hR7 hd hai hci h60 hbi hdi hpl hp
              go_wp2
              go_loopg [13] bi (fun gh jj wx => ∃ j : Nat, j ≤ bi ∧ gh = bi - j ∧ jj = .int .i64 (j : Int) ∧ Below w3.heap.size w3 wx)
              case atStart =>
                go_light
                exact ⟨0, Nat.zero_le _, rfl, rfl, hb⟩
              case round =>
                obtain ⟨j, hj, rfl, rfl, hbj⟩ := hrel
                obtain ⟨q6, q4, qx⟩ := HU.out.1 wr hbj
                clear hb
                by_cases hjl : j < bi
                · have hjz : (j : Int) < (bi : Int) := by omega
                  have hj0 : (0 : Int) ≤ (j : Int) := Int.natCast_nonneg _
                  have cxj := qx j hjl
                  rw [mU] at cxj
                  by_cases hja : j < ai
                  · have hjaz : (j : Int) < (ai : Int) := by omega
                    obtain ⟨gs, rfl, hgs⟩ := HU.out.2 (by omega)
                    have csj := hgs wr hbj j hja
                    rw [mU] at csj
                    clear qx hgs hja
                    go_wp2
                    go_roundg (bi - (j + 1))
                    case rel =>
                      go_light
                      exact ⟨j + 1, hjl, rfl, by go_num, hbj⟩
                    case measure => go_light; omega
                  · have hjaz : ¬ (j : Int) < (ai : Int) := by omega
                    clear qx hja
                    go_wp2
                    go_roundg (bi - (j + 1))
                    case rel =>
                      go_light
                      exact ⟨j + 1, hjl, rfl, by go_num, hbj⟩
                    case measure => go_light; omega
                · obtain rfl : j = bi := by omega
                  have hjz : ¬ ((j : Int) < (j : Int)) := by omega
                  clear qx hjl hj
                  go_wp2
                  go_loopg [14] di (fun gh jj wx => ∃ r : Nat, r ≤ di ∧ gh = di - r ∧ jj = .int .i64 (r : Int) ∧ Below w3.heap.size w3 wx)
                  case atStart =>
                    go_light
                    exact ⟨0, Nat.zero_le _, rfl, rfl, hbj⟩
                  case round =>
                    obtain ⟨r, hr, rfl, rfl, hbr⟩ := hrel
                    obtain ⟨q7, q5, qy⟩ := HD.out.1 wr hbr
                    clear hbj q6 q4
                    by_cases hrl : r < di
                    · have hrz : (r : Int) < (di : Int) := by omega
                      have hr0 : (0 : Int) ≤ (r : Int) := Int.natCast_nonneg _
                      have HMp : Hid (∀ W, Calls Tryd.prog 43 #[.int .i64 (p : Int)] W fun e w' => e = .returned (.string (mT p)) ∧ Below W.heap.size W w') := fun W => HMk.out W p HT.out
                      have hdr := hbr.drew
                      by_cases hra : r < ci
                      · have hraz : (r : Int) < (ci : Int) := by omega
                        obtain ⟨gd, rfl, hgd⟩ := HD.out.2 (by omega)
                        have HC : Hid (∀ W, Below w3.heap.size w3 W → W.cell? ⟨g7, p, none⟩ = some (.slice (some ⟨gy, 0, none⟩) di cy) ∧ W.cell? ⟨ab, p * 6 + 5, none⟩ = some (.slice (some ⟨gd, 0, none⟩) ci dc) ∧ W.cell? ⟨gy, r, none⟩ = some (.string (mT p)) ∧ W.cell? ⟨gd, r, none⟩ = some (.string (mT p))) := fun W hW => ⟨(HD.out.1 W hW).1, (HD.out.1 W hW).2.1, (HD.out.1 W hW).2.2 r hrl, hgd W hW r hra⟩
                        generalize mT p = mt at HC HMp
                        clear qy hgd hra HD HU HI
                        go_upto_region 37 with (fail)
                        obtain ⟨y0, y1, y2, y3⟩ := HC.out _ hdr
                        go_region_held3 (fun W => W.cell? ⟨g7, p, none⟩ = some (.slice (some ⟨gy, 0, none⟩) di cy) ∧ W.cell? ⟨ab, p * 6 + 5, none⟩ = some (.slice (some ⟨gd, 0, none⟩) ci dc) ∧ W.cell? ⟨gy, r, none⟩ = some (.string mt) ∧ W.cell? ⟨gd, r, none⟩ = some (.string mt)) (first | (exact HC.out _ hdr) | (exact HC.out _ hr5) | (exact HC.out _ hr4)) (first
                          | (go_at_call 43; with_reducible refine (HMp.out _).mono ?_; rintro e w5 ⟨rfl, hb5⟩; have hr5 := hr4.trans (hb5.mono hr4.size))
                          | (go_at_call 43; with_reducible refine (HMp.out _).mono ?_; rintro e w4 ⟨rfl, hb4⟩; have hr4 := hdr.trans (hb4.mono hdr.size)))
                        all_goals
                          go_wp2
                          go_roundg (di - (r + 1))
                          case rel =>
                            go_light
                            exact ⟨r + 1, hrl, rfl, by go_num, hr5⟩
                          case measure => go_light; omega
                      · have hraz : ¬ (r : Int) < (ci : Int) := by omega
                        have hra2 : decide (r < ci) = false := decide_eq_false hra
                        have hra3 : decide ((r : Int) < (ci : Int)) = false := decide_eq_false hraz
                        have hra4 : ci ≤ r := by omega
                        have HC : Hid (∀ W, Below w3.heap.size w3 W → W.cell? ⟨g7, p, none⟩ = some (.slice (some ⟨gy, 0, none⟩) di cy) ∧ W.cell? ⟨ab, p * 6 + 5, none⟩ = some (.slice da ci dc) ∧ W.cell? ⟨gy, r, none⟩ = some (.string (mT p))) := fun W hW => ⟨(HD.out.1 W hW).1, (HD.out.1 W hW).2.1, (HD.out.1 W hW).2.2 r hrl⟩
                        generalize mT p = mt at HC HMp
                        clear qy HD HU HI
                        go_upto_region 37 with (fail)
                        refine wp_region_planI (by kernel_rfl) [158, 159, 160, 161, 162, 163, 164, 165, 166, 167, 168, 169, 170, 171, 172, 173, 174, 175, 176, 177, 178, 179, 180, 181, 182, 183, 184, 185, 186, 187, 188, 189, 190] [] [.slice (some ⟨g7, 0, none⟩) t c7, .int .i64 (p : Int), .pointer (some ⟨g7, p, none⟩), .slice (some ⟨gy, 0, none⟩) di cy, .int .i64 (r : Int), .pointer (some ⟨gy, r, none⟩), .string mt, .int .i64 (p : Int), .string mt, .bool false, .bool false, .int .i64 (r : Int), .slice (some ⟨ab, 0, none⟩) t cap, .int .i64 (p : Int), .pointer (some ⟨ab, p * 6, none⟩), .pointer (some ⟨ab, p * 6 + 5, none⟩), .slice da ci dc, .int .i64 (ci : Int), .bool false, .bool false, undef, undef, undef, undef, undef, undef, undef, undef, undef, undef, undef, .bool false, .bool false] (by kernel_rfl) rfl (fun j hj => by cases hj) (fun _ W => Below wr.heap.size wr W) (fun W _ hb => hb) ?step ?fin
                        case step =>
                          refine ⟨?_, ?_, ?_, ?_, ?_, ?_, ?_, ?_, ?_, ?_, ?_, ?_, ?_, ?_, ?_, ?_, ?_, ?_, ?_, ?_, ?_, ?_, ?_, ?_, ?_, ?_, ?_, ?_, ?_, ?_, ?_, ?_, ?_, trivial⟩
                          · intro L Ac Wc K hI hj hcl hsm dep hK
                            have t7 : Ac.tmps.getD 7 undef = .slice (some ⟨g7, 0, none⟩) t c7 := hsm 7 rfl
                            show Oper.wp _ _ Ac Wc K _
                            go_simp
                            exact hK _ _ (.inr rfl) hI
                          · intro L Ac Wc K hI hj hcl hsm dep hK
                            have t12 : Ac.tmps.getD 12 undef = .int .i64 (p : Int) := hsm 12 rfl
                            show Oper.wp _ _ Ac Wc K _
                            go_simp
                            exact hK _ _ (.inr rfl) hI
                          · intro L Ac Wc K hI hj hcl hsm dep hK
                            have t158 : Ac.tmps.getD 158 undef = .slice (some ⟨g7, 0, none⟩) t c7 := dep 0 rfl
                            have t159 : Ac.tmps.getD 159 undef = .int .i64 (p : Int) := dep 1 rfl
                            show Oper.wp _ _ Ac Wc K _
                            go_simp
                            exact hK _ _ (.inr rfl) hI
                          · intro L Ac Wc K hI hj hcl hsm dep hK
                            have t160 : Ac.tmps.getD 160 undef = .pointer (some ⟨g7, p, none⟩) := dep 2 rfl
                            show Oper.wp _ _ Ac Wc K _
                            obtain ⟨ca, cb, cc⟩ := HC.out Wc (hbr.trans (hI.mono hbr.size))
                            go_simp
                            exact hK _ _ (.inr rfl) hI
                          · intro L Ac Wc K hI hj hcl hsm dep hK
                            have t14 : Ac.tmps.getD 14 undef = .int .i64 (r : Int) := hsm 14 rfl
                            show Oper.wp _ _ Ac Wc K _
                            go_simp
                            exact hK _ _ (.inr rfl) hI
                          · intro L Ac Wc K hI hj hcl hsm dep hK
                            have t161 : Ac.tmps.getD 161 undef = .slice (some ⟨gy, 0, none⟩) di cy := dep 3 rfl
                            have t162 : Ac.tmps.getD 162 undef = .int .i64 (r : Int) := dep 4 rfl
                            show Oper.wp _ _ Ac Wc K _
                            go_simp
                            exact hK _ _ (.inr rfl) hI
                          · intro L Ac Wc K hI hj hcl hsm dep hK
                            have t163 : Ac.tmps.getD 163 undef = .pointer (some ⟨gy, r, none⟩) := dep 5 rfl
                            show Oper.wp _ _ Ac Wc K _
                            obtain ⟨ca, cb, cc⟩ := HC.out Wc (hbr.trans (hI.mono hbr.size))
                            go_simp
                            exact hK _ _ (.inr rfl) hI
                          · intro L Ac Wc K hI hj hcl hsm dep hK
                            have t12 : Ac.tmps.getD 12 undef = .int .i64 (p : Int) := hsm 12 rfl
                            show Oper.wp _ _ Ac Wc K _
                            go_simp
                            exact hK _ _ (.inr rfl) hI
                          · intro L Ac Wc K hI hj hcl hsm dep hK
                            have t165 : Ac.tmps.getD 165 undef = .int .i64 (p : Int) := dep 7 rfl
                            show Oper.wp _ _ Ac Wc K _
                            go_simp
                            refine (HMp.out Wc).mono ?_
                            rintro e w' ⟨rfl, hb'⟩
                            exact hK _ _ (.inr rfl) (bnext hI hb')
                          · intro L Ac Wc K hI hj hcl hsm dep hK
                            have t164 : Ac.tmps.getD 164 undef = .string mt := dep 6 rfl
                            have t166 : Ac.tmps.getD 166 undef = .string mt := dep 8 rfl
                            show Oper.wp _ _ Ac Wc K _
                            go_simp
                            exact hK _ _ (.inr rfl) hI
                          · intro L Ac Wc K hI hj hcl hsm dep hK
                            have t167 : Ac.tmps.getD 167 undef = .bool false := dep 9 rfl
                            show Oper.wp _ _ Ac Wc K _
                            go_simp
                            exact hK _ _ (.inr rfl) hI
                          · intro L Ac Wc K hI hj hcl hsm dep hK
                            have t14 : Ac.tmps.getD 14 undef = .int .i64 (r : Int) := hsm 14 rfl
                            refine ⟨false, (show Ac.tmps.getD 168 undef = .bool false from dep 10 rfl), ?_⟩
                            rw [if_pos rfl]
                            go_simp
                            exact hK _ _ (.inr rfl) hI
                          · intro L Ac Wc K hI hj hcl hsm dep hK
                            have t0 : Ac.tmps.getD 0 undef = .slice (some ⟨ab, 0, none⟩) t cap := hsm 0 rfl
                            refine ⟨false, (show Ac.tmps.getD 168 undef = .bool false from dep 10 rfl), ?_⟩
                            rw [if_pos rfl]
                            go_simp
                            exact hK _ _ (.inr rfl) hI
                          · intro L Ac Wc K hI hj hcl hsm dep hK
                            have t12 : Ac.tmps.getD 12 undef = .int .i64 (p : Int) := hsm 12 rfl
                            refine ⟨false, (show Ac.tmps.getD 168 undef = .bool false from dep 10 rfl), ?_⟩
                            rw [if_pos rfl]
                            go_simp
                            exact hK _ _ (.inr rfl) hI
                          · intro L Ac Wc K hI hj hcl hsm dep hK
                            have t170 : Ac.tmps.getD 170 undef = .slice (some ⟨ab, 0, none⟩) t cap := dep 12 rfl
                            have t171 : Ac.tmps.getD 171 undef = .int .i64 (p : Int) := dep 13 rfl
                            refine ⟨false, (show Ac.tmps.getD 168 undef = .bool false from dep 10 rfl), ?_⟩
                            rw [if_pos rfl]
                            go_simp
                            exact hK _ _ (.inr rfl) hI
                          · intro L Ac Wc K hI hj hcl hsm dep hK
                            have t172 : Ac.tmps.getD 172 undef = .pointer (some ⟨ab, p * 6, none⟩) := dep 14 rfl
                            refine ⟨false, (show Ac.tmps.getD 168 undef = .bool false from dep 10 rfl), ?_⟩
                            rw [if_pos rfl]
                            go_simp
                            exact hK _ _ (.inr rfl) hI
                          · intro L Ac Wc K hI hj hcl hsm dep hK
                            have t173 : Ac.tmps.getD 173 undef = .pointer (some ⟨ab, p * 6 + 5, none⟩) := dep 15 rfl
                            refine ⟨false, (show Ac.tmps.getD 168 undef = .bool false from dep 10 rfl), ?_⟩
                            rw [if_pos rfl]
                            obtain ⟨ca, cb, cc⟩ := HC.out Wc (hbr.trans (hI.mono hbr.size))
                            go_simp
                            exact hK _ _ (.inr rfl) hI
                          · intro L Ac Wc K hI hj hcl hsm dep hK
                            have t174 : Ac.tmps.getD 174 undef = .slice da ci dc := dep 16 rfl
                            refine ⟨false, (show Ac.tmps.getD 168 undef = .bool false from dep 10 rfl), ?_⟩
                            rw [if_pos rfl]
                            go_simp
                            exact hK _ _ (.inr rfl) hI
                          · intro L Ac Wc K hI hj hcl hsm dep hK
                            have t169 : Ac.tmps.getD 169 undef = .int .i64 (r : Int) := dep 11 rfl
                            have t175 : Ac.tmps.getD 175 undef = .int .i64 (ci : Int) := dep 17 rfl
                            refine ⟨false, (show Ac.tmps.getD 168 undef = .bool false from dep 10 rfl), ?_⟩
                            rw [if_pos rfl]
                            go_simp
                            exact hK _ _ (.inr rfl) hI
                          · intro L Ac Wc K hI hj hcl hsm dep hK
                            have t176 : Ac.tmps.getD 176 undef = .bool false := dep 18 rfl
                            refine ⟨false, (show Ac.tmps.getD 168 undef = .bool false from dep 10 rfl), ?_⟩
                            rw [if_pos rfl]
                            go_simp
                            exact hK _ _ (.inr rfl) hI
                          · intro L Ac Wc K hI hj hcl hsm dep hK
                            refine ⟨false, (show Ac.tmps.getD 177 undef = .bool false from dep 19 rfl), ?_⟩
                            rw [if_neg (by decide)]
                            exact hK _ _ (.inr rfl) hI
                          · intro L Ac Wc K hI hj hcl hsm dep hK
                            refine ⟨false, (show Ac.tmps.getD 177 undef = .bool false from dep 19 rfl), ?_⟩
                            rw [if_neg (by decide)]
                            exact hK _ _ (.inr rfl) hI
                          · intro L Ac Wc K hI hj hcl hsm dep hK
                            refine ⟨false, (show Ac.tmps.getD 177 undef = .bool false from dep 19 rfl), ?_⟩
                            rw [if_neg (by decide)]
                            exact hK _ _ (.inr rfl) hI
                          · intro L Ac Wc K hI hj hcl hsm dep hK
                            refine ⟨false, (show Ac.tmps.getD 177 undef = .bool false from dep 19 rfl), ?_⟩
                            rw [if_neg (by decide)]
                            exact hK _ _ (.inr rfl) hI
                          · intro L Ac Wc K hI hj hcl hsm dep hK
                            refine ⟨false, (show Ac.tmps.getD 177 undef = .bool false from dep 19 rfl), ?_⟩
                            rw [if_neg (by decide)]
                            exact hK _ _ (.inr rfl) hI
                          · intro L Ac Wc K hI hj hcl hsm dep hK
                            refine ⟨false, (show Ac.tmps.getD 177 undef = .bool false from dep 19 rfl), ?_⟩
                            rw [if_neg (by decide)]
                            exact hK _ _ (.inr rfl) hI
                          · intro L Ac Wc K hI hj hcl hsm dep hK
                            refine ⟨false, (show Ac.tmps.getD 177 undef = .bool false from dep 19 rfl), ?_⟩
                            rw [if_neg (by decide)]
                            exact hK _ _ (.inr rfl) hI
                          · intro L Ac Wc K hI hj hcl hsm dep hK
                            refine ⟨false, (show Ac.tmps.getD 177 undef = .bool false from dep 19 rfl), ?_⟩
                            rw [if_neg (by decide)]
                            exact hK _ _ (.inr rfl) hI
                          · intro L Ac Wc K hI hj hcl hsm dep hK
                            refine ⟨false, (show Ac.tmps.getD 177 undef = .bool false from dep 19 rfl), ?_⟩
                            rw [if_neg (by decide)]
                            exact hK _ _ (.inr rfl) hI
                          · intro L Ac Wc K hI hj hcl hsm dep hK
                            refine ⟨false, (show Ac.tmps.getD 177 undef = .bool false from dep 19 rfl), ?_⟩
                            rw [if_neg (by decide)]
                            exact hK _ _ (.inr rfl) hI
                          · intro L Ac Wc K hI hj hcl hsm dep hK
                            refine ⟨false, (show Ac.tmps.getD 177 undef = .bool false from dep 19 rfl), ?_⟩
                            rw [if_neg (by decide)]
                            exact hK _ _ (.inr rfl) hI
                          · intro L Ac Wc K hI hj hcl hsm dep hK
                            have t177 : Ac.tmps.getD 177 undef = .bool false := dep 19 rfl
                            have t188 : Ac.tmps.getD 188 undef = undef := dep 30 rfl
                            refine ⟨false, (show Ac.tmps.getD 168 undef = .bool false from dep 10 rfl), ?_⟩
                            rw [if_pos rfl]
                            go_simp
                            exact hK _ _ (.inr rfl) hI
                          · intro L Ac Wc K hI hj hcl hsm dep hK
                            have t168 : Ac.tmps.getD 168 undef = .bool false := dep 10 rfl
                            have t189 : Ac.tmps.getD 189 undef = .bool false := dep 31 rfl
                            show Oper.wp _ _ Ac Wc K _
                            go_simp
                            exact hK _ _ (.inr rfl) hI
                        case fin =>
                          intro L w4 hall hI
                          clear hall
                          simp only [puts]
                          go_simp
                          go_wp2
                          go_roundg (di - (r + 1))
                          case rel =>
                            go_light
                            exact ⟨r + 1, hrl, rfl, by go_num, hbr.trans (hI.mono hbr.size)⟩
                          case measure => go_light; omega
                    · obtain rfl : r = di := by omega
                      have hrz : ¬ ((r : Int) < (r : Int)) := by omega
                      clear qy hrl hr HU HD
                      go_wp2
                      go_roundg (t - (p + 1))
                      case rel =>
                        go_light
                        exact ⟨p + 1, HT.out, rfl, by go_num, hbr⟩
                      case measure => go_light; have := HT.out; omega
            · obtain rfl : p = t := by omega
              have hpz : ¬ ((p : Int) < (p : Int)) := by omega
              have hend : Below B w wr := HB3.out.trans (hb.mono (Nat.le_trans HL.out.2.2.2 HB3.out.size))
              clear hb hpl hp HI HL
              go_wp2
              go_ret
              exact ⟨rfl, hend⟩
end Go.Proofs.YtgmnolepaidiiaaDoor
