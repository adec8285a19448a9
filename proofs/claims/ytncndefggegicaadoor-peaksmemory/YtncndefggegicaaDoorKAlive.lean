/-
  The walk of alive: the chapter's first example. Own work.
-/
import Derived.Test.YtncndefggegicaaDoorKLaw
import Derived.Laws.StructEq
namespace Go.Proofs.YtncndefggegicaaDoor
open Go.RowKit
attribute [local go_sem ↓] Go.wp_at_zero Go.wp_at_succ
def aa : ByteArray := ⟨#[97, 97]⟩
def bb : ByteArray := ⟨#[98, 98]⟩
theorem fe_new : fe 2 0 [] = 0 := by decide
theorem fe_bad : fe 33 0 [] = 70 := by decide
theorem mk_aa (c : Nat) (a : ByteArray) : mk c 0 [] 0 a = ([a], [a]) := by
  have h : carry c (40 - 0) (0 / 2 ^ 0) [] a = ([a], [] ++ [a]) := carry_even (by decide)
  exact h
theorem mk_bb (c : Nat) (a b x : ByteArray) (hx : dg c (nodeT a b) = x) : mk c 1 [a] 0 b = ([b, x], [x]) := by
  have h : carry c (39 + 1) (1 / 2 ^ 0) [a] b = (b :: (carry c 39 (1 / 2 ^ 0 / 2) ([a].take ([a].length - 1)) x).1, (carry c 39 (1 / 2 ^ 0 / 2) ([a].take ([a].length - 1)) x).2) := carry_odd (by decide) hx
  have h2 : carry c 39 (1 / 2 ^ 0 / 2) ([a].take ([a].length - 1)) x = ([x], [a].take ([a].length - 1) ++ [x]) := carry_even (by decide)
  rw [h2] at h
  exact h
theorem add_aa : Hid (er 2 0 0 aa = 0 ∧ nxN 2 0 0 aa = 1 ∧ nxP 2 0 [] 0 aa = [aa] ∧ an 2 0 [] 0 aa = [aa]) := by
  have e : er 2 0 0 aa = 0 := by decide
  refine ⟨e, ?_, ?_, ?_⟩
  · rw [nxN, if_pos e]; rfl
  · rw [nxP, if_pos e]; exact congrArg Prod.snd (mk_aa (clk 2) aa)
  · rw [an, if_pos e]; exact congrArg Prod.fst (mk_aa (clk 2) aa)
theorem add_bb (x : ByteArray) (hx : dg (clk 2) (nodeT aa bb) = x) : Hid (er 2 1 0 bb = 0 ∧ nxN 2 1 0 bb = 2 ∧ nxP 2 1 [aa] 0 bb = [x] ∧ an 2 1 [aa] 0 bb = [bb, x]) := by
  have e : er 2 1 0 bb = 0 := by decide
  refine ⟨e, ?_, ?_, ?_⟩
  · rw [nxN, if_pos e]; rfl
  · rw [nxP, if_pos e]; exact congrArg Prod.snd (mk_bb (clk 2) aa bb x hx)
  · rw [an, if_pos e]; exact congrArg Prod.fst (mk_bb (clk 2) aa bb x hx)
theorem add_c (x : ByteArray) : Hid (er 2 2 0 ⟨#[99]⟩ = 90 ∧ nxN 2 2 0 ⟨#[99]⟩ = 2 ∧ nxP 2 2 [x] 0 ⟨#[99]⟩ = [x] ∧ an 2 2 [x] 0 ⟨#[99]⟩ = []) := by
  have e : er 2 2 0 ⟨#[99]⟩ = 90 := by decide
  refine ⟨e, ?_, ?_, ?_⟩
  · rw [nxN, if_neg (by rw [e]; decide)]
  · rw [nxP, if_neg (by rw [e]; decide)]
  · rw [an, if_neg (by rw [e]; decide)]
set_option maxRecDepth 100000 in
set_option maxHeartbeats 2000000 in
theorem alive_any (w : World) (ht : Tb w) : Calls Tryd.prog 9 #[] w fun e w' => e = .returned (.bool true) ∧ Below w.heap.size w w' := by
  obtain ⟨x, hx⟩ : ∃ x, dg (clk 2) (nodeT aa bb) = x := ⟨_, rfl⟩
  have zx : x.size = 2 := by rw [← hx, dg_size (clk_le 2)]; rfl
  obtain ⟨r, hr⟩ : ∃ r, Hid (rgD 2 2 [x] = r) := ⟨_, rfl⟩
  have H1 : Hid (∀ W, Calls Tryd.prog 18 #[.int .i64 2] W fun e w' => ∃ p v, e = .returned (.tuple #[.pointer (some ⟨p, 0, none⟩), .int .i64 0]) ∧ Rg w' p v 2 0 [] ∧ W.heap.size ≤ p ∧ Below W.heap.size W w') := fun W => (knew_any W 2 0 fe_new).mono fun e w' h => by
    obtain ⟨p, v, h1, h2, h3, _, h5⟩ := h.ok
    exact ⟨p, v, h1, h2, h3, h5⟩
  have H2 : Hid (∀ W, Calls Tryd.prog 18 #[.int .i64 33] W fun e w' => e = .returned (.tuple #[.pointer none, .int .i64 70]) ∧ Below W.heap.size W w') := fun W => (knew_any W 33 70 fe_bad).mono fun e w' h => h.no (by decide)
  have H3 : Hid (∀ W p v, Tb W → Rg W p v 2 0 [] → Calls Tryd.prog 15 #[.pointer (some ⟨p, 0, none⟩), .string ⟨#[97, 97]⟩] W fun e w' => ∃ vm v', e = .returned (.tuple #[vm, .int .i64 0]) ∧ Did W w' p v 2 1 [aa] vm [aa] v') := fun W p v h1 h2 => add_any W h1 p v 2 0 [] h2 aa 0 1 [aa] [aa] add_aa
  have H4 : Hid (∀ W p v, Tb W → Rg W p v 2 1 [aa] → Calls Tryd.prog 15 #[.pointer (some ⟨p, 0, none⟩), .string ⟨#[98, 98]⟩] W fun e w' => ∃ vm v', e = .returned (.tuple #[vm, .int .i64 0]) ∧ Did W w' p v 2 2 [x] vm [bb, x] v') := fun W p v h1 h2 => add_any W h1 p v 2 1 [aa] h2 bb 0 2 [x] [bb, x] (add_bb x hx)
  have H5 : Hid (∀ W p v, Tb W → Rg W p v 2 2 [x] → Calls Tryd.prog 15 #[.pointer (some ⟨p, 0, none⟩), .string ⟨#[99]⟩] W fun e w' => ∃ vm v', e = .returned (.tuple #[vm, .int .i64 90]) ∧ Did W w' p v 2 2 [x] vm [] v') := fun W p v h1 h2 => add_any W h1 p v 2 2 [x] h2 ⟨#[99]⟩ 90 2 [x] [] (add_c x)
  have H6 : Hid (∀ W, Tb W → Calls Tryd.prog 32 #[.int .i64 2, .string ⟨#[97, 97]⟩, .string ⟨#[98, 98]⟩] W fun e w' => e = .returned (.string x) ∧ Below W.heap.size W w') := fun W h => node_any W h 2 aa bb (by decide) (by decide) x hx
  have HRo0 : Hid (∀ W p v, Tb W → Rg W p v 2 2 [x] → Calls Tryd.prog 17 #[.pointer (some ⟨p, 0, none⟩)] W fun e w' => e = .returned (.agg #[.int .u64 2, .string r]) ∧ Below W.heap.size W w') := fun W p v h1 h2 => rroot_any W h1 p v 2 2 [x] h2 r hr
  have HRt0 : Hid (∀ W, Tb W → ∀ ao b cap, RdS W ao b 0 1 [x] → Calls Tryd.prog 33 #[.int .i64 2, .int .u64 2, .slice ao 1 cap] W fun e w' => e = .returned (.string r) ∧ Below W.heap.size W w') := fun W h ao b cap h1 =>
    root_any W h 2 2 ao b 0 1 cap [x] h1 (fun s hs => by simp at hs; subst hs; omega) (by decide) r hr.out
  have HZ : Hid (x.size ≤ 9223372036854775807) := by show _ ≤ _; omega
  have HX : Hid ((x.size : Int) = 2) := by show _ = _; omega
  have HX2 : Hid (x.size ≤ 140737488351232) := by show _ ≤ _; omega
  have HSm : Hid (∀ W u B, OwnS W B u [x] → Calls Tryd.prog 14 #[u, .slice (some ⟨W.heap.size, 0, none⟩) 1 1] (W.alloc (.cells #[.string x] 9)) fun e w' => e = .returned (.bool true) ∧ Below W.heap.size W w') := fun W u B h =>
    (same_own (W.alloc (.cells #[.string x] 9)) u (.slice (some ⟨W.heap.size, 0, none⟩) 1 1) B W.heap.size [x] (own_al h _) (own_one W x) (fun s hs => by rw [List.mem_singleton.1 hs]; omega) (by show 1 ≤ _; omega)).mono fun e w' h => ⟨h.1, bnext (bal (Below.refl _ _) _) h.2⟩
  have HT := hide ht
  clear hx hr zx ht
  go_enter Tryd.func9, Tryd.ntmps9
  go_upto_region 9 with (first
    | (go_at_call 18; with_reducible refine (H1.out _).mono ?_; rintro e w1 ⟨p, v1, rfl, hR1, hp1, hb1⟩; have T1 := HT.out.next hb1)
    | (go_at_call 15; with_reducible refine (H3.out _ _ _ T1 hR1).mono ?_; rintro e w2 ⟨va, v2, rfl, hD2⟩; obtain ⟨ga, ca, rfl, hga, _⟩ := own_form hD2.own (Nat.succ_pos _); have T2 := T1.ch hR1 hD2.ch)
    | (go_at_call 15; with_reducible refine (H4.out _ _ _ T2 hD2.rg).mono ?_; rintro e w3 ⟨vb, v3, rfl, hD3⟩; obtain ⟨gb, cb, rfl, hgb, _⟩ := own_form hD3.own (Nat.succ_pos _); have T3 := T2.ch hD2.rg hD3.ch)
    | (go_at_call 15; with_reducible refine (H5.out _ _ _ T3 hD3.rg).mono ?_; rintro e w4 ⟨vc, v4, rfl, hD4⟩; obtain ⟨ac, cc, rfl⟩ := own_slice hD4.own; have T4 := T3.ch hD3.rg hD4.ch)
    | (go_at_call 32; with_reducible refine (H6.out _ T4).mono ?_; rintro e w5 ⟨rfl, hb5⟩)
    | (go_at_call 18; with_reducible refine (H2.out _).mono ?_; rintro e w6 ⟨rfl, hb6⟩))
  have R6 : Rg w6 p v4 2 2 [x] := (hD4.rg.next hb5 (Nat.le_refl _)).next hb6 (Nat.le_refl _)
  have o6 : OwnS w6 w1.heap.size (.slice (some ⟨ga, 0, none⟩) 1 ca) [aa] := own_next (own_next (own_ch (own_ch hD2.own hD2.rg hD3.ch) hD3.rg hD4.ch) hb5 (Nat.le_refl _)) hb6 (Nat.le_refl _)
  have q6 : OwnS w6 w2.heap.size (.slice (some ⟨gb, 0, none⟩) 2 cb) [bb, x] := own_next (own_next (own_ch hD3.own hD3.rg hD4.ch) hb5 (Nat.le_refl _)) hb6 (Nat.le_refl _)
  have hB6 : Below w.heap.size w w6 := by
    have s1 : w.heap.size ≤ w1.heap.size := hb1.size
    have e2 : Below w.heap.size w1 w2 := hD2.ch.below.mono hp1
    have e3 : Below w.heap.size w2 w3 := hD3.ch.below.mono hp1
    have e4 : Below w.heap.size w3 w4 := hD4.ch.below.mono hp1
    have b4 := ((hb1.trans e2).trans e3).trans e4
    exact bnext (bnext b4 hb5) hb6
  have T6 : Tb w6 := HT.out.next hB6
  have HK : Hid (∀ W, Below w6.heap.size w6 W → Rg W p v4 2 2 [x] ∧ Below w.heap.size w W ∧ W.cell? ⟨ga, 0, none⟩ = some (.string ⟨#[97, 97]⟩) ∧ W.cell? ⟨gb, 1, none⟩ = some (.string x)) := fun W h =>
    ⟨R6.next h (Nat.le_refl _), bnext hB6 h, (own_cell (own_next o6 h (Nat.le_refl _)) (j := 0) (by decide)).1, (own_cell (own_next q6 h (Nat.le_refl _)) (j := 1) (Nat.lt_succ_self _)).1⟩
  have HRo : Hid (∀ W, Below w.heap.size w W → Rg W p v4 2 2 [x] → Calls Tryd.prog 17 #[.pointer (some ⟨p, 0, none⟩)] W fun e w' => e = .returned (.agg #[.int .u64 2, .string r]) ∧ Below W.heap.size W w') := fun W h1 h2 => HRo0.out W p v4 (HT.out.next h1) h2
  have HRt : Hid (∀ W, Below w.heap.size w W → ∀ ao b cap, RdS W ao b 0 1 [x] → Calls Tryd.prog 33 #[.int .i64 2, .int .u64 2, .slice ao 1 cap] W fun e w' => e = .returned (.string r) ∧ Below W.heap.size W w') := fun W h1 => HRt0.out W (HT.out.next h1)
  clear hb1 hb5 hb6 hD2 hD3 hD4 T1 T2 T3 T4 T6 R6 o6 q6 hB6 hR1 HRo0 HRt0 H1 H2 H3 H4 H5 H6
  have b0 := Below.refl w6.heap.size w6
  have ca0 := (HK.out _ b0).2.2.1
  have cb1 := (HK.out _ b0).2.2.2
  have zx := HX.out
  go_wp2_with (first
    | (go_at_call 16; with_reducible refine (size_any _ p v4 2 2 [x] (HK.out _ b0).1).mono ?_; rintro e w7 ⟨rfl, hb7⟩; replace b0 := bnext b0 hb7; clear hb7)
    | (go_at_call 13; with_reducible refine (rpeaks_own _ p v4 2 2 [x] (HK.out _ b0).1).mono ?_; rintro e w8 ⟨u, rfl, ho8, hb8⟩; replace b0 := bnext b0 hb8; clear hb8)
    | (go_at_call 14; with_reducible refine (HSm.out _ _ _ ho8).mono ?_; rintro e w9 ⟨rfl, hb9⟩; replace b0 := bnext b0 hb9; clear hb9)
    | (go_at_call 17; with_reducible refine (HRo.out _ (HK.out _ b0).2.1 (HK.out _ b0).1).mono ?_; rintro e w10 ⟨rfl, hb10⟩; replace b0 := bnext b0 hb10; clear hb10)
    | (go_at_call 33; with_reducible refine (HRt.out _ (HK.out _ (bal b0 _)).2.1 _ _ _ (rds_one _ x HZ.out)).mono ?_; rintro e w11 ⟨rfl, hb11⟩; replace b0 := bnext (bal b0 _) hb11; clear hb11))
  go_ret
  exact ⟨rfl, (HK.out _ b0).2.1⟩
end Go.Proofs.YtncndefggegicaaDoor
