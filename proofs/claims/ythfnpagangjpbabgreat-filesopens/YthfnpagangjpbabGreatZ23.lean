/-
  writeBehind, and Add's acts. Own work.
-/
import Derived.Test.YthfnpagangjpbabGreatZ20
import Derived.Test.YthfnpagangjpbabGreatZ17
namespace Go.Proofs.YthfnpagangjpbabGreat
open Go.RowKit
open Rc
attribute [local go_sem ↓] Go.wp_at_zero Go.wp_at_succ
section
variable {q p : Nat} {T : Nat → Prop} {D : DV} {S : SV}
theorem SkM.cell {w W : World} {D' : DV} {S' : SV} (h : SkM w W q p T D' S') {b i : Nat} {v : Value} (hc : w.cell? ⟨b, i, none⟩ = some v) (hT : ¬ T b) : W.cell? ⟨b, i, none⟩ = some v := by
  obtain ⟨T', _, _, h3⟩ := h
  exact (World.cell?_of_block (a := ⟨b, i, none⟩) (h3.block b (World.block_lt_of_cell? _ _ hc) hT)).trans hc
theorem skm_join {w w1 w2 : World} {T1 : Nat → Prop} {D2 : DV} {S2 : SV} (a2 : ∀ x, T1 x → T x ∨ w.heap.size ≤ x) (a3 : Upo T w w1) (h : SkM w1 w2 q p T1 D2 S2) : SkM w w2 q p T D2 S2 := by
  obtain ⟨T2, b1, b2, b3⟩ := h
  refine ⟨T2, b1, fun x hx => ?_, a3.trans b3 (fun x hx ht => ?_)⟩
  · rcases b2 x hx with e | e
    · exact a2 x e
    · exact .inr (Nat.le_trans a3.size e)
  · rcases a2 x ht with e | e
    · exact e
    · omega
/-- It is lame from now on. -/
theorem SkM.limp {w W : World} {D' : DV} (h : SkM w W q p T D' S) : (W.cell? ⟨q, 4, none⟩ = some (.bool S.lame) ∧ W.frozen? ⟨q, 4, none⟩ = false) ∧ SkM w (W.setCell ⟨q, 4, none⟩ (.bool true)) q p T D' { S with lame := true } := by
  obtain ⟨T', ⟨S0, v, d1, d2, d3, d4, d5⟩, h2, h3⟩ := h
  refine ⟨⟨(five_at d2.blk).2.2.2.2, frozen_of_row W q 4 _ _ d2.blk⟩, T', ⟨S0, v, ?_, ⟨heap_setCell_same W q 4 _ _ _ d2.blk, row_keep d2.own (fun g hg => Below.heap_setCell _ _ _ _ (d4 g hg).1), d2.k1, d2.k2, d2.few, d2.low⟩, d3, d4, d5⟩, h2, h3.set q 4 _ ?_⟩
  · exact d1.same (fun x hx => Below.heap_setCell _ _ _ _ (fun e => d3 (show S0 q from (show x = q from e) ▸ hx)))
  · exact h2 q ((d5 q).2 (.inr (.inl rfl)))
theorem bdz (w : World) : Below w.heap.size w w.drew := bdw (Below.refl _ _)
set_option maxRecDepth 100000 in
theorem wb_any (w : World) (h : Sk w q p T D S) (hr : Rmy D) (s t : ByteArray) (hs : s.size ≤ maxLen) (ht : t.size ≤ 140737488355328) (n : Nat) (hn : n ≤ 9223372036854775807) (HL : Hid (∀ W, Sk W q p T D S → Calls Tryz.prog 57 #[.pointer (some ⟨q, 0, none⟩), .string s] W fun e w' => e = .returned (.int .i64 (n : Int)) ∧ w' = W)) (D' : DV) (r : Int) (hD : wrD D s.data.toList (n : Int) t.data.toList = (D', r)) :
    Calls Tryz.prog 60 #[.pointer (some ⟨q, 0, none⟩), .string s, .string t] w fun e w' => e = .returned (.int .i64 r) ∧ SkM w w' q p T D' S := by
  have HW : Hid (∀ W, Sk W q p T D S → Below w.heap.size w W → Calls Tryz.prog 107 #[.pointer (some ⟨p, 0, none⟩), .string s, .int .i64 (n : Int), .string t] W fun e w' => e = .returned (.int .i64 r) ∧ SkM w w' q p T D' S) := fun W hW hb => by
    have := hW.write hr s t hs n (by omega) (by omega) ht
    rw [hD] at this
    exact this.mono fun e w' z => ⟨z.1, z.2.first hb⟩
  have HC : Hid (∀ W, Sk W q p T D S → W.cell? ⟨q, 0, none⟩ = some (.pointer (some ⟨p, 0, none⟩))) := fun W hW => by
    obtain ⟨_, _, ⟨c0, _⟩, _⟩ := hW.cells
    exact c0
  have HC3 : Hid (∀ W, SkM w W q p T D' S → W.cell? ⟨q, 0, none⟩ = some (.pointer (some ⟨p, 0, none⟩))) := fun W hW => by
    obtain ⟨T', hW, _⟩ := hW
    obtain ⟨_, _, ⟨c0, _⟩, _⟩ := hW.cells
    exact c0
  have tw := h.next (bdz w)
  have ub := bdz w
  have c0 := HC.out _ h
  clear h hr hs ht hn hD
  go_enter Tryz.func60, Tryz.ntmps60
  go_upto_region 1 with (fail)
  go_region_held3 (fun Z => Z.cell? ⟨q, 0, none⟩ = some (.pointer (some ⟨p, 0, none⟩))) (first | assumption | (with_reducible exact HC3.out _ t3) | (with_reducible exact HC.out _ tw)) (first
    | (go_at_call 57; (with_reducible refine (HL.out _ tw).mono ?_); rintro e w2 ⟨rfl, rfl⟩)
    | (go_at_call 107; (with_reducible refine (HW.out _ tw ub).mono ?_); rintro e w3 ⟨rfl, t3⟩))
  all_goals
    go_wp2
    go_ret
    exact ⟨rfl, t3⟩
theorem join_any (w : World) (ao : Option Addr) (b off len cap : Nat) (ss : List ByteArray) (hr : RdS w ao b off len ss) (hc : len ≤ cap) (hl : len ≤ 1000) (hf : (flat ss).length ≤ 140737488355328) :
    Calls Tryz.prog 62 #[.slice ao len cap, .string ⟨#[]⟩] w fun e w' => e = .returned (.string (tx (flat ss))) ∧ Below w.heap.size w w' := by
  have hj : Lib.join (ss.map (·.data.toList)) [] = flat ss := by
    cases ss with
    | nil => rfl
    | cons d r => rw [List.map_cons, Lib.join_cons]; simp [Lib.joinTail, flat]; rfl
  by_cases h0 : 0 < len
  · obtain rfl := hr.ptr h0
    have hlen := hr.hl
    subst hlen
    have := Tryz.strings_Join b off cap ss ⟨#[]⟩ w (fun j x hx => hr.rng j _ (by rw [List.getElem?_map, hx]; rfl)) (hr.lt h0) (by omega) hc (by rw [show (ByteArray.mk #[]).data.toList = [] from rfl, hj]; exact hf)
    rw [show (ByteArray.mk #[]).data.toList = [] from rfl, hj] at this
    exact this
  · obtain rfl : len = 0 := by omega
    have : ss = [] := List.length_eq_zero_iff.1 hr.hl
    subst this
    exact (Tryz.strings_Join_none ao cap ⟨#[]⟩ w).mono fun e w' h => ⟨h.1, by rw [h.2]; exact Below.refl _ _⟩
set_option maxRecDepth 100000 in
theorem act1_any (w : World) (h : Sk w q p T D S) (hr : Rmy D) (bs bp : Nat) (hcs : w.cell? ⟨bs, 0, none⟩ = some (.pointer (some ⟨q, 0, none⟩))) (t : ByteArray) (hcp : w.cell? ⟨bp, 0, none⟩ = some (.string t)) (ht : t.size ≤ 140737488355328) (D' : DV) (r : Int) (hD : wrD D nmI (lst S.ends : Int) t.data.toList = (D', r)) :
    Calls Tryz.prog 59 #[.pointer (some ⟨bs, 0, none⟩), .pointer (some ⟨bp, 0, none⟩)] w fun e w' => e = .returned (.int .i64 r) ∧ SkM w w' q p T D' S := by
  have HW := hide (wb_any w h hr ⟨#[105, 116, 101, 109, 115]⟩ t (by decide) ht (lst S.ends) (by have := h.small.2.2.2.2.2; omega) (fun W hW => length_items W hW) D' r hD)
  clear h hr hD
  go_enter Tryz.func59, Tryz.ntmps59
  go_wp2_with (go_at_call 60; refine HW.out.mono ?_; rintro e w1 ⟨rfl, t1⟩)
  go_ret
  exact ⟨rfl, t1⟩
set_option maxRecDepth 100000 in
theorem act2_any (w : World) (h : Sk w q p T D S) (hr : Rmy D) (bs br : Nat) (hcs : w.cell? ⟨bs, 0, none⟩ = some (.pointer (some ⟨q, 0, none⟩))) (ao : Option Addr) (b off len cap : Nat) (ss : List ByteArray) (hcr : w.cell? ⟨br, 0, none⟩ = some (.slice ao len cap)) (hrd : RdS w ao b off len ss) (hc : len ≤ cap) (hl : len ≤ 1000) (hf : (flat ss).length ≤ 1000000) (ns : ¬ T bs) (nr : ¬ T br) (D' : DV) (r : Int) (hD : wrD D nmN ((nn S.ends.length * 40 : Nat) : Int) (flat ss) = (D', r)) :
    Calls Tryz.prog 61 #[.pointer (some ⟨bs, 0, none⟩), .pointer (some ⟨br, 0, none⟩)] w fun e w' => e = .returned (.int .i64 r) ∧ SkM w w' q p T D' S := by
  have HJ : Hid (∀ W, Below w.heap.size w W → Calls Tryz.prog 62 #[.slice ao len cap, .string ⟨#[]⟩] W fun e w' => e = .returned (.string (tx (flat ss))) ∧ Below w.heap.size w w') := fun W hW => (join_any W ao b off len cap ss (hrd.next hW (Nat.le_refl _)) hc hl (by omega)).mono fun e w' z => ⟨z.1, bnext hW z.2⟩
  have HW : Hid (∀ W, Below w.heap.size w W → Calls Tryz.prog 60 #[.pointer (some ⟨q, 0, none⟩), .string ⟨#[110, 111, 100, 101, 115]⟩, .string (tx (flat ss))] W fun e w' => e = .returned (.int .i64 r) ∧ SkM w w' q p T D' S) := fun W hW =>
    (wb_any W (h.next hW) hr ⟨#[110, 111, 100, 101, 115]⟩ (tx (flat ss)) (by decide) (by rw [tx_size]; omega) (nn S.ends.length * 40) (by have := nn_le S.ends.length; have := h.small.2.2.1; omega) (fun W hW => length_nodes W hW) D' r hD).mono fun e w' z => ⟨z.1, z.2.first hW⟩
  have HC : Hid (∀ W, Below w.heap.size w W → W.cell? ⟨bs, 0, none⟩ = some (.pointer (some ⟨q, 0, none⟩)) ∧ W.cell? ⟨br, 0, none⟩ = some (.slice ao len cap)) := fun W hW => ⟨(hW.cell (p := ⟨bs, 0, none⟩) (World.block_lt_of_cell? _ _ hcs)).trans hcs, (hW.cell (p := ⟨br, 0, none⟩) (World.block_lt_of_cell? _ _ hcr)).trans hcr⟩
  have HC3 : Hid (∀ W, SkM w W q p T D' S → W.cell? ⟨bs, 0, none⟩ = some (.pointer (some ⟨q, 0, none⟩)) ∧ W.cell? ⟨br, 0, none⟩ = some (.slice ao len cap)) := fun W hW => ⟨hW.cell hcs ns, hW.cell hcr nr⟩
  have u := bdz w
  clear h hr hD hrd hc hl hf
  go_enter Tryz.func61, Tryz.ntmps61
  go_upto_region 1 with (fail)
  go_region_held3 (fun Z => Z.cell? ⟨bs, 0, none⟩ = some (.pointer (some ⟨q, 0, none⟩)) ∧ Z.cell? ⟨br, 0, none⟩ = some (.slice ao len cap)) (first | assumption | (with_reducible exact HC3.out _ t3) | (with_reducible exact HC.out _ u)) (first
    | (go_at_call 62; (with_reducible refine (HJ.out _ u).mono ?_); rintro e w2 ⟨rfl, u⟩)
    | (go_at_call 60; (with_reducible refine (HW.out _ u).mono ?_); rintro e w3 ⟨rfl, t3⟩))
  all_goals
    go_wp2
    go_ret
    exact ⟨rfl, t3⟩
set_option maxRecDepth 100000 in
theorem act5_any (w : World) (h : Sk w q p T D S) (hr : Rmy D) (bs bm : Nat) (hcs : w.cell? ⟨bs, 0, none⟩ = some (.pointer (some ⟨q, 0, none⟩))) (m : MV) (h1 : m.size < 18446744073709551616) (h2 : m.items < 18446744073709551616) (h3 : m.nodes < 18446744073709551616) (hcm : w.cell? ⟨bm, 0, none⟩ = some (.int .i64 m.k) ∧ w.cell? ⟨bm, 1, none⟩ = some (.int .u64 (m.size : Int)) ∧ w.cell? ⟨bm, 2, none⟩ = some (.int .u64 (m.items : Int)) ∧ w.cell? ⟨bm, 3, none⟩ = some (.int .u64 (m.nodes : Int)) ∧ w.cell? ⟨bm, 4, none⟩ = some (.int .u32 (m.chain.toNat : Int))) (ns : ¬ T bs) (nm : ¬ T bm) (D' : DV) (r : Int) (hD : wrD D nmM ((S.ends.length * 64 : Nat) : Int) (mrk m) = (D', r)) :
    Calls Tryz.prog 66 #[.pointer (some ⟨bs, 0, none⟩), .pointer (some ⟨bm, 0, none⟩)] w fun e w' => e = .returned (.int .i64 r) ∧ SkM w w' q p T D' S := by
  obtain ⟨m0, m1, m2, m3, m4⟩ := hcm
  have HJ : Hid (∀ W, Below w.heap.size w W → Calls Tryz.prog 67 #[.agg #[.int .i64 m.k, .int .u64 (m.size : Int), .int .u64 (m.items : Int), .int .u64 (m.nodes : Int), .int .u32 (m.chain.toNat : Int)]] W fun e w' => e = .returned (.string (tx (mrk m))) ∧ Below w.heap.size w w') := fun W hW => (mark_any W m h1 h2 h3 (tx (mrk m)) rfl).mono fun e w' z => ⟨z.1, bnext hW z.2⟩
  have hml : (mrk m).length ≤ 64 := by
    unfold mrk
    split
    · rw [sld_len, bodyM_len]; omega
    · simp
  have HW : Hid (∀ W, Below w.heap.size w W → Calls Tryz.prog 60 #[.pointer (some ⟨q, 0, none⟩), .string ⟨#[109, 97, 114, 107, 115]⟩, .string (tx (mrk m))] W fun e w' => e = .returned (.int .i64 r) ∧ SkM w w' q p T D' S) := fun W hW =>
    (wb_any W (h.next hW) hr ⟨#[109, 97, 114, 107, 115]⟩ (tx (mrk m)) (by decide) (by rw [tx_size]; omega) (S.ends.length * 64) (by have := h.small.2.2.1; omega) (fun W hW => length_marks W hW) D' r hD).mono fun e w' z => ⟨z.1, z.2.first hW⟩
  have up : ∀ {b i : Nat} {v : Value} {W : World}, w.cell? ⟨b, i, none⟩ = some v → Below w.heap.size w W → W.cell? ⟨b, i, none⟩ = some v := fun {b i v W} hc hW => (hW.cell (p := ⟨b, i, none⟩) (World.block_lt_of_cell? _ _ hc)).trans hc
  have HC : Hid (∀ W, Below w.heap.size w W → W.cell? ⟨bs, 0, none⟩ = some (.pointer (some ⟨q, 0, none⟩)) ∧ W.cell? ⟨bm, 0, none⟩ = some (.int .i64 m.k) ∧ W.cell? ⟨bm, 1, none⟩ = some (.int .u64 (m.size : Int)) ∧ W.cell? ⟨bm, 2, none⟩ = some (.int .u64 (m.items : Int)) ∧ W.cell? ⟨bm, 3, none⟩ = some (.int .u64 (m.nodes : Int)) ∧ W.cell? ⟨bm, 4, none⟩ = some (.int .u32 (m.chain.toNat : Int))) := fun W hW => ⟨up hcs hW, up m0 hW, up m1 hW, up m2 hW, up m3 hW, up m4 hW⟩
  have HC3 : Hid (∀ W, SkM w W q p T D' S → W.cell? ⟨bs, 0, none⟩ = some (.pointer (some ⟨q, 0, none⟩)) ∧ W.cell? ⟨bm, 0, none⟩ = some (.int .i64 m.k) ∧ W.cell? ⟨bm, 1, none⟩ = some (.int .u64 (m.size : Int)) ∧ W.cell? ⟨bm, 2, none⟩ = some (.int .u64 (m.items : Int)) ∧ W.cell? ⟨bm, 3, none⟩ = some (.int .u64 (m.nodes : Int)) ∧ W.cell? ⟨bm, 4, none⟩ = some (.int .u32 (m.chain.toNat : Int))) := fun W hW => ⟨hW.cell hcs ns, hW.cell m0 nm, hW.cell m1 nm, hW.cell m2 nm, hW.cell m3 nm, hW.cell m4 nm⟩
  have u := bdz w
  clear h hr hD up hml h1 h2 h3
  obtain ⟨mk, ma, mb, mc, md⟩ := m
  simp only at *
  generalize tx (mrk ⟨mk, ma, mb, mc, md⟩) = tm at *
  generalize md.toNat = mdn at *
  go_enter Tryz.func66, Tryz.ntmps66
  go_upto_region 1 with (fail)
  go_region_held3 (fun Z => Z.cell? ⟨bs, 0, none⟩ = some (.pointer (some ⟨q, 0, none⟩)) ∧ Z.cell? ⟨bm, 0, none⟩ = some (.int .i64 mk) ∧ Z.cell? ⟨bm, 1, none⟩ = some (.int .u64 (ma : Int)) ∧ Z.cell? ⟨bm, 2, none⟩ = some (.int .u64 (mb : Int)) ∧ Z.cell? ⟨bm, 3, none⟩ = some (.int .u64 (mc : Int)) ∧ Z.cell? ⟨bm, 4, none⟩ = some (.int .u32 (mdn : Int))) (first | assumption | (with_reducible exact HC3.out _ t3) | (with_reducible exact HC.out _ u)) (first
    | (go_at_call 67; (with_reducible refine (HJ.out _ u).mono ?_); rintro e w2 ⟨rfl, u⟩)
    | (go_at_call 60; (with_reducible refine (HW.out _ u).mono ?_); rintro e w3 ⟨rfl, t3⟩))
  all_goals
    go_wp2
    go_ret
    exact ⟨rfl, t3⟩
set_option maxRecDepth 100000 in
theorem act3_any (w : World) (h : Sk w q p T D S) (hr : Rmy D) (bs : Nat) (hcs : w.cell? ⟨bs, 0, none⟩ = some (.pointer (some ⟨q, 0, none⟩))) (D' : DV) (r : Int) (hD : synD D nmI = (D', r)) :
    Calls Tryz.prog 63 #[.pointer (some ⟨bs, 0, none⟩)] w fun e w' => e = .returned (.int .i64 r) ∧ SkM w w' q p T D' S := by
  have HW : Hid (Calls Tryz.prog 64 #[.pointer (some ⟨p, 0, none⟩), .string ⟨#[105, 116, 101, 109, 115]⟩] w fun e w' => e = .returned (.int .i64 r) ∧ SkM w w' q p T D' S) := by
    have := h.sync hr ⟨#[105, 116, 101, 109, 115]⟩ (by decide)
    rw [show (ByteArray.mk #[105, 116, 101, 109, 115]).data.toList = nmI from rfl, hD] at this
    exact this
  obtain ⟨_, _, ⟨c0, _⟩, _⟩ := h.cells
  clear h hr hD
  go_enter Tryz.func63, Tryz.ntmps63
  go_wp2_with (go_at_call 64; refine HW.out.mono ?_; rintro e w1 ⟨rfl, t1⟩)
  go_ret
  exact ⟨rfl, t1⟩
set_option maxRecDepth 100000 in
theorem act4_any (w : World) (h : Sk w q p T D S) (hr : Rmy D) (bs : Nat) (hcs : w.cell? ⟨bs, 0, none⟩ = some (.pointer (some ⟨q, 0, none⟩))) (D' : DV) (r : Int) (hD : synD D nmN = (D', r)) :
    Calls Tryz.prog 65 #[.pointer (some ⟨bs, 0, none⟩)] w fun e w' => e = .returned (.int .i64 r) ∧ SkM w w' q p T D' S := by
  have HW : Hid (Calls Tryz.prog 64 #[.pointer (some ⟨p, 0, none⟩), .string ⟨#[110, 111, 100, 101, 115]⟩] w fun e w' => e = .returned (.int .i64 r) ∧ SkM w w' q p T D' S) := by
    have := h.sync hr ⟨#[110, 111, 100, 101, 115]⟩ (by decide)
    rw [show (ByteArray.mk #[110, 111, 100, 101, 115]).data.toList = nmN from rfl, hD] at this
    exact this
  obtain ⟨_, _, ⟨c0, _⟩, _⟩ := h.cells
  clear h hr hD
  go_enter Tryz.func65, Tryz.ntmps65
  go_wp2_with (go_at_call 64; refine HW.out.mono ?_; rintro e w1 ⟨rfl, t1⟩)
  go_ret
  exact ⟨rfl, t1⟩
set_option maxRecDepth 100000 in
theorem act6_any (w : World) (h : Sk w q p T D S) (hr : Rmy D) (bs : Nat) (hcs : w.cell? ⟨bs, 0, none⟩ = some (.pointer (some ⟨q, 0, none⟩))) (D' : DV) (r : Int) (hD : synD D nmM = (D', r)) :
    Calls Tryz.prog 68 #[.pointer (some ⟨bs, 0, none⟩)] w fun e w' => e = .returned (.int .i64 r) ∧ SkM w w' q p T D' S := by
  have HW : Hid (Calls Tryz.prog 64 #[.pointer (some ⟨p, 0, none⟩), .string ⟨#[109, 97, 114, 107, 115]⟩] w fun e w' => e = .returned (.int .i64 r) ∧ SkM w w' q p T D' S) := by
    have := h.sync hr ⟨#[109, 97, 114, 107, 115]⟩ (by decide)
    rw [show (ByteArray.mk #[109, 97, 114, 107, 115]).data.toList = nmM from rfl, hD] at this
    exact this
  obtain ⟨_, _, ⟨c0, _⟩, _⟩ := h.cells
  clear h hr hD
  go_enter Tryz.func68, Tryz.ntmps68
  go_wp2_with (go_at_call 64; refine HW.out.mono ?_; rintro e w1 ⟨rfl, t1⟩)
  go_ret
  exact ⟨rfl, t1⟩
end
end Go.Proofs.YthfnpagangjpbabGreat
