/-
  Own work: FWalkG, FWalkF.
-/
import Derived.Test.YthfnpagangjpbabGreatV15
import Derived.Test.YthfnpagangjpbabGreatV17
import Derived.Test.YthfnpagangjpbabGreatV20
namespace Go.Proofs.YthfnpagangjpbabGreat
open Go.RowKit
open Rc
attribute [local go_sem ↓] Go.wp_at_zero Go.wp_at_succ
section
variable {q p : Nat} {T : Nat → Prop} {D : DV} {S : SV}
theorem SkM.cell {w W : World} {D' : DV} {S' : SV} (h : SkM w W q p T D' S') {b i : Nat} {v : Value} (hc : w.cell? ⟨b, i, none⟩ = some v) (hT : ¬ T b) : W.cell? ⟨b, i, none⟩ = some v := by
  obtain ⟨T', _, _, h3⟩ := h
  exact (World.cell?_of_block (a := ⟨b, i, none⟩) (h3.block b (World.block_lt_of_cell? _ _ hc) hT)).trans hc
theorem skm_join {w w1 w2 : World} {T1 : Nat → Prop} {D2 : DV} {S2 : SV} (a2 : ∀ x, T1 x → T x ∨ w.heap.size ≤ x) (a3 : Upo T w w1) (h : SkM w1 w2 q p T1 D2 S2) : SkM w w2 q p T D2 S2 := by
  obtain ⟨T2, b1, b2, b3⟩ := h
  refine ⟨T2, b1, fun x hx => ?_, a3.trans b3 (fun x hx ht => ?_)⟩
  · rcases b2 x hx with e | e
    · exact a2 x e
    · exact .inr (Nat.le_trans a3.size e)
  · rcases a2 x ht with e | e
    · exact e
    · omega
theorem SkM.limp {w W : World} {D' : DV} (h : SkM w W q p T D' S) : (W.cell? ⟨q, 4, none⟩ = some (.bool S.lame) ∧ W.frozen? ⟨q, 4, none⟩ = false) ∧ SkM w (W.setCell ⟨q, 4, none⟩ (.bool true)) q p T D' { S with lame := true } := by
  obtain ⟨T', ⟨S0, v, d1, d2, d3, d4, d5⟩, h2, h3⟩ := h
  refine ⟨⟨(five_at d2.blk).2.2.2.2, frozen_of_row W q 4 _ _ d2.blk⟩, T', ⟨S0, v, ?_, ⟨heap_setCell_same W q 4 _ _ _ d2.blk, row_keep d2.own (fun g hg => Below.heap_setCell _ _ _ _ (d4 g hg).1), d2.k1, d2.k2, d2.few, d2.low⟩, d3, d4, d5⟩, h2, h3.set q 4 _ ?_⟩
  · exact d1.same (fun x hx => Below.heap_setCell _ _ _ _ (fun e => d3 (show S0 q from (show x = q from e) ▸ hx)))
  · exact h2 q ((d5 q).2 (.inr (.inl rfl)))
theorem bdz (w : World) : Below w.heap.size w w.drew := bdw (Below.refl _ _)
set_option maxRecDepth 100000 in
theorem wb_any (w : World) (h : Sk w q p T D S) (hr : Rmy D) (s t : ByteArray) (hs : s.size ≤ maxLen) (ht : t.size ≤ 140737488355328) (n : Nat) (hn : n ≤ 9223372036854775807) (HL : Hid (∀ W, Sk W q p T D S → Calls Tryz.prog 57 #[.pointer (some ⟨q, 0, none⟩), .string s] W fun e w' => e = .returned (.int .i64 (n : Int)) ∧ w' = W)) (D' : DV) (r : Int) (hD : wrD D s.data.toList (n : Int) t.data.toList = (D', r)) :
    Calls Tryz.prog 60 #[.pointer (some ⟨q, 0, none⟩), .string s, .string t] w fun e w' => e = .returned (.int .i64 r) ∧ SkM w w' q p T D' S := by
  have HW : Hid (∀ W, Sk W q p T D S → Below w.heap.size w W → Calls Tryz.prog 107 #[.pointer (some ⟨p, 0, none⟩), .string s, .int .i64 (n : Int), .string t] W fun e w' => e = .returned (.int .i64 r) ∧ SkM w w' q p T D' S) := fun W hW hb => by
    have := hW.write hr s t hs n (by omega) (by omega) ht
    rw [hD] at this
    exact this.mono fun e w' z => ⟨z.1, z.2.first hb⟩
  have HC : Hid (∀ W, Sk W q p T D S → W.cell? ⟨q, 0, none⟩ = some (.pointer (some ⟨p, 0, none⟩))) := fun W hW => by
    obtain ⟨_, _, ⟨c0, _⟩, _⟩ := hW.cells
    exact c0
  have HC3 : Hid (∀ W, SkM w W q p T D' S → W.cell? ⟨q, 0, none⟩ = some (.pointer (some ⟨p, 0, none⟩))) := fun W hW => by
    obtain ⟨T', hW, _⟩ := hW
    obtain ⟨_, _, ⟨c0, _⟩, _⟩ := hW.cells
    exact c0
  have tw := h.next (bdz w)
  have ub := bdz w
  have c0 := HC.out _ h
  clear h hr hs ht hn hD
  go_enter Tryz.func60, Tryz.ntmps60
  go_upto_region 1 with (fail)
  go_region_held3 (fun Z => Z.cell? ⟨q, 0, none⟩ = some (.pointer (some ⟨p, 0, none⟩))) (first | assumption | (with_reducible exact HC3.out _ t3) | (with_reducible exact HC.out _ tw)) (first
    | (go_at_call 57; (with_reducible refine (HL.out _ tw).mono ?_); rintro e w2 ⟨rfl, rfl⟩)
    | (go_at_call 107; (with_reducible refine (HW.out _ tw ub).mono ?_); rintro e w3 ⟨rfl, t3⟩))
  all_goals
    go_wp2
    go_ret
    exact ⟨rfl, t3⟩
theorem join_any (w : World) (ao : Option Addr) (b off len cap : Nat) (ss : List ByteArray) (hr : RdS w ao b off len ss) (hc : len ≤ cap) (hl : len ≤ 1000) (hf : (flat ss).length ≤ 140737488355328) :
    Calls Tryz.prog 62 #[.slice ao len cap, .string ⟨#[]⟩] w fun e w' => e = .returned (.string (tx (flat ss))) ∧ Below w.heap.size w w' := by
  have hj : Lib.join (ss.map (·.data.toList)) [] = flat ss := by
    cases ss with
    | nil => rfl
    | cons d r => rw [List.map_cons, Lib.join_cons]; simp [Lib.joinTail, flat]; rfl
  by_cases h0 : 0 < len
  · obtain rfl := hr.ptr h0
    have hlen := hr.hl
    subst hlen
    have := Tryz.strings_Join b off cap ss ⟨#[]⟩ w (fun j x hx => hr.rng j _ (by rw [List.getElem?_map, hx]; rfl)) (hr.lt h0) (by omega) hc (by rw [show (ByteArray.mk #[]).data.toList = [] from rfl, hj]; exact hf)
    rw [show (ByteArray.mk #[]).data.toList = [] from rfl, hj] at this
    exact this
  · obtain rfl : len = 0 := by omega
    have : ss = [] := List.length_eq_zero_iff.1 hr.hl
    subst this
    exact (Tryz.strings_Join_none ao cap ⟨#[]⟩ w).mono fun e w' h => ⟨h.1, by rw [h.2]; exact Below.refl _ _⟩
set_option maxRecDepth 100000 in
theorem act1_any (w : World) (h : Sk w q p T D S) (hr : Rmy D) (bs bp : Nat) (hcs : w.cell? ⟨bs, 0, none⟩ = some (.pointer (some ⟨q, 0, none⟩))) (t : ByteArray) (hcp : w.cell? ⟨bp, 0, none⟩ = some (.string t)) (ht : t.size ≤ 140737488355328) (D' : DV) (r : Int) (hD : wrD D nmI (lst S.ends : Int) t.data.toList = (D', r)) :
    Calls Tryz.prog 59 #[.pointer (some ⟨bs, 0, none⟩), .pointer (some ⟨bp, 0, none⟩)] w fun e w' => e = .returned (.int .i64 r) ∧ SkM w w' q p T D' S := by
  have HW := hide (wb_any w h hr ⟨#[105, 116, 101, 109, 115]⟩ t (by decide) ht (lst S.ends) (by have := h.small.2.2.2.2.2; omega) (fun W hW => length_items W hW) D' r hD)
  clear h hr hD
  go_enter Tryz.func59, Tryz.ntmps59
  go_wp2_with (go_at_call 60; refine HW.out.mono ?_; rintro e w1 ⟨rfl, t1⟩)
  go_ret
  exact ⟨rfl, t1⟩
set_option maxRecDepth 100000 in
theorem act2_any (w : World) (h : Sk w q p T D S) (hr : Rmy D) (bs br : Nat) (hcs : w.cell? ⟨bs, 0, none⟩ = some (.pointer (some ⟨q, 0, none⟩))) (ao : Option Addr) (b off len cap : Nat) (ss : List ByteArray) (hcr : w.cell? ⟨br, 0, none⟩ = some (.slice ao len cap)) (hrd : RdS w ao b off len ss) (hc : len ≤ cap) (hl : len ≤ 1000) (hf : (flat ss).length ≤ 1000000) (ns : ¬ T bs) (nr : ¬ T br) (D' : DV) (r : Int) (hD : wrD D nmN ((nn S.ends.length * 40 : Nat) : Int) (flat ss) = (D', r)) :
    Calls Tryz.prog 61 #[.pointer (some ⟨bs, 0, none⟩), .pointer (some ⟨br, 0, none⟩)] w fun e w' => e = .returned (.int .i64 r) ∧ SkM w w' q p T D' S := by
  have HJ : Hid (∀ W, Below w.heap.size w W → Calls Tryz.prog 62 #[.slice ao len cap, .string ⟨#[]⟩] W fun e w' => e = .returned (.string (tx (flat ss))) ∧ Below w.heap.size w w') := fun W hW => (join_any W ao b off len cap ss (hrd.next hW (Nat.le_refl _)) hc hl (by omega)).mono fun e w' z => ⟨z.1, bnext hW z.2⟩
  have HW : Hid (∀ W, Below w.heap.size w W → Calls Tryz.prog 60 #[.pointer (some ⟨q, 0, none⟩), .string ⟨#[110, 111, 100, 101, 115]⟩, .string (tx (flat ss))] W fun e w' => e = .returned (.int .i64 r) ∧ SkM w w' q p T D' S) := fun W hW =>
    (wb_any W (h.next hW) hr ⟨#[110, 111, 100, 101, 115]⟩ (tx (flat ss)) (by decide) (by rw [tx_size]; omega) (nn S.ends.length * 40) (by have := nn_le S.ends.length; have := h.small.2.2.1; omega) (fun W hW => length_nodes W hW) D' r hD).mono fun e w' z => ⟨z.1, z.2.first hW⟩
  have HC : Hid (∀ W, Below w.heap.size w W → W.cell? ⟨bs, 0, none⟩ = some (.pointer (some ⟨q, 0, none⟩)) ∧ W.cell? ⟨br, 0, none⟩ = some (.slice ao len cap)) := fun W hW => ⟨(hW.cell (p := ⟨bs, 0, none⟩) (World.block_lt_of_cell? _ _ hcs)).trans hcs, (hW.cell (p := ⟨br, 0, none⟩) (World.block_lt_of_cell? _ _ hcr)).trans hcr⟩
  have HC3 : Hid (∀ W, SkM w W q p T D' S → W.cell? ⟨bs, 0, none⟩ = some (.pointer (some ⟨q, 0, none⟩)) ∧ W.cell? ⟨br, 0, none⟩ = some (.slice ao len cap)) := fun W hW => ⟨hW.cell hcs ns, hW.cell hcr nr⟩
  have u := bdz w
  clear h hr hD hrd hc hl hf
  go_enter Tryz.func61, Tryz.ntmps61
  go_upto_region 1 with (fail)
  go_region_held3 (fun Z => Z.cell? ⟨bs, 0, none⟩ = some (.pointer (some ⟨q, 0, none⟩)) ∧ Z.cell? ⟨br, 0, none⟩ = some (.slice ao len cap)) (first | assumption | (with_reducible exact HC3.out _ t3) | (with_reducible exact HC.out _ u)) (first
    | (go_at_call 62; (with_reducible refine (HJ.out _ u).mono ?_); rintro e w2 ⟨rfl, u⟩)
    | (go_at_call 60; (with_reducible refine (HW.out _ u).mono ?_); rintro e w3 ⟨rfl, t3⟩))
  all_goals
    go_wp2
    go_ret
    exact ⟨rfl, t3⟩
set_option maxRecDepth 100000 in
theorem act5_any (w : World) (h : Sk w q p T D S) (hr : Rmy D) (bs bm : Nat) (hcs : w.cell? ⟨bs, 0, none⟩ = some (.pointer (some ⟨q, 0, none⟩))) (m : MV) (h1 : m.size < 18446744073709551616) (h2 : m.items < 18446744073709551616) (h3 : m.nodes < 18446744073709551616) (hcm : w.cell? ⟨bm, 0, none⟩ = some (.int .i64 m.k) ∧ w.cell? ⟨bm, 1, none⟩ = some (.int .u64 (m.size : Int)) ∧ w.cell? ⟨bm, 2, none⟩ = some (.int .u64 (m.items : Int)) ∧ w.cell? ⟨bm, 3, none⟩ = some (.int .u64 (m.nodes : Int)) ∧ w.cell? ⟨bm, 4, none⟩ = some (.int .u32 (m.chain.toNat : Int))) (ns : ¬ T bs) (nm : ¬ T bm) (D' : DV) (r : Int) (hD : wrD D nmM ((S.ends.length * 64 : Nat) : Int) (mrk m) = (D', r)) :
    Calls Tryz.prog 66 #[.pointer (some ⟨bs, 0, none⟩), .pointer (some ⟨bm, 0, none⟩)] w fun e w' => e = .returned (.int .i64 r) ∧ SkM w w' q p T D' S := by
  obtain ⟨m0, m1, m2, m3, m4⟩ := hcm
  have HJ : Hid (∀ W, Below w.heap.size w W → Calls Tryz.prog 67 #[.agg #[.int .i64 m.k, .int .u64 (m.size : Int), .int .u64 (m.items : Int), .int .u64 (m.nodes : Int), .int .u32 (m.chain.toNat : Int)]] W fun e w' => e = .returned (.string (tx (mrk m))) ∧ Below w.heap.size w w') := fun W hW => (mark_any W m h1 h2 h3 (tx (mrk m)) rfl).mono fun e w' z => ⟨z.1, bnext hW z.2⟩
  have hml : (mrk m).length ≤ 64 := by
    unfold mrk
    split
    · rw [sld_len, bodyM_len]; omega
    · simp
  have HW : Hid (∀ W, Below w.heap.size w W → Calls Tryz.prog 60 #[.pointer (some ⟨q, 0, none⟩), .string ⟨#[109, 97, 114, 107, 115]⟩, .string (tx (mrk m))] W fun e w' => e = .returned (.int .i64 r) ∧ SkM w w' q p T D' S) := fun W hW =>
    (wb_any W (h.next hW) hr ⟨#[109, 97, 114, 107, 115]⟩ (tx (mrk m)) (by decide) (by rw [tx_size]; omega) (S.ends.length * 64) (by have := h.small.2.2.1; omega) (fun W hW => length_marks W hW) D' r hD).mono fun e w' z => ⟨z.1, z.2.first hW⟩
  have up : ∀ {b i : Nat} {v : Value} {W : World}, w.cell? ⟨b, i, none⟩ = some v → Below w.heap.size w W → W.cell? ⟨b, i, none⟩ = some v := fun {b i v W} hc hW => (hW.cell (p := ⟨b, i, none⟩) (World.block_lt_of_cell? _ _ hc)).trans hc
  have HC : Hid (∀ W, Below w.heap.size w W → W.cell? ⟨bs, 0, none⟩ = some (.pointer (some ⟨q, 0, none⟩)) ∧ W.cell? ⟨bm, 0, none⟩ = some (.int .i64 m.k) ∧ W.cell? ⟨bm, 1, none⟩ = some (.int .u64 (m.size : Int)) ∧ W.cell? ⟨bm, 2, none⟩ = some (.int .u64 (m.items : Int)) ∧ W.cell? ⟨bm, 3, none⟩ = some (.int .u64 (m.nodes : Int)) ∧ W.cell? ⟨bm, 4, none⟩ = some (.int .u32 (m.chain.toNat : Int))) := fun W hW => ⟨up hcs hW, up m0 hW, up m1 hW, up m2 hW, up m3 hW, up m4 hW⟩
  have HC3 : Hid (∀ W, SkM w W q p T D' S → W.cell? ⟨bs, 0, none⟩ = some (.pointer (some ⟨q, 0, none⟩)) ∧ W.cell? ⟨bm, 0, none⟩ = some (.int .i64 m.k) ∧ W.cell? ⟨bm, 1, none⟩ = some (.int .u64 (m.size : Int)) ∧ W.cell? ⟨bm, 2, none⟩ = some (.int .u64 (m.items : Int)) ∧ W.cell? ⟨bm, 3, none⟩ = some (.int .u64 (m.nodes : Int)) ∧ W.cell? ⟨bm, 4, none⟩ = some (.int .u32 (m.chain.toNat : Int))) := fun W hW => ⟨hW.cell hcs ns, hW.cell m0 nm, hW.cell m1 nm, hW.cell m2 nm, hW.cell m3 nm, hW.cell m4 nm⟩
  have u := bdz w
  clear h hr hD up hml h1 h2 h3
  obtain ⟨mk, ma, mb, mc, md⟩ := m
  simp only at *
  generalize tx (mrk ⟨mk, ma, mb, mc, md⟩) = tm at *
  generalize md.toNat = mdn at *
  go_enter Tryz.func66, Tryz.ntmps66
  go_upto_region 1 with (fail)
  go_region_held3 (fun Z => Z.cell? ⟨bs, 0, none⟩ = some (.pointer (some ⟨q, 0, none⟩)) ∧ Z.cell? ⟨bm, 0, none⟩ = some (.int .i64 mk) ∧ Z.cell? ⟨bm, 1, none⟩ = some (.int .u64 (ma : Int)) ∧ Z.cell? ⟨bm, 2, none⟩ = some (.int .u64 (mb : Int)) ∧ Z.cell? ⟨bm, 3, none⟩ = some (.int .u64 (mc : Int)) ∧ Z.cell? ⟨bm, 4, none⟩ = some (.int .u32 (mdn : Int))) (first | assumption | (with_reducible exact HC3.out _ t3) | (with_reducible exact HC.out _ u)) (first
    | (go_at_call 67; (with_reducible refine (HJ.out _ u).mono ?_); rintro e w2 ⟨rfl, u⟩)
    | (go_at_call 60; (with_reducible refine (HW.out _ u).mono ?_); rintro e w3 ⟨rfl, t3⟩))
  all_goals
    go_wp2
    go_ret
    exact ⟨rfl, t3⟩
set_option maxRecDepth 100000 in
theorem act3_any (w : World) (h : Sk w q p T D S) (hr : Rmy D) (bs : Nat) (hcs : w.cell? ⟨bs, 0, none⟩ = some (.pointer (some ⟨q, 0, none⟩))) (D' : DV) (r : Int) (hD : synD D nmI = (D', r)) :
    Calls Tryz.prog 63 #[.pointer (some ⟨bs, 0, none⟩)] w fun e w' => e = .returned (.int .i64 r) ∧ SkM w w' q p T D' S := by
  have HW : Hid (Calls Tryz.prog 64 #[.pointer (some ⟨p, 0, none⟩), .string ⟨#[105, 116, 101, 109, 115]⟩] w fun e w' => e = .returned (.int .i64 r) ∧ SkM w w' q p T D' S) := by
    have := h.sync hr ⟨#[105, 116, 101, 109, 115]⟩ (by decide)
    rw [show (ByteArray.mk #[105, 116, 101, 109, 115]).data.toList = nmI from rfl, hD] at this
    exact this
  obtain ⟨_, _, ⟨c0, _⟩, _⟩ := h.cells
  clear h hr hD
  go_enter Tryz.func63, Tryz.ntmps63
  go_wp2_with (go_at_call 64; refine HW.out.mono ?_; rintro e w1 ⟨rfl, t1⟩)
  go_ret
  exact ⟨rfl, t1⟩
set_option maxRecDepth 100000 in
theorem act4_any (w : World) (h : Sk w q p T D S) (hr : Rmy D) (bs : Nat) (hcs : w.cell? ⟨bs, 0, none⟩ = some (.pointer (some ⟨q, 0, none⟩))) (D' : DV) (r : Int) (hD : synD D nmN = (D', r)) :
    Calls Tryz.prog 65 #[.pointer (some ⟨bs, 0, none⟩)] w fun e w' => e = .returned (.int .i64 r) ∧ SkM w w' q p T D' S := by
  have HW : Hid (Calls Tryz.prog 64 #[.pointer (some ⟨p, 0, none⟩), .string ⟨#[110, 111, 100, 101, 115]⟩] w fun e w' => e = .returned (.int .i64 r) ∧ SkM w w' q p T D' S) := by
    have := h.sync hr ⟨#[110, 111, 100, 101, 115]⟩ (by decide)
    rw [show (ByteArray.mk #[110, 111, 100, 101, 115]).data.toList = nmN from rfl, hD] at this
    exact this
  obtain ⟨_, _, ⟨c0, _⟩, _⟩ := h.cells
  clear h hr hD
  go_enter Tryz.func65, Tryz.ntmps65
  go_wp2_with (go_at_call 64; refine HW.out.mono ?_; rintro e w1 ⟨rfl, t1⟩)
  go_ret
  exact ⟨rfl, t1⟩
set_option maxRecDepth 100000 in
theorem act6_any (w : World) (h : Sk w q p T D S) (hr : Rmy D) (bs : Nat) (hcs : w.cell? ⟨bs, 0, none⟩ = some (.pointer (some ⟨q, 0, none⟩))) (D' : DV) (r : Int) (hD : synD D nmM = (D', r)) :
    Calls Tryz.prog 68 #[.pointer (some ⟨bs, 0, none⟩)] w fun e w' => e = .returned (.int .i64 r) ∧ SkM w w' q p T D' S := by
  have HW : Hid (Calls Tryz.prog 64 #[.pointer (some ⟨p, 0, none⟩), .string ⟨#[109, 97, 114, 107, 115]⟩] w fun e w' => e = .returned (.int .i64 r) ∧ SkM w w' q p T D' S) := by
    have := h.sync hr ⟨#[109, 97, 114, 107, 115]⟩ (by decide)
    rw [show (ByteArray.mk #[109, 97, 114, 107, 115]).data.toList = nmM from rfl, hD] at this
    exact this
  obtain ⟨_, _, ⟨c0, _⟩, _⟩ := h.cells
  clear h hr hD
  go_enter Tryz.func68, Tryz.ntmps68
  go_wp2_with (go_at_call 64; refine HW.out.mono ?_; rintro e w1 ⟨rfl, t1⟩)
  go_ret
  exact ⟨rfl, t1⟩
end
end Go.Proofs.YthfnpagangjpbabGreat
namespace Go.Proofs.YthfnpagangjpbabGreat
open Go.RowKit
open Rc
attribute [local go_sem ↓] Go.wp_at_zero Go.wp_at_succ
attribute [local go_sem ↓] exec_appR
theorem one_new (w : World) (a : Value) (T : TypeId) : ∀ j u, [a][j]? = some u → (w.alloc (.cells #[a] T)).cell? ((⟨w.heap.size, 0, none⟩ : Addr).add j) = some u := fun j u hu => by
  rw [Addr.add_mid, World.cell?_alloc_new, Nat.zero_add]
  simpa using hu
def WentE (w w' : World) (v v' : Value) : Prop := (∃ g n cap, v = .slice (some ⟨g, 0, none⟩) n cap ∧ v' = .slice (some ⟨g, 0, none⟩) (n + 1) cap ∧ w.grownBy w' (some g)) ∨ (w.grownBy w' none ∧ ∀ g, v'.ownBlock = some g → w.heap.size ≤ g)
theorem run_app_E (w : World) (ty B : Nat) (v : Value) (L : List Nat) (hown : OwnE w B v L) (ad : Addr) (mc : Nat) (z : Nat) (hr : ∀ j u, [Value.int .i64 (z : Int)][j]? = some u → w.cell? (ad.add j) = some u)
    (hlen : L.length + 1 ≤ 1048576) (hB : B ≤ w.heap.size) :
    ∃ v' w', (Builtin.append_ #[77, 77] ty #[v, .slice (some ad) 1 mc]).run Tryz.prog w = .ok v' w' ∧ OwnE w' B v' (L ++ [z]) ∧ WentE w w' v v' := by
  obtain ⟨i0, hi, hz0, hz1, hz2⟩ := info_parts Tryz.infoE
  have hap : ∀ {w' : World} {v' : Value} {n : Nat}, n = L.length + 1 → w'.ownsRow B 3 1 v' n (cE L ++ [.int .i64 (z : Int)]) → OwnE w' B v' (L ++ [z]) := fun hn h => by
    rw [OwnE, cE, List.map_append, List.length_append, List.length_cons, List.length_nil, Nat.zero_add, ← hn]; exact h
  have h1c : ∀ u ∈ ([.int .i64 (z : Int)] : List Value), u.oneCell' = true := by intro u hu; simp at hu; subst hu; rfl
  have hown0 := hown
  rcases hown.2 with ⟨rfl, h0⟩ | ⟨g, cp, cur, rfl, hgb, hh, hc⟩
  · have hL : L = [] := List.length_eq_zero_iff.1 h0
    subst hL
    obtain ⟨v', w', hrun, r1, r2, _⟩ := run_append_own (P := Tryz.prog) w w.heap.size 77 ty 3 i0 (.int .i64 0) 1 8 Tryz.underlying77 hi hz0 hz1 hz2 rfl (by decide) _ 0 [] (World.ownsRow_nil _ _ _ _) ad 1 mc [.int .i64 (z : Int)] rfl hr h1c (by decide) (by decide) (Nat.le_refl _)
    exact ⟨v', w', hrun, hap rfl (by simpa [cE] using World.ownsRow.mono r1 hB), .inr ⟨r2, fun k hk => (World.ownsRow.lt r1 k hk).1⟩⟩
  · by_cases hfit : L.length + 1 ≤ cp
    · obtain ⟨w', hrun, r1, r2⟩ := run_append_fits (P := Tryz.prog) w B 77 ty 3 i0 1 Tryz.underlying77 hi hz1 g L.length cp (cE L) hown0 ad 1 mc [.int .i64 (z : Int)] rfl hr h1c hfit
      exact ⟨_, w', hrun, hap rfl r1, .inl ⟨g, L.length, cp, rfl, rfl, r2⟩⟩
    · obtain ⟨v', w', hrun, r1, r2⟩ := run_append_arg_grows (P := Tryz.prog) w 77 ty 3 i0 (.int .i64 0) 1 8 Tryz.underlying77 hi hz0 hz1 hz2 rfl (by decide) ⟨g, 0, none⟩ L.length cp (cE L) hown0.1 (World.ownsRow.cells hown0 rfl) ad 1 mc [.int .i64 (z : Int)] rfl hr (by omega) (by unfold maxLen; omega) (by omega)
      exact ⟨v', w', hrun, hap rfl (World.ownsRow.mono r1 hB), .inr ⟨r2, fun k hk => (World.ownsRow.lt r1 k hk).1⟩⟩
section
variable {q p : Nat} {T : Nat → Prop} {D : DV} {S : SV}
set_option maxRecDepth 100000 in
theorem take_any (w : World) (h : Sk w q p T D S) (m : MV) (h1 : m.items ≤ 268435456) (h2 : S.ends.length < 65536) :
    Calls Tryz.prog 69 #[.pointer (some ⟨q, 0, none⟩), .agg (mC m)] w fun e w' => e = .returned (.tuple #[]) ∧ SkM w w' q p T D { S with ends := S.ends ++ [m.items], chain := m.chain } := by
  obtain ⟨S0, v, d1, d2, d3, d4, d5⟩ := h
  obtain ⟨ao, cap, rfl, _⟩ := ownE_form d2.own
  obtain ⟨mk, ma, mb, mc, md⟩ := m
  simp only at h1
  have hw : IntKind.i64.wrap (mb : Int) = (mb : Int) := by rw [IntKind.wrap_i64]; omega
  obtain ⟨w1, hw1⟩ : ∃ W, w.alloc (.cells #[.int .i64 mk, .int .u64 (ma : Int), .int .u64 (mb : Int), .int .u64 (mc : Int), .int .u32 (md.toNat : Int)] 100) = W := ⟨_, rfl⟩
  have u1 : Below w.heap.size w w1 := by rw [← hw1]; exact bal (Below.refl _ _) _
  have k1 : w1.heap[w.heap.size]? = some (.cells #[.int .i64 mk, .int .u64 (ma : Int), .int .u64 (mb : Int), .int .u64 (mc : Int), .int .u32 (md.toNat : Int)] 100 (0, 0)) := by rw [← hw1]; exact new1 _ _
  rw [show mC ⟨mk, ma, mb, mc, md⟩ = #[.int .i64 mk, .int .u64 (ma : Int), .int .u64 (mb : Int), .int .u64 (mc : Int), .int .u32 (md.toNat : Int)] from rfl]
  have s1 : Sto w1 q p (.slice ao S.ends.length cap) S := d2.same (u1.block q d2.lt) (fun g hg => u1.block g (ownE_lt d2.own hg))
  obtain ⟨w2, hw2⟩ : ∃ W, (w1.alloc (.cells #[.int .i64 (mb : Int)] 3)).drew = W := ⟨_, rfl⟩
  have u2 : Below w1.heap.size w1 w2 := by rw [← hw2]; exact below_drewN (bal (Below.refl _ _) _) 1
  have s2 : Sto w2 q p (.slice ao S.ends.length cap) S := s1.same (u2.block q s1.lt) (fun g hg => u2.block g (ownE_lt s1.own hg))
  obtain ⟨v', w3, hap, o3, g3⟩ := run_app_E w2 77 0 _ S.ends s2.own ⟨w1.heap.size, 0, none⟩ 1 mb (by rw [← hw2]; exact one_new _ _ _) (by omega) (Nat.zero_le _)
  have t3 : Upo (fun x => (Value.slice ao S.ends.length cap).ownBlock = some x) w2 w3 := by
    rcases g3 with ⟨g, n, c, e1, e2, g3⟩ | ⟨g3, _⟩
    · rw [e1]; exact Upo.grown g3 (fun b hb => by cases hb; rfl)
    · exact Upo.grown g3 (fun b hb => by cases hb)
  have hv3 : ∀ g, v'.ownBlock = some g → (Value.slice ao S.ends.length cap).ownBlock = some g ∨ w2.heap.size ≤ g := fun g hg => by
    rcases g3 with ⟨g', n, c, e1, e2, g3⟩ | ⟨_, g3⟩
    · rw [e1]; rw [e2] at hg; exact .inl hg
    · exact .inr (g3 g hg)
  obtain ⟨ao3, cap3, rfl, _⟩ := ownE_form o3
  have hq2 : q < w2.heap.size := s2.lt
  have kq : w3.heap[q]? = some (.cells #[.pointer (some ⟨p, 0, none⟩), .int .i64 (S.k : Int), .slice ao S.ends.length cap, .int .u32 (S.chain.toNat : Int), .bool S.lame] 80 (0, 0)) := (t3.block q hq2 (fun e => (d4 q e).1 rfl)).trans s2.blk
  have km : w3.heap[w.heap.size]? = some (.cells #[.int .i64 mk, .int .u64 (ma : Int), .int .u64 (mb : Int), .int .u64 (mc : Int), .int .u32 (md.toNat : Int)] 100 (0, 0)) := by
    have hz := (Array.getElem?_eq_some_iff.1 k1).1
    refine (t3.block _ (by have := u2.size; omega) (fun e => ?_)).trans ((u2.block _ hz).trans k1)
    have := ownE_lt d2.own e
    omega
  obtain ⟨c0, c1, c2, c3, c4⟩ := five_at s2.blk
  obtain ⟨x0, x1, x2, x3, x4⟩ := five_at ((u2.block _ (Array.getElem?_eq_some_iff.1 k1).1).trans k1)
  obtain ⟨_, _, c2a, _, _⟩ := five_at s1.blk
  obtain ⟨_, _, x2a, _, _⟩ := five_at k1
  have HW1 := hide hw1
  have HW2 := hide hw2
  have ha := appR_of hap
  have f2 : w3.frozen? ⟨q, 2, none⟩ = false := frozen_of_row w3 q 2 _ _ kq
  have f3 : w3.frozen? ⟨q, 3, none⟩ = false := frozen_of_row w3 q 3 _ _ kq
  obtain ⟨y0, y1, y2, y3, y4⟩ := five_at kq
  obtain ⟨z0, z1, z2, z3, z4⟩ := five_at km
  obtain ⟨bm, hbm⟩ : ∃ b, w.heap.size = b := ⟨_, rfl⟩
  have HBm := hide hbm
  rw [hbm] at x2a x0 x1 x2 x3 x4 z0 z1 z2 z3 z4
  rw [← hw2] at c2 x2 ha
  have hl3 : (S.ends ++ [mb]).length = S.ends.length + 1 := by simp
  rw [hl3] at ha o3 hv3
  have hne : ¬ bm = q := by have := d2.lt; omega
  have hne2 : ¬ q = bm := fun e => hne e.symm
  have HZ : Hid (SkM w ((w3.setCell ⟨q, 2, none⟩ (.slice ao3 (S.ends.length + 1) cap3)).setCell ⟨q, 3, none⟩ (.int .u32 (md.toNat : Int))) q p T D { S with ends := S.ends ++ [mb], chain := md }) := by
    have ub : Below w.heap.size w w2 := bnext u1 u2
    have kq2 : ((w3.setCell ⟨q, 2, none⟩ (.slice ao3 (S.ends.length + 1) cap3)).setCell ⟨q, 3, none⟩ (.int .u32 (md.toNat : Int))).heap[q]? = some (.cells #[.pointer (some ⟨p, 0, none⟩), .int .i64 (S.k : Int), .slice ao3 (S.ends.length + 1) cap3, .int .u32 (md.toNat : Int), .bool S.lame] 80 (0, 0)) :=
      heap_setCell_same _ q 3 _ _ _ (heap_setCell_same w3 q 2 _ _ _ kq)
    have up : Upo (fun x => x = q ∨ (Value.slice ao S.ends.length cap).ownBlock = some x) w ((w3.setCell ⟨q, 2, none⟩ (.slice ao3 (S.ends.length + 1) cap3)).setCell ⟨q, 3, none⟩ (.int .u32 (md.toNat : Int))) :=
      (((Upo.of ub).trans t3 (fun x _ e => .inr e)).set q 2 _ (.inl (.inl rfl))).set q 3 _ (.inl (.inl rfl))
    have oth : ∀ x, x ≠ q → ((w3.setCell ⟨q, 2, none⟩ (.slice ao3 (S.ends.length + 1) cap3)).setCell ⟨q, 3, none⟩ (.int .u32 (md.toNat : Int))).heap[x]? = w3.heap[x]? := fun x hx => (Below.heap_setCell _ _ _ _ hx).trans (Below.heap_setCell _ _ _ _ hx)
    have hvq : ∀ g, (Value.slice ao3 (S.ends.length + 1) cap3).ownBlock = some g → g ≠ q ∧ ¬ S0 g := fun g hg => by
      rcases hv3 g hg with e | e
      · exact d4 g e
      · exact ⟨by omega, fun hs => by have := d1.lt hs; have := ub.size; omega⟩
    refine ⟨fun x => S0 x ∨ x = q ∨ (Value.slice ao3 (S.ends.length + 1) cap3).ownBlock = some x, ⟨S0, .slice ao3 (S.ends.length + 1) cap3, ?_, ⟨kq2, row_keep (v := .slice ao3 (S.ends.length + 1) cap3) o3 (fun g hg => oth g (hvq g hg).1), d2.k1, d2.k2, by simp; omega, fun e he => ?_⟩, d3, hvq, fun _ => Iff.rfl⟩, fun x hx => ?_, up.mono (fun x _ e => (d5 x).2 (.inr e))⟩
    · exact d1.keep up (fun x hx e => by
        rcases e with rfl | e
        · exact d3 hx
        · exact (d4 x e).2 hx)
    · rcases List.mem_append.1 he with e1 | e1
      · exact d2.low e e1
      · rw [List.mem_singleton.1 e1]; exact h1
    · rcases hx with e | e | e
      · exact .inl ((d5 x).2 (.inl e))
      · exact .inl ((d5 x).2 (.inr (.inl e)))
      · rcases hv3 x e with e | e
        · exact .inl ((d5 x).2 (.inr (.inr e)))
        · exact .inr (by have := ub.size; omega)
  clear hw1 hw2 hbm u1 u2 s1 s2 hap o3 g3 t3 hv3 kq km k1 d1 d2 d3 d4 d5 h1 h2 hq2
  go_enter Tryz.func69, Tryz.ntmps69
  go_upto_region 1 with (fail)
  rw [HW1.out, HBm.out]
  go_region
  all_goals
    go_wp2
    exact bodyPost_end (results_none rfl _ Tryz.prog _) rfl ⟨rfl, HZ.out⟩
end
end Go.Proofs.YthfnpagangjpbabGreat
