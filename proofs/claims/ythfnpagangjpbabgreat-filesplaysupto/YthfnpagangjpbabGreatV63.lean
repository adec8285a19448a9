/-
  Own work: FHb, FHc.
-/
import Derived.Deep.RegionHeld3
import Derived.Test.YthfnpagangjpbabGreatV57
import Derived.Test.YthfnpagangjpbabGreatV61
namespace Go.Proofs.YthfnpagangjpbabGreat
open Go.RowKit
open Rc
attribute [local go_sem ↓] Go.wp_at_zero Go.wp_at_succ
def LdQ (w0 w : World) (bx : Nat) (k : Int) (D : DV) (n : Nat) (e : Ending) (w' : World) : Prop := e = .returned (.bool true) ∧ (∃ p r, Bdk w0 w' bx k p r D (.pointer none) (.pointer none) n) ∧ Upo (fun x => x = bx) w w'
theorem five_set {w : World} {q : Nat} {a b c d e : Value} {T : TypeId} (h : w.heap[q]? = some (.cells #[a, b, c, d, e] T (0, 0))) (x y z u : Value) :
    ((((w.setCell ⟨q, 1, none⟩ x).setCell ⟨q, 2, none⟩ y).setCell ⟨q, 3, none⟩ z).setCell ⟨q, 4, none⟩ u).heap[q]? = some (.cells #[a, x, y, z, u] T (0, 0)) :=
  heap_setCell_same _ q 4 _ _ u (heap_setCell_same _ q 3 _ _ z (heap_setCell_same _ q 2 _ _ y (heap_setCell_same w q 1 _ _ x h)))
section
variable {w0 w w1 w2 : World} {bx p r n : Nat} {k : Int} {D : DV} {sv qv : Value}
theorem Bdk.keep (h : Bdk w0 w bx k p r D sv qv n) : w.heap[bx]? = some (.cells #[.int .i64 k, .pointer (some ⟨p, 0, none⟩), .pointer (some ⟨r, 0, none⟩), sv, qv] 37 (0, 0)) ∧ w0.heap.size ≤ bx ∧ Below w0.heap.size w0 w := by
  obtain ⟨V, T, U, h1, h2, h3, h4, h5, h6, h7, h8, h9, h10, hb⟩ := h
  exact ⟨h1, h9, h10⟩
theorem bdk_laid {F : LF} {N m p' r' : Nat} {S T : Nat → Prop} (h1 : w.heap[bx]? = some (.cells #[.int .i64 k, .pointer (some ⟨p, 0, none⟩), .pointer (some ⟨r, 0, none⟩), sv, qv] 37 (0, 0))) (h9 : w0.heap.size ≤ bx) (h10 : Below w0.heap.size w0 w)
    (u1 : Below w.heap.size w w1) (u2 : Below w1.heap.size w1 w2) (hd : Dsk w1 p' S (openD N F)) (hS : ∀ x, S x → w.heap.size ≤ x) (hr : Rsk w2 r' T (openR N F)) (hT : ∀ x, T x → w1.heap.size ≤ x) (hc : canL F) (hb : byt F ≤ N) (hN : N ≤ 1099511627776) (hl : F.length ≤ m) (hm : m ≤ 2097152) :
    Bdk w0 ((((w2.setCell ⟨bx, 1, none⟩ (.pointer (some ⟨p', 0, none⟩))).setCell ⟨bx, 2, none⟩ (.pointer (some ⟨r', 0, none⟩))).setCell ⟨bx, 3, none⟩ (.pointer none)).setCell ⟨bx, 4, none⟩ (.pointer none)) bx k p' r' (openD N F) (.pointer none) (.pointer none) m := by
  have hlt := (Array.getElem?_eq_some_iff.1 h1).1
  have hk2 := ((bnext u1 u2).block bx hlt).trans h1
  have s1 := u1.size
  have s2 := u2.size
  have s0 := h10.size
  obtain ⟨W, hW⟩ : ∃ W, ((((w2.setCell ⟨bx, 1, none⟩ (.pointer (some ⟨p', 0, none⟩))).setCell ⟨bx, 2, none⟩ (.pointer (some ⟨r', 0, none⟩))).setCell ⟨bx, 3, none⟩ (.pointer none)).setCell ⟨bx, 4, none⟩ (.pointer none)) = W := ⟨_, rfl⟩
  have hk := five_set hk2 (.pointer (some ⟨p', 0, none⟩)) (.pointer (some ⟨r', 0, none⟩)) (.pointer none) (.pointer none)
  have oth : ∀ x, x ≠ bx → W.heap[x]? = w2.heap[x]? := fun x hx => by
    rw [← hW]
    exact (Below.heap_setCell _ _ _ _ hx).trans ((Below.heap_setCell _ _ _ _ hx).trans ((Below.heap_setCell _ _ _ _ hx).trans (Below.heap_setCell _ _ _ _ hx)))
  have hbw : Below w0.heap.size w0 W := by
    rw [← hW]
    exact ((((bnext (bnext h10 u1) u2).setCell h9 _).setCell h9 _).setCell h9 _).setCell h9 _
  rw [hW] at hk ⊢
  have sbx : ∀ x, w.heap.size ≤ x → x ≠ bx := fun x hx e => by omega
  refine ⟨openR N F, S, T, hk, (hd.next u2).same (fun x hx => oth x (sbx x (hS x hx))), hr.same (fun x hx => oth x (sbx x (by have := hT x hx; omega))), fun x hx hq => ?_, fun q => ?_, fun q => ?_, fun x hx => ?_, fun x hx => ?_, h9, hbw, ⟨sim_open N F hc.1 hb, ?_, Nat.zero_le _, hm, hN, ?_⟩⟩
  · have := hd.lt hx; have := hT x hq; omega
  · have := hS bx q; omega
  · have := hT bx q; omega
  · have := hS x hx; omega
  · have := hT x hx; omega
  · have := rlay_len F
    show (rlayL F).length ≤ _
    omega
  · show N - byt F ≤ _
    omega
set_option maxRecDepth 100000 in
set_option maxHeartbeats 8000000 in
theorem blaid_any (h : Bdk w0 w bx k p r D sv qv n) (hn : n ≤ 2097152) (a : Option Addr) (b c len : Nat) (F : LF) (hr : RdF w a b 0 F) (hlen : F.length = len) (hln : len ≤ n) (hS : Sor F) (hnm : ∀ x ∈ F, x.1.length ≤ maxLen) (hby : byt F ≤ 16777216) :
    Calls Tryz.prog 89 #[.pointer (some ⟨bx, 0, none⟩), .slice a len c] w (LdQ w0 w bx k (openD 16777216 F) n) := by
  obtain ⟨h1, h9, h10⟩ := h.keep
  have hcan : canL F := sor_can hS (by omega)
  have HDo : Hid (Calls Tryz.prog 7 #[.int .i64 16777216, .slice a len c] w fun e w' => ∃ p S, e = .returned (.tuple #[.pointer (some ⟨p, 0, none⟩), .int .i64 0]) ∧ Dsk w' p S (openD 16777216 F) ∧ (∀ x, S x → w.heap.size ≤ x) ∧ Below w.heap.size w w') := by
    have := open_any w 16777216 16777216 rfl (by decide) a b 0 c F hr hnm (by omega)
    rw [hlen] at this
    refine this.mono fun e w' q => ?_
    rcases q with ⟨h0, _⟩ | ⟨_, h0, _⟩ | ⟨_, _, h2, p, S, h1, h3, h4⟩
    · exact absurd hcan h0
    · omega
    · exact ⟨p, S, h1, h3, h4, h2⟩
  have HRo : Hid (∀ W, Below w.heap.size w W → Calls Tryz.prog 6 #[.int .i64 16777216, .slice a len c] W fun e w' => ∃ r T, e = .returned (.tuple #[.pointer (some ⟨r, 0, none⟩), .int .i64 0]) ∧ Rsk w' r T (openR 16777216 F) ∧ (∀ x, T x → W.heap.size ≤ x) ∧ Below W.heap.size W w') := fun W hW => by
    have := ropen_any W 16777216 16777216 rfl (by decide) a b 0 c F (hr.next hW) hnm (by omega) (by omega)
    rw [hlen] at this
    refine this.mono fun e w' q => ?_
    rcases q with ⟨h0, _⟩ | ⟨_, h0, _⟩ | ⟨_, _, h2, p, S, h1, h3, h4⟩
    · exact absurd hcan h0
    · omega
    · exact ⟨p, S, h1, h3, h4, h2⟩
  have HB : Hid (∀ (w1 w2 : World) (p' r' : Nat) (S T : Nat → Prop), Below w.heap.size w w1 → Below w1.heap.size w1 w2 → Dsk w1 p' S (openD 16777216 F) → (∀ x, S x → w.heap.size ≤ x) → Rsk w2 r' T (openR 16777216 F) → (∀ x, T x → w1.heap.size ≤ x) → (w2.cell? ⟨bx, 1, none⟩ = some (.pointer (some ⟨p, 0, none⟩)) ∧ w2.cell? ⟨bx, 2, none⟩ = some (.pointer (some ⟨r, 0, none⟩)) ∧ w2.cell? ⟨bx, 3, none⟩ = some sv ∧ w2.cell? ⟨bx, 4, none⟩ = some qv ∧ ∀ i, w2.frozen? ⟨bx, i, none⟩ = false) ∧ Bdk w0 ((((w2.setCell ⟨bx, 1, none⟩ (.pointer (some ⟨p', 0, none⟩))).setCell ⟨bx, 2, none⟩ (.pointer (some ⟨r', 0, none⟩))).setCell ⟨bx, 3, none⟩ (.pointer none)).setCell ⟨bx, 4, none⟩ (.pointer none)) bx k p' r' (openD 16777216 F) (.pointer none) (.pointer none) n ∧ Upo (fun x => x = bx) w ((((w2.setCell ⟨bx, 1, none⟩ (.pointer (some ⟨p', 0, none⟩))).setCell ⟨bx, 2, none⟩ (.pointer (some ⟨r', 0, none⟩))).setCell ⟨bx, 3, none⟩ (.pointer none)).setCell ⟨bx, 4, none⟩ (.pointer none))) := fun w1 w2 p' r' S T u1 u2 d1 d2 d3 d4 => by
    have hk2 := ((bnext u1 u2).block bx (Array.getElem?_eq_some_iff.1 h1).1).trans h1
    obtain ⟨_, z1, z2, z3, z4⟩ := five_at hk2
    exact ⟨⟨z1, z2, z3, z4, fun i => frozen_of_row w2 bx i _ _ hk2⟩, bdk_laid h1 h9 h10 u1 u2 d1 d2 d3 d4 hcan hby (by decide) (by omega) hn, ((((Upo.of (S := fun x => x = bx) (bnext u1 u2)).set _ _ _ (.inl rfl)).set _ _ _ (.inl rfl)).set _ _ _ (.inl rfl)).set _ _ _ (.inl rfl)⟩
  clear h hr hlen hln hS hnm hby hcan h1 h9 h10 hn
  go_enter Tryz.func89, Tryz.ntmps89
  go_upto_region 3 with (first
    | (go_at_call 7; (with_reducible refine HDo.out.mono ?_); rintro e w1 ⟨p', S, rfl, hd, hS, u1⟩)
    | (go_at_call 6; (with_reducible refine (HRo.out _ u1).mono ?_); rintro e w2 ⟨r', T, rfl, hr, hT, u2⟩))
  obtain ⟨⟨z1, z2, z3, z4, zf⟩, hZ⟩ := HB.out w1 w2 p' r' S T u1 u2 hd hS hr hT
  have f1 := zf 1
  have f2 := zf 2
  have f3 := zf 3
  have f4 := zf 4
  have HZ := hide hZ
  clear hZ hd hS hr hT u1 u2 HDo HRo HB zf
  go_wp2
  go_ret
  exact ⟨rfl, ⟨_, _, HZ.out.1⟩, HZ.out.2⟩
end
end Go.Proofs.YthfnpagangjpbabGreat
namespace Go.Proofs.YthfnpagangjpbabGreat
open Go.RowKit
open Rc
attribute [local go_sem ↓] Go.wp_at_zero Go.wp_at_succ
def StQ (w0 : World) (bx : Nat) (k : Int) (n c : Nat) (e : Ending) (w' : World) : Prop := e = .returned (.bool true) ∧ ∃ p r D so, Bth w0 w' bx k p r D so n ∧ Wt D c
theorem ten_at {W : World} {q : Nat} {a b c d e f g h i j : Value} {T : TypeId} (hh : W.heap[q]? = some (.cells #[a, b, c, d, e, f, g, h, i, j] T (0, 0))) : W.cell? ⟨q, 0, none⟩ = some a ∧ W.cell? ⟨q, 1, none⟩ = some b ∧ W.cell? ⟨q, 2, none⟩ = some c ∧ W.cell? ⟨q, 3, none⟩ = some d ∧ W.cell? ⟨q, 4, none⟩ = some e ∧ W.cell? ⟨q, 5, none⟩ = some f ∧ W.cell? ⟨q, 6, none⟩ = some g ∧ W.cell? ⟨q, 7, none⟩ = some h ∧ W.cell? ⟨q, 8, none⟩ = some i ∧ W.cell? ⟨q, 9, none⟩ = some j :=
  ⟨by rw [cell_of_row W q 0 _ _ (0, 0) hh]; rfl, by rw [cell_of_row W q 1 _ _ (0, 0) hh]; rfl, by rw [cell_of_row W q 2 _ _ (0, 0) hh]; rfl, by rw [cell_of_row W q 3 _ _ (0, 0) hh]; rfl, by rw [cell_of_row W q 4 _ _ (0, 0) hh]; rfl, by rw [cell_of_row W q 5 _ _ (0, 0) hh]; rfl, by rw [cell_of_row W q 6 _ _ (0, 0) hh]; rfl, by rw [cell_of_row W q 7 _ _ (0, 0) hh]; rfl, by rw [cell_of_row W q 8 _ _ (0, 0) hh]; rfl, by rw [cell_of_row W q 9 _ _ (0, 0) hh]; rfl⟩
section
variable {w0 w W : World} {bx p r n c : Nat} {k : Int} {D : DV} {so : Option (Nat × Nat × SV)} {sv qv : Value}
theorem reopen {F : LF} (hS : Sor F) (hb : byt F ≤ c) (hn : n + 6 ≤ 2097152) (h : Bdk w0 W bx k p r (openD 16777216 F) sv qv n) (kk : Int) :
    Calls Tryz.prog 8 #[.pointer (some ⟨bx, 0, none⟩), .int .i64 kk] W (StQ w0 bx k (n + 6) c) := by
  refine (opens_any h hn kk _ rfl _ rfl).mono fun e w' z => ?_
  obtain ⟨z1, so, z2, _⟩ := z
  exact ⟨z1, _, _, _, so, z2, (wt_open hS _ hb).opn _⟩
theorem Bdk.lt (h : Bdk w0 w bx k p r D sv qv n) : bx < w.heap.size := (Array.getElem?_eq_some_iff.1 h.keep.1).1
theorem Bdk.aft (h : Bdk w0 w bx k p r D sv qv n) (hw : Wt D c) (ks : List Bool) : Sor (aft ks D.L 0) ∧ (∀ x ∈ aft ks D.L 0, x.1.length ≤ maxLen) ∧ byt (aft ks D.L 0) ≤ c ∧ (aft ks D.L 0).length ≤ n := by
  obtain ⟨V, T, U, h1, ⟨m, R, ka, kb, ko, kc, h2, _⟩, h3, h4, h5, h6, h7, h8, h9, h10, hb⟩ := h
  exact ⟨aft_sor ks D.L 0 hw.1.1, fun x hx => ((h2.aft_ok ks).1 x hx).1, Nat.le_trans (byt_aft ks D.L 0) hw.2, Nat.le_trans (aft_len ks D.L 0) hb.dlen.1⟩
theorem Bdk.tell (h : Bdk w0 w bx k p r D sv qv n) (hw : Wt D c) : Sor (tell D.L) ∧ (∀ x ∈ tell D.L, x.1.length ≤ maxLen) ∧ byt (tell D.L) ≤ c ∧ (tell D.L).length ≤ n := by
  obtain ⟨V, T, U, h1, ⟨m, R, ka, kb, ko, kc, h2, _⟩, h3, h4, h5, h6, h7, h8, h9, h10, hb⟩ := h
  have hs := tell_sorA hw.1.1
  exact ⟨hs.1, fun x hx => h2.nm _ (by obtain ⟨g, hg⟩ := hs.2 x hx; exact List.mem_map.2 ⟨_, hg, rfl⟩), Nat.le_trans (byt_tell D.L) hw.2, Nat.le_trans (tell_lenq D.L) hb.dlen.1⟩
theorem Bdk.next (h : Bdk w0 w bx k p r D sv qv n) (hb : Below w.heap.size w W) : Bdk w0 W bx k p r D sv qv n := by
  obtain ⟨V, T, U, h1, h2, h3, h4, h5, h6, h7, h8, h9, h10, hB⟩ := h
  exact ⟨V, T, U, (hb.block bx (Array.getElem?_eq_some_iff.1 h1).1).trans h1, h2.next hb, h3.next hb, h4, h5, h6, h7, h8, h9, bnext h10 hb, hB⟩
theorem Bdk.after (h : Bdk w0 w bx k p r D sv qv n) (ka : Option Addr) (kb ko kc kn : Nat) (ks : List Bool) (hk : RdL w ka kb ko ks) (hkl : ks.length = kn) (hkn : kn ≤ 140737488355328) (F : LF) (hF : Go.Proofs.YthfnpagangjpbabGreat.aft ks D.L 0 = F) (fl : Nat) (hfl : F.length = fl) :
    (Calls Tryz.prog 49 #[.pointer (some ⟨p, 0, none⟩), .slice ka kn kc] w fun e w' => ∃ a b c, e = .returned (.slice a fl c) ∧ RdF w' a b 0 F ∧ Below w.heap.size w w') ∧
    Calls Tryz.prog 50 #[.pointer (some ⟨r, 0, none⟩), .slice ka kn kc] w fun e w' => ∃ a b c, e = .returned (.slice a fl c) ∧ RdF w' a b 0 F ∧ Below w.heap.size w w' := by
  obtain ⟨V, T, U, h1, h2, h3, h4, h5, h6, h7, h8, h9, h10, hb⟩ := h
  subst hkl
  refine ⟨(h2.afterq ka kb ko kc ks hk hkn hF).mono fun e w' q => ?_, (h3.after (by have := hb.len; have := hb.few; omega) ka kb ko kc ks hk hkn ((hb.sim.aft ks).symm.trans hF)).mono fun e w' q => ?_⟩
  · obtain ⟨v, q1, q2, q3⟩ := q
    obtain ⟨a, b, c, rfl, q4, _⟩ := ownF_rd q2
    rw [hfl] at q1
    exact ⟨a, b, c, q1, q4, q3⟩
  · obtain ⟨v, q1, q2, q3⟩ := q
    obtain ⟨a, b, c, rfl, q4, _⟩ := ownF_rd q2
    rw [hfl] at q1
    exact ⟨a, b, c, q1, q4, q3⟩
set_option maxRecDepth 100000 in
set_option maxHeartbeats 8000000 in
theorem crashed_any (h : Bdk w0 w bx k p r D sv qv n) (hn : n + 6 ≤ 2097152) (hw : Wt D c) (hc : c ≤ 16777216) (kind : Int) (it : ByteArray) (da : Option Addr) (dn dc : Nat) (rg : Bool) (an : Int) (nn' ft yb : Int) (ka : Option Addr) (kb ko kc kn : Nat) (ks : List Bool) (hk : RdL w ka kb ko ks) (hkl : ks.length = kn) (hkn : kn ≤ 140737488355328) (kk : Int) :
    Calls Tryz.prog 40 #[.pointer (some ⟨bx, 0, none⟩), .agg #[.int .i64 kind, .string it, .slice da dn dc, .bool rg, .int .u64 an, .int .i64 nn', .int .i64 ft, .int .u8 yb, .slice ka kn kc, .int .i64 kk]] w (StQ w0 bx k (n + 6) c) := by
  obtain ⟨w1, hw1⟩ : ∃ W, w.alloc (.cells #[.int .i64 kind, .string it, .slice da dn dc, .bool rg, .int .u64 an, .int .i64 nn', .int .i64 ft, .int .u8 yb, .slice ka kn kc, .int .i64 kk] 51) = W := ⟨_, rfl⟩
  have HW := hide hw1
  obtain ⟨bo, hbo⟩ : ∃ b, w.heap.size = b := ⟨_, rfl⟩
  have HBo := hide hbo
  have u1 : Below w.heap.size w w1 := by rw [← hw1]; exact bal (Below.refl _ _) _
  have k1 : w1.heap[bo]? = some (.cells #[.int .i64 kind, .string it, .slice da dn dc, .bool rg, .int .u64 an, .int .i64 nn', .int .i64 ft, .int .u8 yb, .slice ka kn kc, .int .i64 kk] 51 (0, 0)) := by rw [← hw1, ← hbo]; exact new1 _ _
  have hlt := h.lt
  obtain ⟨F, hF⟩ : ∃ F, aft ks D.L 0 = F := ⟨_, rfl⟩
  obtain ⟨fl, hfl⟩ : ∃ m, F.length = m := ⟨_, rfl⟩
  obtain ⟨hS, hnm, hby, hln⟩ := h.aft hw ks
  rw [hF] at hS hnm hby hln
  have HBox : Hid (∀ W, Below w1.heap.size w1 W → Bdk w0 W bx k p r D sv qv n) := fun W hW => h.next (bnext u1 hW)
  have HC : Hid (∀ W, Below w1.heap.size w1 W → W.cell? ⟨bx, 1, none⟩ = some (.pointer (some ⟨p, 0, none⟩)) ∧ W.cell? ⟨bx, 2, none⟩ = some (.pointer (some ⟨r, 0, none⟩)) ∧ W.cell? ⟨bo, 8, none⟩ = some (.slice ka kn kc) ∧ W.cell? ⟨bo, 9, none⟩ = some (.int .i64 kk)) := fun W hW => by
    have kk2 := (hW.block bo (Array.getElem?_eq_some_iff.1 k1).1).trans k1
    obtain ⟨_, q1, q2, _, _⟩ := five_at (h.next (bnext u1 hW)).keep.1
    obtain ⟨_, _, _, _, _, _, _, _, z8, z9⟩ := ten_at kk2
    exact ⟨q1, q2, z8, z9⟩
  have HAd : Hid (∀ W, Below w1.heap.size w1 W → Calls Tryz.prog 49 #[.pointer (some ⟨p, 0, none⟩), .slice ka kn kc] W fun e w' => ∃ a b c, e = .returned (.slice a fl c) ∧ RdF w' a b 0 F ∧ Below W.heap.size W w') := fun W hW => ((h.next (bnext u1 hW)).after ka kb ko kc kn ks (hk.next (bnext u1 hW)) hkl hkn F hF fl hfl).1
  have HAr : Hid (∀ W, Below w1.heap.size w1 W → Calls Tryz.prog 50 #[.pointer (some ⟨r, 0, none⟩), .slice ka kn kc] W fun e w' => ∃ a b c, e = .returned (.slice a fl c) ∧ RdF w' a b 0 F ∧ Below W.heap.size W w') := fun W hW => ((h.next (bnext u1 hW)).after ka kb ko kc kn ks (hk.next (bnext u1 hW)) hkl hkn F hF fl hfl).2
  have HSm : Hid (∀ (W : World) (a1 : Option Addr) (b1 c1 : Nat) (a2 : Option Addr) (b2 c2 : Nat), RdF W a1 b1 0 F → RdF W a2 b2 0 F → Calls Tryz.prog 46 #[.slice a1 fl c1, .slice a2 fl c2] W fun e w' => e = .returned (.bool true) ∧ Below W.heap.size W w') := fun W a1 b1 c1 a2 b2 c2 h1 h2 => by
    have := same_yes W F a1 b1 0 c1 h1 a2 b2 0 c2 h2 (by omega)
    rw [hfl] at this
    exact this
  have HLd : Hid (∀ (W : World) (a : Option Addr) (b c' : Nat), Below w1.heap.size w1 W → RdF W a b 0 F → Calls Tryz.prog 89 #[.pointer (some ⟨bx, 0, none⟩), .slice a fl c'] W fun e w' => e = .returned (.bool true) ∧ (∃ p r, Bdk w0 w' bx k p r (openD 16777216 F) (.pointer none) (.pointer none) n) ∧ w'.cell? ⟨bo, 9, none⟩ = some (.int .i64 kk)) := fun W a b c' hW hr =>
    (blaid_any (h.next (bnext u1 hW)) (by omega) a b c' fl F hr hfl (by omega) hS hnm (by omega)).mono fun e w' z => ⟨z.1, z.2.1, by
      have hl := (Array.getElem?_eq_some_iff.1 k1).1
      have kk2 := (z.2.2.block bo (Nat.lt_of_lt_of_le hl hW.size) (fun e => by omega)).trans ((hW.block bo hl).trans k1)
      obtain ⟨_, _, _, _, _, _, _, _, _, z9⟩ := ten_at kk2
      exact z9⟩
  have HOp : Hid (∀ (W : World) (p r : Nat), Bdk w0 W bx k p r (openD 16777216 F) (.pointer none) (.pointer none) n → Calls Tryz.prog 8 #[.pointer (some ⟨bx, 0, none⟩), .int .i64 kk] W (StQ w0 bx k (n + 6) c)) := fun W p r hB => reopen hS hby hn hB kk
  have t1 : Below w1.heap.size w1 w1 := Below.refl _ _
  clear h hn hw hc hk hkl hkn hw1 hbo u1 k1 hlt hF hfl hS hnm hby hln
  go_enter Tryz.func40, Tryz.ntmps40
  go_upto_region 1 with (fail)
  rw [HW.out, HBo.out]
  have tw := t1.drew
  go_region_held3 (fun Z => Z.cell? ⟨bx, 1, none⟩ = some (.pointer (some ⟨p, 0, none⟩)) ∧ Z.cell? ⟨bx, 2, none⟩ = some (.pointer (some ⟨r, 0, none⟩)) ∧ Z.cell? ⟨bo, 8, none⟩ = some (.slice ka kn kc) ∧ Z.cell? ⟨bo, 9, none⟩ = some (.int .i64 kk)) (first | assumption | (exact HC.out _ tw) | (exact HC.out _ t1)) (first
    | (go_at_call 50; (with_reducible refine (HAr.out _ tw).mono ?_); rintro e w2 ⟨a2, b2, c2, rfl, f2, uu⟩; have tw := bnext tw uu))
  all_goals
    have t2 := tw
    go_upto_region 2 with (fail)
    have tw := t2.drew
    have f2 := f2.next (bdq _)
    go_region_held3 (fun Z => Z.cell? ⟨bx, 1, none⟩ = some (.pointer (some ⟨p, 0, none⟩)) ∧ Z.cell? ⟨bx, 2, none⟩ = some (.pointer (some ⟨r, 0, none⟩)) ∧ Z.cell? ⟨bo, 8, none⟩ = some (.slice ka kn kc) ∧ Z.cell? ⟨bo, 9, none⟩ = some (.int .i64 kk)) (first | assumption | (exact HC.out _ tw) | (exact HC.out _ t2)) (first
      | (go_at_call 49; (with_reducible refine (HAd.out _ tw).mono ?_); rintro e w3 ⟨a1, b1, c1, rfl, f1, uu⟩; have tw := bnext tw uu; have f2 := f2.next uu)
      | (go_at_call 46; (with_reducible refine (HSm.out _ _ _ _ _ _ _ f1 f2).mono ?_); rintro e w4 ⟨rfl, uu⟩; have tw := bnext tw uu; have f2 := f2.next uu))
    all_goals
      go_wp2_with (first
        | (go_at_call 89; (with_reducible refine (HLd.out _ _ _ _ tw f2).mono ?_); rintro e w5 ⟨rfl, ⟨p5, r5, hB⟩, y9⟩)
        | (go_at_call 8; (with_reducible refine (HOp.out _ _ _ hB).mono ?_); rintro e w6 hQ; obtain ⟨rfl, hQ⟩ := hQ))
      go_ret
      exact ⟨rfl, hQ⟩
end
end Go.Proofs.YthfnpagangjpbabGreat
