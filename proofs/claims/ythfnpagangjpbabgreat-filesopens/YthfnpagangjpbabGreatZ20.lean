/-
  next. Own work.
-/
import Derived.Test.YthfnpagangjpbabGreatZ19
import Derived.Test.YthfnpagangjpbabGreatZ03
import Derived.Deep.RegionHeld3
namespace Go.Proofs.YthfnpagangjpbabGreat
open Go.RowKit
open Rc
attribute [local go_sem ↓] Go.wp_at_zero Go.wp_at_succ
theorem bdw {B : Nat} {w W : World} (h : Below B w W) : Below B w W.drew := ⟨h.os, h.tape, h.output, h.size, h.block⟩
theorem bset5 {w W : World} (h : Below w.heap.size w W) {g : Nat} (hg : w.heap.size ≤ g) (a b c d e : Value) : Below w.heap.size w (((((W.setCell ⟨g, 0, none⟩ a).setCell ⟨g, 1, none⟩ b).setCell ⟨g, 2, none⟩ c).setCell ⟨g, 3, none⟩ d).setCell ⟨g, 4, none⟩ e) :=
  Upo.below (S := fun _ => False) (((((Upo.of h).set g 0 a (.inr hg)).set g 1 b (.inr hg)).set g 2 c (.inr hg)).set g 3 d (.inr hg) |>.set g 4 e (.inr hg)) (Nat.le_refl _) (fun _ q => q.elim)
theorem set5_at {W : World} {g : Nat} {x0 x1 x2 x3 x4 : Value} {T : TypeId} (h : W.heap[g]? = some (.cells #[x0, x1, x2, x3, x4] T (0, 0))) (a b c d e : Value) : (((((W.setCell ⟨g, 0, none⟩ a).setCell ⟨g, 1, none⟩ b).setCell ⟨g, 2, none⟩ c).setCell ⟨g, 3, none⟩ d).setCell ⟨g, 4, none⟩ e).heap[g]? = some (.cells #[a, b, c, d, e] T (0, 0)) := by
  have h1 : (W.setCell ⟨g, 0, none⟩ a).heap[g]? = some (.cells #[a, x1, x2, x3, x4] T (0, 0)) := heap_setCell_same W g 0 _ _ a h
  have h2 : ((W.setCell ⟨g, 0, none⟩ a).setCell ⟨g, 1, none⟩ b).heap[g]? = some (.cells #[a, b, x2, x3, x4] T (0, 0)) := heap_setCell_same _ g 1 _ _ b h1
  have h3 : (((W.setCell ⟨g, 0, none⟩ a).setCell ⟨g, 1, none⟩ b).setCell ⟨g, 2, none⟩ c).heap[g]? = some (.cells #[a, b, c, x3, x4] T (0, 0)) := heap_setCell_same _ g 2 _ _ c h2
  have h4 : ((((W.setCell ⟨g, 0, none⟩ a).setCell ⟨g, 1, none⟩ b).setCell ⟨g, 2, none⟩ c).setCell ⟨g, 3, none⟩ d).heap[g]? = some (.cells #[a, b, c, d, x4] T (0, 0)) := heap_setCell_same _ g 3 _ _ d h3
  exact heap_setCell_same _ g 4 _ _ e h4
section
variable {q p : Nat} {T : Nat → Prop} {D : DV} {S : SV}
theorem chn_lt (c : BitVec 32) (s : List UInt8) (ss : List ByteArray) : chn c s ss < 4294967296 := crc_lt _
set_option maxRecDepth 100000 in
set_option maxHeartbeats 8000000 in
theorem fnext_any (w : World) (h : Sk w q p T D S) (s : ByteArray) (hs : s.size ≤ 1073741824) (ao : Option Addr) (b off len cap : Nat) (ss : List ByteArray) (hr : RdS w ao b off len ss) (hmx : len ≤ 9223372036854775807) (m : MV) (hm : nxM S.k S.ends S.chain s.data.toList ss = m) :
    Calls Tryz.prog 58 #[.pointer (some ⟨q, 0, none⟩), .string s, .slice ao len cap] w fun e w' => e = .returned (.agg (mC m)) ∧ Below w.heap.size w w' := by
  obtain ⟨hk1, hk2, hf, _, _, hl⟩ := h.small
  have hb := nn_le (S.ends.length + 1)
  have hlt := chn_lt S.chain s.data.toList ss
  obtain ⟨cv, hcv⟩ : ∃ c, chn S.chain s.data.toList ss = c := ⟨_, rfl⟩
  have hz := size_list s
  have em : mC m = #[.int .i64 (S.k : Int), .int .u64 ((S.ends.length : Int) + 1), .int .u64 ((lst S.ends : Int) + (s.size : Int)), .int .u64 ((nn (S.ends.length + 1) : Int) * 40), .int .u32 (cv : Int)] := by
    rw [← hm, mC, nxM, hz, hcv]
    simp only [BitVec.toNat_ofNat]
    rw [Nat.mod_eq_of_lt (by omega)]
    simp
  rw [em]
  obtain ⟨w1, hw1⟩ : ∃ W, w.alloc (.cells #[.int .i64 0, .int .u64 0, .int .u64 0, .int .u64 0, .int .u32 0] 100) = W := ⟨_, rfl⟩
  have u1 : Below w.heap.size w w1 := by rw [← hw1]; exact bal (Below.refl _ _) _
  obtain ⟨bo, hbo⟩ : ∃ b, w.heap.size = b := ⟨_, rfl⟩
  obtain ⟨ea, ec, hcs⟩ := h.seen
  have HC : Hid (∀ W, Below w.heap.size w W → W.cell? ⟨q, 1, none⟩ = some (.int .i64 (S.k : Int)) ∧ W.cell? ⟨q, 2, none⟩ = some (.slice ea S.ends.length ec) ∧ W.cell? ⟨q, 3, none⟩ = some (.int .u32 (S.chain.toNat : Int))) := fun W hW => ⟨(hcs W hW).2.1, (hcs W hW).2.2.1, (hcs W hW).2.2.2.1⟩
  have HS : Hid (∀ W, Below w.heap.size w W → Calls Tryz.prog 14 #[.pointer (some ⟨q, 0, none⟩)] W fun e w' => e = .returned (.int .u64 (S.ends.length : Int)) ∧ w' = W) := fun W hW => fsize_any W (h.next hW)
  have HL : Hid (∀ W, Below w.heap.size w W → Calls Tryz.prog 57 #[.pointer (some ⟨q, 0, none⟩), .string ⟨#[105, 116, 101, 109, 115]⟩] W fun e w' => e = .returned (.int .i64 (lst S.ends : Int)) ∧ w' = W) := fun W hW => length_items W (h.next hW)
  have HN : Hid (∀ W, Calls Tryz.prog 34 #[.int .i64 ((S.ends.length : Int) + 1)] W fun e w' => e = .returned (.int .u64 (nn (S.ends.length + 1) : Int)) ∧ w' = W) := fun W => by
    have := nodesof_any W (S.ends.length + 1) (by omega)
    rw [Int.natCast_add] at this
    exact this
  have HK : Hid (∀ W, Below w.heap.size w W → Calls Tryz.prog 106 #[.int .u32 (S.chain.toNat : Int), .string s, .slice ao len cap] W fun e w' => e = .returned (.int .u32 (cv : Int)) ∧ Below w.heap.size w w' ∧ Below W.heap.size W w') := fun W hW =>
    (chain_any W S.chain s (by omega) ao b off len cap ss (hr.next hW (Nat.le_refl _)) hmx cv hcv).mono fun e w' z => ⟨z.1, bnext hW z.2, z.2⟩
  clear hr hcs h hm em hcv hz hlt
  generalize S.chain.toNat = cc at *
  generalize nn (S.ends.length + 1) = m1 at *
  generalize lst S.ends = l1 at *
  generalize S.k = k at *
  generalize S.ends.length = n at *
  generalize hsz : s.size = sz at *
  have e1 : IntKind.u64.wrap ((n : Int) + 1) = (n : Int) + 1 := wrap_u _ (by omega) (by omega)
  have e2 : IntKind.i64.wrap ((n : Int) + 1) = (n : Int) + 1 := by rw [IntKind.wrap_i64]; omega
  have e3 : IntKind.i64.wrap ((l1 : Int) + (sz : Int)) = (l1 : Int) + (sz : Int) := by rw [IntKind.wrap_i64]; omega
  have e4 : IntKind.u64.wrap ((l1 : Int) + (sz : Int)) = (l1 : Int) + (sz : Int) := wrap_u _ (by omega) (by omega)
  have e5 : IntKind.u64.wrap ((m1 : Int) * 40) = (m1 : Int) * 40 := wrap_u _ (by omega) (by omega)
  have H5 : Hid (∀ W a b c d e, Below w.heap.size w W → Below w.heap.size w (((((W.setCell ⟨bo, 0, none⟩ a).setCell ⟨bo, 1, none⟩ b).setCell ⟨bo, 2, none⟩ c).setCell ⟨bo, 3, none⟩ d).setCell ⟨bo, 4, none⟩ e)) := fun W a b c d e hW => bset5 hW (by omega) a b c d e
  have HC5 : Hid (∀ W a b c d e, Below w.heap.size w W → (((((W.setCell ⟨bo, 0, none⟩ a).setCell ⟨bo, 1, none⟩ b).setCell ⟨bo, 2, none⟩ c).setCell ⟨bo, 3, none⟩ d).setCell ⟨bo, 4, none⟩ e).cell? ⟨q, 1, none⟩ = some (.int .i64 (k : Int)) ∧ (((((W.setCell ⟨bo, 0, none⟩ a).setCell ⟨bo, 1, none⟩ b).setCell ⟨bo, 2, none⟩ c).setCell ⟨bo, 3, none⟩ d).setCell ⟨bo, 4, none⟩ e).cell? ⟨q, 2, none⟩ = some (.slice ea n ec) ∧ (((((W.setCell ⟨bo, 0, none⟩ a).setCell ⟨bo, 1, none⟩ b).setCell ⟨bo, 2, none⟩ c).setCell ⟨bo, 3, none⟩ d).setCell ⟨bo, 4, none⟩ e).cell? ⟨q, 3, none⟩ = some (.int .u32 (cc : Int))) := fun W a b c d e hW => HC.out _ (H5.out W a b c d e hW)
  have HW := hide hw1
  have HB := hide hbo
  have hco : w1.heap[bo]? = some (.cells #[.int .i64 0, .int .u64 0, .int .u64 0, .int .u64 0, .int .u32 0] 100 (0, 0)) := by rw [← hw1, ← hbo]; exact new1 _ _
  have HO : Hid (∀ W, Below w1.drew.heap.size w1.drew W → ∀ j, W.frozen? ⟨bo, j, none⟩ = false) := fun W hW j => frozen_of_row W bo j _ _ ((hW.block bo (Array.getElem?_eq_some_iff.1 hco).1).trans hco)
  have HP : Hid (∀ W, Below w1.drew.heap.size w1.drew W → W.heap[bo]? = some (.cells #[.int .i64 0, .int .u64 0, .int .u64 0, .int .u64 0, .int .u32 0] 100 (0, 0))) := fun W hW => (hW.block bo (Array.getElem?_eq_some_iff.1 hco).1).trans hco
  clear hco
  clear hw1 hbo
  go_enter Tryz.func58, Tryz.ntmps58
  go_upto_region 1 with (fail)
  rw [HW.out, HB.out]
  have u := bdw u1
  go_region_held3 (fun Z => Z.cell? ⟨q, 1, none⟩ = some (.int .i64 (k : Int)) ∧ Z.cell? ⟨q, 2, none⟩ = some (.slice ea n ec) ∧ Z.cell? ⟨q, 3, none⟩ = some (.int .u32 (cc : Int))) (first | assumption | (with_reducible exact HC5.out _ _ _ _ _ _ u) | (with_reducible exact HC.out _ u)) (first
    | (go_at_call 14; (with_reducible refine (HS.out _ u).mono ?_); rintro e w2 ⟨rfl, rfl⟩)
    | (go_at_call 57; (with_reducible refine (HL.out _ u).mono ?_); rintro e w2 ⟨rfl, rfl⟩)
    | (go_at_call 34; (with_reducible refine (HN.out _).mono ?_); rintro e w2 ⟨rfl, rfl⟩)
    | (go_at_call 106; (with_reducible refine (HK.out _ u).mono ?_); rintro e w2 ⟨rfl, u, u2⟩; have hfz := HO.out _ u2; have ⟨b0, b1, b2, b3, b4⟩ := five_at (HP.out _ u2)))
  all_goals
    have z5 := H5.out w2 (.int .i64 (k : Int)) (.int .u64 ((n : Int) + 1)) (.int .u64 ((l1 : Int) + (sz : Int))) (.int .u64 ((m1 : Int) * 40)) (.int .u32 (cv : Int)) u
    have z6 := five_at (set5_at (HP.out _ u2) (.int .i64 (k : Int)) (.int .u64 ((n : Int) + 1)) (.int .u64 ((l1 : Int) + (sz : Int))) (.int .u64 ((m1 : Int) * 40)) (.int .u32 (cv : Int)))
    clear H5 HC5 HC HS HL HN HK HO HP hfz b0 b1 b2 b3 b4
    generalize (((((w2.setCell ⟨bo, 0, none⟩ (.int .i64 (k : Int))).setCell ⟨bo, 1, none⟩ (.int .u64 ((n : Int) + 1))).setCell ⟨bo, 2, none⟩ (.int .u64 ((l1 : Int) + (sz : Int)))).setCell ⟨bo, 3, none⟩ (.int .u64 ((m1 : Int) * 40))).setCell ⟨bo, 4, none⟩ (.int .u32 (cv : Int))) = wz at *
    obtain ⟨y0, y1, y2, y3, y4⟩ := z6
    repeat go_step
    exact bodyPost_ret (v := .agg #[.int .i64 (k : Int), .int .u64 ((n : Int) + 1), .int .u64 ((l1 : Int) + (sz : Int)), .int .u64 ((m1 : Int) * 40), .int .u32 (cv : Int)]) (by simp [results, Tryz.results58, go_sem, y0, y1, y2, y3, y4]) rfl ⟨rfl, z5⟩
end
end Go.Proofs.YthfnpagangjpbabGreat
