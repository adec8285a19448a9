/-
  Own work: FWalkC, FWalkD, FWalkE.
-/
import Derived.Deep.RegionHeld3
import Derived.Test.YthfnpagangjpbabGreatV19
namespace Go.Proofs.YthfnpagangjpbabGreat
open Go.RowKit
open Rc
attribute [local go_sem ↓] Go.wp_at_zero Go.wp_at_succ
theorem bdw {B : Nat} {w W : World} (h : Below B w W) : Below B w W.drew := ⟨h.os, h.tape, h.output, h.size, h.block⟩
theorem bset5 {w W : World} (h : Below w.heap.size w W) {g : Nat} (hg : w.heap.size ≤ g) (a b c d e : Value) : Below w.heap.size w (((((W.setCell ⟨g, 0, none⟩ a).setCell ⟨g, 1, none⟩ b).setCell ⟨g, 2, none⟩ c).setCell ⟨g, 3, none⟩ d).setCell ⟨g, 4, none⟩ e) :=
  Upo.below (S := fun _ => False) (((((Upo.of h).set g 0 a (.inr hg)).set g 1 b (.inr hg)).set g 2 c (.inr hg)).set g 3 d (.inr hg) |>.set g 4 e (.inr hg)) (Nat.le_refl _) (fun _ q => q.elim)
theorem set5_at {W : World} {g : Nat} {x0 x1 x2 x3 x4 : Value} {T : TypeId} (h : W.heap[g]? = some (.cells #[x0, x1, x2, x3, x4] T (0, 0))) (a b c d e : Value) : (((((W.setCell ⟨g, 0, none⟩ a).setCell ⟨g, 1, none⟩ b).setCell ⟨g, 2, none⟩ c).setCell ⟨g, 3, none⟩ d).setCell ⟨g, 4, none⟩ e).heap[g]? = some (.cells #[a, b, c, d, e] T (0, 0)) := by
  have h1 : (W.setCell ⟨g, 0, none⟩ a).heap[g]? = some (.cells #[a, x1, x2, x3, x4] T (0, 0)) := heap_setCell_same W g 0 _ _ a h
  have h2 : ((W.setCell ⟨g, 0, none⟩ a).setCell ⟨g, 1, none⟩ b).heap[g]? = some (.cells #[a, b, x2, x3, x4] T (0, 0)) := heap_setCell_same _ g 1 _ _ b h1
  have h3 : (((W.setCell ⟨g, 0, none⟩ a).setCell ⟨g, 1, none⟩ b).setCell ⟨g, 2, none⟩ c).heap[g]? = some (.cells #[a, b, c, x3, x4] T (0, 0)) := heap_setCell_same _ g 2 _ _ c h2
  have h4 : ((((W.setCell ⟨g, 0, none⟩ a).setCell ⟨g, 1, none⟩ b).setCell ⟨g, 2, none⟩ c).setCell ⟨g, 3, none⟩ d).heap[g]? = some (.cells #[a, b, c, d, x4] T (0, 0)) := heap_setCell_same _ g 3 _ _ d h3
  exact heap_setCell_same _ g 4 _ _ e h4
section
variable {q p : Nat} {T : Nat → Prop} {D : DV} {S : SV}
theorem chn_lt (c : BitVec 32) (s : List UInt8) (ss : List ByteArray) : chn c s ss < 4294967296 := crc_lt _
set_option maxRecDepth 100000 in
set_option maxHeartbeats 8000000 in
theorem fnext_any (w : World) (h : Sk w q p T D S) (s : ByteArray) (hs : s.size ≤ 1073741824) (ao : Option Addr) (b off len cap : Nat) (ss : List ByteArray) (hr : RdS w ao b off len ss) (hmx : len ≤ 9223372036854775807) (m : MV) (hm : nxM S.k S.ends S.chain s.data.toList ss = m) :
    Calls Tryz.prog 58 #[.pointer (some ⟨q, 0, none⟩), .string s, .slice ao len cap] w fun e w' => e = .returned (.agg (mC m)) ∧ Below w.heap.size w w' := by
  obtain ⟨hk1, hk2, hf, _, _, hl⟩ := h.small
  have hb := nn_le (S.ends.length + 1)
  have hlt := chn_lt S.chain s.data.toList ss
  obtain ⟨cv, hcv⟩ : ∃ c, chn S.chain s.data.toList ss = c := ⟨_, rfl⟩
  have hz := size_list s
  have em : mC m = #[.int .i64 (S.k : Int), .int .u64 ((S.ends.length : Int) + 1), .int .u64 ((lst S.ends : Int) + (s.size : Int)), .int .u64 ((nn (S.ends.length + 1) : Int) * 40), .int .u32 (cv : Int)] := by
    rw [← hm, mC, nxM, hz, hcv]
    simp only [BitVec.toNat_ofNat]
    rw [Nat.mod_eq_of_lt (by omega)]
    simp
  rw [em]
  obtain ⟨w1, hw1⟩ : ∃ W, w.alloc (.cells #[.int .i64 0, .int .u64 0, .int .u64 0, .int .u64 0, .int .u32 0] 100) = W := ⟨_, rfl⟩
  have u1 : Below w.heap.size w w1 := by rw [← hw1]; exact bal (Below.refl _ _) _
  obtain ⟨bo, hbo⟩ : ∃ b, w.heap.size = b := ⟨_, rfl⟩
  obtain ⟨ea, ec, hcs⟩ := h.seen
  have HC : Hid (∀ W, Below w.heap.size w W → W.cell? ⟨q, 1, none⟩ = some (.int .i64 (S.k : Int)) ∧ W.cell? ⟨q, 2, none⟩ = some (.slice ea S.ends.length ec) ∧ W.cell? ⟨q, 3, none⟩ = some (.int .u32 (S.chain.toNat : Int))) := fun W hW => ⟨(hcs W hW).2.1, (hcs W hW).2.2.1, (hcs W hW).2.2.2.1⟩
  have HS : Hid (∀ W, Below w.heap.size w W → Calls Tryz.prog 14 #[.pointer (some ⟨q, 0, none⟩)] W fun e w' => e = .returned (.int .u64 (S.ends.length : Int)) ∧ w' = W) := fun W hW => fsize_any W (h.next hW)
  have HL : Hid (∀ W, Below w.heap.size w W → Calls Tryz.prog 57 #[.pointer (some ⟨q, 0, none⟩), .string ⟨#[105, 116, 101, 109, 115]⟩] W fun e w' => e = .returned (.int .i64 (lst S.ends : Int)) ∧ w' = W) := fun W hW => length_items W (h.next hW)
  have HN : Hid (∀ W, Calls Tryz.prog 34 #[.int .i64 ((S.ends.length : Int) + 1)] W fun e w' => e = .returned (.int .u64 (nn (S.ends.length + 1) : Int)) ∧ w' = W) := fun W => by
    have := nodesof_any W (S.ends.length + 1) (by omega)
    rw [Int.natCast_add] at this
    exact this
  have HK : Hid (∀ W, Below w.heap.size w W → Calls Tryz.prog 106 #[.int .u32 (S.chain.toNat : Int), .string s, .slice ao len cap] W fun e w' => e = .returned (.int .u32 (cv : Int)) ∧ Below w.heap.size w w' ∧ Below W.heap.size W w') := fun W hW =>
    (chain_any W S.chain s (by omega) ao b off len cap ss (hr.next hW (Nat.le_refl _)) hmx cv hcv).mono fun e w' z => ⟨z.1, bnext hW z.2, z.2⟩
  clear hr hcs h hm em hcv hz hlt
  generalize S.chain.toNat = cc at *
  generalize nn (S.ends.length + 1) = m1 at *
  generalize lst S.ends = l1 at *
  generalize S.k = k at *
  generalize S.ends.length = n at *
  generalize hsz : s.size = sz at *
  have e1 : IntKind.u64.wrap ((n : Int) + 1) = (n : Int) + 1 := wrap_u _ (by omega) (by omega)
  have e2 : IntKind.i64.wrap ((n : Int) + 1) = (n : Int) + 1 := by rw [IntKind.wrap_i64]; omega
  have e3 : IntKind.i64.wrap ((l1 : Int) + (sz : Int)) = (l1 : Int) + (sz : Int) := by rw [IntKind.wrap_i64]; omega
  have e4 : IntKind.u64.wrap ((l1 : Int) + (sz : Int)) = (l1 : Int) + (sz : Int) := wrap_u _ (by omega) (by omega)
  have e5 : IntKind.u64.wrap ((m1 : Int) * 40) = (m1 : Int) * 40 := wrap_u _ (by omega) (by omega)
  have H5 : Hid (∀ W a b c d e, Below w.heap.size w W → Below w.heap.size w (((((W.setCell ⟨bo, 0, none⟩ a).setCell ⟨bo, 1, none⟩ b).setCell ⟨bo, 2, none⟩ c).setCell ⟨bo, 3, none⟩ d).setCell ⟨bo, 4, none⟩ e)) := fun W a b c d e hW => bset5 hW (by omega) a b c d e
  have HC5 : Hid (∀ W a b c d e, Below w.heap.size w W → (((((W.setCell ⟨bo, 0, none⟩ a).setCell ⟨bo, 1, none⟩ b).setCell ⟨bo, 2, none⟩ c).setCell ⟨bo, 3, none⟩ d).setCell ⟨bo, 4, none⟩ e).cell? ⟨q, 1, none⟩ = some (.int .i64 (k : Int)) ∧ (((((W.setCell ⟨bo, 0, none⟩ a).setCell ⟨bo, 1, none⟩ b).setCell ⟨bo, 2, none⟩ c).setCell ⟨bo, 3, none⟩ d).setCell ⟨bo, 4, none⟩ e).cell? ⟨q, 2, none⟩ = some (.slice ea n ec) ∧ (((((W.setCell ⟨bo, 0, none⟩ a).setCell ⟨bo, 1, none⟩ b).setCell ⟨bo, 2, none⟩ c).setCell ⟨bo, 3, none⟩ d).setCell ⟨bo, 4, none⟩ e).cell? ⟨q, 3, none⟩ = some (.int .u32 (cc : Int))) := fun W a b c d e hW => HC.out _ (H5.out W a b c d e hW)
  have HW := hide hw1
  have HB := hide hbo
  have hco : w1.heap[bo]? = some (.cells #[.int .i64 0, .int .u64 0, .int .u64 0, .int .u64 0, .int .u32 0] 100 (0, 0)) := by rw [← hw1, ← hbo]; exact new1 _ _
  have HO : Hid (∀ W, Below w1.drew.heap.size w1.drew W → ∀ j, W.frozen? ⟨bo, j, none⟩ = false) := fun W hW j => frozen_of_row W bo j _ _ ((hW.block bo (Array.getElem?_eq_some_iff.1 hco).1).trans hco)
  have HP : Hid (∀ W, Below w1.drew.heap.size w1.drew W → W.heap[bo]? = some (.cells #[.int .i64 0, .int .u64 0, .int .u64 0, .int .u64 0, .int .u32 0] 100 (0, 0))) := fun W hW => (hW.block bo (Array.getElem?_eq_some_iff.1 hco).1).trans hco
  clear hco
  clear hw1 hbo
  go_enter Tryz.func58, Tryz.ntmps58
  go_upto_region 1 with (fail)
  rw [HW.out, HB.out]
  have u := bdw u1
  go_region_held3 (fun Z => Z.cell? ⟨q, 1, none⟩ = some (.int .i64 (k : Int)) ∧ Z.cell? ⟨q, 2, none⟩ = some (.slice ea n ec) ∧ Z.cell? ⟨q, 3, none⟩ = some (.int .u32 (cc : Int))) (first | assumption | (with_reducible exact HC5.out _ _ _ _ _ _ u) | (with_reducible exact HC.out _ u)) (first
    | (go_at_call 14; (with_reducible refine (HS.out _ u).mono ?_); rintro e w2 ⟨rfl, rfl⟩)
    | (go_at_call 57; (with_reducible refine (HL.out _ u).mono ?_); rintro e w2 ⟨rfl, rfl⟩)
    | (go_at_call 34; (with_reducible refine (HN.out _).mono ?_); rintro e w2 ⟨rfl, rfl⟩)
    | (go_at_call 106; (with_reducible refine (HK.out _ u).mono ?_); rintro e w2 ⟨rfl, u, u2⟩; have hfz := HO.out _ u2; have ⟨b0, b1, b2, b3, b4⟩ := five_at (HP.out _ u2)))
  all_goals
    have z5 := H5.out w2 (.int .i64 (k : Int)) (.int .u64 ((n : Int) + 1)) (.int .u64 ((l1 : Int) + (sz : Int))) (.int .u64 ((m1 : Int) * 40)) (.int .u32 (cv : Int)) u
    have z6 := five_at (set5_at (HP.out _ u2) (.int .i64 (k : Int)) (.int .u64 ((n : Int) + 1)) (.int .u64 ((l1 : Int) + (sz : Int))) (.int .u64 ((m1 : Int) * 40)) (.int .u32 (cv : Int)))
    clear H5 HC5 HC HS HL HN HK HO HP hfz b0 b1 b2 b3 b4
    generalize (((((w2.setCell ⟨bo, 0, none⟩ (.int .i64 (k : Int))).setCell ⟨bo, 1, none⟩ (.int .u64 ((n : Int) + 1))).setCell ⟨bo, 2, none⟩ (.int .u64 ((l1 : Int) + (sz : Int)))).setCell ⟨bo, 3, none⟩ (.int .u64 ((m1 : Int) * 40))).setCell ⟨bo, 4, none⟩ (.int .u32 (cv : Int))) = wz at *
    obtain ⟨y0, y1, y2, y3, y4⟩ := z6
    repeat go_step
    exact bodyPost_ret (v := .agg #[.int .i64 (k : Int), .int .u64 ((n : Int) + 1), .int .u64 ((l1 : Int) + (sz : Int)), .int .u64 ((m1 : Int) * 40), .int .u32 (cv : Int)]) (by simp [results, Tryz.results58, go_sem, y0, y1, y2, y3, y4]) rfl ⟨rfl, z5⟩
end
end Go.Proofs.YthfnpagangjpbabGreat
namespace Go.Proofs.YthfnpagangjpbabGreat
open Go.RowKit
open Rc
attribute [local go_sem ↓] Go.wp_at_zero Go.wp_at_succ
section
variable {q p : Nat} {T : Nat → Prop} {D : DV} {S : SV}
theorem nn_mono (n : Nat) (h : n ≤ 65536) : nn n ≤ nn (n + 1) ∧ nn (n + 1) ≤ 131074 ∧ nn (n + 1) ≤ nn n + 41 := by
  have hb := nn_le (n + 1)
  unfold nn at hb ⊢
  obtain ⟨t, h40, h1, h2⟩ : ∃ t, t ≤ 40 ∧ n % Pl.pw t = Pl.pw t - 1 ∧ ¬ n / Pl.pw t % 2 = 1 := by
    suffices hh : ∀ f t, t + f = 40 → n % Pl.pw t = Pl.pw t - 1 → ∃ t, t ≤ 40 ∧ n % Pl.pw t = Pl.pw t - 1 ∧ ¬ n / Pl.pw t % 2 = 1 from hh 40 0 rfl (by rw [Pl.pw_zero]; omega)
    intro f
    induction f with
    | zero => intro t ht h0; exact ⟨t, by omega, h0, by rw [Nat.div_eq_of_lt (Nat.lt_of_lt_of_le (show n < 2 ^ 20 by omega) (Pl.pw_le (a := 20) (by omega)))]; decide⟩
    | succ f ih =>
      intro t ht h0
      by_cases ho : n / Pl.pw t % 2 = 1
      · exact ih (t + 1) (by omega) (Pl.ones_end_succ t n h0 ho)
      · exact ⟨t, by omega, h0, ho⟩
  rw [Pl.new_N t n h1 h2 (by omega)] at hb ⊢
  omega
theorem nxt_iff (S : SV) (ds : List ByteArray) : nxt S ds = true ↔ ds.length = nn (S.ends.length + 1) - nn S.ends.length ∧ ∀ d ∈ ds, d.size = S.k := by
  simp [nxt]
set_option maxRecDepth 100000 in
theorem arenext_any (w : World) (h : Sk w q p T D S) (hfew : S.ends.length < 65536) (ao : Option Addr) (b off len cap : Nat) (ds : List ByteArray) (hr : RdS w ao b off len ds) (hmx : len ≤ 9223372036854775807) (r : Bool) (hR : nxt S ds = r) :
    Calls Tryz.prog 102 #[.pointer (some ⟨q, 0, none⟩), .slice ao len cap] w fun e w' => e = .returned (.bool r) ∧ w' = w := by
  obtain ⟨ea, ec, ⟨c0, c1, c2, c3, c4⟩, _⟩ := h.cells
  obtain ⟨hk1, hk2, hf, _⟩ := h.small
  have hm := nn_mono S.ends.length hf
  have HN : Hid (Calls Tryz.prog 34 #[.int .i64 (S.ends.length : Int)] w fun e w' => e = .returned (.int .u64 (nn S.ends.length : Int)) ∧ w' = w) := nodesof_any w S.ends.length (by omega)
  have HN1 : Hid (Calls Tryz.prog 34 #[.int .i64 ((S.ends.length : Int) + 1)] w fun e w' => e = .returned (.int .u64 (nn (S.ends.length + 1) : Int)) ∧ w' = w) := by
    have := nodesof_any w (S.ends.length + 1) (by omega)
    rw [Int.natCast_add] at this
    exact this
  have hx : nxt S ds = true ↔ len = nn (S.ends.length + 1) - nn S.ends.length ∧ ∀ d ∈ ds, d.size = S.k := by rw [nxt_iff, hr.hl]
  clear h
  generalize nxt S ds = x0 at *
  subst hR
  generalize nn (S.ends.length + 1) = m1 at *
  generalize nn S.ends.length = m0 at *
  generalize S.k = k at *
  generalize S.ends.length = n at *
  have e1 : IntKind.i64.wrap ((n : Int) + 1) = (n : Int) + 1 := by rw [IntKind.wrap_i64]; omega
  have e2 : IntKind.u64.wrap (len : Int) = (len : Int) := wrap_u _ (by omega) (by omega)
  have e3 : IntKind.u64.wrap ((m1 : Int) - (m0 : Int)) = ((m1 - m0 : Nat) : Int) := by rw [wrap_u _ (by omega) (by omega)]; omega
  by_cases hl : len = m1 - m0
  · have hd : (((len : Int)) != ((m1 - m0 : Nat) : Int)) = false := by simp [hl]
    have hd2 : ((len : Int)) = ((m1 - m0 : Nat) : Int) := by omega
    generalize m1 - m0 = m at *
    subst hl
    go_enter Tryz.func102, Tryz.ntmps102
    go_wp2_with (go_at_call 34; first | ((with_reducible refine HN.out.mono ?_); rintro e w1 ⟨rfl, rfl⟩) | ((with_reducible refine HN1.out.mono ?_); rintro e w1 ⟨rfl, rfl⟩))
    go_loopg [25] len (fun g x wr => ∃ j : Nat, j ≤ len ∧ g = len - j ∧ x = .int .i64 (j : Int) ∧ Hid (∀ d ∈ ds.take j, d.size = k) ∧ wr = w1)
    case atStart =>
      go_light
      exact ⟨0, Nat.zero_le _, rfl, rfl, fun d hd => by simp at hd, rfl⟩
    case round =>
      obtain ⟨j, hj, rfl, rfl, HA, rfl⟩ := hrel
      by_cases hlt : j < len
      · have hz : (j : Int) < (len : Int) := by omega
        obtain rfl := hr.ptr (by omega)
        have ck := hr.at hlt
        have hw : IntKind.i64.wrap ((j : Int) + 1) = (j : Int) + 1 := by rw [IntKind.wrap_i64]; omega
        obtain ⟨d, hd0⟩ : ∃ d, ds.getD j ByteArray.empty = d := ⟨_, rfl⟩
        have hds : j < ds.length := by rw [hr.hl]; exact hlt
        have hdm : d ∈ ds := by rw [← hd0, List.getD_eq_getElem?_getD, List.getElem?_eq_getElem hds]; exact List.getElem_mem _
        have htk : ds.take (j + 1) = ds.take j ++ [d] := by rw [← hd0, List.take_succ_eq_append_getElem hds, List.getD_eq_getElem?_getD, List.getElem?_eq_getElem hds]; rfl
        rw [hd0] at ck
        by_cases he : d.size = k
        · have hd3 : ((d.size : Int) != (k : Int)) = false := by simp [he]
          have hd4 : (d.size : Int) = (k : Int) := by omega
          have HA2 : Hid (∀ d ∈ ds.take (j + 1), d.size = k) := fun y hy => by
            rw [htk] at hy
            rcases List.mem_append.1 hy with h | h
            · exact HA.out y h
            · rw [List.mem_singleton.1 h]; exact he
          clear hr hx HA htk
          go_wp2
          go_roundg (len - (j + 1))
          case rel =>
            go_light
            exact ⟨j + 1, by omega, rfl, by go_num, HA2, rfl⟩
          case measure => go_light; omega
        · have hd3 : ((d.size : Int) != (k : Int)) = true := by simp; omega
          have hd4 : ¬ (d.size : Int) = (k : Int) := by omega
          have hxf : x0 = false := by
            cases x0 with
            | false => rfl
            | true => exact absurd ((hx.1 rfl).2 d hdm) he
          subst hxf
          clear hr hx HA htk
          go_wp2
          go_ret
          first | exact ⟨rfl, rfl⟩ | exact ⟨trivial, rfl⟩
      · have hz : ¬ (j : Int) < (len : Int) := by omega
        have hxt : x0 = true := hx.2 ⟨by trivial, fun d hd => HA.out d (by rw [List.take_of_length_le (by rw [hr.hl]; omega)]; exact hd)⟩
        subst hxt
        clear hr hx HA
        go_wp2
        go_ret
        exact ⟨rfl, rfl⟩
  · have hd : (((len : Int)) != ((m1 - m0 : Nat) : Int)) = true := by simp; omega
    have hd2 : ¬ ((len : Int)) = ((m1 - m0 : Nat) : Int) := by omega
    have hxf : x0 = false := by
      cases x0 with
      | false => rfl
      | true => exact absurd (hx.1 rfl).1 hl
    subst hxf
    generalize m1 - m0 = m at *
    clear hx
    go_enter Tryz.func102, Tryz.ntmps102
    go_wp2_with (go_at_call 34; first | ((with_reducible refine HN.out.mono ?_); rintro e w1 ⟨rfl, rfl⟩) | ((with_reducible refine HN1.out.mono ?_); rintro e w1 ⟨rfl, rfl⟩))
    go_ret
    exact ⟨rfl, rfl⟩
def refE (S : SV) (item : List UInt8) (ds : List ByteArray) : Int :=
  if S.lame then 191 else if 1048576 < item.length then 100 else if 65536 ≤ S.ends.length then 101 else if nxt S ds = false then 192 else 0
set_option maxRecDepth 100000 in
theorem refuses_any (w : World) (h : Sk w q p T D S) (s : ByteArray) (hs : s.size ≤ 9223372036854775807) (ao : Option Addr) (b off len cap : Nat) (ds : List ByteArray) (hr : RdS w ao b off len ds) (hmx : len ≤ 9223372036854775807) (r : Int) (hR : refE S s.data.toList ds = r) :
    Calls Tryz.prog 54 #[.pointer (some ⟨q, 0, none⟩), .string s, .slice ao len cap] w fun e w' => e = .returned (.int .i64 r) ∧ w' = w := by
  obtain ⟨ea, ec, ⟨c0, c1, c2, c3, c4⟩, _⟩ := h.cells
  obtain ⟨hk1, hk2, hf, _⟩ := h.small
  unfold refE at hR
  rw [size_list] at hR
  by_cases h1 : S.lame = true
  · rw [if_pos h1] at hR
    subst hR
    rw [h1] at c4
    clear h hr
    go_enter Tryz.func54, Tryz.ntmps54
    go_wp2
    go_ret
    exact ⟨rfl, rfl⟩
  · rw [if_neg h1] at hR
    rw [Bool.eq_false_iff.2 h1] at c4
    by_cases h2 : 1048576 < s.size
    · rw [if_pos h2] at hR
      subst hR
      have hd : (1048576 : Int) < (s.size : Int) := by omega
      clear h hr
      go_enter Tryz.func54, Tryz.ntmps54
      go_wp2
      go_ret
      exact ⟨rfl, rfl⟩
    · rw [if_neg h2] at hR
      have hd : ¬ (1048576 : Int) < (s.size : Int) := by omega
      by_cases h3 : 65536 ≤ S.ends.length
      · rw [if_pos h3] at hR
        subst hR
        have hd2 : (65536 : Int) ≤ (S.ends.length : Int) := by omega
        generalize S.ends.length = n at *
        clear h hr
        go_enter Tryz.func54, Tryz.ntmps54
        go_wp2
        go_ret
        exact ⟨rfl, rfl⟩
      · rw [if_neg h3] at hR
        have hd2 : ¬ (65536 : Int) ≤ (S.ends.length : Int) := by omega
        by_cases h4 : nxt S ds = false
        · rw [if_pos h4] at hR
          subst hR
          have HN := hide (arenext_any w h (by omega) ao b off len cap ds hr hmx _ h4)
          generalize S.ends.length = n at *
          clear h hr
          go_enter Tryz.func54, Tryz.ntmps54
          go_wp2_with (go_at_call 102; refine HN.out.mono ?_; rintro e w1 ⟨rfl, rfl⟩)
          go_ret
          exact ⟨rfl, rfl⟩
        · rw [if_neg h4] at hR
          subst hR
          have HN := hide (arenext_any w h (by omega) ao b off len cap ds hr hmx true (by simpa using h4))
          generalize S.ends.length = n at *
          clear h hr
          go_enter Tryz.func54, Tryz.ntmps54
          go_wp2_with (go_at_call 102; refine HN.out.mono ?_; rintro e w1 ⟨rfl, rfl⟩)
          go_ret
          exact ⟨rfl, rfl⟩
end
end Go.Proofs.YthfnpagangjpbabGreat
namespace Go.Proofs.YthfnpagangjpbabGreat
open Go.RowKit
open Rc
attribute [local go_sem ↓] Go.wp_at_zero Go.wp_at_succ
theorem make_texts (n : Nat) (hn : n ≤ 8796093021952) (u : World) : (Instr.makeSlice 48 (.int .i64 (n : Int)) (.int .i64 (n : Int))).run Tryz.prog u = .ok (.slice (some ⟨u.heap.size, 0, none⟩) n n) (u.alloc (.cells (Array.replicate n (Value.string ByteArray.empty)) 9)) := by
  have := run_make_row' (P := Tryz.prog) 48 9 (.string ByteArray.empty) 16 Tryz.underlying48 Rc.Tryz.infoS rfl .i64 .i64 n (by omega) (by omega) u
  rw [this, Rc.madeCells_one]
theorem owns_made (w : World) (n : Nat) (hn : n ≤ 8796093021952) : OwnS (w.alloc (.cells (Array.replicate n (Value.string ByteArray.empty)) 9)) w.heap.size (.slice (some ⟨w.heap.size, 0, none⟩) n n) (List.replicate n ByteArray.empty) := by
  refine ⟨by simp, .inr ⟨w.heap.size, n, Array.replicate n (Value.string ByteArray.empty), by simp, Nat.le_refl _, new1 _ _, by simp, by unfold maxLen; omega, by simp, by simp⟩⟩
theorem recs_len (p : Nat) (ds : List ByteArray) : (recs p ds).length = ds.length := by simp [recs]
theorem recs_snoc (p : Nat) (ds : List ByteArray) (d : ByteArray) : recs p (ds ++ [d]) = recs p ds ++ [tx (nod (p + ds.length) d.data.toList)] := by simp [recs]
theorem noderecs_any (w : World) {q p : Nat} {T : Nat → Prop} {D : DV} {S : SV} (h : Sk w q p T D S) (ao : Option Addr) (b off len cap : Nat) (ds : List ByteArray) (hr : RdS w ao b off len ds) (hmx : len ≤ 1000) (h32 : ∀ d ∈ ds, d.size ≤ 32) :
    Calls Tryz.prog 56 #[.pointer (some ⟨q, 0, none⟩), .slice ao len cap] w fun e w' => ∃ v, e = .returned v ∧ OwnS w' w.heap.size v (recs (nn S.ends.length) ds) ∧ Below w.heap.size w w' := by
  obtain ⟨ea, ec, ⟨c0, c1, c2, c3, c4⟩, _⟩ := h.cells
  obtain ⟨hk1, hk2, hf, _⟩ := h.small
  have HN := hide (nodesof_any w S.ends.length (by omega))
  have hb := nn_le S.ends.length
  clear h
  generalize nn S.ends.length = m at *
  generalize S.ends.length = n at *
  have HM := make_texts len (by omega) w
  have HO := hide (owns_made w len (by omega))
  have u0 : Below w.heap.size w (w.alloc (.cells (Array.replicate len (Value.string ByteArray.empty)) 9)) := bal (Below.refl _ _) _
  have HU := hide u0
  obtain ⟨w1, hw1⟩ : ∃ W, w.alloc (.cells (Array.replicate len (Value.string ByteArray.empty)) 9) = W := ⟨_, rfl⟩
  rw [hw1] at HM HO HU
  clear hw1 u0
  obtain ⟨g, hg⟩ : ∃ g, w.heap.size = g := ⟨_, rfl⟩
  have HG := hide hg
  rw [hg] at HM HO
  have HB : Hid (∀ W, Below w.heap.size w W → RdS W ao b off len ds) := fun W hW => hr.next hW (Nat.le_refl _)
  have hl := hr.hl
  have hp := hr.ptr
  clear hg hr
  go_enter Tryz.func56, Tryz.ntmps56
  go_wp2_with (go_at_call 34; refine HN.out.mono ?_; rintro e w2 ⟨rfl, rfl⟩)
  go_loopg [20] len (fun g' x wr => ∃ j : Nat, j ≤ len ∧ g' = len - j ∧ x = .int .i64 (j : Int) ∧ Hid (OwnS wr g (.slice (some ⟨g, 0, none⟩) len len) (recs m (ds.take j) ++ List.replicate (len - j) ByteArray.empty)) ∧ Hid (Below w2.heap.size w2 wr))
  case atStart =>
    go_light
    exact ⟨0, Nat.zero_le _, rfl, rfl, HO, HU⟩
  case round =>
    obtain ⟨j, hj, rfl, rfl, HA, HW⟩ := hrel
    by_cases hlt : j < len
    · have hz : (j : Int) < (len : Int) := by omega
      obtain rfl := hp (by omega)
      have ck := (HB.out _ HW.out).at hlt
      obtain ⟨d, hd0⟩ : ∃ d, ds.getD j ByteArray.empty = d := ⟨_, rfl⟩
      have hds : j < ds.length := by omega
      have hdm : d ∈ ds := by rw [← hd0, List.getD_eq_getElem?_getD, List.getElem?_eq_getElem hds]; exact List.getElem_mem _
      have htk : ds.take (j + 1) = ds.take j ++ [d] := by rw [← hd0, List.take_succ_eq_append_getElem hds, List.getD_eq_getElem?_getD, List.getElem?_eq_getElem hds]; rfl
      rw [hd0] at ck
      have hw : IntKind.i64.wrap ((j : Int) + 1) = (j : Int) + 1 := by rw [IntKind.wrap_i64]; omega
      have hw2 : IntKind.u64.wrap (j : Int) = (j : Int) := wrap_u _ (by omega) (by omega)
      have hw3 : IntKind.u64.wrap ((m : Int) + (j : Int)) = ((m + j : Nat) : Int) := by rw [wrap_u _ (by omega) (by omega)]; omega
      have hd32 := h32 d hdm
      obtain ⟨tn, htn⟩ : ∃ t, tx (nod (m + j) d.data.toList) = t := ⟨_, rfl⟩
      have HC : Hid (Calls Tryz.prog 85 #[.int .u64 ((m + j : Nat) : Int), .string d] wr fun e w' => e = .returned (.string tn) ∧ Below wr.heap.size wr w') := node_any wr (m + j) (by omega) d (by omega) tn (by rw [nodS, size_list, if_pos hd32]; exact htn)
      have HA2 : Hid (∀ W, Below wr.heap.size wr W → (W.frozen? ⟨g, j, none⟩ = false ∧ ∃ x, W.cell? ⟨g, j, none⟩ = some (.string x)) ∧ OwnS (W.setCell ⟨g, j, none⟩ (.string tn)) g (.slice (some ⟨g, 0, none⟩) len len) (recs m (ds.take (j + 1)) ++ List.replicate (len - (j + 1)) ByteArray.empty) ∧ Below w2.heap.size w2 (W.setCell ⟨g, j, none⟩ (.string tn))) := fun W hW => by
        have ho := own_next HA.out hW (Nat.le_refl _)
        have hjl : j < (recs m (ds.take j) ++ List.replicate (len - j) ByteArray.empty).length := by simp [recs_len]; omega
        have hoc := own_cell ho hjl
        refine ⟨⟨hoc.2, _, hoc.1⟩, ?_, (bnext HW.out hW).setCell (by rw [HG.out]; exact Nat.le_refl _) _⟩
        have := own_set ho j tn
        have hj2 : (recs m (ds.take j)).length = j := by rw [recs_len, List.length_take]; omega
        have hj3 : (ds.take j).length = j := by rw [List.length_take]; omega
        rw [htk, recs_snoc, hj3, htn, show len - j = (len - (j + 1)) + 1 by omega, List.replicate_succ] at *
        rw [List.set_append_right _ _ (by omega), hj2, Nat.sub_self, List.set_cons_zero] at this
        rw [List.append_assoc]
        exact this
      clear HA HW htk HB hd0
      go_wp2_with (go_at_call 85; refine HC.out.mono ?_; rintro e w3 ⟨rfl, u3⟩; have ⟨⟨f1, x1, f2⟩, _⟩ := HA2.out _ u3)
      go_roundg (len - (j + 1))
      case rel =>
        go_light
        exact ⟨j + 1, by omega, rfl, by go_num, (HA2.out _ u3).2.1, (HA2.out _ u3).2.2⟩
      case measure => go_light; omega
    · have hz : ¬ (j : Int) < (len : Int) := by omega
      have HZ : Hid (OwnS wr w2.heap.size (.slice (some ⟨g, 0, none⟩) len len) (recs m ds) ∧ Below w2.heap.size w2 wr) := by
        have := HA.out
        rw [List.take_of_length_le (by omega), show len - j = 0 by omega, List.replicate_zero, List.append_nil] at this
        exact ⟨by rw [HG.out]; exact this, HW.out⟩
      clear HA HW HB
      go_wp2
      go_ret
      exact ⟨_, rfl, HZ.out⟩
end Go.Proofs.YthfnpagangjpbabGreat
