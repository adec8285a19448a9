/-
  FilesRefused. Own work.
-/
import Derived.Test.YthfnpagangjpbaaGreatZ37
namespace Go.Proofs.YthfnpagangjpbaaGreat
open Go.RowKit
open Rc
attribute [local go_sem ↓] Go.wp_at_zero Go.wp_at_succ
theorem zer_sz (n : Nat) : (tx (zer n)).size = n := by rw [tx_size, zer_len]
theorem long_made (w : World) (n : Nat) (hn : n ≤ 140737488355328) : ∃ g w1, (Instr.makeSlice 39 (.int .i64 (n : Int)) (.int .i64 (n : Int))).run Tryz.prog w = .ok (.slice (some ⟨g, 0, none⟩) n n) w1 ∧ (convert 39 9 (.slice (some ⟨g, 0, none⟩) n n)).run Tryz.prog w1 = .ok (.string (tx (zer n))) w1 ∧ Below w.heap.size w w1 := by
  refine ⟨w.heap.size, _, make_bytes n hn w, ?_, bal (Below.refl _ _) _⟩
  exact (byt_made w n).conv (k := 0) (n := n) (by rw [zer_len]; omega) 0 (fun _ => rfl) n _ (by rw [List.drop_zero, List.take_of_length_le (by rw [zer_len]; exact Nat.le_refl _)]; rfl)
/-- Right so far. -/
def rgB (len m k : Nat) (l : List ByteArray) : Bool := len == m && l.all fun d => d.size == k
theorem rgB_iff (len m k : Nat) (l : List ByteArray) : rgB len m k l = true ↔ len = m ∧ ∀ d ∈ l, d.size = k := by simp [rgB]
theorem rgB_snoc (len m k : Nat) (l : List ByteArray) (d : ByteArray) : rgB len m k (l ++ [d]) = (rgB len m k l && d.size == k) := by simp [rgB, Bool.and_assoc]
theorem rgB_nil (len m k : Nat) : rgB len m k [] = (len == m) := by simp [rgB]
theorem beq_cast (a b : Nat) : ((a : Int) == (b : Int)) = (a == b) := by
  by_cases h : a = b
  · simp [h]
  · rw [beq_eq_false_iff_ne.2 h]; simp; omega
/-- What FilesRefused's Adds come to. -/
theorem ref_long {D : DV} {S : SV} (hl : S.lame = false) (x : List UInt8) (hx : 1048576 < x.length) (ds : List ByteArray) : addD D S x ds = (D, S, 100) := by
  have hr : refD S x ds = 100 := by
    unfold refD
    rw [if_neg (by rw [hl]; exact Bool.false_ne_true), if_pos hx]
  unfold addD
  rw [hr, if_pos (by decide)]
theorem ref_bad {D : DV} {S : SV} (hl : S.lame = false) (x : List UInt8) (hx : ¬ 1048576 < x.length) (hf : S.ends.length < 65536) (ds : List ByteArray) (hd : nxt S ds = false) : addD D S x ds = (D, S, 192) := by
  have hr : refD S x ds = 192 := by
    unfold refD
    rw [if_neg (by rw [hl]; exact Bool.false_ne_true), if_neg hx, if_neg (by omega), if_pos hd]
  unfold addD
  rw [hr, if_pos (by decide)]
set_option maxRecDepth 100000 in
set_option maxHeartbeats 4000000 in
theorem refused_walk (w : World) (k0 : Int) (ao : Option Addr) (b off len cap : Nat) (ss : List ByteArray) (hr : RdS w ao b off len ss) (hmx : len ≤ 9223372036854775807) (ao2 : Option Addr) (b2 off2 len2 cap2 : Nat) (bad : List ByteArray) (hr2 : RdS w ao2 b2 off2 len2 bad) (hmx2 : len2 ≤ 9223372036854775807) :
    Calls Tryz.prog 4 #[.int .i64 k0, .slice ao len cap, .slice ao2 len2 cap2] w fun e w' => e = .returned (.bool true) ∧ Below w.heap.size w w' := by
  obtain ⟨k, L, n, hB⟩ := beg_any w k0 ao b off len cap ss hr hmx
  have HSt := hide hB.st
  have HL := hide hB.ls
  have HM := hide hB.md
  have HA := hide (falive_any w)
  have HN : Hid (∀ W, Calls Tryz.prog 12 #[.int .i64 1048576] W fun e w' => ∃ p, e = .returned (.pointer (some ⟨p, 0, none⟩)) ∧ Mvd W w' p NoB (newD 1048576)) := fun W => mvd_new W 1048576 (by decide)
  have hn12 := hB.n12
  have hkk2 := hB.k2
  go_enter Tryz.func4, Tryz.ntmps4
  go_upto_region 7 with (first
    | (go_at_call 9; (with_reducible refine HA.out.mono ?_); rintro e w1 ⟨rfl, u1⟩)
    | (go_at_call 10; (with_reducible refine (HSt.out _).mono ?_); rintro e wa ⟨rfl, rfl⟩)
    | (go_at_call 11; (with_reducible refine (HL.out _ u1).mono ?_); rintro e w2 ⟨la, lb, lc, rfl, rd, u2, _⟩)
    | (go_at_call 12; (with_reducible refine (HN.out _).mono ?_); rintro e w3 ⟨p, rfl, t3⟩)
    | (go_at_call 17; (with_reducible refine (HM.out _ _ _ _ _ _ t3 rd).mono ?_); rintro e w4 ⟨q, D1, rfl, t4, q4, x4, a4⟩))
  have hok := hB.sml.ok hB.k1 hB.k2
  have hsl : Sml (L ++ [⟨#[120]⟩]) := ⟨by have := hB.ln; simp; omega, fun s hs => by
    rcases List.mem_append.1 hs with h | h
    · exact hB.sml.sz s h
    · rw [List.mem_singleton.1 h]; decide⟩
  have hok2 := hsl.ok hB.k1 hB.k2
  have hft := hsl.fits hB.k1 hB.k2
  rw [itA_snoc, hB.ln] at hok2 hft
  obtain ⟨D2, p2, q2, x2, a2⟩ := add_ok hok2 q4 x4 (by omega) (by decide)
  have hel : (sA k (itA k L)).ends.length = n := by rw [show (sA k (itA k L)).ends = (bA k (itA k L)).ends from rfl, hok.lens.ends, itA_len, hB.ln]
  have hel2 : (sA k (itA k L ++ [(ByteArray.data ⟨#[120]⟩ |>.toList, dg0 k n)])).ends.length = n + 1 := by
    have := hok2.lens.ends
    rw [List.length_append, itA_len, hB.ln] at this
    exact this
  have hU2 : Below w.heap.size w w2 := bnext u1 u2
  have hrm1 := qt_rm q4 x4.oth (by decide) (by omega)
  have HB2 : Hid (∀ W, MdS w2 W q p NoB D1 (sA k (itA k L)) → RdS W ao2 b2 off2 len2 bad) := fun W h => hr2.next (bnext hU2 h.mvd.nob) (Nat.le_refl _)
  have HAc : Hid (∀ W, MdS w2 W q p NoB D1 (sA k (itA k L)) → Calls Tryz.prog 18 #[.pointer (some ⟨p, 0, none⟩)] W fun e w' => e = .returned (.int .i64 ((3 + 6 * n : Nat) : Int)) ∧ w' = W) := fun W h => h.mvd.acts1 _ a4
  have HLm : Hid (∀ W, MdS w2 W q p NoB D1 (sA k (itA k L)) → Calls Tryz.prog 19 #[.pointer (some ⟨q, 0, none⟩)] W fun e w' => e = .returned (.bool false) ∧ w' = W) := fun W h => h.lame1 false rfl
  have HHs : Hid (∀ W, MdS w2 W q p NoB D1 (sA k (itA k L)) → Calls Tryz.prog 16 #[.pointer (some ⟨q, 0, none⟩), .int .i64 (k : Int), .slice la n lc] W fun e w' => e = .returned (.bool true) ∧ MdS w2 w' q p NoB D1 (sA k (itA k L))) := fun W h => (h.has1 k L (hasA_ext hok q4.down x4) la lb 0 n lc (h.rds rd (fun _ q => q))).mono fun e w' z => ⟨z.1, z.2.1⟩
  obtain ⟨m, hm⟩ : ∃ m, 1 + Pl.trl 64 n = m := ⟨_, rfl⟩
  have hdl := dg0_len k n
  rw [hm] at hdl
  have hm41 : m ≤ 41 := by have := nn_next n (by omega); have := nn_mono n (by omega); omega
  have HD : Hid (∀ W, MdS w2 W q p NoB D1 (sA k (itA k L)) → Calls Tryz.prog 14 #[.int .u64 (n : Int), .int .i64 (k : Int), .slice none 0 0] W fun e w' => ∃ va vc, e = .returned (.slice va m vc) ∧ (∃ vb, RdS w' va vb 0 m (dg0 k n)) ∧ MdS w2 w' q p NoB D1 (sA k (itA k L))) := fun W h => by
    have := digests0_any W n k (by omega) hkk2
    rw [hm] at this
    refine this.mono fun e w' z => ?_
    obtain ⟨va, vc, z1, z2, z3⟩ := z
    obtain ⟨va', vb, vc', hv, rds, _, _⟩ := owns_rds z2 (fun x hx => by rw [dg0_sz k n x hx]; omega)
    injection hv with g1 g2 g3
    subst g1 g3
    rw [hdl] at rds
    exact ⟨va, vc, z1, ⟨vb, rds⟩, h.next z3⟩
  have HAl : Hid (∀ W N, N = 1048577 → MdS w2 W q p NoB D1 (sA k (itA k L)) → Calls Tryz.prog 15 #[.pointer (some ⟨q, 0, none⟩), .string (tx (zer N)), .slice ao2 len2 cap2] W fun e w' => e = .returned (.int .i64 100) ∧ MdS w2 w' q p NoB D1 (sA k (itA k L))) := fun W N hN h => h.add1 hrm1 (tx (zer N)) (by rw [zer_sz]; omega) ao2 b2 off2 len2 cap2 bad (HB2.out W h) hmx2 100 (ref_long rfl _ (by rw [tx_data, zer_len]; omega) bad)
  have HAb : Hid (nxt (sA k (itA k L)) bad = false → ∀ W, MdS w2 W q p NoB D1 (sA k (itA k L)) → Calls Tryz.prog 15 #[.pointer (some ⟨q, 0, none⟩), .string ⟨#[120]⟩, .slice ao2 len2 cap2] W fun e w' => e = .returned (.int .i64 192) ∧ MdS w2 w' q p NoB D1 (sA k (itA k L))) := fun hx W h => h.add1 hrm1 ⟨#[120]⟩ (by decide) ao2 b2 off2 len2 cap2 bad (HB2.out W h) hmx2 192 (ref_bad rfl _ (by decide) (by rw [hel]; omega) bad hx)
  have HAd : Hid (∀ W va vb vc, MdS w2 W q p NoB D1 (sA k (itA k L)) → RdS W va vb 0 m (dg0 k n) → Calls Tryz.prog 15 #[.pointer (some ⟨q, 0, none⟩), .string ⟨#[120]⟩, .slice va m vc] W fun e w' => e = .returned (.int .i64 0) ∧ ∃ S2, S2.ends.length = n + 1 ∧ MdS w2 w' q p NoB D2 S2) := fun W va vb vc h r => (h.add1 hrm1 ⟨#[120]⟩ (by decide) va vb 0 m vc (dg0 k n) r (by omega) 0 p2).mono fun e w' z => ⟨z.1, _, hel2, z.2⟩
  have HSz : Hid (∀ W S2, S2.ends.length = n + 1 → MdS w2 W q p NoB D2 S2 → Calls Tryz.prog 20 #[.pointer (some ⟨q, 0, none⟩)] W fun e w' => e = .returned (.int .u64 ((n : Int) + 1)) ∧ w' = W) := fun W S2 hs h => h.size1 (n + 1) hs
  have hnx : ∀ x, nxt (sA k (itA k L)) bad = x → (x = true ↔ len2 = m ∧ ∀ d ∈ bad, d.size = k) := fun x hx => by
    rw [← hx, nxt_iff, hel, nn_next n (by omega), hr2.hl, show nn n + (1 + Pl.trl 64 n) - nn n = m by omega]; rfl
  obtain ⟨S, hS⟩ : ∃ S, sA k (itA k L) = S := ⟨_, rfl⟩
  rw [hS] at t4 HB2 HAc HLm HHs HD HAl HAb HAd hnx
  obtain ⟨xb, hxb⟩ : ∃ x, nxt S bad = x := ⟨_, rfl⟩
  have hX := hnx xb hxb
  have HXb := hide hxb
  have HX := hide hX
  have hw1 : IntKind.u64.wrap (n : Int) = (n : Int) := wrap_u _ (by omega) (by omega)
  have hw2 : IntKind.u64.wrap ((n : Int) + 1) = (n : Int) + 1 := wrap_u _ (by omega) (by omega)
  have HRd : Hid (∀ W, MdS w2 W q p NoB D1 S → RdS W ao2 b2 off2 len2 bad) := HB2
  have hl2 := hr2.hl
  have hp2 := hr2.ptr
  generalize 3 + 6 * n = na at *
  clear hB hok hok2 hsl hft p2 q2 x2 a2 hel hel2 hdl hm hnx hX hxb hrm1 q4 x4 a4 hS HB2 hr hr2 HA HSt HL HN HM rd u1 u2 t3
  go_upto_region 12 with (first
    | (go_at_call 18; (with_reducible refine (HAc.out _ t4).mono ?_); rintro e wa ⟨rfl, rfl⟩)
    | (go_at_call 14; (with_reducible refine (HD.out _ t4).mono ?_); rintro e w5 ⟨va, vc, rfl, _, t5⟩))
  go_wp2
  go_loopg [12, 13] len2 (fun g y x wr => ∃ i : Nat, i ≤ len2 ∧ g = len2 - i ∧ x = .int .i64 (i : Int) ∧ Hid (y = .bool (rgB len2 m k (bad.take i))) ∧ wr = w5)
  case atStart =>
    go_light
    refine ⟨0, Nat.zero_le _, rfl, rfl, ?_, rfl⟩
    show _ = _
    rw [List.take_zero, rgB_nil, beq_cast]
  case round =>
    obtain ⟨i, hi, rfl, rfl, HY, rfl⟩ := hrel
    by_cases hlt : i < len2
    · have hz : (i : Int) < (len2 : Int) := by omega
      have hds : i < bad.length := by omega
      obtain ⟨d, hd0⟩ : ∃ d, bad.getD i ByteArray.empty = d := ⟨_, rfl⟩
      have htk : bad.take (i + 1) = bad.take i ++ [d] := by rw [← hd0, List.take_succ_eq_append_getElem hds, List.getD_eq_getElem?_getD, List.getElem?_eq_getElem hds]; rfl
      have ck := (HRd.out _ t5).at hlt
      obtain rfl := hp2 (by omega)
      rw [hd0] at ck
      have ew : IntKind.i64.wrap ((i : Int) + 1) = (i : Int) + 1 := by rw [IntKind.wrap_i64]; omega
      have hsn := rgB_snoc len2 m k (bad.take i) d
      rw [← htk] at hsn
      cases hc : rgB len2 m k (bad.take i) with
      | true =>
        have hy := HY.out
        rw [hc] at hy
        subst hy
        have HY2 : Hid (Value.bool ((d.size : Int) == (k : Int)) = .bool (rgB len2 m k (bad.take (i + 1)))) := by
          show _ = _
          rw [hsn, hc, Bool.true_and, beq_cast]
        clear hc HY htk hd0 hsn
        go_wp2
        go_roundg (len2 - (i + 1))
        case rel =>
          go_light
          exact ⟨i + 1, by omega, rfl, by go_num, HY2, rfl⟩
        case measure => go_light; omega
      | false =>
        have hy := HY.out
        rw [hc] at hy
        subst hy
        have HY2 : Hid (Value.bool false = .bool (rgB len2 m k (bad.take (i + 1)))) := by
          show _ = _
          rw [hsn, hc, Bool.false_and]
        clear hc HY htk hd0 hsn
        go_wp2
        go_roundg (len2 - (i + 1))
        case rel =>
          go_light
          exact ⟨i + 1, by omega, rfl, by go_num, HY2, rfl⟩
        case measure => go_light; omega
    · have hz : ¬ (i : Int) < (len2 : Int) := by omega
      have hxv : rgB len2 m k (bad.take i) = xb := by
        rw [List.take_of_length_le (by omega)]
        have h1 := HX.out
        have h2 := rgB_iff len2 m k bad
        rw [← h1] at h2
        exact Bool.eq_iff_iff.2 h2
      have hy := HY.out
      rw [hxv] at hy
      subst hy
      obtain ⟨g, w6, hmk, hcv, u6⟩ := long_made wr 1048577 (by decide)
      obtain ⟨Z, hZ⟩ : ∃ Z, tx (zer 1048577) = Z := ⟨_, rfl⟩
      rw [hZ] at hcv
      have hmk2 : (Instr.makeSlice 39 (.int .i64 1048577) (.int .i64 1048577)).run Tryz.prog wr = .ok (.slice (some ⟨g, 0, none⟩) 1048577 1048577) w6 := hmk
      have HAl2 : Hid (∀ W, MdS w2 W q p NoB D1 S → Calls Tryz.prog 15 #[.pointer (some ⟨q, 0, none⟩), .string Z, .slice ao2 len2 cap2] W fun e w' => e = .returned (.int .i64 100) ∧ MdS w2 w' q p NoB D1 S) := fun W h => by
        rw [← hZ]; exact HAl.out W 1048577 rfl h
      clear HY hxv HX hmk hZ HAl
      cases xb with
      | true =>
        go_wp2_with (first
          | (go_at_call 15; (with_reducible refine (HAl2.out _ (MdS.next t5 u6)).mono ?_); rintro e w7 ⟨rfl, t7⟩)
          | (go_at_call 18; (with_reducible refine (HAc.out _ t7).mono ?_); rintro e wa ⟨rfl, rfl⟩)
          | (go_at_call 19; (with_reducible refine (HLm.out _ t7).mono ?_); rintro e wa ⟨rfl, rfl⟩)
          | (go_at_call 16; (with_reducible refine (HHs.out _ t7).mono ?_); rintro e w9 ⟨rfl, t9⟩)
          | (go_at_call 14; (with_reducible refine (HD.out _ t9).mono ?_); rintro e wb ⟨xa, xc, rfl, ⟨xv, rb⟩, tb⟩)
          | (go_at_call 15; (with_reducible refine (HAd.out _ _ _ _ tb rb).mono ?_); rintro e wc ⟨rfl, S2, hs2, tc⟩)
          | (go_at_call 20; (with_reducible refine (HSz.out _ _ hs2 tc).mono ?_); rintro e wd ⟨rfl, rfl⟩))
        go_ret
        exact ⟨rfl, bnext hU2 tc.mvd.nob⟩
      | false =>
        have HAb2 := hide (HAb.out HXb.out)
        go_wp2_with (first
          | (go_at_call 15; (with_reducible refine (HAl2.out _ (MdS.next t5 u6)).mono ?_); rintro e w7 ⟨rfl, t7⟩)
          | (go_at_call 15; (with_reducible refine (HAb2.out _ t7).mono ?_); rintro e w8 ⟨rfl, t8⟩)
          | (go_at_call 18; (with_reducible refine (HAc.out _ t8).mono ?_); rintro e wa ⟨rfl, rfl⟩)
          | (go_at_call 19; (with_reducible refine (HLm.out _ t8).mono ?_); rintro e wa ⟨rfl, rfl⟩)
          | (go_at_call 16; (with_reducible refine (HHs.out _ t8).mono ?_); rintro e w9 ⟨rfl, t9⟩)
          | (go_at_call 14; (with_reducible refine (HD.out _ t9).mono ?_); rintro e wb ⟨xa, xc, rfl, ⟨xv, rb⟩, tb⟩)
          | (go_at_call 15; (with_reducible refine (HAd.out _ _ _ _ tb rb).mono ?_); rintro e wc ⟨rfl, S2, hs2, tc⟩)
          | (go_at_call 20; (with_reducible refine (HSz.out _ _ hs2 tc).mono ?_); rintro e wd ⟨rfl, rfl⟩))
        go_ret
        exact ⟨rfl, bnext hU2 tc.mvd.nob⟩
end Go.Proofs.YthfnpagangjpbaaGreat
