/-
  FilesList. Own work.
-/
import Derived.Test.YthfnpagangjpbaaGreatZ35
import Derived.Test.YthfnpagangjpbaaGreatZ34
namespace Go.Proofs.YthfnpagangjpbaaGreat
open Go.RowKit
open Rc
attribute [local go_sem ↓] Go.wp_at_zero Go.wp_at_succ
abbrev NoB : Nat → Prop := fun _ => False
section
variable {w W W' : World} {q p : Nat} {S0 : Nat → Prop} {D D' : DV} {S S' : SV}
/-- Files, and the ground on which its list stands. -/
theorem Mvd.files2 (h : Mvd w W p S0 D) (l : List (List UInt8 × List UInt8)) (he : tell D.L = l) :
    Calls Tryz.prog 21 #[.pointer (some ⟨p, 0, none⟩)] W fun e w' => ∃ ao b c Y, e = .returned (.slice ao l.length c) ∧ RdF w' ao b 0 l ∧ Below W.heap.size W w' ∧ Mvd w' w' p Y D ∧ (0 < l.length → ¬ Y b) ∧ ∀ x, Y x → S0 x ∨ w.heap.size ≤ x := by
  obtain ⟨S1, h1, h2, h3⟩ := h
  rw [← he]
  refine h1.files.mono fun e w' z => ?_
  obtain ⟨v, q1, q2, q3⟩ := z
  obtain ⟨ao, b, c, rfl, q4, _, q5⟩ := ownF_rd q2
  exact ⟨ao, b, c, S1, q1, q4, q3, ⟨S1, h1.next q3, fun _ hx => .inl hx, Upo.refl _ _⟩, fun h0 hs => by have := q5 h0; have := h1.lt hs; omega, h2⟩
theorem Mvd.rdf (h : Mvd w W p S0 D) {ao : Option Addr} {b off : Nat} {l : List (List UInt8 × List UInt8)} (hr : RdF w ao b off l) (hb : 0 < l.length → ¬ S0 b) : RdF W ao b off l := hr.same fun h0 => h.keep (hr.lt h0) (hb h0)
theorem Mvd.below {Y : Nat → Prop} {w1 : World} (hu : Below w.heap.size w w1) (hY : ∀ x, Y x → w.heap.size ≤ x) (h : Mvd w1 W p Y D) : Below w.heap.size w W := by
  obtain ⟨S1, _, _, h3⟩ := h
  exact upo_below hu hY h3
theorem Mvd.nob (h : Mvd w W p NoB D) : Below w.heap.size w W := by
  obtain ⟨S1, _, _, h3⟩ := h
  exact h3.below (Nat.le_refl _) (fun _ q => q.elim)
theorem mvd_new (w : World) (room : Nat) (h : room ≤ 9223372036854775807) : Calls Tryz.prog 12 #[.int .i64 (room : Int)] w fun e w' => ∃ p, e = .returned (.pointer (some ⟨p, 0, none⟩)) ∧ Mvd w w' p NoB (newD room) :=
  (new_any w (room : Int) room (by omega) (by omega)).mono fun e w' z => by
    obtain ⟨p, S1, z1, z2, z3, z4⟩ := z
    exact ⟨p, z1, S1, z2, fun x hx => .inr (z3 x hx), Upo.of z4⟩
end
set_option maxRecDepth 100000 in
set_option maxHeartbeats 4000000 in
theorem list_walk (w : World) (k0 : Int) (ao : Option Addr) (b off len cap : Nat) (ss : List ByteArray) (hr : RdS w ao b off len ss) (hmx : len ≤ 9223372036854775807) :
    Calls Tryz.prog 5 #[.int .i64 k0, .slice ao len cap] w fun e w' => e = .returned (.bool true) ∧ Below w.heap.size w w' := by
  obtain ⟨k, hk⟩ : ∃ k, str k0 = k := ⟨_, rfl⟩
  have hkk := str_ok k0
  have HSt := hide (fun W => strength1_any W k0)
  rw [hk] at HSt hkk
  obtain ⟨L, hL⟩ : ∃ L, lsL ss = L := ⟨_, rfl⟩
  have hsml := lsL_sml ss
  obtain ⟨n, hn⟩ : ∃ n, L.length = n := ⟨_, rfl⟩
  have HL : Hid (∀ W, Below w.heap.size w W → Calls Tryz.prog 11 #[.slice ao len cap] W fun e w' => ∃ la lb lc, e = .returned (.slice la n lc) ∧ RdS w' la lb 0 n L ∧ Below W.heap.size W w') := fun W hW => by
    refine (list_any W ao b off len cap ss (hr.next hW (Nat.le_refl _)) hmx n (by rw [hL, hn])).mono fun e w' z => ?_
    obtain ⟨va, vc, z1, z2, z3⟩ := z
    rw [hL] at z2
    obtain ⟨la, lb, lc, hv, rd, _, _⟩ := owns_rds z2 (fun x hx => by rw [← hL] at hx; have := hsml.sz x hx; omega)
    injection hv with g1 g2 g3
    subst g1 g3
    rw [hn] at rd
    exact ⟨va, lb, vc, z1, rd, z3⟩
  rw [hL] at hsml
  have hfew := hsml.few
  rw [hn] at hfew
  have hok := hsml.ok hkk.1 hkk.2
  have HA := hide (falive_any w)
  have HN : Hid (∀ W, Calls Tryz.prog 12 #[.int .i64 1048576] W fun e w' => ∃ p, e = .returned (.pointer (some ⟨p, 0, none⟩)) ∧ Mvd W w' p NoB (newD 1048576)) := fun W => mvd_new W 1048576 (by decide)
  have HM : Hid (∀ w2 W p la lb lc, Mvd w2 W p NoB (newD 1048576) → RdS w2 la lb 0 n L → Calls Tryz.prog 17 #[.pointer (some ⟨p, 0, none⟩), .int .i64 (k : Int), .slice la n lc] W fun e w' => ∃ q D', e = .returned (.pointer (some ⟨q, 0, none⟩)) ∧ MdS w2 w' q p NoB D' (sA k (itA k L)) ∧ Qt 1048576 D' ∧ Ext k (itA k L) D'.L ∧ D'.acts = 3 + 6 * n) := fun w2 W p la lb lc hm rd => by
    obtain ⟨e0, q0⟩ := new_ext k 1048576
    have := hm.made1 1048576 q0 k hkk.1 hkk.2 e0 (by decide) (by decide) (by decide) la lb 0 n lc L rd (fun _ q => q) hsml
    exact this.mono fun e w' z => by
      obtain ⟨q, D', z1, z2, z3, z4, z5⟩ := z
      exact ⟨q, D', z1, z2, z3, z4, by rw [z5]; show 0 + 3 + 6 * n = _; omega⟩
  go_enter Tryz.func5, Tryz.ntmps5
  go_upto_region 6 with (first
    | (go_at_call 9; (with_reducible refine HA.out.mono ?_); rintro e w1 ⟨rfl, u1⟩)
    | (go_at_call 10; (with_reducible refine (HSt.out _).mono ?_); rintro e wa ⟨rfl, rfl⟩)
    | (go_at_call 11; (with_reducible refine (HL.out _ u1).mono ?_); rintro e w2 ⟨la, lb, lc, rfl, rd, u2⟩)
    | (go_at_call 12; (with_reducible refine (HN.out _).mono ?_); rintro e w3 ⟨p, rfl, t3⟩))
  go_upto_region 7 with (go_at_call 17; (with_reducible refine (HM.out _ _ _ _ _ _ t3 rd).mono ?_); rintro e w4 ⟨q, D1, rfl, t4, q4, x4, a4⟩)
  have hlsz := tell_le D1.L
  have hl3 := (tot_three q4.ord x4.oth).2
  obtain ⟨D2, j2, o2, q2, x2, a2, _, z2⟩ := open_ok hok q4 x4.beh
  obtain ⟨zL, rfl⟩ := z2 x4
  have HU2 : Hid (Below w.heap.size w w2) := bnext u1 u2
  have HHs : Hid (∀ W, MdS w2 W q p NoB D1 (sA k (itA k L)) → Calls Tryz.prog 16 #[.pointer (some ⟨q, 0, none⟩), .int .i64 (k : Int), .slice la n lc] W fun e w' => e = .returned (.bool true) ∧ MdS w2 w' q p NoB D1 (sA k (itA k L))) := fun W h => (h.has1 k L (hasA_ext hok q4.down x4) la lb 0 n lc (h.rds rd (fun _ q => q))).mono fun e w' z => ⟨z.1, z.2.1⟩
  have HAc : Hid (∀ W, MdS w2 W q p NoB D1 (sA k (itA k L)) → Calls Tryz.prog 18 #[.pointer (some ⟨p, 0, none⟩)] W fun e w' => e = .returned (.int .i64 ((3 + 6 * n : Nat) : Int)) ∧ w' = W) := fun W h => h.mvd.acts1 _ a4
  have HLm : Hid (∀ W, MdS w2 W q p NoB D1 (sA k (itA k L)) → Calls Tryz.prog 19 #[.pointer (some ⟨q, 0, none⟩)] W fun e w' => e = .returned (.bool false) ∧ w' = W) := fun W h => h.lame1 false rfl
  obtain ⟨F, hF⟩ : ∃ F, tell D1.L = F := ⟨_, rfl⟩
  obtain ⟨fn, hfn⟩ : ∃ n, F.length = n := ⟨_, rfl⟩
  have hfn3 : fn ≤ 3 := by rw [hF] at hlsz; omega
  have HFi : Hid (∀ W, MdS w2 W q p NoB D1 (sA k (itA k L)) → Calls Tryz.prog 21 #[.pointer (some ⟨p, 0, none⟩)] W fun e w' => ∃ fa fb fc Y, e = .returned (.slice fa fn fc) ∧ RdF w' fa fb 0 F ∧ Mvd w' w' p Y D1 ∧ (0 < F.length → ¬ Y fb) ∧ (∀ x, Y x → w2.heap.size ≤ x) ∧ RdS w' la lb 0 n L ∧ Below w2.heap.size w2 w') := fun W h => by
    refine (h.mvd.files2 F hF).mono fun e w' z => ?_
    obtain ⟨fa, fb, fc, Y, z1, z2, z3, z4, z5, z6⟩ := z
    rw [hfn] at z1
    exact ⟨fa, fb, fc, Y, z1, z2, z4, z5, fun x hx => (z6 x hx).elim (fun q => q.elim) id, (h.rds rd (fun _ q => q)).next z3 (Nat.le_refl _), bnext h.mvd.nob z3⟩
  have hw1 : IntKind.i64.wrap (6 * (n : Int)) = 6 * (n : Int) := by rw [IntKind.wrap_i64]; omega
  have hw2 : IntKind.i64.wrap (3 + 6 * (n : Int)) = 3 + 6 * (n : Int) := by rw [IntKind.wrap_i64]; omega
  have hw3 : IntKind.i64.wrap (6 + 6 * (n : Int)) = 6 + 6 * (n : Int) := by rw [IntKind.wrap_i64]; omega
  have hw4 : ((3 + 6 * n : Nat) : Int) = 3 + 6 * (n : Int) := by omega
  rw [hw4] at HAc
  have HO : Hid (∀ w6 W Y, Mvd w6 W p Y D1 → Calls Tryz.prog 13 #[.pointer (some ⟨p, 0, none⟩), .int .i64 (k : Int)] W fun e w' => ∃ q, e = .returned (.tuple #[.pointer (some ⟨q, 0, none⟩), .int .i64 0]) ∧ MdS w6 w' q p Y D2 (sA k (itA k L))) := fun w6 W Y h => h.open1 (qt_rm q4 x4.oth (by decide) (by omega)) k o2
  have HHs2 : Hid (∀ w6 W q Y, MdS w6 W q p Y D2 (sA k (itA k L)) → RdS w6 la lb 0 n L → (0 < n → ¬ Y lb) → Calls Tryz.prog 16 #[.pointer (some ⟨q, 0, none⟩), .int .i64 (k : Int), .slice la n lc] W fun e w' => e = .returned (.bool true) ∧ MdS w6 w' q p Y D2 (sA k (itA k L))) := fun w6 W q Y h r hb => (h.has1 k L (hasA_ext hok q2.down x2) la lb 0 n lc (h.rds r hb)).mono fun e w' z => ⟨z.1, z.2.1⟩
  have HAc2 : Hid (∀ w6 W q Y, MdS w6 W q p Y D2 (sA k (itA k L)) → Calls Tryz.prog 18 #[.pointer (some ⟨p, 0, none⟩)] W fun e w' => e = .returned (.int .i64 (6 + 6 * (n : Int))) ∧ w' = W) := fun w6 W q Y h => by
    have := h.mvd.acts1 (6 + 6 * n) (by omega)
    rwa [show ((6 + 6 * n : Nat) : Int) = 6 + 6 * (n : Int) by omega] at this
  have HFi2 : Hid (∀ w6 W q Y, MdS w6 W q p Y D2 (sA k (itA k L)) → Calls Tryz.prog 21 #[.pointer (some ⟨p, 0, none⟩)] W fun e w' => ∃ fa fb fc, e = .returned (.slice fa fn fc) ∧ RdF w' fa fb 0 F ∧ MdS w6 w' q p Y D2 (sA k (itA k L))) := fun w6 W q Y h => by
    refine (h.mvd.files1 F (by rw [zL]; exact hF)).mono fun e w' z => ?_
    obtain ⟨fa, fb, fc, z1, z2, z3⟩ := z
    rw [hfn] at z1
    exact ⟨fa, fb, fc, z1, z2, h.next z3⟩
  have HAf : Hid (∀ w6 W q Y, MdS w6 W q p Y D2 (sA k (itA k L)) → Calls Tryz.prog 23 #[.pointer (some ⟨p, 0, none⟩), .slice none 0 0] W fun e w' => ∃ fa fb fc, e = .returned (.slice fa fn fc) ∧ RdF w' fa fb 0 F ∧ MdS w6 w' q p Y D2 (sA k (itA k L))) := fun w6 W q Y h => by
    refine (h.mvd.after1 none 0 0 0 [] (rdl_nil _ _ _ _) (by decide) F (by rw [x2.aft q2.ord, zL]; exact hF)).mono fun e w' z => ?_
    obtain ⟨fa, fb, fc, z1, z2, z3⟩ := z
    rw [hfn] at z1
    exact ⟨fa, fb, fc, z1, z2, h.next z3⟩
  have HSm : Hid (∀ w6 W q Y a1 b1 c1 a2 b2 c2, MdS w6 W q p Y D2 (sA k (itA k L)) → RdF W a1 b1 0 F → RdF w6 a2 b2 0 F → (0 < F.length → ¬ Y b2) → Calls Tryz.prog 22 #[.slice a1 fn c1, .slice a2 fn c2] W fun e w' => e = .returned (.bool true) ∧ MdS w6 w' q p Y D2 (sA k (itA k L))) := fun w6 W q Y a1 b1 c1 a2 b2 c2 h r1 r2 hb => by
    have := same_yes W F a1 b1 0 c1 r1 a2 b2 0 c2 (h.mvd.rdf r2 hb) (by omega)
    rw [hfn] at this
    exact this.mono fun e w' z => ⟨z.1, h.next z.2⟩
  have HLt : Hid (0 < n → lb < w2.heap.size) := fun h0 => rd.lt h0
  generalize sA k (itA k L) = SS at *
  clear hr hok q4 x4 a4 o2 q2 x2 a2 z2 zL hF hfn hn hL hk HM HL HN HA HSt hlsz hl3 hw4 u1 u2 rd hsml
  go_upto_region 10 with (first
    | (go_at_call 16; (with_reducible refine (HHs.out _ t4).mono ?_); rintro e w5 ⟨rfl, t5⟩)
    | (go_at_call 18; (with_reducible refine (HAc.out _ t5).mono ?_); rintro e wa ⟨rfl, rfl⟩)
    | (go_at_call 19; (with_reducible refine (HLm.out _ t5).mono ?_); rintro e wa ⟨rfl, rfl⟩)
    | (go_at_call 21; (with_reducible refine (HFi.out _ t5).mono ?_); rintro e w6 ⟨fa, fb, fc, Y, rfl, r6, m6, hb6, hY, rl6, u6⟩))
  have HbL : Hid (0 < n → ¬ Y lb) := fun h0 hy => by have := HLt.out h0; have := hY lb hy; omega
  have HY := hide hY
  have HB6 := hide hb6
  clear hY hb6
  go_wp2_with (first
    | (go_at_call 13; (with_reducible refine (HO.out _ _ _ m6).mono ?_); rintro e w7 ⟨q7, rfl, t7⟩)
    | (go_at_call 16; (with_reducible refine (HHs2.out _ _ _ _ t7 rl6 HbL.out).mono ?_); rintro e w8 ⟨rfl, t8⟩)
    | (go_at_call 18; (with_reducible refine (HAc2.out _ _ _ _ t8).mono ?_); rintro e wa ⟨rfl, rfl⟩)
    | (go_at_call 21; (with_reducible refine (HFi2.out _ _ _ _ t8).mono ?_); rintro e w9 ⟨ga, gb, gc, rfl, r9, t9⟩)
    | (go_at_call 22; (with_reducible refine (HSm.out _ _ _ _ _ _ _ _ _ _ t9 r9 r6 HB6.out).mono ?_); rintro e wb ⟨rfl, tb⟩)
    | (go_at_call 23; (with_reducible refine (HAf.out _ _ _ _ tb).mono ?_); rintro e wc ⟨ha, hb', hc, rfl, rc, tc⟩)
    | (go_at_call 22; (with_reducible refine (HSm.out _ _ _ _ _ _ _ _ _ _ tc rc r6 HB6.out).mono ?_); rintro e wd ⟨rfl, td⟩))
  go_ret
  exact ⟨rfl, bnext HU2.out (Mvd.below u6 HY.out td.mvd)⟩
end Go.Proofs.YthfnpagangjpbaaGreat
