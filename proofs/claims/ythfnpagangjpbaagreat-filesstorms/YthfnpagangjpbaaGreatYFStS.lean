/-
  The laws' settled. Own work.
-/
import Derived.Test.YthfnpagangjpbaaGreatYFStM
namespace Go.Proofs.YthfnpagangjpbaaGreat
open Go.RowKit
open Rc
attribute [local go_sem ↓] Go.wp_at_zero Go.wp_at_succ
theorem rds_first {w : World} {la : Option Addr} {lb lo len : Nat} {l : List ByteArray} (h : RdS w la lb lo len l) (m : Nat) (hm : m ≤ len) : RdS w la lb lo m (l.take m) := by
  have hl := h.hl
  refine ⟨by rw [List.length_take]; omega, fun h0 => h.ptr (by omega), fun j v hv => ?_, fun s hs => h.sz s (List.mem_of_mem_take hs)⟩
  rw [List.map_take, List.getElem?_take] at hv
  split at hv
  · exact h.rng j v hv
  · cases hv
theorem mvd_opened (W : World) (R : Nat) (hR : R ≤ 9223372036854775807) (fa : Option Addr) (fb fc fn : Nat) (F : List (List UInt8 × List UInt8)) (hf : RdF W fa fb 0 F) (hn : F.length = fn) (hz : Fz R F) :
    Calls Tryz.prog 26 #[.int .i64 (R : Int), .slice fa fn fc] W fun e w' => ∃ p, e = .returned (.tuple #[.pointer (some ⟨p, 0, none⟩), .int .i64 0]) ∧ Mvd W w' p NoB (openD R F) := by
  rw [← hn]
  exact (open_yes W R hR fa fb 0 fc F hf hz.nm (by have := hz.len; omega) hz.can hz.byt).mono fun e w' z => by
    obtain ⟨p, S, z1, z2, z3, z4⟩ := z
    exact ⟨p, z1, S, z2, fun x hx => .inr (z3 x hx), Upo.of z4⟩
theorem itA_ends {k : Nat} {l : List ByteArray} (h : OkA k (itA k l)) : (sA k (itA k l)).ends.length = l.length := by
  rw [show (sA k (itA k l)).ends = (bA k (itA k l)).ends from rfl, h.lens.ends, itA_len]
set_option maxRecDepth 100000 in
set_option maxHeartbeats 2000000 in
theorem settled_any (W : World) (fa : Option Addr) (fb fc fn : Nat) (F : List (List UInt8 × List UInt8)) (hf : RdF W fa fb 0 F) (hfn : F.length = fn) (k : Nat) (k1 : 1 ≤ k) (k2 : k ≤ 32) (la : Option Addr) (lb len lc : Nat) (L : List ByteArray) (hr : RdS W la lb 0 len L) (hlc : len ≤ lc) (hs : Sml L) (m n : Nat) (hm : m ≤ len) (hn : m = n ∨ m = n + 1) (hS : Sor F) (hw : Wk k (itA k (L.take m)) (layL F)) :
    Calls Tryz.prog 30 #[.slice fa fn fc, .int .i64 (k : Int), .slice la len lc, .int .i64 (n : Int)] W fun e w' => e = .returned (.tuple #[.int .i64 (m : Int), .bool true]) ∧ Below W.heap.size W w' := by
  have hll := hr.hl
  have hfew := hs.few
  have sm := (hs.take m).smk k1 k2
  have hz := fz_of (R := 1048576) sm hS hw (by decide) (by decide)
  have HO : Hid (Calls Tryz.prog 26 #[.int .i64 1048576, .slice fa fn fc] W fun e w' => ∃ p, e = .returned (.tuple #[.pointer (some ⟨p, 0, none⟩), .int .i64 0]) ∧ Mvd W w' p NoB (openD 1048576 F)) := mvd_opened W 1048576 (by decide) fa fb fc fn F hf hfn hz
  obtain ⟨D1, o, e, eo, hop⟩ := open_f (X := none) (D := openD 1048576 F) ⟨sm, fun x hx => by cases hx⟩ hz.qf (.inl hw)
  obtain ⟨rfl, rfl, q1, x1⟩ : o = some (sA k (itA k (L.take m))) ∧ e = 0 ∧ Qf 1048576 D1 ∧ Ext k (itA k (L.take m)) D1.L := by
    rcases hop.out with ⟨B, hB, g1, g2, g3, g4⟩ | ⟨_, _, g3, _⟩
    · rcases hB with rfl | ⟨x, hx, _⟩
      · exact ⟨g1, g2, g3, g4⟩
      · cases hx
    · exact absurd rfl g3
  have f1 : D1.fk = 0 := hop.fk rfl
  have a1 : D1.acts ≤ 6 := hop.acts
  have HP : Hid (∀ W1 p, Mvd W W1 p NoB (openD 1048576 F) → Calls Tryz.prog 13 #[.pointer (some ⟨p, 0, none⟩), .int .i64 (k : Int)] W1 fun e w' => ∃ q, e = .returned (.tuple #[.pointer (some ⟨q, 0, none⟩), .int .i64 0]) ∧ MdS W w' q p NoB D1 (sA k (itA k (L.take m)))) := fun W1 p h => h.open1 (hz.qf.rm hw.beh.oth (by decide) (by show 0 ≤ _; omega)) k eo
  have HSz : Hid (∀ W1 q p, MdS W W1 q p NoB D1 (sA k (itA k (L.take m))) → Calls Tryz.prog 20 #[.pointer (some ⟨q, 0, none⟩)] W1 fun e w' => e = .returned (.int .u64 (m : Int)) ∧ w' = W1) := fun W1 q p h => h.size1 m (by rw [itA_ends sm.ok, List.length_take]; omega)
  have HHs : Hid (∀ W1 q p, MdS W W1 q p NoB D1 (sA k (itA k (L.take m))) → Calls Tryz.prog 16 #[.pointer (some ⟨q, 0, none⟩), .int .i64 (k : Int), .slice la m lc] W1 fun e w' => e = .returned (.bool true) ∧ MdS W w' q p NoB D1 (sA k (itA k (L.take m)))) := fun W1 q p h => (h.has1 k (L.take m) (hasA_ext sm.ok q1.down x1) la lb 0 m lc (rds_first (h.rds hr (fun _ q => q)) m hm)).mono fun e w' z => ⟨z.1, z.2.1⟩
  have HMt : Hid (∀ W1 q p, MdS W W1 q p NoB D1 (sA k (itA k (L.take m))) → Calls Tryz.prog 28 #[.pointer (some ⟨q, 0, none⟩), .int .i64 (k : Int), .slice la len lc, .int .i64 (m : Int)] W1 fun e w' => e = .returned (.tuple #[.int .i64 (len : Int), .int .i64 0]) ∧ ∃ D2, MdS W w' q p NoB D2 (sA k (itA k L)) ∧ Qf 1048576 D2 ∧ Ext k (itA k L) D2.L) := fun W1 q p h => by
    refine (met_any1 W W1 1048576 k k1 k2 (by decide) (by decide) (by omega) la lb len lc L hr (fun _ q => q) hs m hm h q1 x1).mono fun e w' z => ?_
    obtain ⟨mm, r, D2, S2, z1, z2, z3⟩ := z
    rcases z3.out with ⟨rfl, rfl, rfl, o4, o5⟩ | ⟨_, o2, _⟩
    · rw [hll] at z1
      exact ⟨z1, D2, z2, o4, o5⟩
    · exact absurd f1 o2
  have HHa : Hid (∀ W1 q p D2, MdS W W1 q p NoB D2 (sA k (itA k L)) → Qf 1048576 D2 ∧ Ext k (itA k L) D2.L → Calls Tryz.prog 16 #[.pointer (some ⟨q, 0, none⟩), .int .i64 (k : Int), .slice la len lc] W1 fun e w' => e = .returned (.bool true) ∧ MdS W w' q p NoB D2 (sA k (itA k L))) := fun W1 q p D2 h g => (h.has1 k L (hasA_ext (hs.ok k1 k2) g.1.down g.2) la lb 0 len lc (h.rds hr (fun _ q => q))).mono fun e w' z => ⟨z.1, z.2.1⟩
  have HLm : Hid (∀ W1 q p D2, MdS W W1 q p NoB D2 (sA k (itA k L)) → Calls Tryz.prog 19 #[.pointer (some ⟨q, 0, none⟩)] W1 fun e w' => e = .returned (.bool false) ∧ w' = W1) := fun W1 q p D2 h => h.lame1 false rfl
  have ew1 : IntKind.i64.wrap (m : Int) = (m : Int) := by rw [IntKind.wrap_i64]; omega
  have ew2 : IntKind.i64.wrap ((n : Int) + 1) = (n : Int) + 1 := by rw [IntKind.wrap_i64]; omega
  have hgt : ¬ (len : Int) < (m : Int) := by omega
  have hmc : m ≤ lc := by omega
  generalize sA k (itA k (L.take m)) = S1 at *
  generalize sA k (itA k L) = S2 at *
  clear hf hfn hr hs hS hw sm hz eo hop q1 x1 f1 a1 hll hfew
  rcases hn with rfl | hn
  · go_enter Tryz.func30, Tryz.ntmps30
    go_wp2_with (first
      | (go_at_call 26; (with_reducible refine HO.out.mono ?_); rintro e w1 ⟨p, rfl, t1⟩)
      | (go_at_call 13; (with_reducible refine (HP.out _ _ t1).mono ?_); rintro e w2 ⟨q, rfl, t2⟩)
      | (go_at_call 20; (with_reducible refine (HSz.out _ _ _ t2).mono ?_); rintro e wa ⟨rfl, rfl⟩)
      | (go_at_call 16; (with_reducible refine (HHs.out _ _ _ t2).mono ?_); rintro e w3 ⟨rfl, t3⟩)
      | (go_at_call 28; (with_reducible refine (HMt.out _ _ _ t3).mono ?_); rintro e w4 ⟨rfl, D2, t4, g4⟩)
      | (go_at_call 16; (with_reducible refine (HHa.out _ _ _ _ t4 g4).mono ?_); rintro e w5 ⟨rfl, t5⟩)
      | (go_at_call 19; (with_reducible refine (HLm.out _ _ _ _ t5).mono ?_); rintro e wa ⟨rfl, rfl⟩))
    go_ret2
    exact ⟨rfl, t5.mvd.nob⟩
  · have hne : ¬ (m : Int) = (n : Int) := by omega
    have ew3 : IntKind.i64.wrap ((n : Int) + 1) = (m : Int) := by rw [ew2]; omega
    clear ew2 hn
    go_enter Tryz.func30, Tryz.ntmps30
    go_wp2_with (first
      | (go_at_call 26; (with_reducible refine HO.out.mono ?_); rintro e w1 ⟨p, rfl, t1⟩)
      | (go_at_call 13; (with_reducible refine (HP.out _ _ t1).mono ?_); rintro e w2 ⟨q, rfl, t2⟩)
      | (go_at_call 20; (with_reducible refine (HSz.out _ _ _ t2).mono ?_); rintro e wa ⟨rfl, rfl⟩)
      | (go_at_call 16; (with_reducible refine (HHs.out _ _ _ t2).mono ?_); rintro e w3 ⟨rfl, t3⟩)
      | (go_at_call 28; (with_reducible refine (HMt.out _ _ _ t3).mono ?_); rintro e w4 ⟨rfl, D2, t4, g4⟩)
      | (go_at_call 16; (with_reducible refine (HHa.out _ _ _ _ t4 g4).mono ?_); rintro e w5 ⟨rfl, t5⟩)
      | (go_at_call 19; (with_reducible refine (HLm.out _ _ _ _ t5).mono ?_); rintro e wa ⟨rfl, rfl⟩))
    go_ret2
    exact ⟨rfl, t5.mvd.nob⟩
end Go.Proofs.YthfnpagangjpbaaGreat
