/-
  The laws' met. Own work.
-/
import Derived.Test.YthfnpagangjpbaaGreatYFStR
import Derived.Test.YthfnpagangjpbaaGreatZ37
namespace Go.Proofs.YthfnpagangjpbaaGreat
open Go.RowKit
open Rc
attribute [local go_sem ↓] Go.wp_at_zero Go.wp_at_succ
theorem rm_of {R : Nat} {D : DV} (ha : D.acts ≤ 1000000) (ho : Ord D.L) (he : Oth D.L) (hf : D.free ≤ R) (hR : R ≤ 268435456) : Rm 7 D := ⟨by omega, by have := (tot_three ho he).2; omega, by omega⟩
theorem Qf.rm {R : Nat} {D : DV} (h : Qf R D) (he : Oth D.L) (hR : R ≤ 268435456) (ha : D.acts ≤ 1000000) : Rm 7 D := rm_of ha h.ord he (by have := h.tot; omega : D.free ≤ R) hR
theorem Sml.smk {l : List ByteArray} (h : Sml l) {k : Nat} (h1 : 1 ≤ k) (h2 : k ≤ 32) : Smk k (itA k l) := ⟨h.ok h1 h2, h.fits h1 h2⟩
theorem take_at {l : List ByteArray} {i : Nat} {s : ByteArray} (h : l[i]? = some s) : l.take (i + 1) = l.take i ++ [s] := by
  have hi := (List.getElem?_eq_some_iff.1 h).1
  rw [List.take_succ_eq_append_getElem hi]
  congr 2
  exact Option.some.inj ((List.getElem?_eq_getElem hi).symm.trans h)
theorem itA_next {k : Nat} {l : List ByteArray} {i : Nat} {s : ByteArray} (h : l[i]? = some s) : itA k (l.take (i + 1)) = itA k (l.take i) ++ [(s.data.toList, dg0 k i)] := by
  have hi := (List.getElem?_eq_some_iff.1 h).1
  rw [take_at h, itA_snoc, List.length_take, Nat.min_eq_left (by omega)]
/-- How met ends. -/
structure Mt (R k : Nat) (l : List ByteArray) (D : DV) (n m : Nat) (r : Int) (D' : DV) (S' : SV) : Prop where
  le : n ≤ m
  acts : D'.acts + 6 * n ≤ D.acts + 6 * l.length
  fk : D.fk = 0 → D'.fk = 0
  out : (r = 0 ∧ m = l.length ∧ S' = sA k (itA k l) ∧ Qf R D' ∧ Ext k (itA k l) D'.L) ∨
    (r ≠ 0 ∧ D.fk ≠ 0 ∧ ∃ s, l[m]? = some s ∧ S' = { sA k (itA k (l.take m)) with lame := true } ∧ D'.free ≤ R ∧ Ord D'.L ∧ Gd k (itA k (l.take m)) (some (s.data.toList, dg0 k m)) D'.L ∧ (Qf R D' ∨ D'.down = true))
def MtQ (w : World) (q p : Nat) (S0 : Nat → Prop) (R k : Nat) (l : List ByteArray) (D : DV) (n : Nat) (e : Ending) (w' : World) : Prop := ∃ m r D' S', e = .returned (.tuple #[.int .i64 ((m : Nat) : Int), .int .i64 r]) ∧ MdS w w' q p S0 D' S' ∧ Mt R k l D n m r D' S'
set_option maxRecDepth 100000 in
set_option maxHeartbeats 2000000 in
theorem met_any1 (w W0 : World) {q p : Nat} {S0 : Nat → Prop} {D : DV} (R : Nat) (k : Nat) (k1 : 1 ≤ k) (k2 : k ≤ 32) (hR : 10000 ≤ R) (hR2 : R ≤ 268435456) (ha : D.acts ≤ 1000) (la : Option Addr) (lb len lc : Nat) (l : List ByteArray) (hr : RdS w la lb 0 len l) (hb : 0 < len → ¬ S0 lb) (hs : Sml l) (n : Nat) (hn : n ≤ len) (h : MdS w W0 q p S0 D (sA k (itA k (l.take n)))) (hq : Qf R D) (he : Ext k (itA k (l.take n)) D.L) :
    Calls Tryz.prog 28 #[.pointer (some ⟨q, 0, none⟩), .int .i64 (k : Int), .slice la len lc, .int .i64 (n : Int)] W0 (MtQ w q p S0 R k l D n) := by
  have hfew := hs.few
  have hll := hr.hl
  have HA : Hid (∀ (i : Nat) (wr : World) (Di : DV), i < len → Qf R Di → Ext k (itA k (l.take i)) Di.L → Di.acts + 6 * n ≤ D.acts + 6 * i → MdS w wr q p S0 Di (sA k (itA k (l.take i))) → ∃ s D' S' r, l[i]? = some s ∧ AdF R k (itA k (l.take i)) (s.data.toList, dg0 k i) Di D' S' r ∧ ∀ W va vc m, Below wr.heap.size wr W → OwnS W wr.heap.size (.slice va m vc) (dg0 k i) → m = (dg0 k i).length → Calls Tryz.prog 15 #[.pointer (some ⟨q, 0, none⟩), .string s, .slice va m vc] W fun e w' => e = .returned (.int .i64 r) ∧ MdS w w' q p S0 D' S') := fun i wr Di hi g1 g2 g3 g4 => by
    obtain ⟨s, hsi⟩ : ∃ s, l[i]? = some s := ⟨_, List.getElem?_eq_getElem (by omega)⟩
    have sm := (hs.take (i + 1)).smk k1 k2
    rw [itA_next hsi] at sm
    obtain ⟨D', S', r, y1, y2⟩ := add_f sm g1 g2 hR hR2
    refine ⟨s, D', S', r, hsi, y2, fun W va vc m hW ow hm => ?_⟩
    obtain ⟨va', rb, vc', hv, rds, _, _⟩ := owns_rds ow (fun x hx => by rw [dg0_sz k i x hx]; omega)
    injection hv with z1 z2 z3
    subst z1 z3
    rw [← hm] at rds
    have hsz := hs.sz s (List.mem_of_getElem? hsi)
    have hdl := dg0_len k i
    have htl : Pl.trl 64 i + 1 ≤ 131074 := by have := nn_next i (by omega); have := nn_mono i (by omega); omega
    exact (g4.next hW).add1 (g1.rm g2.oth hR2 (by omega)) s (by omega) va rb 0 m vc (dg0 k i) rds (by omega) r y1
  have HD : Hid (∀ (n : Nat) (W : World), n ≤ 65536 → Calls Tryz.prog 14 #[.int .u64 (n : Int), .int .i64 (k : Int), .slice none 0 0] W fun e w' => ∃ va vc, e = .returned (.slice va (1 + Pl.trl 64 n) vc) ∧ OwnS w' W.heap.size (.slice va (1 + Pl.trl 64 n) vc) (dg0 k n) ∧ Below W.heap.size W w') := fun n W hn => digests0_any W n k hn k2
  have HR : Hid (∀ wr D S, MdS w wr q p S0 D S → RdS wr la lb 0 len l) := fun wr D S hm => hm.rds hr hb
  have HM0 := hide h
  have HS0 : Hid (Qf R D ∧ Ext k (itA k (l.take n)) D.L ∧ D.acts + 6 * n ≤ D.acts + 6 * n ∧ (D.fk = 0 → D.fk = 0)) := ⟨hq, he, Nat.le_refl _, id⟩
  have hptr := hr.ptr
  have HDa : Hid (D.acts ≤ 1000) := ha
  clear h hq he hR hR2 ha hr hb hs
  go_enter Tryz.func28, Tryz.ntmps28
  go_wp2
  go_loopg [10] (len - n) (fun g x wr => ∃ (i : Nat) (Di : DV), n ≤ i ∧ i ≤ len ∧ g = len - i ∧ x = .int .i64 (i : Int) ∧ Hid (MdS w wr q p S0 Di (sA k (itA k (l.take i)))) ∧ Hid (Qf R Di ∧ Ext k (itA k (l.take i)) Di.L ∧ Di.acts + 6 * n ≤ D.acts + 6 * i ∧ (D.fk = 0 → Di.fk = 0)))
  case atStart =>
    go_light
    exact ⟨n, D, Nat.le_refl _, hn, rfl, rfl, HM0, HS0⟩
  case round =>
    clear HS0 HM0
    obtain ⟨i, Di, hni, hi, rfl, rfl, HM, HQ⟩ := hrel
    by_cases hlt : i < len
    · have hz : (i : Int) < (len : Int) := by omega
      obtain ⟨s, D', S', r, hsi, hAd, hcall⟩ := HA.out i wr Di hlt HQ.out.1 HQ.out.2.1 HQ.out.2.2.1 HM.out
      obtain rfl := hptr (by omega)
      have hsd : l.getD i ByteArray.empty = s := by rw [List.getD_eq_getElem?_getD, hsi]; rfl
      have CL : Hid (∀ W, Below wr.heap.size wr W → W.cell? ⟨lb, 0 + i, none⟩ = some (.string s)) := fun W hW => by
        have := (HR.out W Di _ (HM.out.next hW)).at hlt
        rwa [hsd] at this
      have CL2 : Hid (∀ W, MdS w W q p S0 D' S' → W.cell? ⟨lb, 0 + i, none⟩ = some (.string s)) := fun W hW => by
        have := (HR.out W D' _ hW).at hlt
        rwa [hsd] at this
      rw [Nat.zero_add] at CL CL2
      have ew1 : IntKind.u64.wrap (i : Int) = (i : Int) := wrap_u _ (by omega) (by omega)
      have ew2 : IntKind.i64.wrap ((i : Int) + 1) = (i : Int) + 1 := by rw [IntKind.wrap_i64]; omega
      have hdl := dg0_len k i
      obtain ⟨m, hm⟩ : ∃ m, 1 + Pl.trl 64 i = m := ⟨_, rfl⟩
      have HD1 : Hid (∀ W, Below wr.heap.size wr W → Calls Tryz.prog 14 #[.int .u64 (i : Int), .int .i64 (k : Int), .slice none 0 0] W fun e w' => ∃ va vc, e = .returned (.slice va m vc) ∧ OwnS w' wr.heap.size (.slice va m vc) (dg0 k i) ∧ Below wr.heap.size wr w') := fun W hW => by
        have := HD.out i W (by omega)
        rw [hm] at this
        exact this.mono fun e w' z => by
          obtain ⟨va, vc, z1, z2, z3⟩ := z
          exact ⟨va, vc, z1, World.ownsRow.mono z2 hW.size, bnext hW z3⟩
      have HAd : Hid (∀ W va vc, Below wr.heap.size wr W → OwnS W wr.heap.size (.slice va m vc) (dg0 k i) → Calls Tryz.prog 15 #[.pointer (some ⟨q, 0, none⟩), .string s, .slice va m vc] W fun e w' => e = .returned (.int .i64 r) ∧ MdS w w' q p S0 D' S') := fun W va vc hW ow => hcall W va vc m hW ow (by rw [hdl, hm])
      have c0 := CL.out wr (Below.refl _ _)
      rcases hAd.out with ⟨rfl, rfl, o3, o4⟩ | ⟨o1, o2, rfl, o3⟩
      · have HN : Hid (Qf R D' ∧ Ext k (itA k (l.take (i + 1))) D'.L ∧ D'.acts + 6 * n ≤ D.acts + 6 * (i + 1) ∧ (D.fk = 0 → D'.fk = 0)) := by
          have q1 := hAd.acts
          obtain ⟨q2, q3, q4, q5⟩ := HQ.out
          exact ⟨o3, by rw [itA_next hsi]; exact o4, by omega, fun h => hAd.fk (q5 h)⟩
        have HT : Hid (∀ W, MdS w W q p S0 D' (sA k (itA k (l.take i) ++ [(s.data.toList, dg0 k i)])) → MdS w W q p S0 D' (sA k (itA k (l.take (i + 1))))) := fun W hW => by rw [itA_next hsi]; exact hW
        clear hm hdl hsd hsi hcall hAd o3 o4 HA HD HR HM HQ hll
        go_upto_region 4 with (fail)
        have u := bdz wr
        go_region_held3 (fun Z => Z.cell? ⟨lb, i, none⟩ = some (.string s)) (first | assumption | (with_reducible exact CL2.out _ t4) | (with_reducible exact CL.out _ u)) (first
          | (go_at_call 14; (with_reducible refine (HD1.out _ u).mono ?_); rintro e w3 ⟨va, vc, rfl, o3, u⟩)
          | (go_at_call 15; (with_reducible refine (HAd.out _ _ _ u o3).mono ?_); rintro e w4 ⟨rfl, t4⟩))
        all_goals
          go_wp2
          go_roundg (len - (i + 1))
          case rel =>
            go_light
            exact ⟨i + 1, D', by omega, by omega, rfl, by go_num, HT.out _ t4, HN⟩
          case measure => go_light; omega
      · have HN : Hid (∀ W, MdS w W q p S0 D' { sA k (itA k (l.take i)) with lame := true } → MtQ w q p S0 R k l D n (.returned (.tuple #[.int .i64 (i : Int), .int .i64 r])) W) := fun W hW => by
          have q1 := hAd.acts
          obtain ⟨q2, q3, q4, q5⟩ := HQ.out
          exact ⟨i, r, D', _, rfl, hW, hni, by omega, fun h => hAd.fk (q5 h), .inr ⟨o1, fun h => o2 (q5 h), s, hsi, rfl, o3⟩⟩
        have hr0 : (r == 0) = false := by simpa using o1
        clear hm hdl hsd hsi hcall hAd o3 o2 HA HD HR HM HQ hll
        go_upto_region 4 with (fail)
        have u := bdz wr
        go_region_held3 (fun Z => Z.cell? ⟨lb, i, none⟩ = some (.string s)) (first | assumption | (with_reducible exact CL2.out _ t4) | (with_reducible exact CL.out _ u)) (first
          | (go_at_call 14; (with_reducible refine (HD1.out _ u).mono ?_); rintro e w3 ⟨va, vc, rfl, o3, u⟩)
          | (go_at_call 15; (with_reducible refine (HAd.out _ _ _ u o3).mono ?_); rintro e w4 ⟨rfl, t4⟩))
        all_goals
          go_wp2
          go_ret2
          exact HN.out _ t4
    · have hz : ¬ (i : Int) < (len : Int) := by omega
      obtain rfl : i = len := by omega
      have HZ : Hid (MdS w wr q p S0 Di (sA k (itA k l)) ∧ Mt R k l D n i 0 Di (sA k (itA k l))) := by
        have h1 := HM.out
        obtain ⟨q2, q3, q4, q5⟩ := HQ.out
        rw [List.take_of_length_le (by omega)] at h1 q3
        exact ⟨h1, hni, by omega, q5, .inl ⟨rfl, by omega, rfl, q2, q3⟩⟩
      clear HA HD HR HM HQ hll
      go_wp2
      go_ret2
      exact ⟨i, 0, Di, _, rfl, HZ.out.1, HZ.out.2⟩
end Go.Proofs.YthfnpagangjpbaaGreat
