/-
  The laws' has. Own work.
-/
import Derived.Test.YthfnpagangjpbaaGreatZ30
import Derived.Test.YthfnpagangjpbaaGreatZ31
namespace Go.Proofs.YthfnpagangjpbaaGreat
open Go.RowKit
open Rc
attribute [local go_sem ↓] Go.wp_at_zero Go.wp_at_succ
/-- A list's items with their nodes. -/
def itA (k : Nat) (l : List ByteArray) : List It := l.mapIdx fun i s => (s.data.toList, dg0 k i)
theorem itA_len (k : Nat) (l : List ByteArray) : (itA k l).length = l.length := by simp [itA]
theorem itA_at (k : Nat) (l : List ByteArray) (i : Nat) (s : ByteArray) (h : l[i]? = some s) : (itA k l)[i]? = some (s.data.toList, dg0 k i) := by
  unfold itA
  rw [List.getElem?_mapIdx, h]; rfl
theorem itA_snoc (k : Nat) (l : List ByteArray) (s : ByteArray) : itA k (l ++ [s]) = itA k l ++ [(s.data.toList, dg0 k l.length)] := by simp [itA]
theorem itA_take (k : Nat) (l : List ByteArray) (j : Nat) : itA k (l.take j) = (itA k l).take j := by
  apply List.ext_getElem?
  intro i
  unfold itA
  rw [List.getElem?_mapIdx, List.getElem?_take, List.getElem?_take, List.getElem?_mapIdx]
  split <;> rfl
theorem itA_ok {k : Nat} {l : List ByteArray} (h1 : 1 ≤ k) (h2 : k ≤ 32) (hl : l.length ≤ 65536) (hs : ∀ s ∈ l, s.size ≤ 1048576) : OkA k (itA k l) :=
  ⟨h1, h2, by rw [itA_len]; exact hl, fun i x hx => by
    unfold itA at hx
    rw [List.getElem?_mapIdx] at hx
    obtain ⟨s, hs', rfl⟩ := Option.map_eq_some_iff.1 hx
    have hi := (List.getElem?_eq_some_iff.1 hs').1
    exact dg0_ok (by omega) _ (by rw [size_list]; exact hs s (List.mem_of_getElem? hs'))⟩
/-- A store and its disk have these. -/
structure HasA (k : Nat) (l : List ByteArray) (D : DV) (S : SV) : Prop where
  ok : OkA k (itA k l)
  kk : S.k = k
  ends : S.ends = (bA k (itA k l)).ends
  down : D.down = false
  a : (bA k (itA k l)).a <+: (fget D.L nmI).now
  b : (bA k (itA k l)).b <+: (fget D.L nmN).now
theorem hasA_ext {k : Nat} {l : List ByteArray} {D : DV} (h : OkA k (itA k l)) (hd : D.down = false) (he : Ext k (itA k l) D.L) : HasA k l D (sA k (itA k l)) := ⟨h, rfl, rfl, hd, by rw [he.i]; exact List.prefix_rfl, by rw [he.n]; exact List.prefix_rfl⟩
set_option maxRecDepth 100000 in
set_option maxHeartbeats 2000000 in
theorem has_any (w : World) {q p : Nat} {T : Nat → Prop} {D : DV} {S : SV} (h : Sk w q p T D S) (k : Nat) (l : List ByteArray) (hh : HasA k l D S) (la : Option Addr) (lb lo len lc : Nat) (hr : RdS w la lb lo len l) :
    Calls Tryz.prog 16 #[.pointer (some ⟨q, 0, none⟩), .int .i64 (k : Int), .slice la len lc] w fun e w' => e = .returned (.bool true) ∧ Below w.heap.size w w' := by
  have hll := hr.hl
  have hlens := hh.ok.lens
  have hfew := hh.ok.few
  rw [itA_len, hll] at hfew
  have hel : S.ends.length = len := by rw [hh.ends, hlens.ends, itA_len, hll]
  have HS : Hid (∀ W, Below w.heap.size w W → Calls Tryz.prog 20 #[.pointer (some ⟨q, 0, none⟩)] W fun e w' => e = .returned (.int .u64 (len : Int)) ∧ w' = W) := fun W hW => by
    have := fsize_any W (h.next hW)
    rw [hel] at this
    exact this
  have HI : Hid (∀ (i : Nat) (s : ByteArray) (W : World), l[i]? = some s → Below w.heap.size w W → Calls Tryz.prog 31 #[.pointer (some ⟨q, 0, none⟩), .int .u64 (i : Int)] W fun e w' => e = .returned (.tuple #[.string s, .int .i64 0]) ∧ Below w.heap.size w w') := fun i s W hi hW => by
    have e := item_ok hh.ok hh.ends hh.down hh.a i _ (itA_at k l i s hi)
    have hil := (List.getElem?_eq_some_iff.1 hi).1
    exact (item_any W (h.next hW) i (by omega) s 0 (by rw [e]; exact Rc.ba_ext rfl) (by rw [e])).mono fun e w' z => ⟨z.1, bnext hW z.2⟩
  have HI2 : Hid (∀ W, Below w.heap.size w W → Calls Tryz.prog 31 #[.pointer (some ⟨q, 0, none⟩), .int .u64 (len : Int)] W fun e w' => e = .returned (.tuple #[.string ⟨#[]⟩, .int .i64 31]) ∧ Below w.heap.size w w') := fun W hW => by
    have e := item_no (D := D) (S := S) len (by omega)
    exact (item_any W (h.next hW) len (by omega) ⟨#[]⟩ 31 (by rw [e]; rfl) (by rw [e])).mono fun e w' z => ⟨z.1, bnext hW z.2⟩
  have hnn := nn_le len
  have HN : Hid (∀ (i j : Nat) (d : ByteArray) (W : World), i < len → (dg0 k i)[j]? = some d → Below w.heap.size w W → Calls Tryz.prog 32 #[.pointer (some ⟨q, 0, none⟩), .int .u64 ((nn i + j : Nat) : Int)] W fun e w' => e = .returned (.tuple #[.string d, .int .i64 0]) ∧ Below W.heap.size W w') := fun i j d W hi hj hW => by
    obtain ⟨s, hs⟩ : ∃ s, l[i]? = some s := ⟨_, List.getElem?_eq_getElem (by omega)⟩
    have e := node_ok hh.ok hh.ends hh.kk hh.down hh.b i j _ d (itA_at k l i s hs) hj
    have hb := (rows_at hh.ok i j _ d (itA_at k l i s hs) hj).2
    rw [itA_len, hll] at hb
    exact fnode_any W (h.next hW) (nn i + j) (by omega) d 0 (by rw [e]; exact Rc.ba_ext rfl) (by rw [e])
  have HN2 : Hid (∀ W, Below w.heap.size w W → Calls Tryz.prog 32 #[.pointer (some ⟨q, 0, none⟩), .int .u64 (nn len : Int)] W fun e w' => e = .returned (.tuple #[.string ⟨#[]⟩, .int .i64 31]) ∧ Below w.heap.size w w') := fun W hW => by
    have e := node_no (D := D) (S := S) (nn len) (by rw [hel]; exact Nat.le_refl _)
    exact (fnode_any W (h.next hW) (nn len) (by omega) ⟨#[]⟩ 31 (by rw [e]; rfl) (by rw [e])).mono fun e w' z => ⟨z.1, bnext hW z.2⟩
  have hk32 : k ≤ 32 := hh.ok.k2
  have HD : Hid (∀ (n : Nat) (W : World), n ≤ 65536 → Calls Tryz.prog 14 #[.int .u64 (n : Int), .int .i64 (k : Int), .slice none 0 0] W fun e w' => ∃ va vc, e = .returned (.slice va (1 + Pl.trl 64 n) vc) ∧ OwnS w' W.heap.size (.slice va (1 + Pl.trl 64 n) vc) (dg0 k n) ∧ Below W.heap.size W w') := fun n W hn => digests0_any W n k hn hk32
  have HP : Hid (∀ W, Calls Tryz.prog 53 #[.int .u64 (len : Int)] W fun e w' => e = .returned (.tuple #[.int .u64 (nn len : Int), .bool true]) ∧ w' = W) := fun W => Pl.nodes_yes len W (by omega)
  have HR : Hid (∀ W, Below w.heap.size w W → RdS W la lb lo len l) := fun W hW => hr.next hW (Nat.le_refl _)
  have ew0 : IntKind.u64.wrap (len : Int) = (len : Int) := wrap_u _ (by omega) (by omega)
  have hptr := hr.ptr
  clear h hh hr hel hlens
  go_enter Tryz.func16, Tryz.ntmps16
  go_wp2_with (go_at_call 20; (with_reducible refine (HS.out _ (Below.refl _ _)).mono ?_); rintro e w1 ⟨rfl, rfl⟩)
  go_loopg [7, 8] len (fun g x y wr => ∃ i : Nat, i ≤ len ∧ g = len - i ∧ x = .int .u64 (nn i : Int) ∧ y = .int .i64 (i : Int) ∧ Hid (Below w1.heap.size w1 wr))
  case atStart =>
    go_light
    exact ⟨0, Nat.zero_le _, rfl, rfl, rfl, Below.refl _ _⟩
  case round =>
    obtain ⟨i, hi, rfl, rfl, rfl, HB⟩ := hrel
    by_cases hlt : i < len
    · have hz : (i : Int) < (len : Int) := by omega
      obtain ⟨s, hs⟩ : ∃ s, l[i]? = some s := ⟨_, List.getElem?_eq_getElem (by omega)⟩
      have HI1 := hide (HI.out i s wr hs HB.out)
      obtain rfl := hptr (by omega)
      have hsd : l.getD i ByteArray.empty = s := by rw [List.getD_eq_getElem?_getD, hs]; rfl
      have CL : Hid (∀ W, Below w1.heap.size w1 W → W.cell? ⟨lb, lo + i, none⟩ = some (.string s)) := fun W hW => by
        have := (HR.out W hW).at hlt
        rwa [hsd] at this
      have hbe := beq_yes (rfl : s = s)
      have ew1 : IntKind.u64.wrap (i : Int) = (i : Int) := wrap_u _ (by omega) (by omega)
      have ew2 : IntKind.i64.wrap ((i : Int) + 1) = (i : Int) + 1 := by rw [IntKind.wrap_i64]; omega
      have hnx := nn_next i (by omega)
      have hdl := dg0_len k i
      have hnl := nn_le i
      obtain ⟨m, hm⟩ : ∃ m, 1 + Pl.trl 64 i = m := ⟨_, rfl⟩
      have HD1 : Hid (∀ W, Calls Tryz.prog 14 #[.int .u64 (i : Int), .int .i64 (k : Int), .slice none 0 0] W fun e w' => ∃ va vc, e = .returned (.slice va m vc) ∧ OwnS w' W.heap.size (.slice va m vc) (dg0 k i) ∧ Below W.heap.size W w') := fun W => by
        have := HD.out i W (by omega)
        rwa [hm] at this
      have hmm := nn_mono i (by omega)
      rw [hm] at hnx hdl
      clear hm hsd HI
      go_wp2_with (first
        | (go_at_call 31; (with_reducible refine HI1.out.mono ?_); rintro e w2 ⟨rfl, u2⟩; have c2 := CL.out _ u2)
        | (go_at_call 14; (with_reducible refine (HD1.out _).mono ?_); rintro e w3 ⟨va, vc, rfl, o3, u3⟩))
      have HU3 : Hid (Below w1.heap.size w1 w3) := bnext u2 u3
      obtain ⟨va', rb, vc', hv, rds, hcap, _⟩ := owns_rds o3 (fun x hx => by rw [dg0_sz k i x hx]; omega)
      injection hv with e1 e2 e3
      subst e1 e3
      clear e2
      rw [hdl] at rds
      have HRd : Hid (∀ W, Below w3.heap.size w3 W → RdS W va rb 0 m (dg0 k i)) := fun W hW => rds.next hW (Nat.le_refl _)
      have hptr2 := rds.ptr
      clear o3 rds hcap HI1 HB u2 u3 HD1 HD c2
      obtain ⟨ni, hni⟩ : ∃ x, nn i = x := ⟨_, rfl⟩
      have HNi : Hid (∀ (j : Nat) (d : ByteArray) (W : World), (dg0 k i)[j]? = some d → Below w1.heap.size w1 W → Calls Tryz.prog 32 #[.pointer (some ⟨q, 0, none⟩), .int .u64 ((ni + j : Nat) : Int)] W fun e w' => e = .returned (.tuple #[.string d, .int .i64 0]) ∧ Below W.heap.size W w') := fun j d W h1 h2 => by rw [← hni]; exact HN.out i j d W hlt h1 h2
      rw [hni] at hnx hnl hmm ⊢
      have hm41 : m ≤ 41 := by omega
      have HX := hide hnx
      clear hni HN hnx
      generalize wr = wo at *
      clear wr
      go_loopg [7, 12] m (fun g x y wz => ∃ j : Nat, j ≤ m ∧ g = m - j ∧ x = .int .u64 ((ni + j : Nat) : Int) ∧ y = .int .i64 (j : Int) ∧ Hid (Below w3.heap.size w3 wz))
      case atStart =>
        go_light
        exact ⟨0, Nat.zero_le _, rfl, by rw [Nat.add_zero], rfl, Below.refl _ _⟩
      case round =>
        obtain ⟨j, hj, rfl, hx, rfl, HJ⟩ := hrel
        obtain ⟨pp, hpp⟩ : ∃ p, ni + j = p := ⟨_, rfl⟩
        rw [hpp] at hx
        subst hx
        by_cases hjl : j < m
        · have hz2 : (j : Int) < (m : Int) := by omega
          obtain ⟨d, hd⟩ : ∃ d, (dg0 k i)[j]? = some d := ⟨_, List.getElem?_eq_getElem (by omega)⟩
          have HN1 := HNi.out j d wr hd (bnext HU3.out HJ.out)
          rw [hpp] at HN1
          have HNe := hide HN1
          obtain rfl := hptr2 (by omega)
          have hdd : (dg0 k i).getD j ByteArray.empty = d := by rw [List.getD_eq_getElem?_getD, hd]; rfl
          have CL2 : Hid (∀ W, Below wr.heap.size wr W → W.cell? ⟨rb, j, none⟩ = some (.string d)) := fun W hW => by
            have := (HRd.out W (bnext HJ.out hW)).at hjl
            rwa [hdd, Nat.zero_add] at this
          have HJn : Hid (∀ W, Below w1.heap.size w1 W → Below wr.heap.size wr W → Below w3.heap.size w3 W) := fun W _ hW => bnext HJ.out hW
          have hbd := beq_yes (rfl : d = d)
          have ew3 : IntKind.u64.wrap ((pp : Int) + 1) = ((pp + 1 : Nat) : Int) := by rw [wrap_u _ (by omega) (by omega)]; omega
          have ew4 : IntKind.i64.wrap ((j : Int) + 1) = (j : Int) + 1 := by rw [IntKind.wrap_i64]; omega
          have hpn : ni + (j + 1) = pp + 1 := by omega
          have HB2 : Hid (Below w1.heap.size w1 wr) := bnext HU3.out HJ.out
          have HPn := hide hpn
          have hmB : m ≤ 9223372036854775807 := by omega
          clear HN1 hd hdd HRd HNi HJ hpn hpp hmm hnl hdl hptr2 hptr hnn hbe hll ew0 ew1 ew2 hm41 hj
          go_wp2_with (go_at_call 32; (with_reducible refine HNe.out.mono ?_); rintro e w5 ⟨rfl, u5⟩; have c5 := CL2.out _ u5)
          go_roundg (m - (j + 1))
          case rel =>
            go_light
            exact ⟨j + 1, by omega, rfl, by rw [HPn.out]; rfl, by go_num, HJn.out _ (bnext HB2.out u5) u5⟩
          case measure => go_light; omega
        · have hz2 : ¬ (j : Int) < (m : Int) := by omega
          obtain rfl : j = m := by omega
          have hpn : pp = nn (i + 1) := by have := HX.out; omega
          have HB2 : Hid (Below w1.heap.size w1 wr) := bnext HU3.out HJ.out
          have HPn := hide hpn
          clear HRd HNi HJ hpn hpp hmm hnl hdl hptr2 hj hjl hptr hnn hbe hll ew0 ew1
          go_wp2
          go_roundg (len - (i + 1))
          case rel =>
            go_light
            exact ⟨i + 1, by omega, rfl, by rw [HPn.out], by go_num, HB2⟩
          case measure => go_light; omega
    · have hz : ¬ (i : Int) < (len : Int) := by omega
      obtain rfl : i = len := by omega
      clear HI HN HD
      have HI3 := hide (HI2.out wr HB.out)
      have HZ := HB
      generalize nn i = nl at *
      go_wp2_with (first
        | (go_at_call 31; (with_reducible refine HI3.out.mono ?_); rintro e w2 ⟨rfl, u2⟩)
        | (go_at_call 32; (with_reducible refine (HN2.out _ u2).mono ?_); rintro e w3 ⟨rfl, u3⟩)
        | (go_at_call 53; (with_reducible refine (HP.out _).mono ?_); rintro e w4 ⟨rfl, rfl⟩))
      go_ret
      exact ⟨rfl, u3⟩
end Go.Proofs.YthfnpagangjpbaaGreat
