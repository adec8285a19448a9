/-
  Own work: HRefB, BAlive, PRefA, PRefB.
-/
import Derived.Deep.AppendLies
import Derived.Test.YtipcenbndhnnhaaGreatDoorQk25
import Derived.Test.YtipcenbndhnnhaaGreatDoorQk33
namespace Go.Proofs.YtipcenbndhnnhaaGreatDoor
open Go.RowKit
attribute [local go_sem ↓] Go.wp_at_zero Go.wp_at_succ
theorem strB_cons (x : Int) (l : List Int) : strB [x] ++ strB l = strB (x :: l) := by
  apply ByteArray.ext
  rw [ByteArray.data_append]
  apply Array.toList_inj.1
  rw [Array.toList_append, strB_list, strB_list, strB_list]
  rfl
def tlL (n k : Nat) : List Int := (nbL n 8).drop (8 - k)
theorem tlL_succ (n k : Nat) (h : k < 8) : ((n / 256 ^ k % 256 : Nat) : Int) :: tlL n k = tlL n (k + 1) := by
  unfold tlL
  have hl : 8 - (k + 1) < (nbL n 8).length := by rw [nbL_len]; omega
  rw [List.drop_eq_getElem_cons hl, show 8 - (k + 1) + 1 = 8 - k by omega]
  congr 1
  have : (nbL n 8)[8 - (k + 1)] = ((n / 256 ^ (7 - (8 - (k + 1))) % 256 : Nat) : Int) := by simp [nbL]
  rw [this, show 7 - (8 - (k + 1)) = k by omega]
theorem wrap_ur (x : Int) (h0 : 0 ≤ x) (h1 : x < 18446744073709551616) : IntKind.u64.wrap x = x := by
  simp [IntKind.wrap, IntKind.signed, IntKind.bits]; omega
set_option maxRecDepth 100000 in
theorem refroott_any (w : World) (n : Nat) (hn : n < 18446744073709551616) (d : ByteArray) (hs : d.size < 2305843009213693952) (r : ByteArray) (hr : rootT n d = r) :
    Calls Tryz.prog 53 #[.int .u64 (n : Int), .string d] w fun e w' => e = .returned (.string r) ∧ Below w.heap.size w w' := by
  have hB := Below.refl w.heap.size w
  go_enter Tryz.func53, Tryz.ntmps53
  go_wp2
  go_loopg [0, 5, 6] 8 (fun g a s i wr => ∃ (k N : Nat) (z : ByteArray), k ≤ 8 ∧ g = 8 - k ∧ a = .int .u64 (N : Int) ∧ s = .string z ∧ i = .int .i64 (k : Int) ∧ Hid (N = n / 256 ^ k ∧ z = strB (tlL n k)) ∧ z.size = k ∧ Below w.heap.size w wr)
  case atStart =>
    go_light
    exact ⟨0, n, ⟨#[]⟩, Nat.zero_le _, rfl, rfl, rfl, rfl, ⟨by simp, rfl⟩, rfl, hB⟩
  case round =>
    clear hB
    obtain ⟨k, N, z, hk, rfl, rfl, rfl, rfl, HE, hz, hb⟩ := hrel
    by_cases hlt : k < 8
    · have h1 : (k : Int) < 8 := by omega
      obtain ⟨y, hy⟩ : ∃ y, strB [(N : Int) % 256] = y := ⟨_, rfl⟩
      have cv := fun W => conv_one W ((N : Int) % 256)
      have zy := one_size ((N : Int) % 256)
      rw [hy] at zy
      simp only [hy] at cv
      have HN : Hid ((N : Int) / 256 = ((n / 256 ^ (k + 1) : Nat) : Int) ∧ y ++ z = strB (tlL n (k + 1))) := by
        have h := HE.out
        refine ⟨?_, ?_⟩
        · rw [h.1, Nat.pow_succ, ← Nat.div_div_eq_div_mul]; omega
        · rw [← hy, h.2, strB_cons, ← tlL_succ n k hlt, h.1]; congr 2
      have hns : ¬ (9223372036854775807 < 1 + k) := by omega
      have ew : IntKind.u64.wrap ((N : Int) / 256) = (N : Int) / 256 := by
        have h := HE.out.1
        have : N ≤ n := by rw [h]; exact Nat.div_le_self _ _
        exact wrap_ur _ (by omega) (by omega)
      have hsz : (y ++ z).size = k + 1 := by rw [ByteArray.size_append, zy, hz]; omega
      have HZ := hide hsz
      clear hy HE hsz
      go_wp2
      go_roundg (8 - (k + 1))
      case rel =>
        go_light
        exact ⟨k + 1, n / 256 ^ (k + 1), y ++ z, by omega, rfl, by rw [← HN.out.1], rfl, by go_num, ⟨rfl, HN.out.2⟩, HZ.out, bal hb _⟩
      case measure => go_light; omega
    · obtain rfl : k = 8 := by omega
      have hzz : ¬ ((8 : Int) < 8) := by decide
      have HT := fun W => reftext_any W 3 z d (by omega) hs r (by
        rw [← hr, HE.out.2, rootT, strB_cons]; rfl)
      rw [show ((8 : Nat) : Int) = 8 from rfl]
      clear HE hlt hk
      go_wp2_with (go_at_call 99; with_reducible refine (HT _).mono ?_; rintro e w1 ⟨rfl, hb1⟩)
      go_ret
      exact ⟨rfl, bnext hb hb1⟩
set_option maxRecDepth 100000 in
theorem refbagged_any (w : World) (ht : Tr w) (k : Int) (ao : Option Addr) (b off len cap : Nat) (ss : List ByteArray) (hr : RdS w ao b off len ss) (hsz : ∀ s ∈ ss, s.size ≤ 140737488351232) (hmx : len ≤ 8796093022208) (r : ByteArray) (hq : bagL (clk k) ss = r) :
    Calls Tryz.prog 54 #[.int .i64 k, .slice ao len cap] w fun e w' => e = .returned (.string r) ∧ Below w.heap.size w w' := by
  by_cases h0 : len = 0
  · subst h0
    have : ss = [] := List.length_eq_zero_iff.1 hr.hl
    subst this
    subst hq
    go_enter Tryz.func54, Tryz.ntmps54
    go_wp2
    go_ret
    exact ⟨rfl, Below.refl _ _⟩
  · have hlen : 0 < len := by omega
    obtain rfl := hr.ptr hlen
    obtain ⟨m, rfl⟩ : ∃ m, len = m + 1 := ⟨len - 1, by omega⟩
    have hc := clk_le k
    have hne : ¬ ((m : Int) + 1 = 0) := by omega
    have cm := hr.at (k := m) (by omega)
    have HL : Hid (bagL (clk k) (ss.drop m) = ss.getD m ByteArray.empty) := by
      have := bagL_last (clk k) ss (by rw [hr.hl]; omega)
      rw [hr.hl] at this; exact this
    have HSZ : Hid (∀ d, d = bagL (clk k) ss → True) := fun _ _ => trivial
    have HM : Hid (∀ j, j < m + 1 → (ss.getD j ByteArray.empty).size ≤ 140737488351232) := fun j hj => hsz _ (getD_mem (by rw [hr.hl]; exact hj))
    have HD : Hid (∀ j, (bagL (clk k) (ss.drop j)).size ≤ 140737488351232) := fun j => bagL_size hc (by decide) _ (fun s hs => hsz s (List.mem_of_mem_drop hs))
    have HN : Hid (∀ j, j < m → bagL (clk k) (ss.drop j) = dg (clk k) (bagT (ss.getD j ByteArray.empty) (bagL (clk k) (ss.drop (j + 1))))) := fun j hj => bagL_drop _ _ _ (by rw [hr.hl]; omega)
    have HT : Hid (Tr w) := ht
    have HR : Hid (RdS w (some ⟨b, off, none⟩) b off (m + 1) ss) := hr
    have HQ : Hid (bagL (clk k) (ss.drop 0) = r) := hq
    obtain ⟨d0, hd0⟩ : ∃ d0, ss.getD m ByteArray.empty = d0 := ⟨_, rfl⟩
    rw [hd0] at cm
    have HL2 : Hid (bagL (clk k) (ss.drop m) = d0) := by rw [← hd0]; exact HL
    clear hd0 HL ht hr hq hsz HSZ h0 hlen
    go_enter Tryz.func54, Tryz.ntmps54
    go_wp2
    go_loopg [5, 6] m (fun g x i wr => ∃ (j : Nat) (d : ByteArray), j = g ∧ x = .string d ∧ i = .int .i64 ((j : Int) - 1) ∧ j ≤ m ∧ Hid (bagL (clk k) (ss.drop j) = d) ∧ Below w.heap.size w wr)
    case atStart =>
      go_light
      exact ⟨m, d0, rfl, rfl, by go_num, Nat.le_refl _, HL2, Below.refl _ _⟩
    case round =>
      obtain ⟨j, d, hg, rfl, rfl, hj, HE, hb⟩ := hrel
      subst hg
      cases j with
      | zero =>
        have hz : ¬ ((0 : Int) ≤ -1) := by decide
        rw [show ((0 : Nat) : Int) - 1 = -1 from rfl]
        have HF : Hid (d = r) := HE.out.symm.trans HQ.out
        clear HE HN HQ HM HD HR HT cm
        obtain rfl := HF.out
        go_wp2
        go_ret
        exact ⟨rfl, hb⟩
      | succ j =>
        have e1 : ((j + 1 : Nat) : Int) - 1 = (j : Int) := by omega
        have hz : (0 : Int) ≤ (j : Int) := by omega
        have hz2 : (j : Int) < (m : Int) + 1 := by omega
        have hjm : j < m := by omega
        have cj := (HR.out.next hb (Nat.le_refl _)).at (k := j) (by omega)
        have z1 := HM.out j (by omega)
        have z2 := HD.out (j + 1)
        have hn := HN.out j hjm
        rw [HE.out] at z2 hn
        generalize ss.getD j ByteArray.empty = p at *
        have HG := fun W => refbagt_any W p d (by omega) (by omega) _ rfl
        obtain ⟨t, ht⟩ : ∃ t, bagT p d = t := ⟨_, rfl⟩
        have zt := bagT_size p d
        rw [ht] at zt
        simp only [ht] at HG hn
        obtain ⟨d', hd'⟩ : ∃ d', dg (clk k) t = d' := ⟨_, rfl⟩
        have HO : Hid (∀ W, Below w.heap.size w W → Calls Tryz.prog 52 #[.int .i64 k, .string t] W fun e w' => e = .returned (.string d') ∧ Below W.heap.size W w') := fun W hb => refof_any W (HT.out.next hb) k t (by omega) d' hd'
        have HE2 : Hid (bagL (clk k) (ss.drop j) = d') := hn.trans hd'
        rw [e1]
        clear HE hn hd' ht zt z1 z2 e1 cm HL2
        go_wp2_with (first
          | (go_at_call 100; with_reducible refine (HG _).mono ?_; rintro e w1 ⟨rfl, hb1⟩; replace hb := bnext hb hb1; clear hb1)
          | (go_at_call 52; with_reducible refine (HO.out _ hb).mono ?_; rintro e w2 ⟨rfl, hb2⟩; replace hb := bnext hb hb2; clear hb2))
        go_roundg j
        case rel =>
          go_light
          exact ⟨j, d', rfl, rfl, by go_num, by omega, HE2.out, hb⟩
        case measure => go_light; omega
set_option maxRecDepth 100000 in
theorem refroot_any (w : World) (ht : Tr w) (k : Int) (n : Nat) (hn : n < 18446744073709551616) (ao : Option Addr) (b off len cap : Nat) (ss : List ByteArray) (hr : RdS w ao b off len ss) (hsz : ∀ s ∈ ss, s.size ≤ 140737488351232) (hmx : len ≤ 8796093022208) (r : ByteArray) (hq : dg (clk k) (rootT n (bagL (clk k) ss)) = r) :
    Calls Tryz.prog 24 #[.int .i64 k, .int .u64 (n : Int), .slice ao len cap] w fun e w' => e = .returned (.string r) ∧ Below w.heap.size w w' := by
  have hz : (bagL (clk k) ss).size ≤ 140737488351232 := bagL_size (clk_le k) (by decide) _ hsz
  obtain ⟨d, hd⟩ : ∃ d, bagL (clk k) ss = d := ⟨_, rfl⟩
  have HBg := refbagged_any w ht k ao b off len cap ss hr hsz hmx d hd
  rw [hd] at hq hz
  obtain ⟨t, hrt⟩ : ∃ t, rootT n d = t := ⟨_, rfl⟩
  have HRt := fun W => refroott_any W n hn d (by omega) t hrt
  have zt := rootT_size n d
  rw [hrt] at hq zt
  have HO : Hid (∀ W, Below w.heap.size w W → Calls Tryz.prog 52 #[.int .i64 k, .string t] W fun e w' => e = .returned (.string r) ∧ Below W.heap.size W w') := fun W hb => refof_any W (ht.next hb) k t (by omega) r hq
  have hb := Below.refl w.heap.size w
  clear hq ht hd hrt zt hz hr hsz hmx
  go_enter Tryz.func24, Tryz.ntmps24
  go_wp2_with (first
    | (go_at_call 54; with_reducible refine HBg.mono ?_; rintro e w1 ⟨rfl, hb1⟩; replace hb := bnext hb hb1; clear hb1)
    | (go_at_call 53; with_reducible refine (HRt _).mono ?_; rintro e w1 ⟨rfl, hb1⟩; replace hb := bnext hb hb1; clear hb1)
    | (go_at_call 52; with_reducible refine (HO.out _ hb).mono ?_; rintro e w2 ⟨rfl, hb2⟩; replace hb := bnext hb hb2; clear hb2))
  go_ret
  exact ⟨rfl, hb⟩
end Go.Proofs.YtipcenbndhnnhaaGreatDoor
namespace Go.Proofs.YtipcenbndhnnhaaGreatDoor
open Go.RowKit
open Cv (RdC zl cU)
attribute [local go_sem ↓] Go.wp_at_zero Go.wp_at_succ
theorem batch_complete (c : Nat) (L : List ByteArray) (n : Nat) (S : List Nat) (hn : n ≤ L.length) (he : Cv.errS n S = 0) : pB c (Cv.dnL 41 0 n) S (S.map fun i => L.getD i ByteArray.empty) (dgB c L n S) = pks c (L.take n) 41 := by
  obtain ⟨h40, _, _, hc⟩ := Cv.errS_ok he
  have hrow : Cv.Row n 0 (Cv.dnL 41 0 n) := by rw [← Cv.cov_zero n h40]; exact Cv.cov_row 0 n (Nat.zero_le _) h40
  have ha := chain_asc hc
  have hfr : Fr 0 n S := fun i hi => Cv.chain_mem hc i hi
  rw [pB_nd c L (Cv.dnL 41 0 n) 0 S _ _ [] hrow ha hfr rfl (by rw [List.append_nil, fB_flat hrow ha hfr, ← Cv.rest_ref n S h40 hc]; rfl), ← Cv.cov_zero n h40]
  exact (cov_peaks c L n hn h40).1
theorem dgB_size {c : Nat} (hc : c ≤ 32) (L : List ByteArray) (n : Nat) (S : List Nat) : ∀ s ∈ dgB c L n S, s.size = c := fun s hs => by
  obtain ⟨b, _, rfl⟩ := List.mem_map.1 hs
  exact nd_size hc _ _ _
theorem dgB_len (c : Nat) (L : List ByteArray) (n : Nat) (S : List Nat) : (dgB c L n S).length = (Cv.rst 0 n S).length := List.length_map _
theorem bprove_rd (w : World) (m : Nat) (k : Int) (L : List ByteArray) (hF : Frs w m k L) (hL : L.length ≤ 5000) (n : Nat) (hn : n ≤ L.length) (ao : Option Addr) (b off c : Nat) (S : List Nat) (hr : RdU w ao b off S.length S) (he : Cv.errS n S = 0) (D : List ByteArray) (hD : dgB (clk k) L n S = D) :
    Calls Tryz.prog 11 #[.pointer (some ⟨m + 1, 0, none⟩), .int .u64 (n : Int), .slice ao S.length c] w fun e w' => ∃ gs cs ad bd cd, e = .returned (.tuple #[.agg #[.int .i64 2, .int .i64 k, .int .u64 0, .int .u64 (n : Int), .slice (some ⟨gs, 0, none⟩) S.length cs, .slice ad D.length cd], .int .i64 0]) ∧ RdU w' (some ⟨gs, 0, none⟩) gs 0 S.length S ∧ S.length ≤ cs ∧ RdS w' ad bd 0 D.length D ∧ D.length ≤ cd ∧ (ad = none → cd = 0) ∧ Cv.Own w' w.heap.size (.slice (some ⟨gs, 0, none⟩) S.length cs) S ∧ OwnS w' w.heap.size (.slice ad D.length cd) D ∧ Below w.heap.size w w' :=
  (bprove_ok w m k L hF hL n hn ao b off c S hr he D hD).mono fun e w' ⟨vs, vd, e1, e2, e3, e4⟩ => by
    obtain ⟨gs, cs, rfl, _, hcs, _⟩ := ownU_form e2 (rst_num he).2
    obtain ⟨ad, bd, cd, rfl, r3, hcd, hnd⟩ := owns_rds e3 (fun s hs => by rw [← hD] at hs; rw [dgB_size (clk_le k) _ _ _ s hs]; have := clk_le k; omega)
    exact ⟨gs, cs, ad, bd, cd, e1, own_rdu (l' := []) (by rw [List.append_nil]; exact e2), hcs, r3, hcd, hnd, e2, e3, e4⟩
end Go.Proofs.YtipcenbndhnnhaaGreatDoor
namespace Go.Proofs.YtipcenbndhnnhaaGreatDoor
open Go.RowKit
attribute [local go_sem ↓] Go.wp_at_zero Go.wp_at_succ
set_option maxRecDepth 100000 in
set_option maxHeartbeats 2000000 in
theorem rtree_any (w : World) (ht : Tr w) (k : Int) (ao : Option Addr) (b off cap H n : Nat) (hH : H ≤ 40) (hn : 2 ^ H = n) (L : List ByteArray) (hr : RdS w ao b off n L) (hsz : ∀ s ∈ L, s.size ≤ 140737488351232) (r : ByteArray) (hq : Hid (nd (clk k) L H 0 = r)) :
    Calls Tryz.prog 56 #[.int .i64 k, .slice ao n cap] w fun e w' => e = .returned (.string r) ∧ Below w.heap.size w w' := by
  have hn0 : 0 < n := by rw [← hn]; exact Nat.two_pow_pos H
  have hmx : n ≤ 1099511627776 := by rw [← hn]; exact Nat.pow_le_pow_right (n := 2) (by decide) hH
  obtain rfl := hr.ptr hn0
  have HT : Hid (Tr w ∧ RdS w (some ⟨b, off, none⟩) b off n L ∧ (∀ s ∈ L, s.size ≤ 140737488351232)) := ⟨ht, hr, hsz⟩
  have hmx' : (n : Int) ≤ 1099511627776 := by omega
  have hb := Below.refl w.heap.size w
  have HN : Hid (2 ^ H = n ∧ n ≤ 1099511627776) := ⟨hn, hmx⟩
  have hc := clk_le k
  have HC : Hid (clk k ≤ 32) := hc
  clear ht hr hsz hn hH hmx hc
  go_enter Tryz.func56, Tryz.ntmps56
  go_wp2
  go_loopg [5, 6] n (fun gg v i0 wr => ∃ i : Nat, i ≤ n ∧ gg = n - i ∧ i0 = .int .i64 (i : Int) ∧ OwnS wr w.heap.size v (rowN (clk k) L 0 i) ∧ Below w.heap.size w wr)
  case atStart =>
    go_light
    exact ⟨0, Nat.zero_le _, rfl, rfl, owns_nil _ _, hb⟩
  case round =>
    clear hb
    obtain ⟨i, hi, rfl, rfl, ho, hb⟩ := hrel
    have hi0 : (0 : Int) ≤ (i : Int) := Int.natCast_nonneg _
    by_cases hlt : i < n
    · have hlt' : (i : Int) < (n : Int) := by omega
      obtain ⟨t1, t2, t3⟩ := HT.out
      obtain ⟨s, hs⟩ : ∃ s, L.getD i ByteArray.empty = s := ⟨_, rfl⟩
      have ci := (t2.next hb (Nat.le_refl _)).at hlt
      rw [hs] at ci
      obtain ⟨x, hx⟩ : ∃ x, nd (clk k) L 0 i = x := ⟨_, rfl⟩
      have HLf := refleaf_any wr (t1.next hb) k s (by rw [← hs]; have := t3 _ (getD_mem (ss := L) (k := i) (by rw [t2.hl]; exact hlt)); omega) x (by rw [← hx, nd, hs])
      have HX : Hid (OwnS wr w.heap.size u5 (rowN (clk k) L 0 i) ∧ Below w.heap.size w wr ∧ i + 1 ≤ n ∧ x.size ≤ 9223372036854775807 ∧ rowN (clk k) L 0 i ++ [x] = rowN (clk k) L 0 (i + 1)) := ⟨ho, hb, hlt, by rw [← hx, nd_size HC.out]; have := HC.out; omega, by rw [← hx]; exact rowN_more _ _ _ _⟩
      clear ho hb hi hlt hs hx t1 t2 t3
      go_wp2_with (first
        | (go_at_call 101; with_reducible refine HLf.mono ?_; rintro e w2 ⟨rfl, hb2⟩)
        | (at_builtin; refine wpList_append_S _ rfl _ _ rfl w.heap.size _ (rowN (clk k) L 0 i) rfl (own_al (own_next HX.out.1 hb2 (Nat.le_refl _)) _) (some ⟨w2.heap.size, 0, none⟩) w2.heap.size 0 1 [x] rfl (rds_one w2 x HX.out.2.2.2.1) (fun h => by cases h) ?c1 ?c2 ?_))
      case c1 => have h1 := HX.out.2.2.1; have h2 := HN.out.2; rw [rowN_len]; simp; omega
      case c2 => have := (bnext HX.out.2.1 hb2).size; simp; omega
      intro v2 w3 h3 hb3
      have HY : Hid (OwnS w3 w.heap.size v2 (rowN (clk k) L 0 (i + 1)) ∧ Below w.heap.size w w3) := ⟨by rw [← HX.out.2.2.2.2]; exact h3, (bal (bnext HX.out.2.1 hb2) _).trans hb3⟩
      clear h3 hb3 hb2
      go_wp2
      go_roundg (n - (i + 1))
      case rel =>
        go_light
        exact ⟨i + 1, HX.out.2.2.1, rfl, by go_num, HY.out.1, HY.out.2⟩
      case measure => go_light; have := HX.out.2.2.1; omega
    · obtain rfl : i = n := by omega
      have hlt' : ¬ ((i : Int) < (i : Int)) := by omega
      have HX : Hid (OwnS wr w.heap.size u5 (rowN (clk k) L 0 i) ∧ Below w.heap.size w wr) := ⟨ho, hb⟩
      clear ho hb hi hlt
      go_wp2
      go_loopg [5] H (fun gg v wx => ∃ (j N : Nat), j ≤ H ∧ gg = H - j ∧ Hid (2 ^ (H - j) = N ∧ N ≤ 1099511627776) ∧ OwnS wx w.heap.size v (rowN (clk k) L j N) ∧ Below w.heap.size w wx)
      case atStart =>
        go_light
        exact ⟨0, i, Nat.zero_le _, rfl, HN.out, HX.out.1, HX.out.2⟩
      case round =>
        clear HX
        obtain ⟨j, N, hj, rfl, HJ, ho, hb⟩ := hrel
        have hNN := HJ.out
        have hN0 : 0 < N := by rw [← hNN.1]; exact Nat.two_pow_pos _
        obtain ⟨g, cp, rfl, hg, hcp, hcm⟩ := own_form ho (by rw [rowN_len]; exact hN0)
        rw [rowN_len] at hcp ⊢
        by_cases hjl : j < H
        · obtain ⟨M, hM⟩ : ∃ M, 2 ^ (H - (j + 1)) = M := ⟨_, rfl⟩
          have hNM : N = 2 * M := by rw [← hNN.1, ← hM, show H - j = H - (j + 1) + 1 by omega, Nat.pow_succ]; omega
          have hM0 : 0 < M := by rw [← hM]; exact Nat.two_pow_pos _
          have h1N : (1 : Int) < (N : Int) := by omega
          have hN' : (N : Int) ≤ 1099511627776 := by omega
          have HX : Hid (OwnS wr w.heap.size (.slice (some ⟨g, 0, none⟩) (rowN (clk k) L j N).length cp) (rowN (clk k) L j N) ∧ Below w.heap.size w wr ∧ N = 2 * M ∧ 2 ^ (H - (j + 1)) = M ∧ j + 1 ≤ H ∧ N ≤ 1099511627776) := ⟨ho, hb, hNM, hM, hjl, hNN.2⟩
          clear ho hb hNN hN0 hg hcp hcm hNM hM hM0 hjl hj HJ
          obtain ⟨W0, hW0⟩ : ∃ W0, W0 = wr := ⟨wr, rfl⟩
          subst hW0
          go_wp2
          go_loopg [7, 8] M (fun gg v i0 wx => ∃ m : Nat, m ≤ M ∧ gg = M - m ∧ i0 = .int .i64 (2 * (m : Int)) ∧ OwnS wx W0.heap.size v (rowN (clk k) L (j + 1) m) ∧ Below W0.heap.size W0 wx)
          case atStart =>
            go_light
            exact ⟨0, Nat.zero_le _, rfl, rfl, owns_nil _ _, Below.refl _ _⟩
          case round =>
            obtain ⟨m, hm, rfl, rfl, ho, hb⟩ := hrel
            have hm0 : (0 : Int) ≤ (m : Int) := Int.natCast_nonneg _
            obtain ⟨y1, y2, y3, y4, y5, y6⟩ := HX.out
            by_cases hlt : m < M
            · have hlt' : 2 * (m : Int) + 1 < (N : Int) := by omega
              have hlt2 : 2 * (m : Int) < (N : Int) := by omega
              obtain ⟨a, ha⟩ : ∃ a, 2 * m = a := ⟨_, rfl⟩
              have ea : 2 * (m : Int) = (a : Int) := by omega
              have k1 := (own_cell (own_next y1 hb (Nat.le_refl _)) (j := a) (by rw [rowN_len]; omega)).1
              have k2 := (own_cell (own_next y1 hb (Nat.le_refl _)) (j := a + 1) (by rw [rowN_len]; omega)).1
              rw [rowN_at _ _ _ _ (by omega)] at k1 k2
              obtain ⟨x, hx⟩ : ∃ x, nd (clk k) L j a = x := ⟨_, rfl⟩
              obtain ⟨y, hy⟩ : ∃ y, nd (clk k) L j (a + 1) = y := ⟨_, rfl⟩
              obtain ⟨z, hz⟩ : ∃ z, nd (clk k) L (j + 1) m = z := ⟨_, rfl⟩
              rw [hx] at k1
              rw [hy] at k2
              have zx : x.size = clk k := by rw [← hx]; exact nd_size HC.out _ _ _
              have zy : y.size = clk k := by rw [← hy]; exact nd_size HC.out _ _ _
              have hcc := HC.out
              have HNd : Hid (∀ W, Below wr.heap.size wr W → Calls Tryz.prog 102 #[.int .i64 k, .string x, .string y] W fun e w' => e = .returned (.string z) ∧ Below W.heap.size W w') := fun W h => refnode_any W (HT.out.1.next (bnext (bnext y2 hb) h)) k x y (by omega) (by omega) z (by rw [← hz, nd, ha, hx, hy])
              have HK : Hid (∀ W, Below wr.heap.size wr W → W.cell? ⟨g, a, none⟩ = some (.string x) ∧ W.cell? ⟨g, a + 1, none⟩ = some (.string y)) := fun W h => by
                have l1 := World.block_lt_of_cell? wr _ k1
                exact ⟨(h.cell (p := ⟨g, a, none⟩) l1).trans k1, (h.cell (p := ⟨g, a + 1, none⟩) l1).trans k2⟩
              have HK0 : Hid (∀ W, Below W0.heap.size W0 W → W.cell? ⟨g, a, none⟩ = some (.string x) ∧ W.cell? ⟨g, a + 1, none⟩ = some (.string y)) := fun W h => by
                have r1 := (own_cell (own_next y1 h (Nat.le_refl _)) (j := a) (by rw [rowN_len]; omega)).1
                have r2 := (own_cell (own_next y1 h (Nat.le_refl _)) (j := a + 1) (by rw [rowN_len]; omega)).1
                rw [rowN_at _ _ _ _ (by omega)] at r1 r2
                rw [hx] at r1
                rw [hy] at r2
                exact ⟨r1, r2⟩
              have HY : Hid (OwnS wr W0.heap.size u7 (rowN (clk k) L (j + 1) m) ∧ Below W0.heap.size W0 wr ∧ rowN (clk k) L (j + 1) m ++ [z] = rowN (clk k) L (j + 1) (m + 1) ∧ z.size ≤ 9223372036854775807 ∧ m + 1 ≤ M ∧ N = 2 * M ∧ N ≤ 1099511627776) := ⟨ho, hb, by rw [← hz]; exact rowN_more _ _ _ _, by rw [← hz, nd_size HC.out]; omega, hlt, y3, y6⟩
              have e1 : IntKind.i64.wrap ((a : Int) + 1) = (a : Int) + 1 := by rw [IntKind.wrap_i64]; omega
              have h0a : (0 : Int) ≤ (a : Int) := by omega
              have h0b : (0 : Int) ≤ (a : Int) + 1 := by omega
              have hd : Below wr.heap.size wr wr.drew := (Below.refl _ _).drew
              rw [ea] at hlt' hlt2 ⊢
              clear y1 y2 y3 y4 y5 y6 ho hb hm hlt hx hy hz zx zy hcc ha
              go_upto_region 11 with (fail)
              obtain ⟨i0, hi0, hz0, hz1, hz2⟩ := info_parts Tryz.infoS
              have HO : Hid (∀ W, Below wr.heap.size wr W → (W.alloc (.cells #[.string z] 9)).ownsRow W0.heap.size 9 1 u7 m ((rowN (clk k) L (j + 1) m).map Value.string)) := fun W h => by
                have := own_al (own_next HY.out.1 h (Nat.le_refl _)) (.cells #[.string z] 9)
                rw [OwnS, rowN_len] at this; exact this
              have HM1 : Hid (m + 1 ≤ maxLen ∧ (m + 1) * 16 ≤ 140737488355328) := by have := HY.out; refine ⟨?_, ?_⟩; unfold maxLen; omega; omega
              have HS0 : Hid (∀ W, Below wr.heap.size wr W → W0.heap.size ≤ (W.alloc (.cells #[.string z] 9)).heap.size) := fun W h => by have := (bnext HY.out.2.1 h).size; simp; omega
              have kk := HK.out wr.drew hd
              have HG : Hid (∀ w2 w3, Below wr.drew.heap.size wr.drew w2 → (w2.alloc (.cells #[.string z] 9)).grownBy w3 u7.ownBlock → Below W0.heap.size W0 w3) := fun w2 w3 h1 h2 => (bal (bnext (bnext HY.out.2.1 hd) h1) _).grown h2 (by have := (bnext (bnext HY.out.2.1 hd) h1).size; simp; omega) (fun q hq => (HY.out.1.lt q hq).1)
              have HK3 : Hid (∀ w2 w3, Below wr.drew.heap.size wr.drew w2 → (w2.alloc (.cells #[.string z] 9)).grownBy w3 u7.ownBlock → w3.cell? ⟨g, a, none⟩ = some (.string x) ∧ w3.cell? ⟨g, a + 1, none⟩ = some (.string y)) := fun w2 w3 h1 h2 => HK0.out w3 (HG.out w2 w3 h1 h2)
              go_region_held3 (fun w' => w'.cell? ⟨g, a, none⟩ = some (.string x) ∧ w'.cell? ⟨g, a + 1, none⟩ = some (.string y)) (first | assumption | (exact HK3.out _ _ hb2 hgrow) | (exact HK.out _ (bnext hd hb2)) | (exact HK.out _ (bal (bnext hd hb2) _))) (first
                | (go_at_call 102; with_reducible refine (HNd.out _ hd).mono ?_; rintro e w2 ⟨rfl, hb2⟩)
                | (refine step_append_lies _ (by rfl) _ _ _ (by rfl) W0.heap.size 9 i0 _ 1 16 Tryz.underlying22 hi0 hz0 hz1 hz2 rfl (by omega) u7 m ((rowN (clk k) L (j + 1) m).map Value.string) (by rfl) (HO.out _ (bnext hd hb2)) ⟨w2.heap.size, 0, none⟩ 1 1 [.string z] (by rfl) (by rfl) (World.news_of_block (cs := #[.string z]) (t := 9) (fr := (0, 0)) (heap_alloc_new w2 _)) (by simp [Value.oneCell']) (by omega) HM1.out.1 HM1.out.2 (HS0.out _ (bnext hd hb2)) (w2.heap.size + 1) (by simp) ?_; intro gg cap_1 w3 hown3 hgrow hat hlt3))
              have HZ : Hid (OwnS w3 W0.heap.size (.slice (some ⟨gg, 0, none⟩) (m + 1) cap_1) (rowN (clk k) L (j + 1) (m + 1)) ∧ Below W0.heap.size W0 w3) := ⟨by
                rw [OwnS, rowN_len, ← HY.out.2.2.1, List.map_append]; exact hown3, HG.out _ _ hb2 hgrow⟩
              clear hown3 hgrow hat hlt3 HG HK3 HK HK0 HNd HO HS0 kk
              have HEa := hide ea
              clear ea
              go_wp2
              go_roundg (M - (m + 1))
              case rel =>
                go_light
                exact ⟨m + 1, HY.out.2.2.2.2.1, rfl, by have := HEa.out; rw [show 2 * ((m + 1 : Nat) : Int) = (a : Int) + 2 by omega], HZ.out.1, HZ.out.2⟩
              case measure => go_light; have := HY.out.2.2.2.2.1; omega
            · obtain rfl : m = M := by omega
              obtain ⟨a, ha⟩ : ∃ a, 2 * m = a := ⟨_, rfl⟩
              have ea : 2 * (m : Int) = (a : Int) := by omega
              have hlt' : ¬ ((a : Int) + 1 < (N : Int)) := by omega
              have e1 : IntKind.i64.wrap ((a : Int) + 1) = (a : Int) + 1 := by rw [IntKind.wrap_i64]; omega
              rw [ea]
              have HY : Hid (OwnS wr w.heap.size u7 (rowN (clk k) L (j + 1) m) ∧ Below w.heap.size w wr ∧ 2 ^ (H - (j + 1)) = m ∧ j + 1 ≤ H ∧ m ≤ 1099511627776) := ⟨World.ownsRow.mono ho y2.size, bnext y2 hb, y4, y5, by omega⟩
              clear y1 y2 y3 y4 y5 y6 ho hb hm hlt HX ha ea
              go_wp2
              go_roundg (H - (j + 1))
              case rel =>
                go_light
                obtain ⟨k1, k2, k3, k4, k5⟩ := HY.out
                exact ⟨j + 1, m, k4, rfl, ⟨k3, k5⟩, k1, k2⟩
              case measure => go_light; have := HY.out.2.2.2.1; omega
        · obtain rfl : j = H := by omega
          obtain ⟨n1, n2⟩ := hNN
          rw [Nat.sub_self, Nat.pow_zero] at n1
          subst n1
          have k1 := (own_cell ho (j := 0) (by rw [rowN_len]; decide)).1
          rw [rowN_at _ _ _ _ (by decide), hq.out] at k1
          have h1 : ¬ ((1 : Int) < 1) := by decide
          have HB : Hid (Below w.heap.size w wr) := hb
          clear ho hb hcp hcm hg HJ n2 hN0 hj hjl
          go_wp2
          go_ret
          exact ⟨rfl, HB.out⟩
end Go.Proofs.YtipcenbndhnnhaaGreatDoor
namespace Go.Proofs.YtipcenbndhnnhaaGreatDoor
open Go.RowKit
attribute [local go_sem ↓] Go.wp_at_zero Go.wp_at_succ
theorem RdS.cut {w : World} {b off len : Nat} {ss : List ByteArray} (h : RdS w (some ⟨b, off, none⟩) b off len ss) (i n : Nat) (hn : i + n ≤ len) : RdS w (some ⟨b, off + i, none⟩) b (off + i) n ((ss.drop i).take n) := by
  refine ⟨by rw [List.length_take, List.length_drop, h.hl]; omega, fun _ => rfl, fun j v hv => ?_, fun s hs => h.sz s (List.mem_of_mem_drop (List.mem_of_mem_take hs))⟩
  rw [List.map_take, List.getElem?_take] at hv
  split at hv
  · rw [List.map_drop, List.getElem?_drop] at hv
    rw [Nat.add_assoc]
    exact h.rng (i + j) v hv
  · cases hv
end Go.Proofs.YtipcenbndhnnhaaGreatDoor
