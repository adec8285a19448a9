/-
  Own work: EAlive, ELawA, PRefA, PRefB.
-/
import Derived.Deep.RegionWith
import Derived.Deep.RegionHeld3
import Derived.Deep.AppendLies
import Derived.Test.YtdocjikpcbmcgaaGreatDoorQs41
namespace Go.Proofs.YtdocjikpcbmcgaaGreatDoor
open Go.RowKit
attribute [local go_sem ↓] Go.wp_at_zero Go.wp_at_succ
abbrev s0A : ByteArray := ⟨#[1, 1, 1, 0]⟩
theorem dec_s0 : dec s0A.data.toList = some ⟨1, 1, 0, 1, [0], []⟩ := by kernel_rfl
theorem wy_zero : Wy 1 0 [] 0 [] := ⟨by decide, by decide, (fun a h => by cases h), (fun a h => by cases h)⟩
theorem dn_oneX : Cv.dnL 41 0 1 = [(0, 0)] := by decide
theorem ext_one (b : ByteArray) (d : UInt8) (t : List UInt8) (h : b.data.toList = d :: t) : b.extract 0 1 = ⟨#[d]⟩ := by
  apply ByteArray.ext
  apply Array.toList_inj.1
  rw [ByteArray.data_extract, Array.toList_extract, h]
  rfl
theorem tw_alike : dg 1 (leafT (itm 1)) = dg 1 (leafT (itm 11)) := by
  have h1 : (shaS RS (tB (leafT (itm 1)))).data.toList = (97 : UInt8) :: ((shaT RS (tB (leafT (itm 1)))).drop 1).map fun n => UInt8.ofNat n.toNat := by
    rw [shaS, strB_list, show tB (leafT (itm 1)) = [0, 0, 1, 120] by kernel_rfl, ← shaE_eq _ _ (by decide), ev_t1]; rfl
  have h2 : (shaS RS (tB (leafT (itm 11)))).data.toList = (97 : UInt8) :: ((shaT RS (tB (leafT (itm 11)))).drop 1).map fun n => UInt8.ofNat n.toNat := by
    rw [shaS, strB_list, show tB (leafT (itm 11)) = [0, 0, 11, 120] by kernel_rfl, ← shaE_eq _ _ (by decide), ev_t11]; rfl
  rw [dg, dg, ext_one _ _ _ h1, ext_one _ _ _ h2]
theorem tw_unlike : itm 1 ≠ itm 11 := by decide
theorem rt_one (c : Nat) (x : ByteArray) : rtD c [x] 1 = dg c (rootT 1 (dg c (leafT x))) := by
  have := rt_map (c := c) (L := [x]) (show 1 ≤ 2 ^ 40 by decide)
  rw [show [x].length = 1 from rfl, dn_oneX] at this
  exact this
theorem rtP_one (c : Nat) (x : ByteArray) : rtP c 1 0 0 0 [] x = dg c (rootT 1 (dg c (leafT x))) := rfl
theorem one_acc (x y : ByteArray) (hx : x.size ≤ 1000) (hy : y.size ≤ 1000) (he : dg (clk 1) (leafT x) = dg (clk 1) (leafT y)) : ∃ c T, ClmX 1 [x] [(0, y)] s0A 1 c 0 T := by
  obtain ⟨c, hc⟩ : ∃ c, rtD (clk 1) [x] 1 = c := ⟨_, rfl⟩
  have hc2 : rtP (clk 1) 1 0 0 0 [] y = c := by rw [rtP_one, ← he, ← rt_one]; exact hc
  refine Exists.elim (ext_core 1 (by decide) [x] (by simp) (fun s hs => by simp at hs; subst hs; omega) [(0, y)] (by simp) s0A (by decide) c hc 0 (fun W ca cb co cc ht hK => ?_) (fun _ => ⟨_, by decide, by decide, dec_s0, rfl, rfl, rfl, rfl, (show 1 ≤ 2 ^ 40 by decide), fun z hz => by simp at hz; subst hz; omega, .inl ⟨rfl, 0, [], 0, [], rfl, wy_zero, (show 0 < 1 by decide), ⟨rfl, fun d hd => by cases hd⟩, hc2⟩⟩)) fun T hT => ⟨c, T, hT⟩
  · refine claims_led W 1 (by decide) (by decide) 1 c ca cb co 1 cc [(0, y)] hK (by decide) s0A (by decide) _ dec_s0 rfl ⟨.inl rfl, rfl⟩ 1 c 0 (fun V sa sb sc da db dc ao m q hb hF ho => ?_) 0 (by rw [clmD, if_pos ⟨rfl, rfl, rfl⟩])
    obtain ⟨ao', xb, c', hv', hx2, hxc, hxn⟩ := owns_rds ho (fun z hz => by simp at hz; subst hz; omega)
    injection hv' with e1 e2 e3
    subst e1 e2 e3
    refine leads_path V 1 0 1 sa 1 sc da 0 dc ao xb 0 1 q [y] hx2 (by decide) 1 c 0 fun Z hbZ => ?_
    have hF2 := hF.next hbZ
    have hpt := hF2.p.rs.ptr (show 0 < 1 by decide)
    subst hpt
    have hra : RA Z 1 1 sb 0 0 0 [] [] := ⟨by decide, by decide, by decide, wy_zero, by have := hF2.p.rs.at (j := 0) (show 0 < 1 by decide); simpa using this⟩
    exact proot_okT Z 1 1 sb 0 sc 0 0 [] [] hra da db 0 dc [] hF2.p.rd (by decide) y ⟨rfl, fun d hd => by cases hd⟩ (by omega) (ht.next (bnext hb hbZ)) hF2.p.cD hF2.mC hF2.nD c hc2
theorem one_found {x y c : ByteArray} {T : Pq} (X : ClmX 1 [x] [(0, y)] s0A 1 c 0 T) (he : dg (clk 1) (leafT x) = dg (clk 1) (leafT y)) (hne : x ≠ y) : T = some (leafT x, leafT y) := by
  obtain ⟨_, P, Bs, K, R, A, Tr, _, h2⟩ := X.yes rfl
  have hso : ¬ soC [x] [(0, y)] := fun h => hne (h (0, y) (by simp))
  rw [h2 hso]
  have hM : ixM Bs 0 0 = none := by
    have := (Tr.free 0 (by simp)).2 0
    rwa [Nat.pow_zero, Nat.div_one] at this
  have hV : vlC [(0, y)] 0 = y := rfl
  have hn : nd (clk 1) [x] 0 0 = xd (clk 1) (ixM Bs) P.D (vlC [(0, y)]) 0 0 := by
    rw [xd_leaf hM, hV]; exact he
  unfold wk
  rw [show [x].length = 1 from rfl, dn_oneX]
  simp only [List.map_cons, List.map_nil, fm]
  rw [hn, tp_self, fp_leaf hM, hV]
  have hl : leafT ([x].getD 0 ByteArray.empty) ≠ leafT y := fun e => hne (leafT_inj e)
  rw [un, if_neg hl]
  rfl
theorem one_call {x y c : ByteArray} {T : Pq} (X : ClmX 1 [x] [(0, y)] s0A 1 c 0 T) (hx : x.size ≤ 1000) (hy : y.size ≤ 1000) (V : World) (ht : Tb V) : Calls Tryz.prog 10 #[.int .i64 1, .slice (some ⟨V.heap.size, 0, none⟩) 1 1, .slice (some ⟨V.heap.size + 1, 0, none⟩) 1 1, .string s0A] ((V.alloc (.cells #[.string x] 9)).alloc (.cells #[.int .u64 0, .string y] 38)) fun e w' => e = .returned (tri T) ∧ Below V.heap.size V w' := by
  have hb1 := bal (Below.refl V.heap.size V) (.cells #[.string x] 9)
  have hb2 := bal (Below.refl _ (V.alloc (.cells #[.string x] 9))) (.cells #[.int .u64 0, .string y] 38)
  have hR : RdS ((V.alloc (.cells #[.string x] 9)).alloc (.cells #[.int .u64 0, .string y] 38)) (some ⟨V.heap.size, 0, none⟩) V.heap.size 0 1 [x] := (rds_one V x (by omega)).next hb2 (Nat.le_refl _)
  have hK : RdK ((V.alloc (.cells #[.string x] 9)).alloc (.cells #[.int .u64 0, .string y] 38)) (some ⟨V.heap.size + 1, 0, none⟩) (V.heap.size + 1) 0 1 [(0, y)] := by
    refine ⟨rfl, fun _ => rfl, ?_, fun z hz => by simp at hz; subst hz; simp only; omega⟩
    have := range_new (V.alloc (.cells #[.string x] 9)) [.int .u64 0, .string y] 38
    rw [World.size_alloc] at this
    exact this
  exact (X.ext _ _ _ _ 1 _ _ _ 1 (ht.next (bnext hb1 hb2)) hR (Nat.le_refl _) hK).mono fun e w' ⟨h1, h2⟩ => ⟨h1, bnext (bnext hb1 hb2) h2⟩
set_option maxRecDepth 100000 in
set_option maxHeartbeats 1000000 in
theorem alive_ext (w : World) (ht : Tb w) (hr : Tr w) : Calls Tryz.prog 7 #[] w fun e w' => e = .returned (.bool true) ∧ Below w.heap.size w w' := by
  have HTw : Hid (Calls Tryz.prog 19 #[] w fun e w' => e = .returned (.tuple #[.string (itm 1), .string (itm 11)]) ∧ Below w.heap.size w w') := twins_any w hr
  have hal : dg (clk 1) (leafT (itm 1)) = dg (clk 1) (leafT (itm 11)) := tw_alike
  have hne := tw_unlike
  have z1 : (itm 1).size ≤ 1000 := by decide
  have z2 : (itm 11).size ≤ 1000 := by decide
  generalize itm 1 = x at *
  generalize itm 11 = y at *
  obtain ⟨c1, T1, X1⟩ := one_acc x y z1 z2 hal
  obtain ⟨c2, T2, X2⟩ := one_acc x x z1 z1 rfl
  have e1 := one_found X1 hal hne
  have e2 : T2 = none := (clm_sound X2).2.1 (fun c hc => by simp at hc; subst hc; rfl)
  subst e1 e2
  have HC1 : Hid (∀ V, Below w.heap.size w V → Calls Tryz.prog 10 #[.int .i64 1, .slice (some ⟨V.heap.size, 0, none⟩) 1 1, .slice (some ⟨V.heap.size + 1, 0, none⟩) 1 1, .string s0A] ((V.alloc (.cells #[.string x] 9)).alloc (.cells #[.int .u64 0, .string y] 38)) fun e w' => e = .returned (.tuple #[.string (leafT x), .string (leafT y), .bool true]) ∧ Below V.heap.size V w') := fun V hb => one_call X1 z1 z2 V (ht.next hb)
  have HC2 : Hid (∀ V, Below w.heap.size w V → Calls Tryz.prog 10 #[.int .i64 1, .slice (some ⟨V.heap.size, 0, none⟩) 1 1, .slice (some ⟨V.heap.size + 1, 0, none⟩) 1 1, .string s0A] ((V.alloc (.cells #[.string x] 9)).alloc (.cells #[.int .u64 0, .string x] 38)) fun e w' => e = .returned (.tuple #[.string ⟨#[]⟩, .string ⟨#[]⟩, .bool false]) ∧ Below V.heap.size V w') := fun V hb => one_call X2 z1 z1 V (ht.next hb)
  obtain ⟨t1, ht1⟩ : ∃ t, (⟨#[0]⟩ : ByteArray) ++ x = t := ⟨_, rfl⟩
  obtain ⟨t2, ht2⟩ : ∃ t, (⟨#[0]⟩ : ByteArray) ++ y = t := ⟨_, rfl⟩
  have hl1 : leafT x = t1 := ht1
  have hl2 : leafT y = t2 := ht2
  rw [hl1, hl2] at HC1
  have hz := list_ne hne
  have hzb := list_beq hne
  clear hal hne X1 X2 hl1 hl2
  go_enter Tryz.func7, Tryz.ntmps7
  go_wp2_with (first
    | (go_at_call 19; with_reducible refine HTw.out.mono ?_; rintro e w1 ⟨rfl, hb1⟩)
    | (go_at_call 10; with_reducible refine (HC1.out _ hb1).mono ?_; rintro e w2 ⟨rfl, hb2⟩)
    | (go_at_call 10; with_reducible refine (HC2.out _ (bnext hb1 hb2)).mono ?_; rintro e w3 ⟨rfl, hb3⟩))
  go_ret
  exact ⟨rfl, bnext (bnext hb1 hb2) hb3⟩
end Go.Proofs.YtdocjikpcbmcgaaGreatDoor
namespace Go.Proofs.YtdocjikpcbmcgaaGreatDoor
open Go.RowKit
attribute [local go_sem ↓] Go.wp_at_zero Go.wp_at_succ
set_option maxRecDepth 100000 in
theorem few_any (w : World) (la : Option Addr) (n lc : Nat) (hc : n ≤ lc) (m : Nat) (hm : min n 150 = m) : Calls Tryz.prog 8 #[.slice la n lc] w fun e w' => e = .returned (.slice la m lc) ∧ w = w' := by
  have z1 : (n : Int) ≤ (lc : Int) := by omega
  by_cases h : 150 < n
  · obtain rfl : m = 150 := by omega
    have z2 : (150 : Int) < (n : Int) := by omega
    have z3 : (150 : Int) ≤ (lc : Int) := by omega
    clear hm h hc
    go_enter Tryz.func8, Tryz.ntmps8
    go_wp2
    go_ret
    exact ⟨rfl, rfl⟩
  · obtain rfl : m = n := by omega
    have z2 : ¬ (150 : Int) < (m : Int) := by omega
    clear hm h hc
    go_enter Tryz.func8, Tryz.ntmps8
    go_wp2
    go_ret
    exact ⟨rfl, rfl⟩
theorem ck1 (w : World) (d : ByteArray) (T : Nat) : (w.alloc (.cells #[.string d] T)).cell? ⟨w.heap.size, 0, none⟩ = some (.string d) := cell_of_one (heap_alloc_new w _)
theorem ck2 (w : World) (d : ByteArray) (T : Nat) (o : Obj) : ((w.alloc (.cells #[.string d] T)).alloc o).cell? ⟨w.heap.size, 0, none⟩ = some (.string d) :=
  cell_of_one (((bal (Below.refl _ (w.alloc (.cells #[.string d] T))) o).block w.heap.size (by rw [World.size_alloc]; omega)).trans (heap_alloc_new w _))
theorem ck3 (w : World) (d : ByteArray) (T : Nat) (o : Obj) : ((w.alloc o).alloc (.cells #[.string d] T)).cell? ⟨w.heap.size + 1, 0, none⟩ = some (.string d) := by
  have := ck1 (w.alloc o) d T
  rwa [World.size_alloc] at this
theorem bcell {W w1 : World} {p : Addr} {v : Value} (hb : Below W.heap.size W w1) (h : W.cell? p = some v) : w1.cell? p = some v := (hb.cell (World.block_lt_of_cell? W _ h)).trans h
theorem of_at (W : World) (hr : Tr W) (g : Nat) (t : ByteArray) (hs : t.size < 1152921504606846976) (hc : W.cell? ⟨g, 0, none⟩ = some (.string t)) (r : ByteArray) (hq : shaS RS (tB t) = r) : Calls Tryz.prog 31 #[.slice (some ⟨g, 0, none⟩) 1 1] W fun e w' => e = .returned (.string r) ∧ Below W.heap.size W w' := by
  have e : flat [t] = tB t := by simp [flat]
  have hrg : W.rangeAt g 0 ([t].map Value.string) := fun j v hj => by
    match j, hj with
    | 0, hj => simp at hj; subst hj; exact hc
  have := refOf_any W (some ⟨g, 0, none⟩) g 0 1 1 [t] rfl (fun _ => rfl) hrg (by decide) RS RS_len hr.rr hr.iv (by rw [e, tB_len]; exact hs)
  rw [e, hq] at this
  exact this
set_option maxRecDepth 100000 in
set_option maxHeartbeats 1000000 in
theorem clash_any (w : World) (hr : Tr w) (k : Int) (k1 : 1 ≤ k) (k2 : k ≤ 32) (a b : ByteArray) (ha : a.size < 1152921504606846976) (hb : b.size < 1152921504606846976) (hne : a ≠ b) (hd : dg (clk k) a = dg (clk k) b) :
    Calls Tryz.prog 12 #[.int .i64 k, .string a, .string b] w fun e w' => e = .returned (.bool true) ∧ Below w.heap.size w w' := by
  obtain ⟨x, hx⟩ : ∃ x, shaS RS (tB a) = x := ⟨_, rfl⟩
  obtain ⟨y, hy⟩ : ∃ y, shaS RS (tB b) = y := ⟨_, rfl⟩
  have hx32 : x.size = 32 := by rw [← hx]; exact shaS_size _ _
  have hy32 : y.size = 32 := by rw [← hy]; exact shaS_size _ _
  have hck : (clk k : Int) = k := clk_of k1 k2
  have hxy : x.extract 0 k.toNat = y.extract 0 k.toNat := by
    have e : clk k = k.toNat := by omega
    rw [dg, dg, hx, hy, e] at hd
    exact hd
  have HA : Hid (∀ W g, Below w.heap.size w W → W.cell? ⟨g, 0, none⟩ = some (.string a) → Calls Tryz.prog 31 #[.slice (some ⟨g, 0, none⟩) 1 1] W fun e w' => e = .returned (.string x) ∧ Below W.heap.size W w') := fun W g hW hc => of_at W (hr.next hW) g a ha hc x hx
  have HB : Hid (∀ W g, Below w.heap.size w W → W.cell? ⟨g, 0, none⟩ = some (.string b) → Calls Tryz.prog 31 #[.slice (some ⟨g, 0, none⟩) 1 1] W fun e w' => e = .returned (.string y) ∧ Below W.heap.size W w') := fun W g hW hc => of_at W (hr.next hW) g b hb hc y hy
  have hz := list_ne hne
  have hzb := list_beq hne
  have y1 : (0 : Int) ≤ k := by omega
  have HXY := hide hxy
  clear hx hy hd hne ha hb hck hxy hr
  go_enter Tryz.func12, Tryz.ntmps12
  go_upto_region 1 with (fail)
  go_region_with (first
    | (go_at_call 31; first
        | (refine (HA.out _ _ (by repeat (first | with_reducible exact Below.refl _ _ | with_reducible exact hb1' | refine Below.drew ?_ | refine bal ?_ _)) (by first | exact ck1 _ _ _ | exact ck2 _ _ _ _ | exact ck3 _ _ _ _)).mono ?_; rintro e w1 ⟨rfl, hb1⟩; have hb1' : Below w.heap.size w w1 := bnext (by repeat (first | with_reducible exact Below.refl _ _ | with_reducible exact hb1' | refine Below.drew ?_ | refine bal ?_ _)) hb1)
        | (refine (HB.out _ _ (by repeat (first | with_reducible exact Below.refl _ _ | with_reducible exact hb1' | refine Below.drew ?_ | refine bal ?_ _)) (by first | exact ck1 _ _ _ | exact bcell hb1 (ck2 _ _ _ _) | exact bcell hb1 (ck3 _ _ _ _))).mono ?_; rintro e w2 ⟨rfl, hb2⟩)))
  all_goals
    have hx := HXY.out
    rw [hx]
    go_wp2
    go_ret
    exact ⟨by simp [Act.put], bnext (by repeat (first | with_reducible exact hb1' | refine bal ?_ _)) hb2⟩
end Go.Proofs.YtdocjikpcbmcgaaGreatDoor
namespace Go.Proofs.YtdocjikpcbmcgaaGreatDoor
open Go.RowKit
attribute [local go_sem ↓] Go.wp_at_zero Go.wp_at_succ
set_option maxRecDepth 100000 in
set_option maxHeartbeats 2000000 in
theorem rtree_any (w : World) (ht : Tr w) (k : Int) (ao : Option Addr) (b off cap H n : Nat) (hH : H ≤ 40) (hn : 2 ^ H = n) (L : List ByteArray) (hr : RdS w ao b off n L) (hsz : ∀ s ∈ L, s.size ≤ 140737488351232) (r : ByteArray) (hq : Hid (nd (clk k) L H 0 = r)) :
    Calls Tryz.prog 55 #[.int .i64 k, .slice ao n cap] w fun e w' => e = .returned (.string r) ∧ Below w.heap.size w w' := by
  have hn0 : 0 < n := by rw [← hn]; exact Nat.two_pow_pos H
  have hmx : n ≤ 1099511627776 := by rw [← hn]; exact Nat.pow_le_pow_right (n := 2) (by decide) hH
  obtain rfl := hr.ptr hn0
  have HT : Hid (Tr w ∧ RdS w (some ⟨b, off, none⟩) b off n L ∧ (∀ s ∈ L, s.size ≤ 140737488351232)) := ⟨ht, hr, hsz⟩
  have hmx' : (n : Int) ≤ 1099511627776 := by omega
  have hb := Below.refl w.heap.size w
  have HN : Hid (2 ^ H = n ∧ n ≤ 1099511627776) := ⟨hn, hmx⟩
  have hc := clk_le k
  have HC : Hid (clk k ≤ 32) := hc
  clear ht hr hsz hn hH hmx hc
  go_enter Tryz.func55, Tryz.ntmps55
  go_wp2
  go_loopg [5, 6] n (fun gg v i0 wr => ∃ i : Nat, i ≤ n ∧ gg = n - i ∧ i0 = .int .i64 (i : Int) ∧ OwnS wr w.heap.size v (rowN (clk k) L 0 i) ∧ Below w.heap.size w wr)
  case atStart =>
    go_light
    exact ⟨0, Nat.zero_le _, rfl, rfl, owns_nil _ _, hb⟩
  case round =>
    clear hb
    obtain ⟨i, hi, rfl, rfl, ho, hb⟩ := hrel
    have hi0 : (0 : Int) ≤ (i : Int) := Int.natCast_nonneg _
    by_cases hlt : i < n
    · have hlt' : (i : Int) < (n : Int) := by omega
      obtain ⟨t1, t2, t3⟩ := HT.out
      obtain ⟨s, hs⟩ : ∃ s, L.getD i ByteArray.empty = s := ⟨_, rfl⟩
      have ci := (t2.next hb (Nat.le_refl _)).at hlt
      rw [hs] at ci
      obtain ⟨x, hx⟩ : ∃ x, nd (clk k) L 0 i = x := ⟨_, rfl⟩
      have HLf := refleaf_any wr (t1.next hb) k s (by rw [← hs]; have := t3 _ (getD_mem (ss := L) (k := i) (by rw [t2.hl]; exact hlt)); omega) x (by rw [← hx, nd, hs])
      have HX : Hid (OwnS wr w.heap.size u5 (rowN (clk k) L 0 i) ∧ Below w.heap.size w wr ∧ i + 1 ≤ n ∧ x.size ≤ 9223372036854775807 ∧ rowN (clk k) L 0 i ++ [x] = rowN (clk k) L 0 (i + 1)) := ⟨ho, hb, hlt, by rw [← hx, nd_size HC.out]; have := HC.out; omega, by rw [← hx]; exact rowN_more _ _ _ _⟩
      clear ho hb hi hlt hs hx t1 t2 t3
      go_wp2_with (first
        | (go_at_call 98; with_reducible refine HLf.mono ?_; rintro e w2 ⟨rfl, hb2⟩)
        | (at_builtin; refine wpList_append_S _ rfl _ _ rfl w.heap.size _ (rowN (clk k) L 0 i) rfl (own_al (own_next HX.out.1 hb2 (Nat.le_refl _)) _) (some ⟨w2.heap.size, 0, none⟩) w2.heap.size 0 1 [x] rfl (rds_one w2 x HX.out.2.2.2.1) (fun h => by cases h) ?c1 ?c2 ?_))
      case c1 => have h1 := HX.out.2.2.1; have h2 := HN.out.2; rw [rowN_len]; simp; omega
      case c2 => have := (bnext HX.out.2.1 hb2).size; simp; omega
      intro v2 w3 h3 hb3
      have HY : Hid (OwnS w3 w.heap.size v2 (rowN (clk k) L 0 (i + 1)) ∧ Below w.heap.size w w3) := ⟨by rw [← HX.out.2.2.2.2]; exact h3, (bal (bnext HX.out.2.1 hb2) _).trans hb3⟩
      clear h3 hb3 hb2
      go_wp2
      go_roundg (n - (i + 1))
      case rel =>
        go_light
        exact ⟨i + 1, HX.out.2.2.1, rfl, by go_num, HY.out.1, HY.out.2⟩
      case measure => go_light; have := HX.out.2.2.1; omega
    · obtain rfl : i = n := by omega
      have hlt' : ¬ ((i : Int) < (i : Int)) := by omega
      have HX : Hid (OwnS wr w.heap.size u5 (rowN (clk k) L 0 i) ∧ Below w.heap.size w wr) := ⟨ho, hb⟩
      clear ho hb hi hlt
      go_wp2
      go_loopg [5] H (fun gg v wx => ∃ (j N : Nat), j ≤ H ∧ gg = H - j ∧ Hid (2 ^ (H - j) = N ∧ N ≤ 1099511627776) ∧ OwnS wx w.heap.size v (rowN (clk k) L j N) ∧ Below w.heap.size w wx)
      case atStart =>
        go_light
        exact ⟨0, i, Nat.zero_le _, rfl, HN.out, HX.out.1, HX.out.2⟩
      case round =>
        clear HX
        obtain ⟨j, N, hj, rfl, HJ, ho, hb⟩ := hrel
        have hNN := HJ.out
        have hN0 : 0 < N := by rw [← hNN.1]; exact Nat.two_pow_pos _
        obtain ⟨g, cp, rfl, hg, hcp, hcm⟩ := own_form ho (by rw [rowN_len]; exact hN0)
        rw [rowN_len] at hcp ⊢
        by_cases hjl : j < H
        · obtain ⟨M, hM⟩ : ∃ M, 2 ^ (H - (j + 1)) = M := ⟨_, rfl⟩
          have hNM : N = 2 * M := by rw [← hNN.1, ← hM, show H - j = H - (j + 1) + 1 by omega, Nat.pow_succ]; omega
          have hM0 : 0 < M := by rw [← hM]; exact Nat.two_pow_pos _
          have h1N : (1 : Int) < (N : Int) := by omega
          have hN' : (N : Int) ≤ 1099511627776 := by omega
          have HX : Hid (OwnS wr w.heap.size (.slice (some ⟨g, 0, none⟩) (rowN (clk k) L j N).length cp) (rowN (clk k) L j N) ∧ Below w.heap.size w wr ∧ N = 2 * M ∧ 2 ^ (H - (j + 1)) = M ∧ j + 1 ≤ H ∧ N ≤ 1099511627776) := ⟨ho, hb, hNM, hM, hjl, hNN.2⟩
          clear ho hb hNN hN0 hg hcp hcm hNM hM hM0 hjl hj HJ
          obtain ⟨W0, hW0⟩ : ∃ W0, W0 = wr := ⟨wr, rfl⟩
          subst hW0
          go_wp2
          go_loopg [7, 8] M (fun gg v i0 wx => ∃ m : Nat, m ≤ M ∧ gg = M - m ∧ i0 = .int .i64 (2 * (m : Int)) ∧ OwnS wx W0.heap.size v (rowN (clk k) L (j + 1) m) ∧ Below W0.heap.size W0 wx)
          case atStart =>
            go_light
            exact ⟨0, Nat.zero_le _, rfl, rfl, owns_nil _ _, Below.refl _ _⟩
          case round =>
            obtain ⟨m, hm, rfl, rfl, ho, hb⟩ := hrel
            have hm0 : (0 : Int) ≤ (m : Int) := Int.natCast_nonneg _
            obtain ⟨y1, y2, y3, y4, y5, y6⟩ := HX.out
            by_cases hlt : m < M
            · have hlt' : 2 * (m : Int) + 1 < (N : Int) := by omega
              have hlt2 : 2 * (m : Int) < (N : Int) := by omega
              obtain ⟨a, ha⟩ : ∃ a, 2 * m = a := ⟨_, rfl⟩
              have ea : 2 * (m : Int) = (a : Int) := by omega
              have k1 := (own_cell (own_next y1 hb (Nat.le_refl _)) (j := a) (by rw [rowN_len]; omega)).1
              have k2 := (own_cell (own_next y1 hb (Nat.le_refl _)) (j := a + 1) (by rw [rowN_len]; omega)).1
              rw [rowN_at _ _ _ _ (by omega)] at k1 k2
              obtain ⟨x, hx⟩ : ∃ x, nd (clk k) L j a = x := ⟨_, rfl⟩
              obtain ⟨y, hy⟩ : ∃ y, nd (clk k) L j (a + 1) = y := ⟨_, rfl⟩
              obtain ⟨z, hz⟩ : ∃ z, nd (clk k) L (j + 1) m = z := ⟨_, rfl⟩
              rw [hx] at k1
              rw [hy] at k2
              have zx : x.size = clk k := by rw [← hx]; exact nd_size HC.out _ _ _
              have zy : y.size = clk k := by rw [← hy]; exact nd_size HC.out _ _ _
              have hcc := HC.out
              have HNd : Hid (∀ W, Below wr.heap.size wr W → Calls Tryz.prog 101 #[.int .i64 k, .string x, .string y] W fun e w' => e = .returned (.string z) ∧ Below W.heap.size W w') := fun W h => refnode_any W (HT.out.1.next (bnext (bnext y2 hb) h)) k x y (by omega) (by omega) z (by rw [← hz, nd, ha, hx, hy])
              have HK : Hid (∀ W, Below wr.heap.size wr W → W.cell? ⟨g, a, none⟩ = some (.string x) ∧ W.cell? ⟨g, a + 1, none⟩ = some (.string y)) := fun W h => by
                have l1 := World.block_lt_of_cell? wr _ k1
                exact ⟨(h.cell (p := ⟨g, a, none⟩) l1).trans k1, (h.cell (p := ⟨g, a + 1, none⟩) l1).trans k2⟩
              have HK0 : Hid (∀ W, Below W0.heap.size W0 W → W.cell? ⟨g, a, none⟩ = some (.string x) ∧ W.cell? ⟨g, a + 1, none⟩ = some (.string y)) := fun W h => by
                have r1 := (own_cell (own_next y1 h (Nat.le_refl _)) (j := a) (by rw [rowN_len]; omega)).1
                have r2 := (own_cell (own_next y1 h (Nat.le_refl _)) (j := a + 1) (by rw [rowN_len]; omega)).1
                rw [rowN_at _ _ _ _ (by omega)] at r1 r2
                rw [hx] at r1
                rw [hy] at r2
                exact ⟨r1, r2⟩
              have HY : Hid (OwnS wr W0.heap.size u7 (rowN (clk k) L (j + 1) m) ∧ Below W0.heap.size W0 wr ∧ rowN (clk k) L (j + 1) m ++ [z] = rowN (clk k) L (j + 1) (m + 1) ∧ z.size ≤ 9223372036854775807 ∧ m + 1 ≤ M ∧ N = 2 * M ∧ N ≤ 1099511627776) := ⟨ho, hb, by rw [← hz]; exact rowN_more _ _ _ _, by rw [← hz, nd_size HC.out]; omega, hlt, y3, y6⟩
              have e1 : IntKind.i64.wrap ((a : Int) + 1) = (a : Int) + 1 := by rw [IntKind.wrap_i64]; omega
              have h0a : (0 : Int) ≤ (a : Int) := by omega
              have h0b : (0 : Int) ≤ (a : Int) + 1 := by omega
              have hd : Below wr.heap.size wr wr.drew := (Below.refl _ _).drew
              rw [ea] at hlt' hlt2 ⊢
              clear y1 y2 y3 y4 y5 y6 ho hb hm hlt hx hy hz zx zy hcc ha
              go_upto_region 11 with (fail)
              obtain ⟨i0, hi0, hz0, hz1, hz2⟩ := info_parts Tryz.infoS
              have HO : Hid (∀ W, Below wr.heap.size wr W → (W.alloc (.cells #[.string z] 9)).ownsRow W0.heap.size 9 1 u7 m ((rowN (clk k) L (j + 1) m).map Value.string)) := fun W h => by
                have := own_al (own_next HY.out.1 h (Nat.le_refl _)) (.cells #[.string z] 9)
                rw [OwnS, rowN_len] at this; exact this
              have HM1 : Hid (m + 1 ≤ maxLen ∧ (m + 1) * 16 ≤ 140737488355328) := by have := HY.out; refine ⟨?_, ?_⟩; unfold maxLen; omega; omega
              have HS0 : Hid (∀ W, Below wr.heap.size wr W → W0.heap.size ≤ (W.alloc (.cells #[.string z] 9)).heap.size) := fun W h => by have := (bnext HY.out.2.1 h).size; simp; omega
              have kk := HK.out wr.drew hd
              have HG : Hid (∀ w2 w3, Below wr.drew.heap.size wr.drew w2 → (w2.alloc (.cells #[.string z] 9)).grownBy w3 u7.ownBlock → Below W0.heap.size W0 w3) := fun w2 w3 h1 h2 => (bal (bnext (bnext HY.out.2.1 hd) h1) _).grown h2 (by have := (bnext (bnext HY.out.2.1 hd) h1).size; simp; omega) (fun q hq => (HY.out.1.lt q hq).1)
              have HK3 : Hid (∀ w2 w3, Below wr.drew.heap.size wr.drew w2 → (w2.alloc (.cells #[.string z] 9)).grownBy w3 u7.ownBlock → w3.cell? ⟨g, a, none⟩ = some (.string x) ∧ w3.cell? ⟨g, a + 1, none⟩ = some (.string y)) := fun w2 w3 h1 h2 => HK0.out w3 (HG.out w2 w3 h1 h2)
              go_region_held3 (fun w' => w'.cell? ⟨g, a, none⟩ = some (.string x) ∧ w'.cell? ⟨g, a + 1, none⟩ = some (.string y)) (first | assumption | (exact HK3.out _ _ hb2 hgrow) | (exact HK.out _ (bnext hd hb2)) | (exact HK.out _ (bal (bnext hd hb2) _))) (first
                | (go_at_call 101; with_reducible refine (HNd.out _ hd).mono ?_; rintro e w2 ⟨rfl, hb2⟩)
                | (refine step_append_lies _ (by rfl) _ _ _ (by rfl) W0.heap.size 9 i0 _ 1 16 Tryz.underlying22 hi0 hz0 hz1 hz2 rfl (by omega) u7 m ((rowN (clk k) L (j + 1) m).map Value.string) (by rfl) (HO.out _ (bnext hd hb2)) ⟨w2.heap.size, 0, none⟩ 1 1 [.string z] (by rfl) (by rfl) (World.news_of_block (cs := #[.string z]) (t := 9) (fr := (0, 0)) (heap_alloc_new w2 _)) (by simp [Value.oneCell']) (by omega) HM1.out.1 HM1.out.2 (HS0.out _ (bnext hd hb2)) (w2.heap.size + 1) (by simp) ?_; intro gg cap_1 w3 hown3 hgrow hat hlt3))
              have HZ : Hid (OwnS w3 W0.heap.size (.slice (some ⟨gg, 0, none⟩) (m + 1) cap_1) (rowN (clk k) L (j + 1) (m + 1)) ∧ Below W0.heap.size W0 w3) := ⟨by
                rw [OwnS, rowN_len, ← HY.out.2.2.1, List.map_append]; exact hown3, HG.out _ _ hb2 hgrow⟩
              clear hown3 hgrow hat hlt3 HG HK3 HK HK0 HNd HO HS0 kk
              have HEa := hide ea
              clear ea
              go_wp2
              go_roundg (M - (m + 1))
              case rel =>
                go_light
                exact ⟨m + 1, HY.out.2.2.2.2.1, rfl, by have := HEa.out; rw [show 2 * ((m + 1 : Nat) : Int) = (a : Int) + 2 by omega], HZ.out.1, HZ.out.2⟩
              case measure => go_light; have := HY.out.2.2.2.2.1; omega
            · obtain rfl : m = M := by omega
              obtain ⟨a, ha⟩ : ∃ a, 2 * m = a := ⟨_, rfl⟩
              have ea : 2 * (m : Int) = (a : Int) := by omega
              have hlt' : ¬ ((a : Int) + 1 < (N : Int)) := by omega
              have e1 : IntKind.i64.wrap ((a : Int) + 1) = (a : Int) + 1 := by rw [IntKind.wrap_i64]; omega
              rw [ea]
              have HY : Hid (OwnS wr w.heap.size u7 (rowN (clk k) L (j + 1) m) ∧ Below w.heap.size w wr ∧ 2 ^ (H - (j + 1)) = m ∧ j + 1 ≤ H ∧ m ≤ 1099511627776) := ⟨World.ownsRow.mono ho y2.size, bnext y2 hb, y4, y5, by omega⟩
              clear y1 y2 y3 y4 y5 y6 ho hb hm hlt HX ha ea
              go_wp2
              go_roundg (H - (j + 1))
              case rel =>
                go_light
                obtain ⟨k1, k2, k3, k4, k5⟩ := HY.out
                exact ⟨j + 1, m, k4, rfl, ⟨k3, k5⟩, k1, k2⟩
              case measure => go_light; have := HY.out.2.2.2.1; omega
        · obtain rfl : j = H := by omega
          obtain ⟨n1, n2⟩ := hNN
          rw [Nat.sub_self, Nat.pow_zero] at n1
          subst n1
          have k1 := (own_cell ho (j := 0) (by rw [rowN_len]; decide)).1
          rw [rowN_at _ _ _ _ (by decide), hq.out] at k1
          have h1 : ¬ ((1 : Int) < 1) := by decide
          have HB : Hid (Below w.heap.size w wr) := hb
          clear ho hb hcp hcm hg HJ n2 hN0 hj hjl
          go_wp2
          go_ret
          exact ⟨rfl, HB.out⟩
end Go.Proofs.YtdocjikpcbmcgaaGreatDoor
namespace Go.Proofs.YtdocjikpcbmcgaaGreatDoor
open Go.RowKit
attribute [local go_sem ↓] Go.wp_at_zero Go.wp_at_succ
theorem RdS.cut {w : World} {b off len : Nat} {ss : List ByteArray} (h : RdS w (some ⟨b, off, none⟩) b off len ss) (i n : Nat) (hn : i + n ≤ len) : RdS w (some ⟨b, off + i, none⟩) b (off + i) n ((ss.drop i).take n) := by
  refine ⟨by rw [List.length_take, List.length_drop, h.hl]; omega, fun _ => rfl, fun j v hv => ?_, fun s hs => h.sz s (List.mem_of_mem_drop (List.mem_of_mem_take hs))⟩
  rw [List.map_take, List.getElem?_take] at hv
  split at hv
  · rw [List.map_drop, List.getElem?_drop] at hv
    rw [Nat.add_assoc]
    exact h.rng (i + j) v hv
  · cases hv
end Go.Proofs.YtdocjikpcbmcgaaGreatDoor
