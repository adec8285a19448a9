/-
  Own work: PRefD, LAlive.
-/
import Derived.Test.YtipcenbndhnnhaaGreatDoorQd34
import Derived.Test.YtipcenbndhnnhaaGreatDoorQd40
namespace Go.Proofs.YtipcenbndhnnhaaGreatDoor
open Go.RowKit
attribute [local go_sem ↓] Go.wp_at_zero Go.wp_at_succ
theorem take_snoc {α : Type} (d : α) (l : List α) (i : Nat) (h : i < l.length) : l.take i ++ [l.getD i d] = l.take (i + 1) := by
  rw [List.take_succ_eq_append_getElem h, List.getD_eq_getElem?_getD, List.getElem?_eq_getElem h]; rfl
theorem map_getD {α β : Type} (f : α → β) (d : α) (e : β) (l : List α) (i : Nat) (h : i < l.length) : (l.map f).getD i e = f (l.getD i d) := by
  simp [List.getD_eq_getElem?_getD, List.getElem?_eq_getElem h]
set_option maxRecDepth 100000 in
set_option maxHeartbeats 2000000 in
theorem rpeaks_any (w : World) (ht : Tr w) (k : Int) (ao : Option Addr) (b off len cap : Nat) (L : List ByteArray) (hr : RdS w ao b off len L) (hsz : ∀ s ∈ L, s.size ≤ 140737488351232) (hmx : len ≤ 1099511627776) (hc : len ≤ cap) (P : List ByteArray) (hP : Hid (pks (clk k) L 41 = P)) :
    Calls Tryz.prog 25 #[.int .i64 k, .slice ao len cap] w fun e w' => ∃ v, e = .returned v ∧ OwnS w' w.heap.size v P ∧ Below w.heap.size w w' := by
  obtain ⟨Hs, hHs⟩ : ∃ Hs, Hid (gen id len 41 = Hs) := ⟨_, rfl⟩
  obtain ⟨M, hM⟩ : ∃ M, Hid (gen (mtP len) len 41 = M) := ⟨_, rfl⟩
  have HMt := fun W => mountains_any W len hmx M hM
  have hLl := hr.hl
  have eM : M = Hs.map (mtP len) := by
    have h1 := gen_map (mtP len) id len 41
    rw [hHs.out] at h1
    rw [h1]; exact hM.out.symm
  have eP : P = Hs.map (fun s => nd (clk k) L s (len / 2 ^ s - 1)) := by
    have h1 := gen_map (fun s => nd (clk k) L s (len / 2 ^ s - 1)) id len 41
    have h2 := gen_pks (clk k) L 41
    rw [hHs.out] at h1
    rw [hLl] at h2
    rw [h1]; exact hP.out.symm.trans h2.symm
  have lH : Hs.length ≤ 41 := by rw [← hHs.out]; exact gen_len _ _ _
  have lM : M.length = Hs.length := by rw [eM]; simp
  have lP : P.length = Hs.length := by rw [eP]; simp
  have HT : Hid (Tr w ∧ RdS w ao b off len L ∧ (∀ s ∈ L, s.size ≤ 140737488351232) ∧ len ≤ 1099511627776 ∧ len ≤ cap) := ⟨ht, hr, hsz, hmx, hc⟩
  have HV : Hid (∀ i, i < Hs.length → ∃ s t z i', s ≤ 40 ∧ 2 ^ s = z ∧ M.getD i (0, 0) = (t, z) ∧ t + z ≤ len ∧ t = i' * 2 ^ s ∧ P.getD i ByteArray.empty = nd (clk k) L s i') := fun i hi => by
    obtain ⟨s, hs⟩ : ∃ s, Hs.getD i 0 = s := ⟨_, rfl⟩
    have hmem : s ∈ gen id len 41 := by
      rw [hHs.out, ← hs, List.getD_eq_getElem?_getD, List.getElem?_eq_getElem hi]; exact List.getElem_mem _
    obtain ⟨hs41, hbit⟩ := gen_mem 41 s hmem
    obtain ⟨hat, hge⟩ := mount_at hbit
    refine ⟨s, (len / 2 ^ s - 1) * 2 ^ s, 2 ^ s, len / 2 ^ s - 1, by omega, rfl, ?_, ?_, rfl, ?_⟩
    · rw [eM, map_getD _ 0 _ _ _ hi, hs, mtP]
    · have h5 := Nat.div_mul_le_self len (2 ^ s)
      rw [Nat.sub_mul, Nat.one_mul]
      have : 1 * 2 ^ s ≤ len / 2 ^ s * 2 ^ s := Nat.mul_le_mul_right _ hge
      omega
    · rw [eP, map_getD _ 0 _ _ _ hi, hs]
  have HSz : Hid (∀ s ∈ P, s.size ≤ 9223372036854775807) := fun s hs => by rw [← hP.out] at hs; rw [pks_size (clk_le k) _ _ s hs]; have := clk_le k; omega
  have hb := Below.refl w.heap.size w
  have HL : Hid (Hs.length ≤ 41 ∧ M.length = Hs.length ∧ P.length = Hs.length) := ⟨lH, lM, lP⟩
  clear ht hr hsz hmx hc hP hHs hM hLl eM eP lH lM lP
  go_enter Tryz.func25, Tryz.ntmps25
  go_wp2_with (go_at_call 55; with_reducible refine (HMt _).mono ?_; rintro e w1 ⟨vM, rfl, hoM, hb1⟩)
  clear HMt
  obtain ⟨q, hq⟩ : ∃ q, Hs.length = q := ⟨_, rfl⟩
  obtain ⟨aoM, cM, hvM, hoM2⟩ : ∃ aoM cM, vM = .slice aoM q cM ∧ (0 < q → ∃ g, aoM = some ⟨g, 0, none⟩ ∧ OwnP w1 w.heap.size (.slice (some ⟨g, 0, none⟩) q cM) M) := by
    have hl := HL.out.2.1
    rcases hoM.2 with ⟨hv, h0⟩ | ⟨g, cp, cur, hv, _⟩
    · refine ⟨none, 0, ?_, fun h => ?_⟩
      · rw [hv, show q = 0 by omega]
      · omega
    · refine ⟨some ⟨g, 0, none⟩, cp, ?_, fun _ => ⟨g, rfl, ?_⟩⟩
      · rw [hv, hl, hq]
      · have := hoM; rw [hv, hl, hq] at this; exact this
  subst hvM
  rw [hq] at HL HV
  have HO : Hid (0 < q → ∃ g, aoM = some ⟨g, 0, none⟩ ∧ OwnP w1 w.heap.size (.slice (some ⟨g, 0, none⟩) q cM) M) := hoM2
  have HB1 : Hid (Below w.heap.size w w1) := hb1
  have hq41 : (q : Int) ≤ 41 := by have := HL.out.1; omega
  clear hoM hoM2 hb1 hq
  go_loopg [6, 7] q (fun gg v i0 wr => ∃ i : Nat, i ≤ q ∧ gg = q - i ∧ i0 = .int .i64 (i : Int) ∧ OwnS wr w1.heap.size v (P.take i) ∧ Below w1.heap.size w1 wr)
  case atStart =>
    go_light
    exact ⟨0, Nat.zero_le _, rfl, rfl, owns_nil _ _, Below.refl _ _⟩
  case round =>
    obtain ⟨i, hi, rfl, rfl, ho, hb2⟩ := hrel
    have hi0 : (0 : Int) ≤ (i : Int) := Int.natCast_nonneg _
    by_cases hlt : i < q
    · have hlt' : (i : Int) < (q : Int) := by omega
      obtain ⟨g, rfl, hoM⟩ := HO.out (by omega)
      obtain ⟨s, t, z, i', hs40, hz, hM, htz, hti, hPi⟩ := HV.out i hlt
      obtain ⟨t1, t2, t3, t4, t5⟩ := HT.out
      have hz0 : 0 < z := by rw [← hz]; exact Nat.two_pow_pos s
      obtain rfl := t2.ptr (by omega)
      obtain ⟨x, hx⟩ : ∃ x, P.getD i ByteArray.empty = x := ⟨_, rfl⟩
      rw [hx] at hPi
      have HTr : Hid (∀ W, Below w1.heap.size w1 W → Calls Tryz.prog 56 #[.int .i64 k, .slice (some ⟨b, off + t, none⟩) z (cap - t)] W fun e w' => e = .returned (.string x) ∧ Below W.heap.size W w') := fun W hb => by
        refine rtree_any W (t1.next (bnext HB1.out hb)) k _ b (off + t) (cap - t) s z hs40 hz ((L.drop t).take z) ((t2.next (bnext HB1.out hb) (Nat.le_refl _)).cut t z (by omega)) (fun y hy => t3 y (List.mem_of_mem_drop (List.mem_of_mem_take hy))) x ?_
        show _ = _
        rw [hti, ← hz, nd_cut]; exact hPi.symm
      have hlM := HL.out
      have HK0 : Hid (∀ W, Below w1.heap.size w1 W → W.cell? ⟨g, i * 2, none⟩ = some (.int .i64 (t : Int)) ∧ W.cell? ⟨g, i * 2 + 1, none⟩ = some (.int .i64 (z : Int))) := fun W h => by
        have := ownP_cell (ownP_next hoM h) (j := i) (by omega)
        rw [hM] at this
        exact this
      have HY : Hid (OwnS wr w1.heap.size u6 (P.take i) ∧ Below w1.heap.size w1 wr ∧ P.take i ++ [x] = P.take (i + 1) ∧ i + 1 ≤ q ∧ q ≤ 41 ∧ (P.take i).length = i) := ⟨ho, hb2, by rw [← hx]; exact take_snoc _ _ _ (by omega), hlt, by omega, by rw [List.length_take]; omega⟩
      obtain ⟨y, hy⟩ : ∃ y, t + z = y := ⟨_, rfl⟩
      have e1 : IntKind.i64.wrap ((t : Int) + (z : Int)) = (y : Int) := by rw [IntKind.wrap_i64]; omega
      have s0 : (0 : Int) ≤ (t : Int) := Int.natCast_nonneg _
      have s1 : (t : Int) ≤ (y : Int) := by omega
      have s2 : (y : Int) ≤ (cap : Int) := by omega
      have s3 : ¬ (cap = t) := by omega
      have s4 : y - t = z := by omega
      have hd : Below w1.heap.size w1 wr.drew := (hb2).drew
      obtain ⟨i0, hi0', hz0', hz1, hz2⟩ := info_parts Tryz.infoS
      have HO2 : Hid (∀ W, Below wr.drew.heap.size wr.drew W → (W.alloc (.cells #[.string x] 9)).ownsRow w1.heap.size 9 1 u6 i ((P.take i).map Value.string)) := fun W h => by
        have := own_al (own_next HY.out.1 (bnext ((Below.refl _ _).drew) h) (Nat.le_refl _)) (.cells #[.string x] 9)
        rw [OwnS, HY.out.2.2.2.2.2] at this; exact this
      have HM1 : Hid (i + 1 ≤ maxLen ∧ (i + 1) * 16 ≤ 140737488355328) := by have := HY.out; refine ⟨?_, ?_⟩; unfold maxLen; omega; omega
      have HS0 : Hid (∀ W, Below wr.drew.heap.size wr.drew W → w1.heap.size ≤ (W.alloc (.cells #[.string x] 9)).heap.size) := fun W h => by have := (bnext hd h).size; simp; omega
      have HG : Hid (∀ w2 w3, Below wr.drew.heap.size wr.drew w2 → (w2.alloc (.cells #[.string x] 9)).grownBy w3 u6.ownBlock → Below w1.heap.size w1 w3) := fun w2 w3 h1 h2 => (bal (bnext hd h1) _).grown h2 (by have := (bnext hd h1).size; simp; omega) (fun q hq => (HY.out.1.lt q hq).1)
      have HK : Hid (∀ W, Below wr.drew.heap.size wr.drew W → W.cell? ⟨g, i * 2, none⟩ = some (.int .i64 (t : Int)) ∧ W.cell? ⟨g, i * 2 + 1, none⟩ = some (.int .i64 (z : Int))) := fun W h => HK0.out W (bnext hd h)
      have HK3 : Hid (∀ w2 w3, Below wr.drew.heap.size wr.drew w2 → (w2.alloc (.cells #[.string x] 9)).grownBy w3 u6.ownBlock → w3.cell? ⟨g, i * 2, none⟩ = some (.int .i64 (t : Int)) ∧ w3.cell? ⟨g, i * 2 + 1, none⟩ = some (.int .i64 (z : Int))) := fun w2 w3 h1 h2 => HK0.out w3 (HG.out w2 w3 h1 h2)
      have kk := HK0.out wr.drew hd
      have HD : Hid (Below w1.heap.size w1 wr.drew) := hd
      clear ho hb2 hoM hs40 hz hM htz hti hPi t1 t2 t3 t4 t5 hz0 hx hlM hi hlt hd hy
      go_upto_region 6 with (fail)
      go_region_held3 (fun w' => w'.cell? ⟨g, i * 2, none⟩ = some (.int .i64 (t : Int)) ∧ w'.cell? ⟨g, i * 2 + 1, none⟩ = some (.int .i64 (z : Int))) (first | assumption | (exact HK3.out _ _ hb2 hgrow) | (exact HK.out _ hb2) | (exact HK.out _ (bal hb2 _))) (first
        | (go_at_call 56; with_reducible refine (HTr.out _ HD.out).mono ?_; rintro e w2 ⟨rfl, hb2⟩)
        | (refine step_append_lies _ (by rfl) _ _ _ (by rfl) w1.heap.size 9 i0 _ 1 16 Tryz.underlying22 hi0' hz0' hz1 hz2 rfl (by omega) u6 i ((P.take i).map Value.string) (by rfl) (HO2.out _ hb2) ⟨w2.heap.size, 0, none⟩ 1 1 [.string x] (by rfl) (by rfl) (World.news_of_block (cs := #[.string x]) (t := 9) (fr := (0, 0)) (heap_alloc_new w2 _)) (by simp [Value.oneCell']) (by omega) HM1.out.1 HM1.out.2 (HS0.out _ hb2) (w2.heap.size + 1) (by simp) ?_; intro gg cap_1 w3 hown3 hgrow hat hlt3))
      have HZ : Hid (OwnS w3 w1.heap.size (.slice (some ⟨gg, 0, none⟩) (i + 1) cap_1) (P.take (i + 1)) ∧ Below w1.heap.size w1 w3) := ⟨by
        obtain ⟨y1, y2, y3, y4, y5, y6⟩ := HY.out
        rw [OwnS, ← y3, List.length_append, y6, List.map_append]; exact hown3, HG.out _ _ hb2 hgrow⟩
      clear hown3 hgrow hat hlt3 HG HK3 HK HK0 HTr HO2 HS0 kk
      go_wp2
      go_roundg (q - (i + 1))
      case rel =>
        go_light
        exact ⟨i + 1, HY.out.2.2.2.1, rfl, by go_num, HZ.out.1, HZ.out.2⟩
      case measure => go_light; have := HY.out.2.2.2.1; omega
    · obtain rfl : i = q := by omega
      have hlt' : ¬ ((i : Int) < (i : Int)) := by omega
      have HZ : Hid (OwnS wr w.heap.size u6 P ∧ Below w.heap.size w wr) := ⟨by
        rw [List.take_of_length_le (by have := HL.out; omega)] at ho
        exact World.ownsRow.mono ho HB1.out.size, bnext HB1.out hb2⟩
      clear ho hb2 hi hlt HO HV
      go_wp2
      go_ret
      exact ⟨_, rfl, HZ.out.1, HZ.out.2⟩
set_option maxRecDepth 100000 in
theorem rroot_size (w : World) (k : Int) (h1 : 1 ≤ k) (h2 : k ≤ 32) (ao : Option Addr) (len cap n : Nat) (hn : len < n) (hmx : len ≤ 8796093022208) :
    Calls Tryz.prog 9 #[.int .i64 k, .slice ao len cap, .int .u64 (n : Int)] w fun e w' => e = .returned (.tuple #[.agg #[.int .u64 0, .string ⟨#[]⟩], .int .i64 30]) ∧ Below w.heap.size w w' := by
  have HC := fun W => refcheck_any W k
  rw [chk_ok h1 h2] at HC
  have e0 : IntKind.u64.wrap (len : Int) = (len : Int) := wrap_u _ (by omega) (by omega)
  have hn' : (len : Int) < (n : Int) := by omega
  have hb := Below.refl w.heap.size w
  clear h1 h2 hn hmx
  go_enter Tryz.func9, Tryz.ntmps9
  go_wp2_with (go_at_call 17; with_reducible refine (HC _).mono ?_; rintro e w1 ⟨rfl, rfl⟩)
  refine bodyPost_ret (v := .tuple #[.agg #[.int .u64 0, .string ⟨#[]⟩], .int .i64 30]) (by simp [results, Tryz.results9, go_sem]) rfl ⟨rfl, ?_⟩
  exact bal hb _
set_option maxRecDepth 100000 in
theorem rroot_ok (w : World) (ht : Tr w) (k : Int) (h1 : 1 ≤ k) (h2 : k ≤ 32) (ao : Option Addr) (b off len cap : Nat) (L : List ByteArray) (hr : RdS w ao b off len L) (hsz : ∀ s ∈ L, s.size ≤ 140737488351232) (hmx : len ≤ 1099511627776) (hc : len ≤ cap) (n : Nat) (hn : n ≤ len) (r : ByteArray) (hq : Hid (rtD (clk k) L n = r)) :
    Calls Tryz.prog 9 #[.int .i64 k, .slice ao len cap, .int .u64 (n : Int)] w fun e w' => e = .returned (.tuple #[.agg #[.int .u64 (n : Int), .string r], .int .i64 0]) ∧ Below w.heap.size w w' := by
  have HC := fun W => refcheck_any W k
  rw [chk_ok h1 h2] at HC
  have e0 : IntKind.u64.wrap (len : Int) = (len : Int) := wrap_u _ (by omega) (by omega)
  have hn' : ¬ ((len : Int) < (n : Int)) := by omega
  have hn2 : (n : Int) ≤ (cap : Int) := by omega
  obtain ⟨P, hP⟩ : ∃ P, Hid (pks (clk k) (L.take n) 41 = P) := ⟨_, rfl⟩
  have HPk : Hid (∀ W, Below w.heap.size w W → Calls Tryz.prog 25 #[.int .i64 k, .slice ao n cap] W fun e w' => ∃ v, e = .returned v ∧ OwnS w' W.heap.size v P ∧ Below W.heap.size W w') := fun W hb => rpeaks_any W (ht.next hb) k ao b off n cap (L.take n) ((hr.next hb (Nat.le_refl _)).take hn) (fun s hs => hsz s (List.mem_of_mem_take hs)) (by omega) (by omega) P hP
  have zP : ∀ s ∈ P, s.size ≤ 140737488351232 := by rw [← hP.out]; exact small (clk_le k)
  have lP : P.length ≤ 41 := by rw [← hP.out]; exact pks_len _ _ _
  have HQ : Hid (dg (clk k) (rootT n (bagL (clk k) P)) = r) := by rw [← hP.out]; exact hq
  have HRo : Hid (∀ W, Below w.heap.size w W → ∀ ao' b' cap', RdS W ao' b' 0 P.length P → Calls Tryz.prog 24 #[.int .i64 k, .int .u64 (n : Int), .slice ao' P.length cap'] W fun e w' => e = .returned (.string r) ∧ Below W.heap.size W w') := fun W hb ao' b' cap' hr' => refroot_any W (ht.next hb) k n (by omega) ao' b' 0 P.length cap' P hr' zP (by omega) r HQ.out
  have HZ : Hid (∀ s ∈ P, s.size ≤ 9223372036854775807) := fun s hs => Nat.le_trans (zP s hs) (by decide)
  have hb := Below.refl w.heap.size w
  have HN := rt_new w 0 ⟨#[]⟩ 32
  rw [show ((0 : Nat) : Int) = 0 from rfl] at HN
  have HN2 := hide HN
  clear h1 h2 hn hmx hc hr hsz ht hq hP zP lP HQ HN
  go_enter Tryz.func9, Tryz.ntmps9
  go_wp2_with (first
    | (go_at_call 17; with_reducible refine (HC _).mono ?_; rintro e w1 ⟨rfl, rfl⟩)
    | (go_at_call 25; with_reducible refine (HPk.out _ (bal hb _)).mono ?_; rintro e w2 ⟨v, rfl, ho, hb2⟩; obtain ⟨ao', b', cap', rfl, hr', _, _⟩ := owns_rds ho HZ.out)
    | (go_at_call 24; with_reducible refine (HRo.out _ (bnext (bal hb _) hb2) _ _ _ hr').mono ?_; rintro e w3 ⟨rfl, hb3⟩; have hR := (HN2.out.below hb2 (by simp)).below hb3 (by have := hb2.size; simp at this; omega); have k0 := hR.c0; have k1 := hR.c1; have f0 := hR.f0; have f1 := hR.f1))
  have s0 : (w3.setCell ⟨w.heap.size, 0, none⟩ (.int .u64 (n : Int))).cell? ⟨w.heap.size, 0, none⟩ = some (.int .u64 (n : Int)) := World.cell?_setCell_same _ _ _ k0
  have s1 : ((w3.setCell ⟨w.heap.size, 0, none⟩ (.int .u64 (n : Int))).setCell ⟨w.heap.size, 1, none⟩ (.string r)).cell? ⟨w.heap.size, 1, none⟩ = some (.string r) :=
    World.cell?_setCell_same _ _ _ ((World.cell?_setCell_other _ _ _ _ (by simp)).trans k1)
  refine bodyPost_ret (v := .tuple #[.agg #[.int .u64 (n : Int), .string r], .int .i64 0]) (by simp [results, Tryz.results9, go_sem, s0, s1]) rfl ⟨rfl, ?_⟩
  exact ((bnext (bnext (bal hb _) hb2) hb3).setCell (p := ⟨w.heap.size, 0, none⟩) (Nat.le_refl _) _).setCell (p := ⟨w.heap.size, 1, none⟩) (Nat.le_refl _) _
end Go.Proofs.YtipcenbndhnnhaaGreatDoor
namespace Go.Proofs.YtipcenbndhnnhaaGreatDoor
open Go.RowKit
attribute [local go_sem ↓] Go.wp_at_zero Go.wp_at_succ
def pvB (k : Int) (L : List ByteArray) (n : Nat) (S : List Nat) : PV := ⟨2, k, 0, n, S, dgB (clk k) L n S⟩
theorem well_batch {k : Int} (k1 : 1 ≤ k) (k2 : k ≤ 32) (L : List ByteArray) {n : Nat} (hn : n ≤ 2 ^ 40) {S : List Nat} (he : Cv.errS n S = 0) : Well (pvB k L n S) := by
  have hck : (clk k : Int) = k := by unfold clk; rw [if_neg (by omega), if_neg (by omega)]; omega
  refine ⟨?_, fun d hd => ?_⟩
  · show cnt 2 k 0 n S = some (dgB (clk k) L n S).length
    rw [dgB_len, cnt, if_pos ⟨k1, k2, hn⟩, if_neg (by decide), if_pos rfl, if_pos ⟨rfl, he⟩]
  · show (d.size : Int) = k
    rw [dgB_size (clk_le k) L n S d hd]; exact hck
theorem claims_batch (w : World) (ht : Tb w) (k : Int) (k1 : 1 ≤ k) (k2 : k ≤ 32) (o1 : Nat) (c1 : ByteArray) (ca : Option Addr) (cb co cn cc : Nat) (l : List (Nat × ByteArray)) (hc : RdK w ca cb co cn l) (hcm : cn ≤ 1048576) (s : ByteArray) (hs : s.size ≤ 281474976710656) (P : PV) (hd : dec s.data.toList = some P) (hk : P.k = k) (h2 : P.kd = 2) (hS : P.S = ixs l) (hX : ∀ x ∈ vls l, x.size ≤ 1048576)
    (r : Int) (hr : clmD P.size (dg (clk k) (rootT P.size (bagL (clk k) (pB (clk k) (Cv.dnL 41 0 P.size) P.S (vls l) P.D)))) 0 o1 c1 = r) :
    Calls Tryz.prog 14 #[.int .i64 k, .agg #[.int .u64 (o1 : Int), .string c1], .slice ca cn cc, .string s] w fun e w' => e = .returned (.int .i64 r) ∧ Below w.heap.size w w' := by
  have hW := (enc_dec hd).1
  have hco := cnt_ok hW.1
  have hD : P.D.length ≤ 8796093022208 := by have := hco.hc; omega
  have hl : P.S.length = (vls l).length := by rw [hS, List.length_map, List.length_map]
  have hcl := hc.hl
  have hok : okB 2 k 0 P.size P.S P.D := by
    have hc1 := hW.1
    rw [h2, hk, hco.two h2, cnt] at hc1
    have h40 := hco.hsz
    rw [if_pos ⟨k1, k2, by omega⟩, if_neg (by decide), if_pos rfl] at hc1
    by_cases he : Cv.errS P.size P.S = 0
    · rw [if_pos ⟨rfl, he⟩] at hc1
      refine ⟨⟨rfl, ⟨k1, k2⟩, rfl⟩, he, ?_, fun d hdm => by rw [hW.2 d hdm, hk]⟩
      rw [Cv.rstS, if_pos he]; exact (Option.some.inj hc1).symm
    · rw [if_neg (fun h => he h.2)] at hc1; cases hc1
  refine claims_led w k k1 k2 o1 c1 ca cb co cn cc l hc (by omega) s hs P hd hk ⟨.inr h2, hS⟩ P.size _ 0 (fun W sa sb sc da db dc ao m c hb hF ho => ?_) r hr
  obtain ⟨ao', xb, c', hv, hx, hxc, hxn⟩ := owns_rds ho (fun x hx => Nat.le_trans (hX x hx) (by decide))
  injection hv with g1 g2 g3
  subst g1 g2 g3
  refine leads_batch W P.kd k (by rw [h2]; decide) P.old P.size sa P.S.length sc da P.D.length dc ao (vls l).length c P.size _ 0 fun V hbV => ?_
  have hF2 := hF.next hbV
  have := broot_ok V (ht.next (bnext hb hbV)) k P.size sa sb 0 sc P.S (vls l) (by rw [← hl]; exact hF2.p.rs) (by rw [List.length_map]; omega) (by rw [← hl]; exact hF2.cS) hF2.nS da db 0 dc P.D hF2.p.rd hD hF2.p.cD hF2.nD ao xb 0 c (hx.next hbV (Nat.le_refl _)) hxc hxn hok hX _ rfl
  rw [← hl] at this
  rw [h2, hco.two h2, ← hl]
  exact this
theorem enc_back {P : PV} (h : Well P) {s : ByteArray} (hs : (⟨(enc P).toArray⟩ : ByteArray) = s) : dec s.data.toList = some P ∧ s.size ≤ 70368744177664 := by
  subst hs
  refine ⟨by rw [show (⟨(enc P).toArray⟩ : ByteArray).data.toList = enc P by simp]; exact dec_enc h, ?_⟩
  show (enc P).toArray.size ≤ _
  rw [List.size_toArray]; exact enc_len h
theorem tk_none (k : Int) (k1 : 1 ≤ k) (k2 : k ≤ 32) : tkE k ⟨#[]⟩ = 140 := by
  rw [tkE, if_neg (by omega)]; rfl
theorem tk_zero (s : ByteArray) : tkE 0 s = 70 := by rw [tkE, if_pos (by decide)]
set_option maxRecDepth 100000 in
set_option maxHeartbeats 4000000 in
theorem alive_light (w : World) (ht : Tb w) (hr : Tr w) : Calls Tryz.prog 7 #[] w fun e w' => e = .returned (.bool true) ∧ Below w.heap.size w w' := by
  have small : ∀ s ∈ [xa, xb], s.size ≤ 1 := fun s hs => by
    simp only [List.mem_cons, List.mem_nil_iff, or_false] at hs
    rcases hs with rfl | rfl <;> decide
  obtain ⟨w0, hw0⟩ : ∃ w0, (w.alloc (.cells #[.string xa, .string xb] 9)).alloc (.cells #[.int .i64 32, .slice (some ⟨w.heap.size, 0, none⟩) 2 2, .int .u64 0, .int .u64 0, .slice none 0 0] 26) = w0 := ⟨_, rfl⟩
  have hb0 : Below w.heap.size w w0 := by rw [← hw0]; exact bal (bal (Below.refl _ _) _) _
  have hbox : Fv w0 (w.heap.size + 1) (.int .i64 32) (.slice (some ⟨w.heap.size, 0, none⟩) 2 2) (.int .u64 0) (.int .u64 0) (.slice none 0 0) := by
    obtain ⟨_, h⟩ := two_boxes w (.cells #[.string xa, .string xb] 9) (.cells #[.int .i64 32, .slice (some ⟨w.heap.size, 0, none⟩) 2 2, .int .u64 0, .int .u64 0, .slice none 0 0] 26)
    rw [← hw0]; exact h
  have rd0 : RdS w0 (some ⟨w.heap.size, 0, none⟩) w.heap.size 0 2 [xa, xb] := by
    have h0 : RdS (w.alloc (.cells #[.string xa, .string xb] 9)) (some ⟨w.heap.size, 0, none⟩) w.heap.size 0 2 [xa, xb] := ⟨rfl, fun _ => rfl, range_new w [.string xa, .string xb] 9, fun s hs => by have := small s hs; omega⟩
    rw [← hw0]; exact h0.next (bal (Below.refl _ _) _) (Nat.le_refl _)
  have HMd : Hid (Calls Tryz.prog 8 #[.agg #[.int .i64 32, .slice (some ⟨w.heap.size, 0, none⟩) 2 2, .int .u64 0, .int .u64 0, .slice none 0 0]] w0 fun e w' => ∃ f, e = .returned (.tuple #[.pointer (some ⟨f + 1, 0, none⟩), .bool true]) ∧ Frs w' f 32 [xa, xb] ∧ Below w0.heap.size w0 w') :=
    (made_any w0 (ht.next hb0) 32 _ _ _ 2 2 [xa, xb] rd0 (by decide) 0 0 (.slice none 0 0) [xa, xb] rfl).mono fun e w' h => by
      rcases h with ⟨_, ⟨f, e1, e2⟩, e3⟩ | ⟨h, _⟩
      · exact ⟨f, e1, e2, e3⟩
      · exact absurd ⟨⟨by decide, by decide⟩, fun s hs => by have := small s hs; omega⟩ h
  have he : Cv.errS 2 [1] = 0 := by decide
  obtain ⟨D, hD⟩ : ∃ D, dgB (clk 32) [xa, xb] 2 [1] = D := ⟨_, rfl⟩
  have hDl : D.length = 1 := by rw [← hD, dgB_len]; decide
  have hDc : dgB (clk 32) [xa, xc] 2 [1] = D := by
    generalize clk 32 = c32 at hD ⊢
    have e1 : Cv.rst 0 2 [1] = [(0, 0)] := by decide
    rw [← hD, dgB, dgB, e1, List.map_cons, List.map_cons, List.map_nil, List.map_nil, nd, nd, List.getD_cons_zero, List.getD_cons_zero]
  obtain ⟨P, hP⟩ : ∃ P, pvB 32 [xa, xb] 2 [1] = P := ⟨_, rfl⟩
  have hPD : P = ⟨2, 32, 0, 2, [1], D⟩ := by rw [← hP, pvB, hD]
  have hwell : Well P := by rw [← hP]; exact well_batch (by decide) (by decide) _ (by decide) he
  obtain ⟨s, hs⟩ : ∃ s, (⟨(enc P).toArray⟩ : ByteArray) = s := ⟨_, rfl⟩
  obtain ⟨hdec, hss⟩ := enc_back hwell hs
  have hss2 : s.size ≤ 281474976710656 := Nat.le_trans hss (by decide)
  obtain ⟨rr, hrr⟩ : ∃ rr, rtD (clk 32) [xa, xb] 2 = rr := ⟨_, rfl⟩
  have hne : rtD (clk 32) [xa, xc] 2 ≠ rr := by rw [← hrr, show clk 32 = 32 by decide]; exact rt_differ
  have HPr : Hid (∀ W m, Frs W m 32 [xa, xb] → Calls Tryz.prog 11 #[.pointer (some ⟨m + 1, 0, none⟩), .int .u64 2, .slice (some ⟨W.heap.size, 0, none⟩) 1 1] (W.alloc (.cells #[.int .u64 1] 23)) fun e w' => ∃ bs cs bd cd, e = .returned (.tuple #[.agg #[.int .i64 2, .int .i64 32, .int .u64 0, .int .u64 2, .slice (some ⟨bs, 0, none⟩) 1 cs, .slice (some ⟨bd, 0, none⟩) 1 cd], .int .i64 0]) ∧ Hid (RdU w' (some ⟨bs, 0, none⟩) bs 0 1 [1] ∧ RdS w' (some ⟨bd, 0, none⟩) bd 0 1 D ∧ 1 ≤ cd) ∧ Below W.heap.size W w') := fun W m hF => by
    have hbW := bal (Below.refl W.heap.size W) (.cells #[.int .u64 ((1 : Nat) : Int)] 23)
    have hU : RdU (W.alloc (.cells #[.int .u64 ((1 : Nat) : Int)] 23)) (some ⟨W.heap.size, 0, none⟩) W.heap.size 0 1 [1] := ⟨rfl, fun _ => rfl, range_new W [.int .u64 ((1 : Nat) : Int)] 23⟩
    refine (bprove_rd _ m 32 _ (hF.next hbW (Nat.le_refl _)) (by decide) 2 (by decide) _ _ 0 1 [1] hU he D hD).mono fun e w' ⟨gs, cs, ad, bd, cd, h1, h2, h3, h4, h5, h6, _, _, h8⟩ => ?_
    rw [hDl] at h1 h4 h5
    obtain rfl := h4.ptr Nat.zero_lt_one
    exact ⟨gs, cs, bd, cd, h1, ⟨h2, h4, h5⟩, bnext hbW h8⟩
  have HEn : Hid (∀ W bs cs bd cd, RdU W (some ⟨bs, 0, none⟩) bs 0 1 [1] → RdS W (some ⟨bd, 0, none⟩) bd 0 1 D → 1 ≤ cd → Calls Tryz.prog 13 #[.agg #[.int .i64 2, .int .i64 32, .int .u64 0, .int .u64 2, .slice (some ⟨bs, 0, none⟩) 1 cs, .slice (some ⟨bd, 0, none⟩) 1 cd]] W fun e w' => e = .returned (.tuple #[.string s, .int .i64 0]) ∧ Below W.heap.size W w') := fun W bs cs bd cd h1 h2 h3 => by
    have hp : RdPC W (some ⟨bs, 0, none⟩) bs 0 cs (some ⟨bd, 0, none⟩) bd 0 cd P := by
      rw [hPD]
      exact ⟨h1, by rw [hDl]; exact h2, (by show (0 : Nat) < 18446744073709551616; decide), (by show (2 : Nat) < 18446744073709551616; decide), (by show 1 ≤ 17592186044416; decide), by rw [hDl]; decide, by rw [hDl]; exact h3⟩
    have := encode_yes _ _ _ _ _ _ _ _ _ _ hp hwell
    rw [hs, hPD] at this
    unfold pvP pv6 at this
    simp only [hDl] at this
    exact this
  have HPl : Hid (∀ W, Tr W → RdS W (some ⟨w.heap.size, 0, none⟩) w.heap.size 0 2 [xa, xb] → Calls Tryz.prog 9 #[.int .i64 32, .slice (some ⟨w.heap.size, 0, none⟩) 2 2, .int .u64 2] W fun e w' => e = .returned (.tuple #[.agg #[.int .u64 2, .string rr], .int .i64 0]) ∧ Below W.heap.size W w') := fun W hT hR => rroot_ok W hT 32 (by decide) (by decide) _ _ _ 2 2 [xa, xb] hR (fun s hs => by have := small s hs; omega) (by decide) (by decide) 2 (by decide) rr (hide hrr)
  have HCl : Hid (∀ (W : World) (x : ByteArray) (r : Int), Tb W → x.size ≤ 1048576 → clmD 2 (rtD (clk 32) [xa, x] 2) 0 2 rr = r → dgB (clk 32) [xa, x] 2 [1] = D → Calls Tryz.prog 14 #[.int .i64 32, .agg #[.int .u64 2, .string rr], .slice (some ⟨W.heap.size, 0, none⟩) 1 1, .string s] (W.alloc (.cells #[.int .u64 1, .string x] 46)) fun e w' => e = .returned (.int .i64 r) ∧ Below W.heap.size W w') := fun W x r hT hx hr hDx => by
    have hbW := bal (Below.refl W.heap.size W) (.cells #[.int .u64 ((1 : Nat) : Int), .string x] 46)
    refine (claims_batch _ (hT.next hbW) 32 (by decide) (by decide) 2 rr _ _ 0 1 1 [(1, x)] (rdk_one W 1 x (Nat.le_trans hx (by decide))) (by decide) s hss2 P hdec (by rw [hPD]) (by rw [hPD]) (by rw [hPD]; rfl) (fun y hy => by simp at hy; subst hy; exact hx) r ?_).mono fun e w' h => ⟨h.1, bnext hbW h.2⟩
    rw [hPD]
    have h := batch_complete (clk 32) [xa, x] 2 [1] (Nat.le_refl _) he
    rw [hDx] at h
    rw [← hr, rtD, ← h]
    rfl
  have HC1 : Hid (∀ (W : World), Tb W → Calls Tryz.prog 14 #[.int .i64 32, .agg #[.int .u64 2, .string rr], .slice (some ⟨W.heap.size, 0, none⟩) 1 1, .string s] (W.alloc (.cells #[.int .u64 1, .string ⟨#[98]⟩] 46)) fun e w' => e = .returned (.int .i64 0) ∧ Below W.heap.size W w') := fun W hT => HCl.out W xb 0 hT (by decide) (by rw [clmD, if_pos ⟨rfl, rfl, hrr⟩]) hD
  have HC2 : Hid (∀ (W : World), Tb W → Calls Tryz.prog 14 #[.int .i64 32, .agg #[.int .u64 2, .string rr], .slice (some ⟨W.heap.size, 0, none⟩) 1 1, .string s] (W.alloc (.cells #[.int .u64 1, .string ⟨#[99]⟩] 46)) fun e w' => e = .returned (.int .i64 150) ∧ Below W.heap.size W w') := fun W hT => HCl.out W xc 150 hT (by decide) (by rw [clmD, if_neg (fun h => hne h.2.2)]) hDc
  have HC3 : Hid (∀ (W : World), Calls Tryz.prog 14 #[.int .i64 0, .agg #[.int .u64 2, .string rr], .slice none 0 0, .string s] W fun e w' => e = .returned (.int .i64 70) ∧ Below W.heap.size W w') := fun W => claims_no W 0 2 rr none 0 0 s hss2 70 (tk_zero s) (by decide)
  have HC4 : Hid (∀ (W : World), Calls Tryz.prog 15 #[.int .i64 32, .agg #[.int .u64 2, .string rr], .agg #[.int .u64 2, .string rr], .string ⟨#[]⟩] W fun e w' => e = .returned (.int .i64 140) ∧ Below W.heap.size W w') := fun W => kin_no W 32 2 rr 2 rr ⟨#[]⟩ (by decide) 140 (tk_none 32 (by decide) (by decide)) (by decide)
  have HT : Hid (∀ W, Below w0.heap.size w0 W → Tb W ∧ Tr W ∧ RdS W (some ⟨w.heap.size, 0, none⟩) w.heap.size 0 2 [xa, xb] ∧ Fv W (w.heap.size + 1) (.int .i64 32) (.slice (some ⟨w.heap.size, 0, none⟩) 2 2) (.int .u64 0) (.int .u64 0) (.slice none 0 0) ∧ Below w.heap.size w W) := fun W hb => ⟨ht.next (bnext hb0 hb), hr.next (bnext hb0 hb), rd0.next hb (Nat.le_refl _), hbox.next hb, bnext hb0 hb⟩
  have HB0 := hide (And.intro hw0 hbox.cells)
  clear hw0
  clear ht hr rd0 hD hDl hDc hP hPD hwell hs hdec hss hss2 hrr hne HCl hbox hb0 small he
  go_enter Tryz.func7, Tryz.ntmps7
  go_upto_region 2 with (fail)
  obtain ⟨hw0, b0, b1, b2, b3, b4⟩ := HB0.out
  try rw [hw0]
  clear hw0 HB0
  go_upto_region 5 with (go_at_call 8; with_reducible refine HMd.out.mono ?_; rintro e w1 ⟨m, rfl, hF1, hbw⟩)
  have HFb : Hid (∀ W, Below w1.heap.size w1 W → Tb W ∧ Tr W ∧ RdS W (some ⟨w.heap.size, 0, none⟩) w.heap.size 0 2 [xa, xb] ∧ Fv W (w.heap.size + 1) (.int .i64 32) (.slice (some ⟨w.heap.size, 0, none⟩) 2 2) (.int .u64 0) (.int .u64 0) (.slice none 0 0) ∧ Below w.heap.size w W) := fun W hb => HT.out W (bnext hbw hb)
  have HF1 := hide hF1
  clear hF1 hbw HT HMd b0 b1 b2 b3 b4
  go_upto_region 6 with (go_at_call 11; with_reducible refine (HPr.out _ _ HF1.out).mono ?_; rintro e w2 ⟨bs, cs, bd, cd, rfl, HU, hb2⟩)
  obtain ⟨w3, hw3, x6, hb3, _⟩ := box6 w2 (.int .i64 2) (.int .i64 32) (.int .u64 0) (.int .u64 2) (.slice (some ⟨bs, 0, none⟩) 1 cs) (.slice (some ⟨bd, 0, none⟩) 1 cd)
  try rw [hw3]
  clear hw3
  obtain ⟨m0, m1, m2, m3, m4, m5⟩ := x6.cells
  go_upto_region 7 with (go_at_call 13; with_reducible refine (HEn.out _ _ _ _ _ (HU.out.1.next hb3) (HU.out.2.1.next hb3 (Nat.le_refl _)) HU.out.2.2).mono ?_; rintro e w4 ⟨rfl, hb4⟩)
  have hbA := bnext (bnext hb2 hb3) hb4
  obtain ⟨y1, y2, y3, y4, y5⟩ := HFb.out w4 hbA
  have z1 := y4.cells.2.1
  have HY := hide (And.intro y2 y3)
  clear m0 m1 m2 m3 m4 m5 x6 HU HPr HEn y1 y2 y3 y4 y5
  go_upto_region 8 with (go_at_call 9; with_reducible refine (HPl.out _ HY.out.1 HY.out.2).mono ?_; rintro e w5 ⟨rfl, hb5⟩)
  obtain ⟨w6, hw6⟩ : ∃ w6, w5.alloc (.cells #[.int .u64 2, .string rr] 32) = w6 := ⟨_, rfl⟩
  have hb6 : Below w5.heap.size w5 w6 := by rw [← hw6]; exact bal (Below.refl _ _) _
  have hq6 : Rh w6 w5.heap.size 2 rr := by rw [← hw6]; exact heap_alloc_new w5 _
  try rw [hw6]
  have HE : Hid (∀ W, Below w6.heap.size w6 W → Tb W ∧ Rh W w5.heap.size 2 rr ∧ Below w.heap.size w W) := fun W hb => by
    have := HFb.out W (bnext (bnext (bnext hbA hb5) hb6) hb)
    exact ⟨this.1, hq6.next hb, this.2.2.2.2⟩
  generalize w5.heap.size = q5 at *
  clear hw6 hb6 hq6 hb5 hbA hb2 hb3 hb4 z1 HY HPl HFb HF1
  obtain ⟨t6, r6, _⟩ := HE.out w6 (Below.refl _ _)
  obtain ⟨g0, g1⟩ := r6.cells
  have HT6 := hide t6
  clear t6 r6
  go_wp2_with (first
    | (go_at_call 15; with_reducible refine (HC4.out _).mono ?_; rintro e w10 ⟨rfl, hb10⟩)
    | (go_at_call 14; with_reducible refine (HC1.out w6 HT6.out).mono ?_; rintro e w7 ⟨rfl, hb7⟩; (obtain ⟨g2, g3⟩ := (HE.out w7 hb7).2.1.cells))
    | (go_at_call 14; with_reducible refine (HC2.out w7 (HE.out w7 hb7).1).mono ?_; rintro e w8 ⟨rfl, hb8⟩; (obtain ⟨g4, g5⟩ := (HE.out w8 (bnext hb7 hb8)).2.1.cells))
    | (go_at_call 14; with_reducible refine (HC3.out w8).mono ?_; rintro e w9 ⟨rfl, hb9⟩; (obtain ⟨g6, g7⟩ := (HE.out w9 (bnext (bnext hb7 hb8) hb9)).2.1.cells)))
  go_ret
  exact ⟨rfl, (HE.out _ (bnext (bnext (bnext hb7 hb8) hb9) hb10)).2.2⟩
end Go.Proofs.YtipcenbndhnnhaaGreatDoor
