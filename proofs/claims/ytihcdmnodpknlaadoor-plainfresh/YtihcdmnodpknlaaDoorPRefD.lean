/-
  The reference's walks: Peaks, Root. Own work.
-/
import Derived.Test.YtihcdmnodpknlaaDoorPRefC
namespace Go.Proofs.YtihcdmnodpknlaaDoor
open Go.RowKit
attribute [local go_sem ↓] Go.wp_at_zero Go.wp_at_succ
theorem take_snoc {α : Type} (d : α) (l : List α) (i : Nat) (h : i < l.length) : l.take i ++ [l.getD i d] = l.take (i + 1) := by
  rw [List.take_succ_eq_append_getElem h, List.getD_eq_getElem?_getD, List.getElem?_eq_getElem h]; rfl
theorem map_getD {α β : Type} (f : α → β) (d : α) (e : β) (l : List α) (i : Nat) (h : i < l.length) : (l.map f).getD i e = f (l.getD i d) := by
  simp [List.getD_eq_getElem?_getD, List.getElem?_eq_getElem h]
set_option maxRecDepth 100000 in
set_option maxHeartbeats 2000000 in
theorem rpeaks_any (w : World) (ht : Tr w) (k : Int) (ao : Option Addr) (b off len cap : Nat) (L : List ByteArray) (hr : RdS w ao b off len L) (hsz : ∀ s ∈ L, s.size ≤ 140737488351232) (hmx : len ≤ 1099511627776) (hc : len ≤ cap) (P : List ByteArray) (hP : Hid (pks (clk k) L 41 = P)) :
    Calls Tryd.prog 16 #[.int .i64 k, .slice ao len cap] w fun e w' => ∃ v, e = .returned v ∧ OwnS w' w.heap.size v P ∧ Below w.heap.size w w' := by
  obtain ⟨Hs, hHs⟩ : ∃ Hs, Hid (gen id len 41 = Hs) := ⟨_, rfl⟩
  obtain ⟨M, hM⟩ : ∃ M, Hid (gen (mtP len) len 41 = M) := ⟨_, rfl⟩
  have HMt := fun W => mountains_any W len hmx M hM
  have hLl := hr.hl
  have eM : M = Hs.map (mtP len) := by
    have h1 := gen_map (mtP len) id len 41
    rw [hHs.out] at h1
    rw [h1]; exact hM.out.symm
  have eP : P = Hs.map (fun s => nd (clk k) L s (len / 2 ^ s - 1)) := by
    have h1 := gen_map (fun s => nd (clk k) L s (len / 2 ^ s - 1)) id len 41
    have h2 := gen_pks (clk k) L 41
    rw [hHs.out] at h1
    rw [hLl] at h2
    rw [h1]; exact hP.out.symm.trans h2.symm
  have lH : Hs.length ≤ 41 := by rw [← hHs.out]; exact gen_len _ _ _
  have lM : M.length = Hs.length := by rw [eM]; simp
  have lP : P.length = Hs.length := by rw [eP]; simp
  have HT : Hid (Tr w ∧ RdS w ao b off len L ∧ (∀ s ∈ L, s.size ≤ 140737488351232) ∧ len ≤ 1099511627776 ∧ len ≤ cap) := ⟨ht, hr, hsz, hmx, hc⟩
  have HV : Hid (∀ i, i < Hs.length → ∃ s t z i', s ≤ 40 ∧ 2 ^ s = z ∧ M.getD i (0, 0) = (t, z) ∧ t + z ≤ len ∧ t = i' * 2 ^ s ∧ P.getD i ByteArray.empty = nd (clk k) L s i') := fun i hi => by
    obtain ⟨s, hs⟩ : ∃ s, Hs.getD i 0 = s := ⟨_, rfl⟩
    have hmem : s ∈ gen id len 41 := by
      rw [hHs.out, ← hs, List.getD_eq_getElem?_getD, List.getElem?_eq_getElem hi]; exact List.getElem_mem _
    obtain ⟨hs41, hbit⟩ := gen_mem 41 s hmem
    obtain ⟨hat, hge⟩ := mount_at hbit
    refine ⟨s, (len / 2 ^ s - 1) * 2 ^ s, 2 ^ s, len / 2 ^ s - 1, by omega, rfl, ?_, ?_, rfl, ?_⟩
    · rw [eM, map_getD _ 0 _ _ _ hi, hs, mtP]
    · have h5 := Nat.div_mul_le_self len (2 ^ s)
      rw [Nat.sub_mul, Nat.one_mul]
      have : 1 * 2 ^ s ≤ len / 2 ^ s * 2 ^ s := Nat.mul_le_mul_right _ hge
      omega
    · rw [eP, map_getD _ 0 _ _ _ hi, hs]
  have HSz : Hid (∀ s ∈ P, s.size ≤ 9223372036854775807) := fun s hs => by rw [← hP.out] at hs; rw [pks_size (clk_le k) _ _ s hs]; have := clk_le k; omega
  have hb := Below.refl w.heap.size w
  have HL : Hid (Hs.length ≤ 41 ∧ M.length = Hs.length ∧ P.length = Hs.length) := ⟨lH, lM, lP⟩
  clear ht hr hsz hmx hc hP hHs hM hLl eM eP lH lM lP
  go_enter Tryd.func16, Tryd.ntmps16
  go_wp2_with (go_at_call 29; with_reducible refine (HMt _).mono ?_; rintro e w1 ⟨vM, rfl, hoM, hb1⟩)
  clear HMt
  obtain ⟨q, hq⟩ : ∃ q, Hs.length = q := ⟨_, rfl⟩
  obtain ⟨aoM, cM, hvM, hoM2⟩ : ∃ aoM cM, vM = .slice aoM q cM ∧ (0 < q → ∃ g, aoM = some ⟨g, 0, none⟩ ∧ OwnP w1 w.heap.size (.slice (some ⟨g, 0, none⟩) q cM) M) := by
    have hl := HL.out.2.1
    rcases hoM.2 with ⟨hv, h0⟩ | ⟨g, cp, cur, hv, _⟩
    · refine ⟨none, 0, ?_, fun h => ?_⟩
      · rw [hv, show q = 0 by omega]
      · omega
    · refine ⟨some ⟨g, 0, none⟩, cp, ?_, fun _ => ⟨g, rfl, ?_⟩⟩
      · rw [hv, hl, hq]
      · have := hoM; rw [hv, hl, hq] at this; exact this
  subst hvM
  rw [hq] at HL HV
  have HO : Hid (0 < q → ∃ g, aoM = some ⟨g, 0, none⟩ ∧ OwnP w1 w.heap.size (.slice (some ⟨g, 0, none⟩) q cM) M) := hoM2
  have HB1 : Hid (Below w.heap.size w w1) := hb1
  have hq41 : (q : Int) ≤ 41 := by have := HL.out.1; omega
  clear hoM hoM2 hb1 hq
  go_loopg [6, 7] q (fun gg v i0 wr => ∃ i : Nat, i ≤ q ∧ gg = q - i ∧ i0 = .int .i64 (i : Int) ∧ OwnS wr w1.heap.size v (P.take i) ∧ Below w1.heap.size w1 wr)
  case atStart =>
    go_light
    exact ⟨0, Nat.zero_le _, rfl, rfl, owns_nil _ _, Below.refl _ _⟩
  case round =>
    obtain ⟨i, hi, rfl, rfl, ho, hb2⟩ := hrel
    have hi0 : (0 : Int) ≤ (i : Int) := Int.natCast_nonneg _
    by_cases hlt : i < q
    · have hlt' : (i : Int) < (q : Int) := by omega
      obtain ⟨g, rfl, hoM⟩ := HO.out (by omega)
      obtain ⟨s, t, z, i', hs40, hz, hM, htz, hti, hPi⟩ := HV.out i hlt
      obtain ⟨t1, t2, t3, t4, t5⟩ := HT.out
      have hz0 : 0 < z := by rw [← hz]; exact Nat.two_pow_pos s
      obtain rfl := t2.ptr (by omega)
      obtain ⟨x, hx⟩ : ∃ x, P.getD i ByteArray.empty = x := ⟨_, rfl⟩
      rw [hx] at hPi
      have HTr : Hid (∀ W, Below w1.heap.size w1 W → Calls Tryd.prog 30 #[.int .i64 k, .slice (some ⟨b, off + t, none⟩) z (cap - t)] W fun e w' => e = .returned (.string x) ∧ Below W.heap.size W w') := fun W hb => by
        refine rtree_any W (t1.next (bnext HB1.out hb)) k _ b (off + t) (cap - t) s z hs40 hz ((L.drop t).take z) ((t2.next (bnext HB1.out hb) (Nat.le_refl _)).cut t z (by omega)) (fun y hy => t3 y (List.mem_of_mem_drop (List.mem_of_mem_take hy))) x ?_
        show _ = _
        rw [hti, ← hz, nd_cut]; exact hPi.symm
      have hlM := HL.out
      have HK0 : Hid (∀ W, Below w1.heap.size w1 W → W.cell? ⟨g, i * 2, none⟩ = some (.int .i64 (t : Int)) ∧ W.cell? ⟨g, i * 2 + 1, none⟩ = some (.int .i64 (z : Int))) := fun W h => by
        have := ownP_cell (ownP_next hoM h) (j := i) (by omega)
        rw [hM] at this
        exact this
      have HY : Hid (OwnS wr w1.heap.size u6 (P.take i) ∧ Below w1.heap.size w1 wr ∧ P.take i ++ [x] = P.take (i + 1) ∧ i + 1 ≤ q ∧ q ≤ 41 ∧ (P.take i).length = i) := ⟨ho, hb2, by rw [← hx]; exact take_snoc _ _ _ (by omega), hlt, by omega, by rw [List.length_take]; omega⟩
      obtain ⟨y, hy⟩ : ∃ y, t + z = y := ⟨_, rfl⟩
      have e1 : IntKind.i64.wrap ((t : Int) + (z : Int)) = (y : Int) := by rw [IntKind.wrap_i64]; omega
      have s0 : (0 : Int) ≤ (t : Int) := Int.natCast_nonneg _
      have s1 : (t : Int) ≤ (y : Int) := by omega
      have s2 : (y : Int) ≤ (cap : Int) := by omega
      have s3 : ¬ (cap = t) := by omega
      have s4 : y - t = z := by omega
      have hd : Below w1.heap.size w1 wr.drew := (hb2).drew
      obtain ⟨i0, hi0', hz0', hz1, hz2⟩ := info_parts Tryd.infoS
      have HO2 : Hid (∀ W, Below wr.drew.heap.size wr.drew W → (W.alloc (.cells #[.string x] 9)).ownsRow w1.heap.size 9 1 u6 i ((P.take i).map Value.string)) := fun W h => by
        have := own_al (own_next HY.out.1 (bnext ((Below.refl _ _).drew) h) (Nat.le_refl _)) (.cells #[.string x] 9)
        rw [OwnS, HY.out.2.2.2.2.2] at this; exact this
      have HM1 : Hid (i + 1 ≤ maxLen ∧ (i + 1) * 16 ≤ 140737488355328) := by have := HY.out; refine ⟨?_, ?_⟩; unfold maxLen; omega; omega
      have HS0 : Hid (∀ W, Below wr.drew.heap.size wr.drew W → w1.heap.size ≤ (W.alloc (.cells #[.string x] 9)).heap.size) := fun W h => by have := (bnext hd h).size; simp; omega
      have HG : Hid (∀ w2 w3, Below wr.drew.heap.size wr.drew w2 → (w2.alloc (.cells #[.string x] 9)).grownBy w3 u6.ownBlock → Below w1.heap.size w1 w3) := fun w2 w3 h1 h2 => (bal (bnext hd h1) _).grown h2 (by have := (bnext hd h1).size; simp; omega) (fun q hq => (HY.out.1.lt q hq).1)
      have HK : Hid (∀ W, Below wr.drew.heap.size wr.drew W → W.cell? ⟨g, i * 2, none⟩ = some (.int .i64 (t : Int)) ∧ W.cell? ⟨g, i * 2 + 1, none⟩ = some (.int .i64 (z : Int))) := fun W h => HK0.out W (bnext hd h)
      have HK3 : Hid (∀ w2 w3, Below wr.drew.heap.size wr.drew w2 → (w2.alloc (.cells #[.string x] 9)).grownBy w3 u6.ownBlock → w3.cell? ⟨g, i * 2, none⟩ = some (.int .i64 (t : Int)) ∧ w3.cell? ⟨g, i * 2 + 1, none⟩ = some (.int .i64 (z : Int))) := fun w2 w3 h1 h2 => HK0.out w3 (HG.out w2 w3 h1 h2)
      have kk := HK0.out wr.drew hd
      have HD : Hid (Below w1.heap.size w1 wr.drew) := hd
      clear ho hb2 hoM hs40 hz hM htz hti hPi t1 t2 t3 t4 t5 hz0 hx hlM hi hlt hd hy
      go_upto_region 6 with (fail)
      go_region_held3 (fun w' => w'.cell? ⟨g, i * 2, none⟩ = some (.int .i64 (t : Int)) ∧ w'.cell? ⟨g, i * 2 + 1, none⟩ = some (.int .i64 (z : Int))) (first | assumption | (exact HK3.out _ _ hb2 hgrow) | (exact HK.out _ hb2) | (exact HK.out _ (bal hb2 _))) (first
        | (go_at_call 30; with_reducible refine (HTr.out _ HD.out).mono ?_; rintro e w2 ⟨rfl, hb2⟩)
        | (refine step_append_lies _ (by rfl) _ _ _ (by rfl) w1.heap.size 9 i0 _ 1 16 Tryd.underlying22 hi0' hz0' hz1 hz2 rfl (by omega) u6 i ((P.take i).map Value.string) (by rfl) (HO2.out _ hb2) ⟨w2.heap.size, 0, none⟩ 1 1 [.string x] (by rfl) (by rfl) (World.news_of_block (cs := #[.string x]) (t := 9) (fr := (0, 0)) (heap_alloc_new w2 _)) (by simp [Value.oneCell']) (by omega) HM1.out.1 HM1.out.2 (HS0.out _ hb2) (w2.heap.size + 1) (by simp) ?_; intro gg cap_1 w3 hown3 hgrow hat hlt3))
      have HZ : Hid (OwnS w3 w1.heap.size (.slice (some ⟨gg, 0, none⟩) (i + 1) cap_1) (P.take (i + 1)) ∧ Below w1.heap.size w1 w3) := ⟨by
        obtain ⟨y1, y2, y3, y4, y5, y6⟩ := HY.out
        rw [OwnS, ← y3, List.length_append, y6, List.map_append]; exact hown3, HG.out _ _ hb2 hgrow⟩
      clear hown3 hgrow hat hlt3 HG HK3 HK HK0 HTr HO2 HS0 kk
      go_wp2
      go_roundg (q - (i + 1))
      case rel =>
        go_light
        exact ⟨i + 1, HY.out.2.2.2.1, rfl, by go_num, HZ.out.1, HZ.out.2⟩
      case measure => go_light; have := HY.out.2.2.2.1; omega
    · obtain rfl : i = q := by omega
      have hlt' : ¬ ((i : Int) < (i : Int)) := by omega
      have HZ : Hid (OwnS wr w.heap.size u6 P ∧ Below w.heap.size w wr) := ⟨by
        rw [List.take_of_length_le (by have := HL.out; omega)] at ho
        exact World.ownsRow.mono ho HB1.out.size, bnext HB1.out hb2⟩
      clear ho hb2 hi hlt HO HV
      go_wp2
      go_ret
      exact ⟨_, rfl, HZ.out.1, HZ.out.2⟩
set_option maxRecDepth 100000 in
theorem rroot_bad (w : World) (k : Int) (hk : k < 1 ∨ 32 < k) (ao : Option Addr) (len cap n : Nat) :
    Calls Tryd.prog 19 #[.int .i64 k, .slice ao len cap, .int .u64 (n : Int)] w fun e w' => e = .returned (.tuple #[.agg #[.int .u64 0, .string ⟨#[]⟩], .int .i64 70]) ∧ Below w.heap.size w w' := by
  have HC := fun W => refcheck_any W k
  rw [chk_no hk] at HC
  have hb := Below.refl w.heap.size w
  clear hk
  go_enter Tryd.func19, Tryd.ntmps19
  go_wp2_with (go_at_call 31; with_reducible refine (HC _).mono ?_; rintro e w1 ⟨rfl, rfl⟩)
  refine bodyPost_ret (v := .tuple #[.agg #[.int .u64 0, .string ⟨#[]⟩], .int .i64 70]) (by simp [results, Tryd.results19, go_sem]) rfl ⟨rfl, ?_⟩
  exact bal hb _
set_option maxRecDepth 100000 in
theorem rroot_size (w : World) (k : Int) (h1 : 1 ≤ k) (h2 : k ≤ 32) (ao : Option Addr) (len cap n : Nat) (hn : len < n) (hmx : len ≤ 8796093022208) :
    Calls Tryd.prog 19 #[.int .i64 k, .slice ao len cap, .int .u64 (n : Int)] w fun e w' => e = .returned (.tuple #[.agg #[.int .u64 0, .string ⟨#[]⟩], .int .i64 30]) ∧ Below w.heap.size w w' := by
  have HC := fun W => refcheck_any W k
  rw [chk_ok h1 h2] at HC
  have e0 : IntKind.u64.wrap (len : Int) = (len : Int) := wrap_u _ (by omega) (by omega)
  have hn' : (len : Int) < (n : Int) := by omega
  have hb := Below.refl w.heap.size w
  clear h1 h2 hn hmx
  go_enter Tryd.func19, Tryd.ntmps19
  go_wp2_with (go_at_call 31; with_reducible refine (HC _).mono ?_; rintro e w1 ⟨rfl, rfl⟩)
  refine bodyPost_ret (v := .tuple #[.agg #[.int .u64 0, .string ⟨#[]⟩], .int .i64 30]) (by simp [results, Tryd.results19, go_sem]) rfl ⟨rfl, ?_⟩
  exact bal hb _
set_option maxRecDepth 100000 in
theorem rroot_ok (w : World) (ht : Tr w) (k : Int) (h1 : 1 ≤ k) (h2 : k ≤ 32) (ao : Option Addr) (b off len cap : Nat) (L : List ByteArray) (hr : RdS w ao b off len L) (hsz : ∀ s ∈ L, s.size ≤ 140737488351232) (hmx : len ≤ 1099511627776) (hc : len ≤ cap) (n : Nat) (hn : n ≤ len) (r : ByteArray) (hq : Hid (rtD (clk k) L n = r)) :
    Calls Tryd.prog 19 #[.int .i64 k, .slice ao len cap, .int .u64 (n : Int)] w fun e w' => e = .returned (.tuple #[.agg #[.int .u64 (n : Int), .string r], .int .i64 0]) ∧ Below w.heap.size w w' := by
  have HC := fun W => refcheck_any W k
  rw [chk_ok h1 h2] at HC
  have e0 : IntKind.u64.wrap (len : Int) = (len : Int) := wrap_u _ (by omega) (by omega)
  have hn' : ¬ ((len : Int) < (n : Int)) := by omega
  have hn2 : (n : Int) ≤ (cap : Int) := by omega
  obtain ⟨P, hP⟩ : ∃ P, Hid (pks (clk k) (L.take n) 41 = P) := ⟨_, rfl⟩
  have HPk : Hid (∀ W, Below w.heap.size w W → Calls Tryd.prog 16 #[.int .i64 k, .slice ao n cap] W fun e w' => ∃ v, e = .returned v ∧ OwnS w' W.heap.size v P ∧ Below W.heap.size W w') := fun W hb => rpeaks_any W (ht.next hb) k ao b off n cap (L.take n) ((hr.next hb (Nat.le_refl _)).take hn) (fun s hs => hsz s (List.mem_of_mem_take hs)) (by omega) (by omega) P hP
  have zP : ∀ s ∈ P, s.size ≤ 140737488351232 := by rw [← hP.out]; exact small (clk_le k)
  have lP : P.length ≤ 41 := by rw [← hP.out]; exact pks_len _ _ _
  have HQ : Hid (dg (clk k) (rootT n (bagL (clk k) P)) = r) := by rw [← hP.out]; exact hq
  have HRo : Hid (∀ W, Below w.heap.size w W → ∀ ao' b' cap', RdS W ao' b' 0 P.length P → Calls Tryd.prog 32 #[.int .i64 k, .int .u64 (n : Int), .slice ao' P.length cap'] W fun e w' => e = .returned (.string r) ∧ Below W.heap.size W w') := fun W hb ao' b' cap' hr' => refroot_any W (ht.next hb) k n (by omega) ao' b' 0 P.length cap' P hr' zP (by omega) r HQ.out
  have HZ : Hid (∀ s ∈ P, s.size ≤ 9223372036854775807) := fun s hs => Nat.le_trans (zP s hs) (by decide)
  have hb := Below.refl w.heap.size w
  have HN := rt_new w 0 ⟨#[]⟩ 27
  rw [show ((0 : Nat) : Int) = 0 from rfl] at HN
  have HN2 := hide HN
  clear h1 h2 hn hmx hc hr hsz ht hq hP zP lP HQ HN
  go_enter Tryd.func19, Tryd.ntmps19
  go_wp2_with (first
    | (go_at_call 31; with_reducible refine (HC _).mono ?_; rintro e w1 ⟨rfl, rfl⟩)
    | (go_at_call 16; with_reducible refine (HPk.out _ (bal hb _)).mono ?_; rintro e w2 ⟨v, rfl, ho, hb2⟩; obtain ⟨ao', b', cap', rfl, hr', _, _⟩ := owns_rds ho HZ.out)
    | (go_at_call 32; with_reducible refine (HRo.out _ (bnext (bal hb _) hb2) _ _ _ hr').mono ?_; rintro e w3 ⟨rfl, hb3⟩; have hR := (HN2.out.below hb2 (by simp)).below hb3 (by have := hb2.size; simp at this; omega); have k0 := hR.c0; have k1 := hR.c1; have f0 := hR.f0; have f1 := hR.f1))
  have s0 : (w3.setCell ⟨w.heap.size, 0, none⟩ (.int .u64 (n : Int))).cell? ⟨w.heap.size, 0, none⟩ = some (.int .u64 (n : Int)) := World.cell?_setCell_same _ _ _ k0
  have s1 : ((w3.setCell ⟨w.heap.size, 0, none⟩ (.int .u64 (n : Int))).setCell ⟨w.heap.size, 1, none⟩ (.string r)).cell? ⟨w.heap.size, 1, none⟩ = some (.string r) :=
    World.cell?_setCell_same _ _ _ ((World.cell?_setCell_other _ _ _ _ (by simp)).trans k1)
  refine bodyPost_ret (v := .tuple #[.agg #[.int .u64 (n : Int), .string r], .int .i64 0]) (by simp [results, Tryd.results19, go_sem, s0, s1]) rfl ⟨rfl, ?_⟩
  exact ((bnext (bnext (bal hb _) hb2) hb3).setCell (p := ⟨w.heap.size, 0, none⟩) (Nat.le_refl _) _).setCell (p := ⟨w.heap.size, 1, none⟩) (Nat.le_refl _) _
end Go.Proofs.YtihcdmnodpknlaaDoor
