/-
  Own work: EKinS, EWkN.
-/
import Derived.Test.YtdocjikpcbmcgaaGreatDoorQs44
import Derived.BigQuiet
import Derived.Test.YtdocjikpcbmcgaaGreatDoorQb05
import Derived.Test.YtdocjikpcbmcgaaGreatDoorQb06
namespace Go.Proofs.YtdocjikpcbmcgaaGreatDoor
open Go.RowKit
open Cv (cov)
def kinT (c m n : Nat) (old now : List ByteArray) (D : List ByteArray) (V : Nat → ByteArray) : Pq :=
  (tp c m ((Cv.dnL 41 0 m).map fun b => nd c old b.1 b.2) (D.take (Cv.dnL 41 0 m).length)).or ((wk c n now (ixM (kb m n)) D V (Cv.dnL 41 0 n)).or (wk c m old (fun _ _ => none) [] (fun i => now.getD i ByteArray.empty) (Cv.dnL 41 0 m)))
theorem kin_given {c n m : Nat} {now D : List ByteArray} {V : Nat → ByteArray} {K : List He} {R : List ByteArray} {Q : Nat → Prop} (hc : c ≤ 32) (hm : m ≤ n) (hn : n ≤ 2 ^ 40) (T : Tre c n (kb m n) D V Q K R) (h : ∀ b ∈ Cv.dnL 41 0 n, nd c now b.1 b.2 = xd c (ixM (kb m n)) D V b.1 b.2 ∧ fp c now (ixM (kb m n)) D V b.1 b.2 = none) {j : Nat} (hj : j < (kb m n).length) : nd c now ((kb m n).getD j (0, 0)).1 ((kb m n).getD j (0, 0)).2 = D.getD j ByteArray.empty := by
  obtain ⟨b, hb⟩ : ∃ b, (kb m n).getD j (0, 0) = b := ⟨_, rfl⟩
  have hbm : b ∈ kb m n := by rw [← hb]; exact mem_getD hj
  have hin := (row_from (kb_row hm hn) b hbm).2
  unfold Pl.pw at hin
  have hlt : b.2 * 2 ^ b.1 < n := by have := Nat.two_pow_pos b.1; rw [Nat.add_mul, Nat.one_mul] at hin; omega
  obtain ⟨A, H, B, wy⟩ := wy_ex n (b.2 * 2 ^ b.1) hn hlt
  have hi : (b.2 * 2 ^ b.1) / 2 ^ b.1 = b.2 := Nat.mul_div_cancel _ (Nat.two_pow_pos _)
  have hH : b.1 ≤ H := dn_top hn wy.top hin rfl hi
  obtain ⟨h1, h2⟩ := h _ wy.top
  have e : b.2 / 2 ^ (H - b.1) = b.2 * 2 ^ b.1 / 2 ^ H := by rw [up_item hH, hi]
  have key := (fp_alike hc T.lt T.dsz H (b.2 * 2 ^ b.1 / 2 ^ H) h1 h2 b.1 b.2 hH e (fun t ht _ => kin_free hm hn hbm ht)).1
  rw [hb, key]
  have hx := ixM_is T.nodup hj
  rw [hb] at hx
  exact xd_in hx
theorem kin_sound {k : Int} {old now : List ByteArray} {s : ByteArray} {P : PV} (V : Nat → ByteArray) (A : AccK k old.length (rtD (clk k) old old.length) now.length (rtD (clk k) now now.length) s P) :
    (∃ q, kinT (clk k) old.length now.length old now P.D V = some q ∧ Clx (clk k) q) ∨ old = now.take old.length := by
  obtain ⟨⟨⟨_, hk⟩, hn, hm, _⟩, hf⟩ := A.ok
  have hc := clk_le k
  have hck : (clk k : Int) = k := clk_of hk.1 hk.2
  have hm40 : old.length ≤ 2 ^ 40 := Nat.le_trans hm hn
  have hD : P.D.length = (kb old.length now.length).length := hf.1
  have hdsz : ∀ d ∈ P.D, d.size = clk k := fun d hd => by have := hf.2 d hd; omega
  have hcov : cov 0 old.length = Cv.dnL 41 0 old.length := Cv.cov_zero _ hm40
  have hkl : (Cv.dnL 41 0 old.length).length ≤ P.D.length := by rw [hD, kb, List.length_append, hcov]; omega
  have T := tre_kin A.ok V
  -- the first
  have he1 : dg (clk k) (rootT old.length (bagL (clk k) ((Cv.dnL 41 0 old.length).map fun b => nd (clk k) old b.1 b.2))) = dg (clk k) (rootT old.length (bagL (clk k) (P.D.take (Cv.dnL 41 0 old.length).length))) := by
    rw [← rt_map hm40, ← A.one, kOld, hcov]
  have hl1 : ((Cv.dnL 41 0 old.length).map fun b => nd (clk k) old b.1 b.2).length = (P.D.take (Cv.dnL 41 0 old.length).length).length := by rw [List.length_map, List.length_take]; omega
  have hP1 : ∀ s ∈ (Cv.dnL 41 0 old.length).map fun b => nd (clk k) old b.1 b.2, s.size = clk k := fun s hs => by obtain ⟨b, _, rfl⟩ := List.mem_map.1 hs; exact nd_size hc _ _ _
  have hQ1 : ∀ s ∈ P.D.take (Cv.dnL 41 0 old.length).length, s.size = clk k := fun s hs => hdsz s (List.mem_of_mem_take hs)
  unfold kinT
  cases ht1 : tp (clk k) old.length ((Cv.dnL 41 0 old.length).map fun b => nd (clk k) old b.1 b.2) (P.D.take (Cv.dnL 41 0 old.length).length) with
  | some q => exact .inl ⟨q, rfl, tp_clash hl1 hP1 hQ1 he1 ht1⟩
  | none =>
    have e1 := tp_alike hl1 hP1 hQ1 ht1
    -- the second
    have he2 : dg (clk k) (rootT now.length (bagL (clk k) ((Cv.dnL 41 0 now.length).map fun b => nd (clk k) now b.1 b.2))) = dg (clk k) (rootT now.length (bagL (clk k) ((Cv.dnL 41 0 now.length).map fun b => xd (clk k) (ixM (kb old.length now.length)) P.D V b.1 b.2))) := by
      rw [← rt_map hn, T.pk, ← A.two, kNow]
    rcases wk_clash hc T.lt T.dsz he2 with ⟨q, hq, hcl⟩ | ⟨hq, h2⟩
    · exact .inl ⟨q, by rw [hq]; rfl, hcl⟩
    · rw [hq]
      have hgiv : ∀ j, j < (Cv.dnL 41 0 old.length).length → nd (clk k) now ((Cv.dnL 41 0 old.length).getD j (0, 0)).1 ((Cv.dnL 41 0 old.length).getD j (0, 0)).2 = P.D.getD j ByteArray.empty := fun j hj => by
        have h3 := kin_given hc hm hn T h2 (j := j) (by rw [← hD]; omega)
        have e : (kb old.length now.length).getD j (0, 0) = (Cv.dnL 41 0 old.length).getD j (0, 0) := by rw [kb, hcov, getD_fst _ _ _ hj]
        rwa [e] at h3
      have e3 : ((Cv.dnL 41 0 old.length).map fun b => nd (clk k) old b.1 b.2) = (Cv.dnL 41 0 old.length).map fun b => xd (clk k) (fun _ _ => none) [] (fun i => now.getD i ByteArray.empty) b.1 b.2 := by
        rw [e1]
        refine List.ext_getElem (by rw [List.length_map, List.length_take]; omega) fun j ha hb => ?_
        rw [List.length_map] at hb
        have h4 := hgiv j hb
        rw [List.getElem_map, xd_nd]
        rw [List.getD_eq_getElem?_getD, List.getElem?_eq_getElem hb, List.getD_eq_getElem?_getD, List.getElem?_eq_getElem (show j < P.D.length by omega)] at h4
        rw [List.getElem_take]
        exact h4.symm
      rcases wk_clash (L := old) (M := fun _ _ => none) (D := []) (V := fun i => now.getD i ByteArray.empty) (n := old.length) (B := Cv.dnL 41 0 old.length) hc (fun h x j e => by cases e) (fun s hs => by cases hs) (by rw [e3]) with ⟨q, hq, hcl⟩ | ⟨_, h4⟩
      · exact .inl ⟨q, hq, hcl⟩
      · refine .inr (List.ext_getElem (by rw [List.length_take]; omega) fun i ha hb => ?_)
        obtain ⟨A', H, B, wy⟩ := wy_ex old.length i hm40 ha
        obtain ⟨h5, h6⟩ := h4 _ wy.top
        have key := (fp_alike hc (fun h x j e => by cases e) (fun s hs => by cases hs) H (i / 2 ^ H) h5 h6 0 i (Nat.zero_le _) rfl (fun t _ _ => rfl)).2 rfl rfl
        have hi : i < now.length := by omega
        rw [List.getD_eq_getElem?_getD, List.getElem?_eq_getElem ha, List.getD_eq_getElem?_getD, List.getElem?_eq_getElem hi] at key
        rw [List.getElem_take]
        exact key
theorem kin_sz {N c m n : Nat} {old now D : List ByteArray} {V : Nat → ByteArray} (hN : 100 ≤ N) (hc : c ≤ 32) (hM : ∀ h k j, ixM (kb m n) h k = some j → j < D.length) (hD : ∀ s ∈ D, s.size = c) (ho : ∀ i, (old.getD i ByteArray.empty).size + 1 ≤ N) (hw : ∀ i, (now.getD i ByteArray.empty).size + 1 ≤ N) (hV : ∀ i, (V i).size + 1 ≤ N) {q : ByteArray × ByteArray} (h : kinT c m n old now D V = some q) : Sz N q := by
  unfold kinT at h
  rcases or_some h with h | ⟨_, h⟩
  · exact tp_sz hN hc (fun s hs => by obtain ⟨b, _, rfl⟩ := List.mem_map.1 hs; rw [nd_size hc]; exact hc) (fun s hs => by rw [hD s (List.mem_of_mem_take hs)]; exact hc) h
  · rcases or_some h with h | ⟨_, h⟩
    · exact wk_sz hN hc hM hD hw hV h
    · exact wk_sz hN hc (fun h x j e => by cases e) (fun s hs => by cases hs) ho hw h
end Go.Proofs.YtdocjikpcbmcgaaGreatDoor
namespace Go.Proofs.YtdocjikpcbmcgaaGreatDoor
open Go.RowKit
attribute [local go_sem ↓] Go.wp_at_zero Go.wp_at_succ
theorem putP_cell {w : World} {g b j : Nat} {v : Value} (y : Pq) (h : w.cell? ⟨b, j, none⟩ = some v) (hn : b ≠ g) : (putP w g y).cell? ⟨b, j, none⟩ = some v := by
  have hch := putP_ch w g y
  generalize putP w g y = V at hch ⊢
  exact (World.cell?_of_block (a := ⟨b, j, none⟩) (hch.block b hn)).trans h
theorem p3_put {w0 w : World} {p : Nat} (h : P3 w p none) (y : Pq) (hb : Below w0.heap.size w0 w) (hp : w0.heap.size ≤ p) : ∃ V, putP w p y = V ∧ P3 V p y ∧ Below w0.heap.size w0 V :=
  ⟨_, rfl, h.put y, hb.trans ((putP_ch w p y).below (by rintro b rfl; exact hp))⟩
section
variable (w : World) (k : Int) (pa : Option Addr) (pn pc : Nat) (qa : Option Addr) (qn qc : Nat) (s : ByteArray) (o1 : Nat) (c1 : ByteArray) (o2 : Nat) (c2 : ByteArray)
    (HC1 : Hid (∀ W, Below w.heap.size w W → Calls Tryz.prog 23 #[.int .i64 k, .slice pa pn pc] W fun e w' => e = .returned (.agg #[.int .u64 (o1 : Int), .string c1]) ∧ Below W.heap.size W w'))
    (HC2 : Hid (∀ W, Below w.heap.size w W → Calls Tryz.prog 23 #[.int .i64 k, .slice qa qn qc] W fun e w' => e = .returned (.agg #[.int .u64 (o2 : Int), .string c2]) ∧ Below W.heap.size W w'))
include HC1 HC2
set_option maxRecDepth 100000 in
set_option maxHeartbeats 1000000 in
theorem ekn_no (r : Int) (hr : r ≠ 0)
    (HL : Hid (∀ W, Below w.heap.size w W → Calls Tryz.prog 14 #[.int .i64 k, .agg #[.int .u64 (o1 : Int), .string c1], .agg #[.int .u64 (o2 : Int), .string c2], .string s] W fun e w' => e = .returned (.int .i64 r) ∧ Below W.heap.size W w')) :
    Calls Tryz.prog 13 #[.int .i64 k, .slice pa pn pc, .slice qa qn qc, .string s] w fun e w' => e = .returned (tri none) ∧ Below w.heap.size w w' := by
  have hz : (r != 0) = true := by simpa using hr
  have hz2 : ¬ r = 0 := hr
  clear hr
  go_enter Tryz.func13, Tryz.ntmps13
  go_wp2_with (first
    | (go_at_call 23; with_reducible refine (HC2.out _ hb1).mono ?_; rintro e w2 ⟨rfl, hb2⟩)
    | (go_at_call 23; with_reducible refine (HC1.out _ (Below.refl _ _)).mono ?_; rintro e w1 ⟨rfl, hb1⟩)
    | (go_at_call 14; with_reducible refine (HL.out _ (bnext hb1 hb2)).mono ?_; rintro e w3 ⟨rfl, hb3⟩))
  exact bodyPost_ret (v := tri none) (by simp [results, Tryz.results13, go_sem, pA, pB']) rfl ⟨rfl, bnext (bnext hb1 hb2) hb3⟩
set_option maxRecDepth 100000 in
set_option maxHeartbeats 1000000 in
theorem ekn_so
    (HL : Hid (∀ W, Below w.heap.size w W → Calls Tryz.prog 14 #[.int .i64 k, .agg #[.int .u64 (o1 : Int), .string c1], .agg #[.int .u64 (o2 : Int), .string c2], .string s] W fun e w' => e = .returned (.int .i64 0) ∧ Below W.heap.size W w'))
    (HS : Hid (∀ W, Below w.heap.size w W → Calls Tryz.prog 32 #[.slice pa pn pc, .slice qa qn qc] W fun e w' => e = .returned (.bool true) ∧ Below W.heap.size W w')) :
    Calls Tryz.prog 13 #[.int .i64 k, .slice pa pn pc, .slice qa qn qc, .string s] w fun e w' => e = .returned (tri none) ∧ Below w.heap.size w w' := by
  go_enter Tryz.func13, Tryz.ntmps13
  go_wp2_with (first
    | (go_at_call 23; with_reducible refine (HC2.out _ hb1).mono ?_; rintro e w2 ⟨rfl, hb2⟩)
    | (go_at_call 23; with_reducible refine (HC1.out _ (Below.refl _ _)).mono ?_; rintro e w1 ⟨rfl, hb1⟩)
    | (go_at_call 14; with_reducible refine (HL.out _ (bnext hb1 hb2)).mono ?_; rintro e w3 ⟨rfl, hb3⟩)
    | (go_at_call 32; with_reducible refine (HS.out _ (bnext (bnext hb1 hb2) hb3)).mono ?_; rintro e w4 ⟨rfl, hb4⟩))
  exact bodyPost_ret (v := tri none) (by simp [results, Tryz.results13, go_sem, pA, pB']) rfl ⟨rfl, bnext (bnext (bnext hb1 hb2) hb3) hb4⟩
set_option maxRecDepth 100000 in
set_option maxHeartbeats 2000000 in
theorem ekn_not (P : PV) (R : List ByteArray) (hRD : R.length ≤ P.D.length) (hRs : ∀ x ∈ R, x.size ≤ 9223372036854775807) (hDl : P.D.length ≤ 8796093022208) (T1 T2 T3 T : Pq) (hT : T1.or (T2.or T3) = T)
    (HL : Hid (∀ W, Below w.heap.size w W → Calls Tryz.prog 14 #[.int .i64 k, .agg #[.int .u64 (o1 : Int), .string c1], .agg #[.int .u64 (o2 : Int), .string c2], .string s] W fun e w' => e = .returned (.int .i64 0) ∧ Below W.heap.size W w'))
    (HS : Hid (∀ W, Below w.heap.size w W → Calls Tryz.prog 32 #[.slice pa pn pc, .slice qa qn qc] W fun e w' => e = .returned (.bool false) ∧ Below W.heap.size W w'))
    (HD : Hid (∀ W, Calls Tryz.prog 25 #[.string s] W fun e w' => ∃ sa sb sc da db dc, e = .returned (.tuple #[vP P.kd P.k P.old P.size (.slice sa P.S.length sc) (.slice da P.D.length dc), .int .i64 0]) ∧ RdF w' sa sb sc da db dc P ∧ Below W.heap.size W w'))
    (HPk : Hid (∀ W, Below w.heap.size w W → Calls Tryz.prog 33 #[.int .i64 k, .slice pa pn pc] W fun e w' => ∃ v, e = .returned v ∧ OwnS w' W.heap.size v R ∧ Below W.heap.size W w'))
    (HAb : Hid (∀ W ra rb rc da db dc, Below w.heap.size w W → RdS W ra rb 0 R.length R → R.length ≤ rc → (ra = none → rc = 0) → RdS W da db 0 P.D.length P.D → P.D.length ≤ dc → (da = none → dc = 0) → Calls Tryz.prog 34 #[.int .i64 k, .int .u64 (P.old : Int), .slice ra R.length rc, .slice da R.length dc] W fun e w' => e = .returned (pv T1) ∧ Below W.heap.size W w'))
    (HO : Hid (∀ W sa sb sc da db dc, Below w.heap.size w W → RdF W sa sb sc da db dc P → Calls Tryz.prog 26 #[vP P.kd P.k P.old P.size (.slice sa P.S.length sc) (.slice da P.D.length dc), .slice qa qn qc, .slice none 0 0] W fun e w' => e = .returned (pv T2) ∧ Below W.heap.size W w'))
    (HW : Hid (∀ W, Below w.heap.size w W → Calls Tryz.prog 35 #[wkV k (lsV k pa pn pc none) 69 (lsV k qa qn qc none), .int .u64 (P.old : Int)] W fun e w' => e = .returned (pv T3) ∧ Below W.heap.size W w')) :
    Calls Tryz.prog 13 #[.int .i64 k, .slice pa pn pc, .slice qa qn qc, .string s] w fun e w' => e = .returned (tri T) ∧ Below w.heap.size w w' := by
  obtain ⟨kd, kk, old, size, S, D⟩ := P
  simp only [vP] at HD HO HAb HW hRD hDl
  go_enter Tryz.func13, Tryz.ntmps13
  go_upto_region 4 with (first
    | (go_at_call 23; with_reducible refine (HC2.out _ hb1).mono ?_; rintro e w2 ⟨rfl, hb2⟩)
    | (go_at_call 23; with_reducible refine (HC1.out _ (Below.refl _ _)).mono ?_; rintro e w1 ⟨rfl, hb1⟩)
    | (go_at_call 14; with_reducible refine (HL.out _ (bnext hb1 hb2)).mono ?_; rintro e w3 ⟨rfl, hb3⟩)
    | (go_at_call 32; with_reducible refine (HS.out _ (bnext (bnext hb1 hb2) hb3)).mono ?_; rintro e w4 ⟨rfl, hb4⟩)
    | (go_at_call 25; with_reducible refine (HD.out _).mono ?_; rintro e w5 ⟨sa, sb, sc, da, db, dc, rfl, hF, hb5⟩))
  obtain ⟨F, hFe, h6, hb6, _⟩ := box6 w5 (.int .i64 kd) (.int .i64 kk) (.int .u64 (old : Int)) (.int .u64 (size : Int)) (.slice sa S.length sc) (.slice da D.length dc)
  try rw [hFe]
  clear hFe
  have hbF := bnext (bnext (bnext (bnext (bnext hb1 hb2) hb3) hb4) hb5) hb6
  have hF6 := hF.next hb6
  clear hF hb1 hb2 hb3 hb4 hb5 hb6 HC1 HC2 HL HS HD
  go_upto_region 5 with (go_at_call 33; with_reducible refine (HPk.out _ hbF).mono ?_; rintro e w7 ⟨v7, rfl, o7, hb7⟩)
  obtain ⟨ra, rb, rc, rfl, hR, hrc, hrn⟩ := owns_rds o7 hRs
  have hF7 := hF6.next hb7
  have h67 := h6.next hb7
  have hb7' := bnext hbF hb7
  have HX : Hid (∀ V, Below w7.heap.size w7 V → V.cell? ⟨w5.heap.size, 2, none⟩ = some (.int .u64 (old : Int)) ∧ V.cell? ⟨w5.heap.size, 5, none⟩ = some (.slice da D.length dc)) := fun V hb => ⟨(h67.next hb).cells.2.2.1, (h67.next hb).cells.2.2.2.2.2⟩
  obtain ⟨c2', c5⟩ := HX.out w7 (Below.refl _ _)
  have HA : Hid (∀ W, Below w7.heap.size w7 W → Calls Tryz.prog 34 #[.int .i64 k, .int .u64 (old : Int), .slice ra R.length rc, .slice da R.length dc] W fun e w' => e = .returned (pv T1) ∧ Below W.heap.size W w') := fun W hb => HAb.out W ra rb rc da db dc (bnext hb7' hb) (hR.next hb (Nat.le_refl _)) hrc hrn ((hF7.next hb).p.rd) hF7.p.cD hF7.nD
  have z1 : (R.length : Int) ≤ (D.length : Int) := by omega
  have z2 : (D.length : Int) ≤ (dc : Int) := by have := hF7.p.cD; simp only at this; omega
  have z3 : (R.length : Int) ≤ (dc : Int) := by omega
  have z4 : (D.length : Int) ≤ 8796093022208 := by omega
  have HK := hide (And.intro hF7 (And.intro h67 hb7'))
  clear hF6 hF7 h6 h67 hbF hb7 hb7' o7 hR hrc hrn hRD hRs HAb HPk hDl
  have HP : Hid (∀ V : World, P3 (V.alloc (.cells #[.string ⟨#[]⟩, .string ⟨#[]⟩, .bool false] 59)) V.heap.size none) := fun V => by obtain ⟨F2, e2, h2, _⟩ := p3_nil V; rw [e2]; exact h2
  have hn9 := (Below.refl w7.heap.size w7).drew
  have hc9 := (bal (Below.refl w7.heap.size w7) (.cells #[.string ⟨#[]⟩, .string ⟨#[]⟩, .bool false] 59)).drew
  have hd9 := (Below.refl (w7.alloc (.cells #[.string ⟨#[]⟩, .string ⟨#[]⟩, .bool false] 59)).heap.size (w7.alloc (.cells #[.string ⟨#[]⟩, .string ⟨#[]⟩, .bool false] 59))).drew
  have HQ : Hid (∀ (V : World) (g : Nat) (y : Pq), Below w7.heap.size w7 V → w7.heap.size ≤ g → (putP V g y).cell? ⟨w5.heap.size, 2, none⟩ = some (.int .u64 (old : Int)) ∧ (putP V g y).cell? ⟨w5.heap.size, 5, none⟩ = some (.slice da D.length dc)) := fun V g y hb hg => by
    obtain ⟨q0, q1⟩ := HX.out V hb
    have hl := HK.out.2.1.lt
    exact ⟨putP_cell y q0 (by omega), putP_cell y q1 (by omega)⟩
  have he9 := bal (Below.refl w7.heap.size w7) (.cells #[.string ⟨#[]⟩, .string ⟨#[]⟩, .bool false] 59)
  go_region_held3 (fun V => V.cell? ⟨w5.heap.size, 2, none⟩ = some (.int .u64 (old : Int)) ∧ V.cell? ⟨w5.heap.size, 5, none⟩ = some (.slice da D.length dc))
    (first | with_reducible exact HQ9.out | with_reducible exact HX.out _ hn9 | with_reducible exact HX.out _ hc9 | with_reducible exact HX.out _ he9 | with_reducible exact HX.out _ (Below.refl _ _))
    (first
    | (go_at_call 34; with_reducible refine (HA.out _ hc9).mono ?_; rintro e w8 ⟨rfl, hb8⟩; replace hc9 := bnext hc9 hb8; replace hd9 := bnext hd9 hb8; have h39 := (HP.out w7).next hd9; have HQ9 := hide (HQ.out _ _ T1 hc9 (Nat.le_refl _)); obtain ⟨r0, r1, r2⟩ := h39.cells; have rf := h39.fz; simp only [pA, pB', Option.isSome_none] at r0 r1 r2)
    | (go_at_call 34; with_reducible refine (HA.out _ hn9).mono ?_; rintro e w8 ⟨rfl, hb8⟩; replace hn9 := bnext hn9 hb8; replace hc9 := bal hn9 (.cells #[.string ⟨#[]⟩, .string ⟨#[]⟩, .bool false] 59); have h39 := HP.out w8; have HQ9 := hide (HX.out _ (bal hn9 (.cells #[.string (pA T1), .string (pB' T1), .bool (Option.isSome T1)] 59))); obtain ⟨r0, r1, r2⟩ := h39.cells; have rf := h39.fz; simp only [pA, pB', Option.isSome_none] at r0 r1 r2))
  all_goals
    first
    | (obtain ⟨G, hGe, h3, hbG, hpl⟩ : ∃ G, ((w8.setCell ⟨w7.heap.size, 0, none⟩ (.string (pA T1))).setCell ⟨w7.heap.size, 1, none⟩ (.string (pB' T1))).setCell ⟨w7.heap.size, 2, none⟩ (.bool (Option.isSome T1)) = G ∧ P3 G w7.heap.size T1 ∧ Below w7.heap.size w7 G ∧ (w5.heap.size < w7.heap.size ∧ w7.heap.size ≤ w7.heap.size) := ⟨_, rfl, h39.put T1, hc9.trans ((putP_ch w8 w7.heap.size T1).below (by rintro b rfl; exact Nat.le_refl _)), HK.out.2.1.lt, Nat.le_refl _⟩
       rw [hGe])
    | (obtain ⟨G, hGe, h3, hbG, _⟩ := p3_box w8 T1
       replace hbG := bnext hn9 hbG
       have hpl : w5.heap.size < w8.heap.size ∧ w7.heap.size ≤ w8.heap.size := ⟨Nat.lt_of_lt_of_le HK.out.2.1.lt hn9.size, hn9.size⟩
       rw [hGe])
    clear hGe h39 hc9 HQ9 HQ he9 rf r0 r1 r2 hb8
    obtain ⟨e0, e1, e2⟩ := h3.cells
    have HG := hide (And.intro h3 (And.intro hbG hpl))
    clear h3 hbG hpl hn9
    cases T1 with
    | some y =>
      obtain rfl : some y = T := hT
      simp only [pA, pB', Option.isSome_some] at e0 e1 e2
      go_upto_region 10 with (fail)
      go_quiet (fail)
      go_wp2
      exact bodyPost_ret (v := tri (some y)) (by simp [results, Tryz.results13, go_sem, pA, pB']) rfl ⟨rfl, below_drewN (bnext HK.out.2.2 HG.out.2.1) _⟩
    | none =>
      simp only [pA, pB', Option.isSome_none] at e0 e1 e2
      replace hT : T2.or T3 = T := hT
      obtain ⟨c0, c1, c2, c3, c4, c5⟩ := (HK.out.2.1.next HG.out.2.1).cells
      go_upto_region 7 with (fail)
      go_upto_region 8 with (go_at_call 26; with_reducible refine (HO.out _ sa sb sc da db dc (bnext HK.out.2.2 HG.out.2.1) (HK.out.1.next HG.out.2.1)).mono ?_; rintro e w9 ⟨rfl, hb9⟩; have h9 := HG.out.1.next hb9; obtain ⟨r0, r1, r2⟩ := h9.cells; have rf := h9.fz; simp only [pA, pB', Option.isSome_none] at r0 r1 r2)
      obtain ⟨V, hV, hq, hbq⟩ := p3_put h9 T2 (bnext HG.out.2.1 hb9) HG.out.2.2.2
      unfold putP at hV
      rw [hV]
      clear hV e0 e1 e2 r0 r1 r2 rf h9 hb9 c0 c1 c2 c3 c4 c5 HO
      obtain ⟨e0, e1, e2⟩ := hq.cells
      have HV := hide (And.intro hq (And.intro hbq HG.out.2.2))
      clear hq hbq HG
      cases T2 with
      | some y =>
        obtain rfl : some y = T := hT
        simp only [pA, pB', Option.isSome_some] at e0 e1 e2
        go_upto_region 10 with (fail)
        go_quiet (fail)
        go_wp2
        exact bodyPost_ret (v := tri (some y)) (by simp [results, Tryz.results13, go_sem, pA, pB']) rfl ⟨rfl, below_drewN (bnext HK.out.2.2 HV.out.2.1) _⟩
      | none =>
        simp only [pA, pB', Option.isSome_none] at e0 e1 e2
        replace hT : T3 = T := hT
        subst hT
        have cz := (HX.out V HV.out.2.1).1
        go_upto_region 9 with (fail)
        go_upto_region 10 with (go_at_call 35; with_reducible refine (HW.out _ (bnext HK.out.2.2 HV.out.2.1)).mono ?_; rintro e w9 ⟨rfl, hb9⟩; have h9 := HV.out.1.next hb9; obtain ⟨r0, r1, r2⟩ := h9.cells; have rf := h9.fz; simp only [pA, pB', Option.isSome_none] at r0 r1 r2)
        obtain ⟨U, hU, hq, hbq⟩ := p3_put h9 T3 (bnext HV.out.2.1 hb9) HV.out.2.2.2
        unfold putP at hU
        rw [hU]
        clear hU e0 e1 e2 r0 r1 r2 rf h9 hb9
        obtain ⟨e0, e1, e2⟩ := hq.cells
        have HB : Hid (∀ t, Below w.heap.size w (U.drewN t)) := fun t => below_drewN (bnext HK.out.2.2 hbq) t
        clear hq hbq
        go_quiet (fail)
        go_wp2
        exact bodyPost_ret (v := tri T3) (by simp [results, Tryz.results13, go_sem]) rfl ⟨rfl, HB.out _⟩
end
end Go.Proofs.YtdocjikpcbmcgaaGreatDoor
