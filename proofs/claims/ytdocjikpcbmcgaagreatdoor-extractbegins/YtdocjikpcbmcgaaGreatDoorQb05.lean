/-
  Own work: EAcc, ETree, ETree2, EWkJ, EWkL.
-/
import Derived.Test.YtdocjikpcbmcgaaGreatDoorQs44
import Derived.Defers
import Derived.Recover
import Derived.Test.YtdocjikpcbmcgaaGreatDoorProg
import Derived.WalkKit
import Derived.WalkSpells
import Derived.Outline
import Derived.KernelRfl
import Derived.Deep.LoopGhost
import Derived.Deep.DrawnRows
import Derived.Deep.Light
import Derived.Deep.MidRow
import Derived.Deep.Onto
import Derived.Deep.RegionWith
import Derived.BigQuiet
import Derived.Laws.Bits64b
import Derived.Handy
import Derived.ArgAppend
import Derived.Laws.AppendOwnNone
import Derived.Laws.IdiomStrings
import Derived.Deep.DeepMakePanics
import Derived.OwnWalk
import Derived.Test.YtdocjikpcbmcgaaGreatDoorRows
import Derived.WalkLawsBesides
import Derived.WalkMore
import Derived.Deep.OwnRows
import Derived.Deep.RegionHeld3
import Derived.Deep.Cut
import Derived.Deep.CutRange
import Derived.Lib.SliceRun
import Derived.Below
import Derived.Lib.LazyBuf
import Derived.Deep.RegionLaw
import Derived.Lib.BufferOwn
import Derived.Maps.Keyed
import Derived.DeepKeys4
import Derived.Lib.AppendZeros
import Derived.Laws.BitsAllLaws
import Derived.Deep.AppendSrc
import Derived.Lib.AppendStr
import Derived.Deep.Upon
import Derived.BigRegion
import Derived.RegionTactic
import Derived.Lib.BufferMore
import Derived.Laws.StructEq
import Derived.Test.YtdocjikpcbmcgaaGreatDoorQb04
namespace Go.Proofs.YtdocjikpcbmcgaaGreatDoor
open Go.RowKit
structure AccK (k : Int) (o1 : Nat) (c1 : ByteArray) (o2 : Nat) (c2 : ByteArray) (s : ByteArray) (P : PV) : Prop where
  k1 : 1 ≤ k
  k2 : k ≤ 32
  hd : dec s.data.toList = some P
  hk : P.k = k
  kd : P.kd = 3
  old : P.old = o1
  size : P.size = o2
  hS : P.S.length = 0
  ok : okK 3 k o1 o2 0 P.D
  one : kOld (clk k) o1 P.D = c1
  two : kNow (clk k) o2 (dgK (clk k) (kb o1 o2) P.D) = c2
theorem kin_acc (k : Int) (o1 : Nat) (c1 : ByteArray) (o2 : Nat) (c2 : ByteArray) (s : ByteArray) (hs2 : s.size ≤ 281474976710656) : ∃ r : Int,
    (∀ W, Tb W → Calls Tryz.prog 14 #[.int .i64 k, .agg #[.int .u64 (o1 : Int), .string c1], .agg #[.int .u64 (o2 : Int), .string c2], .string s] W fun e w' => e = .returned (.int .i64 r) ∧ Below W.heap.size W w') ∧
    (r = 0 → ∃ P, AccK k o1 c1 o2 c2 s P) := by
  by_cases h0 : tkE k s = 0
  · obtain ⟨⟨k1, k2⟩, P, hd, hk⟩ := tkE_zero h0
    have hD : P.D.length ≤ 8796093022208 := by have := (cnt_ok (enc_dec hd).1.1).hc; omega
    by_cases h1 : okK P.kd k P.old P.size P.S.length P.D
    · have h3 : P.kd = 3 := h1.1.1.1
      have hns : P.S.length = 0 := h1.1.2.2.2
      rw [h3, hns] at h1
      have hD32 : ∀ d ∈ P.D, d.size ≤ 32 := fun d hd => by have := h1.2.2 d hd; have := h1.1.1.2; omega
      refine ⟨kinD P.old (kOld (clk k) P.old P.D) P.size (kNow (clk k) P.size (dgK (clk k) (kb P.old P.size) P.D)) 0 o1 c1 o2 c2, fun W hT => ?_, fun h => ?_⟩
      · refine kin_led W k k1 k2 o1 c1 o2 c2 s hs2 P hd hk _ _ _ _ 0 (fun V sa sb sc da db dc hb hF => ?_) _ rfl
        rw [h3, hns]
        exact kroots_ok V (hT.next hb) k P.old P.size sa sc da db 0 dc P.D hF.p.rd hF.p.cD h1 _ (jn_dgK (clk_le k) (kb_row h1.1.2.2.1 h1.1.2.1) hD32) _ _ rfl rfl
      · unfold kinD at h
        split at h
        · rename_i hh
          obtain ⟨_, ⟨a1, a2⟩, b1, b2⟩ := hh
          subst a1 b1
          exact ⟨P, k1, k2, hd, hk, h3, rfl, rfl, hns, h1, a2, b2⟩
        · cases h
    · refine ⟨150, fun W hT => ?_, fun h => absurd h (by decide)⟩
      exact kin_led W k k1 k2 o1 c1 o2 c2 s hs2 P hd hk 0 ⟨#[]⟩ 0 ⟨#[]⟩ 150 (fun V sa sb sc da db dc hb hF => kroots_no V P.kd k P.old P.size sa P.S.length sc da db 0 dc P.D hF.p.rd hD h1) _ (by rw [kinD, if_neg (fun h => absurd h.1 (by decide))])
  · exact ⟨tkE k s, fun W _ => kin_no W k o1 c1 o2 c2 s hs2 _ rfl h0, fun h => absurd h h0⟩
end Go.Proofs.YtdocjikpcbmcgaaGreatDoor
namespace Go.Proofs.YtdocjikpcbmcgaaGreatDoor
open Pl (pw pw_succ pw_pos pw_zero)
open Cv (Row All Til But)
theorem row_has {q i : Nat} : ∀ {L : List (Nat × Nat)} {p : Nat}, Row q p L → p ≤ i → i < q → ∃ b ∈ L, i / 2 ^ b.1 = b.2
  | [], p, h, h1, h2 => by have h : p = q := h; omega
  | m :: L, p, h, h1, h2 => by
    by_cases hi : i < (m.2 + 1) * pw m.1
    · exact ⟨m, List.mem_cons_self .., in_div.2 ⟨by have := h.1; omega, hi⟩⟩
    · obtain ⟨b, hb, e⟩ := row_has h.2.2.2 (by omega) h2
      exact ⟨b, List.mem_cons_of_mem _ hb, e⟩
theorem row_fit {q : Nat} : ∀ {L : List (Nat × Nat)} {p : Nat}, Row q p L → ∀ b ∈ L, b.1 ≤ 40 ∧ b.2 < 2 ^ 40
  | [], _, _, b, hb => by cases hb
  | m :: L, p, h, b, hb => by
    rcases List.mem_cons.1 hb with rfl | hb
    · refine ⟨h.2.1, Nat.lt_of_lt_of_le h.2.2.1 (Nat.pow_le_pow_right (by decide) (by omega))⟩
    · exact row_fit h.2.2.2 b hb
theorem dn_top {n : Nat} (hn : n ≤ 2 ^ 40) {m b : Nat × Nat} (hm : m ∈ Cv.dnL 41 0 n) (hb : (b.2 + 1) * 2 ^ b.1 ≤ n) {i : Nat} (e1 : i / 2 ^ m.1 = m.2) (e2 : i / 2 ^ b.1 = b.2) : b.1 ≤ m.1 := by
  apply Classical.byContradiction
  intro hlt
  have ht := Cv.cov_til 0 n (Nat.zero_le _) hn
  rw [Cv.cov_zero n hn] at ht
  refine (Cv.til_mem ht m hm).1 fun x h1 h2 => ?_
  have hx : x / 2 ^ (m.1 + 1) = m.2 / 2 := in_div.2 ⟨h1, h2⟩
  have hi : i / 2 ^ (m.1 + 1) = m.2 / 2 := by rw [up_item (show m.1 ≤ m.1 + 1 by omega), e1, show m.1 + 1 - m.1 = 1 by omega, Nat.pow_one]
  have hxb : x / 2 ^ b.1 = b.2 := by
    rw [up_item (show m.1 + 1 ≤ b.1 by omega), hx, ← hi, ← up_item (show m.1 + 1 ≤ b.1 by omega)]; exact e2
  have := (in_div.1 hxb).2
  unfold pw at this
  exact ⟨Nat.zero_le _, by omega⟩
section
variable {k : Int} {n : Nat} {l : List (Nat × ByteArray)} {D : List ByteArray}
end
end Go.Proofs.YtdocjikpcbmcgaaGreatDoor
namespace Go.Proofs.YtdocjikpcbmcgaaGreatDoor
open Pl (pw pw_succ pw_pos pw_zero)
open Cv (Row All Til But cov)
section
variable {n i H : Nat} {A B : List (Nat × Nat)}
end
section
variable {n i H : Nat} {A B : List (Nat × Nat)}
end
section
variable {k : Int} {m n : Nat} {D : List ByteArray}
theorem kin_tl (c : Nat) (hm : m ≤ n) (hn : n ≤ 2 ^ 40) (hD : D.length = (kb m n).length) : ∀ h x, (x + 1) * 2 ^ h ≤ n → (∀ b ∈ kb m n, ∀ i, i / 2 ^ h = x → i / 2 ^ b.1 = b.2 → b.1 ≤ h) → Tl c ((kb m n).zip D) h x (dgK c (kb m n) D h x) := by
  have hr := kb_row hm hn
  have hin : ∀ h x, (h, x) ∈ kb m n → ((h, x), dgK c (kb m n) D h x) ∈ (kb m n).zip D := fun h x hb => by
    obtain ⟨j, hj, e⟩ := List.getElem_of_mem hb
    have e' : (kb m n).getD j (0, 0) = (h, x) := by rw [List.getD_eq_getElem?_getD, List.getElem?_eq_getElem hj]; exact e
    have h1 := zip_mem hD hj
    have h2 := dgK_at (c := c) (D := D) hr hj
    rw [e'] at h1 h2
    rw [h2]; exact h1
  intro h
  induction h with
  | zero =>
    intro x hx hb
    by_cases hin' : (0, x) ∈ kb m n
    · exact hin 0 x hin'
    · exfalso
      rw [Nat.pow_zero, Nat.mul_one] at hx
      obtain ⟨b, hbm, e⟩ := row_has hr (Nat.zero_le x) (by omega)
      have h0 := hb b hbm x (by rw [Nat.pow_zero, Nat.div_one]) e
      have h1 : b.1 = 0 := by omega
      rw [h1, Nat.pow_zero, Nat.div_one] at e
      exact hin' (by rw [e, ← h1]; exact hbm)
  | succ h ih =>
    intro x hx hb
    by_cases hin' : (h + 1, x) ∈ kb m n
    · exact .inl (hin (h + 1) x hin')
    · obtain ⟨i1, i2⟩ := half_in hx
      rw [dgK_node hin']
      have low : ∀ y, y / 2 = x → ∀ b ∈ kb m n, ∀ i, i / 2 ^ h = y → i / 2 ^ b.1 = b.2 → b.1 ≤ h := fun y hy b hbm i e1 e2 => by
        have e3 : i / 2 ^ (h + 1) = x := by rw [← half_next, e1, hy]
        have h1 := hb b hbm i e3 e2
        by_cases h2 : b.1 = h + 1
        · rw [h2, e3] at e2
          exact absurd (show (h + 1, x) ∈ kb m n by rw [e2, ← h2]; exact hbm) hin'
        · omega
      refine .inr ⟨fun u hu => ?_, _, _, ih _ i1 (low _ (by omega)), ih _ i2 (low _ (by omega)), rfl⟩
      obtain ⟨j, hj, e⟩ := mem_zip hD hu
      injection e with e _
      exact hin' (by rw [e]; exact mem_getD hj)
theorem tre_kin (hok : okK 3 k m n 0 D) (V : Nat → ByteArray) : Tre (clk k) n (kb m n) D V (fun _ => False) ((kb m n).zip D) (dgF (dgK (clk k) (kb m n) D) (cov 0 n)) := by
  obtain ⟨⟨⟨_, hk⟩, hn, hm, _⟩, hf⟩ := hok
  have hr := kb_row hm hn
  have hck : (clk k : Int) = k := clk_of hk.1 hk.2
  have hD : D.length = (kb m n).length := hf.1
  have hnd := row_nodup hr
  have hin := dn_in n hn
  refine tre_of hnd (row_fit hr) hD (fun d hd => by have := hf.2 d hd; omega) (fun e he e' he' heq => ?_) (fun e he => .inl he) (fun e he => he) ?_ (fun j hj => ?_)
  · obtain ⟨a, ha, rfl⟩ := mem_zip hD he
    obtain ⟨b, hb, rfl⟩ := mem_zip hD he'
    have heq : (kb m n).getD a (0, 0) = (kb m n).getD b (0, 0) := heq
    rw [List.getD_eq_getElem?_getD, List.getElem?_eq_getElem ha, List.getD_eq_getElem?_getD, List.getElem?_eq_getElem hb] at heq
    obtain rfl := nodup_ix hnd ha hb heq
    rfl
  · rw [dgF, List.length_map, Cv.cov_zero n hn]
  · have hmm : (Cv.dnL 41 0 n).getD j (0, 0) ∈ Cv.dnL 41 0 n := mem_getD hj
    have e : (dgF (dgK (clk k) (kb m n) D) (cov 0 n)).getD j ByteArray.empty = dgK (clk k) (kb m n) D ((Cv.dnL 41 0 n).getD j (0, 0)).1 ((Cv.dnL 41 0 n).getD j (0, 0)).2 := by
      rw [dgF, Cv.cov_zero n hn, List.getD_eq_getElem?_getD, List.getElem?_map, List.getElem?_eq_getElem hj, List.getD_eq_getElem?_getD, List.getElem?_eq_getElem hj]
      rfl
    rw [e]
    refine kin_tl (clk k) hm hn hD _ _ (hin _ hmm) fun b hb i e1 e2 => ?_
    have hbn := (row_from hr b hb).2
    unfold pw at hbn
    exact dn_top hn hmm hbn e1 e2
theorem kin_free (hm : m ≤ n) (hn : n ≤ 2 ^ 40) {b : Nat × Nat} (hb : b ∈ kb m n) {t : Nat} (ht : b.1 < t) : ixM (kb m n) t (b.2 / 2 ^ (t - b.1)) = none := ixM_none.2 fun hx => by
  have hi : (b.2 * 2 ^ b.1) / 2 ^ b.1 = b.2 := Nat.mul_div_cancel _ (Nat.two_pow_pos _)
  have := row_one (kb_row hm hn) _ hx _ hb (b.2 * 2 ^ b.1) (by rw [up_item (show b.1 ≤ t by omega), hi]) hi
  rw [← this] at ht
  exact absurd ht (Nat.lt_irrefl _)
end
end Go.Proofs.YtdocjikpcbmcgaaGreatDoor
namespace Go.Proofs.YtdocjikpcbmcgaaGreatDoor
open Go.RowKit
open Cv (zl cov)
attribute [local go_sem ↓] Go.wp_at_zero Go.wp_at_succ
set_option maxRecDepth 100000 in
set_option maxHeartbeats 1000000 in
theorem bo_kin (w : World) (k : Int) (m n : Nat) (hm : m ≤ n) (hn : n ≤ 2 ^ 40) (vs vd : Value) :
    Calls Tryz.prog 60 #[vP 3 k m n vs vd] w fun e w' => ∃ v, e = .returned v ∧ Cv.OwnB w' w.heap.size v (zl (kb m n)) ∧ Below w.heap.size w w' := by
  obtain ⟨F, hFe, h6, hb, _⟩ := box6 w (.int .i64 3) (.int .i64 k) (.int .u64 (m : Int)) (.int .u64 (n : Int)) vs vd
  have HM : Hid (∀ W, Calls Tryz.prog 75 #[.int .u64 (m : Int)] W fun e w' => ∃ ao n1 cap, e = .returned (.tuple #[.slice ao n1 cap, .int .i64 0]) ∧ Cv.OwnB w' W.heap.size (.slice ao n1 cap) (zl (cov 0 m)) ∧ Below W.heap.size W w') := fun W => by
    have h := Cv.mountains_any m W
    rw [(range40 (Nat.zero_le _) (by omega)).1, (range40 (Nat.zero_le _) (by omega)).2] at h
    refine h.mono fun e w' ⟨v, e1, e2, e3⟩ => ?_
    obtain ⟨ao, n1, cap, rfl⟩ := Cv.own_slice e2
    exact ⟨ao, n1, cap, e1, e2, e3⟩
  have HR : Hid (∀ W, Calls Tryz.prog 110 #[.int .u64 (m : Int), .int .u64 (n : Int), .int .u64 (n : Int)] W fun e w' => ∃ ao n1 cap, e = .returned (.tuple #[.slice ao n1 cap, .int .i64 0]) ∧ Cv.OwnB w' W.heap.size (.slice ao n1 cap) (zl (cov m n)) ∧ Below W.heap.size W w') := fun W => by
    have h := Cv.range_any m n n W
    rw [(range40 hm hn).1, (range40 hm hn).2] at h
    refine h.mono fun e w' ⟨v, e1, e2, e3⟩ => ?_
    obtain ⟨ao, n1, cap, rfl⟩ := Cv.own_slice e2
    exact ⟨ao, n1, cap, e1, e2, e3⟩
  have hl := kb_len hm hn
  rw [kb, List.length_append] at hl
  have HX : Hid (∀ W, Below F.heap.size F W → W.cell? ⟨w.heap.size, 2, none⟩ = some (.int .u64 (m : Int)) ∧ W.cell? ⟨w.heap.size, 3, none⟩ = some (.int .u64 (n : Int))) := fun W hb => ⟨(h6.next hb).cells.2.2.1, (h6.next hb).cells.2.2.2.1⟩
  obtain ⟨c0, c1, c2, c3, c4, c5⟩ := h6.cells
  unfold vP kb
  clear hm hn h6
  go_enter Tryz.func60, Tryz.ntmps60
  go_upto_region 1 with (fail)
  try rw [hFe]
  clear hFe
  go_wp2_with (first
    | (go_at_call 75; with_reducible refine (HM.out _).mono ?_; rintro e w1 ⟨a1, n1, c1, rfl, h1, hb1⟩; obtain ⟨k2, k3⟩ := HX.out _ hb1)
    | (go_at_call 110; with_reducible refine (HR.out _).mono ?_; rintro e w2 ⟨a2, n2, c2, rfl, h2, hb2⟩)
    | (go_at_call 111; with_reducible refine (cat_blocks w2 w.heap.size _ _ _ _ (World.ownsRow.mono (row_nextJ h1 hb2) hb.size) (World.ownsRow.mono h2 (bnext hb hb1).size) (by omega) _).mono ?_; rintro e w3 ⟨v, rfl, h3, hb3⟩))
  obtain ⟨a3, n3, c3, rfl⟩ := Cv.own_slice h3
  go_ret
  exact ⟨_, rfl, World.ownsRow.mono h3 (bnext (bnext hb hb1) hb2).size, bnext (bnext (bnext hb hb1) hb2) hb3⟩
end Go.Proofs.YtdocjikpcbmcgaaGreatDoor
namespace Go.Proofs.YtdocjikpcbmcgaaGreatDoor
open Go.RowKit
attribute [local go_sem ↓] Go.wp_at_zero Go.wp_at_succ
set_option maxRecDepth 100000 in
set_option maxHeartbeats 1000000 in
theorem equal_any (w : World) (pa : Option Addr) (pb po pc : Nat) (P : List ByteArray) (hP : RdS w pa pb po P.length P) (qa : Option Addr) (qb qo qc : Nat) (Q : List ByteArray) (hQ : RdS w qa qb qo P.length Q) (hm : P.length ≤ 1099511627776) (r : Bool) (hq : decide (P = Q) = r) :
    Calls Tryz.prog 67 #[.slice pa P.length pc, .slice qa P.length qc] w fun e w' => e = .returned (.bool r) ∧ Below w.heap.size w w' := by
  have HC : Hid (∀ W, Below w.heap.size w W → RdS W pa pb po P.length P ∧ RdS W qa qb qo P.length Q) := fun W hb => ⟨hP.next hb (Nat.le_refl _), hQ.next hb (Nat.le_refl _)⟩
  have z1 : (P.length : Int) ≤ 1099511627776 := by omega
  have HL := hide hQ.hl
  have HQ := hide hq
  clear hP hQ hm hq
  go_enter Tryz.func67, Tryz.ntmps67
  go_wp2
  go_loopg [13] P.length (fun g i wr => ∃ j : Nat, j ≤ P.length ∧ g = P.length - j ∧ i = .int .i64 (j : Int) ∧ Hid (∀ t, t < j → P.getD t ByteArray.empty = Q.getD t ByteArray.empty) ∧ Hid (Below w.heap.size w wr))
  case atStart =>
    go_light
    exact ⟨0, Nat.zero_le _, rfl, rfl, fun t ht => absurd ht (Nat.not_lt_zero _), Below.refl _ _⟩
  case round =>
    obtain ⟨j, hj, rfl, rfl, HAl, HBw⟩ := hrel
    by_cases hlt : j < P.length
    · have y0 : (0 : Int) ≤ (j : Int) := Int.natCast_nonneg _
      have y1 : (j : Int) < (P.length : Int) := by omega
      obtain ⟨hp, hs⟩ := HC.out wr HBw.out
      obtain rfl := hp.ptr (by omega)
      obtain rfl := hs.ptr (by omega)
      have ci := hp.at hlt
      have cj := hs.at hlt
      obtain ⟨x, hx⟩ : ∃ x, P.getD j ByteArray.empty = x := ⟨_, rfl⟩
      obtain ⟨y, hy⟩ : ∃ y, Q.getD j ByteArray.empty = y := ⟨_, rfl⟩
      rw [hx] at ci
      rw [hy] at cj
      have HW1 : Hid (∀ t, Below w.heap.size w (wr.drewN t)) := fun t => below_drewN HBw.out t
      by_cases he : x = y
      · subst he
        have HN : Hid (∀ t, t < j + 1 → P.getD t ByteArray.empty = Q.getD t ByteArray.empty) := fun t ht => by
          rcases Nat.lt_or_eq_of_le (Nat.le_of_lt_succ ht) with h | rfl
          · exact HAl.out t h
          · rw [hx, hy]
        clear hp hs hx hy HAl
        go_upto_region 6 with (fail)
        go_quiet (fail)
        go_wp2
        go_roundg (P.length - (j + 1))
        case rel =>
          go_light
          exact ⟨j + 1, by omega, rfl, by go_num, HN, HW1.out _⟩
        case measure => go_light; omega
      · have hzb := list_beq he
        have hz := list_ne he
        obtain rfl : false = r := by
          rw [← HQ.out]
          refine (decide_eq_false fun h => he ?_).symm
          rw [← hx, ← hy, h]
        clear hp hs hx hy HAl he
        go_upto_region 6 with (fail)
        go_quiet (fail)
        go_wp2
        go_ret
        exact ⟨rfl, HW1.out _⟩
    · obtain rfl : j = P.length := by omega
      have hz : ¬ (P.length : Int) < (P.length : Int) := by omega
      obtain rfl : true = r := by
        rw [← HQ.out]
        refine (decide_eq_true (List.ext_getElem HL.out.symm fun t h1 h2 => ?_)).symm
        have := HAl.out t h1
        rwa [List.getD_eq_getElem?_getD, List.getElem?_eq_getElem h1, List.getD_eq_getElem?_getD, List.getElem?_eq_getElem h2] at this
      have hB := HBw.out
      clear hlt hj
      go_wp2
      go_ret
      exact ⟨rfl, hB⟩
set_option maxRecDepth 100000 in
set_option maxHeartbeats 1000000 in
theorem begins_any (w : World) (pa : Option Addr) (pb po pc : Nat) (P : List ByteArray) (hP : RdS w pa pb po P.length P) (qa : Option Addr) (qb qo qc : Nat) (Q : List ByteArray) (hQ : RdS w qa qb qo Q.length Q) (hqc : Q.length ≤ qc) (hPQ : P.length ≤ Q.length) (hm : Q.length ≤ 1099511627776) (r : Bool) (hq : decide (P = Q.take P.length) = r) :
    Calls Tryz.prog 32 #[.slice pa P.length pc, .slice qa Q.length qc] w fun e w' => e = .returned (.bool r) ∧ Below w.heap.size w w' := by
  have ht := rds_take hQ hPQ
  rw [List.length_take, Nat.min_eq_left hPQ] at ht
  have HE : Hid (∀ c, Calls Tryz.prog 67 #[.slice pa P.length pc, .slice qa P.length c] w fun e w' => e = .returned (.bool r) ∧ Below w.heap.size w w') := fun c => equal_any w pa pb po pc P hP qa qb qo c (Q.take P.length) ht (by omega) r hq
  have z1 : (P.length : Int) ≤ (Q.length : Int) := by omega
  have z2 : (Q.length : Int) ≤ (qc : Int) := by omega
  have z3 : (P.length : Int) ≤ (qc : Int) := by omega
  have z4 : (P.length : Int) ≤ 1099511627776 := by omega
  clear hP hQ hqc hPQ hm hq ht
  go_enter Tryz.func32, Tryz.ntmps32
  go_wp2_with (go_at_call 67; with_reducible refine (HE.out _).mono ?_; rintro e w1 ⟨rfl, hb1⟩)
  go_ret
  exact ⟨rfl, hb1⟩
end Go.Proofs.YtdocjikpcbmcgaaGreatDoor
