/-
  TCompR, TProves, TProvesR in one text. Own work.
-/
import Derived.Test.YtgmnolepaidiiaaDoorTComp
import Derived.OpenShut
import Derived.Test.YtgmnolepaidiiaaDoorTPrvA
import Derived.Test.YtgmnolepaidiiaaDoorTRefS
/-
  PathComplete, as its row asks. Own work.
-/
namespace Go.Proofs.YtgmnolepaidiiaaDoor
open Go.RowKit
theorem u64_nat {a : Int} (wf : (Lit.int .u64 a).wf = true) : ∃ n : Nat, a = (n : Int) ∧ n < 18446744073709551616 := by
  have := bounds_u64 wf
  exact ⟨a.toNat, by omega, by omega⟩
theorem complete_row (w : World) (ht : Tb w) (hr : Tr w) (k : Int) (ao : Option Addr) (b off len cap : Nat) (L : List ByteArray) (rd : RdS w ao b off len L) (hm : len ≤ 8796093021952) (a : Int) (wf : (Lit.int .u64 a).wf = true) (s : ByteArray) (hs : s.size ≤ 140737488351232) :
    Calls Tryd.prog 4 #[.int .i64 k, .slice ao len cap, .int .u64 a, .string s] w fun e w' => e = .returned (.bool true) ∧ Below w.heap.size w w' := by
  obtain ⟨n, rfl, hn⟩ := u64_nat wf
  exact complete_walk w ht hr k ao b off len cap L rd (by omega) n hn s (by omega)
end Go.Proofs.YtgmnolepaidiiaaDoor
/-
  PathProves walked. Own work.
-/
namespace Go.Proofs.YtgmnolepaidiiaaDoor
open Go.RowKit
open Cv (RdC cU)
attribute [local go_sem ↓] Go.wp_at_zero Go.wp_at_succ
/-- Asks that can be read. -/
structure RdA (w : World) (ao : Option Addr) (b off n : Nat) (l : List (Nat × Nat)) : Prop where
  addr : 0 < n → ao = some ⟨b, off, none⟩
  c0 : ∀ j, j < n → w.cell? ⟨b, off + j * 2, none⟩ = some (.int .u64 ((l.getD j (0, 0)).1 : Nat))
  c1 : ∀ j, j < n → w.cell? ⟨b, off + j * 2 + 1, none⟩ = some (.int .u64 ((l.getD j (0, 0)).2 : Nat))
theorem RdA.next {w w' : World} {ao : Option Addr} {b off n : Nat} {l : List (Nat × Nat)} (r : RdA w ao b off n l) (h : Below w.heap.size w w') : RdA w' ao b off n l :=
  ⟨r.addr, fun j hj => (h.cell (p := ⟨b, off + j * 2, none⟩) (World.block_lt_of_cell? w _ (r.c0 j hj))).trans (r.c0 j hj), fun j hj => (h.cell (p := ⟨b, off + j * 2 + 1, none⟩) (World.block_lt_of_cell? w _ (r.c1 j hj))).trans (r.c1 j hj)⟩
theorem PL.same {w : World} {S : List Nat} {D : List ByteArray} {sa da sa' da' : Option Addr} (h : PL w S D sa da) (h' : PL w S D sa' da') (kd k : Int) (size : Nat) (sc dc sc' dc' : Nat) (hS : S.length ≤ 1) (hD : D.length ≤ 14) :
    Calls Tryd.prog 11 #[.agg #[.int .i64 kd, .int .i64 k, .int .u64 0, .int .u64 (size : Int), .slice sa S.length sc, .slice da D.length dc], .agg #[.int .i64 kd, .int .i64 k, .int .u64 0, .int .u64 (size : Int), .slice sa' S.length sc', .slice da' D.length dc']] w fun e w' => e = .returned (.bool true) ∧ Below w.heap.size w w' := by
  obtain ⟨sb, db, u1, d1⟩ := h
  obtain ⟨sb', db', u2, d2⟩ := h'
  exact refsame_yes w kd k 0 size sa sb 0 sc sa' sb' 0 sc' S u1 u2 (by omega) da db 0 dc da' db' 0 dc' D d1 d2 (by omega)
set_option maxRecDepth 100000 in
set_option maxHeartbeats 4000000 in
theorem proves_walk (w : World) (ht : Tb w) (hr : Tr w) (k : Int) (ao : Option Addr) (b off len cap : Nat) (L : List ByteArray) (rd : RdS w ao b off len L) (hm : len ≤ 8796093022208) (qa : Option Addr) (qb qo qn qc : Nat) (ql : List (Nat × Nat)) (rq : RdA w qa qb qo qn ql) (hq : qn ≤ 9223372036854775807) :
    Calls Tryd.prog 5 #[.int .i64 k, .slice ao len cap, .slice qa qn qc] w fun e w' => e = .returned (.bool true) ∧ Below w.heap.size w w' := by
  obtain ⟨K, hK⟩ : ∃ K, stg k = K := ⟨_, rfl⟩
  have hK1 : 1 ≤ K ∧ K ≤ 32 := by rw [← hK]; exact stg_in k
  obtain ⟨T, hT⟩ : ∃ T, lst L = T := ⟨_, rfl⟩
  have hTl : T.length ≤ 80 := by rw [← hT]; exact lst_len L
  have hTs : ∀ s ∈ T, s.size ≤ 2000 := by rw [← hT]; exact lst_size L
  have HFx := fixed_any w ht hr
  have HSt : Hid (∀ W, Calls Tryd.prog 12 #[.int .i64 k] W fun e w' => e = .returned (.int .i64 K) ∧ W = w') := fun W => strength_any W k K hK
  have HLi : Hid (∀ W, Below w.heap.size w W → Calls Tryd.prog 13 #[.slice ao len cap] W fun e w' => ∃ al bl cl, e = .returned (.slice al T.length cl) ∧ RdS w' al bl 0 T.length T ∧ Below W.heap.size W w') := fun W hb => list_rd W ao b off len cap L (rd.next hb (Nat.le_refl _)) hm T hT
  have HWd : Hid (∀ W al bl cl, Below w.heap.size w W → RdS W al bl 0 T.length T → Calls Tryd.prog 14 #[.int .i64 K, .slice al T.length cl] W fun e w' => e = .returned (.pointer (some ⟨W.heap.size + 1, 0, none⟩)) ∧ Frs w' W.heap.size K T ∧ Below W.heap.size W w') := fun W al bl cl hb hr => wood_any W (ht.next hb) K hK1.1 hK1.2 al bl 0 T.length cl T hr hTl hTs
  have HT : Hid (∀ W, Below w.heap.size w W → Tr W ∧ RdA W qa qb qo qn ql) := fun W hb => ⟨hr.next hb, rq.next hb⟩
  have HX : Hid (T.length ≤ 80 ∧ (∀ s ∈ T, s.size ≤ 2000) ∧ 1 ≤ K ∧ K ≤ 32) := ⟨hTl, hTs, hK1⟩
  have hq63 : (qn : Int) ≤ 9223372036854775807 := by omega
  clear ht hr rd hm hK hT hTs hTl hK1 rq hq
  go_enter Tryd.func5, Tryd.ntmps5
  go_upto_region 8 with (first
    | (go_at_call 7; with_reducible refine HFx.mono ?_; rintro e w1 ⟨rfl, hb1⟩)
    | (go_at_call 12; with_reducible refine (HSt.out _).mono ?_; rintro e ws ⟨rfl, rfl⟩)
    | (go_at_call 13; with_reducible refine (HLi.out _ hb1).mono ?_; rintro e w2 ⟨al, bl, cl, rfl, r2, hb2⟩)
    | (go_at_call 14; with_reducible refine (HWd.out _ _ _ _ (bnext hb1 hb2) r2).mono ?_; rintro e w3 ⟨rfl, hF3, hb3⟩))
  have hb03 := bnext (bnext hb1 hb2) hb3
  have HS : Hid (∀ W, Below w3.heap.size w3 W → Frs W w2.heap.size K T ∧ RdS W al bl 0 T.length T ∧ Tr W ∧ RdA W qa qb qo qn ql) := fun W hW => ⟨hF3.next hW (Nat.le_refl _), r2.next (bnext hb3 hW) (Nat.le_refl _), (HT.out W (bnext hb03 hW)).1, (HT.out W (bnext hb03 hW)).2⟩
  have HB3 := hide hb03
  generalize w2.heap.size = m at *
  clear hF3 r2 hb1 hb2 hb3 HFx HSt HLi HWd HT hb03
  go_wp2
  go_loopg [9, 10] 12 (fun gh v9 ii wr => ∃ i : Nat, i ≤ 12 ∧ gh = 12 - i ∧ ii = .int .i64 (i : Int) ∧ Hid (i ≤ qn ∧ (∃ sv dv, GA w3 wr (2 * i) (2 * i) v9 sv dv)))
  case atStart =>
    go_light
    exact ⟨0, by omega, rfl, rfl, Nat.zero_le _, _, _, GA.start (Below.refl _ _) (fun _ => .slice none 0 0)⟩
  case round =>
    obtain ⟨i, hi, rfl, rfl, HI⟩ := hrel
    by_cases hlt : i < qn ∧ i < 12
    · have h1z : (i : Int) < (qn : Int) := by omega
      have h2z : (i : Int) < 12 := by omega
      have h0z : (0 : Int) ≤ (i : Int) := Int.natCast_nonneg _
      obtain ⟨sv, dv, hG⟩ := HI.out.2
      have hb := hG.below
      obtain ⟨N, hN⟩ : ∃ N, (ql.getD i (0, 0)).1 = N := ⟨_, rfl⟩
      obtain ⟨I, hIq⟩ : ∃ I, (ql.getD i (0, 0)).2 = I := ⟨_, rfl⟩
      have HQc : Hid (∀ W, Below w3.heap.size w3 W → W.cell? ⟨qb, qo + i * 2, none⟩ = some (.int .u64 (N : Int)) ∧ W.cell? ⟨qb, qo + i * 2 + 1, none⟩ = some (.int .u64 (I : Int))) := fun W hW => by
        have := (HS.out W hW).2.2.2
        exact ⟨by rw [← hN]; exact this.c0 i hlt.1, by rw [← hIq]; exact this.c1 i hlt.1⟩
      obtain rfl := (HS.out wr hb).2.2.2.addr (by omega)
      obtain ⟨kd, kk, nn, e0, S, D, hS1, hD14, hDs, hP, hR⟩ := both K HX.out.2.2 T HX.out.1 HX.out.2.1 m N I
      have HP : Hid (∀ W, Below w3.heap.size w3 W → Calls Tryd.prog 16 #[.pointer (some ⟨m + 1, 0, none⟩), .int .u64 (N : Int), .int .u64 (I : Int)] W fun e w' => ∃ sa sc da dc, e = .returned (.tuple #[.agg #[.int .i64 kd, .int .i64 kk, .int .u64 0, .int .u64 (nn : Int), .slice sa S.length sc, .slice da D.length dc], .int .i64 e0]) ∧ PO w' W.heap.size S D (.slice sa S.length sc) (.slice da D.length dc) ∧ Below W.heap.size W w') := fun W hW => hP W (HS.out W hW).1
      have HR : Hid (∀ W, Below w3.heap.size w3 W → Calls Tryd.prog 20 #[.int .i64 K, .slice al T.length cl, .int .u64 (N : Int), .int .u64 (I : Int)] W fun e w' => ∃ sa sc da dc, e = .returned (.tuple #[.agg #[.int .i64 kd, .int .i64 kk, .int .u64 0, .int .u64 (nn : Int), .slice sa S.length sc, .slice da D.length dc], .int .i64 e0]) ∧ PL w' S D sa da ∧ Below W.heap.size W w') := fun W hW => hR W al bl cl (HS.out W hW).2.2.1 (HS.out W hW).2.1
      have HE : Hid (S.length ≤ 1 ∧ D.length ≤ 14 ∧ (∀ s ∈ D, s.size ≤ 9223372036854775807) ∧ i < qn ∧ i < 12) := ⟨hS1, hD14, hDs, hlt⟩
      have HG := hide hG
      clear hP hR hN hIq hS1 hD14 hDs hlt HI hi hG HS HX
      go_upto_region 12 with (fail)
      go_cut [11, 12] from 38 to 53 (fun p e wx => e = .int .i64 e0 ∧ ∃ q sa sc da dc, p = .pointer (some ⟨q, 0, none⟩) ∧ Six wx q (.int .i64 kd) (.int .i64 kk) (.int .u64 0) (.int .u64 (nn : Int)) (.slice sa S.length sc) (.slice da D.length dc) ∧ PL wx S D sa da ∧ Below wr.heap.size wr wx)
      case first =>
        have hd := (Below.refl wr.heap.size wr).drew
        have hda := (bal (Below.refl wr.heap.size wr) (.cells #[.int .i64 0, .int .i64 0, .int .u64 0, .int .u64 0, .slice none 0 0, .slice none 0 0] 26)).drew
        have hdb := bal (Below.refl wr.heap.size wr) (.cells #[.int .i64 0, .int .i64 0, .int .u64 0, .int .u64 0, .slice none 0 0, .slice none 0 0] 26)
        obtain ⟨c0, c1⟩ := HQc.out _ (bnext hb hd)
        obtain ⟨c0a, c1a⟩ := HQc.out _ (bnext hb hda)
        obtain ⟨c0b, c1b⟩ := HQc.out _ (bnext hb hdb)
        have HZ : Hid (∀ W, Below (wr.alloc (.cells #[.int .i64 0, .int .i64 0, .int .u64 0, .int .u64 0, .slice none 0 0, .slice none 0 0] 26)).drew.heap.size (wr.alloc (.cells #[.int .i64 0, .int .i64 0, .int .u64 0, .int .u64 0, .slice none 0 0, .slice none 0 0] 26)).drew W → Six W wr.heap.size (.int .i64 0) (.int .i64 0) (.int .u64 0) (.int .u64 0) (.slice none 0 0) (.slice none 0 0)) := fun W hW => ((six_new wr _ _ _ _ _ _).drew).next hW
        have hzs : (wr.alloc (.cells #[.int .i64 0, .int .i64 0, .int .u64 0, .int .u64 0, .slice none 0 0, .slice none 0 0] 26)).drew.heap.size = wr.heap.size + 1 := by simp
        go_region_with (go_at_call 20; first
          | (with_reducible refine (HR.out _ (bnext hb hd)).mono ?_; rintro e w9 ⟨sa, sc, da, dc, rfl, hpl, hb9⟩)
          | (with_reducible refine (HR.out _ (bnext hb hda)).mono ?_; rintro e w9 ⟨sa, sc, da, dc, rfl, hpl, hb9⟩; have h6 := HZ.out _ hb9; obtain ⟨z0, z1, z2, z3, z4, z5⟩ := h6.cells; have fz := h6.fz))
        all_goals
          go_wp2
          go_meet
          case rel =>
            go_light
            first
              | exact ⟨rfl, wr.heap.size, sa, sc, da, dc, rfl, h6.put _ _ _ _ _ _, hpl.put z0 (put6_ch w9 wr.heap.size _ _ _ _ _ _), (bnext hda hb9).trans ((put6_ch w9 wr.heap.size _ _ _ _ _ _).below (by rintro b rfl; exact Nat.le_refl _))⟩
              | exact ⟨rfl, w9.heap.size, sa, sc, da, dc, rfl, six_new w9 _ _ _ _ _ _, hpl.next (bal (Below.refl _ _) _), bal (bnext hd hb9) _⟩
      case rest =>
        obtain ⟨rfl, q1, sa1, sc1, da1, dc1, rfl, s1, p1, hb1⟩ := hcut
        obtain ⟨w4, hw4⟩ : ∃ w4, w4 = wc := ⟨_, rfl⟩
        subst hw4
        have hb4 := bnext hb hb1
        have HG4 := hide (HG.out.next hb1)
        have HS1 := hide (And.intro s1 p1)
        clear HG HR hb1 s1 p1 hb
        go_upto_region 13 with (fail)
        go_cut [13, 14] from 54 to 68 (fun p e wx => e = .int .i64 e0 ∧ ∃ q sa sc da dc, p = .pointer (some ⟨q, 0, none⟩) ∧ Six wx q (.int .i64 kd) (.int .i64 kk) (.int .u64 0) (.int .u64 (nn : Int)) (.slice sa S.length sc) (.slice da D.length dc) ∧ PO wx w4.heap.size S D (.slice sa S.length sc) (.slice da D.length dc) ∧ Below w4.heap.size w4 wx)
        case first =>
          have hd := (Below.refl w4.heap.size w4).drew
          have hda := (bal (Below.refl w4.heap.size w4) (.cells #[.int .i64 0, .int .i64 0, .int .u64 0, .int .u64 0, .slice none 0 0, .slice none 0 0] 26)).drew
          have hdb := bal (Below.refl w4.heap.size w4) (.cells #[.int .i64 0, .int .i64 0, .int .u64 0, .int .u64 0, .slice none 0 0, .slice none 0 0] 26)
          obtain ⟨c0, c1⟩ := HQc.out _ (bnext hb4 hd)
          obtain ⟨c0a, c1a⟩ := HQc.out _ (bnext hb4 hda)
          obtain ⟨c0b, c1b⟩ := HQc.out _ (bnext hb4 hdb)
          have HZ : Hid (∀ W, Below (w4.alloc (.cells #[.int .i64 0, .int .i64 0, .int .u64 0, .int .u64 0, .slice none 0 0, .slice none 0 0] 26)).drew.heap.size (w4.alloc (.cells #[.int .i64 0, .int .i64 0, .int .u64 0, .int .u64 0, .slice none 0 0, .slice none 0 0] 26)).drew W → Six W w4.heap.size (.int .i64 0) (.int .i64 0) (.int .u64 0) (.int .u64 0) (.slice none 0 0) (.slice none 0 0)) := fun W hW => ((six_new w4 _ _ _ _ _ _).drew).next hW
          have hzs : (w4.alloc (.cells #[.int .i64 0, .int .i64 0, .int .u64 0, .int .u64 0, .slice none 0 0, .slice none 0 0] 26)).drew.heap.size = w4.heap.size + 1 := by simp
          go_region_with (go_at_call 16; first
            | (with_reducible refine (HP.out _ (bnext hb4 hd)).mono ?_; rintro e w9 ⟨sa, sc, da, dc, rfl, hpl, hb9⟩)
            | (with_reducible refine (HP.out _ (bnext hb4 hda)).mono ?_; rintro e w9 ⟨sa, sc, da, dc, rfl, hpl, hb9⟩; have h6 := HZ.out _ hb9; obtain ⟨z0, z1, z2, z3, z4, z5⟩ := h6.cells; have fz := h6.fz))
          all_goals
            go_wp2
            go_meet
            case rel =>
              go_light
              first
                | exact ⟨rfl, w4.heap.size, sa, sc, da, dc, rfl, h6.put _ _ _ _ _ _, (hpl.put (put6_ch w9 w4.heap.size _ _ _ _ _ _) (by omega)).mono (by omega), (bnext hda hb9).trans ((put6_ch w9 w4.heap.size _ _ _ _ _ _).below (by rintro b rfl; exact Nat.le_refl _))⟩
                | exact ⟨rfl, w9.heap.size, sa, sc, da, dc, rfl, six_new w9 _ _ _ _ _ _, hpl.next (bal (Below.refl _ _) _), bal (bnext hd hb9) _⟩
        case rest =>
          obtain ⟨rfl, q2, sa2, sc2, da2, dc2, rfl, s2, p2, hb2⟩ := hcut
          obtain ⟨w5, hw5⟩ : ∃ w5, w5 = wc := ⟨_, rfl⟩
          subst hw5
          have hb5 := bnext hb4 hb2
          have HG5 := hide (HG4.out.piece hb2 p2 (by have := HE.out.1; omega) (by have := HE.out.2.1; omega))
          have HS2 := hide (And.intro s2 (And.intro p2 hb2))
          clear HG4 hb2 s2 p2 hb4
          go_upto_region 14 with (fail)
          go_cut [15, 16] from 69 to 83 (fun p e wx => e = .int .i64 e0 ∧ ∃ q sa sc da dc, p = .pointer (some ⟨q, 0, none⟩) ∧ Six wx q (.int .i64 kd) (.int .i64 kk) (.int .u64 0) (.int .u64 (nn : Int)) (.slice sa S.length sc) (.slice da D.length dc) ∧ PO wx w5.heap.size S D (.slice sa S.length sc) (.slice da D.length dc) ∧ Below w5.heap.size w5 wx)
          case first =>
            have hd := (Below.refl w5.heap.size w5).drew
            have hda := (bal (Below.refl w5.heap.size w5) (.cells #[.int .i64 0, .int .i64 0, .int .u64 0, .int .u64 0, .slice none 0 0, .slice none 0 0] 26)).drew
            have hdb := bal (Below.refl w5.heap.size w5) (.cells #[.int .i64 0, .int .i64 0, .int .u64 0, .int .u64 0, .slice none 0 0, .slice none 0 0] 26)
            obtain ⟨c0, c1⟩ := HQc.out _ (bnext hb5 hd)
            obtain ⟨c0a, c1a⟩ := HQc.out _ (bnext hb5 hda)
            obtain ⟨c0b, c1b⟩ := HQc.out _ (bnext hb5 hdb)
            have HZ : Hid (∀ W, Below (w5.alloc (.cells #[.int .i64 0, .int .i64 0, .int .u64 0, .int .u64 0, .slice none 0 0, .slice none 0 0] 26)).drew.heap.size (w5.alloc (.cells #[.int .i64 0, .int .i64 0, .int .u64 0, .int .u64 0, .slice none 0 0, .slice none 0 0] 26)).drew W → Six W w5.heap.size (.int .i64 0) (.int .i64 0) (.int .u64 0) (.int .u64 0) (.slice none 0 0) (.slice none 0 0)) := fun W hW => ((six_new w5 _ _ _ _ _ _).drew).next hW
            have hzs : (w5.alloc (.cells #[.int .i64 0, .int .i64 0, .int .u64 0, .int .u64 0, .slice none 0 0, .slice none 0 0] 26)).drew.heap.size = w5.heap.size + 1 := by simp
            go_region_with (go_at_call 16; first
              | (with_reducible refine (HP.out _ (bnext hb5 hd)).mono ?_; rintro e w9 ⟨sa, sc, da, dc, rfl, hpl, hb9⟩)
              | (with_reducible refine (HP.out _ (bnext hb5 hda)).mono ?_; rintro e w9 ⟨sa, sc, da, dc, rfl, hpl, hb9⟩; have h6 := HZ.out _ hb9; obtain ⟨z0, z1, z2, z3, z4, z5⟩ := h6.cells; have fz := h6.fz))
            all_goals
              go_wp2
              go_meet
              case rel =>
                go_light
                first
                  | exact ⟨rfl, w5.heap.size, sa, sc, da, dc, rfl, h6.put _ _ _ _ _ _, (hpl.put (put6_ch w9 w5.heap.size _ _ _ _ _ _) (by omega)).mono (by omega), (bnext hda hb9).trans ((put6_ch w9 w5.heap.size _ _ _ _ _ _).below (by rintro b rfl; exact Nat.le_refl _))⟩
                  | exact ⟨rfl, w9.heap.size, sa, sc, da, dc, rfl, six_new w9 _ _ _ _ _ _, hpl.next (bal (Below.refl _ _) _), bal (bnext hd hb9) _⟩
          case rest =>
            obtain ⟨rfl, q3, sa3, sc3, da3, dc3, rfl, s3, p3, hb3⟩ := hcut
            obtain ⟨w6, hw6⟩ : ∃ w6, w6 = wc := ⟨_, rfl⟩
            subst hw6
            have HG6 := hide (HG5.out.piece hb3 p3 (by have := HE.out.1; omega) (by have := HE.out.2.1; omega))
            have HC : Hid (∀ W, Below w6.heap.size w6 W → Six W q1 (.int .i64 kd) (.int .i64 kk) (.int .u64 0) (.int .u64 (nn : Int)) (.slice sa1 S.length sc1) (.slice da1 D.length dc1) ∧ Six W q2 (.int .i64 kd) (.int .i64 kk) (.int .u64 0) (.int .u64 (nn : Int)) (.slice sa2 S.length sc2) (.slice da2 D.length dc2) ∧ Six W q3 (.int .i64 kd) (.int .i64 kk) (.int .u64 0) (.int .u64 (nn : Int)) (.slice sa3 S.length sc3) (.slice da3 D.length dc3) ∧ PL W S D sa1 da1 ∧ PL W S D sa2 da2 ∧ PL W S D sa3 da3) := fun W hW => by
              obtain ⟨a1, a2⟩ := HS1.out
              obtain ⟨b1, b2, b3⟩ := HS2.out
              have k3 := bnext hb3 hW
              have k2 := bnext b3 k3
              exact ⟨a1.next k2, b1.next k3, s3.next hW, a2.next k2, (b2.next k3).pl HE.out.2.2.1, (p3.next hW).pl HE.out.2.2.1⟩
            have HSa : Hid (∀ W, Below w6.heap.size w6 W → Calls Tryd.prog 11 #[.agg #[.int .i64 kd, .int .i64 kk, .int .u64 0, .int .u64 (nn : Int), .slice sa2 S.length sc2, .slice da2 D.length dc2], .agg #[.int .i64 kd, .int .i64 kk, .int .u64 0, .int .u64 (nn : Int), .slice sa1 S.length sc1, .slice da1 D.length dc1]] W fun e w' => e = .returned (.bool true) ∧ Below W.heap.size W w') := fun W hW => by
              obtain ⟨_, _, _, x1, x2, x3⟩ := HC.out W hW
              exact x2.same x1 kd kk nn _ _ _ _ HE.out.1 HE.out.2.1
            have HSb : Hid (∀ W, Below w6.heap.size w6 W → Calls Tryd.prog 11 #[.agg #[.int .i64 kd, .int .i64 kk, .int .u64 0, .int .u64 (nn : Int), .slice sa3 S.length sc3, .slice da3 D.length dc3], .agg #[.int .i64 kd, .int .i64 kk, .int .u64 0, .int .u64 (nn : Int), .slice sa1 S.length sc1, .slice da1 D.length dc1]] W fun e w' => e = .returned (.bool true) ∧ Below W.heap.size W w') := fun W hW => by
              obtain ⟨_, _, _, x1, x2, x3⟩ := HC.out W hW
              exact x3.same x1 kd kk nn _ _ _ _ HE.out.1 HE.out.2.1
            obtain ⟨t1, t2, _⟩ := HC.out w6 (Below.refl _ _)
            obtain ⟨g0, g1, g2, g3, g4, g5⟩ := t1.cells
            obtain ⟨k0, k1, k2, k3, k4, k5⟩ := t2.cells
            have hb66 := Below.refl w6.heap.size w6
            clear HG5 HS1 HS2 hb3 s3 p3 hb5 HP HQc t1 t2
            go_upto_region 17 with (go_at_call 11; first
              | (with_reducible refine (HSa.out _ hb66).mono ?_; rintro e w7 ⟨rfl, hb7⟩; obtain ⟨t1, _, t3, _⟩ := HC.out w7 hb7; obtain ⟨y0, y1, y2, y3, y4, y5⟩ := t1.cells; obtain ⟨x0, x1, x2, x3, x4, x5⟩ := t3.cells)
              | (with_reducible refine (HSb.out _ hb7).mono ?_; rintro e w8 ⟨rfl, hb8⟩))
            have hb68 := bnext hb7 hb8
            obtain ⟨t1, t2, t3, _⟩ := HC.out w8 hb68
            obtain ⟨m0, m1, m2, m3, m4, m5⟩ := t2.cells
            obtain ⟨n0, n1, n2, n3, n4, n5⟩ := t3.cells
            have hG8 := (HG6.out.next hb68).next (bal (Below.refl _ _) (.cells #[.int .i64 kd, .int .i64 kk, .int .u64 0, .int .u64 (nn : Int), .slice sa2 S.length sc2, .slice da2 D.length dc2, .int .i64 kd, .int .i64 kk, .int .u64 0, .int .u64 (nn : Int), .slice sa3 S.length sc3, .slice da3 D.length dc3] 26))
            obtain ⟨L9, o9, k9⟩ := hG8.row
            have es : upd (upd sv (2 * i) (.slice sa2 S.length sc2)) (2 * i + 1) (.slice sa3 S.length sc3) (2 * i) = .slice sa2 S.length sc2 := by rw [upd_ne _ _ (by omega), upd_at]
            have ed : upd (upd dv (2 * i) (.slice da2 D.length dc2)) (2 * i + 1) (.slice da3 D.length dc3) (2 * i) = .slice da2 D.length dc2 := by rw [upd_ne _ _ (by omega), upd_at]
            rw [es, ed, upd_at, upd_at] at k9
            have HK := hide (And.intro o9 (And.intro k9 hG8.below.size))
            clear es ed o9 k9 hG8 HG6 HC HSa HSb g0 g1 g2 g3 g4 g5 k0 k1 k2 k3 k4 k5 y0 y1 y2 y3 y4 y5 x0 x1 x2 x3 x4 x5 t1 t2 t3 hb66 hb7 hb8
            go_wp2_with (at_builtin; refine wpList_app_P _ rfl _ _ rfl w3.heap.size _ (2 * i) L9 rfl HK.out.1 (.slice (some ⟨w8.heap.size, 0, none⟩) 2 2) _ rfl (rdc_twelve w8 #[.int .i64 kd, .int .i64 kk, .int .u64 0, .int .u64 (nn : Int), .slice sa2 S.length sc2, .slice da2 D.length dc2, .int .i64 kd, .int .i64 kk, .int .u64 0, .int .u64 (nn : Int), .slice sa3 S.length sc3, .slice da3 D.length dc3] 26 2) rfl ?c0 ?c1 ?c2 ?_)
            case c0 => exact ⟨rfl, rfl, rfl, rfl, rfl, rfl, rfl, rfl, rfl, rfl, rfl, rfl⟩
            case c1 => have := HE.out.2.2.2.2; omega
            case c2 => exact HK.out.2.2
            intro v' w9 ha9
            have HF : Hid (GA w3 w9 (2 * (i + 1)) (2 * (i + 1)) v' _ _) := HK.out.2.1 _ _ _ _ _ _ _ _ _ _ ha9
            clear HK ha9
            go_wp2
            go_roundg (12 - (i + 1))
            case rel =>
              go_light
              exact ⟨i + 1, by have := HE.out.2.2.2.2; omega, rfl, by go_num, by have := HE.out.2.2.2.1; omega, _, _, HF.out⟩
            case measure => go_light; have := HE.out.2.2.2.2; omega
    · obtain ⟨sv, dv, hG⟩ := HI.out.2
      obtain ⟨xa, xc, hv, HA⟩ := hG.apart (by omega)
      subst hv
      have hbe := hG.below
      by_cases h1 : i < qn
      · have h1z : (i : Int) < (qn : Int) := by omega
        have h2z : ¬ (i : Int) < 12 := by omega
        clear hlt HI hG h1 hi
        go_wp2_with (go_at_call 21; with_reducible refine HA.mono ?_; rintro e w9 ⟨rfl, hb9⟩)
        go_ret
        exact ⟨rfl, bnext HB3.out (hbe.trans hb9)⟩
      · have h1z : ¬ (i : Int) < (qn : Int) := by omega
        clear hlt HI hG h1 hi
        go_wp2_with (go_at_call 21; with_reducible refine HA.mono ?_; rintro e w9 ⟨rfl, hb9⟩)
        go_ret
        exact ⟨rfl, bnext HB3.out (hbe.trans hb9)⟩
end Go.Proofs.YtgmnolepaidiiaaDoor
/-
  PathProves, as its row asks. Own work.
-/
namespace Go.Proofs.YtgmnolepaidiiaaDoor
open Go.RowKit
theorem proves_row (w : World) (ht : Tb w) (hr : Tr w) (k : Int) (ao : Option Addr) (b off len cap : Nat) (L : List ByteArray) (rd : RdS w ao b off len L) (hm : len ≤ 8796093021952) (qa : Option Addr) (qb qo qn qc : Nat) (ql : List (Nat × Nat)) (rq : RdA w qa qb qo qn ql) (hq : qn ≤ maxLen) :
    Calls Tryd.prog 5 #[.int .i64 k, .slice ao len cap, .slice qa qn qc] w fun e w' => e = .returned (.bool true) ∧ Below w.heap.size w w' :=
  proves_walk w ht hr k ao b off len cap L rd (by omega) qa qb qo qn qc ql rq (by unfold maxLen at hq; omega)
end Go.Proofs.YtgmnolepaidiiaaDoor
