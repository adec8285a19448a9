/-
  ForestFresh: the walk. Own work.
-/
import Derived.Test.YtabdobdopcfllaaDoorFFreshS
namespace Go.Proofs.YtabdobdopcfllaaDoor
open Go.RowKit
open Mm (Fam OwnV dv Apart P3 P4 P5 Mk mkT mkE)
attribute [local go_sem ↓] Go.wp_at_zero Go.wp_at_succ
theorem ownV_form {w : World} {B : Nat} {v : Value} {vs : List Value} (h : OwnV w B v vs) {n : Nat} (hn : vs.length = n) : ∃ ao cap, v = .slice ao n cap ∧ (0 < n → ∃ g, ao = some ⟨g, 0, none⟩) := by
  subst hn
  rcases h.2 with ⟨hv, h0⟩ | ⟨g, cap, cur, hv, _⟩
  · exact ⟨none, 0, by rw [hv, h0], fun h => absurd h (by omega)⟩
  · exact ⟨_, cap, hv, fun _ => ⟨g, rfl⟩⟩
set_option maxRecDepth 100000 in
set_option maxHeartbeats 8000000 in
theorem fresh_walk (w : World) (ht : Tb w) (k : Int) (ao : Option Addr) (b off len cap : Nat) (ss : List ByteArray) (hr : RdS w ao b off len ss) (hc : len ≤ cap) :
    Calls Tryd.prog 5 #[.int .i64 k, .slice ao len cap] w fun e w' => e = .returned (.bool true) ∧ Below w.heap.size w w' := by
  obtain ⟨K, hK⟩ : ∃ K, stg k = K := ⟨_, rfl⟩
  obtain ⟨k1, k2⟩ := stg_in k
  rw [hK] at k1 k2
  obtain ⟨n0, hn0⟩ : ∃ n, min len 70 = n := ⟨_, rfl⟩
  obtain ⟨T, hT⟩ : ∃ T, tk (ss.take n0) = T := ⟨_, rfl⟩
  have hTl : T.length ≤ 70 := by rw [← hT]; have h1 := tk_len (ss.take n0); rw [List.length_take] at h1; omega
  have hTs : ∀ s ∈ T, s.size ≤ 1048576 := by rw [← hT]; exact tk_size _
  have HAl : Hid (Calls Tryd.prog 8 #[] w fun e w' => e = .returned (.bool true) ∧ Below w.heap.size w w') := alive_any w ht
  have HSt : Hid (∀ W, Calls Tryd.prog 9 #[.int .i64 k] W fun e w' => e = .returned (.int .i64 K) ∧ W = w') := fun W => strength_any W k K hK
  have HFw : Hid (∀ W, Calls Tryd.prog 15 #[.slice ao len cap] W fun e w' => e = .returned (.slice ao n0 cap) ∧ W = w') := fun W => few_any W ao len cap hc n0 hn0
  have HG1 : Hid (∀ W, Below w.heap.size w W → Calls Tryd.prog 22 #[.int .i64 K, .slice ao n0 cap] W fun e w' => ∃ ao' b' c', e = .returned (.tuple #[.pointer (some ⟨W.heap.size + 1, 0, none⟩), .slice ao' T.length c', .bool true]) ∧ RdS w' ao' b' 0 T.length T ∧ T.length ≤ c' ∧ Frs w' W.heap.size K T ∧ Below W.heap.size W w') := fun W hb =>
    (grown_any W (ht.next hb) K k1 k2 ao b off n0 cap (ss.take n0) ((hr.next hb (Nat.le_refl _)).take (by omega)) (by omega) T hT).mono fun e w' ⟨v, e1, e2, e3, e4⟩ => by
      obtain ⟨ao', b', c', rfl, hr', hc', _⟩ := owns_rds e2 (fun s hs => Nat.le_trans (hTs s hs) (by decide))
      exact ⟨ao', b', c', e1, hr', hc', e3, e4⟩
  have HN : Hid (∀ W, Calls Tryd.prog 10 #[.int .i64 K] W fun e w' => e = .returned (.tuple #[.pointer (some ⟨W.heap.size + 1, 0, none⟩), .int .i64 0]) ∧ Frs w' W.heap.size K [] ∧ Below W.heap.size W w') := fun W => fnew_ok W K k1 k2
  have HT := hide ht
  have HQ := hide (And.intro hTl hTs)
  have HKK := hide (And.intro k1 k2)
  have hl70 : (T.length : Int) ≤ 70 := by omega
  clear ht hr hc hK k1 k2 hn0 hT hTs
  go_enter Tryd.func5, Tryd.ntmps5
  go_wp2_with (first
    | (go_at_call 8; with_reducible refine HAl.out.mono ?_; rintro e w1 ⟨rfl, hb1⟩)
    | (go_at_call 9; with_reducible refine (HSt.out _).mono ?_; rintro e w' ⟨rfl, rfl⟩)
    | (go_at_call 15; with_reducible refine (HFw.out _).mono ?_; rintro e w' ⟨rfl, rfl⟩)
    | (go_at_call 22; with_reducible refine (HG1.out _ hb1).mono ?_; rintro e w2 ⟨ao', b', c', rfl, hr2, hc2, hF2, hb2⟩)
    | (go_at_call 10; with_reducible refine (HN.out _).mono ?_; rintro e w3 ⟨rfl, hF3, hb3⟩)
    | (go_at_call 11; with_reducible refine (num_id 0 _).mono ?_; rintro e wn ⟨rfl, rfl⟩))
  have hF3g := hF2.next hb3 (Nat.le_refl _)
  have hr3 := hr2.next hb3 (Nat.le_refl _)
  have hB3 := bnext (bnext hb1 hb2) hb3
  have HQ0 : Hid (FQ w3 w3 w2.heap.size K (T.take 0) [] (ansL (clk K) T 0) [] (.slice none 0 0) (.slice none 0 0) (lvB 0)) := ⟨hF3, Mm.fam_nil _ _, World.ownsRow_nil _ _ _ _, World.ownsRow_nil _ _ _ _, Chf.refl _ _, hF3.lt⟩
  have hm1 : w1.heap.size + 1 < w2.heap.size := hF2.lt
  /- what stays as the forest grows -/
  have HC : Hid (∀ W, Chf w2.heap.size w3 W → RdS W ao' b' 0 T.length T ∧ Frs W w1.heap.size K T ∧ Below w.heap.size w W ∧ Tb W) := fun W hc => by
    have hB : Below w2.heap.size w2 W := hb3.trans (hc.below)
    have hBw : Below w.heap.size w W := bnext (bnext hb1 hb2) hB
    exact ⟨hr2.next hB (Nat.le_refl _), hF2.next hB (Nat.le_refl _), hBw, HT.out.next hBw⟩
  clear hF3g hr3 hB3 hr2 hc2 hF2 hb1 hb2 hb3 hF3 HAl HSt HFw HG1 HN
  generalize w1.heap.size = mg at *
  generalize w2.heap.size = m at *
  go_loopg [10, 12, 13] T.length (fun g v10 v12 i0 wr => ∃ (i : Nat) (vs : List Value), i ≤ T.length ∧ g = T.length - i ∧ i0 = .int .i64 (i : Int) ∧ vs.length = 3 * i ∧ Hid (FQ w3 wr m K (T.take i) vs (ansL (clk K) T i) vs v10 v12 (lvB i)))
  case atStart =>
    go_light
    exact ⟨0, [], Nat.zero_le _, rfl, rfl, rfl, HQ0⟩
  case round =>
    clear HQ0
    obtain ⟨i, vs, hi, rfl, rfl, hvl, HA⟩ := hrel
    by_cases hlt : i < T.length
    · have hz : (i : Int) < (T.length : Int) := by omega
      have hz0 : (0 : Int) ≤ (i : Int) := Int.natCast_nonneg _
      obtain rfl := (HC.out wr HA.out.ch).1.ptr (by omega)
      have cj := (HC.out wr HA.out.ch).1.at hlt
      obtain ⟨x, hx⟩ : ∃ x, T.getD i ByteArray.empty = x := ⟨_, rfl⟩
      have htn := take_next hlt
      have hxs : x.size ≤ 1048576 := by rw [← hx]; exact HQ.out.2 _ (getD_mem hlt)
      rw [hx] at cj htn
      rw [Nat.zero_add] at cj
      have hil : (T.take i).length = i := by rw [List.length_take]; omega
      have hil1 : (T.take (i + 1)).length = i + 1 := by rw [List.length_take]; omega
      obtain ⟨A, hA⟩ : ∃ A, nw (clk K) (T.take (i + 1)) (tr 64 (i + 1)) = A := ⟨_, rfl⟩
      obtain ⟨na, hna⟩ : ∃ na, A.length = na := ⟨_, rfl⟩
      obtain ⟨D, hD⟩ : ∃ D, lvs (clk K) (T.take (i + 1)) = D := ⟨_, rfl⟩
      have hDl : D.length = i + 1 := by rw [← hD, lvs_len, hil1]
      have hDs : ∀ s ∈ D, s.size ≤ 9223372036854775807 := fun s hs => by
        rw [← hD] at hs
        obtain ⟨j, _, rfl⟩ := List.mem_map.1 hs
        rw [nd_size (clk_le K)]; have := clk_le K; omega
      have hans : ansL (clk K) T (i + 1) = ansL (clk K) T i ++ [A, D, D] := by rw [ansL, hA, hD]
      have HAp : Hid (Calls Tryd.prog 12 #[.pointer (some ⟨m + 1, 0, none⟩), .string x] wr fun e w' => ∃ gx cx, e = .returned (.tuple #[.slice (some ⟨gx, 0, none⟩) na cx, .int .i64 0]) ∧ FQ w3 w' m K (T.take (i + 1)) (vs ++ [.slice (some ⟨gx, 0, none⟩) na cx]) (ansL (clk K) T i ++ [A]) vs u10 u12 (lvB i)) :=
        (fappend_ok wr (HC.out wr HA.out.ch).2.2.2 m K (T.take i) HA.out.frs x hxs (by omega) (tr 64 (i + 1)) (by rw [hil])).mono fun e w' ⟨v, e1, e2, e3, e4⟩ => by
          rw [← htn] at e2 e3
          rw [hA] at e3
          obtain ⟨g, c, rfl, _⟩ := own_form e3 (by rw [← hA, nw_len]; omega)
          rw [hna] at e1 e3
          exact ⟨g, c, e1, HA.out.chf e4 e2 e3⟩
      have HDg : Hid (∀ W ao1 g1 c1, Frs W m K (T.take (i + 1)) → RdB W ao1 g1 0 (i + 1) (lvB (i + 1)) → Calls Tryd.prog 23 #[.pointer (some ⟨m + 1, 0, none⟩), .slice ao1 (i + 1) c1] W fun e w' => ∃ g2 c2, e = .returned (.tuple #[.slice (some ⟨g2, 0, none⟩) (i + 1) c2, .bool true]) ∧ OwnS w' W.heap.size (.slice (some ⟨g2, 0, none⟩) (i + 1) c2) D ∧ Below W.heap.size W w') := fun W ao1 g1 c1 hF hB => by
        have hB2 : RdB W ao1 g1 0 (lvB (i + 1)).length (lvB (i + 1)) := by rw [lvB_len]; exact hB
        have := fdigests_any W m K (T.take (i + 1)) hF ao1 g1 0 c1 (lvB (i + 1)) hB2 (by rw [lvB_len]; omega)
        rw [lvB_len] at this
        refine this.mono ?_
        have hdl : dgs (clk K) (T.take (i + 1)) (lvB (i + 1)) = some D := by
          rw [dgs_lv _ _ _ (by rw [hil1]; omega), ← hD, lvs, hil1]
        rintro e w' ⟨hb', ⟨h1, _⟩ | ⟨D', h1, v, rfl, ho⟩⟩
        · rw [hdl] at h1; cases h1
        · rw [hdl] at h1
          injection h1 with h1
          subst h1
          obtain ⟨g2, c2, rfl, _⟩ := own_form ho (by omega)
          rw [hDl] at ho ⊢
          exact ⟨g2, c2, rfl, ho, hb'⟩
      have HSm : Hid (∀ W v1 v2 B1 B2, OwnS W B1 v1 D → OwnS W B2 v2 D → Calls Tryd.prog 24 #[v1, v2] W fun e w' => e = .returned (.bool true) ∧ Below W.heap.size W w') := fun W v1 v2 B1 B2 o1 o2 => by
        obtain ⟨a1, b1, c1, rfl, r1, _⟩ := owns_rds o1 hDs
        obtain ⟨a2, b2, c2, rfl, r2, _⟩ := owns_rds o2 hDs
        exact same_any W a1 b1 0 D.length c1 D r1 a2 b2 0 c2 r2 (by omega)
      have HG : Hid (vs.length = 3 * i ∧ i + 1 ≤ T.length ∧ T.length ≤ 70 ∧ lvB (i + 1) = lvB i ++ [((0 : Int), i)] ∧ (lvB i).length = i ∧ ansL (clk K) T (i + 1) = ansL (clk K) T i ++ [A, D, D]) := ⟨hvl, hlt, HQ.out.1, lvB_succ i, lvB_len i, hans⟩
      have ewi : IntKind.u64.wrap (i : Int) = (i : Int) := u64_id _ (by omega) (by omega)
      clear hx htn hxs hil hil1 hA hna hD hDl hDs hans hvl hlt hi
      go_upto_region 17 with (first
        | (go_at_call 12; with_reducible refine HAp.out.mono ?_; rintro e w4 ⟨gx, cx, rfl, hQ4⟩)
        | (go_at_call 11; with_reducible refine (num_id 0 _).mono ?_; rintro e wn ⟨rfl, rfl⟩)
        | (at_builtin; refine Cv.wpList_append_B _ rfl _ _ rfl w3.heap.size _ (lvB i) rfl (Cv.ownB_next hQ4.blk (bal (Below.refl _ _) _)) _ [((0 : Int), i)] rfl (Cv.rdc_block w4 0 i _) (by have := HG.out; simp; omega) (by have := hQ4.big; simp; omega) ?_; intro v5 w5 ho5 hg5 _))
      have hQ5 := (hQ4.next (bal (Below.refl _ _) _)).growB ho5 hg5
      rw [← HG.out.2.2.2.1] at hQ5
      obtain ⟨ab, gb, nb, cb, rfl, hrb, _⟩ := own_rdB hQ5.blk (lvB_fit (by have := HG.out; omega))
      obtain rfl : nb = i + 1 := by rw [← hrb.len, lvB_len]
      have HQ5 := hide hQ5
      have HRb := hide hrb
      clear hQ4 ho5 hg5 hQ5 hrb
      go_upto_region 21 with (first
        | (go_at_call 23; with_reducible refine (HDg.out _ _ _ _ HQ5.out.frs HRb.out).mono ?_; rintro e w6 ⟨g6, c6, rfl, ho6, hb6⟩; have hQ6 := HQ5.out.new hb6 ho6; have hrb6 := HRb.out.below hb6)
        | (go_at_call 23; with_reducible refine (HDg.out _ _ _ _ hQ6.frs hrb6).mono ?_; rintro e w7 ⟨g7, c7, rfl, ho7, hb7⟩; have hQ7 := hQ6.new hb7 ho7; have ho67 := own_next ho6 hb7 (Nat.le_refl _))
        | (go_at_call 24; with_reducible refine (HSm.out _ _ _ _ _ ho67 ho7).mono ?_; rintro e w8 ⟨rfl, hb8⟩; have hQ8 := hQ7.next hb8))
      have HQ8 := hide hQ8
      clear hQ6 hQ7 hQ8 ho6 ho7 ho67 hb6 hb7 hb8 hrb6 HQ5 HRb HDg HSm HAp cj
      go_wp2_with (at_builtin; refine Mm.wpList_append_V _ rfl _ _ rfl w3.heap.size _ vs rfl (World.ownsRow.alloc HQ8.out.all _) _ [.slice (some ⟨gx, 0, none⟩) na cx, .slice (some ⟨g6, 0, none⟩) (i + 1) c6, .slice (some ⟨g7, 0, none⟩) (i + 1) c7] rfl (Mm.rdc_vals w8 #[.slice (some ⟨gx, 0, none⟩) na cx, .slice (some ⟨g6, 0, none⟩) (i + 1) c6, .slice (some ⟨g7, 0, none⟩) (i + 1) c7] 31) ?c0 ?c1 ?c2 ?_)
      case c0 => intro u hu; simp at hu; rcases hu with rfl | rfl | rfl <;> rfl
      case c1 => have := HG.out; simp; omega
      case c2 => have := HQ8.out.big; simp; omega
      intro v9 w9 ho9 hg9 _
      have HQ9 : Hid (FQ w3 w9 m K (T.take (i + 1)) (vs ++ [.slice (some ⟨gx, 0, none⟩) na cx, .slice (some ⟨g6, 0, none⟩) (i + 1) c6, .slice (some ⟨g7, 0, none⟩) (i + 1) c7]) (ansL (clk K) T (i + 1)) (vs ++ [.slice (some ⟨gx, 0, none⟩) na cx, .slice (some ⟨g6, 0, none⟩) (i + 1) c6, .slice (some ⟨g7, 0, none⟩) (i + 1) c7]) v9 (.slice ab (i + 1) cb) (lvB (i + 1))) := by
        have := (HQ8.out.next (bal (Below.refl _ _) _)).growV ho9 hg9
        rw [List.append_assoc, List.append_assoc, List.append_assoc, List.append_assoc] at this
        rw [HG.out.2.2.2.2.2]
        exact this
      clear ho9 hg9 HQ8
      go_wp2
      go_roundg (T.length - (i + 1))
      case rel =>
        go_light
        exact ⟨i + 1, _, HG.out.2.1, rfl, by go_num, by have := HG.out.1; simp; omega, HQ9⟩
      case measure => go_light; have := HG.out; omega
    · obtain rfl : i = T.length := by omega
      have hz : ¬ ((T.length : Int) < (T.length : Int)) := by omega
      rw [List.take_length] at HA
      obtain ⟨N, hN⟩ : ∃ N, 3 * T.length = N := ⟨_, rfl⟩
      rw [hN] at hvl
      obtain ⟨Ps, hPs⟩ : ∃ Ps, ansL (clk K) T T.length = Ps := ⟨_, rfl⟩
      have HN : Hid (vs.length = N ∧ N ≤ 210 ∧ Ps.length = N ∧ ∀ k, (Ps.getD k []).length ≤ 70) := ⟨hvl, by have := HQ.out.1; omega, by rw [← hPs, ansL_len]; exact hN, by rw [← hPs]; exact ansL_short _ _ HQ.out.1 _⟩
      rw [hPs] at HA
      obtain ⟨aoA, capA, rfl, hsm⟩ := ownV_form HA.out.all hvl
      have HGA : Hid (0 < N → ∃ g, aoA = some ⟨g, 0, none⟩) := hsm
      have hN210 : (N : Int) ≤ 210 := by have := HN.out; omega
      obtain ⟨wS, HP, HFin⟩ : ∃ wS, Hid (P3 wS wr vs Ps (.slice aoA N capA)) ∧ Hid (∀ W, Below wS.heap.size wS W → Frs W m K T ∧ Frs W mg K T ∧ Below w.heap.size w W ∧ Tb W) := by
        have hbig := HA.out.big
        have hs := cutW_size hbig
        have hmlt := HA.out.mlt
        refine ⟨cutW wr w3.heap.size, ⟨by rw [hs]; exact HA.out.fam, by rw [hs]; exact HA.out.all, by rw [hs]; exact below_cut hbig⟩, fun W hW => ?_⟩
        rw [hs] at hW
        have hbk : ∀ q, q < w3.heap.size → W.heap[q]? = wr.heap[q]? := fun q hq => (hW.block q hq).trans (cutW_block hbig hq)
        have hsz : w3.heap.size ≤ W.heap.size := by have := hW.size; rw [hs] at this; exact this
        have hcW : Chf m w3 W := ⟨⟨hW.os.trans HA.out.ch.below.os, hW.tape.trans HA.out.ch.below.tape, hW.output.trans HA.out.ch.below.output, hsz, fun q hq => (hbk q (by omega)).trans (HA.out.ch.below.block q hq)⟩, fun q hq x y => (hbk q hq).trans (HA.out.ch.block q hq x y)⟩
        have h4 := HC.out W hcW
        exact ⟨HA.out.frs.same (hbk m (by omega)) (hbk (m + 1) hmlt), h4.2.1, h4.2.2.1, h4.2.2.2⟩
      clear hvl hsm hN hPs hlt hi HA HC
      have HMk : Hid (∀ W (k : Nat), k < 256 → Calls Tryd.prog 25 #[.int .i64 (k : Int)] W fun e w' => e = .returned (.string (mkT k)) ∧ Below W.heap.size W w') := fun W k hk => Mm.mark_any W k hk
      go_wp2
      go_loopg [20] N (fun gg i0 wr => ∃ (k : Nat) (Qs : List (List ByteArray)), k ≤ N ∧ gg = N - k ∧ i0 = .int .i64 (k : Int) ∧ Mk N k Qs Ps ∧ P3 wS wr vs Qs (.slice aoA N capA))
      case atStart =>
        go_light
        exact ⟨0, Ps, Nat.zero_le _, rfl, rfl, ⟨HN.out.2.2.1, fun k _ => by rw [if_neg (Nat.not_lt_zero k)]⟩, HP.out⟩
      case round =>
        obtain ⟨k, Qs, hkN, rfl, rfl, hmk, hst⟩ := hrel
        have hk0 : (0 : Int) ≤ (k : Int) := Int.natCast_nonneg _
        have hk24 : (k : Int) ≤ 210 := by omega
        obtain ⟨hvl, hN2, hPl, hP41⟩ := HN.out
        by_cases hkl : k < N
        · have hkl' : (k : Int) < (N : Int) := by omega
          obtain ⟨gA, rfl⟩ := HGA.out (by omega)
          obtain ⟨u, hu⟩ : ∃ u, vs.getD k dv = u := ⟨_, rfl⟩
          have ho0 := hst.fam.own k (by omega)
          rw [hu] at ho0
          have hq0 := hmk.2 k hkl
          rw [if_neg (Nat.lt_irrefl k)] at hq0
          obtain ⟨au, mu, du, rfl⟩ := Mm.own_slice ho0
          obtain ⟨R, hR⟩ : ∃ R, Ps.getD k [] = R := ⟨_, rfl⟩
          rw [hq0, hR] at ho0
          have hmu := Mm.ownS_len ho0
          have hR5 : R.length ≤ 70 := by rw [← hR]; exact hP41 k
          have hmu5 : (mu : Int) ≤ 70 := by omega
          have HJ : Hid (Mk N k Qs Ps ∧ vs.getD k dv = .slice au mu du ∧ Ps.getD k [] = R ∧ R.length = mu ∧ k + 1 ≤ N ∧ vs.length = N ∧ Qs.getD k [] = R ∧ N ≤ 210) := ⟨hmk, hu, hR, hmu, hkl, hvl, by rw [hq0, hR], hN2⟩
          have HS0 : Hid (P3 wS wr vs Qs (.slice (some ⟨gA, 0, none⟩) N capA)) := hst
          clear hmk hst hu ho0 hq0 hR hmu hR5 hvl hkl hkN hN2 hPl hP41
          go_wp2
          go_loopg [21] mu (fun gg j0 wr => ∃ j : Nat, j ≤ mu ∧ gg = mu - j ∧ j0 = .int .i64 (j : Int) ∧ P3 wS wr vs (Qs.set k (List.replicate j (mkT k) ++ R.drop j)) (.slice (some ⟨gA, 0, none⟩) N capA))
          case atStart =>
            go_light
            obtain ⟨z1, z2, z3, z4, z5, z6, z7, z8⟩ := HJ.out
            refine ⟨0, Nat.zero_le _, rfl, rfl, ?_⟩
            have e : Qs.set k (List.replicate 0 (mkT k) ++ R.drop 0) = Qs := by
              rw [← z7]; simpa using Mm.set_getD_self [] Qs k
            rw [e]; exact HS0.out
          case round =>
            obtain ⟨j, hjm, rfl, rfl, hst⟩ := hrel
            obtain ⟨z1, z2, z3, z4, z5, z6, z7, z8⟩ := HJ.out
            have hj0 : (0 : Int) ≤ (j : Int) := Int.natCast_nonneg _
            have hj5 : (j : Int) ≤ 70 := by omega
            have kA := Mm.ownV_cells hst.all k (by omega)
            rw [z2] at kA
            by_cases hjl : j < mu
            · have hjl' : (j : Int) < (mu : Int) := by omega
              have hol := hst.fam.own k (by omega)
              rw [z2, Mm.getD_set _ _ _ _ _ (by rw [z1.1]; omega), if_pos rfl] at hol
              obtain ⟨g, rfl⟩ := Mm.ownS_some hol (by simp; omega)
              have HW2 : Hid (∀ W, Below wr.heap.size wr W → W.cell? ⟨gA, k, none⟩ = some (.slice (some ⟨g, 0, none⟩) mu du) ∧ (∃ s, W.cell? ⟨g, j, none⟩ = some (.string s)) ∧ W.frozen? ⟨g, j, none⟩ = false ∧ P3 wS (W.setCell ⟨g, j, none⟩ (.string (mkT k))) vs (Qs.set k (List.replicate (j + 1) (mkT k) ++ R.drop (j + 1))) (.slice (some ⟨gA, 0, none⟩) N capA)) := fun W hW => by
                have hst2 := hst.next hW
                have hol2 := hst2.fam.own k (by omega)
                rw [z2, Mm.getD_set _ _ _ _ _ (by rw [z1.1]; omega), if_pos rfl] at hol2
                obtain ⟨c1, f1⟩ := own_cell hol2 (j := j) (by simp; omega)
                have kA2 := Mm.ownV_cells hst2.all k (by omega)
                rw [z2] at kA2
                have hs2 := hst2.store k (by omega) g mu du z2 j (mkT k)
                rw [Mm.getD_set _ _ _ _ _ (by rw [z1.1]; omega), if_pos rfl, List.set_set, Mm.mark_set R j _ (by omega)] at hs2
                exact ⟨kA2, ⟨_, c1⟩, f1, hs2⟩
              have HMc : Hid (∀ W, Calls Tryd.prog 25 #[.int .i64 (k : Int)] W fun e w' => e = .returned (.string (mkT k)) ∧ Below W.heap.size W w') := fun W => HMk.out W k (by omega)
              have hd := (Below.refl wr.heap.size wr).drew
              obtain ⟨kD, ⟨sD, cD⟩, fD, _⟩ := HW2.out _ hd
              clear hol hst z1 z2 z3 z4 z5 z6 z7 z8
              go_upto_region 28 with (fail)
              go_region_with (go_at_call 25; with_reducible refine (HMc.out _).mono ?_; rintro e w5 ⟨rfl, hb5⟩; obtain ⟨k5, ⟨s5, c5⟩, f5, P5x⟩ := HW2.out _ (bnext hd hb5))
              all_goals
                have HX : Hid (P3 wS (w5.setCell ⟨g, j, none⟩ (.string (mkT k))) vs (Qs.set k (List.replicate (j + 1) (mkT k) ++ R.drop (j + 1))) (.slice (some ⟨gA, 0, none⟩) N capA) ∧ j + 1 ≤ mu) := ⟨P5x, hjl⟩
                clear P5x k5 c5 f5 hb5 HW2 HMc hd kD cD fD kA
                go_wp2
                go_roundg (mu - (j + 1))
                case rel =>
                  go_light
                  exact ⟨j + 1, HX.out.2, rfl, by go_num, HX.out.1⟩
                case measure => go_light; have := HX.out.2; omega
            · obtain rfl : j = mu := by omega
              have hjl' : ¬ (j : Int) < (j : Int) := by omega
              have hdr : R.drop j = [] := List.drop_eq_nil_iff.2 (by omega)
              rw [hdr, List.append_nil] at hst
              have HX : Hid (Mk N (k + 1) (Qs.set k (List.replicate j (mkT k))) Ps ∧ P3 wS wr vs (Qs.set k (List.replicate j (mkT k))) (.slice (some ⟨gA, 0, none⟩) N capA) ∧ k + 1 ≤ N) := ⟨Mm.mk_next z1 z5 (by rw [z3, z4]), hst, z5⟩
              clear hst z1 z2 z3 z4 z5 z6 z7 z8 hjm hjl hdr HJ HS0
              go_wp2
              go_roundg (N - (k + 1))
              case rel =>
                go_light
                exact ⟨k + 1, _, HX.out.2.2, rfl, by go_num, HX.out.1, HX.out.2.1⟩
              case measure => go_light; have := HX.out.2.2; omega
        · obtain rfl : k = N := by omega
          have hkl' : ¬ ((k : Int) < (k : Int)) := by omega
          have HD : Hid (∀ a c, a < k → c < k → a ≠ c → Apart (vs.getD a dv) (vs.getD c dv)) := fun a c ha hc hne => hst.fam.dj a c (by omega) (by omega) hne
          have HP4 : Hid (P4 wS wr k vs [] Ps (.slice aoA k capA) (.slice none 0 0) 0) := ⟨fun a ha => by
            have h1 := hst.fam.own a (by omega)
            rw [hmk.2 a ha, if_pos ha] at h1
            exact h1, fun a ha => absurd ha (Nat.not_lt_zero a), fun a ha => absurd ha (Nat.not_lt_zero a), hst.all, World.ownsRow_nil _ _ _ _, by
              cases hA : (Value.slice aoA k capA).ownBlock with
              | none => exact .inl rfl
              | some g => exact .inr (fun h => by cases h), hst.below, rfl⟩
          clear hst hmk hkN hkl hvl hN2 hPl hP41 HP
          go_wp2
          go_loopg [11, 22] k (fun gg v i0 wr => ∃ (a : Nat) (ms : List Value), a ≤ k ∧ gg = k - a ∧ i0 = .int .i64 (a : Int) ∧ P4 wS wr k vs ms Ps (.slice aoA k capA) v a)
          case atStart =>
            go_light
            exact ⟨0, [], Nat.zero_le _, rfl, rfl, HP4.out⟩
          case round =>
            clear HP4
            obtain ⟨a, ms, hak, rfl, rfl, hp4⟩ := hrel
            have ha0 : (0 : Int) ≤ (a : Int) := Int.natCast_nonneg _
            have ha24 : (a : Int) ≤ 210 := by omega
            obtain ⟨hvl, hN2, hPl, hP41⟩ := HN.out
            by_cases hlt : a < k
            · have hlt' : (a : Int) < (k : Int) := by omega
              obtain ⟨gA, rfl⟩ := HGA.out (by omega)
              have kA := Mm.ownV_cells hp4.all a (by omega)
              have hp5 := hp4.start hlt HD.out
              obtain ⟨u, hu⟩ : ∃ u, vs.getD a dv = u := ⟨_, rfl⟩
              rw [hu] at kA hp5
              obtain ⟨au, mu, du, rfl⟩ := Mm.own_slice hp5.X
              have H5 : Hid (P5 wS wr k vs ms Ps (.slice (some ⟨gA, 0, none⟩) k capA) u11 a 0 (.slice au mu du) ∧ a < k ∧ (Ps.getD a []).length ≤ 70 ∧ k ≤ 210) := ⟨hp5, hlt, hP41 a, hN2⟩
              have HMc : Hid (∀ W, Calls Tryd.prog 25 #[.int .i64 (a : Int)] W fun e w' => e = .returned (.string (mkT a)) ∧ Below W.heap.size W w') := fun W => HMk.out W a (by omega)
              clear hp4 hp5 hu hak hlt hvl hN2 hPl hP41
              go_wp2
              go_loopg [23, 24] 12 (fun gg x j0 wr => ∃ t : Nat, t ≤ 12 ∧ gg = 12 - t ∧ j0 = .int .i64 (t : Int) ∧ P5 wS wr k vs ms Ps (.slice (some ⟨gA, 0, none⟩) k capA) u11 a t x)
              case atStart =>
                go_light
                exact ⟨0, Nat.zero_le _, rfl, rfl, H5.out.1⟩
              case round =>
                obtain ⟨t, ht6, rfl, rfl, hp⟩ := hrel
                have ht0 : (0 : Int) ≤ (t : Int) := Int.natCast_nonneg _
                have ht20 : (t : Int) ≤ 12 := by omega
                by_cases htl : t < 12
                · have htl' : (t : Int) < 12 := by omega
                  have HPx := hide hp
                  clear hp ht6 kA
                  go_wp2_with (first
                    | (go_at_call 25; with_reducible refine (HMc.out _).mono ?_; rintro e W2 ⟨rfl, hW2⟩)
                    | (at_builtin; refine Mm.wpList_append_K _ rfl _ _ rfl wS.heap.size _ (mkE Ps a t) rfl (HPx.out.next (bal hW2 _)).X ⟨W2.heap.size, 0, none⟩ 1 (mkT a) rfl (Mm.rdc_vals W2 #[.string (mkT a)] 9) ?c1 ?c2 ?_))
                  case c1 => have h1 := H5.out.2.2; have h3 := Mm.mkE_len Ps a t; omega
                  case c2 => exact (HPx.out.next (bal hW2 (.cells #[.string (mkT a)] 9))).p.below.size
                  intro v' w3' r1 r2
                  have hp2 := (HPx.out.next (bal hW2 (.cells #[.string (mkT a)] 9))).app r1 (by
                    rcases r2 with h | ⟨h1, h2⟩
                    · exact .inl h
                    · exact .inr ⟨h1, fun g hg => by rw [World.size_alloc]; exact h2 g hg⟩)
                  clear r1 r2 hW2 HPx
                  go_wp2
                  go_roundg (12 - (t + 1))
                  case rel =>
                    go_light
                    exact ⟨t + 1, htl, rfl, by go_num, hp2⟩
                  case measure => go_light; omega
                · obtain rfl : t = 12 := by omega
                  have htl' : ¬ ((12 : Nat) : Int) < 12 := by decide
                  obtain ⟨ax, mx, dx, rfl⟩ := Mm.own_slice hp.X
                  have HX : Hid (P5 wS wr k vs ms Ps (.slice (some ⟨gA, 0, none⟩) k capA) u11 a 12 (.slice ax mx dx)) := hp
                  have hMo := hp.p.more
                  clear hp ht6 htl kA
                  go_wp2_with (at_builtin; refine Mm.wpList_append_V _ rfl _ _ rfl wS.heap.size _ ms rfl (World.ownsRow.alloc hMo _) _ [.slice ax mx dx] rfl (Mm.rdc_vals wr #[.slice ax mx dx] 31) ?c0 ?c1 ?c2 ?_)
                  case c0 => first | rfl | (intro u hu; simp at hu; subst hu; rfl)
                  case c1 => have := HX.out.p.ml; have := H5.out; simp; omega
                  case c2 => have := HX.out.p.below.size; simp; omega
                  intro v2 w2' q1 q2 q3
                  have hp2 := (HX.out.next ((Below.refl _ wr).alloc (Nat.le_refl _) _)).push q1 q2 (by simpa using q3)
                  have HY : Hid (a + 1 ≤ k) := H5.out.2.1
                  clear q1 q2 q3 hMo HX H5
                  go_wp2
                  go_roundg (k - (a + 1))
                  case rel =>
                    go_light
                    exact ⟨a + 1, _, HY.out, rfl, by go_num, hp2⟩
                  case measure => go_light; have := HY.out; omega
            · obtain rfl : a = k := by omega
              have hlt' : ¬ ((a : Int) < (a : Int)) := by omega
              have hml := hp4.ml
              obtain ⟨aoM, capM, rfl, hsm⟩ := ownV_form hp4.more hml
              have HGM : Hid (0 < a → ∃ g, aoM = some ⟨g, 0, none⟩) := hsm
              have H6 : Hid (P4 wS wr a vs ms Ps (.slice aoA a capA) (.slice aoM a capM) a) := hp4
              obtain ⟨W0, hW0⟩ : ∃ W0, W0 = wr := ⟨wr, rfl⟩
              subst hW0
              clear hp4 hml hak hlt HD hvl hN2 hPl hP41 hsm
              go_wp2
              go_loopg [25] a (fun gg i0 wx => ∃ c : Nat, c ≤ a ∧ gg = a - c ∧ i0 = .int .i64 (c : Int) ∧ Below W0.heap.size W0 wx)
              case atStart =>
                go_light
                exact ⟨0, Nat.zero_le _, rfl, rfl, Below.refl _ _⟩
              case round =>
                obtain ⟨c, hca, rfl, rfl, hbx⟩ := hrel
                have hc0 : (0 : Int) ≤ (c : Int) := Int.natCast_nonneg _
                have hc24 : (c : Int) ≤ 210 := by omega
                by_cases hlt : c < a
                · have hlt' : (c : Int) < (a : Int) := by omega
                  obtain ⟨gA, rfl⟩ := HGA.out (by omega)
                  obtain ⟨gM, rfl⟩ := HGM.out (by omega)
                  obtain ⟨hvl, hN2, hPl, hP41⟩ := HN.out
                  have p4 := H6.out
                  have oM := p4.Mm c hlt
                  have oA := p4.A c hlt
                  obtain ⟨aM, mm, dm, eM⟩ := Mm.own_slice oM
                  obtain ⟨aV, mv, dvv, eV⟩ := Mm.own_slice oA
                  rw [eM] at oM
                  rw [eV] at oA
                  have lM := Mm.ownS_len oM
                  have lV := Mm.ownS_len oA
                  rw [Mm.mkE_len] at lM lV
                  have hL5 := hP41 c
                  have hmm : (mm : Int) ≤ 82 := by omega
                  have HK : Hid (∀ W, Below W0.heap.size W0 W → W.cell? ⟨gM, c, none⟩ = some (.slice aM mm dm) ∧ W.cell? ⟨gA, c, none⟩ = some (.slice aV mv dvv)) := fun W h => by
                    have h1 := Mm.ownV_cells (Mm.ownB_next p4.more h) c (by rw [p4.ml]; exact hlt)
                    have h2 := Mm.ownV_cells (Mm.ownB_next p4.all h) c (by omega)
                    rw [eM] at h1
                    rw [eV] at h2
                    exact ⟨h1, h2⟩
                  have HR : Hid (OwnS W0 wS.heap.size (.slice aM mm dm) (mkE Ps c 12) ∧ OwnS W0 wS.heap.size (.slice aV mv dvv) (mkE Ps c 0) ∧ (Ps.getD c []).length + 12 = mm ∧ (Ps.getD c []).length + 0 = mv ∧ c + 1 ≤ a) := ⟨oM, oA, lM, lV, hlt⟩
                  have HMc : Hid (∀ W, Calls Tryd.prog 25 #[.int .i64 (c : Int)] W fun e w' => e = .returned (.string (mkT c)) ∧ Below W.heap.size W w') := fun W => HMk.out W c (by omega)
                  have kk := HK.out wr hbx
                  have hkM := kk.1
                  have HBX : Hid (Below W0.heap.size W0 wr) := hbx
                  clear p4 oM oA eM eV lM lV hL5 hca hlt hvl hN2 hPl hP41 hbx kk
                  go_wp2
                  go_loopg [26] mm (fun gg j0 wx => ∃ j : Nat, j ≤ mm ∧ gg = mm - j ∧ j0 = .int .i64 (j : Int) ∧ Below W0.heap.size W0 wx)
                  case atStart =>
                    go_light
                    exact ⟨0, Nat.zero_le _, rfl, rfl, HBX.out⟩
                  case round =>
                    clear hkM
                    obtain ⟨j, hjm, rfl, rfl, hbx⟩ := hrel
                    have hj0 : (0 : Int) ≤ (j : Int) := Int.natCast_nonneg _
                    have hj6 : (j : Int) ≤ 82 := by omega
                    obtain ⟨oM, oV, lM, lV, hi1⟩ := HR.out
                    obtain ⟨kM, kA⟩ := HK.out wr hbx
                    by_cases hjl : j < mm
                    · have hjl' : (j : Int) < (mm : Int) := by omega
                      obtain ⟨g5, rfl⟩ := Mm.ownS_some oM (by rw [Mm.mkE_len]; omega)
                      have HXf : Hid (∀ W, Below wr.heap.size wr W → Below W0.heap.size W0 W) := fun W h => bnext hbx h
                      by_cases hjv : j < mv
                      · have hjv' : (j : Int) < (mv : Int) := by omega
                        obtain ⟨g6, rfl⟩ := Mm.ownS_some oV (by rw [Mm.mkE_len]; omega)
                        have HK3 : Hid (∀ W, Below wr.heap.size wr W → W.cell? ⟨gM, c, none⟩ = some (.slice (some ⟨g5, 0, none⟩) mm dm) ∧ W.cell? ⟨gA, c, none⟩ = some (.slice (some ⟨g6, 0, none⟩) mv dvv) ∧ W.cell? ⟨g5, j, none⟩ = some (.string (mkT c)) ∧ W.cell? ⟨g6, j, none⟩ = some (.string (mkT c))) := fun W h => by
                          have hB := bnext hbx h
                          have t1 := (own_cell (Mm.owns_step oM hB) (j := j) (by rw [Mm.mkE_len]; omega)).1
                          have t2 := (own_cell (Mm.owns_step oV hB) (j := j) (by rw [Mm.mkE_len]; omega)).1
                          rw [Mm.mkE_get _ _ _ _ (by omega)] at t1 t2
                          exact ⟨(HK.out W hB).1, (HK.out W hB).2, t1, t2⟩
                        clear oM oV lM lV hbx hi1
                        go_upto_region 44 with (fail)
                        refine wp_region_planV (by kernel_rfl) [181, 182, 183, 184, 185, 186, 187, 188, 189, 190, 191, 192, 193, 194, 195, 196, 197, 198, 199, 200, 201, 202, 203, 204, 205, 206, 207, 208, 209, 210, 211] [.slice (some ⟨gM, 0, none⟩) a capM, .int .i64 (c : Int), .pointer (some ⟨gM, c, none⟩), .slice (some ⟨g5, 0, none⟩) mm dm, .int .i64 (j : Int), .pointer (some ⟨g5, j, none⟩), .string (mkT c), .int .i64 (c : Int), .string (mkT c), .bool false, .bool false, .int .i64 (j : Int), .slice (some ⟨gA, 0, none⟩) a capA, .int .i64 (c : Int), .pointer (some ⟨gA, c, none⟩), .slice (some ⟨g6, 0, none⟩) mv dvv, .int .i64 (mv : Int), .bool true, .bool true, .slice (some ⟨gA, 0, none⟩) a capA, .int .i64 (c : Int), .pointer (some ⟨gA, c, none⟩), .slice (some ⟨g6, 0, none⟩) mv dvv, .int .i64 (j : Int), .pointer (some ⟨g6, j, none⟩), .string (mkT c), .int .i64 (c : Int), .string (mkT c), .bool false, .bool false, .bool false] (by kernel_rfl) rfl ?step ?fin
                        case step =>
                          refine ⟨?_, ?_, ?_, ?_, ?_, ?_, ?_, ?_, ?_, ?_, ?_, ?_, ?_, ?_, ?_, ?_, ?_, ?_, ?_, ?_, ?_, ?_, ?_, ?_, ?_, ?_, ?_, ?_, ?_, ?_, ?_, trivial⟩
                          · intro Ac Wc Kc hB hsm dep hK
                            have t11 : Ac.tmps.getD 11 undef = .slice (some ⟨gM, 0, none⟩) a capM := hsm 11 rfl
                            show Oper.wp _ _ Ac Wc Kc _
                            go_simp
                            exact hK _ _ rfl (Below.refl _ _)
                          · intro Ac Wc Kc hB hsm dep hK
                            have t25 : Ac.tmps.getD 25 undef = .int .i64 (c : Int) := hsm 25 rfl
                            show Oper.wp _ _ Ac Wc Kc _
                            go_simp
                            exact hK _ _ rfl (Below.refl _ _)
                          · intro Ac Wc Kc hB hsm dep hK
                            have t181 : Ac.tmps.getD 181 undef = .slice (some ⟨gM, 0, none⟩) a capM := dep 0 rfl
                            have t182 : Ac.tmps.getD 182 undef = .int .i64 (c : Int) := dep 1 rfl
                            show Oper.wp _ _ Ac Wc Kc _
                            go_simp
                            exact hK _ _ rfl (Below.refl _ _)
                          · intro Ac Wc Kc hB hsm dep hK
                            have t183 : Ac.tmps.getD 183 undef = .pointer (some ⟨gM, c, none⟩) := dep 2 rfl
                            show Oper.wp _ _ Ac Wc Kc _
                            have c0 := (HK3.out Wc hB).1
                            go_simp
                            exact hK _ _ rfl (Below.refl _ _)
                          · intro Ac Wc Kc hB hsm dep hK
                            have t26 : Ac.tmps.getD 26 undef = .int .i64 (j : Int) := hsm 26 rfl
                            show Oper.wp _ _ Ac Wc Kc _
                            go_simp
                            exact hK _ _ rfl (Below.refl _ _)
                          · intro Ac Wc Kc hB hsm dep hK
                            have t184 : Ac.tmps.getD 184 undef = .slice (some ⟨g5, 0, none⟩) mm dm := dep 3 rfl
                            have t185 : Ac.tmps.getD 185 undef = .int .i64 (j : Int) := dep 4 rfl
                            show Oper.wp _ _ Ac Wc Kc _
                            go_simp
                            exact hK _ _ rfl (Below.refl _ _)
                          · intro Ac Wc Kc hB hsm dep hK
                            have t186 : Ac.tmps.getD 186 undef = .pointer (some ⟨g5, j, none⟩) := dep 5 rfl
                            show Oper.wp _ _ Ac Wc Kc _
                            have c0 := (HK3.out Wc hB).2.2.1
                            go_simp
                            exact hK _ _ rfl (Below.refl _ _)
                          · intro Ac Wc Kc hB hsm dep hK
                            have t25 : Ac.tmps.getD 25 undef = .int .i64 (c : Int) := hsm 25 rfl
                            show Oper.wp _ _ Ac Wc Kc _
                            go_simp
                            exact hK _ _ rfl (Below.refl _ _)
                          · intro Ac Wc Kc hB hsm dep hK
                            have t188 : Ac.tmps.getD 188 undef = .int .i64 (c : Int) := dep 7 rfl
                            show Oper.wp _ _ Ac Wc Kc _
                            go_simp
                            refine (HMc.out Wc).mono ?_
                            rintro e w' ⟨rfl, hb⟩
                            exact hK _ _ rfl hb
                          · intro Ac Wc Kc hB hsm dep hK
                            have t187 : Ac.tmps.getD 187 undef = .string (mkT c) := dep 6 rfl
                            have t189 : Ac.tmps.getD 189 undef = .string (mkT c) := dep 8 rfl
                            show Oper.wp _ _ Ac Wc Kc _
                            go_simp
                            exact hK _ _ rfl (Below.refl _ _)
                          · intro Ac Wc Kc hB hsm dep hK
                            have t190 : Ac.tmps.getD 190 undef = .bool false := dep 9 rfl
                            show Oper.wp _ _ Ac Wc Kc _
                            go_simp
                            exact hK _ _ rfl (Below.refl _ _)
                          · intro Ac Wc Kc hB hsm dep hK
                            have t26 : Ac.tmps.getD 26 undef = .int .i64 (j : Int) := hsm 26 rfl
                            refine ⟨false, (show Ac.tmps.getD 191 undef = .bool false from dep 10 rfl), ?_⟩
                            rw [if_pos rfl]
                            go_simp
                            exact hK _ _ rfl (Below.refl _ _)
                          · intro Ac Wc Kc hB hsm dep hK
                            have t10 : Ac.tmps.getD 10 undef = .slice (some ⟨gA, 0, none⟩) a capA := hsm 10 rfl
                            refine ⟨false, (show Ac.tmps.getD 191 undef = .bool false from dep 10 rfl), ?_⟩
                            rw [if_pos rfl]
                            go_simp
                            exact hK _ _ rfl (Below.refl _ _)
                          · intro Ac Wc Kc hB hsm dep hK
                            have t25 : Ac.tmps.getD 25 undef = .int .i64 (c : Int) := hsm 25 rfl
                            refine ⟨false, (show Ac.tmps.getD 191 undef = .bool false from dep 10 rfl), ?_⟩
                            rw [if_pos rfl]
                            go_simp
                            exact hK _ _ rfl (Below.refl _ _)
                          · intro Ac Wc Kc hB hsm dep hK
                            have t193 : Ac.tmps.getD 193 undef = .slice (some ⟨gA, 0, none⟩) a capA := dep 12 rfl
                            have t194 : Ac.tmps.getD 194 undef = .int .i64 (c : Int) := dep 13 rfl
                            refine ⟨false, (show Ac.tmps.getD 191 undef = .bool false from dep 10 rfl), ?_⟩
                            rw [if_pos rfl]
                            go_simp
                            exact hK _ _ rfl (Below.refl _ _)
                          · intro Ac Wc Kc hB hsm dep hK
                            have t195 : Ac.tmps.getD 195 undef = .pointer (some ⟨gA, c, none⟩) := dep 14 rfl
                            refine ⟨false, (show Ac.tmps.getD 191 undef = .bool false from dep 10 rfl), ?_⟩
                            rw [if_pos rfl]
                            have c0 := (HK3.out Wc hB).2.1
                            go_simp
                            exact hK _ _ rfl (Below.refl _ _)
                          · intro Ac Wc Kc hB hsm dep hK
                            have t196 : Ac.tmps.getD 196 undef = .slice (some ⟨g6, 0, none⟩) mv dvv := dep 15 rfl
                            refine ⟨false, (show Ac.tmps.getD 191 undef = .bool false from dep 10 rfl), ?_⟩
                            rw [if_pos rfl]
                            go_simp
                            exact hK _ _ rfl (Below.refl _ _)
                          · intro Ac Wc Kc hB hsm dep hK
                            have t192 : Ac.tmps.getD 192 undef = .int .i64 (j : Int) := dep 11 rfl
                            have t197 : Ac.tmps.getD 197 undef = .int .i64 (mv : Int) := dep 16 rfl
                            refine ⟨false, (show Ac.tmps.getD 191 undef = .bool false from dep 10 rfl), ?_⟩
                            rw [if_pos rfl]
                            have z0 := hjv'
                            go_simp
                            exact hK _ _ rfl (Below.refl _ _)
                          · intro Ac Wc Kc hB hsm dep hK
                            have t198 : Ac.tmps.getD 198 undef = .bool true := dep 17 rfl
                            refine ⟨false, (show Ac.tmps.getD 191 undef = .bool false from dep 10 rfl), ?_⟩
                            rw [if_pos rfl]
                            go_simp
                            exact hK _ _ rfl (Below.refl _ _)
                          · intro Ac Wc Kc hB hsm dep hK
                            have t10 : Ac.tmps.getD 10 undef = .slice (some ⟨gA, 0, none⟩) a capA := hsm 10 rfl
                            refine ⟨true, (show Ac.tmps.getD 199 undef = .bool true from dep 18 rfl), ?_⟩
                            rw [if_pos rfl]
                            go_simp
                            exact hK _ _ rfl (Below.refl _ _)
                          · intro Ac Wc Kc hB hsm dep hK
                            have t25 : Ac.tmps.getD 25 undef = .int .i64 (c : Int) := hsm 25 rfl
                            refine ⟨true, (show Ac.tmps.getD 199 undef = .bool true from dep 18 rfl), ?_⟩
                            rw [if_pos rfl]
                            go_simp
                            exact hK _ _ rfl (Below.refl _ _)
                          · intro Ac Wc Kc hB hsm dep hK
                            have t200 : Ac.tmps.getD 200 undef = .slice (some ⟨gA, 0, none⟩) a capA := dep 19 rfl
                            have t201 : Ac.tmps.getD 201 undef = .int .i64 (c : Int) := dep 20 rfl
                            refine ⟨true, (show Ac.tmps.getD 199 undef = .bool true from dep 18 rfl), ?_⟩
                            rw [if_pos rfl]
                            go_simp
                            exact hK _ _ rfl (Below.refl _ _)
                          · intro Ac Wc Kc hB hsm dep hK
                            have t202 : Ac.tmps.getD 202 undef = .pointer (some ⟨gA, c, none⟩) := dep 21 rfl
                            refine ⟨true, (show Ac.tmps.getD 199 undef = .bool true from dep 18 rfl), ?_⟩
                            rw [if_pos rfl]
                            have c0 := (HK3.out Wc hB).2.1
                            go_simp
                            exact hK _ _ rfl (Below.refl _ _)
                          · intro Ac Wc Kc hB hsm dep hK
                            have t26 : Ac.tmps.getD 26 undef = .int .i64 (j : Int) := hsm 26 rfl
                            refine ⟨true, (show Ac.tmps.getD 199 undef = .bool true from dep 18 rfl), ?_⟩
                            rw [if_pos rfl]
                            go_simp
                            exact hK _ _ rfl (Below.refl _ _)
                          · intro Ac Wc Kc hB hsm dep hK
                            have t203 : Ac.tmps.getD 203 undef = .slice (some ⟨g6, 0, none⟩) mv dvv := dep 22 rfl
                            have t204 : Ac.tmps.getD 204 undef = .int .i64 (j : Int) := dep 23 rfl
                            refine ⟨true, (show Ac.tmps.getD 199 undef = .bool true from dep 18 rfl), ?_⟩
                            rw [if_pos rfl]
                            go_simp
                            exact hK _ _ rfl (Below.refl _ _)
                          · intro Ac Wc Kc hB hsm dep hK
                            have t205 : Ac.tmps.getD 205 undef = .pointer (some ⟨g6, j, none⟩) := dep 24 rfl
                            refine ⟨true, (show Ac.tmps.getD 199 undef = .bool true from dep 18 rfl), ?_⟩
                            rw [if_pos rfl]
                            have c0 := (HK3.out Wc hB).2.2.2
                            go_simp
                            exact hK _ _ rfl (Below.refl _ _)
                          · intro Ac Wc Kc hB hsm dep hK
                            have t25 : Ac.tmps.getD 25 undef = .int .i64 (c : Int) := hsm 25 rfl
                            refine ⟨true, (show Ac.tmps.getD 199 undef = .bool true from dep 18 rfl), ?_⟩
                            rw [if_pos rfl]
                            go_simp
                            exact hK _ _ rfl (Below.refl _ _)
                          · intro Ac Wc Kc hB hsm dep hK
                            have t207 : Ac.tmps.getD 207 undef = .int .i64 (c : Int) := dep 26 rfl
                            refine ⟨true, (show Ac.tmps.getD 199 undef = .bool true from dep 18 rfl), ?_⟩
                            rw [if_pos rfl]
                            go_simp
                            refine (HMc.out Wc).mono ?_
                            rintro e w' ⟨rfl, hb⟩
                            exact hK _ _ rfl hb
                          · intro Ac Wc Kc hB hsm dep hK
                            have t206 : Ac.tmps.getD 206 undef = .string (mkT c) := dep 25 rfl
                            have t208 : Ac.tmps.getD 208 undef = .string (mkT c) := dep 27 rfl
                            refine ⟨true, (show Ac.tmps.getD 199 undef = .bool true from dep 18 rfl), ?_⟩
                            rw [if_pos rfl]
                            go_simp
                            exact hK _ _ rfl (Below.refl _ _)
                          · intro Ac Wc Kc hB hsm dep hK
                            have t199 : Ac.tmps.getD 199 undef = .bool true := dep 18 rfl
                            have t209 : Ac.tmps.getD 209 undef = .bool false := dep 28 rfl
                            refine ⟨false, (show Ac.tmps.getD 191 undef = .bool false from dep 10 rfl), ?_⟩
                            rw [if_pos rfl]
                            go_simp
                            exact hK _ _ rfl (Below.refl _ _)
                          · intro Ac Wc Kc hB hsm dep hK
                            have t191 : Ac.tmps.getD 191 undef = .bool false := dep 10 rfl
                            have t210 : Ac.tmps.getD 210 undef = .bool false := dep 29 rfl
                            show Oper.wp _ _ Ac Wc Kc _
                            go_simp
                            exact hK _ _ rfl (Below.refl _ _)
                        case fin =>
                          intro w9 hb9
                          have HX := hide (HXf.out w9 hb9)
                          clear hb9 HK3 HXf kM kA
                          simp only [puts]
                          go_simp
                          go_wp2
                          go_roundg (mm - (j + 1))
                          case rel =>
                            go_light
                            exact ⟨j + 1, hjl, rfl, by go_num, HX.out⟩
                          case measure => go_light; omega
                      · have hjv' : ¬ ((j : Int) < (mv : Int)) := by omega
                        have HK3 : Hid (∀ W, Below wr.heap.size wr W → W.cell? ⟨gM, c, none⟩ = some (.slice (some ⟨g5, 0, none⟩) mm dm) ∧ W.cell? ⟨gA, c, none⟩ = some (.slice aV mv dvv) ∧ W.cell? ⟨g5, j, none⟩ = some (.string (mkT c))) := fun W h => by
                          have hB := bnext hbx h
                          have t1 := (own_cell (Mm.owns_step oM hB) (j := j) (by rw [Mm.mkE_len]; omega)).1
                          rw [Mm.mkE_get _ _ _ _ (by omega)] at t1
                          exact ⟨(HK.out W hB).1, (HK.out W hB).2, t1⟩
                        clear oM oV lM lV hbx hi1
                        go_upto_region 44 with (fail)
                        refine wp_region_planGU (by kernel_rfl) [181, 182, 183, 184, 185, 186, 187, 188, 189, 190, 191, 192, 193, 194, 195, 196, 197, 198, 199, 200, 201, 202, 203, 204, 205, 206, 207, 208, 209, 210, 211] [.slice (some ⟨gM, 0, none⟩) a capM, .int .i64 (c : Int), .pointer (some ⟨gM, c, none⟩), .slice (some ⟨g5, 0, none⟩) mm dm, .int .i64 (j : Int), .pointer (some ⟨g5, j, none⟩), .string (mkT c), .int .i64 (c : Int), .string (mkT c), .bool false, .bool false, .int .i64 (j : Int), .slice (some ⟨gA, 0, none⟩) a capA, .int .i64 (c : Int), .pointer (some ⟨gA, c, none⟩), .slice aV mv dvv, .int .i64 (mv : Int), .bool false, .bool false, undef, undef, undef, undef, undef, undef, undef, undef, undef, undef, .bool false, .bool false] [] (by kernel_rfl) rfl ?step ?fin
                        case step =>
                          refine ⟨?_, ?_, ?_, ?_, ?_, ?_, ?_, ?_, ?_, ?_, ?_, ?_, ?_, ?_, ?_, ?_, ?_, ?_, ?_, ?_, ?_, ?_, ?_, ?_, ?_, ?_, ?_, ?_, ?_, ?_, ?_, trivial⟩
                          · intro Ac Wc Kc hB hsm dep hK
                            have t11 : Ac.tmps.getD 11 undef = .slice (some ⟨gM, 0, none⟩) a capM := hsm 11 rfl
                            show Oper.wp _ _ Ac Wc Kc _
                            go_simp
                            exact hK _ _ rfl (Below.refl _ _)
                          · intro Ac Wc Kc hB hsm dep hK
                            have t25 : Ac.tmps.getD 25 undef = .int .i64 (c : Int) := hsm 25 rfl
                            show Oper.wp _ _ Ac Wc Kc _
                            go_simp
                            exact hK _ _ rfl (Below.refl _ _)
                          · intro Ac Wc Kc hB hsm dep hK
                            have t181 : Ac.tmps.getD 181 undef = .slice (some ⟨gM, 0, none⟩) a capM := dep 0 rfl
                            have t182 : Ac.tmps.getD 182 undef = .int .i64 (c : Int) := dep 1 rfl
                            show Oper.wp _ _ Ac Wc Kc _
                            go_simp
                            exact hK _ _ rfl (Below.refl _ _)
                          · intro Ac Wc Kc hB hsm dep hK
                            have t183 : Ac.tmps.getD 183 undef = .pointer (some ⟨gM, c, none⟩) := dep 2 rfl
                            show Oper.wp _ _ Ac Wc Kc _
                            have c0 := (HK3.out Wc hB).1
                            go_simp
                            exact hK _ _ rfl (Below.refl _ _)
                          · intro Ac Wc Kc hB hsm dep hK
                            have t26 : Ac.tmps.getD 26 undef = .int .i64 (j : Int) := hsm 26 rfl
                            show Oper.wp _ _ Ac Wc Kc _
                            go_simp
                            exact hK _ _ rfl (Below.refl _ _)
                          · intro Ac Wc Kc hB hsm dep hK
                            have t184 : Ac.tmps.getD 184 undef = .slice (some ⟨g5, 0, none⟩) mm dm := dep 3 rfl
                            have t185 : Ac.tmps.getD 185 undef = .int .i64 (j : Int) := dep 4 rfl
                            show Oper.wp _ _ Ac Wc Kc _
                            go_simp
                            exact hK _ _ rfl (Below.refl _ _)
                          · intro Ac Wc Kc hB hsm dep hK
                            have t186 : Ac.tmps.getD 186 undef = .pointer (some ⟨g5, j, none⟩) := dep 5 rfl
                            show Oper.wp _ _ Ac Wc Kc _
                            have c0 := (HK3.out Wc hB).2.2
                            go_simp
                            exact hK _ _ rfl (Below.refl _ _)
                          · intro Ac Wc Kc hB hsm dep hK
                            have t25 : Ac.tmps.getD 25 undef = .int .i64 (c : Int) := hsm 25 rfl
                            show Oper.wp _ _ Ac Wc Kc _
                            go_simp
                            exact hK _ _ rfl (Below.refl _ _)
                          · intro Ac Wc Kc hB hsm dep hK
                            have t188 : Ac.tmps.getD 188 undef = .int .i64 (c : Int) := dep 7 rfl
                            show Oper.wp _ _ Ac Wc Kc _
                            go_simp
                            refine (HMc.out Wc).mono ?_
                            rintro e w' ⟨rfl, hb⟩
                            exact hK _ _ rfl hb
                          · intro Ac Wc Kc hB hsm dep hK
                            have t187 : Ac.tmps.getD 187 undef = .string (mkT c) := dep 6 rfl
                            have t189 : Ac.tmps.getD 189 undef = .string (mkT c) := dep 8 rfl
                            show Oper.wp _ _ Ac Wc Kc _
                            go_simp
                            exact hK _ _ rfl (Below.refl _ _)
                          · intro Ac Wc Kc hB hsm dep hK
                            have t190 : Ac.tmps.getD 190 undef = .bool false := dep 9 rfl
                            show Oper.wp _ _ Ac Wc Kc _
                            go_simp
                            exact hK _ _ rfl (Below.refl _ _)
                          · intro Ac Wc Kc hB hsm dep hK
                            have t26 : Ac.tmps.getD 26 undef = .int .i64 (j : Int) := hsm 26 rfl
                            refine .inl ⟨false, (show Ac.tmps.getD 191 undef = .bool false from dep 10 rfl), ?_⟩
                            rw [if_pos rfl]
                            go_simp
                            exact hK _ _ rfl (Below.refl _ _)
                          · intro Ac Wc Kc hB hsm dep hK
                            have t10 : Ac.tmps.getD 10 undef = .slice (some ⟨gA, 0, none⟩) a capA := hsm 10 rfl
                            refine .inl ⟨false, (show Ac.tmps.getD 191 undef = .bool false from dep 10 rfl), ?_⟩
                            rw [if_pos rfl]
                            go_simp
                            exact hK _ _ rfl (Below.refl _ _)
                          · intro Ac Wc Kc hB hsm dep hK
                            have t25 : Ac.tmps.getD 25 undef = .int .i64 (c : Int) := hsm 25 rfl
                            refine .inl ⟨false, (show Ac.tmps.getD 191 undef = .bool false from dep 10 rfl), ?_⟩
                            rw [if_pos rfl]
                            go_simp
                            exact hK _ _ rfl (Below.refl _ _)
                          · intro Ac Wc Kc hB hsm dep hK
                            have t193 : Ac.tmps.getD 193 undef = .slice (some ⟨gA, 0, none⟩) a capA := dep 12 rfl
                            have t194 : Ac.tmps.getD 194 undef = .int .i64 (c : Int) := dep 13 rfl
                            refine .inl ⟨false, (show Ac.tmps.getD 191 undef = .bool false from dep 10 rfl), ?_⟩
                            rw [if_pos rfl]
                            go_simp
                            exact hK _ _ rfl (Below.refl _ _)
                          · intro Ac Wc Kc hB hsm dep hK
                            have t195 : Ac.tmps.getD 195 undef = .pointer (some ⟨gA, c, none⟩) := dep 14 rfl
                            refine .inl ⟨false, (show Ac.tmps.getD 191 undef = .bool false from dep 10 rfl), ?_⟩
                            rw [if_pos rfl]
                            have c0 := (HK3.out Wc hB).2.1
                            go_simp
                            exact hK _ _ rfl (Below.refl _ _)
                          · intro Ac Wc Kc hB hsm dep hK
                            have t196 : Ac.tmps.getD 196 undef = .slice aV mv dvv := dep 15 rfl
                            refine .inl ⟨false, (show Ac.tmps.getD 191 undef = .bool false from dep 10 rfl), ?_⟩
                            rw [if_pos rfl]
                            go_simp
                            exact hK _ _ rfl (Below.refl _ _)
                          · intro Ac Wc Kc hB hsm dep hK
                            have t192 : Ac.tmps.getD 192 undef = .int .i64 (j : Int) := dep 11 rfl
                            have t197 : Ac.tmps.getD 197 undef = .int .i64 (mv : Int) := dep 16 rfl
                            refine .inl ⟨false, (show Ac.tmps.getD 191 undef = .bool false from dep 10 rfl), ?_⟩
                            rw [if_pos rfl]
                            have z0 := hjv'
                            go_simp
                            exact hK _ _ rfl (Below.refl _ _)
                          · intro Ac Wc Kc hB hsm dep hK
                            have t198 : Ac.tmps.getD 198 undef = .bool false := dep 17 rfl
                            refine .inl ⟨false, (show Ac.tmps.getD 191 undef = .bool false from dep 10 rfl), ?_⟩
                            rw [if_pos rfl]
                            go_simp
                            exact hK _ _ rfl (Below.refl _ _)
                          · intro Ac Wc Kc hB hsm dep hK
                            refine .inl ⟨false, (show Ac.tmps.getD 199 undef = .bool false from dep 18 rfl), ?_⟩
                            rw [if_neg (by decide)]
                            exact hK _ _ rfl (Below.refl _ _)
                          · intro Ac Wc Kc hB hsm dep hK
                            refine .inl ⟨false, (show Ac.tmps.getD 199 undef = .bool false from dep 18 rfl), ?_⟩
                            rw [if_neg (by decide)]
                            exact hK _ _ rfl (Below.refl _ _)
                          · intro Ac Wc Kc hB hsm dep hK
                            refine .inl ⟨false, (show Ac.tmps.getD 199 undef = .bool false from dep 18 rfl), ?_⟩
                            rw [if_neg (by decide)]
                            exact hK _ _ rfl (Below.refl _ _)
                          · intro Ac Wc Kc hB hsm dep hK
                            refine .inl ⟨false, (show Ac.tmps.getD 199 undef = .bool false from dep 18 rfl), ?_⟩
                            rw [if_neg (by decide)]
                            exact hK _ _ rfl (Below.refl _ _)
                          · intro Ac Wc Kc hB hsm dep hK
                            refine .inl ⟨false, (show Ac.tmps.getD 199 undef = .bool false from dep 18 rfl), ?_⟩
                            rw [if_neg (by decide)]
                            exact hK _ _ rfl (Below.refl _ _)
                          · intro Ac Wc Kc hB hsm dep hK
                            refine .inl ⟨false, (show Ac.tmps.getD 199 undef = .bool false from dep 18 rfl), ?_⟩
                            rw [if_neg (by decide)]
                            exact hK _ _ rfl (Below.refl _ _)
                          · intro Ac Wc Kc hB hsm dep hK
                            refine .inl ⟨false, (show Ac.tmps.getD 199 undef = .bool false from dep 18 rfl), ?_⟩
                            rw [if_neg (by decide)]
                            exact hK _ _ rfl (Below.refl _ _)
                          · intro Ac Wc Kc hB hsm dep hK
                            refine .inl ⟨false, (show Ac.tmps.getD 199 undef = .bool false from dep 18 rfl), ?_⟩
                            rw [if_neg (by decide)]
                            exact hK _ _ rfl (Below.refl _ _)
                          · intro Ac Wc Kc hB hsm dep hK
                            refine .inl ⟨false, (show Ac.tmps.getD 199 undef = .bool false from dep 18 rfl), ?_⟩
                            rw [if_neg (by decide)]
                            exact hK _ _ rfl (Below.refl _ _)
                          · intro Ac Wc Kc hB hsm dep hK
                            refine .inl ⟨false, (show Ac.tmps.getD 199 undef = .bool false from dep 18 rfl), ?_⟩
                            rw [if_neg (by decide)]
                            exact hK _ _ rfl (Below.refl _ _)
                          · intro Ac Wc Kc hB hsm dep hK
                            have t199 : Ac.tmps.getD 199 undef = .bool false := dep 18 rfl
                            have t209 : Ac.tmps.getD 209 undef = undef := dep 28 rfl
                            refine .inl ⟨false, (show Ac.tmps.getD 191 undef = .bool false from dep 10 rfl), ?_⟩
                            rw [if_pos rfl]
                            go_simp
                            exact hK _ _ rfl (Below.refl _ _)
                          · intro Ac Wc Kc hB hsm dep hK
                            have t191 : Ac.tmps.getD 191 undef = .bool false := dep 10 rfl
                            have t210 : Ac.tmps.getD 210 undef = .bool false := dep 29 rfl
                            show Oper.wp _ _ Ac Wc Kc _
                            go_simp
                            exact hK _ _ rfl (Below.refl _ _)
                        case fin =>
                          intro f w9 hb9 hf
                          have HX := hide (HXf.out w9 hb9)
                          rw [show mixG [.slice (some ⟨gM, 0, none⟩) a capM, .int .i64 (c : Int), .pointer (some ⟨gM, c, none⟩), .slice (some ⟨g5, 0, none⟩) mm dm, .int .i64 (j : Int), .pointer (some ⟨g5, j, none⟩), .string (mkT c), .int .i64 (c : Int), .string (mkT c), .bool false, .bool false, .int .i64 (j : Int), .slice (some ⟨gA, 0, none⟩) a capA, .int .i64 (c : Int), .pointer (some ⟨gA, c, none⟩), .slice aV mv dvv, .int .i64 (mv : Int), .bool false, .bool false, undef, undef, undef, undef, undef, undef, undef, undef, undef, undef, .bool false, .bool false] [] f = [.slice (some ⟨gM, 0, none⟩) a capM, .int .i64 (c : Int), .pointer (some ⟨gM, c, none⟩), .slice (some ⟨g5, 0, none⟩) mm dm, .int .i64 (j : Int), .pointer (some ⟨g5, j, none⟩), .string (mkT c), .int .i64 (c : Int), .string (mkT c), .bool false, .bool false, .int .i64 (j : Int), .slice (some ⟨gA, 0, none⟩) a capA, .int .i64 (c : Int), .pointer (some ⟨gA, c, none⟩), .slice aV mv dvv, .int .i64 (mv : Int), .bool false, .bool false, undef, undef, undef, undef, undef, undef, undef, undef, undef, undef, .bool false, .bool false] from rfl]
                          clear hb9 HK3 HXf kM kA hf f
                          simp only [puts]
                          go_simp
                          go_wp2
                          go_roundg (mm - (j + 1))
                          case rel =>
                            go_light
                            exact ⟨j + 1, hjl, rfl, by go_num, HX.out⟩
                          case measure => go_light; omega
                    · obtain rfl : j = mm := by omega
                      have hjl' : ¬ (j : Int) < (j : Int) := by omega
                      have HX : Hid (Below W0.heap.size W0 wr ∧ c + 1 ≤ a) := ⟨hbx, hi1⟩
                      clear oM oV lM lV hjm hjl hbx hi1
                      go_wp2
                      go_roundg (a - (c + 1))
                      case rel =>
                        go_light
                        exact ⟨c + 1, HX.out.2, rfl, by go_num, HX.out.1⟩
                      case measure => go_light; have := HX.out.2; omega
                · obtain rfl : c = a := by omega
                  have hlt' : ¬ ((c : Int) < (c : Int)) := by omega
                  have hF0 : Below wS.heap.size wS wr := bnext H6.out.below hbx
                  obtain ⟨Nn, hNn⟩ : ∃ n, Pl.N T.length = n := ⟨_, rfl⟩
                  have hNl : Nn ≤ 140 := by have := Pl.N_eq T.length; have := HQ.out.1; omega
                  have HSz : Hid (∀ W mx, Frs W mx K T → Calls Tryd.prog 13 #[.pointer (some ⟨mx + 1, 0, none⟩)] W fun e w' => e = .returned (.int .u64 (T.length : Int)) ∧ W = w') := fun W mx h => (fsize_any W mx K T h).mono fun _ _ h => ⟨h.1, h.2.symm⟩
                  have HNd : Hid (∀ W, Calls Tryd.prog 17 #[.int .u64 (T.length : Int)] W fun e w' => e = .returned (.tuple #[.int .u64 (Nn : Int), .bool true]) ∧ W = w') := fun W => by
                    have := Pl.nodes_yes T.length W (by have := HQ.out.1; omega)
                    rw [hNn] at this
                    exact this.mono fun _ _ h => ⟨h.1, h.2.symm⟩
                  have hf0 := HFin.out wr hF0
                  have HF0 := hide hF0
                  clear hbx hca hlt H6 HGM HGA HN HMk
                  go_wp2_with (first
                    | (go_at_call 13; with_reducible refine (HSz.out _ m hf0.1).mono ?_; rintro e w4' ⟨rfl, rfl⟩)
                    | (go_at_call 17; with_reducible refine (HNd.out _).mono ?_; rintro e w4' ⟨rfl, rfl⟩))
                  clear hf0 hF0
                  go_loopg [29] Nn (fun gg i0 wx => ∃ p : Nat, p ≤ Nn ∧ gg = Nn - p ∧ i0 = .int .u64 (p : Int) ∧ Below wS.heap.size wS wx)
                  case atStart =>
                    go_light
                    exact ⟨0, Nat.zero_le _, rfl, rfl, HF0.out⟩
                  case round =>
                    clear HF0
                    obtain ⟨p, hp, rfl, rfl, hb⟩ := hrel
                    by_cases hlp : p < Nn
                    · have hz : (p : Int) < (Nn : Int) := by omega
                      have hz0 : (0 : Int) ≤ (p : Int) := Int.natCast_nonneg _
                      obtain ⟨o, ho⟩ : ∃ o, Hid ((if p ≤ Pl.most then ff (clk K) T ((Pl.blk p).1 : Int) (Pl.blk p).2 else none) = o) := ⟨_, rfl⟩
                      obtain ⟨sd, ok, hso⟩ : ∃ sd ok, Hid (o.getD ByteArray.empty = sd ∧ o.isSome = ok) := ⟨_, _, rfl, rfl⟩
                      have HNo : Hid (∀ W mx, Frs W mx K T → Calls Tryd.prog 18 #[.pointer (some ⟨mx + 1, 0, none⟩), .int .u64 (p : Int)] W fun e w' => e = .returned (.tuple #[.string sd, .bool ok]) ∧ Below W.heap.size W w') := fun W mx hF => fnode_any W mx K T hF p o sd ok ho hso
                      clear ho hso hlp
                      go_wp2_with (first
                        | (go_at_call 18; with_reducible refine (HNo.out _ m (HFin.out _ hb).1).mono ?_; rintro e w5 ⟨rfl, hb5⟩; have b5 := bnext hb hb5)
                        | (go_at_call 18; with_reducible refine (HNo.out _ mg (HFin.out _ b5).2.1).mono ?_; rintro e w6 ⟨rfl, hb6⟩; have b6 := bnext b5 hb6))
                      go_roundg (Nn - (p + 1))
                      case rel =>
                        go_light
                        exact ⟨p + 1, by omega, rfl, by go_num, b6⟩
                      case measure => go_light; omega
                    · obtain rfl : p = Nn := by omega
                      have hz : ¬ ((p : Int) < (p : Int)) := by omega
                      obtain ⟨r, hr⟩ : ∃ r, Hid (rtD (clk K) T T.length = r) := ⟨_, rfl⟩
                      have HRt : Hid (∀ W mx, Tb W → Frs W mx K T → Calls Tryd.prog 16 #[.pointer (some ⟨mx + 1, 0, none⟩), .int .u64 (T.length : Int)] W fun e w' => e = .returned (.tuple #[.agg #[.int .u64 (T.length : Int), .string r], .int .i64 0]) ∧ Below W.heap.size W w') := fun W mx hT hF => froot_ok W hT mx K T hF T.length (Nat.le_refl _) r hr
                      clear hlp hp hr hNn hNl
                      obtain ⟨f1, f2, f3, f4⟩ := HFin.out _ hb
                      go_wp2_with (first
                        | (go_at_call 13; with_reducible refine (HSz.out _ m f1).mono ?_; rintro e w4' ⟨rfl, rfl⟩)
                        | (go_at_call 13; with_reducible refine (HSz.out _ mg f2).mono ?_; rintro e w4' ⟨rfl, rfl⟩)
                        | (go_at_call 16; with_reducible refine (HRt.out _ m f4 f1).mono ?_; rintro e w5 ⟨rfl, hb5⟩; have R5 := rt_new w5 T.length r 41; have b5 := bal (bnext hb hb5) (.cells #[.int .u64 (T.length : Int), .string r] 41); have z5 : w5.heap.size < (w5.alloc (.cells #[.int .u64 (T.length : Int), .string r] 41)).heap.size := (by simp); obtain ⟨f1, f2, f3, f4⟩ := HFin.out _ b5)
                        | (go_at_call 16; with_reducible refine (HRt.out _ mg f4 f2).mono ?_; rintro e w6 ⟨rfl, hb6⟩; have R6 := (R5.below hb6 z5).below (bal (Below.refl _ _) (.cells #[.int .u64 (T.length : Int), .string r] 41)) (Nat.lt_of_lt_of_le z5 hb6.size); have b6 := bal (bnext b5 hb6) (.cells #[.int .u64 (T.length : Int), .string r] 41); have S6 := rt_new w6 T.length r 41; have q0 := R6.c0; have q1 := R6.c1; have q2 := S6.c0; have q3 := S6.c1; obtain ⟨f1, f2, f3, f4⟩ := HFin.out _ b6)
                        | (go_at_call 11; with_reducible refine (num_id 0 _).mono ?_; rintro e wn ⟨rfl, rfl⟩))
                      go_ret
                      exact ⟨rfl, f3⟩
end Go.Proofs.YtabdobdopcfllaaDoor
