/-
  Own work: QPut, QAft.
-/
import Derived.BigQuiet
import Derived.Laws.Cover1
import Derived.Sort.Walk0
import Derived.Test.YthfnpagangjpbabGreatV42
namespace Go.Proofs.YthfnpagangjpbabGreat
open Go.RowKit
attribute [local go_sem ↓] exec_appR
theorem ownR_lt {w : World} {B : Nat} {v : Value} {l : List (List UInt8 × FV)} (h : OwnR w B v l) : ∀ k, v.ownBlock = some k → B ≤ k ∧ k < w.heap.size := World.ownsRow.lt h
theorem ownR_next {w w' : World} {B : Nat} {v : Value} {l : List (List UInt8 × FV)} (h : OwnR w B v l) (hb : Below w.heap.size w w') : OwnR w' B v l := row_keep h fun g hg => hb.block g (h.lt g hg).2
theorem ownR_mono {w : World} {B B' : Nat} {v : Value} {l : List (List UInt8 × FV)} (h : OwnR w B v l) (hB : B' ≤ B) : OwnR w B' v l := World.ownsRow.mono h hB
theorem ownR_nil (w : World) (B : Nat) : OwnR w B (.slice none 0 0) [] := ⟨rfl, .inl ⟨rfl, rfl⟩⟩
theorem three_new (w : World) (a b c : Value) (T : TypeId) : ∀ j u, [a, b, c][j]? = some u → (w.alloc (.cells #[a, b, c] T)).cell? ((⟨w.heap.size, 0, none⟩ : Addr).add j) = some u := fun j u hu => by
  rw [Addr.add_mid, World.cell?_alloc_new, Nat.zero_add]
  simpa using hu
theorem run_app_R (w : World) (ty B : Nat) (v : Value) (L : List (List UInt8 × FV)) (hown : OwnR w B v L) (s : List UInt8) (f : FV) (hlen : L.length + 1 ≤ 2199023255552) (hB : B ≤ w.heap.size) :
    ∃ v' w', (Builtin.append_ #[60, 60] ty #[v, .slice (some ⟨w.heap.size, 0, none⟩) 1 1]).run Tryz.prog (w.alloc (.cells #[.string ⟨s.toArray⟩, .string ⟨f.now.toArray⟩, .string ⟨f.syn.toArray⟩] 59)) = .ok v' w' ∧ OwnR w' B v' (L ++ [(s, f)]) ∧ Below B w w' := by
  obtain ⟨i0, hi, hz0, hz1, hz2⟩ := info_parts Tryz.infoR
  have hb := bal (Below.refl w.heap.size w) (.cells #[.string ⟨s.toArray⟩, .string ⟨f.now.toArray⟩, .string ⟨f.syn.toArray⟩] 59)
  obtain ⟨v', w', q1, q2, q3, _⟩ := run_append_own (P := Tryz.prog) (w.alloc (.cells #[.string ⟨s.toArray⟩, .string ⟨f.now.toArray⟩, .string ⟨f.syn.toArray⟩] 59)) B 60 ty 59 i0 (.agg #[.string ⟨#[]⟩, .string ⟨#[]⟩, .string ⟨#[]⟩]) 3 48 Tryz.underlying60 hi hz0 hz1 hz2 rfl (by decide) v L.length (cR L) (ownR_next hown hb) ⟨w.heap.size, 0, none⟩ 1 1 _ rfl (three_new w _ _ _ _) (by intro u hu; simp at hu; rcases hu with rfl | rfl | rfl <;> rfl) (by unfold maxLen; omega) (by omega) (by simp; omega)
  refine ⟨v', w', q1, ?_, ?_⟩
  · rw [OwnR, cR_app, List.length_append]
    exact q2
  · exact (hb.mono hB).grown q3 (by simp; omega) (fun k hk => (hown.lt k hk).1)
theorem rput_len (L : List (List UInt8 × FV)) (s : List UInt8) (f : FV) : (rput L s f).length ≤ L.length + 1 := by
  induction L with
  | nil => simp [rput]
  | cons q r ih =>
    obtain ⟨t, g⟩ := q
    rw [rput]
    split
    · simp
    · split
      · simp
      · simp; omega
set_option maxRecDepth 100000 in
set_option maxHeartbeats 4000000 in
theorem rput_any (w : World) {p : Nat} {lv : Value} {ka : Option Addr} {kb ko kc : Nat} {V : RV} (h : Rk w p lv ka kb ko kc V) (s nb sb : ByteArray) (hs : s.size ≤ maxLen) (hnb : nb.size ≤ 268435456) (hsb : sb.size ≤ 268435456) (hcn : V.L.length < 1099511627776) :
    Calls Tryz.prog 23 #[.pointer (some ⟨p, 0, none⟩), .agg #[.string s, .string nb, .string sb]] w fun e w' => e = .returned (.tuple #[]) ∧ ∃ lv', Rk w' p lv' ka kb ko kc { V with L := rput V.L s.data.toList ⟨nb.data.toList, sb.data.toList⟩ } ∧ (∀ g, lv'.ownBlock = some g → w.heap.size ≤ g) ∧ Upo (fun x => x = p) w w' := by
  obtain ⟨ao, b, cap, hv, rd, hown⟩ := ownR_rd h.own
  obtain ⟨n, hn⟩ : ∃ n, V.L.length = n := ⟨_, rfl⟩
  obtain ⟨S, hS⟩ : ∃ S, s.data.toList = S := ⟨_, rfl⟩
  obtain ⟨f, hf⟩ : ∃ f : FV, (⟨nb.data.toList, sb.data.toList⟩ : FV) = f := ⟨_, rfl⟩
  rw [hn] at hv
  subst hv
  obtain ⟨w1, hw1⟩ : ∃ W, w.alloc (.cells #[.string s, .string nb, .string sb] 59) = W := ⟨_, rfl⟩
  have HW1 := hide hw1
  have u1 : Below w.heap.size w w1 := by rw [← hw1]; exact bal (Below.refl _ _) _
  have k1 : w1.heap[w.heap.size]? = some (.cells #[.string s, .string nb, .string sb] 59 (0, 0)) := by rw [← hw1]; exact new1 _ _
  have hsz : w1.heap.size = w.heap.size + 1 := by rw [← hw1, World.size_alloc]
  have HH : Hid (V.L.length = n ∧ n < 1099511627776 ∧ Rk w1 p (.slice ao n cap) ka kb ko kc V ∧ RdR w1 ao b V.L ∧ w1.heap[w.heap.size]? = some (.cells #[.string s, .string nb, .string sb] 59 (0, 0)) ∧ Below w.heap.size w w1 ∧ w1.heap.size = w.heap.size + 1) := ⟨hn, by omega, h.next u1, rd.next u1, k1, u1, hsz⟩
  have HS : Hid (s.data.toList = S ∧ (⟨nb.data.toList, sb.data.toList⟩ : FV) = f ∧ S.length ≤ maxLen ∧ f.now.length ≤ 268435456 ∧ f.syn.length ≤ 268435456) := ⟨hS, hf, by rw [← hS, size_list]; exact hs, by rw [← hf]; show nb.data.toList.length ≤ _; rw [size_list]; exact hnb, by rw [← hf]; show sb.data.toList.length ≤ _; rw [size_list]; exact hsb⟩
  rw [hS, hf]
  have HC : Hid (∀ W, Below w1.heap.size w1 W → W.cell? ⟨p, 1, none⟩ = some (.slice ao n cap) ∧ W.cell? ⟨w.heap.size, 0, none⟩ = some (.string s) ∧ W.cell? ⟨w.heap.size, 1, none⟩ = some (.string nb) ∧ W.cell? ⟨w.heap.size, 2, none⟩ = some (.string sb)) := fun W hW => by
    obtain ⟨_, c1, _⟩ := (HH.out.2.2.1.next hW).cells
    exact ⟨c1, three_at ((hW.block _ (by have := HH.out.2.2.2.2.2.2; omega)).trans HH.out.2.2.2.2.1)⟩
  clear hw1 u1 k1 h rd hown hn hcn hS hf hs hnb hsb hsz
  go_enter Tryz.func23, Tryz.ntmps23
  go_upto_region 1 with (fail)
  rw [HW1.out]
  go_wp2
  go_loopg [4, 5, 6] n (fun g x d y wr => ∃ j : Nat, j ≤ n ∧ g = n - j ∧ y = .int .i64 (j : Int) ∧ d = .bool (pgo S f (V.L.take j)).2 ∧ Hid (OwnR wr w1.heap.size x (pgo S f (V.L.take j)).1 ∧ Below w1.heap.size w1 wr))
  case atStart => exact ⟨0, Nat.zero_le _, rfl, rfl, rfl, ownR_nil _ _, Below.refl _ _⟩
  case round =>
    obtain ⟨j, hj, rfl, rfl, rfl, HO⟩ := hrel
    obtain ⟨c1, d0, d1, d2⟩ := HC.out wr HO.out.2
    by_cases hlt : j < n
    · obtain ⟨q1, q2, q3, q4, q5, q6, q7⟩ := HH.out
      obtain ⟨⟨t, g⟩, hx⟩ : ∃ x, V.L.getD j f0 = x := ⟨_, rfl⟩
      have r4 := q4.next HO.out.2
      have e0 := r4.c0 j (by omega)
      rw [hx] at e0
      have ea := q4.ptr (by omega)
      subst ea
      obtain ⟨tb, htb⟩ : ∃ a : ByteArray, ⟨t.toArray⟩ = a := ⟨_, rfl⟩
      simp only at e0
      rw [htb] at e0
      have hi1 : (0 : Int) ≤ (j : Int) := by omega
      have hi2 : (j : Int) < (n : Int) := by omega
      have hw : IntKind.i64.wrap ((j : Int) + 1) = (j : Int) + 1 := by rw [IntKind.wrap_i64]; omega
      obtain ⟨⟨a, dn⟩, hdn⟩ : ∃ d, pgo S f (V.L.take j) = d := ⟨_, rfl⟩
      obtain ⟨bl, hbl⟩ : ∃ c, Op.bytesLess tb.toList s.toList = c := ⟨_, rfl⟩
      have hbl2 : bl = decide (t < S) := by
        rw [← hbl, bytesLess_eq, toList_eq, toList_eq, HS.out.1, ← htb]
      have htk : V.L.take (j + 1) = V.L.take j ++ [(t, g)] := by rw [← hx]; exact take_snoc _ _ _ (by omega)
      have hal : a.length ≤ 2199023255550 := by
        have := pgo_len S f (V.L.take j)
        rw [hdn, List.length_take] at this
        simp only at this
        omega
      have hpg : pgo S f (V.L.take (j + 1)) = pst S f (a, dn) (t, g) := by rw [htk, pgo_snoc, hdn]
      have HX : Hid (bl = decide (t < S) ∧ a.length ≤ 2199023255550 ∧ pgo S f (V.L.take (j + 1)) = pst S f (a, dn) (t, g) ∧ OwnR wr w1.heap.size u4 a ∧ Below w1.heap.size w1 wr ∧ tb.data.toList = t ∧ j + 1 ≤ n) := ⟨hbl2, hal, hpg, by have := HO.out.1; rw [hdn] at this; exact this, HO.out.2, by rw [← htb], hlt⟩
      rw [hdn]
      have HE : Hid (∀ W, Below w1.heap.size w1 W → W.cell? ⟨b, j * 3, none⟩ = some (.string tb) ∧ W.cell? ⟨b, j * 3 + 1, none⟩ = some (.string ⟨g.now.toArray⟩) ∧ W.cell? ⟨b, j * 3 + 2, none⟩ = some (.string ⟨g.syn.toArray⟩)) := fun W hW => by
        have := HH.out.2.2.2.1.next hW
        have e0 := this.c0 j (by omega)
        have e1 := this.c1 j (by omega)
        have e2 := this.c2 j (by omega)
        rw [hx] at e0 e1 e2
        simp only at e0 e1 e2
        rw [htb] at e0
        exact ⟨e0, e1, e2⟩
      clear q1 q2 q3 q4 q5 q6 q7 hx r4 htb htk hal hpg hbl2 HO hdn hj hlt
      simp only
      go_upto_region 6 with (fail)
      go_cut [30] from 7 to 55 (fun v wx => v = .bool (!dn && !bl) ∧ Hid (Below wr.heap.size wr wx))
      case first =>
        cases dn
        · go_quiet (fail)
          go_wp2
          go_meet
          case rel =>
            go_light
            exact ⟨by simp, below_drewN (Below.refl _ _) _⟩
        · go_quiet (fail)
          go_wp2
          go_meet
          case rel =>
            go_light
            exact ⟨by simp, below_drewN (Below.refl _ _) _⟩
      case rest =>
      obtain ⟨rfl, HBc⟩ := hcut
      obtain ⟨w2, hw2⟩ : ∃ W, W = wc := ⟨_, rfl⟩
      subst hw2
      have o2 := ownR_next HX.out.2.2.2.1 HBc.out
      have b2 : Below w1.heap.size w1 w2 := HX.out.2.2.2.2.1.trans (HBc.out.mono HX.out.2.2.2.2.1.size)
      clear c1 d0 d1 d2 e0
      obtain ⟨c1, d0, d1, d2⟩ := HC.out w2 b2
      obtain ⟨e0, e1, e2⟩ := HE.out w2 b2
      go_upto_if 30 with (fail)
      go_cut [4, 5] from 7 to 55 (fun v y wx => ∃ a1 dn1, y = .bool dn1 ∧ Hid (OwnR wx w1.heap.size v a1 ∧ Below w1.heap.size w1 wx ∧ pst S f (a, dn) (t, g) = (if t = S then a1 else a1 ++ [(t, g)], dn1) ∧ a1.length ≤ 2199023255551))
      case first =>
        obtain ⟨ao4, c4, h4⟩ := own_slice o2
        cases hc : (!dn && !bl)
        · have HG : Hid (OwnR w2 w1.heap.size u4 a ∧ Below w1.heap.size w1 w2 ∧ pst S f (a, dn) (t, g) = (if t = S then a else a ++ [(t, g)], dn) ∧ a.length ≤ 2199023255551) := by
            refine ⟨o2, b2, ?_, by have := HX.out.2.1; omega⟩
            unfold pst
            rw [HX.out.1] at hc
            simp only [hc, Bool.false_eq_true, if_false]
          clear o2 b2 e0 e1 e2 c1 d0 d1 d2 h4
          go_wp2
          go_meet
          case rel => exact ⟨a, dn, rfl, HG⟩
        · obtain ⟨v6, w6, hrn, o6, b6⟩ := run_app_R w2 60 w1.heap.size u4 a o2 S f (by have := HX.out.2.1; omega) b2.size
          have hsS : (⟨S.toArray⟩ : ByteArray) = s := by rw [← HS.out.1]
          have hnb : (⟨f.now.toArray⟩ : ByteArray) = nb := by rw [← HS.out.2.1]
          have hsb : (⟨f.syn.toArray⟩ : ByteArray) = sb := by rw [← HS.out.2.1]
          rw [hsS, hnb, hsb] at hrn
          obtain ⟨a6, m6, h6⟩ := own_slice o6
          obtain ⟨N, hN⟩ : ∃ N, (a ++ [(S, f)]).length = N := ⟨_, rfl⟩
          rw [hN] at h6
          clear hN
          have HG : Hid (OwnR w6 w1.heap.size v6 (a ++ [(S, f)]) ∧ Below w1.heap.size w1 w6 ∧ pst S f (a, dn) (t, g) = (if t = S then a ++ [(S, f)] else a ++ [(S, f)] ++ [(t, g)], true) ∧ (a ++ [(S, f)]).length ≤ 2199023255551) := by
            refine ⟨o6, b2.trans b6, ?_, by have := HX.out.2.1; simp; omega⟩
            unfold pst
            rw [HX.out.1] at hc
            simp only [hc, if_true]
          rw [h6] at hrn HG
          rw [h4] at hrn ⊢
          have hap := appR_of hrn
          clear o2 b2 e0 e1 e2 c1 o6 b6 hrn h4 h6 hsS hnb hsb
          go_wp2
          go_meet
          case rel => exact ⟨_, true, rfl, HG⟩
      case rest =>
      obtain ⟨a1, dn1, rfl, HG⟩ := hcut
      obtain ⟨w3, hw3⟩ : ∃ W, W = wc := ⟨_, rfl⟩
      subst hw3
      clear c1 d0 d1 d2 e0 e1 e2 o2 b2 HBc
      obtain ⟨c1, d0, d1, d2⟩ := HC.out w3 HG.out.2.1
      obtain ⟨e0, e1, e2⟩ := HE.out w3 HG.out.2.1
      obtain ⟨ao5, c5, h5⟩ := own_slice HG.out.1
      by_cases hts : tb = s
      · have htS : t = S := by rw [← HX.out.2.2.2.2.2.1, hts, HS.out.1]
        have HF : Hid (∀ W, Below w3.heap.size w3 W → OwnR W w1.heap.size (.slice ao5 a1.length c5) (pgo S f (V.L.take (j + 1))).1 ∧ Below w1.heap.size w1 W ∧ (pgo S f (V.L.take (j + 1))).2 = dn1 ∧ j + 1 ≤ n) := fun W hW => by
          obtain ⟨g1, g2, g3, g4⟩ := HG.out
          rw [HX.out.2.2.1, g3, if_pos htS, ← h5]
          exact ⟨ownR_next g1 hW, g2.trans (hW.mono g2.size), rfl, HX.out.2.2.2.2.2.2⟩
        subst hts
        rw [h5]
        clear HG HE htS h5
        go_upto_region 9 with (fail)
        go_quiet (fail)
        go_wp2
        go_roundg (n - (j + 1))
        case rel =>
          go_light
          obtain ⟨z1, z2, z3, z4⟩ := HF.out _ (below_drewN (Below.refl _ _) _)
          exact ⟨j + 1, z4, rfl, by go_num, by rw [z3], z1, z2⟩
        case measure => go_light; have := (HF.out _ (Below.refl _ _)).2.2.2; omega
      · have htS : ¬ t = S := fun e => hts (ba_ext (by rw [HX.out.2.2.2.2.2.1, e, HS.out.1]))
        have hbe := beq_ne hts
        go_upto_region 9 with (fail)
        go_cut [45] from 7 to 55 (fun v wx => v = .bool true ∧ Hid (Below w3.heap.size w3 wx))
        case first =>
          go_quiet (fail)
          go_wp2
          go_meet
          case rel =>
            go_light
            exact ⟨rfl, below_drewN (Below.refl _ _) _⟩
        case rest =>
        obtain ⟨rfl, HBc⟩ := hcut
        obtain ⟨w4, hw4⟩ : ∃ W, W = wc := ⟨_, rfl⟩
        subst hw4
        obtain ⟨g1, g2, g3, g4⟩ := HG.out
        have b4 : Below w1.heap.size w1 w4 := g2.trans (HBc.out.mono g2.size)
        clear c1 d0 d1 d2 e0 e1 e2
        obtain ⟨c1, d0, d1, d2⟩ := HC.out w4 b4
        obtain ⟨e0, e1, e2⟩ := HE.out w4 b4
        obtain ⟨v6, w6, hrn, o6, b6⟩ := run_app_R w4 60 w1.heap.size _ a1 (ownR_next g1 HBc.out) t g (by omega) b4.size
        have htb : (⟨t.toArray⟩ : ByteArray) = tb := by rw [← HX.out.2.2.2.2.2.1]
        rw [htb] at hrn
        obtain ⟨a6, m6, h6⟩ := own_slice o6
        obtain ⟨N, hN⟩ : ∃ N, (a1 ++ [(t, g)]).length = N := ⟨_, rfl⟩
        rw [hN] at h6
        have HF : Hid (OwnR w6 w1.heap.size v6 (pgo S f (V.L.take (j + 1))).1 ∧ Below w1.heap.size w1 w6 ∧ (pgo S f (V.L.take (j + 1))).2 = dn1 ∧ j + 1 ≤ n) := by
          rw [HX.out.2.2.1, g3, if_neg htS]
          exact ⟨o6, b4.trans b6, rfl, HX.out.2.2.2.2.2.2⟩
        rw [h6] at hrn HF
        rw [h5] at hrn ⊢
        have hap := appR_of hrn
        clear g1 g2 g3 g4 b4 hrn o6 b6 h6 hN htb h5 HG HE HBc hts htS hbe d0 d1 d2
        go_wp2
        go_roundg (n - (j + 1))
        case rel =>
          go_light
          obtain ⟨z1, z2, z3, z4⟩ := HF.out
          exact ⟨j + 1, z4, rfl, by go_num, by rw [z3], z1, z2⟩
        case measure => go_light; have := HF.out.2.2.2; omega
    · obtain rfl : j = n := by omega
      have hz : ¬ ((j : Int) < (j : Int)) := by omega
      have htk : V.L.take j = V.L := List.take_of_length_le (by have := HH.out.1; omega)
      rw [htk]
      obtain ⟨⟨a, dn⟩, hdn⟩ : ∃ d, pgo S f V.L = d := ⟨_, rfl⟩
      have ho := HO.out.1
      rw [htk, hdn] at ho
      have hb := HO.out.2
      have hal : a.length ≤ 2199023255550 := by
        have := pgo_len S f V.L
        rw [hdn] at this
        simp only at this
        have := HH.out.1; have := HH.out.2.1
        omega
      have hpe : pend S f (a, dn) = rput V.L S f := by
        have := pgo_put S f V.L [] HH.out.2.2.1.srt
        rw [show V.L.foldl (pst S f) ([], false) = (a, dn) from hdn] at this
        rw [this, List.nil_append]
      rw [hdn]
      simp only
      have HF : Hid (∀ (W : World) (v : Value), OwnR W w1.heap.size v (rput V.L S f) → Below w1.heap.size w1 W → Rk (W.setCell ⟨p, 1, none⟩ v) p v ka kb ko kc { V with L := rput V.L S f } ∧ (∀ g, v.ownBlock = some g → w.heap.size ≤ g) ∧ Upo (fun x => x = p) w (W.setCell ⟨p, 1, none⟩ v) ∧ W.frozen? ⟨p, 1, none⟩ = false) := fun W v hv hW => by
        obtain ⟨q1, q2, q3, q4, q5, q6, q7⟩ := HH.out
        have r := q3.next hW
        have hpl : p < w1.heap.size := (Array.getElem?_eq_some_iff.1 q3.blk).1
        have hne : ∀ x, x ≠ p → (W.setCell ⟨p, 1, none⟩ v).heap[x]? = W.heap[x]? := fun x hx => Below.heap_setCell _ _ _ _ hx
        refine ⟨⟨?_, row_keep (ownR_mono hv (Nat.zero_le _)) (fun g hg => hne g (by have := (ownR_lt hv g hg).1; omega)), r.kp.same (fun h0 => hne kb (r.pk h0)), fun h0 => (r.kt h0).same (hne kb (r.pk h0)), r.kl, r.rm, r.ct, r.lf, srt_rput r.srt _ _, fun x hx => ?_, fun x hx => ?_, ?_⟩, fun g hg => by have := (ownR_lt hv g hg).1; omega, ?_, r.frz 1⟩
        · exact heap_setCell_same W p 1 _ _ _ r.blk
        · rcases rput_mem hx with hx | rfl
          · exact r.nm x hx
          · exact HS.out.2.2.1
        · rcases rput_mem hx with hx | rfl
          · exact r.sz x hx
          · exact HS.out.2.2.2
        · show (rput V.L S f).length ≤ _
          have := rput_len V.L S f
          omega
        · exact (Upo.of (bnext q6 hW)).set _ _ _ (.inl rfl)
      obtain ⟨ao4, c4, h4⟩ := own_slice ho
      cases dn
      · obtain ⟨v6, w6, hrn, o6, b6⟩ := run_app_R wr 60 w1.heap.size u4 a ho S f (by omega) hb.size
        have hsS : (⟨S.toArray⟩ : ByteArray) = s := by rw [← HS.out.1]
        have hnb : (⟨f.now.toArray⟩ : ByteArray) = nb := by rw [← HS.out.2.1]
        have hsb : (⟨f.syn.toArray⟩ : ByteArray) = sb := by rw [← HS.out.2.1]
        rw [hsS, hnb, hsb] at hrn
        rw [show a ++ [(S, f)] = rput V.L S f from hpe] at o6
        have hF := HF.out w6 v6 o6 (hb.trans b6)
        obtain ⟨a6, m6, h6⟩ := own_slice o6
        obtain ⟨N, hN⟩ : ∃ N, (rput V.L S f).length = N := ⟨_, rfl⟩
        rw [hN] at h6
        rw [h6] at hrn hF
        rw [h4] at hrn ⊢
        have hap := appR_of hrn
        obtain ⟨_, y1, _⟩ := (HH.out.2.2.1.next (hb.trans b6)).cells
        have fz1 := hF.2.2.2
        have HE := hide hF
        clear hrn o6 b6 hF h6 hN h4 hsS hnb hsb ho hb hal hpe hdn HO HF htk hlt hj
        go_wp2
        first | go_end0 | skip
        exact ⟨rfl, _, HE.out.1, HE.out.2.1, HE.out.2.2.1⟩
      · have o6 : OwnR wr w1.heap.size u4 (rput V.L S f) := by rw [← show a = rput V.L S f from hpe]; exact ho
        have hF := HF.out wr u4 o6 hb
        rw [h4] at hF ⊢
        have fz1 := hF.2.2.2
        have HE := hide hF
        clear o6 hF h4 ho hb hal hpe hdn HO HF htk hlt hj
        go_wp2
        first | go_end0 | skip
        exact ⟨rfl, _, HE.out.1, HE.out.2.1, HE.out.2.2.1⟩
end Go.Proofs.YthfnpagangjpbabGreat
namespace Go.Proofs.YthfnpagangjpbabGreat
open Go.RowKit
attribute [local go_sem ↓] exec_appR
def sec' (x : List UInt8) (s j : Nat) : List UInt8 := (List.range 64).map fun i => if i < j then x.getD (64 * s + i) 0 else 0
theorem sec'_len (x : List UInt8) (s j : Nat) : (sec' x s j).length = 64 := by simp [sec']
theorem sec'_zero (x : List UInt8) (s : Nat) : sec' x s 0 = List.replicate 64 0 := by
  simp only [sec', Nat.not_lt_zero, if_false]
  rfl
theorem sec'_all (x : List UInt8) (s : Nat) : sec' x s 64 = sec x s := by
  unfold sec' sec
  refine List.map_congr_left fun i hi => ?_
  rw [if_pos (List.mem_range.1 hi)]
theorem sec'_set (x : List UInt8) (s j : Nat) (hj : j < 64) (v : UInt8) (hv : x.getD (64 * s + j) 0 = v) : (sec' x s j).set j v = sec' x s (j + 1) := by
  apply List.ext_getElem?
  intro i
  rw [List.getElem?_set]
  unfold sec'
  by_cases hi : i < 64
  · simp only [List.getElem?_map, List.getElem?_range hi, Option.map_some, List.length_map, List.length_range]
    by_cases e : j = i
    · subst e
      rw [if_pos rfl, if_pos hj, if_pos (by omega), hv]
    · rw [if_neg e]
      by_cases h2 : i < j
      · rw [if_pos h2, if_pos (by omega)]
      · rw [if_neg h2, if_neg (by omega)]
  · rw [List.getElem?_eq_none (by simp; omega), List.getElem?_eq_none (by simp; omega)]
    split
    · omega
    · rfl
theorem sec'_skip (x : List UInt8) (s j : Nat) (hv : x.length ≤ 64 * s + j) : sec' x s j = sec' x s (j + 1) := by
  unfold sec'
  refine List.map_congr_left fun i _ => ?_
  by_cases h1 : i < j
  · rw [if_pos h1, if_pos (by omega)]
  · rw [if_neg h1]
    by_cases h2 : i < j + 1
    · rw [if_pos h2, List.getD_eq_getElem?_getD, List.getElem?_eq_none (by omega)]; rfl
    · rw [if_neg h2]
def Row64 (w : World) (g : Nat) (l : List UInt8) : Prop := ∃ cur, w.heap[g]? = some (.cells cur 5 (0, 0)) ∧ cur.toList = cY l
theorem Row64.rw {w : World} {g : Nat} {l : List UInt8} (h : Row64 w g l) : Rw w (some ⟨g, 0, none⟩) g l.length l := by
  obtain ⟨cur, h1, h2⟩ := h
  have hl : cur.size = l.length := by rw [← Array.length_toList, h2, cY_len]
  refine ⟨.inr rfl, fun e => (by cases e), fun _ => ⟨_, _, h1⟩, Nat.le_refl _, fun _ j v hv => ?_, fun _ j hj => ⟨?_, frozen_of_row w g _ cur _ h1⟩⟩
  · rw [Nat.zero_add, cell_of_row w g j cur _ (0, 0) h1, ← Array.getElem?_toList, h2, hv]
  · rw [Nat.zero_add, cell_of_row w g j cur _ (0, 0) h1, Array.getElem?_eq_getElem (by omega)]; rfl
theorem Row64.set {w : World} {g j : Nat} {l : List UInt8} (h : Row64 w g l) (v : UInt8) : Row64 (w.setCell ⟨g, j, none⟩ (.int .u8 (v.toNat : Int))) g (l.set j v) := by
  obtain ⟨cur, h1, h2⟩ := h
  refine ⟨_, heap_setCell_same w g j cur _ _ h1, ?_⟩
  rw [Array.toList_setIfInBounds, h2, cY, cY, List.map_set]
theorem idx_byte (s : ByteArray) (k : Nat) (hk : k < s.size) (x : UInt8) (hx : s.data.toList.getD k 0 = x) (W : World) : (Instr.index 9 (.string s) (.int .i64 (k : Int))).run Tryz.prog W = .ok (.int .u8 (x.toNat : Int)) W := by
  have e : s.data.toList.getD k 0 = s[k] := by
    have hd : k < s.data.toList.length := by rw [size_list]; exact hk
    rw [List.getD_eq_getElem?_getD, List.getElem?_eq_getElem hd]
    rfl
  have h2 : s[k]? = some s[k] := getElem?_pos s k hk
  rw [← hx, e]
  simp [Instr.index, asIntOf, run_underlying Tryz.underlying9, h2]
set_option maxRecDepth 100000 in
set_option maxHeartbeats 2000000 in
theorem part_any (w : World) (x : ByteArray) (s : Nat) (hs : s ≤ 4398046511104) (r : ByteArray) (hr : (⟨(sec x.data.toList s).toArray⟩ : ByteArray) = r) :
    Calls Tryz.prog 97 #[.string x, .int .i64 (s : Int)] w fun e w' => e = .returned (.string r) ∧ Below w.heap.size w w' := by
  have hmk : ∀ u : World, (Instr.makeSlice 111 (.int .i64 64) (.int .i64 64)).run Tryz.prog u = .ok (.slice (some ⟨u.heap.size, 0, none⟩) 64 64) (u.alloc (.cells (Array.replicate 64 (Value.int .u8 0)) 5)) := fun u => make_bytes 64 (by decide) u
  obtain ⟨z64, hz⟩ : ∃ z, Array.replicate 64 (Value.int .u8 0) = z := ⟨_, rfl⟩
  rw [hz] at hmk
  have HR := hide hr
  have HS : Hid (s ≤ 4398046511104) := hs
  have HO : Hid (Row64 (w.alloc (.cells z64 5)) w.heap.size (sec' x.data.toList s 0) ∧ Below w.heap.size w (w.alloc (.cells z64 5))) := by
    refine ⟨⟨_, new1 w _, ?_⟩, bal (Below.refl _ _) _⟩
    rw [sec'_zero, ← hz, Array.toList_replicate, cY, List.map_replicate]
    rfl
  clear hr hs hz
  go_enter Tryz.func97, Tryz.ntmps97
  go_wp2
  go_loopg [6] 64 (fun g y wr => ∃ j : Nat, j ≤ 64 ∧ g = 64 - j ∧ y = .int .i64 (j : Int) ∧ Hid (Row64 wr w.heap.size (sec' x.data.toList s j) ∧ Below w.heap.size w wr))
  case atStart =>
    go_light
    exact ⟨0, Nat.zero_le _, rfl, rfl, HO⟩
  case round =>
    clear HO
    obtain ⟨j, hj, rfl, rfl, HQ⟩ := hrel
    by_cases hlt : j < 64
    · have hz : (j : Int) < 64 := by omega
      have hs := HS.out
      have hw1 : IntKind.i64.wrap (64 * (s : Int)) = ((64 * s : Nat) : Int) := by rw [IntKind.wrap_i64]; omega
      obtain ⟨k, hk⟩ : ∃ k, 64 * s = k := ⟨_, rfl⟩
      rw [hk] at hw1
      obtain ⟨m, hm⟩ : ∃ m, k + j = m := ⟨_, rfl⟩
      have hw2 : IntKind.i64.wrap ((k : Int) + (j : Int)) = (m : Int) := by rw [IntKind.wrap_i64]; omega
      have hwj : IntKind.i64.wrap ((j : Int) + 1) = (j : Int) + 1 := by rw [IntKind.wrap_i64]; omega
      have hj0 : (0 : Int) ≤ (j : Int) := by omega
      by_cases hin : m < x.size
      · have hi : (m : Int) < (x.size : Int) := by omega
        have hm0 : (0 : Int) ≤ (m : Int) := by omega
        obtain ⟨v, hv⟩ : ∃ v, x.data.toList.getD m 0 = v := ⟨_, rfl⟩
        have ix := fun W => idx_byte x m hin v hv W
        have hrw := HQ.out.1.rw
        obtain ⟨y, hy⟩ : ∃ y, wr.cell? ⟨w.heap.size, j, none⟩ = some y := ⟨_, hrw.at (by rw [sec'_len]; exact hlt)⟩
        have fz1 : wr.frozen? ⟨w.heap.size, j, none⟩ = false := by obtain ⟨cur, h1, _⟩ := HQ.out.1; exact frozen_of_row wr _ _ cur _ h1
        have HX : Hid (Row64 (wr.setCell ⟨w.heap.size, j, none⟩ (.int .u8 (v.toNat : Int))) w.heap.size (sec' x.data.toList s (j + 1)) ∧ Below w.heap.size w (wr.setCell ⟨w.heap.size, j, none⟩ (.int .u8 (v.toNat : Int)))) := by
          refine ⟨?_, HQ.out.2.setCell (Nat.le_refl _) _⟩
          have := HQ.out.1.set (j := j) v
          rw [sec'_set _ _ _ hlt v (by rw [hk, hm]; exact hv)] at this
          exact this
        clear HQ hrw hv hk hm hs hin
        go_wp2
        go_roundg (64 - (j + 1))
        case rel =>
          go_light
          exact ⟨j + 1, by omega, rfl, by go_num, HX⟩
        case measure => go_light; omega
      · have hi : ¬ ((m : Int) < (x.size : Int)) := by omega
        have HX : Hid (Row64 wr w.heap.size (sec' x.data.toList s (j + 1)) ∧ Below w.heap.size w wr) := by
          refine ⟨?_, HQ.out.2⟩
          rw [← sec'_skip _ _ _ (by rw [size_list]; omega)]
          exact HQ.out.1
        clear HQ hk hm hs hin
        go_wp2
        go_roundg (64 - (j + 1))
        case rel =>
          go_light
          exact ⟨j + 1, by omega, rfl, by go_num, HX⟩
        case measure => go_light; omega
    · obtain rfl : j = 64 := by omega
      have hz : ¬ (((64 : Nat) : Int) < 64) := by omega
      have hcv : (convert 111 9 (.slice (some ⟨w.heap.size, 0, none⟩) 64 64)).run Tryz.prog wr = .ok (.string r) wr := by
        have h := HQ.out.1.rw
        have := h.conv (k := 0) (n := 64) (by rw [sec'_len]; decide) (ax := some ⟨w.heap.size, 0, none⟩) (.inl rfl) (fun _ => .inl rfl) 64
        rw [List.drop_zero, sec'_all, List.take_of_length_le (by rw [sec_len]; decide), HR.out] at this
        exact this
      clear hlt hj
      go_wp2
      go_ret
      exact ⟨rfl, HQ.out.2⟩
structure Pk (w : World) (c : Nat) (ka : Option Addr) (kb ko kc : Nat) (ks : List Bool) (i : Nat) : Prop where
  blk : w.heap[c]? = some (.cells #[.slice ka ks.length kc, .int .i64 ((if ks.length = 0 then 0 else i : Nat) : Int)] 138 (0, 0))
  rd : RdL w ka kb ko ks
  ne : 0 < ks.length → kb ≠ c
  le : i ≤ 4611686018427387904
  kl : ks.length ≤ 140737488355328
theorem Pk.next {w W : World} {c : Nat} {ka : Option Addr} {kb ko kc : Nat} {ks : List Bool} {i : Nat} (h : Pk w c ka kb ko kc ks i) (hb : Below w.heap.size w W) : Pk W c ka kb ko kc ks i :=
  ⟨(hb.block c (Array.getElem?_eq_some_iff.1 h.blk).1).trans h.blk, h.rd.next hb, h.ne, h.le, h.kl⟩
set_option maxRecDepth 100000 in
set_option maxHeartbeats 2000000 in
theorem pick_any (w : World) {c : Nat} {ka : Option Addr} {kb ko kc : Nat} {ks : List Bool} {i : Nat} (h : Pk w c ka kb ko kc ks i) (hi : i + 1 ≤ 4611686018427387904) (b : Bool) (hb : ch ks i = b) :
    Calls Tryz.prog 96 #[.pointer (some ⟨c, 0, none⟩)] w fun e w' => e = .returned (.bool b) ∧ Pk w' c ka kb ko kc ks (i + 1) ∧ Upo (fun x => x = c) w w' := by
  obtain ⟨n, hn⟩ : ∃ n, ks.length = n := ⟨_, rfl⟩
  have hblk := h.blk
  have HH := hide h
  have hkl := h.kl
  by_cases h0 : n = 0
  · subst h0
    obtain rfl : ks = [] := List.length_eq_zero_iff.1 hn
    have hbf : b = false := by rw [← hb]; simp [ch]
    subst hbf
    simp only [List.length_nil, if_true] at hblk
    have c0 : w.cell? ⟨c, 0, none⟩ = some (.slice ka 0 kc) := by rw [cell_of_row w c 0 _ _ (0, 0) hblk]; rfl
    clear hb hn h hkl
    go_enter Tryz.func96, Tryz.ntmps96
    go_wp2
    go_ret
    exact ⟨rfl, ⟨hblk, HH.out.rd, HH.out.ne, hi, HH.out.kl⟩, Upo.refl _ _⟩
  · have hpos : 0 < ks.length := by omega
    rw [if_neg (by omega), hn] at hblk
    have c0 : w.cell? ⟨c, 0, none⟩ = some (.slice ka n kc) := by rw [cell_of_row w c 0 _ _ (0, 0) hblk]; rfl
    have c1 : w.cell? ⟨c, 1, none⟩ = some (.int .i64 (i : Int)) := by rw [cell_of_row w c 1 _ _ (0, 0) hblk]; rfl
    have fz1 : w.frozen? ⟨c, 1, none⟩ = false := frozen_of_row w c 1 _ _ hblk
    obtain ⟨m, hm⟩ : ∃ m, i % n = m := ⟨_, rfl⟩
    have hmn : m < n := by rw [← hm]; exact Nat.mod_lt _ (by omega)
    have ct := h.rd.cell m (by omega)
    have hgb : ks.getD m false = b := by rw [← hb, ch, hn, hm]
    rw [hgb] at ct
    have ea := h.rd.ptr hpos
    subst ea
    have hle := h.le
    have e1 : IntKind.i64.wrap (Int.tmod (i : Int) (n : Int)) = (m : Int) := by
      rw [Int.tmod_eq_emod_of_nonneg (by omega), IntKind.wrap_i64, ← hm]
      omega
    have e2 : Int.tmod (i : Int) (n : Int) = (m : Int) := by
      rw [Int.tmod_eq_emod_of_nonneg (by omega), ← hm]
      omega
    have hm0 : (0 : Int) ≤ (m : Int) := by omega
    have hmn' : (m : Int) < (n : Int) := by omega
    have hn0 : ¬ ((n : Int) = 0) := by omega
    have hn0' : ¬ n = 0 := h0
    have hw : IntKind.i64.wrap ((i : Int) + 1) = (i : Int) + 1 := by rw [IntKind.wrap_i64]; omega
    have HB := hide hblk
    have HN := hide hn
    clear hb hn h hkl hm hmn hgb hle hpos h0 hblk
    go_enter Tryz.func96, Tryz.ntmps96
    go_upto_region 3 with (fail)
    go_quiet (fail)
    obtain ⟨w2, hw2⟩ : ∃ W, w.drewN nq = W := ⟨_, rfl⟩
    have u2 : Below w.heap.size w w2 := by rw [← hw2]; exact below_drewN (Below.refl _ _) _
    have k2 := (u2.block c (Array.getElem?_eq_some_iff.1 HB.out).1).trans HB.out
    have y1 : w2.cell? ⟨c, 1, none⟩ = some (.int .i64 (i : Int)) := by rw [cell_of_row w2 c 1 _ _ (0, 0) k2]; rfl
    have z1 : w2.frozen? ⟨c, 1, none⟩ = false := frozen_of_row w2 c 1 _ _ k2
    have HU := hide u2
    have HK := hide k2
    rw [hw2]
    clear hw2 u2 k2 c0 c1 ct fz1
    go_wp2
    go_ret
    have hne := HH.out.ne (by have := HN.out; omega)
    refine ⟨rfl, ⟨?_, ?_, HH.out.ne, hi, HH.out.kl⟩, (Upo.of HU.out).set _ _ _ (.inl rfl)⟩
    · rw [if_neg (by have := HN.out; omega), HN.out]
      have := heap_setCell_same w2 c 1 _ _ (.int .i64 ((i : Int) + 1)) HK.out
      rw [this]
      rfl
    · exact (HH.out.rd.next HU.out).same (fun _ => Below.heap_setCell _ _ _ _ hne)
end Go.Proofs.YthfnpagangjpbabGreat
