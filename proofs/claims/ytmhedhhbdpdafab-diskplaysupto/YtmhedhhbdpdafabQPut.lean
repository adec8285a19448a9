/-
  put of the document's disk. Own work.
-/
import Derived.Test.YtmhedhhbdpdafabQUse
import Derived.Test.YtmhedhhbdpdafabGKd
import Derived.BigQuiet
import Derived.Laws.Cover1
import Derived.Sort.Walk0
namespace Go.Proofs.Ytmhedhhbdpdafab
open Go.RowKit
attribute [local go_sem ↓] exec_appR
theorem ownR_lt {w : World} {B : Nat} {v : Value} {l : List (List UInt8 × FV)} (h : OwnR w B v l) : ∀ k, v.ownBlock = some k → B ≤ k ∧ k < w.heap.size := World.ownsRow.lt h
theorem ownR_next {w w' : World} {B : Nat} {v : Value} {l : List (List UInt8 × FV)} (h : OwnR w B v l) (hb : Below w.heap.size w w') : OwnR w' B v l := row_keep h fun g hg => hb.block g (h.lt g hg).2
theorem ownR_mono {w : World} {B B' : Nat} {v : Value} {l : List (List UInt8 × FV)} (h : OwnR w B v l) (hB : B' ≤ B) : OwnR w B' v l := World.ownsRow.mono h hB
theorem ownR_nil (w : World) (B : Nat) : OwnR w B (.slice none 0 0) [] := ⟨rfl, .inl ⟨rfl, rfl⟩⟩
theorem three_new (w : World) (a b c : Value) (T : TypeId) : ∀ j u, [a, b, c][j]? = some u → (w.alloc (.cells #[a, b, c] T)).cell? ((⟨w.heap.size, 0, none⟩ : Addr).add j) = some u := fun j u hu => by
  rw [Addr.add_mid, World.cell?_alloc_new, Nat.zero_add]
  simpa using hu
/-- One of its files appended. -/
theorem run_app_R (w : World) (ty B : Nat) (v : Value) (L : List (List UInt8 × FV)) (hown : OwnR w B v L) (s : List UInt8) (f : FV) (hlen : L.length + 1 ≤ 2199023255552) (hB : B ≤ w.heap.size) :
    ∃ v' w', (Builtin.append_ #[63, 63] ty #[v, .slice (some ⟨w.heap.size, 0, none⟩) 1 1]).run Try.prog (w.alloc (.cells #[.string ⟨s.toArray⟩, .string ⟨f.now.toArray⟩, .string ⟨f.syn.toArray⟩] 83)) = .ok v' w' ∧ OwnR w' B v' (L ++ [(s, f)]) ∧ Below B w w' := by
  obtain ⟨i0, hi, hz0, hz1, hz2⟩ := info_parts Try.infoR
  have hb := bal (Below.refl w.heap.size w) (.cells #[.string ⟨s.toArray⟩, .string ⟨f.now.toArray⟩, .string ⟨f.syn.toArray⟩] 83)
  obtain ⟨v', w', q1, q2, q3, _⟩ := run_append_own (P := Try.prog) (w.alloc (.cells #[.string ⟨s.toArray⟩, .string ⟨f.now.toArray⟩, .string ⟨f.syn.toArray⟩] 83)) B 63 ty 83 i0 (.agg #[.string ⟨#[]⟩, .string ⟨#[]⟩, .string ⟨#[]⟩]) 3 48 Try.underlying63 hi hz0 hz1 hz2 rfl (by decide) v L.length (cR L) (ownR_next hown hb) ⟨w.heap.size, 0, none⟩ 1 1 _ rfl (three_new w _ _ _ _) (by intro u hu; simp at hu; rcases hu with rfl | rfl | rfl <;> rfl) (by unfold maxLen; omega) (by omega) (by simp; omega)
  refine ⟨v', w', q1, ?_, ?_⟩
  · rw [OwnR, cR_app, List.length_append]
    exact q2
  · exact (hb.mono hB).grown q3 (by simp; omega) (fun k hk => (hown.lt k hk).1)
theorem rput_len (L : List (List UInt8 × FV)) (s : List UInt8) (f : FV) : (rput L s f).length ≤ L.length + 1 := by
  induction L with
  | nil => simp [rput]
  | cons q r ih =>
    obtain ⟨t, g⟩ := q
    rw [rput]
    split
    · simp
    · split
      · simp
      · simp; omega
set_option maxRecDepth 100000 in
set_option maxHeartbeats 4000000 in
theorem rput_any (w : World) {p : Nat} {lv : Value} {ka : Option Addr} {kb ko kc : Nat} {V : RV} (h : Rk w p lv ka kb ko kc V) (s nb sb : ByteArray) (hs : s.size ≤ maxLen) (hnb : nb.size ≤ 268435456) (hsb : sb.size ≤ 268435456) (hcn : V.L.length < 1099511627776) :
    Calls Try.prog 45 #[.pointer (some ⟨p, 0, none⟩), .agg #[.string s, .string nb, .string sb]] w fun e w' => e = .returned (.tuple #[]) ∧ ∃ lv', Rk w' p lv' ka kb ko kc { V with L := rput V.L s.data.toList ⟨nb.data.toList, sb.data.toList⟩ } ∧ (∀ g, lv'.ownBlock = some g → w.heap.size ≤ g) ∧ Upo (fun x => x = p) w w' := by
  obtain ⟨ao, b, cap, hv, rd, hown⟩ := ownR_rd h.own
  obtain ⟨n, hn⟩ : ∃ n, V.L.length = n := ⟨_, rfl⟩
  obtain ⟨S, hS⟩ : ∃ S, s.data.toList = S := ⟨_, rfl⟩
  obtain ⟨f, hf⟩ : ∃ f : FV, (⟨nb.data.toList, sb.data.toList⟩ : FV) = f := ⟨_, rfl⟩
  rw [hn] at hv
  subst hv
  obtain ⟨w1, hw1⟩ : ∃ W, w.alloc (.cells #[.string s, .string nb, .string sb] 83) = W := ⟨_, rfl⟩
  have HW1 := hide hw1
  have u1 : Below w.heap.size w w1 := by rw [← hw1]; exact bal (Below.refl _ _) _
  have k1 : w1.heap[w.heap.size]? = some (.cells #[.string s, .string nb, .string sb] 83 (0, 0)) := by rw [← hw1]; exact new1 _ _
  have hsz : w1.heap.size = w.heap.size + 1 := by rw [← hw1, World.size_alloc]
  have HH : Hid (V.L.length = n ∧ n < 1099511627776 ∧ Rk w1 p (.slice ao n cap) ka kb ko kc V ∧ RdR w1 ao b V.L ∧ w1.heap[w.heap.size]? = some (.cells #[.string s, .string nb, .string sb] 83 (0, 0)) ∧ Below w.heap.size w w1 ∧ w1.heap.size = w.heap.size + 1) := ⟨hn, by omega, h.next u1, rd.next u1, k1, u1, hsz⟩
  have HS : Hid (s.data.toList = S ∧ (⟨nb.data.toList, sb.data.toList⟩ : FV) = f ∧ S.length ≤ maxLen ∧ f.now.length ≤ 268435456 ∧ f.syn.length ≤ 268435456) := ⟨hS, hf, by rw [← hS, size_list]; exact hs, by rw [← hf]; show nb.data.toList.length ≤ _; rw [size_list]; exact hnb, by rw [← hf]; show sb.data.toList.length ≤ _; rw [size_list]; exact hsb⟩
  rw [hS, hf]
  have HC : Hid (∀ W, Below w1.heap.size w1 W → W.cell? ⟨p, 1, none⟩ = some (.slice ao n cap) ∧ W.cell? ⟨w.heap.size, 0, none⟩ = some (.string s) ∧ W.cell? ⟨w.heap.size, 1, none⟩ = some (.string nb) ∧ W.cell? ⟨w.heap.size, 2, none⟩ = some (.string sb)) := fun W hW => by
    obtain ⟨_, c1, _⟩ := (HH.out.2.2.1.next hW).cells
    exact ⟨c1, three_at ((hW.block _ (by have := HH.out.2.2.2.2.2.2; omega)).trans HH.out.2.2.2.2.1)⟩
  clear hw1 u1 k1 h rd hown hn hcn hS hf hs hnb hsb hsz
  go_enter Try.func45, Try.ntmps45
  go_upto_region 1 with (fail)
  rw [HW1.out]
  go_wp2
  go_loopg [4, 5, 6] n (fun g x d y wr => ∃ j : Nat, j ≤ n ∧ g = n - j ∧ y = .int .i64 (j : Int) ∧ d = .bool (pgo S f (V.L.take j)).2 ∧ Hid (OwnR wr w1.heap.size x (pgo S f (V.L.take j)).1 ∧ Below w1.heap.size w1 wr))
  case atStart => exact ⟨0, Nat.zero_le _, rfl, rfl, rfl, ownR_nil _ _, Below.refl _ _⟩
  case round =>
    obtain ⟨j, hj, rfl, rfl, rfl, HO⟩ := hrel
    obtain ⟨c1, d0, d1, d2⟩ := HC.out wr HO.out.2
    by_cases hlt : j < n
    · obtain ⟨q1, q2, q3, q4, q5, q6, q7⟩ := HH.out
      obtain ⟨⟨t, g⟩, hx⟩ : ∃ x, V.L.getD j f0 = x := ⟨_, rfl⟩
      have r4 := q4.next HO.out.2
      have e0 := r4.c0 j (by omega)
      rw [hx] at e0
      have ea := q4.ptr (by omega)
      subst ea
      obtain ⟨tb, htb⟩ : ∃ a : ByteArray, ⟨t.toArray⟩ = a := ⟨_, rfl⟩
      simp only at e0
      rw [htb] at e0
      have hi1 : (0 : Int) ≤ (j : Int) := by omega
      have hi2 : (j : Int) < (n : Int) := by omega
      have hw : IntKind.i64.wrap ((j : Int) + 1) = (j : Int) + 1 := by rw [IntKind.wrap_i64]; omega
      obtain ⟨⟨a, dn⟩, hdn⟩ : ∃ d, pgo S f (V.L.take j) = d := ⟨_, rfl⟩
      obtain ⟨bl, hbl⟩ : ∃ c, Op.bytesLess tb.toList s.toList = c := ⟨_, rfl⟩
      have hbl2 : bl = decide (t < S) := by
        rw [← hbl, bytesLess_eq, toList_eq, toList_eq, HS.out.1, ← htb]
      have htk : V.L.take (j + 1) = V.L.take j ++ [(t, g)] := by rw [← hx]; exact take_snoc _ _ _ (by omega)
      have hal : a.length ≤ 2199023255550 := by
        have := pgo_len S f (V.L.take j)
        rw [hdn, List.length_take] at this
        simp only at this
        omega
      have hpg : pgo S f (V.L.take (j + 1)) = pst S f (a, dn) (t, g) := by rw [htk, pgo_snoc, hdn]
      have HX : Hid (bl = decide (t < S) ∧ a.length ≤ 2199023255550 ∧ pgo S f (V.L.take (j + 1)) = pst S f (a, dn) (t, g) ∧ OwnR wr w1.heap.size u4 a ∧ Below w1.heap.size w1 wr ∧ tb.data.toList = t ∧ j + 1 ≤ n) := ⟨hbl2, hal, hpg, by have := HO.out.1; rw [hdn] at this; exact this, HO.out.2, by rw [← htb], hlt⟩
      rw [hdn]
      have HE : Hid (∀ W, Below w1.heap.size w1 W → W.cell? ⟨b, j * 3, none⟩ = some (.string tb) ∧ W.cell? ⟨b, j * 3 + 1, none⟩ = some (.string ⟨g.now.toArray⟩) ∧ W.cell? ⟨b, j * 3 + 2, none⟩ = some (.string ⟨g.syn.toArray⟩)) := fun W hW => by
        have := HH.out.2.2.2.1.next hW
        have e0 := this.c0 j (by omega)
        have e1 := this.c1 j (by omega)
        have e2 := this.c2 j (by omega)
        rw [hx] at e0 e1 e2
        simp only at e0 e1 e2
        rw [htb] at e0
        exact ⟨e0, e1, e2⟩
      clear q1 q2 q3 q4 q5 q6 q7 hx r4 htb htk hal hpg hbl2 HO hdn hj hlt
      simp only
      go_upto_region 6 with (fail)
      go_cut [30] from 7 to 55 (fun v wx => v = .bool (!dn && !bl) ∧ Hid (Below wr.heap.size wr wx))
      case first =>
        cases dn
        · go_quiet (fail)
          go_wp2
          go_meet
          case rel =>
            go_light
            exact ⟨by simp, below_drewN (Below.refl _ _) _⟩
        · go_quiet (fail)
          go_wp2
          go_meet
          case rel =>
            go_light
            exact ⟨by simp, below_drewN (Below.refl _ _) _⟩
      case rest =>
      obtain ⟨rfl, HBc⟩ := hcut
      obtain ⟨w2, hw2⟩ : ∃ W, W = wc := ⟨_, rfl⟩
      subst hw2
      have o2 := ownR_next HX.out.2.2.2.1 HBc.out
      have b2 : Below w1.heap.size w1 w2 := HX.out.2.2.2.2.1.trans (HBc.out.mono HX.out.2.2.2.2.1.size)
      clear c1 d0 d1 d2 e0
      obtain ⟨c1, d0, d1, d2⟩ := HC.out w2 b2
      obtain ⟨e0, e1, e2⟩ := HE.out w2 b2
      go_upto_if 30 with (fail)
      go_cut [4, 5] from 7 to 55 (fun v y wx => ∃ a1 dn1, y = .bool dn1 ∧ Hid (OwnR wx w1.heap.size v a1 ∧ Below w1.heap.size w1 wx ∧ pst S f (a, dn) (t, g) = (if t = S then a1 else a1 ++ [(t, g)], dn1) ∧ a1.length ≤ 2199023255551))
      case first =>
        obtain ⟨ao4, c4, h4⟩ := own_slice o2
        cases hc : (!dn && !bl)
        · have HG : Hid (OwnR w2 w1.heap.size u4 a ∧ Below w1.heap.size w1 w2 ∧ pst S f (a, dn) (t, g) = (if t = S then a else a ++ [(t, g)], dn) ∧ a.length ≤ 2199023255551) := by
            refine ⟨o2, b2, ?_, by have := HX.out.2.1; omega⟩
            unfold pst
            rw [HX.out.1] at hc
            simp only [hc, Bool.false_eq_true, if_false]
          clear o2 b2 e0 e1 e2 c1 d0 d1 d2 h4
          go_wp2
          go_meet
          case rel => exact ⟨a, dn, rfl, HG⟩
        · obtain ⟨v6, w6, hrn, o6, b6⟩ := run_app_R w2 63 w1.heap.size u4 a o2 S f (by have := HX.out.2.1; omega) b2.size
          have hsS : (⟨S.toArray⟩ : ByteArray) = s := by rw [← HS.out.1]
          have hnb : (⟨f.now.toArray⟩ : ByteArray) = nb := by rw [← HS.out.2.1]
          have hsb : (⟨f.syn.toArray⟩ : ByteArray) = sb := by rw [← HS.out.2.1]
          rw [hsS, hnb, hsb] at hrn
          obtain ⟨a6, m6, h6⟩ := own_slice o6
          obtain ⟨N, hN⟩ : ∃ N, (a ++ [(S, f)]).length = N := ⟨_, rfl⟩
          rw [hN] at h6
          clear hN
          have HG : Hid (OwnR w6 w1.heap.size v6 (a ++ [(S, f)]) ∧ Below w1.heap.size w1 w6 ∧ pst S f (a, dn) (t, g) = (if t = S then a ++ [(S, f)] else a ++ [(S, f)] ++ [(t, g)], true) ∧ (a ++ [(S, f)]).length ≤ 2199023255551) := by
            refine ⟨o6, b2.trans b6, ?_, by have := HX.out.2.1; simp; omega⟩
            unfold pst
            rw [HX.out.1] at hc
            simp only [hc, if_true]
          rw [h6] at hrn HG
          rw [h4] at hrn ⊢
          have hap := appR_of hrn
          clear o2 b2 e0 e1 e2 c1 o6 b6 hrn h4 h6 hsS hnb hsb
          go_wp2
          go_meet
          case rel => exact ⟨_, true, rfl, HG⟩
      case rest =>
      obtain ⟨a1, dn1, rfl, HG⟩ := hcut
      obtain ⟨w3, hw3⟩ : ∃ W, W = wc := ⟨_, rfl⟩
      subst hw3
      clear c1 d0 d1 d2 e0 e1 e2 o2 b2 HBc
      obtain ⟨c1, d0, d1, d2⟩ := HC.out w3 HG.out.2.1
      obtain ⟨e0, e1, e2⟩ := HE.out w3 HG.out.2.1
      obtain ⟨ao5, c5, h5⟩ := own_slice HG.out.1
      by_cases hts : tb = s
      · have htS : t = S := by rw [← HX.out.2.2.2.2.2.1, hts, HS.out.1]
        have HF : Hid (∀ W, Below w3.heap.size w3 W → OwnR W w1.heap.size (.slice ao5 a1.length c5) (pgo S f (V.L.take (j + 1))).1 ∧ Below w1.heap.size w1 W ∧ (pgo S f (V.L.take (j + 1))).2 = dn1 ∧ j + 1 ≤ n) := fun W hW => by
          obtain ⟨g1, g2, g3, g4⟩ := HG.out
          rw [HX.out.2.2.1, g3, if_pos htS, ← h5]
          exact ⟨ownR_next g1 hW, g2.trans (hW.mono g2.size), rfl, HX.out.2.2.2.2.2.2⟩
        subst hts
        rw [h5]
        clear HG HE htS h5
        go_upto_region 9 with (fail)
        go_quiet (fail)
        go_wp2
        go_roundg (n - (j + 1))
        case rel =>
          go_light
          obtain ⟨z1, z2, z3, z4⟩ := HF.out _ (below_drewN (Below.refl _ _) _)
          exact ⟨j + 1, z4, rfl, by go_num, by rw [z3], z1, z2⟩
        case measure => go_light; have := (HF.out _ (Below.refl _ _)).2.2.2; omega
      · have htS : ¬ t = S := fun e => hts (ba_ext (by rw [HX.out.2.2.2.2.2.1, e, HS.out.1]))
        have hbe := beq_ne hts
        go_upto_region 9 with (fail)
        go_cut [45] from 7 to 55 (fun v wx => v = .bool true ∧ Hid (Below w3.heap.size w3 wx))
        case first =>
          go_quiet (fail)
          go_wp2
          go_meet
          case rel =>
            go_light
            exact ⟨rfl, below_drewN (Below.refl _ _) _⟩
        case rest =>
        obtain ⟨rfl, HBc⟩ := hcut
        obtain ⟨w4, hw4⟩ : ∃ W, W = wc := ⟨_, rfl⟩
        subst hw4
        obtain ⟨g1, g2, g3, g4⟩ := HG.out
        have b4 : Below w1.heap.size w1 w4 := g2.trans (HBc.out.mono g2.size)
        clear c1 d0 d1 d2 e0 e1 e2
        obtain ⟨c1, d0, d1, d2⟩ := HC.out w4 b4
        obtain ⟨e0, e1, e2⟩ := HE.out w4 b4
        obtain ⟨v6, w6, hrn, o6, b6⟩ := run_app_R w4 63 w1.heap.size _ a1 (ownR_next g1 HBc.out) t g (by omega) b4.size
        have htb : (⟨t.toArray⟩ : ByteArray) = tb := by rw [← HX.out.2.2.2.2.2.1]
        rw [htb] at hrn
        obtain ⟨a6, m6, h6⟩ := own_slice o6
        obtain ⟨N, hN⟩ : ∃ N, (a1 ++ [(t, g)]).length = N := ⟨_, rfl⟩
        rw [hN] at h6
        have HF : Hid (OwnR w6 w1.heap.size v6 (pgo S f (V.L.take (j + 1))).1 ∧ Below w1.heap.size w1 w6 ∧ (pgo S f (V.L.take (j + 1))).2 = dn1 ∧ j + 1 ≤ n) := by
          rw [HX.out.2.2.1, g3, if_neg htS]
          exact ⟨o6, b4.trans b6, rfl, HX.out.2.2.2.2.2.2⟩
        rw [h6] at hrn HF
        rw [h5] at hrn ⊢
        have hap := appR_of hrn
        clear g1 g2 g3 g4 b4 hrn o6 b6 h6 hN htb h5 HG HE HBc hts htS hbe d0 d1 d2
        go_wp2
        go_roundg (n - (j + 1))
        case rel =>
          go_light
          obtain ⟨z1, z2, z3, z4⟩ := HF.out
          exact ⟨j + 1, z4, rfl, by go_num, by rw [z3], z1, z2⟩
        case measure => go_light; have := HF.out.2.2.2; omega
    · obtain rfl : j = n := by omega
      have hz : ¬ ((j : Int) < (j : Int)) := by omega
      have htk : V.L.take j = V.L := List.take_of_length_le (by have := HH.out.1; omega)
      rw [htk]
      obtain ⟨⟨a, dn⟩, hdn⟩ : ∃ d, pgo S f V.L = d := ⟨_, rfl⟩
      have ho := HO.out.1
      rw [htk, hdn] at ho
      have hb := HO.out.2
      have hal : a.length ≤ 2199023255550 := by
        have := pgo_len S f V.L
        rw [hdn] at this
        simp only at this
        have := HH.out.1; have := HH.out.2.1
        omega
      have hpe : pend S f (a, dn) = rput V.L S f := by
        have := pgo_put S f V.L [] HH.out.2.2.1.srt
        rw [show V.L.foldl (pst S f) ([], false) = (a, dn) from hdn] at this
        rw [this, List.nil_append]
      rw [hdn]
      simp only
      have HF : Hid (∀ (W : World) (v : Value), OwnR W w1.heap.size v (rput V.L S f) → Below w1.heap.size w1 W → Rk (W.setCell ⟨p, 1, none⟩ v) p v ka kb ko kc { V with L := rput V.L S f } ∧ (∀ g, v.ownBlock = some g → w.heap.size ≤ g) ∧ Upo (fun x => x = p) w (W.setCell ⟨p, 1, none⟩ v) ∧ W.frozen? ⟨p, 1, none⟩ = false) := fun W v hv hW => by
        obtain ⟨q1, q2, q3, q4, q5, q6, q7⟩ := HH.out
        have r := q3.next hW
        have hpl : p < w1.heap.size := (Array.getElem?_eq_some_iff.1 q3.blk).1
        have hne : ∀ x, x ≠ p → (W.setCell ⟨p, 1, none⟩ v).heap[x]? = W.heap[x]? := fun x hx => Below.heap_setCell _ _ _ _ hx
        refine ⟨⟨?_, row_keep (ownR_mono hv (Nat.zero_le _)) (fun g hg => hne g (by have := (ownR_lt hv g hg).1; omega)), r.kp.same (fun h0 => hne kb (r.pk h0)), fun h0 => (r.kt h0).same (hne kb (r.pk h0)), r.kl, r.rm, r.ct, r.lf, srt_rput r.srt _ _, fun x hx => ?_, fun x hx => ?_, ?_⟩, fun g hg => by have := (ownR_lt hv g hg).1; omega, ?_, r.frz 1⟩
        · exact heap_setCell_same W p 1 _ _ _ r.blk
        · rcases rput_mem hx with hx | rfl
          · exact r.nm x hx
          · exact HS.out.2.2.1
        · rcases rput_mem hx with hx | rfl
          · exact r.sz x hx
          · exact HS.out.2.2.2
        · show (rput V.L S f).length ≤ _
          have := rput_len V.L S f
          omega
        · exact (Upo.of (bnext q6 hW)).set _ _ _ (.inl rfl)
      obtain ⟨ao4, c4, h4⟩ := own_slice ho
      cases dn
      · obtain ⟨v6, w6, hrn, o6, b6⟩ := run_app_R wr 63 w1.heap.size u4 a ho S f (by omega) hb.size
        have hsS : (⟨S.toArray⟩ : ByteArray) = s := by rw [← HS.out.1]
        have hnb : (⟨f.now.toArray⟩ : ByteArray) = nb := by rw [← HS.out.2.1]
        have hsb : (⟨f.syn.toArray⟩ : ByteArray) = sb := by rw [← HS.out.2.1]
        rw [hsS, hnb, hsb] at hrn
        rw [show a ++ [(S, f)] = rput V.L S f from hpe] at o6
        have hF := HF.out w6 v6 o6 (hb.trans b6)
        obtain ⟨a6, m6, h6⟩ := own_slice o6
        obtain ⟨N, hN⟩ : ∃ N, (rput V.L S f).length = N := ⟨_, rfl⟩
        rw [hN] at h6
        rw [h6] at hrn hF
        rw [h4] at hrn ⊢
        have hap := appR_of hrn
        obtain ⟨_, y1, _⟩ := (HH.out.2.2.1.next (hb.trans b6)).cells
        have fz1 := hF.2.2.2
        have HE := hide hF
        clear hrn o6 b6 hF h6 hN h4 hsS hnb hsb ho hb hal hpe hdn HO HF htk hlt hj
        go_wp2
        first | go_end0 | skip
        exact ⟨rfl, _, HE.out.1, HE.out.2.1, HE.out.2.2.1⟩
      · have o6 : OwnR wr w1.heap.size u4 (rput V.L S f) := by rw [← show a = rput V.L S f from hpe]; exact ho
        have hF := HF.out wr u4 o6 hb
        rw [h4] at hF ⊢
        have fz1 := hF.2.2.2
        have HE := hide hF
        clear o6 hF h4 ho hb hal hpe hdn HO HF htk hlt hj
        go_wp2
        first | go_end0 | skip
        exact ⟨rfl, _, HE.out.1, HE.out.2.1, HE.out.2.2.1⟩
end Go.Proofs.Ytmhedhhbdpdafab
