/-
  Own work: QFil, QAfs, QAfr.
-/
import Derived.Deep.RegionHeldLaw
import Derived.Test.YthfnpagangjpbabGreatV43
namespace Go.Proofs.YthfnpagangjpbabGreat
open Go.RowKit
theorem oF_next {w w' : World} {B : Nat} {v : Value} {l : List (List UInt8 × List UInt8)} (h : OwnF w B v l) (hb : Below w.heap.size w w') : OwnF w' B v l := row_keep h fun g hg => hb.block g (h.lt g hg).2
theorem run_app_D (w : World) (ty B : Nat) (v : Value) (L : List (List UInt8 × List UInt8)) (hown : OwnF w B v L) (s t : List UInt8) (hlen : L.length + 1 ≤ 4398046511104) (hB : B ≤ w.heap.size) :
    ∃ v' w', (Builtin.append_ #[22, 22] ty #[v, .slice (some ⟨w.heap.size, 0, none⟩) 1 1]).run Tryz.prog (w.alloc (.cells #[.string ⟨s.toArray⟩, .string ⟨t.toArray⟩] 25)).drew = .ok v' w' ∧ OwnF w' B v' (L ++ [(s, t)]) ∧ Below B w w' := by
  obtain ⟨i0, hi, hz0, hz1, hz2⟩ := info_parts Tryz.infoF
  have hb := (bal (Below.refl w.heap.size w) (.cells #[.string ⟨s.toArray⟩, .string ⟨t.toArray⟩] 25)).drew
  obtain ⟨v', w', q1, q2, q3, _⟩ := run_append_own (P := Tryz.prog) (w.alloc (.cells #[.string ⟨s.toArray⟩, .string ⟨t.toArray⟩] 25)).drew B 22 ty 25 i0 (.agg #[.string ⟨#[]⟩, .string ⟨#[]⟩]) 2 32 Tryz.underlying22 hi hz0 hz1 hz2 rfl (by decide) v L.length (cF L) (oF_next hown hb) ⟨w.heap.size, 0, none⟩ 1 1 _ rfl (two_new w _ _ _) (by intro u hu; simp at hu; rcases hu with rfl | rfl <;> rfl) (by unfold maxLen; omega) (by omega) (Nat.le_trans hB hb.size)
  refine ⟨v', w', q1, ?_, ?_⟩
  · rw [OwnF, cF_app, List.length_append]
    exact q2
  · exact (hb.mono hB).grown q3 (Nat.le_trans hB hb.size) (fun k hk => (hown.lt k hk).1)
theorem tell_snoc : ∀ (L : List (List UInt8 × FV)) (s : List UInt8) (f : FV), tell (L ++ [(s, f)]) = tell L ++ (if f.now = [] then [] else [(s, f.now)])
  | [], s, f => by simp only [List.nil_append, tell]
  | (t, g) :: r, s, f => by
    have := tell_snoc r s f
    simp only [List.cons_append, tell, this]
    split <;> rfl
theorem tell_le : ∀ L : List (List UInt8 × FV), (tell L).length ≤ L.length
  | [] => Nat.le_refl _
  | (s, f) :: r => by
    have := tell_le r
    rw [tell]
    split
    · simp; omega
    · simp; omega
set_option maxRecDepth 100000 in
set_option maxHeartbeats 4000000 in
theorem rfiles_any (w : World) {p : Nat} {lv : Value} {ka : Option Addr} {kb ko kc : Nat} {V : RV} (h : Rk w p lv ka kb ko kc V) :
    Calls Tryz.prog 48 #[.pointer (some ⟨p, 0, none⟩)] w fun e w' => ∃ v, e = .returned v ∧ OwnF w' w.heap.size v (tell V.L) ∧ Below w.heap.size w w' := by
  obtain ⟨ao, b, cap, hv, rd, _⟩ := ownR_rd h.own
  obtain ⟨n, hn⟩ : ∃ n, V.L.length = n := ⟨_, rfl⟩
  rw [hn] at hv
  subst hv
  have HH : Hid (V.L.length = n ∧ n ≤ 1099511627776 ∧ RdR w ao b V.L ∧ Rk w p (.slice ao n cap) ka kb ko kc V) := ⟨hn, by rw [← hn]; exact h.cn, rd, h⟩
  clear h rd hn
  go_enter Tryz.func48, Tryz.ntmps48
  go_wp2
  go_loopg [3, 4] n (fun g x y wr => ∃ j : Nat, j ≤ n ∧ g = n - j ∧ y = .int .i64 (j : Int) ∧ Hid (OwnF wr w.heap.size x (tell (V.L.take j)) ∧ Below w.heap.size w wr))
  case atStart => exact ⟨0, Nat.zero_le _, rfl, rfl, ⟨rfl, .inl ⟨rfl, rfl⟩⟩, Below.refl _ _⟩
  case round =>
    obtain ⟨j, hj, rfl, rfl, HO⟩ := hrel
    obtain ⟨q1, q2, q3, q4⟩ := HH.out
    obtain ⟨_, c1, _⟩ := (q4.next HO.out.2).cells
    by_cases hlt : j < n
    · obtain ⟨⟨t, f⟩, hx⟩ : ∃ x, V.L.getD j f0 = x := ⟨_, rfl⟩
      have r := q3.next HO.out.2
      have e0 := r.c0 j (by omega)
      have e1 := r.c1 j (by omega)
      rw [hx] at e0 e1
      simp only at e0 e1
      have ea := q3.ptr (by omega)
      subst ea
      have htk : V.L.take (j + 1) = V.L.take j ++ [(t, f)] := by rw [← hx]; exact take_snoc _ _ _ (by omega)
      have hts := tell_snoc (V.L.take j) t f
      rw [← htk] at hts
      obtain ⟨nb, hnb⟩ : ∃ a : ByteArray, ⟨f.now.toArray⟩ = a := ⟨_, rfl⟩
      obtain ⟨tb, htb⟩ : ∃ a : ByteArray, ⟨t.toArray⟩ = a := ⟨_, rfl⟩
      have hsz : nb.size = f.now.length := by rw [← size_list, ← hnb]
      have hlen : (tell (V.L.take j)).length ≤ j := by have := tell_le (V.L.take j); rw [List.length_take] at this; omega
      have hi1 : (0 : Int) ≤ (j : Int) := by omega
      have hi2 : (j : Int) < (n : Int) := by omega
      have hw : IntKind.i64.wrap ((j : Int) + 1) = (j : Int) + 1 := by rw [IntKind.wrap_i64]; omega
      rw [htb] at e0
      rw [hnb] at e1
      by_cases h0 : f.now = []
      · have hz : ¬ ((nb.size : Int) > 0) := by rw [hsz, h0]; simp
        have HX : Hid (OwnF wr w.heap.size u3 (tell (V.L.take (j + 1))) ∧ Below w.heap.size w wr) := by rw [hts, if_pos h0, List.append_nil]; exact HO.out
        clear q1 q2 q3 q4 r hx htk hts hnb htb hsz hlen h0 HO
        go_wp2
        go_roundg (n - (j + 1))
        case rel =>
          go_light
          exact ⟨j + 1, by omega, rfl, by go_num, HX⟩
        case measure => go_light; omega
      · have hz : (0 : Int) < (nb.size : Int) := by
          have : f.now.length ≠ 0 := fun e => h0 (List.length_eq_zero_iff.1 e)
          omega
        obtain ⟨v6, w6, hrn, o6, b6⟩ := run_app_D wr 22 w.heap.size u3 (tell (V.L.take j)) HO.out.1 t f.now (by omega) HO.out.2.size
        rw [htb, hnb] at hrn
        obtain ⟨a3, k3, h3⟩ := own_slice HO.out.1
        obtain ⟨l3, hl3⟩ : ∃ l, (tell (V.L.take j)).length = l := ⟨_, rfl⟩
        rw [hl3] at h3
        have HX : Hid (OwnF w6 w.heap.size v6 (tell (V.L.take (j + 1))) ∧ Below w.heap.size w w6) := by rw [hts, if_neg h0]; exact ⟨o6, HO.out.2.trans b6⟩
        rw [h3] at hrn ⊢
        have HE : Hid (∀ W, Below wr.heap.size wr W → W.cell? ⟨p, 1, none⟩ = some (.slice (some ⟨b, 0, none⟩) n cap) ∧ W.cell? ⟨b, j * 3, none⟩ = some (.string tb) ∧ W.cell? ⟨b, j * 3 + 1, none⟩ = some (.string nb)) := fun W hW => by
          have bW := bnext HO.out.2 hW
          obtain ⟨_, c1, _⟩ := (HH.out.2.2.2.next bW).cells
          have r := HH.out.2.2.1.next bW
          have e0 := r.c0 j (by omega)
          have e1 := r.c1 j (by omega)
          rw [hx] at e0 e1
          simp only at e0 e1
          rw [htb] at e0
          rw [hnb] at e1
          exact ⟨c1, e0, e1⟩
        have hwr6 : Below wr.heap.size wr (wr.alloc (.cells #[.string tb, .string nb] 25)).drew := (bal (Below.refl _ _) _).drew
        clear q1 q2 q3 q4 r hx htk hts hnb htb hsz hlen h0 o6 b6 h3 hl3
        go_upto_region 6 with (fail)
        go_region_law (refine step_app (by rfl) _ _ _ _ (by rfl) (by rfl) (by rfl) hrn ?_)
        all_goals
          go_wp2
          go_roundg (n - (j + 1))
          case rel =>
            go_light
            exact ⟨j + 1, by omega, rfl, by go_num, HX⟩
          case measure => go_light; omega
    · obtain rfl : j = n := by omega
      have hz : ¬ ((j : Int) < (j : Int)) := by omega
      have htk : V.L.take j = V.L := List.take_of_length_le (by omega)
      have HX := HO
      rw [htk] at HX
      clear q1 q2 q3 q4 htk HO hlt
      go_wp2
      go_ret
      exact ⟨_, rfl, HX.out.1, HX.out.2⟩
end Go.Proofs.YthfnpagangjpbabGreat
namespace Go.Proofs.YthfnpagangjpbabGreat
open Go.RowKit
def aidx (ks : List Bool) : List (List UInt8 × FV) → Nat → Nat
  | [], i => i
  | (_, f) :: r, i => aidx ks r (stay ks f i).2
theorem aft_snoc (ks : List Bool) : ∀ (L : List (List UInt8 × FV)) (i : Nat) (s : List UInt8) (f : FV), aft ks (L ++ [(s, f)]) i = aft ks L i ++ (if (stay ks f (aidx ks L i)).1 = [] then [] else [(s, (stay ks f (aidx ks L i)).1)])
  | [], i, s, f => by
    simp only [List.nil_append, aft, aidx]
    first | rfl | (split <;> simp_all)
  | (t, g) :: r, i, s, f => by
    have := aft_snoc ks r (stay ks g i).2 s f
    simp only [List.cons_append, aft, aidx, this]
    split <;> rfl
theorem aidx_snoc (ks : List Bool) : ∀ (L : List (List UInt8 × FV)) (i : Nat) (s : List UInt8) (f : FV), aidx ks (L ++ [(s, f)]) i = (stay ks f (aidx ks L i)).2
  | [], i, s, f => rfl
  | (t, g) :: r, i, s, f => by
    have := aidx_snoc ks r (stay ks g i).2 s f
    simp only [List.cons_append, aidx, this]
theorem sgo_idx (ks : List Bool) (f : FV) (i : Nat) : ∀ s, (sgo ks f i s).2 ≤ i + s
  | 0 => Nat.le_refl _
  | s + 1 => by
    have := sgo_idx ks f i s
    simp only [sgo]
    split
    · simp only; omega
    · simp only; omega
theorem slen_idx (ks : List Bool) (f : FV) (i : Nat) : (slen ks f i).2 ≤ i + 1 := by
  unfold slen
  split
  · simp only; omega
  · simp only; omega
theorem nsec_le {f : FV} (h1 : f.now.length ≤ 268435456) (h2 : f.syn.length ≤ 268435456) : nsec f ≤ 4194304 := by
  unfold nsec; omega
theorem stay_idx (ks : List Bool) (f : FV) (i : Nat) (h1 : f.now.length ≤ 268435456) (h2 : f.syn.length ≤ 268435456) : (stay ks f i).2 ≤ i + 4194305 := by
  have a := slen_idx ks f i
  have b := sgo_idx ks f (slen ks f i).2 (nsec f)
  have c := nsec_le h1 h2
  show (sgo ks f (slen ks f i).2 (nsec f)).2 ≤ _
  omega
theorem aidx_le (ks : List Bool) : ∀ (L : List (List UInt8 × FV)) (i : Nat), (∀ p ∈ L, p.2.now.length ≤ 268435456 ∧ p.2.syn.length ≤ 268435456) → aidx ks L i ≤ i + L.length * 4194305
  | [], i, _ => by simp [aidx]
  | (t, g) :: r, i, h => by
    have h1 := h (t, g) (by simp)
    have a := stay_idx ks g i h1.1 h1.2
    have b := aidx_le ks r (stay ks g i).2 (fun p hp => h p (List.mem_cons_of_mem _ hp))
    simp only [aidx, List.length_cons]
    omega
theorem slen_le (ks : List Bool) (f : FV) (i : Nat) : (slen ks f i).1 ≤ 64 * nsec f := by
  have : (slen ks f i).1 ≤ max f.now.length f.syn.length := by
    unfold slen
    split
    · exact Nat.le_max_right _ _
    · split
      · exact Nat.le_max_left _ _
      · exact Nat.le_max_right _ _
  unfold nsec
  omega
theorem aft_le (ks : List Bool) : ∀ (L : List (List UInt8 × FV)) (i : Nat), (aft ks L i).length ≤ L.length
  | [], _ => Nat.le_refl _
  | (s, f) :: r, i => by
    have := aft_le ks r (stay ks f i).2
    simp only [aft]
    split
    · simp; omega
    · simp; omega
theorem up_own {w w' : World} {c B : Nat} {v : Value} {l : List (List UInt8 × List UInt8)} (h : OwnF w B v l) (hu : Upo (fun x => x = c) w w') (hc : c < B) : OwnF w' B v l := row_keep h fun g hg => hu.block g (h.lt g hg).2 (by have := (h.lt g hg).1; omega)
end Go.Proofs.YthfnpagangjpbabGreat
namespace Go.Proofs.YthfnpagangjpbabGreat
open Go.RowKit
theorem bdq (w : World) : Below w.heap.size w w.drew := ⟨rfl, rfl, rfl, Nat.le_refl _, fun _ _ => rfl⟩
theorem rk_upo {w w' : World} {p : Nat} {lv : Value} {ka : Option Addr} {kb ko kc : Nat} {V : RV} (h : Rk w p lv ka kb ko kc V) {c : Nat} (hu : Upo (fun x => x = c) w w') (hc : ∀ x, RFoot p lv kb V x → x ≠ c) : Rk w' p lv ka kb ko kc V := h.same fun x hx => hu.block x (h.lt hx) (hc x hx)
set_option maxRecDepth 100000 in
set_option maxHeartbeats 40000000 in
theorem rafter_on (w : World) {p : Nat} {lv : Value} {ka : Option Addr} {kb ko kc : Nat} {V : RV} (h : Rk w p lv ka kb ko kc V) (hn30 : V.L.length ≤ 1073741824) (ho : V.out = false) (qa : Option Addr) (qb qo qc : Nat) (ks : List Bool) (hk : RdL w qa qb qo ks) (hkl : ks.length ≤ 140737488355328) :
    Calls Tryz.prog 50 #[.pointer (some ⟨p, 0, none⟩), .slice qa ks.length qc] w fun e w' => ∃ v, e = .returned v ∧ OwnF w' w.heap.size v (aft ks V.L 0) ∧ Below w.heap.size w w' := by
  obtain ⟨ao, b, cap, hv, rd, _⟩ := ownR_rd h.own
  obtain ⟨n, hn⟩ : ∃ n, V.L.length = n := ⟨_, rfl⟩
  obtain ⟨kl, hkl2⟩ : ∃ n, ks.length = n := ⟨_, rfl⟩
  rw [hn] at hv
  subst hv
  obtain ⟨w1, hw1⟩ : ∃ W, w.alloc (.cells #[.slice qa kl qc, .int .i64 0] 138) = W := ⟨_, rfl⟩
  have HW1 := hide hw1
  have u1 : Below w.heap.size w w1 := by rw [← hw1]; exact bal (Below.refl _ _) _
  obtain ⟨c, hc⟩ : ∃ c, w.heap.size = c := ⟨_, rfl⟩
  have k1 : w1.heap[c]? = some (.cells #[.slice qa kl qc, .int .i64 0] 138 (0, 0)) := by rw [← hw1, ← hc]; exact new1 _ _
  have hsz : w1.heap.size = c + 1 := by rw [← hw1, ← hc, World.size_alloc]
  have pk1 : Pk w1 c qa qb qo qc ks 0 := by
    refine ⟨?_, hk.next u1, fun h0 e => ?_, Nat.zero_le _, hkl⟩
    · rw [k1, hkl2]; simp
    · have := hk.lt h0; omega
  have HH : Hid (V.L.length = n ∧ n ≤ 1073741824 ∧ Rk w1 p (.slice ao n cap) ka kb ko kc V ∧ RdR w1 ao b V.L ∧ Pk w1 c qa qb qo qc ks 0 ∧ Below w.heap.size w w1 ∧ w1.heap.size = c + 1 ∧ w.heap.size = c ∧ (∀ x, RFoot p (.slice ao n cap) kb V x → x < c) ∧ (0 < n → b < c) ∧ ks.length = kl ∧ p < c) := ⟨hn, by omega, h.next u1, rd.next u1, pk1, u1, hsz, hc, fun x hx => by rw [← hc]; exact h.lt hx, fun h0 => by rw [← hc]; exact rd.lt (by omega), hkl2, by rw [← hc]; exact h.lt (.inl rfl)⟩
  obtain ⟨_, y1, _, _, _, _, _, y7⟩ := (h.next u1).cells
  obtain ⟨_, y1', _, _, _, _, _, y7'⟩ := h.cells
  rw [ho] at y7 y7'
  rw [hkl2]
  clear hw1 u1 k1 hsz pk1 h rd hn hk hkl hkl2 hn30 ho
  go_enter Tryz.func50, Tryz.ntmps50
  go_upto_region 4 with (fail)
  rw [HW1.out]
  try rw [hc]
  go_wp2
  clear y1 y1' y7 y7' hc
  go_loopg [6, 7, 8, 9, 10, 11, 12, 13, 14, 15] n (fun g v6 v7 v8 v9 v10 v11 v12 v13 v14 v15 wr => ∃ j : Nat, j ≤ n ∧ g = n - j ∧ v7 = .int .i64 (j : Int) ∧ Hid (OwnF wr w1.heap.size v6 (aft ks (V.L.take j) 0) ∧ Pk wr c qa qb qo qc ks (aidx ks (V.L.take j) 0) ∧ Upo (fun x => x = c) w1 wr))
  case atStart => exact ⟨0, Nat.zero_le _, rfl, rfl, ⟨rfl, .inl ⟨rfl, rfl⟩⟩, HH.out.2.2.2.2.1, Upo.refl _ _⟩
  case round =>
    obtain ⟨j, hj, rfl, rfl, HO⟩ := hrel
    obtain ⟨q1, q2, q3, q4, q5, q6, q7, q8, q9, q10, q11, q12⟩ := HH.out
    have r3 := rk_upo q3 HO.out.2.2 (fun x hx => by have := q9 x hx; omega)
    obtain ⟨_, c1, _⟩ := r3.cells
    by_cases hlt : j < n
    · obtain ⟨⟨t, f⟩, hx⟩ : ∃ x, V.L.getD j f0 = x := ⟨_, rfl⟩
      have hmem : (t, f) ∈ V.L := by
        rw [← hx, List.getD_eq_getElem?_getD, List.getElem?_eq_getElem (by omega)]
        exact List.getElem_mem _
      have hsz := q3.sz _ hmem
      simp only at hsz
      have r := q4.same (fun _ => HO.out.2.2.block b (by have := q10 (by omega); omega) (by have := q10 (by omega); omega))
      have e0 := r.c0 j (by omega)
      have e1 := r.c1 j (by omega)
      have e2 := r.c2 j (by omega)
      rw [hx] at e0 e1 e2
      simp only at e0 e1 e2
      have ea := q4.ptr (by omega)
      subst ea
      obtain ⟨nb, hnb⟩ : ∃ a : ByteArray, ⟨f.now.toArray⟩ = a := ⟨_, rfl⟩
      obtain ⟨sb, hsb⟩ : ∃ a : ByteArray, ⟨f.syn.toArray⟩ = a := ⟨_, rfl⟩
      obtain ⟨tb, htb⟩ : ∃ a : ByteArray, ⟨t.toArray⟩ = a := ⟨_, rfl⟩
      rw [htb] at e0
      rw [hnb] at e1
      rw [hsb] at e2
      have hn1 : nb.data.toList = f.now := by rw [← hnb]
      have hs1 : sb.data.toList = f.syn := by rw [← hsb]
      have hnl : nb.size = f.now.length := by rw [← size_list, hn1]
      have hsl : sb.size = f.syn.length := by rw [← size_list, hs1]
      have hi1 : (0 : Int) ≤ (j : Int) := by omega
      have hi2 : (j : Int) < (n : Int) := by omega
      have hw : IntKind.i64.wrap ((j : Int) + 1) = (j : Int) + 1 := by rw [IntKind.wrap_i64]; omega
      have htk : V.L.take (j + 1) = V.L.take j ++ [(t, f)] := by rw [← hx]; exact take_snoc _ _ _ (by omega)
      obtain ⟨i0, hi0⟩ : ∃ i, aidx ks (V.L.take j) 0 = i := ⟨_, rfl⟩
      have hi0l : i0 ≤ 4503600701112320 := by
        have := aidx_le ks (V.L.take j) 0 (fun p hp => q3.sz p (List.mem_of_mem_take hp))
        rw [hi0, List.length_take] at this
        omega
      have ha1 := aft_snoc ks (V.L.take j) 0 t f
      have ha2 := aidx_snoc ks (V.L.take j) 0 t f
      rw [← htk, hi0] at ha1 ha2
      have hal : (aft ks (V.L.take j) 0).length ≤ j := by have := aft_le ks (V.L.take j) 0; rw [List.length_take] at this; omega
      obtain ⟨w2, hw2⟩ : ∃ W, wr.alloc (.cells #[.string tb, .string nb, .string sb] 59) = W := ⟨_, rfl⟩
      have HW2 := hide hw2
      have u2 : Below wr.heap.size wr w2 := by rw [← hw2]; exact bal (Below.refl _ _) _
      obtain ⟨bf, hbf⟩ : ∃ b, wr.heap.size = b := ⟨_, rfl⟩
      have k2 : w2.heap[bf]? = some (.cells #[.string tb, .string nb, .string sb] 59 (0, 0)) := by rw [← hw2, ← hbf]; exact new1 _ _
      have HBf := hide hbf
      have hsw := HO.out.2.2.size
      have HF : Hid (OwnF w2 w1.heap.size u6 (aft ks (V.L.take j) 0) ∧ Pk w2 c qa qb qo qc ks i0 ∧ Upo (fun x => x = c) w1 w2 ∧ w2.heap[bf]? = some (.cells #[.string tb, .string nb, .string sb] 59 (0, 0)) ∧ c < bf ∧ bf < w2.heap.size ∧ i0 ≤ 4503600701112320 ∧ nb.size = f.now.length ∧ sb.size = f.syn.length ∧ f.now.length ≤ 268435456 ∧ f.syn.length ≤ 268435456 ∧ nb.data.toList = f.now ∧ sb.data.toList = f.syn ∧ (⟨t.toArray⟩ : ByteArray) = tb ∧ w1.heap.size = c + 1 ∧ (aft ks (V.L.take j) 0).length ≤ j ∧ j < n ∧ n ≤ 1073741824) :=
        ⟨oF_next HO.out.1 u2, by have := HO.out.2.1; rw [hi0] at this; exact this.next u2, HO.out.2.2.next u2, k2, by omega, by rw [← hbf, ← hw2, World.size_alloc]; omega, hi0l, hnl, hsl, hsz.1, hsz.2, hn1, hs1, htb, q7, hal, hlt, q2⟩
      have HA : Hid (aft ks (V.L.take (j + 1)) 0 = aft ks (V.L.take j) 0 ++ (if (stay ks f i0).1 = [] then [] else [(t, (stay ks f i0).1)]) ∧ aidx ks (V.L.take (j + 1)) 0 = (stay ks f i0).2) := ⟨ha1, ha2⟩
      have HC : Hid (∀ W : World, W.heap[bf]? = some (.cells #[.string tb, .string nb, .string sb] 59 (0, 0)) → W.cell? ⟨bf, 0, none⟩ = some (.string tb) ∧ W.cell? ⟨bf, 1, none⟩ = some (.string nb) ∧ W.cell? ⟨bf, 2, none⟩ = some (.string sb)) := fun W hW => three_at hW
      clear q1 q2 q3 q4 q5 q6 q7 q8 q9 q10 q11 q12 r3 r hx hmem hsz hnb hsb htb hn1 hs1 hnl hsl htk hi0 hi0l ha1 ha2 hal hw2 u2 hbf k2 hsw hlt hj HO
      go_upto_region 9 with (fail)
      rw [HW2.out, HBf.out]
      obtain ⟨x0, x1, x2⟩ := HC.out w2 HF.out.2.2.2.1
      clear e0 e1 e2 c1
      go_upto_if 48 with (fail)
      go_cut [9, 10] from 25 to 97 (fun v9 v10 wx => ∃ (m i1 : Nat), v9 = .int .i64 (m : Int) ∧ Hid (slen ks f i0 = (m, i1) ∧ Pk wx c qa qb qo qc ks i1 ∧ Upo (fun x => x = c) w2 wx))
      case first =>
        by_cases hle : nb.size = sb.size
        · have hle' : (nb.size : Int) = (sb.size : Int) := by omega
          have HG : Hid (slen ks f i0 = (nb.size, i0) ∧ Pk w2 c qa qb qo qc ks i0 ∧ Upo (fun x => x = c) w2 w2) := by
            refine ⟨?_, HF.out.2.1, Upo.refl _ _⟩
            have h8 := HF.out.2.2.2.2.2.2.2.1
            have h9 := HF.out.2.2.2.2.2.2.2.2.1
            unfold slen
            rw [if_pos (by omega), ← h9, hle]
          go_wp2
          go_meet
          case rel => exact ⟨nb.size, i0, rfl, HG⟩
        · have hle' : ¬ ((nb.size : Int) = (sb.size : Int)) := by omega
          obtain ⟨bb, hbb⟩ : ∃ x, ch ks i0 = x := ⟨_, rfl⟩
          have HN := hide (pick_any w2 HF.out.2.1 (by have := HF.out.2.2.2.2.2.2.1; omega) bb hbb)
          have hsl : slen ks f i0 = (if bb then nb.size else sb.size, i0 + 1) := by
            have h8 := HF.out.2.2.2.2.2.2.2.1
            have h9 := HF.out.2.2.2.2.2.2.2.2.1
            unfold slen
            rw [if_neg (by omega), hbb, h8, h9]
          have HSl := hide hsl
          clear hsl
          have HBl : Hid (∀ W, Upo (fun x => x = c) w2 W → W.cell? ⟨bf, 2, none⟩ = some (.string sb)) := fun W hW => (HC.out W ((hW.block bf HF.out.2.2.2.2.2.1 (by have := HF.out.2.2.2.2.1; omega)).trans HF.out.2.2.2.1)).2.2
          clear hbb
          cases bb
          · go_wp2_with (go_at_call 96; (with_reducible refine HN.out.mono ?_); rintro e w3 ⟨rfl, pk3, up3⟩; have x2 := HBl.out w3 up3)
            go_meet
            case rel => exact ⟨sb.size, i0 + 1, rfl, HSl.out, pk3, up3⟩
          · go_wp2_with (go_at_call 96; (with_reducible refine HN.out.mono ?_); rintro e w3 ⟨rfl, pk3, up3⟩; have x2 := HBl.out w3 up3)
            go_meet
            case rel => exact ⟨nb.size, i0 + 1, rfl, HSl.out, pk3, up3⟩
      case rest =>
      obtain ⟨m, i1, rfl, HM⟩ := hcut
      obtain ⟨w3, hw3⟩ : ∃ W, W = wc := ⟨_, rfl⟩
      subst hw3
      clear x0 x1 x2
      obtain ⟨ns, hns⟩ : ∃ n, nsec f = n := ⟨_, rfl⟩
      have hnsl : ns ≤ 4194304 := by rw [← hns]; exact nsec_le HF.out.2.2.2.2.2.2.2.2.2.1 HF.out.2.2.2.2.2.2.2.2.2.2.1
      obtain ⟨mx, hmx⟩ : ∃ n, max f.now.length f.syn.length = n := ⟨_, rfl⟩
      have hmx1 : (if (nb.size : Int) < (sb.size : Int) then (sb.size : Int) else (nb.size : Int)) = (mx : Int) := by
        have h8 := HF.out.2.2.2.2.2.2.2.1
        have h9 := HF.out.2.2.2.2.2.2.2.2.1
        split <;> omega
      have hmx2 : max (nb.size : Int) (sb.size : Int) = (mx : Int) := by
        have h8 := HF.out.2.2.2.2.2.2.2.1
        have h9 := HF.out.2.2.2.2.2.2.2.2.1
        omega
      have HNs : Hid (nsec f = ns ∧ ns ≤ 4194304 ∧ (∀ s, s < ns ↔ 64 * s < mx) ∧ i1 ≤ 4503600701112321) := ⟨hns, hnsl, fun s => by rw [← hns, ← hmx]; unfold nsec; omega, by have := slen_idx ks f i0; rw [HM.out.1] at this; simp only at this; have := HF.out.2.2.2.2.2.2.1; omega⟩
      have HG : Hid (∀ W, Upo (fun x => x = c) w2 W → W.heap[bf]? = some (.cells #[.string tb, .string nb, .string sb] 59 (0, 0))) := fun W hW => (hW.block bf HF.out.2.2.2.2.2.1 (by have := HF.out.2.2.2.2.1; omega)).trans HF.out.2.2.2.1
      have HPt : Hid (∀ (W : World) (s : Nat), s ≤ 4194304 → (Calls Tryz.prog 97 #[.string nb, .int .i64 (s : Int)] W fun e w' => e = .returned (.string ⟨(sec f.now s).toArray⟩) ∧ Below W.heap.size W w') ∧ (Calls Tryz.prog 97 #[.string sb, .int .i64 (s : Int)] W fun e w' => e = .returned (.string ⟨(sec f.syn s).toArray⟩) ∧ Below W.heap.size W w')) := fun W s hs => by
        have h12 := HF.out.2.2.2.2.2.2.2.2.2.2.2.1
        have h13 := HF.out.2.2.2.2.2.2.2.2.2.2.2.2.1
        exact ⟨part_any W nb s (by omega) _ (by rw [h12]), part_any W sb s (by omega) _ (by rw [h13])⟩
      clear hns hnsl hmx
      go_wp2
      go_loopg [11, 12, 13, 14, 15] ns (fun g v11 v12 v13 v14 v15 wx => ∃ (s : Nat) (xs : ByteArray), s ≤ ns ∧ g = ns - s ∧ v12 = .int .i64 (s : Int) ∧ v11 = .string xs ∧ Hid (xs.data.toList = (sgo ks f i1 s).1 ∧ Pk wx c qa qb qo qc ks (sgo ks f i1 s).2 ∧ Upo (fun x => x = c) w2 wx))
      case atStart =>
        go_light
        exact ⟨0, ⟨#[]⟩, Nat.zero_le _, rfl, rfl, rfl, rfl, HM.out.2⟩
      case round =>
        obtain ⟨s, xs, hs, rfl, rfl, rfl, HQ⟩ := hrel
        obtain ⟨x0, x1, x2⟩ := HC.out wr (HG.out _ HQ.out.2.2)
        have hw1 : IntKind.i64.wrap (64 * (s : Int)) = ((64 * s : Nat) : Int) := by have := HNs.out.2.1; rw [IntKind.wrap_i64]; omega
        obtain ⟨s6, hs6⟩ : ∃ k, 64 * s = k := ⟨_, rfl⟩
        rw [hs6] at hw1
        have hxz : xs.size = 64 * s := by rw [← size_list, HQ.out.1, sgo_len]
        by_cases hlt : s < ns
        · have hlt' : (s6 : Int) < (mx : Int) := by have := (HNs.out.2.2.1 s).1 hlt; omega
          have hw2 : IntKind.i64.wrap ((s : Int) + 1) = (s : Int) + 1 := by have := HNs.out.2.1; rw [IntKind.wrap_i64]; omega
          obtain ⟨sn, hsn⟩ : ∃ a : ByteArray, ⟨(sec f.now s).toArray⟩ = a := ⟨_, rfl⟩
          obtain ⟨ss, hss⟩ : ∃ a : ByteArray, ⟨(sec f.syn s).toArray⟩ = a := ⟨_, rfl⟩
          have HP1 : Hid (∀ W, Calls Tryz.prog 97 #[.string nb, .int .i64 (s : Int)] W fun e w' => e = .returned (.string sn) ∧ Below W.heap.size W w') := fun W => by rw [← hsn]; exact (HPt.out W s (by have := HNs.out.2.1; omega)).1
          have HP2 : Hid (∀ W, Calls Tryz.prog 97 #[.string sb, .int .i64 (s : Int)] W fun e w' => e = .returned (.string ss) ∧ Below W.heap.size W w') := fun W => by rw [← hss]; exact (HPt.out W s (by have := HNs.out.2.1; omega)).2
          have hsn1 : sn.data.toList = sec f.now s := by rw [← hsn]
          have hss1 : ss.data.toList = sec f.syn s := by rw [← hss]
          have hsn2 : sn.size = 64 := by rw [← size_list, hsn1, sec_len]
          have hss2 : ss.size = 64 := by rw [← size_list, hss1, sec_len]
          obtain ⟨i2, hi2'⟩ : ∃ i, (sgo ks f i1 s).2 = i := ⟨_, rfl⟩
          have hXi : i2 ≤ i1 + s := by rw [← hi2']; exact sgo_idx ks f i1 s
          have HY : Hid (sn.data.toList = sec f.now s ∧ ss.data.toList = sec f.syn s ∧ sn.size = 64 ∧ ss.size = 64 ∧ (sgo ks f i1 s).2 = i2 ∧ i2 ≤ i1 + s ∧ s < ns ∧ xs.size = 64 * s) := ⟨hsn1, hss1, hsn2, hss2, hi2', hXi, hlt, hxz⟩
          have HCs : Hid (∀ W, Below wr.heap.size wr W → W.cell? ⟨bf, 1, none⟩ = some (.string nb) ∧ W.cell? ⟨bf, 2, none⟩ = some (.string sb)) := fun W hW => by
            have := HC.out W (HG.out _ (HQ.out.2.2.next hW))
            exact this.2
          clear hsn hss hsn1 hss1 hsn2 hss2 hi2' hXi hs6 hxz hs hlt
          go_upto_region 18 with (fail)
          go_cut [13, 14] from 56 to 86 (fun v13 v14 wx => v13 = .string sn ∧ v14 = .string ss ∧ Hid (Below wr.heap.size wr wx))
          case first =>
            have tw := bdq wr
            go_region_held3 (fun Z => Z.cell? ⟨bf, 1, none⟩ = some (.string nb) ∧ Z.cell? ⟨bf, 2, none⟩ = some (.string sb)) (first | assumption | (exact HCs.out _ tw) | (exact ⟨x1, x2⟩)) (first
              | (go_at_call 97; (with_reducible refine (HP1.out _).mono ?_); rintro e w4 ⟨rfl, uu⟩; replace tw := bnext tw uu; clear uu)
              | (go_at_call 97; (with_reducible refine (HP2.out _).mono ?_); rintro e w5 ⟨rfl, uu⟩; replace tw := bnext tw uu; clear uu))
            all_goals
              go_wp2
              go_meet
              case rel => exact ⟨rfl, rfl, tw⟩
          case rest =>
          obtain ⟨rfl, rfl, HBc⟩ := hcut
          obtain ⟨w4, hw4⟩ : ∃ W, W = wc := ⟨_, rfl⟩
          subst hw4
          have HP4 : Hid (Pk w4 c qa qb qo qc ks i2 ∧ Upo (fun x => x = c) w2 w4) := by
            have := HQ.out.2.1
            rw [HY.out.2.2.2.2.1] at this
            exact ⟨this.next HBc.out, HQ.out.2.2.next HBc.out⟩
          have HXs := hide HQ.out.1
          clear x0 x1 x2 HBc HQ HP1 HP2 HCs
          go_upto_if 78 with (fail)
          obtain ⟨tt, htt⟩ : ∃ b, (!(sn.toList == ss.toList)) = b := ⟨_, rfl⟩
          rw [htt]
          have HTt := hide htt
          clear htt
          go_cut [13, 15] from 56 to 86 (fun v13 v15 wx => ∃ (y : ByteArray) (i3 : Nat), v13 = .string y ∧ Hid (y.size = 64 ∧ sgo ks f i1 (s + 1) = ((sgo ks f i1 s).1 ++ y.data.toList, i3) ∧ Pk wx c qa qb qo qc ks i3 ∧ Upo (fun x => x = c) w2 wx))
          case first =>
            obtain ⟨a1, a2, a3, a4, a5, a6, a7, a8⟩ := HY.out
            by_cases hle : sn = ss
            · have hsec : sec f.now s = sec f.syn s := by rw [← a1, ← a2, hle]
              have HZ : Hid (sn.size = 64 ∧ sgo ks f i1 (s + 1) = ((sgo ks f i1 s).1 ++ sn.data.toList, i2) ∧ Pk w4 c qa qb qo qc ks i2 ∧ Upo (fun x => x = c) w2 w4) := by
                refine ⟨a3, ?_, HP4.out⟩
                simp only [sgo]
                rw [if_pos hsec, a5, a1, hsec]
              subst hle
              obtain rfl : false = tt := by rw [← HTt.out]; simp
              clear a1 a2 a3 a4 a5 a6 a7 a8 hsec HP4 HTt
              go_wp2
              go_meet
              case rel => exact ⟨sn, i2, rfl, HZ⟩
            · have hsec : ¬ sec f.now s = sec f.syn s := fun e => hle (ba_ext (by rw [a1, a2, e]))
              obtain rfl : true = tt := by rw [← HTt.out, beq_ne hle]; rfl
              clear HTt
              obtain ⟨bb, hbb⟩ : ∃ x, ch ks i2 = x := ⟨_, rfl⟩
              have HN := hide (pick_any w4 HP4.out.1 (by have := HNs.out; omega) bb hbb)
              have hgo : sgo ks f i1 (s + 1) = ((sgo ks f i1 s).1 ++ (if bb then sn else ss).data.toList, i2 + 1) := by
                simp only [sgo]
                rw [if_neg hsec, a5, hbb]
                cases bb
                · rw [if_neg (by decide), if_neg (by decide), a2]
                · rw [if_pos rfl, if_pos rfl, a1]
              have HZ : Hid ((if bb then sn else ss).size = 64 ∧ sgo ks f i1 (s + 1) = ((sgo ks f i1 s).1 ++ (if bb then sn else ss).data.toList, i2 + 1)) := ⟨by split <;> assumption, hgo⟩
              have HU := hide HP4.out.2
              clear a1 a2 a3 a4 a5 a6 a7 a8 hsec HP4 hgo hbb
              cases bb
              · go_wp2_with (go_at_call 96; (with_reducible refine HN.out.mono ?_); rintro e w5 ⟨rfl, pk5, up5⟩)
                go_meet
                case rel => exact ⟨ss, i2 + 1, rfl, HZ.out.1, HZ.out.2, pk5, HU.out.trans up5 (fun _ _ q => q)⟩
              · go_wp2_with (go_at_call 96; (with_reducible refine HN.out.mono ?_); rintro e w5 ⟨rfl, pk5, up5⟩)
                go_meet
                case rel => exact ⟨sn, i2 + 1, rfl, HZ.out.1, HZ.out.2, pk5, HU.out.trans up5 (fun _ _ q => q)⟩
          case rest =>
          obtain ⟨y, i3, rfl, HZ⟩ := hcut
          obtain ⟨w6, hw6⟩ : ∃ W, W = wc := ⟨_, rfl⟩
          subst hw6
          have hcc : ¬ (9223372036854775807 < xs.size + y.size) := by have h1 := HZ.out.1; have h2 := HY.out.2.2.2.2.2.2.2; have h3 := HY.out.2.2.2.2.2.2.1; have h4 := HNs.out.2.1; omega
          have HE : Hid ((xs ++ y).data.toList = (sgo ks f i1 (s + 1)).1 ∧ Pk w6 c qa qb qo qc ks (sgo ks f i1 (s + 1)).2 ∧ Upo (fun x => x = c) w2 w6 ∧ s + 1 ≤ ns) := by
            obtain ⟨z1, z2, z3, z4⟩ := HZ.out
            rw [z2]
            refine ⟨?_, z3, z4, HY.out.2.2.2.2.2.2.1⟩
            rw [← HXs.out]
            simp [ByteArray.data_append]
          clear HZ HXs HP4
          go_wp2
          go_roundg (ns - (s + 1))
          case rel =>
            go_light
            exact ⟨s + 1, xs ++ y, HE.out.2.2.2, rfl, by go_num, rfl, HE.out.1, HE.out.2.1, HE.out.2.2.1⟩
          case measure => go_light; have := HE.out.2.2.2; omega
        · obtain rfl : s = ns := by omega
          have hlt' : ¬ ((s6 : Int) < (mx : Int)) := by have := (HNs.out.2.2.1 s).2; omega
          have hst : stay ks f i0 = (xs.data.toList.take m, (sgo ks f i1 s).2) := by
            unfold stay
            rw [HM.out.1]
            simp only
            rw [HNs.out.1, HQ.out.1]
          have hml : m ≤ xs.size := by
            have := slen_le ks f i0
            rw [HM.out.1, HNs.out.1] at this
            rw [hxz]
            exact this
          have hstl : (xs.data.toList.take m).length = m := by rw [List.length_take, size_list]; omega
          obtain ⟨fa1, fa2⟩ := HA.out
          rw [hst] at fa1 fa2
          simp only at fa1 fa2
          have hU := HF.out.2.2.1.trans HQ.out.2.2 (fun _ _ q => q)
          have hown : OwnF wr w1.heap.size u6 (aft ks (V.L.take j) 0) := up_own HF.out.1 HQ.out.2.2 (by have := HF.out.2.2.2.2.2.2.2.2.2.2.2.2.2.2.1; omega)
          have hjn := HF.out.2.2.2.2.2.2.2.2.2.2.2.2.2.2.2
          have hpk := HQ.out.2.1
          rw [← fa2] at hpk
          by_cases hm0 : m = 0
          · subst hm0
            have HX : Hid (OwnF wr w1.heap.size u6 (aft ks (V.L.take (j + 1)) 0) ∧ Pk wr c qa qb qo qc ks (aidx ks (V.L.take (j + 1)) 0) ∧ Upo (fun x => x = c) w1 wr ∧ j + 1 ≤ n) := by
              refine ⟨?_, hpk, hU, by omega⟩
              rw [fa1, if_pos (by rw [List.take_zero]), List.append_nil]
              exact hown
            clear hst hml hstl fa1 fa2 hU hown hjn hpk HQ HM HF HA HG hxz hs6
            go_wp2
            go_roundg (n - (j + 1))
            case rel =>
              go_light
              exact ⟨j + 1, HX.out.2.2.2, rfl, by go_num, HX.out.1, HX.out.2.1, HX.out.2.2.1⟩
            case measure => go_light; have := HX.out.2.2.2; omega
          · have hm1 : (0 : Int) < (m : Int) := by omega
            have hm2 : (0 : Int) ≤ (m : Int) := by omega
            have hm3 : (m : Int) ≤ (xs.size : Int) := by omega
            obtain ⟨v7, w7, hrn, o7, b7⟩ := run_app_D wr 22 w1.heap.size u6 _ hown t (xs.data.toList.take m) (by omega) (by have := hU.size; exact this)
            obtain ⟨xt, hxt⟩ : ∃ a, xs.extract 0 m = a := ⟨_, rfl⟩
            have hxt2 : (⟨(xs.data.toList.take m).toArray⟩ : ByteArray) = xt := by rw [← hxt, ← ba_take]
            have htb := HF.out.2.2.2.2.2.2.2.2.2.2.2.2.2.1
            rw [htb, hxt2] at hrn
            obtain ⟨a6, k6, h6⟩ := own_slice hown
            obtain ⟨l6, hl6⟩ : ∃ l, (aft ks (V.L.take j) 0).length = l := ⟨_, rfl⟩
            rw [hl6] at h6
            have HX : Hid (OwnF w7 w1.heap.size v7 (aft ks (V.L.take (j + 1)) 0) ∧ Pk w7 c qa qb qo qc ks (aidx ks (V.L.take (j + 1)) 0) ∧ Upo (fun x => x = c) w1 w7 ∧ j + 1 ≤ n) := by
              have hne : ¬ xs.data.toList.take m = [] := fun e => by rw [e] at hstl; simp at hstl; omega
              refine ⟨?_, ?_, ?_, by omega⟩
              · rw [fa1, if_neg hne]; exact o7
              · have h15 := HF.out.2.2.2.2.2.2.2.2.2.2.2.2.2.2.1
                refine ⟨(b7.block c (by omega)).trans hpk.blk, hpk.rd.same (fun h0 => ?_), hpk.ne, hpk.le, hpk.kl⟩
                have h1 := hpk.rd.lt h0
                rcases Nat.lt_or_ge qb w1.heap.size with q | q
                · exact b7.block qb q
                · have := (HH.out.2.2.2.2.1).rd.lt h0
                  omega
              · exact ⟨b7.os.trans hU.os, b7.tape.trans hU.tape, b7.output.trans hU.output, Nat.le_trans hU.size b7.size, fun x hx hxc => (b7.block x hx).trans (hU.block x hx hxc)⟩
            have HE : Hid (∀ W, Below wr.heap.size wr W → W.cell? ⟨bf, 0, none⟩ = some (.string tb)) := fun W hW => (HC.out W (HG.out _ (HQ.out.2.2.next hW))).1
            rw [h6] at hrn ⊢
            clear hst hml hstl fa1 fa2 hU hown hjn hpk HM HF HA hxz hs6 o7 b7 hxt2 htb h6 hl6 hm0
            go_upto_region 25 with (fail)
            go_region_law (refine step_app (by rfl) _ _ _ _ (by rfl) (by rfl) (by rfl) hrn ?_)
            all_goals
              clear hrn x0 x1 x2
              go_wp2
              go_roundg (n - (j + 1))
              case rel =>
                go_light
                exact ⟨j + 1, HX.out.2.2.2, rfl, by go_num, HX.out.1, HX.out.2.1, HX.out.2.2.1⟩
              case measure => go_light; have := HX.out.2.2.2; omega
    · obtain rfl : j = n := by omega
      have hz : ¬ ((j : Int) < (j : Int)) := by omega
      have htk : V.L.take j = V.L := List.take_of_length_le (by omega)
      have HX : Hid (OwnF wr w.heap.size u6 (aft ks V.L 0) ∧ Below w.heap.size w wr) := by
        have := HO.out
        rw [htk] at this
        exact ⟨World.ownsRow.mono this.1 (by omega), upo_below q6 (fun x hx => by rw [hx, ← q8]; exact Nat.le_refl _) this.2.2⟩
      clear q1 q2 q3 q4 q5 q6 q7 q8 q9 q10 q11 q12 r3 htk HO hlt
      go_wp2
      go_ret
      exact ⟨_, rfl, HX.out.1, HX.out.2⟩
end Go.Proofs.YthfnpagangjpbabGreat
