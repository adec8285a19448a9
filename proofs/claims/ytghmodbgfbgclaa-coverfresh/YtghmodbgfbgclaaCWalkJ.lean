/-
  The walk of CoverRests. Own work.
-/
import Derived.Test.YtghmodbgfbgclaaCRefE
namespace Go.Proofs.Ytghmodbgfbgclaa
open Go.RowKit
attribute [local go_sem ↓] Go.wp_at_zero Go.wp_at_succ
theorem own_n {w : World} {B g n c : Nat} {L : List Nat} (h : Own w B (.slice (some ⟨g, 0, none⟩) n c) L) : n = L.length ∧ L.length ≤ c ∧ B ≤ g := by
  obtain ⟨h1, h2⟩ := h
  rcases h2 with ⟨h2, _⟩ | ⟨g', c', cur, hv, hg, _, hc, _⟩
  · cases h2
  · obtain ⟨e1, e2, e3⟩ := Value.slice.inj hv
    cases e1
    exact ⟨e2, by omega, hg⟩
theorem own_cellU {w : World} {B g n c j : Nat} {L : List Nat} (h : Own w B (.slice (some ⟨g, 0, none⟩) n c) L) (hj : j < L.length) : w.cell? ⟨g, j, none⟩ = some (.int .u64 (L.getD j 0 : Nat)) ∧ w.frozen? ⟨g, j, none⟩ = false := by
  refine ⟨?_, ?_⟩
  · have := h.cells (g := g) rfl j (.int .u64 (L.getD j 0 : Nat)) (by simp [cU, List.getD_eq_getElem?_getD, List.getElem?_eq_getElem hj])
    rw [Addr.add_mid, Nat.zero_add] at this
    exact this
  · obtain ⟨h1, h2⟩ := h
    rcases h2 with ⟨h2, h3⟩ | ⟨g', cap', cur, hv, hg, hh, h3⟩
    · cases h2
    · obtain ⟨e1, e2, e3⟩ := Value.slice.inj hv
      cases e1
      simp [World.frozen?, hh]
theorem own_set {w : World} {B g n cap j : Nat} {l : List Nat} (h : Own w B (.slice (some ⟨g, 0, none⟩) n cap) l) (c : Nat) : Own (w.setCell ⟨g, j, none⟩ (.int .u64 (c : Int))) B (.slice (some ⟨g, 0, none⟩) n cap) (l.set j c) := by
  obtain ⟨h1, h2⟩ := h
  refine ⟨by simp, .inr ?_⟩
  rcases h2 with ⟨h2, h3⟩ | ⟨g', cap', cur, hv, hg, hh, h3, h4, h5, h6⟩
  · cases h2
  · obtain ⟨e1, e2, e3⟩ := Value.slice.inj hv
    cases e1
    refine ⟨g, cap, cur.setIfInBounds j (.int .u64 (c : Int)), by rw [e2]; simp, hg, heap_setCell_same w g j cur _ _ hh, by simpa [e3] using h3, by omega, by simpa [e3] using h5, ?_⟩
    have h7 : cU (l.set j c) = (cU l).set j (.int .u64 (c : Int)) := by simp [cU]
    rw [h7, ← h6, List.length_set, Array.toList_setIfInBounds, List.take_set]
theorem own_front {w : World} {B g n c m : Nat} {L : List Nat} (h : Own w B (.slice (some ⟨g, 0, none⟩) n c) L) (hm : m ≤ L.length) : Rd w (some ⟨g, 0, none⟩) g 0 m (L.take m) :=
  ⟨by rw [List.length_take]; omega, fun _ => rfl, fun j hj => by rw [Nat.zero_add, getD_take L j m hj]; exact (own_cellU h (by omega)).1⟩
theorem getD_front (l r : List Nat) (j : Nat) (h : j < l.length) : (l ++ r).getD j 0 = l.getD j 0 := by
  rw [List.getD_eq_getElem?_getD, List.getD_eq_getElem?_getD, List.getElem?_append_left h]
set_option maxHeartbeats 1000000 in
theorem kept_any (w : World) (B g m c : Nat) (l : List Nat) (ao : Option Addr) (b off cap : Nat) (ow : Own w B (.slice (some ⟨g, 0, none⟩) (m + 2) c) (l ++ [77, 78])) (r : Rd w ao b off m l) (hm : m ≤ 200) :
    Calls Try.prog 27 #[.slice (some ⟨g, 0, none⟩) m c, .slice ao m cap] w fun e w' => e = .returned (.bool true) ∧ Below w.heap.size w w' := by
  have hl := r.len
  have hc := (own_n ow).2.1
  rw [List.length_append, hl] at hc
  have hc' : m + 2 ≤ c := hc
  have e77 : (l ++ [77, 78]).getD m 0 = 77 := by rw [← hl, List.getD_eq_getElem?_getD, List.getElem?_append_right (Nat.le_refl _)]; simp
  have e78 : (l ++ [77, 78]).getD (m + 1) 0 = 78 := by rw [← hl, List.getD_eq_getElem?_getD, List.getElem?_append_right (by omega)]; simp
  have k77 := (own_cellU (j := m) ow (by simp; omega)).1
  have k78 := (own_cellU (j := m + 1) ow (by simp; omega)).1
  rw [e77] at k77
  rw [e78] at k78
  have kk : ∀ j, j < m → w.cell? ⟨g, j, none⟩ = some (.int .u64 (l.getD j 0 : Nat)) := fun j hj => by
    have := (own_cellU (j := j) ow (by simp; omega)).1
    rwa [getD_front l _ j (by omega)] at this
  have HK : Hid ((∀ j, j < m → w.cell? ⟨g, j, none⟩ = some (.int .u64 (l.getD j 0 : Nat))) ∧ Rd w ao b off m l) := ⟨kk, r⟩
  have hm' : (m : Int) ≤ 200 := by omega
  have hm0 : (0 : Int) ≤ (m : Int) := Int.natCast_nonneg _
  have f1 : (m : Int) + 1 ≤ (c : Int) := by omega
  have f2 : (m : Int) + 2 ≤ (c : Int) := by omega
  have f3 : m + 1 ≤ c := by omega
  have f4 : (m : Int) + 1 < (m : Int) + 2 := by omega
  clear kk r ow e77 e78 hl hc
  go_enter Try.func27, Try.ntmps27
  go_wp2
  go_loopg [6] m (fun gg i wr => ∃ k : Nat, k ≤ m ∧ gg = m - k ∧ i = .int .i64 (k : Int) ∧ Below w.heap.size w wr)
  case atStart =>
    go_light
    exact ⟨0, Nat.zero_le _, rfl, rfl, Below.refl _ _⟩
  case round =>
    obtain ⟨k, hk, rfl, rfl, hb⟩ := hrel
    have hk0 : (0 : Int) ≤ (k : Int) := Int.natCast_nonneg _
    by_cases hlt : k < m
    · have hlt' : (k : Int) < (m : Int) := by omega
      obtain ⟨kk, r⟩ := HK.out
      have r' := r.below hb
      obtain rfl := r'.addr (by omega)
      have c1 := r'.cell k hlt
      have c2 := (hb.cell (p := ⟨g, k, none⟩) (World.block_lt_of_cell? w _ (kk k hlt))).trans (kk k hlt)
      have HB : Hid (Below w.heap.size w wr) := hb
      generalize l.getD k 0 = x at *
      clear kk r r' hb
      go_wp2
      go_quiet (fail)
      go_wp2
      go_roundg (m - (k + 1))
      case rel =>
        go_light
        exact ⟨k + 1, by omega, rfl, by go_num, below_drewN HB.out _⟩
      case measure => go_light; omega
    · obtain rfl : k = m := by omega
      have hlt' : ¬ (k : Int) < (k : Int) := by omega
      have HB : Hid (Below w.heap.size w wr) := hb
      clear hb
      go_wp2
      go_ret
      exact ⟨rfl, HB.out⟩
set_option maxHeartbeats 4000000 in
set_option maxRecDepth 100000 in
theorem rests_walk (n : Nat) (w : World) (ao : Option Addr) (b off m cap : Nat) (l : List Nat) (r : Rd w ao b off m l) (hm : m ≤ maxLen) (hc : m ≤ cap) (hn : ao = none → cap = 0) :
    Calls Try.prog 7 #[.int .u64 (n : Int), .slice ao m cap] w fun e w' => e = .returned (.bool true) ∧ Below w.heap.size w w' := by
  have HA := fun w' => alive_any w'
  have HF := fun w' (hb : Below w.heap.size w w') => few_any w' ao b off m cap l (r.below hb) hm hc
  have HN := num_any
  have HNN : Hid (ao = none → cap = 0) := hn
  clear r hm hc hn
  go_enter Try.func7, Try.ntmps7
  go_upto_region 4 with (first
    | (go_at_call 8; with_reducible refine (HA _).mono ?_; rintro e w1 ⟨rfl, hb1⟩)
    | (go_at_call 11; with_reducible refine (HF _ hb1).mono ?_; rintro e w2 ⟨k, rfl, hk1, hk2, hk3, rk, rfl⟩))
  have HL := lent_any w1 ao b off k cap (l.take k) rk hk1 HNN.out
  clear HA HF
  generalize l.take k = s at *
  go_upto_region 5 with ((go_at_call 25; with_reducible refine HL.mono ?_; rintro e w3 ⟨g, c, rfl, ow, hc, hb3⟩))
  have hsl := rk.len
  have ho := own_front (m := k) ow (by simp; omega)
  rw [← hsl, List.take_left, hsl] at ho
  have rk3 := rk.below hb3
  have R1 := rest_any n w3 (some ⟨g, 0, none⟩) g 0 k c s ho (by omega)
  have C1 := fun w' (hb : Below w3.heap.size w3 w') => count_any n w' (some ⟨g, 0, none⟩) g 0 k c s (ho.below hb) (by omega)
  have Q1 := fun w' (hb : Below w3.heap.size w3 w') => rrest_any n w' ao b off k cap s (rk3.below hb) (by omega)
  have rl : (rstS n s).length ≤ 100000 := by
    rw [rstS]; split
    · rename_i he
      have := rst_len n (errS_ok he).1 s 0 (errS_ok he).2.2.2
      rw [hsl] at this; omega
    · simp
  clear HL
  generalize errS n s = e1 at *
  generalize hL : rstS n s = L at *
  go_upto_region 8 with (first
    | (go_at_call 14; with_reducible refine R1.mono ?_; rintro e w4 ⟨v4, rfl, o4, hb4⟩)
    | (go_at_call 22; with_reducible refine (C1 _ hb4).mono ?_; rintro e w5 ⟨rfl, hb5⟩)
    | (go_at_call 26; with_reducible refine (Q1 _ (bnext hb4 hb5)).mono ?_; rintro e w6 ⟨v6, rfl, o6, hb6⟩))
  have b36 := bnext (bnext hb4 hb5) hb6
  have S1 := same_own w6 v4 v6 _ _ _ _ (ownB_next (ownB_next o4 hb5) hb6) o6
  rw [decide_eq_true rfl] at S1
  have ow6 := ownB_next ow b36
  have K1 := fun w' (hb : Below w6.heap.size w6 w') => kept_any w' _ g k c s ao b off cap (ownB_next ow6 hb) ((rk3.below b36).below hb) hk1
  obtain ⟨ao6, g6, m6, cap6, rfl, r6, _⟩ := own_rdB o6
  have e6 := r6.len
  rw [zl_len] at e6
  rw [e6] at rl
  have hw6 : IntKind.u64.wrap (m6 : Int) = (m6 : Int) := by rw [IntKind.wrap_u64]; omega
  have HB6 : Hid (Below w.heap.size w w6 ∧ w.heap.size ≤ w1.heap.size) := ⟨bnext (bnext hb1 hb3) b36, hb1.size⟩
  have HO : Hid (Own w6 w1.heap.size (.slice (some ⟨g, 0, none⟩) (k + 2) c) (s ++ [77, 78]) ∧ k ≤ 200 ∧ s.length = k) := ⟨ow6, hk1, hsl⟩
  have hk200 : (k : Int) ≤ 200 := by omega
  rw [e6]
  clear R1 C1 Q1 hb1 hb3 hb4 hb5 hb6 b36 o4 o6 ow ow6 rk rk3 ho r6 rl hsl hk1 hk2 hk3 hL HNN
  go_wp2_with (first
    | (go_at_call 16; with_reducible refine (HN _ _).mono ?_; rintro e w9 ⟨rfl, rfl⟩)
    | (go_at_call 15; with_reducible refine S1.mono ?_; rintro e w7 ⟨rfl, hb7⟩)
    | (go_at_call 27; with_reducible refine (K1 _ hb7).mono ?_; rintro e w8 ⟨rfl, hb8⟩))
  have HW8 : Hid (Below w6.heap.size w6 w8) := bnext hb7 hb8
  clear K1 S1 hb7 hb8 hw6
  go_loopg [12] k (fun gg i wr => ∃ (j : Nat) (F : List Nat), j ≤ k ∧ gg = k - j ∧ i = .int .i64 (j : Int) ∧ F.length = k + 2 ∧ Own wr w1.heap.size (.slice (some ⟨g, 0, none⟩) (k + 2) c) F ∧ Below w.heap.size w wr)
  case atStart =>
    go_light
    obtain ⟨y1, y2, y3⟩ := HO.out
    exact ⟨0, s ++ [77, 78], Nat.zero_le _, rfl, rfl, by simp; omega, ownB_next y1 HW8.out, bnext HB6.out.1 HW8.out⟩
  case round =>
    obtain ⟨j, F, hj, rfl, rfl, hF, hown, hb⟩ := hrel
    have hj0 : (0 : Int) ≤ (j : Int) := Int.natCast_nonneg _
    have hj2 : (j : Int) ≤ 200 := by omega
    by_cases hlt : j < k
    · have hlt' : (j : Int) < (k : Int) := by omega
      obtain ⟨c1, c2⟩ := own_cellU (j := j) hown (by omega)
      have e1 : IntKind.u64.wrap (2 * (j : Int) + 1) = ((2 * j + 1 : Nat) : Int) := by rw [IntKind.wrap_u64]; omega
      have HX : Hid (Own (wr.setCell ⟨g, j, none⟩ (.int .u64 ((2 * j + 1 : Nat) : Int))) w1.heap.size (.slice (some ⟨g, 0, none⟩) (k + 2) c) (F.set j (2 * j + 1)) ∧ Below w.heap.size w (wr.setCell ⟨g, j, none⟩ (.int .u64 ((2 * j + 1 : Nat) : Int))) ∧ j + 1 ≤ k ∧ (F.set j (2 * j + 1)).length = k + 2) := ⟨own_set hown _, hb.setCell (Nat.le_trans HB6.out.2 (own_n hown).2.2) _, hlt, by simp; exact hF⟩
      clear hown hb hF hlt hj
      go_wp2
      go_roundg (k - (j + 1))
      case rel =>
        go_light
        obtain ⟨x1, x2, x3, x4⟩ := HX.out
        exact ⟨j + 1, _, x3, rfl, by go_num, x4, x1, x2⟩
      case measure => go_light; have := HX.out.2.2.1; omega
    · obtain rfl : j = k := by omega
      have hlt' : ¬ (j : Int) < (j : Int) := by omega
      obtain ⟨y1, y2, y3⟩ := HO.out
      have ho := own_front (m := j) hown (by omega)
      generalize F.take j = z at *
      have hzl := ho.len
      have R2 := rest_any n wr (some ⟨g, 0, none⟩) g 0 j c z ho (by omega)
      have C2 := fun w' (hb : Below wr.heap.size wr w') => count_any n w' (some ⟨g, 0, none⟩) g 0 j c z (ho.below hb) (by omega)
      have Q2 := fun w' (hb : Below wr.heap.size wr w') => rrest_any n w' (some ⟨g, 0, none⟩) g 0 j c z (ho.below hb) (by omega)
      have rl : (rstS n z).length ≤ 100000 := by
        rw [rstS]; split
        · rename_i he
          have := rst_len n (errS_ok he).1 z 0 (errS_ok he).2.2.2
          rw [hzl] at this; omega
        · simp
      generalize errS n z = e2 at *
      generalize rstS n z = L2 at *
      have HBr : Hid (Below w.heap.size w wr) := hb
      clear hown ho hb hF hlt hj y1 y2 y3 hzl HO HW8 HB6
      go_upto_region 17 with (first
        | (go_at_call 14; with_reducible refine R2.mono ?_; rintro e x4 ⟨u4, rfl, o4, hb4⟩)
        | (go_at_call 22; with_reducible refine (C2 _ hb4).mono ?_; rintro e x5 ⟨rfl, hb5⟩)
        | (go_at_call 26; with_reducible refine (Q2 _ (bnext hb4 hb5)).mono ?_; rintro e x6 ⟨u6, rfl, o6, hb6⟩))
      have S2 := same_own x6 u4 u6 _ _ _ _ (ownB_next (ownB_next o4 hb5) hb6) o6
      rw [decide_eq_true rfl] at S2
      obtain ⟨ao7, g7, m7, cap7, rfl, r7, _⟩ := own_rdB o6
      have e7 := r7.len
      rw [zl_len] at e7
      rw [e7] at rl
      have hw7 : IntKind.u64.wrap (m7 : Int) = (m7 : Int) := by rw [IntKind.wrap_u64]; omega
      have HBx : Hid (Below w.heap.size w x6) := bnext HBr.out (bnext (bnext hb4 hb5) hb6)
      rw [e7]
      clear R2 C2 Q2 hb4 hb5 hb6 o4 o6 r7 rl e7
      go_wp2_with (first
        | (go_at_call 16; with_reducible refine (HN _ _).mono ?_; rintro e w9 ⟨rfl, rfl⟩)
        | (go_at_call 15; with_reducible refine S2.mono ?_; rintro e x7 ⟨rfl, hb7⟩))
      go_ret
      exact ⟨by simp, bnext HBx.out hb7⟩
theorem rests_lawrow (a : Int) (w0 : (Lit.int .u64 a).wf = true) (w : World) (ao : Option Addr) (b off m cap : Nat) (l : List Nat) (r : Rd w ao b off m l) (hm : m ≤ maxLen) (hc : m ≤ cap) (hn : ao = none → cap = 0) :
    Calls Try.prog 7 #[.int .u64 a, .slice ao m cap] w fun e w' => e = .returned (.bool true) ∧ Below w.heap.size w w' := by
  obtain ⟨p, rfl, _⟩ := u64_nat w0
  exact rests_walk p w ao b off m cap l r hm hc hn
end Go.Proofs.Ytghmodbgfbgclaa
