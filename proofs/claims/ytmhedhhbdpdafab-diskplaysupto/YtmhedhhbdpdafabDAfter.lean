/-
  Files, After. Own work.
-/
import Derived.Test.YtmhedhhbdpdafabDTold
namespace Go.Proofs.Ytmhedhhbdpdafab
open Go.RowKit
/-- The rows that stay, one behind the other. -/
def outs (ks : List Bool) : List FV → Nat → List (List UInt8)
  | [], _ => []
  | f :: r, i => (stay ks f i).1 :: outs ks r (stay ks f i).2
/-- How many choices were taken ahead of the j-th. -/
def ixa (ks : List Bool) : List FV → Nat → Nat → Nat
  | _, i, 0 => i
  | [], i, _ + 1 => i
  | f :: r, i, j + 1 => ixa ks r (stay ks f i).2 j
theorem ixa_zero (ks : List Bool) (fs : List FV) (i : Nat) : ixa ks fs i 0 = i := by cases fs <;> rfl
theorem outs_len (ks : List Bool) : ∀ (fs : List FV) (i : Nat), (outs ks fs i).length = fs.length
  | [], _ => rfl
  | f :: r, i => by simp [outs, outs_len ks r]
theorem outs_at (ks : List Bool) : ∀ (fs : List FV) (i j : Nat), j < fs.length → (outs ks fs i).getD j [] = (stay ks (fs.getD j fz) (ixa ks fs i j)).1 ∧ ixa ks fs i (j + 1) = (stay ks (fs.getD j fz) (ixa ks fs i j)).2
  | [], _, _, h => by simp at h
  | f :: r, i, 0, _ => ⟨rfl, by cases r <;> rfl⟩
  | f :: r, i, j + 1, h => by
    have := outs_at ks r (stay ks f i).2 j (by simpa using h)
    exact ⟨this.1, this.2⟩
theorem pick_outs (ks : List Bool) : ∀ (L : List (List UInt8 × FV)) (i : Nat), pick (keys L) (outs ks (L.map (·.2)) i) = aft ks L i
  | [], _ => rfl
  | (s, f) :: r, i => by
    have := pick_outs ks r (stay ks f i).2
    simp only [keys, List.map_cons, outs, pick, aft] at *
    rw [this]
theorem pick_tell : ∀ (L : List (List UInt8 × FV)), pick (keys L) (L.map (·.2.now)) = tell L
  | [] => rfl
  | (s, f) :: r => by
    have := pick_tell r
    simp only [keys, List.map_cons, pick, tell] at *
    rw [this]
theorem fget_at {L : List (List UInt8 × FV)} (h : Ord L) {j : Nat} (hj : j < L.length) : fget L ((keys L).getD j []) = (L.map (·.2)).getD j fz := by
  have e1 : (keys L).getD j [] = (L[j]).1 := by simp [keys, List.getD_eq_getElem?_getD, List.getElem?_eq_getElem hj]
  have e2 : (L.map (·.2)).getD j fz = (L[j]).2 := by simp [List.getD_eq_getElem?_getD, List.getElem?_eq_getElem hj]
  rw [e1, e2]
  exact fget_mem h (List.getElem_mem hj)
section
variable {p m : Nat} {R : List UInt8 → FR} {ka : Option Addr} {kb ko kc : Nat} {D : DV}
theorem files1_any (w : World) (f : FV) (r : FR) : Calls Try.prog 44 #[fval f r] w fun e w' => e = .returned (.slice r.a f.now.length r.c) ∧ Below w.heap.size w w' := by
  obtain ⟨ra, rg, rc, rb, rh, rd, rs⟩ := r
  simp only [fval, fv]
  go_enter Try.func44, Try.ntmps44
  go_wp2
  go_ret
  exact ⟨rfl, bal (Below.refl _ _) _⟩
theorem files_any (w : World) (h : Dk w p m R ka kb ko kc D none) : Calls Try.prog 18 #[.pointer (some ⟨p, 0, none⟩)] w fun e w' => ∃ v, e = .returned v ∧ OwnF w' w.heap.size v (tell D.L) ∧ Below w.heap.size w w' := by
  have HT : Tl w p m R kb D (fun _ => False) 44 #[] (D.L.map (·.2.now)) (fun _ _ => True) := by
    refine ⟨by simp, fun x hx => hx.elim, fun W j hj _ hu => ?_, fun _ _ _ _ _ => trivial, fun _ _ => trivial⟩
    have hD : Dk W p m R ka kb ko kc D none := h.same fun x hx => hu.block x (h.lt hx) (fun q => q)
    have hk := keys_at D.L j hj
    have hF := hD.fil _ hk (by simp)
    have e : (D.L.map (·.2.now)).getD j [] = (fget D.L ((keys D.L).getD j [])).now := by
      rw [fget_at h.ord hj]
      simp [List.getD_eq_getElem?_getD, List.getElem?_eq_getElem hj]
    rw [e]
    have hc := files1_any W (fget D.L ((keys D.L).getD j [])) (R ((keys D.L).getD j []))
    refine hc.mono ?_
    rintro e w' ⟨rfl, hb⟩
    exact ⟨_, _, _, rfl, hF.now.next hb (Nat.le_refl _), trivial, Upo.of hb⟩
  have HC := told_any w h _ _ _ _ _ HT (.inl rfl)
  rw [pick_tell] at HC
  have HC2 := hide HC
  clear h HT HC
  go_enter Try.func18, Try.ntmps18
  go_wp2_with (go_at_call 37; with_reducible refine HC2.out.mono ?_; rintro e w' ⟨v, rfl, ho, _, hu⟩)
  go_ret
  exact ⟨v, rfl, ho, hu.below (Nat.le_refl _) (fun b hb => hb.elim)⟩
theorem after1_any (w : World) (f : FV) (r : FR) (q qc : Nat) (ao : Option Addr) (b o c : Nat) (ks : List Bool) (i : Nat) (hF : Fil w f r) (hc : Chs w q ao c ks i) (hk : RdL w ao b o ks) (hkl : ks.length ≤ 9223372036854775807) (hq : w.heap[qc]? = some (.cells #[.pointer (some ⟨q, 0, none⟩)] 73 (0, 0))) :
    Calls Try.prog 38 #[fval f r, .pointer (some ⟨qc, 0, none⟩)] w fun e w' => ∃ gr, e = .returned (.slice (some ⟨gr, 0, none⟩) (stay ks f i).1.length (stay ks f i).1.length) ∧ w.heap.size ≤ gr ∧ Rw w' (some ⟨gr, 0, none⟩) gr (stay ks f i).1.length (stay ks f i).1 ∧ Chs w' q ao c ks (stay ks f i).2 ∧ Upo (fun x => x = q) w w' := by
  obtain ⟨n, hn⟩ : ∃ n, f.now.length = n := ⟨_, rfl⟩
  obtain ⟨k, hk2⟩ : ∃ k, f.syn.length = k := ⟨_, rfl⟩
  obtain ⟨P, hP⟩ : ∃ P, stay ks f i = P := ⟨_, rfl⟩
  rw [hP]
  simp only [fval, fv, hn, hk2]
  obtain ⟨ra, rg, rc, rb, rh, rd, rs⟩ := r
  simp only
  obtain ⟨w1, hw1⟩ : ∃ W, w.alloc (.cells #[.slice ra n rc, .slice rb k rd, .int .i64 (rs : Int)] 69) = W := ⟨_, rfl⟩
  have hb1 : Below w.heap.size w w1 := by rw [← hw1]; exact bal (Below.refl _ _) _
  have HS := stays_any w1 ra rg n rc f.now rb rh k rd rs f.syn q ao b o c ks i (hF.now.next hb1 (Nat.le_refl _)) (hF.syn.next hb1 (Nat.le_refl _)) hn hk2 (hc.same (hb1.block q hc.lt)) (hk.next hb1) hkl (by have := hF.b1; omega) (by have := hF.b2; omega) P hP
  have k1 : w1.heap[w.heap.size]? = some (.cells #[.slice ra n rc, .slice rb k rd, .int .i64 (rs : Int)] 69 (0, 0)) := by rw [← hw1]; exact new1 _ _
  obtain ⟨b0, b1, b2⟩ := three_at k1
  have q1 : w1.cell? ⟨qc, 0, none⟩ = some (.pointer (some ⟨q, 0, none⟩)) := by
    have e := (hb1.block qc (Array.getElem?_eq_some_iff.1 hq).1).trans hq
    rw [cell_of_row w1 qc 0 _ _ (0, 0) e]; rfl
  have HB := hide (And.intro hb1 hc.lt)
  have HW : Hid (w.alloc (.cells #[.slice ra n rc, .slice rb k rd, .int .i64 (rs : Int)] 69) = w1) := hw1
  clear hF hc hk hkl hq hb1 hw1 k1 hn hk2 hP
  go_enter Try.func38, Try.ntmps38
  go_upto_region 1 with (fail)
  rw [HW.out]
  go_wp2_with (go_at_call 39; with_reducible refine HS.mono ?_; rintro e w' ⟨gr, rfl, hg, hr, hc, hu⟩)
  go_ret
  exact ⟨gr, rfl, Nat.le_trans HB.out.1.size hg, hr, hc, (Upo.of HB.out.1).trans hu (fun _ _ e => e)⟩
set_option maxHeartbeats 1000000 in
theorem after_any (w : World) (h : Dk w p m R ka kb ko kc D none) (ao : Option Addr) (b o c : Nat) (ks : List Bool) (hk : RdL w ao b o ks) (hkl : ks.length ≤ 9223372036854775807) :
    Calls Try.prog 13 #[.pointer (some ⟨p, 0, none⟩), .slice ao ks.length c] w fun e w' => ∃ v, e = .returned v ∧ OwnF w' w.heap.size v (aft ks D.L 0) ∧ Below w.heap.size w w' := by
  obtain ⟨w1, hw1⟩ : ∃ W, (w.alloc (.cells #[.slice ao ks.length c, .int .i64 0] 75)).alloc (.cells #[.pointer (some ⟨w.heap.size, 0, none⟩)] 73) = W := ⟨_, rfl⟩
  have hb1 : Below w.heap.size w w1 := by rw [← hw1]; exact bal (bal (Below.refl _ _) _) _
  have hz1 : w1.heap.size = w.heap.size + 2 := by rw [← hw1]; simp
  have hc1 : Chs w1 w.heap.size ao c ks 0 := by
    have e : cat ks 0 = 0 := by unfold cat; split <;> simp
    unfold Chs
    rw [e, ← hw1]
    exact new0 _ _ _
  have hq1 : w1.heap[w.heap.size + 1]? = some (.cells #[.pointer (some ⟨w.heap.size, 0, none⟩)] 73 (0, 0)) := by rw [← hw1]; exact new2 _ _ _
  have h1 := h.next hb1
  have hk1 := hk.next hb1
  have HT : Tl w1 p m R kb D (fun x => x = w.heap.size) 38 #[.pointer (some ⟨w.heap.size + 1, 0, none⟩)] (outs ks (D.L.map (·.2)) 0)
      (fun j W => Chs W w.heap.size ao c ks (ixa ks (D.L.map (·.2)) 0 j) ∧ W.heap[w.heap.size + 1]? = some (.cells #[.pointer (some ⟨w.heap.size, 0, none⟩)] 73 (0, 0)) ∧ RdL W ao b o ks) := by
    refine ⟨by rw [outs_len]; simp, fun x hx => ⟨by omega, fun hf => ?_⟩, fun W j hj hJ hu => ?_, fun W W' j hJ hW => ?_, fun W hW => ?_⟩
    · have := h.lt hf; omega
    · have hD : Dk W p m R ka kb ko kc D none := h1.same fun x hx => hu.block x (h1.lt hx) (fun e => by have := h.lt hx; omega)
      have hF := hD.fil _ (keys_at D.L j hj) (by simp)
      obtain ⟨o1, o2⟩ := outs_at ks (D.L.map (·.2)) 0 j (by simpa using hj)
      rw [← fget_at h.ord hj] at o1 o2
      have hc := after1_any W _ _ w.heap.size (w.heap.size + 1) ao b o c ks _ hF hJ.1 hJ.2.2 hkl hJ.2.1
      refine hc.mono ?_
      rintro e w' ⟨gr, rfl, hg, hr, hch, hup⟩
      rw [o1, o2]
      refine ⟨_, _, _, rfl, hr, ⟨hch, (hup.block _ (Array.getElem?_eq_some_iff.1 hJ.2.1).1 (fun e => by omega)).trans hJ.2.1, hJ.2.2.same fun h0 => hup.block b (hJ.2.2.lt h0) (chs_ne hJ.1 hJ.2.2 h0)⟩, hup⟩
    · have kp : ∀ x, x < w1.heap.size → x < W.heap.size → W'.heap[x]? = W.heap[x]? := fun x h1 h2 => by
        rcases hW with q | q
        · exact q.block x h2
        · exact q.block x h2 (by omega)
      refine ⟨hJ.1.same (kp _ (by omega) hJ.1.lt), (kp _ (by omega) (Array.getElem?_eq_some_iff.1 hJ.2.1).1).trans hJ.2.1, hJ.2.2.same fun h0 => kp b (hk1.lt h0) (hJ.2.2.lt h0)⟩
    · exact ⟨by rw [ixa_zero]; exact hc1.same (hW.block _ (by omega)), (hW.block _ (by omega)).trans hq1, hk1.next hW⟩
  have HC := told_any w1 h1 _ _ _ _ _ HT (.inr rfl)
  rw [pick_outs] at HC
  have HC2 := hide HC
  have HB := hide (And.intro hb1 hz1)
  have HW : Hid ((w.alloc (.cells #[.slice ao ks.length c, .int .i64 0] 75)).alloc (.cells #[.pointer (some ⟨w.heap.size, 0, none⟩)] 73) = w1) := hw1
  clear h HT HC h1 hk1 hq1 hc1 hb1 hz1 hw1 hk hkl
  go_enter Try.func13, Try.ntmps13
  go_upto_region 2 with (fail)
  rw [HW.out]
  go_wp2_with (go_at_call 37; with_reducible refine HC2.out.mono ?_; rintro e w' ⟨v, rfl, ho, _, hu⟩)
  go_ret
  have hb : Below w.heap.size w w' := by
    refine ⟨hu.os.trans HB.out.1.os, hu.tape.trans HB.out.1.tape, hu.output.trans HB.out.1.output, Nat.le_trans HB.out.1.size hu.size, fun x hx => (hu.block x (by have := HB.out.2; omega) (fun e => by omega)).trans (HB.out.1.block x hx)⟩
  refine ⟨v, rfl, ?_, hb⟩
  obtain ⟨q1, q2⟩ := ho
  refine ⟨q1, ?_⟩
  rcases q2 with q2 | ⟨g, cap, cur, e1, e2, e3⟩
  · exact .inl q2
  · exact .inr ⟨g, cap, cur, e1, by have := HB.out.2; omega, e3⟩
end
end Go.Proofs.Ytmhedhhbdpdafab
