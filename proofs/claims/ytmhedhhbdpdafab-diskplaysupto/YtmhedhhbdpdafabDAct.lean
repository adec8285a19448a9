/-
  goDown, act. Own work.
-/
import Derived.Test.YtmhedhhbdpdafabDLaid
namespace Go.Proofs.Ytmhedhhbdpdafab
open Go.RowKit
/-- The disk when the power has gone. -/
def downD (D : DV) (ks : List Bool) : DV := { D with L := layL (aft ks D.L 0), down := true }
theorem aft_mem {ks : List Bool} : ∀ {L : List (List UInt8 × FV)} {i : Nat} {x : List UInt8 × List UInt8}, x ∈ aft ks L i → ∃ f j, (x.1, f) ∈ L ∧ x.2 = (stay ks f j).1
  | [], _, _, h => by simp [aft] at h
  | (s, f) :: r, i, x, h => by
    simp only [aft] at h
    split at h
    · obtain ⟨f', j, h1, h2⟩ := aft_mem h
      exact ⟨f', j, List.mem_cons_of_mem _ h1, h2⟩
    · rcases List.mem_cons.1 h with h | h
      · exact ⟨f, i, by rw [h]; simp, by rw [h]⟩
      · obtain ⟨f', j, h1, h2⟩ := aft_mem h
        exact ⟨f', j, List.mem_cons_of_mem _ h1, h2⟩
theorem aft_len (ks : List Bool) : ∀ (L : List (List UInt8 × FV)) (i : Nat), (aft ks L i).length ≤ L.length
  | [], _ => by simp [aft]
  | (s, f) :: r, i => by
    have := aft_len ks r (stay ks f i).2
    simp only [aft]
    split
    · simp; omega
    · simp; omega
theorem stay_le (ks : List Bool) (f : FV) (i : Nat) (h1 : f.now.length ≤ 268435456) (h2 : f.syn.length ≤ 268435456) : (stay ks f i).1.length ≤ 268435456 := by
  rw [stay_len, slen]
  split
  · exact h2
  · split
    · exact h1
    · exact h2
section
variable {p m : Nat} {R : List UInt8 → FR} {ka : Option Addr} {kb ko kc : Nat} {D : DV}
theorem Dk.aft_ok {w : World} (h : Dk w p m R ka kb ko kc D none) (ks : List Bool) : (∀ x ∈ aft ks D.L 0, x.1.length ≤ maxLen ∧ x.2.length ≤ 268435456) ∧ (aft ks D.L 0).length ≤ 1099511627776 := by
  refine ⟨fun x hx => ?_, Nat.le_trans (aft_len _ _ _) h.cnt⟩
  obtain ⟨f, j, h1, h2⟩ := aft_mem hx
  have hk : x.1 ∈ keys D.L := List.mem_map.2 ⟨_, h1, rfl⟩
  have hF := h.fil x.1 hk (by simp)
  rw [fget_mem h.ord h1] at hF
  exact ⟨h.nm _ hk, by rw [h2]; exact stay_le _ _ _ hF.b1 hF.b2⟩
set_option maxRecDepth 100000 in
set_option maxHeartbeats 1000000 in
theorem godown_any (w : World) (h : Dk w p m R ka kb ko kc D none) (ao : Option Addr) (b o c : Nat) (ks : List Bool) (hk : RdL w ao b o ks) (hkl : ks.length ≤ 9223372036854775807) :
    Calls Try.prog 57 #[.pointer (some ⟨p, 0, none⟩), .slice ao ks.length c] w fun e w' => ∃ m' R', e = .returned (.int .i64 170) ∧ Dk w' p m' R' ka kb ko kc (downD D ks) none ∧ (∀ x, Foot p m' R' kb (downD D ks) x → x = p ∨ (0 < D.ks.length ∧ x = kb) ∨ w.heap.size ≤ x) ∧ Upo (fun x => x = p) w w' := by
  have HA := after_any w h ao b o c ks hk hkl
  have HH := hide h
  clear hk hkl
  have HL : Hid (∀ W v, OwnF W w.heap.size v (aft ks D.L 0) → Below w.heap.size w W → Calls Try.prog 47 #[v] W fun e w' => ∃ R, e = .returned (.map (some W.heap.size)) ∧ Fm w' W.heap.size R (layL (aft ks D.L 0)) ∧ (∀ s ∈ keys (layL (aft ks D.L 0)), ∀ x, Blk (R s) x → W.heap.size ≤ x) ∧ Below W.heap.size W w') := fun W v ho hb => by
    obtain ⟨ao', b', c', rfl, hr, _⟩ := ownF_rd ho
    exact laid_any W ao' b' 0 c' _ hr (HH.out.aft_ok ks).1 (HH.out.aft_ok ks).2
  have HC : Hid (∀ W, Below w.heap.size w W → (∀ j, W.frozen? ⟨p, j, none⟩ = false) ∧ W.cell? ⟨p, 1, none⟩ = some (.map (some m)) ∧ W.cell? ⟨p, 6, none⟩ = some (.bool D.down)) := fun W hb => by
    have := HH.out.next hb
    exact ⟨this.frz, this.cells.2.1, this.cells.2.2.2.2.2.2⟩
  clear h
  go_enter Try.func57, Try.ntmps57
  go_upto_region 2 with (first
    | (go_at_call 13; (with_reducible refine HA.mono ?_); rintro e w1 ⟨v, rfl, ho, hb1⟩; obtain ⟨va, vc, rfl⟩ := own_slice ho)
    | (go_at_call 47; (with_reducible refine (HL.out _ _ ho hb1).mono ?_); rintro e w2 ⟨R', rfl, hF, hlow, hb2⟩; obtain ⟨fz, c1, c6⟩ := HC.out w2 (bnext hb1 hb2)))
  obtain ⟨w3, hw3⟩ : ∃ W, w2.setCell ⟨p, 1, none⟩ (.map (some w1.heap.size)) = W := ⟨_, rfl⟩
  have h2 := HH.out.next (bnext hb1 hb2)
  have hpl := HH.out.lt (.inl rfl)
  have j3 : w3.heap[p]? = some (.cells #[.int .i64 (D.free : Int), .map (some w1.heap.size), .int .i64 (D.acts : Int), .int .i64 D.fa, .int .i64 D.fk, .slice ka D.ks.length kc, .bool D.down] 62 (0, 0)) := by
    rw [← hw3]
    exact heap_setCell_same w2 p 1 _ _ _ h2.blk
  have u3 : Upo (fun x => x = p) w2 w3 := by rw [← hw3]; exact (Upo.refl (fun x => x = p) w2).set _ _ _ (.inl rfl)
  have f3 := fun j => frozen_of_row w3 p j _ _ j3
  have d6 : w3.cell? ⟨p, 6, none⟩ = some (.bool D.down) := by rw [cell_of_row w3 p 6 _ _ (0, 0) j3]; rfl
  have HF : Hid (Fm w2 w1.heap.size R' (layL (aft ks D.L 0)) ∧ (∀ s ∈ keys (layL (aft ks D.L 0)), ∀ x, Blk (R' s) x → w1.heap.size ≤ x) ∧ Below w.heap.size w w2 ∧ Upo (fun x => x = p) w2 w3 ∧ p < w.heap.size ∧ w.heap.size ≤ w1.heap.size ∧ w3.heap[p]? = some (.cells #[.int .i64 (D.free : Int), .map (some w1.heap.size), .int .i64 (D.acts : Int), .int .i64 D.fa, .int .i64 D.fk, .slice ka D.ks.length kc, .bool D.down] 62 (0, 0))) := ⟨hF, hlow, bnext hb1 hb2, u3, hpl, hb1.size, j3⟩
  rw [hw3]
  clear hw3 hF hlow hb2 u3 hpl j3 h2 fz c1 c6 ho hb1 HA HL HC
  go_wp2
  go_ret
  obtain ⟨hF, hlow, hb2, u3, hpl, hz, j3⟩ := HF.out
  have j4 : (w3.setCell ⟨p, 6, none⟩ (.bool true)).heap[p]? = some (.cells #[.int .i64 (D.free : Int), .map (some w1.heap.size), .int .i64 (D.acts : Int), .int .i64 D.fa, .int .i64 D.fk, .slice ka D.ks.length kc, .bool true] 62 (0, 0)) := heap_setCell_same w3 p 6 _ _ _ j3
  have u4 : Upo (fun x => x = p) w2 (w3.setCell ⟨p, 6, none⟩ (.bool true)) := u3.set _ _ _ (.inl rfl)
  have hu : Upo (fun x => x = p) w (w3.setCell ⟨p, 6, none⟩ (.bool true)) := (Upo.of hb2).trans u4 (fun _ _ q => q)
  have hmne : w1.heap.size ≠ p := by omega
  have kt : ∀ x, Ty w2 x 5 → (w3.setCell ⟨p, 6, none⟩ (.bool true)).heap[x]? = w2.heap[x]? := fun x hx => u4.block x hx.lt (hx.ne ⟨_, _, (HH.out.next hb2).blk⟩ (by decide))
  have hF4 : Fm (w3.setCell ⟨p, 6, none⟩ (.bool true)) w1.heap.size R' (layL (aft ks D.L 0)) := hF.same (u4.block _ hF.mp.lt hmne) kt
  have kk : 0 < D.ks.length → (w3.setCell ⟨p, 6, none⟩ (.bool true)).heap[kb]? = w.heap[kb]? := fun h0 => hu.block kb (HH.out.kt h0).lt (HH.out.kbp h0).1
  refine ⟨w1.heap.size, R', rfl, ⟨j4, hF4.mp, hF4.ord, fun s hs _ => hF4.fil s hs, fun s hs x hx => (hF4.fil s hs).blk hx, hF4.apart, hF4.nm, hF4.cnt, HH.out.kp.same kk, fun h0 => (HH.out.kt h0).same (kk h0), HH.out.kl, HH.out.fr, HH.out.ac, HH.out.ft⟩, fun x hx => ?_, hu⟩
  rcases hx with rfl | rfl | ⟨s, hs, hx⟩ | hx
  · exact .inl rfl
  · exact .inr (.inr hz)
  · exact .inr (.inr (by have := hlow s hs x hx; omega))
  · exact .inr (.inl hx)
/-- An act that would leave the file f at s: what it leaves, what it answers. -/
def actD (D : DV) (s : List UInt8) (f : FV) : DV × Int :=
  let q := metD { D with acts := D.acts + 1 }
  if q.2.1 = 1 then (q.1, 171) else if q.2.1 = 2 then (q.1, 172) else if q.2.1 = 4 then (downD q.1 q.2.2, 170) else
    if q.2.1 = 3 then (dput q.1 s f, 171) else if q.2.1 = 5 then (downD (dput q.1 s f) q.2.2, 170) else (dput q.1 s f, 0)
theorem metD_L (D : DV) : (metD D).1.L = D.L ∧ (metD D).1.free = D.free ∧ (metD D).1.down = D.down ∧ (metD D).1.acts = D.acts ∧ ((metD D).1.ks = D.ks ∨ (metD D).1.ks = []) ∧ ((metD D).2.2 = D.ks ∨ (metD D).2.2 = []) := by
  unfold metD
  split
  · exact ⟨rfl, rfl, rfl, rfl, .inl rfl, .inr rfl⟩
  · split
    · exact ⟨rfl, rfl, rfl, rfl, .inl rfl, .inr rfl⟩
    · exact ⟨rfl, rfl, rfl, rfl, .inr rfl, .inl rfl⟩
theorem metD_k {D : DV} (h : D.fk = 0 ∨ (1 ≤ D.fk ∧ D.fk ≤ 5 ∧ 1 ≤ D.fa ∧ D.fa ≤ 9223372036854775807)) : (metD D).2.1 = 0 ∨ (metD D).2.1 = 1 ∨ (metD D).2.1 = 2 ∨ (metD D).2.1 = 3 ∨ (metD D).2.1 = 4 ∨ (metD D).2.1 = 5 := by
  unfold metD
  split
  · exact .inl rfl
  · split
    · exact .inl rfl
    · show D.fk = 0 ∨ _
      have : D.fk = 0 ∨ D.fk = 1 ∨ D.fk = 2 ∨ D.fk = 3 ∨ D.fk = 4 ∨ D.fk = 5 := by omega
      exact this
/-- What do() is held to. -/
structure Do (w : World) (p m : Nat) (R : List UInt8 → FR) (kb ko : Nat) (D : DV) (fn : Nat) (caps : Array Value) (s : List UInt8) (f : FV) : Prop where
  call : ∀ (W : World) ka2 kc2 (D2 : DV), Dk W p m R ka2 kb ko kc2 D2 none → D2.L = D.L → D2.free = D.free → Upo (fun x => x = p) w W → Calls Try.prog fn caps W fun e w' => e = .returned (.tuple #[]) ∧ ∃ R', Dk w' p m R' ka2 kb ko kc2 (dput D2 s f) none ∧ (∀ x, (∃ t ∈ keys (dput D2 s f).L, Blk (R' t) x) → (∃ t ∈ keys D.L, Blk (R t) x) ∨ W.heap.size ≤ x) ∧ Upo (fun x => x = p ∨ x = m ∨ ∃ t ∈ keys D.L, Blk (R t) x) W w'
set_option maxRecDepth 100000 in
set_option maxHeartbeats 2000000 in
theorem act_any (w : World) (h : Dk w p m R ka kb ko kc D none) (hac : D.acts + 1 ≤ 4611686018427387904) (fn : Nat) (caps : Array Value) (s : List UInt8) (f : FV) (hD : Do w p m R kb ko D fn caps s f) (hfn : fn = 34 ∨ fn = 42 ∨ fn = 40) :
    Calls Try.prog 33 #[.pointer (some ⟨p, 0, none⟩), .func (.func fn) #[] caps] w fun e w' => ∃ m' R' ka' kc', e = .returned (.int .i64 (actD D s f).2) ∧ Dk w' p m' R' ka' kb ko kc' (actD D s f).1 none ∧ (∀ x, Foot p m' R' kb (actD D s f).1 x → Foot p m R kb D x ∨ w.heap.size ≤ x) ∧ Upo (Foot p m R kb D) w w' := by
  obtain ⟨c0, c1, c2, c3, c4, c5, c6⟩ := h.cells
  have fz := h.frz
  have e0 : IntKind.i64.wrap ((D.acts : Int) + 1) = ((D.acts + 1 : Nat) : Int) := by rw [IntKind.wrap_i64]; omega
  obtain ⟨ac, hac2⟩ : ∃ ac, D.acts + 1 = ac := ⟨_, rfl⟩
  rw [hac2] at e0
  obtain ⟨w1, hw1⟩ : ∃ W, w.setCell ⟨p, 2, none⟩ (.int .i64 (ac : Int)) = W := ⟨_, rfl⟩
  have HW1 : Hid (w.setCell ⟨p, 2, none⟩ (.int .i64 (ac : Int)) = w1) := hw1
  have u1 : Upo (fun x => x = p) w w1 := by rw [← hw1]; exact (Upo.refl (fun x => x = p) w).set _ _ _ (.inl rfl)
  have h1 : Dk w1 p m R ka kb ko kc { D with acts := ac } none := by
    refine h.re (D' := { D with acts := ac }) u1 rfl ?_ (.inl ⟨rfl, rfl⟩) h.fr (by show ac ≤ _; omega) h.ft
    rw [← hw1]
    exact heap_setCell_same w p 2 _ _ _ h.blk
  have HM := met_any w1 h1
  obtain ⟨M, hM⟩ : ∃ M, metD { D with acts := ac } = M := ⟨_, rfl⟩
  obtain ⟨m1, m2, m3, m4, m5, m6⟩ := metD_L { D with acts := ac }
  have mk := metD_k h1.ft
  rw [hM] at HM m1 m2 m3 m4 m5 m6 mk
  have hact : actD D s f = if M.2.1 = 1 then (M.1, 171) else if M.2.1 = 2 then (M.1, 172) else if M.2.1 = 4 then (downD M.1 M.2.2, 170) else if M.2.1 = 3 then (dput M.1 s f, 171) else if M.2.1 = 5 then (downD (dput M.1 s f) M.2.2, 170) else (dput M.1 s f, 0) := by
    simp only [actD, hac2, hM]
  obtain ⟨D2, K, ks⟩ := M
  simp only at HM m1 m2 m3 m4 m5 m6 mk hact
  have HH : Hid (Dk w p m R ka kb ko kc D none ∧ Upo (fun x => x = p) w w1 ∧ D2.L = D.L ∧ D2.free = D.free ∧ (D2.ks = D.ks ∨ D2.ks = []) ∧ (ks = D.ks ∨ ks = []) ∧ Do w p m R kb ko D fn caps s f) := ⟨h, u1, m1, m2, m5, m6, hD⟩
  have HA := hide hact
  simp only [fateV] at HM
  clear h u1 h1 hac hac2 hw1 hM m1 m2 m3 m4 m5 m6 hact hD
  go_enter Try.func33, Try.ntmps33
  go_upto_region 2 with (fail)
  rw [HW1.out]
  go_upto_region 3 with (go_at_call 56; with_reducible refine HM.mono ?_; rintro e w2 ⟨ka2, kc2, qa, qc, x, rfl, hD2, hk2, hu2⟩)
  obtain ⟨w3, hw3⟩ : ∃ W, w2.alloc (.cells #[.int .i64 x, .int .i64 K, .slice qa ks.length qc] 60) = W := ⟨_, rfl⟩
  have hb3 : Below w2.heap.size w2 w3 := by rw [← hw3]; exact bal (Below.refl _ _) _
  have k3 : w3.heap[w2.heap.size]? = some (.cells #[.int .i64 x, .int .i64 K, .slice qa ks.length qc] 60 (0, 0)) := by rw [← hw3]; exact new1 _ _
  rw [hw3]
  obtain ⟨b0, b1, b2⟩ := three_at k3
  have HG : Hid (Dk w3 p m R ka2 kb ko kc2 D2 none ∧ RdL w3 qa kb ko ks ∧ Upo (fun x => x = p) w w3 ∧ ks.length ≤ 9223372036854775807 ∧ w3.heap[w2.heap.size]? = some (.cells #[.int .i64 x, .int .i64 K, .slice qa ks.length qc] 60 (0, 0)) ∧ w.heap.size ≤ w2.heap.size) := by
    refine ⟨hD2.next hb3, hk2.next hb3, (HH.out.2.1.trans hu2 (fun _ _ q => q)).next hb3, ?_, k3, Nat.le_trans HH.out.2.1.size hu2.size⟩
    have := HH.out.1.kl
    rcases HH.out.2.2.2.2.2.1 with e | e
    · rw [e]; omega
    · rw [e]; simp
  have footD : ∀ x, Foot p m R kb D2 x → Foot p m R kb D x := fun x hx => by
    obtain ⟨_, _, e1, _, e2, _⟩ := HH.out
    rcases hx with e | e | ⟨t, ht, e⟩ | ⟨h0, e⟩
    · exact .inl e
    · exact .inr (.inl e)
    · exact .inr (.inr (.inl ⟨t, by rw [← e1]; exact ht, e⟩))
    · rcases e2 with q | q
      · exact .inr (.inr (.inr ⟨by rw [← q]; exact h0, e⟩))
      · rw [q] at h0; simp at h0
  have HFD := hide footD
  have HPM : Hid (∀ W, Upo (fun x => x = p) w W → Upo (Foot p m R kb D) w W) := fun W hW => hW.mono (fun _ _ e => .inl e)
  clear hw3 hb3 k3 hD2 hk2 hu2 footD HM c0 c1 c2 c3 c4 c5 c6 fz e0 HW1
  by_cases k1 : K = 1
  · subst k1
    have HE : Hid (actD D s f = (D2, 171)) := by show _ = _; rw [HA.out]; rfl
    clear mk HA hfn
    go_wp2
    go_ret
    rw [HE.out]
    exact ⟨m, R, ka2, kc2, rfl, HG.out.1, fun x hx => .inl (HFD.out x hx), HPM.out _ HG.out.2.2.1⟩
  by_cases k2 : K = 2
  · subst k2
    have HE : Hid (actD D s f = (D2, 172)) := by show _ = _; rw [HA.out]; rfl
    clear mk HA hfn k1
    go_wp2
    go_ret
    rw [HE.out]
    exact ⟨m, R, ka2, kc2, rfl, HG.out.1, fun x hx => .inl (HFD.out x hx), HPM.out _ HG.out.2.2.1⟩
  by_cases k4 : K = 4
  · subst k4
    have HE : Hid (actD D s f = (downD D2 ks, 170)) := by show _ = _; rw [HA.out]; rfl
    have HGo := godown_any w3 HG.out.1 qa kb ko qc ks HG.out.2.1 HG.out.2.2.2.1
    clear mk HA hfn k1 k2
    go_wp2_with (go_at_call 57; with_reducible refine HGo.mono ?_; rintro e w4 ⟨m', R', rfl, hD4, hf4, hu4⟩)
    go_ret
    rw [HE.out]
    refine ⟨m', R', ka2, kc2, rfl, hD4, fun y hy => ?_, HPM.out _ (HG.out.2.2.1.trans hu4 (fun _ _ q => q))⟩
    rcases hf4 y hy with e | e | e
    · exact .inl (.inl e)
    · exact .inl (HFD.out y (.inr (.inr (.inr e))))
    · exact .inr (Nat.le_trans HG.out.2.2.1.size e)
  have e1 : (K == 1) = false := by simpa using k1
  have e2 : (K == 2) = false := by simpa using k2
  have e4 : (K == 4) = false := by simpa using k4
  have HA2 : Hid (actD D s f = if K = 3 then (dput D2 s f, 171) else if K = 5 then (downD (dput D2 s f) ks, 170) else (dput D2 s f, 0)) := by show _ = _; rw [HA.out, if_neg k1, if_neg k2, if_neg k4]
  have HDo := HH.out.2.2.2.2.2.2.call w3 ka2 kc2 D2 HG.out.1 HH.out.2.2.1 HH.out.2.2.2.1 HG.out.2.2.1
  have HDh := hide HDo
  have HK : Hid (K = 0 ∨ K = 3 ∨ K = 5) := by show _ ∨ _; omega
  clear HA mk k1 k2 k4 HDo
  go_upto_region 10 with (fail)
  go_cut [28] from 29 to 29 (fun x wx => ∃ R', Dk wx p m R' ka2 kb ko kc2 (dput D2 s f) none ∧ (∀ x, (∃ t ∈ keys (dput D2 s f).L, Blk (R' t) x) → (∃ t ∈ keys D.L, Blk (R t) x) ∨ w3.heap.size ≤ x) ∧ Upo (fun x => x = p ∨ x = m ∨ ∃ t ∈ keys D.L, Blk (R t) x) w3 wx)
  case first =>
    rcases hfn with rfl | rfl | rfl
    · go_wp2_with (go_at_call 34; (with_reducible refine HDh.out.mono ?_); rintro e w4 ⟨rfl, R', hD4, hf4, hu4⟩)
      go_meet
      case rel => exact ⟨R', hD4, hf4, hu4⟩
    · go_wp2_with (go_at_call 42; (with_reducible refine HDh.out.mono ?_); rintro e w4 ⟨rfl, R', hD4, hf4, hu4⟩)
      go_meet
      case rel => exact ⟨R', hD4, hf4, hu4⟩
    · go_wp2_with (go_at_call 40; (with_reducible refine HDh.out.mono ?_); rintro e w4 ⟨rfl, R', hD4, hf4, hu4⟩)
      go_meet
      case rel => exact ⟨R', hD4, hf4, hu4⟩
  case rest =>
    obtain ⟨R', hD4, hf4, hu4⟩ := hcut
    obtain ⟨w4, hw4⟩ : ∃ W, W = wc := ⟨_, rfl⟩
    subst hw4
    obtain ⟨h0, _, e1, e2, e3, e4', _⟩ := HH.out
    obtain ⟨g1, g2, g3, g4, g5, g6⟩ := HG.out
    have hfw : ∀ x, (x = p ∨ x = m ∨ ∃ t ∈ keys D.L, Blk (R t) x) → Foot p m R kb D x := fun x hx => hx.elim .inl (fun q => q.elim (fun e => .inr (.inl e)) (fun e => .inr (.inr (.inl e))))
    have k4 := (hu4.block w2.heap.size (Array.getElem?_eq_some_iff.1 g5).1 (fun q => by have := h0.lt (hfw _ q); omega)).trans g5
    obtain ⟨b0, b1, b2⟩ := three_at k4
    have r4 : RdL w4 qa kb ko ks := g2.same fun hk0 => by
      have hk1 : 0 < D.ks.length := by
        rcases e4' with q | q
        · rw [← q]; exact hk0
        · rw [q] at hk0; simp at hk0
      refine hu4.block kb (g2.lt hk0) (fun q => ?_)
      have hkp := h0.kbp hk1
      rcases q with q | q | ⟨t, ht, q⟩
      · exact hkp.1 q
      · exact hkp.2 q
      · exact ((h0.low t ht kb q).ne (h0.kt hk1) (by decide)) rfl
    have hU4 : Upo (Foot p m R kb D) w w4 := (HPM.out _ g3).trans hu4 (fun x _ q => hfw x q)
    have hf5 : ∀ x, Foot p m R' kb (dput D2 s f) x → Foot p m R kb D x ∨ w.heap.size ≤ x := fun y hy => by
      rcases hy with q | q | q | ⟨q0, q⟩
      · exact .inl (.inl q)
      · exact .inl (.inr (.inl q))
      · rcases hf4 y q with q | q
        · exact .inl (.inr (.inr (.inl q)))
        · exact .inr (Nat.le_trans g3.size q)
      · exact .inl (HFD.out y (.inr (.inr (.inr ⟨q0, q⟩))))
    have HZ : Hid (Dk w4 p m R' ka2 kb ko kc2 (dput D2 s f) none ∧ RdL w4 qa kb ko ks ∧ Upo (Foot p m R kb D) w w4 ∧ (∀ x, Foot p m R' kb (dput D2 s f) x → Foot p m R kb D x ∨ w.heap.size ≤ x) ∧ ks.length ≤ 9223372036854775807 ∧ p < w.heap.size) := ⟨hD4, r4, hU4, hf5, g4, h0.lt (.inl rfl)⟩
    clear h0 e1 e2 e3 e4' g1 g2 g3 g4 g5 g6 hfw k4 r4 hU4 hf5 hD4 hf4 hu4 HG HFD HPM HDh hfn
    by_cases k3 : K = 3
    · subst k3
      have HE : Hid (actD D s f = (dput D2 s f, 171)) := by show _ = _; rw [HA2.out]; rfl
      clear HA2 HK
      go_wp2
      go_ret
      rw [HE.out]
      exact ⟨m, R', ka2, kc2, rfl, HZ.out.1, HZ.out.2.2.2.1, HZ.out.2.2.1⟩
    by_cases k5 : K = 5
    · subst k5
      have HE : Hid (actD D s f = (downD (dput D2 s f) ks, 170)) := by show _ = _; rw [HA2.out]; rfl
      have HGo := godown_any w4 HZ.out.1 qa kb ko qc ks HZ.out.2.1 HZ.out.2.2.2.2.1
      clear HA2 HK k3
      go_wp2_with (go_at_call 57; with_reducible refine HGo.mono ?_; rintro e w5 ⟨m', R5, rfl, hD5, hf5, hu5⟩)
      go_ret
      rw [HE.out]
      refine ⟨m', R5, ka2, kc2, rfl, hD5, fun y hy => ?_, HZ.out.2.2.1.trans hu5 (fun x _ q => .inl q)⟩
      rcases hf5 y hy with q | q | q
      · exact .inl (.inl q)
      · exact HZ.out.2.2.2.1 y (.inr (.inr (.inr q)))
      · exact .inr (Nat.le_trans HZ.out.2.2.1.size q)
    · obtain rfl : K = 0 := by have := HK.out; omega
      have HE : Hid (actD D s f = (dput D2 s f, 0)) := by show _ = _; rw [HA2.out]; rfl
      clear HA2 HK k3 k5
      go_wp2
      go_ret
      rw [HE.out]
      exact ⟨m, R', ka2, kc2, rfl, HZ.out.1, HZ.out.2.2.2.1, HZ.out.2.2.1⟩
end
end Go.Proofs.Ytmhedhhbdpdafab
