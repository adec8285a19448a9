/-
  Own work: DAct, DDo, DDo2, DDo3.
-/
import Derived.Test.YthfnpagangjpbabGreatV12
namespace Go.Proofs.YthfnpagangjpbabGreat
open Go.RowKit
def downD (D : DV) (ks : List Bool) : DV := { D with L := layL (aft ks D.L 0), down := true }
theorem aft_mem {ks : List Bool} : ∀ {L : List (List UInt8 × FV)} {i : Nat} {x : List UInt8 × List UInt8}, x ∈ aft ks L i → ∃ f j, (x.1, f) ∈ L ∧ x.2 = (stay ks f j).1
  | [], _, _, h => by simp [aft] at h
  | (s, f) :: r, i, x, h => by
    simp only [aft] at h
    split at h
    · obtain ⟨f', j, h1, h2⟩ := aft_mem h
      exact ⟨f', j, List.mem_cons_of_mem _ h1, h2⟩
    · rcases List.mem_cons.1 h with h | h
      · exact ⟨f, i, by rw [h]; simp, by rw [h]⟩
      · obtain ⟨f', j, h1, h2⟩ := aft_mem h
        exact ⟨f', j, List.mem_cons_of_mem _ h1, h2⟩
theorem aft_len (ks : List Bool) : ∀ (L : List (List UInt8 × FV)) (i : Nat), (aft ks L i).length ≤ L.length
  | [], _ => by simp [aft]
  | (s, f) :: r, i => by
    have := aft_len ks r (stay ks f i).2
    simp only [aft]
    split
    · simp; omega
    · simp; omega
theorem stay_le (ks : List Bool) (f : FV) (i : Nat) (h1 : f.now.length ≤ 268435456) (h2 : f.syn.length ≤ 268435456) : (stay ks f i).1.length ≤ 268435456 := by
  rw [stay_len, slen]
  split
  · exact h2
  · split
    · exact h1
    · exact h2
section
variable {p m : Nat} {R : List UInt8 → FR} {ka : Option Addr} {kb ko kc : Nat} {D : DV}
theorem Dk.aft_ok {w : World} (h : Dk w p m R ka kb ko kc D none) (ks : List Bool) : (∀ x ∈ aft ks D.L 0, x.1.length ≤ maxLen ∧ x.2.length ≤ 268435456) ∧ (aft ks D.L 0).length ≤ 1099511627776 := by
  refine ⟨fun x hx => ?_, Nat.le_trans (aft_len _ _ _) h.cnt⟩
  obtain ⟨f, j, h1, h2⟩ := aft_mem hx
  have hk : x.1 ∈ keys D.L := List.mem_map.2 ⟨_, h1, rfl⟩
  have hF := h.fil x.1 hk (by simp)
  rw [fget_mem h.ord h1] at hF
  exact ⟨h.nm _ hk, by rw [h2]; exact stay_le _ _ _ hF.b1 hF.b2⟩
set_option maxRecDepth 100000 in
set_option maxHeartbeats 1000000 in
theorem godown_any (w : World) (h : Dk w p m R ka kb ko kc D none) (ao : Option Addr) (b o c : Nat) (ks : List Bool) (hk : RdL w ao b o ks) (hkl : ks.length ≤ 9223372036854775807) :
    Calls Tryz.prog 144 #[.pointer (some ⟨p, 0, none⟩), .slice ao ks.length c] w fun e w' => ∃ m' R', e = .returned (.int .i64 170) ∧ Dk w' p m' R' ka kb ko kc (downD D ks) none ∧ (∀ x, Foot p m' R' kb (downD D ks) x → x = p ∨ (0 < D.ks.length ∧ x = kb) ∨ w.heap.size ≤ x) ∧ Upo (fun x => x = p) w w' := by
  have HA := after_any w h ao b o c ks hk hkl
  have HH := hide h
  clear hk hkl
  have HL : Hid (∀ W v, OwnF W w.heap.size v (aft ks D.L 0) → Below w.heap.size w W → Calls Tryz.prog 25 #[v] W fun e w' => ∃ R, e = .returned (.map (some W.heap.size)) ∧ Fm w' W.heap.size R (layL (aft ks D.L 0)) ∧ (∀ s ∈ keys (layL (aft ks D.L 0)), ∀ x, Blk (R s) x → W.heap.size ≤ x) ∧ Below W.heap.size W w') := fun W v ho hb => by
    obtain ⟨ao', b', c', rfl, hr, _⟩ := ownF_rd ho
    exact laid_any W ao' b' 0 c' _ hr (HH.out.aft_ok ks).1 (HH.out.aft_ok ks).2
  have HC : Hid (∀ W, Below w.heap.size w W → (∀ j, W.frozen? ⟨p, j, none⟩ = false) ∧ W.cell? ⟨p, 1, none⟩ = some (.map (some m)) ∧ W.cell? ⟨p, 6, none⟩ = some (.bool D.down)) := fun W hb => by
    have := HH.out.next hb
    exact ⟨this.frz, this.cells.2.1, this.cells.2.2.2.2.2.2⟩
  clear h
  go_enter Tryz.func144, Tryz.ntmps144
  go_upto_region 2 with (first
    | (go_at_call 49; (with_reducible refine HA.mono ?_); rintro e w1 ⟨v, rfl, ho, hb1⟩; obtain ⟨va, vc, rfl⟩ := own_slice ho)
    | (go_at_call 25; (with_reducible refine (HL.out _ _ ho hb1).mono ?_); rintro e w2 ⟨R', rfl, hF, hlow, hb2⟩; obtain ⟨fz, c1, c6⟩ := HC.out w2 (bnext hb1 hb2)))
  obtain ⟨w3, hw3⟩ : ∃ W, w2.setCell ⟨p, 1, none⟩ (.map (some w1.heap.size)) = W := ⟨_, rfl⟩
  have h2 := HH.out.next (bnext hb1 hb2)
  have hpl := HH.out.lt (.inl rfl)
  have j3 : w3.heap[p]? = some (.cells #[.int .i64 (D.free : Int), .map (some w1.heap.size), .int .i64 (D.acts : Int), .int .i64 D.fa, .int .i64 D.fk, .slice ka D.ks.length kc, .bool D.down] 69 (0, 0)) := by
    rw [← hw3]
    exact heap_setCell_same w2 p 1 _ _ _ h2.blk
  have u3 : Upo (fun x => x = p) w2 w3 := by rw [← hw3]; exact (Upo.refl (fun x => x = p) w2).set _ _ _ (.inl rfl)
  have f3 := fun j => frozen_of_row w3 p j _ _ j3
  have d6 : w3.cell? ⟨p, 6, none⟩ = some (.bool D.down) := by rw [cell_of_row w3 p 6 _ _ (0, 0) j3]; rfl
  have HF : Hid (Fm w2 w1.heap.size R' (layL (aft ks D.L 0)) ∧ (∀ s ∈ keys (layL (aft ks D.L 0)), ∀ x, Blk (R' s) x → w1.heap.size ≤ x) ∧ Below w.heap.size w w2 ∧ Upo (fun x => x = p) w2 w3 ∧ p < w.heap.size ∧ w.heap.size ≤ w1.heap.size ∧ w3.heap[p]? = some (.cells #[.int .i64 (D.free : Int), .map (some w1.heap.size), .int .i64 (D.acts : Int), .int .i64 D.fa, .int .i64 D.fk, .slice ka D.ks.length kc, .bool D.down] 69 (0, 0))) := ⟨hF, hlow, bnext hb1 hb2, u3, hpl, hb1.size, j3⟩
  rw [hw3]
  clear hw3 hF hlow hb2 u3 hpl j3 h2 fz c1 c6 ho hb1 HA HL HC
  go_wp2
  go_ret
  obtain ⟨hF, hlow, hb2, u3, hpl, hz, j3⟩ := HF.out
  have j4 : (w3.setCell ⟨p, 6, none⟩ (.bool true)).heap[p]? = some (.cells #[.int .i64 (D.free : Int), .map (some w1.heap.size), .int .i64 (D.acts : Int), .int .i64 D.fa, .int .i64 D.fk, .slice ka D.ks.length kc, .bool true] 69 (0, 0)) := heap_setCell_same w3 p 6 _ _ _ j3
  have u4 : Upo (fun x => x = p) w2 (w3.setCell ⟨p, 6, none⟩ (.bool true)) := u3.set _ _ _ (.inl rfl)
  have hu : Upo (fun x => x = p) w (w3.setCell ⟨p, 6, none⟩ (.bool true)) := (Upo.of hb2).trans u4 (fun _ _ q => q)
  have hmne : w1.heap.size ≠ p := by omega
  have kt : ∀ x, Ty w2 x 5 → (w3.setCell ⟨p, 6, none⟩ (.bool true)).heap[x]? = w2.heap[x]? := fun x hx => u4.block x hx.lt (hx.ne ⟨_, _, (HH.out.next hb2).blk⟩ (by decide))
  have hF4 : Fm (w3.setCell ⟨p, 6, none⟩ (.bool true)) w1.heap.size R' (layL (aft ks D.L 0)) := hF.same (u4.block _ hF.mp.lt hmne) kt
  have kk : 0 < D.ks.length → (w3.setCell ⟨p, 6, none⟩ (.bool true)).heap[kb]? = w.heap[kb]? := fun h0 => hu.block kb (HH.out.kt h0).lt (HH.out.kbp h0).1
  refine ⟨w1.heap.size, R', rfl, ⟨j4, hF4.mp, hF4.ord, fun s hs _ => hF4.fil s hs, fun s hs x hx => (hF4.fil s hs).blk hx, hF4.apart, hF4.nm, hF4.cnt, HH.out.kp.same kk, fun h0 => (HH.out.kt h0).same (kk h0), HH.out.kl, HH.out.fr, HH.out.ac, HH.out.ft⟩, fun x hx => ?_, hu⟩
  rcases hx with rfl | rfl | ⟨s, hs, hx⟩ | hx
  · exact .inl rfl
  · exact .inr (.inr hz)
  · exact .inr (.inr (by have := hlow s hs x hx; omega))
  · exact .inr (.inl hx)
def actD (D : DV) (s : List UInt8) (f : FV) : DV × Int :=
  let q := metD { D with acts := D.acts + 1 }
  if q.2.1 = 1 then (q.1, 171) else if q.2.1 = 2 then (q.1, 172) else if q.2.1 = 4 then (downD q.1 q.2.2, 170) else
    if q.2.1 = 3 then (dput q.1 s f, 171) else if q.2.1 = 5 then (downD (dput q.1 s f) q.2.2, 170) else (dput q.1 s f, 0)
theorem metD_L (D : DV) : (metD D).1.L = D.L ∧ (metD D).1.free = D.free ∧ (metD D).1.down = D.down ∧ (metD D).1.acts = D.acts ∧ ((metD D).1.ks = D.ks ∨ (metD D).1.ks = []) ∧ ((metD D).2.2 = D.ks ∨ (metD D).2.2 = []) := by
  unfold metD
  split
  · exact ⟨rfl, rfl, rfl, rfl, .inl rfl, .inr rfl⟩
  · split
    · exact ⟨rfl, rfl, rfl, rfl, .inl rfl, .inr rfl⟩
    · exact ⟨rfl, rfl, rfl, rfl, .inr rfl, .inl rfl⟩
theorem metD_k {D : DV} (h : D.fk = 0 ∨ (1 ≤ D.fk ∧ D.fk ≤ 5 ∧ 1 ≤ D.fa ∧ D.fa ≤ 9223372036854775807)) : (metD D).2.1 = 0 ∨ (metD D).2.1 = 1 ∨ (metD D).2.1 = 2 ∨ (metD D).2.1 = 3 ∨ (metD D).2.1 = 4 ∨ (metD D).2.1 = 5 := by
  unfold metD
  split
  · exact .inl rfl
  · split
    · exact .inl rfl
    · show D.fk = 0 ∨ _
      have : D.fk = 0 ∨ D.fk = 1 ∨ D.fk = 2 ∨ D.fk = 3 ∨ D.fk = 4 ∨ D.fk = 5 := by omega
      exact this
structure Do (w : World) (p m : Nat) (R : List UInt8 → FR) (kb ko : Nat) (D : DV) (fn : Nat) (caps : Array Value) (s : List UInt8) (f : FV) : Prop where
  call : ∀ (W : World) ka2 kc2 (D2 : DV), Dk W p m R ka2 kb ko kc2 D2 none → D2.L = D.L → D2.free = D.free → Upo (fun x => x = p) w W → Calls Tryz.prog fn caps W fun e w' => e = .returned (.tuple #[]) ∧ ∃ R', Dk w' p m R' ka2 kb ko kc2 (dput D2 s f) none ∧ (∀ x, (∃ t ∈ keys (dput D2 s f).L, Blk (R' t) x) → (∃ t ∈ keys D.L, Blk (R t) x) ∨ W.heap.size ≤ x) ∧ Upo (fun x => x = p ∨ x = m ∨ ∃ t ∈ keys D.L, Blk (R t) x) W w'
set_option maxRecDepth 100000 in
set_option maxHeartbeats 2000000 in
theorem act_any (w : World) (h : Dk w p m R ka kb ko kc D none) (hac : D.acts + 1 ≤ 4611686018427387904) (fn : Nat) (caps : Array Value) (s : List UInt8) (f : FV) (hD : Do w p m R kb ko D fn caps s f) (hfn : fn = 139 ∨ fn = 135 ∨ fn = 112) :
    Calls Tryz.prog 111 #[.pointer (some ⟨p, 0, none⟩), .func (.func fn) #[] caps] w fun e w' => ∃ m' R' ka' kc', e = .returned (.int .i64 (actD D s f).2) ∧ Dk w' p m' R' ka' kb ko kc' (actD D s f).1 none ∧ (∀ x, Foot p m' R' kb (actD D s f).1 x → Foot p m R kb D x ∨ w.heap.size ≤ x) ∧ Upo (Foot p m R kb D) w w' := by
  obtain ⟨c0, c1, c2, c3, c4, c5, c6⟩ := h.cells
  have fz := h.frz
  have e0 : IntKind.i64.wrap ((D.acts : Int) + 1) = ((D.acts + 1 : Nat) : Int) := by rw [IntKind.wrap_i64]; omega
  obtain ⟨ac, hac2⟩ : ∃ ac, D.acts + 1 = ac := ⟨_, rfl⟩
  rw [hac2] at e0
  obtain ⟨w1, hw1⟩ : ∃ W, w.setCell ⟨p, 2, none⟩ (.int .i64 (ac : Int)) = W := ⟨_, rfl⟩
  have HW1 : Hid (w.setCell ⟨p, 2, none⟩ (.int .i64 (ac : Int)) = w1) := hw1
  have u1 : Upo (fun x => x = p) w w1 := by rw [← hw1]; exact (Upo.refl (fun x => x = p) w).set _ _ _ (.inl rfl)
  have h1 : Dk w1 p m R ka kb ko kc { D with acts := ac } none := by
    refine h.re (D' := { D with acts := ac }) u1 rfl ?_ (.inl ⟨rfl, rfl⟩) h.fr (by show ac ≤ _; omega) h.ft
    rw [← hw1]
    exact heap_setCell_same w p 2 _ _ _ h.blk
  have HM := met_any w1 h1
  obtain ⟨M, hM⟩ : ∃ M, metD { D with acts := ac } = M := ⟨_, rfl⟩
  obtain ⟨m1, m2, m3, m4, m5, m6⟩ := metD_L { D with acts := ac }
  have mk := metD_k h1.ft
  rw [hM] at HM m1 m2 m3 m4 m5 m6 mk
  have hact : actD D s f = if M.2.1 = 1 then (M.1, 171) else if M.2.1 = 2 then (M.1, 172) else if M.2.1 = 4 then (downD M.1 M.2.2, 170) else if M.2.1 = 3 then (dput M.1 s f, 171) else if M.2.1 = 5 then (downD (dput M.1 s f) M.2.2, 170) else (dput M.1 s f, 0) := by
    simp only [actD, hac2, hM]
  obtain ⟨D2, K, ks⟩ := M
  simp only at HM m1 m2 m3 m4 m5 m6 mk hact
  have HH : Hid (Dk w p m R ka kb ko kc D none ∧ Upo (fun x => x = p) w w1 ∧ D2.L = D.L ∧ D2.free = D.free ∧ (D2.ks = D.ks ∨ D2.ks = []) ∧ (ks = D.ks ∨ ks = []) ∧ Do w p m R kb ko D fn caps s f) := ⟨h, u1, m1, m2, m5, m6, hD⟩
  have HA := hide hact
  simp only [fateV] at HM
  clear h u1 h1 hac hac2 hw1 hM m1 m2 m3 m4 m5 m6 hact hD
  go_enter Tryz.func111, Tryz.ntmps111
  go_upto_region 2 with (fail)
  rw [HW1.out]
  go_upto_region 3 with (go_at_call 143; with_reducible refine HM.mono ?_; rintro e w2 ⟨ka2, kc2, qa, qc, x, rfl, hD2, hk2, hu2⟩)
  obtain ⟨w3, hw3⟩ : ∃ W, w2.alloc (.cells #[.int .i64 x, .int .i64 K, .slice qa ks.length qc] 62) = W := ⟨_, rfl⟩
  have hb3 : Below w2.heap.size w2 w3 := by rw [← hw3]; exact bal (Below.refl _ _) _
  have k3 : w3.heap[w2.heap.size]? = some (.cells #[.int .i64 x, .int .i64 K, .slice qa ks.length qc] 62 (0, 0)) := by rw [← hw3]; exact new1 _ _
  rw [hw3]
  obtain ⟨b0, b1, b2⟩ := three_at k3
  have HG : Hid (Dk w3 p m R ka2 kb ko kc2 D2 none ∧ RdL w3 qa kb ko ks ∧ Upo (fun x => x = p) w w3 ∧ ks.length ≤ 9223372036854775807 ∧ w3.heap[w2.heap.size]? = some (.cells #[.int .i64 x, .int .i64 K, .slice qa ks.length qc] 62 (0, 0)) ∧ w.heap.size ≤ w2.heap.size) := by
    refine ⟨hD2.next hb3, hk2.next hb3, (HH.out.2.1.trans hu2 (fun _ _ q => q)).next hb3, ?_, k3, Nat.le_trans HH.out.2.1.size hu2.size⟩
    have := HH.out.1.kl
    rcases HH.out.2.2.2.2.2.1 with e | e
    · rw [e]; omega
    · rw [e]; simp
  have footD : ∀ x, Foot p m R kb D2 x → Foot p m R kb D x := fun x hx => by
    obtain ⟨_, _, e1, _, e2, _⟩ := HH.out
    rcases hx with e | e | ⟨t, ht, e⟩ | ⟨h0, e⟩
    · exact .inl e
    · exact .inr (.inl e)
    · exact .inr (.inr (.inl ⟨t, by rw [← e1]; exact ht, e⟩))
    · rcases e2 with q | q
      · exact .inr (.inr (.inr ⟨by rw [← q]; exact h0, e⟩))
      · rw [q] at h0; simp at h0
  have HFD := hide footD
  have HPM : Hid (∀ W, Upo (fun x => x = p) w W → Upo (Foot p m R kb D) w W) := fun W hW => hW.mono (fun _ _ e => .inl e)
  clear hw3 hb3 k3 hD2 hk2 hu2 footD HM c0 c1 c2 c3 c4 c5 c6 fz e0 HW1
  by_cases k1 : K = 1
  · subst k1
    have HE : Hid (actD D s f = (D2, 171)) := by show _ = _; rw [HA.out]; rfl
    clear mk HA hfn
    go_wp2
    go_ret
    rw [HE.out]
    exact ⟨m, R, ka2, kc2, rfl, HG.out.1, fun x hx => .inl (HFD.out x hx), HPM.out _ HG.out.2.2.1⟩
  by_cases k2 : K = 2
  · subst k2
    have HE : Hid (actD D s f = (D2, 172)) := by show _ = _; rw [HA.out]; rfl
    clear mk HA hfn k1
    go_wp2
    go_ret
    rw [HE.out]
    exact ⟨m, R, ka2, kc2, rfl, HG.out.1, fun x hx => .inl (HFD.out x hx), HPM.out _ HG.out.2.2.1⟩
  by_cases k4 : K = 4
  · subst k4
    have HE : Hid (actD D s f = (downD D2 ks, 170)) := by show _ = _; rw [HA.out]; rfl
    have HGo := godown_any w3 HG.out.1 qa kb ko qc ks HG.out.2.1 HG.out.2.2.2.1
    clear mk HA hfn k1 k2
    go_wp2_with (go_at_call 144; with_reducible refine HGo.mono ?_; rintro e w4 ⟨m', R', rfl, hD4, hf4, hu4⟩)
    go_ret
    rw [HE.out]
    refine ⟨m', R', ka2, kc2, rfl, hD4, fun y hy => ?_, HPM.out _ (HG.out.2.2.1.trans hu4 (fun _ _ q => q))⟩
    rcases hf4 y hy with e | e | e
    · exact .inl (.inl e)
    · exact .inl (HFD.out y (.inr (.inr (.inr e))))
    · exact .inr (Nat.le_trans HG.out.2.2.1.size e)
  have e1 : (K == 1) = false := by simpa using k1
  have e2 : (K == 2) = false := by simpa using k2
  have e4 : (K == 4) = false := by simpa using k4
  have HA2 : Hid (actD D s f = if K = 3 then (dput D2 s f, 171) else if K = 5 then (downD (dput D2 s f) ks, 170) else (dput D2 s f, 0)) := by show _ = _; rw [HA.out, if_neg k1, if_neg k2, if_neg k4]
  have HDo := HH.out.2.2.2.2.2.2.call w3 ka2 kc2 D2 HG.out.1 HH.out.2.2.1 HH.out.2.2.2.1 HG.out.2.2.1
  have HDh := hide HDo
  have HK : Hid (K = 0 ∨ K = 3 ∨ K = 5) := by show _ ∨ _; omega
  clear HA mk k1 k2 k4 HDo
  go_upto_region 10 with (fail)
  go_cut [28] from 29 to 29 (fun x wx => ∃ R', Dk wx p m R' ka2 kb ko kc2 (dput D2 s f) none ∧ (∀ x, (∃ t ∈ keys (dput D2 s f).L, Blk (R' t) x) → (∃ t ∈ keys D.L, Blk (R t) x) ∨ w3.heap.size ≤ x) ∧ Upo (fun x => x = p ∨ x = m ∨ ∃ t ∈ keys D.L, Blk (R t) x) w3 wx)
  case first =>
    rcases hfn with rfl | rfl | rfl
    · go_wp2_with (go_at_call 139; (with_reducible refine HDh.out.mono ?_); rintro e w4 ⟨rfl, R', hD4, hf4, hu4⟩)
      go_meet
      case rel => exact ⟨R', hD4, hf4, hu4⟩
    · go_wp2_with (go_at_call 135; (with_reducible refine HDh.out.mono ?_); rintro e w4 ⟨rfl, R', hD4, hf4, hu4⟩)
      go_meet
      case rel => exact ⟨R', hD4, hf4, hu4⟩
    · go_wp2_with (go_at_call 112; (with_reducible refine HDh.out.mono ?_); rintro e w4 ⟨rfl, R', hD4, hf4, hu4⟩)
      go_meet
      case rel => exact ⟨R', hD4, hf4, hu4⟩
  case rest =>
    obtain ⟨R', hD4, hf4, hu4⟩ := hcut
    obtain ⟨w4, hw4⟩ : ∃ W, W = wc := ⟨_, rfl⟩
    subst hw4
    obtain ⟨h0, _, e1, e2, e3, e4', _⟩ := HH.out
    obtain ⟨g1, g2, g3, g4, g5, g6⟩ := HG.out
    have hfw : ∀ x, (x = p ∨ x = m ∨ ∃ t ∈ keys D.L, Blk (R t) x) → Foot p m R kb D x := fun x hx => hx.elim .inl (fun q => q.elim (fun e => .inr (.inl e)) (fun e => .inr (.inr (.inl e))))
    have k4 := (hu4.block w2.heap.size (Array.getElem?_eq_some_iff.1 g5).1 (fun q => by have := h0.lt (hfw _ q); omega)).trans g5
    obtain ⟨b0, b1, b2⟩ := three_at k4
    have r4 : RdL w4 qa kb ko ks := g2.same fun hk0 => by
      have hk1 : 0 < D.ks.length := by
        rcases e4' with q | q
        · rw [← q]; exact hk0
        · rw [q] at hk0; simp at hk0
      refine hu4.block kb (g2.lt hk0) (fun q => ?_)
      have hkp := h0.kbp hk1
      rcases q with q | q | ⟨t, ht, q⟩
      · exact hkp.1 q
      · exact hkp.2 q
      · exact ((h0.low t ht kb q).ne (h0.kt hk1) (by decide)) rfl
    have hU4 : Upo (Foot p m R kb D) w w4 := (HPM.out _ g3).trans hu4 (fun x _ q => hfw x q)
    have hf5 : ∀ x, Foot p m R' kb (dput D2 s f) x → Foot p m R kb D x ∨ w.heap.size ≤ x := fun y hy => by
      rcases hy with q | q | q | ⟨q0, q⟩
      · exact .inl (.inl q)
      · exact .inl (.inr (.inl q))
      · rcases hf4 y q with q | q
        · exact .inl (.inr (.inr (.inl q)))
        · exact .inr (Nat.le_trans g3.size q)
      · exact .inl (HFD.out y (.inr (.inr (.inr ⟨q0, q⟩))))
    have HZ : Hid (Dk w4 p m R' ka2 kb ko kc2 (dput D2 s f) none ∧ RdL w4 qa kb ko ks ∧ Upo (Foot p m R kb D) w w4 ∧ (∀ x, Foot p m R' kb (dput D2 s f) x → Foot p m R kb D x ∨ w.heap.size ≤ x) ∧ ks.length ≤ 9223372036854775807 ∧ p < w.heap.size) := ⟨hD4, r4, hU4, hf5, g4, h0.lt (.inl rfl)⟩
    clear h0 e1 e2 e3 e4' g1 g2 g3 g4 g5 g6 hfw k4 r4 hU4 hf5 hD4 hf4 hu4 HG HFD HPM HDh hfn
    by_cases k3 : K = 3
    · subst k3
      have HE : Hid (actD D s f = (dput D2 s f, 171)) := by show _ = _; rw [HA2.out]; rfl
      clear HA2 HK
      go_wp2
      go_ret
      rw [HE.out]
      exact ⟨m, R', ka2, kc2, rfl, HZ.out.1, HZ.out.2.2.2.1, HZ.out.2.2.1⟩
    by_cases k5 : K = 5
    · subst k5
      have HE : Hid (actD D s f = (downD (dput D2 s f) ks, 170)) := by show _ = _; rw [HA2.out]; rfl
      have HGo := godown_any w4 HZ.out.1 qa kb ko qc ks HZ.out.2.1 HZ.out.2.2.2.2.1
      clear HA2 HK k3
      go_wp2_with (go_at_call 144; with_reducible refine HGo.mono ?_; rintro e w5 ⟨m', R5, rfl, hD5, hf5, hu5⟩)
      go_ret
      rw [HE.out]
      refine ⟨m', R5, ka2, kc2, rfl, hD5, fun y hy => ?_, HZ.out.2.2.1.trans hu5 (fun x _ q => .inl q)⟩
      rcases hf5 y hy with q | q | q
      · exact .inl (.inl q)
      · exact HZ.out.2.2.2.1 y (.inr (.inr (.inr q)))
      · exact .inr (Nat.le_trans HZ.out.2.2.1.size q)
    · obtain rfl : K = 0 := by have := HK.out; omega
      have HE : Hid (actD D s f = (dput D2 s f, 0)) := by show _ = _; rw [HA2.out]; rfl
      clear HA2 HK k3 k5
      go_wp2
      go_ret
      rw [HE.out]
      exact ⟨m, R', ka2, kc2, rfl, HZ.out.1, HZ.out.2.2.2.1, HZ.out.2.2.1⟩
end
end Go.Proofs.YthfnpagangjpbabGreat
namespace Go.Proofs.YthfnpagangjpbabGreat
open Go.RowKit
section
variable {w W : World} {p m : Nat} {R : List UInt8 → FR} {ka : Option Addr} {kb ko kc : Nat} {D : DV}
theorem Dk.stale (h : Dk w p m R ka kb ko kc D none) {s : List UInt8} {T : Nat → Prop} (hT : ∀ x, T x → s ∈ keys D.L ∧ Blk (R s) x) (hu : Upo T w W) (ht : ∀ x, T x → Ty W x 5) : Dk W p m R ka kb ko kc D (some s) := by
  have hty : ∀ x, T x → Ty w x 5 := fun x hx => h.low s (hT x hx).1 x (hT x hx).2
  have hp : ¬ T p := fun q => (h.other (hty p q)).1 rfl
  have hm : ¬ T m := fun q => (h.other (hty m q)).2.1 rfl
  have hk : 0 < D.ks.length → ¬ T kb := fun h0 q => (h.other (hty kb q)).2.2 h0 rfl
  have kk : 0 < D.ks.length → W.heap[kb]? = w.heap[kb]? := fun h0 => hu.block kb (h.kt h0).lt (hk h0)
  refine ⟨(hu.block p (h.lt (.inl rfl)) hp).trans h.blk, h.mp.same (hu.block m h.mp.lt hm), h.ord, fun t ht' hne => ?_, fun t ht' x hx => ?_, h.apart, h.nm, h.cnt, h.kp.same kk, fun h0 => (h.kt h0).same (kk h0), h.kl, h.fr, h.ac, h.ft⟩
  · refine (h.fil t ht' (by simp)).same fun x hx => hu.block x (h.low t ht' x hx).lt (fun q => ?_)
    obtain ⟨q1, q2⟩ := hT x q
    exact h.apart t ht' s q1 (fun e => hne (by rw [e])) x hx q2
  · rcases Classical.em (T x) with q | q
    · exact ht x q
    · exact (h.low t ht' x hx).same (hu.block x (h.low t ht' x hx).lt q)
theorem Dk.file (h : Dk w p m R ka kb ko kc D none) {s : List UInt8} {r : FR} (hr : (s ∈ keys D.L ∧ r = R s) ∨ (s ∉ keys D.L ∧ r = fr0 ∧ fget D.L s = fz)) : Fil w (fget D.L s) r ∧ ∀ x, Blk r x → s ∈ keys D.L ∧ Blk (R s) x := by
  rcases hr with ⟨h1, rfl⟩ | ⟨h1, rfl, h3⟩
  · exact ⟨h.fil s h1 (by simp), fun x hx => ⟨h1, hx⟩⟩
  · exact ⟨by rw [h3]; exact fil_none w, fun x hx => (blk_none hx).elim⟩
theorem do_fin {w2 w3 : World} {s : List UInt8} {f : FV} {r r' : FR} {T : Nat → Prop} (h : Dk w p m R ka kb ko kc D none) (hr : (s ∈ keys D.L ∧ r = R s) ∨ (s ∉ keys D.L ∧ r = fr0 ∧ fget D.L s = fz))
    (hT : ∀ x, T x → Blk r x) (hu : Upo T w w2) (hb' : ∀ x, Blk r' x → Blk r x ∨ w.heap.size ≤ x) (hD : Dk w3 p m (updR R s r') ka kb ko kc (dput D s f) none) (hu3 : Upo (fun x => x = p ∨ x = m) w2 w3) :
    ∃ R', Dk w3 p m R' ka kb ko kc (dput D s f) none ∧ (∀ x, (∃ t ∈ keys (dput D s f).L, Blk (R' t) x) → (∃ t ∈ keys D.L, Blk (R t) x) ∨ w.heap.size ≤ x) ∧ Upo (fun x => x = p ∨ x = m ∨ ∃ t ∈ keys D.L, Blk (R t) x) w w3 := by
  have hf := (h.file hr).2
  refine ⟨_, hD, fun x hx => ?_, ?_⟩
  · obtain ⟨t, ht, hx⟩ := hx
    simp only [updR] at hx
    by_cases e : t = s
    · rw [if_pos e] at hx
      rcases hb' x hx with q | q
      · exact .inl ⟨s, (hf x q).1, (hf x q).2⟩
      · exact .inr q
    · rw [if_neg e] at hx
      have := (keys_put h.ord s f t).1 ht
      rw [if_neg e] at this
      exact .inl ⟨t, this, hx⟩
  · refine (hu.mono (T := fun x => x = p ∨ x = m ∨ ∃ t ∈ keys D.L, Blk (R t) x) (fun x _ q => .inr (.inr ⟨s, hf x (hT x q)⟩))).trans hu3 (fun x _ q => ?_)
    rcases q with q | q
    · exact .inl q
    · exact .inr (.inl q)
theorem do_apart {s : List UInt8} {r r' : FR} (h : Dk w p m R ka kb ko kc D none) (hr : (s ∈ keys D.L ∧ r = R s) ∨ (s ∉ keys D.L ∧ r = fr0 ∧ fget D.L s = fz)) (hb' : ∀ x, Blk r' x → Blk r x ∨ w.heap.size ≤ x) :
    ∀ t ∈ keys D.L, t ≠ s → ∀ x, Blk (R t) x → Blk r' x → False := fun t ht hne x h1 h2 => by
  rcases hb' x h2 with q | q
  · obtain ⟨q1, q2⟩ := (h.file hr).2 x q
    exact h.apart t ht s q1 hne x h1 q2
  · have := (h.low t ht x h1).lt
    omega
end
def Bx1 (w : World) (b : Nat) (v : Value) (T : TypeId) : Prop := w.heap[b]? = some (.cells #[v] T (0, 0))
theorem Bx1.at {w : World} {b : Nat} {v : Value} {T : TypeId} (h : Bx1 w b v T) : w.cell? ⟨b, 0, none⟩ = some v := by rw [cell_of_row w b 0 _ _ (0, 0) h]; rfl
section
variable {p m : Nat} {R : List UInt8 → FR} {ka : Option Addr} {kb ko kc : Nat} {D : DV}
set_option maxRecDepth 100000 in
set_option maxHeartbeats 1000000 in
theorem do_write (w : World) (h : Dk w p m R ka kb ko kc D none) (s t : ByteArray) (hs : s.size ≤ maxLen) (k : Nat) (hk : k ≤ (fget D.L s.data.toList).now.length) (hl : k + t.size ≤ 268435456) (r : FR) (hr : (s.data.toList ∈ keys D.L ∧ r = R s.data.toList) ∨ (s.data.toList ∉ keys D.L ∧ r = fr0 ∧ fget D.L s.data.toList = fz))
    (hcnt : D.L.length < 1099511627776) (hroom : k + t.size ≤ D.free + (fget D.L s.data.toList).now.length) (hfr : D.free + (fget D.L s.data.toList).now.length ≤ 9223372036854775807)
    (bd bn bf bo bt : Nat) (x1 : Bx1 w bd (.pointer (some ⟨p, 0, none⟩)) 30) (x2 : Bx1 w bn (.string s) 9) (x3 : w.heap[bf]? = some (.cells #[.slice r.a (fget D.L s.data.toList).now.length r.c, .slice r.b (fget D.L s.data.toList).syn.length r.d, .int .i64 (r.s : Int)] 113 (0, 0))) (x4 : Bx1 w bo (.int .i64 (k : Int)) 3) (x5 : Bx1 w bt (.string t) 9) :
    Do w p m R kb ko D 139 #[.pointer (some ⟨bd, 0, none⟩), .pointer (some ⟨bn, 0, none⟩), .pointer (some ⟨bf, 0, none⟩), .pointer (some ⟨bo, 0, none⟩), .pointer (some ⟨bt, 0, none⟩)] s.data.toList ⟨wr (fget D.L s.data.toList).now k t.data.toList, (fget D.L s.data.toList).syn⟩ := by
  have tyD : ∀ {b : Nat} {cs : Array Value} {T : TypeId}, w.heap[b]? = some (.cells cs T (0, 0)) → T ≠ 69 → b ≠ p := fun {b cs T} hb hT e => by
    rw [e, h.blk] at hb
    injection hb with hb
    injection hb with _ hb _
    exact hT hb.symm
  refine ⟨fun W ka2 kc2 D2 hD2 hL hF hW => ?_⟩
  have y1 : Bx1 W bd _ _ := (hW.block bd (Array.getElem?_eq_some_iff.1 x1).1 (tyD x1 (by decide))).trans x1
  have y2 : Bx1 W bn _ _ := (hW.block bn (Array.getElem?_eq_some_iff.1 x2).1 (tyD x2 (by decide))).trans x2
  have y3 := (hW.block bf (Array.getElem?_eq_some_iff.1 x3).1 (tyD x3 (by decide))).trans x3
  have y4 : Bx1 W bo _ _ := (hW.block bo (Array.getElem?_eq_some_iff.1 x4).1 (tyD x4 (by decide))).trans x4
  have y5 : Bx1 W bt _ _ := (hW.block bt (Array.getElem?_eq_some_iff.1 x5).1 (tyD x5 (by decide))).trans x5
  rw [← hL] at hr y3 hk ⊢
  rw [← hL, ← hF] at hroom hfr
  rw [← hL] at hcnt
  obtain ⟨hfil, hblk⟩ := hD2.file hr
  obtain ⟨f0, hf0⟩ : ∃ f0, fget D2.L s.data.toList = f0 := ⟨_, rfl⟩
  have HF0 := hide hf0
  rw [hf0] at hfil y3 hk hroom hfr ⊢
  obtain ⟨ra, rg, rc, rb, rh, rd, rs⟩ := r
  obtain ⟨n, hn⟩ : ∃ n, f0.now.length = n := ⟨_, rfl⟩
  obtain ⟨n2, hn2⟩ : ∃ n, f0.syn.length = n := ⟨_, rfl⟩
  simp only [hn, hn2] at y3
  have b1 := hfil.b1
  have HA := fwrite_any W ra rg n rc f0.now rb n2 rd rs k (min rs k) t hfil.now hn (by omega) rfl (by omega)
  have HP : Hid (∀ w2 a' g' c', Rw w2 a' g' c' (wr f0.now k t.data.toList) → Upo (fun b => ra = some ⟨rg, 0, none⟩ ∧ b = rg) W w2 → ((a' = ra ∧ g' = rg) ∨ (W.heap.size ≤ g' ∧ g' < w2.heap.size)) → (ra = some ⟨rg, 0, none⟩ → Ty w2 rg 5) →
      Calls Tryz.prog 113 #[.pointer (some ⟨p, 0, none⟩), .string s, fv a' (wr f0.now k t.data.toList).length c' rb n2 rd (min rs k)] w2 fun e w' => e = .returned (.tuple #[]) ∧ (∃ R', Dk w' p m R' ka2 kb ko kc2 (dput D2 s.data.toList ⟨wr f0.now k t.data.toList, f0.syn⟩) none ∧ (∀ x, (∃ t' ∈ keys (dput D2 s.data.toList ⟨wr f0.now k t.data.toList, f0.syn⟩).L, Blk (R' t') x) → (∃ t' ∈ keys D2.L, Blk (R t') x) ∨ W.heap.size ≤ x) ∧ Upo (fun x => x = p ∨ x = m ∨ ∃ t' ∈ keys D2.L, Blk (R t') x) W w') ∧ Upo (fun x => x = p ∨ x = m) w2 w') := fun w2 a' g' c' rw2 u2 loc ty2 => by
    have hT : ∀ x, (ra = some ⟨rg, 0, none⟩ ∧ x = rg) → Blk ⟨ra, rg, rc, rb, rh, rd, rs⟩ x := fun x q => .inl q
    have hst := hD2.stale (s := s.data.toList) (fun x q => hblk x (hT x q)) u2 (fun x q => by rw [q.2]; exact ty2 q.1)
    have hb' : ∀ x, Blk ⟨a', g', c', rb, rh, rd, min rs k⟩ x → Blk ⟨ra, rg, rc, rb, rh, rd, rs⟩ x ∨ W.heap.size ≤ x := fun x q => by
      rcases q with ⟨q1, q2⟩ | q
      · simp only at q1 q2
        rcases loc with ⟨l1, l2⟩ | l
        · exact .inl (.inl ⟨by rw [← l1, q1, l2], by rw [q2, l2]⟩)
        · exact .inr (by omega)
      · exact .inl (.inr q)
    have hsynW : Rw w2 rb rh rd f0.syn := hfil.syn.same fun e => u2.block rh (hfil.syn.ty e).lt (fun q => hfil.ap q.1 e q.2.symm)
    have hln := wr_len f0.now k t.data.toList (by omega)
    rw [size_list] at hln
    have hfil2 : Fil w2 ⟨wr f0.now k t.data.toList, f0.syn⟩ ⟨a', g', c', rb, rh, rd, min rs k⟩ := by
      have s1 := hfil.s1
      have s2 := hfil.s2
      simp only at s1 s2
      refine ⟨rw2, hsynW, by simp only [hln]; omega, by simp only; omega, ?_, fun e1 e2 => ?_, by simp only [hln]; omega, hfil.b2⟩
      · show f0.syn.take (min rs k) = (wr f0.now k t.data.toList).take (min rs k)
        have e := congrArg (List.take (min rs k)) hfil.sm
        simp only [List.take_take] at e
        rw [show min (min rs k) rs = min rs k by omega] at e
        rw [e, wr, List.append_assoc, List.take_append_of_le_length (by simp; omega), List.take_take, show min (min rs k) k = min rs k by omega]
      · simp only at e1 e2 ⊢
        rcases loc with ⟨l1, l2⟩ | l
        · rw [l2]; exact hfil.ap (by rw [← l1, e1, l2]) e2
        · have := (hfil.syn.ty e2).lt
          simp only at this
          omega
    have hc := put_any w2 p m R ka2 kb ko kc2 D2 s ⟨wr f0.now k t.data.toList, f0.syn⟩ ⟨a', g', c', rb, rh, rd, min rs k⟩ hst hfil2 hs (do_apart hD2 hr hb') hcnt (by rw [hf0]; omega) (by rw [hf0]; simp only [hln]; omega)
    simp only [fval, hn2] at hc
    refine hc.mono fun e w3 q => ⟨q.1, do_fin hD2 hr hT u2 hb' q.2.1 q.2.2, q.2.2⟩
  have ne : ∀ {b : Nat} {cs : Array Value} {T : TypeId}, W.heap[b]? = some (.cells cs T (0, 0)) → T ≠ 5 → T ≠ 69 → (¬ (ra = some ⟨rg, 0, none⟩ ∧ b = rg)) ∧ b ≠ p ∧ b ≠ m := fun {b cs T} hb h1 h2 =>
    ⟨fun q => (Ty.ne ⟨_, _, hb⟩ (hfil.now.ty q.1) h1) q.2, Ty.ne ⟨_, _, hb⟩ ⟨_, _, hD2.blk⟩ h2, Ty.mv ⟨_, _, hb⟩ hD2.mp⟩
  have keep : ∀ {b : Nat} {cs : Array Value} {T : TypeId} (Z Z' : World), W.heap[b]? = some (.cells cs T (0, 0)) → T ≠ 5 → T ≠ 69 → Upo (fun b => ra = some ⟨rg, 0, none⟩ ∧ b = rg) W Z → Upo (fun x => x = p ∨ x = m) Z Z' → Z'.heap[b]? = some (.cells cs T (0, 0)) := fun {b cs T} Z Z' hb h1 h2 hu hu' => by
    obtain ⟨n1, n2, n3⟩ := ne hb h1 h2
    have hlt := (Array.getElem?_eq_some_iff.1 hb).1
    exact (hu'.block b (by have := hu.size; omega) (fun q => q.elim n2 n3)).trans ((hu.block b hlt n1).trans hb)
  have HCl : Hid (∀ Z Z', Upo (fun b => ra = some ⟨rg, 0, none⟩ ∧ b = rg) W Z → Upo (fun x => x = p ∨ x = m) Z Z' → Z'.cell? ⟨bd, 0, none⟩ = some (.pointer (some ⟨p, 0, none⟩)) ∧ Z'.cell? ⟨bn, 0, none⟩ = some (.string s) ∧ Z'.cell? ⟨bf, 0, none⟩ = some (.slice ra n rc) ∧ Z'.cell? ⟨bf, 1, none⟩ = some (.slice rb n2 rd) ∧ Z'.cell? ⟨bf, 2, none⟩ = some (.int .i64 (rs : Int)) ∧ Z'.cell? ⟨bo, 0, none⟩ = some (.int .i64 (k : Int)) ∧ Z'.cell? ⟨bt, 0, none⟩ = some (.string t)) := fun Z Z' hu hu' => by
    obtain ⟨a0, a1, a2⟩ := three_at (keep Z Z' y3 (by decide) (by decide) hu hu')
    exact ⟨Bx1.at (keep Z Z' y1 (by decide) (by decide) hu hu'), Bx1.at (keep Z Z' y2 (by decide) (by decide) hu hu'), a0, a1, a2, Bx1.at (keep Z Z' y4 (by decide) (by decide) hu hu'), Bx1.at (keep Z Z' y5 (by decide) (by decide) hu hu')⟩
  obtain ⟨c1, c2, c3, c4, c5, c6, c7⟩ := HCl.out W W (Upo.refl _ _) (Upo.refl _ _)
  obtain ⟨mk, hmk⟩ : ∃ mk, min rs k = mk := ⟨_, rfl⟩
  rw [hmk] at HA HP
  have HAd : Hid (∀ Z, Upo (fun b => ra = some ⟨rg, 0, none⟩ ∧ b = rg) W Z → Upo (fun b => ra = some ⟨rg, 0, none⟩ ∧ b = rg) W.drew Z) := fun Z q => ⟨q.os, q.tape, q.output, q.size, q.block⟩
  have HA2 : Calls Tryz.prog 140 #[.agg #[.slice ra n rc, .slice rb n2 rd, .int .i64 (rs : Int)], .int .i64 (k : Int), .string t] W.drew fun e w' => ∃ a' g' c', e = .returned (fv a' (wr f0.now k t.data.toList).length c' rb n2 rd mk) ∧ Rw w' a' g' c' (wr f0.now k t.data.toList) ∧ Upo (fun b => ra = some ⟨rg, 0, none⟩ ∧ b = rg) W w' ∧ ((a' = ra ∧ g' = rg) ∨ (W.heap.size ≤ g' ∧ g' < w'.heap.size)) ∧ (ra = some ⟨rg, 0, none⟩ → Ty w' rg 5) := by
    have q := fwrite_any W.drew ra rg n rc f0.now rb n2 rd rs k mk t (hfil.now.same (W := W.drew) fun _ => rfl) hn (by omega) hmk (by omega)
    exact q.mono fun e w' q => by
      obtain ⟨a', g', c', q1, q2, q3, q4⟩ := q
      exact ⟨a', g', c', q1, q2, ⟨q3.os, q3.tape, q3.output, q3.size, q3.block⟩, q4⟩
  clear HA x1 x2 x3 x4 x5 y1 y2 y3 y4 y5 hfil hblk hr hk hl hn hn2 hroom hfr hcnt hf0 hD2 hW h tyD ne keep hmk hs b1 HAd
  go_enter Tryz.func139, Tryz.ntmps139
  go_upto_region 0 with (fail)
  go_region_held3 (fun Z => Z.cell? ⟨bd, 0, none⟩ = some (.pointer (some ⟨p, 0, none⟩)) ∧ Z.cell? ⟨bn, 0, none⟩ = some (.string s) ∧ Z.cell? ⟨bf, 0, none⟩ = some (.slice ra n rc) ∧ Z.cell? ⟨bf, 1, none⟩ = some (.slice rb n2 rd) ∧ Z.cell? ⟨bf, 2, none⟩ = some (.int .i64 (rs : Int)) ∧ Z.cell? ⟨bo, 0, none⟩ = some (.int .i64 (k : Int)) ∧ Z.cell? ⟨bt, 0, none⟩ = some (.string t)) (first | assumption | (exact ⟨c1, c2, c3, c4, c5, c6, c7⟩) | (exact HCl.out _ _ u2 (Upo.refl _ _)) | (exact HCl.out _ _ u2 u3)) (first
    | (go_at_call 140; (with_reducible refine HA2.mono ?_); rintro e w2 ⟨a', g', c', rfl, rw2, u2, loc, ty2⟩)
    | (go_at_call 113; (with_reducible refine (HP.out w2 a' g' c' rw2 u2 loc ty2).mono ?_); rintro e w3 ⟨rfl, hfin, u3⟩))
  go_wp2
  go_end0
  exact ⟨rfl, hfin⟩
end
end Go.Proofs.YthfnpagangjpbabGreat
namespace Go.Proofs.YthfnpagangjpbabGreat
open Go.RowKit
section
variable {p m : Nat} {R : List UInt8 → FR} {ka : Option Addr} {kb ko kc : Nat} {D : DV}
set_option maxRecDepth 100000 in
set_option maxHeartbeats 1000000 in
theorem do_cut (w : World) (h : Dk w p m R ka kb ko kc D none) (s : ByteArray) (hs : s.size ≤ maxLen) (k : Nat) (hk : k ≤ (fget D.L s.data.toList).now.length) (r : FR) (hr : (s.data.toList ∈ keys D.L ∧ r = R s.data.toList) ∨ (s.data.toList ∉ keys D.L ∧ r = fr0 ∧ fget D.L s.data.toList = fz))
    (hcnt : D.L.length < 1099511627776) (hfr : D.free + (fget D.L s.data.toList).now.length ≤ 9223372036854775807)
    (bd bn bf bo : Nat) (x1 : Bx1 w bd (.pointer (some ⟨p, 0, none⟩)) 30) (x2 : Bx1 w bn (.string s) 9) (x3 : w.heap[bf]? = some (.cells #[.slice r.a (fget D.L s.data.toList).now.length r.c, .slice r.b (fget D.L s.data.toList).syn.length r.d, .int .i64 (r.s : Int)] 113 (0, 0))) (x4 : Bx1 w bo (.int .i64 (k : Int)) 3) :
    Do w p m R kb ko D 135 #[.pointer (some ⟨bd, 0, none⟩), .pointer (some ⟨bn, 0, none⟩), .pointer (some ⟨bf, 0, none⟩), .pointer (some ⟨bo, 0, none⟩)] s.data.toList ⟨(fget D.L s.data.toList).now.take k, (fget D.L s.data.toList).syn⟩ := by
  have tyD : ∀ {b : Nat} {cs : Array Value} {T : TypeId}, w.heap[b]? = some (.cells cs T (0, 0)) → T ≠ 69 → b ≠ p := fun {b cs T} hb hT e => by
    rw [e, h.blk] at hb
    injection hb with hb
    injection hb with _ hb _
    exact hT hb.symm
  refine ⟨fun W ka2 kc2 D2 hD2 hL hF hW => ?_⟩
  have y1 : Bx1 W bd _ _ := (hW.block bd (Array.getElem?_eq_some_iff.1 x1).1 (tyD x1 (by decide))).trans x1
  have y2 : Bx1 W bn _ _ := (hW.block bn (Array.getElem?_eq_some_iff.1 x2).1 (tyD x2 (by decide))).trans x2
  have y3 := (hW.block bf (Array.getElem?_eq_some_iff.1 x3).1 (tyD x3 (by decide))).trans x3
  have y4 : Bx1 W bo _ _ := (hW.block bo (Array.getElem?_eq_some_iff.1 x4).1 (tyD x4 (by decide))).trans x4
  rw [← hL] at hr y3 hk ⊢
  rw [← hL, ← hF] at hfr
  rw [← hL] at hcnt
  obtain ⟨hfil, hblk⟩ := hD2.file hr
  obtain ⟨f0, hf0⟩ : ∃ f0, fget D2.L s.data.toList = f0 := ⟨_, rfl⟩
  have HF0 := hide hf0
  rw [hf0] at hfil y3 hk hfr ⊢
  obtain ⟨ra, rg, rc, rb, rh, rd, rs⟩ := r
  obtain ⟨n, hn⟩ : ∃ n, f0.now.length = n := ⟨_, rfl⟩
  obtain ⟨n2, hn2⟩ : ∃ n, f0.syn.length = n := ⟨_, rfl⟩
  simp only [hn, hn2] at y3
  have b1 := hfil.b1
  have HA := fcut_any W ra n rc rb n2 rd rs k (min rs k) (by omega) (by have := hfil.now.le; simp only at this; omega) rfl
  have HP : Hid (∀ w2, Below W.heap.size W w2 → Calls Tryz.prog 113 #[.pointer (some ⟨p, 0, none⟩), .string s, fv ra k rc rb n2 rd (min rs k)] w2 fun e w' => e = .returned (.tuple #[]) ∧ (∃ R', Dk w' p m R' ka2 kb ko kc2 (dput D2 s.data.toList ⟨f0.now.take k, f0.syn⟩) none ∧ (∀ x, (∃ t' ∈ keys (dput D2 s.data.toList ⟨f0.now.take k, f0.syn⟩).L, Blk (R' t') x) → (∃ t' ∈ keys D2.L, Blk (R t') x) ∨ W.heap.size ≤ x) ∧ Upo (fun x => x = p ∨ x = m ∨ ∃ t' ∈ keys D2.L, Blk (R t') x) W w') ∧ Upo (fun x => x = p ∨ x = m) w2 w') := fun w2 hb2 => by
    have u2 : Upo (fun _ => False) W w2 := Upo.of hb2
    have hst := hD2.stale (s := s.data.toList) (T := fun _ => False) (fun x q => q.elim) u2 (fun x q => q.elim)
    have hb' : ∀ x, Blk ⟨ra, rg, rc, rb, rh, rd, min rs k⟩ x → Blk ⟨ra, rg, rc, rb, rh, rd, rs⟩ x ∨ W.heap.size ≤ x := fun x q => .inl q
    have hlt : (f0.now.take k).length = k := by simp; omega
    have hfil2 : Fil w2 ⟨f0.now.take k, f0.syn⟩ ⟨ra, rg, rc, rb, rh, rd, min rs k⟩ := by
      have s1 := hfil.s1
      have s2 := hfil.s2
      simp only at s1 s2
      refine ⟨(hfil.now.cut (k := k) (by omega)).next hb2 (Nat.le_refl _), hfil.syn.next hb2 (Nat.le_refl _), by simp only [hlt]; omega, by simp only; omega, ?_, hfil.ap, by simp only [hlt]; omega, hfil.b2⟩
      show f0.syn.take (min rs k) = (f0.now.take k).take (min rs k)
      have e := congrArg (List.take (min rs k)) hfil.sm
      simp only [List.take_take] at e
      rw [show min (min rs k) rs = min rs k by omega] at e
      rw [e, List.take_take, show min (min rs k) k = min rs k by omega]
    have hc := put_any w2 p m R ka2 kb ko kc2 D2 s ⟨f0.now.take k, f0.syn⟩ ⟨ra, rg, rc, rb, rh, rd, min rs k⟩ hst hfil2 hs (do_apart hD2 hr hb') hcnt (by rw [hf0]; omega) (by rw [hf0]; simp only [hlt]; omega)
    simp only [fval, hn2, hlt] at hc
    refine hc.mono fun e w3 q => ⟨q.1, do_fin hD2 hr (T := fun _ => False) (fun x q => q.elim) u2 hb' q.2.1 q.2.2, q.2.2⟩
  have ne : ∀ {b : Nat} {cs : Array Value} {T : TypeId}, W.heap[b]? = some (.cells cs T (0, 0)) → T ≠ 5 → T ≠ 69 → True ∧ b ≠ p ∧ b ≠ m := fun {b cs T} hb h1 h2 =>
    ⟨trivial, Ty.ne ⟨_, _, hb⟩ ⟨_, _, hD2.blk⟩ h2, Ty.mv ⟨_, _, hb⟩ hD2.mp⟩
  have keep : ∀ {b : Nat} {cs : Array Value} {T : TypeId} (Z Z' : World), W.heap[b]? = some (.cells cs T (0, 0)) → T ≠ 5 → T ≠ 69 → Below W.heap.size W Z → Upo (fun x => x = p ∨ x = m) Z Z' → Z'.heap[b]? = some (.cells cs T (0, 0)) := fun {b cs T} Z Z' hb h1 h2 hu hu' => by
    obtain ⟨n1, n2, n3⟩ := ne hb h1 h2
    have hlt := (Array.getElem?_eq_some_iff.1 hb).1
    exact (hu'.block b (by have := hu.size; omega) (fun q => q.elim n2 n3)).trans ((hu.block b hlt).trans hb)
  have HCl : Hid (∀ Z Z', Below W.heap.size W Z → Upo (fun x => x = p ∨ x = m) Z Z' → Z'.cell? ⟨bd, 0, none⟩ = some (.pointer (some ⟨p, 0, none⟩)) ∧ Z'.cell? ⟨bn, 0, none⟩ = some (.string s) ∧ Z'.cell? ⟨bf, 0, none⟩ = some (.slice ra n rc) ∧ Z'.cell? ⟨bf, 1, none⟩ = some (.slice rb n2 rd) ∧ Z'.cell? ⟨bf, 2, none⟩ = some (.int .i64 (rs : Int)) ∧ Z'.cell? ⟨bo, 0, none⟩ = some (.int .i64 (k : Int))) := fun Z Z' hu hu' => by
    obtain ⟨a0, a1, a2⟩ := three_at (keep Z Z' y3 (by decide) (by decide) hu hu')
    exact ⟨Bx1.at (keep Z Z' y1 (by decide) (by decide) hu hu'), Bx1.at (keep Z Z' y2 (by decide) (by decide) hu hu'), a0, a1, a2, Bx1.at (keep Z Z' y4 (by decide) (by decide) hu hu')⟩
  obtain ⟨c1, c2, c3, c4, c5, c6⟩ := HCl.out W W (Below.refl _ _) (Upo.refl _ _)
  obtain ⟨mk, hmk⟩ : ∃ mk, min rs k = mk := ⟨_, rfl⟩
  rw [hmk] at HA HP
  have HA2 : Calls Tryz.prog 136 #[.agg #[.slice ra n rc, .slice rb n2 rd, .int .i64 (rs : Int)], .int .i64 (k : Int)] W.drew fun e w' => e = .returned (fv ra k rc rb n2 rd mk) ∧ Below W.heap.size W w' := by
    have q := fcut_any W.drew ra n rc rb n2 rd rs k mk (by omega) (by have := hfil.now.le; simp only at this; omega) hmk
    exact q.mono fun e w' q => ⟨q.1, q.2.os, q.2.tape, q.2.output, q.2.size, q.2.block⟩
  clear HA x1 x2 x3 x4 y1 y2 y3 y4 hfil hblk hr hk hn hn2 hfr hcnt hf0 hD2 hW h tyD ne keep hmk hs b1
  go_enter Tryz.func135, Tryz.ntmps135
  go_upto_region 0 with (fail)
  go_region_held3 (fun Z => Z.cell? ⟨bd, 0, none⟩ = some (.pointer (some ⟨p, 0, none⟩)) ∧ Z.cell? ⟨bn, 0, none⟩ = some (.string s) ∧ Z.cell? ⟨bf, 0, none⟩ = some (.slice ra n rc) ∧ Z.cell? ⟨bf, 1, none⟩ = some (.slice rb n2 rd) ∧ Z.cell? ⟨bf, 2, none⟩ = some (.int .i64 (rs : Int)) ∧ Z.cell? ⟨bo, 0, none⟩ = some (.int .i64 (k : Int))) (first | assumption | (exact ⟨c1, c2, c3, c4, c5, c6⟩) | (exact HCl.out _ _ u2 (Upo.refl _ _)) | (exact HCl.out _ _ u2 u3)) (first
    | (go_at_call 136; (with_reducible refine HA2.mono ?_); rintro e w2 ⟨rfl, u2⟩)
    | (go_at_call 113; (with_reducible refine (HP.out w2 u2).mono ?_); rintro e w3 ⟨rfl, hfin, u3⟩))
  go_wp2
  go_end0
  exact ⟨rfl, hfin⟩
end
end Go.Proofs.YthfnpagangjpbabGreat
namespace Go.Proofs.YthfnpagangjpbabGreat
open Go.RowKit
section
variable {p m : Nat} {R : List UInt8 → FR} {ka : Option Addr} {kb ko kc : Nat} {D : DV}
set_option maxRecDepth 100000 in
set_option maxHeartbeats 1000000 in
theorem do_sync (w : World) (h : Dk w p m R ka kb ko kc D none) (s : ByteArray) (hs : s.size ≤ maxLen) (hcnt : D.L.length < 1099511627776) (hfr : D.free + (fget D.L s.data.toList).now.length ≤ 9223372036854775807)
    (bd bn : Nat) (x1 : Bx1 w bd (.pointer (some ⟨p, 0, none⟩)) 30) (x2 : Bx1 w bn (.string s) 9) :
    Do w p m R kb ko D 112 #[.pointer (some ⟨bd, 0, none⟩), .pointer (some ⟨bn, 0, none⟩)] s.data.toList ⟨(fget D.L s.data.toList).now, (fget D.L s.data.toList).now⟩ := by
  have tyD : ∀ {b : Nat} {cs : Array Value} {T : TypeId}, w.heap[b]? = some (.cells cs T (0, 0)) → T ≠ 69 → b ≠ p := fun {b cs T} hb hT e => by
    rw [e, h.blk] at hb
    injection hb with hb
    injection hb with _ hb _
    exact hT hb.symm
  refine ⟨fun W ka2 kc2 D2 hD2 hL hF hW => ?_⟩
  have y1 : Bx1 W bd _ _ := (hW.block bd (Array.getElem?_eq_some_iff.1 x1).1 (tyD x1 (by decide))).trans x1
  have y2 : Bx1 W bn _ _ := (hW.block bn (Array.getElem?_eq_some_iff.1 x2).1 (tyD x2 (by decide))).trans x2
  rw [← hL, ← hF] at hfr
  rw [← hL] at hcnt ⊢
  obtain ⟨r, hl, hr⟩ := hD2.look s hs
  obtain ⟨hfil, hblk⟩ := hD2.file hr
  obtain ⟨f0, hf0⟩ : ∃ f0, fget D2.L s.data.toList = f0 := ⟨_, rfl⟩
  rw [hf0] at hfil hfr hl ⊢
  obtain ⟨ra, rg, rc, rb, rh, rd, rs⟩ := r
  obtain ⟨n, hn⟩ : ∃ n, f0.now.length = n := ⟨_, rfl⟩
  obtain ⟨n2, hn2⟩ : ∃ n, f0.syn.length = n := ⟨_, rfl⟩
  simp only [fval, fv, hn, hn2] at hl
  have b1 := hfil.b1
  have s1 := hfil.s1
  have s2 := hfil.s2
  simp only at s1 s2
  have HP : Hid (∀ w2 b' h' d', Rw w2 b' h' d' f0.now → Upo (fun b => rb = some ⟨rh, 0, none⟩ ∧ b = rh) W w2 → ((b' = rb ∧ h' = rh) ∨ (W.heap.size ≤ h' ∧ h' < w2.heap.size)) → (rb = some ⟨rh, 0, none⟩ → Ty w2 rh 5) →
      Calls Tryz.prog 113 #[.pointer (some ⟨p, 0, none⟩), .string s, fv ra n rc b' n d' n] w2 fun e w' => e = .returned (.tuple #[]) ∧ (∃ R', Dk w' p m R' ka2 kb ko kc2 (dput D2 s.data.toList ⟨f0.now, f0.now⟩) none ∧ (∀ x, (∃ t' ∈ keys (dput D2 s.data.toList ⟨f0.now, f0.now⟩).L, Blk (R' t') x) → (∃ t' ∈ keys D2.L, Blk (R t') x) ∨ W.heap.size ≤ x) ∧ Upo (fun x => x = p ∨ x = m ∨ ∃ t' ∈ keys D2.L, Blk (R t') x) W w') ∧ Upo (fun x => x = p ∨ x = m) w2 w' ∧ w'.cell? ⟨p, 1, none⟩ = some (.map (some m))) := fun w2 b' h' d' rw2 u2 loc ty2 => by
    have hT : ∀ x, (rb = some ⟨rh, 0, none⟩ ∧ x = rh) → Blk ⟨ra, rg, rc, rb, rh, rd, rs⟩ x := fun x q => .inr q
    have hst := hD2.stale (s := s.data.toList) (fun x q => hblk x (hT x q)) u2 (fun x q => by rw [q.2]; exact ty2 q.1)
    have hb' : ∀ x, Blk ⟨ra, rg, rc, b', h', d', n⟩ x → Blk ⟨ra, rg, rc, rb, rh, rd, rs⟩ x ∨ W.heap.size ≤ x := fun x q => by
      rcases q with q | ⟨q1, q2⟩
      · exact .inl (.inl q)
      · simp only at q1 q2
        rcases loc with ⟨l1, l2⟩ | l
        · exact .inl (.inr ⟨by rw [← l1, q1, l2], by rw [q2, l2]⟩)
        · exact .inr (by omega)
    have hnowW : Rw w2 ra rg rc f0.now := hfil.now.same fun e => u2.block rg (hfil.now.ty e).lt (fun q => hfil.ap e q.1 q.2)
    have hfil2 : Fil w2 ⟨f0.now, f0.now⟩ ⟨ra, rg, rc, b', h', d', n⟩ := by
      refine ⟨hnowW, rw2, by simp only; omega, by simp only; omega, rfl, fun e1 e2 => ?_, hfil.b1, hfil.b1⟩
      simp only at e1 e2 ⊢
      rcases loc with ⟨l1, l2⟩ | l
      · rw [l2]; exact hfil.ap e1 (by rw [← l1, e2, l2])
      · have := (hfil.now.ty e1).lt
        simp only at this
        omega
    have hc := put_any w2 p m R ka2 kb ko kc2 D2 s ⟨f0.now, f0.now⟩ ⟨ra, rg, rc, b', h', d', n⟩ hst hfil2 hs (do_apart hD2 hr hb') hcnt (by rw [hf0]; omega) (by rw [hf0]; simp only; omega)
    simp only [fval, hn] at hc
    refine hc.mono fun e w3 q => ⟨q.1, do_fin hD2 hr hT u2 hb' q.2.1 q.2.2, q.2.2, q.2.1.cells.2.1⟩
  have ne : ∀ {b : Nat} {cs : Array Value} {T : TypeId}, W.heap[b]? = some (.cells cs T (0, 0)) → T ≠ 5 → (¬ (rb = some ⟨rh, 0, none⟩ ∧ b = rh)) ∧ b ≠ m := fun {b cs T} hb h1 =>
    ⟨fun q => (Ty.ne ⟨_, _, hb⟩ (hfil.syn.ty q.1) h1) q.2, Ty.mv ⟨_, _, hb⟩ hD2.mp⟩
  have keep : ∀ {b : Nat} {cs : Array Value} {T : TypeId} (Z Z' : World), W.heap[b]? = some (.cells cs T (0, 0)) → T ≠ 5 → T ≠ 69 → Upo (fun b => rb = some ⟨rh, 0, none⟩ ∧ b = rh) W Z → Upo (fun x => x = p ∨ x = m) Z Z' → Z'.heap[b]? = some (.cells cs T (0, 0)) := fun {b cs T} Z Z' hb h1 h2 hu hu' => by
    obtain ⟨n1, n3⟩ := ne hb h1
    have n2 : b ≠ p := Ty.ne ⟨_, _, hb⟩ ⟨_, _, hD2.blk⟩ h2
    have hlt := (Array.getElem?_eq_some_iff.1 hb).1
    exact (hu'.block b (by have := hu.size; omega) (fun q => q.elim n2 n3)).trans ((hu.block b hlt n1).trans hb)
  have HCl : Hid (∀ Z Z', Upo (fun b => rb = some ⟨rh, 0, none⟩ ∧ b = rh) W Z → Upo (fun x => x = p ∨ x = m) Z Z' → Z'.cell? ⟨bd, 0, none⟩ = some (.pointer (some ⟨p, 0, none⟩)) ∧ Z'.cell? ⟨bn, 0, none⟩ = some (.string s)) := fun Z Z' hu hu' =>
    ⟨Bx1.at (keep Z Z' y1 (by decide) (by decide) hu hu'), Bx1.at (keep Z Z' y2 (by decide) (by decide) hu hu')⟩
  have HCm : Hid (∀ Z, Upo (fun b => rb = some ⟨rh, 0, none⟩ ∧ b = rh) W Z → Z.cell? ⟨p, 1, none⟩ = some (.map (some m))) := fun Z hu => by
    have e := (hu.block p (Array.getElem?_eq_some_iff.1 hD2.blk).1 (ne hD2.blk (by decide)).1).trans hD2.blk
    rw [cell_of_row Z p 1 _ _ (0, 0) e]; rfl
  obtain ⟨c1, c2⟩ := HCl.out W W (Upo.refl _ _) (Upo.refl _ _)
  have c3 := HCm.out W (Upo.refl _ _)
  have HA2 : Calls Tryz.prog 70 #[.agg #[.slice ra n rc, .slice rb n2 rd, .int .i64 (rs : Int)]] W.drew fun e w' => ∃ b' h' d', e = .returned (fv ra n rc b' n d' n) ∧ Rw w' b' h' d' f0.now ∧ Upo (fun x => rb = some ⟨rh, 0, none⟩ ∧ x = rh) W w' ∧ ((b' = rb ∧ h' = rh) ∨ (W.heap.size ≤ h' ∧ h' < w'.heap.size)) ∧ (rb = some ⟨rh, 0, none⟩ → Ty w' rh 5) := by
    have q := fsync_any W.drew ra rg n rc f0.now rb rh n2 rd rs f0.syn (hfil.now.same (W := W.drew) fun _ => rfl) (hfil.syn.same (W := W.drew) fun _ => rfl) hn hn2 (by omega) (by omega) hfil.sm (by omega)
    exact q.mono fun e w' q => by
      obtain ⟨b', h', d', q1, q2, q3, q4⟩ := q
      exact ⟨b', h', d', q1, q2, ⟨q3.os, q3.tape, q3.output, q3.size, q3.block⟩, q4⟩
  have hl1 := hl W.drew rfl
  clear x1 x2 y1 y2 hfil hblk hr hn hn2 hfr hcnt hf0 hD2 hW h tyD ne keep hs b1 s1 s2 hl
  go_enter Tryz.func112, Tryz.ntmps112
  go_upto_region 0 with (fail)
  go_region_held3 (fun Z => Z.cell? ⟨bd, 0, none⟩ = some (.pointer (some ⟨p, 0, none⟩)) ∧ Z.cell? ⟨bn, 0, none⟩ = some (.string s) ∧ Z.cell? ⟨p, 1, none⟩ = some (.map (some m))) (first | assumption | (exact ⟨c1, c2, c3⟩) | (exact ⟨(HCl.out _ _ u2 (Upo.refl _ _)).1, (HCl.out _ _ u2 (Upo.refl _ _)).2, HCm.out _ u2⟩) | (exact ⟨(HCl.out _ _ u2 u3).1, (HCl.out _ _ u2 u3).2, cm3⟩)) (first
    | (go_at_call 70; (with_reducible refine HA2.mono ?_); rintro e w2 ⟨b', h', d', rfl, rw2, u2, loc, ty2⟩)
    | (go_at_call 113; (with_reducible refine (HP.out w2 b' h' d' rw2 u2 loc ty2).mono ?_); rintro e w3 ⟨rfl, hfin, u3, cm3⟩))
  go_wp2
  go_end0
  exact ⟨rfl, hfin⟩
end
end Go.Proofs.YthfnpagangjpbabGreat
