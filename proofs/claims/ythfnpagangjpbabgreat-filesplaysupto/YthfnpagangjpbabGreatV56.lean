/-
  Own work: FGk.
-/
import Derived.Deep.RegionHeld3
import Derived.BigRegion
import Derived.Test.YthfnpagangjpbabGreatV55
namespace Go.Proofs.YthfnpagangjpbabGreat
open Go.RowKit
theorem newz (w : World) (o o' : Obj) : ((w.alloc o).alloc o').heap[w.heap.size]? = some o := by
  have h := bal (Below.refl (w.alloc o).heap.size (w.alloc o)) o'
  exact (h.block w.heap.size (by simp)).trans (new1 w o)
theorem two_a {w W : World} {o o' : Obj} (h : Below ((w.alloc o).alloc o').heap.size ((w.alloc o).alloc o') W) : W.heap[w.heap.size + 1]? = some o' := (h.block _ (by simp)).trans (new2 _ _ _)
theorem two_b {w W : World} {o o' : Obj} (h : Below ((w.alloc o).alloc o').heap.size ((w.alloc o).alloc o') W) : W.heap[w.heap.size]? = some o := (h.block _ (by simp; omega)).trans (newz _ _ _)
theorem tell_lenq (L : List (List UInt8 × FV)) : (tell L).length ≤ L.length := by
  induction L with
  | nil => exact Nat.le_refl _
  | cons p r ih =>
    obtain ⟨t, g⟩ := p
    rw [tell]
    split <;> simp only [List.length_cons] <;> omega
section
variable {S T : Nat → Prop} {pa p r k : Nat} {D : DV} {V : RV}
theorem Dsk.filesq {w : World} (h : Dsk w p S D) {l : List (List UInt8 × List UInt8)} (hl : tell D.L = l) : Calls Tryz.prog 47 #[.pointer (some ⟨p, 0, none⟩)] w fun e w' => ∃ v, e = .returned v ∧ OwnF w' w.heap.size v l ∧ Below w.heap.size w w' := by
  rw [← hl]
  exact h.files
theorem Dsk.afterq {w : World} (h : Dsk w p S D) (qa : Option Addr) (qb qo qc : Nat) (ks : List Bool) (hk : RdL w qa qb qo ks) (hkl : ks.length ≤ 140737488355328) {l : List (List UInt8 × List UInt8)} (hl : aft ks D.L 0 = l) : Calls Tryz.prog 49 #[.pointer (some ⟨p, 0, none⟩), .slice qa ks.length qc] w fun e w' => ∃ v, e = .returned v ∧ OwnF w' w.heap.size v l ∧ Below w.heap.size w w' := by
  rw [← hl]
  exact h.after qa qb qo qc ks hk (by omega)
set_option maxRecDepth 100000 in
set_option maxHeartbeats 8000000 in
theorem alike_any (w : World) (kk : Int) (sv qv : Value) (hB : w.heap[pa]? = some (.cells #[.int .i64 kk, .pointer (some ⟨p, 0, none⟩), .pointer (some ⟨r, 0, none⟩), sv, qv] 37 (0, 0))) (h1 : Dsk w p S D) (h2 : Rsk w r T V) (hb : Bd D V k) :
    Calls Tryz.prog 19 #[.pointer (some ⟨pa, 0, none⟩)] w fun e w' => e = .returned (.bool true) ∧ Below w.heap.size w w' := by
  have HC : Hid (∀ W, Below w.heap.size w W → W.cell? ⟨pa, 1, none⟩ = some (.pointer (some ⟨p, 0, none⟩)) ∧ W.cell? ⟨pa, 2, none⟩ = some (.pointer (some ⟨r, 0, none⟩))) := fun W hW => by
    obtain ⟨_, z1, z2, _, _⟩ := five_at ((hW.block pa (Array.getElem?_eq_some_iff.1 hB).1).trans hB)
    exact ⟨z1, z2⟩
  have hdl : D.L.length < 1099511627776 := by have := hb.dlen; have := hb.few; omega
  obtain ⟨f, hf⟩ : ∃ l, tell V.L = l := ⟨_, rfl⟩
  have hfl : f.length ≤ 4611686018427387904 := by rw [← hf, ← hb.sim.tell]; have := tell_lenq D.L; omega
  obtain ⟨fl, hfl2⟩ : ∃ n, f.length = n := ⟨_, rfl⟩
  have HFd : Hid (∀ W, Below w.heap.size w W → Calls Tryz.prog 47 #[.pointer (some ⟨p, 0, none⟩)] W fun e w' => ∃ a b c, e = .returned (.slice a fl c) ∧ RdF w' a b 0 f ∧ Below W.heap.size W w') := fun W hW => by
    refine ((h1.next hW).filesq (hb.sim.tell.trans hf)).mono fun e w' q => ?_
    obtain ⟨v, q1, q2, q3⟩ := q
    obtain ⟨a, b, c, rfl, q4, _⟩ := ownF_rd q2
    rw [hfl2] at q1
    exact ⟨a, b, c, q1, q4, q3⟩
  have HFr : Hid (∀ W, Below w.heap.size w W → Calls Tryz.prog 48 #[.pointer (some ⟨r, 0, none⟩)] W fun e w' => ∃ a b c, e = .returned (.slice a fl c) ∧ RdF w' a b 0 f ∧ Below W.heap.size W w') := fun W hW => by
    refine ((h2.next hW).files hf).mono fun e w' q => ?_
    obtain ⟨v, q1, q2, q3⟩ := q
    obtain ⟨a, b, c, rfl, q4, _⟩ := ownF_rd q2
    rw [hfl2] at q1
    exact ⟨a, b, c, q1, q4, q3⟩
  obtain ⟨ac, hac⟩ : ∃ n, V.cnt = n := ⟨_, rfl⟩
  obtain ⟨dn, hdn⟩ : ∃ n, V.out = n := ⟨_, rfl⟩
  have HCd : Hid (∀ W, Below w.heap.size w W → Calls Tryz.prog 21 #[.pointer (some ⟨p, 0, none⟩)] W fun e w' => e = .returned (.int .i64 (ac : Int)) ∧ w' = W) := fun W hW => by
    have := (h1.next hW).acts
    rw [hb.sim.acts, hac] at this
    exact this
  have HCr : Hid (∀ W, Below w.heap.size w W → Calls Tryz.prog 44 #[.pointer (some ⟨r, 0, none⟩)] W fun e w' => e = .returned (.int .i64 (ac : Int)) ∧ w' = W) := fun W hW => by
    have := (h2.next hW).acts
    rw [hac] at this
    exact this
  have HDd : Hid (∀ W, Below w.heap.size w W → Calls Tryz.prog 45 #[.pointer (some ⟨p, 0, none⟩)] W fun e w' => e = .returned (.bool dn) ∧ w' = W) := fun W hW => by
    have := (h1.next hW).down
    rw [hb.sim.down, hdn] at this
    exact this
  have HDr : Hid (∀ W, Below w.heap.size w W → Calls Tryz.prog 30 #[.pointer (some ⟨r, 0, none⟩)] W fun e w' => e = .returned (.bool dn) ∧ w' = W) := fun W hW => by
    have := (h2.next hW).down
    rw [hdn] at this
    exact this
  obtain ⟨lf, hlf⟩ : ∃ f : List Bool → List (List UInt8 × List UInt8), (fun ks => raf V ks) = f := ⟨_, rfl⟩
  have hlf2 : ∀ ks, raf V ks = lf ks := fun ks => by rw [← hlf]
  have hlen : ∀ ks, (lf ks).length ≤ 4611686018427387904 := fun ks => by rw [← hlf2, ← hb.sim.aft]; have := aft_len ks D.L 0; omega
  have HAd : Hid (∀ W ka kb kc ks n, Below w.heap.size w W → ks.length = n → n ≤ 2 → RdL W ka kb 0 ks → Calls Tryz.prog 49 #[.pointer (some ⟨p, 0, none⟩), .slice ka n kc] W fun e w' => ∃ a b c, e = .returned (.slice a (lf ks).length c) ∧ RdF w' a b 0 (lf ks) ∧ Below W.heap.size W w') := fun W ka kb kc ks n hW hn hn2 hk => by
    have := (h1.next hW).afterq ka kb 0 kc ks hk (by omega) ((hb.sim.aft ks).trans (hlf2 ks))
    rw [hn] at this
    refine this.mono fun e w' q => ?_
    obtain ⟨v, q1, q2, q3⟩ := q
    obtain ⟨a, b, c, rfl, q4, _⟩ := ownF_rd q2
    exact ⟨a, b, c, q1, q4, q3⟩
  have HAr : Hid (∀ W ka kb kc ks n, Below w.heap.size w W → ks.length = n → n ≤ 2 → RdL W ka kb 0 ks → Calls Tryz.prog 50 #[.pointer (some ⟨r, 0, none⟩), .slice ka n kc] W fun e w' => ∃ a b c, e = .returned (.slice a (lf ks).length c) ∧ RdF w' a b 0 (lf ks) ∧ Below W.heap.size W w') := fun W ka kb kc ks n hW hn hn2 hk => by
    have := (h2.next hW).after (by have := hb.len; have := hb.few; omega) ka kb 0 kc ks hk (by omega) (hlf2 ks)
    rw [hn] at this
    refine this.mono fun e w' q => ?_
    obtain ⟨v, q1, q2, q3⟩ := q
    obtain ⟨a, b, c, rfl, q4, _⟩ := ownF_rd q2
    exact ⟨a, b, c, q1, q4, q3⟩
  have HSf : Hid (∀ (W : World) a b c a' b' c', RdF W a b 0 f → RdF W a' b' 0 f → Calls Tryz.prog 46 #[.slice a fl c, .slice a' fl c'] W fun e w' => e = .returned (.bool true) ∧ Below W.heap.size W w') := fun W a b c a' b' c' h1 h2 => by
    have := same_yes W f a b 0 c h1 a' b' 0 c' h2 hfl
    rw [hfl2] at this
    exact this
  have HSl : Hid (∀ (W : World) ks a b c a' b' c', RdF W a b 0 (lf ks) → RdF W a' b' 0 (lf ks) → Calls Tryz.prog 46 #[.slice a (lf ks).length c, .slice a' (lf ks).length c'] W fun e w' => e = .returned (.bool true) ∧ Below W.heap.size W w') := fun W ks a b c a' b' c' h1 h2 => same_yes W (lf ks) a b 0 c h1 a' b' 0 c' h2 (hlen ks)
  obtain ⟨n2, hn2⟩ : ∃ n, (lf [true, false]).length = n := ⟨_, rfl⟩
  obtain ⟨f2', hf2'⟩ : ∃ n, lf [true, false] = n := ⟨_, rfl⟩
  obtain ⟨n0, hn0⟩ : ∃ n, (lf []).length = n := ⟨_, rfl⟩
  obtain ⟨f0', hf0'⟩ : ∃ n, lf [] = n := ⟨_, rfl⟩
  rw [hf2'] at hn2
  rw [hf0'] at hn0
  have HAd2 : Hid (∀ (W : World) (b : Nat), Below w.heap.size w W → W.heap[b]? = some (.cells #[.bool true, .bool false] 4 (0, 0)) → Calls Tryz.prog 49 #[.pointer (some ⟨p, 0, none⟩), .slice (some ⟨b, 0, none⟩) 2 2] W fun e w' => ∃ a b c, e = .returned (.slice a n2 c) ∧ RdF w' a b 0 f2' ∧ Below W.heap.size W w') := fun W b hW hk => by
    have := HAd.out W (some ⟨b, 0, none⟩) b 2 [true, false] 2 hW rfl (by decide) (rdl_two hk)
    rw [hf2', hn2] at this
    exact this
  have HAr2 : Hid (∀ (W : World) (b : Nat), Below w.heap.size w W → W.heap[b]? = some (.cells #[.bool true, .bool false] 4 (0, 0)) → Calls Tryz.prog 50 #[.pointer (some ⟨r, 0, none⟩), .slice (some ⟨b, 0, none⟩) 2 2] W fun e w' => ∃ a b c, e = .returned (.slice a n2 c) ∧ RdF w' a b 0 f2' ∧ Below W.heap.size W w') := fun W b hW hk => by
    have := HAr.out W (some ⟨b, 0, none⟩) b 2 [true, false] 2 hW rfl (by decide) (rdl_two hk)
    rw [hf2', hn2] at this
    exact this
  have HAd0 : Hid (∀ (W : World), Below w.heap.size w W → Calls Tryz.prog 49 #[.pointer (some ⟨p, 0, none⟩), .slice none 0 0] W fun e w' => ∃ a b c, e = .returned (.slice a n0 c) ∧ RdF w' a b 0 f0' ∧ Below W.heap.size W w') := fun W hW => by
    have := HAd.out W none 0 0 [] 0 hW rfl (by decide) (rdl_nil _ _ _ _)
    rw [hf0', hn0] at this
    exact this
  have HAr0 : Hid (∀ (W : World), Below w.heap.size w W → Calls Tryz.prog 50 #[.pointer (some ⟨r, 0, none⟩), .slice none 0 0] W fun e w' => ∃ a b c, e = .returned (.slice a n0 c) ∧ RdF w' a b 0 f0' ∧ Below W.heap.size W w') := fun W hW => by
    have := HAr.out W none 0 0 [] 0 hW rfl (by decide) (rdl_nil _ _ _ _)
    rw [hf0', hn0] at this
    exact this
  have HS2 : Hid (∀ (W : World) a b c a' b' c', RdF W a b 0 f2' → RdF W a' b' 0 f2' → Calls Tryz.prog 46 #[.slice a n2 c, .slice a' n2 c'] W fun e w' => e = .returned (.bool true) ∧ Below W.heap.size W w') := fun W a b c a' b' c' h1 h2 => by
    have := HSl.out W [true, false] a b c a' b' c' (by rw [hf2']; exact h1) (by rw [hf2']; exact h2)
    rw [hf2', hn2] at this
    exact this
  have HS0 : Hid (∀ (W : World) a b c a' b' c', RdF W a b 0 f0' → RdF W a' b' 0 f0' → Calls Tryz.prog 46 #[.slice a n0 c, .slice a' n0 c'] W fun e w' => e = .returned (.bool true) ∧ Below W.heap.size W w') := fun W a b c a' b' c' h1 h2 => by
    have := HSl.out W [] a b c a' b' c' (by rw [hf0']; exact h1) (by rw [hf0']; exact h2)
    rw [hf0', hn0] at this
    exact this
  clear HAd HAr HSl
  have tw : Below w.heap.size w w := Below.refl _ _
  obtain ⟨x0, x1⟩ := HC.out _ tw
  clear hB h1 h2 hb hdl hf hfl hfl2 hac hdn hlf hlf2 hlen hn2 hn0 hf2' hf0'
  go_enter Tryz.func19, Tryz.ntmps19
  go_upto_region 1 with (fail)
  have tw := tw.drew
  dsimp only [List.append]
  go_region_held3 (fun Z => Z.cell? ⟨pa, 1, none⟩ = some (.pointer (some ⟨p, 0, none⟩)) ∧ Z.cell? ⟨pa, 2, none⟩ = some (.pointer (some ⟨r, 0, none⟩))) (first | assumption | (with_reducible exact HC.out _ tw) | (with_reducible exact HC.out _ (bal tw _)) | (with_reducible exact HC.out _ (bal (bal tw _) _)) | (with_reducible exact ⟨x0, x1⟩)) (first
    | (go_at_call 21; (with_reducible refine (HCd.out _ tw).mono ?_); rintro e W1 ⟨rfl, rfl⟩)
    | (go_at_call 44; (with_reducible refine (HCr.out _ tw).mono ?_); rintro e W1 ⟨rfl, rfl⟩)
    | (go_at_call 45; (with_reducible refine (HDd.out _ tw).mono ?_); rintro e W1 ⟨rfl, rfl⟩)
    | (go_at_call 30; (with_reducible refine (HDr.out _ tw).mono ?_); rintro e W1 ⟨rfl, rfl⟩)
    | (go_at_call 47; (with_reducible refine (HFd.out _ tw).mono ?_); rintro e W1 ⟨a1, b1, c1, rfl, f1, uu⟩; have tw := bnext tw uu; obtain ⟨x0, x1⟩ := HC.out _ tw)
    | (go_at_call 48; (with_reducible refine (HFr.out _ tw).mono ?_); rintro e W1 ⟨a2, b2, c2, rfl, f2, uu⟩; have tw := bnext tw uu; have f1 := f1.next uu; obtain ⟨x0, x1⟩ := HC.out _ tw)
    | (go_at_call 46; (with_reducible refine (HSf.out _ _ _ _ _ _ _ f1 f2).mono ?_); rintro e W1 ⟨rfl, uu⟩; have tw := bnext tw uu; obtain ⟨x0, x1⟩ := HC.out _ tw)
    | (go_at_call 49; (with_reducible refine (HAd2.out _ _ (bal tw _) (new1 _ _)).mono ?_); rintro e W1 ⟨a1, b1, c1, rfl, g1, uu⟩; have tw := bnext (bal tw _) uu; obtain ⟨x0, x1⟩ := HC.out _ tw)
    | (go_at_call 49; (with_reducible refine (HAd2.out _ _ (bal (bal tw _) _) (newz _ _ _)).mono ?_); rintro e W1 ⟨a1, b1, c1, rfl, g1, uu⟩; have hk := two_a uu; have tw := bnext (bal (bal tw _) _) uu; obtain ⟨x0, x1⟩ := HC.out _ tw)
    | (go_at_call 49; (with_reducible refine (HAd2.out _ _ (bal (bal tw _) _) (new2 _ _ _)).mono ?_); rintro e W1 ⟨a1, b1, c1, rfl, g1, uu⟩; have hk := two_b uu; have tw := bnext (bal (bal tw _) _) uu; obtain ⟨x0, x1⟩ := HC.out _ tw)
    | (go_at_call 50; (with_reducible refine (HAr2.out _ _ (bal tw _) (new1 _ _)).mono ?_); rintro e W1 ⟨a2, b2, c2, rfl, g2, uu⟩; have g1 := (g1.next (bal (Below.refl _ _) _)).next uu; have tw := bnext (bal tw _) uu; obtain ⟨x0, x1⟩ := HC.out _ tw)
    | (go_at_call 50; (with_reducible refine (HAr2.out _ _ tw hk).mono ?_); rintro e W1 ⟨a2, b2, c2, rfl, g2, uu⟩; have g1 := g1.next uu; have tw := bnext tw uu; obtain ⟨x0, x1⟩ := HC.out _ tw)
    | (go_at_call 46; (with_reducible refine (HS2.out _ _ _ _ _ _ _ g1 g2).mono ?_); rintro e W1 ⟨rfl, uu⟩; have tw := bnext tw uu; obtain ⟨x0, x1⟩ := HC.out _ tw)
    | (go_at_call 49; (with_reducible refine (HAd0.out _ tw).mono ?_); rintro e W1 ⟨a1, b1, c1, rfl, k1, uu⟩; have tw := bnext tw uu; obtain ⟨x0, x1⟩ := HC.out _ tw)
    | (go_at_call 50; (with_reducible refine (HAr0.out _ tw).mono ?_); rintro e W1 ⟨a2, b2, c2, rfl, k2, uu⟩; have k1 := k1.next uu; have tw := bnext tw uu; obtain ⟨x0, x1⟩ := HC.out _ tw)
    | (go_at_call 46; (with_reducible refine (HS0.out _ _ _ _ _ _ _ k1 k2).mono ?_); rintro e W1 ⟨rfl, uu⟩; have tw := bnext tw uu))
  all_goals
    go_wp2
    go_ret
    exact ⟨rfl, tw⟩
end
end Go.Proofs.YthfnpagangjpbabGreat
