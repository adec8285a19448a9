/-
  looks. Own work.
-/
import Derived.Test.YtmhedhhbdpdafabQOpd
import Derived.Test.YtmhedhhbdpdafabGAl
import Derived.Deep.RegionHeld3
namespace Go.Proofs.Ytmhedhhbdpdafab
open Go.RowKit
theorem tell_lenq : ∀ L : List (List UInt8 × FV), (tell L).length ≤ L.length
  | [] => Nat.le_refl _
  | (s, f) :: r => by
    have := tell_lenq r
    rw [tell]
    split
    · simp; omega
    · simp; omega
theorem sim_rd {D : DV} {V : RV} (h : Sim D V) (s : List UInt8) (off q : Int) : rdD D s off q = rrd V s off q := by
  unfold rdD rrd
  rw [h.down, h.get]
theorem sim_sz {D : DV} {V : RV} (h : Sim D V) (s : List UInt8) : sizD D s = rsz V s := by
  unfold sizD rsz
  rw [h.down, h.get]
section
variable {F : Nat → Prop} {pa p r k : Nat} {D : DV} {V : RV}
theorem Pq.cells {w0 w : World} (h : Pq w0 w F pa p r D V) : w.cell? ⟨pa, 0, none⟩ = some (.pointer (some ⟨p, 0, none⟩)) ∧ w.cell? ⟨pa, 1, none⟩ = some (.pointer (some ⟨r, 0, none⟩)) := by
  obtain ⟨_, _, h1, _⟩ := h
  constructor
  · rw [cell_of_row w _ 0 _ _ (0, 0) h1]; rfl
  · rw [cell_of_row w _ 1 _ _ (0, 0) h1]; rfl
set_option maxRecDepth 100000 in
set_option maxHeartbeats 8000000 in
theorem looks_any (w : World) (h : Pq w w F pa p r D V) (hb : Bd D V k) (kind which x n : Int) (nm dt : ByteArray) (ka : Option Addr) (kb ko kc : Nat) (ks : List Bool) (hs : nm.size ≤ maxLen) (ho1 : -9223372036854775808 ≤ x) (ho2 : x ≤ 9223372036854775807) (hn1 : -9223372036854775808 ≤ n) (hn2 : n ≤ 9223372036854775807) (hk : RdL w ka kb ko ks) (hkl : ks.length ≤ 140737488355328) :
    Calls Try.prog 28 #[.pointer (some ⟨pa, 0, none⟩), .agg #[.int .i64 kind, .int .i64 which, .string nm, .string dt, .int .i64 x, .int .i64 n, .slice ka ks.length kc]] w fun e w' => e = .returned (.bool true) ∧ Below w.heap.size w w' := by
  obtain ⟨kn, hkn⟩ : ∃ n, ks.length = n := ⟨_, rfl⟩
  obtain ⟨w1, hw1⟩ : ∃ W, w.alloc (.cells #[.int .i64 kind, .int .i64 which, .string nm, .string dt, .int .i64 x, .int .i64 n, .slice ka kn kc] 38) = W := ⟨_, rfl⟩
  have HW := hide hw1
  obtain ⟨bo, hbo⟩ : ∃ b, w.heap.size = b := ⟨_, rfl⟩
  have HBo := hide hbo
  have u1 : Below w.heap.size w w1 := by rw [← hw1]; exact bal (Below.refl _ _) _
  have k1 : w1.heap[bo]? = some (.cells #[.int .i64 kind, .int .i64 which, .string nm, .string dt, .int .i64 x, .int .i64 n, .slice ka kn kc] 38 (0, 0)) := by rw [← hw1, ← hbo]; exact new1 _ _
  have HU : Hid (∀ W, Below w1.heap.size w1 W → Below w.heap.size w W) := fun W hW => bnext u1 hW
  have HC : Hid (∀ W, Below w1.heap.size w1 W → W.cell? ⟨pa, 0, none⟩ = some (.pointer (some ⟨p, 0, none⟩)) ∧ W.cell? ⟨pa, 1, none⟩ = some (.pointer (some ⟨r, 0, none⟩)) ∧ W.cell? ⟨bo, 2, none⟩ = some (.string nm) ∧ W.cell? ⟨bo, 4, none⟩ = some (.int .i64 x) ∧ W.cell? ⟨bo, 5, none⟩ = some (.int .i64 n) ∧ W.cell? ⟨bo, 6, none⟩ = some (.slice ka kn kc)) := fun W hW => by
    have kk := (hW.block bo (Array.getElem?_eq_some_iff.1 k1).1).trans k1
    obtain ⟨q0, q1⟩ := (h.next (bnext u1 hW)).cells
    refine ⟨q0, q1, ?_, ?_, ?_, ?_⟩
    · rw [cell_of_row W _ 2 _ _ (0, 0) kk]; rfl
    · rw [cell_of_row W _ 4 _ _ (0, 0) kk]; rfl
    · rw [cell_of_row W _ 5 _ _ (0, 0) kk]; rfl
    · rw [cell_of_row W _ 6 _ _ (0, 0) kk]; rfl
  have d0 : w1.cell? ⟨bo, 0, none⟩ = some (.int .i64 kind) := by rw [cell_of_row w1 _ 0 _ _ (0, 0) k1]; rfl
  have hdl := Pq.dlen hb
  obtain ⟨rs, hrs⟩ : ∃ a : ByteArray, ⟨(rrd V nm.data.toList x n).1.toArray⟩ = a := ⟨_, rfl⟩
  obtain ⟨re, hre⟩ : ∃ a : Int, (rrd V nm.data.toList x n).2 = a := ⟨_, rfl⟩
  obtain ⟨sz, hsz⟩ : ∃ a : Nat, rsz V nm.data.toList = a := ⟨_, rfl⟩
  obtain ⟨l, hl⟩ : ∃ l, raf V ks = l := ⟨_, rfl⟩
  obtain ⟨f, hf⟩ : ∃ l, tell V.L = l := ⟨_, rfl⟩
  have hll : l.length ≤ 4611686018427387904 := by rw [← hl, ← hb.sim.aft]; have := aft_len ks D.L 0; omega
  have hfl : f.length ≤ 4611686018427387904 := by rw [← hf, ← hb.sim.tell]; have := tell_lenq D.L; omega
  obtain ⟨ll, hll2⟩ : ∃ n, l.length = n := ⟨_, rfl⟩
  obtain ⟨fl, hfl2⟩ : ∃ n, f.length = n := ⟨_, rfl⟩
  have HRd : Hid (∀ W, Below w1.heap.size w1 W → Calls Try.prog 11 #[.pointer (some ⟨p, 0, none⟩), .string nm, .int .i64 x, .int .i64 n] W fun e w' => e = .returned (.tuple #[.string rs, .int .i64 re]) ∧ Below W.heap.size W w') := fun W hW => by
    have := (h.next (bnext u1 hW)).dread nm hs x ho1 ho2 n hn1 hn2
    rw [sim_rd hb.sim, hrs, hre] at this
    exact this
  have HRr : Hid (∀ W, Below w1.heap.size w1 W → Calls Try.prog 52 #[.pointer (some ⟨r, 0, none⟩), .string nm, .int .i64 x, .int .i64 n] W fun e w' => e = .returned (.tuple #[.string rs, .int .i64 re]) ∧ Below W.heap.size W w') := fun W hW => by
    have := (h.next (bnext u1 hW)).rread nm x ho1 ho2 n rs hrs
    rw [hre] at this
    exact this
  have HSd : Hid (∀ W, Below w1.heap.size w1 W → Calls Try.prog 12 #[.pointer (some ⟨p, 0, none⟩), .string nm] W fun e w' => e = .returned (.int .i64 (sz : Int)) ∧ w' = W) := fun W hW => by
    have := (h.next (bnext u1 hW)).dsize nm hs
    rw [sim_sz hb.sim, hsz] at this
    exact this
  have HSr : Hid (∀ W, Below w1.heap.size w1 W → Calls Try.prog 53 #[.pointer (some ⟨r, 0, none⟩), .string nm] W fun e w' => e = .returned (.int .i64 (sz : Int)) ∧ Below W.heap.size W w') := fun W hW => by
    have := (h.next (bnext u1 hW)).rsize nm
    rw [hsz] at this
    exact this
  have HAd : Hid (∀ W, Below w1.heap.size w1 W → Calls Try.prog 13 #[.pointer (some ⟨p, 0, none⟩), .slice ka kn kc] W fun e w' => ∃ a b c, e = .returned (.slice a ll c) ∧ RdF w' a b 0 l ∧ Below W.heap.size W w') := fun W hW => by
    have := (h.next (bnext u1 hW)).dafter ka kb ko kc ks (hk.next (bnext u1 hW)) hkl ((hb.sim.aft ks).trans hl)
    rw [hkn] at this
    refine this.mono fun e w' q => ?_
    obtain ⟨v, q1, q2, q3⟩ := q
    obtain ⟨a, b, c, rfl, q4, _⟩ := ownF_rd q2
    rw [hll2] at q1
    exact ⟨a, b, c, q1, q4, q3⟩
  have HAr : Hid (∀ W, Below w1.heap.size w1 W → Calls Try.prog 32 #[.pointer (some ⟨r, 0, none⟩), .slice ka kn kc] W fun e w' => ∃ a b c, e = .returned (.slice a ll c) ∧ RdF w' a b 0 l ∧ Below W.heap.size W w') := fun W hW => by
    have := (h.next (bnext u1 hW)).rafter (by have := hb.len; have := hb.few; omega) ka kb ko kc ks (hk.next (bnext u1 hW)) hkl hl
    rw [hkn] at this
    refine this.mono fun e w' q => ?_
    obtain ⟨v, q1, q2, q3⟩ := q
    obtain ⟨a, b, c, rfl, q4, _⟩ := ownF_rd q2
    rw [hll2] at q1
    exact ⟨a, b, c, q1, q4, q3⟩
  have HFd : Hid (∀ W, Below w1.heap.size w1 W → Calls Try.prog 18 #[.pointer (some ⟨p, 0, none⟩)] W fun e w' => ∃ a b c, e = .returned (.slice a fl c) ∧ RdF w' a b 0 f ∧ Below W.heap.size W w') := fun W hW => by
    refine ((h.next (bnext u1 hW)).dfiles (hb.sim.tell.trans hf)).mono fun e w' q => ?_
    obtain ⟨v, q1, q2, q3⟩ := q
    obtain ⟨a, b, c, rfl, q4, _⟩ := ownF_rd q2
    rw [hfl2] at q1
    exact ⟨a, b, c, q1, q4, q3⟩
  have HFr : Hid (∀ W, Below w1.heap.size w1 W → Calls Try.prog 31 #[.pointer (some ⟨r, 0, none⟩)] W fun e w' => ∃ a b c, e = .returned (.slice a fl c) ∧ RdF w' a b 0 f ∧ Below W.heap.size W w') := fun W hW => by
    refine ((h.next (bnext u1 hW)).rfiles hf).mono fun e w' q => ?_
    obtain ⟨v, q1, q2, q3⟩ := q
    obtain ⟨a, b, c, rfl, q4, _⟩ := ownF_rd q2
    rw [hfl2] at q1
    exact ⟨a, b, c, q1, q4, q3⟩
  obtain ⟨ac, hac⟩ : ∃ n, V.cnt = n := ⟨_, rfl⟩
  obtain ⟨dn, hdn⟩ : ∃ n, V.out = n := ⟨_, rfl⟩
  have HCd : Hid (∀ W, Below w1.heap.size w1 W → Calls Try.prog 15 #[.pointer (some ⟨p, 0, none⟩)] W fun e w' => e = .returned (.int .i64 (ac : Int)) ∧ w' = W) := fun W hW => by
    have := (h.next (bnext u1 hW)).dacts
    rw [hb.sim.acts, hac] at this
    exact this
  have HCr : Hid (∀ W, Below w1.heap.size w1 W → Calls Try.prog 29 #[.pointer (some ⟨r, 0, none⟩)] W fun e w' => e = .returned (.int .i64 (ac : Int)) ∧ w' = W) := fun W hW => by
    have := (h.next (bnext u1 hW)).racts
    rw [hac] at this
    exact this
  have HDd : Hid (∀ W, Below w1.heap.size w1 W → Calls Try.prog 19 #[.pointer (some ⟨p, 0, none⟩)] W fun e w' => e = .returned (.bool dn) ∧ w' = W) := fun W hW => by
    have := (h.next (bnext u1 hW)).ddown
    rw [hb.sim.down, hdn] at this
    exact this
  have HDr : Hid (∀ W, Below w1.heap.size w1 W → Calls Try.prog 30 #[.pointer (some ⟨r, 0, none⟩)] W fun e w' => e = .returned (.bool dn) ∧ w' = W) := fun W hW => by
    have := (h.next (bnext u1 hW)).rdown
    rw [hdn] at this
    exact this
  have HSl : Hid (∀ (W : World) a b c a' b' c', RdF W a b 0 l → RdF W a' b' 0 l → Calls Try.prog 17 #[.slice a ll c, .slice a' ll c'] W fun e w' => e = .returned (.bool true) ∧ Below W.heap.size W w') := fun W a b c a' b' c' h1 h2 => by
    have := same_yes W l a b 0 c h1 a' b' 0 c' h2 hll
    rw [hll2] at this
    exact this
  have HSf : Hid (∀ (W : World) a b c a' b' c', RdF W a b 0 f → RdF W a' b' 0 f → Calls Try.prog 17 #[.slice a fl c, .slice a' fl c'] W fun e w' => e = .returned (.bool true) ∧ Below W.heap.size W w') := fun W a b c a' b' c' h1 h2 => by
    have := same_yes W f a b 0 c h1 a' b' 0 c' h2 hfl
    rw [hfl2] at this
    exact this
  rw [hkn]
  have t1 : Below w1.heap.size w1 w1 := Below.refl _ _
  clear h hb hk hkl hs ho1 ho2 hn1 hn2 hkn hw1 hbo u1 k1 hdl hrs hre hsz hl hf hll hfl hll2 hfl2 hac hdn
  by_cases h4 : kind = 4
  · subst h4
    go_enter Try.func28, Try.ntmps28
    go_upto_region 1 with (fail)
    rw [HW.out, HBo.out]
    go_upto_region 3 with (fail)
    have tw := t1.drew
    go_region_held3 (fun Z => Z.cell? ⟨pa, 0, none⟩ = some (.pointer (some ⟨p, 0, none⟩)) ∧ Z.cell? ⟨pa, 1, none⟩ = some (.pointer (some ⟨r, 0, none⟩)) ∧ Z.cell? ⟨bo, 2, none⟩ = some (.string nm) ∧ Z.cell? ⟨bo, 4, none⟩ = some (.int .i64 x) ∧ Z.cell? ⟨bo, 5, none⟩ = some (.int .i64 n) ∧ Z.cell? ⟨bo, 6, none⟩ = some (.slice ka kn kc)) (first | assumption | (exact HC.out _ tw) | (exact HC.out _ t1)) (first
      | (go_at_call 11; (with_reducible refine (HRd.out _ tw).mono ?_); rintro e w2 ⟨rfl, uu⟩; have tw := bnext tw uu))
    all_goals
      have t2 := tw
      go_upto_region 4 with (fail)
      have tw := t2.drew
      go_region_held3 (fun Z => Z.cell? ⟨pa, 0, none⟩ = some (.pointer (some ⟨p, 0, none⟩)) ∧ Z.cell? ⟨pa, 1, none⟩ = some (.pointer (some ⟨r, 0, none⟩)) ∧ Z.cell? ⟨bo, 2, none⟩ = some (.string nm) ∧ Z.cell? ⟨bo, 4, none⟩ = some (.int .i64 x) ∧ Z.cell? ⟨bo, 5, none⟩ = some (.int .i64 n) ∧ Z.cell? ⟨bo, 6, none⟩ = some (.slice ka kn kc)) (first | assumption | (exact HC.out _ tw) | (exact HC.out _ t2)) (first
        | (go_at_call 52; (with_reducible refine (HRr.out _ tw).mono ?_); rintro e w3 ⟨rfl, uu⟩; have tw := bnext tw uu))
      all_goals
        go_wp2
        go_ret
        exact ⟨rfl, HU.out _ tw⟩
  · by_cases h5 : kind = 5
    · subst h5
      go_enter Try.func28, Try.ntmps28
      go_upto_region 1 with (fail)
      rw [HW.out, HBo.out]
      go_upto_region 7 with (fail)
      have tw := t1.drew
      go_region_held3 (fun Z => Z.cell? ⟨pa, 0, none⟩ = some (.pointer (some ⟨p, 0, none⟩)) ∧ Z.cell? ⟨pa, 1, none⟩ = some (.pointer (some ⟨r, 0, none⟩)) ∧ Z.cell? ⟨bo, 2, none⟩ = some (.string nm) ∧ Z.cell? ⟨bo, 4, none⟩ = some (.int .i64 x) ∧ Z.cell? ⟨bo, 5, none⟩ = some (.int .i64 n) ∧ Z.cell? ⟨bo, 6, none⟩ = some (.slice ka kn kc)) (first | assumption | (exact HC.out _ tw) | (exact HC.out _ t1)) (first
        | (go_at_call 12; (with_reducible refine (HSd.out _ tw).mono ?_); rintro e w2 ⟨rfl, rfl⟩)
        | (go_at_call 53; (with_reducible refine (HSr.out _ tw).mono ?_); rintro e w3 ⟨rfl, uu⟩; have tw := bnext tw uu))
      all_goals
        go_wp2
        go_ret
        exact ⟨rfl, HU.out _ tw⟩
    · by_cases h7 : kind = 7
      · subst h7
        go_enter Try.func28, Try.ntmps28
        go_upto_region 1 with (fail)
        rw [HW.out, HBo.out]
        go_upto_region 9 with (fail)
        have tw := t1.drew
        go_region_held3 (fun Z => Z.cell? ⟨pa, 0, none⟩ = some (.pointer (some ⟨p, 0, none⟩)) ∧ Z.cell? ⟨pa, 1, none⟩ = some (.pointer (some ⟨r, 0, none⟩)) ∧ Z.cell? ⟨bo, 2, none⟩ = some (.string nm) ∧ Z.cell? ⟨bo, 4, none⟩ = some (.int .i64 x) ∧ Z.cell? ⟨bo, 5, none⟩ = some (.int .i64 n) ∧ Z.cell? ⟨bo, 6, none⟩ = some (.slice ka kn kc)) (first | assumption | (exact HC.out _ tw) | (exact HC.out _ t1)) (first
          | (go_at_call 13; (with_reducible refine (HAd.out _ tw).mono ?_); rintro e w2 ⟨a1, b1, c1, rfl, f1, uu⟩; have tw := bnext tw uu; try (have f2 := f2.next uu))
          | (go_at_call 32; (with_reducible refine (HAr.out _ tw).mono ?_); rintro e w3 ⟨a2, b2, c2, rfl, f2, uu⟩; have tw := bnext tw uu; try (have f1 := f1.next uu))
          | (go_at_call 17; (with_reducible refine (HSl.out _ _ _ _ _ _ _ f1 f2).mono ?_); rintro e w4 ⟨rfl, uu⟩; have tw := bnext tw uu))
        all_goals
          go_wp2
          go_ret
          exact ⟨rfl, HU.out _ tw⟩
      · by_cases h8 : kind = 8
        · subst h8
          go_enter Try.func28, Try.ntmps28
          go_upto_region 1 with (fail)
          rw [HW.out, HBo.out]
          go_upto_region 11 with (fail)
          have tw := t1.drew
          go_region_held3 (fun Z => Z.cell? ⟨pa, 0, none⟩ = some (.pointer (some ⟨p, 0, none⟩)) ∧ Z.cell? ⟨pa, 1, none⟩ = some (.pointer (some ⟨r, 0, none⟩)) ∧ Z.cell? ⟨bo, 2, none⟩ = some (.string nm) ∧ Z.cell? ⟨bo, 4, none⟩ = some (.int .i64 x) ∧ Z.cell? ⟨bo, 5, none⟩ = some (.int .i64 n) ∧ Z.cell? ⟨bo, 6, none⟩ = some (.slice ka kn kc)) (first | assumption | (exact HC.out _ tw) | (exact HC.out _ t1)) (first
            | (go_at_call 18; (with_reducible refine (HFd.out _ tw).mono ?_); rintro e w2 ⟨a1, b1, c1, rfl, f1, uu⟩; have tw := bnext tw uu; try (have f2 := f2.next uu))
            | (go_at_call 31; (with_reducible refine (HFr.out _ tw).mono ?_); rintro e w3 ⟨a2, b2, c2, rfl, f2, uu⟩; have tw := bnext tw uu; try (have f1 := f1.next uu))
            | (go_at_call 17; (with_reducible refine (HSf.out _ _ _ _ _ _ _ f1 f2).mono ?_); rintro e w4 ⟨rfl, uu⟩; have tw := bnext tw uu))
          all_goals
            go_wp2
            go_ret
            exact ⟨rfl, HU.out _ tw⟩
        · go_enter Try.func28, Try.ntmps28
          go_upto_region 1 with (fail)
          rw [HW.out, HBo.out]
          go_upto_region 12 with (fail)
          have tw := t1.drew
          go_region_held3 (fun Z => Z.cell? ⟨pa, 0, none⟩ = some (.pointer (some ⟨p, 0, none⟩)) ∧ Z.cell? ⟨pa, 1, none⟩ = some (.pointer (some ⟨r, 0, none⟩)) ∧ Z.cell? ⟨bo, 2, none⟩ = some (.string nm) ∧ Z.cell? ⟨bo, 4, none⟩ = some (.int .i64 x) ∧ Z.cell? ⟨bo, 5, none⟩ = some (.int .i64 n) ∧ Z.cell? ⟨bo, 6, none⟩ = some (.slice ka kn kc)) (first | assumption | (exact HC.out _ tw) | (exact HC.out _ t1)) (first
            | (go_at_call 15; (with_reducible refine (HCd.out _ tw).mono ?_); rintro e w2 ⟨rfl, rfl⟩)
            | (go_at_call 29; (with_reducible refine (HCr.out _ tw).mono ?_); rintro e w3 ⟨rfl, rfl⟩)
            | (go_at_call 19; (with_reducible refine (HDd.out _ tw).mono ?_); rintro e w4 ⟨rfl, rfl⟩)
            | (go_at_call 30; (with_reducible refine (HDr.out _ tw).mono ?_); rintro e w5 ⟨rfl, rfl⟩))
          all_goals
            go_wp2
            go_ret
            exact ⟨rfl, HU.out _ tw⟩
end
end Go.Proofs.Ytmhedhhbdpdafab
