/-
  Walks of package peaks: Add, Join. Own work.
-/
import Derived.Test.YtncndefggegicaaDoorKWalkC
namespace Go.Proofs.YtncndefggegicaaDoor
open Go.RowKit
open Pl (ones)
attribute [local go_sem ↓] Go.wp_at_zero Go.wp_at_succ
theorem Did.none {w w' : World} {p : Nat} {v : Value} {k : Int} {n : Nat} {P : List ByteArray} (hr : Rg w p v k n P) (hb : Below w.heap.size w w') : Did w w' p v k n P (.slice none 0 0) [] v :=
  ⟨hr.next hb (Nat.le_refl _), owns_nil _ _, Ch.of hb hr.lt, .inl rfl, fun g h _ => by cases h⟩
theorem er_zero {k : Int} {n : Nat} {h : Int} {s : ByteArray} (h1 : (s.size : Int) = k) (h2 : 0 ≤ h) (h3 : h ≤ 40) (h4 : n % 2 ^ h.toNat = 0) (h5 : n + 2 ^ h.toNat ≤ 1099511627776) : er k n h s = 0 := by
  rw [er, if_neg (by omega), if_neg (by omega), if_neg (by omega)]
set_option maxRecDepth 100000 in
theorem add_any (w : World) (ht : Tb w) (p : Nat) (v : Value) (k : Int) (n : Nat) (P : List ByteArray) (hr : Rg w p v k n P) (s : ByteArray) (e0 n' : Nat) (P' A : List ByteArray) (he : Hid (er k n 0 s = e0 ∧ nxN k n 0 s = n' ∧ nxP k n P 0 s = P' ∧ an k n P 0 s = A)) :
    Calls Tryd.prog 15 #[.pointer (some ⟨p, 0, none⟩), .string s] w fun e w' => ∃ vm v', e = .returned (.tuple #[vm, .int .i64 (e0 : Int)]) ∧ Did w w' p v k n' P' vm A v' := by
  obtain ⟨q1, q2, q3, q4⟩ := he.out
  have c0 := hr.c0
  have c1 := hr.c1
  by_cases hs : (s.size : Int) = k
  · by_cases hn : n < 1099511627776
    · have e00 : er k n 0 s = 0 := er_zero hs (by decide) (by decide) (by show n % 1 = 0; omega) (by show n + 1 ≤ _; omega)
      rw [e00] at q1
      rw [nxN, if_pos e00] at q2
      rw [nxP, if_pos e00] at q3
      rw [an, if_pos e00] at q4
      have hcl := clk_of hr.k1 hr.k2
      have HL : Hid (Calls Tryd.prog 37 #[.pointer (some ⟨p, 0, none⟩), .int .i64 0, .string s] w fun e w' => ∃ vm v', e = .returned vm ∧ Did w w' p v k n' P' vm A v') :=
        lay_any w ht p v k n P hr 0 (by decide) s (by omega) (by show n % 1 = 0; omega) n' q2 (by rw [← q2]; show n + 1 ≤ _; omega) A P' (by show mk (clk k) n P 0 s = (A, P'); rw [← q3, ← q4]; rfl)
      have hn' : decide ((1099511627776 : Int) ≤ (n : Int)) = false := by simp; omega
      subst q1
      subst hs
      clear he e00 q2 q3 q4 hcl ht hr hn
      go_enter Tryd.func15, Tryd.ntmps15
      go_wp2_with (go_at_call 37; with_reducible refine HL.out.mono ?_; rintro e w1 ⟨vm, v', rfl, hd⟩)
      go_ret2
      exact ⟨vm, v', rfl, hd⟩
    · have hn40 := hr.hn
      have e00 : er k n 0 s = 30 := by rw [er, if_neg (by omega), if_neg (by rw [show (0 : Int).toNat = 0 from rfl, Nat.pow_zero]; omega), if_pos (by rw [show (0 : Int).toNat = 0 from rfl, Nat.pow_zero]; omega)]
      rw [e00] at q1
      rw [nxN, if_neg (by rw [e00]; decide)] at q2
      rw [nxP, if_neg (by rw [e00]; decide)] at q3
      rw [an, if_neg (by rw [e00]; decide)] at q4
      have hn' : decide ((1099511627776 : Int) ≤ (n : Int)) = true := by simp; omega
      have HR := hide hr
      subst q1 q2 q3 q4
      subst hs
      clear he e00 ht hr hn hn40
      go_enter Tryd.func15, Tryd.ntmps15
      go_wp2
      go_ret2
      exact ⟨_, v, rfl, Did.none HR.out (Below.refl _ _)⟩
  · have e00 : er k n 0 s = 90 := by rw [er, if_pos (by omega)]
    rw [e00] at q1
    rw [nxN, if_neg (by rw [e00]; decide)] at q2
    rw [nxP, if_neg (by rw [e00]; decide)] at q3
    rw [an, if_neg (by rw [e00]; decide)] at q4
    have HR := hide hr
    subst q1 q2 q3 q4
    clear he e00 ht hr
    go_enter Tryd.func15, Tryd.ntmps15
    go_wp2
    go_ret2
    exact ⟨_, v, rfl, Did.none HR.out (Below.refl _ _)⟩
set_option maxRecDepth 100000 in
set_option maxHeartbeats 1000000 in
theorem join_any (w : World) (ht : Tb w) (p : Nat) (v : Value) (k : Int) (n : Nat) (P : List ByteArray) (hr : Rg w p v k n P) (h : Int) (s : ByteArray) (e0 n' : Nat) (P' A : List ByteArray) (he : Hid (er k n h s = e0 ∧ nxN k n h s = n' ∧ nxP k n P h s = P' ∧ an k n P h s = A)) :
    Calls Tryd.prog 22 #[.pointer (some ⟨p, 0, none⟩), .int .i64 h, .string s] w fun e w' => ∃ vm v', e = .returned (.int .i64 (e0 : Int)) ∧ Did w w' p v k n' P' vm A v' := by
  obtain ⟨q1, q2, q3, q4⟩ := he.out
  have c0 := hr.c0
  have c1 := hr.c1
  have hn40 := hr.hn
  have HR := hide hr
  have fin : Hid (er k n h s ≠ 0 → n' = n ∧ P' = P ∧ A = []) := fun hx => by
    rw [nxN, if_neg hx] at q2
    rw [nxP, if_neg hx] at q3
    rw [an, if_neg hx] at q4
    exact ⟨q2.symm, q3.symm, q4.symm⟩
  by_cases hs : (s.size : Int) = k
  · by_cases h0 : h < 0
    · have e00 : er k n h s = 41 := by rw [er, if_neg (by omega), if_pos (.inl h0)]
      obtain ⟨rfl, rfl, rfl⟩ := fin.out (by rw [e00]; decide)
      rw [e00] at q1
      subst q1
      subst hs
      clear he e00 ht hr fin q2 q3 q4 hn40
      go_enter Tryd.func22, Tryd.ntmps22
      go_wp2
      go_ret
      exact ⟨_, v, rfl, Did.none HR.out (Below.refl _ _)⟩
    · by_cases h4 : 40 < h
      · have e00 : er k n h s = 41 := by rw [er, if_neg (by omega), if_pos (.inr (.inl h4))]
        obtain ⟨rfl, rfl, rfl⟩ := fin.out (by rw [e00]; decide)
        rw [e00] at q1
        subst q1
        subst hs
        have h0' : decide (h < 0) = false := by simp; omega
        have h4' : decide ((40 : Int) < h) = true := by simp; omega
        clear he e00 ht hr fin q2 q3 q4 hn40 h0 h4
        go_enter Tryd.func22, Tryd.ntmps22
        go_wp2
        go_ret
        exact ⟨_, v, rfl, Did.none HR.out (Below.refl _ _)⟩
      · obtain ⟨j, rfl⟩ : ∃ j : Nat, h = (j : Int) := ⟨h.toNat, by omega⟩
        have hj : j ≤ 40 := by omega
        obtain ⟨t, hT⟩ : ∃ t, tr 64 n = t := ⟨_, rfl⟩
        have HT : Hid (∀ W, Calls Tryd.prog 40 #[.int .u64 (n : Int)] W fun e w' => e = .returned (.int .i64 (t : Int)) ∧ W = w') := fun W => (trail_any n W (by omega) t hT).mono fun _ _ h => ⟨h.1, h.2.symm⟩
        have hlt := tr_lt 64 j n (by omega)
        rw [hT] at hlt
        have g1 : ¬ ((j : Int) < 0) := by omega
        have g2 : ¬ ((40 : Int) < (j : Int)) := by omega
        by_cases hm : n % 2 ^ j = 0
        · have g3 : ¬ ((t : Int) < (j : Int)) := by
            intro h1
            exact hlt.1 (by omega) hm
          obtain ⟨q, hq⟩ : ∃ q, 2 ^ j = q := ⟨_, rfl⟩
          obtain ⟨gr, hgr⟩ : ∃ gr, n + q = gr := ⟨_, rfl⟩
          have hq40 : q ≤ 1099511627776 := by rw [← hq]; exact Nat.pow_le_pow_right (n := 2) (by decide) hj
          have HI : Hid (∀ W, Calls Tryd.prog 41 #[.int .i64 (j : Int)] W fun e w' => e = .returned (.int .u64 (q : Int)) ∧ w' = W) := fun W => items_any j W hj q hq
          have hg1 : IntKind.u64.wrap ((n : Int) + (q : Int)) = (gr : Int) := by rw [u64_id _ (by omega) (by omega)]; omega
          by_cases hg : gr ≤ 1099511627776
          · have e00 : er k n (j : Int) s = 0 := er_zero hs (by omega) (by omega) (by rw [Int.toNat_natCast]; exact hm) (by rw [Int.toNat_natCast, hq, hgr]; exact hg)
            rw [e00] at q1
            rw [nxN, if_pos e00, Int.toNat_natCast, hq, hgr] at q2
            rw [nxP, if_pos e00, Int.toNat_natCast] at q3
            rw [an, if_pos e00, Int.toNat_natCast] at q4
            have hcl := clk_of hr.k1 hr.k2
            have HL : Hid (∀ W, Below w.heap.size w W → Calls Tryd.prog 37 #[.pointer (some ⟨p, 0, none⟩), .int .i64 (j : Int), .string s] W fun e w' => ∃ vm v', e = .returned vm ∧ Did W w' p v k n' P' vm A v') := fun W hb =>
              lay_any W (ht.next hb) p v k n P (hr.next hb (Nat.le_refl _)) j hj s (by omega) hm n' (by rw [hq, hgr]; exact q2) (by omega) A P' (by show mk (clk k) n P j s = (A, P'); rw [← q3, ← q4])
            have hgd : decide ((1099511627776 : Int) < (gr : Int)) = false := by simp; omega
            have HB := hide (Below.refl w.heap.size w)
            subst q1
            subst hs
            clear he e00 q2 q3 q4 hcl ht hr hn40 fin hT hlt hm hq hgr hq40 hg hj h0 h4
            go_enter Tryd.func22, Tryd.ntmps22
            go_wp2_with (go_at_call 40; with_reducible refine (HT.out _).mono ?_; rintro e w1 ⟨rfl, rfl⟩)
            go_quiet ((go_at_call 41; refine Calls.quiet_of_same (HI.out _)))
            go_wp2_with (go_at_call 37; with_reducible refine (HL.out _ (below_drewN HB.out _)).mono ?_; rintro e w1 ⟨vm, v', rfl, hd⟩)
            go_ret
            exact ⟨vm, v', rfl, ⟨hd.rg, own_mono hd.own (Nat.le_refl _), (Ch.of (below_drewN HB.out _) HR.out.lt).trans hd.ch, hd.new, hd.apart⟩⟩
          · have e00 : er k n (j : Int) s = 30 := by rw [er, if_neg (by omega), Int.toNat_natCast, if_neg (by omega), if_pos (by rw [hq, hgr]; omega)]
            obtain ⟨rfl, rfl, rfl⟩ := fin.out (by rw [e00]; decide)
            rw [e00] at q1
            have hgd : decide ((1099511627776 : Int) < (gr : Int)) = true := by simp; omega
            have HB := hide (Below.refl w.heap.size w)
            subst q1
            subst hs
            clear he e00 q2 q3 q4 ht hr hn40 fin hT hlt hm hq hgr hq40 hg hj h0 h4
            go_enter Tryd.func22, Tryd.ntmps22
            go_wp2_with (go_at_call 40; with_reducible refine (HT.out _).mono ?_; rintro e w1 ⟨rfl, rfl⟩)
            go_quiet ((go_at_call 41; refine Calls.quiet_of_same (HI.out _)))
            go_wp2
            go_ret
            exact ⟨_, v, rfl, Did.none HR.out (below_drewN HB.out _)⟩
        · have g3 : (t : Int) < (j : Int) := by have := hlt.2 hm; omega
          have e00 : er k n (j : Int) s = 41 := by rw [er, if_neg (by omega), Int.toNat_natCast, if_pos (.inr (.inr hm))]
          obtain ⟨rfl, rfl, rfl⟩ := fin.out (by rw [e00]; decide)
          rw [e00] at q1
          subst q1
          subst hs
          clear he e00 q2 q3 q4 ht hr hn40 fin hT hlt hm hj h0 h4
          go_enter Tryd.func22, Tryd.ntmps22
          go_wp2_with (go_at_call 40; with_reducible refine (HT.out _).mono ?_; rintro e w1 ⟨rfl, rfl⟩)
          go_ret
          exact ⟨_, v, rfl, Did.none HR.out (Below.refl _ _)⟩
  · have e00 : er k n h s = 90 := by rw [er, if_pos (by omega)]
    obtain ⟨rfl, rfl, rfl⟩ := fin.out (by rw [e00]; decide)
    rw [e00] at q1
    subst q1
    clear he e00 ht hr fin q2 q3 q4 hn40
    go_enter Tryd.func22, Tryd.ntmps22
    go_wp2
    go_ret
    exact ⟨_, v, rfl, Did.none HR.out (Below.refl _ _)⟩
end Go.Proofs.YtncndefggegicaaDoor
