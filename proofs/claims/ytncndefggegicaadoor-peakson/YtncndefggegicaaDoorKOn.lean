/-
  The walk of PeaksOn. Own work.
-/
import Derived.Test.YtncndefggegicaaDoorKOps
namespace Go.Proofs.YtncndefggegicaaDoor
open Go.RowKit
attribute [local go_sem ↓] Go.wp_at_zero Go.wp_at_succ
/-- Two ranges of one strength. -/
structure TW (w wr : World) (pa : Nat) (va : Value) (pb : Nat) (vb : Value) (K : Int) (n : Nat) (P : List ByteArray) (n2 : Nat) (P2 : List ByteArray) : Prop where
  ra : Rg wr pa va K n P
  rb : Rg wr pb vb K n2 P2
  ha : w.heap.size ≤ pa
  hb : w.heap.size ≤ pb
  ne : pa ≠ pb
  below : Below w.heap.size w wr
  tb : Tb wr
section
variable {w wr W : World} {pa pb : Nat} {va vb : Value} {K : Int} {n n2 : Nat} {P P2 : List ByteArray}
theorem TW.next (s : TW w wr pa va pb vb K n P n2 P2) (hb : Below wr.heap.size wr W) : TW w W pa va pb vb K n P n2 P2 :=
  ⟨s.ra.next hb (Nat.le_refl _), s.rb.next hb (Nat.le_refl _), s.ha, s.hb, s.ne, bnext s.below hb, s.tb.next hb⟩
theorem TW.didA {n' : Nat} {vm v' : Value} {A P' : List ByteArray} (s : TW w wr pa va pb vb K n P n2 P2) (h : Did wr W pa va K n' P' vm A v') : TW w W pa v' pb vb K n' P' n2 P2 :=
  ⟨h.rg, s.rb.ch s.ra h.ch s.ne.symm, s.ha, s.hb, s.ne, s.below.trans (h.ch.below.mono s.ha), s.tb.ch s.ra h.ch⟩
theorem TW.didB {n' : Nat} {vm v' : Value} {A P' : List ByteArray} (s : TW w wr pa va pb vb K n P n2 P2) (h : Did wr W pb vb K n' P' vm A v') : TW w W pa va pb v' K n P n' P' :=
  ⟨s.ra.ch s.rb h.ch s.ne, h.rg, s.ha, s.hb, s.ne, s.below.trans (h.ch.below.mono s.hb), s.tb.ch s.rb h.ch⟩
end
theorem fe_rg {w : World} {p : Nat} {v : Value} {K : Int} {n : Nat} {P : List ByteArray} (h : Rg w p v K n P) : fe K n P = 0 := by
  have h1 := h.k1
  have h2 := h.k2
  have h3 := h.hn
  rw [fe, if_neg (by omega), if_neg (by omega), if_neg]
  rintro (e | e)
  · exact e (by rw [← hts_ones h3]; exact h.hl)
  · exact e fun s hs => by rw [h.hs s hs]; exact clk_of h1 h2
set_option maxRecDepth 100000 in
set_option maxHeartbeats 2000000 in
theorem on_walk (w : World) (ht : Tb w) (k : Int) (a1 : Option Addr) (b1 o1 n1 c1 : Nat) (l1 : Nat → OpV) (hr1 : RdO w a1 b1 o1 n1 l1) (a2 : Option Addr) (b2 o2 n2 c2 : Nat) (l2 : Nat → OpV) (hr2 : RdO w a2 b2 o2 n2 l2) :
    Calls Tryd.prog 4 #[.int .i64 k, .slice a1 n1 c1, .slice a2 n2 c2] w fun e w' => e = .returned (.bool true) ∧ Below w.heap.size w w' := by
  obtain ⟨K, hK⟩ : ∃ K, stg k = K := ⟨_, rfl⟩
  obtain ⟨k1, k2⟩ := stg_in k
  rw [hK] at k1 k2
  have HAl : Hid (∀ W, Below w.heap.size w W → Calls Tryd.prog 9 #[] W fun e w' => e = .returned (.bool true) ∧ Below W.heap.size W w') := fun W hb => alive_any W (ht.next hb)
  have HSt : Hid (∀ W, Calls Tryd.prog 10 #[.int .i64 k] W fun e w' => e = .returned (.int .i64 K) ∧ W = w') := fun W => strength_any W k K hK
  have HNw : Hid (∀ W, Calls Tryd.prog 18 #[.int .i64 K] W fun e w' => ∃ p v, e = .returned (.tuple #[.pointer (some ⟨p, 0, none⟩), .int .i64 0]) ∧ Rg w' p v K 0 [] ∧ W.heap.size ≤ p ∧ Below W.heap.size W w') := fun W => by
    have h0 : fe K 0 [] = 0 := by
      rw [fe, if_neg (by omega), if_neg (by omega), if_neg]
      rintro (h | h)
      · exact h (by rw [Pl.ones_zero]; rfl)
      · exact h fun s hs => by cases hs
    exact (knew_any W K 0 h0).mono fun e w' h => by
      obtain ⟨p, v, h1, h2, h3, _, h5⟩ := h.ok
      exact ⟨p, v, h1, h2, h3, h5⟩
  have HT := hide ht
  have HR1 := hide hr1
  have HR2 := hide hr2
  have hb0 := Below.refl w.heap.size w
  clear ht hr1 hr2 hK
  go_enter Tryd.func4, Tryd.ntmps4
  go_wp2_with (first
    | (go_at_call 9; with_reducible refine (HAl.out _ hb0).mono ?_; rintro e w1 ⟨rfl, hb1⟩; replace hb0 := bnext hb0 hb1; clear hb1)
    | (go_at_call 10; with_reducible refine (HSt.out _).mono ?_; rintro e w2 ⟨rfl, rfl⟩)
    | (go_at_call 18; with_reducible refine (HNw.out _).mono ?_; rintro e w4 ⟨pa, va0, rfl, hR4, hp4, hb4⟩; replace hp4 := Nat.le_trans hb0.size hp4; replace hb0 := bnext hb0 hb4; clear hb4))
  have HS0 : Hid (Rg w4 pa va0 K 0 [] ∧ Below w.heap.size w w4) := ⟨hR4, hb0⟩
  have HP := hide hp4
  clear hR4 hb0 hp4 HAl HSt HNw
  go_loopg [9] 100 (fun g i wr => ∃ (j : Nat) (v : Value) (n : Nat) (P : List ByteArray), j ≤ n1 ∧ j ≤ 100 ∧ g = 100 - j ∧ i = .int .i64 (j : Int) ∧ Hid (Rg wr pa v K n P ∧ Below w.heap.size w wr))
  case atStart =>
    go_light
    exact ⟨0, va0, 0, [], Nat.zero_le _, Nat.zero_le _, rfl, rfl, HS0⟩
  case round =>
    clear HS0
    obtain ⟨j, v, n, P, hj, hj2, rfl, rfl, HS⟩ := hrel
    by_cases hlt : j < n1 ∧ j < 100
    · have z1 : (j : Int) < (n1 : Int) := by omega
      have z2 : (j : Int) < 100 := by omega
      have z0 : (0 : Int) ≤ (j : Int) := Int.natCast_nonneg _
      have hr := HR1.out.next HS.out.2
      obtain rfl := hr.ptr (by omega)
      obtain ⟨f0, f1, f2, f3, f4⟩ := hr.five hlt.1 rfl
      have ho := (hr.cell j hlt.1).2.2.2.2.2
      obtain ⟨e0, n', P', A, he⟩ : ∃ e0 n' P' A, Hid (er K n (opH (l1 j)) (opS (l1 j) K) = e0 ∧ nxN K n (opH (l1 j)) (opS (l1 j) K) = n' ∧ nxP K n P (opH (l1 j)) (opS (l1 j) K) = P' ∧ opA K n P (l1 j) = A) := ⟨_, _, _, _, rfl, rfl, rfl, rfl⟩
      have HD : Hid (Calls Tryd.prog 19 #[.pointer (some ⟨pa, 0, none⟩), .agg #[.int .i64 (l1 j).kind, .int .i64 (l1 j).which, .int .i64 (l1 j).h, .string (l1 j).s, .bool (l1 j).r], .int .i64 K] wr fun e w' => ∃ vm v', e = .returned (.tuple #[vm, .int .i64 (e0 : Int)]) ∧ Did wr w' pa v K n' P' vm A v') :=
        does_any wr (HT.out.next HS.out.2) pa v K n P HS.out.1 (l1 j) ho e0 n' P' A he
      generalize l1 j = o at *
      obtain ⟨kd, wh, h, s, r⟩ := o
      clear he hr ho
      go_wp2_with (go_at_call 19; with_reducible refine HD.out.mono ?_; rintro e w5 ⟨vm, v', rfl, hD⟩)
      have HX : Hid (Rg w5 pa v' K n' P' ∧ Below w.heap.size w w5) := ⟨hD.rg, HS.out.2.trans (hD.ch.below.mono HP.out)⟩
      clear hD
      go_roundg (100 - (j + 1))
      case rel =>
        go_light
        exact ⟨j + 1, v', n', P', by omega, by omega, rfl, by go_num, HX⟩
      case measure => go_light; omega
    · go_upto_region 8 with (fail)
      go_cut [35] from 28 to 34 (fun y wx => y = .bool false ∧ wr = wx)
      case first =>
        by_cases h1 : j < n1
        · have z1 : (j : Int) < (n1 : Int) := by omega
          have z2 : ¬ ((j : Int) < 100) := by omega
          clear h1 hlt
          go_wp2
          go_meet
          case rel =>
            go_light
            exact ⟨rfl, rfl⟩
        · have z1 : ¬ ((j : Int) < (n1 : Int)) := by omega
          clear h1 hlt
          go_wp2
          go_meet
          case rel =>
            go_light
            exact ⟨rfl, rfl⟩
      case rest =>
        obtain ⟨rfl, rfl⟩ := hcut
        have HSz : Hid (Calls Tryd.prog 16 #[.pointer (some ⟨pa, 0, none⟩)] wr fun e w' => e = .returned (.int .u64 (n : Int)) ∧ Below wr.heap.size wr w') := size_any wr pa v K n P HS.out.1
        have HPk : Hid (∀ W, Below wr.heap.size wr W → Calls Tryd.prog 13 #[.pointer (some ⟨pa, 0, none⟩)] W fun e w' => ∃ ao b cap, e = .returned (.slice ao P.length cap) ∧ RdS w' ao b 0 P.length P ∧ (ao = none → cap = 0) ∧ Below W.heap.size W w') := fun W hb =>
          (rpeaks_own W pa v K n P (HS.out.1.next hb (Nat.le_refl _))).mono fun e w' ⟨u, h1, h2, h3⟩ => by
            obtain ⟨ao, b, cap, rfl, h4, _, h5⟩ := owns_rds h2 (fun s hs => Nat.le_trans (HS.out.1.small s hs) (by decide))
            exact ⟨ao, b, cap, h1, h4, h5, h3⟩
        have HF : Hid (∀ W ao b cap, RdS W ao b 0 P.length P → (ao = none → cap = 0) → Calls Tryd.prog 12 #[.int .i64 K, .int .u64 (n : Int), .slice ao P.length cap] W fun e w' => ∃ p v, e = .returned (.tuple #[.pointer (some ⟨p, 0, none⟩), .int .i64 0]) ∧ Rg w' p v K n P ∧ W.heap.size ≤ p ∧ Below W.heap.size W w') := fun W ao b cap h1 h2 => by
          have hn := HS.out.1.hn
          have hs := HS.out.1.short
          exact (from_any W K n (by omega) ao b 0 cap P h1 h2 (by omega) 0 (fe_rg HS.out.1)).mono fun e w' h => by
            obtain ⟨p, v, h1, h2, h3, _, h5⟩ := h.ok
            exact ⟨p, v, h1, h2, h3, h5⟩
        have hb0 := Below.refl wr.heap.size wr
        go_wp2_with (first
          | (go_at_call 16; with_reducible refine HSz.out.mono ?_; rintro e w5 ⟨rfl, hb5⟩; replace hb0 := bnext hb0 hb5; clear hb5)
          | (go_at_call 13; with_reducible refine (HPk.out _ hb0).mono ?_; rintro e w6 ⟨ao6, b6, c6, rfl, r6, n6, hb6⟩; replace hb0 := bnext hb0 hb6; clear hb6)
          | (go_at_call 12; with_reducible refine (HF.out _ _ _ _ r6 n6).mono ?_; rintro e w7 ⟨pb, vb0, rfl, hR7, hp7, hb7⟩))
        have HS7 : Hid (TW w w7 pa v pb vb0 K n P n P) := by
          have h1 := bnext hb0 hb7
          have h2 := HS.out.1.lt
          have h3 := hb0.size
          have h4 := HS.out.2.size
          exact ⟨HS.out.1.next h1 (Nat.le_refl _), hR7, HP.out, by omega, by omega, bnext HS.out.2 h1, HT.out.next (bnext HS.out.2 h1)⟩
        clear HSz HPk HF hb0 r6 n6 hR7 hp7 hb7 HS
        go_loopg [12] 100 (fun g i wr => ∃ (j : Nat) (va vb : Value) (n : Nat) (P : List ByteArray), j ≤ n2 ∧ j ≤ 100 ∧ g = 100 - j ∧ i = .int .i64 (j : Int) ∧ Hid (TW w wr pa va pb vb K n P n P))
        case atStart =>
          go_light
          exact ⟨0, v, vb0, n, P, Nat.zero_le _, Nat.zero_le _, rfl, rfl, HS7⟩
        case round =>
          clear HS7
          obtain ⟨j, va, vb, n, P, hj, hj2, rfl, rfl, HS⟩ := hrel
          by_cases hlt : j < n2 ∧ j < 100
          · have z1 : (j : Int) < (n2 : Int) := by omega
            have z2 : (j : Int) < 100 := by omega
            have z0 : (0 : Int) ≤ (j : Int) := Int.natCast_nonneg _
            have hr := HR2.out.next HS.out.below
            obtain rfl := hr.ptr (by omega)
            obtain ⟨f0, f1, f2, f3, f4⟩ := hr.five hlt.1 rfl
            have HFv : Hid (∀ W, Below w.heap.size w W → W.cell? ⟨b2, o2 + j * 5, none⟩ = some (.int .i64 (l2 j).kind) ∧ W.cell? ⟨b2, o2 + j * 5 + 1, none⟩ = some (.int .i64 (l2 j).which) ∧ W.cell? ⟨b2, o2 + j * 5 + 2, none⟩ = some (.int .i64 (l2 j).h) ∧ W.cell? ⟨b2, o2 + j * 5 + 3, none⟩ = some (.string (l2 j).s) ∧ W.cell? ⟨b2, o2 + j * 5 + 4, none⟩ = some (.bool (l2 j).r)) := fun W hb => (HR2.out.next hb).five hlt.1 rfl
            have ho := (hr.cell j hlt.1).2.2.2.2.2
            obtain ⟨e0, n', P', A, he⟩ : ∃ e0 n' P' A, Hid (er K n (opH (l2 j)) (opS (l2 j) K) = e0 ∧ nxN K n (opH (l2 j)) (opS (l2 j) K) = n' ∧ nxP K n P (opH (l2 j)) (opS (l2 j) K) = P' ∧ opA K n P (l2 j) = A) := ⟨_, _, _, _, rfl, rfl, rfl, rfl⟩
            have HDa : Hid (∀ W va vb nb Pb, TW w W pa va pb vb K n P nb Pb → Calls Tryd.prog 19 #[.pointer (some ⟨pa, 0, none⟩), .agg #[.int .i64 (l2 j).kind, .int .i64 (l2 j).which, .int .i64 (l2 j).h, .string (l2 j).s, .bool (l2 j).r], .int .i64 K] W fun e w' => ∃ vm va', e = .returned (.tuple #[vm, .int .i64 (e0 : Int)]) ∧ TW w w' pa va' pb vb K n' P' nb Pb ∧ OwnS w' w.heap.size vm A) := fun W va vb nb Pb s =>
              (does_any W s.tb pa va K n P s.ra (l2 j) ho e0 n' P' A he).mono fun e w' ⟨vm, v', h1, hD⟩ => ⟨vm, v', h1, s.didA hD, own_mono hD.own s.below.size⟩
            have HDb : Hid (∀ W va vb na Pa vm, TW w W pa va pb vb K na Pa n P → OwnS W w.heap.size vm A → Calls Tryd.prog 19 #[.pointer (some ⟨pb, 0, none⟩), .agg #[.int .i64 (l2 j).kind, .int .i64 (l2 j).which, .int .i64 (l2 j).h, .string (l2 j).s, .bool (l2 j).r], .int .i64 K] W fun e w' => ∃ vm2 vb', e = .returned (.tuple #[vm2, .int .i64 (e0 : Int)]) ∧ TW w w' pa va pb vb' K na Pa n' P' ∧ OwnS w' w.heap.size vm2 A ∧ OwnS w' w.heap.size vm A) := fun W va vb na Pa vm s hv =>
              (does_any W s.tb pb vb K n P s.rb (l2 j) ho e0 n' P' A he).mono fun e w' ⟨vm2, v', h1, hD⟩ => ⟨vm2, v', h1, s.didB hD, own_mono hD.own s.below.size, own_ch hv s.rb hD.ch⟩
            have HZA : Hid ((∀ s ∈ A, s.size ≤ 140737488351232) ∧ A.length ≤ 8796093022208) := by
              have := opA_size (n := n) (l2 j) k1 k2 HS.out.ra.hs
              rw [he.out.2.2.2] at this
              exact ⟨this.1, by omega⟩
            generalize l2 j = o at *
            obtain ⟨kd, wh, h, s, r⟩ := o
            clear he hr ho
            obtain ⟨rr, hrr⟩ : ∃ rr, Hid (rgD K n' P' = rr) := ⟨_, rfl⟩
            have HRt : Hid (∀ W p v, Tb W → Rg W p v K n' P' → Calls Tryd.prog 17 #[.pointer (some ⟨p, 0, none⟩)] W fun e w' => e = .returned (.agg #[.int .u64 (n' : Int), .string rr]) ∧ Below W.heap.size W w') := fun W p v h1 h2 => rroot_any W h1 p v K n' P' h2 rr hrr
            clear hrr
            go_wp2_with (first
              | (go_at_call 19; with_reducible refine (HDa.out _ _ _ _ _ HS.out).mono ?_; rintro e w8 ⟨vm1, va', rfl, hS8, hv8⟩; obtain ⟨f0, f1, f2, f3, f4⟩ := HFv.out _ hS8.below)
              | (go_at_call 19; with_reducible refine (HDb.out _ _ _ _ _ _ hS8 hv8).mono ?_; rintro e w9 ⟨vm2, vb', rfl, hS9, hv9, hu9⟩)
              | (go_at_call 14; with_reducible refine (same_own _ _ _ _ _ _ hu9 hv9 HZA.out.1 HZA.out.2).mono ?_; rintro e w10 ⟨rfl, hb10⟩; replace hS9 := hS9.next hb10; clear hb10)
              | (go_at_call 17; with_reducible refine (HRt.out _ _ _ hS9.tb hS9.ra).mono ?_; rintro e w11 ⟨rfl, hb11⟩; replace hS9 := hS9.next hb11; clear hb11)
              | (go_at_call 17; with_reducible refine (HRt.out _ _ _ hS9.tb hS9.rb).mono ?_; rintro e w11 ⟨rfl, hb11⟩; replace hS9 := hS9.next hb11; clear hb11)
              | (go_at_call 13; with_reducible refine (rpeaks_own _ _ _ _ _ _ hS9.ra).mono ?_; rintro e w12 ⟨ua, rfl, oa, hb12⟩; replace hS9 := hS9.next hb12; clear hb12)
              | (go_at_call 13; with_reducible refine (rpeaks_own _ _ _ _ _ _ hS9.rb).mono ?_; rintro e w13 ⟨ub, rfl, ob, hb13⟩; replace hS9 := hS9.next hb13; replace oa := own_next oa hb13 (Nat.le_refl _); clear hb13)
              | (go_at_call 14; with_reducible refine (same_own _ _ _ _ _ _ oa ob hS9.ra.small (by have := hS9.ra.short; omega)).mono ?_; rintro e w14 ⟨rfl, hb14⟩; replace hS9 := hS9.next hb14; clear hb14))
            have HF := hide hS9
            clear hS9 hS8
            go_roundg (100 - (j + 1))
            case rel =>
              go_light
              exact ⟨j + 1, va', vb', n', P', by omega, by omega, rfl, by go_num, HF⟩
            case measure => go_light; omega
          · go_upto_region 15 with (fail)
            go_cut [67] from 60 to 66 (fun y wx => y = .bool false ∧ wr = wx)
            case first =>
              by_cases h1 : j < n2
              · have z1 : (j : Int) < (n2 : Int) := by omega
                have z2 : ¬ ((j : Int) < 100) := by omega
                clear h1 hlt
                go_wp2
                go_meet
                case rel =>
                  go_light
                  exact ⟨rfl, rfl⟩
              · have z1 : ¬ ((j : Int) < (n2 : Int)) := by omega
                clear h1 hlt
                go_wp2
                go_meet
                case rel =>
                  go_light
                  exact ⟨rfl, rfl⟩
            case rest =>
              obtain ⟨rfl, rfl⟩ := hcut
              go_wp2
              go_ret
              exact ⟨rfl, HS.out.below⟩
end Go.Proofs.YtncndefggegicaaDoor
