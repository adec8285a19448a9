/-
  The walk of PlacePeaks. Own work.
-/
import Derived.Test.YtilflepomeoffaaWalkK
namespace Go.Proofs.Ytilflepomeoffaa
open Go.RowKit
attribute [local go_sem ↓] Go.wp_at_zero Go.wp_at_succ
theorem height_at (j m : Nat) (hj : j ≤ 40) (hm : m < pw (40 - j)) (w : World) :
    Calls Try.prog 12 #[.int .u64 (at' j m : Nat)] w fun e w' => e = .returned (.tuple #[.int .i64 (j : Int), .bool true]) ∧ Below w.heap.size w w' := by
  obtain ⟨q1, q2⟩ := at_blk j m hj hm
  have := height_any (at' j m) w
  rwa [blk', if_pos q1, q2, decide_eq_true q1] at this
theorem ppeaks_big (n : Nat) (w : World) (hn : 2 ^ 40 < n) :
    Calls Try.prog 3 #[.int .u64 n] w fun e w' => e = .returned (.bool true) ∧ Below w.heap.size w w' := by
  have HA := fun w' => alive_any w'
  have HN := fun w' => nodes_isno n w' hn
  have HP := fun w' => peaks_no n w' hn
  have h1 : decide ((1099511627776 : Int) < (n : Int)) = true := decide_eq_true (by omega)
  clear hn
  go_enter Try.func3, Try.ntmps3
  go_upto_region 4 with (first
    | (go_at_call 9; with_reducible refine (HA _).mono ?_; rintro e w1 ⟨rfl, hb1⟩)
    | (go_at_call 10; with_reducible refine (HP _).mono ?_; rintro e w2 ⟨v, rfl, ho, hb2⟩))
  obtain ⟨ao, b, len, cap, rfl, r, hlm, _⟩ := own_rd ho
  obtain rfl : len = 0 := r.len.symm
  have HB : Hid (Below w.heap.size w w2) := bnext hb1 hb2
  clear ho r hlm hb1 hb2 HA HP
  go_wp2_with (go_at_call 11; with_reducible refine (HN _).mono ?_; rintro e w3 ⟨rfl, rfl⟩)
  go_ret
  exact ⟨rfl, HB.out⟩
set_option maxHeartbeats 4000000 in
set_option maxRecDepth 100000 in
theorem ppeaks_low (n : Nat) (w : World) (hn : n ≤ 2 ^ 40) :
    Calls Try.prog 3 #[.int .u64 n] w fun e w' => e = .returned (.bool true) ∧ Below w.heap.size w w' := by
  have HA := fun w' => alive_any w'
  have HN := fun w' => nodes_is n w' hn
  have HP := fun w' => peaks_yes n w' hn
  have h1 : decide ((1099511627776 : Int) < (n : Int)) = false := decide_eq_false (by omega)
  have HNn : Hid (n ≤ 2 ^ 40 ∧ fr 41 (n / pw 41) = 0 ∧ fr 0 (n / pw 0) = N n) := ⟨hn, fill_start n hn, fill_end n⟩
  clear hn
  go_enter Try.func3, Try.ntmps3
  go_upto_region 4 with (first
    | (go_at_call 9; with_reducible refine (HA _).mono ?_; rintro e w1 ⟨rfl, hb1⟩)
    | (go_at_call 10; with_reducible refine (HP _).mono ?_; rintro e w2 ⟨v, rfl, ho, hb2⟩))
  obtain ⟨ao, b, len, cap, rfl, r, hlm, _⟩ := own_rd ho
  have HB : Hid (Below w.heap.size w w2) := bnext hb1 hb2
  have HR : Hid (Rd w2 ao b 0 len (pk 41 n)) := r
  have HL : Hid ((pk 41 n).length = len ∧ len ≤ 41) := ⟨r.len, by rw [← r.len]; exact pk_len 41 n⟩
  clear ho r hlm hb1 hb2 HA HP
  obtain ⟨x, hx⟩ : ∃ x, N n = x := ⟨_, rfl⟩
  rw [hx] at HN HNn
  clear hx
  go_wp2_with (go_at_call 11; with_reducible refine (HN _).mono ?_; rintro e w3 ⟨rfl, rfl⟩)
  go_loopg [6, 7, 8] 41 (fun g f a h wr => ∃ d fl c : Nat, d ≤ 41 ∧ g = 41 - d ∧ h = .int .i64 (40 - (d : Int)) ∧ f = .int .u64 (fl : Int) ∧ a = .int .i64 (c : Int) ∧ fl = fr (41 - d) (n / pw (41 - d)) ∧ c = (pk d n).length ∧ Below w2.heap.size w2 wr)
  case atStart =>
    go_light
    exact ⟨0, 0, 0, Nat.zero_le _, rfl, rfl, rfl, rfl, HNn.out.2.1.symm, rfl, Below.refl _ _⟩
  case round =>
    clear HN
    obtain ⟨d, fl, c, hd, rfl, rfl, rfl, rfl, hf, hc, hb⟩ := hrel
    obtain ⟨hn, hn1, hn2⟩ := HNn.out
    obtain ⟨hl1, hl2⟩ := HL.out
    by_cases hlt : d < 41
    · obtain ⟨j, hj⟩ : ∃ j : Nat, 40 - d = j := ⟨_, rfl⟩
      have ej : (40 - (d : Int)) = (j : Int) := by omega
      have hj0 : (0 : Int) ≤ (j : Int) := Int.natCast_nonneg _
      have hj1 : (j : Int) < 64 := by omega
      have hj2 : ¬ (j : Int) < 0 := by omega
      have hd41 : 41 - d = j + 1 := by omega
      have hd42 : 41 - (d + 1) = j := by omega
      have ew : IntKind.u64.wrap (j : Int) = (j : Int) := by rw [IntKind.wrap_u64]; omega
      obtain ⟨q, hq⟩ : ∃ q, n / pw j = q := ⟨_, rfl⟩
      have eq : (n : Int) / 2 ^ j = (q : Int) := by rw [← hq]; simp [pw]
      have ej2 : (40 - ((d + 1 : Nat) : Int)) = (j : Int) - 1 := by omega
      rw [hd41] at hf
      rw [ej]
      have HBW : Hid (Below w2.heap.size w2 wr) := hb
      by_cases hbo : q % 2 = 1
      · have ht : ((q : Int) % 2 == 0) = false := by have : (q : Int) % 2 = 1 := by omega
                                                     rw [this]; rfl
        obtain ⟨f1, f2⟩ := fill_one n j hn (by rw [hq]; exact hbo)
        have g1 := pk_at d n hlt (by rw [hj, hq]; exact hbo)
        have g2 := pk_lt d n hlt (by rw [hj, hq]; exact hbo)
        have g3 : (pk (d + 1) n).length = c + 1 := by rw [pk_one d n (by rw [hj, hq]; exact hbo), List.length_append, ← hc]; rfl
        rw [← hc] at g1 g2
        rw [hj] at g1
        have hm := bit_may n j hn (by omega) (by rw [hq]; exact hbo)
        have HH := fun w' => height_at j (n / pw j - 1) (by omega) hm w'
        have hle := fill_le n j hn
        generalize at' j (n / pw j - 1) = y at *
        rw [← hf] at f1 f2
        obtain ⟨fl2, hfl2⟩ : ∃ fl2, fl + (2 * pw j - 1) = fl2 := ⟨_, rfl⟩
        rw [hfl2] at f1 f2
        have r2 := HR.out.below hb
        obtain rfl := r2.addr (by omega)
        have cc := r2.cell c (by omega)
        rw [List.getD_eq_getElem?_getD, g1, Nat.zero_add] at cc
        have cc' : wr.cell? ⟨b, c, none⟩ = some (.int .u64 (y : Int)) := cc
        have hpj := pw_40 j (by omega)
        have hpj2 := pw_pos j
        obtain ⟨t2, ht2⟩ : ∃ t : Nat, 2 * pw j = t := ⟨_, rfl⟩
        have e2 : ((2 : Int) ^ j) = (pw j : Int) := by simp [pw]
        have E1 : IntKind.u64.wrap (2 * (2 : Int) ^ j) = (t2 : Int) := by rw [e2, IntKind.wrap_u64]; omega
        obtain ⟨t3, ht3⟩ : ∃ t : Nat, fl + t2 = t := ⟨_, rfl⟩
        have E2 : IntKind.u64.wrap ((fl : Int) + (t2 : Int)) = (t3 : Int) := by rw [IntKind.wrap_u64]; omega
        have E3 : IntKind.u64.wrap ((t3 : Int) - 1) = (fl2 : Int) := by rw [IntKind.wrap_u64]; omega
        have E4 : IntKind.u64.wrap ((fl2 : Int) - 1) = (y : Int) := by rw [IntKind.wrap_u64]; omega
        have hcl : (c : Int) < (len : Int) := by omega
        have hcl2 : ¬ (len : Int) ≤ (c : Int) := by omega
        have hc0 : (0 : Int) ≤ (c : Int) := Int.natCast_nonneg _
        have hc41 : (c : Int) < 64 := by omega
        have HX : Hid (d + 1 ≤ 41 ∧ fl2 = fr (41 - (d + 1)) (n / pw (41 - (d + 1))) ∧ c + 1 = (pk (d + 1) n).length) := ⟨by omega, by rw [hd42]; exact f1, g3.symm⟩
        clear f1 f2 g1 g2 g3 hm hle hf hfl2 r2 cc hpj hpj2 ht2 e2 ht3 hn hn1 hn2 hl1 hl2 hc hb hj hd41 hd42 hq hbo ej
        go_wp2_with (go_at_call 12; with_reducible refine (HH _).mono ?_; rintro e w4 ⟨rfl, hb4⟩)
        go_roundg (41 - (d + 1))
        case rel =>
          go_light
          obtain ⟨z1, z2, z3⟩ := HX.out
          refine ⟨d + 1, fl2, c + 1, z1, rfl, by rw [ej2], rfl, by go_num, z2, z3, bnext HBW.out hb4⟩
        case measure => go_light; omega
      · have ht : ((q : Int) % 2 == 0) = true := by have : (q : Int) % 2 = 0 := by omega
                                                    rw [this]; rfl
        have f1 := fill_none n j hn (by rw [hq]; exact hbo)
        have g3 : (pk (d + 1) n).length = c := by rw [pk_none d n (by rw [hj, hq]; exact hbo), ← hc]
        rw [← hf] at f1
        have HX : Hid (d + 1 ≤ 41 ∧ fl = fr (41 - (d + 1)) (n / pw (41 - (d + 1))) ∧ c = (pk (d + 1) n).length) := ⟨by omega, by rw [hd42]; exact f1, g3.symm⟩
        clear f1 g3 hf hn hn1 hn2 hl1 hl2 hc hb hj hd41 hd42 hq hbo ej
        go_wp2
        go_roundg (41 - (d + 1))
        case rel =>
          go_light
          obtain ⟨z1, z2, z3⟩ := HX.out
          refine ⟨d + 1, fl, c, z1, rfl, by rw [ej2], rfl, rfl, z2, z3, HBW.out⟩
        case measure => go_light; omega
    · obtain rfl : d = 41 := by omega
      obtain rfl : fl = x := by rw [hf]; exact hn2
      obtain rfl : c = len := by rw [hc]; exact hl1
      have HBW : Hid (Below w.heap.size w wr) := bnext HB.out hb
      clear hn hn1 hn2 hl1 hl2 hf hc hb hd hlt HB HR HL HNn
      go_wp2
      go_ret
      exact ⟨rfl, HBW.out⟩
theorem ppeaks_row (a : Int) (w0 : (Lit.int .u64 a).wf = true) (w : World) :
    Calls Try.prog 3 #[.int .u64 a] w fun e w' => e = .returned (.bool true) ∧ Below w.heap.size w w' := by
  obtain ⟨n, rfl, _⟩ := u64_nat w0
  by_cases h : n ≤ 2 ^ 40
  · exact ppeaks_low n w h
  · exact ppeaks_big n w (by omega)
end Go.Proofs.Ytilflepomeoffaa
