/-
  The walk of PlaceRow. Own work.
-/
import Derived.Test.YtilflepomeoffaaWalkL
namespace Go.Proofs.Ytilflepomeoffaa
open Go.RowKit
attribute [local go_sem ↓] Go.wp_at_zero Go.wp_at_succ
theorem own_next {w w' : World} {B : Nat} {v : Value} {l : List Nat} (h : Own w B v l) (hb : Below w.heap.size w w') : Own w' B v l := by
  obtain ⟨h1, h2⟩ := h
  refine ⟨h1, ?_⟩
  rcases h2 with h2 | ⟨g, cap, cur, hv, hg, hh, h3⟩
  · exact .inl h2
  · exact .inr ⟨g, cap, cur, hv, hg, (hb.block g (by have := (Array.getElem?_eq_some_iff.1 hh).1; exact this)).trans hh, h3⟩
theorem own_shape {w : World} {B : Nat} {v : Value} {l : List Nat} (h : Own w B v l) (hl : 0 < l.length) : ∃ g cap, v = .slice (some ⟨g, 0, none⟩) l.length cap ∧ l.length ≤ cap ∧ cap ≤ maxLen := by
  obtain ⟨h1, h2⟩ := h
  rcases h2 with ⟨h2, h3⟩ | ⟨g, cap, cur, hv, hg, hh, h3, h4, h5⟩
  · omega
  · exact ⟨g, cap, hv, h3, h4⟩
theorem own_pop {w : World} {B g n cap : Nat} {l : List Nat} (h : Own w B (.slice (some ⟨g, 0, none⟩) n cap) l) : Own w B (.slice (some ⟨g, 0, none⟩) (n - 1) cap) (l.take (l.length - 1)) := by
  obtain ⟨h1, h2⟩ := h
  have hlen : (l.take (l.length - 1)).length = l.length - 1 := by rw [List.length_take]; omega
  refine ⟨by simp, .inr ?_⟩
  rcases h2 with ⟨h2, h3⟩ | ⟨g', cap', cur, hv, hg, hh, h3, h4, h5, h6⟩
  · cases h2
  · obtain ⟨hv1, hv2, hv3⟩ := Value.slice.inj hv
    cases hv1
    subst hv2 hv3
    refine ⟨g, cap, cur, by rw [hlen], hg, hh, by rw [hlen]; omega, h4, h5, ?_⟩
    have e : cU (l.take (l.length - 1)) = (cU l).take (l.length - 1) := List.map_take
    rw [hlen, e, ← h6, List.take_take]
    congr 1
    omega
set_option maxHeartbeats 8000000 in
set_option maxRecDepth 100000 in
theorem row_walk (many x : Nat) (a : Int) (w : World) (hmany : many < 260) (hx : IntKind.u64.wrap a = (x : Int)) (hw : (x : Int) % 260 = (many : Int)) :
    Calls Try.prog 7 #[.int .i64 a] w fun e w' => e = .returned (.bool true) ∧ Below w.heap.size w w' := by
  obtain ⟨i0, hi, hz0, hz1, hz2⟩ := info_parts Try.infoU
  have HA := fun w' => alive_any w'
  have e1 : IntKind.i64.wrap (many : Int) = (many : Int) := by rw [IntKind.wrap_i64]; omega
  have e2 : IntKind.u64.wrap (many : Int) = (many : Int) := by rw [IntKind.wrap_u64]; omega
  have HM : Hid (many < 260) := hmany
  clear hmany
  go_enter Try.func7, Try.ntmps7
  go_wp2_with (go_at_call 9; with_reducible refine (HA _).mono ?_; rintro e w1 ⟨rfl, hb1⟩)
  have HB1 : Hid (Below w.heap.size w w1) := hb1
  clear hb1 HA hw hx e1
  go_loopg [3, 4, 5] many (fun g x v i wr => ∃ k n : Nat, k ≤ many ∧ g = many - k ∧ i = .int .u64 (k : Int) ∧ x = .int .u64 (n : Int) ∧ n = N k ∧ Own wr w.heap.size v (pk 41 k) ∧ Below w.heap.size w wr)
  case atStart =>
    go_light
    exact ⟨0, 0, Nat.zero_le _, rfl, rfl, rfl, rfl, World.ownsRow_nil _ _ _ _, HB1.out⟩
  case round =>
    clear HB1
    obtain ⟨k, n, hk, rfl, rfl, rfl, hn, hown, hb⟩ := hrel
    by_cases hlt : k < many
    · have hd : (k : Int) < (many : Int) := by omega
      have HR : Hid (Own wr w.heap.size u4 (pk 41 k) ∧ Below w.heap.size w wr ∧ n = N k ∧ k < many) := ⟨hown, hb, hn, hlt⟩
      clear hown hb hn hlt hk
      go_wp2
      go_loopg [3, 4, 6, 7] 41 (fun g x v h q wr => ∃ t n q' : Nat, t ≤ 40 ∧ g = 41 - t ∧ x = .int .u64 (n : Int) ∧ h = .int .i64 (t : Int) ∧ q = .int .u64 (q' : Int) ∧ n = N k + t ∧ k / pw t = q' ∧ k % pw t = pw t - 1 ∧ Own wr w.heap.size v (pk (41 - t) k) ∧ Below w.heap.size w wr)
      case atStart =>
        go_light
        obtain ⟨z1, z2, z3, z4⟩ := HR.out
        exact ⟨0, n, k, by omega, rfl, rfl, rfl, rfl, by omega, by rw [pw_zero, Nat.div_one], by rw [pw_zero, Nat.mod_one], by rw [Nat.sub_zero]; exact z1, z2⟩
      case round =>
        obtain ⟨t, n2, q, ht, rfl, rfl, rfl, rfl, hn2, hq, hmod, hown, hb⟩ := hrel
        obtain ⟨z1, z2, z3, z4⟩ := HR.out
        have hm := HM.out
        obtain ⟨a1, a2, a3⟩ := new_at t k hmod (by omega)
        obtain ⟨b1, b2⟩ := at_blk t (k / pw t) a3 a2
        have hof := fun w' => of_yes t (k / pw t) w' a3 a2
        have hbk := fun w' => block_yes (at' t (k / pw t)) w' b1
        rw [hq] at hof a1 b1 b2
        rw [hq] at hbk
        simp only [b2] at hbk
        rw [a1, ← hn2] at hof hbk b1
        simp only [most] at b1
        have HOf : ∀ w', Calls Try.prog 15 #[.agg #[.int .i64 (t : Int), .int .u64 (q : Int)]] w' fun e w'' => e = .returned (.tuple #[.int .u64 (n2 : Int), .bool true]) ∧ Below w'.heap.size w' w'' := hof
        have HBk : ∀ w', Calls Try.prog 13 #[.int .u64 (n2 : Int)] w' fun e w'' => e = .returned (.tuple #[.agg #[.int .i64 (t : Int), .int .u64 (q : Int)], .bool true]) ∧ Below w'.heap.size w' w'' := hbk
        obtain ⟨n3, hn3⟩ : ∃ n3, n2 + 1 = n3 := ⟨_, rfl⟩
        have E1 : IntKind.u64.wrap ((n2 : Int) + 1) = (n3 : Int) := by rw [IntKind.wrap_u64]; omega
        have HV : Hid (Own wr w.heap.size u4 (pk (41 - t) k) ∧ Below w.heap.size w wr ∧ n2 = N k + t ∧ n2 + 1 = n3 ∧ k / pw t = q ∧ k % pw t = pw t - 1 ∧ t ≤ 40 ∧ k < 260) := ⟨hown, hb, hn2, hn3, hq, hmod, ht, by omega⟩
        clear z1 z2 z3 z4 hm a1 a2 a3 b1 b2 hof hbk hn2 hq hmod hown hb hn3 ht HR
        go_upto_region 13 with (first
          | (go_at_call 13; with_reducible refine (HBk _).mono ?_; rintro e w4 ⟨rfl, hb4⟩)
          | (go_at_call 15; with_reducible refine (HOf _).mono ?_; rintro e w5 ⟨rfl, hb5⟩))
        obtain ⟨y1, y2, y3, y4, y5, y6, y7, y8⟩ := HV.out
        have o5 : Own w5 w.heap.size u4 (pk (41 - t) k) := own_next (own_next (own_next y1 hb4) (ball _ _)) hb5
        have HB5 : Hid (Below w.heap.size w w5) := bnext (bal (bnext y2 hb4) _) hb5
        obtain ⟨c0, c1⟩ := ((two_new w4 t q 33).next hb5).at0
        have hs5 : w.heap.size ≤ w5.heap.size := HB5.out.size
        clear hb4 hb5 HOf HBk HV y1 y2
        have hpl := pk_len (41 - t) k
        by_cases hqo : q % 2 = 1
        · have hqt : ((q : Int) % 2 == 0) = false := by have : (q : Int) % 2 = 1 := by omega
                                                        rw [this]; rfl
          have s1 := ones_end_succ t k y6 (by rw [y5]; exact hqo)
          have s2 := ones_end_le (t + 1) k s1 (by omega)
          obtain ⟨p1, p2⟩ := pop_pk t k y7 (by rw [y5]; exact hqo)
          obtain ⟨g, cap, rfl, hc1, hc2⟩ := own_shape o5 (by omega)
          have o6 := own_pop o5
          obtain ⟨len, hlen⟩ : ∃ len, (pk (41 - t) k).length = len := ⟨_, rfl⟩
          rw [← p2] at o6
          rw [hlen] at o5 o6 hc1 hpl p1 ⊢
          have HX : Hid (Own w5 w.heap.size (.slice (some ⟨g, 0, none⟩) (len - 1) cap) (pk (41 - (t + 1)) k) ∧ n3 = N k + (t + 1) ∧ k / pw (t + 1) = q / 2 ∧ k % pw (t + 1) = pw (t + 1) - 1 ∧ t + 1 ≤ 40) := ⟨o6, by omega, by rw [div_half, y5], s1, s2⟩
          obtain ⟨l2, hl2⟩ : ∃ l2, len - 1 = l2 := ⟨_, rfl⟩
          rw [hl2] at HX
          have G1 : (len : Int) - 1 = (l2 : Int) := by omega
          have G1b : IntKind.i64.wrap (l2 : Int) = (l2 : Int) := by rw [IntKind.wrap_i64]; omega
          have G2 : (0 : Int) ≤ (l2 : Int) := Int.natCast_nonneg _
          have G3 : (l2 : Int) ≤ (cap : Int) := by omega
          have G4 : (l2 : Int) ≤ (len : Int) := by omega
          have G5 : (len : Int) ≤ (cap : Int) := by omega
          obtain ⟨t2, ht2⟩ : ∃ t2 : Nat, t + 1 = t2 := ⟨_, rfl⟩
          have G6 : IntKind.i64.wrap ((t : Int) + 1) = (t2 : Int) := by rw [IntKind.wrap_i64]; omega
          obtain ⟨q2, hq2⟩ : ∃ q2 : Nat, q / 2 = q2 := ⟨_, rfl⟩
          have hq3 : q < 260 := by rw [← y5]; exact Nat.lt_of_le_of_lt (Nat.div_le_self _ _) y8
          have G7 : (q : Int) / 2 = (q2 : Int) := by omega
          have G8 : IntKind.u64.wrap (q2 : Int) = (q2 : Int) := by rw [IntKind.wrap_u64]; omega
          rw [hq2] at HX
          have HT : Hid (t + 1 = t2 ∧ t ≤ 40) := ⟨ht2, y7⟩
          rw [ht2] at HX
          clear s1 s2 p1 p2 hc1 hc2 o5 o6 hlen y3 y4 y5 y6 y7 y8 hpl hl2 hq2 hq3 hqo ht2
          go_wp2
          go_roundg (41 - t2)
          case rel =>
            go_light
            obtain ⟨x1, x2, x3, x4, x5⟩ := HX.out
            exact ⟨t2, n3, q2, x5, rfl, rfl, rfl, rfl, x2, x3, x4, x1, HB5.out⟩
          case measure => go_light; obtain ⟨x1, x2⟩ := HT.out; omega
        · have hqt : ((q : Int) % 2 == 0) = true := by have : (q : Int) % 2 = 0 := by omega
                                                       rw [this]; rfl
          have s1 := new_N t k y6 (by rw [y5]; exact hqo) (by omega)
          have s2 := new_pk t k y6 (by rw [y5]; exact hqo) (by omega)
          obtain ⟨k2, hk2⟩ : ∃ k2, k + 1 = k2 := ⟨_, rfl⟩
          have HN := fun w' => nodes_is (k + 1) w' (by omega)
          have HP := fun w' => peaks_yes (k + 1) w' (by omega)
          rw [← y3] at s1 s2
          rw [y4] at s1
          rw [hk2] at HN HP s1 s2
          rw [s1] at HN
          have hNk := N_eq k
          have E2 : IntKind.u64.wrap ((n3 : Int) - 1) = (n2 : Int) := by rw [IntKind.wrap_u64]; omega
          have E3 : IntKind.u64.wrap ((k : Int) + 1) = (k2 : Int) := by rw [IntKind.wrap_u64]; omega
          have HX : Hid (n3 = N k2 ∧ pk 41 k2 = pk (41 - t) k ++ [n2] ∧ k + 1 = k2 ∧ (pk (41 - t) k).length ≤ 41 ∧ w.heap.size ≤ w5.heap.size) := ⟨s1.symm, s2, hk2, by omega, hs5⟩
          have HPL : Hid ((pk (41 - t) k).length ≤ 41 ∧ w.heap.size ≤ w5.heap.size) := ⟨by omega, hs5⟩
          rw [s2] at HP
          clear s1 s2 hk2 y3 y4 y5 y6 y7 y8 hpl hqo hs5 hNk
          go_upto_region 21 with
            (at_builtin; refine wpList_append_own _ rfl _ _ 24 rfl w.heap.size 22 i0 (.int .u64 0) 1 8 Try.underlying24 hi hz0 hz1 hz2 rfl (by decide) _ _ _ rfl (o5.alloc _) ⟨w5.heap.size, 0, none⟩ 1 1 [.int .u64 (n2 : Int)] rfl rfl ?c1 ?c2 ?c3 ?c4 ?c5 ?_)
          case c1 =>
            intro j u hj
            match j, hj with
            | 0, hj => simp at hj; subst hj; simp [Addr.add]
          case c2 => intro u hu; simp at hu; subst hu; rfl
          case c3 => have := HPL.out; unfold maxLen; omega
          case c4 => have := HPL.out; omega
          case c5 => have := HPL.out; simp; omega
          · intro v' w6 hown' hgrow _
            have R := own_step HB5.out HPL.out.2 o5 hown' hgrow
            have o6 := R.1
            have HB6 : Hid (Below w.heap.size w w6) := R.2.1
            clear hown' hgrow o5 R HB5 c0 c1
            go_wp2_with (first
              | (go_at_call 11; with_reducible refine (HN _).mono ?_; rintro e w7 ⟨rfl, rfl⟩)
              | (go_at_call 10; with_reducible refine (HP _).mono ?_; rintro e w7 ⟨v2, rfl, ho2, hb7⟩)
              | (go_at_call 21; refine (same_own _ _ _ _ _ _ _ ho2 (own_next o6 hb7)).mono ?_; rintro e w8 ⟨rfl, hb8⟩))
            go_roundg (many - k2)
            case rel =>
              go_light
              obtain ⟨x1, x2, x3, x4, x5⟩ := HX.out
              have hkm : k < many := by omega
              exact ⟨k2, n3, by omega, rfl, rfl, rfl, x1, by rw [x2]; exact own_next (own_next o6 hb7) hb8, bnext (bnext HB6.out hb7) hb8⟩
            case measure => go_light; obtain ⟨x1, x2, x3, x4, x5⟩ := HX.out; have hkm : k < many := by omega
                            omega
    · obtain rfl : k = many := by omega
      have hd : ¬ (k : Int) < (k : Int) := by omega
      have HBW : Hid (Below w.heap.size w wr) := hb
      clear hown hb hn hlt hk HM
      go_wp2
      go_ret
      exact ⟨rfl, HBW.out⟩
theorem row_row (a : Int) (w : World) :
    Calls Try.prog 7 #[.int .i64 a] w fun e w' => e = .returned (.bool true) ∧ Below w.heap.size w w' := by
  obtain ⟨x, hx⟩ : ∃ x : Nat, IntKind.u64.wrap a = (x : Int) := ⟨(IntKind.u64.wrap a).toNat, by rw [IntKind.wrap_u64]; omega⟩
  exact row_walk (x % 260) x a w (by omega) hx (by omega)
end Go.Proofs.Ytilflepomeoffaa
