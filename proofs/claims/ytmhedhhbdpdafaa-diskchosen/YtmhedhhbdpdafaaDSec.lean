/-
  DiskSectors. Own work.
-/
import Derived.Test.YtmhedhhbdpdafaaDEdW
namespace Go.Proofs.Ytmhedhhbdpdafaa
open Go.RowKit
theorem file_of (w : World) (ao : Option Addr) (b c : Nat) (x : List UInt8) {X : ByteArray} (hX : X.data.toList = x) (hr : RdF w ao b 0 (one [102] x)) : Calls Try.prog 27 #[.slice ao (one [102] x).length c] w fun e w' => e = .returned (.tuple #[.string X, .bool true]) ∧ Below w.heap.size w w' := by
  obtain rfl : X = ⟨x.toArray⟩ := ba_ext (by rw [hX])
  unfold one at hr ⊢
  split
  · rename_i h
    subst h
    exact file_nil w ao c
  · rename_i h
    rw [if_neg h] at hr
    exact file_one w ao b 0 c x h hr
theorem at_any (w : World) (s : ByteArray) (i : Nat) : Calls Try.prog 28 #[.string s, .int .i64 (i : Int)] w fun e w' => e = .returned (.int .u8 ((s.data.toList.getD i 0).toNat : Int)) ∧ w' = w := by
  by_cases h : i < s.size
  · exact at_in w s i h
  · have := at_out w s i (by omega)
    rw [List.getD_eq_getElem?_getD, List.getElem?_eq_none (by rw [size_list]; omega)]
    exact this
theorem rdl_one {w : World} {b : Nat} {x : Bool} {T : TypeId} (h : w.heap[b]? = some (.cells #[.bool x] T (0, 0))) : RdL w (some ⟨b, 0, none⟩) b 0 [x] := by
  refine ⟨fun _ => rfl, fun j hj => ?_⟩
  rw [cell_of_row w b (0 + j) _ _ (0, 0) h]
  match j, hj with
  | 0, _ => rfl
/-- Are the first i bytes of sector s alike? -/
def pa (x y : List UInt8) (s : Nat) : Nat → Bool
  | 0 => true
  | i + 1 => pa x y s i && decide (x.getD (64 * s + i) 0 = y.getD (64 * s + i) 0)
theorem pa_true {x y : List UInt8} {s : Nat} : ∀ {i : Nat}, (∀ r, r < i → x.getD (64 * s + r) 0 = y.getD (64 * s + r) 0) → pa x y s i = true
  | 0, _ => rfl
  | i + 1, h => by
    rw [pa, pa_true (fun r hr => h r (by omega)), h i (by omega)]
    simp
theorem pa_one (keep : List Bool) (f : FV) (s i : Nat) (hi : i ≤ 64) (hl : 64 * s + i ≤ (stay keep f 0).1.length) : pa (stay keep f 0).1 f.now s i = true ∨ pa (stay keep f 0).1 f.syn s i = true := by
  rcases stay_sec keep f s with h | h
  · exact .inl (pa_true fun r hr => h _ (by omega) (by omega) (by omega))
  · exact .inr (pa_true fun r hr => h _ (by omega) (by omega) (by omega))
theorem u8_eq (a b : UInt8) : (((a.toNat : Nat) : Int) == ((b.toNat : Nat) : Int)) = decide (a = b) := by
  rw [Bool.eq_iff_iff, beq_iff_eq, decide_eq_true_iff]
  exact ⟨fun h => UInt8.toNat_inj.1 (by omega), fun h => by rw [h]⟩
theorem idx_eq (s : ByteArray) (i : Nat) (h : i < s.size) (c : UInt8) : (((s[i].toNat : Nat) : Int) == ((c.toNat : Nat) : Int)) = (true && decide (s.data.toList.getD i 0 = c)) := by
  have e : s.data.toList.getD i 0 = s[i] := by
    have hd : i < s.data.toList.length := by rw [size_list]; exact h
    rw [List.getD_eq_getElem?_getD, List.getElem?_eq_getElem hd]
    rfl
  rw [e, u8_eq, Bool.true_and]
set_option maxRecDepth 100000 in
set_option maxHeartbeats 4000000 in
theorem sectors_walk (w : World) (was0 : ByteArray) (ea : Option Addr) (eb eo en ec : Nat) (el : Nat → EdV) (hel : RdE w ea eb eo en el) (hen : en ≤ maxLen) (ka : Option Addr) (kb ko kc : Nat) (ks : List Bool) (hk : RdL w ka kb ko ks) (hkl : ks.length ≤ maxLen) :
    Calls Try.prog 7 #[.string was0, .slice ea en ec, .slice ka ks.length kc] w fun e w' => e = .returned (.bool true) ∧ Below w.heap.size w w' := by
  have HA := alive_any w
  obtain ⟨was, hwas⟩ : ∃ t : ByteArray, (⟨(was0.data.toList.take 1500).toArray⟩ : ByteArray) = t := ⟨_, rfl⟩
  have hws : was.size ≤ 1500 := by rw [← size_list, ← hwas, List.length_take]; omega
  have HS : Hid (∀ W, Calls Try.prog 12 #[.string was0, .int .i64 1500] W fun e w' => e = .returned (.string was) ∧ w' = W) := fun W => by
    have := short_any W was0 1500 (by omega)
    rw [hwas] at this
    exact this
  have HE : Hid (∀ W, Below w.heap.size w W → Calls Try.prog 26 #[.string was, .slice ea en ec] W fun e w' => ∃ p D now, e = .returned (.pointer (some ⟨p, 0, none⟩)) ∧ Ed D now was.data.toList 12 ∧ Bx W w' p D []) := fun W hW => edited_any W was hws ea eb eo en ec el (hel.next hW) hen
  have HK : Hid (RdL w ka kb ko ks ∧ ks.length ≤ 9223372036854775807) := ⟨hk, by unfold maxLen at hkl; omega⟩
  obtain ⟨kl, hkl2⟩ : ∃ kl, ks.length = kl := ⟨_, rfl⟩
  have HKl := hide hkl2
  have HWs := hide hws
  rw [hkl2]
  clear hel hen hk hkl hkl2 hws hwas
  go_enter Try.func7, Try.ntmps7
  go_upto_region 5 with (first
    | (go_at_call 9; (with_reducible refine HA.mono ?_); rintro e w1 ⟨rfl, u1⟩)
    | (go_at_call 12; (with_reducible refine (HS.out _).mono ?_); rintro e w2 ⟨rfl, h2⟩; rw [h2]; clear h2 w2)
    | (go_at_call 26; (with_reducible refine (HE.out _ u1).mono ?_); rintro e w3 ⟨p, D, now, rfl, hE, b3'⟩))
  have b3 : Bx w w3 p D [] := by
    obtain ⟨S, z1, z2, z3, z4⟩ := b3'
    exact ⟨S, z1, fun x hx => Nat.le_trans u1.size (z2 x hx), bnext u1 z3, fun c hc => by simp at hc⟩
  clear b3' u1 HA HE HS
  obtain ⟨N, hN⟩ : ∃ N : ByteArray, N = ⟨now.toArray⟩ := ⟨_, rfl⟩
  have hNl : N.data.toList = now := by rw [hN]
  obtain ⟨T, hT⟩ : ∃ T : ByteArray, T = ⟨(stay ks ⟨now, was.data.toList⟩ 0).1.toArray⟩ := ⟨_, rfl⟩
  have hTl : T.data.toList = (stay ks ⟨now, was.data.toList⟩ 0).1 := by rw [hT]
  have hro := hE.roomy (by omega : 12 ≤ 100)
  obtain ⟨nN, hnN⟩ : ∃ n, (one [102] now).length = n := ⟨_, rfl⟩
  obtain ⟨nT, hnT⟩ : ∃ n, (one [102] (stay ks ⟨now, was.data.toList⟩ 0).1).length = n := ⟨_, rfl⟩
  obtain ⟨nW, hnW⟩ : ∃ n, (one [102] was.data.toList).length = n := ⟨_, rfl⟩
  have HFi : Hid (∀ W, Bx w W p D [] → Calls Try.prog 21 #[.pointer (some ⟨p, 0, none⟩)] W fun e w' => ∃ ao b c, e = .returned (.slice ao nN c) ∧ RdF w' ao b 0 (one [102] now) ∧ Bx w w' p D [] ∧ Below W.heap.size W w') := fun W h => by rw [← hnN]; exact h.files hE.tell
  have HAk : Hid (∀ W, Bx w W p D [] → Calls Try.prog 22 #[.pointer (some ⟨p, 0, none⟩), .slice ka kl kc] W fun e w' => ∃ ao b c, e = .returned (.slice ao nT c) ∧ RdF w' ao b 0 (one [102] (stay ks ⟨now, was.data.toList⟩ 0).1) ∧ Bx w w' p D [] ∧ Below W.heap.size W w') := fun W h => by
    rw [← hnT, ← HKl.out]; exact h.after ka kb ko kc ks (HK.out.1.next h.below) HK.out.2 (hE.aft ks)
  have HAt : Hid (∀ W b, Bx w W p D [] → RdL W (some ⟨b, 0, none⟩) b 0 [true] → Calls Try.prog 22 #[.pointer (some ⟨p, 0, none⟩), .slice (some ⟨b, 0, none⟩) 1 1] W fun e w' => ∃ ao b c, e = .returned (.slice ao nN c) ∧ RdF w' ao b 0 (one [102] now) ∧ Bx w w' p D [] ∧ Below W.heap.size W w') := fun W b h hk => by
    rw [← hnN]; exact h.after _ b 0 1 [true] hk (by decide) (by rw [hE.aft, stay_true])
  have HAf : Hid (∀ W b, Bx w W p D [] → RdL W (some ⟨b, 0, none⟩) b 0 [false, false] → Calls Try.prog 22 #[.pointer (some ⟨p, 0, none⟩), .slice (some ⟨b, 0, none⟩) 2 2] W fun e w' => ∃ ao b c, e = .returned (.slice ao nW c) ∧ RdF w' ao b 0 (one [102] was.data.toList) ∧ Bx w w' p D [] ∧ Below W.heap.size W w') := fun W b h hk => by
    rw [← hnW]; exact h.after _ b 0 2 [false, false] hk (by decide) (by rw [hE.aft, stay_no ch_false])
  have HAz : Hid (∀ W, Bx w W p D [] → Calls Try.prog 22 #[.pointer (some ⟨p, 0, none⟩), .slice none 0 0] W fun e w' => ∃ ao b c, e = .returned (.slice ao nW c) ∧ RdF w' ao b 0 (one [102] was.data.toList) ∧ Bx w w' p D [] ∧ Below W.heap.size W w') := fun W h => by
    rw [← hnW]; exact h.after none 0 0 0 [] (rdl_nil _ _ _ _) (by decide) (by rw [hE.aft, stay_no ch_nil])
  have HfN : Hid (∀ W ao b c, RdF W ao b 0 (one [102] now) → Calls Try.prog 27 #[.slice ao nN c] W fun e w' => e = .returned (.tuple #[.string N, .bool true]) ∧ Below W.heap.size W w') := fun W ao b c h => by rw [← hnN]; exact file_of W ao b c now hNl h
  have HfT : Hid (∀ W ao b c, RdF W ao b 0 (one [102] (stay ks ⟨now, was.data.toList⟩ 0).1) → Calls Try.prog 27 #[.slice ao nT c] W fun e w' => e = .returned (.tuple #[.string T, .bool true]) ∧ Below W.heap.size W w') := fun W ao b c h => by rw [← hnT]; exact file_of W ao b c _ hTl h
  have HfW : Hid (∀ W ao b c, RdF W ao b 0 (one [102] was.data.toList) → Calls Try.prog 27 #[.slice ao nW c] W fun e w' => e = .returned (.tuple #[.string was, .bool true]) ∧ Below W.heap.size W w') := fun W ao b c h => by rw [← hnW]; exact file_of W ao b c _ rfl h
  obtain ⟨D', hsy, hE'⟩ := hE.syn
  have HSy : Hid (∀ W, Bx w W p D [] → Calls Try.prog 15 #[.pointer (some ⟨p, 0, none⟩), .string ⟨#[102]⟩] W fun e w' => e = .returned (.int .i64 0) ∧ Bx w w' p D' []) := fun W h => h.sync hro ⟨#[102]⟩ (by decide) hsy
  have HAl : Hid (∀ W, Bx w W p D' [] → Calls Try.prog 22 #[.pointer (some ⟨p, 0, none⟩), .slice ka kl kc] W fun e w' => ∃ ao b c, e = .returned (.slice ao nN c) ∧ RdF w' ao b 0 (one [102] now) ∧ Bx w w' p D' [] ∧ Below W.heap.size W w') := fun W h => by
    rw [← hnN, ← HKl.out]; exact h.after ka kb ko kc ks (HK.out.1.next h.below) HK.out.2 (by rw [hE'.aft, stay_same])
  have hlens := stay_lens ks ⟨now, was.data.toList⟩
  have hone := fun s i => pa_one ks ⟨now, was.data.toList⟩ s i
  have hsz := hE.sz
  simp only at hlens hone
  rw [← hTl, ← hNl, size_list, size_list, size_list] at hlens
  rw [← hTl, ← hNl] at hone
  rw [← hNl, size_list] at hsz
  have hws := HWs.out
  have HP : Hid (∀ s i, i ≤ 64 → 64 * s + i ≤ T.size → pa T.data.toList N.data.toList s i = true ∨ pa T.data.toList was.data.toList s i = true) := fun s i h1 h2 => hone s i h1 (by rw [size_list]; exact h2)
  obtain ⟨ts, hts⟩ : ∃ z, T.size = z := ⟨_, rfl⟩
  obtain ⟨ns, hns⟩ : ∃ z, N.size = z := ⟨_, rfl⟩
  obtain ⟨wz, hwz⟩ : ∃ z, was.size = z := ⟨_, rfl⟩
  rw [hts, hns, hwz] at hlens
  rw [hns] at hsz
  rw [hwz] at hws
  have htb : ts ≤ 10000 := by omega
  clear hE hE' hsy hro hone hN hT hNl hTl hnN hnT hnW
  go_upto_region 12 with (first
    | (go_at_call 21; (with_reducible refine (HFi.out _ b3).mono ?_); rintro e w4 ⟨ao, b, c, rfl, f4, b4, _⟩)
    | (go_at_call 27; (with_reducible refine (HfN.out _ _ _ _ f4).mono ?_); rintro e w5 ⟨rfl, u5⟩; clear f4; have b5 := b4.next u5)
    | (go_at_call 22; (with_reducible refine (HAk.out _ b5).mono ?_); rintro e w6 ⟨ao, b, c, rfl, f6, b6, _⟩)
    | (go_at_call 27; (with_reducible refine (HfT.out _ _ _ _ f6).mono ?_); rintro e w7 ⟨rfl, u7⟩; clear f6; have b7 := b6.next u7)
    | (go_at_call 22; (with_reducible refine (HAt.out _ w7.heap.size (b7.next (bal (Below.refl _ _) _)) (rdl_one (new1 _ _))).mono ?_); rintro e w8 ⟨ao, b, c, rfl, f8, b8, _⟩)
    | (go_at_call 27; (with_reducible refine (HfN.out _ _ _ _ f8).mono ?_); rintro e w9 ⟨rfl, u9⟩; clear f8; have b9 := b8.next u9)
    | (go_at_call 22; (with_reducible refine (HAf.out _ w9.heap.size (b9.next (bal (Below.refl _ _) _)) (rdl_two (new1 _ _))).mono ?_); rintro e w10 ⟨ao, b, c, rfl, f10, b10, _⟩)
    | (go_at_call 27; (with_reducible refine (HfW.out _ _ _ _ f10).mono ?_); rintro e w11 ⟨rfl, u11⟩; clear f10; have b11 := b10.next u11)
    | (go_at_call 22; (with_reducible refine (HAz.out _ b11).mono ?_); rintro e w12 ⟨ao, b, c, rfl, f12, b12, _⟩)
    | (go_at_call 27; (with_reducible refine (HfW.out _ _ _ _ f12).mono ?_); rintro e w13 ⟨rfl, u13⟩; clear f12; have b13 := b12.next u13))
  have HB := hide b13
  clear b3 b4 b5 b6 b7 b8 b9 b10 b11 b12 b13 HFi HAk HAt HAf HAz HfT HfW
  go_cut [112] from 66 to 112 (fun v wx => v = .bool false ∧ wx = w13)
  case first =>
    by_cases hq : ts = ns
    · have hb1 : ((ts : Int) != (ns : Int)) = false := by simp [hq]
      have hq2 : ((ts : Int) = (ns : Int)) := by omega
      clear hlens hq
      go_wp2
      go_meet
      case rel => exact ⟨rfl, rfl⟩
    · have hq' : ts = wz := by omega
      have hq2 : ¬ ((ts : Int) = (ns : Int)) := by omega
      have hq3 : ((ts : Int) = (wz : Int)) := by omega
      clear hlens hq hq'
      go_wp2
      go_meet
      case rel => exact ⟨rfl, rfl⟩
  case rest =>
  obtain ⟨rfl, rfl⟩ := hcut
  clear hlens
  go_wp2
  obtain ⟨M, hM⟩ : ∃ M, (ts + 63) / 64 = M := ⟨_, rfl⟩
  have HM := hide hM
  clear hM
  go_loopg [18] M (fun g x wr => ∃ s : Nat, s ≤ M ∧ g = M - s ∧ x = .int .i64 (s : Int) ∧ Bx w wr p D [])
  case atStart =>
    exact ⟨0, Nat.zero_le _, rfl, rfl, HB.out⟩
  case round =>
    clear HB
    obtain ⟨s, hs, rfl, rfl, bx⟩ := hrel
    have hM := HM.out
    by_cases hlt : 64 * s < ts
    · obtain ⟨q, hq⟩ : ∃ q, 64 * s = q := ⟨_, rfl⟩
      have e1 : IntKind.i64.wrap (64 * (s : Int)) = (q : Int) := by rw [IntKind.wrap_i64]; omega
      have e2 : IntKind.i64.wrap ((q : Int) + 64) = (q : Int) + 64 := by rw [IntKind.wrap_i64]; omega
      have e3 : IntKind.i64.wrap ((s : Int) + 1) = (s : Int) + 1 := by rw [IntKind.wrap_i64]; omega
      have hx1 : (q : Int) < (ts : Int) := by omega
      have HBx := hide bx
      have HQ : Hid (64 * s = q ∧ q < ts ∧ s < M) := ⟨hq, by omega, by omega⟩
      clear bx hM hlt hq
      go_wp2
      generalize wr = wo at *
      clear wr
      go_loopg [19, 20, 21] 64 (fun g xa xb xi wr => ∃ i : Nat, i ≤ 64 ∧ g = 64 - i ∧ xa = .bool (pa T.data.toList N.data.toList s i) ∧ xb = .bool (pa T.data.toList was.data.toList s i) ∧ xi = .int .i64 ((q + i : Nat) : Int) ∧ q + i ≤ ts ∧ Bx w wr p D [])
      case atStart =>
        exact ⟨0, by omega, rfl, rfl, rfl, rfl, by have := HQ.out.2.1; omega, HBx.out⟩
      case round =>
        clear HBx
        obtain ⟨i, hi, rfl, rfl, rfl, rfl, hit, bx⟩ := hrel
        obtain ⟨x, hx⟩ : ∃ x, q + i = x := ⟨_, rfl⟩
        rw [hx]
        by_cases hin : i < 64 ∧ x < ts
        · obtain ⟨hi1, hi2⟩ := hin
          have hy1 : (x : Int) < (q : Int) + 64 := by omega
          have hy2 : (x : Int) < (ts : Int) := by omega
          have hy0 : (0 : Int) ≤ (x : Int) := by omega
          have hpn : pa T.data.toList N.data.toList s (i + 1) = (pa T.data.toList N.data.toList s i && decide (T.data.toList.getD x 0 = N.data.toList.getD x 0)) := by rw [pa, HQ.out.1, hx]
          have hpw : pa T.data.toList was.data.toList s (i + 1) = (pa T.data.toList was.data.toList s i && decide (T.data.toList.getD x 0 = was.data.toList.getD x 0)) := by rw [pa, HQ.out.1, hx]
          have HP2 := hide (And.intro hpn hpw)
          have HAn : Hid (∀ W, Calls Try.prog 28 #[.string N, .int .i64 (x : Int)] W fun e w' => e = .returned (.int .u8 ((N.data.toList.getD x 0).toNat : Int)) ∧ w' = W) := fun W => at_any W N x
          have HAw : Hid (∀ W, Calls Try.prog 28 #[.string was, .int .i64 (x : Int)] W fun e w' => e = .returned (.int .u8 ((was.data.toList.getD x 0).toNat : Int)) ∧ w' = W) := fun W => at_any W was x
          generalize pa T.data.toList N.data.toList s i = A at *
          generalize pa T.data.toList was.data.toList s i = B at *
          generalize N.data.toList.getD x 0 = cn at *
          generalize was.data.toList.getD x 0 = cw at *
          have e4 : IntKind.i64.wrap ((x : Int) + 1) = (x : Int) + 1 := by rw [IntKind.wrap_i64]; omega
          clear hpn hpw
          go_upto_region 21 with (fail)
          go_cut [19] from 122 to 154 (fun v wx => v = .bool (A && decide (T.data.toList.getD x 0 = cn)) ∧ Bx w wx p D [])
          case first =>
            cases A
            · go_quiet (fail)
              go_wp2
              go_meet
              case rel => exact ⟨rfl, bx.next (below_drewN (Below.refl _ _) _)⟩
            · go_region_with (go_at_call 28; (with_reducible refine (HAn.out _).mono ?_); rintro e w6 ⟨rfl, rfl⟩)
              all_goals
                go_wp2
                go_meet
                case rel => exact ⟨congrArg Value.bool (idx_eq T x (by omega) cn), bx.next (bdw _)⟩
          case rest =>
            obtain ⟨rfl, b6⟩ := hcut
            obtain ⟨w6, hw6⟩ : ∃ W, W = wc := ⟨_, rfl⟩
            subst hw6
            clear bx
            go_upto_region 22 with (fail)
            rw [← HP2.out.1]
            cases B
            · have hp2 : pa T.data.toList was.data.toList s (i + 1) = false := HP2.out.2
              have HPW := hide hp2
              clear hp2
              go_quiet (fail)
              go_wp2
              go_roundg (64 - (i + 1))
              case rel =>
                go_light
                exact ⟨i + 1, by omega, rfl, rfl, by rw [HPW.out], by rw [← Nat.add_assoc, hx]; go_num, by omega, b6.next (below_drewN (Below.refl _ _) _)⟩
              case measure => go_light; omega
            · go_region_with (go_at_call 28; (with_reducible refine (HAw.out _).mono ?_); rintro e w7 ⟨rfl, rfl⟩)
              all_goals
                go_wp2
                go_roundg (64 - (i + 1))
                case rel =>
                  go_light
                  exact ⟨i + 1, by omega, rfl, rfl, by rw [HP2.out.2]; exact congrArg Value.bool (idx_eq T x (by omega) cw), by rw [← Nat.add_assoc, hx]; go_num, by omega, b6.next (bdw _)⟩
                case measure => go_light; omega
        · have hor := HP.out s i hi (by have := HQ.out.1; omega)
          have HBy := hide bx
          generalize pa T.data.toList N.data.toList s i = A at *
          generalize pa T.data.toList was.data.toList s i = B at *
          clear bx
          have hsM := HQ.out.2.2
          by_cases hi1 : (x : Int) < (q : Int) + 64
          · have hi2 : ¬ ((x : Int) < (ts : Int)) := by omega
            clear hin
            cases A
            · obtain rfl : B = true := by simpa using hor
              clear hor
              go_wp2
              go_roundg (M - (s + 1))
              case rel =>
                go_light
                exact ⟨s + 1, by omega, rfl, by go_num, HBy.out⟩
              case measure => go_light; omega
            · clear hor
              go_wp2
              go_roundg (M - (s + 1))
              case rel =>
                go_light
                exact ⟨s + 1, by omega, rfl, by go_num, HBy.out⟩
              case measure => go_light; omega
          · clear hin
            cases A
            · obtain rfl : B = true := by simpa using hor
              clear hor
              go_wp2
              go_roundg (M - (s + 1))
              case rel =>
                go_light
                exact ⟨s + 1, by omega, rfl, by go_num, HBy.out⟩
              case measure => go_light; omega
            · clear hor
              go_wp2
              go_roundg (M - (s + 1))
              case rel =>
                go_light
                exact ⟨s + 1, by omega, rfl, by go_num, HBy.out⟩
              case measure => go_light; omega
    · have e1 : IntKind.i64.wrap (64 * (s : Int)) = ((64 * s : Nat) : Int) := by rw [IntKind.wrap_i64]; omega
      have hx1 : ¬ (((64 * s : Nat) : Int) < (ts : Int)) := by omega
      clear hlt hM
      go_wp2_with (first
        | (go_at_call 15; (with_reducible refine (HSy.out _ bx).mono ?_); rintro e w4 ⟨rfl, b4⟩)
        | (go_at_call 22; (with_reducible refine (HAl.out _ b4).mono ?_); rintro e w6 ⟨ao, b, c, rfl, f6, b6, _⟩)
        | (go_at_call 27; (with_reducible refine (HfN.out _ _ _ _ f6).mono ?_); rintro e w7 ⟨rfl, u7⟩; clear f6; have b7 := b6.next u7))
      go_ret
      exact ⟨rfl, b7.below⟩
end Go.Proofs.Ytmhedhhbdpdafaa
