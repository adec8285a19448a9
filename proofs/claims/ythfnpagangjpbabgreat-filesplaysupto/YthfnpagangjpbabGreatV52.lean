/-
  Own work: FGc.
-/
import Derived.Deep.RegionHeld3
import Derived.Test.YthfnpagangjpbabGreatV49
import Derived.Test.YthfnpagangjpbabGreatV51
namespace Go.Proofs.YthfnpagangjpbabGreat
open Go.RowKit
open Rc
attribute [local go_sem ↓] Go.wp_at_zero Go.wp_at_succ
theorem rdS_down {D : DV} (hd : D.down = true) (s : List UInt8) (off n : Int) : rdS D s off n = ([], 170) := by
  unfold rdS rdD
  rw [hd]
  simp
theorem rdD_up {D : DV} (hd : D.down = false) (s : List UInt8) (off n : Int) : (rdD D s off n).2 = 0 ∨ ((rdD D s off n).1 = [] ∧ (rdD D s off n).2 = 173) := by
  unfold rdD
  rw [hd]
  simp only [Bool.false_eq_true, if_false]
  split
  · exact .inr ⟨rfl, rfl⟩
  · exact .inl rfl
section
variable {w : World} {q r k : Nat} {T : Nat → Prop} {V : RV} {S : SV} {D : DV}
set_option maxRecDepth 100000 in
set_option maxHeartbeats 1000000 in
theorem ritem_any (h : RSk w q r T V S) (hb : Bd D V k) (i : Nat) (hi : i < 18446744073709551616) (t : ByteArray) (e : Int) (ht : tx (itmD D S i).1 = t) (he : (itmD D S i).2 = e) :
    Calls Tryz.prog 11 #[.pointer (some ⟨q, 0, none⟩), .int .u64 (i : Int)] w fun e' w' => e' = .returned (.tuple #[.string t, .int .i64 e]) ∧ Below w.heap.size w w' := by
  obtain ⟨T0, hm, _⟩ := h.rdm hb
  have HS := hide (rsize19_any h w (Below.refl _ _))
  have HD := hide (hm.down w (Below.refl _ _))
  obtain ⟨_, _, hf, hg, hend, _⟩ := h.small
  obtain ⟨ao, b, cap, l, ⟨hl, _⟩, hc⟩ := h.seen
  obtain ⟨⟨c0, c1, c2, c3⟩, rd⟩ := hc w (Below.refl _ _)
  have hn := len_ends hl
  unfold itmD at ht he
  by_cases hlt : S.ends.length ≤ i
  · rw [if_pos hlt] at ht he
    subst ht he
    have hd : ((S.ends.length : Int) ≤ (i : Int)) := by omega
    clear h hc hg hend rd hm hl hn HD
    generalize S.ends.length = n at *
    go_enter Tryz.func11, Tryz.ntmps11
    go_wp2_with (go_at_call 9; refine HS.out.mono ?_; rintro e w1 ⟨rfl, rfl⟩)
    go_ret2
    exact ⟨rfl, Below.refl _ _⟩
  · rw [if_neg hlt] at ht he
    have hd : ¬ ((S.ends.length : Int) ≤ (i : Int)) := by omega
    cases hdn : D.down
    · have hii : i < l.length := by omega
      have eE : endE (l.map (·.items)) i = endE S.ends i := by rw [hl]
      have HB := hide (rbegins_any w ao b cap l rd i (by omega) (by omega) _ eE)
      obtain ⟨_, _, k2, _, _⟩ := rd.c0 i hii
      obtain rfl := rd.ptr (by omega)
      have eI : (l.getD i MV.z).items = S.ends.getD i 0 := by
        rw [← hl, List.getD_eq_getElem?_getD, List.getD_eq_getElem?_getD, List.getElem?_map, List.getElem?_eq_getElem hii]; rfl
      rw [eI] at k2
      have hgi := hg i
      have hei := hend i
      have HR : Hid (∀ W, Below w.heap.size w W → Calls Tryz.prog 32 #[.pointer (some ⟨r, 0, none⟩), .string ⟨#[105, 116, 101, 109, 115]⟩, .int .i64 (endE S.ends i : Int), .int .i64 ((S.ends.getD i 0 : Int) - (endE S.ends i : Int))] W fun e w' => e = .returned (.tuple #[.string (tx (rdD D nmI (endE S.ends i : Int) ((S.ends.getD i 0 : Int) - (endE S.ends i : Int))).1), .int .i64 (rdD D nmI (endE S.ends i : Int) ((S.ends.getD i 0 : Int) - (endE S.ends i : Int))).2]) ∧ Below W.heap.size W w') :=
        fun W hW => hm.read ⟨#[105, 116, 101, 109, 115]⟩ _ (by omega) (by omega) _ W hW
      have hz : (rdD D nmI (endE S.ends i : Int) ((S.ends.getD i 0 : Int) - (endE S.ends i : Int))).1.length ≤ 268435456 := Nat.le_trans (rdD_len _ _ _ _) (hm.sz _)
      have hup := rdD_up hdn nmI (endE S.ends i : Int) ((S.ends.getD i 0 : Int) - (endE S.ends i : Int))
      have hwi : IntKind.i64.wrap (i : Int) = (i : Int) := by rw [IntKind.wrap_i64]; omega
      have hwe : IntKind.i64.wrap (endE S.ends i : Int) = (endE S.ends i : Int) := by rw [IntKind.wrap_i64]; omega
      have hws : IntKind.i64.wrap (IntKind.u64.wrap ((S.ends.getD i 0 : Int) - (endE S.ends i : Int))) = (S.ends.getD i 0 : Int) - (endE S.ends i : Int) := by rw [IntKind.wrap_i64]; show ((((S.ends.getD i 0 : Int) - (endE S.ends i : Int)) % 18446744073709551616 + 9223372036854775808) % 18446744073709551616 - 9223372036854775808) = _; omega
      have hii2 : (i : Int) < (l.length : Int) := by omega
      have eR : itmR D S i = rdS D nmI (endE S.ends i : Int) ((S.ends.getD i 0 : Int) - (endE S.ends i : Int)) := rfl
      rw [eR] at ht he
      unfold rdS at ht he
      have CC : Hid (∀ W, Below w.heap.size w W → W.cell? ⟨q, 0, none⟩ = some (.pointer (some ⟨r, 0, none⟩)) ∧ W.cell? ⟨q, 2, none⟩ = some (.slice (some ⟨b, 0, none⟩) l.length cap) ∧ W.cell? ⟨b, i * 5 + 2, none⟩ = some (.int .u64 ((S.ends.getD i 0 : Nat) : Int))) := fun W hW => by
        obtain ⟨⟨y0, _, y2, _⟩, ry⟩ := hc W hW
        have y3 := (ry.c0 i hii).2.2.1
        rw [eI] at y3
        exact ⟨y0, y2, y3⟩
      clear h hc hg hend rd hm eE eI eR hl
      rw [← hn] at hd HS
      clear hn
      rw [hdn] at HD
      generalize S.ends.getD i 0 = a at *
      generalize endE S.ends i = c at *
      generalize rdD D nmI (c : Int) ((a : Int) - (c : Int)) = x at *
      obtain ⟨us, hus⟩ : ∃ u, IntKind.u64.wrap ((a : Int) - (c : Int)) = u := ⟨_, rfl⟩
      rw [hus] at hws
      generalize ((a : Int) - (c : Int)) = df at hws HR
      generalize l.length = n at *
      obtain ⟨xl, xe⟩ := x
      simp only at ht he hup hz HR
      rcases hup with rfl | ⟨rfl, rfl⟩
      · simp only [show ¬ ((0 : Int) = 173) by decide, if_false, ne_eq, not_true_eq_false] at ht he
        have HP : Hid (∀ W rt rn re, rpT xl = (rt, rn, re) → Calls Tryz.prog 33 #[.string (tx xl)] W fun e w' => e = .returned (.tuple #[.string rt, .int .i64 (rn : Int), .int .i64 re]) ∧ Below W.heap.size W w') := fun W rt rn re hh => refrpayload_any W (tx xl) (by rw [tx_size]; omega) rt rn re hh
        have hsz : (tx xl).size = xl.length := tx_size xl
        cases hp : rpay xl with
        | none =>
          rw [show whl xl = false by unfold whl; rw [hp]] at ht he
          simp only [Bool.false_eq_true, if_false] at ht he
          subst ht he
          have HP2 := hide (fun W => HP.out W _ _ _ (rpT_no hp))
          clear HP hp
          go_enter Tryz.func11, Tryz.ntmps11
          go_upto_region 6 with (first
            | (go_at_call 9; (with_reducible refine HS.out.mono ?_); rintro e w1 ⟨rfl, rfl⟩)
            | (go_at_call 30; (with_reducible refine HD.out.mono ?_); rintro e w1 ⟨rfl, rfl⟩)
            | (go_at_call 31; (with_reducible refine HB.out.mono ?_); rintro e w1 ⟨rfl, rfl⟩))
          have u := bdz w1
          go_region_held3 (fun Z => Z.cell? ⟨q, 0, none⟩ = some (.pointer (some ⟨r, 0, none⟩)) ∧ Z.cell? ⟨q, 2, none⟩ = some (.slice (some ⟨b, 0, none⟩) n cap) ∧ Z.cell? ⟨b, i * 5 + 2, none⟩ = some (.int .u64 (a : Int))) (first | assumption | (with_reducible exact CC.out _ (bnext u u2)) | (with_reducible exact CC.out _ u)) (first
            | (go_at_call 32; (with_reducible refine (HR.out _ u).mono ?_); rintro e w2 ⟨rfl, u2⟩))
          all_goals
            go_wp2_with (go_at_call 33; (with_reducible refine (HP2.out _).mono ?_); rintro e w3 ⟨rfl, u3⟩)
            go_ret2
            exact ⟨rfl, bnext (bnext u u2) u3⟩
        | some y =>
          have hwl : whl xl = (y.length + 8 == xl.length) := by unfold whl; rw [hp]
          rw [hwl] at ht he
          have HP2 := hide (fun W => HP.out W _ _ _ (rpT_yes hp))
          clear HP hwl
          by_cases hq : y.length + 8 = xl.length
          · rw [show (y.length + 8 == xl.length) = true by simpa using hq] at ht he
            simp only [if_true, hp, Option.getD_some] at ht he
            subst ht he
            rw [hq] at HP2
            rw [← hsz] at HP2
            clear hp hq hsz hz
            generalize tx xl = z at *
            go_enter Tryz.func11, Tryz.ntmps11
            go_upto_region 6 with (first
              | (go_at_call 9; (with_reducible refine HS.out.mono ?_); rintro e w1 ⟨rfl, rfl⟩)
              | (go_at_call 30; (with_reducible refine HD.out.mono ?_); rintro e w1 ⟨rfl, rfl⟩)
              | (go_at_call 31; (with_reducible refine HB.out.mono ?_); rintro e w1 ⟨rfl, rfl⟩))
            have u := bdz w1
            go_region_held3 (fun Z => Z.cell? ⟨q, 0, none⟩ = some (.pointer (some ⟨r, 0, none⟩)) ∧ Z.cell? ⟨q, 2, none⟩ = some (.slice (some ⟨b, 0, none⟩) n cap) ∧ Z.cell? ⟨b, i * 5 + 2, none⟩ = some (.int .u64 (a : Int))) (first | assumption | (with_reducible exact CC.out _ (bnext u u2)) | (with_reducible exact CC.out _ u)) (first
              | (go_at_call 32; (with_reducible refine (HR.out _ u).mono ?_); rintro e w2 ⟨rfl, u2⟩))
            all_goals
              go_wp2_with (go_at_call 33; (with_reducible refine (HP2.out _).mono ?_); rintro e w3 ⟨rfl, u3⟩)
              go_ret2
              exact ⟨rfl, bnext (bnext u u2) u3⟩
          · rw [show (y.length + 8 == xl.length) = false by simpa using hq] at ht he
            simp only [Bool.false_eq_true, if_false] at ht he
            subst ht he
            have hq2 : ¬ ((y.length + 8 : Nat) : Int) = ((tx xl).size : Int) := by rw [hsz]; omega
            clear hp hq hsz hz
            generalize y.length + 8 = yn at *
            generalize tx xl = z at *
            have hq3 : (((yn : Nat) : Int) == (z.size : Int)) = false := by simpa using hq2
            go_enter Tryz.func11, Tryz.ntmps11
            go_upto_region 6 with (first
              | (go_at_call 9; (with_reducible refine HS.out.mono ?_); rintro e w1 ⟨rfl, rfl⟩)
              | (go_at_call 30; (with_reducible refine HD.out.mono ?_); rintro e w1 ⟨rfl, rfl⟩)
              | (go_at_call 31; (with_reducible refine HB.out.mono ?_); rintro e w1 ⟨rfl, rfl⟩))
            have u := bdz w1
            go_region_held3 (fun Z => Z.cell? ⟨q, 0, none⟩ = some (.pointer (some ⟨r, 0, none⟩)) ∧ Z.cell? ⟨q, 2, none⟩ = some (.slice (some ⟨b, 0, none⟩) n cap) ∧ Z.cell? ⟨b, i * 5 + 2, none⟩ = some (.int .u64 (a : Int))) (first | assumption | (with_reducible exact CC.out _ (bnext u u2)) | (with_reducible exact CC.out _ u)) (first
              | (go_at_call 32; (with_reducible refine (HR.out _ u).mono ?_); rintro e w2 ⟨rfl, u2⟩))
            all_goals
              go_wp2_with (go_at_call 33; (with_reducible refine (HP2.out _).mono ?_); rintro e w3 ⟨rfl, u3⟩)
              go_ret2
              exact ⟨rfl, bnext (bnext u u2) u3⟩
      · simp only [if_true, show ¬ ((190 : Int) = 0) by decide, ne_eq, not_false_eq_true] at ht he
        subst ht he
        go_enter Tryz.func11, Tryz.ntmps11
        go_upto_region 6 with (first
          | (go_at_call 9; (with_reducible refine HS.out.mono ?_); rintro e w1 ⟨rfl, rfl⟩)
          | (go_at_call 30; (with_reducible refine HD.out.mono ?_); rintro e w1 ⟨rfl, rfl⟩)
          | (go_at_call 31; (with_reducible refine HB.out.mono ?_); rintro e w1 ⟨rfl, rfl⟩))
        have u := bdz w1
        go_region_held3 (fun Z => Z.cell? ⟨q, 0, none⟩ = some (.pointer (some ⟨r, 0, none⟩)) ∧ Z.cell? ⟨q, 2, none⟩ = some (.slice (some ⟨b, 0, none⟩) n cap) ∧ Z.cell? ⟨b, i * 5 + 2, none⟩ = some (.int .u64 (a : Int))) (first | assumption | (with_reducible exact CC.out _ (bnext u u2)) | (with_reducible exact CC.out _ u)) (first
          | (go_at_call 32; (with_reducible refine (HR.out _ u).mono ?_); rintro e w2 ⟨rfl, u2⟩))
        all_goals
          go_wp2
          go_ret2
          exact ⟨rfl, bnext u u2⟩
    · have eR : itmR D S i = ([], 170) := rdS_down hdn _ _ _
      rw [eR] at ht he
      simp only [show ¬ ((170 : Int) = 0) by decide, ne_eq, not_false_eq_true, if_true] at ht he
      subst ht he
      rw [hdn] at HD
      clear h hc hg hend rd hm hl eR
      rw [← hn] at hd HS
      clear hn
      generalize l.length = n at *
      go_enter Tryz.func11, Tryz.ntmps11
      go_wp2_with (first
        | (go_at_call 9; (with_reducible refine HS.out.mono ?_); rintro e w1 ⟨rfl, rfl⟩)
        | (go_at_call 30; (with_reducible refine HD.out.mono ?_); rintro e w1 ⟨rfl, rfl⟩))
      go_ret2
      exact ⟨rfl, Below.refl _ _⟩
set_option maxRecDepth 100000 in
set_option maxHeartbeats 1000000 in
theorem rnode19_any (h : RSk w q r T V S) (hb : Bd D V k) (i : Nat) (hi : i < 18446744073709551616) (t : ByteArray) (e : Int) (ht : tx (nodD D S i).1 = t) (he : (nodD D S i).2 = e) :
    Calls Tryz.prog 13 #[.pointer (some ⟨q, 0, none⟩), .int .u64 (i : Int)] w fun e' w' => e' = .returned (.tuple #[.string t, .int .i64 e]) ∧ Below w.heap.size w w' := by
  obtain ⟨T0, hm, _⟩ := h.rdm hb
  have HS := hide (rsize19_any h w (Below.refl _ _))
  have HD := hide (hm.down w (Below.refl _ _))
  obtain ⟨hk1, hk2, hf, _⟩ := h.small
  obtain ⟨ao, b, cap, l, _, hc⟩ := h.seen
  have CK : Hid (∀ W, Below w.heap.size w W → W.cell? ⟨q, 0, none⟩ = some (.pointer (some ⟨r, 0, none⟩)) ∧ W.cell? ⟨q, 1, none⟩ = some (.int .i64 (S.k : Int))) := fun W hW => ⟨(hc W hW).1.1, (hc W hW).1.2.1⟩
  obtain ⟨c0, c1⟩ := CK.out w (Below.refl _ _)
  have HN := hide (rcount_any w S.ends.length (by omega))
  have hnl := nn_le S.ends.length
  unfold nodD at ht he
  by_cases hlt : nn S.ends.length ≤ i
  · rw [if_pos hlt] at ht he
    subst ht he
    have hd : ((nn S.ends.length : Int) ≤ (i : Int)) := by omega
    clear h hc hm HD
    generalize nn S.ends.length = m at *
    generalize S.ends.length = n at *
    go_enter Tryz.func13, Tryz.ntmps13
    go_wp2_with (first
      | (go_at_call 9; (with_reducible refine HS.out.mono ?_); rintro e w1 ⟨rfl, rfl⟩)
      | (go_at_call 36; (with_reducible refine HN.out.mono ?_); rintro e w1 ⟨rfl, rfl⟩))
    go_ret2
    exact ⟨rfl, Below.refl _ _⟩
  · rw [if_neg hlt] at ht he
    have hd : ¬ ((nn S.ends.length : Int) ≤ (i : Int)) := by omega
    cases hdn : D.down
    · rw [hdn] at HD
      have HR : Hid (Calls Tryz.prog 32 #[.pointer (some ⟨r, 0, none⟩), .string ⟨#[110, 111, 100, 101, 115]⟩, .int .i64 ((i * 40 : Nat) : Int), .int .i64 40] w fun e w' => e = .returned (.tuple #[.string (tx (rdD D nmN ((i * 40 : Nat) : Int) 40).1), .int .i64 (rdD D nmN ((i * 40 : Nat) : Int) 40).2]) ∧ Below w.heap.size w w') :=
        hm.read ⟨#[110, 111, 100, 101, 115]⟩ _ (by omega) (by omega) _ w (Below.refl _ _)
      have hup := rdD_up hdn nmN ((i * 40 : Nat) : Int) 40
      have hw1 : IntKind.u64.wrap (40 * (i : Int)) = ((i * 40 : Nat) : Int) := by rw [wrap_u _ (by omega) (by omega)]; omega
      have hw2 : IntKind.i64.wrap ((i * 40 : Nat) : Int) = ((i * 40 : Nat) : Int) := by rw [IntKind.wrap_i64]; omega
      have eR : nodR D i = rdS D nmN ((i * 40 : Nat) : Int) 40 := rfl
      rw [eR] at ht he
      unfold rdS at ht he
      clear h hc hm eR
      generalize rdD D nmN ((i * 40 : Nat) : Int) 40 = x at *
      generalize i * 40 = i4 at *
      obtain ⟨xl, xe⟩ := x
      simp only at ht he hup HR
      generalize nn S.ends.length = m at *
      generalize S.ends.length = n at *
      rcases hup with rfl | ⟨rfl, rfl⟩
      · simp only [show ¬ ((0 : Int) = 173) by decide, if_false, ne_eq, not_true_eq_false] at ht he
        have HP : Hid (∀ W rt re, rnT (S.k : Int) i xl = (rt, re) → Calls Tryz.prog 37 #[.int .i64 (S.k : Int), .int .u64 (i : Int), .string (tx xl)] W fun e w' => e = .returned (.tuple #[.string rt, .int .i64 re]) ∧ Below W.heap.size W w') := fun W rt re hh => refrnode_any W (S.k : Int) i hi (tx xl) rt re hh
        cases hp : rnod S.k i xl with
        | none =>
          rw [hp] at ht he
          subst ht he
          have HP2 := hide (fun W => HP.out W _ _ (rnT_no (by omega) (by simpa using hp)))
          clear HP hp
          generalize S.k = kk at *
          generalize tx xl = z at *
          go_enter Tryz.func13, Tryz.ntmps13
          go_wp2_with (first
            | (go_at_call 9; (with_reducible refine HS.out.mono ?_); rintro e w1 ⟨rfl, rfl⟩)
            | (go_at_call 36; (with_reducible refine HN.out.mono ?_); rintro e w1 ⟨rfl, rfl⟩)
            | (go_at_call 30; (with_reducible refine HD.out.mono ?_); rintro e w1 ⟨rfl, rfl⟩)
            | (go_at_call 32; (with_reducible refine HR.out.mono ?_); rintro e w2 ⟨rfl, u2⟩; have ⟨x0, x1⟩ := CK.out _ u2)
            | (go_at_call 37; (with_reducible refine (HP2.out _).mono ?_); rintro e w3 ⟨rfl, u3⟩))
          go_ret2
          exact ⟨rfl, bnext u2 u3⟩
        | some y =>
          rw [hp] at ht he
          subst ht he
          have HP2 := hide (fun W => HP.out W _ _ (rnT_yes (by omega) (by simpa using hp)))
          clear HP hp
          generalize S.k = kk at *
          generalize tx xl = z at *
          go_enter Tryz.func13, Tryz.ntmps13
          go_wp2_with (first
            | (go_at_call 9; (with_reducible refine HS.out.mono ?_); rintro e w1 ⟨rfl, rfl⟩)
            | (go_at_call 36; (with_reducible refine HN.out.mono ?_); rintro e w1 ⟨rfl, rfl⟩)
            | (go_at_call 30; (with_reducible refine HD.out.mono ?_); rintro e w1 ⟨rfl, rfl⟩)
            | (go_at_call 32; (with_reducible refine HR.out.mono ?_); rintro e w2 ⟨rfl, u2⟩; have ⟨x0, x1⟩ := CK.out _ u2)
            | (go_at_call 37; (with_reducible refine (HP2.out _).mono ?_); rintro e w3 ⟨rfl, u3⟩))
          go_ret2
          exact ⟨rfl, bnext u2 u3⟩
      · simp only [if_true, show ¬ ((190 : Int) = 0) by decide, ne_eq, not_false_eq_true] at ht he
        subst ht he
        go_enter Tryz.func13, Tryz.ntmps13
        go_wp2_with (first
          | (go_at_call 9; (with_reducible refine HS.out.mono ?_); rintro e w1 ⟨rfl, rfl⟩)
          | (go_at_call 36; (with_reducible refine HN.out.mono ?_); rintro e w1 ⟨rfl, rfl⟩)
          | (go_at_call 30; (with_reducible refine HD.out.mono ?_); rintro e w1 ⟨rfl, rfl⟩)
          | (go_at_call 32; (with_reducible refine HR.out.mono ?_); rintro e w2 ⟨rfl, u2⟩))
        go_ret2
        exact ⟨rfl, u2⟩
    · have eR : nodR D i = ([], 170) := rdS_down hdn _ _ _
      rw [eR] at ht he
      simp only [show ¬ ((170 : Int) = 0) by decide, ne_eq, not_false_eq_true, if_true] at ht he
      subst ht he
      rw [hdn] at HD
      clear h hc hm eR
      generalize nn S.ends.length = m at *
      generalize S.ends.length = n at *
      go_enter Tryz.func13, Tryz.ntmps13
      go_wp2_with (first
        | (go_at_call 9; (with_reducible refine HS.out.mono ?_); rintro e w1 ⟨rfl, rfl⟩)
        | (go_at_call 36; (with_reducible refine HN.out.mono ?_); rintro e w1 ⟨rfl, rfl⟩)
        | (go_at_call 30; (with_reducible refine HD.out.mono ?_); rintro e w1 ⟨rfl, rfl⟩))
      go_ret2
      exact ⟨rfl, Below.refl _ _⟩
end
end Go.Proofs.YthfnpagangjpbabGreat
