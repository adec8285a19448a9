/-
  Walks of package cover: eachOfRest, Rest, Count. Own work.
-/
import Derived.Test.YtelglfmppmdmoaaCvWalkD
namespace Go.Proofs.Ytelglfmppmdmoaa.Cv
open Pl
open Go.RowKit
attribute [local go_sem ↓] Go.wp_at_zero Go.wp_at_succ
theorem drop_get (l : List Nat) (j : Nat) (h : j < l.length) : l.drop j = l.getD j 0 :: l.drop (j + 1) := by
  rw [List.drop_eq_getElem_cons h, List.getD_eq_getElem?_getD, List.getElem?_eq_getElem h]; rfl
set_option maxHeartbeats 1000000 in
theorem eachrest_any {k B0 M : Nat} (hk : k = 71 ∨ k = 45 ∨ k = 44) {I : (Nat → Prop) → List (Nat × Nat) → World → Prop} (G : Give k B0 M I) (hM : M ≤ 4611686018427387904) (X : Nat → Prop) (acc : List (Nat × Nat)) (n : Nat) (w : World)
    (ao : Option Addr) (b off m cap : Nat) (l : List Nat) (hI : I X acc w) (hX : ∀ x, X x → x < w.heap.size) (hl : acc.length + 100 * (m + 1) + 1000 < M) (r : Rd w ao b off m l) (hb : 0 < m → b < B0) (hc : Chain 0 l n) (hn : n ≤ 2 ^ 40) :
    Calls Try.prog 43 #[.int .u64 (n : Int), .slice ao m cap, gv k B0] w fun e w' => e = .returned (.tuple #[]) ∧ I X (acc ++ rst 0 n l) w' ∧ Below B0 w w' ∧ ∀ x, X x → w'.heap[x]? = w.heap[x]? := by
  have HS : Hid (I X acc w ∧ (∀ x, X x → x < w.heap.size) ∧ acc.length + 100 * (m + 1) + 1000 < M ∧ Rd w ao b off m l ∧ (0 < m → b < B0) ∧ Chain 0 l n ∧ n ≤ 2 ^ 40) := ⟨hI, hX, hl, r, hb, hc, hn⟩
  have HM : Hid (M ≤ 4611686018427387904) := hM
  clear hI hX hl r hb hc hn hM
  go_enter Try.func43, Try.ntmps43
  go_wp2
  go_loopg [6, 8, 11] m (fun g nx i8 ix wr => ∃ (j next : Nat) (acc' : List (Nat × Nat)), j ≤ m ∧ g = m - j ∧ ix = .int .i64 (j : Int) ∧ nx = .int .u64 (next : Int) ∧ I X acc' wr ∧ acc' ++ rst next n (l.drop j) = acc ++ rst 0 n l ∧ Chain next (l.drop j) n ∧ Below B0 w wr ∧ (∀ x, X x → wr.heap[x]? = w.heap[x]?) ∧ acc'.length ≤ acc.length + 80 * j)
  case atStart =>
    go_light
    exact ⟨0, 0, acc, Nat.zero_le _, rfl, rfl, rfl, HS.out.1, rfl, HS.out.2.2.2.2.2.1, Below.refl _ _, fun _ _ => rfl, Nat.le_refl _⟩
  case round =>
    obtain ⟨j, next, acc', hj, rfl, rfl, rfl, hI', hacc, hch, hbl, hkp, hlen⟩ := hrel
    obtain ⟨s1, s2, s3, s4, s5, s6, s7⟩ := HS.out
    have hM9 := HM.out
    have hj0 : (0 : Int) ≤ (j : Int) := Int.natCast_nonneg _
    have hm9 : (j : Int) ≤ 4611686018427387904 := by omega
    clear hM9
    by_cases hlt : j < m
    · have hlt' : (j : Int) < (m : Int) := by omega
      have r' := s4.at hbl s5
      obtain rfl := r'.addr (by omega)
      have cj := r'.cell j hlt
      have hd := drop_get l j (by have := s4.len; omega)
      obtain ⟨x, hx⟩ : ∃ x, l.getD j 0 = x := ⟨_, rfl⟩
      rw [hx] at cj hd
      rw [hd] at hacc hch
      obtain ⟨hnx, hch2⟩ := hch
      have hxn := chain_le hch2
      have HE := each_any hk G X acc' next x wr hI' (fun y hy => Nat.lt_of_lt_of_le (s2 y hy) hbl.size) (by omega) hnx (by omega)
      have ex : IntKind.u64.wrap ((x : Int) + 1) = (x : Int) + 1 := by rw [IntKind.wrap_u64]; omega
      have HX : Hid (acc' ++ cov next x ++ rst (x + 1) n (l.drop (j + 1)) = acc ++ rst 0 n l ∧ Chain (x + 1) (l.drop (j + 1)) n ∧ Below B0 w wr ∧ (∀ y, X y → wr.heap[y]? = w.heap[y]?) ∧ (acc' ++ cov next x).length ≤ acc.length + 80 * (j + 1) ∧ j + 1 ≤ m) := by
        refine ⟨by rw [List.append_assoc]; exact hacc, hch2, hbl, hkp, ?_, hlt⟩
        have := cov_len next x hnx (by omega)
        simp; omega
      clear hacc hch2 hbl hkp hlen hlt r' hd hx hnx hxn s1 s2 s3 s4 s5 s6 s7 hI' hj
      go_wp2_with (go_at_call 63; with_reducible refine HE.mono ?_; rintro e w1 ⟨rfl, hI1, hb1, hk1⟩)
      go_roundg (m - (j + 1))
      case rel =>
        go_light
        obtain ⟨x1, x2, x3, x4, x5, x6⟩ := HX.out
        refine ⟨j + 1, x + 1, _, x6, rfl, by go_num, by go_num, hI1, x1, x2, x3.trans hb1, fun y hy => (hk1 y hy).trans (x4 y hy), x5⟩
      case measure => go_light; have := HX.out.2.2.2.2.2; omega
    · obtain rfl : j = m := by omega
      have hlt' : ¬ (j : Int) < (j : Int) := by omega
      have hdn : l.drop j = [] := List.drop_eq_nil_iff.2 (by have := s4.len; omega)
      rw [hdn] at hacc hch
      have HE := each_any hk G X acc' next n wr hI' (fun y hy => Nat.lt_of_lt_of_le (s2 y hy) hbl.size) (by omega) hch s7
      have HX : Hid (acc' ++ cov next n = acc ++ rst 0 n l ∧ Below B0 w wr ∧ (∀ y, X y → wr.heap[y]? = w.heap[y]?)) := ⟨hacc, hbl, hkp⟩
      clear hacc hbl hkp hlen hlt hdn s1 s2 s3 s4 s5 s6 s7 hI' hj hch
      go_wp2_with (go_at_call 63; with_reducible refine HE.mono ?_; rintro e w1 ⟨rfl, hI1, hb1, hk1⟩)
      go_end0
      obtain ⟨x1, x2, x3⟩ := HX.out
      rw [x1] at hI1
      exact ⟨rfl, hI1, x2.trans hb1, fun y hy => (hk1 y hy).trans (x3 y hy)⟩
theorem rest_err (n e : Nat) (w : World) (ao : Option Addr) (b off m cap : Nat) (l : List Nat) (r : Rd w ao b off m l) (hm : m ≤ maxLen) (he : errS n l = e) (h0 : e ≠ 0) :
    Calls Try.prog 23 #[.int .u64 (n : Int), .slice ao m cap] w fun x w' => ∃ v, x = .returned (.tuple #[v, .int .i64 (e : Int)]) ∧ OwnB w' w.heap.size v [] ∧ Below w.heap.size w w' := by
  have HC := check_any n w ao b off m cap l r hm
  rw [he] at HC
  have h0' : ¬ (e : Int) = 0 := by omega
  clear he r hm
  go_enter Try.func23, Try.ntmps23
  go_wp2_with (go_at_call 42; with_reducible refine HC.mono ?_; rintro x w1 ⟨rfl, hb⟩)
  go_ret2
  exact ⟨_, rfl, World.ownsRow_nil _ _ _ _, hb⟩
theorem rest_ok (n : Nat) (w : World) (ao : Option Addr) (b off m cap : Nat) (l : List Nat) (r : Rd w ao b off m l) (hm : m ≤ 5000) (he : errS n l = 0) :
    Calls Try.prog 23 #[.int .u64 (n : Int), .slice ao m cap] w fun x w' => ∃ v, x = .returned (.tuple #[v, .int .i64 0]) ∧ OwnB w' w.heap.size v (zl (rst 0 n l)) ∧ Below w.heap.size w w' := by
  have HC := check_any n w ao b off m cap l r (by unfold maxLen; omega)
  obtain ⟨g1, g2, g3, g4⟩ := errS_ok he
  rw [he] at HC
  have HE : ∀ w1, Below w.heap.size w w1 → _ := fun w1 hb1 => eachrest_any (.inr (.inl rfl)) (give_rest w1.heap.size) (by decide) (fun _ => False) [] n (w1.alloc (.cells #[.slice none 0 0] 47)) ao b off m cap l (ia_new w1) (fun _ h => h.elim) (by simp; omega) ((r.below hb1).below ((Below.refl _ w1).alloc (Nat.le_refl _) _)) (fun h => Nat.lt_of_lt_of_le (r.lt h) hb1.size) g4 g1
  clear he r hm g1 g2 g3 g4
  go_enter Try.func23, Try.ntmps23
  go_upto_region 6 with (first
    | (go_at_call 42; with_reducible refine HC.mono ?_; rintro x w1 ⟨rfl, hb⟩; replace HE := HE w1 hb)
    | (go_at_call 43; with_reducible refine HE.mono ?_; rintro x w2 ⟨rfl, hI, hb2, _⟩))
  obtain ⟨⟨v, h1, h2, _⟩, _⟩ := hI
  have c0 := cell_of_one h1
  obtain ⟨ao, m, c, rfl⟩ := own_slice h2
  have HF : Hid (OwnB w2 w.heap.size (.slice ao m c) (zl (rst 0 n l)) ∧ Below w.heap.size w w2) := ⟨by
    have := h2.mono (base' := w.heap.size) (by have := hb.size; omega)
    simpa using this, hb.trans ((((Below.refl _ w1).alloc (Nat.le_refl _) _).trans hb2).mono hb.size)⟩
  clear h1 h2 hb2 HE hb
  go_wp2
  go_ret2
  exact ⟨_, rfl, HF.out.1, HF.out.2⟩
theorem rest_any (n : Nat) (w : World) (ao : Option Addr) (b off m cap : Nat) (l : List Nat) (r : Rd w ao b off m l) (hm : m ≤ 5000) :
    Calls Try.prog 23 #[.int .u64 (n : Int), .slice ao m cap] w fun x w' => ∃ v, x = .returned (.tuple #[v, .int .i64 (errS n l : Nat)]) ∧ OwnB w' w.heap.size v (zl (rstS n l)) ∧ Below w.heap.size w w' := by
  by_cases h : errS n l = 0
  · rw [rstS, if_pos h, h]; exact rest_ok n w ao b off m cap l r hm h
  · rw [rstS, if_neg h]; exact rest_err n _ w ao b off m cap l r (by unfold maxLen; omega) rfl h
theorem ic_new (w : World) : IC w.heap.size (fun _ => False) [] (w.alloc (.cells #[.int .u64 0] 22)) := ⟨heap_new _ _, fun h => h⟩
theorem count_err (n e : Nat) (w : World) (ao : Option Addr) (b off m cap : Nat) (l : List Nat) (r : Rd w ao b off m l) (hm : m ≤ maxLen) (he : errS n l = e) (h0 : e ≠ 0) :
    Calls Try.prog 22 #[.int .u64 (n : Int), .slice ao m cap] w fun x w' => x = .returned (.tuple #[.int .u64 0, .int .i64 (e : Int)]) ∧ Below w.heap.size w w' := by
  have HC := check_any n w ao b off m cap l r hm
  rw [he] at HC
  have h0' : ¬ (e : Int) = 0 := by omega
  clear he r hm
  go_enter Try.func22, Try.ntmps22
  go_wp2_with (go_at_call 42; with_reducible refine HC.mono ?_; rintro x w1 ⟨rfl, hb⟩)
  go_ret2
  exact ⟨rfl, hb⟩
theorem count_ok (n : Nat) (w : World) (ao : Option Addr) (b off m cap : Nat) (l : List Nat) (r : Rd w ao b off m l) (hm : m ≤ 17592186044416) (he : errS n l = 0) :
    Calls Try.prog 22 #[.int .u64 (n : Int), .slice ao m cap] w fun x w' => x = .returned (.tuple #[.int .u64 ((rst 0 n l).length : Nat), .int .i64 0]) ∧ Below w.heap.size w w' := by
  have HC := check_any n w ao b off m cap l r (by unfold maxLen; omega)
  obtain ⟨g1, g2, g3, g4⟩ := errS_ok he
  rw [he] at HC
  have HE : ∀ w1, Below w.heap.size w w1 → _ := fun w1 hb1 => eachrest_any (.inr (.inr rfl)) (give_count w1.heap.size) (by decide) (fun _ => False) [] n (w1.alloc (.cells #[.int .u64 0] 22)) ao b off m cap l (ic_new w1) (fun _ h => h.elim) (by simp; omega) ((r.below hb1).below ((Below.refl _ w1).alloc (Nat.le_refl _) _)) (fun h => Nat.lt_of_lt_of_le (r.lt h) hb1.size) g4 g1
  clear he r hm g1 g2 g3 g4
  go_enter Try.func22, Try.ntmps22
  go_upto_region 6 with (first
    | (go_at_call 42; with_reducible refine HC.mono ?_; rintro x w1 ⟨rfl, hb⟩; replace HE := HE w1 hb)
    | (go_at_call 43; with_reducible refine HE.mono ?_; rintro x w2 ⟨rfl, hI, hb2, _⟩))
  have h1 := hI.at0
  rw [List.nil_append] at h1
  have c0 := cell_of_one h1
  have HF : Hid (Below w.heap.size w w2) := hb.trans ((((Below.refl _ w1).alloc (Nat.le_refl _) _).trans hb2).mono hb.size)
  clear h1 hI hb2 HE hb
  go_wp2
  go_ret2
  exact ⟨rfl, HF.out⟩
theorem count_any (n : Nat) (w : World) (ao : Option Addr) (b off m cap : Nat) (l : List Nat) (r : Rd w ao b off m l) (hm : m ≤ 17592186044416) :
    Calls Try.prog 22 #[.int .u64 (n : Int), .slice ao m cap] w fun x w' => x = .returned (.tuple #[.int .u64 ((rstS n l).length : Nat), .int .i64 (errS n l : Nat)]) ∧ Below w.heap.size w w' := by
  by_cases h : errS n l = 0
  · rw [rstS, if_pos h, h]; exact count_ok n w ao b off m cap l r hm h
  · rw [rstS, if_neg h]; exact count_err n _ w ao b off m cap l r (by unfold maxLen; omega) rfl h
end Go.Proofs.Ytelglfmppmdmoaa.Cv
