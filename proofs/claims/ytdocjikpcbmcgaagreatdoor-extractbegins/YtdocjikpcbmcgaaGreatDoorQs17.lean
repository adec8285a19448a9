/-
  Own work: CoPath, CoNum, WWalkA, WWalkB, WWalkC, DWalkA.
-/
import Derived.Test.YtdocjikpcbmcgaaGreatDoorProg
import Derived.Deep.MidRow
import Derived.Below
import Derived.WalkKit
import Derived.WalkSpells
import Derived.Outline
import Derived.KernelRfl
import Derived.Deep.LoopGhost
import Derived.Deep.RegionHeld3
import Derived.Deep.RegionWith
import Derived.Deep.DrawnRows
import Derived.Deep.Light
import Derived.Laws.BitsAllLaws
import Derived.BigQuiet
import Derived.WalkLawsBesides
import Derived.Deep.Onto
import Derived.ArgAppend
import Derived.Laws.AppendOwnNone
import Derived.Laws.IdiomStrings
import Derived.Handy
import Derived.Test.YtdocjikpcbmcgaaGreatDoorQs16
namespace Go.Proofs.YtdocjikpcbmcgaaGreatDoor
open Cv (rst cov Chain dnL tno inb)
open Pl (pw)
theorem xor_odd (m : Nat) : (2 * m + 1) ^^^ (2 * m) = 1 := by
  have h1 : ((2 * m + 1) ^^^ (2 * m)) / 2 = 0 := by
    have e : ((2 * m + 1) ^^^ (2 * m)) >>> 1 = ((2 * m + 1) >>> 1) ^^^ ((2 * m) >>> 1) := Nat.shiftRight_xor_distrib
    rw [Nat.shiftRight_eq_div_pow, Nat.shiftRight_eq_div_pow, Nat.shiftRight_eq_div_pow, show (2 * m + 1) / 2 ^ 1 = m by omega, show 2 * m / 2 ^ 1 = m by omega, Nat.xor_self] at e
    simpa using e
  have h2 : ((2 * m + 1) ^^^ (2 * m)) % 2 = 1 := by
    have e : ((2 * m + 1) ^^^ (2 * m)) % 2 ^ 1 = ((2 * m + 1) % 2 ^ 1) ^^^ ((2 * m) % 2 ^ 1) := Nat.xor_mod_two_pow
    rw [show (2 * m + 1) % 2 ^ 1 = 1 by omega, show 2 * m % 2 ^ 1 = 0 by omega] at e
    exact e
  omega
theorem xor_high {n i H q : Nat} (hq : q % 2 = 0) (h1 : n / 2 ^ H = q + 1) (h2 : i / 2 ^ H = q) : 2 ^ H ≤ n ^^^ i ∧ n ^^^ i < 2 ^ (H + 1) := by
  have e : (n ^^^ i) / 2 ^ H = 1 := by
    have e : (n ^^^ i) >>> H = (n >>> H) ^^^ (i >>> H) := Nat.shiftRight_xor_distrib
    rw [Nat.shiftRight_eq_div_pow, Nat.shiftRight_eq_div_pow, Nat.shiftRight_eq_div_pow, h1, h2] at e
    obtain ⟨m, rfl⟩ : ∃ m, q = 2 * m := ⟨q / 2, by omega⟩
    rw [e, xor_odd]
  have hp : 0 < 2 ^ H := Nat.two_pow_pos H
  constructor
  · have := Nat.div_mul_le_self (n ^^^ i) (2 ^ H)
    rw [e] at this
    omega
  · have := Nat.lt_mul_of_div_lt (show (n ^^^ i) / 2 ^ H < 2 by omega) hp
    rw [Nat.pow_succ]
    omega
theorem tno_in (i : Nat) : ∀ H K, K * pw H ≤ i → i < (K + 1) * pw H → (tno H K [i]).length = H := by
  intro H
  induction H with
  | zero =>
    intro K h1 h2
    have hb : inb 0 K i = true := Cv.inb_iff.2 ⟨h1, h2⟩
    rw [tno, List.filter_cons_of_pos hb]
    simp
  | succ H ih =>
    intro K h1 h2
    have hb : inb (H + 1) K i = true := Cv.inb_iff.2 ⟨h1, h2⟩
    have e1 := Cv.half_lo H K
    have e2 := Cv.half_mid H K
    have e3 := Cv.half_hi H K
    have e4 := Cv.blk_len H K
    rw [tno, List.filter_cons_of_pos hb, List.filter_nil, if_neg (by simp), List.length_append]
    have out : ∀ K', ¬ (K' * pw H ≤ i ∧ i < (K' + 1) * pw H) → (tno H K' [i]).length = 1 := fun K' h => by
      have hb : ¬ inb H K' i = true := fun e => h (Cv.inb_iff.1 e)
      exact (Cv.tno_count H K' [i]).1 (by rw [List.filter_cons_of_neg hb]; rfl)
    by_cases hm : i < K * pw (H + 1) + pw H
    · rw [ih (2 * K) (by omega) (by rw [e2]; exact hm), out (2 * K + 1) (by omega)]
    · rw [out (2 * K) (by omega), ih (2 * K + 1) (by omega) (by omega)]
      omega
theorem tno_out {i H K : Nat} (h : ¬ (K * pw H ≤ i ∧ i < (K + 1) * pw H)) : (tno H K [i]).length = 1 := by
  have hb : ¬ inb H K i = true := fun e => h (Cv.inb_iff.1 e)
  exact (Cv.tno_count H K [i]).1 (by rw [List.filter_cons_of_neg hb]; rfl)
theorem dn_after (n i : Nat) : ∀ h lo, (∃ c, lo = c * pw h) → i < lo → ((dnL h lo n).flatMap fun b => tno b.1 b.2 [i]).length = (dnL h lo n).length := by
  intro h
  induction h with
  | zero => intro lo _ _; rfl
  | succ h ih =>
    intro lo hc hi
    obtain ⟨c, rfl⟩ := hc
    have e := Cv.mul_half c h
    rw [dnL]
    split
    · rw [List.flatMap_cons, List.length_append, List.length_cons, ih _ ⟨2 * c + 1, by rw [Nat.add_mul, Nat.one_mul, e]⟩ (by omega), tno_out (by
        intro hx
        dsimp only at hx
        rw [e, Nat.mul_div_cancel _ (Pl.pw_pos h)] at hx
        omega)]
      omega
    · exact ih _ ⟨2 * c, e⟩ hi
theorem path_sum (n i : Nat) (hin : i < n) : ∀ h lo, (∃ c, lo = c * pw h) → lo ≤ i → n - lo < pw h →
    ∃ H, ((dnL h lo n).flatMap fun b => tno b.1 b.2 [i]).length + 1 = H + (dnL h lo n).length ∧ 2 ^ H ≤ n ^^^ i ∧ n ^^^ i < 2 ^ (H + 1) ∧ H < h := by
  intro h
  induction h with
  | zero => intro lo _ h1 h2; have : pw 0 = 1 := rfl; omega
  | succ h ih =>
    intro lo hc h1 h2
    obtain ⟨c, rfl⟩ := hc
    have e := Cv.mul_half c h
    have hp := Pl.pw_pos h
    have hs := Pl.pw_succ h
    rw [dnL]
    split
    · rename_i hfit
      have hq : c * pw (h + 1) / pw h = 2 * c := by rw [e, Nat.mul_div_cancel _ hp]
      rw [List.flatMap_cons, List.length_append, List.length_cons, hq]
      by_cases hm : i < c * pw (h + 1) + pw h
      · refine ⟨h, ?_, ?_⟩
        · rw [tno_in i h (2 * c) (by omega) (by rw [Nat.add_mul, Nat.one_mul]; omega), dn_after n i h _ ⟨2 * c + 1, by rw [Nat.add_mul, Nat.one_mul, e]⟩ hm]
          omega
        · have a1 : n / 2 ^ h = 2 * c + 1 := by
            have : n / pw h = 2 * c + 1 := by
              apply Nat.div_eq_of_lt_le
              · rw [Nat.add_mul, Nat.one_mul]; omega
              · rw [Nat.add_mul, Nat.add_mul, Nat.one_mul]; omega
            exact this
          have a2 : i / 2 ^ h = 2 * c := by
            have : i / pw h = 2 * c := by
              apply Nat.div_eq_of_lt_le
              · omega
              · rw [Nat.add_mul, Nat.one_mul]; omega
            exact this
          obtain ⟨b1, b2⟩ := xor_high (q := 2 * c) (by omega) a1 a2
          exact ⟨b1, b2, by omega⟩
      · obtain ⟨H, g1, g2, g3, g4⟩ := ih (c * pw (h + 1) + pw h) ⟨2 * c + 1, by rw [Nat.add_mul, Nat.one_mul, e]⟩ (by omega) (by omega)
        refine ⟨H, ?_, g2, g3, by omega⟩
        rw [tno_out (by intro hx; dsimp only at hx; rw [Nat.add_mul, Nat.one_mul, ← e] at hx; omega)]
        omega
    · rename_i hfit
      obtain ⟨H, g1, g2, g3, g4⟩ := ih (c * pw (h + 1)) ⟨2 * c, e⟩ h1 (by omega)
      exact ⟨H, g1, g2, g3, by omega⟩
theorem path_cnt {n i : Nat} (hn : n ≤ 2 ^ 40) (hin : i < n) : ∃ H, (rst 0 n [i]).length + 1 = H + Pl.ones 64 n ∧ 2 ^ H ≤ n ^^^ i ∧ n ^^^ i < 2 ^ (H + 1) ∧ H ≤ 40 := by
  have hp : n < pw 41 := by
    have : pw 41 = 2 * 2 ^ 40 := rfl
    omega
  obtain ⟨H, g1, g2, g3, g4⟩ := path_sum n i hin 41 0 ⟨0, by simp⟩ (Nat.zero_le _) (by simpa using hp)
  have hc : Chain 0 [i] n := ⟨Nat.zero_le _, hin⟩
  refine ⟨H, ?_, g2, g3, by omega⟩
  rw [Cv.rest_ref n [i] hn hc, g1, ← Cv.cov_zero n hn, Cv.cov_ones n hn]
end Go.Proofs.YtdocjikpcbmcgaaGreatDoor
namespace Go.Proofs.YtdocjikpcbmcgaaGreatDoor
open Go.RowKit
open Pl (isOne_any pw)
attribute [local go_sem ↓] Go.wp_at_zero Go.wp_at_succ
theorem mod_step (n k : Nat) : n % 2 ^ (k + 1) = n % 2 ^ k + 2 ^ k * (n / 2 ^ k % 2) := by rw [Nat.pow_succ, Nat.mod_mul]
theorem log_any (n : Nat) (w : World) (hn : n < 2 ^ 64) :
    Calls Tryz.prog 179 #[.int .u64 (n : Int)] w fun e w' => ∃ c : Nat, e = .returned (.int .i64 ((c : Int) - 1)) ∧ n < 2 ^ c ∧ c ≤ 64 ∧ (0 < c → 2 ^ (c - 1) ≤ n) ∧ w = w' := by
  go_enter Tryz.func179, Tryz.ntmps179
  go_wp2
  go_loopg [3, 4, 5] 64 (fun g r i4 i wr => ∃ k c : Nat, k ≤ 64 ∧ g = 64 - k ∧ i = .int .i64 (k : Int) ∧ r = .int .i64 ((c : Int) - 1) ∧ c ≤ k ∧ n % 2 ^ k < 2 ^ c ∧ (0 < c → 2 ^ (c - 1) ≤ n % 2 ^ k) ∧ w = wr)
  case atStart =>
    go_light
    exact ⟨0, 0, Nat.zero_le _, rfl, rfl, rfl, Nat.zero_le _, by simp [Nat.mod_one], fun h => absurd h (Nat.lt_irrefl 0), rfl⟩
  case round =>
    obtain ⟨k, c, hk, rfl, rfl, rfl, hc, hs, hs2, rfl⟩ := hrel
    have hk0 : (0 : Int) ≤ (k : Int) := Int.natCast_nonneg _
    by_cases hlt : k < 64
    · have hk8 : (k : Int) < 64 := by omega
      have HM := mod_step n k
      have HC := isOne_any n k w hn hlt
      have hlt2 : n % 2 ^ k < 2 ^ k := Nat.mod_lt _ (Nat.two_pow_pos k)
      by_cases hb : n / 2 ^ k % 2 = 1
      · rw [decide_eq_true hb] at HC
        rw [hb, Nat.mul_one] at HM
        have HX : Hid (n % 2 ^ (k + 1) < 2 ^ (k + 1) ∧ 2 ^ k ≤ n % 2 ^ (k + 1)) := ⟨Nat.mod_lt _ (Nat.two_pow_pos _), by omega⟩
        clear hs hs2 hc HM hlt2
        go_wp2_with (go_at_call 130; refine HC.mono ?_; rintro e w' ⟨rfl, rfl⟩)
        go_roundg (64 - (k + 1))
        case rel =>
          go_light
          exact ⟨k + 1, k + 1, by omega, rfl, by go_num, by congr 1; omega, Nat.le_refl _, HX.out.1, fun _ => HX.out.2, rfl⟩
        case measure => go_light; omega
      · rw [decide_eq_false hb] at HC
        have hb0 : n / 2 ^ k % 2 = 0 := by omega
        rw [hb0, Nat.mul_zero, Nat.add_zero] at HM
        have HX : Hid (n % 2 ^ (k + 1) < 2 ^ c ∧ c ≤ k + 1 ∧ (0 < c → 2 ^ (c - 1) ≤ n % 2 ^ (k + 1))) := ⟨by rw [HM]; exact hs, by omega, by rw [HM]; exact hs2⟩
        clear hs hs2 hc HM hlt2
        go_wp2_with (go_at_call 130; refine HC.mono ?_; rintro e w' ⟨rfl, rfl⟩)
        go_roundg (64 - (k + 1))
        case rel =>
          go_light
          exact ⟨k + 1, c, by omega, rfl, by go_num, rfl, HX.out.2.1, HX.out.1, HX.out.2.2, rfl⟩
        case measure => go_light; omega
    · obtain rfl : k = 64 := by omega
      have HX : Hid (n < 2 ^ c ∧ c ≤ 64 ∧ (0 < c → 2 ^ (c - 1) ≤ n)) := by
        rw [Nat.mod_eq_of_lt hn] at hs hs2
        exact ⟨hs, hc, hs2⟩
      clear hs hs2 hc hlt
      go_wp2
      go_ret
      exact ⟨c, rfl, HX.out.1, HX.out.2.1, HX.out.2.2, rfl⟩
theorem log_at (n H : Nat) (w : World) (hn : n < 2 ^ 64) (h1 : 2 ^ H ≤ n) (h2 : n < 2 ^ (H + 1)) :
    Calls Tryz.prog 179 #[.int .u64 (n : Int)] w fun e w' => e = .returned (.int .i64 (H : Int)) ∧ w' = w := by
  refine (log_any n w hn).mono ?_
  rintro e w' ⟨c, rfl, g1, g2, g3, rfl⟩
  have hc : c = H + 1 := by
    have a1 : H < c := by
      apply Classical.byContradiction
      intro h
      have := Nat.pow_le_pow_right (n := 2) (by decide) (show c ≤ H by omega)
      omega
    have a2 : c - 1 < H + 1 := by
      apply Classical.byContradiction
      intro h
      have := Nat.pow_le_pow_right (n := 2) (by decide) (show H + 1 ≤ c - 1 by omega)
      have := g3 (by omega)
      omega
    omega
  subst hc
  exact ⟨by congr 2; omega, rfl⟩
theorem add_yes (a b : Nat) (w : World) (h : a + b < 18446744073709551616) :
    Calls Tryz.prog 154 #[.int .u64 (a : Int), .int .u64 (b : Int)] w fun e w' => e = .returned (.tuple #[.int .u64 ((a + b : Nat) : Int), .bool true]) ∧ w' = w := by
  have e1 : IntKind.u64.wrap ((a : Int) + (b : Int)) = ((a + b : Nat) : Int) := by rw [IntKind.wrap_u64]; omega
  have e2 : ¬ ((a + b : Nat) : Int) < (a : Int) := by omega
  generalize a + b = c at *
  go_enter Tryz.func154, Tryz.ntmps154
  go_wp2
  go_ret2
  exact ⟨rfl, rfl⟩
theorem add_no (a b : Nat) (w : World) (ha : a < 18446744073709551616) (hb : b < 18446744073709551616) (h : ¬ a + b < 18446744073709551616) :
    Calls Tryz.prog 154 #[.int .u64 (a : Int), .int .u64 (b : Int)] w fun e w' => e = .returned (.tuple #[.int .u64 0, .bool false]) ∧ w' = w := by
  obtain ⟨c, hc⟩ : ∃ c, a + b - 18446744073709551616 = c := ⟨_, rfl⟩
  have e1 : IntKind.u64.wrap ((a : Int) + (b : Int)) = (c : Int) := by rw [IntKind.wrap_u64]; omega
  have e2 : (c : Int) < (a : Int) := by omega
  clear hc ha hb h
  go_enter Tryz.func154, Tryz.ntmps154
  go_wp2
  go_ret2
  exact ⟨rfl, rfl⟩
end Go.Proofs.YtdocjikpcbmcgaaGreatDoor
namespace Go.Proofs.YtdocjikpcbmcgaaGreatDoor
open Go.RowKit
attribute [local go_sem ↓] Go.wp_at_zero Go.wp_at_succ
structure Rdr (w : World) (p : Nat) (s : ByteArray) (e : Nat) : Prop where
  c0 : w.cell? ⟨p, 0, none⟩ = some (.string s)
  c1 : w.cell? ⟨p, 1, none⟩ = some (.int .i64 (e : Int))
  f0 : w.frozen? ⟨p, 0, none⟩ = false
  f1 : w.frozen? ⟨p, 1, none⟩ = false
structure Ch (p : Nat) (w w' : World) : Prop where
  below : Below p w w'
  block : ∀ q, q < w.heap.size → q ≠ p → w'.heap[q]? = w.heap[q]?
theorem Ch.refl (p : Nat) (w : World) : Ch p w w := ⟨Below.refl _ _, fun _ _ _ => rfl⟩
theorem Ch.drewN {p : Nat} {w w' : World} (h : Ch p w w') (n : Nat) : Ch p w (w'.drewN n) := ⟨below_drewN h.below n, h.block⟩
theorem Ch.set {p : Nat} {w w' : World} (h : Ch p w w') (i : Nat) (v : Value) : Ch p w (w'.setCell ⟨p, i, none⟩ v) := by
  refine ⟨h.below.setCell (p := ⟨p, i, none⟩) (Nat.le_refl _) v, fun q hq hne => ?_⟩
  rw [← h.block q hq hne]
  exact Below.heap_setCell _ _ _ _ hne
theorem Rdr.lt {w : World} {p e : Nat} {s : ByteArray} (h : Rdr w p s e) : p < w.heap.size := World.block_lt_of_cell? _ _ h.c0
theorem Rdr.next {w w' : World} {p B e : Nat} {s : ByteArray} (h : Rdr w p s e) (hb : Below B w w') (hp : p < B) : Rdr w' p s e :=
  ⟨(hb.cell (p := ⟨p, 0, none⟩) hp).trans h.c0, (hb.cell (p := ⟨p, 1, none⟩) hp).trans h.c1, (hb.frozen (p := ⟨p, 0, none⟩) hp).trans h.f0, (hb.frozen (p := ⟨p, 1, none⟩) hp).trans h.f1⟩
theorem Rdr.drewN {w : World} {p e : Nat} {s : ByteArray} (h : Rdr w p s e) (n : Nat) : Rdr (w.drewN n) p s e := h.next (below_drewN (Below.refl (p + 1) w) n) (by omega)
theorem Rdr.set0 {w : World} {p e : Nat} {s : ByteArray} (h : Rdr w p s e) (t : ByteArray) : Rdr (w.setCell ⟨p, 0, none⟩ (.string t)) p t e :=
  ⟨World.cell?_setCell_same _ _ _ h.c0, (World.cell?_setCell_other _ _ _ _ (by simp)).trans h.c1, (World.frozen?_setCell _ _ _ _).trans h.f0, (World.frozen?_setCell _ _ _ _).trans h.f1⟩
theorem Rdr.set1 {w : World} {p e : Nat} {s : ByteArray} (h : Rdr w p s e) (e' : Nat) : Rdr (w.setCell ⟨p, 1, none⟩ (.int .i64 (e' : Int))) p s e' :=
  ⟨(World.cell?_setCell_other _ _ _ _ (by simp)).trans h.c0, World.cell?_setCell_same _ _ _ h.c1, (World.frozen?_setCell _ _ _ _).trans h.f0, (World.frozen?_setCell _ _ _ _).trans h.f1⟩
theorem rdr_new (w : World) (s : ByteArray) (t : Nat) : Rdr (w.alloc (.cells #[.string s, .int .i64 0] t)) w.heap.size s 0 := by
  refine ⟨?_, ?_, ?_, ?_⟩ <;> simp
theorem new_anyC (w : World) (s : ByteArray) :
    Calls Tryz.prog 59 #[.string s] w fun e w' => e = .returned (.pointer (some ⟨w.heap.size, 0, none⟩)) ∧ w' = w.alloc (.cells #[.string s, .int .i64 0] 150) := by
  go_enter Tryz.func59, Tryz.ntmps59
  go_wp2
  go_ret
  exact ⟨rfl, rfl⟩
theorem left_any (w : World) (p e : Nat) (s : ByteArray) (hr : Rdr w p s e) :
    Calls Tryz.prog 153 #[.pointer (some ⟨p, 0, none⟩)] w fun x w' => x = .returned (.int .i64 (s.size : Int)) ∧ w' = w := by
  have c0 := hr.c0
  go_enter Tryz.func153, Tryz.ntmps153
  go_wp2
  go_ret
  exact ⟨rfl, rfl⟩
theorem fail_any (w : World) (p e : Nat) (s : ByteArray) (hr : Rdr w p s 0) :
    Calls Tryz.prog 178 #[.pointer (some ⟨p, 0, none⟩), .int .i64 (e : Int)] w fun x w' => x = .returned (.int .i64 (e : Int)) ∧ Rdr w' p ByteArray.empty e ∧ Ch p w w' := by
  have c0 := hr.c0
  have c1 := hr.c1
  have f0 := hr.f0
  have f1 := hr.f1
  have R1 : Hid (Rdr ((w.setCell ⟨p, 0, none⟩ (.string ByteArray.empty)).setCell ⟨p, 1, none⟩ (.int .i64 (e : Int))) p ByteArray.empty e) := (hr.set0 _).set1 e
  clear hr
  go_enter Tryz.func178, Tryz.ntmps178
  go_wp2
  go_ret
  exact ⟨rfl, R1.out, ((Ch.refl p w).set 0 _).set 1 _⟩
end Go.Proofs.YtdocjikpcbmcgaaGreatDoor
namespace Go.Proofs.YtdocjikpcbmcgaaGreatDoor
open Go.RowKit
attribute [local go_sem ↓] Go.wp_at_zero Go.wp_at_succ
def tkC (s : ByteArray) (e : Nat) (n : Int) : ByteArray × Nat × ByteArray :=
  if e ≠ 0 then (ByteArray.empty, e, s) else if n < 0 ∨ (s.size : Int) < n then (ByteArray.empty, 60, ByteArray.empty) else (s.extract 0 n.toNat, 0, s.extract n.toNat s.size)
theorem take_any (w : World) (p e : Nat) (s : ByteArray) (n : Int) (hr : Rdr w p s e) :
    Calls Tryz.prog 151 #[.pointer (some ⟨p, 0, none⟩), .int .i64 n] w fun x w' => x = .returned (.tuple #[.string (tkC s e n).1, .int .i64 ((tkC s e n).2.1 : Int)]) ∧ Rdr w' p (tkC s e n).2.2 (tkC s e n).2.1 ∧ Ch p w w' := by
  have c0 := hr.c0
  have c1 := hr.c1
  have f0 := hr.f0
  have f1 := hr.f1
  by_cases he : e = 0
  · subst he
    by_cases hn : n < 0 ∨ (s.size : Int) < n
    · have ht : tkC s 0 n = (ByteArray.empty, 60, ByteArray.empty) := by rw [tkC, if_neg (by simp), if_pos hn]
      rw [ht]
      have HF := fail_any w p 60 s hr
      clear hr
      by_cases h0 : n < 0
      · go_enter Tryz.func151, Tryz.ntmps151
        go_wp2_with (go_at_call 178; refine HF.mono ?_; rintro x w' ⟨rfl, h1, h2⟩)
        go_ret2
        exact ⟨rfl, h1, h2⟩
      · have h1 : (s.size : Int) < n := by omega
        go_enter Tryz.func151, Tryz.ntmps151
        go_wp2_with (go_at_call 178; refine HF.mono ?_; rintro x w' ⟨rfl, h1, h2⟩)
        go_ret2
        exact ⟨rfl, h1, h2⟩
    · have ht : tkC s 0 n = (s.extract 0 n.toNat, 0, s.extract n.toNat s.size) := by rw [tkC, if_neg (by simp), if_neg hn]
      rw [ht]
      obtain ⟨k, rfl⟩ : ∃ k : Nat, n = k := ⟨n.toNat, by omega⟩
      have h0 : ¬ (k : Int) < 0 := by omega
      have h1 : ¬ (s.size : Int) < (k : Int) := by omega
      have h2 : (k : Int) ≤ (s.size : Int) := by omega
      have R1 : Hid (Rdr (w.setCell ⟨p, 0, none⟩ (.string (s.extract k s.size))) p (s.extract k s.size) 0) := hr.set0 _
      clear hr
      go_enter Tryz.func151, Tryz.ntmps151
      go_wp2
      go_ret2
      exact ⟨rfl, R1.out, (Ch.refl p w).set 0 _⟩
  · have ht : tkC s e n = (ByteArray.empty, e, s) := by rw [tkC, if_pos he]
    rw [ht]
    have hz : ¬ (e : Int) = 0 := by omega
    go_enter Tryz.func151, Tryz.ntmps151
    go_wp2
    go_quiet (fail)
    go_wp2
    go_ret2
    exact ⟨rfl, hr.drewN _, (Ch.refl p w).drewN _⟩
end Go.Proofs.YtdocjikpcbmcgaaGreatDoor
namespace Go.Proofs.YtdocjikpcbmcgaaGreatDoor
open Go.RowKit
attribute [local go_sem ↓] Go.wp_at_zero Go.wp_at_succ
def nb (s : ByteArray) (e : Nat) : Nat × Nat × ByteArray :=
  if e ≠ 0 then (0, e, s) else ((scan s.data.toList 0 0).1, (scan s.data.toList 0 0).2.1, if (scan s.data.toList 0 0).2.1 = 0 then s.extract (scan s.data.toList 0 0).2.2 s.size else ByteArray.empty)
theorem nb_of {s : ByteArray} {n k : Nat} (h : scan s.data.toList 0 0 = (n, 0, k)) : nb s 0 = (n, 0, s.extract k s.size) := by
  simp [nb, h]
theorem nb_err {s : ByteArray} {n e k : Nat} (h : scan s.data.toList 0 0 = (n, e, k)) (he : e ≠ 0) : nb s 0 = (n, e, ByteArray.empty) := by
  simp [nb, h, he]
theorem drop_at (s : ByteArray) (k : Nat) (hk : k < s.size) : s.data.toList.drop k = s[k] :: s.data.toList.drop (k + 1) := by
  rw [List.drop_eq_getElem_cons (by simpa using hk)]
  rfl
theorem hideC {q : Prop} (h : q) : Hid q := h
theorem or7 (n b k : Nat) (hn : n < 128 ^ k) (hk : k ≤ 9) (h : k = 9 → b ≤ 1) :
    bits .or .u64 (n : Int) (IntKind.u64.wrap ((b : Int) % 128 * 2 ^ (7 * k))) = ((n + b % 128 * 128 ^ k : Nat) : Int) ∧ n + b % 128 * 128 ^ k < 18446744073709551616 := by
  have e9 : (128 : Nat) ^ 9 = 9223372036854775808 := by decide
  have hp : 128 ^ k ≤ 128 ^ 9 := pow_le9 hk
  have hx : b % 128 * 128 ^ k ≤ 9223372036854775808 := by
    rcases Nat.lt_or_ge k 9 with h9 | h9
    · have hp1 : 128 ^ (k + 1) ≤ 128 ^ 9 := pow_le9 (by omega)
      have : b % 128 * 128 ^ k ≤ 127 * 128 ^ k := Nat.mul_le_mul_right _ (by omega)
      rw [Nat.pow_succ] at hp1
      omega
    · obtain rfl : k = 9 := by omega
      have : b % 128 * 128 ^ 9 ≤ 1 * 128 ^ 9 := Nat.mul_le_mul_right _ (by have := h rfl; omega)
      omega
  have e1 : ((b : Int) % 128 * 2 ^ (7 * k)) = ((b % 128 * 128 ^ k : Nat) : Int) := by
    rw [Int.natCast_mul, Int.natCast_pow, Int.pow_mul]; rfl
  have e2 : (2 : Nat) ^ (7 * k) = 128 ^ k := by rw [Nat.pow_mul]
  rw [e1, IntKind.wrap_u64, Int.emod_eq_of_lt (by omega) (by omega), u64_or_nat _ _ (by omega) (by omega)]
  refine ⟨?_, by omega⟩
  have := Nat.two_pow_add_eq_or_of_lt (i := 7 * k) (b := n) (by rw [e2]; exact hn) (b % 128)
  rw [Nat.or_comm, ← e2, Nat.mul_comm (b % 128), ← this, Nat.add_comm n]
set_option maxRecDepth 100000 in
theorem rnum_any (w : World) (p e : Nat) (s : ByteArray) (hr : Rdr w p s e) (hs : s.size ≤ 9223372036854775807) :
    Calls Tryz.prog 152 #[.pointer (some ⟨p, 0, none⟩)] w fun x w' => x = .returned (.tuple #[.int .u64 ((nb s e).1 : Int), .int .i64 ((nb s e).2.1 : Int)]) ∧ Rdr w' p (nb s e).2.2 (nb s e).2.1 ∧ Ch p w w' := by
  have c0 := hr.c0
  have c1 := hr.c1
  have f0 := hr.f0
  have f1 := hr.f1
  by_cases he : e = 0
  · subst he
    have F60 := fail_any w p 60 s hr
    have F61 := fail_any w p 61 s hr
    have RSC : Hid (∀ k, Rdr (w.setCell ⟨p, 0, none⟩ (.string (s.extract k s.size))) p (s.extract k s.size) 0) := fun k => hr.set0 _
    clear hr
    go_enter Tryz.func152, Tryz.ntmps152
    go_wp2
    go_loopg [4, 5] 10 (fun g x i wr => w = wr ∧ ∃ (k n : Nat), k ≤ s.size ∧ k ≤ 9 ∧ g = 10 - k ∧ x = .int .u64 (n : Int) ∧ i = .int .i64 k ∧ Hid (n < 128 ^ k ∧ scan (s.data.toList.drop k) k n = scan s.data.toList 0 0))
    case atStart =>
      go_light
      exact ⟨rfl, 0, 0, Nat.zero_le _, by omega, rfl, rfl, rfl, by decide, by rw [List.drop_zero]⟩
    case round =>
      obtain ⟨rfl, k, n, hk, h9, rfl, rfl, rfl, HS⟩ := hrel
      by_cases hlt : k < s.size
      · have hz : (k : Int) < (s.size : Int) := by omega
        obtain ⟨b, hb⟩ : ∃ b, s[k].toNat = b := ⟨_, rfl⟩
        have hb8 : b < 256 := by rw [← hb]; exact s[k].toNat_lt
        obtain ⟨hn, hsc⟩ := HS.out
        rw [drop_at s k hlt, scan, hb] at hsc
        clear HS
        by_cases hi : k = 9 ∧ 1 < b
        · obtain ⟨rfl, hi⟩ := hi
          rw [if_pos ⟨rfl, hi⟩] at hsc
          have HT := hideC (nb_err hsc.symm (by decide))
          have hi' : (1 : Int) < (b : Int) := by omega
          clear hsc hn
          go_wp2_with (go_at_call 178; refine F61.mono ?_; rintro x w' ⟨rfl, h1, h2⟩)
          go_ret2
          rw [HT.out]
          exact ⟨rfl, h1, h2⟩
        · obtain ⟨ho, hlim⟩ := or7 n b k hn h9 (by omega)
          rw [if_neg hi] at hsc
          obtain ⟨m, hm⟩ : ∃ m, m = n + b % 128 * 128 ^ k := ⟨_, rfl⟩
          rw [← hm] at ho hlim
          by_cases hl : b < 128
          · rw [if_pos hl, ← show b % 128 = b from Nat.mod_eq_of_lt hl, ← hm, show b % 128 = b from Nat.mod_eq_of_lt hl] at hsc
            have hl' : (b : Int) < 128 := by omega
            by_cases h0 : b = 0 ∧ 0 < k
            · rw [if_pos h0] at hsc
              have HT := hideC (nb_err hsc.symm (by decide))
              obtain ⟨rfl, h0⟩ := h0
              have h0' : (0 : Int) < (k : Int) := by omega
              clear hsc hn hm
              by_cases hk9 : k = 9
              · subst hk9
                go_wp2_with (go_at_call 178; refine F61.mono ?_; rintro x w' ⟨rfl, h1, h2⟩)
                go_ret2
                rw [HT.out]
                exact ⟨rfl, h1, h2⟩
              · have hq : ¬ (k : Int) = 9 := by omega
                go_wp2_with (go_at_call 178; refine F61.mono ?_; rintro x w' ⟨rfl, h1, h2⟩)
                go_ret2
                rw [HT.out]
                exact ⟨rfl, h1, h2⟩
            · rw [if_neg h0] at hsc
              have HT := hideC (nb_of hsc.symm)
              clear hsc hn hm
              have HC : Hid (Ch p w (w.setCell ⟨p, 0, none⟩ (.string (s.extract (k + 1) s.size)))) := (Ch.refl p w).set 0 _
              have hz1 : ((k : Int) + 1) ≤ (s.size : Int) := by omega
              by_cases hk9 : k = 9
              · subst hk9
                have hb1 : ¬ (1 : Int) < (b : Int) := by omega
                have hb0 : ¬ (b : Int) = 0 := by omega
                have ho9 : bits .or .u64 (n : Int) ((b : Int) % 128 * 9223372036854775808) = (m : Int) := by
                  rw [← ho, IntKind.wrap_u64]
                  have e : (2 : Int) ^ (7 * 9) = 9223372036854775808 := by decide
                  rw [e, Int.emod_eq_of_lt (a := (b : Int) % 128 * 9223372036854775808) (by omega) (by omega)]
                go_wp2
                go_ret2
                rw [HT.out]
                exact ⟨rfl, RSC.out _, HC.out⟩
              · have hq : ¬ (k : Int) = 9 := by omega
                by_cases hb0 : b = 0
                · obtain rfl : k = 0 := by omega
                  subst hb0
                  have ho0 : bits .or .u64 (n : Int) 0 = (m : Int) := by rw [← ho]; rfl
                  go_wp2
                  go_ret2
                  rw [HT.out]
                  exact ⟨rfl, RSC.out _, HC.out⟩
                · have hb1 : ¬ (b : Int) = 0 := by omega
                  go_wp2
                  go_ret2
                  rw [HT.out]
                  exact ⟨rfl, RSC.out _, HC.out⟩
          · have hq : ¬ (k : Int) = 9 := by omega
            have hl' : ¬ (b : Int) < 128 := by omega
            have HS : Hid (m < 128 ^ (k + 1) ∧ scan (s.data.toList.drop (k + 1)) (k + 1) m = scan s.data.toList 0 0) := by
              rw [if_neg hl, ← hm] at hsc
              refine ⟨?_, hsc⟩
              rw [hm, Nat.pow_succ]
              have : b % 128 * 128 ^ k ≤ 127 * 128 ^ k := Nat.mul_le_mul_right _ (by omega)
              omega
            clear hsc hn hm
            go_wp2
            go_roundg (10 - (k + 1))
            case rel =>
              go_light
              exact ⟨rfl, k + 1, m, by omega, by omega, rfl, rfl, by go_num, HS.out⟩
            case measure => go_light; omega
      · obtain rfl : k = s.size := by omega
        have hz : ¬ (s.size : Int) < (s.size : Int) := by omega
        have hsc := HS.out.2
        rw [List.drop_eq_nil_of_le (by simp), scan] at hsc
        have HT := hideC (nb_err hsc.symm (by decide))
        clear hsc HS
        go_wp2_with (go_at_call 178; refine F60.mono ?_; rintro x w' ⟨rfl, h1, h2⟩)
        go_ret2
        rw [HT.out]
        exact ⟨rfl, h1, h2⟩
  · have ht : nb s e = (0, e, s) := by rw [nb, if_pos he]
    rw [ht]
    have hz : ¬ (e : Int) = 0 := by omega
    go_enter Tryz.func152, Tryz.ntmps152
    go_wp2
    go_quiet (fail)
    go_wp2
    go_ret2
    exact ⟨rfl, hr.drewN _, (Ch.refl p w).drewN _⟩
end Go.Proofs.YtdocjikpcbmcgaaGreatDoor
namespace Go.Proofs.YtdocjikpcbmcgaaGreatDoor
open Go.RowKit
attribute [local go_sem ↓] Go.wp_at_zero Go.wp_at_succ
abbrev pnc : Ending := .panicked [{ v := .iface 31 (.int .i64 140), recovered := false }]
theorem must_yes (w : World) (b : Bool) (hb : b = true) : Calls Tryz.prog 106 #[.bool b] w fun e w' => e = .returned (.tuple #[]) ∧ w' = w := by
  subst hb
  go_enter Tryz.func106, Tryz.ntmps106
  go_wp2
  go_end0
  exact ⟨rfl, rfl⟩
theorem must_no (w : World) (b : Bool) (hb : b = false) : Calls Tryz.prog 106 #[.bool b] w fun e w' => e = pnc ∧ w' = w := by
  subst hb
  go_enter Tryz.func106, Tryz.ntmps106
  go_wp2
  exact ⟨rfl, rfl, rfl⟩
theorem ext_drop (s : ByteArray) (k : Nat) : (s.extract k s.size).data.toList = s.data.toList.drop k := by
  rw [ByteArray.data_extract, Array.toList_extract, List.extract_eq_take_drop, List.take_of_length_le (by rw [List.length_drop, size_list]; omega)]
theorem ext_take (s : ByteArray) (k : Nat) : (s.extract 0 k).data.toList = s.data.toList.take k := by
  rw [ByteArray.data_extract, Array.toList_extract, List.extract_eq_take_drop, List.drop_zero, Nat.sub_zero]
theorem nb_some {s : ByteArray} {n : Nat} {r : List UInt8} (h : nmb s.data.toList = some (n, r)) : ∃ s', s'.data.toList = r ∧ nb s 0 = (n, 0, s') ∧ s'.size ≤ s.size := by
  unfold nmb at h
  split at h
  · rename_i h0
    obtain ⟨a, b, c, hc⟩ : ∃ a b c, scan s.data.toList 0 0 = (a, b, c) := ⟨_, _, _, rfl⟩
    rw [hc] at h h0
    simp only [Option.some.injEq, Prod.mk.injEq] at h h0
    subst h0
    obtain ⟨rfl, rfl⟩ := h
    refine ⟨_, ext_drop s c, nb_of hc, ?_⟩
    have := congrArg List.length (ext_drop s c)
    rw [size_list, List.length_drop, size_list] at this
    omega
  · cases h
theorem nb_none {s : ByteArray} (h : nmb s.data.toList = none) : ∃ n e s', nb s 0 = (n, e, s') ∧ e ≠ 0 := by
  unfold nmb at h
  split at h
  · cases h
  · rename_i h0
    obtain ⟨a, b, c, hc⟩ : ∃ a b c, scan s.data.toList 0 0 = (a, b, c) := ⟨_, _, _, rfl⟩
    rw [hc] at h0
    exact ⟨_, _, _, nb_err hc h0, h0⟩
theorem number_any (w : World) (p : Nat) (s : ByteArray) (hr : Rdr w p s 0) (hs : s.size ≤ 9223372036854775807) :
    Calls Tryz.prog 103 #[.pointer (some ⟨p, 0, none⟩)] w fun e w' => (∃ n s', nmb s.data.toList = some (n, s'.data.toList) ∧ e = .returned (.int .u64 (n : Int)) ∧ Rdr w' p s' 0 ∧ Ch p w w' ∧ s'.size ≤ s.size) ∨ (nmb s.data.toList = none ∧ e = pnc ∧ Ch p w w') := by
  have HR := rnum_any w p 0 s hr hs
  cases hn : nmb s.data.toList with
  | none =>
    obtain ⟨n, e, s', h1, h2⟩ := nb_none hn
    rw [h1] at HR
    have h2' : ((e : Int) == 0) = false := beq_false_of_ne (by omega)
    clear hr hs h1 hn h2
    go_enter Tryz.func103, Tryz.ntmps103
    go_wp2_with (first
      | (go_at_call 152; with_reducible refine HR.mono ?_; rintro x w1 ⟨rfl, h1, h2⟩)
      | (go_at_call 106; refine (must_no _ _ rfl).mono ?_; rintro x w2 ⟨rfl, rfl⟩))
    exact ⟨rfl, .inr ⟨trivial, rfl, h2⟩⟩
  | some a =>
    obtain ⟨n, r⟩ := a
    obtain ⟨s', rfl, h1, h3⟩ := nb_some hn
    rw [h1] at HR
    clear hr hs h1 hn
    go_enter Tryz.func103, Tryz.ntmps103
    go_wp2_with (first
      | (go_at_call 152; with_reducible refine HR.mono ?_; rintro x w1 ⟨rfl, h1, h2⟩)
      | (go_at_call 106; refine (must_yes _ _ rfl).mono ?_; rintro x w2 ⟨rfl, rfl⟩))
    go_ret
    exact .inl ⟨n, s', rfl, rfl, h1, h2, h3⟩
theorem single_any (w : World) (p : Nat) (s : ByteArray) (hr : Rdr w p s 0) (hs : s.size ≤ 9223372036854775807) :
    Calls Tryz.prog 102 #[.pointer (some ⟨p, 0, none⟩)] w fun e w' => (∃ b s', s.data.toList = b :: s'.data.toList ∧ e = .returned (.int .i64 (b.toNat : Int)) ∧ Rdr w' p s' 0 ∧ Ch p w w' ∧ s'.size ≤ s.size) ∨ (s.data.toList = [] ∧ e = pnc ∧ Ch p w w') := by
  have HR := take_any w p 0 s 1 hr
  by_cases h0 : s.size = 0
  · have ht : tkC s 0 1 = (ByteArray.empty, 60, ByteArray.empty) := by rw [tkC, if_neg (by simp), if_pos (by omega)]
    rw [ht] at HR
    have hl : s.data.toList = [] := List.length_eq_zero_iff.1 (by rw [size_list]; exact h0)
    clear hr hs ht
    go_enter Tryz.func102, Tryz.ntmps102
    go_wp2_with (first
      | (go_at_call 151; with_reducible refine HR.mono ?_; rintro x w1 ⟨rfl, h1, h2⟩)
      | (go_at_call 106; refine (must_no _ _ rfl).mono ?_; rintro x w2 ⟨rfl, rfl⟩))
    exact ⟨rfl, .inr ⟨hl, rfl, h2⟩⟩
  · have ht : tkC s 0 1 = (s.extract 0 1, 0, s.extract 1 s.size) := by rw [tkC, if_neg (by simp), if_neg (by omega)]; rfl
    rw [ht] at HR
    obtain ⟨b, r, hl⟩ : ∃ b r, s.data.toList = b :: r := by
      cases h : s.data.toList with
      | nil => exact absurd (by rw [← size_list, h]; rfl) h0
      | cons b r => exact ⟨b, r, rfl⟩
    have h1 : (s.extract 0 1).data.toList = [b] := by rw [ext_take, hl]; rfl
    have h2 : (s.extract 1 s.size).data.toList = r := by rw [ext_drop, hl]; rfl
    have h3 := congrArg List.length h2
    have h4 := congrArg List.length hl
    rw [size_list] at h3 h4
    generalize s.extract 0 1 = t at *
    generalize s.extract 1 s.size = s' at *
    subst h2
    obtain ⟨⟨t⟩⟩ := t
    obtain rfl : t = [b] := h1
    have hb : ∀ W, (Instr.index 9 (.string ⟨⟨[b]⟩⟩) (.int .i64 0)).run Tryz.prog W = .ok (.int .u8 (b.toNat : Int)) W := fun W => by
      have e : (⟨⟨[b]⟩⟩ : ByteArray)[0]? = some b := rfl
      simp [Instr.index, asIntOf, run_underlying Tryz.underlying9, e]
    clear hr hs ht h0
    go_enter Tryz.func102, Tryz.ntmps102
    go_wp2_with (first
      | (go_at_call 151; with_reducible refine HR.mono ?_; rintro x w1 ⟨rfl, h1, h2⟩)
      | (go_at_call 106; refine (must_yes _ _ rfl).mono ?_; rintro x w2 ⟨rfl, rfl⟩))
    go_ret
    have e2 : wrap64 (b.toNat : Int) = (b.toNat : Int) := by
      have := b.toNat_lt
      unfold wrap64
      omega
    exact .inl ⟨b, s', hl, congrArg (fun x => Ending.returned (.int .i64 x)) e2, h1, h2, by simp at h4; omega⟩
end Go.Proofs.YtdocjikpcbmcgaaGreatDoor
