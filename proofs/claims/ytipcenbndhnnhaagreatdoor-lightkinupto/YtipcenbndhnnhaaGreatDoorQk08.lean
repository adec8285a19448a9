/-
  Own work: CvWalkB, CvWalkC, KSpec.
-/
import Derived.Test.YtipcenbndhnnhaaGreatDoorQk07
namespace Go.Proofs.YtipcenbndhnnhaaGreatDoor.Cv
open Pl
open Go.RowKit
attribute [local go_sem ↓] Go.wp_at_zero Go.wp_at_succ
theorem length_same (h : Nat) (w : World) (hh : h < 64) : Calls Tryz.prog 149 #[.int .i64 (h : Int)] w fun e w' => e = .returned (.int .u64 (pw h : Nat)) ∧ w' = w := (length_any h w hh).mono fun _ _ r => ⟨r.1, r.2.symm⟩
theorem bit1 (m : Nat) (hm : m < 18446744073709551616) : (bits BinOp.and IntKind.u64 (m : Int) 1 == 1) = decide (m % 2 = 1) := by
  have := bits_and_u64_nat m 1 hm (by decide)
  rw [show (1 : Int) = ((1 : Nat) : Int) from rfl, this, Nat.and_one_is_mod]
  by_cases h : m % 2 = 1
  · simp [h]
  · have : m % 2 = 0 := by omega
    simp [this]
theorem heap_new (w : World) (o : Obj) : (w.alloc o).heap[w.heap.size]? = some o := by
  show (w.heap.push o)[w.heap.size]? = _
  simp
structure Ev (k B0 c : Nat) (I : (Nat → Prop) → List (Nat × Nat) → World → Prop) (X : Nat → Prop) (w0 : World) (acc : List (Nat × Nat)) (lo : Nat) (wr : World) : Prop where
  inv : I (fun x => X x ∨ x = c ∨ x = c + 1) acc wr
  lt : ∀ x, (X x ∨ x = c ∨ x = c + 1) → x < wr.heap.size
  c0 : wr.heap[c]? = some (.cells #[.int .u64 (lo : Int)] 23 (0, 0))
  c1 : wr.heap[c + 1]? = some (.cells #[gv k B0] 107 (0, 0))
  below : Below B0 w0 wr
  keep : ∀ x, X x → x ≠ c ∧ x ≠ c + 1 ∧ wr.heap[x]? = w0.heap[x]?
  bc : B0 < c
theorem Ev.drewN {k B0 c M : Nat} {I : (Nat → Prop) → List (Nat × Nat) → World → Prop} {X : Nat → Prop} {w0 wr : World} {acc : List (Nat × Nat)} {lo : Nat} (G : Give k B0 M I) (h : Ev k B0 c I X w0 acc lo wr) (n : Nat) : Ev k B0 c I X w0 acc lo (wr.drewN n) :=
  ⟨G.stay _ _ _ wr _ h.inv (fun _ _ _ => rfl) (fun _ hx => .inl hx), h.lt, h.c0, h.c1, below_drewN h.below n, h.keep, h.bc⟩
theorem Ev.take {k B0 c M : Nat} (hk : k = 105 ∨ k = 59 ∨ k = 171) {I : (Nat → Prop) → List (Nat × Nat) → World → Prop} {X : Nat → Prop} {w0 wr : World} {acc : List (Nat × Nat)} {lo : Nat} (G : Give k B0 M I) (h : Ev k B0 c I X w0 acc lo wr) (hl : acc.length < M) (j : Nat) (hj : j < 41) (hlo : lo ≤ 2 ^ 40) :
    Calls Tryz.prog 148 #[.int .i64 (j : Int), .pointer (some ⟨c + 1, 0, none⟩), .pointer (some ⟨c, 0, none⟩)] wr fun e w' => e = .returned (.tuple #[]) ∧ Ev k B0 c I X w0 (acc ++ [(j, lo / pw j)]) (lo + pw j) w' := by
  refine (take_any hk G c _ acc j lo wr h.inv h.lt hl (.inr (.inl rfl)) (.inr (.inr rfl)) h.bc h.c0 h.c1 hj hlo).mono ?_
  rintro e w' ⟨rfl, r1, r2, r3, r4⟩
  refine ⟨rfl, r1, fun x hx => Nat.lt_of_lt_of_le (h.lt x hx) r2.size, r3, (r4 (c + 1) (.inr (.inr rfl)) (by omega)).trans h.c1, h.below.trans r2, fun x hx => ?_, h.bc⟩
  obtain ⟨a1, a2, a3⟩ := h.keep x hx
  exact ⟨a1, a2, (r4 x (.inl hx) a1).trans a3⟩
theorem ev_start {k B0 M : Nat} {I : (Nat → Prop) → List (Nat × Nat) → World → Prop} {X : Nat → Prop} {w : World} {acc : List (Nat × Nat)} (G : Give k B0 M I) (lo : Nat) (hI : I X acc w) (hX : ∀ x, X x → x < w.heap.size) :
    Ev k B0 w.heap.size I X w acc lo ((w.alloc (.cells #[.int .u64 (lo : Int)] 23)).alloc (.cells #[gv k B0] 107)) := by
  have hlt := G.lt X acc w hI
  have hh : ∀ b, b < w.heap.size → ((w.alloc (.cells #[.int .u64 (lo : Int)] 23)).alloc (.cells #[gv k B0] 107)).heap[b]? = w.heap[b]? := fun b hb => by
    rw [heap_al _ (by simp; omega), heap_al _ hb]
  refine ⟨G.stay X _ acc w _ hI (fun b hb _ => hh b hb) (fun x hx => ?_), fun x hx => ?_, ?_, ?_, ?_, fun x hx => ?_, hlt⟩
  · rcases hx with hx | hx | hx
    · exact .inl hx
    · exact .inr (by omega)
    · exact .inr (by omega)
  · have : ∀ x, X x → x < w.heap.size := hX
    rcases hx with hx | hx | hx
    · have := hX x hx; simp; omega
    · simp; omega
    · simp; omega
  · rw [heap_al _ (by simp)]; exact heap_new _ _
  · have := heap_new (w.alloc (.cells #[.int .u64 (lo : Int)] 23)) (.cells #[gv k B0] 107); rw [World.size_alloc] at this; exact this
  · exact ((Below.refl B0 w).alloc (by omega) _).alloc (by simp; omega) _
  · have := hX x hx
    exact ⟨by omega, by omega, hh x this⟩
theorem up_odd {f h lo hi : Nat} (h1 : pw h ≤ hi - lo) (h2 : lo / pw h % 2 = 1) : upL (f + 1) h lo hi = (h, lo / pw h) :: upL f (h + 1) (lo + pw h) hi := by rw [upL, if_pos h1, if_pos h2]
theorem up_even {f h lo hi : Nat} (h1 : pw h ≤ hi - lo) (h2 : ¬ lo / pw h % 2 = 1) : upL (f + 1) h lo hi = upL f (h + 1) lo hi := by rw [upL, if_pos h1, if_neg h2]
theorem up_end {f h lo hi : Nat} (h1 : ¬ pw h ≤ hi - lo) : upL (f + 1) h lo hi = dnL (h + 1) lo hi := by rw [upL, if_neg h1]
theorem dn_yes {h lo hi : Nat} (h1 : pw h ≤ hi - lo) : dnL (h + 1) lo hi = (h, lo / pw h) :: dnL h (lo + pw h) hi := by rw [dnL, if_pos h1]
theorem dn_no {h lo hi : Nat} (h1 : ¬ pw h ≤ hi - lo) : dnL (h + 1) lo hi = dnL h lo hi := by rw [dnL, if_neg h1]
theorem ev_done {k B0 c M : Nat} {I : (Nat → Prop) → List (Nat × Nat) → World → Prop} {X : Nat → Prop} {w0 wr : World} {acc : List (Nat × Nat)} {lo : Nat} (G : Give k B0 M I) (h : Ev k B0 c I X w0 acc lo wr) : I X acc wr ∧ Below B0 w0 wr ∧ ∀ x, X x → wr.heap[x]? = w0.heap[x]? :=
  ⟨G.stay _ X acc wr wr h.inv (fun _ _ _ => rfl) (fun _ hx => .inl (.inl hx)), h.below, fun x hx => (h.keep x hx).2.2⟩
set_option maxHeartbeats 4000000 in
theorem each_any {k B0 M : Nat} (hk : k = 105 ∨ k = 59 ∨ k = 171) {I : (Nat → Prop) → List (Nat × Nat) → World → Prop} (G : Give k B0 M I) (X : Nat → Prop) (acc : List (Nat × Nat)) (lo hi : Nat) (w : World)
    (hI : I X acc w) (hX : ∀ x, X x → x < w.heap.size) (hl : acc.length + 1000 < M) (h1 : lo ≤ hi) (h2 : hi ≤ 2 ^ 40) :
    Calls Tryz.prog 104 #[.int .u64 (lo : Int), .int .u64 (hi : Int), gv k B0] w fun e w' => e = .returned (.tuple #[]) ∧ I X (acc ++ cov lo hi) w' ∧ Below B0 w w' ∧ ∀ x, X x → w'.heap[x]? = w.heap[x]? := by
  have HS : Hid (Ev k B0 w.heap.size I X w acc lo ((w.alloc (.cells #[.int .u64 (lo : Int)] 23)).alloc (.cells #[gv k B0] 107)) ∧ lo ≤ hi ∧ hi ≤ 2 ^ 40 ∧ acc.length + 1000 < M) := ⟨ev_start G lo hI hX, h1, h2, hl⟩
  clear hI hX hl h1 h2
  go_enter Tryz.func104, Tryz.ntmps104
  go_wp2
  go_loopg [7] 42 (fun g h wr => ∃ (j lo' : Nat) (acc' : List (Nat × Nat)), j ≤ 41 ∧ g = 42 - j ∧ h = .int .i64 (j : Int) ∧ Ev k B0 w.heap.size I X w acc' lo' wr ∧ acc' ++ upL (42 - j) j lo' hi = acc ++ cov lo hi ∧ lo' ≤ hi ∧ acc'.length ≤ acc.length + j)
  case atStart =>
    go_light
    exact ⟨0, lo, acc, by decide, rfl, rfl, HS.out.1, rfl, HS.out.2.1, Nat.le_refl _⟩
  case round =>
    obtain ⟨j, lo', acc', hj, rfl, rfl, HE, hacc, hlo, hlen⟩ := hrel
    obtain ⟨_, hlh, hhi, hl⟩ := HS.out
    have hj0 : (0 : Int) ≤ (j : Int) := Int.natCast_nonneg _
    have hj1 : (j : Int) < 64 := by omega
    have hj2 : ¬ (j : Int) < 0 := by omega
    have k0 := cell_of_one HE.c0
    have HL := fun w' => length_same j w' (by omega)
    obtain ⟨p, hp⟩ : ∃ p, pw j = p := ⟨_, rfl⟩
    simp only [hp] at HL
    obtain ⟨d, hd⟩ : ∃ d, hi - lo' = d := ⟨_, rfl⟩
    have ed : IntKind.u64.wrap ((hi : Int) - (lo' : Int)) = (d : Int) := by rw [IntKind.wrap_u64]; omega
    by_cases hfit : p ≤ d
    · have hfi : (p : Int) ≤ (d : Int) := by omega
      have hj40 : j ≤ 40 := pw40 (by rw [hp]; omega)
      obtain ⟨q, hq⟩ : ∃ q, lo' / pw j = q := ⟨_, rfl⟩
      have eq : (lo' : Int) / 2 ^ j = (q : Int) := by rw [← hq]; simp [pw]
      have HE' := HE.drewN G
      by_cases hodd : q % 2 = 1
      · have hbit : (bits BinOp.and IntKind.u64 (q : Int) 1 == 1) = true := by rw [bit1 q (by rw [← hq]; exact Nat.lt_of_le_of_lt (Nat.div_le_self _ _) (by omega))]; exact decide_eq_true hodd
        have HT := fun n => (HE' n).take hk G (by omega) j (by omega) (by omega)
        have hu : upL (42 - j) j lo' hi = (j, lo' / pw j) :: upL (42 - (j + 1)) (j + 1) (lo' + pw j) hi := by
          rw [show 42 - j = (42 - (j + 1)) + 1 by omega]; exact up_odd (by omega) (by rw [hq]; exact hodd)
        have HX : Hid (acc' ++ [(j, lo' / pw j)] ++ upL (42 - (j + 1)) (j + 1) (lo' + pw j) hi = acc ++ cov lo hi ∧ lo' + pw j ≤ hi ∧ (acc' ++ [(j, lo' / pw j)]).length ≤ acc.length + (j + 1) ∧ j + 1 ≤ 41) := by
          refine ⟨?_, by omega, by simp; omega, by omega⟩
          rw [List.append_assoc, ← hacc, hu]; rfl
        have HN : Hid (hi - lo' = d ∧ pw j = p) := ⟨hd, hp⟩
        clear hacc hlo hlen hd hp hq hodd hu hlh hhi hl HE HE' hfit hj hj40
        go_wp2
        go_quiet ((go_at_call 149; refine Calls.quiet_of_same (HL _)))
        go_wp2_with (go_at_call 148; with_reducible refine (HT _).mono ?_; rintro e w1 ⟨rfl, HE1⟩)
        go_roundg (42 - (j + 1))
        case rel =>
          go_light
          obtain ⟨x1, x2, x3, x4⟩ := HX.out
          exact ⟨j + 1, _, _, x4, rfl, by go_num, HE1, x1, x2, x3⟩
        case measure => go_light; have := HX.out.2.2.2; omega
      · have hbit : (bits BinOp.and IntKind.u64 (q : Int) 1 == 1) = false := by rw [bit1 q (by rw [← hq]; exact Nat.lt_of_le_of_lt (Nat.div_le_self _ _) (by omega))]; exact decide_eq_false hodd
        have hu : upL (42 - j) j lo' hi = upL (42 - (j + 1)) (j + 1) lo' hi := by
          rw [show 42 - j = (42 - (j + 1)) + 1 by omega]; exact up_even (by omega) (by rw [hq]; exact hodd)
        have HX : Hid (acc' ++ upL (42 - (j + 1)) (j + 1) lo' hi = acc ++ cov lo hi ∧ lo' ≤ hi ∧ acc'.length ≤ acc.length + (j + 1) ∧ j + 1 ≤ 41 ∧ ∀ n, Ev k B0 w.heap.size I X w acc' lo' (wr.drewN n)) := by
          refine ⟨?_, hlo, by omega, by omega, HE'⟩
          rw [← hacc, hu]
        clear hacc hlo hlen hd hp hq hodd hu hlh hhi hl HE HE' hfit hj hj40
        go_wp2
        go_quiet ((go_at_call 149; refine Calls.quiet_of_same (HL _)))
        go_wp2
        go_roundg (42 - (j + 1))
        case rel =>
          go_light
          obtain ⟨x1, x2, x3, x4, x5⟩ := HX.out
          exact ⟨j + 1, _, _, x4, rfl, by go_num, x5 _, x1, x2, x3⟩
        case measure => go_light; have := HX.out.2.2.2.1; omega
    · have hfi : ¬ (p : Int) ≤ (d : Int) := by omega
      have hu : upL (42 - j) j lo' hi = dnL (j + 1) lo' hi := by
        rw [show 42 - j = (41 - j) + 1 by omega]; exact up_end (by omega)
      rw [hu] at hacc
      have HX : Hid (acc' ++ dnL (j + 1) lo' hi = acc ++ cov lo hi ∧ lo' ≤ hi ∧ acc'.length ≤ acc.length + 41 ∧ j ≤ 41 ∧ hi ≤ 2 ^ 40 ∧ acc.length + 1000 < M ∧ ∀ n, Ev k B0 w.heap.size I X w acc' lo' (wr.drewN n)) := ⟨hacc, hlo, by omega, hj, hhi, hl, HE.drewN G⟩
      clear hacc hlo hlen hd hp hu hlh hhi hl HE hj
      go_wp2
      go_quiet ((go_at_call 149; refine Calls.quiet_of_same (HL _)))
      go_wp2
      clear HL k0 ed hfi hfit
      go_loopg [7] 42 (fun g h wr2 => ∃ (m lo2 : Nat) (acc2 : List (Nat × Nat)), m ≤ 42 ∧ m ≤ g ∧ h = .int .i64 ((m : Int) - 1) ∧ Ev k B0 w.heap.size I X w acc2 lo2 wr2 ∧ acc2 ++ dnL m lo2 hi = acc ++ cov lo hi ∧ lo2 ≤ hi ∧ acc2.length + m ≤ acc.length + 100)
      case atStart =>
        go_light
        obtain ⟨x1, x2, x3, x4, x5, x6, x7⟩ := HX.out
        exact ⟨j + 1, lo', acc', by omega, by omega, by congr 1; omega, x7 _, x1, x2, by omega⟩
      case round =>
        obtain ⟨m, lo2, acc2, hm, hmg, rfl, HE2, hacc2, hlo2, hlen2⟩ := hrel
        obtain ⟨_, _, _, _, hhi, hl, _⟩ := HX.out
        by_cases hm0 : m = 0
        · subst hm0
          have ht : ¬ (0 : Int) ≤ ((0 : Nat) : Int) - 1 := by omega
          have HF : Hid (I X (acc ++ cov lo hi) wr ∧ Below B0 w wr ∧ ∀ x, X x → wr.heap[x]? = w.heap[x]?) := by
            have e : acc2 = acc ++ cov lo hi := by rw [← hacc2]; simp [dnL]
            rw [← e]; exact ev_done G HE2
          clear hacc2 HE2 hlo2 hlen2 hm
          go_wp2
          go_end0
          exact ⟨rfl, HF.out⟩
        · obtain ⟨i, rfl⟩ : ∃ i, m = i + 1 := ⟨m - 1, by omega⟩
          have ei : (((i + 1 : Nat) : Int) - 1) = (i : Int) := by omega
          rw [ei]
          have hi0 : (0 : Int) ≤ (i : Int) := Int.natCast_nonneg _
          have hi1 : (i : Int) < 64 := by omega
          have hi2 : ¬ (i : Int) < 0 := by omega
          have k0 := cell_of_one HE2.c0
          have HL := fun w' => length_same i w' (by omega)
          obtain ⟨p2, hp2⟩ : ∃ p2, pw i = p2 := ⟨_, rfl⟩
          simp only [hp2] at HL
          obtain ⟨d2, hd2⟩ : ∃ d2, hi - lo2 = d2 := ⟨_, rfl⟩
          have ed : IntKind.u64.wrap ((hi : Int) - (lo2 : Int)) = (d2 : Int) := by rw [IntKind.wrap_u64]; omega
          by_cases hfit : p2 ≤ d2
          · have hfi : (p2 : Int) ≤ (d2 : Int) := by omega
            have hi40 : i ≤ 40 := pw40 (by rw [hp2]; omega)
            have HT := fun n => (HE2.drewN G n).take hk G (by omega) i (by omega) (by omega)
            have hu := dn_yes (h := i) (lo := lo2) (hi := hi) (by omega)
            have HY : Hid (acc2 ++ [(i, lo2 / pw i)] ++ dnL i (lo2 + pw i) hi = acc ++ cov lo hi ∧ lo2 + pw i ≤ hi ∧ (acc2 ++ [(i, lo2 / pw i)]).length + i ≤ acc.length + 100 ∧ i ≤ 42) := by
              refine ⟨?_, by omega, by simp; omega, by omega⟩
              rw [List.append_assoc, ← hacc2, hu]; rfl
            clear hacc2 hlo2 hlen2 hd2 hp2 hu hhi hl HE2 hfit hm hi40 hm0
            go_wp2
            go_quiet ((go_at_call 149; refine Calls.quiet_of_same (HL _)))
            go_wp2_with (go_at_call 148; with_reducible refine (HT _).mono ?_; rintro e w1 ⟨rfl, HE1⟩)
            go_roundg i
            case rel =>
              go_light
              obtain ⟨x1, x2, x3, x4⟩ := HY.out
              exact ⟨i, _, _, x4, Nat.le_refl _, by go_num, HE1, x1, x2, x3⟩
            case measure => go_light; omega
          · have hfi : ¬ (p2 : Int) ≤ (d2 : Int) := by omega
            have hu := dn_no (h := i) (lo := lo2) (hi := hi) (by omega)
            rw [hu] at hacc2
            have HY : Hid (acc2 ++ dnL i lo2 hi = acc ++ cov lo hi ∧ lo2 ≤ hi ∧ acc2.length + i ≤ acc.length + 100 ∧ i ≤ 42 ∧ ∀ n, Ev k B0 w.heap.size I X w acc2 lo2 (wr.drewN n)) := ⟨hacc2, hlo2, by omega, by omega, HE2.drewN G⟩
            clear hacc2 hlo2 hlen2 hd2 hp2 hu hhi hl HE2 hm hm0
            go_wp2
            go_quiet ((go_at_call 149; refine Calls.quiet_of_same (HL _)))
            go_wp2
            go_roundg i
            case rel =>
              go_light
              obtain ⟨x1, x2, x3, x4, x5⟩ := HY.out
              exact ⟨i, _, _, x4, Nat.le_refl _, by go_num, x5 _, x1, x2, x3⟩
            case measure => go_light; omega
end Go.Proofs.YtipcenbndhnnhaaGreatDoor.Cv
namespace Go.Proofs.YtipcenbndhnnhaaGreatDoor.Cv
open Pl
open Go.RowKit
attribute [local go_sem ↓] Go.wp_at_zero Go.wp_at_succ
def errR (lo hi n : Nat) : Nat := if 2 ^ 40 < n then 30 else if n < hi then 31 else if hi < lo then 41 else 0
def covR (lo hi n : Nat) : List (Nat × Nat) := if errR lo hi n = 0 then cov lo hi else []
theorem ia_new (w : World) : IA w.heap.size (fun _ => False) [] (w.alloc (.cells #[.slice none 0 0] 65)) :=
  ⟨⟨.slice none 0 0, heap_new _ _, World.ownsRow_nil _ _ _ _, fun _ _ h => h⟩, fun h => h⟩
theorem range_err (lo hi n e : Nat) (w : World) (he : errR lo hi n = e) (h0 : e ≠ 0) :
    Calls Tryz.prog 62 #[.int .u64 (lo : Int), .int .u64 (hi : Int), .int .u64 (n : Int)] w fun x w' => ∃ v, x = .returned (.tuple #[v, .int .i64 (e : Int)]) ∧ OwnB w' w.heap.size v [] ∧ Below w.heap.size w w' := by
  unfold errR at he
  by_cases h1 : 2 ^ 40 < n
  · rw [if_pos h1] at he
    subst he
    have ht : decide ((1099511627776 : Int) < (n : Int)) = true := decide_eq_true (by omega)
    clear h0 h1
    go_enter Tryz.func62, Tryz.ntmps62
    go_wp2
    go_ret2
    exact ⟨_, rfl, World.ownsRow_nil _ _ _ _, Below.refl _ _⟩
  · rw [if_neg h1] at he
    have ht : decide ((1099511627776 : Int) < (n : Int)) = false := decide_eq_false (by omega)
    by_cases h2 : n < hi
    · rw [if_pos h2] at he
      subst he
      have ht2 : (n : Int) < (hi : Int) := by omega
      clear h0 h1
      go_enter Tryz.func62, Tryz.ntmps62
      go_wp2
      go_ret2
      exact ⟨_, rfl, World.ownsRow_nil _ _ _ _, Below.refl _ _⟩
    · rw [if_neg h2] at he
      have ht2 : ¬ (n : Int) < (hi : Int) := by omega
      by_cases h3 : hi < lo
      · rw [if_pos h3] at he
        subst he
        have ht3 : (hi : Int) < (lo : Int) := by omega
        clear h0 h1
        go_enter Tryz.func62, Tryz.ntmps62
        go_wp2
        go_ret2
        exact ⟨_, rfl, World.ownsRow_nil _ _ _ _, Below.refl _ _⟩
      · rw [if_neg h3] at he
        exact absurd he.symm h0
theorem range_ok (lo hi n : Nat) (w : World) (hn : n ≤ 2 ^ 40) (hh : hi ≤ n) (hl : lo ≤ hi) :
    Calls Tryz.prog 62 #[.int .u64 (lo : Int), .int .u64 (hi : Int), .int .u64 (n : Int)] w fun x w' => ∃ v, x = .returned (.tuple #[v, .int .i64 0]) ∧ OwnB w' w.heap.size v (zl (cov lo hi)) ∧ Below w.heap.size w w' := by
  have ht : decide ((1099511627776 : Int) < (n : Int)) = false := decide_eq_false (by omega)
  have ht2 : ¬ (n : Int) < (hi : Int) := by omega
  have ht3 : ¬ (hi : Int) < (lo : Int) := by omega
  have ht2' : ¬ n < hi := by omega
  have ht3' : ¬ hi < lo := by omega
  have HE := each_any (.inl rfl) (give_range w.heap.size) (fun _ => False) [] lo hi (w.alloc (.cells #[.slice none 0 0] 65)) (ia_new w) (fun _ h => h.elim) (by decide) hl (by omega)
  clear hn hh hl
  go_enter Tryz.func62, Tryz.ntmps62
  go_upto_region 9 with ((go_at_call 104; with_reducible refine HE.mono ?_; rintro e w1 ⟨rfl, hI, hb, _⟩))
  obtain ⟨⟨v, h1, h2, _⟩, _⟩ := hI
  have c0 := cell_of_one h1
  obtain ⟨ao, m, c, rfl⟩ := own_slice h2
  have HF : Hid (OwnB w1 w.heap.size (.slice ao m c) (zl (cov lo hi)) ∧ Below w.heap.size w w1) := ⟨by
    have := h2.mono (base' := w.heap.size) (by omega)
    simpa using this, ((Below.refl _ w).alloc (Nat.le_refl _) _).trans hb⟩
  clear h1 h2 hb HE
  go_wp2
  go_ret2
  exact ⟨_, rfl, HF.out.1, HF.out.2⟩
theorem range_any (lo hi n : Nat) (w : World) :
    Calls Tryz.prog 62 #[.int .u64 (lo : Int), .int .u64 (hi : Int), .int .u64 (n : Int)] w fun x w' => ∃ v, x = .returned (.tuple #[v, .int .i64 (errR lo hi n : Nat)]) ∧ OwnB w' w.heap.size v (zl (covR lo hi n)) ∧ Below w.heap.size w w' := by
  by_cases h : errR lo hi n = 0
  · have h' := h
    unfold errR at h'
    split at h'
    · cases h'
    · split at h'
      · cases h'
      · split at h'
        · cases h'
        · rw [h, covR, if_pos h]
          exact range_ok lo hi n w (by omega) (by omega) (by omega)
  · rw [covR, if_neg h]
    exact range_err lo hi n _ w rfl h
theorem mountains_any (n : Nat) (w : World) :
    Calls Tryz.prog 61 #[.int .u64 (n : Int)] w fun x w' => ∃ v, x = .returned (.tuple #[v, .int .i64 (errR 0 n n : Nat)]) ∧ OwnB w' w.heap.size v (zl (covR 0 n n)) ∧ Below w.heap.size w w' := by
  have HR : Calls Tryz.prog 62 #[.int .u64 0, .int .u64 (n : Int), .int .u64 (n : Int)] w fun x w' => ∃ v, x = .returned (.tuple #[v, .int .i64 (errR 0 n n : Nat)]) ∧ OwnB w' w.heap.size v (zl (covR 0 n n)) ∧ Below w.heap.size w w' := range_any 0 n n w
  generalize errR 0 n n = e at *
  generalize covR 0 n n = L at *
  go_enter Tryz.func61, Tryz.ntmps61
  go_wp2_with (go_at_call 62; with_reducible refine HR.mono ?_; rintro x w1 ⟨v, rfl, h1, h2⟩)
  go_ret2
  exact ⟨_, rfl, h1, h2⟩
end Go.Proofs.YtipcenbndhnnhaaGreatDoor.Cv
namespace Go.Proofs.YtipcenbndhnnhaaGreatDoor
open Go.RowKit
open Pl (ones)
def tr : Nat → Nat → Nat
  | 0, _ => 0
  | k + 1, n => if n % 2 = 1 then 0 else tr k (n / 2) + 1
theorem tr_le (k n : Nat) : tr k n ≤ k := by
  induction k generalizing n with
  | zero => exact Nat.le_refl _
  | succ k ih => have := ih (n / 2); simp only [tr]; split <;> omega
theorem tr_step (k n : Nat) (hk : k < 64) : tr (64 - k) (n / 2 ^ k) = if n / 2 ^ k % 2 = 1 then 0 else tr (64 - (k + 1)) (n / 2 ^ (k + 1)) + 1 := by
  rw [show 64 - k = (64 - (k + 1)) + 1 by omega, tr, Pl.div_pow_succ]
theorem mod_two (n h : Nat) : n % 2 ^ (h + 1) = n % 2 + 2 * (n / 2 % 2 ^ h) := by
  rw [Nat.pow_succ, Nat.mul_comm, Nat.mod_mul]
theorem tr_lt : ∀ (F h n : Nat), h ≤ F → (tr F n < h ↔ n % 2 ^ h ≠ 0)
  | F, 0, n, _ => by simp [Nat.mod_one]
  | F + 1, h + 1, n, hh => by
    have ih := tr_lt F h (n / 2) (by omega)
    rw [mod_two]
    simp only [tr]
    by_cases e : n % 2 = 1
    · rw [if_pos e]
      constructor
      · intro _; omega
      · intro _; omega
    · rw [if_neg e]
      constructor
      · intro h1
        have := ih.1 (by omega)
        omega
      · intro h1
        have := ih.2 (by omega)
        omega
def carry (c : Nat) : Nat → Nat → List ByteArray → ByteArray → List ByteArray × List ByteArray
  | 0, _, P, d => ([d], P ++ [d])
  | f + 1, t, P, d =>
    if t % 2 = 1 then
      (d :: (carry c f (t / 2) (P.take (P.length - 1)) (dg c (nodeT (P.getD (P.length - 1) ByteArray.empty) d))).1, (carry c f (t / 2) (P.take (P.length - 1)) (dg c (nodeT (P.getD (P.length - 1) ByteArray.empty) d))).2)
    else ([d], P ++ [d])
def er (k : Int) (n : Nat) (h : Int) (s : ByteArray) : Nat :=
  if (s.size : Int) ≠ k then 90 else if h < 0 ∨ 40 < h ∨ n % 2 ^ h.toNat ≠ 0 then 41 else if 1099511627776 < n + 2 ^ h.toNat then 30 else 0
def mk (c n : Nat) (P : List ByteArray) (h : Nat) (s : ByteArray) : List ByteArray × List ByteArray := carry c (40 - h) (n / 2 ^ h) P s
def an (k : Int) (n : Nat) (P : List ByteArray) (h : Int) (s : ByteArray) : List ByteArray := if er k n h s = 0 then (mk (clk k) n P h.toNat s).1 else []
theorem clk_of {k : Int} (h1 : 1 ≤ k) (h2 : k ≤ 32) : (clk k : Int) = k := by
  unfold clk
  rw [if_neg (by omega), if_neg (by omega)]
  omega
end Go.Proofs.YtipcenbndhnnhaaGreatDoor
