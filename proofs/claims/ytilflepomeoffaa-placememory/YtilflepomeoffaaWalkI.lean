/-
  The walk of PlaceBack. Own work.
-/
import Derived.Test.YtilflepomeoffaaWalkH
namespace Go.Proofs.Ytilflepomeoffaa
open Go.RowKit
attribute [local go_sem ↓] Go.wp_at_zero Go.wp_at_succ
theorem Two.next {w w' : World} {g k : Nat} {h : Int} (t : Two w g h k) (hb : Below w.heap.size w w') : Two w' g h k := t.below hb (World.block_lt_of_cell? w _ t.c0)
/-- A parameter's box, and all that lay before it. -/
structure Kp (w w' : World) (h : Int) (k : Nat) : Prop where
  two : Two w' w.heap.size h k
  below : Below w.heap.size w w'
theorem Kp.next {w w' w'' : World} {h : Int} {k : Nat} (s : Kp w w' h k) (hb : Below w'.heap.size w' w'') : Kp w w'' h k := ⟨s.two.next hb, bnext s.below hb⟩
theorem Kp.new (w : World) (h : Int) (k t : Nat) : Kp w (w.alloc (.cells #[.int .i64 h, .int .u64 (k : Int)] t)) h k := ⟨two_new w h k t, bal (Below.refl _ _) _⟩
theorem ball (w : World) (o : Obj) : Below w.heap.size w (w.alloc o) := bal (Below.refl _ _) o
theorem Two.at0 {w : World} {g k : Nat} {h : Int} (t : Two w g h k) : w.cell? ⟨g, 0, none⟩ = some (.int .i64 h) ∧ w.cell? ⟨g, 1, none⟩ = some (.int .u64 (k : Int)) := ⟨t.c0, t.c1⟩
set_option maxHeartbeats 4000000 in
set_option maxRecDepth 100000 in
theorem back_core (p q : Nat) (h : Int) (k : Nat) (xh xk : Nat) (f g : Bool) (w : World)
    (HBp : ∀ w', Calls Try.prog 13 #[.int .u64 (p : Int)] w' fun e w'' => e = .returned (.tuple #[bv xh xk, .bool f]) ∧ Below w'.heap.size w' w'')
    (hf : decide ((p : Int) ≤ 2199023255550) = f)
    (HMx : f = true → ∀ w', Calls Try.prog 14 #[.agg #[.int .i64 (xh : Int), .int .u64 (xk : Int)]] w' fun e w'' => e = .returned (.bool true) ∧ Below w'.heap.size w' w'')
    (HOx : f = true → ∀ w', Calls Try.prog 15 #[.agg #[.int .i64 (xh : Int), .int .u64 (xk : Int)]] w' fun e w'' => e = .returned (.tuple #[.int .u64 (p : Int), .bool true]) ∧ Below w'.heap.size w' w'')
    (hx0 : f = false → xh = 0 ∧ xk = 0)
    (HOb : ∀ w', Calls Try.prog 15 #[.agg #[.int .i64 h, .int .u64 (k : Int)]] w' fun e w'' => e = .returned (.tuple #[.int .u64 (q : Int), .bool g]) ∧ Below w'.heap.size w' w'')
    (HMb : ∀ w', Calls Try.prog 14 #[.agg #[.int .i64 h, .int .u64 (k : Int)]] w' fun e w'' => e = .returned (.bool g) ∧ Below w'.heap.size w' w'')
    (hq0 : g = false → q = 0)
    (HBq : g = true → ∀ w', Calls Try.prog 13 #[.int .u64 (q : Int)] w' fun e w'' => e = .returned (.tuple #[bz h k, .bool true]) ∧ Below w'.heap.size w' w'')
    (hq1 : g = true → decide ((q : Int) ≤ 2199023255550) = true) :
    Calls Try.prog 4 #[.int .u64 (p : Int), bz h k] w fun e w' => e = .returned (.bool true) ∧ Below w.heap.size w w' := by
  have HA := fun w' => alive_any w'
  go_enter Try.func4, Try.ntmps4
  go_upto_region 4 with (first
    | (go_at_call 9; with_reducible refine (HA _).mono ?_; rintro e w1 ⟨rfl, hb1⟩)
    | (go_at_call 13; with_reducible refine (HBp _).mono ?_; rintro e w2 ⟨rfl, hb2⟩))
  have HK3 : Hid (Kp w (w2.alloc (.cells #[.int .i64 (xh : Int), .int .u64 (xk : Int)] 33)) h k) := (((Kp.new w h k 33).next hb1).next hb2).next (ball _ _)
  have t3 := two_new w2 xh xk 33
  clear hb1 hb2 HA HBp
  generalize (w2.alloc (.cells #[.int .i64 (xh : Int), .int .u64 (xk : Int)] 33)) = w3 at *
  cases f
  · obtain ⟨rfl, rfl⟩ := hx0 rfl
    obtain ⟨c0, c1⟩ := t3.at0
    clear HMx HOx hx0 t3
    go_upto_region 10 with (fail)
    have HK := HK3
    obtain ⟨d0, d1⟩ := HK.out.two.at0
    clear HK3 c0 c1
    go_upto_region 11 with ((go_at_call 15; with_reducible refine (HOb _).mono ?_; rintro e w6 ⟨rfl, hb6⟩))
    have HK6 : Hid (Kp w w6 h k) := HK.out.next hb6
    clear HK d0 d1 hb6 HOb
    obtain ⟨d0, d1⟩ := HK6.out.two.at0
    cases g
    · obtain rfl := hq0 rfl
      clear HBq hq1 hq0
      go_wp2_with ((go_at_call 14; with_reducible refine (HMb _).mono ?_; rintro e w7 ⟨rfl, hb7⟩))
      go_ret
      exact ⟨rfl, (HK6.out.next hb7).below⟩
    · have HQ := HBq rfl
      have hq := hq1 rfl
      clear HBq hq1 hq0
      go_upto_region 16 with (first
        | (go_at_call 14; with_reducible refine (HMb _).mono ?_; rintro e w7 ⟨rfl, hb7⟩)
        | (go_at_call 13; with_reducible refine (HQ _).mono ?_; rintro e w8 ⟨rfl, hb8⟩))
      have HK8 : Hid (Kp w (w8.alloc (.cells #[.int .i64 h, .int .u64 (k : Int)] 33)) h k) := ((HK6.out.next hb7).next hb8).next (ball _ _)
      have t8 := two_new w8 h k 33
      clear hb7 hb8 HQ HMb HK6 d0 d1
      generalize (w8.alloc (.cells #[.int .i64 h, .int .u64 (k : Int)] 33)) = w9 at *
      obtain ⟨d0, d1⟩ := HK8.out.two.at0
      obtain ⟨y0, y1⟩ := t8.at0
      clear t8
      go_wp2
      go_ret
      exact ⟨rfl, HK8.out.below⟩
  · have HM := HMx rfl
    have HO := HOx rfl
    have HT3 : Hid (Two w3 w2.heap.size xh xk) := t3
    obtain ⟨c0, c1⟩ := t3.at0
    clear HMx HOx hx0 t3
    go_upto_region 7 with ((go_at_call 14; with_reducible refine (HM _).mono ?_; rintro e w4 ⟨rfl, hb4⟩))
    have HK4 : Hid (Kp w w4 h k) := HK3.out.next hb4
    have t4 := HT3.out.next hb4
    clear c0 c1 HK3 hb4 HT3 HM
    obtain ⟨c0, c1⟩ := t4.at0
    clear t4
    go_upto_region 10 with ((go_at_call 15; with_reducible refine (HO _).mono ?_; rintro e w5 ⟨rfl, hb5⟩))
    have HK : Hid (Kp w w5 h k) := HK4.out.next hb5
    obtain ⟨d0, d1⟩ := HK.out.two.at0
    clear HK4 c0 c1 hb5 HO
    go_upto_region 11 with ((go_at_call 15; with_reducible refine (HOb _).mono ?_; rintro e w6 ⟨rfl, hb6⟩))
    have HK6 : Hid (Kp w w6 h k) := HK.out.next hb6
    clear HK d0 d1 hb6 HOb
    obtain ⟨d0, d1⟩ := HK6.out.two.at0
    cases g
    · obtain rfl := hq0 rfl
      clear HBq hq1 hq0
      go_wp2_with ((go_at_call 14; with_reducible refine (HMb _).mono ?_; rintro e w7 ⟨rfl, hb7⟩))
      go_ret
      exact ⟨rfl, (HK6.out.next hb7).below⟩
    · have HQ := HBq rfl
      have hq := hq1 rfl
      clear HBq hq1 hq0
      go_upto_region 16 with (first
        | (go_at_call 14; with_reducible refine (HMb _).mono ?_; rintro e w7 ⟨rfl, hb7⟩)
        | (go_at_call 13; with_reducible refine (HQ _).mono ?_; rintro e w8 ⟨rfl, hb8⟩))
      have HK8 : Hid (Kp w (w8.alloc (.cells #[.int .i64 h, .int .u64 (k : Int)] 33)) h k) := ((HK6.out.next hb7).next hb8).next (ball _ _)
      have t8 := two_new w8 h k 33
      clear hb7 hb8 HQ HMb HK6 d0 d1
      generalize (w8.alloc (.cells #[.int .i64 h, .int .u64 (k : Int)] 33)) = w9 at *
      obtain ⟨d0, d1⟩ := HK8.out.two.at0
      obtain ⟨y0, y1⟩ := t8.at0
      clear t8
      go_wp2
      go_ret
      exact ⟨rfl, HK8.out.below⟩
theorem back_walk (p : Nat) (h : Int) (k : Nat) (w : World) :
    Calls Try.prog 4 #[.int .u64 (p : Int), bz h k] w fun e w' => e = .returned (.bool true) ∧ Below w.heap.size w w' := by
  have hdec : ∀ x : Nat, decide ((x : Int) ≤ 2199023255550) = decide (x ≤ most) := fun x => by
    simp only [most]; exact decide_eq_decide.2 (by omega)
  have hx : ∀ w', p ≤ most → Calls Try.prog 14 #[.agg #[.int .i64 ((blk' p).1 : Int), .int .u64 ((blk' p).2 : Int)]] w' fun e w'' => e = .returned (.bool true) ∧ Below w'.heap.size w' w'' := fun w' hp => by
    rw [blk', if_pos hp]
    obtain ⟨m1, m2, m3⟩ := blk_at p hp
    have := may_else (blk p).1 (blk p).2 w' m1
    rwa [decide_eq_true m2] at this
  have ho : ∀ w', p ≤ most → Calls Try.prog 15 #[.agg #[.int .i64 ((blk' p).1 : Int), .int .u64 ((blk' p).2 : Int)]] w' fun e w'' => e = .returned (.tuple #[.int .u64 (p : Int), .bool true]) ∧ Below w'.heap.size w' w'' := fun w' hp => by
    rw [blk', if_pos hp]
    obtain ⟨m1, m2, m3⟩ := blk_at p hp
    have := of_yes (blk p).1 (blk p).2 w' m1 m2
    rwa [m3] at this
  by_cases hm : May h k
  · obtain ⟨m1, m2, m3⟩ := hm
    obtain ⟨j, rfl⟩ : ∃ j : Nat, h = (j : Int) := ⟨h.toNat, by omega⟩
    have m3' : k < pw (40 - j) := by simpa using m3
    obtain ⟨q1, q2⟩ := at_blk j k (by omega) m3'
    refine back_core p (at' j k) j k (blk' p).1 (blk' p).2 (decide (p ≤ most)) true w (fun w' => block_any p w') (hdec p) (fun hf w' => hx w' (of_decide_eq_true hf)) (fun hf w' => ho w' (of_decide_eq_true hf)) (fun hf => ?_)
      (fun w' => of_yes j k w' (by omega) m3') (fun w' => ?_) (fun h => by cases h) (fun _ w' => ?_) (fun _ => by rw [hdec]; exact decide_eq_true q1)
    · rw [blk', if_neg (of_decide_eq_false hf)]; exact ⟨rfl, rfl⟩
    · have := may_else j k w' (by omega)
      rwa [decide_eq_true m3'] at this
    · have := block_yes (at' j k) w' q1
      rwa [q2] at this
  · refine back_core p 0 h k (blk' p).1 (blk' p).2 (decide (p ≤ most)) false w (fun w' => block_any p w') (hdec p) (fun hf w' => hx w' (of_decide_eq_true hf)) (fun hf w' => ho w' (of_decide_eq_true hf)) (fun hf => ?_)
      (fun w' => of_no h k w' hm) (fun w' => may_no h k w' hm) (fun _ => rfl) (fun h => by cases h) (fun h => by cases h)
    · rw [blk', if_neg (of_decide_eq_false hf)]; exact ⟨rfl, rfl⟩
theorem u64_nat {a : Int} (wf : (Lit.int .u64 a).wf = true) : ∃ n : Nat, a = (n : Int) ∧ n < 2 ^ 64 := by
  have := bounds_u64 wf
  exact ⟨a.toNat, by omega, by omega⟩
theorem back_row (a h k : Int) (w0 : (Lit.int .u64 a).wf = true) (w1 : (Lit.int .u64 k).wf = true) (w : World) :
    Calls Try.prog 4 #[.int .u64 a, .agg #[.int .i64 h, .int .u64 k]] w fun e w' => e = .returned (.bool true) ∧ Below w.heap.size w w' := by
  obtain ⟨p, rfl, _⟩ := u64_nat w0
  obtain ⟨m, rfl, _⟩ := u64_nat w1
  exact back_walk p h m w
end Go.Proofs.Ytilflepomeoffaa
