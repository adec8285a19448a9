/-
  The walk of PlainBegins. Own work.
-/
import Derived.Test.YtihcdmnodpknlaaDoorPAlive
namespace Go.Proofs.YtihcdmnodpknlaaDoor
open Go.RowKit
attribute [local go_sem ↓] Go.wp_at_zero Go.wp_at_succ
theorem rt_begin {c : Nat} {A B : List ByteArray} {n : Nat} (h : n ≤ A.length) : rtD c (A ++ B) n = rtD c A n := by
  rw [rtD, rtD, List.take_append_of_le_length h]
set_option maxRecDepth 100000 in
set_option maxHeartbeats 1000000 in
theorem begins_core (w : World) (ht : Tb w) (ao : Option Addr) (b off m cap : Nat) (A : List ByteArray) (ra : RdS w ao b off m A) (sa : ∀ s ∈ A, s.size ≤ 140737488351232) (hm : m ≤ 300) (hc : m ≤ cap) (hn : ao = none → cap = 0)
    (len : Nat) (HF1 : ∀ W, Calls Tryd.prog 8 #[.slice ao len cap] W fun e w' => e = .returned (.slice ao m cap) ∧ w' = W)
    (ao2 : Option Addr) (b2 off2 m2 cap2 : Nat) (D : List ByteArray) (rd : RdS w ao2 b2 off2 m2 D) (sd : ∀ s ∈ D, s.size ≤ 140737488351232) (hm2 : m2 ≤ 300) (hn2 : ao2 = none → cap2 = 0)
    (len2 : Nat) (HF2 : ∀ W, Calls Tryd.prog 8 #[.slice ao2 len2 cap2] W fun e w' => e = .returned (.slice ao2 m2 cap2) ∧ w' = W)
    (n M : Nat) (hM : M ≤ m) (hor : (n < m ∧ M = n) ∨ (¬ (n < m) ∧ M = m)) :
    Calls Tryd.prog 3 #[.slice ao len cap, .slice ao2 len2 cap2, .int .u64 (n : Int)] w fun e w' => e = .returned (.bool true) ∧ Below w.heap.size w w' := by
  have HA : Hid (∀ W, Below w.heap.size w W → Calls Tryd.prog 7 #[] W fun e w' => e = .returned (.bool true) ∧ Below W.heap.size W w') := fun W hb => alive_any W (ht.next hb)
  obtain ⟨r, hr⟩ : ∃ r, Hid (rtD (clk 16) A M = r) := ⟨_, rfl⟩
  obtain ⟨z, hz⟩ : ∃ z, m + 1 + n % 1000 = z := ⟨_, rfl⟩
  have e0 : IntKind.u64.wrap (m : Int) = (m : Int) := wrap_u _ (by omega) (by omega)
  have e1 : IntKind.u64.wrap ((m : Int) + 1) = (m : Int) + 1 := wrap_u _ (by omega) (by omega)
  have e2 : IntKind.u64.wrap ((m : Int) + 1 + (n : Int) % 1000) = (z : Int) := by rw [wrap_u _ (by omega) (by omega)]; omega
  have R1 : Hid (∀ W, Below w.heap.size w W → Calls Tryd.prog 9 #[.int .i64 16, .slice ao m cap, .int .u64 (M : Int)] W fun e w' => e = .returned (.tuple #[.agg #[.int .u64 (M : Int), .string r], .int .i64 0]) ∧ Below W.heap.size W w') := fun W hb => proot_ok W (ht.next hb) 16 (by decide) (by decide) ao b off m cap A (ra.next hb (Nat.le_refl _)) sa (by omega) hc M hM r hr
  have R2 : Hid (∀ W, Below w.heap.size w W → ∀ ao' b' cap', (A ++ D).length ≤ cap' → RdS W ao' b' 0 (A ++ D).length (A ++ D) → Calls Tryd.prog 9 #[.int .i64 16, .slice ao' (A ++ D).length cap', .int .u64 (M : Int)] W fun e w' => e = .returned (.tuple #[.agg #[.int .u64 (M : Int), .string r], .int .i64 0]) ∧ Below W.heap.size W w') := fun W hb ao' b' cap' hc' rr => by
    have la := ra.hl
    have ld := rd.hl
    refine proot_ok W (ht.next hb) 16 (by decide) (by decide) ao' b' 0 (A ++ D).length cap' (A ++ D) rr (fun s hs => ?_) (by simp; omega) hc' M (by simp; omega) r ?_
    · rcases List.mem_append.1 hs with h | h
      · exact sa s h
      · exact sd s h
    · show _ = _
      rw [rt_begin (by omega)]; exact hr.out
  have R3 : Hid (∀ W, Calls Tryd.prog 9 #[.int .i64 16, .slice ao m cap, .int .u64 (z : Int)] W fun e w' => e = .returned (.tuple #[.agg #[.int .u64 0, .string ⟨#[]⟩], .int .i64 30]) ∧ Below W.heap.size W w') := fun W => proot_size W 16 (by decide) (by decide) ao m cap z (by omega) (by omega)
  have HRa : Hid (∀ W, Below w.heap.size w W → RdS W ao b off A.length A) := fun W h => by rw [ra.hl]; exact ra.next h (Nat.le_refl _)
  have HRd : Hid (∀ W, Below w.heap.size w W → RdS W ao2 b2 off2 D.length D) := fun W h => by rw [rd.hl]; exact rd.next h (Nat.le_refl _)
  have HSz : Hid (∀ s ∈ A ++ D, s.size ≤ 9223372036854775807) := fun s hs => by
    rcases List.mem_append.1 hs with h | h
    · exact Nat.le_trans (sa s h) (by decide)
    · exact Nat.le_trans (sd s h) (by decide)
  have HLn : Hid (A.length ≤ 300 ∧ D.length ≤ 300) := ⟨by rw [ra.hl]; exact hm, by rw [rd.hl]; exact hm2⟩
  have lA := ra.hl
  have lD := rd.hl
  have hb := Below.refl w.heap.size w
  have hor' : ((n : Int) < (m : Int) ∧ M = n) ∨ (¬ ((n : Int) < (m : Int)) ∧ M = m) := by
    rcases hor with h | h
    · exact .inl ⟨by omega, h.2⟩
    · exact .inr ⟨by omega, h.2⟩
  have HF1' := hide HF1
  have HF2' := hide HF2
  clear ra rd sa sd ht hr hz hm hm2 hc hor hM HF1 HF2
  go_enter Tryd.func3, Tryd.ntmps3
  go_upto_region 6 with (first
    | (go_at_call 7; with_reducible refine (HA.out _ hb).mono ?_; rintro e w1 ⟨rfl, hb1⟩; replace hb := bnext hb hb1; clear hb1)
    | (go_at_call 8; with_reducible refine (HF1'.out _).mono ?_; rintro e w2 ⟨rfl, rfl⟩)
    | (go_at_call 8; with_reducible refine (HF2'.out _).mono ?_; rintro e w2 ⟨rfl, rfl⟩)
    | (at_builtin; refine wpList_append_S _ rfl _ _ rfl w.heap.size _ [] rfl (owns_nil _ _) ao b off cap A (by rw [lA]; rfl) (HRa.out _ hb) hn ?_ hb.size ?_; rotate_left; intro v1 w3 h1 hb1; replace hb := hb.trans hb1)
    | (at_builtin; refine wpList_append_S _ rfl _ _ rfl w.heap.size _ A rfl h1 ao2 b2 off2 cap2 D (by rw [lD]; rfl) (HRd.out _ hb) hn2 ?_ hb.size ?_; rotate_left; intro v2 w4 h2 hb2; replace hb := hb.trans hb2))
  rotate_left
  · have := HLn.out; omega
  · have := HLn.out; simp; omega
  obtain ⟨ao', b', cap', rfl, hr', hc', _⟩ := owns_rds h2 HSz.out
  obtain ⟨q, hq⟩ : ∃ q, (A ++ D).length = q := ⟨_, rfl⟩
  have R2' : Hid (∀ W, Below w4.heap.size w4 W → Calls Tryd.prog 9 #[.int .i64 16, .slice ao' q cap', .int .u64 (M : Int)] W fun e w' => e = .returned (.tuple #[.agg #[.int .u64 (M : Int), .string r], .int .i64 0]) ∧ Below W.heap.size W w') := fun W h => by
    rw [← hq]; exact R2.out W (bnext hb h) ao' b' cap' hc' (hr'.next h (Nat.le_refl _))
  have R1' : Hid (∀ W, Below w4.heap.size w4 W → Calls Tryd.prog 9 #[.int .i64 16, .slice ao m cap, .int .u64 (M : Int)] W fun e w' => e = .returned (.tuple #[.agg #[.int .u64 (M : Int), .string r], .int .i64 0]) ∧ Below W.heap.size W w') := fun W h => R1.out W (bnext hb h)
  have HB : Hid (∀ W, Below w4.heap.size w4 W → Below w.heap.size w W) := fun W h => bnext hb h
  rw [hq]
  clear h2 hr' hc' hq R1 R2 HF1' HF2' HA HRa HRd HSz HLn lA lD h1 hb1 hb2 hb hn hn2
  have hb := Below.refl w4.heap.size w4
  rcases hor' with ⟨ho, rfl⟩ | ⟨ho, rfl⟩
  all_goals
    go_wp2_with (first
      | (go_at_call 9; with_reducible refine (R1'.out _ hb).mono ?_; rintro e w5 ⟨rfl, hb5⟩; have hb6 := bal (bnext hb hb5) (.cells #[.int .u64 (M : Int), .string r] 27); have T1 := rt_new w5 M r 27)
      | (go_at_call 9; with_reducible refine (R2'.out _ hb6).mono ?_; rintro e w7 ⟨rfl, hb7⟩; have T1' := T1.below hb7 (by simp); have T2 := rt_new w7 M r 27; have hb8 := bal (bnext hb6 hb7) (.cells #[.int .u64 (M : Int), .string r] 27))
      | (go_at_call 9; with_reducible refine (R3.out _).mono ?_; rintro e w9 ⟨rfl, hb9⟩; have hb10 := bnext hb8 hb9; have U2 := T2.below hb9 (by simp); have U1 := (T1'.below (bal (Below.refl w7.heap.size w7) _) (by have := hb7.size; simp at this; omega)).below hb9 (by have := hb7.size; simp at this ⊢; omega); have hb11 := bal hb10 (.cells #[.int .u64 0, .string ⟨#[]⟩] 27); have s9 := hb9.size; have s7 := hb7.size; simp at s7 s9; have V1 := U1.below (bal (Below.refl w9.heap.size w9) (.cells #[.int .u64 0, .string ⟨#[]⟩] 27)) (by omega); have V2 := U2.below (bal (Below.refl w9.heap.size w9) (.cells #[.int .u64 0, .string ⟨#[]⟩] 27)) (by omega); have a0 := V1.c0; have a1 := V1.c1; have a2 := V2.c0; have a3 := V2.c1; have HF := hide (HB.out _ hb11); clear U1 U2 T1 T1' T2 V1 V2 hb5 hb6 hb7 hb8 hb9 hb10 hb11 s7 s9))
    go_ret
    exact ⟨rfl, HF.out⟩
theorem begins_walk (w : World) (ht : Tb w) (ao : Option Addr) (b off len cap : Nat) (L : List ByteArray) (hr : RdS w ao b off len L) (hsz : ∀ s ∈ L, s.size ≤ 140737488351232) (hc : len ≤ cap) (hn : ao = none → cap = 0)
    (ao2 : Option Addr) (b2 off2 len2 cap2 : Nat) (L2 : List ByteArray) (hr2 : RdS w ao2 b2 off2 len2 L2) (hsz2 : ∀ s ∈ L2, s.size ≤ 140737488351232) (hc2 : len2 ≤ cap2) (hn2 : ao2 = none → cap2 = 0) (n : Nat) :
    Calls Tryd.prog 3 #[.slice ao len cap, .slice ao2 len2 cap2, .int .u64 (n : Int)] w fun e w' => e = .returned (.bool true) ∧ Below w.heap.size w w' := by
  have t1 := hr.take (n := min len 300) (by omega)
  have t2 := hr2.take (n := min len2 300) (by omega)
  refine begins_core w ht ao b off (min len 300) cap _ t1 (fun s hs => hsz s (List.mem_of_mem_take hs)) (by omega) (by omega) hn len (fun W => few_any W ao len cap hc _ rfl) ao2 b2 off2 (min len2 300) cap2 _ t2 (fun s hs => hsz2 s (List.mem_of_mem_take hs)) (by omega) hn2 len2 (fun W => few_any W ao2 len2 cap2 hc2 _ rfl) n (if n < min len 300 then n else min len 300) (by split <;> omega) ?_
  by_cases h : n < min len 300
  · exact .inl ⟨h, by rw [if_pos h]⟩
  · exact .inr ⟨h, by rw [if_neg h]⟩
theorem u64_nat {a : Int} (wf : (Lit.int .u64 a).wf = true) : ∃ n : Nat, a = (n : Int) ∧ n < 2 ^ 64 := by
  have := bounds_u64 wf
  exact ⟨a.toNat, by omega, by omega⟩
theorem begins_row (w : World) (ht : Tb w) (ao : Option Addr) (b off len cap : Nat) (L : List ByteArray) (hr : RdS w ao b off len L) (hsz : ∀ s ∈ L, s.size ≤ 140737488351232) (hc : len ≤ cap) (hn : ao = none → cap = 0)
    (ao2 : Option Addr) (b2 off2 len2 cap2 : Nat) (L2 : List ByteArray) (hr2 : RdS w ao2 b2 off2 len2 L2) (hsz2 : ∀ s ∈ L2, s.size ≤ 140737488351232) (hc2 : len2 ≤ cap2) (hn2 : ao2 = none → cap2 = 0) (a : Int) (wf : (Lit.int .u64 a).wf = true) :
    Calls Tryd.prog 3 #[.slice ao len cap, .slice ao2 len2 cap2, .int .u64 a] w fun e w' => e = .returned (.bool true) ∧ Below w.heap.size w w' := by
  obtain ⟨n, rfl, _⟩ := u64_nat wf
  exact begins_walk w ht ao b off len cap L hr hsz hc hn ao2 b2 off2 len2 cap2 L2 hr2 hsz2 hc2 hn2 n
end Go.Proofs.YtihcdmnodpknlaaDoor
