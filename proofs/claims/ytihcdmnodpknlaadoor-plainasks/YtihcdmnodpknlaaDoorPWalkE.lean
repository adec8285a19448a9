/-
  The walk of PlainAsks. Own work.
-/
import Derived.Test.YtihcdmnodpknlaaDoorPWalkD
import Derived.Test.YtihcdmnodpknlaaDoorPRefD
namespace Go.Proofs.YtihcdmnodpknlaaDoor
open Go.RowKit
attribute [local go_sem ↓] Go.wp_at_zero Go.wp_at_succ
set_option maxRecDepth 100000 in
set_option maxHeartbeats 4000000 in
theorem asks_core (w : World) (ht : Tb w) (htr : Tr w) (k h : Int) (i : Nat) (ao : Option Addr) (b off m cap : Nat) (A : List ByteArray) (ra : RdS w ao b off m A) (sa : ∀ s ∈ A, s.size ≤ 140737488351232) (hm : m ≤ 300) (hc : m ≤ cap) (hn : ao = none → cap = 0)
    (len : Nat) (HF1 : ∀ W, Calls Tryd.prog 8 #[.slice ao len cap] W fun e w' => e = .returned (.slice ao m cap) ∧ w' = W)
    (D : ByteArray) (t : Bool)
    (HT1 : ∀ W ao' b' off' cap', Tb W → RdS W ao' b' off' m A → Calls Tryd.prog 10 #[.int .i64 k, .slice ao' m cap', .agg #[.int .i64 h, .int .u64 (i : Int)]] W fun e w' => e = .returned (.tuple #[.string D, .bool t]) ∧ Below W.heap.size W w')
    (HT2 : ∀ W ao' b' off' cap', m ≤ cap' → Tr W → RdS W ao' b' off' m A → Calls Tryd.prog 18 #[.int .i64 k, .slice ao' m cap', .agg #[.int .i64 h, .int .u64 (i : Int)]] W fun e w' => e = .returned (.tuple #[.string D, .bool t]) ∧ Below W.heap.size W w')
    (R : ByteArray) (n : Nat) (e : Int)
    (HR1 : ∀ W ao' b' off' cap', m ≤ cap' → Tb W → RdS W ao' b' off' m A → Calls Tryd.prog 9 #[.int .i64 k, .slice ao' m cap', .int .u64 (i : Int)] W fun x w' => x = .returned (.tuple #[.agg #[.int .u64 (n : Int), .string R], .int .i64 e]) ∧ Below W.heap.size W w')
    (HR2 : ∀ W ao' b' off' cap', m ≤ cap' → Tr W → RdS W ao' b' off' m A → Calls Tryd.prog 19 #[.int .i64 k, .slice ao' m cap', .int .u64 (i : Int)] W fun x w' => x = .returned (.tuple #[.agg #[.int .u64 (n : Int), .string R], .int .i64 e]) ∧ Below W.heap.size W w') :
    Calls Tryd.prog 6 #[.int .i64 k, .slice ao len cap, .agg #[.int .i64 h, .int .u64 (i : Int)]] w fun e w' => e = .returned (.bool true) ∧ Below w.heap.size w w' := by
  have HA : Hid (∀ W, Below w.heap.size w W → Calls Tryd.prog 7 #[] W fun e w' => e = .returned (.bool true) ∧ Below W.heap.size W w') := fun W hb => alive_any W (ht.next hb)
  have HLn : Hid (∀ W, Below w.heap.size w W → Calls Tryd.prog 17 #[.slice ao m cap] W fun e w' => ∃ g cap', e = .returned (.slice (some ⟨g, 0, none⟩) m cap') ∧ m + 1 ≤ cap' ∧ w'.rangeAt g 0 ((A ++ [markB]).map Value.string) ∧ Below W.heap.size W w') := fun W h => lent_any W ao b off m cap A (ra.next h (Nat.le_refl _)) (by omega) hn
  have HF := hide HF1
  have HQ : Hid (Tb w ∧ Tr w ∧ RdS w ao b off m A ∧ (∀ s ∈ A, s.size ≤ 140737488351232) ∧ m ≤ 300 ∧ m ≤ cap) := ⟨ht, htr, ra, sa, hm, hc⟩
  have G1 := hide HT1
  have G2 := hide HT2
  have G3 := hide HR1
  have G4 := hide HR2
  have hbx := bx_new w h i 34
  clear HF1 ht htr ra sa hm hc hn HT1 HT2 HR1 HR2
  go_enter Tryd.func6, Tryd.ntmps6
  go_upto_region 5 with (first
    | (go_at_call 7; with_reducible refine (HA.out _ hbx.below).mono ?_; rintro e1 w1 ⟨rfl, hb1⟩; replace hbx := hbx.next hb1; clear hb1)
    | (go_at_call 8; with_reducible refine (HF.out _).mono ?_; rintro e2 w2 ⟨rfl, rfl⟩)
    | (go_at_call 17; with_reducible refine (HLn.out _ hbx.below).mono ?_; rintro e3 w3 ⟨g, cap', rfl, hc', hg, hb3⟩; replace hbx := hbx.next hb3; clear hb3))
  clear HA HLn HF
  obtain ⟨q1, q2, q3, q4, q5, q6⟩ := HQ.out
  have RA : ∀ W, Below w3.heap.size w3 W → RdS W ao b off m A := fun W hW => q3.next (hbx.below.trans (hW.mono hbx.below.size)) (Nat.le_refl _)
  have TB : ∀ W, Below w3.heap.size w3 W → Tb W := fun W hW => q1.next (hbx.below.trans (hW.mono hbx.below.size))
  have TR : ∀ W, Below w3.heap.size w3 W → Tr W := fun W hW => q2.next (hbx.below.trans (hW.mono hbx.below.size))
  have RG : ∀ W, Below w3.heap.size w3 W → W.rangeAt g 0 ((A ++ [markB]).map Value.string) := fun W hW => range_below hW (range_lt hg (by simp)) hg
  have RL : ∀ W, Below w3.heap.size w3 W → RdS W (some ⟨g, 0, none⟩) g 0 m A := fun W hW => by
    have := room_rds (RG W hW) q3.sz
    rwa [q3.hl] at this
  obtain ⟨P, hP⟩ : ∃ P, Hid (pks (clk k) A 41 = P) := ⟨_, rfl⟩
  have lP : P.length ≤ 41 := by rw [← hP.out]; exact pks_len _ _ _
  have HZ : Hid (∀ s ∈ P, s.size ≤ 9223372036854775807) := fun s hs => by rw [← hP.out] at hs; rw [pks_size (clk_le k) _ _ s hs]; have := clk_le k; omega
  have K1 : Hid (∀ W, Below w3.heap.size w3 W → Calls Tryd.prog 10 #[.int .i64 k, .slice (some ⟨g, 0, none⟩) m cap', .agg #[.int .i64 h, .int .u64 (i : Int)]] W fun e w' => e = .returned (.tuple #[.string D, .bool t]) ∧ Below W.heap.size W w') := fun W hW => G1.out W _ g 0 cap' (TB W hW) (RL W hW)
  have K2 : Hid (∀ W, Below w3.heap.size w3 W → Calls Tryd.prog 18 #[.int .i64 k, .slice ao m cap, .agg #[.int .i64 h, .int .u64 (i : Int)]] W fun e w' => e = .returned (.tuple #[.string D, .bool t]) ∧ Below W.heap.size W w') := fun W hW => G2.out W ao b off cap q6 (TR W hW) (RA W hW)
  have K3 : Hid (∀ W, Below w3.heap.size w3 W → Calls Tryd.prog 9 #[.int .i64 k, .slice (some ⟨g, 0, none⟩) m cap', .int .u64 (i : Int)] W fun x w' => x = .returned (.tuple #[.agg #[.int .u64 (n : Int), .string R], .int .i64 e]) ∧ Below W.heap.size W w') := fun W hW => G3.out W _ g 0 cap' (by omega) (TB W hW) (RL W hW)
  have K4 : Hid (∀ W, Below w3.heap.size w3 W → Calls Tryd.prog 19 #[.int .i64 k, .slice ao m cap, .int .u64 (i : Int)] W fun x w' => x = .returned (.tuple #[.agg #[.int .u64 (n : Int), .string R], .int .i64 e]) ∧ Below W.heap.size W w') := fun W hW => G4.out W ao b off cap q6 (TR W hW) (RA W hW)
  have K5 : Hid (∀ W, Below w3.heap.size w3 W → Calls Tryd.prog 14 #[.int .i64 k, .slice (some ⟨g, 0, none⟩) m cap'] W fun e w' => ∃ v, e = .returned v ∧ OwnS w' W.heap.size v P ∧ Below W.heap.size W w') := fun W hW => peaks_any W (TB W hW) k _ g 0 m cap' A (RL W hW) q4 (by omega) P hP
  have K6 : Hid (∀ W, Below w3.heap.size w3 W → Calls Tryd.prog 16 #[.int .i64 k, .slice ao m cap] W fun e w' => ∃ v, e = .returned v ∧ OwnS w' W.heap.size v P ∧ Below W.heap.size W w') := fun W hW => rpeaks_any W (TR W hW) k ao b off m cap A (RA W hW) q4 (by omega) q6 P hP
  have K7 : Hid (∀ W ao1 b1 c1 ao2 b2 c2, RdS W ao1 b1 0 P.length P → RdS W ao2 b2 0 P.length P → Calls Tryd.prog 13 #[.slice ao1 P.length c1, .slice ao2 P.length c2] W fun e w' => e = .returned (.bool true) ∧ Below W.heap.size W w') := fun W ao1 b1 c1 ao2 b2 c2 h1 h2 => same_any W ao1 b1 0 P.length c1 P h1 ao2 b2 0 c2 h2 (by omega)
  have K8 : Hid (∀ W, Below w3.heap.size w3 W → Calls Tryd.prog 20 #[.slice (some ⟨g, 0, none⟩) m cap', .slice ao m cap] W fun e w' => e = .returned (.bool true) ∧ Below W.heap.size W w') := fun W hW => whole_any W ao b off m cap A (RA W hW) (by omega) g cap' hc' (RG W hW)
  have HB : Hid (∀ W, Below w3.heap.size w3 W → Below w.heap.size w W) := fun W hW => hbx.below.trans (hW.mono hbx.below.size)
  have c0 := hbx.two.c0
  have c1 := hbx.two.c1
  have hb := Below.refl w3.heap.size w3
  clear q1 q2 q3 q4 q5 q6 RA TB TR RG RL hP lP HQ G1 G2 G3 G4 hg hc'
  go_wp2_with (first
    | (go_at_call 10; with_reducible refine (K1.out _ hb).mono ?_; rintro x1 w4 ⟨rfl, hb4⟩; replace hb := bnext hb hb4; replace hbx := hbx.next hb4; clear hb4 c0 c1; have c0 := hbx.two.c0; have c1 := hbx.two.c1)
    | (go_at_call 18; with_reducible refine (K2.out _ hb).mono ?_; rintro x1 w5 ⟨rfl, hb4⟩; replace hb := bnext hb hb4; replace hbx := hbx.next hb4; clear hb4 c0 c1; have c0 := hbx.two.c0; have c1 := hbx.two.c1)
    | (go_at_call 9; with_reducible refine (K3.out _ hb).mono ?_; rintro x1 w6 ⟨rfl, hb4⟩; replace hb := bal (bnext hb hb4) (.cells #[.int .u64 (n : Int), .string R] 27); replace hbx := (hbx.next hb4).next (bal (Below.refl _ _) (.cells #[.int .u64 (n : Int), .string R] 27)); clear hb4 c0 c1; have c0 := hbx.two.c0; have c1 := hbx.two.c1; have T1 := rt_new w6 n R 27)
    | (go_at_call 19; with_reducible refine (K4.out _ hb).mono ?_; rintro x1 w7 ⟨rfl, hb4⟩; replace hb := bal (bnext hb hb4) (.cells #[.int .u64 (n : Int), .string R] 27); have s7 := hb4.size; simp at s7; have U1 := (T1.below hb4 (by simp)).below (bal (Below.refl w7.heap.size w7) (.cells #[.int .u64 (n : Int), .string R] 27)) (by omega); have U2 := rt_new w7 n R 27; clear hb4 c0 c1 T1 hbx s7; have a0 := U1.c0; have a1 := U1.c1; have a2 := U2.c0; have a3 := U2.c1)
    | (go_at_call 14; with_reducible refine (K5.out _ hb).mono ?_; rintro x1 w8 ⟨v1, rfl, ho1, hb4⟩; replace hb := bnext hb hb4; clear hb4; obtain ⟨ao1, b1, cp1, rfl, rr1, _, _⟩ := owns_rds ho1 HZ.out; clear ho1)
    | (go_at_call 16; with_reducible refine (K6.out _ hb).mono ?_; rintro x1 w9 ⟨v2, rfl, ho2, hb4⟩; replace hb := bnext hb hb4; obtain ⟨ao2, b2, cp2, rfl, rr2, _, _⟩ := owns_rds ho2 HZ.out; replace rr1 := rr1.next hb4 (Nat.le_refl _); clear hb4 ho2)
    | (go_at_call 13; with_reducible refine (K7.out _ _ _ _ _ _ _ rr1 rr2).mono ?_; rintro x1 w10 ⟨rfl, hb4⟩; replace hb := bnext hb hb4; clear hb4 rr1 rr2)
    | (go_at_call 20; with_reducible refine (K8.out _ hb).mono ?_; rintro x1 w11 ⟨rfl, hb4⟩; replace hb := bnext hb hb4; clear hb4))
  go_ret
  exact ⟨rfl, HB.out _ hb⟩
theorem nat_u64 {a : Int} (wf : (Lit.int .u64 a).wf = true) : ∃ n : Nat, a = (n : Int) ∧ n < 2 ^ 64 := by
  have := bounds_u64 wf
  exact ⟨a.toNat, by omega, by omega⟩
theorem tree_both (k h : Int) (i m : Nat) (A : List ByteArray) (sa : ∀ s ∈ A, s.size ≤ 140737488351232) (hm : m ≤ 300) : ∃ (D : ByteArray) (t : Bool),
    (∀ W ao' b' off' cap', Tb W → RdS W ao' b' off' m A → Calls Tryd.prog 10 #[.int .i64 k, .slice ao' m cap', .agg #[.int .i64 h, .int .u64 (i : Int)]] W fun e w' => e = .returned (.tuple #[.string D, .bool t]) ∧ Below W.heap.size W w') ∧
    (∀ W ao' b' off' cap', m ≤ cap' → Tr W → RdS W ao' b' off' m A → Calls Tryd.prog 18 #[.int .i64 k, .slice ao' m cap', .agg #[.int .i64 h, .int .u64 (i : Int)]] W fun e w' => e = .returned (.tuple #[.string D, .bool t]) ∧ Below W.heap.size W w') := by
  by_cases hy : 0 ≤ h ∧ h ≤ 40 ∧ (i + 1) * 2 ^ h.toNat ≤ m
  · obtain ⟨h1, h2, h3⟩ := hy
    obtain ⟨g, rfl⟩ : ∃ g : Nat, h = (g : Int) := ⟨h.toNat, by omega⟩
    rw [Int.toNat_natCast] at h3
    exact ⟨nd (clk k) A g i, true, fun W ao' b' off' cap' tb rr => tree_yes W tb k ao' b' off' m cap' A rr sa (by omega) g i (by omega) h3 _ rfl, fun W ao' b' off' cap' hc tr rr => rtree_yes W tr k ao' b' off' m cap' A rr sa (by omega) hc g i (by omega) h3 _ rfl⟩
  · have hno : h < 0 ∨ 40 < h ∨ (0 ≤ h ∧ h ≤ 40 ∧ m < (i + 1) * 2 ^ h.toNat) := by
      by_cases h1 : h < 0
      · exact .inl h1
      · by_cases h2 : 40 < h
        · exact .inr (.inl h2)
        · refine .inr (.inr ⟨by omega, by omega, ?_⟩)
          apply Nat.lt_of_not_le
          intro h3
          exact hy ⟨by omega, by omega, h3⟩
    exact ⟨⟨#[]⟩, false, fun W ao' b' off' cap' tb rr => tree_no W k ao' m cap' (by omega) h i hno, fun W ao' b' off' cap' hc tr rr => rtree_no W k ao' m cap' (by omega) h i hno⟩
theorem root_both (k : Int) (i m : Nat) (A : List ByteArray) (sa : ∀ s ∈ A, s.size ≤ 140737488351232) (hm : m ≤ 300) : ∃ (R : ByteArray) (n : Nat) (e : Int),
    (∀ W ao' b' off' cap', m ≤ cap' → Tb W → RdS W ao' b' off' m A → Calls Tryd.prog 9 #[.int .i64 k, .slice ao' m cap', .int .u64 (i : Int)] W fun x w' => x = .returned (.tuple #[.agg #[.int .u64 (n : Int), .string R], .int .i64 e]) ∧ Below W.heap.size W w') ∧
    (∀ W ao' b' off' cap', m ≤ cap' → Tr W → RdS W ao' b' off' m A → Calls Tryd.prog 19 #[.int .i64 k, .slice ao' m cap', .int .u64 (i : Int)] W fun x w' => x = .returned (.tuple #[.agg #[.int .u64 (n : Int), .string R], .int .i64 e]) ∧ Below W.heap.size W w') := by
  by_cases hk : k < 1 ∨ 32 < k
  · exact ⟨⟨#[]⟩, 0, 70, fun W ao' b' off' cap' hc tb rr => proot_bad W k hk ao' m cap' i, fun W ao' b' off' cap' hc tb rr => rroot_bad W k hk ao' m cap' i⟩
  · by_cases hi : m < i
    · exact ⟨⟨#[]⟩, 0, 30, fun W ao' b' off' cap' hc tb rr => proot_size W k (by omega) (by omega) ao' m cap' i hi (by omega), fun W ao' b' off' cap' hc tb rr => rroot_size W k (by omega) (by omega) ao' m cap' i hi (by omega)⟩
    · obtain ⟨R, hR⟩ : ∃ R, Hid (rtD (clk k) A i = R) := ⟨_, rfl⟩
      exact ⟨R, i, 0, fun W ao' b' off' cap' hc tb rr => proot_ok W tb k (by omega) (by omega) ao' b' off' m cap' A rr sa (by omega) hc i (by omega) R hR, fun W ao' b' off' cap' hc tb rr => rroot_ok W tb k (by omega) (by omega) ao' b' off' m cap' A rr sa (by omega) hc i (by omega) R hR⟩
theorem asks_row (w : World) (ht : Tb w) (htr : Tr w) (k : Int) (ao : Option Addr) (b off len cap : Nat) (L : List ByteArray) (hr : RdS w ao b off len L) (hsz : ∀ s ∈ L, s.size ≤ 140737488351232) (hc : len ≤ cap) (hn : ao = none → cap = 0) (h a : Int) (wf : (Lit.int .u64 a).wf = true) :
    Calls Tryd.prog 6 #[.int .i64 k, .slice ao len cap, .agg #[.int .i64 h, .int .u64 a]] w fun e w' => e = .returned (.bool true) ∧ Below w.heap.size w w' := by
  obtain ⟨i, rfl, _⟩ := nat_u64 wf
  have t1 := hr.take (n := min len 300) (by omega)
  have sa : ∀ s ∈ L.take (min len 300), s.size ≤ 140737488351232 := fun s hs => hsz s (List.mem_of_mem_take hs)
  obtain ⟨D, t, HT1, HT2⟩ := tree_both k h i (min len 300) _ sa (by omega)
  obtain ⟨R, n, e, HR1, HR2⟩ := root_both k i (min len 300) _ sa (by omega)
  exact asks_core w ht htr k h i ao b off (min len 300) cap _ t1 sa (by omega) (by omega) hn len (fun W => few_any W ao len cap hc _ rfl) D t HT1 HT2 R n e HR1 HR2
end Go.Proofs.YtihcdmnodpknlaaDoor
