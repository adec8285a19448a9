/-
  Own work: ELawS, LRow.
-/
import Derived.BigQuiet
import Derived.OpenShut
import Derived.Test.YtdocjikpcbmcgaaGreatDoorQs43
namespace Go.Proofs.YtdocjikpcbmcgaaGreatDoor
open Go.RowKit
attribute [local go_sem ↓] Go.wp_at_zero Go.wp_at_succ
def Sd2 (w : World) (g : Nat) (ca : Option Addr) (cn cc : Nat) (s : ByteArray) : Prop := w.heap[g]? = some (.cells #[.slice ca cn cc, .string s] 25 (0, 0))
section
variable {w W : World} {g cn cc : Nat} {ca : Option Addr} {s : ByteArray}
theorem Sd2.cells (h : Sd2 w g ca cn cc s) : w.cell? ⟨g, 0, none⟩ = some (.slice ca cn cc) ∧ w.cell? ⟨g, 1, none⟩ = some (.string s) := by
  refine ⟨?_, ?_⟩
  · rw [cell_of_row w g 0 _ _ (0, 0) h]; rfl
  · rw [cell_of_row w g 1 _ _ (0, 0) h]; rfl
theorem Sd2.lt (h : Sd2 w g ca cn cc s) : g < w.heap.size := (Array.getElem?_eq_some_iff.1 h).1
theorem Sd2.next (h : Sd2 w g ca cn cc s) (hb : Below w.heap.size w W) : Sd2 W g ca cn cc s := (hb.block g h.lt).trans h
theorem sd2_box (w : World) (ca : Option Addr) (cn cc : Nat) (s : ByteArray) : ∃ W, w.alloc (.cells #[.slice ca cn cc, .string s] 25) = W ∧ Sd2 W w.heap.size ca cn cc s ∧ Below w.heap.size w W := ⟨_, rfl, heap_alloc_new w _, bal (Below.refl _ _) _⟩
end
theorem soC_take {L : List ByteArray} {l : List (Nat × ByteArray)} {j : Nat} (hj : j < l.length) : soC L (l.take (j + 1)) ↔ soC L (l.take j) ∧ L.getD (l.getD j noC).1 ByteArray.empty = (l.getD j noC).2 := by
  have e : l.take (j + 1) = l.take j ++ [l.getD j noC] := by rw [List.take_succ_eq_append_getElem hj, List.getD_eq_getElem?_getD, List.getElem?_eq_getElem hj]; rfl
  rw [e]
  unfold soC
  constructor
  · intro h
    exact ⟨fun c hc => h c (List.mem_append_left _ hc), h _ (List.mem_append_right _ (by simp))⟩
  · rintro ⟨h1, h2⟩ c hc
    rcases List.mem_append.1 hc with hc | hc
    · exact h1 c hc
    · rw [List.mem_singleton] at hc; subst hc; exact h2
theorem soC_zero (L : List ByteArray) (l : List (Nat × ByteArray)) : decide (soC L (l.take 0)) = true := decide_eq_true fun c hc => by rw [List.take_zero] at hc; cases hc
set_option maxRecDepth 100000 in
set_option maxHeartbeats 4000000 in
theorem sound_walk (w : World) (ht : Tb w) (hr : Tr w) (k : Int) (la : Option Addr) (lb lo ln lc : Nat) (Li : List ByteArray) (hL : RdS w la lb lo ln Li) (hsz : ∀ s ∈ Li, s.size ≤ 140737488351232) (hlc : ln ≤ lc) (ca : Option Addr) (cb co cc : Nat) (l : List (Nat × ByteArray)) (hK : RdK w ca cb co l.length l) (hl : l.length ≤ 8796093021952) (hv : ∀ x ∈ vls l, x.size ≤ 9223372036854775807) (s : ByteArray) (hs : s.size ≤ 281474976710656) :
    Calls Tryz.prog 3 #[.int .i64 k, .slice la ln lc, .agg #[.slice ca l.length cc, .string s]] w fun e w' => e = .returned (.bool true) ∧ Below w.heap.size w w' := by
  obtain ⟨L, hLi⟩ : ∃ L, Li.take 150 = L := ⟨_, rfl⟩
  have hlen : min ln 150 = L.length := by rw [← hLi, List.length_take, hL.hl]; omega
  have hL2 : RdS w la lb lo L.length L := by
    have hL' := hL
    rw [← hL.hl] at hL'
    have h1 : Li.take L.length = L := by rw [← hlen, ← hLi, ← hL.hl]; simp [Nat.min_comm]
    have h2 := rds_take hL' (H := L.length) (by have := hL.hl; omega)
    rwa [h1] at h2
  have hszL : ∀ s ∈ L, s.size ≤ 140737488351232 := fun s hs => hsz s (by rw [← hLi] at hs; exact List.mem_of_mem_take hs)
  have hm : L.length ≤ 150 := by omega
  obtain ⟨o, c, r, T, X⟩ := ext_claims k L (by omega) hszL l hl hv s hs
  have HF : Hid (∀ W, Calls Tryz.prog 8 #[.slice la ln lc] W fun e w' => e = .returned (.slice la L.length lc) ∧ W = w') := fun W => few_any W la ln lc hlc _ hlen
  have HAl : Hid (∀ W, Below w.heap.size w W → Calls Tryz.prog 7 #[] W fun e w' => e = .returned (.bool true) ∧ Below W.heap.size W w') := fun W hb => alive_ext W (ht.next hb) (hr.next hb)
  have HE : Hid (∀ W, Below w.heap.size w W → Calls Tryz.prog 10 #[.int .i64 k, .slice la L.length lc, .slice ca l.length cc, .string s] W fun e w' => e = .returned (tri T) ∧ Below W.heap.size W w') := fun W hb => X.ext W la lb lo lc ca cb co cc (ht.next hb) (hL2.next hb (Nat.le_refl _)) (by omega) (hK.next hb)
  have HLt : Hid (∀ W, Below w.heap.size w W → Calls Tryz.prog 11 #[.int .i64 k, .agg #[.int .u64 (o : Int), .string c], .slice ca l.length cc, .string s] W fun e w' => e = .returned (.int .i64 r) ∧ Below W.heap.size W w') := fun W hb => X.light W ca cb co cc (ht.next hb) (hK.next hb)
  have HRd : Hid (∀ W, Below w.heap.size w W → RdS W la lb lo L.length L ∧ RdK W ca cb co l.length l) := fun W hb => ⟨hL2.next hb (Nat.le_refl _), hK.next hb⟩
  have zL : (L.length : Int) ≤ 150 := by omega
  have zl : (l.length : Int) ≤ 8796093021952 := by omega
  obtain ⟨W0, hW0, hsd, hb0⟩ := sd2_box w ca l.length cc s
  have HSd := hide hsd
  by_cases hk : 1 ≤ k ∧ k ≤ 32
  · obtain ⟨ho, hc⟩ := X.good hk.1 hk.2
    subst ho
    have HR : Hid (∀ W, Below w.heap.size w W → Calls Tryz.prog 9 #[.int .i64 k, .slice la L.length lc, .int .u64 (L.length : Int)] W fun e w' => e = .returned (.tuple #[.agg #[.int .u64 (L.length : Int), .string c], .int .i64 0]) ∧ Below W.heap.size W w') := fun W hb => rroot_ok W (hr.next hb) k hk.1 hk.2 la lb lo L.length lc L (hL2.next hb (Nat.le_refl _)) hszL (by omega) (by omega) L.length (Nat.le_refl _) c hc.symm
    by_cases h0 : r = 0
    · subst h0
      obtain ⟨hin, hso1, hso2⟩ := clm_soundZ hszL X
      have HIn := hide hin
      have HS1 := hide hso1
      have HS2 := hide hso2
      have HCl : Hid (∀ W q, Below w.heap.size w W → Clx (clk k) q → Sz 1152921504606846000 q → Calls Tryz.prog 12 #[.int .i64 k, .string q.1, .string q.2] W fun e w' => e = .returned (.bool true) ∧ Below W.heap.size W w') := fun W q hb h1 h2 => clash_any W (hr.next hb) k hk.1 hk.2 q.1 q.2 (by have := h2.1; omega) (by have := h2.2; omega) h1.1 h1.2
      clear hin hso1 hso2 ht hr hL hsz hlc hK hl hv hs hLi hlen hL2 hszL hm X hc hsd hk
      go_enter Tryz.func3, Tryz.ntmps3
      go_upto_region 1 with (fail)
      try rw [hW0]
      clear hW0
      go_upto_region 5 with (first
        | (go_at_call 7; with_reducible refine (HAl.out _ hb0).mono ?_; rintro e w1 ⟨rfl, hb1⟩)
        | (go_at_call 8; with_reducible refine (HF.out _).mono ?_; rintro e w1' ⟨rfl, rfl⟩)
        | (go_at_call 9; with_reducible refine (HR.out _ (bnext hb0 hb1)).mono ?_; rintro e w2 ⟨rfl, hb2⟩))
      obtain ⟨F, hFe, hrh, hb3⟩ : ∃ W, w2.alloc (.cells #[.int .u64 (L.length : Int), .string c] 30) = W ∧ Rh W w2.heap.size L.length c ∧ Below w2.heap.size w2 W := ⟨_, rfl, rh_new w2 L.length c, bal (Below.refl _ _) _⟩
      try rw [hFe]
      clear hFe
      have hbF := bnext (bnext (bnext hb0 hb1) hb2) hb3
      have hsF := HSd.out.next (bnext (bnext hb1 hb2) hb3)
      obtain ⟨c0, c1⟩ := hsF.cells
      clear hb0 hb1 hb2 hb3 HSd
      go_upto_region 6 with (go_at_call 10; with_reducible refine (HE.out _ hbF).mono ?_; rintro e w4 ⟨rfl, hb4⟩)
      have hs4 := hsF.next hb4
      obtain ⟨d0, d1⟩ := hs4.cells
      obtain ⟨e0, e1⟩ := (hrh.next hb4).cells
      have hbG := bnext hbF hb4
      clear hbF hb4 hsF hrh c0 c1
      go_upto_region 9 with (go_at_call 11; with_reducible refine (HLt.out _ hbG).mono ?_; rintro e w5 ⟨rfl, hb5⟩)
      have hs5 := hs4.next hb5
      have hbH := bnext hbG hb5
      have HS5 := hide (And.intro hs5 hbH)
      clear hs4 hs5 hbG hbH hb5 d0 d1 e0 e1 HE HLt HF HAl HR
      go_wp2
      go_loopg [12, 13] l.length (fun g b i wr => ∃ j : Nat, g = l.length - j ∧ j ≤ l.length ∧ i = .int .i64 (j : Int) ∧ b = .bool (decide (soC L (l.take j))) ∧ Hid (Sd2 wr w.heap.size ca l.length cc s ∧ Below w.heap.size w wr))
      case atStart =>
        go_light
        exact ⟨0, rfl, Nat.zero_le _, rfl, by rw [soC_zero], HS5⟩
      case round =>
        clear HS5
        obtain ⟨j, rfl, hj, rfl, rfl, HI⟩ := hrel
        obtain ⟨d0, d1⟩ := HI.out.1.cells
        obtain ⟨v, hvd⟩ : ∃ v, decide (soC L (l.take j)) = v := ⟨_, rfl⟩
        rw [hvd]
        by_cases hlt : j < l.length
        · have y0 : (0 : Int) ≤ (j : Int) := Int.natCast_nonneg _
          have y1 : (j : Int) < (l.length : Int) := by omega
          obtain ⟨hrd, hkd⟩ := HRd.out wr HI.out.2
          obtain rfl := hkd.ptr (by omega)
          obtain ⟨c0, c1⟩ := hkd.at hlt
          have hmem : l.getD j noC ∈ l := by rw [List.getD_eq_getElem?_getD, List.getElem?_eq_getElem hlt]; exact List.getElem_mem _
          have hi := HIn.out _ hmem
          have hstep := soC_take (L := L) hlt
          obtain ⟨a, ha⟩ : ∃ a, (l.getD j noC).1 = a := ⟨_, rfl⟩
          obtain ⟨x, hx⟩ : ∃ x, (l.getD j noC).2 = x := ⟨_, rfl⟩
          rw [ha] at c0 hi hstep
          rw [hx] at c1 hstep
          obtain rfl := hrd.ptr (by omega)
          have ci := hrd.at hi
          obtain ⟨y, hy⟩ : ∃ y, L.getD a ByteArray.empty = y := ⟨_, rfl⟩
          rw [hy] at ci hstep
          have q0 : (0 : Int) ≤ (a : Int) := Int.natCast_nonneg _
          have q1 : (a : Int) < (L.length : Int) := by omega
          have q2 : ¬ (L.length : Int) ≤ (a : Int) := by omega
          have HW1 : Hid (∀ t, Sd2 (wr.drewN t) w.heap.size (some ⟨cb, co, none⟩) l.length cc s ∧ Below w.heap.size w (wr.drewN t)) := fun t => ⟨HI.out.1, below_drewN HI.out.2 t⟩
          cases v with
          | false =>
            have HN : Hid (decide (soC L (l.take (j + 1))) = false) := decide_eq_false fun h => (of_decide_eq_false hvd) (hstep.1 h).1
            clear hrd hkd hmem ha hx hy hstep hvd HI hi
            go_upto_region 14 with (fail)
            go_quiet (fail)
            go_wp2
            go_roundg (l.length - (j + 1))
            case rel =>
              go_light
              exact ⟨j + 1, rfl, by omega, by go_num, by rw [HN.out], HW1.out _⟩
            case measure => go_light; omega
          | true =>
            by_cases he : y = x
            · have HN : Hid (decide (soC L (l.take (j + 1))) = true) := decide_eq_true (hstep.2 ⟨of_decide_eq_true hvd, he⟩)
              subst he
              clear hrd hkd hmem ha hx hy hstep hvd HI hi
              go_upto_region 14 with (fail)
              go_quiet (fail)
              go_wp2
              go_roundg (l.length - (j + 1))
              case rel =>
                go_light
                exact ⟨j + 1, rfl, by omega, by go_num, by rw [HN.out], HW1.out _⟩
              case measure => go_light; omega
            · have HN : Hid (decide (soC L (l.take (j + 1))) = false) := decide_eq_false fun h => he (hstep.1 h).2
              have hzb := list_beq he
              have hz := list_ne he
              clear hrd hkd hmem ha hx hy hstep hvd HI hi he
              go_upto_region 14 with (fail)
              go_quiet (fail)
              go_wp2
              go_roundg (l.length - (j + 1))
              case rel =>
                go_light
                exact ⟨j + 1, rfl, by omega, by go_num, by rw [HN.out], HW1.out _⟩
              case measure => go_light; omega
        · obtain rfl : j = l.length := by omega
          have hz1 : ¬ (l.length : Int) < (l.length : Int) := by omega
          rw [List.take_length] at hvd
          have hB := HI.out.2
          cases v with
          | true =>
            have hTn := HS1.out (of_decide_eq_true hvd)
            subst hTn
            simp only [pA, pB', Option.isSome_none]
            clear hvd HS1 HS2 HIn HCl HRd hlt hj
            go_wp2
            go_ret
            exact ⟨rfl, hB⟩
          | false =>
            obtain ⟨q, hTq, hq1, hq2⟩ := HS2.out (of_decide_eq_false hvd)
            subst hTq
            have HC := hide (HCl.out wr q hB hq1 hq2)
            simp only [pA, pB', Option.isSome_some]
            obtain ⟨qa, qb⟩ := q
            simp only at HC
            clear hvd HS1 HS2 HIn HCl HRd hlt hj hq1 hq2
            go_wp2_with (go_at_call 12; with_reducible refine HC.out.mono ?_; rintro e w9 ⟨rfl, hb9⟩)
            go_ret
            exact ⟨rfl, bnext hB hb9⟩
    · have hTn := X.no h0
      subst hTn
      have hz : (r != 0) = true := by simpa using h0
      have hz2 : ¬ r = 0 := h0
      clear ht hr hL hsz hlc hK hl hv hs hLi hlen hL2 hszL hm X hc hsd hk h0
      go_enter Tryz.func3, Tryz.ntmps3
      go_upto_region 1 with (fail)
      try rw [hW0]
      clear hW0
      go_upto_region 5 with (first
        | (go_at_call 7; with_reducible refine (HAl.out _ hb0).mono ?_; rintro e w1 ⟨rfl, hb1⟩)
        | (go_at_call 8; with_reducible refine (HF.out _).mono ?_; rintro e w1' ⟨rfl, rfl⟩)
        | (go_at_call 9; with_reducible refine (HR.out _ (bnext hb0 hb1)).mono ?_; rintro e w2 ⟨rfl, hb2⟩))
      obtain ⟨F, hFe, hrh, hb3⟩ : ∃ W, w2.alloc (.cells #[.int .u64 (L.length : Int), .string c] 30) = W ∧ Rh W w2.heap.size L.length c ∧ Below w2.heap.size w2 W := ⟨_, rfl, rh_new w2 L.length c, bal (Below.refl _ _) _⟩
      try rw [hFe]
      clear hFe
      have hbF := bnext (bnext (bnext hb0 hb1) hb2) hb3
      have hsF := HSd.out.next (bnext (bnext hb1 hb2) hb3)
      obtain ⟨c0, c1⟩ := hsF.cells
      clear hb0 hb1 hb2 hb3 HSd
      go_upto_region 6 with (go_at_call 10; with_reducible refine (HE.out _ hbF).mono ?_; rintro e w4 ⟨rfl, hb4⟩)
      obtain ⟨d0, d1⟩ := (hsF.next hb4).cells
      obtain ⟨e0, e1⟩ := (hrh.next hb4).cells
      have hbG := bnext hbF hb4
      clear hbF hb4 hsF hrh c0 c1
      simp only [pA, pB']
      go_wp2_with (go_at_call 11; with_reducible refine (HLt.out _ hbG).mono ?_; rintro e w5 ⟨rfl, hb5⟩)
      go_ret
      exact ⟨rfl, bnext hbG hb5⟩
  · have hTn := X.no (X.bad hk)
    subst hTn
    have HR : Hid (∀ W, Calls Tryz.prog 9 #[.int .i64 k, .slice la L.length lc, .int .u64 (L.length : Int)] W fun e w' => e = .returned (.tuple #[.agg #[.int .u64 0, .string ⟨#[]⟩], .int .i64 70]) ∧ Below W.heap.size W w') := fun W => rroot_bad W k (by omega) la L.length lc L.length
    clear ht hr hL hsz hlc hK hl hv hs hLi hlen hL2 hszL hm X hsd hk HLt
    go_enter Tryz.func3, Tryz.ntmps3
    go_upto_region 1 with (fail)
    try rw [hW0]
    clear hW0
    go_upto_region 5 with (first
      | (go_at_call 7; with_reducible refine (HAl.out _ hb0).mono ?_; rintro e w1 ⟨rfl, hb1⟩)
      | (go_at_call 8; with_reducible refine (HF.out _).mono ?_; rintro e w1' ⟨rfl, rfl⟩)
      | (go_at_call 9; with_reducible refine (HR.out _).mono ?_; rintro e w2 ⟨rfl, hb2⟩))
    obtain ⟨F, hFe, hb3⟩ : ∃ W, w2.alloc (.cells #[.int .u64 0, .string ⟨#[]⟩] 30) = W ∧ Below w2.heap.size w2 W := ⟨_, rfl, bal (Below.refl _ _) _⟩
    try rw [hFe]
    clear hFe
    have hbF := bnext (bnext (bnext hb0 hb1) hb2) hb3
    have hsF := HSd.out.next (bnext (bnext hb1 hb2) hb3)
    obtain ⟨c0, c1⟩ := hsF.cells
    clear hb0 hb1 hb2 hb3 HSd
    go_upto_region 6 with (go_at_call 10; with_reducible refine (HE.out _ hbF).mono ?_; rintro e w4 ⟨rfl, hb4⟩)
    simp only [pA, pB']
    go_wp2
    go_ret
    exact ⟨rfl, bnext hbF hb4⟩
end Go.Proofs.YtdocjikpcbmcgaaGreatDoor
namespace Go.Proofs.YtdocjikpcbmcgaaGreatDoor
open Go.RowKit
theorem u64_nat {a : Int} (wf : (Lit.int .u64 a).wf = true) : ∃ n : Nat, a = (n : Int) ∧ n < 18446744073709551616 := by
  have := bounds_u64 wf
  exact ⟨a.toNat, by omega, by omega⟩
end Go.Proofs.YtdocjikpcbmcgaaGreatDoor
