/-
  Walks of package batch: any block's node; what Root asks. Own work.
-/
import Derived.Test.YtnbejijpmeklaaaDoorBWalkB
namespace Go.Proofs.YtnbejijpmeklaaaDoor
open Go.RowKit
open Cv (RdC zl cU tno)
open Pl (pw)
attribute [local go_sem ↓] Go.wp_at_zero Go.wp_at_succ
variable {GB RB : Nat}
theorem bnode_any (q : Nat) (K : Int) : ∀ (h k : Nat), h ≤ 40 → (k + 1) * pw h ≤ 2 ^ 40 → ∀ (S : List Nat) (X D : List ByteArray) (w : World) (v : Value), Tb w → Rw w RB q K D → Gv w GB v S X → X.length = S.length → Asc S → In h k S → (tno h k S).length ≤ D.length → (∀ s ∈ X, s.size ≤ 1048576) → (∀ s ∈ D, s.size = clk K) → S.length ≤ 8796093022208 →
    Calls Tryd.prog 36 #[.pointer (some ⟨q, 0, none⟩), .agg #[.int .i64 (h : Int), .int .u64 (k : Int)], v] w fun e w' => e = .returned (.string (vB (clk K) h k S X D)) ∧ Rw w' RB q K (D.drop (tno h k S).length) ∧ Bx q w w' := by
  have nil : ∀ (h k : Nat) (X D : List ByteArray) (w : World) (v : Value), Rw w RB q K D → Gv w GB v [] X → (tno h k []).length ≤ D.length → Calls Tryd.prog 36 #[.pointer (some ⟨q, 0, none⟩), .agg #[.int .i64 (h : Int), .int .u64 (k : Int)], v] w fun e w' => e = .returned (.string (vB (clk K) h k [] X D)) ∧ Rw w' RB q K (D.drop (tno h k []).length) ∧ Bx q w w' := fun h k X D w v hr hg hl => by
    obtain ⟨sa, sb, so, sc, xa, xb, xo, xc, rfl, _⟩ := hg.ex
    rw [tno_nil] at hl ⊢
    exact bnode_nil w q K D hr hl h k sa xa sc X.length xc _ (vB_nil ..).symm _ rfl
  intro h
  induction h with
  | zero =>
    intro k hh hk S X D w v ht hr hg hX hp hS hl hs hD hm
    by_cases h0 : S = []
    · subst h0; exact nil 0 k X D w v hr hg hl
    · have hn : 0 < S.length := List.length_pos_iff.2 h0
      obtain ⟨sa, sb, so, sc, xa, xb, xo, xc, rfl, r1, r2, _⟩ := hg.ex
      obtain rfl := r2.ptr (by omega)
      have hx0 : 0 < X.length := by omega
      have hc : w.cell? ⟨xb, xo + 0, none⟩ = some (.string (X.getD 0 ByteArray.empty)) := r2.rng 0 _ (by simp [List.getD_eq_getElem?_getD, hx0])
      have hsz := hs _ (getD_mem hx0)
      rw [tno_full hS h0, vB_leaf _ _ _ _ h0]
      exact bnode_leaf w ht q K D hr k sa S.length sc xb xo X.length xc hn hx0 _ hc (by omega) _ rfl
  | succ h ih =>
    intro k hh hk S X D w v ht hr hg hX hp hS hl hs hD hm
    by_cases h0 : S = []
    · subst h0; exact nil (h + 1) k X D w v hr hg hl
    · obtain ⟨va, vx, rfl⟩ : ∃ a b, v = .agg #[a, b] := by
        obtain ⟨a, n, c, b, m, d, e⟩ := hg.form
        exact ⟨_, _, e⟩
      obtain ⟨t, ht2⟩ : ∃ t, bl S ((2 * k + 1) * pw h) = t := ⟨_, rfl⟩
      have htl : t ≤ S.length := by rw [← ht2]; exact bl_le _ _
      have l1 := in_low hp hS
      have l2 := in_high hp hS
      have l3 := tno_cut hp hS h0
      rw [ht2] at l1 l2 l3
      rw [l3, List.length_append] at hl
      have hk1 : (2 * k + 1) * pw h ≤ 2 ^ 40 := by
        have := Cv.half_hi h k
        have := Nat.mul_le_mul_right (pw h) (show 2 * k + 1 ≤ 2 * k + 1 + 1 by omega)
        omega
      have hk2 : (2 * k + 1 + 1) * pw h ≤ 2 ^ 40 := by rw [Cv.half_hi]; exact hk
      have some_one : ∀ (a b : Nat) (T : List Nat) (E : List ByteArray), (tno a b T).length ≤ E.length → 0 < E.length ∨ T ≠ [] := fun a b T E hE => by
        by_cases hT : T = []
        · subst hT; rw [tno_nil] at hE; exact .inl hE
        · exact .inr hT
      have hD1 : ∀ s ∈ D.drop (tno h (2 * k) (S.take t)).length, s.size = clk K := fun s hs => hD s ((List.drop_sublist _ _).subset hs)
      have hl2 : (tno h (2 * k + 1) (S.drop t)).length ≤ (D.drop (tno h (2 * k) (S.take t)).length).length := by rw [List.length_drop]; omega
      have hlt : (S.take t).length ≤ S.length := by rw [List.length_take]; omega
      have hld : (S.drop t).length ≤ S.length := by rw [List.length_drop]; omega
      have := bnode_two w ht q K D hr h k hh hk va vx S X hg hX hp h0 hm t ht2 _ _ (by rw [vB_size (clk_le K) h (2 * k) (S.take t) (X.take t) D hD (some_one _ _ _ _ (Nat.le_trans (Nat.le_add_right _ _) hl))]; exact clk_le K) (by rw [vB_size (clk_le K) h (2 * k + 1) (S.drop t) (X.drop t) _ hD1 (some_one _ _ _ _ hl2)]; exact clk_le K) _ _
        (fun W v h1 h2 h3 => ih (2 * k) (by omega) hk1 (S.take t) (X.take t) D W v h1 h2 h3 (by rw [List.length_take, List.length_take, hX]) (asc_take hp _) l1 (Nat.le_trans (Nat.le_add_right _ _) hl) (fun s hs' => hs s ((List.take_sublist _ _).subset hs')) hD (Nat.le_trans hlt hm))
        (fun W v h1 h2 h3 => ih (2 * k + 1) (by omega) hk2 (S.drop t) (X.drop t) _ W v h1 h2 h3 (by rw [List.length_drop, List.length_drop, hX]) (asc_drop hp _) l2 hl2 (fun s hs' => hs s ((List.drop_sublist _ _).subset hs')) hD1 (Nat.le_trans hld hm)) _ rfl
      rw [vB_two _ _ _ _ _ h0 ht2, l3, List.length_append, ← List.drop_drop]
      exact this
theorem rdu_rd {w : World} {ao : Option Addr} {b off len : Nat} {l : List Nat} (h : RdU w ao b off len l) : Cv.Rd w ao b off len l := ⟨h.hl, h.ptr, fun _ hj => h.at hj⟩
abbrev oP (kd k : Int) (old size : Nat) (vs vd : Value) : Obj := .cells #[.int .i64 kd, .int .i64 k, .int .u64 (old : Int), .int .u64 (size : Int), vs, vd] 32
abbrev vP (kd k : Int) (old size : Nat) (vs vd : Value) : Value := .agg #[.int .i64 kd, .int .i64 k, .int .u64 (old : Int), .int .u64 (size : Int), vs, vd]
set_option maxRecDepth 100000 in
theorem isb_core (w : World) (kd k : Int) (old size : Nat) (sa : Option Addr) (ns sc : Nat) (da : Option Addr) (n2 dc : Nat) (r : Bool) (hr : decide (kd = 2 ∧ (1 ≤ k ∧ k ≤ 32) ∧ old = 0) = r) :
    Calls Tryd.prog 31 #[vP kd k old size (.slice sa ns sc) (.slice da n2 dc)] w fun e w' => e = .returned (.bool r) ∧ Below w.heap.size w w' := by
  have hb := bal (Below.refl w.heap.size w) (oP kd k old size (.slice sa ns sc) (.slice da n2 dc))
  by_cases h1 : kd = 2
  · subst h1
    by_cases h2 : 1 ≤ k ∧ k ≤ 32
    · have HC : Hid (∀ W, Calls Tryd.prog 38 #[.int .i64 k] W fun e w' => e = .returned (.int .i64 0) ∧ W = w') := fun W => by
        have := (check_any W k)
        rw [show chk k = 0 by rw [chk, if_neg (by omega)]] at this
        exact this.mono fun _ _ h => ⟨h.1, h.2.symm⟩
      by_cases h4 : old = 0
      · subst h4
        obtain rfl : true = r := by rw [← hr]; exact (decide_eq_true ⟨rfl, h2, rfl⟩).symm
        clear hr h2
        unfold vP
        unfold oP at hb
        rw [show ((0 : Nat) : Int) = 0 from rfl] at *
        go_enter Tryd.func31, Tryd.ntmps31
        go_wp2_with (go_at_call 38; with_reducible refine (HC.out _).mono ?_; rintro e w1 ⟨rfl, rfl⟩)
        go_ret
        exact ⟨rfl, hb⟩
      · have hz : ((old : Int) == 0) = false := beq_false_of_ne (by omega)
        obtain rfl : false = r := by rw [← hr]; exact (decide_eq_false (by rintro ⟨_, _, h⟩; exact h4 h)).symm
        clear hr h2 h4
        go_enter Tryd.func31, Tryd.ntmps31
        go_wp2_with (go_at_call 38; with_reducible refine (HC.out _).mono ?_; rintro e w1 ⟨rfl, rfl⟩)
        go_ret
        exact ⟨rfl, hb⟩
    · have HC : Hid (∀ W, Calls Tryd.prog 38 #[.int .i64 k] W fun e w' => e = .returned (.int .i64 70) ∧ W = w') := fun W => by
        have := (check_any W k)
        rw [show chk k = 70 by rw [chk, if_pos (by omega)]] at this
        exact this.mono fun _ _ h => ⟨h.1, h.2.symm⟩
      obtain rfl : false = r := by rw [← hr]; exact (decide_eq_false (by rintro ⟨_, h, _⟩; exact h2 h)).symm
      clear hr h2
      go_enter Tryd.func31, Tryd.ntmps31
      go_wp2_with (go_at_call 38; with_reducible refine (HC.out _).mono ?_; rintro e w1 ⟨rfl, rfl⟩)
      go_ret
      exact ⟨rfl, hb⟩
  · obtain rfl : false = r := by rw [← hr]; exact (decide_eq_false (by rintro ⟨h, _, _⟩; exact h1 h)).symm
    clear hr
    go_enter Tryd.func31, Tryd.ntmps31
    go_wp2
    go_ret
    exact ⟨rfl, hb⟩
/-- A digest of the right length for each block. -/
def fil (k : Int) (m : Nat) (D : List ByteArray) : Prop := D.length = m ∧ ∀ d ∈ D, (d.size : Int) = k
instance (k : Int) (m : Nat) (D : List ByteArray) : Decidable (fil k m D) := by unfold fil; infer_instance
set_option maxRecDepth 100000 in
set_option maxHeartbeats 1000000 in
theorem bfilled_core (w : World) (kd k : Int) (old size : Nat) (sa : Option Addr) (sb so ns sc : Nat) (S : List Nat) (hs : RdU w sa sb so ns S) (hns : ns ≤ 5000) (da : Option Addr) (db dO dc : Nat) (D : List ByteArray) (hr : RdS w da db dO D.length D) (hm : D.length ≤ 8796093022208) (e0 : Nat) (he : Cv.errS size S = e0) (m0 : Nat) (hm0 : (Cv.rstS size S).length = m0) (r : Bool) (hq : decide (e0 = 0 ∧ fil k m0 D) = r) :
    Calls Tryd.prog 32 #[vP kd k old size (.slice sa ns sc) (.slice da D.length dc)] w fun e w' => e = .returned (.bool r) ∧ Below w.heap.size w w' := by
  obtain ⟨o1, ho1⟩ : ∃ o1, oP kd k old size (.slice sa ns sc) (.slice da D.length dc) = o1 := ⟨_, rfl⟩
  have hb0 := bal (Below.refl w.heap.size w) o1
  have HN := Cv.count_any size (w.alloc o1) sa sb so ns sc S (rdu_rd (hs.next hb0)) hns
  rw [he, hm0] at HN
  have h6 : Six (w.alloc o1) w.heap.size (.int .i64 kd) (.int .i64 k) (.int .u64 (old : Int)) (.int .u64 (size : Int)) (.slice sa ns sc) (.slice da D.length dc) := by rw [← ho1]; exact six_new w _ _ _ _ _ _
  have HB := hide hb0
  have H6 := hide h6
  rw [← ho1] at HN HB H6
  have ed : IntKind.u64.wrap (D.length : Int) = (D.length : Int) := by rw [IntKind.wrap_u64]; omega
  have HR : Hid (∀ W, Below w.heap.size w W → RdS W da db dO D.length D) := fun W hb => hr.next hb (Nat.le_refl _)
  have hm1 : (D.length : Int) ≤ 8796093022208 := by omega
  by_cases h1 : e0 = 0
  · subst h1
    rw [show ((0 : Nat) : Int) = 0 from rfl] at HN
    by_cases hl : D.length = m0
    · subst hl
      have HQ : Hid (decide (∀ d ∈ D, (d.size : Int) = k) = r) := by
        rw [← hq]
        show decide _ = decide _
        simp only [fil, true_and]
      clear hr hq hm hs he hm0 hb0 h6 ho1
      go_enter Tryd.func32, Tryd.ntmps32
      go_upto_region 2 with (go_at_call 58; with_reducible refine HN.mono ?_; rintro e w1 ⟨rfl, hb1⟩)
      obtain ⟨z0, z1, z2, z3, z4, z5⟩ := (H6.out.next hb1).cells
      have hbx := bnext HB.out hb1
      clear HN hb1 H6 HB
      go_wp2
      go_loopg [28] D.length (fun g i wr => ∃ j : Nat, j ≤ D.length ∧ g = D.length - j ∧ i = .int .i64 (j : Int) ∧ (∀ t, t < j → ((D.getD t ByteArray.empty).size : Int) = k) ∧ w1 = wr)
      case atStart =>
        go_light
        exact ⟨0, Nat.zero_le _, rfl, rfl, fun t ht => absurd ht (Nat.not_lt_zero _), rfl⟩
      case round =>
        obtain ⟨j, hj, rfl, rfl, hal, rfl⟩ := hrel
        by_cases hlt : j < D.length
        · have hz : (j : Int) < (D.length : Int) := by omega
          have hz0 : (0 : Int) ≤ (j : Int) := Int.natCast_nonneg _
          have hrd := HR.out w1 hbx
          obtain rfl := hrd.ptr (by omega)
          have cj := hrd.at hlt
          obtain ⟨d, hd⟩ : ∃ d, D.getD j ByteArray.empty = d := ⟨_, rfl⟩
          rw [hd] at cj
          by_cases hk : (d.size : Int) = k
          · have HN : Hid (∀ t, t < j + 1 → ((D.getD t ByteArray.empty).size : Int) = k) := fun t ht => by
              rcases Nat.lt_or_eq_of_le (Nat.le_of_lt_succ ht) with hx | rfl
              · exact hal t hx
              · rw [hd]; exact hk
            clear hd hal hrd
            go_wp2
            go_roundg (D.length - (j + 1))
            case rel =>
              go_light
              exact ⟨j + 1, by omega, rfl, by go_num, HN.out, rfl⟩
            case measure => go_light; omega
          · obtain rfl : false = r := by
              rw [← HQ.out]
              refine (decide_eq_false fun h => hk ?_).symm
              rw [← hd]
              exact h _ (getD_mem hlt)
            clear hd hal hrd
            go_wp2
            go_ret
            exact ⟨rfl, hbx⟩
        · obtain rfl : j = D.length := by omega
          have hz : ¬ ((D.length : Int) < (D.length : Int)) := by omega
          obtain rfl : true = r := by
            rw [← HQ.out]
            refine (decide_eq_true fun d hd => ?_).symm
            obtain ⟨t, ht, rfl⟩ := List.getElem_of_mem hd
            have := hal t ht
            rwa [List.getD_eq_getElem?_getD, List.getElem?_eq_getElem ht] at this
          clear hal hlt
          go_wp2
          go_ret
          exact ⟨rfl, hbx⟩
    · have hz : ¬ (m0 : Int) = (D.length : Int) := by omega
      obtain rfl : false = r := by rw [← hq]; exact (decide_eq_false (by rintro ⟨_, h, _⟩; exact hl h)).symm
      clear hr hq hm hs he hm0 hb0 h6 ho1 hl HR
      go_enter Tryd.func32, Tryd.ntmps32
      go_upto_region 2 with (go_at_call 58; with_reducible refine HN.mono ?_; rintro e w1 ⟨rfl, hb1⟩)
      obtain ⟨z0, z1, z2, z3, z4, z5⟩ := (H6.out.next hb1).cells
      have hbx := bnext HB.out hb1
      clear HN hb1 H6 HB
      go_wp2
      go_ret
      exact ⟨rfl, hbx⟩
  · have hz : ¬ (e0 : Int) = 0 := by omega
    obtain rfl : false = r := by rw [← hq]; exact (decide_eq_false (by rintro ⟨h, _⟩; exact h1 h)).symm
    clear hr hq hm hs he hm0 hb0 h6 ho1 h1 HR
    go_enter Tryd.func32, Tryd.ntmps32
    go_upto_region 2 with (go_at_call 58; with_reducible refine HN.mono ?_; rintro e w1 ⟨rfl, hb1⟩)
    obtain ⟨z0, z1, z2, z3, z4, z5⟩ := (H6.out.next hb1).cells
    have hbx := bnext HB.out hb1
    clear HN hb1 H6 HB
    go_wp2
    go_ret
    exact ⟨rfl, hbx⟩
end Go.Proofs.YtnbejijpmeklaaaDoor
