/-
  Own work: BWalkC, BUpS, JSpec.
-/
import Derived.Lib.BufferMore
import Derived.Test.YtdocjikpcbmcgaaGreatDoorQs14
namespace Go.Proofs.YtdocjikpcbmcgaaGreatDoor
open Go.RowKit
open Cv (RdC zl cU tno)
open Pl (pw)
attribute [local go_sem ↓] Go.wp_at_zero Go.wp_at_succ
variable {GB RB : Nat}
theorem bnode_any (q : Nat) (K : Int) : ∀ (h k : Nat), h ≤ 40 → (k + 1) * pw h ≤ 2 ^ 40 → ∀ (S : List Nat) (X D : List ByteArray) (w : World) (v : Value), Tb w → Rw w RB q K D → Gv w GB v S X → X.length = S.length → Asc S → In h k S → (tno h k S).length ≤ D.length → (∀ s ∈ X, s.size ≤ 1048576) → (∀ s ∈ D, s.size = clk K) → S.length ≤ 8796093022208 →
    Calls Tryz.prog 122 #[.pointer (some ⟨q, 0, none⟩), .agg #[.int .i64 (h : Int), .int .u64 (k : Int)], v] w fun e w' => e = .returned (.string (vB (clk K) h k S X D)) ∧ Rw w' RB q K (D.drop (tno h k S).length) ∧ Bx q w w' := by
  have nil : ∀ (h k : Nat) (X D : List ByteArray) (w : World) (v : Value), Rw w RB q K D → Gv w GB v [] X → (tno h k []).length ≤ D.length → Calls Tryz.prog 122 #[.pointer (some ⟨q, 0, none⟩), .agg #[.int .i64 (h : Int), .int .u64 (k : Int)], v] w fun e w' => e = .returned (.string (vB (clk K) h k [] X D)) ∧ Rw w' RB q K (D.drop (tno h k []).length) ∧ Bx q w w' := fun h k X D w v hr hg hl => by
    obtain ⟨sa, sb, so, sc, xa, xb, xo, xc, rfl, _⟩ := hg.ex
    rw [tno_nil] at hl ⊢
    exact bnode_nil w q K D hr hl h k sa xa sc X.length xc _ (vB_nil ..).symm _ rfl
  intro h
  induction h with
  | zero =>
    intro k hh hk S X D w v ht hr hg hX hp hS hl hs hD hm
    by_cases h0 : S = []
    · subst h0; exact nil 0 k X D w v hr hg hl
    · have hn : 0 < S.length := List.length_pos_iff.2 h0
      obtain ⟨sa, sb, so, sc, xa, xb, xo, xc, rfl, r1, r2, _⟩ := hg.ex
      obtain rfl := r2.ptr (by omega)
      have hx0 : 0 < X.length := by omega
      have hc : w.cell? ⟨xb, xo + 0, none⟩ = some (.string (X.getD 0 ByteArray.empty)) := r2.rng 0 _ (by simp [List.getD_eq_getElem?_getD, hx0])
      have hsz := hs _ (getD_mem hx0)
      rw [tno_full hS h0, vB_leaf _ _ _ _ h0]
      exact bnode_leaf w ht q K D hr k sa S.length sc xb xo X.length xc hn hx0 _ hc (by omega) _ rfl
  | succ h ih =>
    intro k hh hk S X D w v ht hr hg hX hp hS hl hs hD hm
    by_cases h0 : S = []
    · subst h0; exact nil (h + 1) k X D w v hr hg hl
    · obtain ⟨va, vx, rfl⟩ : ∃ a b, v = .agg #[a, b] := by
        obtain ⟨a, n, c, b, m, d, e⟩ := hg.form
        exact ⟨_, _, e⟩
      obtain ⟨t, ht2⟩ : ∃ t, bl S ((2 * k + 1) * pw h) = t := ⟨_, rfl⟩
      have htl : t ≤ S.length := by rw [← ht2]; exact bl_le _ _
      have l1 := in_low hp hS
      have l2 := in_high hp hS
      have l3 := tno_cut hp hS h0
      rw [ht2] at l1 l2 l3
      rw [l3, List.length_append] at hl
      have hk1 : (2 * k + 1) * pw h ≤ 2 ^ 40 := by
        have := Cv.half_hi h k
        have := Nat.mul_le_mul_right (pw h) (show 2 * k + 1 ≤ 2 * k + 1 + 1 by omega)
        omega
      have hk2 : (2 * k + 1 + 1) * pw h ≤ 2 ^ 40 := by rw [Cv.half_hi]; exact hk
      have some_one : ∀ (a b : Nat) (T : List Nat) (E : List ByteArray), (tno a b T).length ≤ E.length → 0 < E.length ∨ T ≠ [] := fun a b T E hE => by
        by_cases hT : T = []
        · subst hT; rw [tno_nil] at hE; exact .inl hE
        · exact .inr hT
      have hD1 : ∀ s ∈ D.drop (tno h (2 * k) (S.take t)).length, s.size = clk K := fun s hs => hD s ((List.drop_sublist _ _).subset hs)
      have hl2 : (tno h (2 * k + 1) (S.drop t)).length ≤ (D.drop (tno h (2 * k) (S.take t)).length).length := by rw [List.length_drop]; omega
      have hlt : (S.take t).length ≤ S.length := by rw [List.length_take]; omega
      have hld : (S.drop t).length ≤ S.length := by rw [List.length_drop]; omega
      have := bnode_two w ht q K D hr h k hh hk va vx S X hg hX hp h0 hm t ht2 _ _ (by rw [vB_size (clk_le K) h (2 * k) (S.take t) (X.take t) D hD (some_one _ _ _ _ (Nat.le_trans (Nat.le_add_right _ _) hl))]; exact clk_le K) (by rw [vB_size (clk_le K) h (2 * k + 1) (S.drop t) (X.drop t) _ hD1 (some_one _ _ _ _ hl2)]; exact clk_le K) _ _
        (fun W v h1 h2 h3 => ih (2 * k) (by omega) hk1 (S.take t) (X.take t) D W v h1 h2 h3 (by rw [List.length_take, List.length_take, hX]) (asc_take hp _) l1 (Nat.le_trans (Nat.le_add_right _ _) hl) (fun s hs' => hs s ((List.take_sublist _ _).subset hs')) hD (Nat.le_trans hlt hm))
        (fun W v h1 h2 h3 => ih (2 * k + 1) (by omega) hk2 (S.drop t) (X.drop t) _ W v h1 h2 h3 (by rw [List.length_drop, List.length_drop, hX]) (asc_drop hp _) l2 hl2 (fun s hs' => hs s ((List.drop_sublist _ _).subset hs')) hD1 (Nat.le_trans hld hm)) _ rfl
      rw [vB_two _ _ _ _ _ h0 ht2, l3, List.length_append, ← List.drop_drop]
      exact this
theorem rdu_rd {w : World} {ao : Option Addr} {b off len : Nat} {l : List Nat} (h : RdU w ao b off len l) : Cv.Rd w ao b off len l := ⟨h.hl, h.ptr, fun _ hj => h.at hj⟩
abbrev oP (kd k : Int) (old size : Nat) (vs vd : Value) : Obj := .cells #[.int .i64 kd, .int .i64 k, .int .u64 (old : Int), .int .u64 (size : Int), vs, vd] 55
abbrev vP (kd k : Int) (old size : Nat) (vs vd : Value) : Value := .agg #[.int .i64 kd, .int .i64 k, .int .u64 (old : Int), .int .u64 (size : Int), vs, vd]
set_option maxRecDepth 100000 in
theorem isb_core (w : World) (kd k : Int) (old size : Nat) (sa : Option Addr) (ns sc : Nat) (da : Option Addr) (n2 dc : Nat) (r : Bool) (hr : decide (kd = 2 ∧ (1 ≤ k ∧ k ≤ 32) ∧ old = 0) = r) :
    Calls Tryz.prog 118 #[vP kd k old size (.slice sa ns sc) (.slice da n2 dc)] w fun e w' => e = .returned (.bool r) ∧ Below w.heap.size w w' := by
  have hb := bal (Below.refl w.heap.size w) (oP kd k old size (.slice sa ns sc) (.slice da n2 dc))
  by_cases h1 : kd = 2
  · subst h1
    by_cases h2 : 1 ≤ k ∧ k ≤ 32
    · have HC : Hid (∀ W, Calls Tryz.prog 61 #[.int .i64 k] W fun e w' => e = .returned (.int .i64 0) ∧ W = w') := fun W => by
        have := (check_any W k)
        rw [show chk k = 0 by rw [chk, if_neg (by omega)]] at this
        exact this.mono fun _ _ h => ⟨h.1, h.2.symm⟩
      by_cases h4 : old = 0
      · subst h4
        obtain rfl : true = r := by rw [← hr]; exact (decide_eq_true ⟨rfl, h2, rfl⟩).symm
        clear hr h2
        unfold vP
        unfold oP at hb
        rw [show ((0 : Nat) : Int) = 0 from rfl] at *
        go_enter Tryz.func118, Tryz.ntmps118
        go_wp2_with (go_at_call 61; with_reducible refine (HC.out _).mono ?_; rintro e w1 ⟨rfl, rfl⟩)
        go_ret
        exact ⟨rfl, hb⟩
      · have hz : ((old : Int) == 0) = false := beq_false_of_ne (by omega)
        obtain rfl : false = r := by rw [← hr]; exact (decide_eq_false (by rintro ⟨_, _, h⟩; exact h4 h)).symm
        clear hr h2 h4
        go_enter Tryz.func118, Tryz.ntmps118
        go_wp2_with (go_at_call 61; with_reducible refine (HC.out _).mono ?_; rintro e w1 ⟨rfl, rfl⟩)
        go_ret
        exact ⟨rfl, hb⟩
    · have HC : Hid (∀ W, Calls Tryz.prog 61 #[.int .i64 k] W fun e w' => e = .returned (.int .i64 70) ∧ W = w') := fun W => by
        have := (check_any W k)
        rw [show chk k = 70 by rw [chk, if_pos (by omega)]] at this
        exact this.mono fun _ _ h => ⟨h.1, h.2.symm⟩
      obtain rfl : false = r := by rw [← hr]; exact (decide_eq_false (by rintro ⟨_, h, _⟩; exact h2 h)).symm
      clear hr h2
      go_enter Tryz.func118, Tryz.ntmps118
      go_wp2_with (go_at_call 61; with_reducible refine (HC.out _).mono ?_; rintro e w1 ⟨rfl, rfl⟩)
      go_ret
      exact ⟨rfl, hb⟩
  · obtain rfl : false = r := by rw [← hr]; exact (decide_eq_false (by rintro ⟨h, _, _⟩; exact h1 h)).symm
    clear hr
    go_enter Tryz.func118, Tryz.ntmps118
    go_wp2
    go_ret
    exact ⟨rfl, hb⟩
def fil (k : Int) (m : Nat) (D : List ByteArray) : Prop := D.length = m ∧ ∀ d ∈ D, (d.size : Int) = k
instance (k : Int) (m : Nat) (D : List ByteArray) : Decidable (fil k m D) := by unfold fil; infer_instance
set_option maxRecDepth 100000 in
set_option maxHeartbeats 1000000 in
theorem bfilled_core (w : World) (kd k : Int) (old size : Nat) (sa : Option Addr) (sb so ns sc : Nat) (S : List Nat) (hs : RdU w sa sb so ns S) (hns : ns ≤ 8796093022208) (da : Option Addr) (db dO dc : Nat) (D : List ByteArray) (hr : RdS w da db dO D.length D) (hm : D.length ≤ 8796093022208) (e0 : Nat) (he : Cv.errS size S = e0) (m0 : Nat) (hm0 : (Cv.rstS size S).length = m0) (r : Bool) (hq : decide (e0 = 0 ∧ fil k m0 D) = r) :
    Calls Tryz.prog 119 #[vP kd k old size (.slice sa ns sc) (.slice da D.length dc)] w fun e w' => e = .returned (.bool r) ∧ Below w.heap.size w w' := by
  obtain ⟨o1, ho1⟩ : ∃ o1, oP kd k old size (.slice sa ns sc) (.slice da D.length dc) = o1 := ⟨_, rfl⟩
  have hb0 := bal (Below.refl w.heap.size w) o1
  have HN := Cv.count_any size (w.alloc o1) sa sb so ns sc S (rdu_rd (hs.next hb0)) (Nat.le_trans hns (by decide))
  rw [he, hm0] at HN
  have h6 : Six (w.alloc o1) w.heap.size (.int .i64 kd) (.int .i64 k) (.int .u64 (old : Int)) (.int .u64 (size : Int)) (.slice sa ns sc) (.slice da D.length dc) := by rw [← ho1]; exact six_new w _ _ _ _ _ _
  have HB := hide hb0
  have H6 := hide h6
  rw [← ho1] at HN HB H6
  have ed : IntKind.u64.wrap (D.length : Int) = (D.length : Int) := by rw [IntKind.wrap_u64]; omega
  have HR : Hid (∀ W, Below w.heap.size w W → RdS W da db dO D.length D) := fun W hb => hr.next hb (Nat.le_refl _)
  have hm1 : (D.length : Int) ≤ 8796093022208 := by omega
  by_cases h1 : e0 = 0
  · subst h1
    rw [show ((0 : Nat) : Int) = 0 from rfl] at HN
    by_cases hl : D.length = m0
    · subst hl
      have HQ : Hid (decide (∀ d ∈ D, (d.size : Int) = k) = r) := by
        rw [← hq]
        show decide _ = decide _
        simp only [fil, true_and]
      clear hr hq hm hs he hm0 hb0 h6 ho1
      go_enter Tryz.func119, Tryz.ntmps119
      go_upto_region 2 with (go_at_call 166; with_reducible refine HN.mono ?_; rintro e w1 ⟨rfl, hb1⟩)
      obtain ⟨z0, z1, z2, z3, z4, z5⟩ := (H6.out.next hb1).cells
      have hbx := bnext HB.out hb1
      clear HN hb1 H6 HB
      go_wp2
      go_loopg [28] D.length (fun g i wr => ∃ j : Nat, j ≤ D.length ∧ g = D.length - j ∧ i = .int .i64 (j : Int) ∧ (∀ t, t < j → ((D.getD t ByteArray.empty).size : Int) = k) ∧ w1 = wr)
      case atStart =>
        go_light
        exact ⟨0, Nat.zero_le _, rfl, rfl, fun t ht => absurd ht (Nat.not_lt_zero _), rfl⟩
      case round =>
        obtain ⟨j, hj, rfl, rfl, hal, rfl⟩ := hrel
        by_cases hlt : j < D.length
        · have hz : (j : Int) < (D.length : Int) := by omega
          have hz0 : (0 : Int) ≤ (j : Int) := Int.natCast_nonneg _
          have hrd := HR.out w1 hbx
          obtain rfl := hrd.ptr (by omega)
          have cj := hrd.at hlt
          obtain ⟨d, hd⟩ : ∃ d, D.getD j ByteArray.empty = d := ⟨_, rfl⟩
          rw [hd] at cj
          by_cases hk : (d.size : Int) = k
          · have HN : Hid (∀ t, t < j + 1 → ((D.getD t ByteArray.empty).size : Int) = k) := fun t ht => by
              rcases Nat.lt_or_eq_of_le (Nat.le_of_lt_succ ht) with hx | rfl
              · exact hal t hx
              · rw [hd]; exact hk
            clear hd hal hrd
            go_wp2
            go_roundg (D.length - (j + 1))
            case rel =>
              go_light
              exact ⟨j + 1, by omega, rfl, by go_num, HN.out, rfl⟩
            case measure => go_light; omega
          · obtain rfl : false = r := by
              rw [← HQ.out]
              refine (decide_eq_false fun h => hk ?_).symm
              rw [← hd]
              exact h _ (getD_mem hlt)
            clear hd hal hrd
            go_wp2
            go_ret
            exact ⟨rfl, hbx⟩
        · obtain rfl : j = D.length := by omega
          have hz : ¬ ((D.length : Int) < (D.length : Int)) := by omega
          obtain rfl : true = r := by
            rw [← HQ.out]
            refine (decide_eq_true fun d hd => ?_).symm
            obtain ⟨t, ht, rfl⟩ := List.getElem_of_mem hd
            have := hal t ht
            rwa [List.getD_eq_getElem?_getD, List.getElem?_eq_getElem ht] at this
          clear hal hlt
          go_wp2
          go_ret
          exact ⟨rfl, hbx⟩
    · have hz : ¬ (m0 : Int) = (D.length : Int) := by omega
      obtain rfl : false = r := by rw [← hq]; exact (decide_eq_false (by rintro ⟨_, h, _⟩; exact hl h)).symm
      clear hr hq hm hs he hm0 hb0 h6 ho1 hl HR
      go_enter Tryz.func119, Tryz.ntmps119
      go_upto_region 2 with (go_at_call 166; with_reducible refine HN.mono ?_; rintro e w1 ⟨rfl, hb1⟩)
      obtain ⟨z0, z1, z2, z3, z4, z5⟩ := (H6.out.next hb1).cells
      have hbx := bnext HB.out hb1
      clear HN hb1 H6 HB
      go_wp2
      go_ret
      exact ⟨rfl, hbx⟩
  · have hz : ¬ (e0 : Int) = 0 := by omega
    obtain rfl : false = r := by rw [← hq]; exact (decide_eq_false (by rintro ⟨h, _⟩; exact h1 h)).symm
    clear hr hq hm hs he hm0 hb0 h6 ho1 h1 HR
    go_enter Tryz.func119, Tryz.ntmps119
    go_upto_region 2 with (go_at_call 166; with_reducible refine HN.mono ?_; rintro e w1 ⟨rfl, hb1⟩)
    obtain ⟨z0, z1, z2, z3, z4, z5⟩ := (H6.out.next hb1).cells
    have hbx := bnext HB.out hb1
    clear HN hb1 H6 HB
    go_wp2
    go_ret
    exact ⟨rfl, hbx⟩
end Go.Proofs.YtdocjikpcbmcgaaGreatDoor
namespace Go.Proofs.YtdocjikpcbmcgaaGreatDoor
open Pl (pw pw_succ pw_pos pw_zero)
open Cv (tno All Til But)
abbrev He : Type := (Nat × Nat) × ByteArray
def Fn (K : List He) : Prop := ∀ e ∈ K, ∀ e' ∈ K, e.1 = e'.1 → e.2 = e'.2
def knS (c : Nat) (S : List Nat) (X : List ByteArray) : List He := (S.zip X).map fun p => ((0, p.1), dg c (leafT p.2))
theorem knS_len (c : Nat) (S : List Nat) (X : List ByteArray) (h : X.length = S.length) : (knS c S X).length = S.length := by
  rw [knS, List.length_map, List.length_zip, h, Nat.min_self]
theorem knS_at (c : Nat) {S : List Nat} {X : List ByteArray} (h : X.length = S.length) {j : Nat} (hj : j < S.length) : (knS c S X)[j]? = some ((0, S.getD j 0), dg c (leafT (X.getD j ByteArray.empty))) := by
  have hz : (S.zip X)[j]? = some (S[j], X[j]'(by omega)) := List.getElem?_zip_eq_some.2 ⟨List.getElem?_eq_getElem hj, List.getElem?_eq_getElem (show j < X.length by omega)⟩
  rw [knS, List.getElem?_map, hz, List.getD_eq_getElem?_getD, List.getElem?_eq_getElem hj, List.getD_eq_getElem?_getD, List.getElem?_eq_getElem (show j < X.length by omega)]
  rfl
theorem zip_at {R : List (Nat × Nat)} {D : List ByteArray} (h : D.length = R.length) {j : Nat} (hj : j < R.length) : (R.zip D)[j]? = some (R.getD j (0, 0), D.getD j ByteArray.empty) := by
  have hz : (R.zip D)[j]? = some (R[j], D[j]'(by omega)) := List.getElem?_zip_eq_some.2 ⟨List.getElem?_eq_getElem hj, List.getElem?_eq_getElem (show j < D.length by omega)⟩
  rw [hz, List.getD_eq_getElem?_getD, List.getElem?_eq_getElem hj, List.getD_eq_getElem?_getD, List.getElem?_eq_getElem (show j < D.length by omega)]
  rfl
theorem zip_len {R : List (Nat × Nat)} {D : List ByteArray} (h : D.length = R.length) : (R.zip D).length = R.length := by rw [List.length_zip, h, Nat.min_self]
theorem til_all {A : Nat → Prop} {q : Nat} : ∀ {L : List (Nat × Nat)} {p : Nat}, Til A q p L → ∀ b ∈ L, p ≤ b.2 * pw b.1 ∧ All A b.1 b.2
  | [], _, _, b, hb => by cases hb
  | m :: L, p, h, b, hb => by
    obtain ⟨h1, h2, h3, h4, h5, h6⟩ := h
    rcases List.mem_cons.1 hb with rfl | hb
    · exact ⟨h1, h4⟩
    · have := til_all h6 b hb
      have h7 := Cv.blk_lt m.1 m.2
      exact ⟨by omega, this.2⟩
theorem til_unlike {A : Nat → Prop} {q : Nat} : ∀ {L : List (Nat × Nat)} {p : Nat}, Til A q p L → ∀ i j, i < j → j < L.length → L.getD i (0, 0) ≠ L.getD j (0, 0)
  | [], _, _, i, j, _, hj => absurd hj (Nat.not_lt_zero j)
  | m :: L, p, h, i, j, hij, hj => by
    obtain ⟨h1, h2, h3, h4, h5, h6⟩ := h
    match i, j, hij with
    | 0, j + 1, _ =>
      intro e
      have hj' : j < L.length := by rw [List.length_cons] at hj; omega
      have hm : L.getD j (0, 0) ∈ L := by rw [List.getD_eq_getElem?_getD, List.getElem?_eq_getElem hj']; exact List.getElem_mem _
      have h8 := (til_all h6 _ hm).1
      have e' : m = L.getD j (0, 0) := e
      rw [← e'] at h8
      have h7 := Cv.blk_lt m.1 m.2
      omega
    | i + 1, j + 1, hij => exact til_unlike h6 i j (by omega) (by rw [List.length_cons] at hj; omega)
section
variable {c n : Nat} {S : List Nat} {X D : List ByteArray}
theorem kn_mem (hX : X.length = S.length) {R : List (Nat × Nat)} (hD : D.length = R.length) {e : He} (he : e ∈ knS c S X ++ R.zip D) : (∃ j, j < S.length ∧ e = ((0, S.getD j 0), dg c (leafT (X.getD j ByteArray.empty)))) ∨ ∃ j, j < R.length ∧ e = (R.getD j (0, 0), D.getD j ByteArray.empty) := by
  rcases List.mem_append.1 he with he | he
  · obtain ⟨j, hj, hv⟩ := List.getElem_of_mem he
    rw [knS_len c S X hX] at hj
    refine .inl ⟨j, hj, ?_⟩
    have := knS_at c hX hj
    rw [List.getElem?_eq_getElem (by rw [knS_len c S X hX]; exact hj), hv] at this
    exact Option.some.inj this
  · obtain ⟨j, hj, hv⟩ := List.getElem_of_mem he
    rw [zip_len hD] at hj
    refine .inr ⟨j, hj, ?_⟩
    have := zip_at hD hj
    rw [List.getElem?_eq_getElem (by rw [zip_len hD]; exact hj), hv] at this
    exact Option.some.inj this
theorem asc_unlike (hp : Asc S) {i j : Nat} (hi : i < S.length) (hj : j < S.length) (he : S.getD i 0 = S.getD j 0) : i = j := by
  rw [List.getD_eq_getElem?_getD, List.getElem?_eq_getElem hi, List.getD_eq_getElem?_getD, List.getElem?_eq_getElem hj] at he
  have he : S[i] = S[j] := he
  have hw := List.pairwise_iff_getElem.1 hp
  rcases Nat.lt_trichotomy i j with h | h | h
  · have := hw i j hi hj h; omega
  · exact h
  · have := hw j i hj hi h; omega
theorem kn_fn (he : Cv.errS n S = 0) (hX : X.length = S.length) (hD : D.length = (Cv.rst 0 n S).length) : Fn (knS c S X ++ (Cv.rst 0 n S).zip D) := by
  obtain ⟨h40, _, _, hc⟩ := Cv.errS_ok he
  have hp := chain_asc hc
  have ht := Cv.rst_but n S h40 hc
  obtain ⟨R, hR⟩ : ∃ R, Cv.rst 0 n S = R := ⟨_, rfl⟩
  rw [hR] at hD ht ⊢
  have mixed : ∀ i j, i < S.length → j < R.length → (0, S.getD i 0) ≠ R.getD j (0, 0) := fun i j hi hj e => by
    have hm : R.getD j (0, 0) ∈ R := by rw [List.getD_eq_getElem?_getD, List.getElem?_eq_getElem hj]; exact List.getElem_mem _
    have := (til_all ht _ hm).2
    rw [← e] at this
    have h2 := this (S.getD i 0) (by simp [pw]) (by simp [pw])
    exact h2.2 (by rw [List.getD_eq_getElem?_getD, List.getElem?_eq_getElem hi]; exact List.getElem_mem _)
  intro e h1 e' h2 heq
  rcases kn_mem hX hD h1 with ⟨i, hi, rfl⟩ | ⟨i, hi, rfl⟩ <;> rcases kn_mem hX hD h2 with ⟨j, hj, rfl⟩ | ⟨j, hj, rfl⟩
  · obtain rfl := asc_unlike hp hi hj (congrArg Prod.snd heq)
    rfl
  · exact absurd heq (mixed i j hi hj)
  · exact absurd heq.symm (mixed j i hj hi)
  · have heq : R.getD i (0, 0) = R.getD j (0, 0) := heq
    rcases Nat.lt_trichotomy i j with h | h | h
    · exact absurd heq (til_unlike ht i j h hj)
    · rw [h]
    · exact absurd heq.symm (til_unlike ht j i h hi)
theorem kn_tl (he : Cv.errS n S = 0) (hX : X.length = S.length) (hD : D.length = (Cv.rst 0 n S).length) : ∀ j, j < (Cv.dnL 41 0 n).length → Tl c (knS c S X ++ (Cv.rst 0 n S).zip D) ((Cv.dnL 41 0 n).getD j (0, 0)).1 ((Cv.dnL 41 0 n).getD j (0, 0)).2 ((pB c (Cv.dnL 41 0 n) S X D).getD j ByteArray.empty) := by
  obtain ⟨h40, _, _, hc⟩ := Cv.errS_ok he
  have hp := chain_asc hc
  have hrow : Cv.Row n 0 (Cv.dnL 41 0 n) := by rw [← Cv.cov_zero n h40]; exact Cv.cov_row 0 n (Nat.zero_le _) h40
  have hfr : Fr 0 n S := fun i hi => Cv.chain_mem hc i hi
  have ht := Cv.rst_but n S h40 hc
  have hfB : fB (Cv.dnL 41 0 n) S = Cv.rst 0 n S := by rw [fB_flat hrow hp hfr, ← Cv.rest_ref n S h40 hc]
  refine pB_tl c _ _ 0 S X D hrow hp hfr (fun e hm h0 i hi hin => ?_) (fun j hj => ?_) (fun j hj => ?_)
  · rcases kn_mem hX hD hm with ⟨j, hj, rfl⟩ | ⟨j, hj, rfl⟩
    · exact absurd h0 (Nat.lt_irrefl 0)
    · have hm : (Cv.rst 0 n S).getD j (0, 0) ∈ Cv.rst 0 n S := by rw [List.getD_eq_getElem?_getD, List.getElem?_eq_getElem hj]; exact List.getElem_mem _
      exact ((til_all ht _ hm).2 i hin.1 hin.2).2 hi
  · exact List.mem_append_left _ (List.mem_of_getElem? (knS_at c hX hj))
  · rw [hfB] at hj ⊢
    exact List.mem_append_right _ (List.mem_of_getElem? (zip_at hD hj))
end
end Go.Proofs.YtdocjikpcbmcgaaGreatDoor
namespace Go.Proofs.YtdocjikpcbmcgaaGreatDoor
open Pl (pw pw_succ pw_pos pw_zero pw_add pw_le)
open Cv (dnL cov cov_zero Row cov_row)
theorem mem_getD {L : List (Nat × Nat)} {j : Nat} (hj : j < L.length) : L.getD j (0, 0) ∈ L := by
  rw [List.getD_eq_getElem?_getD, List.getElem?_eq_getElem hj]; exact List.getElem_mem hj
end Go.Proofs.YtdocjikpcbmcgaaGreatDoor
