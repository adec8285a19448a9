/-
  Own work: BWalkC, LClmA, LList.
-/
import Derived.Test.YtipcenbndhnnhaaGreatDoorQd21
import Derived.Test.YtipcenbndhnnhaaGreatDoorQd23
namespace Go.Proofs.YtipcenbndhnnhaaGreatDoor
open Go.RowKit
open Cv (RdC zl cU tno)
open Pl (pw)
attribute [local go_sem ↓] Go.wp_at_zero Go.wp_at_succ
variable {GB RB : Nat}
theorem bnode_any (q : Nat) (K : Int) : ∀ (h k : Nat), h ≤ 40 → (k + 1) * pw h ≤ 2 ^ 40 → ∀ (S : List Nat) (X D : List ByteArray) (w : World) (v : Value), Tb w → Rw w RB q K D → Gv w GB v S X → X.length = S.length → Asc S → In h k S → (tno h k S).length ≤ D.length → (∀ s ∈ X, s.size ≤ 1048576) → (∀ s ∈ D, s.size = clk K) → S.length ≤ 8796093022208 →
    Calls Tryz.prog 123 #[.pointer (some ⟨q, 0, none⟩), .agg #[.int .i64 (h : Int), .int .u64 (k : Int)], v] w fun e w' => e = .returned (.string (vB (clk K) h k S X D)) ∧ Rw w' RB q K (D.drop (tno h k S).length) ∧ Bx q w w' := by
  have nil : ∀ (h k : Nat) (X D : List ByteArray) (w : World) (v : Value), Rw w RB q K D → Gv w GB v [] X → (tno h k []).length ≤ D.length → Calls Tryz.prog 123 #[.pointer (some ⟨q, 0, none⟩), .agg #[.int .i64 (h : Int), .int .u64 (k : Int)], v] w fun e w' => e = .returned (.string (vB (clk K) h k [] X D)) ∧ Rw w' RB q K (D.drop (tno h k []).length) ∧ Bx q w w' := fun h k X D w v hr hg hl => by
    obtain ⟨sa, sb, so, sc, xa, xb, xo, xc, rfl, _⟩ := hg.ex
    rw [tno_nil] at hl ⊢
    exact bnode_nil w q K D hr hl h k sa xa sc X.length xc _ (vB_nil ..).symm _ rfl
  intro h
  induction h with
  | zero =>
    intro k hh hk S X D w v ht hr hg hX hp hS hl hs hD hm
    by_cases h0 : S = []
    · subst h0; exact nil 0 k X D w v hr hg hl
    · have hn : 0 < S.length := List.length_pos_iff.2 h0
      obtain ⟨sa, sb, so, sc, xa, xb, xo, xc, rfl, r1, r2, _⟩ := hg.ex
      obtain rfl := r2.ptr (by omega)
      have hx0 : 0 < X.length := by omega
      have hc : w.cell? ⟨xb, xo + 0, none⟩ = some (.string (X.getD 0 ByteArray.empty)) := r2.rng 0 _ (by simp [List.getD_eq_getElem?_getD, hx0])
      have hsz := hs _ (getD_mem hx0)
      rw [tno_full hS h0, vB_leaf _ _ _ _ h0]
      exact bnode_leaf w ht q K D hr k sa S.length sc xb xo X.length xc hn hx0 _ hc (by omega) _ rfl
  | succ h ih =>
    intro k hh hk S X D w v ht hr hg hX hp hS hl hs hD hm
    by_cases h0 : S = []
    · subst h0; exact nil (h + 1) k X D w v hr hg hl
    · obtain ⟨va, vx, rfl⟩ : ∃ a b, v = .agg #[a, b] := by
        obtain ⟨a, n, c, b, m, d, e⟩ := hg.form
        exact ⟨_, _, e⟩
      obtain ⟨t, ht2⟩ : ∃ t, bl S ((2 * k + 1) * pw h) = t := ⟨_, rfl⟩
      have htl : t ≤ S.length := by rw [← ht2]; exact bl_le _ _
      have l1 := in_low hp hS
      have l2 := in_high hp hS
      have l3 := tno_cut hp hS h0
      rw [ht2] at l1 l2 l3
      rw [l3, List.length_append] at hl
      have hk1 : (2 * k + 1) * pw h ≤ 2 ^ 40 := by
        have := Cv.half_hi h k
        have := Nat.mul_le_mul_right (pw h) (show 2 * k + 1 ≤ 2 * k + 1 + 1 by omega)
        omega
      have hk2 : (2 * k + 1 + 1) * pw h ≤ 2 ^ 40 := by rw [Cv.half_hi]; exact hk
      have some_one : ∀ (a b : Nat) (T : List Nat) (E : List ByteArray), (tno a b T).length ≤ E.length → 0 < E.length ∨ T ≠ [] := fun a b T E hE => by
        by_cases hT : T = []
        · subst hT; rw [tno_nil] at hE; exact .inl hE
        · exact .inr hT
      have hD1 : ∀ s ∈ D.drop (tno h (2 * k) (S.take t)).length, s.size = clk K := fun s hs => hD s ((List.drop_sublist _ _).subset hs)
      have hl2 : (tno h (2 * k + 1) (S.drop t)).length ≤ (D.drop (tno h (2 * k) (S.take t)).length).length := by rw [List.length_drop]; omega
      have hlt : (S.take t).length ≤ S.length := by rw [List.length_take]; omega
      have hld : (S.drop t).length ≤ S.length := by rw [List.length_drop]; omega
      have := bnode_two w ht q K D hr h k hh hk va vx S X hg hX hp h0 hm t ht2 _ _ (by rw [vB_size (clk_le K) h (2 * k) (S.take t) (X.take t) D hD (some_one _ _ _ _ (Nat.le_trans (Nat.le_add_right _ _) hl))]; exact clk_le K) (by rw [vB_size (clk_le K) h (2 * k + 1) (S.drop t) (X.drop t) _ hD1 (some_one _ _ _ _ hl2)]; exact clk_le K) _ _
        (fun W v h1 h2 h3 => ih (2 * k) (by omega) hk1 (S.take t) (X.take t) D W v h1 h2 h3 (by rw [List.length_take, List.length_take, hX]) (asc_take hp _) l1 (Nat.le_trans (Nat.le_add_right _ _) hl) (fun s hs' => hs s ((List.take_sublist _ _).subset hs')) hD (Nat.le_trans hlt hm))
        (fun W v h1 h2 h3 => ih (2 * k + 1) (by omega) hk2 (S.drop t) (X.drop t) _ W v h1 h2 h3 (by rw [List.length_drop, List.length_drop, hX]) (asc_drop hp _) l2 hl2 (fun s hs' => hs s ((List.drop_sublist _ _).subset hs')) hD1 (Nat.le_trans hld hm)) _ rfl
      rw [vB_two _ _ _ _ _ h0 ht2, l3, List.length_append, ← List.drop_drop]
      exact this
theorem rdu_rd {w : World} {ao : Option Addr} {b off len : Nat} {l : List Nat} (h : RdU w ao b off len l) : Cv.Rd w ao b off len l := ⟨h.hl, h.ptr, fun _ hj => h.at hj⟩
abbrev oP (kd k : Int) (old size : Nat) (vs vd : Value) : Obj := .cells #[.int .i64 kd, .int .i64 k, .int .u64 (old : Int), .int .u64 (size : Int), vs, vd] 38
abbrev vP (kd k : Int) (old size : Nat) (vs vd : Value) : Value := .agg #[.int .i64 kd, .int .i64 k, .int .u64 (old : Int), .int .u64 (size : Int), vs, vd]
set_option maxRecDepth 100000 in
theorem isb_core (w : World) (kd k : Int) (old size : Nat) (sa : Option Addr) (ns sc : Nat) (da : Option Addr) (n2 dc : Nat) (r : Bool) (hr : decide (kd = 2 ∧ (1 ≤ k ∧ k ≤ 32) ∧ old = 0) = r) :
    Calls Tryz.prog 119 #[vP kd k old size (.slice sa ns sc) (.slice da n2 dc)] w fun e w' => e = .returned (.bool r) ∧ Below w.heap.size w w' := by
  have hb := bal (Below.refl w.heap.size w) (oP kd k old size (.slice sa ns sc) (.slice da n2 dc))
  by_cases h1 : kd = 2
  · subst h1
    by_cases h2 : 1 ≤ k ∧ k ≤ 32
    · have HC : Hid (∀ W, Calls Tryz.prog 48 #[.int .i64 k] W fun e w' => e = .returned (.int .i64 0) ∧ W = w') := fun W => by
        have := (check_any W k)
        rw [show chk k = 0 by rw [chk, if_neg (by omega)]] at this
        exact this.mono fun _ _ h => ⟨h.1, h.2.symm⟩
      by_cases h4 : old = 0
      · subst h4
        obtain rfl : true = r := by rw [← hr]; exact (decide_eq_true ⟨rfl, h2, rfl⟩).symm
        clear hr h2
        unfold vP
        unfold oP at hb
        rw [show ((0 : Nat) : Int) = 0 from rfl] at *
        go_enter Tryz.func119, Tryz.ntmps119
        go_wp2_with (go_at_call 48; with_reducible refine (HC.out _).mono ?_; rintro e w1 ⟨rfl, rfl⟩)
        go_ret
        exact ⟨rfl, hb⟩
      · have hz : ((old : Int) == 0) = false := beq_false_of_ne (by omega)
        obtain rfl : false = r := by rw [← hr]; exact (decide_eq_false (by rintro ⟨_, _, h⟩; exact h4 h)).symm
        clear hr h2 h4
        go_enter Tryz.func119, Tryz.ntmps119
        go_wp2_with (go_at_call 48; with_reducible refine (HC.out _).mono ?_; rintro e w1 ⟨rfl, rfl⟩)
        go_ret
        exact ⟨rfl, hb⟩
    · have HC : Hid (∀ W, Calls Tryz.prog 48 #[.int .i64 k] W fun e w' => e = .returned (.int .i64 70) ∧ W = w') := fun W => by
        have := (check_any W k)
        rw [show chk k = 70 by rw [chk, if_pos (by omega)]] at this
        exact this.mono fun _ _ h => ⟨h.1, h.2.symm⟩
      obtain rfl : false = r := by rw [← hr]; exact (decide_eq_false (by rintro ⟨_, h, _⟩; exact h2 h)).symm
      clear hr h2
      go_enter Tryz.func119, Tryz.ntmps119
      go_wp2_with (go_at_call 48; with_reducible refine (HC.out _).mono ?_; rintro e w1 ⟨rfl, rfl⟩)
      go_ret
      exact ⟨rfl, hb⟩
  · obtain rfl : false = r := by rw [← hr]; exact (decide_eq_false (by rintro ⟨h, _, _⟩; exact h1 h)).symm
    clear hr
    go_enter Tryz.func119, Tryz.ntmps119
    go_wp2
    go_ret
    exact ⟨rfl, hb⟩
def fil (k : Int) (m : Nat) (D : List ByteArray) : Prop := D.length = m ∧ ∀ d ∈ D, (d.size : Int) = k
instance (k : Int) (m : Nat) (D : List ByteArray) : Decidable (fil k m D) := by unfold fil; infer_instance
set_option maxRecDepth 100000 in
set_option maxHeartbeats 1000000 in
theorem bfilled_core (w : World) (kd k : Int) (old size : Nat) (sa : Option Addr) (sb so ns sc : Nat) (S : List Nat) (hs : RdU w sa sb so ns S) (hns : ns ≤ 1048576) (da : Option Addr) (db dO dc : Nat) (D : List ByteArray) (hr : RdS w da db dO D.length D) (hm : D.length ≤ 8796093022208) (e0 : Nat) (he : Cv.errS size S = e0) (m0 : Nat) (hm0 : (Cv.rstS size S).length = m0) (r : Bool) (hq : decide (e0 = 0 ∧ fil k m0 D) = r) :
    Calls Tryz.prog 120 #[vP kd k old size (.slice sa ns sc) (.slice da D.length dc)] w fun e w' => e = .returned (.bool r) ∧ Below w.heap.size w w' := by
  obtain ⟨o1, ho1⟩ : ∃ o1, oP kd k old size (.slice sa ns sc) (.slice da D.length dc) = o1 := ⟨_, rfl⟩
  have hb0 := bal (Below.refl w.heap.size w) o1
  have HN := Cv.count_any size (w.alloc o1) sa sb so ns sc S (rdu_rd (hs.next hb0)) (Nat.le_trans hns (by decide))
  rw [he, hm0] at HN
  have h6 : Six (w.alloc o1) w.heap.size (.int .i64 kd) (.int .i64 k) (.int .u64 (old : Int)) (.int .u64 (size : Int)) (.slice sa ns sc) (.slice da D.length dc) := by rw [← ho1]; exact six_new w _ _ _ _ _ _
  have HB := hide hb0
  have H6 := hide h6
  rw [← ho1] at HN HB H6
  have ed : IntKind.u64.wrap (D.length : Int) = (D.length : Int) := by rw [IntKind.wrap_u64]; omega
  have HR : Hid (∀ W, Below w.heap.size w W → RdS W da db dO D.length D) := fun W hb => hr.next hb (Nat.le_refl _)
  have hm1 : (D.length : Int) ≤ 8796093022208 := by omega
  by_cases h1 : e0 = 0
  · subst h1
    rw [show ((0 : Nat) : Int) = 0 from rfl] at HN
    by_cases hl : D.length = m0
    · subst hl
      have HQ : Hid (decide (∀ d ∈ D, (d.size : Int) = k) = r) := by
        rw [← hq]
        show decide _ = decide _
        simp only [fil, true_and]
      clear hr hq hm hs he hm0 hb0 h6 ho1
      go_enter Tryz.func120, Tryz.ntmps120
      go_upto_region 2 with (go_at_call 151; with_reducible refine HN.mono ?_; rintro e w1 ⟨rfl, hb1⟩)
      obtain ⟨z0, z1, z2, z3, z4, z5⟩ := (H6.out.next hb1).cells
      have hbx := bnext HB.out hb1
      clear HN hb1 H6 HB
      go_wp2
      go_loopg [28] D.length (fun g i wr => ∃ j : Nat, j ≤ D.length ∧ g = D.length - j ∧ i = .int .i64 (j : Int) ∧ (∀ t, t < j → ((D.getD t ByteArray.empty).size : Int) = k) ∧ w1 = wr)
      case atStart =>
        go_light
        exact ⟨0, Nat.zero_le _, rfl, rfl, fun t ht => absurd ht (Nat.not_lt_zero _), rfl⟩
      case round =>
        obtain ⟨j, hj, rfl, rfl, hal, rfl⟩ := hrel
        by_cases hlt : j < D.length
        · have hz : (j : Int) < (D.length : Int) := by omega
          have hz0 : (0 : Int) ≤ (j : Int) := Int.natCast_nonneg _
          have hrd := HR.out w1 hbx
          obtain rfl := hrd.ptr (by omega)
          have cj := hrd.at hlt
          obtain ⟨d, hd⟩ : ∃ d, D.getD j ByteArray.empty = d := ⟨_, rfl⟩
          rw [hd] at cj
          by_cases hk : (d.size : Int) = k
          · have HN : Hid (∀ t, t < j + 1 → ((D.getD t ByteArray.empty).size : Int) = k) := fun t ht => by
              rcases Nat.lt_or_eq_of_le (Nat.le_of_lt_succ ht) with hx | rfl
              · exact hal t hx
              · rw [hd]; exact hk
            clear hd hal hrd
            go_wp2
            go_roundg (D.length - (j + 1))
            case rel =>
              go_light
              exact ⟨j + 1, by omega, rfl, by go_num, HN.out, rfl⟩
            case measure => go_light; omega
          · obtain rfl : false = r := by
              rw [← HQ.out]
              refine (decide_eq_false fun h => hk ?_).symm
              rw [← hd]
              exact h _ (getD_mem hlt)
            clear hd hal hrd
            go_wp2
            go_ret
            exact ⟨rfl, hbx⟩
        · obtain rfl : j = D.length := by omega
          have hz : ¬ ((D.length : Int) < (D.length : Int)) := by omega
          obtain rfl : true = r := by
            rw [← HQ.out]
            refine (decide_eq_true fun d hd => ?_).symm
            obtain ⟨t, ht, rfl⟩ := List.getElem_of_mem hd
            have := hal t ht
            rwa [List.getD_eq_getElem?_getD, List.getElem?_eq_getElem ht] at this
          clear hal hlt
          go_wp2
          go_ret
          exact ⟨rfl, hbx⟩
    · have hz : ¬ (m0 : Int) = (D.length : Int) := by omega
      obtain rfl : false = r := by rw [← hq]; exact (decide_eq_false (by rintro ⟨_, h, _⟩; exact hl h)).symm
      clear hr hq hm hs he hm0 hb0 h6 ho1 hl HR
      go_enter Tryz.func120, Tryz.ntmps120
      go_upto_region 2 with (go_at_call 151; with_reducible refine HN.mono ?_; rintro e w1 ⟨rfl, hb1⟩)
      obtain ⟨z0, z1, z2, z3, z4, z5⟩ := (H6.out.next hb1).cells
      have hbx := bnext HB.out hb1
      clear HN hb1 H6 HB
      go_wp2
      go_ret
      exact ⟨rfl, hbx⟩
  · have hz : ¬ (e0 : Int) = 0 := by omega
    obtain rfl : false = r := by rw [← hq]; exact (decide_eq_false (by rintro ⟨h, _⟩; exact h1 h)).symm
    clear hr hq hm hs he hm0 hb0 h6 ho1 h1 HR
    go_enter Tryz.func120, Tryz.ntmps120
    go_upto_region 2 with (go_at_call 151; with_reducible refine HN.mono ?_; rintro e w1 ⟨rfl, hb1⟩)
    obtain ⟨z0, z1, z2, z3, z4, z5⟩ := (H6.out.next hb1).cells
    have hbx := bnext HB.out hb1
    clear HN hb1 H6 HB
    go_wp2
    go_ret
    exact ⟨rfl, hbx⟩
end Go.Proofs.YtipcenbndhnnhaaGreatDoor
namespace Go.Proofs.YtipcenbndhnnhaaGreatDoor
open Go.RowKit
attribute [local go_sem ↓] Go.wp_at_zero Go.wp_at_succ
def cK (l : List (Nat × ByteArray)) : List Value := l.flatMap fun c => [.int .u64 (c.1 : Int), .string c.2]
theorem cK_cons (c : Nat × ByteArray) (l : List (Nat × ByteArray)) : cK (c :: l) = .int .u64 (c.1 : Int) :: .string c.2 :: cK l := rfl
theorem cK_app (l m : List (Nat × ByteArray)) : cK (l ++ m) = cK l ++ cK m := by simp [cK]
theorem cK_len (l : List (Nat × ByteArray)) : (cK l).length = 2 * l.length := by
  induction l with
  | nil => rfl
  | cons c l ih => rw [cK_cons, List.length_cons, List.length_cons, List.length_cons, ih]; omega
abbrev noC : Nat × ByteArray := (0, ByteArray.empty)
theorem cK_at (l : List (Nat × ByteArray)) : ∀ j, j < l.length → (cK l)[j * 2]? = some (.int .u64 ((l.getD j noC).1 : Int)) ∧ (cK l)[j * 2 + 1]? = some (.string (l.getD j noC).2) := by
  induction l with
  | nil => intro j hj; exact absurd hj (by simp)
  | cons c l ih =>
    intro j hj
    cases j with
    | zero => exact ⟨rfl, rfl⟩
    | succ j =>
      have := ih j (by simpa using hj)
      rw [cK_cons, show (j + 1) * 2 = j * 2 + 1 + 1 by omega, List.getElem?_cons_succ, List.getElem?_cons_succ, List.getElem?_cons_succ, List.getElem?_cons_succ, List.getD_cons_succ]
      exact this
structure RdK (w : World) (ao : Option Addr) (b off n : Nat) (l : List (Nat × ByteArray)) : Prop where
  hl : l.length = n
  ptr : 0 < n → ao = some ⟨b, off, none⟩
  rng : w.rangeAt b off (cK l)
  sz : ∀ c ∈ l, c.2.size ≤ 9223372036854775807
theorem RdK.at {w : World} {ao : Option Addr} {b off n : Nat} {l : List (Nat × ByteArray)} (h : RdK w ao b off n l) {j : Nat} (hj : j < n) : w.cell? ⟨b, off + j * 2, none⟩ = some (.int .u64 ((l.getD j noC).1 : Int)) ∧ w.cell? ⟨b, off + j * 2 + 1, none⟩ = some (.string (l.getD j noC).2) := by
  have := cK_at l j (by rw [h.hl]; exact hj)
  exact ⟨h.rng _ _ this.1, by rw [Nat.add_assoc]; exact h.rng _ _ this.2⟩
theorem RdK.lt {w : World} {ao : Option Addr} {b off n : Nat} {l : List (Nat × ByteArray)} (h : RdK w ao b off n l) (h0 : 0 < n) : b < w.heap.size := World.block_lt_of_cell? w _ (h.at h0).1
theorem RdK.next {w W : World} {ao : Option Addr} {b off n : Nat} {l : List (Nat × ByteArray)} (h : RdK w ao b off n l) (hb : Below w.heap.size w W) : RdK W ao b off n l := by
  refine ⟨h.hl, h.ptr, ?_, h.sz⟩
  by_cases h0 : 0 < n
  · exact range_below hb (h.lt h0) h.rng
  · have : l = [] := List.length_eq_zero_iff.1 (by rw [h.hl]; omega)
    rw [this]; intro j v hv; cases hv
theorem rdk_nil (w : World) (ao : Option Addr) : RdK w ao 0 0 0 [] := ⟨rfl, fun h => absurd h (Nat.lt_irrefl 0), (fun j v h => by cases h), (fun c h => by cases h)⟩
theorem rdk_one (w : World) (i : Nat) (s : ByteArray) (hs : s.size ≤ 9223372036854775807) : RdK (w.alloc (.cells #[.int .u64 (i : Int), .string s] 46)) (some ⟨w.heap.size, 0, none⟩) w.heap.size 0 1 [(i, s)] :=
  ⟨rfl, fun _ => rfl, range_new w [.int .u64 (i : Int), .string s] 46, fun c hc => by rw [List.mem_singleton.1 hc]; exact hs⟩
abbrev ixs (l : List (Nat × ByteArray)) : List Nat := l.map Prod.fst
abbrev vls (l : List (Nat × ByteArray)) : List ByteArray := l.map Prod.snd
theorem ixs_at (l : List (Nat × ByteArray)) (j : Nat) : (ixs l).getD j 0 = (l.getD j noC).1 := by
  rw [List.getD_eq_getElem?_getD, List.getD_eq_getElem?_getD, List.getElem?_map]
  cases l[j]? <;> rfl
theorem ixs_eq {S : List Nat} {l : List (Nat × ByteArray)} (h : S.length = l.length) (he : ∀ j, j < S.length → S.getD j 0 = (l.getD j noC).1) : S = ixs l := by
  refine List.ext_getElem (by rw [h, List.length_map]) fun j h1 h2 => ?_
  have := he j h1
  rw [← ixs_at, List.getD_eq_getElem?_getD, List.getD_eq_getElem?_getD, List.getElem?_eq_getElem h1, List.getElem?_eq_getElem h2] at this
  exact this
set_option maxRecDepth 100000 in
set_option maxHeartbeats 1000000 in
theorem areof_any (w : World) (sa : Option Addr) (sb so sc : Nat) (S : List Nat) (hs : RdU w sa sb so S.length S) (hm : S.length ≤ 17592186044416) (ca : Option Addr) (cb co cn cc : Nat) (l : List (Nat × ByteArray)) (hc : RdK w ca cb co cn l) (r : Bool) (hr : decide (S = ixs l) = r) :
    Calls Tryz.prog 71 #[.slice sa S.length sc, .slice ca cn cc] w fun e w' => e = .returned (.bool r) ∧ Below w.heap.size w w' := by
  have hcl := hc.hl
  by_cases hl : S.length = cn
  · have HR : Hid (∀ W, Below w.heap.size w W → RdU W sa sb so S.length S ∧ RdK W ca cb co cn l) := fun W hb => ⟨hs.next hb, hc.next hb⟩
    have HE : Hid (decide (S = ixs l) = r ∧ S.length = l.length) := ⟨hr, by omega⟩
    have hm5 : (S.length : Int) ≤ 17592186044416 := by omega
    clear hs hc hr hm
    obtain ⟨n, hn⟩ : ∃ n, S.length = n := ⟨_, rfl⟩
    rw [hn] at hl hm5 HR ⊢
    have HN := hide hn
    clear hn hcl
    subst hl
    go_enter Tryz.func71, Tryz.ntmps71
    go_wp2
    go_loopg [14] n (fun g i wr => ∃ k : Nat, k ≤ n ∧ g = n - k ∧ i = .int .i64 (k : Int) ∧ (∀ j, j < k → S.getD j 0 = (l.getD j noC).1) ∧ Below w.heap.size w wr)
    case atStart =>
      go_light
      exact ⟨0, Nat.zero_le _, rfl, rfl, fun j hj => absurd hj (Nat.not_lt_zero j), Below.refl _ _⟩
    case round =>
      obtain ⟨k, hk, rfl, rfl, he, hb⟩ := hrel
      have hk0 : (0 : Int) ≤ (k : Int) := Int.natCast_nonneg _
      by_cases hlt : k < n
      · obtain ⟨r1, r2⟩ := HR.out wr hb
        obtain rfl := r1.ptr (by omega)
        obtain rfl := r2.ptr (by omega)
        have c1 := r1.at hlt
        have c2 := (r2.at hlt).1
        have hz : (k : Int) < (n : Int) := by omega
        obtain ⟨x, hx⟩ : ∃ x, S.getD k 0 = x := ⟨_, rfl⟩
        obtain ⟨y, hy⟩ : ∃ y, (l.getD k noC).1 = y := ⟨_, rfl⟩
        rw [hx] at c1
        rw [hy] at c2
        have HX : Hid (S.getD k 0 = x ∧ (l.getD k noC).1 = y) := ⟨hx, hy⟩
        have H0 : Hid ((∀ j, j < k → S.getD j 0 = (l.getD j noC).1) ∧ Below w.heap.size w wr) := ⟨he, hb⟩
        clear hx hy r1 r2 he hb
        by_cases hxy : y = x
        · subst hxy
          go_wp2
          go_roundg (n - (k + 1))
          case rel =>
            go_light
            refine ⟨k + 1, by omega, rfl, by go_num, fun j hj => ?_, H0.out.2⟩
            by_cases hjk : j = k
            · subst hjk; rw [HX.out.1, HX.out.2]
            · exact H0.out.1 j (by omega)
          case measure => go_light; omega
        · have hxz : ¬ (y : Int) = (x : Int) := by omega
          have hxb : ((y : Int) == (x : Int)) = false := by simpa using hxz
          have HF : Hid (false = r) := by
            rw [← HE.out.1]
            refine (decide_eq_false fun he => hxy ?_).symm
            have := congrArg (fun t => List.getD t k 0) he
            simp only [ixs_at] at this
            rw [HX.out.1, HX.out.2] at this
            exact this.symm
          go_wp2
          go_ret
          obtain rfl := HF.out
          exact ⟨rfl, H0.out.2⟩
      · have hz : ¬ (k : Int) < (n : Int) := by omega
        have HF : Hid (true = r) := by
          rw [← HE.out.1]
          exact (decide_eq_true (ixs_eq HE.out.2 fun j hj => he j (by have := HN.out; omega))).symm
        go_wp2
        go_ret
        obtain rfl := HF.out
        exact ⟨rfl, hb⟩
  · have HF : false = r := by
      rw [← hr]
      exact (decide_eq_false fun he => hl (by rw [he, List.length_map, hcl])).symm
    subst HF
    have hz : ¬ (S.length : Int) = (cn : Int) := by omega
    have hzb : ((S.length : Int) == (cn : Int)) = false := by simpa using hz
    clear hs hc hr hm
    go_enter Tryz.func71, Tryz.ntmps71
    go_wp2
    go_ret
    exact ⟨rfl, Below.refl _ _⟩
end Go.Proofs.YtipcenbndhnnhaaGreatDoor
namespace Go.Proofs.YtipcenbndhnnhaaGreatDoor
open Go.RowKit
open Cv (RdC)
attribute [local go_sem ↓] Go.wp_at_zero Go.wp_at_succ
theorem Tryz.infoK : (Tryz.prog.info? 46).map (fun i => (i.zero, i.size, i.bytes)) = some (some (.agg #[.int .u64 0, .string ByteArray.empty]), 2, 24) := by kernel_rfl
theorem cK_one (l : List (Nat × ByteArray)) : ∀ u ∈ cK l, u.oneCell' = true := by
  induction l with
  | nil => intro u hu; cases hu
  | cons c l ih =>
    intro u hu
    rw [cK_cons] at hu
    simp only [List.mem_cons] at hu
    rcases hu with rfl | rfl | hu
    · rfl
    · rfl
    · exact ih u hu
def OwnK (w : World) (B : Nat) (v : Value) (l : List (Nat × ByteArray)) : Prop := w.ownsRow B 46 2 v l.length (cK l)
theorem ownK_nil (w : World) (B : Nat) : OwnK w B (.slice none 0 0) [] := ⟨rfl, .inl ⟨rfl, rfl⟩⟩
theorem ownK_next {w W : World} {B : Nat} {v : Value} {l : List (Nat × ByteArray)} (h : OwnK w B v l) (hb : Below w.heap.size w W) : OwnK W B v l :=
  keep_row h fun g hg _ => hb.block g (World.ownsRow.lt h g hg).2
theorem ownK_rd {w : World} {B : Nat} {v : Value} {l : List (Nat × ByteArray)} (h : OwnK w B v l) (hs : ∀ c ∈ l, c.2.size ≤ 9223372036854775807) : ∃ ao b cap, v = .slice ao l.length cap ∧ RdK w ao b 0 l.length l ∧ l.length ≤ cap ∧ (ao = none → cap = 0) := by
  have h0 : w.ownsRow B 46 2 v l.length (cK l) := h
  rcases h0.2 with ⟨hv, h2⟩ | ⟨g, cap, cur, rfl, hg, hh, hc1, hc2, hc3, hc4⟩
  · have : l = [] := List.length_eq_zero_iff.1 h2
    subst this
    exact ⟨none, 0, 0, by rw [hv]; rfl, rdk_nil w none, Nat.le_refl _, fun _ => rfl⟩
  · refine ⟨some ⟨g, 0, none⟩, g, cap, rfl, ⟨rfl, fun _ => rfl, fun j v hv => ?_, hs⟩, hc1, fun h => by cases h⟩
    have := h0.cells (g := g) rfl j v hv
    rw [Addr.add_mid] at this
    exact this
theorem rdc_K1 (w : World) (i : Nat) (s : ByteArray) : RdC (w.alloc (.cells #[.int .u64 (i : Int), .string s] 46)) (.slice (some ⟨w.heap.size, 0, none⟩) 1 1) 1 (cK [(i, s)]) := by
  refine ⟨some ⟨w.heap.size, 0, none⟩, 1, rfl, (fun h => by cases h), fun ad ha j c hj => ?_⟩
  cases ha
  rw [Addr.add_mid, Nat.zero_add, cell_of_row _ _ _ _ _ (0, 0) (heap_alloc_new w _)]
  match j, hj with
  | 0, hj => exact hj
  | 1, hj => exact hj
theorem ownK_at {w : World} {B : Nat} {v : Value} {l : List (Nat × ByteArray)} (h : OwnK w B v l) : ∀ k, v.ownBlock = some k → B ≤ k := fun k hk => (World.ownsRow.lt h k hk).1
end Go.Proofs.YtipcenbndhnnhaaGreatDoor
