/-
  Own work: TWalkD.
-/
import Derived.Test.YtdocjikpcbmcgaaGreatDoorQs15
import Derived.Test.YtdocjikpcbmcgaaGreatDoorQs31
namespace Go.Proofs.YtdocjikpcbmcgaaGreatDoor
open Go.RowKit
open Cv (RdC zl cU)
attribute [local go_sem ↓] Go.wp_at_zero Go.wp_at_succ
theorem box_next (w : World) (kd k : Int) (old size : Nat) (vs vd : Value) : Below w.heap.size w (w.alloc (.cells #[.int .i64 kd, .int .i64 k, .int .u64 (old : Int), .int .u64 (size : Int), vs, vd] 55)) := bal (Below.refl _ _) _
set_option maxRecDepth 100000 in
theorem ispath_core (w : World) (kd k : Int) (old size : Nat) (sa : Option Addr) (ns sc : Nat) (da : Option Addr) (n2 dc : Nat) (x : Nat) (hx : ns = 1 → ∃ b o, sa = some ⟨b, o, none⟩ ∧ w.cell? ⟨b, o, none⟩ = some (.int .u64 (x : Int)))
    (r : Bool) (hr : decide (kd = 1 ∧ (1 ≤ k ∧ k ≤ 32) ∧ size ≤ 2 ^ 40 ∧ old = 0 ∧ ns = 1 ∧ x < size) = r) :
    Calls Tryz.prog 112 #[.agg #[.int .i64 kd, .int .i64 k, .int .u64 (old : Int), .int .u64 (size : Int), .slice sa ns sc, .slice da n2 dc]] w fun e w' => e = .returned (.bool r) ∧ Below w.heap.size w w' := by
  have hb := box_next w kd k old size (.slice sa ns sc) (.slice da n2 dc)
  by_cases h1 : kd = 1
  · subst h1
    by_cases h2 : 1 ≤ k ∧ k ≤ 32
    · have HC : Hid (∀ W, Calls Tryz.prog 61 #[.int .i64 k] W fun e w' => e = .returned (.int .i64 0) ∧ W = w') := fun W => by
        have := (check_any W k)
        rw [show chk k = 0 by rw [chk, if_neg (by omega)]] at this
        exact this.mono fun _ _ h => ⟨h.1, h.2.symm⟩
      by_cases h3 : size ≤ 2 ^ 40
      · have hd : decide ((1099511627776 : Int) < (size : Int)) = false := decide_eq_false (by omega)
        by_cases h4 : old = 0
        · subst h4
          by_cases h5 : ns = 1
          · subst h5
            obtain ⟨b, o, rfl, c0⟩ := hx rfl
            have c1 := (hb.cell (p := ⟨b, o, none⟩) (World.block_lt_of_cell? w _ c0)).trans c0
            have HR : Hid (decide (x < size) = r) := by
              rw [← hr]
              show decide _ = decide _
              simp only [true_and, decide_eq_decide]
              omega
            clear hr hx h2 h3 c0
            rw [show ((0 : Nat) : Int) = 0 from rfl] at *
            go_enter Tryz.func112, Tryz.ntmps112
            go_upto_region 5 with (go_at_call 61; with_reducible refine (HC.out _).mono ?_; rintro e w1 ⟨rfl, rfl⟩)
            go_quiet (fail)
            go_wp2
            go_ret
            exact ⟨by rw [HR.out]; rfl, below_drewN hb _⟩
          · have hz : decide (ns = 1) = false := decide_eq_false h5
            have hz1 : ¬ ns = 1 := h5
            have hz2 : ¬ (ns : Int) = 1 := by omega
            have hz3 : decide ((ns : Int) = 1) = false := decide_eq_false hz2
            obtain rfl : false = r := by rw [← hr]; exact (decide_eq_false (by rintro ⟨_, _, _, _, h, _⟩; exact h5 h)).symm
            clear hr hx h2 h3 h5
            rw [show ((0 : Nat) : Int) = 0 from rfl] at *
            go_enter Tryz.func112, Tryz.ntmps112
            go_upto_region 5 with (go_at_call 61; with_reducible refine (HC.out _).mono ?_; rintro e w1 ⟨rfl, rfl⟩)
            go_quiet (fail)
            go_wp2
            go_ret
            exact ⟨rfl, below_drewN hb _⟩
        · have hz : ¬ (old : Int) = 0 := by omega
          obtain rfl : false = r := by rw [← hr]; exact (decide_eq_false (by rintro ⟨_, _, _, h, _, _⟩; exact h4 h)).symm
          clear hr hx h2 h3 h4
          go_enter Tryz.func112, Tryz.ntmps112
          go_wp2_with (go_at_call 61; with_reducible refine (HC.out _).mono ?_; rintro e w1 ⟨rfl, rfl⟩)
          go_ret
          exact ⟨rfl, hb⟩
      · have hd : decide ((1099511627776 : Int) < (size : Int)) = true := decide_eq_true (by omega)
        obtain rfl : false = r := by rw [← hr]; exact (decide_eq_false (by rintro ⟨_, _, h, _, _, _⟩; exact h3 h)).symm
        clear hr hx h2 h3
        go_enter Tryz.func112, Tryz.ntmps112
        go_wp2_with (go_at_call 61; with_reducible refine (HC.out _).mono ?_; rintro e w1 ⟨rfl, rfl⟩)
        go_ret
        exact ⟨rfl, hb⟩
    · have HC : Hid (∀ W, Calls Tryz.prog 61 #[.int .i64 k] W fun e w' => e = .returned (.int .i64 70) ∧ W = w') := fun W => by
        have := (check_any W k)
        rw [show chk k = 70 by rw [chk, if_pos (by omega)]] at this
        exact this.mono fun _ _ h => ⟨h.1, h.2.symm⟩
      obtain rfl : false = r := by rw [← hr]; exact (decide_eq_false (by rintro ⟨_, h, _, _, _, _⟩; exact h2 h)).symm
      clear hr hx h2
      go_enter Tryz.func112, Tryz.ntmps112
      go_wp2_with (go_at_call 61; with_reducible refine (HC.out _).mono ?_; rintro e w1 ⟨rfl, rfl⟩)
      go_ret
      exact ⟨rfl, hb⟩
  · obtain rfl : false = r := by rw [← hr]; exact (decide_eq_false (by rintro ⟨h, _, _, _, _, _⟩; exact h1 h)).symm
    clear hr hx
    go_enter Tryz.func112, Tryz.ntmps112
    go_wp2
    go_ret
    exact ⟨rfl, hb⟩
instance (k : Int) (m : Nat) (D : List ByteArray) : Decidable (fil k m D) := by unfold fil; infer_instance
set_option maxRecDepth 100000 in
set_option maxHeartbeats 1000000 in
theorem filled_core (w : World) (kd k : Int) (old size : Nat) (sa : Option Addr) (ns sc : Nat) (da : Option Addr) (db dO dc : Nat) (D : List ByteArray) (hr : RdS w da db dO D.length D) (hm : D.length ≤ 9223372036854775807) (a0 a1 a2 : Option Addr) (n0 n1 n2 c0 c1 c2 : Nat) (h0 : n0 ≤ 100) (h1 : n1 ≤ 100) (h2 : n2 ≤ 100) (r : Bool) (hq : decide (fil k (n0 + n1 + n2) D) = r) :
    Calls Tryz.prog 114 #[.agg #[.slice a0 n0 c0, .slice a1 n1 c1, .slice a2 n2 c2], .agg #[.int .i64 kd, .int .i64 k, .int .u64 (old : Int), .int .u64 (size : Int), .slice sa ns sc, .slice da D.length dc]] w fun e w' => e = .returned (.bool r) ∧ Below w.heap.size w w' := by
  have hbx := bal (bal (Below.refl w.heap.size w) (.cells #[.slice a0 n0 c0, .slice a1 n1 c1, .slice a2 n2 c2] 154)) (.cells #[.int .i64 kd, .int .i64 k, .int .u64 (old : Int), .int .u64 (size : Int), .slice sa ns sc, .slice da D.length dc] 55)
  have e1 : IntKind.i64.wrap ((n0 : Int) + (n1 : Int)) = (n0 : Int) + (n1 : Int) := by rw [IntKind.wrap_i64]; omega
  have e2 : IntKind.i64.wrap ((n0 : Int) + (n1 : Int) + (n2 : Int)) = ((n0 + n1 + n2 : Nat) : Int) := by rw [IntKind.wrap_i64]; omega
  by_cases hl : D.length = n0 + n1 + n2
  · have hz : (n0 : Int) + (n1 : Int) + (n2 : Int) = (D.length : Int) := by omega
    rw [← hl] at e2
    have HR : Hid (∀ W, Below w.heap.size w W → RdS W da db dO D.length D) := fun W hb => hr.next hb (Nat.le_refl _)
    have h6 := (six_new (w.alloc (.cells #[.slice a0 n0 c0, .slice a1 n1 c1, .slice a2 n2 c2] 154)) (.int .i64 kd) (.int .i64 k) (.int .u64 (old : Int)) (.int .u64 (size : Int)) (.slice sa ns sc) (.slice da D.length dc)).cells.2.1
    rw [World.size_alloc] at h6
    have HQ : Hid (decide (∀ d ∈ D, (d.size : Int) = k) = r) := by
      rw [← hq]
      show decide _ = decide _
      simp only [fil, hl, true_and]
    have h63 : (D.length : Int) ≤ 300 := by omega
    clear hr hq hm hl h0 h1 h2 hz
    go_enter Tryz.func114, Tryz.ntmps114
    go_wp2
    go_loopg [25] D.length (fun g i wr => ∃ j : Nat, j ≤ D.length ∧ g = D.length - j ∧ i = .int .i64 (j : Int) ∧ (∀ t, t < j → ((D.getD t ByteArray.empty).size : Int) = k) ∧ wr = (w.alloc (.cells #[.slice a0 n0 c0, .slice a1 n1 c1, .slice a2 n2 c2] 154)).alloc (.cells #[.int .i64 kd, .int .i64 k, .int .u64 (old : Int), .int .u64 (size : Int), .slice sa ns sc, .slice da D.length dc] 55))
    case atStart =>
      go_light
      exact ⟨0, Nat.zero_le _, rfl, rfl, fun t ht => absurd ht (Nat.not_lt_zero _), rfl⟩
    case round =>
      obtain ⟨j, hj, rfl, rfl, hal, hwr⟩ := hrel
      rw [← hwr] at hbx h6
      have HWR := hide hwr
      clear hwr
      by_cases hlt : j < D.length
      · have hz : (j : Int) < (D.length : Int) := by omega
        have hz0 : (0 : Int) ≤ (j : Int) := Int.natCast_nonneg _
        have hrd := HR.out wr hbx
        obtain rfl := hrd.ptr (by omega)
        have cj := hrd.at hlt
        obtain ⟨d, hd⟩ : ∃ d, D.getD j ByteArray.empty = d := ⟨_, rfl⟩
        rw [hd] at cj
        by_cases hk : (d.size : Int) = k
        · have HN : Hid (∀ t, t < j + 1 → ((D.getD t ByteArray.empty).size : Int) = k) := fun t ht => by
            rcases Nat.lt_or_eq_of_le (Nat.le_of_lt_succ ht) with hx | rfl
            · exact hal t hx
            · rw [hd]; exact hk
          clear hd hal hrd
          go_wp2
          go_roundg (D.length - (j + 1))
          case rel =>
            go_light
            exact ⟨j + 1, by omega, rfl, by go_num, HN.out, HWR.out⟩
          case measure => go_light; omega
        · obtain rfl : false = r := by
            rw [← HQ.out]
            refine (decide_eq_false fun h => hk ?_).symm
            rw [← hd]
            exact h _ (getD_mem hlt)
          clear hd hal hrd
          go_wp2
          go_ret
          exact ⟨rfl, hbx⟩
      · obtain rfl : j = D.length := by omega
        have hz : ¬ ((D.length : Int) < (D.length : Int)) := by omega
        obtain rfl : true = r := by
          rw [← HQ.out]
          refine (decide_eq_true fun d hd => ?_).symm
          obtain ⟨t, ht, rfl⟩ := List.getElem_of_mem hd
          have := hal t ht
          rwa [List.getD_eq_getElem?_getD, List.getElem?_eq_getElem ht] at this
        clear hal hlt
        go_wp2
        go_ret
        exact ⟨rfl, hbx⟩
  · have hz : ¬ (D.length : Int) = ((n0 + n1 + n2 : Nat) : Int) := by omega
    obtain ⟨nn, hnn⟩ : ∃ nn, n0 + n1 + n2 = nn := ⟨_, rfl⟩
    rw [hnn] at e2 hz
    obtain rfl : false = r := by rw [← hq]; exact (decide_eq_false (by rintro ⟨h, _⟩; exact hl h)).symm
    clear hr hq hl h0 h1 h2 hnn
    go_enter Tryz.func114, Tryz.ntmps114
    go_wp2
    go_ret
    exact ⟨rfl, hbx⟩
theorem and_one (q : Nat) (h : q < 18446744073709551616) : bits .and .u64 (q : Int) 1 = ((q % 2 : Nat) : Int) := by
  have := bits_and_u64_nat q 1 h (by decide)
  rw [Nat.and_one_is_mod] at this
  exact this
set_option maxRecDepth 100000 in
set_option maxHeartbeats 1000000 in
theorem raised_any (w : World) (ht : Tb w) (k : Int) (i : Nat) (hi : i < 2 ^ 40) (d : ByteArray) (hd : d.size = clk k) (da : Option Addr) (db dO dc : Nat) (D : List ByteArray) (hr : RdS w da db dO D.length D) (hl : D.length ≤ 40) (hs : ∀ s ∈ D, s.size = clk k) (r : ByteArray) (hq : rs (clk k) i d D = r) :
    Calls Tryz.prog 115 #[.int .i64 k, .int .u64 (i : Int), .string d, .slice da D.length dc] w fun e w' => e = .returned (.string r) ∧ Below w.heap.size w w' := by
  have HT : Hid (∀ W, Below w.heap.size w W → Tb W) := fun W hb => ht.next hb
  have HR : Hid (∀ W, Below w.heap.size w W → RdS W da db dO D.length D) := fun W hb => hr.next hb (Nat.le_refl _)
  have HX : Hid (i < 2 ^ 40 ∧ D.length ≤ 40 ∧ (∀ s ∈ D, s.size = clk k) ∧ rs (clk k) i d D = r ∧ d.size = clk k) := ⟨hi, hl, hs, hq, hd⟩
  have h63 : (D.length : Int) ≤ 40 := by omega
  have hb0 := Below.refl w.heap.size w
  clear ht hr hi hl hs hq hd
  go_enter Tryz.func115, Tryz.ntmps115
  go_wp2
  go_loopg [2, 13] D.length (fun g x n wr => ∃ (j : Nat) (y : ByteArray), j ≤ D.length ∧ g = D.length - j ∧ n = .int .i64 (j : Int) ∧ x = .string y ∧ Hid (rs (clk k) i d (D.take j) = y ∧ y.size = clk k) ∧ Below w.heap.size w wr)
  case atStart =>
    go_light
    exact ⟨0, d, Nat.zero_le _, rfl, rfl, rfl, ⟨by simp [rs], HX.out.2.2.2.2⟩, hb0⟩
  case round =>
    clear hb0
    obtain ⟨j, y, hj, rfl, rfl, rfl, HY, hb⟩ := hrel
    by_cases hlt : j < D.length
    · have hz : (j : Int) < (D.length : Int) := by omega
      have hz0 : (0 : Int) ≤ (j : Int) := Int.natCast_nonneg _
      have hz64 : (j : Int) < 64 := by omega
      have hrd := HR.out wr hb
      obtain rfl := hrd.ptr (by omega)
      have cj := hrd.at hlt
      obtain ⟨x, hx⟩ : ∃ x, D.getD j ByteArray.empty = x := ⟨_, rfl⟩
      rw [hx] at cj
      have zx : x.size = clk k := by rw [← hx]; exact HX.out.2.2.1 _ (getD_mem hlt)
      obtain ⟨q, hq⟩ : ∃ q, i / 2 ^ j = q := ⟨_, rfl⟩
      have eq1 : (i : Int) / 2 ^ j = (q : Int) := by rw [← hq]; simp
      have hqb : q < 18446744073709551616 := by have := HX.out.1; have := Nat.div_le_self i (2 ^ j); omega
      have ea := and_one q hqb
      have htn : D.take (j + 1) = D.take j ++ [x] := by rw [take_succ_getD ByteArray.empty D j hlt, hx]
      have hstep : rs (clk k) i d (D.take (j + 1)) = dg (clk k) (stT q y x) := by
        rw [htn, rs_app, HY.out.1, List.length_take, Nat.min_eq_left hj, hq]
      have hc := clk_le k
      by_cases hodd : q % 2 = 1
      · have ea2 : bits .and .u64 (q : Int) 1 = 1 := by rw [ea, hodd]; rfl
        rw [stT, if_pos hodd] at hstep
        obtain ⟨y2, hy2⟩ : ∃ y2, dg (clk k) (nodeT x y) = y2 := ⟨_, rfl⟩
        have HN := node_any wr (HT.out wr hb) k x y (by omega) (by have := HY.out.2; omega) y2 hy2
        have HG : Hid (rs (clk k) i d (D.take (j + 1)) = y2 ∧ y2.size = clk k) := ⟨hstep.trans hy2, by rw [← hy2]; exact dg_size hc _⟩
        clear hstep htn hx zx hq hqb ea hodd hrd hy2 hc HY
        go_wp2_with (go_at_call 125; with_reducible refine HN.mono ?_; rintro e w1 ⟨rfl, hb1⟩)
        go_roundg (D.length - (j + 1))
        case rel =>
          go_light
          exact ⟨j + 1, y2, by omega, rfl, by go_num, rfl, HG, bnext hb hb1⟩
        case measure => go_light; omega
      · have ea2 : bits .and .u64 (q : Int) 1 = 0 := by rw [ea, show q % 2 = 0 by omega]; rfl
        rw [stT, if_neg hodd] at hstep
        obtain ⟨y2, hy2⟩ : ∃ y2, dg (clk k) (nodeT y x) = y2 := ⟨_, rfl⟩
        have HN := node_any wr (HT.out wr hb) k y x (by have := HY.out.2; omega) (by omega) y2 hy2
        have HG : Hid (rs (clk k) i d (D.take (j + 1)) = y2 ∧ y2.size = clk k) := ⟨hstep.trans hy2, by rw [← hy2]; exact dg_size hc _⟩
        clear hstep htn hx zx hq hqb ea hodd hrd hy2 hc HY
        go_wp2_with (go_at_call 125; with_reducible refine HN.mono ?_; rintro e w1 ⟨rfl, hb1⟩)
        go_roundg (D.length - (j + 1))
        case rel =>
          go_light
          exact ⟨j + 1, y2, by omega, rfl, by go_num, rfl, HG, bnext hb hb1⟩
        case measure => go_light; omega
    · obtain rfl : j = D.length := by omega
      have hz : ¬ ((D.length : Int) < (D.length : Int)) := by omega
      obtain rfl : y = r := by rw [← HX.out.2.2.2.1, ← HY.out.1, List.take_length]
      clear HY hlt
      go_wp2
      go_ret
      exact ⟨rfl, hb⟩
end Go.Proofs.YtdocjikpcbmcgaaGreatDoor
