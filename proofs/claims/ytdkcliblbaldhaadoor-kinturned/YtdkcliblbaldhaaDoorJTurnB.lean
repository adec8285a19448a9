/-
  Kin turned: above. Own work.
-/
import Derived.Test.YtdkcliblbaldhaaDoorJTurnA
import Derived.Test.YtdkcliblbaldhaaDoorJRefA
import Derived.BigQuiet
import Derived.Laws.StructEq
namespace Go.Proofs.YtdkcliblbaldhaaDoor
open Go.RowKit
open Cv (RdC zl cU cov)
open Pl (pw)
attribute [local go_sem ↓] Go.wp_at_zero Go.wp_at_succ
theorem own_low {w : World} {B B' : Nat} {v : Value} {l : List ByteArray} (h : OwnS w B v l) (hB : B' ≤ B) : OwnS w B' v l := by
  obtain ⟨h1, h2⟩ := h
  refine ⟨h1, ?_⟩
  rcases h2 with h2 | ⟨g, cap, cur, hv, hg, r⟩
  · exact .inl h2
  · exact .inr ⟨g, cap, cur, hv, by omega, r⟩
theorem below_mid {B B' : Nat} {a b c : World} (h1 : Below B a b) (h2 : Below B' b c) (hB : B ≤ B') : Below B a c :=
  ⟨h2.os.trans h1.os, h2.tape.trans h1.tape, h2.output.trans h1.output, Nat.le_trans h1.size h2.size, fun k hk => (h2.block k (by omega)).trans (h1.block k hk)⟩
set_option maxRecDepth 100000 in
set_option maxHeartbeats 2000000 in
theorem above_core (kd K : Int) (old size : Nat) (sa : Option Addr) (ns sc : Nat) (da : Option Addr) (db dO dc : Nat) (D : List ByteArray) (hD : ∀ d ∈ D, d.size ≤ 32) (ao : Option Addr) (g cap : Nat) (L : List (Nat × Nat)) (hLD : L.length ≤ D.length) (hm : L.length ≤ 1000) (h k : Nat) (hh : h ≤ 40) (hk : k < 2 ^ 41) (w : World) (hT : Tb w) (hR : RdS w da db dO D.length D) (hB : RdB w ao g 0 L.length (zl L)) (d : ByteArray) (hd : dgK (clk K) L D h k = d) (X : List ByteArray) (hX : abT (clk K) L D h k = X)
    (hrec : ∀ h0, h = h0 + 1 → (h, k) ∉ L → ∀ W, Below w.heap.size w W → Calls Tryd.prog 44 #[vP kd K old size (.slice sa ns sc) (.slice da D.length dc), .slice ao L.length cap, .agg #[.int .i64 (h0 : Int), .int .u64 ((2 * k : Nat) : Int)]] W (fun e w' => ∃ v, e = .returned (.tuple #[.string (dgK (clk K) L D h0 (2 * k)), v]) ∧ OwnS w' W.heap.size v (abT (clk K) L D h0 (2 * k)) ∧ Below W.heap.size W w') ∧ Calls Tryd.prog 44 #[vP kd K old size (.slice sa ns sc) (.slice da D.length dc), .slice ao L.length cap, .agg #[.int .i64 (h0 : Int), .int .u64 ((2 * k + 1 : Nat) : Int)]] W (fun e w' => ∃ v, e = .returned (.tuple #[.string (dgK (clk K) L D h0 (2 * k + 1)), v]) ∧ OwnS w' W.heap.size v (abT (clk K) L D h0 (2 * k + 1)) ∧ Below W.heap.size W w')) :
    Calls Tryd.prog 44 #[vP kd K old size (.slice sa ns sc) (.slice da D.length dc), .slice ao L.length cap, .agg #[.int .i64 (h : Int), .int .u64 (k : Int)]] w fun e w' => ∃ v, e = .returned (.tuple #[.string d, v]) ∧ OwnS w' w.heap.size v X ∧ Below w.heap.size w w' := by
  obtain ⟨W0, hW0⟩ : ∃ W0, (w.alloc (.cells #[.int .i64 kd, .int .i64 K, .int .u64 (old : Int), .int .u64 (size : Int), .slice sa ns sc, .slice da D.length dc] 32)).alloc (.cells #[.int .i64 (h : Int), .int .u64 (k : Int)] 82) = W0 := ⟨_, rfl⟩
  have hb0 : Below w.heap.size w W0 := by rw [← hW0]; exact bal (bal (Below.refl _ _) _) _
  have h6 : Six W0 w.heap.size (.int .i64 kd) (.int .i64 K) (.int .u64 (old : Int)) (.int .u64 (size : Int)) (.slice sa ns sc) (.slice da D.length dc) := by rw [← hW0]; exact (six_new w _ _ _ _ _ _).next (bal (Below.refl _ _) _)
  have htw : Tw W0 (w.heap.size + 1) (h : Int) k := by rw [← hW0]; exact tw_at2 _ _ _ _
  have HX : Hid (∀ Z, Below W0.heap.size W0 Z → Below w.heap.size w Z ∧ Tb Z ∧ RdS Z da db dO D.length D ∧ RdB Z ao g 0 L.length (zl L) ∧ Six Z w.heap.size (.int .i64 kd) (.int .i64 K) (.int .u64 (old : Int)) (.int .u64 (size : Int)) (.slice sa ns sc) (.slice da D.length dc) ∧ Tw Z (w.heap.size + 1) (h : Int) k) := fun Z hZ => by
    have h1 := bnext hb0 hZ
    exact ⟨h1, hT.next h1, hR.next h1 (Nat.le_refl _), hB.below h1, h6.next hZ, htw.next hZ⟩
  have HR : Hid (L.length ≤ D.length ∧ L.length ≤ 1000 ∧ h ≤ 40 ∧ k < 2 ^ 41 ∧ dgK (clk K) L D h k = d ∧ (∀ d ∈ D, d.size ≤ 32) ∧ abT (clk K) L D h k = X) := ⟨hLD, hm, hh, hk, hd, hD, hX⟩
  have HRec := hide hrec
  have HT : Hid (∀ W, Below w.heap.size w W → Tb W) := fun W hb => hT.next hb
  have hm1 : (L.length : Int) ≤ 1000 := by omega
  clear hT hR hB hLD hm hh hk hd hX h6 htw hb0 hrec hD
  unfold vP at HRec
  unfold vP
  go_enter Tryd.func44, Tryd.ntmps44
  go_wp2
  go_loopg [8] L.length (fun gg i wr => ∃ j : Nat, j ≤ L.length ∧ gg = L.length - j ∧ i = .int .i64 (j : Int) ∧ (∀ t, t < j → L.getD t (0, 0) ≠ (h, k)) ∧ Hid (Below W0.heap.size W0 wr))
  case atStart =>
    go_light
    try rw [hW0]
    exact ⟨0, Nat.zero_le _, rfl, rfl, fun t ht => absurd ht (Nat.not_lt_zero _), Below.refl _ _⟩
  case round =>
    obtain ⟨j, hj, rfl, rfl, hno, HI⟩ := hrel
    obtain ⟨hbw, htr, hrd, hrb, hsix, htw⟩ := HX.out wr HI.out
    obtain ⟨t0, t1⟩ := htw.cells
    by_cases hlt : j < L.length
    · have hz : (j : Int) < (L.length : Int) := by omega
      have hz0 : (0 : Int) ≤ (j : Int) := Int.natCast_nonneg _
      obtain ⟨⟨x, y⟩, hxy⟩ : ∃ b, L.getD j (0, 0) = b := ⟨_, rfl⟩
      obtain rfl := hrb.addr (by omega)
      obtain ⟨c0, c1⟩ := hrb.cell j hlt
      rw [zl_getD, hxy] at c0 c1
      dsimp only at c0 c1
      rw [Nat.zero_add] at c0 c1
      by_cases heq : (x, y) = (h, k)
      · cases heq
        have hltD : j < D.length := by have := HR.out.1; omega
        obtain rfl := hrd.ptr (by omega)
        have hDz : (j : Int) < (D.length : Int) := by omega
        have d0 := hrd.at hltD
        have hdd : D.getD j ByteArray.empty = d := by
          rw [← HR.out.2.2.2.2.1, dgK_in hlt hxy hno]; rfl
        rw [hdd] at d0
        have hXX : X = [] := by rw [← HR.out.2.2.2.2.2.2]; exact abT_in (by rw [← hxy]; exact mem_getD hlt)
        subst hXX
        have p5 := hsix.cells.2.2.2.2.2
        have HB := hide hbw
        clear hrb hrd hsix htw hbw hno hxy hdd htr HI
        go_upto_region 4 with (fail)
        go_region
        go_wp2
        refine bodyPost_ret (v := .tuple #[.string d, .slice none 0 0]) (by simp [results, Tryd.results44, go_sem]) rfl ⟨_, rfl, owns_nil _ _, HB.out.drew⟩
      · have HN : Hid (∀ t, t < j + 1 → L.getD t (0, 0) ≠ (h, k)) := fun t ht => by
          rcases Nat.lt_or_eq_of_le (Nat.le_of_lt_succ ht) with hx | rfl
          · exact hno t hx
          · rw [hxy]; exact heq
        have HB : Hid (Below W0.heap.size W0 wr.drew) := HI.out.drew
        by_cases hx : x = h
        · subst hx
          have hy : ((y : Int) == (k : Int)) = false := beq_false_of_ne (fun e => heq (by rw [Int.ofNat.inj e]))
          clear hrb hrd hsix htw hbw hno hxy htr HI heq
          go_upto_region 4 with (fail)
          go_region
          go_wp2
          go_roundg (L.length - (j + 1))
          case rel =>
            go_light
            exact ⟨j + 1, by omega, rfl, by go_num, HN.out, HB.out⟩
          case measure => go_light; omega
        · have hx : ((x : Int) == (h : Int)) = false := beq_false_of_ne (by omega)
          clear hrb hrd hsix htw hbw hno hxy htr HI heq
          go_upto_region 4 with (fail)
          go_region
          go_wp2
          go_roundg (L.length - (j + 1))
          case rel =>
            go_light
            exact ⟨j + 1, by omega, rfl, by go_num, HN.out, HB.out⟩
          case measure => go_light; omega
    · obtain rfl : j = L.length := by omega
      have hz : ¬ ((L.length : Int) < (L.length : Int)) := by omega
      have hnot : (h, k) ∉ L := fun hin => by
        obtain ⟨t, ht, e⟩ := List.getElem_of_mem hin
        refine hno t ht ?_
        rw [List.getD_eq_getElem?_getD, List.getElem?_eq_getElem ht]; exact e
      cases h with
      | zero =>
        have hdd : (⟨#[]⟩ : ByteArray) = d := by rw [← HR.out.2.2.2.2.1, dgK_zero hnot]
        subst hdd
        have hXX : X = [] := by rw [← HR.out.2.2.2.2.2.2]; rfl
        subst hXX
        clear hrb hrd hsix htw hno hnot htr HI
        go_wp2
        refine bodyPost_ret (v := .tuple #[.string ⟨#[]⟩, .slice none 0 0]) (by simp [results, Tryd.results44, go_sem]) rfl ⟨_, rfl, owns_nil _ _, hbw⟩
      | succ h0 =>
        obtain ⟨dx, hdx⟩ : ∃ dx, dgK (clk K) L D h0 (2 * k) = dx := ⟨_, rfl⟩
        obtain ⟨dy, hdy⟩ : ∃ dy, dgK (clk K) L D h0 (2 * k + 1) = dy := ⟨_, rfl⟩
        have hnode : dg (clk K) (nodeT dx dy) = d := by rw [← HR.out.2.2.2.2.1, dgK_node hnot, hdx, hdy]
        have hsx : dx.size ≤ 32 := by rw [← hdx]; exact dgK_size (clk_le K) HR.out.2.2.2.2.2.1 _ _
        have hsy : dy.size ≤ 32 := by rw [← hdy]; exact dgK_size (clk_le K) HR.out.2.2.2.2.2.1 _ _
        obtain ⟨tx, htx⟩ : ∃ tx, nodeT dx dy = tx := ⟨_, rfl⟩
        obtain ⟨X1, hX1⟩ : ∃ X1, abT (clk K) L D h0 (2 * k) = X1 := ⟨_, rfl⟩
        obtain ⟨X2, hX2⟩ : ∃ X2, abT (clk K) L D h0 (2 * k + 1) = X2 := ⟨_, rfl⟩
        have hXX : tx :: (X1 ++ X2) = X := by rw [← HR.out.2.2.2.2.2.2, abT_node hnot, hdx, hdy, hX1, hX2, htx]
        have hl1 := abT_le (clk K) L D h0 (2 * k)
        have hl2 := abT_le (clk K) L D h0 (2 * k + 1)
        have hp40 : pw h0 ≤ pw 40 := Pl.pw_le (by have := HR.out.2.2.1; omega)
        have hp : pw 40 = 2 ^ 40 := rfl
        have hz1 : ∀ s ∈ X1, s.size ≤ 1000 := by rw [← hX1]; exact abT_size (clk_le K) HR.out.2.2.2.2.2.1 _ _
        have hz2 : ∀ s ∈ X2, s.size ≤ 1000 := by rw [← hX2]; exact abT_size (clk_le K) HR.out.2.2.2.2.2.1 _ _
        rw [hX1] at hl1
        rw [hX2] at hl2
        have hZ1 : Hid ((∀ s ∈ X1, s.size ≤ 9223372036854775807) ∧ (∀ s ∈ X2, s.size ≤ 9223372036854775807) ∧ X1.length ≤ 2 ^ 40 ∧ X2.length ≤ 2 ^ 40 ∧ tx :: (X1 ++ X2) = X) := ⟨fun s h => by have := hz1 s h; omega, fun s h => by have := hz2 s h; omega, by omega, by omega, hXX⟩
        have htz : tx.size ≤ 1000 := by rw [← htx, nodeT, ByteArray.size_append, ByteArray.size_append, strB1]; omega
        have HNt : Hid (∀ W, Calls Tryd.prog 59 #[.string dx, .string dy] W fun e w' => e = .returned (.string tx) ∧ Below W.heap.size W w') := fun W => by rw [← htx]; exact nodet_any W dx dy (by omega) (by omega)
        rw [htx] at hnode
        have HOf : Hid (∀ W, Below w.heap.size w W → Calls Tryd.prog 20 #[.int .i64 K, .string tx] W fun e w' => e = .returned (.string d) ∧ Below W.heap.size W w') := fun W hb => hof_any W (HT.out W hb) K tx (by omega) d hnode
        have HC1 : Hid (∀ W, Below w.heap.size w W → Calls Tryd.prog 44 #[.agg #[.int .i64 kd, .int .i64 K, .int .u64 (old : Int), .int .u64 (size : Int), .slice sa ns sc, .slice da D.length dc], .slice ao L.length cap, .agg #[.int .i64 (h0 : Int), .int .u64 ((2 * k : Nat) : Int)]] W (fun e w' => ∃ v, e = .returned (.tuple #[.string dx, v]) ∧ OwnS w' W.heap.size v X1 ∧ Below W.heap.size W w')) := fun W hb => by
          rw [← hdx, ← hX1]; exact (HRec.out h0 rfl hnot W hb).1
        have HC2 : Hid (∀ W, Below w.heap.size w W → Calls Tryd.prog 44 #[.agg #[.int .i64 kd, .int .i64 K, .int .u64 (old : Int), .int .u64 (size : Int), .slice sa ns sc, .slice da D.length dc], .slice ao L.length cap, .agg #[.int .i64 (h0 : Int), .int .u64 ((2 * k + 1 : Nat) : Int)]] W (fun e w' => ∃ v, e = .returned (.tuple #[.string dy, v]) ∧ OwnS w' W.heap.size v X2 ∧ Below W.heap.size W w')) := fun W hb => by
          rw [← hdy, ← hX2]; exact (HRec.out h0 rfl hnot W hb).2
        have hb40 := HR.out.2.2.1
        have hb41 := HR.out.2.2.2.1
        obtain ⟨p0, p1, p2, p3, p4, p5⟩ := hsix.cells
        obtain ⟨hs, hhs⟩ : ∃ hs : Nat, h0 + 1 = hs := ⟨_, rfl⟩
        obtain ⟨k2, hk2⟩ : ∃ k2 : Nat, 2 * k = k2 := ⟨_, rfl⟩
        obtain ⟨k3, hk3⟩ : ∃ k3 : Nat, 2 * k + 1 = k3 := ⟨_, rfl⟩
        have ea : IntKind.i64.wrap ((hs : Int) - 1) = (h0 : Int) := by rw [IntKind.wrap_i64]; omega
        have eb : IntKind.u64.wrap (2 * (k : Int)) = (k2 : Int) := by rw [IntKind.wrap_u64]; omega
        have ec : IntKind.u64.wrap ((k2 : Int) + 1) = (k3 : Int) := by rw [IntKind.wrap_u64]; omega
        have hne : ((hs : Int) == 0) = false := beq_false_of_ne (by omega)
        rw [hhs] at t0
        rw [hk2] at HC1
        rw [hk3] at HC2
        have HY : Hid (∀ Z, Below wr.heap.size wr Z → Below w.heap.size w Z ∧ Six Z w.heap.size (.int .i64 kd) (.int .i64 K) (.int .u64 (old : Int)) (.int .u64 (size : Int)) (.slice sa ns sc) (.slice da D.length dc) ∧ Tw Z (w.heap.size + 1) (hs : Int) k) := fun Z hZ => by
          obtain ⟨z1, _, _, _, z2, z3⟩ := HX.out Z (bnext HI.out hZ)
          rw [hhs] at z3
          exact ⟨z1, z2, z3⟩
        clear hrb hrd hsix htw hno hnot htr HI HX HRec hdx hdy hnode hsx hsy hb40 hb41 hhs hk2 hk3 HR HT hX1 hX2 htx hl1 hl2 hp40 hp hz1 hz2 hXX
        go_wp2_with (first
          | (go_at_call 44; with_reducible refine (HC1.out _ hbw).mono ?_; rintro e w5 ⟨v5, rfl, o5, hb5⟩; obtain ⟨ax, bx, cx, rfl, rx, _, nx⟩ := owns_rds o5 hZ1.out.1; have hy5 := HY.out w5 hb5; obtain ⟨a0, a1, a2, a3, a4, a5⟩ := hy5.2.1.cells; obtain ⟨a6, a7⟩ := hy5.2.2.cells)
          | (go_at_call 44; with_reducible refine (HC2.out _ hy5.1).mono ?_; rintro e w6 ⟨v6, rfl, o6, hb6⟩; obtain ⟨ay, bY, cy, rfl, ry, _, ny⟩ := owns_rds o6 hZ1.out.2.1)
          | (go_at_call 59; with_reducible refine (HNt.out _).mono ?_; rintro e w7 ⟨rfl, hb7⟩; have hy7 := HY.out w7 (bnext (bnext hb5 hb6) hb7); obtain ⟨_, z1, _⟩ := hy7.2.1.cells)
          | (go_at_call 20; with_reducible refine (HOf.out _ hy7.1).mono ?_; rintro e w8 ⟨rfl, hb8⟩)
          | (at_builtin; refine wpList_append_S _ rfl _ _ rfl w8.heap.size _ [tx] rfl (own_one w8 tx) ax bx 0 cx X1 rfl (rx.next (bal (bnext (bnext hb6 hb7) hb8) _) (Nat.le_refl _)) nx ?c1 ?c2 ?_))
        case c1 => have := hZ1.out.2.2.1; simp; omega
        case c2 => simp
        intro v9 w9 o9 hb9
        have HG : Hid (OwnS w9 w8.heap.size v9 ([tx] ++ X1) ∧ RdS w9 ay bY 0 X2.length X2 ∧ Below w.heap.size w w9 ∧ w8.heap.size ≤ w9.heap.size ∧ Below w8.heap.size w8 w9 ∧ w.heap.size ≤ w8.heap.size) := by
          have q1 : Below w8.heap.size w8 w9 := (bal (Below.refl _ _) _).trans hb9
          exact ⟨o9, ry.next (bnext (bnext hb7 hb8) q1) (Nat.le_refl _), bnext (bnext hy7.1 hb8) q1, q1.size, q1, (bnext hy7.1 hb8).size⟩
        clear o9 hb9 rx ry o5 o6 hb5 hb6 hb7 hb8 hy5 hy7 a0 a1 a2 a3 a4 a5 a6 a7 z1 HC1 HC2 HNt HOf HY
        go_wp2_with (at_builtin; refine wpList_append_S _ rfl _ _ rfl w8.heap.size _ ([tx] ++ X1) rfl HG.out.1 ay bY 0 cy X2 rfl HG.out.2.1 ny ?c1 HG.out.2.2.2.1 ?_)
        case c1 => have := hZ1.out.2.2.1; have := hZ1.out.2.2.2.1; simp; omega
        intro v10 w10 o10 hb10
        rw [hZ1.out.2.2.2.2] at o10
        have HF : Hid (OwnS w10 w.heap.size v10 X ∧ Below w.heap.size w w10) := ⟨own_low o10 HG.out.2.2.2.2.2, below_mid HG.out.2.2.1 hb10 HG.out.2.2.2.2.2⟩
        clear o10 hb10 HG
        go_wp2
        refine bodyPost_ret (v := .tuple #[.string d, v10]) (by simp [results, Tryd.results44, go_sem]) rfl ⟨_, rfl, HF.out.1, HF.out.2⟩
theorem above_any (kd K : Int) (old size : Nat) (sa : Option Addr) (ns sc : Nat) (da : Option Addr) (db dO dc : Nat) (D : List ByteArray) (hD : ∀ d ∈ D, d.size ≤ 32) (ao : Option Addr) (g cap : Nat) (L : List (Nat × Nat)) (hLD : L.length ≤ D.length) (hm : L.length ≤ 1000) : ∀ (h : Nat) (k : Nat), h ≤ 40 → (k + 1) * pw h ≤ 2 ^ 41 → ∀ (w : World), Tb w → RdS w da db dO D.length D → RdB w ao g 0 L.length (zl L) → ∀ d, dgK (clk K) L D h k = d → ∀ X, abT (clk K) L D h k = X →
    Calls Tryd.prog 44 #[vP kd K old size (.slice sa ns sc) (.slice da D.length dc), .slice ao L.length cap, .agg #[.int .i64 (h : Int), .int .u64 (k : Int)]] w fun e w' => ∃ v, e = .returned (.tuple #[.string d, v]) ∧ OwnS w' w.heap.size v X ∧ Below w.heap.size w w' := by
  intro h
  induction h with
  | zero =>
    intro k _ hk w hT hR hB d hd X hX
    rw [Pl.pw_zero, Nat.mul_one] at hk
    exact above_core kd K old size sa ns sc da db dO dc D hD ao g cap L hLD hm 0 k (by decide) (by omega) w hT hR hB d hd X hX (fun h0 e => by omega)
  | succ h ih =>
    intro k hh hk w hT hR hB d hd X hX
    have hp := Pl.pw_pos (h + 1)
    have h1 : k + 1 ≤ (k + 1) * pw (h + 1) := Nat.le_mul_of_pos_right _ hp
    have e1 : (k + 1) * pw (h + 1) = (2 * k + 1 + 1) * pw h := by rw [Cv.mul_half]; congr 1
    have h2 : (2 * k + 1) * pw h ≤ (2 * k + 1 + 1) * pw h := Nat.mul_le_mul_right _ (by omega)
    refine above_core kd K old size sa ns sc da db dO dc D hD ao g cap L hLD hm (h + 1) k hh (by omega) w hT hR hB d hd X hX (fun h0 e _ W hb => ?_)
    obtain rfl : h0 = h := by omega
    exact ⟨ih (2 * k) (by omega) (by omega) W (hT.next hb) (hR.next hb (Nat.le_refl _)) (hB.below hb) _ rfl _ rfl, ih (2 * k + 1) (by omega) (by omega) W (hT.next hb) (hR.next hb (Nat.le_refl _)) (hB.below hb) _ rfl _ rfl⟩
end Go.Proofs.YtdkcliblbaldhaaDoor
