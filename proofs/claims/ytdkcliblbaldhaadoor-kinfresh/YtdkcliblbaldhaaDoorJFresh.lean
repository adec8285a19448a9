/-
  KinFresh: proofs share nothing. Own work.
-/
import Derived.Test.YtdkcliblbaldhaaDoorJFreshA
import Derived.Test.YtdkcliblbaldhaaDoorJAlive
namespace Go.Proofs.YtdkcliblbaldhaaDoor
open Go.RowKit
open Cv (cU)
attribute [local go_sem ↓] Go.wp_at_zero Go.wp_at_succ
theorem rdu_nil (w : World) : RdU w none 0 0 ([] : List Nat).length [] := ⟨rfl, fun h => absurd h (Nat.lt_irrefl 0), (fun j v h => by cases h)⟩
set_option maxRecDepth 100000 in
set_option maxHeartbeats 8000000 in
theorem fresh_walk (w : World) (ht : Tb w) (k : Int) (ao : Option Addr) (b off len cap : Nat) (L : List ByteArray) (rd : RdS w ao b off len L) (hm : len ≤ 8796093022208) (cut : Int) :
    Calls Tryd.prog 5 #[.int .i64 k, .slice ao len cap, .int .i64 cut] w fun e w' => e = .returned (.bool true) ∧ Below w.heap.size w w' := by
  have HA := alive_any w ht
  obtain ⟨K, hK⟩ : ∃ K, stg k = K := ⟨_, rfl⟩
  have hK1 := stg_in k
  rw [hK] at hK1
  have HSg : Hid (∀ W, Calls Tryd.prog 9 #[.int .i64 k] W fun e w' => e = .returned (.int .i64 K) ∧ W = w') := fun W => strength_any W k K hK
  obtain ⟨T, hT⟩ : ∃ T, lst L = T := ⟨_, rfl⟩
  have hTl : T.length ≤ 70 := by rw [← hT]; exact lst_len L
  have hTs : ∀ s ∈ T, s.size ≤ 100 := by rw [← hT]; exact lst_size L
  have HFw : Hid (∀ W, Below w.heap.size w W → Calls Tryd.prog 10 #[.slice ao len cap] W fun e w' => ∃ av bv cv, e = .returned (.slice av T.length cv) ∧ RdS w' av bv 0 T.length T ∧ Below W.heap.size W w') := fun W hb => (few_any W ao b off len cap L (rd.next hb (Nat.le_refl _)) hm T hT).mono fun e w' ⟨v, e1, e2, e3⟩ => by
    obtain ⟨av, bv, cv, rfl, r, _, _⟩ := owns_rds e2 (fun s hs => by have := hTs s hs; omega)
    exact ⟨av, bv, cv, e1, r, e3⟩
  have HGr : Hid (∀ W av bv cv, Below w.heap.size w W → RdS W av bv 0 T.length T → Calls Tryd.prog 11 #[.int .i64 K, .slice av T.length cv] W fun e w' => e = .returned (.pointer (some ⟨W.heap.size + 1, 0, none⟩)) ∧ Frs w' W.heap.size K T ∧ Below W.heap.size W w') := fun W av bv cv hb hr => grown_any W (ht.next hb) K hK1.1 hK1.2 av bv 0 T.length cv T hr hTl hTs
  have HT : Hid (∀ W, Below w.heap.size w W → Tb W) := fun W hb => ht.next hb
  obtain ⟨tn, htn⟩ : ∃ tn : Nat, T.length = tn := ⟨_, rfl⟩
  rw [htn] at hTl
  obtain ⟨t1, ht1⟩ : ∃ t1 : Nat, tn + 1 = t1 := ⟨_, rfl⟩
  have HWi : Hid (∀ W, ∃ m : Nat, m < t1 ∧ Calls Tryd.prog 18 #[.int .i64 cut, .int .i64 (t1 : Int)] W fun e w' => e = .returned (.int .i64 (m : Int)) ∧ W = w') := fun W => within_any W cut t1 (by omega) (by omega)
  have e1 : IntKind.u64.wrap (tn : Int) = (tn : Int) := u64_id _ (by omega) (by omega)
  have e2 : IntKind.i64.wrap ((tn : Int) + 1) = (t1 : Int) := by rw [IntKind.wrap_i64]; omega
  have HN : Hid (tn ≤ 70 ∧ 1 ≤ K ∧ K ≤ 32 ∧ T.length = tn) := ⟨hTl, hK1.1, hK1.2, htn⟩
  rw [htn] at HFw HGr
  clear ht rd hm hK hK1 hT hTl hTs htn
  go_enter Tryd.func5, Tryd.ntmps5
  go_upto_region 9 with (first
    | (go_at_call 8; with_reducible refine HA.mono ?_; rintro e w1 ⟨rfl, hb1⟩)
    | (go_at_call 9; with_reducible refine (HSg.out _).mono ?_; rintro e w2 ⟨rfl, rfl⟩)
    | (go_at_call 10; with_reducible refine (HFw.out _ hb1).mono ?_; rintro e w3 ⟨av, bv, cv, rfl, hR3, hb3⟩)
    | (go_at_call 11; with_reducible refine (HGr.out _ _ _ _ (bnext hb1 hb3) hR3).mono ?_; rintro e w4 ⟨rfl, hF4, hb4⟩))
  have hb04 := bnext (bnext hb1 hb3) hb4
  obtain ⟨m, hmt, HWm⟩ := HWi.out w4
  have e3 : IntKind.u64.wrap (m : Int) = (m : Int) := u64_id _ (by omega) (by have := HN.out.1; omega)
  have hmn : m ≤ tn := by omega
  obtain ⟨D, hD⟩ : ∃ D, dgKn (clk K) T m tn = D := ⟨_, rfl⟩
  have hDl : D.length ≤ 120 := by rw [← hD, dgKn_len]; exact kb_len hmn (by have := HN.out.1; omega)
  have hDs : ∀ s ∈ D, s.size ≤ 32 := fun s hs => by rw [← hD] at hs; rw [dgKn_size (clk_le K) _ _ _ s hs]; exact clk_le K
  obtain ⟨r1, hr1⟩ : ∃ r1, rtD (clk K) T m = r1 := ⟨_, rfl⟩
  obtain ⟨r2, hr2⟩ : ∃ r2, rtD (clk K) T tn = r2 := ⟨_, rfl⟩
  generalize hfm : w3.heap.size = fm at *
  have HPr : Hid (∀ W, Frs W fm K T → Calls Tryd.prog 12 #[.pointer (some ⟨fm + 1, 0, none⟩), .int .u64 (m : Int), .int .u64 (tn : Int)] W fun e w' => ∃ ad bd cd, e = .returned (.tuple #[.agg #[.int .i64 3, .int .i64 K, .int .u64 (m : Int), .int .u64 (tn : Int), .slice none 0 0, .slice ad D.length cd], .int .i64 0]) ∧ RdS w' ad bd 0 D.length D ∧ D.length ≤ cd ∧ (ad = none → cd = 0) ∧ OwnS w' W.heap.size (.slice ad D.length cd) D ∧ Below W.heap.size W w') := fun W hF => kprove_rd W fm K T hF (by have := HN.out.1; have := HN.out.2.2.2; omega) m tn (by have := HN.out.2.2.2; omega) hmn D hD
  have HRo : Hid (∀ W da db dc, Below w.heap.size w W → RdS W da db 0 D.length D → D.length ≤ dc → Calls Tryd.prog 13 #[.agg #[.int .i64 3, .int .i64 K, .int .u64 (m : Int), .int .u64 (tn : Int), .slice none 0 0, .slice da D.length dc]] W fun e w' => e = .returned (.tuple #[.agg #[.int .u64 (m : Int), .string r1], .agg #[.int .u64 (tn : Int), .string r2], .int .i64 0]) ∧ Below W.heap.size W w') := fun W da db dc hb hR hc => kroots_own W (HT.out W hb) K HN.out.2.1 HN.out.2.2.1 T (by have := HN.out.1; have := HN.out.2.2.2; omega) m tn (by have := HN.out.2.2.2; omega) hmn D hD none 0 da db 0 dc hR hc r1 r2 hr1 hr2
  have HSm : Hid (∀ W da db dc ea eb ec, RdS W da db 0 D.length D → RdS W ea eb 0 D.length D → Calls Tryd.prog 21 #[.agg #[.int .i64 3, .int .i64 K, .int .u64 (m : Int), .int .u64 (tn : Int), .slice none 0 0, .slice da D.length dc], .agg #[.int .i64 3, .int .i64 K, .int .u64 (m : Int), .int .u64 (tn : Int), .slice none 0 0, .slice ea D.length ec]] W fun e w' => e = .returned (.bool true) ∧ Below W.heap.size W w') := fun W da db dc ea eb ec h1 h2 => same_yes W 3 K m tn none 0 0 0 none 0 0 0 [] (rdu_nil W) (rdu_nil W) (by decide) da db 0 dc ea eb 0 ec D h1 h2 (by omega)
  have HSa : Hid (∀ W da db dc ea eb ec, RdS W da db 0 D.length D → RdS W ea eb 0 D.length D → Calls Tryd.prog 22 #[.slice da D.length dc, .slice ea D.length ec] W fun e w' => e = .returned (.bool true) ∧ Below W.heap.size W w') := fun W da db dc ea eb ec h1 h2 => same_any W da db 0 D.length dc D h1 ea eb 0 ec h2 (by omega)
  have HAg : Hid (∀ W, Below w.heap.size w W → Frs W fm K T → Calls Tryd.prog 23 #[.pointer (some ⟨fm + 1, 0, none⟩), .agg #[.int .u64 (m : Int), .string r1], .agg #[.int .u64 (tn : Int), .string r2]] W fun e w' => e = .returned (.bool true) ∧ Below W.heap.size W w') := fun W hb hF => again_any W (HT.out W hb) fm K T hF m tn (by have := HN.out.2.2.2; omega) (by have := HN.out.2.2.2; omega) r1 r2 hr1 hr2
  have HD : Hid (D.length ≤ 120 ∧ (∀ s ∈ D, s.size ≤ 32) ∧ w.heap.size ≤ w4.heap.size ∧ fm + 2 ≤ w4.heap.size) := ⟨hDl, hDs, hb04.size, hF4.lt⟩
  have hDz : (D.length : Int) ≤ 120 := by omega
  have HF4 : Hid (∀ W, Below w4.heap.size w4 W → Frs W fm K T ∧ Below w.heap.size w W) := fun W hW => ⟨hF4.next hW (Nat.le_refl _), bnext hb04 hW⟩
  have hbr := Below.refl w4.heap.size w4
  clear HA HSg HFw HGr hb4 hR3 hb3 hb1 hF4 hb04 hD hDl hDs hr1 hr2 hmt hmn HWi hfm ht1
  go_upto_region 11 with (first
    | (go_at_call 18; with_reducible refine HWm.mono ?_; rintro e w4' ⟨rfl, rfl⟩)
    | (go_at_call 12; with_reducible refine (HPr.out _ (HF4.out _ hbr).1).mono ?_; rintro e w5 ⟨a5, b5, c5, rfl, hR5, hc5, hn5, hO5, hb5⟩))
  have x5 := six_new w5 (.int .i64 3) (.int .i64 K) (.int .u64 (m : Int)) (.int .u64 (tn : Int)) (.slice none 0 0) (.slice a5 D.length c5)
  have t6 := bal (Below.refl w5.heap.size w5) (.cells #[.int .i64 3, .int .i64 K, .int .u64 (m : Int), .int .u64 (tn : Int), .slice none 0 0, .slice a5 D.length c5] 32)
  obtain ⟨w6, hw6⟩ : ∃ w6, w5.alloc (.cells #[.int .i64 3, .int .i64 K, .int .u64 (m : Int), .int .u64 (tn : Int), .slice none 0 0, .slice a5 D.length c5] 32) = w6 := ⟨_, rfl⟩
  rw [hw6] at x5 t6 ⊢
  have hb6 := bnext hb5 t6
  have hR6 := hR5.next t6 (Nat.le_refl _)
  have hO6 := own_next hO5 t6 (Nat.le_refl _)
  clear hw6 HWm hb5 hR5 hO5
  go_upto_region 12 with (go_at_call 12; with_reducible refine (HPr.out _ (HF4.out _ hb6).1).mono ?_; rintro e w7 ⟨a7, b7, c7, rfl, hR7, hc7, hn7, hO7, hb7⟩)
  have x7 := six_new w7 (.int .i64 3) (.int .i64 K) (.int .u64 (m : Int)) (.int .u64 (tn : Int)) (.slice none 0 0) (.slice a7 D.length c7)
  have t8 := bal (Below.refl w7.heap.size w7) (.cells #[.int .i64 3, .int .i64 K, .int .u64 (m : Int), .int .u64 (tn : Int), .slice none 0 0, .slice a7 D.length c7] 32)
  obtain ⟨w8, hw8⟩ : ∃ w8, w7.alloc (.cells #[.int .i64 3, .int .i64 K, .int .u64 (m : Int), .int .u64 (tn : Int), .slice none 0 0, .slice a7 D.length c7] 32) = w8 := ⟨_, rfl⟩
  rw [hw8] at x7 t8 ⊢
  have hb68 := bnext hb7 t8
  have HX8 : Hid (∀ W, Below w8.heap.size w8 W → Six W w5.heap.size (.int .i64 3) (.int .i64 K) (.int .u64 (m : Int)) (.int .u64 (tn : Int)) (.slice none 0 0) (.slice a5 D.length c5) ∧ Six W w7.heap.size (.int .i64 3) (.int .i64 K) (.int .u64 (m : Int)) (.int .u64 (tn : Int)) (.slice none 0 0) (.slice a7 D.length c7) ∧ RdS W a5 b5 0 D.length D ∧ RdS W a7 b7 0 D.length D ∧ OwnS W w4.heap.size (.slice a5 D.length c5) D ∧ OwnS W w6.heap.size (.slice a7 D.length c7) D ∧ Frs W fm K T ∧ Below w.heap.size w W) := fun W hW => by
    obtain ⟨z1, z2⟩ := HF4.out W (bnext (bnext hb6 hb68) hW)
    exact ⟨(x5.next hb68).next hW, x7.next hW, (hR6.next hb68 (Nat.le_refl _)).next hW (Nat.le_refl _), (hR7.next t8 (Nat.le_refl _)).next hW (Nat.le_refl _), own_next (own_next hO6 hb68 (Nat.le_refl _)) hW (Nat.le_refl _), own_next (own_next hO7 t8 (Nat.le_refl _)) hW (Nat.le_refl _), z1, z2⟩
  have HAp : Hid (Apt (.slice a5 D.length c5) (.slice a7 D.length c7) ∧ w4.heap.size ≤ w6.heap.size ∧ w6.heap.size ≤ w8.heap.size ∧ (∀ g, (Value.slice a5 D.length c5).ownBlock = some g → g < w8.heap.size) ∧ (∀ g, (Value.slice a7 D.length c7).ownBlock = some g → g < w8.heap.size)) := ⟨fun g h1 h2 => by have := (World.ownsRow.lt hO6 g h1).2; have := (World.ownsRow.lt hO7 g h2).1; omega, hb6.size, hb68.size, fun g hg => Nat.lt_of_lt_of_le (World.ownsRow.lt hO6 g hg).2 hb68.size, fun g hg => Nat.lt_of_lt_of_le (World.ownsRow.lt hO7 g hg).2 t8.size⟩
  have HCp : Hid (D.length ≤ c5 ∧ (a5 = none → c5 = 0)) := ⟨hc5, hn5⟩
  generalize w5.heap.size = q1 at *
  generalize w7.heap.size = q2 at *
  generalize w6.heap.size = B6 at *
  have hb8 := Below.refl w8.heap.size w8
  have hX8 := HX8.out w8 hb8
  obtain ⟨p0, p1, p2, p3, p4, p5⟩ := hX8.1.cells
  obtain ⟨f0, f1, f2, f3, f4, f5⟩ := hX8.2.1.cells
  clear hw8 x5 t6 x7 t8 hb6 hb68 hR6 hR7 hO6 hO7 hb7 hc7 hn7 HF4 hbr hc5 hn5
  go_upto_region 14 with (first
    | (go_at_call 16; with_reducible refine (num_id _ _).mono ?_; rintro e wn ⟨rfl, rfl⟩)
    | (go_at_call 21; with_reducible refine (HSm.out _ _ _ _ _ _ _ hX8.2.2.1 hX8.2.2.2.1).mono ?_; rintro e w9 ⟨rfl, hb9⟩))
  have hX9 := HX8.out w9 hb9
  obtain ⟨p0, p1, p2, p3, p4, p5⟩ := hX9.1.cells
  clear f0 f1 f2 f3 f4 f5 hX8 HSm hb8
  go_upto_region 15 with (at_builtin; refine wpList_append_S _ rfl _ _ rfl w9.heap.size _ [] rfl (owns_nil _ _) a5 b5 0 c5 D rfl hX9.2.2.1 HCp.out.2 (by have := HD.out.1; simp; omega) (Nat.le_refl _) ?_; intro vw w10 oW hb10)
  obtain ⟨aw, bw, cw, rfl, hRw, _, _⟩ := owns_rds oW (fun s hs => by have := HD.out.2.1 s hs; omega)
  have hb810 := bnext hb9 hb10
  have hX10 := HX8.out w10 hb810
  have HW10 : Hid (∀ W, Below w10.heap.size w10 W → OwnS W w9.heap.size (.slice aw D.length cw) D ∧ RdS W aw bw 0 D.length D) := fun W hW => ⟨own_next oW hW (Nat.le_refl _), hRw.next hW (Nat.le_refl _)⟩
  have HL9 := hide hb9.size
  obtain ⟨p0, p1, p2, p3, p4, p5⟩ := hX10.1.cells
  clear hX9 oW hRw hb10 hb9
  go_upto_region 16 with (go_at_call 13; with_reducible refine (HRo.out _ _ _ _ hX10.2.2.2.2.2.2.2 hX10.2.2.1 HCp.out.1).mono ?_; rintro e w11 ⟨rfl, hb11⟩)
  have t12 := bal (bal hb11 (.cells #[.int .u64 (m : Int), .string r1] 37)) (.cells #[.int .u64 (tn : Int), .string r2] 37)
  have y1 := (rh_new w11 m r1).next (bal (Below.refl _ _) (.cells #[.int .u64 (tn : Int), .string r2] 37))
  have y2 := rh_new (w11.alloc (.cells #[.int .u64 (m : Int), .string r1] 37)) tn r2
  rw [World.size_alloc] at y2
  obtain ⟨w12, hw12⟩ : ∃ w12, (w11.alloc (.cells #[.int .u64 (m : Int), .string r1] 37)).alloc (.cells #[.int .u64 (tn : Int), .string r2] 37) = w12 := ⟨_, rfl⟩
  rw [hw12] at y1 y2 t12 ⊢
  generalize w11.heap.size = ra at *
  have hX12 := HX8.out w12 (bnext hb810 t12)
  obtain ⟨p0, p1, p2, p3, p4, p5⟩ := hX12.1.cells
  clear hw12 hb11 hX10
  go_upto_region 17 with (go_at_call 13; with_reducible refine (HRo.out _ _ _ _ hX12.2.2.2.2.2.2.2 hX12.2.2.1 HCp.out.1).mono ?_; rintro e w13 ⟨rfl, hb13⟩)
  have t14 := bal (bal hb13 (.cells #[.int .u64 (m : Int), .string r1] 37)) (.cells #[.int .u64 (tn : Int), .string r2] 37)
  have y3 := (rh_new w13 m r1).next (bal (Below.refl _ _) (.cells #[.int .u64 (tn : Int), .string r2] 37))
  have y4 := rh_new (w13.alloc (.cells #[.int .u64 (m : Int), .string r1] 37)) tn r2
  rw [World.size_alloc] at y4
  obtain ⟨w14, hw14⟩ : ∃ w14, (w13.alloc (.cells #[.int .u64 (m : Int), .string r1] 37)).alloc (.cells #[.int .u64 (tn : Int), .string r2] 37) = w14 := ⟨_, rfl⟩
  rw [hw14] at y3 y4 t14 ⊢
  have y1 := y1.next t14
  have y2 := y2.next t14
  have hb814 := bnext (bnext hb810 t12) t14
  have hX14 := HX8.out w14 hb814
  have hW14 := HW10.out w14 (bnext t12 t14)
  generalize w13.heap.size = rb at *
  obtain ⟨p0, p1, p2, p3, p4, p5⟩ := hX14.1.cells
  obtain ⟨g1, g2⟩ := y1.cells
  obtain ⟨g3, g4⟩ := y2.cells
  obtain ⟨g5, g6⟩ := y3.cells
  obtain ⟨g7, g8⟩ := y4.cells
  have HFs : Hid (∀ W, Below w14.heap.size w14 W → Fs w W w4.heap.size fm q1 q2 ra K T m tn r1 r2 (.slice a5 D.length c5) (.slice a7 D.length c7) (.slice aw D.length cw) D D D) := fun W hW => by
    obtain ⟨z1, z2, z3, z4, z5, z6, z7, z8⟩ := HX8.out W (bnext hb814 hW)
    obtain ⟨u1, u2⟩ := HW10.out W (bnext (bnext t12 t14) hW)
    have hle := hW.size
    have h814 := hb814.size
    exact ⟨z1, z2, z5, z6.mono HAp.out.2.1, u1.mono (by have := HAp.out.2.1; have := HAp.out.2.2.1; have := HL9.out; omega), z7, y1.next hW, y2.next hW, z8, ⟨HD.out.2.2.1, HD.out.2.2.2, by have := HAp.out.2.1; have := HAp.out.2.2.1; omega⟩, HAp.out.1, fun g h1 h2 => by have := HAp.out.2.2.2.1 g h1; have := (World.ownsRow.lt u1 g h2).1; have := HL9.out; omega, fun g h1 h2 => by have := HAp.out.2.2.2.2 g h1; have := (World.ownsRow.lt u1 g h2).1; have := HL9.out; omega⟩
  clear hw14 hb13 hX12 t12 t14 hb810 hb814 y3 y4 y1 y2 HX8 HW10
  go_upto_region 19 with (first
    | (go_at_call 16; with_reducible refine (num_id _ _).mono ?_; rintro e wn ⟨rfl, rfl⟩)
    | (go_at_call 22; with_reducible refine (HSa.out _ _ _ _ _ _ _ hX14.2.2.1 hW14.2).mono ?_; rintro e w15 ⟨rfl, hb15⟩))
  have hF15 := HFs.out w15 hb15
  have HF15 := hide hF15
  generalize w4.heap.size = B at *
  clear hF15 HFs hX14 hW14 hb15 p0 p1 p2 p3 p4 p5 g1 g2 g3 g4 g5 g6 g7 g8 HRo HAp HCp HL9
  go_wp2
  go_loopg [22] D.length (fun gg i wr => ∃ j : Nat, j ≤ D.length ∧ gg = D.length - j ∧ i = .int .i64 (j : Int) ∧ Hid (Fs w wr B fm q1 q2 ra K T m tn r1 r2 (.slice a5 D.length c5) (.slice a7 D.length c7) (.slice aw D.length cw) (List.replicate j pB1 ++ D.drop j) (List.replicate j qB1 ++ D.drop j) D))
  case atStart =>
    go_light
    exact ⟨0, Nat.zero_le _, rfl, rfl, HF15⟩
  case round =>
    clear HF15
    obtain ⟨j, hj, rfl, rfl, HI⟩ := hrel
    by_cases hlt : j < D.length
    · have hz : (j : Int) < (D.length : Int) := by omega
      have hz0 : (0 : Int) ≤ (j : Int) := Int.natCast_nonneg _
      have hlP : (List.replicate j pB1 ++ D.drop j).length = D.length := by rw [List.length_append, List.length_replicate, List.length_drop]; omega
      have hlQ : (List.replicate j qB1 ++ D.drop j).length = D.length := by rw [List.length_append, List.length_replicate, List.length_drop]; omega
      have hI := HI.out
      obtain ⟨g5, rfl, _, _⟩ := own_some hI.op (by rw [hlP]; omega)
      obtain ⟨g7, rfl, _, _⟩ := own_some hI.oq (by rw [hlQ]; omega)
      have c1 := (own_cell hI.op (j := j) (by rw [hlP]; exact hlt)).1
      have f1 := (own_cell hI.op (j := j) (by rw [hlP]; exact hlt)).2
      obtain ⟨_, _, _, _, _, p5⟩ := hI.s1.cells
      have o1 := own_setF (i := j) hI.op pB1
      rw [set_mark hlt] at o1
      have hI1 := hI.chp (grown_set wr g5 j (.string pB1)) o1
      have c2 := (own_cell hI1.oq (j := j) (by rw [hlQ]; exact hlt)).1
      have f2 := (own_cell hI1.oq (j := j) (by rw [hlQ]; exact hlt)).2
      obtain ⟨_, _, _, _, _, s5⟩ := hI1.s2.cells
      have o2 := own_setF (i := j) hI1.oq qB1
      rw [set_mark hlt] at o2
      have HI2 := hide (hI1.chq (grown_set _ g7 j (.string qB1)) o2)
      clear hI hI1 o1 o2 hlP hlQ HI
      go_wp2
      go_roundg (D.length - (j + 1))
      case rel =>
        go_light
        exact ⟨j + 1, by omega, rfl, by go_num, HI2⟩
      case measure => go_light; omega
    · obtain rfl : j = D.length := by omega
      have hz : ¬ ((D.length : Int) < (D.length : Int)) := by omega
      rw [List.drop_length, List.append_nil, List.append_nil] at HI
      obtain ⟨w16, hw16⟩ : ∃ w16, w16 = wr := ⟨_, rfl⟩
      subst hw16
      obtain ⟨_, _, _, _, _, p5⟩ := HI.out.s1.cells
      obtain ⟨_, _, _, _, _, s5⟩ := HI.out.s2.cells
      have HI := hide (HI.out.next (Below.refl _ _).drew)
      clear hlt
      go_upto_region 24 with (fail)
      go_region
      obtain ⟨w17, hw17⟩ : ∃ w17, w17 = w16.drew := ⟨_, rfl⟩
      rw [← hw17] at HI ⊢
      clear hw17 p5 s5
      go_wp2
      go_loopg [23, 25] 40 (fun gg x i wr => ∃ j : Nat, j ≤ 40 ∧ gg = 40 - j ∧ i = .int .i64 (j : Int) ∧ Hid (Xs w17 wr B (.slice a5 D.length c5) x D.length j pB1))
      case atStart =>
        go_light
        exact ⟨0, Nat.zero_le _, rfl, rfl, xs_start HI.out.op⟩
      case round =>
        obtain ⟨j, hj, rfl, rfl, HX⟩ := hrel
        by_cases h40 : j < 40
        · have hz4 : (j : Int) < 40 := by omega
          have hsz : B ≤ wr.heap.size := Nat.le_trans HI.out.lo.2.2 HX.out.gr.size
          go_wp2_with (at_builtin; refine Mm.wpList_append_K _ rfl _ _ rfl B _ (List.replicate (D.length + j) pB1) rfl (own_al HX.out.ox _) ⟨wr.heap.size, 0, none⟩ 1 pB1 rfl (Mm.rdc_vals wr #[.string pB1] 9) ?c1 ?c2 ?_)
          case c1 => have := HD.out.1; rw [List.length_replicate]; omega
          case c2 => simp; omega
          intro x' w18 ho hc
          have HX2 := hide (HX.out.app ho (by
            rcases hc with ⟨g, n, cp, e1, e2, e3⟩ | ⟨e1, e2⟩
            · exact .inl ⟨g, n, cp, e1, e2, grown_al e3⟩
            · exact .inr ⟨grown_al e1, fun g hg => Nat.le_trans (by simp) (e2 g hg)⟩))
          clear ho hc HX
          go_wp2
          go_roundg (40 - (j + 1))
          case rel =>
            go_light
            exact ⟨j + 1, by omega, rfl, by go_num, HX2⟩
          case measure => go_light; omega
        · obtain rfl : j = 40 := by omega
          have hz4 : ¬ (((40 : Nat) : Int) < 40) := by omega
          obtain ⟨w19, hw19⟩ : ∃ w19, w19 = wr := ⟨_, rfl⟩
          subst hw19
          obtain ⟨x, hx⟩ : ∃ x, u23 = x := ⟨_, rfl⟩
          rw [hx] at HX ⊢
          have HF19 := hide (HI.out.chp HX.out.gr HX.out.op)
          have hqlt : ∀ g, (Value.slice a7 D.length c7).ownBlock = some g → g < w17.heap.size := fun g hg => (World.ownsRow.lt HI.out.oq g hg).2
          have HXx : Hid (OwnS w19 B x (List.replicate (D.length + 40) pB1) ∧ Apt x (.slice a7 D.length c7)) := ⟨HX.out.ox, HX.out.away HI.out.apq hqlt⟩
          obtain ⟨ax, nx, cx, rfl⟩ := Cv.own_slice HX.out.ox
          clear HX HI hqlt hx h40 hj
          go_wp2
          go_loopg [24, 26] 40 (fun gg y i wr => ∃ j : Nat, j ≤ 40 ∧ gg = 40 - j ∧ i = .int .i64 (j : Int) ∧ Hid (Xs w19 wr B (.slice a7 D.length c7) y D.length j qB1))
          case atStart =>
            go_light
            exact ⟨0, Nat.zero_le _, rfl, rfl, xs_start HF19.out.oq⟩
          case round =>
            obtain ⟨j, hj, rfl, rfl, HX⟩ := hrel
            by_cases h40 : j < 40
            · have hz4 : (j : Int) < 40 := by omega
              have hsz : B ≤ wr.heap.size := Nat.le_trans HF19.out.lo.2.2 HX.out.gr.size
              go_wp2_with (at_builtin; refine Mm.wpList_append_K _ rfl _ _ rfl B _ (List.replicate (D.length + j) qB1) rfl (own_al HX.out.ox _) ⟨wr.heap.size, 0, none⟩ 1 qB1 rfl (Mm.rdc_vals wr #[.string qB1] 9) ?c1 ?c2 ?_)
              case c1 => have := HD.out.1; rw [List.length_replicate]; omega
              case c2 => simp; omega
              intro y' w20 ho hc
              have HX2 := hide (HX.out.app ho (by
                rcases hc with ⟨g, n, cp, e1, e2, e3⟩ | ⟨e1, e2⟩
                · exact .inl ⟨g, n, cp, e1, e2, grown_al e3⟩
                · exact .inr ⟨grown_al e1, fun g hg => Nat.le_trans (by simp) (e2 g hg)⟩))
              clear ho hc HX
              go_wp2
              go_roundg (40 - (j + 1))
              case rel =>
                go_light
                exact ⟨j + 1, by omega, rfl, by go_num, HX2⟩
              case measure => go_light; omega
            · obtain rfl : j = 40 := by omega
              have hz4 : ¬ (((40 : Nat) : Int) < 40) := by omega
              obtain ⟨w21, hw21⟩ : ∃ w21, w21 = wr := ⟨_, rfl⟩
              subst hw21
              obtain ⟨y, hy⟩ : ∃ y, u24 = y := ⟨_, rfl⟩
              rw [hy] at HX ⊢
              have hF21 := HF19.out.chq HX.out.gr HX.out.op
              have hx21 : OwnS w21 B (.slice ax nx cx) (List.replicate (D.length + 40) pB1) := keep_row HXx.out.1 fun g hg _ => HX.out.gr.block g (World.ownsRow.lt HXx.out.1 g hg).2 fun e => HXx.out.2 g hg e.symm
              obtain ⟨gx, cpx, ex, hxc⟩ := rep_form hx21 (by omega)
              obtain ⟨rfl, rfl, rfl⟩ := Value.slice.inj ex
              obtain ⟨gy, cy, rfl, hyc⟩ := rep_form HX.out.ox (by omega)
              have HF21 := hide hF21
              have HXY : Hid ((∀ j, j < D.length + 40 → w21.cell? ⟨gx, j, none⟩ = some (.string pB1)) ∧ (∀ j, j < D.length + 40 → w21.cell? ⟨gy, j, none⟩ = some (.string qB1))) := ⟨hxc, hyc⟩
              obtain ⟨d4, hd4⟩ : ∃ d4, D.length + 40 = d4 := ⟨_, rfl⟩
              rw [hd4] at HXY ⊢
              have HD4 := hide hd4
              have hd5 : (d4 : Int) ≤ 160 := by have := HD.out.1; omega
              clear HX HF19 HXx hF21 hx21 hxc hyc hy ex h40 hj hd4
              go_wp2
              go_loopg [27] d4 (fun gg i wr => ∃ j : Nat, j ≤ d4 ∧ gg = d4 - j ∧ i = .int .i64 (j : Int) ∧ w21 = wr)
              case atStart =>
                go_light
                exact ⟨0, Nat.zero_le _, rfl, rfl, rfl⟩
              case round =>
                obtain ⟨j, hj, rfl, rfl, rfl⟩ := hrel
                by_cases hlt : j < d4
                · have hz : (j : Int) < (d4 : Int) := by omega
                  have hz0 : (0 : Int) ≤ (j : Int) := Int.natCast_nonneg _
                  have cx := HXY.out.1 j hlt
                  have cy := HXY.out.2 j hlt
                  by_cases hjD : j < D.length
                  · have hzD : (j : Int) < (D.length : Int) := by omega
                    obtain ⟨_, g5, rfl, k5⟩ := rep_cell HF21.out.op hjD
                    obtain ⟨_, g7, rfl, k7⟩ := rep_cell HF21.out.oq hjD
                    obtain ⟨_, _, _, _, _, p5⟩ := HF21.out.s1.cells
                    obtain ⟨_, _, _, _, _, s5⟩ := HF21.out.s2.cells
                    go_wp2
                    go_roundg (d4 - (j + 1))
                    case rel =>
                      go_light
                      exact ⟨j + 1, by omega, rfl, by go_num, rfl⟩
                    case measure => go_light; omega
                  · have hzD : ¬ (j : Int) < (D.length : Int) := by omega
                    go_wp2
                    go_roundg (d4 - (j + 1))
                    case rel =>
                      go_light
                      exact ⟨j + 1, by omega, rfl, by go_num, rfl⟩
                    case measure => go_light; omega
                · obtain rfl : j = d4 := by omega
                  have hz : ¬ ((j : Int) < (j : Int)) := by omega
                  clear hlt HXY
                  go_upto_region 39 with (go_at_call 12; with_reducible refine (HPr.out _ HF21.out.fr).mono ?_; rintro e w22 ⟨a9, b9, c9, rfl, hR9, _, _, _, hb9⟩)
                  have x9 := six_new w22 (.int .i64 3) (.int .i64 K) (.int .u64 (m : Int)) (.int .u64 (tn : Int)) (.slice none 0 0) (.slice a9 D.length c9)
                  have t9 := bal (Below.refl w22.heap.size w22) (.cells #[.int .i64 3, .int .i64 K, .int .u64 (m : Int), .int .u64 (tn : Int), .slice none 0 0, .slice a9 D.length c9] 32)
                  obtain ⟨w23, hw23⟩ : ∃ w23, w22.alloc (.cells #[.int .i64 3, .int .i64 K, .int .u64 (m : Int), .int .u64 (tn : Int), .slice none 0 0, .slice a9 D.length c9] 32) = w23 := ⟨_, rfl⟩
                  rw [hw23] at x9 t9 ⊢
                  have hF23 := HF21.out.next (bnext hb9 t9)
                  obtain ⟨_, _, _, _, _, p5⟩ := x9.cells
                  obtain ⟨bw', hRw⟩ : ∃ bw', RdS w23 aw bw' 0 D.length D := by
                    obtain ⟨aw', bw', cw', e, r, _, _⟩ := owns_rds hF23.ow (fun s hs => by have := HD.out.2.1 s hs; omega)
                    obtain ⟨rfl, _, _⟩ := Value.slice.inj e
                    exact ⟨bw', r⟩
                  have hR23 := hR9.next t9 (Nat.le_refl _)
                  have HF23 : Hid (∀ W, Below w23.heap.size w23 W → Rh W ra m r1 ∧ Rh W (ra + 1) tn r2 ∧ Frs W fm K T ∧ Below w.heap.size w W) := fun W hW => by
                    have h := hF23.next hW
                    exact ⟨h.h1, h.h2, h.fr, h.be⟩
                  clear hw23 hb9 x9 t9 hF23 hR9 HF21
                  go_wp2_with (first
                    | (go_at_call 16; with_reducible refine (num_id _ _).mono ?_; rintro e wn ⟨rfl, rfl⟩)
                    | (go_at_call 22; with_reducible refine (HSa.out _ _ _ _ _ _ _ hR23 hRw).mono ?_; rintro e w24 ⟨rfl, hb24⟩; have hY := HF23.out w24 hb24; obtain ⟨g1, g2⟩ := hY.1.cells; obtain ⟨g3, g4⟩ := hY.2.1.cells)
                    | (go_at_call 23; with_reducible refine (HAg.out _ hY.2.2.2 hY.2.2.1).mono ?_; rintro e w25 ⟨rfl, hb25⟩))
                  go_ret
                  exact ⟨rfl, bnext hY.2.2.2 hb25⟩
end Go.Proofs.YtdkcliblbaldhaaDoor
