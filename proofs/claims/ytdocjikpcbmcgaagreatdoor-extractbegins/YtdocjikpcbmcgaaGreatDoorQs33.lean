/-
  Own work: TWalkE.
-/
import Derived.Deep.RegionWith
import Derived.Test.YtdocjikpcbmcgaaGreatDoorQs24
import Derived.Test.YtdocjikpcbmcgaaGreatDoorQs32
namespace Go.Proofs.YtdocjikpcbmcgaaGreatDoor
open Go.RowKit
open Cv (RdC zl cU)
attribute [local go_sem ↓] Go.wp_at_zero Go.wp_at_succ
theorem cat_peaks (w : World) (ax ay : Option Addr) (db off na nb cx cy : Nat) (E : List ByteArray) (pk : ByteArray) (zk : pk.size ≤ 9223372036854775807) (hr : RdS w ax db off E.length E) (hn : ax = none → cx = 0) (hl : E.length = na + nb) (hs : E.length ≤ 1000) (hcx : E.length ≤ cx) (hcy : cx - na = cy) (hay : (if cx = na then ax else Option.map (fun x => x.add na) ax) = ay) :
    Calls Tryz.prog 117 #[.slice (some ⟨w.heap.size + 1, 0, none⟩) 3 3] ((w.alloc (.cells #[.string pk] 9)).alloc (.cells #[.slice ax na cx, .slice (some ⟨w.heap.size, 0, none⟩) 1 1, .slice ay nb cy] 22)).drew fun e w' => ∃ ao b cap, e = .returned (.slice ao (na + 1 + nb) cap) ∧ RdS w' ao b 0 (na + 1 + nb) (E.take na ++ pk :: E.drop na) ∧ Below w.heap.size w w' := by
  subst hcy
  obtain ⟨o1, ho1⟩ : ∃ o1, Obj.cells #[.string pk] 9 (0, 0) = o1 := ⟨_, rfl⟩
  obtain ⟨o2, ho2⟩ : ∃ o2, Obj.cells #[.slice ax na cx, .slice (some ⟨w.heap.size, 0, none⟩) 1 1, .slice ay nb (cx - na)] 22 (0, 0) = o2 := ⟨_, rfl⟩
  have hb1 := bal (Below.refl w.heap.size w) o1
  have hb2 := (bal hb1 o2).drew
  have hx : ((w.alloc o1).alloc o2).drew.heap[w.heap.size + 1]? = some (.cells #[.slice ax na cx, .slice (some ⟨w.heap.size, 0, none⟩) 1 1, .slice ay nb (cx - na)] 22 (0, 0)) := by
    have := heap_alloc_new (w.alloc o1) o2
    rw [World.size_alloc] at this
    rw [ho2]
    exact this
  have hr2 := hr.next hb2 (Nat.le_refl _)
  obtain ⟨rd, rn⟩ := rds_drop hr2 hcx (by omega) hn hay
  have rt := rds_take hr2 (H := na) (by omega)
  have r1 : RdS ((w.alloc o1).alloc o2).drew (some ⟨w.heap.size, 0, none⟩) w.heap.size 0 1 [pk] := by
    have h0 : RdS (w.alloc o1) (some ⟨w.heap.size, 0, none⟩) w.heap.size 0 1 [pk] := by rw [← ho1]; exact rds_one w pk zk
    exact h0.next ((bal (Below.refl _ _) o2).drew) (Nat.le_refl _)
  have lt : (E.take na).length = na := by rw [List.length_take]; omega
  have ld : (E.drop na).length = nb := by rw [List.length_drop]; omega
  have hc : CatS ((w.alloc o1).alloc o2).drew (w.heap.size + 1) [.slice ax na cx, .slice (some ⟨w.heap.size, 0, none⟩) 1 1, .slice ay nb (cx - na)] [E.take na, [pk], E.drop na] := by
    refine cat3_S ?_ ?_ ?_ ?_ (rds_rdc r1 (fun e => by cases e)) ?_
    · rw [cell_of_row _ _ 0 _ _ (0, 0) hx]; rfl
    · rw [cell_of_row _ _ 1 _ _ (0, 0) hx]; rfl
    · rw [cell_of_row _ _ 2 _ _ (0, 0) hx]; rfl
    · rw [lt] at rt ⊢; exact rds_rdc rt hn
    · rw [ld] at rd ⊢; exact rds_rdc rd rn
  have hfl : ([E.take na, [pk], E.drop na] : List (List ByteArray)).flatten = E.take na ++ pk :: E.drop na := by simp
  have hll : (E.take na ++ pk :: E.drop na).length = na + 1 + nb := by rw [List.length_append, List.length_cons, lt, ld]; omega
  rw [ho1, ho2]
  refine (show Calls Tryz.prog 117 #[.slice (some ⟨w.heap.size + 1, 0, none⟩) 3 3] ((w.alloc o1).alloc o2).drew _ from concat_S _ _ 3 _ _ hc (by simp) (by rw [hfl, hll]; omega) _ hfl).mono fun e w' ⟨v, e1, e2, e3⟩ => ?_
  obtain ⟨ao, b, cap, rfl, hr', _⟩ := owns_rds (show OwnS w' _ v _ from e2) (fun s hs => by
    rcases List.mem_append.1 hs with hs | hs
    · exact hr.sz s (List.mem_of_mem_take hs)
    · rcases List.mem_cons.1 hs with rfl | hs
      · exact zk
      · exact hr.sz s (List.mem_of_mem_drop hs))
  rw [hll] at e1 hr'
  exact ⟨ao, b, cap, e1, hr', bnext hb2 e3⟩
theorem proot_form (w : World) (kd k : Int) (old size : Nat) (sa : Option Addr) (ns sc : Nat) (da : Option Addr) (n2 dc : Nat) (i : Nat) (hx : ns = 1 → ∃ b o, sa = some ⟨b, o, none⟩ ∧ w.cell? ⟨b, o, none⟩ = some (.int .u64 (i : Int)))
    (hno : ¬ (kd = 1 ∧ (1 ≤ k ∧ k ≤ 32) ∧ size ≤ 2 ^ 40 ∧ old = 0 ∧ ns = 1 ∧ i < size)) (x : ByteArray) :
    Calls Tryz.prog 63 #[.agg #[.int .i64 kd, .int .i64 k, .int .u64 (old : Int), .int .u64 (size : Int), .slice sa ns sc, .slice da n2 dc], .string x] w fun e w' => e = .returned (.tuple #[noR, .int .i64 150]) ∧ Below w.heap.size w w' := by
  have HI : Hid (∀ W, Below w.heap.size w W → Calls Tryz.prog 112 #[.agg #[.int .i64 kd, .int .i64 k, .int .u64 (old : Int), .int .u64 (size : Int), .slice sa ns sc, .slice da n2 dc]] W fun e w' => e = .returned (.bool false) ∧ Below W.heap.size W w') := fun W hb =>
    ispath_core W kd k old size sa ns sc da n2 dc i (fun h => by
      obtain ⟨b, o, h1, h2⟩ := hx h
      exact ⟨b, o, h1, (hb.cell (p := ⟨b, o, none⟩) (World.block_lt_of_cell? w _ h2)).trans h2⟩) false (decide_eq_false hno)
  clear hx hno
  go_enter Tryz.func63, Tryz.ntmps63
  go_upto_region 1 with (fail)
  obtain ⟨W0, hW0⟩ : ∃ W0, (w.alloc (.cells #[.int .i64 kd, .int .i64 k, .int .u64 (old : Int), .int .u64 (size : Int), .slice sa ns sc, .slice da n2 dc] 55)).alloc (.cells #[.int .u64 0, .string ⟨#[]⟩] 30) = W0 := ⟨_, rfl⟩
  rw [hW0]
  obtain ⟨hb, h6, hRt, hz⟩ := root_start hW0
  obtain ⟨c0, c1, c2, c3, c4, c5⟩ := h6.cells
  have HR := hide (And.intro hRt hz)
  clear hW0 h6 hRt hz
  go_wp2_with (go_at_call 112; with_reducible refine (HI.out _ hb).mono ?_; rintro e w1 ⟨rfl, hb1⟩; have hR := HR.out.1.below hb1 (by rw [HR.out.2]; omega); have k0 := hR.c0; have k1 := hR.c1; have f0 := hR.f0; have f1 := hR.f1)
  obtain ⟨s0, s1, hch⟩ := rt_put hR 0 ⟨#[]⟩
  refine bodyPost_ret (v := .tuple #[noR, .int .i64 150]) (by simp [results, Tryz.results63, go_sem, s0, s1]) rfl ⟨rfl, ?_⟩
  exact (bnext hb hb1).trans (hch.below (by rintro b rfl; omega))
structure RA (w : World) (k : Int) (size : Nat) (b o : Nat) (i H : Nat) (A B : List (Nat × Nat)) : Prop where
  k1 : 1 ≤ k ∧ k ≤ 32
  n : size ≤ 2 ^ 40
  il : i < size
  wy : Wy size i A H B
  ci : w.cell? ⟨b, o, none⟩ = some (.int .u64 (i : Int))
set_option maxRecDepth 100000 in
set_option maxHeartbeats 1000000 in
theorem proot_fill (w : World) (k : Int) (size : Nat) (b o sc : Nat) (i H : Nat) (A B : List (Nat × Nat)) (ha : RA w k size b o i H A B) (da : Option Addr) (db dO dc : Nat) (D : List ByteArray) (hr : RdS w da db dO D.length D) (hm : D.length ≤ 9223372036854775807) (x : ByteArray) (hno : ¬ fil k (H + A.length + B.length) D) :
    Calls Tryz.prog 63 #[.agg #[.int .i64 1, .int .i64 k, .int .u64 0, .int .u64 (size : Int), .slice (some ⟨b, o, none⟩) 1 sc, .slice da D.length dc], .string x] w fun e w' => e = .returned (.tuple #[noR, .int .i64 150]) ∧ Below w.heap.size w w' := by
  have HI : Hid (∀ W, Below w.heap.size w W → Calls Tryz.prog 112 #[.agg #[.int .i64 1, .int .i64 k, .int .u64 0, .int .u64 (size : Int), .slice (some ⟨b, o, none⟩) 1 sc, .slice da D.length dc]] W fun e w' => e = .returned (.bool true) ∧ Below W.heap.size W w') := fun W hb =>
    ispath_core W 1 k 0 size (some ⟨b, o, none⟩) 1 sc da D.length dc i (fun h => ⟨b, o, rfl, (hb.cell (p := ⟨b, o, none⟩) (World.block_lt_of_cell? w _ ha.ci)).trans ha.ci⟩) true (decide_eq_true ⟨rfl, ha.k1, ha.n, rfl, rfl, ha.il⟩)
  have HCi : Hid (∀ W, Below w.heap.size w W → W.cell? ⟨b, o, none⟩ = some (.int .u64 (i : Int))) := fun W hb => (hb.cell (p := ⟨b, o, none⟩) (World.block_lt_of_cell? w _ ha.ci)).trans ha.ci
  have hln := ha.wy.len
  have hH := ha.wy.hH
  have HW : Hid (∀ W, Calls Tryz.prog 113 #[.int .u64 (size : Int), .int .u64 (i : Int)] W fun e w' => ∃ a0 c0 a1 c1 a2 c2, e = .returned (.agg #[.slice a0 H c0, .slice a1 A.length c1, .slice a2 B.length c2]) ∧ Below W.heap.size W w') := fun W =>
    (way_any W size i H A B ha.wy ha.n ha.il).mono fun e w' ⟨vb, va, vc, e1, r0, r1, r2, hb⟩ => by
      obtain ⟨a0, c0, rfl⟩ := rdc_slice r0
      obtain ⟨a1, c1, rfl⟩ := rdc_slice r1
      obtain ⟨a2, c2, rfl⟩ := rdc_slice r2
      exact ⟨a0, c0, a1, c1, a2, c2, e1, hb⟩
  have HF : Hid (∀ W a0 c0 a1 c1 a2 c2, Below w.heap.size w W → Calls Tryz.prog 114 #[.agg #[.slice a0 H c0, .slice a1 A.length c1, .slice a2 B.length c2], .agg #[.int .i64 1, .int .i64 k, .int .u64 0, .int .u64 (size : Int), .slice (some ⟨b, o, none⟩) 1 sc, .slice da D.length dc]] W fun e w' => e = .returned (.bool false) ∧ Below W.heap.size W w') := fun W a0 c0 a1 c1 a2 c2 hb =>
    filled_core W 1 k 0 size (some ⟨b, o, none⟩) 1 sc da db dO dc D (hr.next hb (Nat.le_refl _)) hm a0 a1 a2 H A.length B.length c0 c1 c2 (by omega) (by omega) (by omega) false (decide_eq_false hno)
  clear hno ha hr hm hln hH
  go_enter Tryz.func63, Tryz.ntmps63
  go_upto_region 1 with (fail)
  obtain ⟨W0, hW0⟩ : ∃ W0, (w.alloc (.cells #[.int .i64 1, .int .i64 k, .int .u64 ((0 : Nat) : Int), .int .u64 (size : Int), .slice (some ⟨b, o, none⟩) 1 sc, .slice da D.length dc] 55)).alloc (.cells #[.int .u64 0, .string ⟨#[]⟩] 30) = W0 := ⟨_, rfl⟩
  obtain ⟨hb, h6, hRt, hz⟩ := root_start hW0
  rw [show ((0 : Nat) : Int) = 0 from rfl] at hW0 h6
  rw [hW0]
  obtain ⟨c0, c1, c2, c3, c4, c5⟩ := h6.cells
  have HR := hide (And.intro hRt hz)
  have H6 := hide h6
  clear hW0 h6 hRt hz
  go_wp2_with (first
    | (go_at_call 112; with_reducible refine (HI.out _ hb).mono ?_; rintro e w1 ⟨rfl, hb1⟩; obtain ⟨d0, d1, d2, d3, d4, d5⟩ := (H6.out.next hb1).cells; have ci := HCi.out _ (bnext hb hb1))
    | (go_at_call 113; with_reducible refine (HW.out _).mono ?_; rintro e w2 ⟨a0, n0, a1, n1, a2, n2, rfl, hb2⟩; obtain ⟨g0, g1, g2, g3, g4, g5⟩ := (H6.out.next (bal (bnext hb1 hb2) (.cells #[.slice a0 H n0, .slice a1 A.length n1, .slice a2 B.length n2] 154))).cells)
    | (go_at_call 114; with_reducible refine (HF.out _ _ _ _ _ _ _ (bal (bnext (bnext hb hb1) hb2) _)).mono ?_; rintro e w3 ⟨rfl, hb3⟩; have hR := HR.out.1.below (bnext (bal (bnext hb1 hb2) _) hb3) (by rw [HR.out.2]; omega); have k0 := hR.c0; have k1 := hR.c1; have f0 := hR.f0; have f1 := hR.f1))
  obtain ⟨s0, s1, hch⟩ := rt_put hR 0 ⟨#[]⟩
  refine bodyPost_ret (v := .tuple #[noR, .int .i64 150]) (by simp [results, Tryz.results63, go_sem, s0, s1]) rfl ⟨rfl, ?_⟩
  exact (bnext (bal (bnext (bnext hb hb1) hb2) _) hb3).trans (hch.below (by rintro b rfl; omega))
set_option maxRecDepth 100000 in
set_option maxHeartbeats 1000000 in
theorem proot_long (w : World) (k : Int) (size : Nat) (b o sc : Nat) (i H : Nat) (A B : List (Nat × Nat)) (ha : RA w k size b o i H A B) (da : Option Addr) (db dO dc : Nat) (D : List ByteArray) (hr : RdS w da db dO D.length D) (hm : D.length ≤ 9223372036854775807) (x : ByteArray) (hf : fil k (H + A.length + B.length) D) (hxl : 1048576 < x.size) :
    Calls Tryz.prog 63 #[.agg #[.int .i64 1, .int .i64 k, .int .u64 0, .int .u64 (size : Int), .slice (some ⟨b, o, none⟩) 1 sc, .slice da D.length dc], .string x] w fun e w' => e = .returned (.tuple #[noR, .int .i64 100]) ∧ Below w.heap.size w w' := by
  have HI : Hid (∀ W, Below w.heap.size w W → Calls Tryz.prog 112 #[.agg #[.int .i64 1, .int .i64 k, .int .u64 0, .int .u64 (size : Int), .slice (some ⟨b, o, none⟩) 1 sc, .slice da D.length dc]] W fun e w' => e = .returned (.bool true) ∧ Below W.heap.size W w') := fun W hb =>
    ispath_core W 1 k 0 size (some ⟨b, o, none⟩) 1 sc da D.length dc i (fun h => ⟨b, o, rfl, (hb.cell (p := ⟨b, o, none⟩) (World.block_lt_of_cell? w _ ha.ci)).trans ha.ci⟩) true (decide_eq_true ⟨rfl, ha.k1, ha.n, rfl, rfl, ha.il⟩)
  have HCi : Hid (∀ W, Below w.heap.size w W → W.cell? ⟨b, o, none⟩ = some (.int .u64 (i : Int))) := fun W hb => (hb.cell (p := ⟨b, o, none⟩) (World.block_lt_of_cell? w _ ha.ci)).trans ha.ci
  have hln := ha.wy.len
  have hH := ha.wy.hH
  have HW : Hid (∀ W, Calls Tryz.prog 113 #[.int .u64 (size : Int), .int .u64 (i : Int)] W fun e w' => ∃ a0 c0 a1 c1 a2 c2, e = .returned (.agg #[.slice a0 H c0, .slice a1 A.length c1, .slice a2 B.length c2]) ∧ Below W.heap.size W w') := fun W =>
    (way_any W size i H A B ha.wy ha.n ha.il).mono fun e w' ⟨vb, va, vc, e1, r0, r1, r2, hb⟩ => by
      obtain ⟨a0, c0, rfl⟩ := rdc_slice r0
      obtain ⟨a1, c1, rfl⟩ := rdc_slice r1
      obtain ⟨a2, c2, rfl⟩ := rdc_slice r2
      exact ⟨a0, c0, a1, c1, a2, c2, e1, hb⟩
  have HF : Hid (∀ W a0 c0 a1 c1 a2 c2, Below w.heap.size w W → Calls Tryz.prog 114 #[.agg #[.slice a0 H c0, .slice a1 A.length c1, .slice a2 B.length c2], .agg #[.int .i64 1, .int .i64 k, .int .u64 0, .int .u64 (size : Int), .slice (some ⟨b, o, none⟩) 1 sc, .slice da D.length dc]] W fun e w' => e = .returned (.bool true) ∧ Below W.heap.size W w') := fun W a0 c0 a1 c1 a2 c2 hb =>
    filled_core W 1 k 0 size (some ⟨b, o, none⟩) 1 sc da db dO dc D (hr.next hb (Nat.le_refl _)) hm a0 a1 a2 H A.length B.length c0 c1 c2 (by omega) (by omega) (by omega) true (decide_eq_true hf)
  have hxz : (1048576 : Int) < (x.size : Int) := by omega
  clear hf hxl ha hr hm hln hH
  go_enter Tryz.func63, Tryz.ntmps63
  go_upto_region 1 with (fail)
  obtain ⟨W0, hW0⟩ : ∃ W0, (w.alloc (.cells #[.int .i64 1, .int .i64 k, .int .u64 ((0 : Nat) : Int), .int .u64 (size : Int), .slice (some ⟨b, o, none⟩) 1 sc, .slice da D.length dc] 55)).alloc (.cells #[.int .u64 0, .string ⟨#[]⟩] 30) = W0 := ⟨_, rfl⟩
  obtain ⟨hb, h6, hRt, hz⟩ := root_start hW0
  rw [show ((0 : Nat) : Int) = 0 from rfl] at hW0 h6
  rw [hW0]
  obtain ⟨c0, c1, c2, c3, c4, c5⟩ := h6.cells
  have HR := hide (And.intro hRt hz)
  have H6 := hide h6
  clear hW0 h6 hRt hz
  go_wp2_with (first
    | (go_at_call 112; with_reducible refine (HI.out _ hb).mono ?_; rintro e w1 ⟨rfl, hb1⟩; obtain ⟨d0, d1, d2, d3, d4, d5⟩ := (H6.out.next hb1).cells; have ci := HCi.out _ (bnext hb hb1))
    | (go_at_call 113; with_reducible refine (HW.out _).mono ?_; rintro e w2 ⟨a0, n0, a1, n1, a2, n2, rfl, hb2⟩; obtain ⟨g0, g1, g2, g3, g4, g5⟩ := (H6.out.next (bal (bnext hb1 hb2) (.cells #[.slice a0 H n0, .slice a1 A.length n1, .slice a2 B.length n2] 154))).cells)
    | (go_at_call 114; with_reducible refine (HF.out _ _ _ _ _ _ _ (bal (bnext (bnext hb hb1) hb2) _)).mono ?_; rintro e w3 ⟨rfl, hb3⟩; have hR := HR.out.1.below (bnext (bal (bnext hb1 hb2) _) hb3) (by rw [HR.out.2]; omega); have k0 := hR.c0; have k1 := hR.c1; have f0 := hR.f0; have f1 := hR.f1))
  obtain ⟨s0, s1, hch⟩ := rt_put hR 0 ⟨#[]⟩
  refine bodyPost_ret (v := .tuple #[noR, .int .i64 100]) (by simp [results, Tryz.results63, go_sem, s0, s1]) rfl ⟨rfl, ?_⟩
  exact (bnext (bal (bnext (bnext hb hb1) hb2) _) hb3).trans (hch.below (by rintro b rfl; omega))
set_option maxRecDepth 100000 in
set_option maxHeartbeats 1000000 in
theorem proot_okT (w : World) (k : Int) (size : Nat) (b o sc : Nat) (i H : Nat) (A B : List (Nat × Nat)) (ha : RA w k size b o i H A B) (da : Option Addr) (db dO dc : Nat) (D : List ByteArray) (hr : RdS w da db dO D.length D) (hm : D.length ≤ 9223372036854775807) (x : ByteArray) (hf : fil k (H + A.length + B.length) D) (hxl : x.size ≤ 1048576) (ht : Tb w) (hcd : D.length ≤ dc) (hc63 : dc ≤ 9223372036854775807) (hnd : da = none → dc = 0) (r : ByteArray) (hq : rtP (clk k) size i A.length H D x = r) :
    Calls Tryz.prog 63 #[.agg #[.int .i64 1, .int .i64 k, .int .u64 0, .int .u64 (size : Int), .slice (some ⟨b, o, none⟩) 1 sc, .slice da D.length dc], .string x] w fun e w' => e = .returned (.tuple #[.agg #[.int .u64 (size : Int), .string r], .int .i64 0]) ∧ Below w.heap.size w w' := by
  have HI : Hid (∀ W, Below w.heap.size w W → Calls Tryz.prog 112 #[.agg #[.int .i64 1, .int .i64 k, .int .u64 0, .int .u64 (size : Int), .slice (some ⟨b, o, none⟩) 1 sc, .slice da D.length dc]] W fun e w' => e = .returned (.bool true) ∧ Below W.heap.size W w') := fun W hb =>
    ispath_core W 1 k 0 size (some ⟨b, o, none⟩) 1 sc da D.length dc i (fun h => ⟨b, o, rfl, (hb.cell (p := ⟨b, o, none⟩) (World.block_lt_of_cell? w _ ha.ci)).trans ha.ci⟩) true (decide_eq_true ⟨rfl, ha.k1, ha.n, rfl, rfl, ha.il⟩)
  have HCi : Hid (∀ W, Below w.heap.size w W → W.cell? ⟨b, o, none⟩ = some (.int .u64 (i : Int))) := fun W hb => (hb.cell (p := ⟨b, o, none⟩) (World.block_lt_of_cell? w _ ha.ci)).trans ha.ci
  have hln := ha.wy.len
  have hH := ha.wy.hH
  have HW : Hid (∀ W, Calls Tryz.prog 113 #[.int .u64 (size : Int), .int .u64 (i : Int)] W fun e w' => ∃ a0 c0 a1 c1 a2 c2, e = .returned (.agg #[.slice a0 H c0, .slice a1 A.length c1, .slice a2 B.length c2]) ∧ Below W.heap.size W w') := fun W =>
    (way_any W size i H A B ha.wy ha.n ha.il).mono fun e w' ⟨vb, va, vc, e1, r0, r1, r2, hb⟩ => by
      obtain ⟨a0, c0, rfl⟩ := rdc_slice r0
      obtain ⟨a1, c1, rfl⟩ := rdc_slice r1
      obtain ⟨a2, c2, rfl⟩ := rdc_slice r2
      exact ⟨a0, c0, a1, c1, a2, c2, e1, hb⟩
  have HF : Hid (∀ W a0 c0 a1 c1 a2 c2, Below w.heap.size w W → Calls Tryz.prog 114 #[.agg #[.slice a0 H c0, .slice a1 A.length c1, .slice a2 B.length c2], .agg #[.int .i64 1, .int .i64 k, .int .u64 0, .int .u64 (size : Int), .slice (some ⟨b, o, none⟩) 1 sc, .slice da D.length dc]] W fun e w' => e = .returned (.bool true) ∧ Below W.heap.size W w') := fun W a0 c0 a1 c1 a2 c2 hb =>
    filled_core W 1 k 0 size (some ⟨b, o, none⟩) 1 sc da db dO dc D (hr.next hb (Nat.le_refl _)) hm a0 a1 a2 H A.length B.length c0 c1 c2 (by omega) (by omega) (by omega) true (decide_eq_true hf)
  have HX : Hid (x.size ≤ 1048576 ∧ fil k (H + A.length + B.length) D ∧ D.length ≤ dc ∧ (da = none → dc = 0) ∧ i < 2 ^ 40 ∧ (1 ≤ k ∧ k ≤ 32) ∧ H ≤ 40 ∧ A.length + B.length ≤ 40 ∧ dc ≤ 9223372036854775807) := ⟨hxl, hf, hcd, hnd, by have := ha.n; have := ha.il; omega, ha.k1, ha.wy.hH, ha.wy.len, hc63⟩
  have HQ := hide hq
  have HT : Hid (∀ W, Below w.heap.size w W → Tb W) := fun W hb => ht.next hb
  have HD : Hid (∀ W, Below w.heap.size w W → RdS W da db dO D.length D) := fun W hb => hr.next hb (Nat.le_refl _)
  have hxz : decide ((1048576 : Int) < (x.size : Int)) = false := decide_eq_false (by omega)
  have hcz : ¬ ((dc : Int) < (H : Int)) := by have := hf.1; omega
  have hnz : (H : Int) ≤ (D.length : Int) := by have := hf.1; omega
  clear hf hxl ht hcd hc63 hnd hq ha hr hm hln hH
  go_enter Tryz.func63, Tryz.ntmps63
  go_upto_region 1 with (fail)
  obtain ⟨W0, hW0⟩ : ∃ W0, (w.alloc (.cells #[.int .i64 1, .int .i64 k, .int .u64 ((0 : Nat) : Int), .int .u64 (size : Int), .slice (some ⟨b, o, none⟩) 1 sc, .slice da D.length dc] 55)).alloc (.cells #[.int .u64 0, .string ⟨#[]⟩] 30) = W0 := ⟨_, rfl⟩
  obtain ⟨hb, h6, hRt, hz⟩ := root_start hW0
  rw [show ((0 : Nat) : Int) = 0 from rfl] at hW0 h6
  rw [hW0]
  obtain ⟨c0, c1, c2, c3, c4, c5⟩ := h6.cells
  have HR := hide (And.intro hRt hz)
  have H6 := hide h6
  clear hW0 h6 hRt hz
  go_upto_region 9 with (first
    | (go_at_call 112; with_reducible refine (HI.out _ hb).mono ?_; rintro e w1 ⟨rfl, hb1⟩; obtain ⟨d0, d1, d2, d3, d4, d5⟩ := (H6.out.next hb1).cells; have ci := HCi.out _ (bnext hb hb1))
    | (go_at_call 113; with_reducible refine (HW.out _).mono ?_; rintro e w2 ⟨a0, n0, a1, n1, a2, n2, rfl, hb2⟩; obtain ⟨g0, g1, g2, g3, g4, g5⟩ := (H6.out.next (bal (bnext hb1 hb2) (.cells #[.slice a0 H n0, .slice a1 A.length n1, .slice a2 B.length n2] 154))).cells)
    | (go_at_call 114; with_reducible refine (HF.out _ _ _ _ _ _ _ (bal (bnext (bnext hb hb1) hb2) _)).mono ?_; rintro e w3 ⟨rfl, hb3⟩; have hR := HR.out.1.below (bnext (bal (bnext hb1 hb2) _) hb3) (by rw [HR.out.2]; omega); have k0 := hR.c0; have k1 := hR.c1; have f0 := hR.f0; have f1 := hR.f1))
  have hwB := heap_alloc_new w2 (.cells #[.slice a0 H n0, .slice a1 A.length n1, .slice a2 B.length n2] 154)
  have hw3 := (hb3.block w2.heap.size (by simp)).trans hwB
  have q0 : w3.cell? ⟨w2.heap.size, 0, none⟩ = some (.slice a0 H n0) := by rw [cell_of_row w3 _ 0 _ _ (0, 0) hw3]; rfl
  have q1 : w3.cell? ⟨w2.heap.size, 1, none⟩ = some (.slice a1 A.length n1) := by rw [cell_of_row w3 _ 1 _ _ (0, 0) hw3]; rfl
  have h63 := H6.out.next (bnext (bal (bnext hb1 hb2) _) hb3)
  have hbw3 := bnext (bal (bnext (bnext hb hb1) hb2) (.cells #[.slice a0 H n0, .slice a1 A.length n1, .slice a2 B.length n2] 154)) hb3
  obtain ⟨e0, e1, e2, e3, e4, e5⟩ := h63.cells
  have HS : Hid (Six w3 w.heap.size (.int .i64 1) (.int .i64 k) (.int .u64 0) (.int .u64 (size : Int)) (.slice (some ⟨b, o, none⟩) 1 sc) (.slice da D.length dc) ∧ Rt w3 (w.heap.size + 1) 0 ⟨#[]⟩ ∧ w3.heap[w2.heap.size]? = some (.cells #[.slice a0 H n0, .slice a1 A.length n1, .slice a2 B.length n2] 154 (0, 0)) ∧ Below w.heap.size w w3) := ⟨h63, hR, hw3, hbw3⟩
  generalize w2.heap.size = y at *
  clear hwB hw3 h63 hbw3 HR H6 HW HF HI HCi hb hb1 hb2 hb3 c0 c1 c2 c3 c4 c5 d0 d1 d2 d3 d4 d5 g0 g1 g2 g3 g4 g5 ci k0 k1 f0 f1 hR
  go_quiet (fail)
  go_upto_region 10 with (fail)
  obtain ⟨W4, hW4⟩ : ∃ W4, w3.drewN nq = W4 := ⟨_, rfl⟩
  have HS4 : Hid (Six W4 w.heap.size (.int .i64 1) (.int .i64 k) (.int .u64 0) (.int .u64 (size : Int)) (.slice (some ⟨b, o, none⟩) 1 sc) (.slice da D.length dc) ∧ Rt W4 (w.heap.size + 1) 0 ⟨#[]⟩ ∧ W4.heap[y]? = some (.cells #[.slice a0 H n0, .slice a1 A.length n1, .slice a2 B.length n2] 154 (0, 0)) ∧ Below w.heap.size w W4) := by
    rw [← hW4]
    exact ⟨HS.out.1, ⟨HS.out.2.1.c0, HS.out.2.1.c1, HS.out.2.1.f0, HS.out.2.1.f1⟩, HS.out.2.2.1, below_drewN HS.out.2.2.2 nq⟩
  obtain ⟨ax, hax⟩ : ∃ ax, (if dc = H then da else Option.map (fun x => x.add H) da) = ax := ⟨_, rfl⟩
  have HA : Hid (∀ W, Below w.heap.size w W → RdS W ax db (dO + H) (D.drop H).length (D.drop H) ∧ (ax = none → dc - H = 0)) := fun W hb => rds_drop (HD.out W hb) HX.out.2.2.1 (by omega) HX.out.2.2.2.1 hax
  rw [hW4, hax]
  have hEl : (D.drop H).length = A.length + B.length := by rw [List.length_drop, HX.out.2.1.1]; omega
  have hck : (k : Int) = (clk k : Int) := by have := HX.out.2.2.2.2.2.1; unfold clk; rw [if_neg (by omega), if_neg (by omega)]; omega
  have hsD : ∀ s ∈ D, s.size = clk k := fun s hs => by have := HX.out.2.1.2 s hs; omega
  obtain ⟨lf, hlf⟩ : ∃ lf, dg (clk k) (leafT x) = lf := ⟨_, rfl⟩
  obtain ⟨pk, hpk⟩ : ∃ pk, rs (clk k) i lf (D.take H) = pk := ⟨_, rfl⟩
  have zlf : lf.size = clk k := by rw [← hlf]; exact dg_size (clk_le k) _
  have HLf : Hid (∀ W, Below w.heap.size w W → Calls Tryz.prog 116 #[.int .i64 k, .string x] W fun e w' => e = .returned (.string lf) ∧ Below W.heap.size W w') := fun W hb => leaf_any W (HT.out W hb) k x (by have := HX.out.1; omega) lf hlf
  have HRs : Hid (∀ W, Below w.heap.size w W → Calls Tryz.prog 115 #[.int .i64 k, .int .u64 (i : Int), .string lf, .slice da H dc] W fun e w' => e = .returned (.string pk) ∧ Below W.heap.size W w') := fun W hb => by
    have := raised_any W (HT.out W hb) k i HX.out.2.2.2.2.1 lf zlf da db dO dc (D.take H) (rds_take (HD.out W hb) (by omega)) (by rw [List.length_take]; have := HX.out.2.2.2.2.2.2.1; omega) (fun s hs => hsD s (List.mem_of_mem_take hs)) pk hpk
    rw [List.length_take, Nat.min_eq_left (by omega)] at this
    exact this
  obtain ⟨k0, k1, k2, k3, k4, k5⟩ := HS4.out.1.cells
  have hb4 := HS4.out.2.2.2
  have HE := hide (And.intro hEl (And.intro hsD (And.intro hlf (And.intro hpk (And.intro hck zlf)))))
  have HAX := hide hax
  clear hW4 HS e0 e1 e2 e3 e4 e5 q0 q1 hck hsD hlf hpk zlf hEl hax
  refine wp_region_planI (by kernel_rfl) [46, 47, 48, 49, 50, 51, 52, 53, 54, 10] [] [.pointer (some ⟨w.heap.size, 1, none⟩), .int .i64 k, .int .u64 (i : Int), .pointer (some ⟨w.heap.size, 1, none⟩), .int .i64 k, .string x, .string lf, .slice da H dc, .string pk, .string pk] (by kernel_rfl) rfl (fun j hj => by cases hj) (fun _ W => Below W4.heap.size W4 W) (fun W _ hb => hb) ?step ?fin
  case step =>
    refine ⟨?_, ?_, ?_, ?_, ?_, ?_, ?_, ?_, ?_, ?_, trivial⟩
    · intro L Ac Wc K hI hj hcl hsm dep hK
      have t2 : Ac.tmps.getD 2 undef = .pointer (some ⟨w.heap.size, 0, none⟩) := hsm 2 rfl
      show Oper.wp _ _ Ac Wc K _
      go_simp
      exact hK _ _ (.inr rfl) hI
    · intro L Ac Wc K hI hj hcl hsm dep hK
      have t46 : Ac.tmps.getD 46 undef = .pointer (some ⟨w.heap.size, 1, none⟩) := dep 0 rfl
      show Oper.wp _ _ Ac Wc K _
      obtain ⟨g0, g1, g2, g3, g4, g5⟩ := (HS4.out.1.next hI).cells
      go_simp
      exact hK _ _ (.inr rfl) hI
    · intro L Ac Wc K hI hj hcl hsm dep hK
      have t6 : Ac.tmps.getD 6 undef = .int .u64 (i : Int) := hsm 6 rfl
      show Oper.wp _ _ Ac Wc K _
      go_simp
      exact hK _ _ (.inr rfl) hI
    · intro L Ac Wc K hI hj hcl hsm dep hK
      have t2 : Ac.tmps.getD 2 undef = .pointer (some ⟨w.heap.size, 0, none⟩) := hsm 2 rfl
      show Oper.wp _ _ Ac Wc K _
      go_simp
      exact hK _ _ (.inr rfl) hI
    · intro L Ac Wc K hI hj hcl hsm dep hK
      have t49 : Ac.tmps.getD 49 undef = .pointer (some ⟨w.heap.size, 1, none⟩) := dep 3 rfl
      show Oper.wp _ _ Ac Wc K _
      obtain ⟨g0, g1, g2, g3, g4, g5⟩ := (HS4.out.1.next hI).cells
      go_simp
      exact hK _ _ (.inr rfl) hI
    · intro L Ac Wc K hI hj hcl hsm dep hK
      have t1 : Ac.tmps.getD 1 undef = .string x := hsm 1 rfl
      show Oper.wp _ _ Ac Wc K _
      go_simp
      exact hK _ _ (.inr rfl) hI
    · intro L Ac Wc K hI hj hcl hsm dep hK
      have t50 : Ac.tmps.getD 50 undef = .int .i64 k := dep 4 rfl
      have t51 : Ac.tmps.getD 51 undef = .string x := dep 5 rfl
      show Oper.wp _ _ Ac Wc K _
      go_simp
      refine (HLf.out Wc (bnext hb4 hI)).mono ?_
      rintro e w' ⟨rfl, hb⟩
      exact hK _ _ (.inr rfl) (bnext hI hb)
    · intro L Ac Wc K hI hj hcl hsm dep hK
      have t8 : Ac.tmps.getD 8 undef = .slice da H dc := hsm 8 rfl
      show Oper.wp _ _ Ac Wc K _
      go_simp
      exact hK _ _ (.inr rfl) hI
    · intro L Ac Wc K hI hj hcl hsm dep hK
      have t47 : Ac.tmps.getD 47 undef = .int .i64 k := dep 1 rfl
      have t48 : Ac.tmps.getD 48 undef = .int .u64 (i : Int) := dep 2 rfl
      have t52 : Ac.tmps.getD 52 undef = .string lf := dep 6 rfl
      have t53 : Ac.tmps.getD 53 undef = .slice da H dc := dep 7 rfl
      show Oper.wp _ _ Ac Wc K _
      go_simp
      refine (HRs.out Wc (bnext hb4 hI)).mono ?_
      rintro e w' ⟨rfl, hb⟩
      exact hK _ _ (.inr rfl) (bnext hI hb)
    · intro L Ac Wc K hI hj hcl hsm dep hK
      have t54 : Ac.tmps.getD 54 undef = .string pk := dep 8 rfl
      show Oper.wp _ _ Ac Wc K _
      go_simp
      exact hK _ _ (.inr rfl) hI
  case fin =>
    intro L w6 hall hB
    have hb6' := bnext hb4 hB
    have h6d := HS4.out.1.next hB
    have hRt := HS4.out.2.1.below hB (World.block_lt_of_cell? W4 _ HS4.out.2.1.c0)
    have hwy : w6.heap[y]? = some (.cells #[.slice a0 H n0, .slice a1 A.length n1, .slice a2 B.length n2] 154 (0, 0)) := (hB.block y (Array.getElem?_eq_some_iff.1 HS4.out.2.2.1).1).trans HS4.out.2.2.1
    have u1 : w6.cell? ⟨y, 1, none⟩ = some (.slice a1 A.length n1) := by rw [cell_of_row w6 _ 1 _ _ (0, 0) hwy]; rfl
    have HS6 : Hid (Six w6 w.heap.size (.int .i64 1) (.int .i64 k) (.int .u64 0) (.int .u64 (size : Int)) (.slice (some ⟨b, o, none⟩) 1 sc) (.slice da D.length dc) ∧ Rt w6 (w.heap.size + 1) 0 ⟨#[]⟩ ∧ Below w.heap.size w w6) := ⟨h6d, hRt, hb6'⟩
    clear HS4 hb4 hb6' hB h6d hRt hwy k0 k1 k2 k3 k4 k5 hall
    simp only [puts]
    go_simp
    go_upto_region 12 with (fail)
    obtain ⟨ay, hay⟩ : ∃ ay, (if dc - H = A.length then ax else Option.map (fun x => x.add A.length) ax) = ay := ⟨_, rfl⟩
    have hEl := HE.out.1
    have hDl : D.length - H = A.length + B.length := by rw [← hEl, List.length_drop]
    have hAz : (A.length : Int) ≤ ((dc - H : Nat) : Int) := by have := HX.out.2.2.1; omega
    have hAz2 : (A.length : Int) ≤ ((D.length - H : Nat) : Int) := by omega
    have hc3 : ((dc - H : Nat) : Int) ≤ 9223372036854775807 := by have := HX.out.2.2.2.2.2.2.2.2; omega
    have hcl : A.length + B.length ≤ dc - H := by have := HX.out.2.2.1; omega
    obtain ⟨E, hE⟩ : ∃ E, D.drop H = E := ⟨_, rfl⟩
    obtain ⟨cx, hcx⟩ : ∃ cx, dc - H = cx := ⟨_, rfl⟩
    rw [hE] at HA hEl
    rw [hcx] at HA hay hAz hc3 hcl ⊢
    rw [hDl] at hAz2 ⊢
    have zpk : pk.size = clk k := by rw [← HE.out.2.2.2.1]; exact rs_size (clk_le k) _ _ _ HE.out.2.2.2.2.2
    have hck := clk_le k
    have HC := cat_peaks w6 ax ay db (dO + H) A.length B.length cx (cx - A.length) E pk (by omega) (HA.out w6 HS6.out.2.2).1 (fun e => (HA.out w6 HS6.out.2.2).2 e) hEl (by have := HX.out.2.2.2.2.2.2.2.1; omega) (by omega) rfl hay
    obtain ⟨P, hP⟩ : ∃ P, E.take A.length ++ pk :: E.drop A.length = P := ⟨_, rfl⟩
    obtain ⟨pn, hpn⟩ : ∃ pn, A.length + 1 + B.length = pn := ⟨_, rfl⟩
    rw [hP, hpn] at HC
    have hPk : pkP (clk k) i A.length H D x = P := by
      rw [← hP, pkP, hE, HE.out.2.2.1, HE.out.2.2.2.1]
    have hPs : ∀ s ∈ P, s.size ≤ 140737488351232 := fun s hs => by
      rw [← hP] at hs
      rcases List.mem_append.1 hs with hs | hs
      · have := HE.out.2.1 s (List.mem_of_mem_drop (by rw [hE]; exact List.mem_of_mem_take hs)); omega
      · rcases List.mem_cons.1 hs with rfl | hs
        · omega
        · have := HE.out.2.1 s (List.mem_of_mem_drop (by rw [hE]; exact List.mem_of_mem_drop hs)); omega
    have hpn8 : pn ≤ 8796093022208 := by have := HX.out.2.2.2.2.2.2.2.1; omega
    have hrq : dg (clk k) (rootT size (bagL (clk k) P)) = r := by rw [← hPk]; exact HQ.out
    have HRo : Hid (∀ W, Below w.heap.size w W → ∀ ao' b' cap', RdS W ao' b' 0 pn P → Calls Tryz.prog 81 #[.int .i64 k, .int .u64 (size : Int), .slice ao' pn cap'] W fun e w' => e = .returned (.string r) ∧ Below W.heap.size W w') := fun W hb ao' b' cap' hr' => root_any W (HT.out W hb) k size ao' b' 0 pn cap' P hr' hPs hpn8 r hrq
    have hb6 := HS6.out.2.2
    have hbp := bal (bal (Below.refl w6.heap.size w6) (.cells #[.string pk] 9)) (.cells #[.slice ax A.length cx, .slice (some ⟨w6.heap.size, 0, none⟩) 1 1, .slice ay B.length (cx - A.length)] 22)
    have hAz3 : (A.length : Int) ≤ (A.length : Int) + (B.length : Int) := by omega
    have hAz4 : A.length ≤ A.length + B.length := by omega
    clear hDl hP hpn hPk hPs hpn8 hrq hE hcx hEl zpk hck
    go_region_with (go_at_call 117; with_reducible refine HC.mono ?_; rintro e w8 ⟨ao8, b8, c8, rfl, r8, hb8⟩)
    have h68 := HS6.out.1.next hb8
    obtain ⟨t0, t1, t2, t3, t4, t5⟩ := h68.cells
    have hb68 := bnext hb6 hb8
    have hR8 := HS6.out.2.1.below hb8 (World.block_lt_of_cell? w6 _ HS6.out.2.1.c0)
    have HR8 := hide hR8
    have H68 := hide h68
    clear hR8 h68 HC hbp hb6 hAz hAz2 hc3 hcl
    go_upto_region 13 with (fail)
    refine wp_region_planI (by kernel_rfl) [68, 69, 70, 71, 72, 73, 74, 75, 76, 1009, 5] [9] [.pointer (some ⟨w.heap.size, 3, none⟩), .int .u64 (size : Int), .pointer (some ⟨w.heap.size, 1, none⟩), .int .i64 k, .pointer (some ⟨w.heap.size, 3, none⟩), .int .u64 (size : Int), .slice ao8 pn c8, .string r, .agg #[.int .u64 (size : Int), .string r], undef, .int .i64 0] (by kernel_rfl) rfl (fun j hj => by simp at hj; subst hj; rfl) (fun L W => (L 9 = false → Below w8.heap.size w8 W) ∧ (L 9 = true → W.cell? ⟨w.heap.size + 1, 0, none⟩ = some (.int .u64 (size : Int)) ∧ W.cell? ⟨w.heap.size + 1, 1, none⟩ = some (.string r) ∧ Below w.heap.size w W)) (fun W _ hb => ⟨fun _ => hb, fun h => by cases h⟩) ?step ?fin
    case step =>
      refine ⟨?_, ?_, ?_, ?_, ?_, ?_, ?_, ?_, ?_, ?_, ?_, trivial⟩
      · intro L Ac Wc K hI hj hcl hsm dep hK
        have t2 : Ac.tmps.getD 2 undef = .pointer (some ⟨w.heap.size, 0, none⟩) := hsm 2 rfl
        show Oper.wp _ _ Ac Wc K _
        go_simp
        exact hK _ _ (.inr rfl) hI
      · intro L Ac Wc K hI hj hcl hsm dep hK
        have t68 : Ac.tmps.getD 68 undef = .pointer (some ⟨w.heap.size, 3, none⟩) := dep 0 rfl
        show Oper.wp _ _ Ac Wc K _
        have hL : L 9 = false := by
          cases h : L 9 with
          | false => rfl
          | true => rw [hcl 8 1 (hcl 9 8 h rfl) rfl] at hj; cases hj
        obtain ⟨g0, g1, g2, g3, g4, g5⟩ := (H68.out.next (hI.1 hL)).cells
        go_simp
        exact hK _ _ (.inr rfl) hI
      · intro L Ac Wc K hI hj hcl hsm dep hK
        have t2 : Ac.tmps.getD 2 undef = .pointer (some ⟨w.heap.size, 0, none⟩) := hsm 2 rfl
        show Oper.wp _ _ Ac Wc K _
        go_simp
        exact hK _ _ (.inr rfl) hI
      · intro L Ac Wc K hI hj hcl hsm dep hK
        have t70 : Ac.tmps.getD 70 undef = .pointer (some ⟨w.heap.size, 1, none⟩) := dep 2 rfl
        show Oper.wp _ _ Ac Wc K _
        have hL : L 9 = false := by
          cases h : L 9 with
          | false => rfl
          | true => rw [hcl 7 3 (hcl 8 7 (hcl 9 8 h rfl) rfl) rfl] at hj; cases hj
        obtain ⟨g0, g1, g2, g3, g4, g5⟩ := (H68.out.next (hI.1 hL)).cells
        go_simp
        exact hK _ _ (.inr rfl) hI
      · intro L Ac Wc K hI hj hcl hsm dep hK
        have t2 : Ac.tmps.getD 2 undef = .pointer (some ⟨w.heap.size, 0, none⟩) := hsm 2 rfl
        show Oper.wp _ _ Ac Wc K _
        go_simp
        exact hK _ _ (.inr rfl) hI
      · intro L Ac Wc K hI hj hcl hsm dep hK
        have t72 : Ac.tmps.getD 72 undef = .pointer (some ⟨w.heap.size, 3, none⟩) := dep 4 rfl
        show Oper.wp _ _ Ac Wc K _
        have hL : L 9 = false := by
          cases h : L 9 with
          | false => rfl
          | true => rw [hcl 7 5 (hcl 8 7 (hcl 9 8 h rfl) rfl) rfl] at hj; cases hj
        obtain ⟨g0, g1, g2, g3, g4, g5⟩ := (H68.out.next (hI.1 hL)).cells
        go_simp
        exact hK _ _ (.inr rfl) hI
      · intro L Ac Wc K hI hj hcl hsm dep hK
        have t12 : Ac.tmps.getD 12 undef = .slice ao8 pn c8 := hsm 12 rfl
        show Oper.wp _ _ Ac Wc K _
        go_simp
        exact hK _ _ (.inr rfl) hI
      · intro L Ac Wc K hI hj hcl hsm dep hK
        have t71 : Ac.tmps.getD 71 undef = .int .i64 k := dep 3 rfl
        have t73 : Ac.tmps.getD 73 undef = .int .u64 (size : Int) := dep 5 rfl
        have t74 : Ac.tmps.getD 74 undef = .slice ao8 pn c8 := dep 6 rfl
        show Oper.wp _ _ Ac Wc K _
        have hL : L 9 = false := by
          cases h : L 9 with
          | false => rfl
          | true => rw [hcl 8 7 (hcl 9 8 h rfl) rfl] at hj; cases hj
        go_simp
        refine (HRo.out Wc (bnext hb68 (hI.1 hL)) _ _ _ (r8.next (hI.1 hL) (Nat.le_refl _))).mono ?_
        rintro e w' ⟨rfl, hb⟩
        exact hK _ _ (.inr rfl) ⟨fun _ => bnext (hI.1 hL) hb, fun h => by have h' : L 9 = true := h; rw [hL] at h'; cases h'⟩
      · intro L Ac Wc K hI hj hcl hsm dep hK
        have t69 : Ac.tmps.getD 69 undef = .int .u64 (size : Int) := dep 1 rfl
        have u69 : Ac.tmps[69]?.getD undef = .int .u64 (size : Int) := by rw [← Array.getD_eq_getD_getElem?]; exact t69
        have t75 : Ac.tmps.getD 75 undef = .string r := dep 7 rfl
        have u75 : Ac.tmps[75]?.getD undef = .string r := by rw [← Array.getD_eq_getD_getElem?]; exact t75
        show Oper.wp _ _ Ac Wc K _
        go_simp
        exact hK _ _ (.inr rfl) hI
      · intro L Ac Wc K hI hj hcl hsm dep hK
        have t4 : Ac.tmps.getD 4 undef = .pointer (some ⟨w.heap.size + 1, 0, none⟩) := hsm 4 rfl
        have t76 : Ac.tmps.getD 76 undef = .agg #[.int .u64 (size : Int), .string r] := dep 8 rfl
        show Oper.wp _ _ Ac Wc K _
        have hR9 := HR8.out.below (hI.1 hj) (World.block_lt_of_cell? w8 _ HR8.out.c0)
        have z0 := hR9.c0
        have z1 := hR9.c1
        have y0 := hR9.f0
        have y1 := hR9.f1
        obtain ⟨s0, s1, hch⟩ := rt_put hR9 (size : Int) r
        go_simp
        exact hK undef _ (.inl rfl) ⟨(fun h => by cases h), fun _ => ⟨s0, s1, (bnext hb68 (hI.1 hj)).trans (hch.below (by rintro b rfl; omega))⟩⟩
      · intro L Ac Wc K hI hj hcl hsm dep hK
        show Oper.wp _ _ Ac Wc K _
        go_simp
        exact hK _ _ (.inr rfl) hI
    case fin =>
      intro L wF hall hI
      obtain ⟨s0, s1, hbF⟩ := hI.2 (hall 9 (by decide))
      clear hI hall
      simp only [puts]
      go_simp
      go_wp2
      refine bodyPost_ret (v := .tuple #[.agg #[.int .u64 (size : Int), .string r], .int .i64 0]) (by simp [results, Tryz.results63, go_sem, s0, s1]) rfl ⟨rfl, hbF⟩
end Go.Proofs.YtdocjikpcbmcgaaGreatDoor
