/-
  The statements' own functions: alive. Own work.
-/
import Derived.Test.YtnbejijpmeklaaaDoorBLawA
import Derived.Test.YtnbejijpmeklaaaDoorBWalkE
import Derived.Test.YtnbejijpmeklaaaDoorPlan2
namespace Go.Proofs.YtnbejijpmeklaaaDoor
open Go.RowKit
open Cv (RdC zl cU)
attribute [local go_sem ↓] Go.wp_at_zero Go.wp_at_succ
/-- A batch of a list's own digests and items leads to its peaks. -/
theorem batch_complete (c : Nat) (L : List ByteArray) (n : Nat) (S : List Nat) (hn : n ≤ L.length) (he : Cv.errS n S = 0) : pB c (Cv.dnL 41 0 n) S (S.map fun i => L.getD i ByteArray.empty) (dgB c L n S) = pks c (L.take n) 41 := by
  obtain ⟨h40, _, _, hc⟩ := Cv.errS_ok he
  have hrow : Cv.Row n 0 (Cv.dnL 41 0 n) := by rw [← Cv.cov_zero n h40]; exact Cv.cov_row 0 n (Nat.zero_le _) h40
  have ha := chain_asc hc
  have hfr : Fr 0 n S := fun i hi => Cv.chain_mem hc i hi
  rw [pB_nd c L (Cv.dnL 41 0 n) 0 S _ _ [] hrow ha hfr rfl (by rw [List.append_nil, fB_flat hrow ha hfr, ← Cv.rest_ref n S h40 hc]; rfl), ← Cv.cov_zero n h40]
  exact (cov_peaks c L n hn h40).1
theorem dgB_size {c : Nat} (hc : c ≤ 32) (L : List ByteArray) (n : Nat) (S : List Nat) : ∀ s ∈ dgB c L n S, s.size = c := fun s hs => by
  obtain ⟨b, _, rfl⟩ := List.mem_map.1 hs
  exact nd_size hc _ _ _
theorem dgB_len (c : Nat) (L : List ByteArray) (n : Nat) (S : List Nat) : (dgB c L n S).length = (Cv.rst 0 n S).length := List.length_map _
/-- What Prove gives is well formed. -/
theorem okB_dg {k : Int} (k1 : 1 ≤ k) (k2 : k ≤ 32) (L : List ByteArray) {n : Nat} {S : List Nat} (he : Cv.errS n S = 0) : okB 2 k 0 n S (dgB (clk k) L n S) :=
  ⟨⟨rfl, ⟨k1, k2⟩, rfl⟩, he, by rw [Cv.rstS, if_pos he]; exact dgB_len _ _ _ _, fun d hd => by rw [dgB_size (clk_le k) _ _ _ d hd]; exact clk_of k1 k2⟩
/-- Prove, what it gives can be read. -/
theorem bprove_rd (w : World) (m : Nat) (k : Int) (L : List ByteArray) (hF : Frs w m k L) (hL : L.length ≤ 5000) (n : Nat) (hn : n ≤ L.length) (ao : Option Addr) (b off c : Nat) (S : List Nat) (hr : RdU w ao b off S.length S) (he : Cv.errS n S = 0) (D : List ByteArray) (hD : dgB (clk k) L n S = D) :
    Calls Tryd.prog 12 #[.pointer (some ⟨m + 1, 0, none⟩), .int .u64 (n : Int), .slice ao S.length c] w fun e w' => ∃ gs cs ad bd cd, e = .returned (.tuple #[.agg #[.int .i64 2, .int .i64 k, .int .u64 0, .int .u64 (n : Int), .slice (some ⟨gs, 0, none⟩) S.length cs, .slice ad D.length cd], .int .i64 0]) ∧ RdU w' (some ⟨gs, 0, none⟩) gs 0 S.length S ∧ S.length ≤ cs ∧ RdS w' ad bd 0 D.length D ∧ D.length ≤ cd ∧ (ad = none → cd = 0) ∧ Cv.Own w' w.heap.size (.slice (some ⟨gs, 0, none⟩) S.length cs) S ∧ OwnS w' w.heap.size (.slice ad D.length cd) D ∧ Below w.heap.size w w' :=
  (bprove_ok w m k L hF hL n hn ao b off c S hr he D hD).mono fun e w' ⟨vs, vd, e1, e2, e3, e4⟩ => by
    obtain ⟨gs, cs, rfl, _, hcs, _⟩ := ownU_form e2 (rst_num he).2
    obtain ⟨ad, bd, cd, rfl, r3, hcd, hnd⟩ := owns_rds e3 (fun s hs => by rw [← hD] at hs; rw [dgB_size (clk_le k) _ _ _ s hs]; have := clk_le k; omega)
    exact ⟨gs, cs, ad, bd, cd, e1, own_rdu (l' := []) (by rw [List.append_nil]; exact e2), hcs, r3, hcd, hnd, e2, e3, e4⟩
abbrev fa : ByteArray := ⟨#[97]⟩
abbrev fb : ByteArray := ⟨#[98]⟩
abbrev fc : ByteArray := ⟨#[99]⟩
theorem rdu_two (w : World) (x y : Nat) : RdU (w.alloc (.cells #[.int .u64 (x : Int), .int .u64 (y : Int)] 23)) (some ⟨w.heap.size, 0, none⟩) w.heap.size 0 [x, y].length [x, y] :=
  ⟨rfl, fun _ => rfl, range_new w [.int .u64 (x : Int), .int .u64 (y : Int)] 23⟩
set_option maxRecDepth 100000 in
set_option maxHeartbeats 2000000 in
theorem alive_any (w : World) (ht : Tb w) (hr : Tr w) : Calls Tryd.prog 8 #[] w fun e w' => e = .returned (.bool true) ∧ Below w.heap.size w w' := by
  have small : ∀ s ∈ [fa, fb, fc], s.size ≤ 1 := fun s hs => by
    simp only [List.mem_cons, List.mem_nil_iff, or_false] at hs
    rcases hs with rfl | rfl | rfl <;> decide
  have small2 : ∀ s ∈ [fa, fc], s.size ≤ 1 := fun s hs => by
    simp only [List.mem_cons, List.mem_nil_iff, or_false] at hs
    rcases hs with rfl | rfl <;> decide
  obtain ⟨w0, hw0⟩ : ∃ w0, (w.alloc (.cells #[.string fa, .string fb, .string fc] 9)).alloc (.cells #[.int .i64 8, .slice (some ⟨w.heap.size, 0, none⟩) 3 3, .int .u64 0, .slice none 0 0] 26) = w0 := ⟨_, rfl⟩
  have hb0 : Below w.heap.size w w0 := by rw [← hw0]; exact bal (bal (Below.refl _ _) _) _
  obtain ⟨_, hbox⟩ := two_boxes w (.cells #[.string fa, .string fb, .string fc] 9) (.cells #[.int .i64 8, .slice (some ⟨w.heap.size, 0, none⟩) 3 3, .int .u64 0, .slice none 0 0] 26)
  rw [hw0] at hbox
  have rd0 : RdS w0 (some ⟨w.heap.size, 0, none⟩) w.heap.size 0 3 [fa, fb, fc] := by
    have h0 : RdS (w.alloc (.cells #[.string fa, .string fb, .string fc] 9)) (some ⟨w.heap.size, 0, none⟩) w.heap.size 0 3 [fa, fb, fc] := ⟨rfl, fun _ => rfl, range_new w [.string fa, .string fb, .string fc] 9, fun s hs => by have := small s hs; omega⟩
    rw [← hw0]; exact h0.next (bal (Below.refl _ _) _) (Nat.le_refl _)
  have hbx1 : w0.cell? ⟨w.heap.size + 1, 1, none⟩ = some (.slice (some ⟨w.heap.size, 0, none⟩) 3 3) := (four_cells hbox).2.1
  have HFo : Hid (Calls Tryd.prog 9 #[.agg #[.int .i64 8, .slice (some ⟨w.heap.size, 0, none⟩) 3 3, .int .u64 0, .slice none 0 0]] w0 fun e w' => ∃ m, e = .returned (.pointer (some ⟨m + 1, 0, none⟩)) ∧ Frs w' m 8 [fa, fb, fc] ∧ Below w0.heap.size w0 w') :=
    cforest_ok w0 (ht.next hb0) 8 (by decide) (by decide) _ _ _ 3 3 [fa, fb, fc] rd0 (by decide) 0 none 0 0 [fa, fb, fc] (by rw [List.take_of_length_le (by decide)]; exact tk_self fun s hs => by have := small s hs; omega)
  have he3 : Cv.errS 3 [0, 2] = 0 := by decide
  obtain ⟨D, hD⟩ : ∃ D, dgB (clk 8) [fa, fb, fc] 3 [0, 2] = D := ⟨_, rfl⟩
  obtain ⟨hb1, hhb⟩ : ∃ hb1, dg (clk 8) (leafT fb) = hb1 := ⟨_, rfl⟩
  have hD0 : D = [hb1] := by
    have e1 : Cv.rst 0 3 [0, 2] = [(0, 1)] := by decide
    rw [← hD, ← hhb, dgB, e1, List.map_cons, List.map_nil]
    show [nd (clk 8) [fa, fb, fc] 0 1] = _
    rw [nd]
    rfl
  subst hD0
  have HPr : Hid (∀ W m, Frs W m 8 [fa, fb, fc] → Calls Tryd.prog 12 #[.pointer (some ⟨m + 1, 0, none⟩), .int .u64 3, .slice (some ⟨W.heap.size, 0, none⟩) 2 2] (W.alloc (.cells #[.int .u64 0, .int .u64 2] 23)) fun e w' => ∃ bs cs bd cd, e = .returned (.tuple #[.agg #[.int .i64 2, .int .i64 8, .int .u64 0, .int .u64 3, .slice (some ⟨bs, 0, none⟩) 2 cs, .slice (some ⟨bd, 0, none⟩) 1 cd], .int .i64 0]) ∧ RdU w' (some ⟨bs, 0, none⟩) bs 0 2 [0, 2] ∧ 2 ≤ cs ∧ RdS w' (some ⟨bd, 0, none⟩) bd 0 1 [hb1] ∧ 1 ≤ cd ∧ Below W.heap.size W w') := fun W m hF => by
    have hbW := bal (Below.refl W.heap.size W) (.cells #[.int .u64 ((0 : Nat) : Int), .int .u64 ((2 : Nat) : Int)] 23)
    refine (bprove_rd _ m 8 _ (hF.next hbW (Nat.le_refl _)) (by decide) 3 (by decide) _ _ 0 2 [0, 2] (rdu_two W 0 2) he3 [hb1] hD).mono fun e w' ⟨gs, cs, ad, bd, cd, h1, h2, h3, h4, h5, h6, _, _, h8⟩ => ?_
    obtain rfl := h4.ptr Nat.zero_lt_one
    exact ⟨gs, cs, bd, cd, h1, h2, h3, h4, h5, bnext hbW h8⟩
  obtain ⟨rr, hrr⟩ : ∃ rr, rtD (clk 8) [fa, fb, fc] 3 = rr := ⟨_, rfl⟩
  have hrt : dg (clk 8) (rootT 3 (bagL (clk 8) (pB (clk 8) (Cv.dnL 41 0 3) [0, 2] [fa, fc] [hb1]))) = rr := by
    have h := batch_complete (clk 8) [fa, fb, fc] 3 [0, 2] (by decide) he3
    rw [hD] at h
    rw [← hrr, rtD, ← h]
    rfl
  have hokB : okB 2 8 0 3 [0, 2] [hb1] := by rw [← hD]; exact okB_dg (by decide) (by decide) _ he3
  have HRo : Hid (∀ W bs cs bd cd, Tb W → RdU W (some ⟨bs, 0, none⟩) bs 0 2 [0, 2] → 2 ≤ cs → RdS W (some ⟨bd, 0, none⟩) bd 0 1 [hb1] → 1 ≤ cd → Calls Tryd.prog 14 #[.agg #[.int .i64 2, .int .i64 8, .int .u64 0, .int .u64 3, .slice (some ⟨bs, 0, none⟩) 2 cs, .slice (some ⟨bd, 0, none⟩) 1 cd], .slice (some ⟨W.heap.size, 0, none⟩) 2 2] (W.alloc (.cells #[.string fa, .string fc] 9)) fun e w' => e = .returned (.tuple #[.agg #[.int .u64 3, .string rr], .int .i64 0]) ∧ Below W.heap.size W w') := fun W bs cs bd cd hT hU h1 hR h2 => by
    have hbW := bal (Below.refl W.heap.size W) (.cells #[.string fa, .string fc] 9)
    have hx : RdS (W.alloc (.cells #[.string fa, .string fc] 9)) (some ⟨W.heap.size, 0, none⟩) W.heap.size 0 [fa, fc].length [fa, fc] := ⟨rfl, fun _ => rfl, range_new W [.string fa, .string fc] 9, fun s hs => by have := small2 s hs; omega⟩
    exact (broot_ok _ (hT.next hbW) 8 3 _ bs 0 cs [0, 2] [fa, fc] (hU.next hbW) (by decide) h1 (fun e => by cases e) _ bd 0 cd [hb1] (hR.next hbW (Nat.le_refl _)) (by simp) h2 (fun e => by cases e) _ _ 0 2 hx (by decide) (fun e => by cases e) hokB (fun s hs => by have := small2 s hs; omega) rr hrt).mono fun e w' h => ⟨h.1, bnext hbW h.2⟩
  have HRo : Hid (∀ (W : World) (o : Obj) (bs cs bd cd : Nat), Tb (W.alloc o) → RdU (W.alloc o) (some ⟨bs, 0, none⟩) bs 0 2 [0, 2] → 2 ≤ cs → RdS (W.alloc o) (some ⟨bd, 0, none⟩) bd 0 1 [hb1] → 1 ≤ cd → Calls Tryd.prog 14 #[.agg #[.int .i64 2, .int .i64 8, .int .u64 0, .int .u64 3, .slice (some ⟨bs, 0, none⟩) 2 cs, .slice (some ⟨bd, 0, none⟩) 1 cd], .slice (some ⟨W.heap.size + 1, 0, none⟩) 2 2] ((W.alloc o).alloc (.cells #[.string fa, .string fc] 9)) fun e w' => e = .returned (.tuple #[.agg #[.int .u64 3, .string rr], .int .i64 0]) ∧ Below (W.alloc o).heap.size (W.alloc o) w') := fun W o bs cs bd cd hT hU h1 hR h2 => by
    have e : (W.alloc o).heap.size = W.heap.size + 1 := World.size_alloc ..
    rw [← e]
    exact HRo.out (W.alloc o) bs cs bd cd hT hU h1 hR h2
  have HPl : Hid (∀ W, Tb W → RdS W (some ⟨w.heap.size, 0, none⟩) w.heap.size 0 3 [fa, fb, fc] → Calls Tryd.prog 15 #[.int .i64 8, .slice (some ⟨w.heap.size, 0, none⟩) 3 3, .int .u64 3] W fun e w' => e = .returned (.tuple #[.agg #[.int .u64 3, .string rr], .int .i64 0]) ∧ Below W.heap.size W w') := fun W hT hR => proot_ok W hT 8 (by decide) (by decide) _ _ _ 3 3 [fa, fb, fc] hR (fun s hs => by have := small s hs; omega) (by decide) (by decide) 3 (by decide) rr hrr
  have HPn : Hid (∀ W, Calls Tryd.prog 12 #[.pointer none, .int .u64 0, .slice none 0 0] W fun e w' => e = .returned (.tuple #[noP, .int .i64 70]) ∧ Below W.heap.size W w') := fun W => bprove_nil W 0 _ none 0 0 rfl
  have HT : Hid (∀ W, Below w0.heap.size w0 W → Tb W ∧ Tr W ∧ RdS W (some ⟨w.heap.size, 0, none⟩) w.heap.size 0 3 [fa, fb, fc] ∧ W.cell? ⟨w.heap.size + 1, 1, none⟩ = some (.slice (some ⟨w.heap.size, 0, none⟩) 3 3) ∧ Below w.heap.size w W) := fun W hb => ⟨ht.next (bnext hb0 hb), hr.next (bnext hb0 hb), rd0.next hb (Nat.le_refl _), (hb.cell (p := ⟨w.heap.size + 1, 1, none⟩) (World.block_lt_of_cell? w0 _ hbx1)).trans hbx1, bnext hb0 hb⟩
  have HX : Hid (dg (clk 8) (leafT fb) = hb1) := hhb
  have HB0 := hide (And.intro hw0 (four_cells hbox))
  clear ht hr rd0 hD hrr hrt hhb hokB hbox hbx1 hb0 small small2 he3 hw0
  go_enter Tryd.func8, Tryd.ntmps8
  go_upto_region 2 with (fail)
  obtain ⟨hw0, b0, b1, b2, b3⟩ := HB0.out
  rw [hw0]
  clear hw0 HB0
  go_upto_region 5 with (go_at_call 9; with_reducible refine HFo.out.mono ?_; rintro e w1 ⟨m, rfl, hF1, hbw⟩)
  have HFb : Hid (∀ W, Below w1.heap.size w1 W → Tb W ∧ Tr W ∧ RdS W (some ⟨w.heap.size, 0, none⟩) w.heap.size 0 3 [fa, fb, fc] ∧ W.cell? ⟨w.heap.size + 1, 1, none⟩ = some (.slice (some ⟨w.heap.size, 0, none⟩) 3 3) ∧ Below w.heap.size w W) := fun W hb => HT.out W (bnext hbw hb)
  have HF1 := hide hF1
  clear hF1 hbw HT HFo b0 b1 b2 b3
  go_upto_region 7 with (first
    | (go_at_call 12; with_reducible refine (HPr.out _ _ HF1.out).mono ?_; rintro e w2 ⟨bs, cs, bd, cd, rfl, hU, h1c, hR, h2c, hb2⟩)
    | (go_at_call 14; with_reducible refine (HRo.out _ _ _ _ _ _ (HFb.out _ (bal hb2 _)).1 (hU.next (bal (Below.refl _ _) _)) h1c (hR.next (bal (Below.refl _ _) _) (Nat.le_refl _)) h2c).mono ?_; rintro e w4 ⟨rfl, hb4⟩))
  have hcx := (HFb.out _ (bal (bnext (bal hb2 (.cells #[.int .i64 2, .int .i64 8, .int .u64 0, .int .u64 3, .slice (some ⟨bs, 0, none⟩) 2 cs, .slice (some ⟨bd, 0, none⟩) 1 cd] 32)) hb4) (.cells #[.int .u64 3, .string rr] 38)))
  have hcy := hcx.2.2.2.1
  have HCX := hide hcx
  clear hcx
  go_upto_region 9 with (first
    | (go_at_call 15; with_reducible refine (HPl.out _ HCX.out.1 HCX.out.2.2.1).mono ?_; rintro e w5 ⟨rfl, hb5⟩)
    | (go_at_call 12; with_reducible refine (HPn.out _).mono ?_; rintro e w6 ⟨rfl, hb6⟩))
  obtain ⟨w9, hw9⟩ : ∃ w9, w6.alloc (.cells #[.int .i64 0, .int .i64 0, .int .u64 0, .int .u64 0, .slice none 0 0, .slice none 0 0] 32) = w9 := ⟨_, rfl⟩
  have hb9 : Below w6.heap.size w6 w9 := by rw [← hw9]; exact bal (Below.refl _ _) _
  have t6 := bnext hb6 hb9
  have t5 := bnext (bal hb5 (.cells #[.int .u64 3, .string rr] 38)) t6
  have t4 := bnext (bal hb4 (.cells #[.int .u64 3, .string rr] 38)) t5
  have x2 := (six_new w2 (.int .i64 2) (.int .i64 8) (.int .u64 0) (.int .u64 3) (.slice (some ⟨bs, 0, none⟩) 2 cs) (.slice (some ⟨bd, 0, none⟩) 1 cd)).next t4
  have x4 : Rt w9 w4.heap.size 3 rr := (rt_new w4 3 rr 38).below t5 (by simp)
  have x5 : Rt w9 w5.heap.size 3 rr := (rt_new w5 3 rr 38).below t6 (by simp)
  have x3 := hR.next (bnext (bal (Below.refl _ _) _) t4) (Nat.le_refl _)
  have hbF := (HFb.out w9 (bnext (bal hb2 _) t4))
  have HC : Hid (∀ W, Below w9.heap.size w9 W → W.cell? ⟨w2.heap.size, 5, none⟩ = some (.slice (some ⟨bd, 0, none⟩) 1 cd) ∧ W.cell? ⟨bd, 0, none⟩ = some (.string hb1) ∧ Rt W w4.heap.size 3 rr ∧ Rt W w5.heap.size 3 rr) := fun W hW => by
    have c := (x3.next hW (Nat.le_refl _)).at (k := 0) (by decide)
    exact ⟨(x2.next hW).cells.2.2.2.2.2, c, x4.below hW (World.block_lt_of_cell? w9 _ x4.c0), x5.below hW (World.block_lt_of_cell? w9 _ x5.c0)⟩
  have HHb : Hid (∀ W, Below w9.heap.size w9 W → Calls Tryd.prog 23 #[.int .i64 8, .string ⟨#[98]⟩] W fun e w' => e = .returned (.string hb1) ∧ Below W.heap.size W w') := fun W hW => refleaf_any W (hbF.2.1.next hW) 8 _ (by decide) hb1 HX.out
  have HBF := hide hbF.2.2.2.2
  rw [hw9]
  generalize w2.heap.size = q2 at *
  generalize w4.heap.size = q4 at *
  generalize w5.heap.size = q5 at *
  clear hw9 t4 t5 t6 x2 x4 x5 x3 hbF hb2 hb4 hb5 hb6 hb9 hU hR HPr HRo HPl HPn HFb HX hcy HCX HF1
  refine wp_region_planI (by kernel_rfl) [39, 40, 41, 42, 43, 44, 45, 46, 47, 48, 49, 50, 51, 52, 53, 54, 55, 56, 57, 58, 59, 60, 61, 62, 63, 64, 65, 66, 67, 0] [] [.int .i64 0, .bool true, .bool true, .int .i64 0, .bool true, .bool true, .bool true, .pointer (some ⟨q2, 5, none⟩), .slice (some ⟨bd, 0, none⟩) 1 cd, .int .i64 1, .bool true, .bool true, .bool true, .pointer (some ⟨q2, 5, none⟩), .slice (some ⟨bd, 0, none⟩) 1 cd, .pointer (some ⟨bd, 0, none⟩), .string hb1, .string hb1, .bool true, .bool true, .bool true, .agg #[.int .u64 3, .string rr], .agg #[.int .u64 3, .string rr], .bool true, .bool true, .bool true, .int .i64 70, .bool true, .bool true, .bool true] (by kernel_rfl) rfl (fun j hj => by cases hj) (fun _ W => Below w9.heap.size w9 W) (fun W _ hb => hb) ?step ?fin
  case step =>
    refine ⟨?_, ?_, ?_, ?_, ?_, ?_, ?_, ?_, ?_, ?_, ?_, ?_, ?_, ?_, ?_, ?_, ?_, ?_, ?_, ?_, ?_, ?_, ?_, ?_, ?_, ?_, ?_, ?_, ?_, ?_, trivial⟩
    · intro L Ac Wc K hI hj hcl hsm dep hK
      have t4 : Ac.tmps.getD 4 undef = .int .i64 0 := hsm 4 rfl
      show Oper.wp _ _ Ac Wc K _
      go_simp
      exact hK _ _ (.inr rfl) hI
    · intro L Ac Wc K hI hj hcl hsm dep hK
      have t39 : Ac.tmps.getD 39 undef = .int .i64 0 := dep 0 rfl
      show Oper.wp _ _ Ac Wc K _
      go_simp
      exact hK _ _ (.inr rfl) hI
    · intro L Ac Wc K hI hj hcl hsm dep hK
      have t40 : Ac.tmps.getD 40 undef = .bool true := dep 1 rfl
      show Oper.wp _ _ Ac Wc K _
      go_simp
      exact hK _ _ (.inr rfl) hI
    · intro L Ac Wc K hI hj hcl hsm dep hK
      have t6 : Ac.tmps.getD 6 undef = .int .i64 0 := hsm 6 rfl
      refine ⟨true, (show Ac.tmps.getD 41 undef = .bool true from dep 2 rfl), ?_⟩
      rw [if_pos rfl]
      go_simp
      exact hK _ _ (.inr rfl) hI
    · intro L Ac Wc K hI hj hcl hsm dep hK
      have t42 : Ac.tmps.getD 42 undef = .int .i64 0 := dep 3 rfl
      refine ⟨true, (show Ac.tmps.getD 41 undef = .bool true from dep 2 rfl), ?_⟩
      rw [if_pos rfl]
      go_simp
      exact hK _ _ (.inr rfl) hI
    · intro L Ac Wc K hI hj hcl hsm dep hK
      have t41 : Ac.tmps.getD 41 undef = .bool true := dep 2 rfl
      have t43 : Ac.tmps.getD 43 undef = .bool true := dep 4 rfl
      show Oper.wp _ _ Ac Wc K _
      go_simp
      exact hK _ _ (.inr rfl) hI
    · intro L Ac Wc K hI hj hcl hsm dep hK
      have t44 : Ac.tmps.getD 44 undef = .bool true := dep 5 rfl
      show Oper.wp _ _ Ac Wc K _
      go_simp
      exact hK _ _ (.inr rfl) hI
    · intro L Ac Wc K hI hj hcl hsm dep hK
      have t3 : Ac.tmps.getD 3 undef = .pointer (some ⟨q2, 0, none⟩) := hsm 3 rfl
      refine ⟨true, (show Ac.tmps.getD 45 undef = .bool true from dep 6 rfl), ?_⟩
      rw [if_pos rfl]
      go_simp
      exact hK _ _ (.inr rfl) hI
    · intro L Ac Wc K hI hj hcl hsm dep hK
      have t46 : Ac.tmps.getD 46 undef = .pointer (some ⟨q2, 5, none⟩) := dep 7 rfl
      refine ⟨true, (show Ac.tmps.getD 45 undef = .bool true from dep 6 rfl), ?_⟩
      rw [if_pos rfl]
      obtain ⟨c2, c4, c5, c6⟩ := HC.out Wc hI
      go_simp
      exact hK _ _ (.inr rfl) hI
    · intro L Ac Wc K hI hj hcl hsm dep hK
      have t47 : Ac.tmps.getD 47 undef = .slice (some ⟨bd, 0, none⟩) 1 cd := dep 8 rfl
      refine ⟨true, (show Ac.tmps.getD 45 undef = .bool true from dep 6 rfl), ?_⟩
      rw [if_pos rfl]
      go_simp
      exact hK _ _ (.inr rfl) hI
    · intro L Ac Wc K hI hj hcl hsm dep hK
      have t48 : Ac.tmps.getD 48 undef = .int .i64 1 := dep 9 rfl
      refine ⟨true, (show Ac.tmps.getD 45 undef = .bool true from dep 6 rfl), ?_⟩
      rw [if_pos rfl]
      go_simp
      exact hK _ _ (.inr rfl) hI
    · intro L Ac Wc K hI hj hcl hsm dep hK
      have t45 : Ac.tmps.getD 45 undef = .bool true := dep 6 rfl
      have t49 : Ac.tmps.getD 49 undef = .bool true := dep 10 rfl
      show Oper.wp _ _ Ac Wc K _
      go_simp
      exact hK _ _ (.inr rfl) hI
    · intro L Ac Wc K hI hj hcl hsm dep hK
      have t50 : Ac.tmps.getD 50 undef = .bool true := dep 11 rfl
      show Oper.wp _ _ Ac Wc K _
      go_simp
      exact hK _ _ (.inr rfl) hI
    · intro L Ac Wc K hI hj hcl hsm dep hK
      have t3 : Ac.tmps.getD 3 undef = .pointer (some ⟨q2, 0, none⟩) := hsm 3 rfl
      refine ⟨true, (show Ac.tmps.getD 51 undef = .bool true from dep 12 rfl), ?_⟩
      rw [if_pos rfl]
      go_simp
      exact hK _ _ (.inr rfl) hI
    · intro L Ac Wc K hI hj hcl hsm dep hK
      have t52 : Ac.tmps.getD 52 undef = .pointer (some ⟨q2, 5, none⟩) := dep 13 rfl
      refine ⟨true, (show Ac.tmps.getD 51 undef = .bool true from dep 12 rfl), ?_⟩
      rw [if_pos rfl]
      obtain ⟨c2, c4, c5, c6⟩ := HC.out Wc hI
      go_simp
      exact hK _ _ (.inr rfl) hI
    · intro L Ac Wc K hI hj hcl hsm dep hK
      have t53 : Ac.tmps.getD 53 undef = .slice (some ⟨bd, 0, none⟩) 1 cd := dep 14 rfl
      refine ⟨true, (show Ac.tmps.getD 51 undef = .bool true from dep 12 rfl), ?_⟩
      rw [if_pos rfl]
      go_simp
      exact hK _ _ (.inr rfl) hI
    · intro L Ac Wc K hI hj hcl hsm dep hK
      have t54 : Ac.tmps.getD 54 undef = .pointer (some ⟨bd, 0, none⟩) := dep 15 rfl
      refine ⟨true, (show Ac.tmps.getD 51 undef = .bool true from dep 12 rfl), ?_⟩
      rw [if_pos rfl]
      obtain ⟨c2, c4, c5, c6⟩ := HC.out Wc hI
      go_simp
      exact hK _ _ (.inr rfl) hI
    · intro L Ac Wc K hI hj hcl hsm dep hK
      refine ⟨true, (show Ac.tmps.getD 51 undef = .bool true from dep 12 rfl), ?_⟩
      rw [if_pos rfl]
      go_simp
      refine (HHb.out Wc hI).mono ?_
      rintro e w' ⟨rfl, hb'⟩
      exact hK _ _ (.inr rfl) (bnext hI hb')
    · intro L Ac Wc K hI hj hcl hsm dep hK
      have t55 : Ac.tmps.getD 55 undef = .string hb1 := dep 16 rfl
      have t56 : Ac.tmps.getD 56 undef = .string hb1 := dep 17 rfl
      refine ⟨true, (show Ac.tmps.getD 51 undef = .bool true from dep 12 rfl), ?_⟩
      rw [if_pos rfl]
      go_simp
      exact hK _ _ (.inr rfl) hI
    · intro L Ac Wc K hI hj hcl hsm dep hK
      have t51 : Ac.tmps.getD 51 undef = .bool true := dep 12 rfl
      have t57 : Ac.tmps.getD 57 undef = .bool true := dep 18 rfl
      show Oper.wp _ _ Ac Wc K _
      go_simp
      exact hK _ _ (.inr rfl) hI
    · intro L Ac Wc K hI hj hcl hsm dep hK
      have t58 : Ac.tmps.getD 58 undef = .bool true := dep 19 rfl
      show Oper.wp _ _ Ac Wc K _
      go_simp
      exact hK _ _ (.inr rfl) hI
    · intro L Ac Wc K hI hj hcl hsm dep hK
      have t5 : Ac.tmps.getD 5 undef = .pointer (some ⟨q4, 0, none⟩) := hsm 5 rfl
      refine ⟨true, (show Ac.tmps.getD 59 undef = .bool true from dep 20 rfl), ?_⟩
      rw [if_pos rfl]
      obtain ⟨c2, c4, c5, c6⟩ := HC.out Wc hI
      have r4 := c5.c0
      have r5 := c5.c1
      go_simp
      exact hK _ _ (.inr rfl) hI
    · intro L Ac Wc K hI hj hcl hsm dep hK
      have t7 : Ac.tmps.getD 7 undef = .pointer (some ⟨q5, 0, none⟩) := hsm 7 rfl
      refine ⟨true, (show Ac.tmps.getD 59 undef = .bool true from dep 20 rfl), ?_⟩
      rw [if_pos rfl]
      obtain ⟨c2, c4, c5, c6⟩ := HC.out Wc hI
      have r4 := c6.c0
      have r5 := c6.c1
      go_simp
      exact hK _ _ (.inr rfl) hI
    · intro L Ac Wc K hI hj hcl hsm dep hK
      have t60 : Ac.tmps.getD 60 undef = .agg #[.int .u64 3, .string rr] := dep 21 rfl
      have t61 : Ac.tmps.getD 61 undef = .agg #[.int .u64 3, .string rr] := dep 22 rfl
      refine ⟨true, (show Ac.tmps.getD 59 undef = .bool true from dep 20 rfl), ?_⟩
      rw [if_pos rfl]
      go_simp
      exact hK _ _ (.inr rfl) hI
    · intro L Ac Wc K hI hj hcl hsm dep hK
      have t59 : Ac.tmps.getD 59 undef = .bool true := dep 20 rfl
      have t62 : Ac.tmps.getD 62 undef = .bool true := dep 23 rfl
      show Oper.wp _ _ Ac Wc K _
      go_simp
      exact hK _ _ (.inr rfl) hI
    · intro L Ac Wc K hI hj hcl hsm dep hK
      have t63 : Ac.tmps.getD 63 undef = .bool true := dep 24 rfl
      show Oper.wp _ _ Ac Wc K _
      go_simp
      exact hK _ _ (.inr rfl) hI
    · intro L Ac Wc K hI hj hcl hsm dep hK
      have t10 : Ac.tmps.getD 10 undef = .int .i64 70 := hsm 10 rfl
      refine ⟨true, (show Ac.tmps.getD 64 undef = .bool true from dep 25 rfl), ?_⟩
      rw [if_pos rfl]
      go_simp
      exact hK _ _ (.inr rfl) hI
    · intro L Ac Wc K hI hj hcl hsm dep hK
      have t65 : Ac.tmps.getD 65 undef = .int .i64 70 := dep 26 rfl
      refine ⟨true, (show Ac.tmps.getD 64 undef = .bool true from dep 25 rfl), ?_⟩
      rw [if_pos rfl]
      go_simp
      exact hK _ _ (.inr rfl) hI
    · intro L Ac Wc K hI hj hcl hsm dep hK
      have t64 : Ac.tmps.getD 64 undef = .bool true := dep 25 rfl
      have t66 : Ac.tmps.getD 66 undef = .bool true := dep 27 rfl
      show Oper.wp _ _ Ac Wc K _
      go_simp
      exact hK _ _ (.inr rfl) hI
    · intro L Ac Wc K hI hj hcl hsm dep hK
      have t67 : Ac.tmps.getD 67 undef = .bool true := dep 28 rfl
      show Oper.wp _ _ Ac Wc K _
      go_simp
      exact hK _ _ (.inr rfl) hI
  case fin =>
    intro L w10 hall hI
    clear hall
    simp only [puts]
    go_simp
    go_wp2
    go_ret
    exact ⟨rfl, bnext HBF.out hI⟩
end Go.Proofs.YtnbejijpmeklaaaDoor
