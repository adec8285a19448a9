/-
  Own work: HRefA, LPath.
-/
import Derived.Test.YtdocjikpcbmcgaaGreatDoorQs25
import Derived.Test.YtdocjikpcbmcgaaGreatDoorQs28
namespace Go.Proofs.YtdocjikpcbmcgaaGreatDoor
open Go.RowKit
attribute [local go_sem ↓] Go.wp_at_zero Go.wp_at_succ
structure Tr (w : World) : Prop where
  rr : w.rangeAt 1 0 (cW RS)
  iv : w.rangeAt 0 0 (cW IV)
theorem Tr.next {w W : World} (h : Tr w) (hb : Below w.heap.size w W) : Tr W :=
  ⟨range_below hb (range_lt h.rr (cW_ne (by rw [RS_len]; decide))) h.rr, range_below hb (range_lt h.iv (cW_ne (by decide))) h.iv⟩
theorem ref_one (w : World) (ht : Tr w) (t : ByteArray) (hs : t.size < 1152921504606846976) (r : ByteArray) (hr : shaS RS (tB t) = r) :
    Calls Tryz.prog 31 #[.slice (some ⟨w.heap.size, 0, none⟩) 1 1] (w.alloc (.cells #[.string t] 9)) fun e w' => e = .returned (.string r) ∧ Below w.heap.size w w' := by
  subst hr
  have e : flat [t] = tB t := by simp [flat]
  refine (refOf_any _ (some ⟨w.heap.size, 0, none⟩) w.heap.size 0 1 1 [t] rfl (fun _ => rfl) (range_new w [.string t] 9) (by decide) RS RS_len (World.rangeAt_alloc ht.rr _) (World.rangeAt_alloc ht.iv _) (by rw [e, tB_len]; exact hs)).mono fun e' w' ⟨he, hb'⟩ => ⟨?_, ?_⟩
  · rw [he, e]
  · exact ((Below.refl _ _).alloc (Nat.le_refl _) _).trans (hb'.mono (by simp))
set_option maxRecDepth 100000 in
theorem refof_any (w : World) (ht : Tr w) (k : Int) (t : ByteArray) (hs : t.size < 1152921504606846976) (r : ByteArray) (hr : dg (clk k) t = r) :
    Calls Tryz.prog 51 #[.int .i64 k, .string t] w fun e w' => e = .returned (.string r) ∧ Below w.heap.size w w' := by
  subst hr
  have HS := ref_one w ht t hs _ rfl
  unfold dg
  have hz := shaS_size RS (tB t)
  generalize shaS RS (tB t) = z at *
  clear ht hs
  unfold clk
  go_enter Tryz.func51, Tryz.ntmps51
  by_cases h1 : k < 1
  · rw [if_pos h1]
    go_wp2_with (go_at_call 31; with_reducible refine HS.mono ?_; rintro e w1 ⟨rfl, hb1⟩)
    go_ret
    exact ⟨rfl, hb1⟩
  · by_cases h2 : 32 < k
    · rw [if_neg h1, if_pos h2]
      go_wp2_with (go_at_call 31; with_reducible refine HS.mono ?_; rintro e w1 ⟨rfl, hb1⟩)
      go_ret
      exact ⟨rfl, hb1⟩
    · rw [if_neg h1, if_neg h2]
      obtain ⟨c, rfl⟩ : ∃ c : Nat, k = (c : Int) := ⟨k.toNat, by omega⟩
      have h3 : (0 : Int) ≤ (c : Int) := by omega
      have h4 : (c : Int) ≤ 32 := by omega
      rw [Int.toNat_natCast]
      go_wp2_with (go_at_call 31; with_reducible refine HS.mono ?_; rintro e w1 ⟨rfl, hb1⟩)
      go_ret
      exact ⟨rfl, hb1⟩
theorem refcheck_any (w : World) (k : Int) : Calls Tryz.prog 20 #[.int .i64 k] w fun e w' => e = .returned (.int .i64 (chk k)) ∧ w' = w := by
  unfold chk
  go_enter Tryz.func20, Tryz.ntmps20
  by_cases h1 : k < 1
  · rw [if_pos (.inl h1)]
    go_wp2
    go_ret
    simp
  · by_cases h2 : 32 < k
    · rw [if_pos (.inr h2)]
      go_wp2
      go_ret
      simp
    · rw [if_neg (by omega)]
      go_wp2
      go_ret
      simp
set_option maxRecDepth 100000 in
theorem reftext_any (w : World) (f : Int) (a b : ByteArray) (hs : a.size < 2305843009213693952) (hs2 : b.size < 2305843009213693952) (r : ByteArray) (hr : (strB [f] ++ a) ++ b = r) :
    Calls Tryz.prog 100 #[.int .u8 f, .string a, .string b] w fun e w' => e = .returned (.string r) ∧ Below w.heap.size w w' := by
  subst hr
  have cv := conv_one w f
  have hz := one_size f
  generalize strB [f] = z at *
  have hns : ¬ (9223372036854775807 < 1 + a.size) := by omega
  have hns2 : ¬ (9223372036854775807 < 1 + a.size + b.size) := by omega
  go_enter Tryz.func100, Tryz.ntmps100
  go_wp2
  go_ret
  exact ⟨rfl, bal (Below.refl _ _) _⟩
theorem app_nil (a : ByteArray) : a ++ (⟨#[]⟩ : ByteArray) = a := by
  have := ByteArray.append_empty (b := a)
  exact this
set_option maxRecDepth 100000 in
theorem refleaft_any (w : World) (s : ByteArray) (hs : s.size < 2305843009213693952) :
    Calls Tryz.prog 93 #[.string s] w fun e w' => e = .returned (.string (leafT s)) ∧ Below w.heap.size w w' := by
  have HT := reftext_any w 0 s ⟨#[]⟩ hs (by decide) (leafT s) (by rw [app_nil]; rfl)
  generalize leafT s = r at *
  go_enter Tryz.func93, Tryz.ntmps93
  go_wp2_with (go_at_call 100; with_reducible refine HT.mono ?_; rintro e w1 ⟨rfl, hb1⟩)
  go_ret
  exact ⟨rfl, hb1⟩
set_option maxRecDepth 100000 in
theorem refnodet_any (w : World) (a b : ByteArray) (hs : a.size < 2305843009213693952) (hs2 : b.size < 2305843009213693952) :
    Calls Tryz.prog 91 #[.string a, .string b] w fun e w' => e = .returned (.string (nodeT a b)) ∧ Below w.heap.size w w' := by
  have HT := reftext_any w 1 a b hs hs2 (nodeT a b) rfl
  generalize nodeT a b = r at *
  go_enter Tryz.func91, Tryz.ntmps91
  go_wp2_with (go_at_call 100; with_reducible refine HT.mono ?_; rintro e w1 ⟨rfl, hb1⟩)
  go_ret
  exact ⟨rfl, hb1⟩
set_option maxRecDepth 100000 in
theorem refbagt_any (w : World) (a b : ByteArray) (hs : a.size < 2305843009213693952) (hs2 : b.size < 2305843009213693952) (r : ByteArray) (hr : bagT a b = r) :
    Calls Tryz.prog 88 #[.string a, .string b] w fun e w' => e = .returned (.string r) ∧ Below w.heap.size w w' := by
  have HT := reftext_any w 2 a b hs hs2 r hr
  go_enter Tryz.func88, Tryz.ntmps88
  go_wp2_with (go_at_call 100; with_reducible refine HT.mono ?_; rintro e w1 ⟨rfl, hb1⟩)
  go_ret
  exact ⟨rfl, hb1⟩
set_option maxRecDepth 100000 in
theorem refleaf_any (w : World) (ht : Tr w) (k : Int) (s : ByteArray) (hs : s.size < 140737488355328) (r : ByteArray) (hr : dg (clk k) (leafT s) = r) :
    Calls Tryz.prog 98 #[.int .i64 k, .string s] w fun e w' => e = .returned (.string r) ∧ Below w.heap.size w w' := by
  have HL := refleaft_any w s (by omega)
  have HO : Hid (∀ W, Below w.heap.size w W → Calls Tryz.prog 51 #[.int .i64 k, .string (leafT s)] W fun e w' => e = .returned (.string r) ∧ Below W.heap.size W w') := fun W hb => refof_any W (ht.next hb) k _ (by rw [leafT_size]; omega) r hr
  clear hr ht hs
  generalize leafT s = t at *
  go_enter Tryz.func98, Tryz.ntmps98
  go_wp2_with (first
    | (go_at_call 93; with_reducible refine HL.mono ?_; rintro e w1 ⟨rfl, hb1⟩)
    | (go_at_call 51; with_reducible refine (HO.out _ hb1).mono ?_; rintro e w2 ⟨rfl, hb2⟩))
  go_ret
  exact ⟨rfl, bnext hb1 hb2⟩
set_option maxRecDepth 100000 in
theorem refnode_any (w : World) (ht : Tr w) (k : Int) (a b : ByteArray) (hs : a.size < 140737488355328) (hs2 : b.size < 140737488355328) (r : ByteArray) (hr : dg (clk k) (nodeT a b) = r) :
    Calls Tryz.prog 101 #[.int .i64 k, .string a, .string b] w fun e w' => e = .returned (.string r) ∧ Below w.heap.size w w' := by
  have HL := refnodet_any w a b (by omega) (by omega)
  have HO : Hid (∀ W, Below w.heap.size w W → Calls Tryz.prog 51 #[.int .i64 k, .string (nodeT a b)] W fun e w' => e = .returned (.string r) ∧ Below W.heap.size W w') := fun W hb => refof_any W (ht.next hb) k _ (by rw [nodeT_size]; omega) r hr
  clear hr ht hs hs2
  generalize nodeT a b = t at *
  go_enter Tryz.func101, Tryz.ntmps101
  go_wp2_with (first
    | (go_at_call 91; with_reducible refine HL.mono ?_; rintro e w1 ⟨rfl, hb1⟩)
    | (go_at_call 51; with_reducible refine (HO.out _ hb1).mono ?_; rintro e w2 ⟨rfl, hb2⟩))
  go_ret
  exact ⟨rfl, bnext hb1 hb2⟩
end Go.Proofs.YtdocjikpcbmcgaaGreatDoor
namespace Go.Proofs.YtdocjikpcbmcgaaGreatDoor
open Go.RowKit
attribute [local go_sem ↓] Go.wp_at_zero Go.wp_at_succ
structure LF (w0 W : World) (q q2 : Nat) (pv : Value) (xb xo xn xc : Nat) (x : ByteArray) (n : Nat) (d : ByteArray) (er : Int) (L : Nat → Bool) (a : Act) (w : World) : Prop where
  sz : a.tmps.size = 21
  df : a.defers = []
  i1 : a.tmps.getD 1 undef = .slice (some ⟨xb, xo, none⟩) xn xc
  i2 : a.tmps.getD 2 undef = .pointer (some ⟨q2, 0, none⟩)
  i4 : a.tmps.getD 4 undef = .pointer (some ⟨q, 0, none⟩)
  b1 : L 7 = false → Below W.heap.size W w
  b2 : Below w0.heap.size w0 w
  a0 : L 0 = true → a.tmps.getD 9 undef = pv
  a1 : L 1 = true → a.tmps.getD 10 undef = .slice (some ⟨xb, xo, none⟩) xn xc
  a2 : L 2 = true → a.tmps.getD 11 undef = .pointer (some ⟨xb, xo, none⟩)
  a3 : L 3 = true → a.tmps.getD 12 undef = .string x
  a4 : L 4 = true → a.tmps.getD 13 undef = .tuple #[.agg #[.int .u64 (n : Int), .string d], .int .i64 er]
  a5 : L 5 = true → a.tmps.getD 14 undef = .agg #[.int .u64 (n : Int), .string d]
  a6 : L 6 = true → a.tmps.getD 15 undef = .int .i64 er
  a7 : L 7 = true → Rh w q n d
  a8 : L 8 = true → a.tmps.getD 5 undef = .int .i64 er
section
variable {w0 W : World} {q q2 : Nat} {pv : Value} {xb xo xn xc : Nat} {x : ByteArray} {n : Nat} {d : ByteArray} {er : Int} {Q : Exit → Act → World → Prop} {ops : List Oper} {ty : TypeId} {ps : String} {af : Array Edge}
set_option maxRecDepth 100000 in
theorem lf_0 (hds : dep ops 7 0 = true) (h6 : ∀ w, Below W.heap.size W w → ∃ v0 v1 v2 v3 v4 v5, pv = .agg #[v0, v1, v2, v3, v4, v5] ∧ Six w q2 v0 v1 v2 v3 v4 v5) : StepJ Tryz.prog Q ops (LF w0 W q q2 pv xb xo xn xc x n d er) 0 { dst := some 9, op := Op.load 55 (Operand.tmp 2), type := ty, pos := ps, after := af, guard := none } := by
  intro L a w K hI hj hcl hdep hK
  have hs : 9 < a.tmps.size := by rw [hI.sz]; decide
  have h8 := not_yet hcl hj hds
  have hB := hI.b1 h8
  have t2 := hI.i2
  obtain ⟨v0, v1, v2, v3, v4, v5, rfl, hx⟩ := h6 w hB
  obtain ⟨m0, m1, m2, m3, m4, m5⟩ := hx.cells
  show Oper.wp _ _ a w K _
  go_simp
  exact hK _ _ { sz := (by simp [Act.put, hI.sz]), df := hI.df, i1 := (by rw [put_at a 9 1 _ hs, if_neg (by decide)]; exact hI.i1), i2 := (by rw [put_at a 9 2 _ hs, if_neg (by decide)]; exact hI.i2), i4 := (by rw [put_at a 9 4 _ hs, if_neg (by decide)]; exact hI.i4), b1 := (fun h => hI.b1 h), b2 := (hI.b2), a0 := (fun _ => by rw [put_at a 9 9 _ hs, if_pos rfl]), a1 := (fun h => by rw [put_at a 9 10 _ hs, if_neg (by decide)]; exact hI.a1 h), a2 := (fun h => by rw [put_at a 9 11 _ hs, if_neg (by decide)]; exact hI.a2 h), a3 := (fun h => by rw [put_at a 9 12 _ hs, if_neg (by decide)]; exact hI.a3 h), a4 := (fun h => by rw [put_at a 9 13 _ hs, if_neg (by decide)]; exact hI.a4 h), a5 := (fun h => by rw [put_at a 9 14 _ hs, if_neg (by decide)]; exact hI.a5 h), a6 := (fun h => by rw [put_at a 9 15 _ hs, if_neg (by decide)]; exact hI.a6 h), a7 := (fun h => hI.a7 h), a8 := (fun h => by rw [put_at a 9 5 _ hs, if_neg (by decide)]; exact hI.a8 h) }
set_option maxRecDepth 100000 in
theorem lf_1  : StepJ Tryz.prog Q ops (LF w0 W q q2 pv xb xo xn xc x n d er) 1 { dst := some 10, op := Op.move (Operand.tmp 1), type := ty, pos := ps, after := af, guard := none } := by
  intro L a w K hI hj hcl hdep hK
  have hs : 10 < a.tmps.size := by rw [hI.sz]; decide
  have t1 := hI.i1
  show Oper.wp _ _ a w K _
  go_simp
  exact hK _ _ { sz := (by simp [Act.put, hI.sz]), df := hI.df, i1 := (by rw [put_at a 10 1 _ hs, if_neg (by decide)]; exact hI.i1), i2 := (by rw [put_at a 10 2 _ hs, if_neg (by decide)]; exact hI.i2), i4 := (by rw [put_at a 10 4 _ hs, if_neg (by decide)]; exact hI.i4), b1 := (fun h => hI.b1 h), b2 := (hI.b2), a0 := (fun h => by rw [put_at a 10 9 _ hs, if_neg (by decide)]; exact hI.a0 h), a1 := (fun _ => by rw [put_at a 10 10 _ hs, if_pos rfl]), a2 := (fun h => by rw [put_at a 10 11 _ hs, if_neg (by decide)]; exact hI.a2 h), a3 := (fun h => by rw [put_at a 10 12 _ hs, if_neg (by decide)]; exact hI.a3 h), a4 := (fun h => by rw [put_at a 10 13 _ hs, if_neg (by decide)]; exact hI.a4 h), a5 := (fun h => by rw [put_at a 10 14 _ hs, if_neg (by decide)]; exact hI.a5 h), a6 := (fun h => by rw [put_at a 10 15 _ hs, if_neg (by decide)]; exact hI.a6 h), a7 := (fun h => hI.a7 h), a8 := (fun h => by rw [put_at a 10 5 _ hs, if_neg (by decide)]; exact hI.a8 h) }
set_option maxRecDepth 100000 in
theorem lf_2 (d1 : (af.toList.any fun e => e.on == 1 && Region.binds .any e) = true) (hn : 0 < xn) : StepJ Tryz.prog Q ops (LF w0 W q q2 pv xb xo xn xc x n d er) 2 { dst := some 11, op := Op.indexAddr 22 (Operand.tmp 10) (Operand.const (.int .i64 0)), type := ty, pos := ps, after := af, guard := none } := by
  intro L a w K hI hj hcl hdep hK
  have hs : 11 < a.tmps.size := by rw [hI.sz]; decide
  have t10 := hI.a1 (hdep 1 d1)
  have hz : (0 : Int) < (xn : Int) := by omega
  show Oper.wp _ _ a w K _
  go_simp
  exact hK _ _ { sz := (by simp [Act.put, hI.sz]), df := hI.df, i1 := (by rw [put_at a 11 1 _ hs, if_neg (by decide)]; exact hI.i1), i2 := (by rw [put_at a 11 2 _ hs, if_neg (by decide)]; exact hI.i2), i4 := (by rw [put_at a 11 4 _ hs, if_neg (by decide)]; exact hI.i4), b1 := (fun h => hI.b1 h), b2 := (hI.b2), a0 := (fun h => by rw [put_at a 11 9 _ hs, if_neg (by decide)]; exact hI.a0 h), a1 := (fun h => by rw [put_at a 11 10 _ hs, if_neg (by decide)]; exact hI.a1 h), a2 := (fun _ => by rw [put_at a 11 11 _ hs, if_pos rfl]), a3 := (fun h => by rw [put_at a 11 12 _ hs, if_neg (by decide)]; exact hI.a3 h), a4 := (fun h => by rw [put_at a 11 13 _ hs, if_neg (by decide)]; exact hI.a4 h), a5 := (fun h => by rw [put_at a 11 14 _ hs, if_neg (by decide)]; exact hI.a5 h), a6 := (fun h => by rw [put_at a 11 15 _ hs, if_neg (by decide)]; exact hI.a6 h), a7 := (fun h => hI.a7 h), a8 := (fun h => by rw [put_at a 11 5 _ hs, if_neg (by decide)]; exact hI.a8 h) }
set_option maxRecDepth 100000 in
theorem lf_3 (d2 : (af.toList.any fun e => e.on == 2 && Region.binds .any e) = true) (hds : dep ops 7 3 = true) (hc : ∀ w, Below W.heap.size W w → w.cell? ⟨xb, xo, none⟩ = some (.string x)) : StepJ Tryz.prog Q ops (LF w0 W q q2 pv xb xo xn xc x n d er) 3 { dst := some 12, op := Op.load 9 (Operand.tmp 11), type := ty, pos := ps, after := af, guard := none } := by
  intro L a w K hI hj hcl hdep hK
  have hs : 12 < a.tmps.size := by rw [hI.sz]; decide
  have h8 := not_yet hcl hj hds
  have hB := hI.b1 h8
  have t11 := hI.a2 (hdep 2 d2)
  have hcx := hc w hB
  show Oper.wp _ _ a w K _
  go_simp
  exact hK _ _ { sz := (by simp [Act.put, hI.sz]), df := hI.df, i1 := (by rw [put_at a 12 1 _ hs, if_neg (by decide)]; exact hI.i1), i2 := (by rw [put_at a 12 2 _ hs, if_neg (by decide)]; exact hI.i2), i4 := (by rw [put_at a 12 4 _ hs, if_neg (by decide)]; exact hI.i4), b1 := (fun h => hI.b1 h), b2 := (hI.b2), a0 := (fun h => by rw [put_at a 12 9 _ hs, if_neg (by decide)]; exact hI.a0 h), a1 := (fun h => by rw [put_at a 12 10 _ hs, if_neg (by decide)]; exact hI.a1 h), a2 := (fun h => by rw [put_at a 12 11 _ hs, if_neg (by decide)]; exact hI.a2 h), a3 := (fun _ => by rw [put_at a 12 12 _ hs, if_pos rfl]), a4 := (fun h => by rw [put_at a 12 13 _ hs, if_neg (by decide)]; exact hI.a4 h), a5 := (fun h => by rw [put_at a 12 14 _ hs, if_neg (by decide)]; exact hI.a5 h), a6 := (fun h => by rw [put_at a 12 15 _ hs, if_neg (by decide)]; exact hI.a6 h), a7 := (fun h => hI.a7 h), a8 := (fun h => by rw [put_at a 12 5 _ hs, if_neg (by decide)]; exact hI.a8 h) }
set_option maxRecDepth 100000 in
theorem lf_4 (d0 : (af.toList.any fun e => e.on == 0 && Region.binds .any e) = true) (d3 : (af.toList.any fun e => e.on == 3 && Region.binds .any e) = true) (hds : dep ops 7 4 = true) (hR : ∀ w, Below W.heap.size W w → Calls Tryz.prog 63 #[pv, .string x] w fun e w' => e = .returned (.tuple #[.agg #[.int .u64 (n : Int), .string d], .int .i64 er]) ∧ Below w.heap.size w w') : StepJ Tryz.prog Q ops (LF w0 W q q2 pv xb xo xn xc x n d er) 4 { dst := some 13, op := Op.call { callee := Callee.value (Operand.func 63), args := #[Operand.tmp 9, Operand.tmp 12], argTypes := #[55, 9] }, type := ty, pos := ps, after := af, guard := none } := by
  intro L a w K hI hj hcl hdep hK
  have hs : 13 < a.tmps.size := by rw [hI.sz]; decide
  have h8 := not_yet hcl hj hds
  have hB := hI.b1 h8
  have t9 := hI.a0 (hdep 0 d0)
  have t12 := hI.a3 (hdep 3 d3)
  show Oper.wp _ _ a w K _
  go_simp
  refine (hR w hB).mono ?_
  rintro e w' ⟨rfl, hb⟩
  exact hK _ _ { sz := (by simp [Act.put, hI.sz]), df := hI.df, i1 := (by rw [put_at a 13 1 _ hs, if_neg (by decide)]; exact hI.i1), i2 := (by rw [put_at a 13 2 _ hs, if_neg (by decide)]; exact hI.i2), i4 := (by rw [put_at a 13 4 _ hs, if_neg (by decide)]; exact hI.i4), b1 := (fun _ => bnext hB hb), b2 := (bnext hI.b2 hb), a0 := (fun h => by rw [put_at a 13 9 _ hs, if_neg (by decide)]; exact hI.a0 h), a1 := (fun h => by rw [put_at a 13 10 _ hs, if_neg (by decide)]; exact hI.a1 h), a2 := (fun h => by rw [put_at a 13 11 _ hs, if_neg (by decide)]; exact hI.a2 h), a3 := (fun h => by rw [put_at a 13 12 _ hs, if_neg (by decide)]; exact hI.a3 h), a4 := (fun _ => by rw [put_at a 13 13 _ hs, if_pos rfl]), a5 := (fun h => by rw [put_at a 13 14 _ hs, if_neg (by decide)]; exact hI.a5 h), a6 := (fun h => by rw [put_at a 13 15 _ hs, if_neg (by decide)]; exact hI.a6 h), a7 := (fun h => by rw [show (if (7 : Nat) = 4 then true else L 7) = L 7 from rfl, h8] at h; cases h), a8 := (fun h => by rw [put_at a 13 5 _ hs, if_neg (by decide)]; exact hI.a8 h) }
set_option maxRecDepth 100000 in
theorem lf_5 (d4 : (af.toList.any fun e => e.on == 4 && Region.binds .any e) = true) : StepJ Tryz.prog Q ops (LF w0 W q q2 pv xb xo xn xc x n d er) 5 { dst := some 14, op := Op.extract (Operand.tmp 13) 0, type := ty, pos := ps, after := af, guard := none } := by
  intro L a w K hI hj hcl hdep hK
  have hs : 14 < a.tmps.size := by rw [hI.sz]; decide
  have t13 := hI.a4 (hdep 4 d4)
  show Oper.wp _ _ a w K _
  go_simp
  exact hK _ _ { sz := (by simp [Act.put, hI.sz]), df := hI.df, i1 := (by rw [put_at a 14 1 _ hs, if_neg (by decide)]; exact hI.i1), i2 := (by rw [put_at a 14 2 _ hs, if_neg (by decide)]; exact hI.i2), i4 := (by rw [put_at a 14 4 _ hs, if_neg (by decide)]; exact hI.i4), b1 := (fun h => hI.b1 h), b2 := (hI.b2), a0 := (fun h => by rw [put_at a 14 9 _ hs, if_neg (by decide)]; exact hI.a0 h), a1 := (fun h => by rw [put_at a 14 10 _ hs, if_neg (by decide)]; exact hI.a1 h), a2 := (fun h => by rw [put_at a 14 11 _ hs, if_neg (by decide)]; exact hI.a2 h), a3 := (fun h => by rw [put_at a 14 12 _ hs, if_neg (by decide)]; exact hI.a3 h), a4 := (fun h => by rw [put_at a 14 13 _ hs, if_neg (by decide)]; exact hI.a4 h), a5 := (fun _ => by rw [put_at a 14 14 _ hs, if_pos rfl]), a6 := (fun h => by rw [put_at a 14 15 _ hs, if_neg (by decide)]; exact hI.a6 h), a7 := (fun h => hI.a7 h), a8 := (fun h => by rw [put_at a 14 5 _ hs, if_neg (by decide)]; exact hI.a8 h) }
set_option maxRecDepth 100000 in
theorem lf_6 (d4 : (af.toList.any fun e => e.on == 4 && Region.binds .any e) = true) : StepJ Tryz.prog Q ops (LF w0 W q q2 pv xb xo xn xc x n d er) 6 { dst := some 15, op := Op.extract (Operand.tmp 13) 1, type := ty, pos := ps, after := af, guard := none } := by
  intro L a w K hI hj hcl hdep hK
  have hs : 15 < a.tmps.size := by rw [hI.sz]; decide
  have t13 := hI.a4 (hdep 4 d4)
  show Oper.wp _ _ a w K _
  go_simp
  exact hK _ _ { sz := (by simp [Act.put, hI.sz]), df := hI.df, i1 := (by rw [put_at a 15 1 _ hs, if_neg (by decide)]; exact hI.i1), i2 := (by rw [put_at a 15 2 _ hs, if_neg (by decide)]; exact hI.i2), i4 := (by rw [put_at a 15 4 _ hs, if_neg (by decide)]; exact hI.i4), b1 := (fun h => hI.b1 h), b2 := (hI.b2), a0 := (fun h => by rw [put_at a 15 9 _ hs, if_neg (by decide)]; exact hI.a0 h), a1 := (fun h => by rw [put_at a 15 10 _ hs, if_neg (by decide)]; exact hI.a1 h), a2 := (fun h => by rw [put_at a 15 11 _ hs, if_neg (by decide)]; exact hI.a2 h), a3 := (fun h => by rw [put_at a 15 12 _ hs, if_neg (by decide)]; exact hI.a3 h), a4 := (fun h => by rw [put_at a 15 13 _ hs, if_neg (by decide)]; exact hI.a4 h), a5 := (fun h => by rw [put_at a 15 14 _ hs, if_neg (by decide)]; exact hI.a5 h), a6 := (fun _ => by rw [put_at a 15 15 _ hs, if_pos rfl]), a7 := (fun h => hI.a7 h), a8 := (fun h => by rw [put_at a 15 5 _ hs, if_neg (by decide)]; exact hI.a8 h) }
set_option maxRecDepth 100000 in
theorem lf_7 (d5 : (af.toList.any fun e => e.on == 5 && Region.binds .any e) = true) (hq : ∀ w, Below W.heap.size W w → ∃ n9 d9, Rh w q n9 d9) (hq0 : w0.heap.size ≤ q) : StepJ Tryz.prog Q ops (LF w0 W q q2 pv xb xo xn xc x n d er) 7 { dst := none, op := Op.store 30 (Operand.tmp 4) (Operand.tmp 14), type := ty, pos := ps, after := af, guard := none } := by
  intro L a w K hI hj hcl hdep hK
  have t4 := hI.i4
  have t14 := hI.a5 (hdep 5 d5)
  have hB := hI.b1 hj
  obtain ⟨n9, d9, g4⟩ : ∃ n9 d9, Rh w q n9 d9 := hq w hB
  obtain ⟨k0, k1⟩ := g4.cells
  have fz := g4.fz
  have hch := putR_ch w q n d
  have hpt := g4.put n d
  unfold putR at hch hpt
  show Oper.wp _ _ a w K _
  go_simp
  exact hK undef _ { sz := hI.sz, df := hI.df, i1 := (by exact hI.i1), i2 := (by exact hI.i2), i4 := (by exact hI.i4), b1 := (fun h => by cases h), b2 := (hI.b2.trans (hch.below (by rintro b rfl; exact hq0))), a0 := (fun h => by exact hI.a0 h), a1 := (fun h => by exact hI.a1 h), a2 := (fun h => by exact hI.a2 h), a3 := (fun h => by exact hI.a3 h), a4 := (fun h => by exact hI.a4 h), a5 := (fun h => by exact hI.a5 h), a6 := (fun h => by exact hI.a6 h), a7 := (fun _ => hpt), a8 := (fun h => by exact hI.a8 h) }
set_option maxRecDepth 100000 in
theorem lf_8 (d6 : (af.toList.any fun e => e.on == 6 && Region.binds .any e) = true) : StepJ Tryz.prog Q ops (LF w0 W q q2 pv xb xo xn xc x n d er) 8 { dst := some 5, op := Op.assign (Operand.tmp 15), type := ty, pos := ps, after := af, guard := none } := by
  intro L a w K hI hj hcl hdep hK
  have hs : 5 < a.tmps.size := by rw [hI.sz]; decide
  have t15 := hI.a6 (hdep 6 d6)
  show Oper.wp _ _ a w K _
  go_simp
  exact hK _ _ { sz := (by simp [Act.put, hI.sz]), df := hI.df, i1 := (by rw [put_at a 5 1 _ hs, if_neg (by decide)]; exact hI.i1), i2 := (by rw [put_at a 5 2 _ hs, if_neg (by decide)]; exact hI.i2), i4 := (by rw [put_at a 5 4 _ hs, if_neg (by decide)]; exact hI.i4), b1 := (fun h => hI.b1 h), b2 := (hI.b2), a0 := (fun h => by rw [put_at a 5 9 _ hs, if_neg (by decide)]; exact hI.a0 h), a1 := (fun h => by rw [put_at a 5 10 _ hs, if_neg (by decide)]; exact hI.a1 h), a2 := (fun h => by rw [put_at a 5 11 _ hs, if_neg (by decide)]; exact hI.a2 h), a3 := (fun h => by rw [put_at a 5 12 _ hs, if_neg (by decide)]; exact hI.a3 h), a4 := (fun h => by rw [put_at a 5 13 _ hs, if_neg (by decide)]; exact hI.a4 h), a5 := (fun h => by rw [put_at a 5 14 _ hs, if_neg (by decide)]; exact hI.a5 h), a6 := (fun h => by rw [put_at a 5 15 _ hs, if_neg (by decide)]; exact hI.a6 h), a7 := (fun h => hI.a7 h), a8 := (fun _ => by rw [put_at a 5 5 _ hs, if_pos rfl]) }
end
set_option maxRecDepth 100000 in
set_option maxHeartbeats 1000000 in
theorem leads_path (w : World) (k : Int) (old size : Nat) (sa : Option Addr) (ns sc : Nat) (da : Option Addr) (dn dc : Nat) (xa : Option Addr) (xb xo xn xc : Nat) (X : List ByteArray) (hx : RdS w xa xb xo xn X) (h0 : 0 < xn) (n : Nat) (d : ByteArray) (er : Int)
    (hR : ∀ W, Below w.heap.size w W → Calls Tryz.prog 63 #[vP 1 k old size (.slice sa ns sc) (.slice da dn dc), .string (X.getD 0 ByteArray.empty)] W fun e w' => e = .returned (.tuple #[.agg #[.int .u64 (n : Int), .string d], .int .i64 er]) ∧ Below W.heap.size W w') :
    Calls Tryz.prog 29 #[vP 1 k old size (.slice sa ns sc) (.slice da dn dc), .slice xa xn xc] w fun e w' => e = .returned (.tuple #[.agg #[.int .u64 (n : Int), .string d], .int .i64 er]) ∧ Below w.heap.size w w' := by
  obtain rfl := hx.ptr h0
  obtain ⟨W0, hW0⟩ : ∃ W0, (w.alloc (.cells #[.int .i64 1, .int .i64 k, .int .u64 (old : Int), .int .u64 (size : Int), .slice sa ns sc, .slice da dn dc] 55)).alloc (.cells #[.int .u64 0, .string ⟨#[]⟩] 30) = W0 := ⟨_, rfl⟩
  have hb0 : Below w.heap.size w W0 := by rw [← hW0]; exact bal (bal (Below.refl _ _) _) _
  obtain ⟨h6, hr0⟩ : Six W0 w.heap.size (.int .i64 1) (.int .i64 k) (.int .u64 (old : Int)) (.int .u64 (size : Int)) (.slice sa ns sc) (.slice da dn dc) ∧ Rh W0 (w.heap.size + 1) 0 ⟨#[]⟩ := by
    obtain ⟨e1, e2⟩ := two_boxes w (.cells #[.int .i64 1, .int .i64 k, .int .u64 (old : Int), .int .u64 (size : Int), .slice sa ns sc, .slice da dn dc] 55) (.cells #[.int .u64 0, .string ⟨#[]⟩] 30)
    rw [← hW0]; exact ⟨e1, e2⟩
  have hb0' : Below w.heap.size w W0 := hb0
  have m0 := h6.cells.1
  have HX := hide (And.intro hx (And.intro hb0 (And.intro h6 hr0)))
  have HR := hide hR
  unfold vP at HR
  clear hx hb0 h6 hr0 hR
  unfold vP
  go_enter Tryz.func29, Tryz.ntmps29
  go_upto_region 1 with (fail)
  try rw [hW0]
  clear hW0
  go_upto_region 2 with (fail)
  refine wp_region_planJ (by kernel_rfl) (by kernel_rfl) (LF w W0 (w.heap.size + 1) w.heap.size (.agg #[.int .i64 1, .int .i64 k, .int .u64 (old : Int), .int .u64 (size : Int), .slice sa ns sc, .slice da dn dc]) xb xo xn xc (X.getD 0 ByteArray.empty) n d er)
    (fun Z _ hZ => { sz := rfl, df := rfl, i1 := rfl, i2 := rfl, i4 := rfl, b1 := (fun _ => hZ), b2 := (bnext hb0' hZ), a0 := (fun h => by cases h), a1 := (fun h => by cases h), a2 := (fun h => by cases h), a3 := (fun h => by cases h), a4 := (fun h => by cases h), a5 := (fun h => by cases h), a6 := (fun h => by cases h), a7 := (fun h => by cases h), a8 := (fun h => by cases h) })
    ⟨lf_0 rfl (fun Z hZ => ⟨_, _, _, _, _, _, rfl, HX.out.2.2.1.next hZ⟩), lf_1, lf_2 rfl h0, lf_3 rfl rfl (fun Z hZ => by have := (HX.out.1.next (bnext hb0' hZ) (Nat.le_refl _)).at h0; exact this), lf_4 rfl rfl rfl (fun Z hZ => HR.out Z (bnext hb0' hZ)), lf_5 rfl, lf_6 rfl, lf_7 rfl (fun Z hZ => ⟨_, _, HX.out.2.2.2.next hZ⟩) (by omega), lf_8 rfl, trivial⟩ ?_
  intro L a7 w7 hall hI
  obtain ⟨⟨tl⟩, df⟩ := a7
  have hl0 : tl.length = 21 := hI.sz
  obtain ⟨u0, t0, rfl, hl1⟩ := list_cut hl0
  obtain ⟨u1, t1, rfl, hl2⟩ := list_cut hl1
  obtain ⟨u2, t2, rfl, hl3⟩ := list_cut hl2
  obtain ⟨u3, t3, rfl, hl4⟩ := list_cut hl3
  obtain ⟨u4, t4, rfl, hl5⟩ := list_cut hl4
  obtain ⟨u5, t5, rfl, hl6⟩ := list_cut hl5
  obtain ⟨u6, t6, rfl, hl7⟩ := list_cut hl6
  obtain ⟨u7, t7, rfl, hl8⟩ := list_cut hl7
  obtain ⟨u8, t8, rfl, hl9⟩ := list_cut hl8
  obtain ⟨u9, t9, rfl, hl10⟩ := list_cut hl9
  obtain ⟨u10, t10, rfl, hl11⟩ := list_cut hl10
  obtain ⟨u11, t11, rfl, hl12⟩ := list_cut hl11
  obtain ⟨u12, t12, rfl, hl13⟩ := list_cut hl12
  obtain ⟨u13, t13, rfl, hl14⟩ := list_cut hl13
  obtain ⟨u14, t14, rfl, hl15⟩ := list_cut hl14
  obtain ⟨u15, t15, rfl, hl16⟩ := list_cut hl15
  obtain ⟨u16, t16, rfl, hl17⟩ := list_cut hl16
  obtain ⟨u17, t17, rfl, hl18⟩ := list_cut hl17
  obtain ⟨u18, t18, rfl, hl19⟩ := list_cut hl18
  obtain ⟨u19, t19, rfl, hl20⟩ := list_cut hl19
  obtain ⟨u20, t20, rfl, hl21⟩ := list_cut hl20
  obtain rfl := List.length_eq_zero_iff.1 hl21
  obtain rfl : df = [] := hI.df
  obtain rfl : u4 = .pointer (some ⟨w.heap.size + 1, 0, none⟩) := hI.i4
  obtain rfl : u5 = .int .i64 er := hI.a8 (hall 8 (by decide))
  obtain ⟨s0, s1⟩ := (hI.a7 (hall 7 (by decide))).cells
  have HB := hide hI.b2
  clear hall hI
  repeat go_step
  refine bodyPost_ret (v := .tuple #[.agg #[.int .u64 (n : Int), .string d], .int .i64 er]) (by simp [results, Tryz.results29, go_sem, s0, s1]) rfl ⟨rfl, HB.out⟩
end Go.Proofs.YtdocjikpcbmcgaaGreatDoor
