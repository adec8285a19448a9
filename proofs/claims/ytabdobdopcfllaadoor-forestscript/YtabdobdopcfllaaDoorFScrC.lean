/-
  One call at the program's forest and at the reference's: plays, of size, node and root. Own work.
-/
import Derived.Test.YtabdobdopcfllaaDoorFScrB
import Derived.Test.YtabdobdopcfllaaDoorPlanG
namespace Go.Proofs.YtabdobdopcfllaaDoor
open Go.RowKit
attribute [local go_sem ↓] Go.wp_at_zero Go.wp_at_succ
/-- A call in memory. -/
abbrev opC (kd at' : Int) (s : ByteArray) (n : Nat) (x : Value) : Obj := .cells #[.int .i64 kd, .int .i64 at', .string s, .int .u64 (n : Int), x] 74
theorem op_cells {w W : World} {kd at' : Int} {s : ByteArray} {n : Nat} {x : Value} (h : W.heap[w.heap.size]? = (w.alloc (opC kd at' s n x)).heap[w.heap.size]?) :
    W.cell? ⟨w.heap.size, 0, none⟩ = some (.int .i64 kd) ∧ W.cell? ⟨w.heap.size, 2, none⟩ = some (.string s) ∧ W.cell? ⟨w.heap.size, 3, none⟩ = some (.int .u64 (n : Int)) ∧ W.cell? ⟨w.heap.size, 4, none⟩ = some x := by
  have X := h.trans (heap_alloc_new w (opC kd at' s n x))
  refine ⟨?_, ?_, ?_, ?_⟩
  · rw [cell_of_row W _ 0 _ _ (0, 0) X]; rfl
  · rw [cell_of_row W _ 2 _ _ (0, 0) X]; rfl
  · rw [cell_of_row W _ 3 _ _ (0, 0) X]; rfl
  · rw [cell_of_row W _ 4 _ _ (0, 0) X]; rfl
/-- What plays leaves. -/
def Plyd (w w' : World) (B m q : Nat) (K : Int) (gA : Nat) (vs : List Value) : Prop := ∃ L' gA' cA' vs', St w w' B m q K gA vs L' gA' cA' vs'
set_option maxRecDepth 100000 in
set_option maxHeartbeats 2000000 in
theorem play_else (w : World) (B m q : Nat) (K : Int) (LL : List ByteArray) (gB cB : Nat) (us : List Value) (hP : Pair w B m q K LL gB cB us) (kd at' : Int) (s : ByteArray) (n : Nat) (ao : Option Addr) (len cap : Nat)
    (k1 : kd ≠ 1) (k2 : kd ≠ 2) (k3 : kd ≠ 3) (k4 : kd ≠ 4) (k5 : kd ≠ 5) :
    Calls Tryd.prog 29 #[.pointer (some ⟨m + 1, 0, none⟩), .pointer (some ⟨q, 0, none⟩), .agg #[.int .i64 kd, .int .i64 at', .string s, .int .u64 (n : Int), .slice ao len cap]] w fun e w' => e = .returned (.bool true) ∧ Plyd w w' B m q K gB us := by
  obtain ⟨w0, hw0⟩ : ∃ w0, w.alloc (.cells #[.int .i64 kd, .int .i64 at', .string s, .int .u64 (n : Int), .slice ao len cap] 74) = w0 := ⟨_, rfl⟩
  have b0 : Below w.heap.size w w0 := by rw [← hw0]; exact bal (Below.refl w.heap.size w) _
  obtain ⟨z0, _, _, _⟩ := op_cells (w := w) (W := w0) (kd := kd) (at' := at') (s := s) (n := n) (x := .slice ao len cap) (by rw [← hw0])
  have HG : Hid (∀ W, Below w0.heap.size w0 W → St w W B m q K gB us LL gB cB us) := fun W hb => ((St.refl hP).next b0).next hb
  have f1 : (kd == 1) = false := by simpa using k1
  have f2 : (kd == 2) = false := by simpa using k2
  have f3 : (kd == 3) = false := by simpa using k3
  have f4 : (kd == 4) = false := by simpa using k4
  have f5 : (kd == 5) = false := by simpa using k5
  clear hP b0
  go_enter Tryd.func29, Tryd.ntmps29
  go_upto_region 39 with (fail)
  refine wp_region_plan (by kernel_rfl) [203, 204, 205, 206, 207, 208, 209, 210, 211, 212, 213, 214, 215, 216, 6] (by kernel_rfl) (planG [.pointer (some ⟨m + 1, 0, none⟩), .int .u64 (LL.length : Int), .pointer (some ⟨q, 0, none⟩), .int .u64 (LL.length : Int), .bool true, .bool true, .pointer (some ⟨m + 1, 0, none⟩), .int .i64 K, .pointer (some ⟨q, 0, none⟩), .pointer (some ⟨q, 0, none⟩), .pointer (some ⟨q, 0, none⟩), .int .i64 K, .bool true, .bool true, .bool true] []) (planG_mono _ _) ?step ?fin
  case fin =>
    intro Ax wx hBx hde hsi hsm hΦ
    have h6 : Ax.tmps.getD 6 undef = .bool true := hΦ 14 (by decide)
    have hr : (results Tryd.f29 Ax.tmps).run Tryd.prog wx = .ok (.bool true) wx := by rw [← h6]; exact results_tmp rfl _ _ _
    have HF : Hid (Ax.defers = [] ∧ _ ∧ (results Tryd.f29 Ax.tmps).run Tryd.prog wx = .ok (.bool true) wx) := ⟨hde, HG.out _ hBx, hr⟩
    clear hr hde hsm hΦ h6 hBx hsi
    go_wp2
    exact bodyPost_ret HF.out.2.2 HF.out.1 ⟨rfl, _, _, _, _, HF.out.2.1⟩
  case step =>
    refine ⟨?_, ?_, ?_, ?_, ?_, ?_, ?_, ?_, ?_, ?_, ?_, ?_, ?_, ?_, ?_, trivial⟩
    · intro Ac Wc Kc hB hsm dep hK
      have t0 : Ac.tmps.getD 0 undef = .pointer (some ⟨m + 1, 0, none⟩) := hsm 0 rfl
      show Oper.wp _ _ Ac Wc Kc _
      go_simp
      exact hK _ _ rfl (Below.refl _ _)
    · intro Ac Wc Kc hB hsm dep hK
      have t203 : Ac.tmps.getD 203 undef = .pointer (some ⟨m + 1, 0, none⟩) := dep 0 rfl
      show Oper.wp _ _ Ac Wc Kc _
      go_simp
      refine (fsize_b Wc m K LL (HG.out Wc hB).pr.fr).mono ?_
      rintro e w' ⟨rfl, hb⟩
      exact hK _ _ rfl hb
    · intro Ac Wc Kc hB hsm dep hK
      have t1 : Ac.tmps.getD 1 undef = .pointer (some ⟨q, 0, none⟩) := hsm 1 rfl
      show Oper.wp _ _ Ac Wc Kc _
      go_simp
      exact hK _ _ rfl (Below.refl _ _)
    · intro Ac Wc Kc hB hsm dep hK
      have t205 : Ac.tmps.getD 205 undef = .pointer (some ⟨q, 0, none⟩) := dep 2 rfl
      show Oper.wp _ _ Ac Wc Kc _
      go_simp
      refine (refsize_any Wc _ q K LL gB cB us (HG.out Wc hB).pr.rf).mono ?_
      rintro e w' ⟨rfl, hb⟩
      exact hK _ _ rfl hb
    · intro Ac Wc Kc hB hsm dep hK
      have t204 : Ac.tmps.getD 204 undef = .int .u64 (LL.length : Int) := dep 1 rfl
      have t206 : Ac.tmps.getD 206 undef = .int .u64 (LL.length : Int) := dep 3 rfl
      show Oper.wp _ _ Ac Wc Kc _
      go_simp
      exact hK _ _ rfl (Below.refl _ _)
    · intro Ac Wc Kc hB hsm dep hK
      have t207 : Ac.tmps.getD 207 undef = .bool true := dep 4 rfl
      show Oper.wp _ _ Ac Wc Kc _
      go_simp
      exact hK _ _ rfl (Below.refl _ _)
    · intro Ac Wc Kc hB hsm dep hK
      have t0 : Ac.tmps.getD 0 undef = .pointer (some ⟨m + 1, 0, none⟩) := hsm 0 rfl
      refine ⟨true, (show Ac.tmps.getD 208 undef = .bool true from dep 5 rfl), ?_⟩
      rw [if_pos rfl]
      go_simp
      exact hK _ _ rfl (Below.refl _ _)
    · intro Ac Wc Kc hB hsm dep hK
      have t209 : Ac.tmps.getD 209 undef = .pointer (some ⟨m + 1, 0, none⟩) := dep 6 rfl
      refine ⟨true, (show Ac.tmps.getD 208 undef = .bool true from dep 5 rfl), ?_⟩
      rw [if_pos rfl]
      go_simp
      refine (fstrength_b Wc m K LL (HG.out Wc hB).pr.fr).mono ?_
      rintro e w' ⟨rfl, hb⟩
      exact hK _ _ rfl hb
    · intro Ac Wc Kc hB hsm dep hK
      have t1 : Ac.tmps.getD 1 undef = .pointer (some ⟨q, 0, none⟩) := hsm 1 rfl
      refine ⟨true, (show Ac.tmps.getD 208 undef = .bool true from dep 5 rfl), ?_⟩
      rw [if_pos rfl]
      go_simp
      exact hK _ _ rfl (Below.refl _ _)
    · intro Ac Wc Kc hB hsm dep hK
      have t211 : Ac.tmps.getD 211 undef = .pointer (some ⟨q, 0, none⟩) := dep 8 rfl
      refine ⟨true, (show Ac.tmps.getD 208 undef = .bool true from dep 5 rfl), ?_⟩
      rw [if_pos rfl]
      go_simp
      exact hK _ _ rfl (Below.refl _ _)
    · intro Ac Wc Kc hB hsm dep hK
      have t212 : Ac.tmps.getD 212 undef = .pointer (some ⟨q, 0, none⟩) := dep 9 rfl
      refine ⟨true, (show Ac.tmps.getD 208 undef = .bool true from dep 5 rfl), ?_⟩
      rw [if_pos rfl]
      go_simp
      exact hK _ _ rfl (Below.refl _ _)
    · intro Ac Wc Kc hB hsm dep hK
      have t213 : Ac.tmps.getD 213 undef = .pointer (some ⟨q, 0, none⟩) := dep 10 rfl
      refine ⟨true, (show Ac.tmps.getD 208 undef = .bool true from dep 5 rfl), ?_⟩
      rw [if_pos rfl]
      have c0 := (HG.out Wc hB).pr.rf.lv.cells.1
      go_simp
      exact hK _ _ rfl (Below.refl _ _)
    · intro Ac Wc Kc hB hsm dep hK
      have t210 : Ac.tmps.getD 210 undef = .int .i64 K := dep 7 rfl
      have t214 : Ac.tmps.getD 214 undef = .int .i64 K := dep 11 rfl
      refine ⟨true, (show Ac.tmps.getD 208 undef = .bool true from dep 5 rfl), ?_⟩
      rw [if_pos rfl]
      go_simp
      exact hK _ _ rfl (Below.refl _ _)
    · intro Ac Wc Kc hB hsm dep hK
      have t208 : Ac.tmps.getD 208 undef = .bool true := dep 5 rfl
      have t215 : Ac.tmps.getD 215 undef = .bool true := dep 12 rfl
      show Oper.wp _ _ Ac Wc Kc _
      go_simp
      exact hK _ _ rfl (Below.refl _ _)
    · intro Ac Wc Kc hB hsm dep hK
      have t216 : Ac.tmps.getD 216 undef = .bool true := dep 13 rfl
      show Oper.wp _ _ Ac Wc Kc _
      go_simp
      exact hK _ _ rfl (Below.refl _ _)
set_option maxRecDepth 100000 in
set_option maxHeartbeats 2000000 in
theorem play_node (W0 w : World) (m q : Nat) (K : Int) (LL : List ByteArray) (gB cB : Nat) (us : List Value) (hP : Pair w W0.heap.size m q K LL gB cB us) (at' : Int) (s : ByteArray) (n : Nat) (ao : Option Addr) (len cap : Nat) :
    Calls Tryd.prog 29 #[.pointer (some ⟨m + 1, 0, none⟩), .pointer (some ⟨q, 0, none⟩), .agg #[.int .i64 2, .int .i64 at', .string s, .int .u64 (n : Int), .slice ao len cap]] w fun e w' => e = .returned (.bool true) ∧ Plyd w w' W0.heap.size m q K gB us := by
  obtain ⟨w0, hw0⟩ : ∃ w0, w.alloc (.cells #[.int .i64 2, .int .i64 at', .string s, .int .u64 (n : Int), .slice ao len cap] 74) = w0 := ⟨_, rfl⟩
  have b0 : Below w.heap.size w w0 := by rw [← hw0]; exact bal (Below.refl w.heap.size w) _
  have HC : Hid (∀ W, Below w0.heap.size w0 W → _) := fun W hb => op_cells (w := w) (W := W) (kd := 2) (at' := at') (s := s) (n := n) (x := .slice ao len cap) (by rw [opC, hw0]; exact hb.block _ (by rw [← hw0]; simp))
  have HG0 : Hid (∀ W, Below w0.heap.size w0 W → St w W W0.heap.size m q K gB us LL gB cB us) := fun W hb => ((St.refl hP).next b0).next hb
  have hbz := Below.refl w0.heap.size w0
  obtain ⟨z0, _, z3, _⟩ := HC.out w0 hbz
  clear hP b0
  obtain ⟨o, ho⟩ : ∃ o, (if n ≤ Pl.most then ff (clk K) LL ((Pl.blk n).1 : Int) (Pl.blk n).2 else none) = o := ⟨_, rfl⟩
  obtain ⟨d, hd⟩ : ∃ d, o.getD ByteArray.empty = d := ⟨_, rfl⟩
  obtain ⟨ok, hok⟩ : ∃ ok, o.isSome = ok := ⟨_, rfl⟩
  have H1 : Hid (∀ W, Below w0.heap.size w0 W → Calls Tryd.prog 18 #[.pointer (some ⟨m + 1, 0, none⟩), .int .u64 (n : Int)] W fun e w' => e = .returned (.tuple #[.string d, .bool ok]) ∧ Below W.heap.size W w') := fun W hb => fnode_any W m K LL (HG0.out W hb).pr.fr n o d ok ho ⟨hd, hok⟩
  have H2 : Hid (∀ W, Below w0.heap.size w0 W → Calls Tryd.prog 46 #[.pointer (some ⟨q, 0, none⟩), .int .u64 (n : Int)] W fun e w' => e = .returned (.tuple #[.string d, .bool ok]) ∧ Below W.heap.size W w') := fun W hb => refnode_at W _ q K LL gB cB us (HG0.out W hb).pr.rf n o d ok ho ⟨hd, hok⟩
  clear ho hd hok
  go_enter Tryd.func29, Tryd.ntmps29
  go_upto_region 14 with (first
    | (go_at_call 18; with_reducible refine (H1.out _ hbz).mono ?_; rintro e w1 ⟨rfl, hb1⟩; obtain ⟨_, _, y3, _⟩ := HC.out w1 hb1)
    | (go_at_call 46; with_reducible refine (H2.out _ hb1).mono ?_; rintro e w2 ⟨rfl, hb2⟩))
  have HG : Hid (∀ W, Below w2.heap.size w2 W → St w W W0.heap.size m q K gB us LL gB cB us) := fun W hb => HG0.out W (bnext (bnext hb1 hb2) hb)
  clear hb1 hb2 HG0 HC H1 H2
  go_upto_region 39 with (fail)
  refine wp_region_plan (by kernel_rfl) [203, 204, 205, 206, 207, 208, 209, 210, 211, 212, 213, 214, 215, 216, 6] (by kernel_rfl) (planG [.pointer (some ⟨m + 1, 0, none⟩), .int .u64 (LL.length : Int), .pointer (some ⟨q, 0, none⟩), .int .u64 (LL.length : Int), .bool true, .bool true, .pointer (some ⟨m + 1, 0, none⟩), .int .i64 K, .pointer (some ⟨q, 0, none⟩), .pointer (some ⟨q, 0, none⟩), .pointer (some ⟨q, 0, none⟩), .int .i64 K, .bool true, .bool true, .bool true] []) (planG_mono _ _) ?step ?fin
  case fin =>
    intro Ax wx hBx hde hsi hsm hΦ
    have h6 : Ax.tmps.getD 6 undef = .bool true := hΦ 14 (by decide)
    have hr : (results Tryd.f29 Ax.tmps).run Tryd.prog wx = .ok (.bool true) wx := by rw [← h6]; exact results_tmp rfl _ _ _
    have HF : Hid (Ax.defers = [] ∧ _ ∧ (results Tryd.f29 Ax.tmps).run Tryd.prog wx = .ok (.bool true) wx) := ⟨hde, HG.out _ hBx, hr⟩
    clear hr hde hsm hΦ h6 hBx hsi
    go_wp2
    exact bodyPost_ret HF.out.2.2 HF.out.1 ⟨rfl, _, _, _, _, HF.out.2.1⟩
  case step =>
    refine ⟨?_, ?_, ?_, ?_, ?_, ?_, ?_, ?_, ?_, ?_, ?_, ?_, ?_, ?_, ?_, trivial⟩
    · intro Ac Wc Kc hB hsm dep hK
      have t0 : Ac.tmps.getD 0 undef = .pointer (some ⟨m + 1, 0, none⟩) := hsm 0 rfl
      show Oper.wp _ _ Ac Wc Kc _
      go_simp
      exact hK _ _ rfl (Below.refl _ _)
    · intro Ac Wc Kc hB hsm dep hK
      have t203 : Ac.tmps.getD 203 undef = .pointer (some ⟨m + 1, 0, none⟩) := dep 0 rfl
      show Oper.wp _ _ Ac Wc Kc _
      go_simp
      refine (fsize_b Wc m K LL (HG.out Wc hB).pr.fr).mono ?_
      rintro e w' ⟨rfl, hb⟩
      exact hK _ _ rfl hb
    · intro Ac Wc Kc hB hsm dep hK
      have t1 : Ac.tmps.getD 1 undef = .pointer (some ⟨q, 0, none⟩) := hsm 1 rfl
      show Oper.wp _ _ Ac Wc Kc _
      go_simp
      exact hK _ _ rfl (Below.refl _ _)
    · intro Ac Wc Kc hB hsm dep hK
      have t205 : Ac.tmps.getD 205 undef = .pointer (some ⟨q, 0, none⟩) := dep 2 rfl
      show Oper.wp _ _ Ac Wc Kc _
      go_simp
      refine (refsize_any Wc _ q K LL gB cB us (HG.out Wc hB).pr.rf).mono ?_
      rintro e w' ⟨rfl, hb⟩
      exact hK _ _ rfl hb
    · intro Ac Wc Kc hB hsm dep hK
      have t204 : Ac.tmps.getD 204 undef = .int .u64 (LL.length : Int) := dep 1 rfl
      have t206 : Ac.tmps.getD 206 undef = .int .u64 (LL.length : Int) := dep 3 rfl
      show Oper.wp _ _ Ac Wc Kc _
      go_simp
      exact hK _ _ rfl (Below.refl _ _)
    · intro Ac Wc Kc hB hsm dep hK
      have t207 : Ac.tmps.getD 207 undef = .bool true := dep 4 rfl
      show Oper.wp _ _ Ac Wc Kc _
      go_simp
      exact hK _ _ rfl (Below.refl _ _)
    · intro Ac Wc Kc hB hsm dep hK
      have t0 : Ac.tmps.getD 0 undef = .pointer (some ⟨m + 1, 0, none⟩) := hsm 0 rfl
      refine ⟨true, (show Ac.tmps.getD 208 undef = .bool true from dep 5 rfl), ?_⟩
      rw [if_pos rfl]
      go_simp
      exact hK _ _ rfl (Below.refl _ _)
    · intro Ac Wc Kc hB hsm dep hK
      have t209 : Ac.tmps.getD 209 undef = .pointer (some ⟨m + 1, 0, none⟩) := dep 6 rfl
      refine ⟨true, (show Ac.tmps.getD 208 undef = .bool true from dep 5 rfl), ?_⟩
      rw [if_pos rfl]
      go_simp
      refine (fstrength_b Wc m K LL (HG.out Wc hB).pr.fr).mono ?_
      rintro e w' ⟨rfl, hb⟩
      exact hK _ _ rfl hb
    · intro Ac Wc Kc hB hsm dep hK
      have t1 : Ac.tmps.getD 1 undef = .pointer (some ⟨q, 0, none⟩) := hsm 1 rfl
      refine ⟨true, (show Ac.tmps.getD 208 undef = .bool true from dep 5 rfl), ?_⟩
      rw [if_pos rfl]
      go_simp
      exact hK _ _ rfl (Below.refl _ _)
    · intro Ac Wc Kc hB hsm dep hK
      have t211 : Ac.tmps.getD 211 undef = .pointer (some ⟨q, 0, none⟩) := dep 8 rfl
      refine ⟨true, (show Ac.tmps.getD 208 undef = .bool true from dep 5 rfl), ?_⟩
      rw [if_pos rfl]
      go_simp
      exact hK _ _ rfl (Below.refl _ _)
    · intro Ac Wc Kc hB hsm dep hK
      have t212 : Ac.tmps.getD 212 undef = .pointer (some ⟨q, 0, none⟩) := dep 9 rfl
      refine ⟨true, (show Ac.tmps.getD 208 undef = .bool true from dep 5 rfl), ?_⟩
      rw [if_pos rfl]
      go_simp
      exact hK _ _ rfl (Below.refl _ _)
    · intro Ac Wc Kc hB hsm dep hK
      have t213 : Ac.tmps.getD 213 undef = .pointer (some ⟨q, 0, none⟩) := dep 10 rfl
      refine ⟨true, (show Ac.tmps.getD 208 undef = .bool true from dep 5 rfl), ?_⟩
      rw [if_pos rfl]
      have c0 := (HG.out Wc hB).pr.rf.lv.cells.1
      go_simp
      exact hK _ _ rfl (Below.refl _ _)
    · intro Ac Wc Kc hB hsm dep hK
      have t210 : Ac.tmps.getD 210 undef = .int .i64 K := dep 7 rfl
      have t214 : Ac.tmps.getD 214 undef = .int .i64 K := dep 11 rfl
      refine ⟨true, (show Ac.tmps.getD 208 undef = .bool true from dep 5 rfl), ?_⟩
      rw [if_pos rfl]
      go_simp
      exact hK _ _ rfl (Below.refl _ _)
    · intro Ac Wc Kc hB hsm dep hK
      have t208 : Ac.tmps.getD 208 undef = .bool true := dep 5 rfl
      have t215 : Ac.tmps.getD 215 undef = .bool true := dep 12 rfl
      show Oper.wp _ _ Ac Wc Kc _
      go_simp
      exact hK _ _ rfl (Below.refl _ _)
    · intro Ac Wc Kc hB hsm dep hK
      have t216 : Ac.tmps.getD 216 undef = .bool true := dep 13 rfl
      show Oper.wp _ _ Ac Wc Kc _
      go_simp
      exact hK _ _ rfl (Below.refl _ _)
set_option maxRecDepth 100000 in
set_option maxHeartbeats 2000000 in
theorem play_root (W0 w : World) (ht : Tb W0) (hr : Tr W0) (hb0 : Below W0.heap.size W0 w) (m q : Nat) (K : Int) (LL : List ByteArray) (gB cB : Nat) (us : List Value) (hP : Pair w W0.heap.size m q K LL gB cB us) (at' : Int) (s : ByteArray) (n : Nat) (ao : Option Addr) (len cap : Nat) :
    Calls Tryd.prog 29 #[.pointer (some ⟨m + 1, 0, none⟩), .pointer (some ⟨q, 0, none⟩), .agg #[.int .i64 5, .int .i64 at', .string s, .int .u64 (n : Int), .slice ao len cap]] w fun e w' => e = .returned (.bool true) ∧ Plyd w w' W0.heap.size m q K gB us := by
  obtain ⟨w0, hw0⟩ : ∃ w0, w.alloc (.cells #[.int .i64 5, .int .i64 at', .string s, .int .u64 (n : Int), .slice ao len cap] 74) = w0 := ⟨_, rfl⟩
  have b0 : Below w.heap.size w w0 := by rw [← hw0]; exact bal (Below.refl w.heap.size w) _
  have HC : Hid (∀ W, Below w0.heap.size w0 W → _) := fun W hb => op_cells (w := w) (W := W) (kd := 5) (at' := at') (s := s) (n := n) (x := .slice ao len cap) (by rw [opC, hw0]; exact hb.block _ (by rw [← hw0]; simp))
  have HG0 : Hid (∀ W, Below w0.heap.size w0 W → St w W W0.heap.size m q K gB us LL gB cB us) := fun W hb => ((St.refl hP).next b0).next hb
  have HT : Hid (∀ W, Below w0.heap.size w0 W → Tb W ∧ Tr W) := fun W hb => by
    have h := bnext hb0 (bnext b0 hb)
    exact ⟨ht.next h, hr.next h⟩
  have hbz := Below.refl w0.heap.size w0
  obtain ⟨z0, _, z3, _⟩ := HC.out w0 hbz
  clear hP b0 ht hr hb0
  obtain ⟨⟨a, r, e0⟩, hro⟩ : ∃ x, roR K LL n = x := ⟨_, rfl⟩
  have H1 : Hid (∀ W, Below w0.heap.size w0 W → Calls Tryd.prog 16 #[.pointer (some ⟨m + 1, 0, none⟩), .int .u64 (n : Int)] W fun e w' => e = .returned (.tuple #[.agg #[.int .u64 (a : Int), .string r], .int .i64 (e0 : Int)]) ∧ Below W.heap.size W w') := fun W hb => froot_all W (HT.out W hb).1 m K LL (HG0.out W hb).pr.fr n a r e0 hro
  have H2 : Hid (∀ W, Below w0.heap.size w0 W → Calls Tryd.prog 51 #[.pointer (some ⟨q, 0, none⟩), .int .u64 (n : Int)] W fun e w' => e = .returned (.tuple #[.agg #[.int .u64 (a : Int), .string r], .int .i64 (e0 : Int)]) ∧ Below W.heap.size W w') := fun W hb => rroot_all W (HT.out W hb).2 _ q K LL gB cB us (HG0.out W hb).pr.rf n a r e0 hro
  clear hro
  go_enter Tryd.func29, Tryd.ntmps29
  go_upto_region 36 with (first
    | (go_at_call 16; with_reducible refine (H1.out _ hbz).mono ?_; rintro e w1 ⟨rfl, hb1⟩))
  have hbA := bal hb1 (.cells #[.int .u64 (a : Int), .string r] 41)
  obtain ⟨_, _, y3, _⟩ := HC.out _ hbA
  have HR1 := hide (rt_new w1 a r 41)
  have hz1 : w1.heap.size < (w1.alloc (.cells #[.int .u64 (a : Int), .string r] 41)).heap.size := by simp
  go_upto_region 37 with (first
    | (go_at_call 51; with_reducible refine (H2.out _ hbA).mono ?_; rintro e w2 ⟨rfl, hb2⟩))
  have hbB := bal (bnext hbA hb2) (.cells #[.int .u64 (a : Int), .string r] 41)
  have R1 := (HR1.out.below hb2 hz1).below (bal (Below.refl w2.heap.size w2) (.cells #[.int .u64 (a : Int), .string r] 41)) (Nat.lt_of_lt_of_le hz1 hb2.size)
  have R2 := rt_new w2 a r 41
  obtain ⟨w3, hw3⟩ : ∃ w3, w2.alloc (.cells #[.int .u64 (a : Int), .string r] 41) = w3 := ⟨_, rfl⟩
  rw [hw3] at R1 R2 hbB
  have x0 := R1.c0
  have x1 := R1.c1
  have v0 := R2.c0
  have v1 := R2.c1
  go_upto_region 39 with (go_at_call 11; with_reducible refine (num_id _ _).mono ?_; rintro e wn ⟨rfl, rfl⟩)
  have HG : Hid (∀ W, Below w3.heap.size w3 W → St w W W0.heap.size m q K gB us LL gB cB us) := fun W hb => HG0.out W (bnext hbB hb)
  clear hb1 hb2 HG0 HC H1 H2 hbA hbB R1 R2 HR1 hz1 x0 x1 v0 v1 HT
  go_upto_region 39 with (fail)
  refine wp_region_plan (by kernel_rfl) [203, 204, 205, 206, 207, 208, 209, 210, 211, 212, 213, 214, 215, 216, 6] (by kernel_rfl) (planG [.pointer (some ⟨m + 1, 0, none⟩), .int .u64 (LL.length : Int), .pointer (some ⟨q, 0, none⟩), .int .u64 (LL.length : Int), .bool true, .bool true, .pointer (some ⟨m + 1, 0, none⟩), .int .i64 K, .pointer (some ⟨q, 0, none⟩), .pointer (some ⟨q, 0, none⟩), .pointer (some ⟨q, 0, none⟩), .int .i64 K, .bool true, .bool true, .bool true] []) (planG_mono _ _) ?step ?fin
  case fin =>
    intro Ax wx hBx hde hsi hsm hΦ
    have h6 : Ax.tmps.getD 6 undef = .bool true := hΦ 14 (by decide)
    have hr : (results Tryd.f29 Ax.tmps).run Tryd.prog wx = .ok (.bool true) wx := by rw [← h6]; exact results_tmp rfl _ _ _
    have HF : Hid (Ax.defers = [] ∧ _ ∧ (results Tryd.f29 Ax.tmps).run Tryd.prog wx = .ok (.bool true) wx) := ⟨hde, HG.out _ hBx, hr⟩
    clear hr hde hsm hΦ h6 hBx hsi
    go_wp2
    exact bodyPost_ret HF.out.2.2 HF.out.1 ⟨rfl, _, _, _, _, HF.out.2.1⟩
  case step =>
    refine ⟨?_, ?_, ?_, ?_, ?_, ?_, ?_, ?_, ?_, ?_, ?_, ?_, ?_, ?_, ?_, trivial⟩
    · intro Ac Wc Kc hB hsm dep hK
      have t0 : Ac.tmps.getD 0 undef = .pointer (some ⟨m + 1, 0, none⟩) := hsm 0 rfl
      show Oper.wp _ _ Ac Wc Kc _
      go_simp
      exact hK _ _ rfl (Below.refl _ _)
    · intro Ac Wc Kc hB hsm dep hK
      have t203 : Ac.tmps.getD 203 undef = .pointer (some ⟨m + 1, 0, none⟩) := dep 0 rfl
      show Oper.wp _ _ Ac Wc Kc _
      go_simp
      refine (fsize_b Wc m K LL (HG.out Wc hB).pr.fr).mono ?_
      rintro e w' ⟨rfl, hb⟩
      exact hK _ _ rfl hb
    · intro Ac Wc Kc hB hsm dep hK
      have t1 : Ac.tmps.getD 1 undef = .pointer (some ⟨q, 0, none⟩) := hsm 1 rfl
      show Oper.wp _ _ Ac Wc Kc _
      go_simp
      exact hK _ _ rfl (Below.refl _ _)
    · intro Ac Wc Kc hB hsm dep hK
      have t205 : Ac.tmps.getD 205 undef = .pointer (some ⟨q, 0, none⟩) := dep 2 rfl
      show Oper.wp _ _ Ac Wc Kc _
      go_simp
      refine (refsize_any Wc _ q K LL gB cB us (HG.out Wc hB).pr.rf).mono ?_
      rintro e w' ⟨rfl, hb⟩
      exact hK _ _ rfl hb
    · intro Ac Wc Kc hB hsm dep hK
      have t204 : Ac.tmps.getD 204 undef = .int .u64 (LL.length : Int) := dep 1 rfl
      have t206 : Ac.tmps.getD 206 undef = .int .u64 (LL.length : Int) := dep 3 rfl
      show Oper.wp _ _ Ac Wc Kc _
      go_simp
      exact hK _ _ rfl (Below.refl _ _)
    · intro Ac Wc Kc hB hsm dep hK
      have t207 : Ac.tmps.getD 207 undef = .bool true := dep 4 rfl
      show Oper.wp _ _ Ac Wc Kc _
      go_simp
      exact hK _ _ rfl (Below.refl _ _)
    · intro Ac Wc Kc hB hsm dep hK
      have t0 : Ac.tmps.getD 0 undef = .pointer (some ⟨m + 1, 0, none⟩) := hsm 0 rfl
      refine ⟨true, (show Ac.tmps.getD 208 undef = .bool true from dep 5 rfl), ?_⟩
      rw [if_pos rfl]
      go_simp
      exact hK _ _ rfl (Below.refl _ _)
    · intro Ac Wc Kc hB hsm dep hK
      have t209 : Ac.tmps.getD 209 undef = .pointer (some ⟨m + 1, 0, none⟩) := dep 6 rfl
      refine ⟨true, (show Ac.tmps.getD 208 undef = .bool true from dep 5 rfl), ?_⟩
      rw [if_pos rfl]
      go_simp
      refine (fstrength_b Wc m K LL (HG.out Wc hB).pr.fr).mono ?_
      rintro e w' ⟨rfl, hb⟩
      exact hK _ _ rfl hb
    · intro Ac Wc Kc hB hsm dep hK
      have t1 : Ac.tmps.getD 1 undef = .pointer (some ⟨q, 0, none⟩) := hsm 1 rfl
      refine ⟨true, (show Ac.tmps.getD 208 undef = .bool true from dep 5 rfl), ?_⟩
      rw [if_pos rfl]
      go_simp
      exact hK _ _ rfl (Below.refl _ _)
    · intro Ac Wc Kc hB hsm dep hK
      have t211 : Ac.tmps.getD 211 undef = .pointer (some ⟨q, 0, none⟩) := dep 8 rfl
      refine ⟨true, (show Ac.tmps.getD 208 undef = .bool true from dep 5 rfl), ?_⟩
      rw [if_pos rfl]
      go_simp
      exact hK _ _ rfl (Below.refl _ _)
    · intro Ac Wc Kc hB hsm dep hK
      have t212 : Ac.tmps.getD 212 undef = .pointer (some ⟨q, 0, none⟩) := dep 9 rfl
      refine ⟨true, (show Ac.tmps.getD 208 undef = .bool true from dep 5 rfl), ?_⟩
      rw [if_pos rfl]
      go_simp
      exact hK _ _ rfl (Below.refl _ _)
    · intro Ac Wc Kc hB hsm dep hK
      have t213 : Ac.tmps.getD 213 undef = .pointer (some ⟨q, 0, none⟩) := dep 10 rfl
      refine ⟨true, (show Ac.tmps.getD 208 undef = .bool true from dep 5 rfl), ?_⟩
      rw [if_pos rfl]
      have c0 := (HG.out Wc hB).pr.rf.lv.cells.1
      go_simp
      exact hK _ _ rfl (Below.refl _ _)
    · intro Ac Wc Kc hB hsm dep hK
      have t210 : Ac.tmps.getD 210 undef = .int .i64 K := dep 7 rfl
      have t214 : Ac.tmps.getD 214 undef = .int .i64 K := dep 11 rfl
      refine ⟨true, (show Ac.tmps.getD 208 undef = .bool true from dep 5 rfl), ?_⟩
      rw [if_pos rfl]
      go_simp
      exact hK _ _ rfl (Below.refl _ _)
    · intro Ac Wc Kc hB hsm dep hK
      have t208 : Ac.tmps.getD 208 undef = .bool true := dep 5 rfl
      have t215 : Ac.tmps.getD 215 undef = .bool true := dep 12 rfl
      show Oper.wp _ _ Ac Wc Kc _
      go_simp
      exact hK _ _ rfl (Below.refl _ _)
    · intro Ac Wc Kc hB hsm dep hK
      have t216 : Ac.tmps.getD 216 undef = .bool true := dep 13 rfl
      show Oper.wp _ _ Ac Wc Kc _
      go_simp
      exact hK _ _ rfl (Below.refl _ _)
end Go.Proofs.YtabdobdopcfllaaDoor
