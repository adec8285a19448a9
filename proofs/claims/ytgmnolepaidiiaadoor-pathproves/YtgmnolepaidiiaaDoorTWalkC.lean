/-
  Walks of package path: blocks, Prove. Own work.
-/
import Derived.Test.YtgmnolepaidiiaaDoorTWalkB
namespace Go.Proofs.YtgmnolepaidiiaaDoor
open Go.RowKit
open Cv (RdC zl)
attribute [local go_sem ↓] Go.wp_at_zero Go.wp_at_succ
/-- Three lists in a row. -/
theorem cat3_B {w : World} {g0 : Nat} {u0 u1 u2 : Value} {L0 L1 L2 : List (Int × Nat)} (c0 : w.cell? ⟨g0, 0, none⟩ = some u0) (c1 : w.cell? ⟨g0, 1, none⟩ = some u1) (c2 : w.cell? ⟨g0, 2, none⟩ = some u2) (r0 : RdC w u0 L0.length (Cv.cB L0)) (r1 : RdC w u1 L1.length (Cv.cB L1)) (r2 : RdC w u2 L2.length (Cv.cB L2)) : CatB w g0 [u0, u1, u2] [L0, L1, L2] := by
  refine ⟨rfl, fun j hj => ?_, fun j hj => ?_⟩
  · match j, hj with
    | 0, _ => exact c0
    | 1, _ => exact c1
    | 2, _ => exact c2
  · match j, hj with
    | 0, _ => exact r0
    | 1, _ => exact r1
    | 2, _ => exact r2
theorem cat3_S {w : World} {g0 : Nat} {u0 u1 u2 : Value} {L0 L1 L2 : List ByteArray} (c0 : w.cell? ⟨g0, 0, none⟩ = some u0) (c1 : w.cell? ⟨g0, 1, none⟩ = some u1) (c2 : w.cell? ⟨g0, 2, none⟩ = some u2) (r0 : RdC w u0 L0.length (cS L0)) (r1 : RdC w u1 L1.length (cS L1)) (r2 : RdC w u2 L2.length (cS L2)) : CatS w g0 [u0, u1, u2] [L0, L1, L2] := by
  refine ⟨rfl, fun j hj => ?_, fun j hj => ?_⟩
  · match j, hj with
    | 0, _ => exact c0
    | 1, _ => exact c1
    | 2, _ => exact c2
  · match j, hj with
    | 0, _ => exact r0
    | 1, _ => exact r1
    | 2, _ => exact r2
theorem rdc_slice {w : World} {u : Value} {m : Nat} {news : List Value} (h : RdC w u m news) : ∃ ao cap, u = .slice ao m cap := by
  obtain ⟨ao, cap, e, _⟩ := h
  exact ⟨ao, cap, e⟩
set_option maxRecDepth 100000 in
theorem blocks_any (w : World) (vb va vc : Value) (L0 L1 L2 L : List (Int × Nat)) (hL : L0 ++ (L1 ++ L2) = L) (r0 : RdC w vb L0.length (Cv.cB L0)) (r1 : RdC w va L1.length (Cv.cB L1)) (r2 : RdC w vc L2.length (Cv.cB L2)) (hm : L.length ≤ 1048576) :
    Calls Tryd.prog 40 #[.agg #[vb, va, vc]] w fun e w' => ∃ v, e = .returned v ∧ Cv.OwnB w' w.heap.size v L ∧ Below w.heap.size w w' := by
  obtain ⟨a0, p0, rfl⟩ := rdc_slice r0
  obtain ⟨a1, p1, rfl⟩ := rdc_slice r1
  obtain ⟨a2, p2, rfl⟩ := rdc_slice r2
  obtain ⟨o1, ho1⟩ : ∃ o1, Obj.cells #[.slice a0 L0.length p0, .slice a1 L1.length p1, .slice a2 L2.length p2] 60 (0, 0) = o1 := ⟨_, rfl⟩
  obtain ⟨o2, ho2⟩ : ∃ o2, Obj.cells #[.slice a0 L0.length p0, .slice a1 L1.length p1, .slice a2 L2.length p2] 58 (0, 0) = o2 := ⟨_, rfl⟩
  have hb1 := bal (Below.refl w.heap.size w) o1
  have hb2 := bal hb1 o2
  have hc : CatB ((w.alloc o1).alloc o2) (w.heap.size + 1) [.slice a0 L0.length p0, .slice a1 L1.length p1, .slice a2 L2.length p2] [L0, L1, L2] := by
    have hx : ((w.alloc o1).alloc o2).heap[w.heap.size + 1]? = some o2 := by
      have := heap_alloc_new (w.alloc o1) o2
      rwa [World.size_alloc] at this
    have hx : ((w.alloc o1).alloc o2).heap[w.heap.size + 1]? = some (.cells #[.slice a0 L0.length p0, .slice a1 L1.length p1, .slice a2 L2.length p2] 58 (0, 0)) := hx.trans (by rw [ho2])
    refine cat3_B ?_ ?_ ?_ (Cv.rdc_keep r0 hb2) (Cv.rdc_keep r1 hb2) (Cv.rdc_keep r2 hb2)
    · rw [cell_of_row _ _ 0 _ _ (0, 0) hx]; rfl
    · rw [cell_of_row _ _ 1 _ _ (0, 0) hx]; rfl
    · rw [cell_of_row _ _ 2 _ _ (0, 0) hx]; rfl
  have HC : Calls Tryd.prog 58 #[.slice (some ⟨w.heap.size + 1, 0, none⟩) 3 3] ((w.alloc o1).alloc o2) fun e w' => ∃ v, e = .returned v ∧ Cv.OwnB w' ((w.alloc o1).alloc o2).heap.size v L ∧ Below ((w.alloc o1).alloc o2).heap.size ((w.alloc o1).alloc o2) w' := concat_B _ _ 3 _ _ hc (by simp) (by simp only [List.flatten_cons, List.flatten_nil, List.append_nil]; rw [hL]; omega) L (by simp only [List.flatten_cons, List.flatten_nil, List.append_nil]; exact hL)
  have HB := hide hb2
  rw [← ho1, ← ho2] at HC HB
  clear hc hb1 hb2 ho1 ho2 hm hL r0 r1 r2
  go_enter Tryd.func40, Tryd.ntmps40
  go_wp2_with (go_at_call 58; with_reducible refine HC.mono ?_; rintro e w1 ⟨v, rfl, ho, hb⟩)
  go_ret
  exact ⟨_, rfl, ho.mono HB.out.size, bnext HB.out hb⟩
/-- A proof in six cells. -/
def Six (w : World) (s : Nat) (a b c d e f : Value) : Prop := w.heap[s]? = some (.cells #[a, b, c, d, e, f] 26 (0, 0))
section
variable {w W : World} {s : Nat} {a b c d e f : Value}
theorem Six.cells (h : Six w s a b c d e f) : w.cell? ⟨s, 0, none⟩ = some a ∧ w.cell? ⟨s, 1, none⟩ = some b ∧ w.cell? ⟨s, 2, none⟩ = some c ∧ w.cell? ⟨s, 3, none⟩ = some d ∧ w.cell? ⟨s, 4, none⟩ = some e ∧ w.cell? ⟨s, 5, none⟩ = some f :=
  ⟨by rw [cell_of_row w s 0 _ _ (0, 0) h]; rfl, by rw [cell_of_row w s 1 _ _ (0, 0) h]; rfl, by rw [cell_of_row w s 2 _ _ (0, 0) h]; rfl, by rw [cell_of_row w s 3 _ _ (0, 0) h]; rfl, by rw [cell_of_row w s 4 _ _ (0, 0) h]; rfl, by rw [cell_of_row w s 5 _ _ (0, 0) h]; rfl⟩
theorem Six.fz (h : Six w s a b c d e f) (j : Nat) : w.frozen? ⟨s, j, none⟩ = false := frozen_of_row w s j _ _ h
theorem Six.lt (h : Six w s a b c d e f) : s < w.heap.size := (Array.getElem?_eq_some_iff.1 h).1
theorem Six.same (h : Six w s a b c d e f) (hb : W.heap[s]? = w.heap[s]?) : Six W s a b c d e f := hb.trans h
theorem Six.next (h : Six w s a b c d e f) (hb : Below w.heap.size w W) : Six W s a b c d e f := h.same (hb.block s h.lt)
theorem six_new (w : World) (a b c d e f : Value) : Six (w.alloc (.cells #[a, b, c, d, e, f] 26)) w.heap.size a b c d e f := heap_alloc_new w _
/-- A proof is put in its place. -/
def put6 (w : World) (s : Nat) (a b c d e f : Value) : World := (((((w.setCell ⟨s, 0, none⟩ a).setCell ⟨s, 1, none⟩ b).setCell ⟨s, 2, none⟩ c).setCell ⟨s, 3, none⟩ d).setCell ⟨s, 4, none⟩ e).setCell ⟨s, 5, none⟩ f
theorem Six.put (h : Six w s a b c d e f) (a' b' c' d' e' f' : Value) : Six (put6 w s a' b' c' d' e' f') s a' b' c' d' e' f' := by
  have h0 := heap_setCell_same w s 0 _ _ a' h
  have h1 := heap_setCell_same _ s 1 _ _ b' h0
  have h2 := heap_setCell_same _ s 2 _ _ c' h1
  have h3 := heap_setCell_same _ s 3 _ _ d' h2
  have h4 := heap_setCell_same _ s 4 _ _ e' h3
  exact heap_setCell_same _ s 5 _ _ f' h4
theorem put6_ch (w : World) (s : Nat) (a b c d e f : Value) : ChT (fun x => x = s) w (put6 w s a b c d e f) :=
  ((((((ChT.refl (fun x => x = s) w).set s 0 a rfl).set s 1 b rfl).set s 2 c rfl).set s 3 d rfl).set s 4 e rfl).set s 5 f rfl
end
theorem ChT.below {S : Nat → Prop} {w w' : World} (h : ChT S w w') {B : Nat} (hS : ∀ b, S b → B ≤ b) : Below B w w' :=
  ⟨h.os, h.tape, h.output, Nat.le_of_eq h.size.symm, fun b hb => h.block b fun hs => by have := hS b hs; omega⟩
/-- No proof. -/
abbrev noP : Value := .agg #[.int .i64 0, .int .i64 0, .int .u64 0, .int .u64 0, .slice none 0 0, .slice none 0 0]
theorem prove_size (w : World) (m : Nat) (k : Int) (L : List ByteArray) (hF : Frs w m k L) (n i : Nat) (hn : L.length < n) :
    Calls Tryd.prog 16 #[.pointer (some ⟨m + 1, 0, none⟩), .int .u64 (n : Int), .int .u64 (i : Int)] w fun e w' => e = .returned (.tuple #[noP, .int .i64 30]) ∧ Below w.heap.size w w' := by
  have hb := bal (Below.refl w.heap.size w) (.cells #[.int .i64 0, .int .i64 0, .int .u64 0, .int .u64 0, .slice none 0 0, .slice none 0 0] 26)
  have HS := fsize_any _ m k L (hF.next hb (Nat.le_refl _))
  have hn' : (L.length : Int) < (n : Int) := by omega
  clear hF hn
  go_enter Tryd.func16, Tryd.ntmps16
  go_wp2_with (go_at_call 39; with_reducible refine HS.mono ?_; rintro e w1 ⟨rfl, rfl⟩)
  refine bodyPost_ret (v := .tuple #[noP, .int .i64 30]) (by simp [results, Tryd.results16, go_sem]) rfl ⟨rfl, ?_⟩
  exact hb
theorem prove_index (w : World) (m : Nat) (k : Int) (L : List ByteArray) (hF : Frs w m k L) (n i : Nat) (hn : n ≤ L.length) (hi : n ≤ i) :
    Calls Tryd.prog 16 #[.pointer (some ⟨m + 1, 0, none⟩), .int .u64 (n : Int), .int .u64 (i : Int)] w fun e w' => e = .returned (.tuple #[noP, .int .i64 31]) ∧ Below w.heap.size w w' := by
  have hb := bal (Below.refl w.heap.size w) (.cells #[.int .i64 0, .int .i64 0, .int .u64 0, .int .u64 0, .slice none 0 0, .slice none 0 0] 26)
  have HS := fsize_any _ m k L (hF.next hb (Nat.le_refl _))
  have hn' : ¬ (L.length : Int) < (n : Int) := by omega
  have hi' : (n : Int) ≤ (i : Int) := by omega
  clear hF hn hi
  go_enter Tryd.func16, Tryd.ntmps16
  go_wp2_with (go_at_call 39; with_reducible refine HS.mono ?_; rintro e w1 ⟨rfl, rfl⟩)
  refine bodyPost_ret (v := .tuple #[noP, .int .i64 31]) (by simp [results, Tryd.results16, go_sem]) rfl ⟨rfl, ?_⟩
  exact hb
set_option maxRecDepth 100000 in
set_option maxHeartbeats 1000000 in
theorem prove_ok (w : World) (m : Nat) (k : Int) (L : List ByteArray) (hF : Frs w m k L) (n i H : Nat) (A B : List (Nat × Nat)) (hw : Wy n i A H B) (hn : n ≤ L.length) (hi : i < n) (D : List ByteArray) (hD : dgP (clk k) L i H A B = D) :
    Calls Tryd.prog 16 #[.pointer (some ⟨m + 1, 0, none⟩), .int .u64 (n : Int), .int .u64 (i : Int)] w fun e w' => ∃ vs vd, e = .returned (.tuple #[.agg #[.int .i64 1, .int .i64 k, .int .u64 0, .int .u64 (n : Int), vs, vd], .int .i64 0]) ∧ Cv.Own w' w.heap.size vs [i] ∧ OwnS w' w.heap.size vd D ∧ Below w.heap.size w w' := by
  have hL := hF.hn
  obtain ⟨o0, ho0⟩ : ∃ o0, Obj.cells #[.int .i64 0, .int .i64 0, .int .u64 0, .int .u64 0, .slice none 0 0, .slice none 0 0] 26 (0, 0) = o0 := ⟨_, rfl⟩
  have hb := bal (Below.refl w.heap.size w) o0
  have HS := fsize_any _ m k L (hF.next hb (Nat.le_refl _))
  have hin := hw.inn (by omega)
  have hln := hw.len
  have hlH := hw.hH
  have HW : Hid (∀ W, Calls Tryd.prog 24 #[.int .u64 (n : Int), .int .u64 (i : Int)] W fun e w' => ∃ vb va vc, e = .returned (.agg #[vb, va, vc]) ∧ RdC w' vb (zl (bes i H)).length (Cv.cB (zl (bes i H))) ∧ RdC w' va (zl A).length (Cv.cB (zl A)) ∧ RdC w' vc (zl B).length (Cv.cB (zl B)) ∧ Below W.heap.size W w') := fun W => by
    rw [Cv.zl_len, Cv.zl_len, Cv.zl_len, bes_len]
    exact way_any W n i H A B hw (by omega) hi
  obtain ⟨C, hC⟩ : ∃ C, zl (wyB i H A B) = C := ⟨_, rfl⟩
  have hlC : C.length ≤ 80 := by rw [← hC, Cv.zl_len, wyB_len]; omega
  have HBk : Hid (∀ W vb va vc, RdC W vb (zl (bes i H)).length (Cv.cB (zl (bes i H))) → RdC W va (zl A).length (Cv.cB (zl A)) → RdC W vc (zl B).length (Cv.cB (zl B)) → Calls Tryd.prog 40 #[.agg #[vb, va, vc]] W fun e w' => ∃ ao g cap, e = .returned (.slice ao C.length cap) ∧ RdB w' ao g 0 C.length C ∧ Below W.heap.size W w') := fun W vb va vc r0 r1 r2 => by
    refine (blocks_any W vb va vc _ _ _ C (by rw [← hC, wyB, Cv.zl_app, Cv.zl_app]) r0 r1 r2 (by omega)).mono fun e w' ⟨v, e1, e2, e3⟩ => ?_
    obtain ⟨ao, g, n', cap, rfl, hr, _⟩ := own_rdB e2 (fun b hb => by
      rw [← hC] at hb
      obtain ⟨b0, hb0, rfl⟩ := List.mem_map.1 hb
      exact (fit40 (hin b0 hb0) (by omega)).1)
    obtain rfl := hr.len
    exact ⟨ao, g, cap, e1, hr, e3⟩
  have hds : dgs (clk k) L C = some D := by rw [← hC, dgs_all (fun b hb => Nat.le_trans (hin b hb) hn), ← hD]; rfl
  have HD : Hid (∀ W ao g cap, Below w.heap.size w W → RdB W ao g 0 C.length C → Calls Tryd.prog 38 #[.pointer (some ⟨m + 1, 0, none⟩), .slice ao C.length cap] W fun e w' => Below W.heap.size W w' ∧ ∃ ad md cd, e = .returned (.tuple #[.slice ad md cd, .bool true]) ∧ OwnS w' W.heap.size (.slice ad md cd) D) := fun W ao g cap hb hr => by
    refine (fdigests_any W m k L (hF.next hb (Nat.le_refl _)) ao g 0 cap C hr (by omega)).mono ?_
    rintro e w' ⟨hb', ⟨h1, _⟩ | ⟨D', h1, v, rfl, ho⟩⟩
    · rw [hds] at h1; cases h1
    · rw [hds] at h1
      injection h1 with h1
      subst h1
      obtain ⟨ad, md, cd, rfl⟩ := Cv.own_slice ho
      exact ⟨hb', ad, md, cd, rfl, ho⟩
  have HSt : Hid (∀ W, Below w.heap.size w W → Calls Tryd.prog 41 #[.pointer (some ⟨m + 1, 0, none⟩)] W fun e w' => e = .returned (.int .i64 k) ∧ W = w') := fun W hb => (fstrength_any W m k L (hF.next hb (Nat.le_refl _))).mono fun _ _ h => ⟨h.1, h.2.symm⟩
  have hn' : ¬ (L.length : Int) < (n : Int) := by omega
  have hi' : ¬ (n : Int) ≤ (i : Int) := by omega
  have hi2 : i < n := hi
  have HP : Hid (∀ W, Below (w.alloc o0).heap.size (w.alloc o0) W → Six W w.heap.size (.int .i64 0) (.int .i64 0) (.int .u64 0) (.int .u64 0) (.slice none 0 0) (.slice none 0 0)) := fun W hb => Six.next (show Six (w.alloc o0) _ _ _ _ _ _ _ by rw [← ho0]; exact six_new w _ _ _ _ _ _) hb
  rw [← ho0] at hb HS HP
  clear hF hn hi hw hL ho0 hin hds hD hlC hC hln hlH hi2
  go_enter Tryd.func16, Tryd.ntmps16
  go_wp2_with (first
    | (go_at_call 39; with_reducible refine HS.mono ?_; rintro e w0 ⟨rfl, rfl⟩)
    | (go_at_call 24; with_reducible refine (HW.out _).mono ?_; rintro e w1 ⟨vb, va, vc, rfl, q0, q1, q2, hb1⟩)
    | (go_at_call 40; with_reducible refine (HBk.out _ _ _ _ q0 q1 q2).mono ?_; rintro e w2 ⟨ao, g, cap, rfl, hr, hb2⟩)
    | (go_at_call 38; with_reducible refine (HD.out _ _ _ _ (bnext (bnext hb hb1) hb2) hr).mono ?_; rintro e w3 ⟨hb3, ad, md, cd, rfl, ho⟩)
    | (go_at_call 41; with_reducible refine (HSt.out _ (bnext (bnext (bnext hb hb1) hb2) hb3)).mono ?_; rintro e w4 ⟨rfl, rfl⟩; have h6 := HP.out _ (bal (bnext (bnext hb1 hb2) hb3) (.cells #[.int .u64 (i : Int)] 22)); obtain ⟨k0, k1, k2, k3, k4, k5⟩ := h6.cells; have f0 := h6.fz))
  have hF6 := h6.put (.int .i64 1) (.int .i64 k) (.int .u64 0) (.int .u64 (n : Int)) (.slice (some ⟨w3.heap.size, 0, none⟩) 1 1) (.slice ad md cd)
  have hch := put6_ch (w3.alloc (.cells #[.int .u64 (i : Int)] 22)) w.heap.size (.int .i64 1) (.int .i64 k) (.int .u64 0) (.int .u64 (n : Int)) (.slice (some ⟨w3.heap.size, 0, none⟩) 1 1) (.slice ad md cd)
  unfold put6 at hF6 hch
  generalize ((((((w3.alloc (.cells #[.int .u64 (i : Int)] 22)).setCell ⟨w.heap.size, 0, none⟩ (.int .i64 1)).setCell ⟨w.heap.size, 1, none⟩ (.int .i64 k)).setCell ⟨w.heap.size, 2, none⟩ (.int .u64 0)).setCell ⟨w.heap.size, 3, none⟩ (.int .u64 (n : Int))).setCell ⟨w.heap.size, 4, none⟩ (.slice (some ⟨w3.heap.size, 0, none⟩) 1 1)).setCell ⟨w.heap.size, 5, none⟩ (.slice ad md cd) = WF at *
  obtain ⟨s0, s1, s2, s3, s4, s5⟩ := hF6.cells
  refine bodyPost_ret (v := .tuple #[.agg #[.int .i64 1, .int .i64 k, .int .u64 0, .int .u64 (n : Int), .slice (some ⟨w3.heap.size, 0, none⟩) 1 1, .slice ad md cd], .int .i64 0]) (by simp [results, Tryd.results16, go_sem, s0, s1, s2, s3, s4, s5]) rfl ?_
  have hb4 := bnext (bnext (bnext hb hb1) hb2) hb3
  have z3 := (bnext hb1 (bnext hb2 hb3)).size
  rw [World.size_alloc] at z3
  refine ⟨_, _, rfl, ?_, ?_, (bal hb4 _).trans (hch.below (by rintro b rfl; exact Nat.le_refl _))⟩
  · have : Cv.Own (w3.alloc (.cells #[.int .u64 (i : Int)] 22)) w.heap.size (.slice (some ⟨w3.heap.size, 0, none⟩) 1 1) [i] := ⟨rfl, .inr ⟨w3.heap.size, 1, _, rfl, by omega, heap_alloc_new w3 _, by simp, by decide, rfl, rfl⟩⟩
    exact keep_row this fun g hg _ => by
      cases hg
      exact hch.block _ (by show ¬ w3.heap.size = w.heap.size; omega)
  · have h1 := own_al ho (.cells #[.int .u64 (i : Int)] 22)
    have hz2 := (bnext hb1 hb2).size
    rw [World.size_alloc] at hz2
    exact (keep_row h1 fun g _ hg => hch.block g (by omega)).mono (by omega)
end Go.Proofs.YtgmnolepaidiiaaDoor
