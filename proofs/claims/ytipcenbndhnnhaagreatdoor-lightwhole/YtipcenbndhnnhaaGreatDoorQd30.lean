/-
  Own work: BWalkF, LMade.
-/
import Derived.Lib.BufferMore
import Derived.Test.YtipcenbndhnnhaaGreatDoorQd24
namespace Go.Proofs.YtipcenbndhnnhaaGreatDoor
open Go.RowKit
open Cv (RdC zl cU tno)
open Pl (pw)
attribute [local go_sem ↓] Go.wp_at_zero Go.wp_at_succ
set_option maxRecDepth 100000 in
theorem clone_any (w : World) (b off cap : Nat) (S : List Nat) (hr : RdU w (some ⟨b, off, none⟩) b off S.length S) (hm : S.length ≤ 1048576) :
    Calls Tryz.prog 30 #[.slice (some ⟨b, off, none⟩) S.length cap] w fun e w' => ∃ v, e = .returned v ∧ Cv.Own w' w.heap.size v S ∧ Below w.heap.size w w' := by
  have hb := bal (Below.refl w.heap.size w) (.cells #[] 23)
  have ho : Cv.Own (w.alloc (.cells #[] 23)) w.heap.size (.slice (some ⟨w.heap.size, 0, none⟩) 0 0) [] := ⟨rfl, .inr ⟨w.heap.size, 0, _, rfl, Nat.le_refl _, heap_alloc_new w _, Nat.zero_le _, by decide, rfl, rfl⟩⟩
  have HO := hide ho
  have HR := hide (rdu_rdc (cap := cap) (hr.next hb) (fun e => by cases e))
  have HB := hide hb
  have HE := Lib.run_eql_slice_some_nil (P := Tryz.prog) w ⟨b, off, none⟩ S.length cap Tryz.underlying24
  clear hr ho hb
  go_enter Tryz.func30, Tryz.ntmps30
  go_wp2_with (at_builtin; refine Cv.wpList_append_U _ rfl _ _ rfl w.heap.size _ [] rfl HO.out _ S rfl HR.out ?c1 ?c2 ?_)
  case c1 => simp only [List.length_nil]; omega
  case c2 => have := HB.out.size; exact this
  intro v' w' o' g' _
  have HY : Hid (Cv.Own w' w.heap.size v' S ∧ Below w.heap.size w w') := ⟨o', HB.out.trans ((Below.refl _ _).grown g' HB.out.size (fun k hk => by cases hk; exact Nat.le_refl _))⟩
  clear o' g'
  go_wp2
  go_ret
  exact ⟨_, rfl, HY.out.1, HY.out.2⟩
abbrev zP : Obj := .cells #[.int .i64 0, .int .i64 0, .int .u64 0, .int .u64 0, .slice none 0 0, .slice none 0 0] 38
theorem bprove_size (w : World) (m : Nat) (k : Int) (L : List ByteArray) (hF : Frs w m k L) (n : Nat) (hn : L.length < n) (ao : Option Addr) (ns c : Nat) :
    Calls Tryz.prog 11 #[.pointer (some ⟨m + 1, 0, none⟩), .int .u64 (n : Int), .slice ao ns c] w fun e w' => e = .returned (.tuple #[noP, .int .i64 30]) ∧ Below w.heap.size w w' := by
  have hb := bal (Below.refl w.heap.size w) zP
  have HS := fsize_any _ m k L (hF.next hb (Nat.le_refl _))
  have hn' : (L.length : Int) < (n : Int) := by omega
  unfold zP at hb HS
  clear hF hn
  go_enter Tryz.func11, Tryz.ntmps11
  go_wp2_with (go_at_call 26; with_reducible refine HS.mono ?_; rintro e w1 ⟨rfl, rfl⟩)
  refine bodyPost_ret (v := .tuple #[noP, .int .i64 30]) (by simp [results, Tryz.results11, go_sem]) rfl ⟨rfl, ?_⟩
  exact hb
set_option maxRecDepth 100000 in
theorem bprove_err (w : World) (m : Nat) (k : Int) (L : List ByteArray) (hF : Frs w m k L) (n : Nat) (hn : n ≤ L.length) (ao : Option Addr) (b off ns c : Nat) (S : List Nat) (hr : RdU w ao b off ns S) (hm : ns ≤ maxLen) (e0 : Nat) (he : Cv.errS n S = e0) (h0 : e0 ≠ 0) :
    Calls Tryz.prog 11 #[.pointer (some ⟨m + 1, 0, none⟩), .int .u64 (n : Int), .slice ao ns c] w fun e w' => e = .returned (.tuple #[noP, .int .i64 (e0 : Int)]) ∧ Below w.heap.size w w' := by
  have hb := bal (Below.refl w.heap.size w) zP
  have HS := (fsize_any _ m k L (hF.next hb (Nat.le_refl _)))
  have HC := Cv.rest_err n e0 (w.alloc zP) ao b off ns c S (rdu_rd (hr.next hb)) hm he h0
  have hn' : ¬ (L.length : Int) < (n : Int) := by omega
  have hz : ¬ (e0 : Int) = 0 := by omega
  have H6 := hide (six_new w (.int .i64 0) (.int .i64 0) (.int .u64 0) (.int .u64 0) (.slice none 0 0) (.slice none 0 0))
  unfold zP at hb HS HC
  clear hF hn hr hm he h0
  go_enter Tryz.func11, Tryz.ntmps11
  go_wp2_with (first
    | (go_at_call 26; with_reducible refine HS.mono ?_; rintro e w1 ⟨rfl, rfl⟩)
    | (go_at_call 27; with_reducible refine HC.mono ?_; rintro e w2 ⟨v2, rfl, _, hb2⟩; have h6 := H6.out.next hb2; obtain ⟨k0, k1, k2, k3, k4, k5⟩ := h6.cells; have f0 := h6.fz))
  have hch := put6_ch w2 w.heap.size (.int .i64 0) (.int .i64 0) (.int .u64 0) (.int .u64 0) (.slice none 0 0) (.slice none 0 0)
  have hF6 := h6.put (.int .i64 0) (.int .i64 0) (.int .u64 0) (.int .u64 0) (.slice none 0 0) (.slice none 0 0)
  unfold put6 at hch hF6
  obtain ⟨s0, s1, s2, s3, s4, s5⟩ := hF6.cells
  refine bodyPost_ret (v := .tuple #[noP, .int .i64 (e0 : Int)]) (by simp [results, Tryz.results11, go_sem, s0, s1, s2, s3, s4, s5]) rfl ⟨rfl, ?_⟩
  exact (bnext hb hb2).trans (hch.below (by rintro b rfl; exact Nat.le_refl _))
def dgB (c : Nat) (L : List ByteArray) (n : Nat) (S : List Nat) : List ByteArray := (Cv.rst 0 n S).map fun b => nd c L b.1 b.2
theorem rst_in {n : Nat} {S : List Nat} (he : Cv.errS n S = 0) : ∀ b ∈ Cv.rst 0 n S, (b.2 + 1) * 2 ^ b.1 ≤ n := by
  obtain ⟨h40, _, _, hc⟩ := Cv.errS_ok he
  exact fun b hb => (Cv.til_mem (Cv.rst_but n S h40 hc) b hb).2
theorem rst_num {n : Nat} {S : List Nat} (he : Cv.errS n S = 0) : S.length ≤ n ∧ 0 < S.length := by
  obtain ⟨h40, h0, _, hc⟩ := Cv.errS_ok he
  refine ⟨?_, h0.1⟩
  have key : ∀ (S : List Nat) (x n : Nat), Cv.Chain x S n → S.length + x ≤ n := by
    intro S
    induction S with
    | nil => intro x n h; have h' : x ≤ n := h; rw [List.length_nil]; omega
    | cons i S ih =>
      intro x n h
      have := ih _ _ h.2
      have := h.1
      rw [List.length_cons]; omega
  have := key S 0 n hc
  omega
set_option maxRecDepth 100000 in
set_option maxHeartbeats 1000000 in
theorem bprove_ok (w : World) (m : Nat) (k : Int) (L : List ByteArray) (hF : Frs w m k L) (hL : L.length ≤ 5000) (n : Nat) (hn : n ≤ L.length) (ao : Option Addr) (b off c : Nat) (S : List Nat) (hr : RdU w ao b off S.length S) (he : Cv.errS n S = 0) (D : List ByteArray) (hD : dgB (clk k) L n S = D) :
    Calls Tryz.prog 11 #[.pointer (some ⟨m + 1, 0, none⟩), .int .u64 (n : Int), .slice ao S.length c] w fun e w' => ∃ vs vd, e = .returned (.tuple #[.agg #[.int .i64 2, .int .i64 k, .int .u64 0, .int .u64 (n : Int), vs, vd], .int .i64 0]) ∧ Cv.Own w' w.heap.size vs S ∧ OwnS w' w.heap.size vd D ∧ Below w.heap.size w w' := by
  obtain ⟨hS1, hS0⟩ := rst_num he
  have hin := rst_in he
  obtain ⟨h40, _, _, hc⟩ := Cv.errS_ok he
  obtain rfl := hr.ptr hS0
  obtain ⟨o0, ho0⟩ : ∃ o0, zP = o0 := ⟨_, rfl⟩
  have hb := bal (Below.refl w.heap.size w) o0
  have HS := fsize_any _ m k L (hF.next hb (Nat.le_refl _))
  obtain ⟨C, hC⟩ : ∃ C, zl (Cv.rst 0 n S) = C := ⟨_, rfl⟩
  have hlC : C.length ≤ 1000000 := by rw [← hC, Cv.zl_len]; have := Cv.rst_len n h40 S 0 hc; omega
  have HRs : Calls Tryz.prog 27 #[.int .u64 (n : Int), .slice (some ⟨b, off, none⟩) S.length c] (w.alloc o0) fun e w' => ∃ ao g cap, e = .returned (.tuple #[.slice ao C.length cap, .int .i64 0]) ∧ RdB w' ao g 0 C.length C ∧ Below (w.alloc o0).heap.size (w.alloc o0) w' := by
    refine (Cv.rest_any n (w.alloc o0) (some ⟨b, off, none⟩) b off S.length c S (rdu_rd (hr.next hb)) (by omega)).mono fun e w' ⟨v, e1, e2, e3⟩ => ?_
    rw [he] at e1
    rw [Cv.rstS, if_pos he, hC] at e2
    obtain ⟨ao, g, n', cap, rfl, hr', _⟩ := own_rdB e2 (fun x hx => by
      rw [← hC] at hx
      obtain ⟨b0, hb0, rfl⟩ := List.mem_map.1 hx
      exact (fit40 (hin b0 hb0) h40).1)
    obtain rfl := hr'.len
    exact ⟨ao, g, cap, e1, hr', e3⟩
  have hds : dgs (clk k) L C = some D := by rw [← hC, dgs_all (fun b hb => Nat.le_trans (hin b hb) hn), ← hD]; rfl
  have HD : Hid (∀ W ao g cap, Below w.heap.size w W → RdB W ao g 0 C.length C → Calls Tryz.prog 28 #[.pointer (some ⟨m + 1, 0, none⟩), .slice ao C.length cap] W fun e w' => Below W.heap.size W w' ∧ ∃ ad md cd, e = .returned (.tuple #[.slice ad md cd, .bool true]) ∧ OwnS w' W.heap.size (.slice ad md cd) D) := fun W ao g cap hb hr => by
    refine (fdigests_any W m k L (hF.next hb (Nat.le_refl _)) ao g 0 cap C hr (by omega)).mono ?_
    rintro e w' ⟨hb', ⟨h1, _⟩ | ⟨D', h1, v, rfl, ho⟩⟩
    · rw [hds] at h1; cases h1
    · rw [hds] at h1
      injection h1 with h1
      subst h1
      obtain ⟨ad, md, cd, rfl⟩ := Cv.own_slice ho
      exact ⟨hb', ad, md, cd, rfl, ho⟩
  have HSt : Hid (∀ W, Below w.heap.size w W → Calls Tryz.prog 29 #[.pointer (some ⟨m + 1, 0, none⟩)] W fun e w' => e = .returned (.int .i64 k) ∧ W = w') := fun W hb => (fstrength_any W m k L (hF.next hb (Nat.le_refl _))).mono fun _ _ h => ⟨h.1, h.2.symm⟩
  have HCl : Hid (∀ W, Below w.heap.size w W → Calls Tryz.prog 30 #[.slice (some ⟨b, off, none⟩) S.length c] W fun e w' => ∃ a1 n1 c1, e = .returned (.slice a1 n1 c1) ∧ Cv.Own w' W.heap.size (.slice a1 n1 c1) S ∧ Below W.heap.size W w') := fun W hb => (clone_any W b off c S (hr.next hb) (by omega)).mono fun e w' ⟨v, e1, e2, e3⟩ => by
    obtain ⟨a1, n1, c1, rfl⟩ := Cv.own_slice e2
    exact ⟨a1, n1, c1, e1, e2, e3⟩
  have hn' : ¬ (L.length : Int) < (n : Int) := by omega
  have HP : Hid (∀ W, Below (w.alloc o0).heap.size (w.alloc o0) W → Six W w.heap.size (.int .i64 0) (.int .i64 0) (.int .u64 0) (.int .u64 0) (.slice none 0 0) (.slice none 0 0)) := fun W hb => Six.next (show Six (w.alloc o0) _ _ _ _ _ _ _ by rw [← ho0]; exact six_new w _ _ _ _ _ _) hb
  rw [← ho0] at hb HS HP HRs
  unfold zP at hb HS HP HRs
  clear hF hn hr hL ho0 hin hds hD hlC hC hS1 hS0 hc h40 he
  go_enter Tryz.func11, Tryz.ntmps11
  go_wp2_with (first
    | (go_at_call 26; with_reducible refine HS.mono ?_; rintro e w0 ⟨rfl, rfl⟩)
    | (go_at_call 27; with_reducible refine HRs.mono ?_; rintro e w1 ⟨ao, g, cap, rfl, hr1, hb1⟩)
    | (go_at_call 28; with_reducible refine (HD.out _ _ _ _ (bnext hb hb1) hr1).mono ?_; rintro e w2 ⟨hb2, ad, md, cd, rfl, ho⟩)
    | (go_at_call 29; with_reducible refine (HSt.out _ (bnext (bnext hb hb1) hb2)).mono ?_; rintro e w3 ⟨rfl, rfl⟩)
    | (go_at_call 30; with_reducible refine (HCl.out _ (bnext (bnext hb hb1) hb2)).mono ?_; rintro e w4 ⟨a4, n4, c4, rfl, ho4, hb4⟩; have h6 := HP.out _ (bnext (bnext hb1 hb2) hb4); obtain ⟨k0, k1, k2, k3, k4, k5⟩ := h6.cells; have f0 := h6.fz))
  have hF6 := h6.put (.int .i64 2) (.int .i64 k) (.int .u64 0) (.int .u64 (n : Int)) (.slice a4 n4 c4) (.slice ad md cd)
  have hch := put6_ch w4 w.heap.size (.int .i64 2) (.int .i64 k) (.int .u64 0) (.int .u64 (n : Int)) (.slice a4 n4 c4) (.slice ad md cd)
  have hle := (bnext hb1 hb2).size
  unfold put6 at hF6 hch
  obtain ⟨s0, s1, s2, s3, s4, s5⟩ := hF6.cells
  rw [World.size_alloc] at hle
  refine bodyPost_ret (v := .tuple #[.agg #[.int .i64 2, .int .i64 k, .int .u64 0, .int .u64 (n : Int), .slice a4 n4 c4, .slice ad md cd], .int .i64 0]) (by simp [results, Tryz.results11, go_sem, s0, s1, s2, s3, s4, s5]) rfl ?_
  have hz1 := hb1.size
  rw [World.size_alloc] at hz1
  refine ⟨_, _, rfl, ?_, ?_, (bnext (bnext (bnext hb hb1) hb2) hb4).trans (hch.below (by rintro b rfl; exact Nat.le_refl _))⟩
  · exact (keep_row ho4 fun g _ hg => hch.block g (by omega)).mono (by omega)
  · exact (keep_row (own_next ho hb4 (Nat.le_refl _)) fun g _ hg => hch.block g (by omega)).mono (by omega)
end Go.Proofs.YtipcenbndhnnhaaGreatDoor
namespace Go.Proofs.YtipcenbndhnnhaaGreatDoor
open Go.RowKit
attribute [local go_sem ↓] Go.wp_at_zero Go.wp_at_succ
theorem taken_next {ss : List ByteArray} {j : Nat} (h : j < ss.length) : ss.take (j + 1) = ss.take j ++ [ss.getD j ByteArray.empty] := by
  rw [List.take_add_one, List.getD_eq_getElem?_getD, List.getElem?_eq_getElem h]; rfl
abbrev vE (k : Int) (vl : Value) (m n : Nat) (vs : Value) : Value := .agg #[.int .i64 k, vl, .int .u64 (m : Int), .int .u64 (n : Int), vs]
def Fv (w : World) (p : Nat) (a b c d e : Value) : Prop := w.heap[p]? = some (.cells #[a, b, c, d, e] 26 (0, 0))
section
variable {w W : World} {p : Nat} {a b c d e : Value}
theorem Fv.cells (h : Fv w p a b c d e) : w.cell? ⟨p, 0, none⟩ = some a ∧ w.cell? ⟨p, 1, none⟩ = some b ∧ w.cell? ⟨p, 2, none⟩ = some c ∧ w.cell? ⟨p, 3, none⟩ = some d ∧ w.cell? ⟨p, 4, none⟩ = some e :=
  ⟨by rw [cell_of_row w p 0 _ _ (0, 0) h]; rfl, by rw [cell_of_row w p 1 _ _ (0, 0) h]; rfl, by rw [cell_of_row w p 2 _ _ (0, 0) h]; rfl, by rw [cell_of_row w p 3 _ _ (0, 0) h]; rfl, by rw [cell_of_row w p 4 _ _ (0, 0) h]; rfl⟩
theorem Fv.lt (h : Fv w p a b c d e) : p < w.heap.size := (Array.getElem?_eq_some_iff.1 h).1
theorem Fv.next (h : Fv w p a b c d e) (hb : Below w.heap.size w W) : Fv W p a b c d e := (hb.block p h.lt).trans h
end
theorem fv_box (w : World) (a b c d e : Value) : ∃ W, w.alloc (.cells #[a, b, c, d, e] 26) = W ∧ Fv W w.heap.size a b c d e ∧ Below w.heap.size w W ∧ W.heap.size = w.heap.size + 1 :=
  ⟨_, rfl, heap_alloc_new w _, bal (Below.refl _ _) _, World.size_alloc ..⟩
set_option maxRecDepth 100000 in
theorem eitems_any (w : World) (k : Int) (la : Option Addr) (ll lc m n : Nat) (hc : ll ≤ lc) (vs : Value) (q : Nat) (hq : min ll 200 = q) :
    Calls Tryz.prog 10 #[vE k (.slice la ll lc) m n vs] w fun e w' => e = .returned (.slice la q lc) ∧ Below w.heap.size w w' := by
  obtain ⟨W0, hW0, h5, hb, _⟩ := fv_box w (.int .i64 k) (.slice la ll lc) (.int .u64 (m : Int)) (.int .u64 (n : Int)) vs
  obtain ⟨_, m1, _⟩ := h5.cells
  clear h5
  by_cases h : 200 < ll
  · obtain rfl : q = 200 := by omega
    have hz : (200 : Int) < (ll : Int) := by omega
    have hz2 : (200 : Int) ≤ (lc : Int) := by omega
    clear h hq hc
    go_enter Tryz.func10, Tryz.ntmps10
    go_upto_region 1 with (fail)
    try rw [hW0]
    clear hW0
    go_wp2
    go_ret
    exact ⟨rfl, hb⟩
  · obtain rfl : q = ll := by omega
    have hz : ¬ (200 : Int) < (q : Int) := by omega
    clear h hq hc
    go_enter Tryz.func10, Tryz.ntmps10
    go_upto_region 1 with (fail)
    try rw [hW0]
    clear hW0
    go_wp2
    go_ret
    exact ⟨rfl, hb⟩
set_option maxRecDepth 100000 in
set_option maxHeartbeats 1000000 in
theorem made_any (w : World) (ht : Tb w) (k : Int) (la : Option Addr) (lb lo ll lc : Nat) (L : List ByteArray) (hr : RdS w la lb lo ll L) (hc : ll ≤ lc) (m n : Nat) (vs : Value) (T : List ByteArray) (hT : L.take 200 = T) :
    Calls Tryz.prog 8 #[vE k (.slice la ll lc) m n vs] w fun e w' => (((1 ≤ k ∧ k ≤ 32) ∧ ∀ s ∈ T, s.size ≤ 1048576) ∧ (∃ f, e = .returned (.tuple #[.pointer (some ⟨f + 1, 0, none⟩), .bool true]) ∧ Frs w' f k T) ∧ Below w.heap.size w w') ∨ (¬ ((1 ≤ k ∧ k ≤ 32) ∧ ∀ s ∈ T, s.size ≤ 1048576) ∧ e = .returned (.tuple #[.pointer none, .bool false]) ∧ Below w.heap.size w w') := by
  have hll := hr.hl
  have hTl : T.length = min ll 200 := by rw [← hT, List.length_take]; omega
  have hrT : RdS w la lb lo T.length T := by
    have : T.length = (L.take T.length).length := by rw [List.length_take]; omega
    refine ⟨rfl, fun h => hr.ptr (by omega), fun j v hv => hr.rng j v ?_, fun s hs => hr.sz s (by rw [← hT] at hs; exact (List.take_sublist _ _).subset hs)⟩
    rw [← hT, List.getElem?_map, List.getElem?_take] at hv
    split at hv
    · rw [List.getElem?_map]; exact hv
    · cases hv
  obtain ⟨W0, hW0, h5, hb, hz0⟩ := fv_box w (.int .i64 k) (.slice la ll lc) (.int .u64 (m : Int)) (.int .u64 (n : Int)) vs
  have HI := eitems_any W0 k la ll lc m n hc vs T.length hTl.symm
  unfold vE at HI
  have HX : Hid (∀ F, Below W0.heap.size W0 F → Fv F w.heap.size (.int .i64 k) (.slice la ll lc) (.int .u64 (m : Int)) (.int .u64 (n : Int)) vs ∧ RdS F la lb lo T.length T ∧ Tb F ∧ Below w.heap.size w F) := fun F hF => ⟨h5.next hF, hrT.next (bnext hb hF) (Nat.le_refl _), ht.next (bnext hb hF), bnext hb hF⟩
  have hT2 : T.length ≤ 200 := by omega
  obtain ⟨z0, z1, z2, z3, z4⟩ := h5.cells
  clear hr hT hll hTl hrT hb h5 ht hc
  go_enter Tryz.func8, Tryz.ntmps8
  go_upto_region 1 with (fail)
  try rw [hW0]
  clear hW0
  go_wp2_with (go_at_call 10; with_reducible refine HI.mono ?_; rintro e w1 ⟨rfl, hb1⟩)
  have HX1 : Hid (∀ F, Below w1.heap.size w1 F → Fv F w.heap.size (.int .i64 k) (.slice la ll lc) (.int .u64 (m : Int)) (.int .u64 (n : Int)) vs ∧ RdS F la lb lo T.length T ∧ Tb F ∧ Below w.heap.size w F) := fun F hF => HX.out F (bnext hb1 hF)
  have HZ : Hid (w.heap.size < w1.heap.size) := by have := hb1.size; show w.heap.size < w1.heap.size; omega
  clear HI HX z0 z1 z2 z3 z4 hb1 hz0
  go_loopg [5] T.length (fun g i wr => ∃ j : Nat, j ≤ T.length ∧ g = T.length - j ∧ i = .int .i64 (j : Int) ∧ Hid (∀ t, t < j → (T.getD t ByteArray.empty).size ≤ 1048576) ∧ w1 = wr)
  case atStart =>
    go_light
    exact ⟨0, Nat.zero_le _, rfl, rfl, fun t ht => absurd ht (Nat.not_lt_zero _), rfl⟩
  case round =>
    obtain ⟨j, hj, rfl, rfl, HA, rfl⟩ := hrel
    obtain ⟨y5, yr, yT, yb⟩ := HX1.out w1 (Below.refl _ _)
    have hz0 : (0 : Int) ≤ (j : Int) := Int.natCast_nonneg _
    have hz2 : (T.length : Int) ≤ 200 := by omega
    by_cases hlt : j < T.length
    · have hz : (j : Int) < (T.length : Int) := by omega
      obtain rfl := yr.ptr (by omega)
      have cj := yr.at hlt
      obtain ⟨x, hx⟩ : ∃ x, T.getD j ByteArray.empty = x := ⟨_, rfl⟩
      rw [hx] at cj
      by_cases hxs : x.size ≤ 1048576
      · have hkz : ¬ (1048576 : Int) < (x.size : Int) := by omega
        have HN : Hid (∀ t, t < j + 1 → (T.getD t ByteArray.empty).size ≤ 1048576) := fun t ht => by
          rcases Nat.lt_or_eq_of_le (Nat.le_of_lt_succ ht) with h | rfl
          · exact HA.out t h
          · rw [hx]; exact hxs
        clear hx HA hxs y5 yr yT yb
        go_wp2
        go_roundg (T.length - (j + 1))
        case rel =>
          go_light
          exact ⟨j + 1, by omega, rfl, by go_num, HN.out, rfl⟩
        case measure => go_light; omega
      · have hkz : (1048576 : Int) < (x.size : Int) := by omega
        have HF : Hid (¬ ((1 ≤ k ∧ k ≤ 32) ∧ ∀ s ∈ T, s.size ≤ 1048576)) := fun h => hxs (by
          rw [← hx]
          refine h.2 _ ?_
          rw [List.getD_eq_getElem?_getD, List.getElem?_eq_getElem hlt]
          exact List.getElem_mem _)
        have HB := hide yb
        clear hx HA hxs y5 yr yT yb
        go_wp2
        go_ret2
        exact .inr ⟨HF.out, rfl, HB.out⟩
    · have hz : ¬ ((j : Int) < (T.length : Int)) := by omega
      have HFit : Hid (∀ s ∈ T, s.size ≤ 1048576) := fun s hs => by
        obtain ⟨t, ht, rfl⟩ := List.getElem_of_mem hs
        have := HA.out t (by omega)
        rw [List.getD_eq_getElem?_getD, List.getElem?_eq_getElem ht] at this
        exact this
      have c0 := y5.cells.1
      have HB := hide yb
      clear HA y5 yr yT yb
      by_cases hk : 1 ≤ k ∧ k ≤ 32
      · have HN := fnew_ok w1 k hk.1 hk.2
        have HK := hide hk
        clear hk
        go_wp2_with (go_at_call 22; with_reducible refine HN.mono ?_; rintro e w2 ⟨rfl, hF2, hb2⟩)
        have HF2 := hide (And.intro hF2 hb2)
        clear hF2 HN hb2 c0
        go_loopg [8] T.length (fun g i wr => ∃ j : Nat, j ≤ T.length ∧ g = T.length - j ∧ i = .int .i64 (j : Int) ∧ Hid (Frs wr w1.heap.size k (T.take j)) ∧ Hid (Below w1.heap.size w1 wr))
        case atStart =>
          go_light
          exact ⟨0, Nat.zero_le _, rfl, rfl, HF2.out.1, HF2.out.2⟩
        case round =>
          clear HF2
          obtain ⟨i, hi, rfl, rfl, HA, HB2⟩ := hrel
          obtain ⟨y5, yr, yT, yb⟩ := HX1.out wr HB2.out
          have hi0 : (0 : Int) ≤ (i : Int) := Int.natCast_nonneg _
          by_cases hlt2 : i < T.length
          · have hzi : (i : Int) < (T.length : Int) := by omega
            obtain rfl := yr.ptr (by omega)
            have ci := yr.at hlt2
            obtain ⟨x, hx⟩ : ∃ x, T.getD i ByteArray.empty = x := ⟨_, rfl⟩
            have htn := taken_next hlt2
            rw [hx] at ci htn
            have hxs : x.size ≤ 1048576 := HFit.out x (by rw [← hx, List.getD_eq_getElem?_getD, List.getElem?_eq_getElem hlt2]; exact List.getElem_mem _)
            have hL : (T.take i).length < 65536 := by rw [List.length_take]; omega
            obtain ⟨t, hT⟩ : ∃ t, tr 64 ((T.take i).length + 1) = t := ⟨_, rfl⟩
            have HAp : Hid (Calls Tryz.prog 23 #[.pointer (some ⟨w1.heap.size + 1, 0, none⟩), .string x] wr fun e w' => ∃ v, e = .returned (.tuple #[v, .int .i64 0]) ∧ Frs w' w1.heap.size k (T.take (i + 1)) ∧ Below w1.heap.size w1 w') :=
              (fappend_ok wr yT w1.heap.size k (T.take i) HA.out x hxs hL t hT).mono fun e w' ⟨v, e1, e2, e3, e4⟩ => ⟨v, e1, by rw [htn]; exact e2, HB2.out.trans e4.below⟩
            clear hx htn hL hT yT yr y5 yb HB2 HA hxs
            go_wp2_with (go_at_call 23; with_reducible refine HAp.out.mono ?_; rintro e w3 ⟨v, rfl, hF3, hb3⟩)
            go_roundg (T.length - (i + 1))
            case rel =>
              go_light
              exact ⟨i + 1, by omega, rfl, by go_num, hF3, hb3⟩
            case measure => go_light; omega
          · have hzi : ¬ (i : Int) < (T.length : Int) := by omega
            have HY : Hid (Frs wr w1.heap.size k T ∧ Below w.heap.size w wr) := ⟨by
              have := HA.out
              rw [List.take_of_length_le (by omega)] at this
              exact this, yb⟩
            clear yT yr y5 yb HB2 HA
            go_wp2
            go_ret2
            exact .inl ⟨⟨HK.out, HFit.out⟩, ⟨_, rfl, HY.out.1⟩, HY.out.2⟩
      · have HN := fnew_no w1 k (by omega)
        have HK : Hid (¬ ((1 ≤ k ∧ k ≤ 32) ∧ ∀ s ∈ T, s.size ≤ 1048576)) := fun h => hk h.1
        clear hk
        go_wp2_with (go_at_call 22; with_reducible refine HN.mono ?_; rintro e w2 ⟨rfl, hb2⟩)
        go_ret2
        exact .inr ⟨HK.out, rfl, bnext HB.out hb2⟩
end Go.Proofs.YtipcenbndhnnhaaGreatDoor
