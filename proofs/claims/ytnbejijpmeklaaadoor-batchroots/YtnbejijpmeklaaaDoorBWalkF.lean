/-
  Walks of package batch: Prove. Own work.
-/
import Derived.Test.YtnbejijpmeklaaaDoorBWalkC
import Derived.Lib.BufferMore
namespace Go.Proofs.YtnbejijpmeklaaaDoor
open Go.RowKit
open Cv (RdC zl cU tno)
open Pl (pw)
attribute [local go_sem ↓] Go.wp_at_zero Go.wp_at_succ
set_option maxRecDepth 100000 in
theorem clone_any (w : World) (b off cap : Nat) (S : List Nat) (hr : RdU w (some ⟨b, off, none⟩) b off S.length S) (hm : S.length ≤ 1048576) :
    Calls Tryd.prog 30 #[.slice (some ⟨b, off, none⟩) S.length cap] w fun e w' => ∃ v, e = .returned v ∧ Cv.Own w' w.heap.size v S ∧ Below w.heap.size w w' := by
  have hb := bal (Below.refl w.heap.size w) (.cells #[] 23)
  have ho : Cv.Own (w.alloc (.cells #[] 23)) w.heap.size (.slice (some ⟨w.heap.size, 0, none⟩) 0 0) [] := ⟨rfl, .inr ⟨w.heap.size, 0, _, rfl, Nat.le_refl _, heap_alloc_new w _, Nat.zero_le _, by decide, rfl, rfl⟩⟩
  have HO := hide ho
  have HR := hide (rdu_rdc (cap := cap) (hr.next hb) (fun e => by cases e))
  have HB := hide hb
  have HE := Lib.run_eql_slice_some_nil (P := Tryd.prog) w ⟨b, off, none⟩ S.length cap Tryd.underlying24
  clear hr ho hb
  go_enter Tryd.func30, Tryd.ntmps30
  go_wp2_with (at_builtin; refine Cv.wpList_append_U _ rfl _ _ rfl w.heap.size _ [] rfl HO.out _ S rfl HR.out ?c1 ?c2 ?_)
  case c1 => simp only [List.length_nil]; omega
  case c2 => have := HB.out.size; exact this
  intro v' w' o' g' _
  have HY : Hid (Cv.Own w' w.heap.size v' S ∧ Below w.heap.size w w') := ⟨o', HB.out.trans ((Below.refl _ _).grown g' HB.out.size (fun k hk => by cases hk; exact Nat.le_refl _))⟩
  clear o' g'
  go_wp2
  go_ret
  exact ⟨_, rfl, HY.out.1, HY.out.2⟩
abbrev zP : Obj := .cells #[.int .i64 0, .int .i64 0, .int .u64 0, .int .u64 0, .slice none 0 0, .slice none 0 0] 32
theorem bprove_nil (w : World) (n : Nat) (v : Value) (ao : Option Addr) (m c : Nat) (hv : v = .slice ao m c) :
    Calls Tryd.prog 12 #[.pointer none, .int .u64 (n : Int), v] w fun e w' => e = .returned (.tuple #[noP, .int .i64 70]) ∧ Below w.heap.size w w' := by
  subst hv
  have hb := bal (Below.refl w.heap.size w) zP
  unfold zP at hb
  go_enter Tryd.func12, Tryd.ntmps12
  go_wp2
  refine bodyPost_ret (v := .tuple #[noP, .int .i64 70]) (by simp [results, Tryd.results12, go_sem]) rfl ⟨rfl, ?_⟩
  exact hb
theorem bprove_size (w : World) (m : Nat) (k : Int) (L : List ByteArray) (hF : Frs w m k L) (n : Nat) (hn : L.length < n) (ao : Option Addr) (ns c : Nat) :
    Calls Tryd.prog 12 #[.pointer (some ⟨m + 1, 0, none⟩), .int .u64 (n : Int), .slice ao ns c] w fun e w' => e = .returned (.tuple #[noP, .int .i64 30]) ∧ Below w.heap.size w w' := by
  have hb := bal (Below.refl w.heap.size w) zP
  have HS := fsize_any _ m k L (hF.next hb (Nat.le_refl _))
  have hn' : (L.length : Int) < (n : Int) := by omega
  unfold zP at hb HS
  clear hF hn
  go_enter Tryd.func12, Tryd.ntmps12
  go_wp2_with (go_at_call 26; with_reducible refine HS.mono ?_; rintro e w1 ⟨rfl, rfl⟩)
  refine bodyPost_ret (v := .tuple #[noP, .int .i64 30]) (by simp [results, Tryd.results12, go_sem]) rfl ⟨rfl, ?_⟩
  exact hb
set_option maxRecDepth 100000 in
theorem bprove_err (w : World) (m : Nat) (k : Int) (L : List ByteArray) (hF : Frs w m k L) (n : Nat) (hn : n ≤ L.length) (ao : Option Addr) (b off ns c : Nat) (S : List Nat) (hr : RdU w ao b off ns S) (hm : ns ≤ maxLen) (e0 : Nat) (he : Cv.errS n S = e0) (h0 : e0 ≠ 0) :
    Calls Tryd.prog 12 #[.pointer (some ⟨m + 1, 0, none⟩), .int .u64 (n : Int), .slice ao ns c] w fun e w' => e = .returned (.tuple #[noP, .int .i64 (e0 : Int)]) ∧ Below w.heap.size w w' := by
  have hb := bal (Below.refl w.heap.size w) zP
  have HS := (fsize_any _ m k L (hF.next hb (Nat.le_refl _)))
  have HC := Cv.rest_err n e0 (w.alloc zP) ao b off ns c S (rdu_rd (hr.next hb)) hm he h0
  have hn' : ¬ (L.length : Int) < (n : Int) := by omega
  have hz : ¬ (e0 : Int) = 0 := by omega
  have H6 := hide (six_new w (.int .i64 0) (.int .i64 0) (.int .u64 0) (.int .u64 0) (.slice none 0 0) (.slice none 0 0))
  unfold zP at hb HS HC
  clear hF hn hr hm he h0
  go_enter Tryd.func12, Tryd.ntmps12
  go_wp2_with (first
    | (go_at_call 26; with_reducible refine HS.mono ?_; rintro e w1 ⟨rfl, rfl⟩)
    | (go_at_call 27; with_reducible refine HC.mono ?_; rintro e w2 ⟨v2, rfl, _, hb2⟩; have h6 := H6.out.next hb2; obtain ⟨k0, k1, k2, k3, k4, k5⟩ := h6.cells; have f0 := h6.fz))
  have hch := put6_ch w2 w.heap.size (.int .i64 0) (.int .i64 0) (.int .u64 0) (.int .u64 0) (.slice none 0 0) (.slice none 0 0)
  have hF6 := h6.put (.int .i64 0) (.int .i64 0) (.int .u64 0) (.int .u64 0) (.slice none 0 0) (.slice none 0 0)
  unfold put6 at hch hF6
  obtain ⟨s0, s1, s2, s3, s4, s5⟩ := hF6.cells
  refine bodyPost_ret (v := .tuple #[noP, .int .i64 (e0 : Int)]) (by simp [results, Tryd.results12, go_sem, s0, s1, s2, s3, s4, s5]) rfl ⟨rfl, ?_⟩
  exact (bnext hb hb2).trans (hch.below (by rintro b rfl; exact Nat.le_refl _))
/-- The digests of a rest. -/
def dgB (c : Nat) (L : List ByteArray) (n : Nat) (S : List Nat) : List ByteArray := (Cv.rst 0 n S).map fun b => nd c L b.1 b.2
theorem rst_in {n : Nat} {S : List Nat} (he : Cv.errS n S = 0) : ∀ b ∈ Cv.rst 0 n S, (b.2 + 1) * 2 ^ b.1 ≤ n := by
  obtain ⟨h40, _, _, hc⟩ := Cv.errS_ok he
  exact fun b hb => (Cv.til_mem (Cv.rst_but n S h40 hc) b hb).2
theorem rst_num {n : Nat} {S : List Nat} (he : Cv.errS n S = 0) : S.length ≤ n ∧ 0 < S.length := by
  obtain ⟨h40, h0, _, hc⟩ := Cv.errS_ok he
  refine ⟨?_, h0.1⟩
  have key : ∀ (S : List Nat) (x n : Nat), Cv.Chain x S n → S.length + x ≤ n := by
    intro S
    induction S with
    | nil => intro x n h; have h' : x ≤ n := h; rw [List.length_nil]; omega
    | cons i S ih =>
      intro x n h
      have := ih _ _ h.2
      have := h.1
      rw [List.length_cons]; omega
  have := key S 0 n hc
  omega
set_option maxRecDepth 100000 in
set_option maxHeartbeats 1000000 in
theorem bprove_ok (w : World) (m : Nat) (k : Int) (L : List ByteArray) (hF : Frs w m k L) (hL : L.length ≤ 5000) (n : Nat) (hn : n ≤ L.length) (ao : Option Addr) (b off c : Nat) (S : List Nat) (hr : RdU w ao b off S.length S) (he : Cv.errS n S = 0) (D : List ByteArray) (hD : dgB (clk k) L n S = D) :
    Calls Tryd.prog 12 #[.pointer (some ⟨m + 1, 0, none⟩), .int .u64 (n : Int), .slice ao S.length c] w fun e w' => ∃ vs vd, e = .returned (.tuple #[.agg #[.int .i64 2, .int .i64 k, .int .u64 0, .int .u64 (n : Int), vs, vd], .int .i64 0]) ∧ Cv.Own w' w.heap.size vs S ∧ OwnS w' w.heap.size vd D ∧ Below w.heap.size w w' := by
  obtain ⟨hS1, hS0⟩ := rst_num he
  have hin := rst_in he
  obtain ⟨h40, _, _, hc⟩ := Cv.errS_ok he
  obtain rfl := hr.ptr hS0
  obtain ⟨o0, ho0⟩ : ∃ o0, zP = o0 := ⟨_, rfl⟩
  have hb := bal (Below.refl w.heap.size w) o0
  have HS := fsize_any _ m k L (hF.next hb (Nat.le_refl _))
  obtain ⟨C, hC⟩ : ∃ C, zl (Cv.rst 0 n S) = C := ⟨_, rfl⟩
  have hlC : C.length ≤ 1000000 := by rw [← hC, Cv.zl_len]; have := Cv.rst_len n h40 S 0 hc; omega
  have HRs : Calls Tryd.prog 27 #[.int .u64 (n : Int), .slice (some ⟨b, off, none⟩) S.length c] (w.alloc o0) fun e w' => ∃ ao g cap, e = .returned (.tuple #[.slice ao C.length cap, .int .i64 0]) ∧ RdB w' ao g 0 C.length C ∧ Below (w.alloc o0).heap.size (w.alloc o0) w' := by
    refine (Cv.rest_any n (w.alloc o0) (some ⟨b, off, none⟩) b off S.length c S (rdu_rd (hr.next hb)) (by omega)).mono fun e w' ⟨v, e1, e2, e3⟩ => ?_
    rw [he] at e1
    rw [Cv.rstS, if_pos he, hC] at e2
    obtain ⟨ao, g, n', cap, rfl, hr', _⟩ := own_rdB e2 (fun x hx => by
      rw [← hC] at hx
      obtain ⟨b0, hb0, rfl⟩ := List.mem_map.1 hx
      exact (fit40 (hin b0 hb0) h40).1)
    obtain rfl := hr'.len
    exact ⟨ao, g, cap, e1, hr', e3⟩
  have hds : dgs (clk k) L C = some D := by rw [← hC, dgs_all (fun b hb => Nat.le_trans (hin b hb) hn), ← hD]; rfl
  have HD : Hid (∀ W ao g cap, Below w.heap.size w W → RdB W ao g 0 C.length C → Calls Tryd.prog 28 #[.pointer (some ⟨m + 1, 0, none⟩), .slice ao C.length cap] W fun e w' => Below W.heap.size W w' ∧ ∃ ad md cd, e = .returned (.tuple #[.slice ad md cd, .bool true]) ∧ OwnS w' W.heap.size (.slice ad md cd) D) := fun W ao g cap hb hr => by
    refine (fdigests_any W m k L (hF.next hb (Nat.le_refl _)) ao g 0 cap C hr (by omega)).mono ?_
    rintro e w' ⟨hb', ⟨h1, _⟩ | ⟨D', h1, v, rfl, ho⟩⟩
    · rw [hds] at h1; cases h1
    · rw [hds] at h1
      injection h1 with h1
      subst h1
      obtain ⟨ad, md, cd, rfl⟩ := Cv.own_slice ho
      exact ⟨hb', ad, md, cd, rfl, ho⟩
  have HSt : Hid (∀ W, Below w.heap.size w W → Calls Tryd.prog 29 #[.pointer (some ⟨m + 1, 0, none⟩)] W fun e w' => e = .returned (.int .i64 k) ∧ W = w') := fun W hb => (fstrength_any W m k L (hF.next hb (Nat.le_refl _))).mono fun _ _ h => ⟨h.1, h.2.symm⟩
  have HCl : Hid (∀ W, Below w.heap.size w W → Calls Tryd.prog 30 #[.slice (some ⟨b, off, none⟩) S.length c] W fun e w' => ∃ a1 n1 c1, e = .returned (.slice a1 n1 c1) ∧ Cv.Own w' W.heap.size (.slice a1 n1 c1) S ∧ Below W.heap.size W w') := fun W hb => (clone_any W b off c S (hr.next hb) (by omega)).mono fun e w' ⟨v, e1, e2, e3⟩ => by
    obtain ⟨a1, n1, c1, rfl⟩ := Cv.own_slice e2
    exact ⟨a1, n1, c1, e1, e2, e3⟩
  have hn' : ¬ (L.length : Int) < (n : Int) := by omega
  have HP : Hid (∀ W, Below (w.alloc o0).heap.size (w.alloc o0) W → Six W w.heap.size (.int .i64 0) (.int .i64 0) (.int .u64 0) (.int .u64 0) (.slice none 0 0) (.slice none 0 0)) := fun W hb => Six.next (show Six (w.alloc o0) _ _ _ _ _ _ _ by rw [← ho0]; exact six_new w _ _ _ _ _ _) hb
  rw [← ho0] at hb HS HP HRs
  unfold zP at hb HS HP HRs
  clear hF hn hr hL ho0 hin hds hD hlC hC hS1 hS0 hc h40 he
  go_enter Tryd.func12, Tryd.ntmps12
  go_wp2_with (first
    | (go_at_call 26; with_reducible refine HS.mono ?_; rintro e w0 ⟨rfl, rfl⟩)
    | (go_at_call 27; with_reducible refine HRs.mono ?_; rintro e w1 ⟨ao, g, cap, rfl, hr1, hb1⟩)
    | (go_at_call 28; with_reducible refine (HD.out _ _ _ _ (bnext hb hb1) hr1).mono ?_; rintro e w2 ⟨hb2, ad, md, cd, rfl, ho⟩)
    | (go_at_call 29; with_reducible refine (HSt.out _ (bnext (bnext hb hb1) hb2)).mono ?_; rintro e w3 ⟨rfl, rfl⟩)
    | (go_at_call 30; with_reducible refine (HCl.out _ (bnext (bnext hb hb1) hb2)).mono ?_; rintro e w4 ⟨a4, n4, c4, rfl, ho4, hb4⟩; have h6 := HP.out _ (bnext (bnext hb1 hb2) hb4); obtain ⟨k0, k1, k2, k3, k4, k5⟩ := h6.cells; have f0 := h6.fz))
  have hF6 := h6.put (.int .i64 2) (.int .i64 k) (.int .u64 0) (.int .u64 (n : Int)) (.slice a4 n4 c4) (.slice ad md cd)
  have hch := put6_ch w4 w.heap.size (.int .i64 2) (.int .i64 k) (.int .u64 0) (.int .u64 (n : Int)) (.slice a4 n4 c4) (.slice ad md cd)
  have hle := (bnext hb1 hb2).size
  unfold put6 at hF6 hch
  obtain ⟨s0, s1, s2, s3, s4, s5⟩ := hF6.cells
  rw [World.size_alloc] at hle
  refine bodyPost_ret (v := .tuple #[.agg #[.int .i64 2, .int .i64 k, .int .u64 0, .int .u64 (n : Int), .slice a4 n4 c4, .slice ad md cd], .int .i64 0]) (by simp [results, Tryd.results12, go_sem, s0, s1, s2, s3, s4, s5]) rfl ?_
  have hz1 := hb1.size
  rw [World.size_alloc] at hz1
  refine ⟨_, _, rfl, ?_, ?_, (bnext (bnext (bnext hb hb1) hb2) hb4).trans (hch.below (by rintro b rfl; exact Nat.le_refl _))⟩
  · exact (keep_row ho4 fun g _ hg => hch.block g (by omega)).mono (by omega)
  · exact (keep_row (own_next ho hb4 (Nat.le_refl _)) fun g _ hg => hch.block g (by omega)).mono (by omega)
end Go.Proofs.YtnbejijpmeklaaaDoor
