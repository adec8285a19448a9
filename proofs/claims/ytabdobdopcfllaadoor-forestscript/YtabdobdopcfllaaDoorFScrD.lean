/-
  One call at the program's forest and at the reference's: plays, of Append. Own work.
-/
import Derived.Test.YtabdobdopcfllaaDoorFScrC
namespace Go.Proofs.YtabdobdopcfllaaDoor
open Go.RowKit
attribute [local go_sem ↓] Go.wp_at_zero Go.wp_at_succ
set_option maxRecDepth 100000 in
set_option maxHeartbeats 2000000 in
theorem play_append (W0 w : World) (ht : Tb W0) (hr : Tr W0) (hb0 : Below W0.heap.size W0 w) (m q : Nat) (K : Int) (L : List ByteArray) (gA cA : Nat) (vs : List Value) (hP : Pair w W0.heap.size m q K L gA cA vs) (at' : Int) (s : ByteArray) (n : Nat) (ao : Option Addr) (len cap : Nat) :
    Calls Tryd.prog 29 #[.pointer (some ⟨m + 1, 0, none⟩), .pointer (some ⟨q, 0, none⟩), .agg #[.int .i64 1, .int .i64 at', .string s, .int .u64 (n : Int), .slice ao len cap]] w fun e w' => e = .returned (.bool true) ∧ Plyd w w' W0.heap.size m q K gA vs := by
  obtain ⟨w0, hw0⟩ : ∃ w0, w.alloc (.cells #[.int .i64 1, .int .i64 at', .string s, .int .u64 (n : Int), .slice ao len cap] 74) = w0 := ⟨_, rfl⟩
  have b0 : Below w.heap.size w w0 := by rw [← hw0]; exact bal (Below.refl w.heap.size w) _
  have hlt0 : w.heap.size < w0.heap.size := by rw [← hw0]; simp
  have HC : Hid (∀ W : World, W.heap[w.heap.size]? = w0.heap[w.heap.size]? → _) := fun W hb => op_cells (w := w) (W := W) (kd := 1) (at' := at') (s := s) (n := n) (x := .slice ao len cap) (by rw [opC, hw0]; exact hb)
  have hP0 := hP.next b0
  obtain ⟨e0, he0⟩ : ∃ e0, apE L s = e0 := ⟨_, rfl⟩
  obtain ⟨LL, hLL⟩ : ∃ LL, apL L s = LL := ⟨_, rfl⟩
  obtain ⟨A, hA⟩ : ∃ A, apA K L s = A := ⟨_, rfl⟩
  have HE : Hid (apE L s = e0 ∧ apL L s = LL ∧ apA K L s = A) := ⟨he0, hLL, hA⟩
  obtain ⟨zA, lA⟩ := apA_size K L s
  rw [hA] at zA lA
  have HZ : Hid ((∀ x ∈ A, x.size ≤ 9223372036854775807) ∧ A.length ≤ 8796093022208) := ⟨zA, by omega⟩
  have hA6 : (A.length : Int) ≤ 1000 := by omega
  clear he0 hLL hA zA lA
  have hB0 := bnext hb0 b0
  have H1 : Hid (Calls Tryd.prog 12 #[.pointer (some ⟨m + 1, 0, none⟩), .string s] w0 fun e w' => ∃ v, e = .returned (.tuple #[v, .int .i64 (e0 : Int)]) ∧ Frs w' m K LL ∧ OwnS w' w0.heap.size v A ∧ Chf m w0 w') := fapp_any w0 (ht.next hB0) m K L hP0.fr s e0 LL A HE
  have H2 : Hid (∀ w1, Chf m w0 w1 → Calls Tryd.prog 45 #[.pointer (some ⟨q, 0, none⟩), .string s] w1 fun e w' => ∃ v gB cB us, e = .returned (.tuple #[v, .int .i64 (e0 : Int)]) ∧ Rf w' W0.heap.size q K LL gB cB us ∧ OwnS w' w1.heap.size v A ∧ ChS (Foot q gA vs) w1 w' ∧ (∀ b, Foot q gB us b → Foot q gA vs b ∨ w1.heap.size ≤ b)) := fun w1 hc => by
    have h1 : Below W0.heap.size W0 w1 := hB0.trans (hc.below.mono hP.bm)
    refine rapp_any w1 (hr.next h1) _ q K L gA cA vs (hP0.half hc) (fun W hf hS => hr.next (h1.trans (hS.below (by have := h1.size; omega) hf))) s e0 LL A HE
  have H3 : Hid (∀ w1 w2 v gB cB us, Frs w1 m K LL → OwnS w1 w0.heap.size v A → Chf m w0 w1 → Rf w2 W0.heap.size q K LL gB cB us → ChS (Foot q gA vs) w1 w2 → (∀ b, Foot q gB us b → Foot q gA vs b ∨ w1.heap.size ≤ b) → St w w2 W0.heap.size m q K gA vs LL gB cB us ∧ OwnS w2 w0.heap.size v A ∧ ∀ g, v.ownBlock = some g → w.heap.size ≤ g ∧ ¬ Foot q gB us g) := fun w1 w2 v gB cB us hF ho hc hR hS hf => by
    have hb : ∀ g, v.ownBlock = some g → w0.heap.size ≤ g ∧ g < w1.heap.size := fun g hg => Mm.owns_lt ho g hg
    have hn : ∀ g, v.ownBlock = some g → ¬ Foot q gA vs g := fun g hg hft => by
      have h1 := (hP0.lt (.inr (.inr hft))).2
      have h2 := (hb g hg).1
      omega
    refine ⟨St.trans b0 (hP0.both hF hc hR hS hf), own_chs ho hn hS, fun g hg => ⟨by have := (hb g hg).1; omega, fun hft => ?_⟩⟩
    rcases hf g hft with e | e
    · exact hn g hg e
    · have := (hb g hg).2; omega
  have H4 : Hid (∀ w1, Chf m w0 w1 → w1.heap[w.heap.size]? = w0.heap[w.heap.size]?) := fun w1 hc => by
    have h1 := (hP.lt (.inl rfl)).2
    have h2 := (hP.lt (.inr (.inl rfl))).2
    exact hc.block _ hlt0 (by omega) (by omega)
  have HP := hide hP
  obtain ⟨z0, z2, _, _⟩ := HC.out w0 rfl
  clear hP b0 ht hr hb0 hP0 hB0 hlt0
  go_enter Tryd.func29, Tryd.ntmps29
  go_upto_region 5 with (first
    | (go_at_call 12; with_reducible refine H1.out.mono ?_; rintro e w1 ⟨v, rfl, hF1, ho1, hc1⟩; obtain ⟨_, y2, _, _⟩ := HC.out w1 (H4.out w1 hc1))
    | (go_at_call 45; with_reducible refine (H2.out w1 hc1).mono ?_; rintro e w2 ⟨u, gB, cB, us, rfl, hR2, ho2, hc2, hf2⟩))
  obtain ⟨hS, hov, hvb⟩ := H3.out w1 w2 v gB cB us hF1 ho1 hc1 hR2 hc2 hf2
  have HS := hide hS
  have HO := hide hov
  have HU := hide ho2
  clear hF1 ho1 hc1 hR2 ho2 hc2 hf2 H1 H2 H3 H4 HE z0 z2 y2 hS hov HC
  go_upto_region 7 with (first
    | (go_at_call 11; with_reducible refine (num_id _ _).mono ?_; rintro e wn ⟨rfl, rfl⟩)
    | (go_at_call 24; with_reducible refine (same_own w2 v u _ _ A HO.out HU.out HZ.out.1 HZ.out.2).mono ?_; rintro e w3 ⟨rfl, hb3⟩))
  obtain ⟨ao1, n1, c1, rfl⟩ := Mm.own_slice HO.out
  obtain rfl : A.length = n1 := Mm.ownS_len HO.out
  have HO3 := hide (own_next HO.out hb3 (Nat.le_refl _))
  have HS3 := hide (HS.out.next hb3)
  have HV := hide hvb
  clear hb3 hvb HO HS HU
  go_wp2
  go_loopg [11] A.length (fun gk i wr => ∃ j : Nat, j ≤ A.length ∧ gk = A.length - j ∧ i = .int .i64 (j : Int) ∧ Hid (∃ C : List ByteArray, C.length = A.length ∧ OwnS wr w0.heap.size (.slice ao1 A.length c1) C ∧ St w wr W0.heap.size m q K gA vs LL gB cB us))
  case atStart =>
    go_light
    exact ⟨0, Nat.zero_le _, rfl, rfl, A, rfl, HO3.out, HS3.out⟩
  case round =>
    obtain ⟨j, hj, rfl, rfl, HI⟩ := hrel
    by_cases hlt : j < A.length
    · have hz : (j : Int) < (A.length : Int) := by omega
      have hz0 : (0 : Int) ≤ (j : Int) := Int.natCast_nonneg _
      obtain ⟨C, hC, hOC, hSC⟩ := HI.out
      obtain ⟨g, rfl⟩ := Mm.ownS_some hOC (by omega)
      obtain ⟨cc, cf⟩ := own_cell hOC (j := j) (by omega)
      have HN : Hid (∃ C' : List ByteArray, C'.length = A.length ∧ OwnS (wr.setCell ⟨g, j, none⟩ (.string ⟨#[33]⟩)) w0.heap.size (.slice (some ⟨g, 0, none⟩) A.length c1) C' ∧ St w (wr.setCell ⟨g, j, none⟩ (.string ⟨#[33]⟩)) W0.heap.size m q K gA vs LL gB cB us) :=
        ⟨C.set j ⟨#[33]⟩, by rw [List.length_set]; exact hC, Mm.ownS_set hOC _, hSC.set HP.out j _ (HV.out g rfl).1 (HV.out g rfl).2⟩
      clear hC hOC hSC HI
      go_wp2
      go_roundg (A.length - (j + 1))
      case rel =>
        go_light
        exact ⟨j + 1, by omega, rfl, by go_num, HN.out⟩
      case measure => go_light; omega
    · obtain rfl : j = A.length := by omega
      have hz : ¬ ((A.length : Int) < (A.length : Int)) := by omega
      obtain ⟨C, _, _, hSC⟩ := HI.out
      have HG : Hid (∀ W, Below wr.heap.size wr W → St w W W0.heap.size m q K gA vs LL gB cB us) := fun W hb => hSC.next hb
      clear hSC HI hlt
      go_upto_region 39 with (fail)
      refine wp_region_plan (by kernel_rfl) [203, 204, 205, 206, 207, 208, 209, 210, 211, 212, 213, 214, 215, 216, 6] (by kernel_rfl) (planG [.pointer (some ⟨m + 1, 0, none⟩), .int .u64 (LL.length : Int), .pointer (some ⟨q, 0, none⟩), .int .u64 (LL.length : Int), .bool true, .bool true, .pointer (some ⟨m + 1, 0, none⟩), .int .i64 K, .pointer (some ⟨q, 0, none⟩), .pointer (some ⟨q, 0, none⟩), .pointer (some ⟨q, 0, none⟩), .int .i64 K, .bool true, .bool true, .bool true] []) (planG_mono _ _) ?step ?fin
      case fin =>
        intro Ax wx hBx hde hsi hsm hΦ
        have h6 : Ax.tmps.getD 6 undef = .bool true := hΦ 14 (by decide)
        have hr : (results Tryd.f29 Ax.tmps).run Tryd.prog wx = .ok (.bool true) wx := by rw [← h6]; exact results_tmp rfl _ _ _
        have HF : Hid (Ax.defers = [] ∧ _ ∧ (results Tryd.f29 Ax.tmps).run Tryd.prog wx = .ok (.bool true) wx) := ⟨hde, HG.out _ hBx, hr⟩
        clear hr hde hsm hΦ h6 hBx hsi
        go_wp2
        exact bodyPost_ret HF.out.2.2 HF.out.1 ⟨rfl, _, _, _, _, HF.out.2.1⟩
      case step =>
        refine ⟨?_, ?_, ?_, ?_, ?_, ?_, ?_, ?_, ?_, ?_, ?_, ?_, ?_, ?_, ?_, trivial⟩
        · intro Ac Wc Kc hB hsm dep hK
          have t0 : Ac.tmps.getD 0 undef = .pointer (some ⟨m + 1, 0, none⟩) := hsm 0 rfl
          show Oper.wp _ _ Ac Wc Kc _
          go_simp
          exact hK _ _ rfl (Below.refl _ _)
        · intro Ac Wc Kc hB hsm dep hK
          have t203 : Ac.tmps.getD 203 undef = .pointer (some ⟨m + 1, 0, none⟩) := dep 0 rfl
          show Oper.wp _ _ Ac Wc Kc _
          go_simp
          refine (fsize_b Wc m K LL (HG.out Wc hB).pr.fr).mono ?_
          rintro e w' ⟨rfl, hb⟩
          exact hK _ _ rfl hb
        · intro Ac Wc Kc hB hsm dep hK
          have t1 : Ac.tmps.getD 1 undef = .pointer (some ⟨q, 0, none⟩) := hsm 1 rfl
          show Oper.wp _ _ Ac Wc Kc _
          go_simp
          exact hK _ _ rfl (Below.refl _ _)
        · intro Ac Wc Kc hB hsm dep hK
          have t205 : Ac.tmps.getD 205 undef = .pointer (some ⟨q, 0, none⟩) := dep 2 rfl
          show Oper.wp _ _ Ac Wc Kc _
          go_simp
          refine (refsize_any Wc _ q K LL gB cB us (HG.out Wc hB).pr.rf).mono ?_
          rintro e w' ⟨rfl, hb⟩
          exact hK _ _ rfl hb
        · intro Ac Wc Kc hB hsm dep hK
          have t204 : Ac.tmps.getD 204 undef = .int .u64 (LL.length : Int) := dep 1 rfl
          have t206 : Ac.tmps.getD 206 undef = .int .u64 (LL.length : Int) := dep 3 rfl
          show Oper.wp _ _ Ac Wc Kc _
          go_simp
          exact hK _ _ rfl (Below.refl _ _)
        · intro Ac Wc Kc hB hsm dep hK
          have t207 : Ac.tmps.getD 207 undef = .bool true := dep 4 rfl
          show Oper.wp _ _ Ac Wc Kc _
          go_simp
          exact hK _ _ rfl (Below.refl _ _)
        · intro Ac Wc Kc hB hsm dep hK
          have t0 : Ac.tmps.getD 0 undef = .pointer (some ⟨m + 1, 0, none⟩) := hsm 0 rfl
          refine ⟨true, (show Ac.tmps.getD 208 undef = .bool true from dep 5 rfl), ?_⟩
          rw [if_pos rfl]
          go_simp
          exact hK _ _ rfl (Below.refl _ _)
        · intro Ac Wc Kc hB hsm dep hK
          have t209 : Ac.tmps.getD 209 undef = .pointer (some ⟨m + 1, 0, none⟩) := dep 6 rfl
          refine ⟨true, (show Ac.tmps.getD 208 undef = .bool true from dep 5 rfl), ?_⟩
          rw [if_pos rfl]
          go_simp
          refine (fstrength_b Wc m K LL (HG.out Wc hB).pr.fr).mono ?_
          rintro e w' ⟨rfl, hb⟩
          exact hK _ _ rfl hb
        · intro Ac Wc Kc hB hsm dep hK
          have t1 : Ac.tmps.getD 1 undef = .pointer (some ⟨q, 0, none⟩) := hsm 1 rfl
          refine ⟨true, (show Ac.tmps.getD 208 undef = .bool true from dep 5 rfl), ?_⟩
          rw [if_pos rfl]
          go_simp
          exact hK _ _ rfl (Below.refl _ _)
        · intro Ac Wc Kc hB hsm dep hK
          have t211 : Ac.tmps.getD 211 undef = .pointer (some ⟨q, 0, none⟩) := dep 8 rfl
          refine ⟨true, (show Ac.tmps.getD 208 undef = .bool true from dep 5 rfl), ?_⟩
          rw [if_pos rfl]
          go_simp
          exact hK _ _ rfl (Below.refl _ _)
        · intro Ac Wc Kc hB hsm dep hK
          have t212 : Ac.tmps.getD 212 undef = .pointer (some ⟨q, 0, none⟩) := dep 9 rfl
          refine ⟨true, (show Ac.tmps.getD 208 undef = .bool true from dep 5 rfl), ?_⟩
          rw [if_pos rfl]
          go_simp
          exact hK _ _ rfl (Below.refl _ _)
        · intro Ac Wc Kc hB hsm dep hK
          have t213 : Ac.tmps.getD 213 undef = .pointer (some ⟨q, 0, none⟩) := dep 10 rfl
          refine ⟨true, (show Ac.tmps.getD 208 undef = .bool true from dep 5 rfl), ?_⟩
          rw [if_pos rfl]
          have c0 := (HG.out Wc hB).pr.rf.lv.cells.1
          go_simp
          exact hK _ _ rfl (Below.refl _ _)
        · intro Ac Wc Kc hB hsm dep hK
          have t210 : Ac.tmps.getD 210 undef = .int .i64 K := dep 7 rfl
          have t214 : Ac.tmps.getD 214 undef = .int .i64 K := dep 11 rfl
          refine ⟨true, (show Ac.tmps.getD 208 undef = .bool true from dep 5 rfl), ?_⟩
          rw [if_pos rfl]
          go_simp
          exact hK _ _ rfl (Below.refl _ _)
        · intro Ac Wc Kc hB hsm dep hK
          have t208 : Ac.tmps.getD 208 undef = .bool true := dep 5 rfl
          have t215 : Ac.tmps.getD 215 undef = .bool true := dep 12 rfl
          show Oper.wp _ _ Ac Wc Kc _
          go_simp
          exact hK _ _ rfl (Below.refl _ _)
        · intro Ac Wc Kc hB hsm dep hK
          have t216 : Ac.tmps.getD 216 undef = .bool true := dep 13 rfl
          show Oper.wp _ _ Ac Wc Kc _
          go_simp
          exact hK _ _ rfl (Below.refl _ _)
end Go.Proofs.YtabdobdopcfllaaDoor
