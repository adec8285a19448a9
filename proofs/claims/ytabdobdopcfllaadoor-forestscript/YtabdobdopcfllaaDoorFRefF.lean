/-
  The reference's forest: Row, Node, Root. Own work.
-/
import Derived.Test.YtabdobdopcfllaaDoorFRefE
namespace Go.Proofs.YtabdobdopcfllaaDoor
open Go.RowKit
open Mm (dv)
open Pl (ones pw N at' fr blk most)
attribute [local go_sem ↓] Go.wp_at_zero Go.wp_at_succ
theorem flat_len (c : Nat) (L : List ByteArray) (l : List (Nat × Nat)) (i : Nat) : ((l.take i).flatMap (fun b => rowB c L b.1 b.2)).length ≤ (l.flatMap (fun b => rowB c L b.1 b.2)).length := by
  conv => rhs; rw [← List.take_append_drop i l, List.flatMap_append, List.length_append]
  omega
set_option maxRecDepth 100000 in
set_option maxHeartbeats 2000000 in
theorem refRow_any (w : World) (B q : Nat) (K : Int) (L : List ByteArray) (gA cA : Nat) (vs : List Value) (hF : Rf w B q K L gA cA vs) :
    Calls Tryd.prog 63 #[.pointer (some ⟨q, 0, none⟩)] w fun e w' => ∃ v, e = .returned v ∧ OwnS w' w.heap.size v (Rw (clk K) L) ∧ Below w.heap.size w w' := by
  have hn := hF.hn
  have hp2 := (dn_peaks (clk K) L 41 0 (by rw [Nat.div_eq_of_lt (by omega), Nat.zero_mul])).2
  have hlen : (Cv.dnL 41 0 L.length).length ≤ 41 := Cv.dn_len 41 0 L.length
  have hRw := rows_Rw (clk K) L hn
  have hRl : (Rw (clk K) L).length ≤ 131072 := by rw [Rw_len]; have := Pl.N_eq L.length; omega
  obtain ⟨C, hC⟩ : ∃ C, Cv.dnL 41 0 L.length = C := ⟨_, rfl⟩
  have HM : Hid (∀ W, Calls Tryd.prog 64 #[.int .u64 (L.length : Int)] W fun x w' => ∃ ao g cap, x = .returned (.tuple #[.slice ao C.length cap, .int .i64 0]) ∧ RdB w' ao g 0 C.length (Cv.zl C) ∧ Below W.heap.size W w') := fun W => by
    have := Cv.rmountains_any L.length W (by omega)
    refine this.mono ?_
    rintro x w' ⟨v, rfl, ho, hb⟩
    rw [hC] at ho hp2
    obtain ⟨ao, g, n', cap, rfl, hr, _⟩ := own_rdB ho (fun b hb => by
      obtain ⟨b0, hb0, rfl⟩ := List.mem_map.1 hb
      exact small_fit (hp2 b0 hb0) hn)
    have hl := hr.len
    rw [Cv.zl_len] at hl
    subst hl
    exact ⟨ao, g, cap, rfl, hr, hb⟩
  rw [hC] at hp2 hlen hRw
  have HS : Hid (Calls Tryd.prog 52 #[.pointer (some ⟨q, 0, none⟩)] w fun e w' => e = .returned (.int .u64 (L.length : Int)) ∧ Below w.heap.size w w') := refsize_any w B q K L gA cA vs hF
  have HRo : Hid (∀ W i, Below w.heap.size w W → i < C.length → Calls Tryd.prog 75 #[.pointer (some ⟨q, 0, none⟩), .agg #[.int .i64 ((Cv.zl C).getD i (0, 0)).1, .int .u64 (((Cv.zl C).getD i (0, 0)).2 : Int)]] W fun e w' => ∃ v, e = .returned v ∧ OwnS w' W.heap.size v (rowB (clk K) L (C.getD i (0, 0)).1 (C.getD i (0, 0)).2) ∧ Below W.heap.size W w') := fun W i hb hi => by
    have hm : C.getD i (0, 0) ∈ C := by rw [List.getD_eq_getElem?_getD, List.getElem?_eq_getElem hi]; exact List.getElem_mem _
    have e : (Cv.zl C).getD i (0, 0) = (((C.getD i (0, 0)).1 : Int), (C.getD i (0, 0)).2) := by
      rw [List.getD_eq_getElem?_getD, List.getD_eq_getElem?_getD, Cv.zl, List.getElem?_map, List.getElem?_eq_getElem hi]
      rfl
    rw [e]
    have hin := hp2 _ hm
    refine refrow_any B q K L gA cA vs _ ?_ _ W (hF.next hb) hin
    apply Nat.le_of_not_lt
    intro hlt
    have h1 : 2 ^ 17 ≤ 2 ^ (C.getD i (0, 0)).1 := Nat.pow_le_pow_right (by decide) (by omega)
    have h2 : 2 ^ (C.getD i (0, 0)).1 ≤ ((C.getD i (0, 0)).2 + 1) * 2 ^ (C.getD i (0, 0)).1 := Nat.le_mul_of_pos_left _ (by omega)
    omega
  have HZl : Hid (∀ h k, ∀ s ∈ rowB (clk K) L h k, s.size ≤ 9223372036854775807) := fun h k s hs => by rw [rowB_size (clk_le K) L h k s hs]; have := clk_le K; omega
  have HT : Hid (∀ i, i < C.length → (C.take (i + 1)).flatMap (fun b => rowB (clk K) L b.1 b.2) = (C.take i).flatMap (fun b => rowB (clk K) L b.1 b.2) ++ rowB (clk K) L (C.getD i (0, 0)).1 (C.getD i (0, 0)).2) := fun i hi => by
    rw [List.take_add_one, List.getElem?_eq_getElem hi, List.flatMap_append, List.getD_eq_getElem?_getD, List.getElem?_eq_getElem hi]
    simp
  have HLn : Hid (∀ i, ((C.take i).flatMap (fun b => rowB (clk K) L b.1 b.2)).length ≤ 131072) := fun i => by
    have := flat_len (clk K) L C i
    rw [hRw] at this
    omega
  have HE : Hid (C.flatMap (fun b => rowB (clk K) L b.1 b.2) = Rw (clk K) L ∧ C.length ≤ 41) := ⟨hRw, hlen⟩
  have hl9 : (C.length : Int) ≤ 41 := by omega
  clear hp2 hRw hRl hC hF hn
  go_enter Tryd.func63, Tryd.ntmps63
  go_wp2_with (first
    | (go_at_call 52; with_reducible refine HS.out.mono ?_; rintro e w1 ⟨rfl, hb1⟩)
    | (go_at_call 64; with_reducible refine (HM.out _).mono ?_; rintro e w2 ⟨ao, g, cap, rfl, hr2, hb2⟩))
  have HB2 := hide (bnext hb1 hb2)
  have HR2 : Hid (∀ W, Below w2.heap.size w2 W → RdB W ao g 0 C.length (Cv.zl C)) := fun W h => hr2.below h
  clear hb1 hb2 hr2 HM HS
  go_loopg [3, 6] C.length (fun gg v i0 wr => ∃ i : Nat, i ≤ C.length ∧ gg = C.length - i ∧ i0 = .int .i64 (i : Int) ∧ Hid (OwnS wr w2.heap.size v ((C.take i).flatMap (fun b => rowB (clk K) L b.1 b.2))) ∧ Below w2.heap.size w2 wr)
  case atStart =>
    go_light
    exact ⟨0, Nat.zero_le _, rfl, rfl, owns_nil _ _, Below.refl _ _⟩
  case round =>
    obtain ⟨i, hi, rfl, rfl, HO, hb⟩ := hrel
    by_cases hlt : i < C.length
    · have hz : (i : Int) < (C.length : Int) := by omega
      have hz0 : (0 : Int) ≤ (i : Int) := Int.natCast_nonneg _
      obtain rfl := (HR2.out wr hb).addr (by omega)
      obtain ⟨c0, c1⟩ := (HR2.out wr hb).cell i hlt
      rw [Nat.zero_add] at c0 c1
      have HRi := hide (HRo.out wr i (bnext HB2.out hb) hlt)
      have HTi := hide (HT.out i hlt)
      generalize (Cv.zl C).getD i (0, 0) = zb at *
      generalize C.getD i (0, 0) = cb at *
      obtain ⟨A, hA⟩ : ∃ A, rowB (clk K) L cb.1 cb.2 = A := ⟨_, rfl⟩
      have HAz : Hid (∀ s ∈ A, s.size ≤ 9223372036854775807) := by rw [← hA]; exact HZl.out _ _
      rw [hA] at HRi HTi
      have hAl : A.length ≤ 131072 := by
        have h1 := HLn.out (i + 1)
        rw [HTi.out, List.length_append] at h1
        omega
      have HG : Hid (A.length ≤ 131072 ∧ ((C.take i).flatMap (fun b => rowB (clk K) L b.1 b.2)).length ≤ 131072) := ⟨hAl, HLn.out i⟩
      clear hA hAl
      go_wp2_with (first
        | (go_at_call 75; with_reducible refine HRi.out.mono ?_; rintro e w3 ⟨v3, rfl, ho3, hb3⟩; obtain ⟨a3, b3, c3, rfl, r3, _, hn3⟩ := owns_rds ho3 HAz.out)
        | (at_builtin; refine wpList_append_S _ rfl _ _ rfl w2.heap.size _ _ rfl (own_next HO.out hb3 (Nat.le_refl _)) a3 b3 0 c3 A rfl r3 hn3 (by have := HG.out; omega) (bnext hb hb3).size ?_; intro v4 w4 ho4 hb4))
      have HX : Hid (OwnS w4 w2.heap.size v4 ((C.take (i + 1)).flatMap (fun b => rowB (clk K) L b.1 b.2)) ∧ Below w2.heap.size w2 w4) := ⟨by rw [HTi.out]; exact ho4, (bnext hb hb3).trans hb4⟩
      clear ho4 hb4 ho3 hb3 r3 hn3 hb HO
      go_roundg (C.length - (i + 1))
      case rel =>
        go_light
        exact ⟨i + 1, by omega, rfl, by go_num, HX.out.1, HX.out.2⟩
      case measure => go_light; omega
    · obtain rfl : i = C.length := by omega
      have hz : ¬ ((C.length : Int) < (C.length : Int)) := by omega
      rw [List.take_length, HE.out.1] at HO
      clear hlt
      go_wp2
      go_ret
      exact ⟨_, rfl, own_mono HO.out HB2.out.size, bnext HB2.out hb⟩
theorem refnode_at (w : World) (B q : Nat) (K : Int) (L : List ByteArray) (gA cA : Nat) (vs : List Value) (hF : Rf w B q K L gA cA vs) (p : Nat) (o : Option ByteArray) (s : ByteArray) (ok : Bool) (ho : Hid ((if p ≤ Pl.most then ff (clk K) L ((Pl.blk p).1 : Int) (Pl.blk p).2 else none) = o)) (hs : Hid (o.getD ByteArray.empty = s ∧ o.isSome = ok)) :
    Calls Tryd.prog 46 #[.pointer (some ⟨q, 0, none⟩), .int .u64 (p : Int)] w fun e w' => e = .returned (.tuple #[.string s, .bool ok]) ∧ Below w.heap.size w w' := by
  have hn := hF.hn
  have hNl : N L.length ≤ 131072 := by have := Pl.N_eq L.length; omega
  have HR : Hid (Calls Tryd.prog 63 #[.pointer (some ⟨q, 0, none⟩)] w fun e w' => ∃ ao c, e = .returned (.slice ao (N L.length) c) ∧ OwnS w' w.heap.size (.slice ao (N L.length) c) (Rw (clk K) L) ∧ Below w.heap.size w w') := (refRow_any w B q K L gA cA vs hF).mono fun e w' ⟨v, e1, e2, e3⟩ => by
    obtain ⟨ao, m, c, rfl⟩ := Mm.own_slice e2
    have := Mm.ownS_len e2
    rw [Rw_len] at this
    subst this
    exact ⟨ao, c, e1, e2, e3⟩
  have ew : IntKind.u64.wrap ((N L.length : Nat) : Int) = ((N L.length : Nat) : Int) := u64_id _ (by omega) (by omega)
  by_cases hp : p < N L.length
  · obtain ⟨hm, hin⟩ := blk_in hn hp
    have HO := ho.out
    rw [if_pos hm, ff_nat _ _ _ _ hin] at HO
    subst HO
    obtain ⟨rfl, rfl⟩ := hs.out
    have hRp := Rw_at (clk K) L hp
    rw [Option.getD_some, Option.isSome_some]
    generalize nd (clk K) L (blk p).1 (blk p).2 = d at *
    have HC : Hid (∀ W v c, OwnS W w.heap.size (.slice v (N L.length) c) (Rw (clk K) L) → ∃ g, v = some ⟨g, 0, none⟩ ∧ W.cell? ⟨g, p, none⟩ = some (.string d)) := fun W v c h => by
      obtain ⟨g, rfl⟩ := Mm.ownS_some h (by rw [Rw_len]; omega)
      have := (own_cell h (j := p) (by rw [Rw_len]; exact hp)).1
      rw [hRp] at this
      exact ⟨g, rfl, this⟩
    have hd : ¬ N L.length ≤ p := by omega
    have hz : (p : Int) < ((N L.length : Nat) : Int) := by omega
    have hz0 : (0 : Int) ≤ (p : Int) := Int.natCast_nonneg _
    clear hF ho hs hm hin hRp hp hn
    generalize N L.length = n at *
    go_enter Tryd.func46, Tryd.ntmps46
    go_wp2_with (go_at_call 63; with_reducible refine HR.out.mono ?_; rintro e w1 ⟨ao, c, rfl, ho1, hb1⟩; obtain ⟨g, rfl, c1⟩ := HC.out _ _ _ ho1)
    go_ret2
    exact ⟨rfl, hb1⟩
  · have HO := ho.out
    have hno : (if p ≤ Pl.most then ff (clk K) L ((Pl.blk p).1 : Int) (Pl.blk p).2 else none) = none := by
      by_cases hm : p ≤ Pl.most
      · rw [if_pos hm]; exact ff_no _ _ _ _ (blk_out hn (by omega) hm)
      · rw [if_neg hm]
    rw [hno] at HO
    subst HO
    obtain ⟨rfl, rfl⟩ := hs.out
    have hd : N L.length ≤ p := by omega
    rw [Option.getD_none, Option.isSome_none]
    clear hF ho hs hno hn hp
    generalize N L.length = n at *
    go_enter Tryd.func46, Tryd.ntmps46
    go_wp2_with (go_at_call 63; with_reducible refine HR.out.mono ?_; rintro e w1 ⟨ao, c, rfl, ho1, hb1⟩)
    go_ret2
    exact ⟨rfl, hb1⟩
end Go.Proofs.YtabdobdopcfllaaDoor
