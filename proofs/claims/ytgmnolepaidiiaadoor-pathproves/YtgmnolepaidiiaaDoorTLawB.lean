/-
  Walks of path's laws: clash, asked. Own work.
-/
import Derived.Test.YtgmnolepaidiiaaDoorTLawA
import Derived.Test.YtgmnolepaidiiaaDoorTRefB
import Derived.Test.YtgmnolepaidiiaaDoorTSpec2
namespace Go.Proofs.YtgmnolepaidiiaaDoor
open Go.RowKit
attribute [local go_sem ↓] Go.wp_at_zero Go.wp_at_succ
theorem toList_loop (bs : ByteArray) : ∀ (n i : Nat) (r : List UInt8), bs.size - i = n → ByteArray.toList.loop bs i r = r.reverse ++ bs.data.toList.drop i := by
  intro n
  induction n with
  | zero =>
    intro i r h
    rw [ByteArray.toList.loop, if_neg (by omega)]
    rw [List.drop_eq_nil_of_le (by simp; exact (by omega : bs.size ≤ i)), List.append_nil]
  | succ n ih =>
    intro i r h
    have hi : i < bs.size := by omega
    rw [ByteArray.toList.loop, if_pos hi, ih (i + 1) _ (by omega)]
    have hl : i < bs.data.toList.length := by simp; exact hi
    rw [List.drop_eq_getElem_cons hl, List.reverse_cons, List.append_assoc]
    have : bs.get! i = bs.data.toList[i] := by
      show bs.data[i]! = _
      have hi2 : i < bs.data.size := hi
      rw [getElem!_pos bs.data i hi2]
      simp
    rw [this]; rfl
theorem toList_eq (bs : ByteArray) : bs.toList = bs.data.toList := by
  rw [ByteArray.toList, toList_loop bs bs.size 0 [] rfl]; rfl
theorem beq_ne {x y : ByteArray} (h : x ≠ y) : (x.toList == y.toList) = false := by
  rw [toList_eq, toList_eq]
  simp only [beq_eq_false_iff_ne, ne_eq]
  intro e
  exact h (ByteArray.ext (Array.toList_inj.1 e))
set_option maxRecDepth 100000 in
set_option maxHeartbeats 1000000 in
theorem clash_yes (w : World) (hT : Tr w) (k : Int) (k1 : 1 ≤ k) (k2 : k ≤ 32) (aa : Option Addr) (ba oa ca' : Nat) (ab : Option Addr) (bb ob cb' : Nat) (X Y : List ByteArray) (ra : RdS w aa ba oa X.length X) (rb : RdS w ab bb ob X.length Y) (hX : X.length ≤ 1000) (zX : ∀ s ∈ X, s.size ≤ 1000000) (zY : ∀ s ∈ Y, s.size ≤ 1000000) (hc : Clh (clk k) X Y) :
    Calls Tryd.prog 18 #[.slice aa X.length ca', .slice ab X.length cb', .int .i64 k] w fun e w' => e = .returned (.bool true) ∧ Below w.heap.size w w' := by
  have HRa : Hid (∀ W, Below w.heap.size w W → RdS W aa ba oa X.length X ∧ RdS W ab bb ob X.length Y ∧ Tr W) := fun W hb => ⟨ra.next hb (Nat.le_refl _), rb.next hb (Nat.le_refl _), hT.next hb⟩
  have h63 : (X.length : Int) ≤ 1000 := by omega
  have HX : Hid (X.length ≤ 1000 ∧ (∀ s ∈ X, s.size ≤ 1000000) ∧ (∀ s ∈ Y, s.size ≤ 1000000) ∧ Clh (clk k) X Y ∧ 1 ≤ k ∧ k ≤ 32 ∧ Y.length = X.length) := ⟨hX, zX, zY, hc, k1, k2, rb.hl⟩
  have hb0 := Below.refl w.heap.size w
  clear ra rb hX zX zY hc k1 k2 hT
  go_enter Tryd.func18, Tryd.ntmps18
  go_wp2
  go_loopg [7] X.length (fun g i wr => ∃ j : Nat, j ≤ X.length ∧ g = X.length - j ∧ i = .int .i64 (j : Int) ∧ (∀ t, t < j → ¬ (X.getD t ByteArray.empty ≠ Y.getD t ByteArray.empty ∧ (t = X.length - 1 ∨ dg (clk k) (X.getD t ByteArray.empty) = dg (clk k) (Y.getD t ByteArray.empty)))) ∧ Below w.heap.size w wr)
  case atStart =>
    go_light
    exact ⟨0, Nat.zero_le _, rfl, rfl, fun t ht => absurd ht (Nat.not_lt_zero _), hb0⟩
  case round =>
    clear hb0
    obtain ⟨j, hj, rfl, rfl, hno, hb⟩ := hrel
    by_cases hlt : j < X.length
    · have hz : (j : Int) < (X.length : Int) := by omega
      have hz0 : (0 : Int) ≤ (j : Int) := Int.natCast_nonneg _
      have hra := (HRa.out wr hb).1
      have hrb := (HRa.out wr hb).2.1
      obtain rfl := hra.ptr (by omega)
      obtain rfl := hrb.ptr (by omega)
      obtain ⟨x, hx⟩ : ∃ x, X.getD j ByteArray.empty = x := ⟨_, rfl⟩
      obtain ⟨y, hy⟩ : ∃ y, Y.getD j ByteArray.empty = y := ⟨_, rfl⟩
      have HCl : Hid (∀ W, Below wr.heap.size wr W → W.cell? ⟨ba, oa + j, none⟩ = some (.string x) ∧ W.cell? ⟨bb, ob + j, none⟩ = some (.string y)) := fun W hw => by
        have h1 := ((HRa.out W (bnext hb hw)).1).at hlt
        have h2 := ((HRa.out W (bnext hb hw)).2.1).at hlt
        rw [hx] at h1; rw [hy] at h2
        exact ⟨h1, h2⟩
      obtain ⟨cx, cy⟩ := HCl.out wr (Below.refl _ _)
      have zx : x.size ≤ 1000000 := by rw [← hx]; exact HX.out.2.1 _ (getD_mem hlt)
      have zy : y.size ≤ 1000000 := by rw [← hy]; exact HX.out.2.2.1 _ (getD_mem (by have := HX.out.2.2.2.2.2.2; omega))
      have HNx : Hid (¬ (x ≠ y ∧ (j = X.length - 1 ∨ dg (clk k) x = dg (clk k) y)) → ∀ t, t < j + 1 → ¬ (X.getD t ByteArray.empty ≠ Y.getD t ByteArray.empty ∧ (t = X.length - 1 ∨ dg (clk k) (X.getD t ByteArray.empty) = dg (clk k) (Y.getD t ByteArray.empty)))) := fun hn t ht => by
        rcases Nat.lt_or_eq_of_le (Nat.le_of_lt_succ ht) with h | rfl
        · exact hno t h
        · rw [hx, hy]; exact hn
      have HB := hide hb
      clear hno hra hrb hx hy
      by_cases hxy : x = y
      · have hd : decide (x = y) = true := decide_eq_true hxy
        have HN := hide (HNx.out (fun h => h.1 hxy))
        subst hxy
        clear HNx hb hd
        go_upto_region 4 with (fail)
        go_quiet (fail)
        go_wp2
        go_roundg (X.length - (j + 1))
        case rel =>
          go_light
          exact ⟨j + 1, by omega, rfl, by go_num, HN.out, below_drewN HB.out _⟩
        case measure => go_light; omega
      · have hbq := beq_ne hxy
        by_cases hl : j = X.length - 1
        · have hl1 : (j : Int) = (X.length : Int) - 1 := by omega
          have hld : decide ((j : Int) = (X.length : Int) - 1) = true := decide_eq_true hl1
          have e1 : IntKind.i64.wrap ((X.length : Int) - 1) = (j : Int) := by rw [IntKind.wrap_i64]; omega
          clear HNx hb hl hl1 hld hxy
          go_upto_region 4 with (fail)
          go_quiet (fail)
          go_wp2
          go_ret
          exact ⟨rfl, below_drewN HB.out _⟩
        · have e1 : IntKind.i64.wrap ((X.length : Int) - 1) = (X.length : Int) - 1 := by rw [IntKind.wrap_i64]; omega
          have hl1 : ((j : Int) == (X.length : Int) - 1) = false := by simp; omega
          obtain ⟨dx, hdx⟩ : ∃ dx, dg (clk k) x = dx := ⟨_, rfl⟩
          obtain ⟨dy, hdy⟩ : ∃ dy, dg (clk k) y = dy := ⟨_, rfl⟩
          have HHx : Hid (∀ W, Below wr.heap.size wr W → Calls Tryd.prog 22 #[.int .i64 k, .string x] W fun e w' => e = .returned (.string dx) ∧ Below W.heap.size W w') := fun W hw => refH_any W (HRa.out W (bnext HB.out hw)).2.2 k HX.out.2.2.2.2.1 HX.out.2.2.2.2.2.1 x (by omega) dx hdx
          have HHy : Hid (∀ W, Below wr.heap.size wr W → Calls Tryd.prog 22 #[.int .i64 k, .string y] W fun e w' => e = .returned (.string dy) ∧ Below W.heap.size W w') := fun W hw => refH_any W (HRa.out W (bnext HB.out hw)).2.2 k HX.out.2.2.2.2.1 HX.out.2.2.2.2.2.1 y (by omega) dy hdy
          by_cases he : dx = dy
          · subst he
            clear HNx hb hl hdx hdy cx cy hxy
            go_upto_region 4 with (fail)
            refine wp_region_planI (by kernel_rfl) [20, 21, 22, 23, 24, 25, 26, 27, 28, 29, 30, 31, 32, 33, 34, 35, 36, 37, 38, 39, 40, 41, 42, 43, 44, 45, 46, 47, 48, 49, 50] [] [.slice (some ⟨ba, oa, none⟩) X.length ca', .int .i64 (j : Int), .pointer (some ⟨ba, oa + j, none⟩), .string x, .slice (some ⟨bb, ob, none⟩) X.length cb', .int .i64 (j : Int), .pointer (some ⟨bb, ob + j, none⟩), .string y, .bool true, .bool true, .int .i64 (j : Int), .slice (some ⟨ba, oa, none⟩) X.length ca', .int .i64 (X.length : Int), .int .i64 ((X.length : Int) - 1), .bool false, .bool false, .int .i64 k, .slice (some ⟨ba, oa, none⟩) X.length ca', .int .i64 (j : Int), .pointer (some ⟨ba, oa + j, none⟩), .string x, .string dx, .int .i64 k, .slice (some ⟨bb, ob, none⟩) X.length cb', .int .i64 (j : Int), .pointer (some ⟨bb, ob + j, none⟩), .string y, .string dx, .bool true, .bool true, .bool true] (by kernel_rfl) rfl (fun j hj => by cases hj) (fun _ W => Below wr.heap.size wr W) (fun W _ hb => hb) ?step ?fin
            case step =>
              refine ⟨?_, ?_, ?_, ?_, ?_, ?_, ?_, ?_, ?_, ?_, ?_, ?_, ?_, ?_, ?_, ?_, ?_, ?_, ?_, ?_, ?_, ?_, ?_, ?_, ?_, ?_, ?_, ?_, ?_, ?_, ?_, trivial⟩
              · intro L Ac Wc K hI hj hcl hsm dep hK
                have t0 : Ac.tmps.getD 0 undef = .slice (some ⟨ba, oa, none⟩) X.length ca' := hsm 0 rfl
                show Oper.wp _ _ Ac Wc K _
                go_simp
                exact hK _ _ (.inr rfl) hI
              · intro L Ac Wc K hI hj hcl hsm dep hK
                have t7 : Ac.tmps.getD 7 undef = .int .i64 (j : Int) := hsm 7 rfl
                show Oper.wp _ _ Ac Wc K _
                go_simp
                exact hK _ _ (.inr rfl) hI
              · intro L Ac Wc K hI hj hcl hsm dep hK
                have t20 : Ac.tmps.getD 20 undef = .slice (some ⟨ba, oa, none⟩) X.length ca' := dep 0 rfl
                have t21 : Ac.tmps.getD 21 undef = .int .i64 (j : Int) := dep 1 rfl
                show Oper.wp _ _ Ac Wc K _
                go_simp
                exact hK _ _ (.inr rfl) hI
              · intro L Ac Wc K hI hj hcl hsm dep hK
                have t22 : Ac.tmps.getD 22 undef = .pointer (some ⟨ba, oa + j, none⟩) := dep 2 rfl
                show Oper.wp _ _ Ac Wc K _
                obtain ⟨ca, cb⟩ := HCl.out Wc hI
                go_simp
                exact hK _ _ (.inr rfl) hI
              · intro L Ac Wc K hI hj hcl hsm dep hK
                have t1 : Ac.tmps.getD 1 undef = .slice (some ⟨bb, ob, none⟩) X.length cb' := hsm 1 rfl
                show Oper.wp _ _ Ac Wc K _
                go_simp
                exact hK _ _ (.inr rfl) hI
              · intro L Ac Wc K hI hj hcl hsm dep hK
                have t7 : Ac.tmps.getD 7 undef = .int .i64 (j : Int) := hsm 7 rfl
                show Oper.wp _ _ Ac Wc K _
                go_simp
                exact hK _ _ (.inr rfl) hI
              · intro L Ac Wc K hI hj hcl hsm dep hK
                have t24 : Ac.tmps.getD 24 undef = .slice (some ⟨bb, ob, none⟩) X.length cb' := dep 4 rfl
                have t25 : Ac.tmps.getD 25 undef = .int .i64 (j : Int) := dep 5 rfl
                show Oper.wp _ _ Ac Wc K _
                go_simp
                exact hK _ _ (.inr rfl) hI
              · intro L Ac Wc K hI hj hcl hsm dep hK
                have t26 : Ac.tmps.getD 26 undef = .pointer (some ⟨bb, ob + j, none⟩) := dep 6 rfl
                show Oper.wp _ _ Ac Wc K _
                obtain ⟨ca, cb⟩ := HCl.out Wc hI
                go_simp
                exact hK _ _ (.inr rfl) hI
              · intro L Ac Wc K hI hj hcl hsm dep hK
                have t23 : Ac.tmps.getD 23 undef = .string x := dep 3 rfl
                have t27 : Ac.tmps.getD 27 undef = .string y := dep 7 rfl
                show Oper.wp _ _ Ac Wc K _
                go_simp
                exact hK _ _ (.inr rfl) hI
              · intro L Ac Wc K hI hj hcl hsm dep hK
                have t28 : Ac.tmps.getD 28 undef = .bool true := dep 8 rfl
                show Oper.wp _ _ Ac Wc K _
                go_simp
                exact hK _ _ (.inr rfl) hI
              · intro L Ac Wc K hI hj hcl hsm dep hK
                have t7 : Ac.tmps.getD 7 undef = .int .i64 (j : Int) := hsm 7 rfl
                refine ⟨true, (show Ac.tmps.getD 29 undef = .bool true from dep 9 rfl), ?_⟩
                rw [if_pos rfl]
                go_simp
                exact hK _ _ (.inr rfl) hI
              · intro L Ac Wc K hI hj hcl hsm dep hK
                have t0 : Ac.tmps.getD 0 undef = .slice (some ⟨ba, oa, none⟩) X.length ca' := hsm 0 rfl
                refine ⟨true, (show Ac.tmps.getD 29 undef = .bool true from dep 9 rfl), ?_⟩
                rw [if_pos rfl]
                go_simp
                exact hK _ _ (.inr rfl) hI
              · intro L Ac Wc K hI hj hcl hsm dep hK
                have t31 : Ac.tmps.getD 31 undef = .slice (some ⟨ba, oa, none⟩) X.length ca' := dep 11 rfl
                refine ⟨true, (show Ac.tmps.getD 29 undef = .bool true from dep 9 rfl), ?_⟩
                rw [if_pos rfl]
                go_simp
                exact hK _ _ (.inr rfl) hI
              · intro L Ac Wc K hI hj hcl hsm dep hK
                have t32 : Ac.tmps.getD 32 undef = .int .i64 (X.length : Int) := dep 12 rfl
                refine ⟨true, (show Ac.tmps.getD 29 undef = .bool true from dep 9 rfl), ?_⟩
                rw [if_pos rfl]
                go_simp
                exact hK _ _ (.inr rfl) hI
              · intro L Ac Wc K hI hj hcl hsm dep hK
                have t30 : Ac.tmps.getD 30 undef = .int .i64 (j : Int) := dep 10 rfl
                have t33 : Ac.tmps.getD 33 undef = .int .i64 ((X.length : Int) - 1) := dep 13 rfl
                refine ⟨true, (show Ac.tmps.getD 29 undef = .bool true from dep 9 rfl), ?_⟩
                rw [if_pos rfl]
                go_simp
                exact hK _ _ (.inr rfl) hI
              · intro L Ac Wc K hI hj hcl hsm dep hK
                have t34 : Ac.tmps.getD 34 undef = .bool false := dep 14 rfl
                refine ⟨true, (show Ac.tmps.getD 29 undef = .bool true from dep 9 rfl), ?_⟩
                rw [if_pos rfl]
                go_simp
                exact hK _ _ (.inr rfl) hI
              · intro L Ac Wc K hI hj hcl hsm dep hK
                have t2 : Ac.tmps.getD 2 undef = .int .i64 k := hsm 2 rfl
                refine ⟨false, (show Ac.tmps.getD 35 undef = .bool false from dep 15 rfl), ?_⟩
                rw [if_pos rfl]
                go_simp
                exact hK _ _ (.inr rfl) hI
              · intro L Ac Wc K hI hj hcl hsm dep hK
                have t0 : Ac.tmps.getD 0 undef = .slice (some ⟨ba, oa, none⟩) X.length ca' := hsm 0 rfl
                refine ⟨false, (show Ac.tmps.getD 35 undef = .bool false from dep 15 rfl), ?_⟩
                rw [if_pos rfl]
                go_simp
                exact hK _ _ (.inr rfl) hI
              · intro L Ac Wc K hI hj hcl hsm dep hK
                have t7 : Ac.tmps.getD 7 undef = .int .i64 (j : Int) := hsm 7 rfl
                refine ⟨false, (show Ac.tmps.getD 35 undef = .bool false from dep 15 rfl), ?_⟩
                rw [if_pos rfl]
                go_simp
                exact hK _ _ (.inr rfl) hI
              · intro L Ac Wc K hI hj hcl hsm dep hK
                have t37 : Ac.tmps.getD 37 undef = .slice (some ⟨ba, oa, none⟩) X.length ca' := dep 17 rfl
                have t38 : Ac.tmps.getD 38 undef = .int .i64 (j : Int) := dep 18 rfl
                refine ⟨false, (show Ac.tmps.getD 35 undef = .bool false from dep 15 rfl), ?_⟩
                rw [if_pos rfl]
                go_simp
                exact hK _ _ (.inr rfl) hI
              · intro L Ac Wc K hI hj hcl hsm dep hK
                have t39 : Ac.tmps.getD 39 undef = .pointer (some ⟨ba, oa + j, none⟩) := dep 19 rfl
                refine ⟨false, (show Ac.tmps.getD 35 undef = .bool false from dep 15 rfl), ?_⟩
                rw [if_pos rfl]
                obtain ⟨ca, cb⟩ := HCl.out Wc hI
                go_simp
                exact hK _ _ (.inr rfl) hI
              · intro L Ac Wc K hI hj hcl hsm dep hK
                have t36 : Ac.tmps.getD 36 undef = .int .i64 k := dep 16 rfl
                have t40 : Ac.tmps.getD 40 undef = .string x := dep 20 rfl
                refine ⟨false, (show Ac.tmps.getD 35 undef = .bool false from dep 15 rfl), ?_⟩
                rw [if_pos rfl]
                go_simp
                refine (HHx.out Wc hI).mono ?_
                rintro e w' ⟨rfl, hb'⟩
                exact hK _ _ (.inr rfl) (bnext hI hb')
              · intro L Ac Wc K hI hj hcl hsm dep hK
                have t2 : Ac.tmps.getD 2 undef = .int .i64 k := hsm 2 rfl
                refine ⟨false, (show Ac.tmps.getD 35 undef = .bool false from dep 15 rfl), ?_⟩
                rw [if_pos rfl]
                go_simp
                exact hK _ _ (.inr rfl) hI
              · intro L Ac Wc K hI hj hcl hsm dep hK
                have t1 : Ac.tmps.getD 1 undef = .slice (some ⟨bb, ob, none⟩) X.length cb' := hsm 1 rfl
                refine ⟨false, (show Ac.tmps.getD 35 undef = .bool false from dep 15 rfl), ?_⟩
                rw [if_pos rfl]
                go_simp
                exact hK _ _ (.inr rfl) hI
              · intro L Ac Wc K hI hj hcl hsm dep hK
                have t7 : Ac.tmps.getD 7 undef = .int .i64 (j : Int) := hsm 7 rfl
                refine ⟨false, (show Ac.tmps.getD 35 undef = .bool false from dep 15 rfl), ?_⟩
                rw [if_pos rfl]
                go_simp
                exact hK _ _ (.inr rfl) hI
              · intro L Ac Wc K hI hj hcl hsm dep hK
                have t43 : Ac.tmps.getD 43 undef = .slice (some ⟨bb, ob, none⟩) X.length cb' := dep 23 rfl
                have t44 : Ac.tmps.getD 44 undef = .int .i64 (j : Int) := dep 24 rfl
                refine ⟨false, (show Ac.tmps.getD 35 undef = .bool false from dep 15 rfl), ?_⟩
                rw [if_pos rfl]
                go_simp
                exact hK _ _ (.inr rfl) hI
              · intro L Ac Wc K hI hj hcl hsm dep hK
                have t45 : Ac.tmps.getD 45 undef = .pointer (some ⟨bb, ob + j, none⟩) := dep 25 rfl
                refine ⟨false, (show Ac.tmps.getD 35 undef = .bool false from dep 15 rfl), ?_⟩
                rw [if_pos rfl]
                obtain ⟨ca, cb⟩ := HCl.out Wc hI
                go_simp
                exact hK _ _ (.inr rfl) hI
              · intro L Ac Wc K hI hj hcl hsm dep hK
                have t42 : Ac.tmps.getD 42 undef = .int .i64 k := dep 22 rfl
                have t46 : Ac.tmps.getD 46 undef = .string y := dep 26 rfl
                refine ⟨false, (show Ac.tmps.getD 35 undef = .bool false from dep 15 rfl), ?_⟩
                rw [if_pos rfl]
                go_simp
                refine (HHy.out Wc hI).mono ?_
                rintro e w' ⟨rfl, hb'⟩
                exact hK _ _ (.inr rfl) (bnext hI hb')
              · intro L Ac Wc K hI hj hcl hsm dep hK
                have t41 : Ac.tmps.getD 41 undef = .string dx := dep 21 rfl
                have t47 : Ac.tmps.getD 47 undef = .string dx := dep 27 rfl
                refine ⟨false, (show Ac.tmps.getD 35 undef = .bool false from dep 15 rfl), ?_⟩
                rw [if_pos rfl]
                go_simp
                exact hK _ _ (.inr rfl) hI
              · intro L Ac Wc K hI hj hcl hsm dep hK
                have t35 : Ac.tmps.getD 35 undef = .bool false := dep 15 rfl
                have t48 : Ac.tmps.getD 48 undef = .bool true := dep 28 rfl
                refine ⟨true, (show Ac.tmps.getD 29 undef = .bool true from dep 9 rfl), ?_⟩
                rw [if_pos rfl]
                go_simp
                exact hK _ _ (.inr rfl) hI
              · intro L Ac Wc K hI hj hcl hsm dep hK
                have t29 : Ac.tmps.getD 29 undef = .bool true := dep 9 rfl
                have t49 : Ac.tmps.getD 49 undef = .bool true := dep 29 rfl
                show Oper.wp _ _ Ac Wc K _
                go_simp
                exact hK _ _ (.inr rfl) hI
            case fin =>
              intro L w3 hall hI
              clear hall
              simp only [puts]
              go_simp
              go_wp2
              go_ret
              exact ⟨rfl, bnext HB.out hI⟩
          · have hdq := beq_ne he
            have HN := hide (HNx.out (fun h => by rcases h.2 with h | h; exact hl h; exact he (by rw [← hdx, ← hdy]; exact h)))
            clear HNx hb hl hdx hdy cx cy hxy
            go_upto_region 4 with (fail)
            refine wp_region_planI (by kernel_rfl) [20, 21, 22, 23, 24, 25, 26, 27, 28, 29, 30, 31, 32, 33, 34, 35, 36, 37, 38, 39, 40, 41, 42, 43, 44, 45, 46, 47, 48, 49, 50] [] [.slice (some ⟨ba, oa, none⟩) X.length ca', .int .i64 (j : Int), .pointer (some ⟨ba, oa + j, none⟩), .string x, .slice (some ⟨bb, ob, none⟩) X.length cb', .int .i64 (j : Int), .pointer (some ⟨bb, ob + j, none⟩), .string y, .bool true, .bool true, .int .i64 (j : Int), .slice (some ⟨ba, oa, none⟩) X.length ca', .int .i64 (X.length : Int), .int .i64 ((X.length : Int) - 1), .bool false, .bool false, .int .i64 k, .slice (some ⟨ba, oa, none⟩) X.length ca', .int .i64 (j : Int), .pointer (some ⟨ba, oa + j, none⟩), .string x, .string dx, .int .i64 k, .slice (some ⟨bb, ob, none⟩) X.length cb', .int .i64 (j : Int), .pointer (some ⟨bb, ob + j, none⟩), .string y, .string dy, .bool false, .bool false, .bool false] (by kernel_rfl) rfl (fun j hj => by cases hj) (fun _ W => Below wr.heap.size wr W) (fun W _ hb => hb) ?step ?fin
            case step =>
              refine ⟨?_, ?_, ?_, ?_, ?_, ?_, ?_, ?_, ?_, ?_, ?_, ?_, ?_, ?_, ?_, ?_, ?_, ?_, ?_, ?_, ?_, ?_, ?_, ?_, ?_, ?_, ?_, ?_, ?_, ?_, ?_, trivial⟩
              · intro L Ac Wc K hI hj hcl hsm dep hK
                have t0 : Ac.tmps.getD 0 undef = .slice (some ⟨ba, oa, none⟩) X.length ca' := hsm 0 rfl
                show Oper.wp _ _ Ac Wc K _
                go_simp
                exact hK _ _ (.inr rfl) hI
              · intro L Ac Wc K hI hj hcl hsm dep hK
                have t7 : Ac.tmps.getD 7 undef = .int .i64 (j : Int) := hsm 7 rfl
                show Oper.wp _ _ Ac Wc K _
                go_simp
                exact hK _ _ (.inr rfl) hI
              · intro L Ac Wc K hI hj hcl hsm dep hK
                have t20 : Ac.tmps.getD 20 undef = .slice (some ⟨ba, oa, none⟩) X.length ca' := dep 0 rfl
                have t21 : Ac.tmps.getD 21 undef = .int .i64 (j : Int) := dep 1 rfl
                show Oper.wp _ _ Ac Wc K _
                go_simp
                exact hK _ _ (.inr rfl) hI
              · intro L Ac Wc K hI hj hcl hsm dep hK
                have t22 : Ac.tmps.getD 22 undef = .pointer (some ⟨ba, oa + j, none⟩) := dep 2 rfl
                show Oper.wp _ _ Ac Wc K _
                obtain ⟨ca, cb⟩ := HCl.out Wc hI
                go_simp
                exact hK _ _ (.inr rfl) hI
              · intro L Ac Wc K hI hj hcl hsm dep hK
                have t1 : Ac.tmps.getD 1 undef = .slice (some ⟨bb, ob, none⟩) X.length cb' := hsm 1 rfl
                show Oper.wp _ _ Ac Wc K _
                go_simp
                exact hK _ _ (.inr rfl) hI
              · intro L Ac Wc K hI hj hcl hsm dep hK
                have t7 : Ac.tmps.getD 7 undef = .int .i64 (j : Int) := hsm 7 rfl
                show Oper.wp _ _ Ac Wc K _
                go_simp
                exact hK _ _ (.inr rfl) hI
              · intro L Ac Wc K hI hj hcl hsm dep hK
                have t24 : Ac.tmps.getD 24 undef = .slice (some ⟨bb, ob, none⟩) X.length cb' := dep 4 rfl
                have t25 : Ac.tmps.getD 25 undef = .int .i64 (j : Int) := dep 5 rfl
                show Oper.wp _ _ Ac Wc K _
                go_simp
                exact hK _ _ (.inr rfl) hI
              · intro L Ac Wc K hI hj hcl hsm dep hK
                have t26 : Ac.tmps.getD 26 undef = .pointer (some ⟨bb, ob + j, none⟩) := dep 6 rfl
                show Oper.wp _ _ Ac Wc K _
                obtain ⟨ca, cb⟩ := HCl.out Wc hI
                go_simp
                exact hK _ _ (.inr rfl) hI
              · intro L Ac Wc K hI hj hcl hsm dep hK
                have t23 : Ac.tmps.getD 23 undef = .string x := dep 3 rfl
                have t27 : Ac.tmps.getD 27 undef = .string y := dep 7 rfl
                show Oper.wp _ _ Ac Wc K _
                go_simp
                exact hK _ _ (.inr rfl) hI
              · intro L Ac Wc K hI hj hcl hsm dep hK
                have t28 : Ac.tmps.getD 28 undef = .bool true := dep 8 rfl
                show Oper.wp _ _ Ac Wc K _
                go_simp
                exact hK _ _ (.inr rfl) hI
              · intro L Ac Wc K hI hj hcl hsm dep hK
                have t7 : Ac.tmps.getD 7 undef = .int .i64 (j : Int) := hsm 7 rfl
                refine ⟨true, (show Ac.tmps.getD 29 undef = .bool true from dep 9 rfl), ?_⟩
                rw [if_pos rfl]
                go_simp
                exact hK _ _ (.inr rfl) hI
              · intro L Ac Wc K hI hj hcl hsm dep hK
                have t0 : Ac.tmps.getD 0 undef = .slice (some ⟨ba, oa, none⟩) X.length ca' := hsm 0 rfl
                refine ⟨true, (show Ac.tmps.getD 29 undef = .bool true from dep 9 rfl), ?_⟩
                rw [if_pos rfl]
                go_simp
                exact hK _ _ (.inr rfl) hI
              · intro L Ac Wc K hI hj hcl hsm dep hK
                have t31 : Ac.tmps.getD 31 undef = .slice (some ⟨ba, oa, none⟩) X.length ca' := dep 11 rfl
                refine ⟨true, (show Ac.tmps.getD 29 undef = .bool true from dep 9 rfl), ?_⟩
                rw [if_pos rfl]
                go_simp
                exact hK _ _ (.inr rfl) hI
              · intro L Ac Wc K hI hj hcl hsm dep hK
                have t32 : Ac.tmps.getD 32 undef = .int .i64 (X.length : Int) := dep 12 rfl
                refine ⟨true, (show Ac.tmps.getD 29 undef = .bool true from dep 9 rfl), ?_⟩
                rw [if_pos rfl]
                go_simp
                exact hK _ _ (.inr rfl) hI
              · intro L Ac Wc K hI hj hcl hsm dep hK
                have t30 : Ac.tmps.getD 30 undef = .int .i64 (j : Int) := dep 10 rfl
                have t33 : Ac.tmps.getD 33 undef = .int .i64 ((X.length : Int) - 1) := dep 13 rfl
                refine ⟨true, (show Ac.tmps.getD 29 undef = .bool true from dep 9 rfl), ?_⟩
                rw [if_pos rfl]
                go_simp
                exact hK _ _ (.inr rfl) hI
              · intro L Ac Wc K hI hj hcl hsm dep hK
                have t34 : Ac.tmps.getD 34 undef = .bool false := dep 14 rfl
                refine ⟨true, (show Ac.tmps.getD 29 undef = .bool true from dep 9 rfl), ?_⟩
                rw [if_pos rfl]
                go_simp
                exact hK _ _ (.inr rfl) hI
              · intro L Ac Wc K hI hj hcl hsm dep hK
                have t2 : Ac.tmps.getD 2 undef = .int .i64 k := hsm 2 rfl
                refine ⟨false, (show Ac.tmps.getD 35 undef = .bool false from dep 15 rfl), ?_⟩
                rw [if_pos rfl]
                go_simp
                exact hK _ _ (.inr rfl) hI
              · intro L Ac Wc K hI hj hcl hsm dep hK
                have t0 : Ac.tmps.getD 0 undef = .slice (some ⟨ba, oa, none⟩) X.length ca' := hsm 0 rfl
                refine ⟨false, (show Ac.tmps.getD 35 undef = .bool false from dep 15 rfl), ?_⟩
                rw [if_pos rfl]
                go_simp
                exact hK _ _ (.inr rfl) hI
              · intro L Ac Wc K hI hj hcl hsm dep hK
                have t7 : Ac.tmps.getD 7 undef = .int .i64 (j : Int) := hsm 7 rfl
                refine ⟨false, (show Ac.tmps.getD 35 undef = .bool false from dep 15 rfl), ?_⟩
                rw [if_pos rfl]
                go_simp
                exact hK _ _ (.inr rfl) hI
              · intro L Ac Wc K hI hj hcl hsm dep hK
                have t37 : Ac.tmps.getD 37 undef = .slice (some ⟨ba, oa, none⟩) X.length ca' := dep 17 rfl
                have t38 : Ac.tmps.getD 38 undef = .int .i64 (j : Int) := dep 18 rfl
                refine ⟨false, (show Ac.tmps.getD 35 undef = .bool false from dep 15 rfl), ?_⟩
                rw [if_pos rfl]
                go_simp
                exact hK _ _ (.inr rfl) hI
              · intro L Ac Wc K hI hj hcl hsm dep hK
                have t39 : Ac.tmps.getD 39 undef = .pointer (some ⟨ba, oa + j, none⟩) := dep 19 rfl
                refine ⟨false, (show Ac.tmps.getD 35 undef = .bool false from dep 15 rfl), ?_⟩
                rw [if_pos rfl]
                obtain ⟨ca, cb⟩ := HCl.out Wc hI
                go_simp
                exact hK _ _ (.inr rfl) hI
              · intro L Ac Wc K hI hj hcl hsm dep hK
                have t36 : Ac.tmps.getD 36 undef = .int .i64 k := dep 16 rfl
                have t40 : Ac.tmps.getD 40 undef = .string x := dep 20 rfl
                refine ⟨false, (show Ac.tmps.getD 35 undef = .bool false from dep 15 rfl), ?_⟩
                rw [if_pos rfl]
                go_simp
                refine (HHx.out Wc hI).mono ?_
                rintro e w' ⟨rfl, hb'⟩
                exact hK _ _ (.inr rfl) (bnext hI hb')
              · intro L Ac Wc K hI hj hcl hsm dep hK
                have t2 : Ac.tmps.getD 2 undef = .int .i64 k := hsm 2 rfl
                refine ⟨false, (show Ac.tmps.getD 35 undef = .bool false from dep 15 rfl), ?_⟩
                rw [if_pos rfl]
                go_simp
                exact hK _ _ (.inr rfl) hI
              · intro L Ac Wc K hI hj hcl hsm dep hK
                have t1 : Ac.tmps.getD 1 undef = .slice (some ⟨bb, ob, none⟩) X.length cb' := hsm 1 rfl
                refine ⟨false, (show Ac.tmps.getD 35 undef = .bool false from dep 15 rfl), ?_⟩
                rw [if_pos rfl]
                go_simp
                exact hK _ _ (.inr rfl) hI
              · intro L Ac Wc K hI hj hcl hsm dep hK
                have t7 : Ac.tmps.getD 7 undef = .int .i64 (j : Int) := hsm 7 rfl
                refine ⟨false, (show Ac.tmps.getD 35 undef = .bool false from dep 15 rfl), ?_⟩
                rw [if_pos rfl]
                go_simp
                exact hK _ _ (.inr rfl) hI
              · intro L Ac Wc K hI hj hcl hsm dep hK
                have t43 : Ac.tmps.getD 43 undef = .slice (some ⟨bb, ob, none⟩) X.length cb' := dep 23 rfl
                have t44 : Ac.tmps.getD 44 undef = .int .i64 (j : Int) := dep 24 rfl
                refine ⟨false, (show Ac.tmps.getD 35 undef = .bool false from dep 15 rfl), ?_⟩
                rw [if_pos rfl]
                go_simp
                exact hK _ _ (.inr rfl) hI
              · intro L Ac Wc K hI hj hcl hsm dep hK
                have t45 : Ac.tmps.getD 45 undef = .pointer (some ⟨bb, ob + j, none⟩) := dep 25 rfl
                refine ⟨false, (show Ac.tmps.getD 35 undef = .bool false from dep 15 rfl), ?_⟩
                rw [if_pos rfl]
                obtain ⟨ca, cb⟩ := HCl.out Wc hI
                go_simp
                exact hK _ _ (.inr rfl) hI
              · intro L Ac Wc K hI hj hcl hsm dep hK
                have t42 : Ac.tmps.getD 42 undef = .int .i64 k := dep 22 rfl
                have t46 : Ac.tmps.getD 46 undef = .string y := dep 26 rfl
                refine ⟨false, (show Ac.tmps.getD 35 undef = .bool false from dep 15 rfl), ?_⟩
                rw [if_pos rfl]
                go_simp
                refine (HHy.out Wc hI).mono ?_
                rintro e w' ⟨rfl, hb'⟩
                exact hK _ _ (.inr rfl) (bnext hI hb')
              · intro L Ac Wc K hI hj hcl hsm dep hK
                have t41 : Ac.tmps.getD 41 undef = .string dx := dep 21 rfl
                have t47 : Ac.tmps.getD 47 undef = .string dy := dep 27 rfl
                refine ⟨false, (show Ac.tmps.getD 35 undef = .bool false from dep 15 rfl), ?_⟩
                rw [if_pos rfl]
                go_simp
                exact hK _ _ (.inr rfl) hI
              · intro L Ac Wc K hI hj hcl hsm dep hK
                have t35 : Ac.tmps.getD 35 undef = .bool false := dep 15 rfl
                have t48 : Ac.tmps.getD 48 undef = .bool false := dep 28 rfl
                refine ⟨true, (show Ac.tmps.getD 29 undef = .bool true from dep 9 rfl), ?_⟩
                rw [if_pos rfl]
                go_simp
                exact hK _ _ (.inr rfl) hI
              · intro L Ac Wc K hI hj hcl hsm dep hK
                have t29 : Ac.tmps.getD 29 undef = .bool true := dep 9 rfl
                have t49 : Ac.tmps.getD 49 undef = .bool false := dep 29 rfl
                show Oper.wp _ _ Ac Wc K _
                go_simp
                exact hK _ _ (.inr rfl) hI
            case fin =>
              intro L w3 hall hI
              clear hall
              simp only [puts]
              go_simp
              go_wp2
              go_roundg (X.length - (j + 1))
              case rel =>
                go_light
                exact ⟨j + 1, by omega, rfl, by go_num, HN.out, bnext HB.out hI⟩
              case measure => go_light; omega
    · obtain rfl : j = X.length := by omega
      exfalso
      obtain ⟨_, t, ht, h1, h2⟩ := HX.out.2.2.2.1
      exact hno t ht ⟨h1, h2⟩
set_option maxRecDepth 100000 in
theorem asked_yes (w : World) (k : Int) (size : Nat) (b o sc : Nat) (i H : Nat) (A B : List (Nat × Nat)) (ha : RA w k size b o i H A B) (da : Option Addr) (db dO dc : Nat) (D : List ByteArray) (hr : RdS w da db dO D.length D) (hm : D.length ≤ 9223372036854775807) (hf : fil k (H + A.length + B.length) D) :
    Calls Tryd.prog 17 #[.agg #[.int .i64 1, .int .i64 k, .int .u64 0, .int .u64 (size : Int), .slice (some ⟨b, o, none⟩) 1 sc, .slice da D.length dc], .int .i64 k, .int .u64 (size : Int), .int .u64 (i : Int)] w fun e w' => e = .returned (.bool true) ∧ Below w.heap.size w w' := by
  obtain ⟨W0, hW0⟩ : ∃ W0, w.alloc (.cells #[.int .i64 1, .int .i64 k, .int .u64 0, .int .u64 (size : Int), .slice (some ⟨b, o, none⟩) 1 sc, .slice da D.length dc] 26) = W0 := ⟨_, rfl⟩
  have hb : Below w.heap.size w W0 := by rw [← hW0]; exact bal (Below.refl _ _) _
  have h6 : Six W0 w.heap.size (.int .i64 1) (.int .i64 k) (.int .u64 0) (.int .u64 (size : Int)) (.slice (some ⟨b, o, none⟩) 1 sc) (.slice da D.length dc) := by rw [← hW0]; exact six_new w _ _ _ _ _ _
  have ci := fun W (hw : Below w.heap.size w W) => (hw.cell (p := ⟨b, o, none⟩) (World.block_lt_of_cell? w _ ha.ci)).trans ha.ci
  have HW : Hid (Calls Tryd.prog 30 #[.agg #[.int .i64 1, .int .i64 k, .int .u64 0, .int .u64 (size : Int), .slice (some ⟨b, o, none⟩) 1 sc, .slice da D.length dc]] W0 fun e w' => e = .returned (.bool true) ∧ Below W0.heap.size W0 w') :=
    well_core W0 k size b o sc i H A B ⟨ha.k1, ha.n, ha.il, ha.wy, ci W0 hb⟩ da db dO dc D (hr.next hb (Nat.le_refl _)) hm true (decide_eq_true hf)
  have HC := hide ci
  obtain ⟨e0, e1, e2, e3, e4, e5⟩ := h6.cells
  have H6 := hide h6
  clear ha hr hm hf ci h6
  go_enter Tryd.func17, Tryd.ntmps17
  go_upto_region 1 with (fail)
  try rw [hW0]
  clear hW0
  go_wp2_with (go_at_call 30; with_reducible refine HW.out.mono ?_; rintro e w1 ⟨rfl, hb1⟩; obtain ⟨g0, g1, g2, g3, g4, g5⟩ := (H6.out.next hb1).cells; have ci := HC.out w1 (bnext hb hb1))
  go_ret
  exact ⟨rfl, bnext hb hb1⟩
end Go.Proofs.YtgmnolepaidiiaaDoor
