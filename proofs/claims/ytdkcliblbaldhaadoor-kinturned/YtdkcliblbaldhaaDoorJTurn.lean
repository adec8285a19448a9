/-
  KinTurned: one byte of one digest is turned. Own work.
-/
import Derived.Test.YtdkcliblbaldhaaDoorJTurnC
import Derived.Test.YtdkcliblbaldhaaDoorJFreshA
import Derived.Test.YtdkcliblbaldhaaDoorJAlive
import Derived.Test.YtdkcliblbaldhaaDoorJByt
import Derived.Laws.BitsAllLaws
namespace Go.Proofs.YtdkcliblbaldhaaDoor
open Go.RowKit
open Cv (RdC zl cU cov)
attribute [local go_sem ↓] Go.wp_at_zero Go.wp_at_succ
/-- Which digest, which byte, by what. -/
def Th (w : World) (g : Nat) (a b : Int) (y : Nat) : Prop := w.heap[g]? = some (.cells #[.int .i64 a, .int .i64 b, .int .u8 (y : Int)] 49 (0, 0))
section
variable {w W : World} {g : Nat} {a b : Int} {y : Nat}
theorem Th.cells (t : Th w g a b y) : w.cell? ⟨g, 0, none⟩ = some (.int .i64 a) ∧ w.cell? ⟨g, 1, none⟩ = some (.int .i64 b) ∧ w.cell? ⟨g, 2, none⟩ = some (.int .u8 (y : Int)) :=
  ⟨by rw [cell_of_row w g 0 _ _ (0, 0) t]; rfl, by rw [cell_of_row w g 1 _ _ (0, 0) t]; rfl, by rw [cell_of_row w g 2 _ _ (0, 0) t]; rfl⟩
theorem Th.lt (t : Th w g a b y) : g < w.heap.size := (Array.getElem?_eq_some_iff.1 t).1
theorem Th.same (t : Th w g a b y) (hb : W.heap[g]? = w.heap[g]?) : Th W g a b y := hb.trans t
theorem Th.next (t : Th w g a b y) (hb : Below w.heap.size w W) : Th W g a b y := t.same (hb.block g t.lt)
theorem th_new (w : World) (a b : Int) (y : Nat) : Th (w.alloc (.cells #[.int .i64 a, .int .i64 b, .int .u8 (y : Int)] 49)) w.heap.size a b y := heap_alloc_new w _
end
theorem within_all (x : Int) (n : Nat) (h0 : 0 < n) (h1 : n ≤ 1000) : ∃ m : Nat, m < n ∧ ∀ w, Calls Tryd.prog 18 #[.int .i64 x, .int .i64 (n : Int)] w fun e w' => e = .returned (.int .i64 (m : Int)) ∧ w = w' := by
  have hn : 0 ≤ IntKind.u64.wrap x := by rw [IntKind.wrap_u64]; omega
  obtain ⟨z, hz⟩ : ∃ z, IntKind.u64.wrap x = z := ⟨_, rfl⟩
  rw [hz] at hn
  have e1 : IntKind.u64.wrap (n : Int) = (n : Int) := u64_id _ (by omega) (by omega)
  obtain ⟨m, hm⟩ : ∃ m : Nat, z % (n : Int) = (m : Int) := ⟨(z % (n : Int)).toNat, by have := Int.emod_nonneg z (show (n : Int) ≠ 0 by omega); omega⟩
  have hmn : m < n := by have := Int.emod_lt_of_pos z (show (0 : Int) < (n : Int) by omega); omega
  have e2 : Int.tmod z (n : Int) = (m : Int) := by rw [Int.tmod_eq_emod_of_nonneg hn]; exact hm
  have e3 : IntKind.u64.wrap (m : Int) = (m : Int) := u64_id _ (by omega) (by omega)
  have e4 : IntKind.i64.wrap (m : Int) = (m : Int) := by rw [IntKind.wrap_i64]; omega
  have hz0 : ¬ (n : Int) = 0 := by omega
  refine ⟨m, hmn, fun w => ?_⟩
  clear hm hmn hn h0 h1
  go_enter Tryd.func18, Tryd.ntmps18
  go_wp2
  go_ret
  exact ⟨rfl, rfl⟩
theorem toList_loopT (bs : ByteArray) : ∀ (n i : Nat) (r : List UInt8), bs.size - i = n → ByteArray.toList.loop bs i r = r.reverse ++ bs.data.toList.drop i := by
  intro n
  induction n with
  | zero =>
    intro i r h
    rw [ByteArray.toList.loop, if_neg (by omega)]
    rw [List.drop_eq_nil_of_le (by simp; exact (by omega : bs.size ≤ i)), List.append_nil]
  | succ n ih =>
    intro i r h
    have hi : i < bs.size := by omega
    rw [ByteArray.toList.loop, if_pos hi, ih (i + 1) _ (by omega)]
    have hl : i < bs.data.toList.length := by simp; exact hi
    rw [List.drop_eq_getElem_cons hl, List.reverse_cons, List.append_assoc]
    have : bs.get! i = bs.data.toList[i] := by
      show bs.data[i]! = _
      have hi2 : i < bs.data.size := hi
      rw [getElem!_pos bs.data i hi2]
      simp
    rw [this]; rfl
theorem beq_neT {x y : ByteArray} (h : x ≠ y) : (x.toList == y.toList) = false := by
  have e : ∀ bs : ByteArray, bs.toList = bs.data.toList := fun bs => by rw [ByteArray.toList, toList_loopT bs bs.size 0 [] rfl]; rfl
  rw [e, e]
  simp only [beq_eq_false_iff_ne, ne_eq]
  intro e
  exact h (ByteArray.ext (Array.toList_inj.1 e))
theorem txt_size {c n : Nat} (hc : c ≤ 32) {L : List (Nat × Nat)} {D : List ByteArray} (hD : ∀ d ∈ D, d.size ≤ 32) : ∀ s ∈ txt c L n D, s.size ≤ 1000 := fun s hs => by
  have hP : ∀ s ∈ dgF (dgK c L D) (cov 0 n), s.size ≤ 32 := fun s hs => by
    obtain ⟨b, _, rfl⟩ := List.mem_map.1 hs
    exact dgK_size hc hD b.1 b.2
  rcases List.mem_append.1 hs with hs | hs
  · rcases List.mem_cons.1 hs with rfl | hs
    · rw [rootT_size]
      have := bagL_size hc (Nat.le_refl 32) _ hP
      omega
    · exact bgF_size hc _ hP s hs
  · exact flT_size hc hD _ s hs
theorem txt_le {c n : Nat} (hn : n ≤ 2 ^ 40) {L : List (Nat × Nat)} {D : List ByteArray} : 0 < (txt c L n D).length ∧ (txt c L n D).length ≤ n + 42 := by
  have h1 := flT_le c L D (Cv.cov_row 0 n (Nat.zero_le _) hn)
  have h2 := Cv.cov_forty n hn
  rw [txt, List.length_append, List.length_cons, bgF_len, dgF, List.length_map]
  omega
theorem txt_zero (c : Nat) (L : List (Nat × Nat)) (n : Nat) (D : List ByteArray) : dg c ((txt c L n D).getD 0 ByteArray.empty) = kNow c n (dgK c L D) := rfl
set_option maxRecDepth 100000 in
set_option maxHeartbeats 8000000 in
theorem turned_walk (w : World) (ht : Tb w) (k : Int) (ao : Option Addr) (b off len cap : Nat) (L : List ByteArray) (rd : RdS w ao b off len L) (hm : len ≤ 8796093022208) (at' bt : Int) (yb : Nat) (hyb : yb < 256) :
    Calls Tryd.prog 4 #[.int .i64 k, .slice ao len cap, .agg #[.int .i64 at', .int .i64 bt, .int .u8 (yb : Int)]] w fun e w' => e = .returned (.bool true) ∧ Below w.heap.size w w' := by
  have hb0 := bal (Below.refl w.heap.size w) (.cells #[.int .i64 at', .int .i64 bt, .int .u8 (yb : Int)] 49)
  have hth := th_new w at' bt yb
  obtain ⟨W0, hW0⟩ : ∃ W0, w.alloc (.cells #[.int .i64 at', .int .i64 bt, .int .u8 (yb : Int)] 49) = W0 := ⟨_, rfl⟩
  rw [hW0] at hb0 hth
  have HTh : Hid (∀ W, Below W0.heap.size W0 W → Th W w.heap.size at' bt yb ∧ Below w.heap.size w W) := fun W hb => ⟨hth.next hb, bnext hb0 hb⟩
  have HA := alive_any W0 (ht.next hb0)
  obtain ⟨K, hK⟩ : ∃ K, stg k = K := ⟨_, rfl⟩
  have hK1 := stg_in k
  rw [hK] at hK1
  have HSg : Hid (∀ W, Calls Tryd.prog 9 #[.int .i64 k] W fun e w' => e = .returned (.int .i64 K) ∧ W = w') := fun W => strength_any W k K hK
  obtain ⟨T, hT⟩ : ∃ T, lst L = T := ⟨_, rfl⟩
  have hTl : T.length ≤ 70 := by rw [← hT]; exact lst_len L
  have hTs : ∀ s ∈ T, s.size ≤ 100 := by rw [← hT]; exact lst_size L
  have HFw : Hid (∀ W, Below w.heap.size w W → Calls Tryd.prog 10 #[.slice ao len cap] W fun e w' => ∃ av bv cv, e = .returned (.slice av T.length cv) ∧ RdS w' av bv 0 T.length T ∧ Below W.heap.size W w') := fun W hb => (few_any W ao b off len cap L (rd.next hb (Nat.le_refl _)) hm T hT).mono fun e w' ⟨v, e1, e2, e3⟩ => by
    obtain ⟨av, bv, cv, rfl, r, _, _⟩ := owns_rds e2 (fun s hs => by have := hTs s hs; omega)
    exact ⟨av, bv, cv, e1, r, e3⟩
  have HGr : Hid (∀ W av bv cv, Below w.heap.size w W → RdS W av bv 0 T.length T → Calls Tryd.prog 11 #[.int .i64 K, .slice av T.length cv] W fun e w' => e = .returned (.pointer (some ⟨W.heap.size + 1, 0, none⟩)) ∧ Frs w' W.heap.size K T ∧ Below W.heap.size W w') := fun W av bv cv hb hr => grown_any W (ht.next hb) K hK1.1 hK1.2 av bv 0 T.length cv T hr hTl hTs
  have HT : Hid (∀ W, Below w.heap.size w W → Tb W) := fun W hb => ht.next hb
  obtain ⟨tn, htn⟩ : ∃ tn : Nat, T.length = tn := ⟨_, rfl⟩
  rw [htn] at hTl
  obtain ⟨t1, ht1⟩ : ∃ t1 : Nat, tn + 1 = t1 := ⟨_, rfl⟩
  obtain ⟨a3, ha3⟩ : ∃ a3 : Int, IntKind.i64.wrap (Int.tdiv at' 3) = a3 := ⟨_, rfl⟩
  obtain ⟨m, hmt, hWm⟩ := within_all a3 t1 (by omega) (by omega)
  have HWm := hide hWm
  have e1 : IntKind.u64.wrap (tn : Int) = (tn : Int) := u64_id _ (by omega) (by omega)
  have e2 : IntKind.i64.wrap ((tn : Int) + 1) = (t1 : Int) := by rw [IntKind.wrap_i64]; omega
  have e3 : IntKind.u64.wrap (m : Int) = (m : Int) := u64_id _ (by omega) (by omega)
  have hmn : m ≤ tn := by omega
  obtain ⟨D, hD⟩ : ∃ D, dgKn (clk K) T m tn = D := ⟨_, rfl⟩
  have hDl : D.length ≤ 120 := by rw [← hD, dgKn_len]; exact kb_len hmn (by omega)
  have hDs : ∀ s ∈ D, s.size = clk K := fun s hs => by rw [← hD] at hs; exact dgKn_size (clk_le K) _ _ _ s hs
  have HPr : Hid (∀ W fm, Frs W fm K T → Calls Tryd.prog 12 #[.pointer (some ⟨fm + 1, 0, none⟩), .int .u64 (m : Int), .int .u64 (tn : Int)] W fun e w' => ∃ ad bd cd, e = .returned (.tuple #[.agg #[.int .i64 3, .int .i64 K, .int .u64 (m : Int), .int .u64 (tn : Int), .slice none 0 0, .slice ad D.length cd], .int .i64 0]) ∧ RdS w' ad bd 0 D.length D ∧ D.length ≤ cd ∧ (ad = none → cd = 0) ∧ OwnS w' W.heap.size (.slice ad D.length cd) D ∧ Below W.heap.size W w') := fun W fm hF => kprove_rd W fm K T hF (by omega) m tn (by omega) hmn D hD
  obtain ⟨on, hon⟩ : ∃ on : Nat, (cov 0 m).length = on := ⟨_, rfl⟩
  obtain ⟨rl, hrl⟩ : ∃ rl : Nat, (cov m tn).length = rl := ⟨_, rfl⟩
  have hDk : (kb m tn).length = D.length := by rw [← hD, dgKn_len]
  have hD1 : on + rl = D.length := by rw [← hDk, kb, List.length_append, hon, hrl]
  have HOn : Hid (∀ W, Calls Tryd.prog 17 #[.int .u64 (m : Int)] W fun e w' => e = .returned (.int .i64 (on : Int)) ∧ W = w') := fun W => by
    have := Pl.ones_any m W (by omega)
    rw [← Cv.cov_ones m (by omega), hon] at this
    exact this.mono fun _ _ h => ⟨h.1, h.2.symm⟩
  have HRg : Hid (∀ W, Calls Tryd.prog 15 #[.int .u64 (m : Int), .int .u64 (tn : Int), .int .u64 (tn : Int)] W fun e w' => ∃ ao cap, e = .returned (.tuple #[.slice ao rl cap, .int .i64 0]) ∧ Below W.heap.size W w') := fun W => by
    have h := Cv.range_any m tn tn W
    rw [(range40 hmn (by omega)).1, (range40 hmn (by omega)).2] at h
    refine h.mono fun e w' ⟨v, e1, e2, e3⟩ => ?_
    obtain ⟨ao, n1, cap, rfl⟩ := Cv.own_slice e2
    have hl := own_len e2
    rw [Cv.zl_len, hrl] at hl
    subst hl
    exact ⟨ao, cap, e1, e3⟩
  have ewr : IntKind.i64.wrap ((on : Int) + (rl : Int)) = (D.length : Int) := by rw [IntKind.wrap_i64]; omega
  have HN : Hid (tn ≤ 70 ∧ 1 ≤ K ∧ K ≤ 32 ∧ T.length = tn ∧ m ≤ tn ∧ D.length ≤ 120 ∧ (∀ s ∈ D, s.size = clk K) ∧ (kb m tn).length = D.length ∧ dgKn (clk K) T m tn = D) := ⟨hTl, hK1.1, hK1.2, htn, hmn, hDl, hDs, hDk, hD⟩
  rw [htn] at HFw HGr
  clear ht rd hm hK hK1 hT hTl hTs htn hth hb0 hmt hmn hDl hDs hD hWm ht1 hon hrl hDk hD1
  go_enter Tryd.func4, Tryd.ntmps4
  go_upto_region 8 with (first
    | (go_at_call 8; with_reducible refine HA.mono ?_; rintro e w1 ⟨rfl, hb1⟩)
    | (go_at_call 9; with_reducible refine (HSg.out _).mono ?_; rintro e w2 ⟨rfl, rfl⟩)
    | (go_at_call 10; with_reducible refine (HFw.out _ (HTh.out _ hb1).2).mono ?_; rintro e w3 ⟨av, bv, cv, rfl, hR3, hb3⟩)
    | (go_at_call 11; with_reducible refine (HGr.out _ _ _ _ (HTh.out _ (bnext hb1 hb3)).2 hR3).mono ?_; rintro e w4 ⟨rfl, hF4, hb4⟩))
  have hb04 := bnext (bnext hb1 hb3) hb4
  obtain ⟨u0, u1, u2⟩ := (HTh.out w4 hb04).1.cells
  generalize hfm : w3.heap.size = fm at *
  clear HA HSg HFw HGr hb1 hb3 hb4 hR3 hfm hW0
  go_upto_region 10 with (first
    | (go_at_call 18; with_reducible refine (HWm.out _).mono ?_; rintro e w5 ⟨rfl, rfl⟩)
    | (go_at_call 12; with_reducible refine (HPr.out _ _ hF4).mono ?_; rintro e w6 ⟨ad, bd, cd, rfl, hR6, hcd, hnd, _, hb6⟩))
  have x6 := six_new w6 (.int .i64 3) (.int .i64 K) (.int .u64 (m : Int)) (.int .u64 (tn : Int)) (.slice none 0 0) (.slice ad D.length cd)
  have t7 := bal (Below.refl w6.heap.size w6) (.cells #[.int .i64 3, .int .i64 K, .int .u64 (m : Int), .int .u64 (tn : Int), .slice none 0 0, .slice ad D.length cd] 32)
  obtain ⟨w7, hw7⟩ : ∃ w7, w6.alloc (.cells #[.int .i64 3, .int .i64 K, .int .u64 (m : Int), .int .u64 (tn : Int), .slice none 0 0, .slice ad D.length cd] 32) = w7 := ⟨_, rfl⟩
  rw [hw7] at x6 t7 ⊢
  have hb7 := bnext (bnext hb04 hb6) t7
  have HP7 : Hid (∀ W, Below w7.heap.size w7 W → Six W w6.heap.size (.int .i64 3) (.int .i64 K) (.int .u64 (m : Int)) (.int .u64 (tn : Int)) (.slice none 0 0) (.slice ad D.length cd) ∧ RdS W ad bd 0 D.length D ∧ Th W w.heap.size at' bt yb ∧ Below w.heap.size w W) := fun W hW => by
    obtain ⟨z1, z2⟩ := HTh.out W (bnext hb7 hW)
    exact ⟨x6.next hW, hR6.next (bnext t7 hW) (Nat.le_refl _), z1, z2⟩
  generalize w6.heap.size = q10 at *
  clear hw7 x6 t7 hb7 hb04 hF4 hb6 hR6 HPr HWm u0 u1 u2 HTh
  go_upto_region 11 with (go_at_call 15; with_reducible refine (HRg.out _).mono ?_; rintro e w8 ⟨ar, cr, rfl, hb8⟩)
  have HP8 : Hid (∀ W, Below w8.heap.size w8 W → Six W q10 (.int .i64 3) (.int .i64 K) (.int .u64 (m : Int)) (.int .u64 (tn : Int)) (.slice none 0 0) (.slice ad D.length cd) ∧ RdS W ad bd 0 D.length D ∧ Th W w.heap.size at' bt yb ∧ Below w.heap.size w W) := fun W hW => HP7.out W (bnext hb8 hW)
  have HC : Hid (∀ W, Below w8.heap.size w8 W → Six W q10 (.int .i64 3) (.int .i64 K) (.int .u64 (m : Int)) (.int .u64 (tn : Int)) (.slice none 0 0) (.slice ad D.length cd)) := fun W hW => (HP8.out W hW).1
  have HV : Hid (D.length ≤ cd ∧ (ad = none → cd = 0)) := ⟨hcd, hnd⟩
  clear hb8 HP7 HRg hcd hnd
  refine wp_region_planI (by kernel_rfl) [65, 66, 67, 68, 69, 70, 71, 72, 73, 74, 75, 76, 77, 78, 79, 80, 81, 82, 83, 84, 85, 86, 87, 88, 89, 90, 91, 92, 93, 94, 95, 96, 97, 98, 99, 100, 101, 102, 103] [] [.int .i64 0, .int .i64 0, .bool false, .bool false, .int .i64 0, .int .i64 0, .bool false, .bool false, .bool false, .pointer (some ⟨q10, 1, none⟩), .int .i64 K, .int .i64 K, .bool false, .bool false, .bool false, .pointer (some ⟨q10, 2, none⟩), .int .u64 (m : Int), .int .u64 (m : Int), .bool false, .bool false, .bool false, .pointer (some ⟨q10, 3, none⟩), .int .u64 (tn : Int), .slice av tn cv, .int .i64 (tn : Int), .int .u64 (tn : Int), .bool false, .bool false, .bool false, .pointer (some ⟨q10, 5, none⟩), .slice ad D.length cd, .int .i64 (D.length : Int), .int .u64 (m : Int), .int .i64 (on : Int), .slice ar rl cr, .int .i64 (rl : Int), .int .i64 (D.length : Int), .bool false, .bool false] (by kernel_rfl) rfl (fun j hj => by cases hj) (fun _ W => Below w8.heap.size w8 W) (fun W _ hb => hb) ?step ?fin
  case step =>
    refine ⟨?_, ?_, ?_, ?_, ?_, ?_, ?_, ?_, ?_, ?_, ?_, ?_, ?_, ?_, ?_, ?_, ?_, ?_, ?_, ?_, ?_, ?_, ?_, ?_, ?_, ?_, ?_, ?_, ?_, ?_, ?_, ?_, ?_, ?_, ?_, ?_, ?_, ?_, ?_, trivial⟩
    · intro L Ac Wc Kq hI hj hcl hsm dep hK
      have t11 : Ac.tmps.getD 11 undef = .int .i64 0 := hsm 11 rfl
      show Oper.wp _ _ Ac Wc Kq _
      go_simp
      exact hK _ _ (.inr rfl) hI
    · intro L Ac Wc Kq hI hj hcl hsm dep hK
      have t65 : Ac.tmps.getD 65 undef = .int .i64 0 := dep 0 rfl
      show Oper.wp _ _ Ac Wc Kq _
      go_simp
      refine (num_id _ _).mono ?_
      rintro e w' ⟨rfl, rfl⟩
      exact hK _ _ (.inr rfl) hI
    · intro L Ac Wc Kq hI hj hcl hsm dep hK
      have t66 : Ac.tmps.getD 66 undef = .int .i64 0 := dep 1 rfl
      show Oper.wp _ _ Ac Wc Kq _
      go_simp
      exact hK _ _ (.inr rfl) hI
    · intro L Ac Wc Kq hI hj hcl hsm dep hK
      have t67 : Ac.tmps.getD 67 undef = .bool false := dep 2 rfl
      show Oper.wp _ _ Ac Wc Kq _
      go_simp
      exact hK _ _ (.inr rfl) hI
    · intro L Ac Wc Kq hI hj hcl hsm dep hK
      have t13 : Ac.tmps.getD 13 undef = .int .i64 0 := hsm 13 rfl
      refine ⟨false, (show Ac.tmps.getD 68 undef = .bool false from dep 3 rfl), ?_⟩
      rw [if_pos rfl]
      go_simp
      exact hK _ _ (.inr rfl) hI
    · intro L Ac Wc Kq hI hj hcl hsm dep hK
      have t69 : Ac.tmps.getD 69 undef = .int .i64 0 := dep 4 rfl
      refine ⟨false, (show Ac.tmps.getD 68 undef = .bool false from dep 3 rfl), ?_⟩
      rw [if_pos rfl]
      go_simp
      refine (num_id _ _).mono ?_
      rintro e w' ⟨rfl, rfl⟩
      exact hK _ _ (.inr rfl) hI
    · intro L Ac Wc Kq hI hj hcl hsm dep hK
      have t70 : Ac.tmps.getD 70 undef = .int .i64 0 := dep 5 rfl
      refine ⟨false, (show Ac.tmps.getD 68 undef = .bool false from dep 3 rfl), ?_⟩
      rw [if_pos rfl]
      go_simp
      exact hK _ _ (.inr rfl) hI
    · intro L Ac Wc Kq hI hj hcl hsm dep hK
      have t68 : Ac.tmps.getD 68 undef = .bool false := dep 3 rfl
      have t71 : Ac.tmps.getD 71 undef = .bool false := dep 6 rfl
      show Oper.wp _ _ Ac Wc Kq _
      go_simp
      exact hK _ _ (.inr rfl) hI
    · intro L Ac Wc Kq hI hj hcl hsm dep hK
      have t72 : Ac.tmps.getD 72 undef = .bool false := dep 7 rfl
      show Oper.wp _ _ Ac Wc Kq _
      go_simp
      exact hK _ _ (.inr rfl) hI
    · intro L Ac Wc Kq hI hj hcl hsm dep hK
      have t10 : Ac.tmps.getD 10 undef = .pointer (some ⟨q10, 0, none⟩) := hsm 10 rfl
      refine ⟨false, (show Ac.tmps.getD 73 undef = .bool false from dep 8 rfl), ?_⟩
      rw [if_pos rfl]
      go_simp
      exact hK _ _ (.inr rfl) hI
    · intro L Ac Wc Kq hI hj hcl hsm dep hK
      have t74 : Ac.tmps.getD 74 undef = .pointer (some ⟨q10, 1, none⟩) := dep 9 rfl
      refine ⟨false, (show Ac.tmps.getD 73 undef = .bool false from dep 8 rfl), ?_⟩
      rw [if_pos rfl]
      obtain ⟨y0, y1, y2, y3, y4, y5⟩ := (HC.out Wc hI).cells
      go_simp
      exact hK _ _ (.inr rfl) hI
    · intro L Ac Wc Kq hI hj hcl hsm dep hK
      have t0 : Ac.tmps.getD 0 undef = .int .i64 K := hsm 0 rfl
      refine ⟨false, (show Ac.tmps.getD 73 undef = .bool false from dep 8 rfl), ?_⟩
      rw [if_pos rfl]
      go_simp
      exact hK _ _ (.inr rfl) hI
    · intro L Ac Wc Kq hI hj hcl hsm dep hK
      have t75 : Ac.tmps.getD 75 undef = .int .i64 K := dep 10 rfl
      have t76 : Ac.tmps.getD 76 undef = .int .i64 K := dep 11 rfl
      refine ⟨false, (show Ac.tmps.getD 73 undef = .bool false from dep 8 rfl), ?_⟩
      rw [if_pos rfl]
      go_simp
      exact hK _ _ (.inr rfl) hI
    · intro L Ac Wc Kq hI hj hcl hsm dep hK
      have t73 : Ac.tmps.getD 73 undef = .bool false := dep 8 rfl
      have t77 : Ac.tmps.getD 77 undef = .bool false := dep 12 rfl
      show Oper.wp _ _ Ac Wc Kq _
      go_simp
      exact hK _ _ (.inr rfl) hI
    · intro L Ac Wc Kq hI hj hcl hsm dep hK
      have t78 : Ac.tmps.getD 78 undef = .bool false := dep 13 rfl
      show Oper.wp _ _ Ac Wc Kq _
      go_simp
      exact hK _ _ (.inr rfl) hI
    · intro L Ac Wc Kq hI hj hcl hsm dep hK
      have t10 : Ac.tmps.getD 10 undef = .pointer (some ⟨q10, 0, none⟩) := hsm 10 rfl
      refine ⟨false, (show Ac.tmps.getD 79 undef = .bool false from dep 14 rfl), ?_⟩
      rw [if_pos rfl]
      go_simp
      exact hK _ _ (.inr rfl) hI
    · intro L Ac Wc Kq hI hj hcl hsm dep hK
      have t80 : Ac.tmps.getD 80 undef = .pointer (some ⟨q10, 2, none⟩) := dep 15 rfl
      refine ⟨false, (show Ac.tmps.getD 79 undef = .bool false from dep 14 rfl), ?_⟩
      rw [if_pos rfl]
      obtain ⟨y0, y1, y2, y3, y4, y5⟩ := (HC.out Wc hI).cells
      go_simp
      exact hK _ _ (.inr rfl) hI
    · intro L Ac Wc Kq hI hj hcl hsm dep hK
      have t9 : Ac.tmps.getD 9 undef = .int .u64 (m : Int) := hsm 9 rfl
      refine ⟨false, (show Ac.tmps.getD 79 undef = .bool false from dep 14 rfl), ?_⟩
      rw [if_pos rfl]
      go_simp
      exact hK _ _ (.inr rfl) hI
    · intro L Ac Wc Kq hI hj hcl hsm dep hK
      have t81 : Ac.tmps.getD 81 undef = .int .u64 (m : Int) := dep 16 rfl
      have t82 : Ac.tmps.getD 82 undef = .int .u64 (m : Int) := dep 17 rfl
      refine ⟨false, (show Ac.tmps.getD 79 undef = .bool false from dep 14 rfl), ?_⟩
      rw [if_pos rfl]
      go_simp
      exact hK _ _ (.inr rfl) hI
    · intro L Ac Wc Kq hI hj hcl hsm dep hK
      have t79 : Ac.tmps.getD 79 undef = .bool false := dep 14 rfl
      have t83 : Ac.tmps.getD 83 undef = .bool false := dep 18 rfl
      show Oper.wp _ _ Ac Wc Kq _
      go_simp
      exact hK _ _ (.inr rfl) hI
    · intro L Ac Wc Kq hI hj hcl hsm dep hK
      have t84 : Ac.tmps.getD 84 undef = .bool false := dep 19 rfl
      show Oper.wp _ _ Ac Wc Kq _
      go_simp
      exact hK _ _ (.inr rfl) hI
    · intro L Ac Wc Kq hI hj hcl hsm dep hK
      have t10 : Ac.tmps.getD 10 undef = .pointer (some ⟨q10, 0, none⟩) := hsm 10 rfl
      refine ⟨false, (show Ac.tmps.getD 85 undef = .bool false from dep 20 rfl), ?_⟩
      rw [if_pos rfl]
      go_simp
      exact hK _ _ (.inr rfl) hI
    · intro L Ac Wc Kq hI hj hcl hsm dep hK
      have t86 : Ac.tmps.getD 86 undef = .pointer (some ⟨q10, 3, none⟩) := dep 21 rfl
      refine ⟨false, (show Ac.tmps.getD 85 undef = .bool false from dep 20 rfl), ?_⟩
      rw [if_pos rfl]
      obtain ⟨y0, y1, y2, y3, y4, y5⟩ := (HC.out Wc hI).cells
      go_simp
      exact hK _ _ (.inr rfl) hI
    · intro L Ac Wc Kq hI hj hcl hsm dep hK
      have t7 : Ac.tmps.getD 7 undef = .slice av tn cv := hsm 7 rfl
      refine ⟨false, (show Ac.tmps.getD 85 undef = .bool false from dep 20 rfl), ?_⟩
      rw [if_pos rfl]
      go_simp
      exact hK _ _ (.inr rfl) hI
    · intro L Ac Wc Kq hI hj hcl hsm dep hK
      have t88 : Ac.tmps.getD 88 undef = .slice av tn cv := dep 23 rfl
      refine ⟨false, (show Ac.tmps.getD 85 undef = .bool false from dep 20 rfl), ?_⟩
      rw [if_pos rfl]
      go_simp
      exact hK _ _ (.inr rfl) hI
    · intro L Ac Wc Kq hI hj hcl hsm dep hK
      have t89 : Ac.tmps.getD 89 undef = .int .i64 (tn : Int) := dep 24 rfl
      refine ⟨false, (show Ac.tmps.getD 85 undef = .bool false from dep 20 rfl), ?_⟩
      rw [if_pos rfl]
      go_simp
      exact hK _ _ (.inr rfl) hI
    · intro L Ac Wc Kq hI hj hcl hsm dep hK
      have t87 : Ac.tmps.getD 87 undef = .int .u64 (tn : Int) := dep 22 rfl
      have t90 : Ac.tmps.getD 90 undef = .int .u64 (tn : Int) := dep 25 rfl
      refine ⟨false, (show Ac.tmps.getD 85 undef = .bool false from dep 20 rfl), ?_⟩
      rw [if_pos rfl]
      go_simp
      exact hK _ _ (.inr rfl) hI
    · intro L Ac Wc Kq hI hj hcl hsm dep hK
      have t85 : Ac.tmps.getD 85 undef = .bool false := dep 20 rfl
      have t91 : Ac.tmps.getD 91 undef = .bool false := dep 26 rfl
      show Oper.wp _ _ Ac Wc Kq _
      go_simp
      exact hK _ _ (.inr rfl) hI
    · intro L Ac Wc Kq hI hj hcl hsm dep hK
      have t92 : Ac.tmps.getD 92 undef = .bool false := dep 27 rfl
      show Oper.wp _ _ Ac Wc Kq _
      go_simp
      exact hK _ _ (.inr rfl) hI
    · intro L Ac Wc Kq hI hj hcl hsm dep hK
      have t10 : Ac.tmps.getD 10 undef = .pointer (some ⟨q10, 0, none⟩) := hsm 10 rfl
      refine ⟨false, (show Ac.tmps.getD 93 undef = .bool false from dep 28 rfl), ?_⟩
      rw [if_pos rfl]
      go_simp
      exact hK _ _ (.inr rfl) hI
    · intro L Ac Wc Kq hI hj hcl hsm dep hK
      have t94 : Ac.tmps.getD 94 undef = .pointer (some ⟨q10, 5, none⟩) := dep 29 rfl
      refine ⟨false, (show Ac.tmps.getD 93 undef = .bool false from dep 28 rfl), ?_⟩
      rw [if_pos rfl]
      obtain ⟨y0, y1, y2, y3, y4, y5⟩ := (HC.out Wc hI).cells
      go_simp
      exact hK _ _ (.inr rfl) hI
    · intro L Ac Wc Kq hI hj hcl hsm dep hK
      have t95 : Ac.tmps.getD 95 undef = .slice ad D.length cd := dep 30 rfl
      refine ⟨false, (show Ac.tmps.getD 93 undef = .bool false from dep 28 rfl), ?_⟩
      rw [if_pos rfl]
      go_simp
      exact hK _ _ (.inr rfl) hI
    · intro L Ac Wc Kq hI hj hcl hsm dep hK
      have t9 : Ac.tmps.getD 9 undef = .int .u64 (m : Int) := hsm 9 rfl
      refine ⟨false, (show Ac.tmps.getD 93 undef = .bool false from dep 28 rfl), ?_⟩
      rw [if_pos rfl]
      go_simp
      exact hK _ _ (.inr rfl) hI
    · intro L Ac Wc Kq hI hj hcl hsm dep hK
      have t97 : Ac.tmps.getD 97 undef = .int .u64 (m : Int) := dep 32 rfl
      refine ⟨false, (show Ac.tmps.getD 93 undef = .bool false from dep 28 rfl), ?_⟩
      rw [if_pos rfl]
      go_simp
      refine (HOn.out Wc).mono ?_
      rintro e w' ⟨rfl, rfl⟩
      exact hK _ _ (.inr rfl) hI
    · intro L Ac Wc Kq hI hj hcl hsm dep hK
      have t12 : Ac.tmps.getD 12 undef = .slice ar rl cr := hsm 12 rfl
      refine ⟨false, (show Ac.tmps.getD 93 undef = .bool false from dep 28 rfl), ?_⟩
      rw [if_pos rfl]
      go_simp
      exact hK _ _ (.inr rfl) hI
    · intro L Ac Wc Kq hI hj hcl hsm dep hK
      have t99 : Ac.tmps.getD 99 undef = .slice ar rl cr := dep 34 rfl
      refine ⟨false, (show Ac.tmps.getD 93 undef = .bool false from dep 28 rfl), ?_⟩
      rw [if_pos rfl]
      go_simp
      exact hK _ _ (.inr rfl) hI
    · intro L Ac Wc Kq hI hj hcl hsm dep hK
      have t98 : Ac.tmps.getD 98 undef = .int .i64 (on : Int) := dep 33 rfl
      have t100 : Ac.tmps.getD 100 undef = .int .i64 (rl : Int) := dep 35 rfl
      refine ⟨false, (show Ac.tmps.getD 93 undef = .bool false from dep 28 rfl), ?_⟩
      rw [if_pos rfl]
      go_simp
      exact hK _ _ (.inr rfl) hI
    · intro L Ac Wc Kq hI hj hcl hsm dep hK
      have t96 : Ac.tmps.getD 96 undef = .int .i64 (D.length : Int) := dep 31 rfl
      have t101 : Ac.tmps.getD 101 undef = .int .i64 (D.length : Int) := dep 36 rfl
      refine ⟨false, (show Ac.tmps.getD 93 undef = .bool false from dep 28 rfl), ?_⟩
      rw [if_pos rfl]
      go_simp
      exact hK _ _ (.inr rfl) hI
    · intro L Ac Wc Kq hI hj hcl hsm dep hK
      have t93 : Ac.tmps.getD 93 undef = .bool false := dep 28 rfl
      have t102 : Ac.tmps.getD 102 undef = .bool false := dep 37 rfl
      show Oper.wp _ _ Ac Wc Kq _
      go_simp
      exact hK _ _ (.inr rfl) hI
  case fin =>
    intro L w9 hall hI
    clear hall
    have HP9 : Hid (∀ W, Below w9.heap.size w9 W → Six W q10 (.int .i64 3) (.int .i64 K) (.int .u64 (m : Int)) (.int .u64 (tn : Int)) (.slice none 0 0) (.slice ad D.length cd) ∧ RdS W ad bd 0 D.length D ∧ Th W w.heap.size at' bt yb ∧ Below w.heap.size w W) := fun W hW => HP8.out W (bnext hI hW)
    have hP9 := HP9.out w9 (Below.refl _ _)
    obtain ⟨p0, p1, p2, p3, p4, p5⟩ := hP9.1.cells
    clear HC hI HOn HP8 ewr
    simp only [puts]
    go_simp
    go_upto_region 14 with (fail)
    obtain ⟨q14, hq14⟩ : ∃ q14, w9.heap.size = q14 := ⟨_, rfl⟩
    have y14 := six_new w9 (.int .i64 3) (.int .i64 K) (.int .u64 (m : Int)) (.int .u64 (tn : Int)) (.slice none 0 0) (.slice ad D.length cd)
    have t10 := bal (Below.refl w9.heap.size w9) (.cells #[.int .i64 3, .int .i64 K, .int .u64 (m : Int), .int .u64 (tn : Int), .slice none 0 0, .slice ad D.length cd] 32)
    obtain ⟨w10, hw10⟩ : ∃ w10, w9.alloc (.cells #[.int .i64 3, .int .i64 K, .int .u64 (m : Int), .int .u64 (tn : Int), .slice none 0 0, .slice ad D.length cd] 32) = w10 := ⟨_, rfl⟩
    rw [hw10] at y14 t10 ⊢
    rw [hq14] at y14 ⊢
    have hP10 := HP9.out w10 t10
    obtain ⟨p0, p1, p2, p3, p4, p5⟩ := hP10.1.cells
    have hq10 : q14 < w10.heap.size := y14.lt
    clear hw10 hP9
    go_upto_region 15 with (at_builtin; refine wpList_append_S _ rfl _ _ rfl w10.heap.size _ [] rfl (owns_nil _ _) ad bd 0 cd D rfl hP10.2.1 HV.out.2 (by have := HN.out.2.2.2.2.2.1; simp; omega) (Nat.le_refl _) ?_; intro v11 w11 o11 hb11; obtain ⟨a2, b2, c2, rfl, hR11, hc2, _⟩ := owns_rds o11 (fun s hs => by have := HN.out.2.2.2.2.2.2.1 s hs; have := clk_le K; omega); have y11 := y14.next hb11; have f5 := y11.fz 5; obtain ⟨_, _, _, _, _, k5⟩ := y11.cells)
    have o11 : OwnS w11 w10.heap.size (.slice a2 D.length c2) D := o11
    have hR11 : RdS w11 a2 b2 0 D.length D := hR11
    have hc2 : D.length ≤ c2 := hc2
    have hch := (ChT.refl (fun b => b = q14) w11).set q14 5 (.slice a2 D.length c2) rfl
    have y12 := y11.set5 (.slice a2 D.length c2)
    have n14 : ∀ g, (Value.slice a2 D.length c2).ownBlock = some g → g ≠ q14 := fun g hg => by have := (World.ownsRow.lt o11 g hg).1; omega
    have o12 : OwnS (w11.setCell ⟨q14, 5, none⟩ (.slice a2 D.length c2)) w10.heap.size (.slice a2 D.length c2) D := keep_row o11 fun g hg _ => hch.block g (n14 g hg)
    have hb12 : Below w9.heap.size w9 (w11.setCell ⟨q14, 5, none⟩ (.slice a2 D.length c2)) := (bnext t10 hb11).trans (hch.below (by rintro b rfl; omega))
    obtain ⟨w12, hw12⟩ : ∃ w12, w11.setCell ⟨q14, 5, none⟩ (.slice a2 D.length c2) = w12 := ⟨_, rfl⟩
    rw [hw12] at y12 o12 hb12 ⊢
    have HP12 : Hid (∀ W, Below w12.heap.size w12 W → Six W q10 (.int .i64 3) (.int .i64 K) (.int .u64 (m : Int)) (.int .u64 (tn : Int)) (.slice none 0 0) (.slice ad D.length cd) ∧ RdS W ad bd 0 D.length D ∧ Th W w.heap.size at' bt yb ∧ Below w.heap.size w W) := fun W hW => HP9.out W (hb12.trans (hW.mono hb12.size))
    have hP12 := HP12.out w12 (Below.refl _ _)
    obtain ⟨v0, v1, v2⟩ := hP12.2.2.1.cells
    obtain ⟨_, _, _, _, _, k5⟩ := y12.cells
    have HE12 := hide hP12.2.2.2
    clear hch y11 f5 o11 hR11 hb11 hw12 hP10 y14 t10 p0 p1 p2 p3 p4 p5 hP12
    by_cases hd0 : D.length = 0
    · have hdz : (D.length : Int) = 0 := by omega
      go_wp2
      go_ret
      exact ⟨rfl, HE12.out⟩
    · have hdz : ((D.length : Int) == 0) = false := beq_false_of_ne (by omega)
      have hdn : ¬ D = [] := fun e => hd0 (by rw [e]; rfl)
      by_cases hy0 : yb = 0
      · have hyz : ((yb : Int) == 0) = true := by rw [hy0]; rfl
        go_wp2
        go_ret
        exact ⟨rfl, HE12.out⟩
      · have hyz : ((yb : Int) == 0) = false := beq_false_of_ne (by omega)
        have h120 := HN.out.2.2.2.2.2.1
        obtain ⟨gd, rfl, hgd1, hgd2⟩ := own_some o12 (by omega)
        obtain ⟨j, hjd, hWj⟩ := within_all at' D.length (by omega) (by omega)
        have HWj := hide hWj
        have hjz : (j : Int) < (D.length : Int) := by omega
        have hjz0 : (0 : Int) ≤ (j : Int) := Int.natCast_nonneg _
        obtain ⟨z, hz⟩ : ∃ z, D.getD j ByteArray.empty = z := ⟨_, rfl⟩
        have cz := (own_cell o12 hjd).1
        rw [hz] at cz
        have hzs : z.size = clk K := by rw [← hz]; exact HN.out.2.2.2.2.2.2.1 _ (getD_mem hjd)
        have hcK : (clk K : Int) = K := by have := HN.out.2.1; have := HN.out.2.2.1; unfold clk; rw [if_neg (by omega), if_neg (by omega)]; omega
        have hzK : (z.size : Int) = K := by rw [hzs]; exact hcK
        have kb := fun W => run_bytes_of_string (P := Tryd.prog) W 9 51 5 z Tryd.underlying9 Tryd.underlying51 Tryd.underlying5
        have HZ := hide (And.intro hzs hcK)
        clear hWj hd0 h120 hzs hcK hzK
        go_upto_region 19 with (go_at_call 18; with_reducible refine (HWj.out _).mono ?_; rintro e w13 ⟨rfl, rfl⟩)
        have hzs := HZ.out.1
        have hcK := HZ.out.2
        have hby2 : Byt (w12.alloc (.cells (bytesRow z (grownCap w12 z.size 0 5)) 5 ((bytesRow z (grownCap w12 z.size 0 5)).size, (bytesRow z (grownCap w12 z.size 0 5)).size + 1))).drew w12.heap.size z.data.toList := by
          have := byt_new w12 z (grownCap w12 z.size 0 5) 5
          exact ⟨this.rng, this.thr⟩
        have hb13 : Below w12.heap.size w12 (w12.alloc (.cells (bytesRow z (grownCap w12 z.size 0 5)) 5 ((bytesRow z (grownCap w12 z.size 0 5)).size, (bytesRow z (grownCap w12 z.size 0 5)).size + 1))).drew := (bal (Below.refl _ _) _).drew
        generalize (w12.alloc (.cells (bytesRow z (grownCap w12 z.size 0 5)) 5 ((bytesRow z (grownCap w12 z.size 0 5)).size, (bytesRow z (grownCap w12 z.size 0 5)).size + 1))).drew = w13 at *
        generalize grownCap w12 z.size 0 5 = capB
        obtain ⟨wb, hwb⟩ : ∃ wb, w12.heap.size = wb := ⟨_, rfl⟩
        rw [hwb] at hby2 ⊢
        have hzl : z.data.toList.length = z.size := by rw [Array.length_toList]; rfl
        obtain ⟨i, hi, hWi⟩ := within_all bt (clk K) (by have := HN.out.2.1; omega) (by have := clk_le K; omega)
        rw [hcK] at hWi
        have HWi := hide hWi
        have hiz : (i : Int) < (z.size : Int) := by omega
        have hiK : (i : Int) < K := by omega
        have hi0 : (0 : Int) ≤ (i : Int) := Int.natCast_nonneg _
        have ca := hby2.at (j := i) (by omega)
        have fa := hby2.free (j := i) (by omega)
        obtain ⟨av', hav⟩ : ∃ av', (z.data.toList.getD i 0).toNat = av' := ⟨_, rfl⟩
        have hav256 : av' < 256 := by rw [← hav]; exact UInt8.toNat_lt _
        rw [hav] at ca
        have hxr := u8_xor_nat av' yb hav256 hyb
        have hx256 : av' ^^^ yb < 256 := Nat.xor_lt_two_pow (n := 8) hav256 hyb
        have hxne : av' ^^^ yb ≠ av' := fun h => hy0 (by
          have := congrArg (fun x => av' ^^^ x) h
          simp only [← Nat.xor_assoc, Nat.xor_self, Nat.zero_xor] at this
          exact this)
        obtain ⟨xv, hxv⟩ : ∃ xv, av' ^^^ yb = xv := ⟨_, rfl⟩
        rw [hxv] at hxr hx256 hxne
        have hP13 := HP12.out w13 hb13
        obtain ⟨v0, v1, v2⟩ := hP13.2.2.1.cells
        have HS13 := hide hP13.2.2.1
        have hzK : (z.size : Int) = K := by rw [hzs]; exact hcK
        clear kb cz k5 hWi hP13 hzs hcK
        have hwb13 : wb < w13.heap.size := World.block_lt_of_cell? w13 _ ca
        have HBy : Hid (∀ W, Below w13.heap.size w13 W → W.cell? ⟨wb, i, none⟩ = some (.int .u8 (av' : Int)) ∧ W.frozen? ⟨wb, i, none⟩ = false ∧ Th W w.heap.size at' bt yb ∧ Byt W wb z.data.toList) := fun W hW => by
          have hb := hby2.next hW hwb13
          have h1 := hb.at (j := i) (by rw [hzl]; omega)
          rw [hav] at h1
          exact ⟨h1, hb.free (by rw [hzl]; omega), HS13.out.next hW, hb⟩
        have HX13 := hide (And.intro hav (And.intro hx256 (And.intro hxne (And.intro hzl hwb))))
        clear hby2 ca fa hav hx256 hxne hzl v0 v1 v2 hwb13 hav256 hwb
        go_upto_region 21 with (fail)
        refine wp_region_planI (by kernel_rfl) [134, 135, 136, 137, 138, 139, 140, 141, 142, 143, 144, 1011] [11] [.slice (some ⟨wb, 0, none⟩) z.size capB, .pointer (some ⟨w.heap.size, 1, none⟩), .int .i64 bt, .int .i64 K, .int .i64 (i : Int), .pointer (some ⟨wb, i, none⟩), .int .u8 (av' : Int), .pointer (some ⟨w.heap.size, 2, none⟩), .int .u8 (yb : Int), .int .u8 (xv : Int), .pointer (some ⟨wb, i, none⟩), undef] (by kernel_rfl) rfl (fun j hj => by simp at hj; subst hj; rfl) (fun L W => (L 11 = false → Below w13.heap.size w13 W) ∧ (L 11 = true → ∃ Z0, Below w13.heap.size w13 Z0 ∧ W = Z0.setCell ⟨wb, i, none⟩ (.int .u8 (xv : Int)))) (fun W _ hb => ⟨fun _ => hb, fun h => by cases h⟩) ?step ?fin
        case step =>
          refine ⟨?_, ?_, ?_, ?_, ?_, ?_, ?_, ?_, ?_, ?_, ?_, ?_, trivial⟩
          · intro L Ac Wc Kq hI hj hcl hsm dep hK
            have t16 : Ac.tmps.getD 16 undef = .slice (some ⟨wb, 0, none⟩) z.size capB := hsm 16 rfl
            show Oper.wp _ _ Ac Wc Kq _
            go_simp
            exact hK _ _ (.inr rfl) hI
          · intro L Ac Wc Kq hI hj hcl hsm dep hK
            have t5 : Ac.tmps.getD 5 undef = .pointer (some ⟨w.heap.size, 0, none⟩) := hsm 5 rfl
            show Oper.wp _ _ Ac Wc Kq _
            go_simp
            exact hK _ _ (.inr rfl) hI
          · intro L Ac Wc Kq hI hj hcl hsm dep hK
            have t135 : Ac.tmps.getD 135 undef = .pointer (some ⟨w.heap.size, 1, none⟩) := dep 1 rfl
            show Oper.wp _ _ Ac Wc Kq _
            have hL : L 11 = false := by
              cases h : L 11 with
              | false => rfl
              | true => rw [hcl 4 2 (hcl 10 4 (hcl 11 10 h rfl) rfl) rfl] at hj; cases hj
            obtain ⟨k1, k2, k3, k4⟩ := HBy.out Wc (hI.1 hL)
            obtain ⟨z0, z1, z2⟩ := k3.cells
            go_simp
            exact hK _ _ (.inr rfl) hI
          · intro L Ac Wc Kq hI hj hcl hsm dep hK
            have t0 : Ac.tmps.getD 0 undef = .int .i64 K := hsm 0 rfl
            show Oper.wp _ _ Ac Wc Kq _
            go_simp
            exact hK _ _ (.inr rfl) hI
          · intro L Ac Wc Kq hI hj hcl hsm dep hK
            have t136 : Ac.tmps.getD 136 undef = .int .i64 bt := dep 2 rfl
            have t137 : Ac.tmps.getD 137 undef = .int .i64 K := dep 3 rfl
            show Oper.wp _ _ Ac Wc Kq _
            go_simp
            refine (HWi.out Wc).mono ?_
            rintro e w' ⟨rfl, rfl⟩
            exact hK _ _ (.inr rfl) hI
          · intro L Ac Wc Kq hI hj hcl hsm dep hK
            have t134 : Ac.tmps.getD 134 undef = .slice (some ⟨wb, 0, none⟩) z.size capB := dep 0 rfl
            have t138 : Ac.tmps.getD 138 undef = .int .i64 (i : Int) := dep 4 rfl
            show Oper.wp _ _ Ac Wc Kq _
            go_simp
            exact hK _ _ (.inr rfl) hI
          · intro L Ac Wc Kq hI hj hcl hsm dep hK
            have t139 : Ac.tmps.getD 139 undef = .pointer (some ⟨wb, i, none⟩) := dep 5 rfl
            show Oper.wp _ _ Ac Wc Kq _
            have hL : L 11 = false := by
              cases h : L 11 with
              | false => rfl
              | true => rw [hcl 9 6 (hcl 11 9 h rfl) rfl] at hj; cases hj
            obtain ⟨k1, k2, k3, k4⟩ := HBy.out Wc (hI.1 hL)
            obtain ⟨z0, z1, z2⟩ := k3.cells
            go_simp
            exact hK _ _ (.inr rfl) hI
          · intro L Ac Wc Kq hI hj hcl hsm dep hK
            have t5 : Ac.tmps.getD 5 undef = .pointer (some ⟨w.heap.size, 0, none⟩) := hsm 5 rfl
            show Oper.wp _ _ Ac Wc Kq _
            go_simp
            exact hK _ _ (.inr rfl) hI
          · intro L Ac Wc Kq hI hj hcl hsm dep hK
            have t141 : Ac.tmps.getD 141 undef = .pointer (some ⟨w.heap.size, 2, none⟩) := dep 7 rfl
            show Oper.wp _ _ Ac Wc Kq _
            have hL : L 11 = false := by
              cases h : L 11 with
              | false => rfl
              | true => rw [hcl 9 8 (hcl 11 9 h rfl) rfl] at hj; cases hj
            obtain ⟨k1, k2, k3, k4⟩ := HBy.out Wc (hI.1 hL)
            obtain ⟨z0, z1, z2⟩ := k3.cells
            go_simp
            exact hK _ _ (.inr rfl) hI
          · intro L Ac Wc Kq hI hj hcl hsm dep hK
            have t140 : Ac.tmps.getD 140 undef = .int .u8 (av' : Int) := dep 6 rfl
            have t142 : Ac.tmps.getD 142 undef = .int .u8 (yb : Int) := dep 8 rfl
            show Oper.wp _ _ Ac Wc Kq _
            go_simp
            exact hK _ _ (.inr rfl) hI
          · intro L Ac Wc Kq hI hj hcl hsm dep hK
            have t134 : Ac.tmps.getD 134 undef = .slice (some ⟨wb, 0, none⟩) z.size capB := dep 0 rfl
            have t138 : Ac.tmps.getD 138 undef = .int .i64 (i : Int) := dep 4 rfl
            show Oper.wp _ _ Ac Wc Kq _
            go_simp
            exact hK _ _ (.inr rfl) hI
          · intro L Ac Wc Kq hI hj hcl hsm dep hK
            have t143 : Ac.tmps.getD 143 undef = .int .u8 (xv : Int) := dep 9 rfl
            have t144 : Ac.tmps.getD 144 undef = .pointer (some ⟨wb, i, none⟩) := dep 10 rfl
            show Oper.wp _ _ Ac Wc Kq _
            obtain ⟨k1, k2, k3, k4⟩ := HBy.out Wc (hI.1 hj)
            go_simp
            exact hK undef _ (.inl rfl) ⟨(fun h => by cases h), fun _ => ⟨Wc, hI.1 hj, rfl⟩⟩
        case fin =>
          intro L w14' hall hI
          obtain ⟨w14, hb14, rfl⟩ := hI.2 (hall 11 (by decide))
          clear hall hI
          have hB14 := HBy.out w14 hb14
          obtain ⟨l, hl⟩ : ∃ l, z.data.toList.set i (UInt8.ofNat xv) = l := ⟨_, rfl⟩
          have hby3 := hB14.2.2.2.set i (UInt8.ofNat xv) (xv : Int) (by rw [UInt8.toNat_ofNat', Nat.mod_eq_of_lt (by simpa using HX13.out.2.1)])
          rw [hl] at hby3
          have hll : l.length = z.size := by rw [← hl, List.length_set]; exact HX13.out.2.2.2.1
          have hb15 : Below w12.heap.size w12 (w14.setCell ⟨wb, i, none⟩ (.int .u8 (xv : Int))) := (bnext hb13 hb14).trans (((ChT.refl (fun b => b = wb) w14).set wb i (.int .u8 (xv : Int)) rfl).below (by rintro b rfl; have := HX13.out.2.2.2.2; omega))
          generalize w14.setCell ⟨wb, i, none⟩ (.int .u8 (xv : Int)) = w15 at *
          have kc := conv_any w15 wb capB l z.size hll hby3
          obtain ⟨z2, hz2⟩ : ∃ z2, (⟨l.toArray⟩ : ByteArray) = z2 := ⟨_, rfl⟩
          rw [hz2] at kc
          have hz2s : z2.size = clk K := by rw [← hz2]; show l.toArray.size = _; rw [List.size_toArray, hll]; exact HZ.out.1
          have hz2n : z2 ≠ z := fun e => by
            have e1 : l = z.data.toList := by
              have := congrArg (fun x : ByteArray => x.data.toList) (hz2.trans e)
              simpa using this
            have e2 := congrArg (fun x => x.getD i 0) (hl.trans e1)
            have hil : i < z.data.toList.length := by rw [HX13.out.2.2.2.1]; omega
            simp only [List.getD_eq_getElem?_getD, List.getElem?_set_self hil] at e2
            have e3 := congrArg UInt8.toNat e2
            have e4 := HX13.out.1
            rw [List.getD_eq_getElem?_getD] at e4
            rw [e4] at e3
            have : (UInt8.ofNat xv).toNat = xv := by rw [UInt8.toNat_ofNat', Nat.mod_eq_of_lt (by simpa using HX13.out.2.1)]
            exact HX13.out.2.2.1 (this.symm.trans e3)
          have y15 := y12.next hb15
          have o15 := own_next o12 hb15 (Nat.le_refl _)
          have cd0 := (own_cell o15 hjd).1
          have fd0 := (own_cell o15 hjd).2
          obtain ⟨_, _, _, _, _, k5⟩ := y15.cells
          have HY15 := hide (And.intro y15 (And.intro o15 (And.intro hb15 (And.intro hz2s hz2n))))
          clear hby3 hl hll hz2 hz2s hz2n hB14 HBy HX13 HWi y15 o15 hb14 hb15
          simp only [puts]
          go_simp
          go_upto_region 23 with (fail)
          have hch := (ChT.refl (fun b => b = gd) w15).set gd j (.string z2) rfl
          have hq : q14 ≠ gd := by omega
          have y16 := HY15.out.1.same (hch.block q14 hq)
          have o16 := own_setF (i := j) HY15.out.2.1 z2
          have hb16 : Below w9.heap.size w9 (w15.setCell ⟨gd, j, none⟩ (.string z2)) := (hb12.trans (HY15.out.2.2.1.mono hb12.size)).trans (hch.below (by rintro b rfl; omega))
          generalize w15.setCell ⟨gd, j, none⟩ (.string z2) = w16 at *
          obtain ⟨D2, hD2⟩ : ∃ D2, D.set j z2 = D2 := ⟨_, rfl⟩
          rw [hD2] at o16
          have hD2l : D2.length = D.length := by rw [← hD2, List.length_set]
          have hD2s : ∀ s ∈ D2, s.size = clk K := fun s hs => by
            rw [← hD2] at hs
            rcases List.mem_or_eq_of_mem_set hs with hs | rfl
            · exact HN.out.2.2.2.2.2.2.1 s hs
            · exact HY15.out.2.2.2.1
          have hDne : D.getD j ⟨#[]⟩ ≠ D2.getD j ⟨#[]⟩ := fun e => by
            rw [← hD2, List.getD_eq_getElem?_getD (l := D.set j z2), List.getElem?_set_self hjd] at e
            exact HY15.out.2.2.2.2 (e.symm.trans hz)
          have r16 : RdS w16 (some ⟨gd, 0, none⟩) gd 0 D.length D2 := by
            have := own_rds (l := D2) (l' := []) (by rw [List.append_nil]; exact o16) (fun s hs => by have := hD2s s hs; have := clk_le K; omega)
            rw [hD2l] at this
            exact this
          have HQ : Hid (∀ W, Below w16.heap.size w16 W → Six W q10 (.int .i64 3) (.int .i64 K) (.int .u64 (m : Int)) (.int .u64 (tn : Int)) (.slice none 0 0) (.slice ad D.length cd) ∧ Six W q14 (.int .i64 3) (.int .i64 K) (.int .u64 (m : Int)) (.int .u64 (tn : Int)) (.slice none 0 0) (.slice (some ⟨gd, 0, none⟩) D.length c2) ∧ RdS W ad bd 0 D.length D ∧ RdS W (some ⟨gd, 0, none⟩) gd 0 D.length D2 ∧ Below w.heap.size w W) := fun W hW => by
            obtain ⟨z1, z2, _, z4⟩ := HP9.out W (hb16.trans (hW.mono hb16.size))
            exact ⟨z1, y16.next hW, z2, r16.next hW (Nat.le_refl _), z4⟩
          obtain ⟨ra, hra⟩ : ∃ ra, kNow (clk K) tn (dgK (clk K) (kb m tn) D) = ra := ⟨_, rfl⟩
          obtain ⟨rb, hrb⟩ : ∃ rb, kNow (clk K) tn (dgK (clk K) (kb m tn) D2) = rb := ⟨_, rfl⟩
          obtain ⟨r1, hr1⟩ : ∃ r1, kOld (clk K) m D = r1 := ⟨_, rfl⟩
          obtain ⟨r3, hr3⟩ : ∃ r3, kOld (clk K) m D2 = r3 := ⟨_, rfl⟩
          have htn := HN.out.1
          have hmn := HN.out.2.2.2.2.1
          have hok1 : okK 3 K m tn 0 D := by rw [← HN.out.2.2.2.2.2.2.2.2]; exact okK_dg HN.out.2.1 HN.out.2.2.1 T hmn (by omega)
          have hok2 : okK 3 K m tn 0 D2 := ⟨hok1.1, by rw [hD2l]; exact hok1.2.1, fun d hd => by rw [hD2s d hd]; exact HZ.out.2⟩
          have hr := kb_row hmn (show tn ≤ 2 ^ 40 by omega)
          have hs1 : ∀ d ∈ D, d.size ≤ 32 := fun d hd => by have := HN.out.2.2.2.2.2.2.1 d hd; have := clk_le K; omega
          have hs2 : ∀ d ∈ D2, d.size ≤ 32 := fun d hd => by have := hD2s d hd; have := clk_le K; omega
          have HRa : Hid (∀ W, Below w16.heap.size w16 W → Calls Tryd.prog 13 #[.agg #[.int .i64 3, .int .i64 K, .int .u64 (m : Int), .int .u64 (tn : Int), .slice none 0 0, .slice ad D.length cd]] W fun e w' => e = .returned (.tuple #[.agg #[.int .u64 (m : Int), .string r1], .agg #[.int .u64 (tn : Int), .string ra], .int .i64 0]) ∧ Below W.heap.size W w') := fun W hW => kroots_ok W (HT.out W (HQ.out W hW).2.2.2.2) K m tn none 0 ad bd 0 cd D (HQ.out W hW).2.2.1 HV.out.1 hok1 _ (jn_dgK (clk_le K) hr hs1) r1 ra hr1 hra
          have HRb : Hid (∀ W, Below w16.heap.size w16 W → Calls Tryd.prog 13 #[.agg #[.int .i64 3, .int .i64 K, .int .u64 (m : Int), .int .u64 (tn : Int), .slice none 0 0, .slice (some ⟨gd, 0, none⟩) D.length c2]] W fun e w' => e = .returned (.tuple #[.agg #[.int .u64 (m : Int), .string r3], .agg #[.int .u64 (tn : Int), .string rb], .int .i64 0]) ∧ Below W.heap.size W w') := fun W hW => by
            have := kroots_ok W (HT.out W (HQ.out W hW).2.2.2.2) K m tn none 0 (some ⟨gd, 0, none⟩) gd 0 c2 D2 (by rw [hD2l]; exact (HQ.out W hW).2.2.2.1) (by omega) hok2 _ (jn_dgK (clk_le K) hr hs2) r3 rb hr3 hrb
            rw [hD2l] at this
            exact this
          obtain ⟨X1, hX1⟩ : ∃ X1, txt (clk K) (kb m tn) tn D = X1 := ⟨_, rfl⟩
          obtain ⟨X2, hX2⟩ : ∃ X2, txt (clk K) (kb m tn) tn D2 = X2 := ⟨_, rfl⟩
          have hXl : X2.length = X1.length := by rw [← hX1, ← hX2]; exact txt_len _ _ _ _ _
          have hX0 : 0 < X1.length ∧ X1.length ≤ tn + 42 := by rw [← hX1]; exact txt_le (by omega)
          have hXs1 : ∀ s ∈ X1, s.size ≤ 1000 := by rw [← hX1]; exact txt_size (clk_le K) hs1
          have hXs2 : ∀ s ∈ X2, s.size ≤ 1000 := by rw [← hX2]; exact txt_size (clk_le K) hs2
          have hXa : dg (clk K) (X1.getD 0 ByteArray.empty) = ra := by rw [← hX1, ← hra]; exact txt_zero _ _ _ _
          have hXb : dg (clk K) (X2.getD 0 ByteArray.empty) = rb := by rw [← hX2, ← hrb]; exact txt_zero _ _ _ _
          have hpt : ra = rb → Ptd (clk K) X1 X2 := fun e => by
            rw [← hX1, ← hX2]
            exact txt_part (clk_le K) hmn (by omega) HN.out.2.2.2.2.2.2.2.1 (by rw [hD2l]; exact HN.out.2.2.2.2.2.2.2.1) HN.out.2.2.2.2.2.2.1 hD2s hjd hDne (by rw [hra, hrb, e])
          have HT1 : Hid (∀ W, Below w16.heap.size w16 W → Calls Tryd.prog 19 #[.agg #[.int .i64 3, .int .i64 K, .int .u64 (m : Int), .int .u64 (tn : Int), .slice none 0 0, .slice ad D.length cd]] W fun e w' => ∃ b1 c1, e = .returned (.slice (some ⟨b1, 0, none⟩) X1.length c1) ∧ RdS w' (some ⟨b1, 0, none⟩) b1 0 X1.length X1 ∧ Below W.heap.size W w') := fun W hW => (texts_any W (HT.out W (HQ.out W hW).2.2.2.2) 3 K m tn none 0 0 ad bd 0 cd D (HQ.out W hW).2.2.1 hs1 HN.out.2.2.2.2.2.2.2.1 hmn (by omega) X1 hX1).mono fun e w' ⟨v, e1, e2, e3⟩ => by
            obtain ⟨a, b, c, rfl, r, _, _⟩ := owns_rds e2 (fun s hs => by have := hXs1 s hs; omega)
            obtain rfl := r.ptr hX0.1
            exact ⟨b, c, e1, r, e3⟩
          have HT2 : Hid (∀ W, Below w16.heap.size w16 W → Calls Tryd.prog 19 #[.agg #[.int .i64 3, .int .i64 K, .int .u64 (m : Int), .int .u64 (tn : Int), .slice none 0 0, .slice (some ⟨gd, 0, none⟩) D.length c2]] W fun e w' => ∃ b1 c1, e = .returned (.slice (some ⟨b1, 0, none⟩) X1.length c1) ∧ RdS w' (some ⟨b1, 0, none⟩) b1 0 X1.length X2 ∧ Below W.heap.size W w') := fun W hW => by
            have h := texts_any W (HT.out W (HQ.out W hW).2.2.2.2) 3 K m tn none 0 0 (some ⟨gd, 0, none⟩) gd 0 c2 D2 (by rw [hD2l]; exact (HQ.out W hW).2.2.2.1) hs2 (by rw [hD2l]; exact HN.out.2.2.2.2.2.2.2.1) hmn (by omega) X2 hX2
            rw [hD2l] at h
            refine h.mono fun e w' ⟨v, e1, e2, e3⟩ => ?_
            obtain ⟨a, b, c, rfl, r, _, _⟩ := owns_rds e2 (fun s hs => by have := hXs2 s hs; omega)
            rw [hXl] at r e1
            obtain rfl := r.ptr hX0.1
            exact ⟨b, c, e1, r, e3⟩
          have HX : Hid (X2.length = X1.length ∧ 0 < X1.length ∧ X1.length ≤ tn + 42 ∧ (∀ s ∈ X1, s.size ≤ 1000) ∧ (∀ s ∈ X2, s.size ≤ 1000) ∧ dg (clk K) (X1.getD 0 ByteArray.empty) = ra ∧ dg (clk K) (X2.getD 0 ByteArray.empty) = rb ∧ (ra = rb → Ptd (clk K) X1 X2) ∧ tn ≤ 70) := ⟨hXl, hX0.1, hX0.2, hXs1, hXs2, hXa, hXb, hpt, htn⟩
          have hb0 := Below.refl w16.heap.size w16
          obtain ⟨p0, p1, p2, p3, p4, p5⟩ := (HQ.out w16 hb0).1.cells
          clear hch hq y16 o16 hb16 hD2 hD2l hD2s hDne r16 hra hrb hr1 hr3 htn hmn hok1 hok2 hr hs1 hs2 hX1 hX2 hXl hX0 hXs1 hXs2 hXa hXb hpt kc cd0 fd0 k5 HY15 HP9 HP12 HN HV HZ o12 y12 hb12 hb13 n14 HE12 HS13
          go_upto_region 24 with (go_at_call 13; with_reducible refine (HRa.out _ hb0).mono ?_; rintro e w17 ⟨rfl, hb17⟩)
          have t18 := bal (bal hb17 (.cells #[.int .u64 (m : Int), .string r1] 37)) (.cells #[.int .u64 (tn : Int), .string ra] 37)
          have y18 := rh_new (w17.alloc (.cells #[.int .u64 (m : Int), .string r1] 37)) tn ra
          rw [World.size_alloc] at y18
          obtain ⟨w18, hw18⟩ : ∃ w18, (w17.alloc (.cells #[.int .u64 (m : Int), .string r1] 37)).alloc (.cells #[.int .u64 (tn : Int), .string ra] 37) = w18 := ⟨_, rfl⟩
          rw [hw18] at y18 t18 ⊢
          obtain ⟨p0, p1, p2, p3, p4, p5⟩ := (HQ.out w18 t18).2.1.cells
          obtain ⟨q18, hq18⟩ : ∃ q18, w17.heap.size + 1 = q18 := ⟨_, rfl⟩
          rw [hq18] at y18 ⊢
          clear hw18 hb17
          go_upto_region 25 with (go_at_call 13; with_reducible refine (HRb.out _ t18).mono ?_; rintro e w19 ⟨rfl, hb19⟩)
          have t20 := bal (bal hb19 (.cells #[.int .u64 (m : Int), .string r3] 37)) (.cells #[.int .u64 (tn : Int), .string rb] 37)
          have y20 := rh_new (w19.alloc (.cells #[.int .u64 (m : Int), .string r3] 37)) tn rb
          rw [World.size_alloc] at y20
          obtain ⟨wa, hwa⟩ : ∃ wa, (w19.alloc (.cells #[.int .u64 (m : Int), .string r3] 37)).alloc (.cells #[.int .u64 (tn : Int), .string rb] 37) = wa := ⟨_, rfl⟩
          rw [hwa] at y20 t20 ⊢
          obtain ⟨q21, hq21⟩ : ∃ q21, w19.heap.size + 1 = q21 := ⟨_, rfl⟩
          rw [hq21] at y20 ⊢
          have HA : Hid (∀ W, Below wa.heap.size wa W → Rh W q18 tn ra ∧ Rh W q21 tn rb ∧ Below w16.heap.size w16 W) := fun W hW => ⟨(y18.next t20).next hW, y20.next hW, bnext (bnext t18 t20) hW⟩
          clear hwa hb19 y18 y20 t18 t20 hb0 HRa HRb p0 p1 p2 p3 p4 p5
          have hb0 := Below.refl wa.heap.size wa
          have HS : Hid (∀ W, Below wa.heap.size wa W → W.cell? ⟨q10, 0, none⟩ = some (.int .i64 3) ∧ W.cell? ⟨q10, 1, none⟩ = some (.int .i64 K) ∧ W.cell? ⟨q10, 2, none⟩ = some (.int .u64 (m : Int)) ∧ W.cell? ⟨q10, 3, none⟩ = some (.int .u64 (tn : Int)) ∧ W.cell? ⟨q10, 4, none⟩ = some (.slice none 0 0) ∧ W.cell? ⟨q10, 5, none⟩ = some (.slice ad D.length cd) ∧ W.cell? ⟨q14, 0, none⟩ = some (.int .i64 3) ∧ W.cell? ⟨q14, 1, none⟩ = some (.int .i64 K) ∧ W.cell? ⟨q14, 2, none⟩ = some (.int .u64 (m : Int)) ∧ W.cell? ⟨q14, 3, none⟩ = some (.int .u64 (tn : Int)) ∧ W.cell? ⟨q14, 4, none⟩ = some (.slice none 0 0) ∧ W.cell? ⟨q14, 5, none⟩ = some (.slice (some ⟨gd, 0, none⟩) D.length c2)) := fun W hW => by
            have h := HQ.out W (HA.out W hW).2.2
            obtain ⟨k0, k1, k2, k3, k4, k5⟩ := h.1.cells
            exact ⟨k0, k1, k2, k3, k4, k5, h.2.1.cells⟩
          go_cut [23, 24] from 163 to 166 (fun x y wx => ∃ b1 c1 b2 c3, x = .slice (some ⟨b1, 0, none⟩) X1.length c1 ∧ y = .slice (some ⟨b2, 0, none⟩) X1.length c3 ∧ RdS wx (some ⟨b1, 0, none⟩) b1 0 X1.length X1 ∧ RdS wx (some ⟨b2, 0, none⟩) b2 0 X1.length X2 ∧ Below wa.heap.size wa wx)
          case first =>
            go_region_held3 (fun W => W.cell? ⟨q10, 0, none⟩ = some (.int .i64 3) ∧ W.cell? ⟨q10, 1, none⟩ = some (.int .i64 K) ∧ W.cell? ⟨q10, 2, none⟩ = some (.int .u64 (m : Int)) ∧ W.cell? ⟨q10, 3, none⟩ = some (.int .u64 (tn : Int)) ∧ W.cell? ⟨q10, 4, none⟩ = some (.slice none 0 0) ∧ W.cell? ⟨q10, 5, none⟩ = some (.slice ad D.length cd) ∧ W.cell? ⟨q14, 0, none⟩ = some (.int .i64 3) ∧ W.cell? ⟨q14, 1, none⟩ = some (.int .i64 K) ∧ W.cell? ⟨q14, 2, none⟩ = some (.int .u64 (m : Int)) ∧ W.cell? ⟨q14, 3, none⟩ = some (.int .u64 (tn : Int)) ∧ W.cell? ⟨q14, 4, none⟩ = some (.slice none 0 0) ∧ W.cell? ⟨q14, 5, none⟩ = some (.slice (some ⟨gd, 0, none⟩) D.length c2))
              (exact HS.out _ (by first | exact hb0 | exact hb0.drew | exact hbx | exact hby)) (first
              | (go_at_call 19; with_reducible refine (HT1.out _ (HA.out _ (by first | exact hb0.drew | exact hb0 | exact hby)).2.2).mono ?_; rintro e wx ⟨b1, c1, rfl, rx, hbx'⟩; have hbx : Below wa.heap.size wa wx := (by first | exact bnext hb0.drew hbx' | exact bnext hb0 hbx' | exact bnext hby hbx'))
              | (go_at_call 19; with_reducible refine (HT2.out _ (HA.out _ (by first | exact hb0.drew | exact hb0 | exact hbx)).2.2).mono ?_; rintro e wy ⟨b2, c3, rfl, ry, hby'⟩; have hby : Below wa.heap.size wa wy := (by first | exact bnext hb0.drew hby' | exact bnext hb0 hby' | exact bnext hbx hby')))
            all_goals
              go_wp2
              go_meet
              case rel =>
                go_light
                first
                  | exact ⟨b1, c1, b2, c3, rfl, rfl, rx.next hby' (Nat.le_refl _), ry, hby⟩
                  | exact ⟨b1, c1, b2, c3, rfl, rfl, rx, ry.next hbx' (Nat.le_refl _), hbx⟩
          case rest =>
            obtain ⟨b1, c1, b2, c4, rfl, rfl, rx, ry, hbc⟩ := hcut
            obtain ⟨w20, hw20⟩ : ∃ w20, w20 = wc := ⟨_, rfl⟩
            subst hw20
            have HW : Hid (∀ W, Below w20.heap.size w20 W → Rh W q18 tn ra ∧ Rh W q21 tn rb ∧ RdS W (some ⟨b1, 0, none⟩) b1 0 X1.length X1 ∧ RdS W (some ⟨b2, 0, none⟩) b2 0 X1.length X2 ∧ Below w.heap.size w W) := fun W hW => by
              obtain ⟨z1, z2, z3⟩ := HA.out W (bnext hbc hW)
              exact ⟨z1, z2, rx.next hW (Nat.le_refl _), ry.next hW (Nat.le_refl _), (HQ.out W z3).2.2.2.2⟩
            obtain ⟨h1, hh1⟩ : ∃ h1, X1.getD 0 ByteArray.empty = h1 := ⟨_, rfl⟩
            obtain ⟨h2, hh2⟩ : ∃ h2, X2.getD 0 ByteArray.empty = h2 := ⟨_, rfl⟩
            have HC : Hid (∀ W, Below w20.heap.size w20 W → Rh W q18 tn ra ∧ Rh W q21 tn rb ∧ W.cell? ⟨b1, 0, none⟩ = some (.string h1) ∧ W.cell? ⟨b2, 0, none⟩ = some (.string h2) ∧ Below w.heap.size w W) := fun W hW => by
              obtain ⟨z1, z2, z3, z4, z5⟩ := HW.out W hW
              have e1 := z3.at HX.out.2.1
              have e2 := z4.at HX.out.2.1
              rw [hh1] at e1
              rw [hh2] at e2
              exact ⟨z1, z2, e1, e2, z5⟩
            have HO1 : Hid (∀ W, Below w.heap.size w W → Calls Tryd.prog 20 #[.int .i64 K, .string h1] W fun e w' => e = .returned (.string ra) ∧ Below W.heap.size W w') := fun W hb => hof_any W (HT.out W hb) K h1 (by have := HX.out.2.2.2.1 _ (getD_mem HX.out.2.1); rw [hh1] at this; omega) ra (by rw [← hh1]; exact HX.out.2.2.2.2.2.1)
            have HO2 : Hid (∀ W, Below w.heap.size w W → Calls Tryd.prog 20 #[.int .i64 K, .string h2] W fun e w' => e = .returned (.string rb) ∧ Below W.heap.size W w') := fun W hb => hof_any W (HT.out W hb) K h2 (by have := HX.out.2.2.2.2.1 _ (getD_mem (show 0 < X2.length by rw [HX.out.1]; exact HX.out.2.1)); rw [hh2] at this; omega) rb (by rw [← hh2]; exact HX.out.2.2.2.2.2.2.1)
            have hXn := HX.out.2.1
            have hX0 : (0 : Int) < (X1.length : Int) := by have := HX.out.2.1; omega
            have hXz : (X1.length : Int) ≤ 112 := by have := HX.out.2.2.1; have := HX.out.2.2.2.2.2.2.2.2; omega
            clear hh1 hh2 rx ry hbc HA HQ HS HT1 HT2 hb0
            go_upto_region 26 with (fail)
            refine wp_region_planI (by kernel_rfl) [167, 168, 169, 170, 171, 172, 173, 174, 175, 176, 177, 178, 179, 180, 181, 182, 183, 184, 185, 186, 187, 188, 189, 190, 191, 192, 193, 194, 195, 196, 197, 198, 199, 200, 201, 202, 203, 204, 205, 206, 207, 208] [] [.int .i64 0, .int .i64 0, .bool false, .bool false, .int .i64 0, .int .i64 0, .bool false, .bool false, .bool false, .slice (some ⟨b1, 0, none⟩) X1.length c1, .int .i64 (X1.length : Int), .slice (some ⟨b2, 0, none⟩) X1.length c4, .int .i64 (X1.length : Int), .bool false, .bool false, .bool false, .pointer (some ⟨q18, 1, none⟩), .string ra, .int .i64 K, .slice (some ⟨b1, 0, none⟩) X1.length c1, .pointer (some ⟨b1, 0, none⟩), .string h1, .string ra, .bool false, .bool false, .bool false, .pointer (some ⟨q21, 1, none⟩), .string rb, .int .i64 K, .slice (some ⟨b2, 0, none⟩) X1.length c4, .pointer (some ⟨b2, 0, none⟩), .string h2, .string rb, .bool false, .bool false, .bool false, .pointer (some ⟨q18, 0, none⟩), .int .u64 (tn : Int), .pointer (some ⟨q21, 0, none⟩), .int .u64 (tn : Int), .bool false, .bool false] (by kernel_rfl) rfl (fun j hj => by cases hj) (fun _ W => Below w20.heap.size w20 W) (fun W _ hb => hb) ?step ?fin
            case step =>
              refine ⟨?_, ?_, ?_, ?_, ?_, ?_, ?_, ?_, ?_, ?_, ?_, ?_, ?_, ?_, ?_, ?_, ?_, ?_, ?_, ?_, ?_, ?_, ?_, ?_, ?_, ?_, ?_, ?_, ?_, ?_, ?_, ?_, ?_, ?_, ?_, ?_, ?_, ?_, ?_, ?_, ?_, ?_, trivial⟩
              · intro L Ac Wc Kq hI hj hcl hsm dep hK
                have t19 : Ac.tmps.getD 19 undef = .int .i64 0 := hsm 19 rfl
                show Oper.wp _ _ Ac Wc Kq _
                go_simp
                exact hK _ _ (.inr rfl) hI
              · intro L Ac Wc Kq hI hj hcl hsm dep hK
                have t167 : Ac.tmps.getD 167 undef = .int .i64 0 := dep 0 rfl
                show Oper.wp _ _ Ac Wc Kq _
                go_simp
                refine (num_id _ _).mono ?_
                rintro e w' ⟨rfl, rfl⟩
                exact hK _ _ (.inr rfl) hI
              · intro L Ac Wc Kq hI hj hcl hsm dep hK
                have t168 : Ac.tmps.getD 168 undef = .int .i64 0 := dep 1 rfl
                show Oper.wp _ _ Ac Wc Kq _
                go_simp
                exact hK _ _ (.inr rfl) hI
              · intro L Ac Wc Kq hI hj hcl hsm dep hK
                have t169 : Ac.tmps.getD 169 undef = .bool false := dep 2 rfl
                show Oper.wp _ _ Ac Wc Kq _
                go_simp
                exact hK _ _ (.inr rfl) hI
              · intro L Ac Wc Kq hI hj hcl hsm dep hK
                have t22 : Ac.tmps.getD 22 undef = .int .i64 0 := hsm 22 rfl
                refine ⟨false, (show Ac.tmps.getD 170 undef = .bool false from dep 3 rfl), ?_⟩
                rw [if_pos rfl]
                go_simp
                exact hK _ _ (.inr rfl) hI
              · intro L Ac Wc Kq hI hj hcl hsm dep hK
                have t171 : Ac.tmps.getD 171 undef = .int .i64 0 := dep 4 rfl
                refine ⟨false, (show Ac.tmps.getD 170 undef = .bool false from dep 3 rfl), ?_⟩
                rw [if_pos rfl]
                go_simp
                refine (num_id _ _).mono ?_
                rintro e w' ⟨rfl, rfl⟩
                exact hK _ _ (.inr rfl) hI
              · intro L Ac Wc Kq hI hj hcl hsm dep hK
                have t172 : Ac.tmps.getD 172 undef = .int .i64 0 := dep 5 rfl
                refine ⟨false, (show Ac.tmps.getD 170 undef = .bool false from dep 3 rfl), ?_⟩
                rw [if_pos rfl]
                go_simp
                exact hK _ _ (.inr rfl) hI
              · intro L Ac Wc Kq hI hj hcl hsm dep hK
                have t170 : Ac.tmps.getD 170 undef = .bool false := dep 3 rfl
                have t173 : Ac.tmps.getD 173 undef = .bool false := dep 6 rfl
                show Oper.wp _ _ Ac Wc Kq _
                go_simp
                exact hK _ _ (.inr rfl) hI
              · intro L Ac Wc Kq hI hj hcl hsm dep hK
                have t174 : Ac.tmps.getD 174 undef = .bool false := dep 7 rfl
                show Oper.wp _ _ Ac Wc Kq _
                go_simp
                exact hK _ _ (.inr rfl) hI
              · intro L Ac Wc Kq hI hj hcl hsm dep hK
                have t23 : Ac.tmps.getD 23 undef = .slice (some ⟨b1, 0, none⟩) X1.length c1 := hsm 23 rfl
                refine ⟨false, (show Ac.tmps.getD 175 undef = .bool false from dep 8 rfl), ?_⟩
                rw [if_pos rfl]
                go_simp
                exact hK _ _ (.inr rfl) hI
              · intro L Ac Wc Kq hI hj hcl hsm dep hK
                have t176 : Ac.tmps.getD 176 undef = .slice (some ⟨b1, 0, none⟩) X1.length c1 := dep 9 rfl
                refine ⟨false, (show Ac.tmps.getD 175 undef = .bool false from dep 8 rfl), ?_⟩
                rw [if_pos rfl]
                go_simp
                exact hK _ _ (.inr rfl) hI
              · intro L Ac Wc Kq hI hj hcl hsm dep hK
                have t24 : Ac.tmps.getD 24 undef = .slice (some ⟨b2, 0, none⟩) X1.length c4 := hsm 24 rfl
                refine ⟨false, (show Ac.tmps.getD 175 undef = .bool false from dep 8 rfl), ?_⟩
                rw [if_pos rfl]
                go_simp
                exact hK _ _ (.inr rfl) hI
              · intro L Ac Wc Kq hI hj hcl hsm dep hK
                have t178 : Ac.tmps.getD 178 undef = .slice (some ⟨b2, 0, none⟩) X1.length c4 := dep 11 rfl
                refine ⟨false, (show Ac.tmps.getD 175 undef = .bool false from dep 8 rfl), ?_⟩
                rw [if_pos rfl]
                go_simp
                exact hK _ _ (.inr rfl) hI
              · intro L Ac Wc Kq hI hj hcl hsm dep hK
                have t177 : Ac.tmps.getD 177 undef = .int .i64 (X1.length : Int) := dep 10 rfl
                have t179 : Ac.tmps.getD 179 undef = .int .i64 (X1.length : Int) := dep 12 rfl
                refine ⟨false, (show Ac.tmps.getD 175 undef = .bool false from dep 8 rfl), ?_⟩
                rw [if_pos rfl]
                go_simp
                exact hK _ _ (.inr rfl) hI
              · intro L Ac Wc Kq hI hj hcl hsm dep hK
                have t175 : Ac.tmps.getD 175 undef = .bool false := dep 8 rfl
                have t180 : Ac.tmps.getD 180 undef = .bool false := dep 13 rfl
                show Oper.wp _ _ Ac Wc Kq _
                go_simp
                exact hK _ _ (.inr rfl) hI
              · intro L Ac Wc Kq hI hj hcl hsm dep hK
                have t181 : Ac.tmps.getD 181 undef = .bool false := dep 14 rfl
                show Oper.wp _ _ Ac Wc Kq _
                go_simp
                exact hK _ _ (.inr rfl) hI
              · intro L Ac Wc Kq hI hj hcl hsm dep hK
                have t18 : Ac.tmps.getD 18 undef = .pointer (some ⟨q18, 0, none⟩) := hsm 18 rfl
                refine ⟨false, (show Ac.tmps.getD 182 undef = .bool false from dep 15 rfl), ?_⟩
                rw [if_pos rfl]
                go_simp
                exact hK _ _ (.inr rfl) hI
              · intro L Ac Wc Kq hI hj hcl hsm dep hK
                have t183 : Ac.tmps.getD 183 undef = .pointer (some ⟨q18, 1, none⟩) := dep 16 rfl
                refine ⟨false, (show Ac.tmps.getD 182 undef = .bool false from dep 15 rfl), ?_⟩
                rw [if_pos rfl]
                obtain ⟨y1, y2⟩ := (HC.out Wc hI).1.cells
                go_simp
                exact hK _ _ (.inr rfl) hI
              · intro L Ac Wc Kq hI hj hcl hsm dep hK
                have t0 : Ac.tmps.getD 0 undef = .int .i64 K := hsm 0 rfl
                refine ⟨false, (show Ac.tmps.getD 182 undef = .bool false from dep 15 rfl), ?_⟩
                rw [if_pos rfl]
                go_simp
                exact hK _ _ (.inr rfl) hI
              · intro L Ac Wc Kq hI hj hcl hsm dep hK
                have t23 : Ac.tmps.getD 23 undef = .slice (some ⟨b1, 0, none⟩) X1.length c1 := hsm 23 rfl
                refine ⟨false, (show Ac.tmps.getD 182 undef = .bool false from dep 15 rfl), ?_⟩
                rw [if_pos rfl]
                go_simp
                exact hK _ _ (.inr rfl) hI
              · intro L Ac Wc Kq hI hj hcl hsm dep hK
                have t186 : Ac.tmps.getD 186 undef = .slice (some ⟨b1, 0, none⟩) X1.length c1 := dep 19 rfl
                refine ⟨false, (show Ac.tmps.getD 182 undef = .bool false from dep 15 rfl), ?_⟩
                rw [if_pos rfl]
                go_simp
                exact hK _ _ (.inr rfl) hI
              · intro L Ac Wc Kq hI hj hcl hsm dep hK
                have t187 : Ac.tmps.getD 187 undef = .pointer (some ⟨b1, 0, none⟩) := dep 20 rfl
                refine ⟨false, (show Ac.tmps.getD 182 undef = .bool false from dep 15 rfl), ?_⟩
                rw [if_pos rfl]
                have y2 := (HC.out Wc hI).2.2.1
                go_simp
                exact hK _ _ (.inr rfl) hI
              · intro L Ac Wc Kq hI hj hcl hsm dep hK
                have t185 : Ac.tmps.getD 185 undef = .int .i64 K := dep 18 rfl
                have t188 : Ac.tmps.getD 188 undef = .string h1 := dep 21 rfl
                refine ⟨false, (show Ac.tmps.getD 182 undef = .bool false from dep 15 rfl), ?_⟩
                rw [if_pos rfl]
                go_simp
                refine (HO1.out Wc (HC.out Wc hI).2.2.2.2).mono ?_
                rintro e w' ⟨rfl, hb⟩
                exact hK _ _ (.inr rfl) (bnext hI hb)
              · intro L Ac Wc Kq hI hj hcl hsm dep hK
                have t184 : Ac.tmps.getD 184 undef = .string ra := dep 17 rfl
                have t189 : Ac.tmps.getD 189 undef = .string ra := dep 22 rfl
                refine ⟨false, (show Ac.tmps.getD 182 undef = .bool false from dep 15 rfl), ?_⟩
                rw [if_pos rfl]
                go_simp
                exact hK _ _ (.inr rfl) hI
              · intro L Ac Wc Kq hI hj hcl hsm dep hK
                have t182 : Ac.tmps.getD 182 undef = .bool false := dep 15 rfl
                have t190 : Ac.tmps.getD 190 undef = .bool false := dep 23 rfl
                show Oper.wp _ _ Ac Wc Kq _
                go_simp
                exact hK _ _ (.inr rfl) hI
              · intro L Ac Wc Kq hI hj hcl hsm dep hK
                have t191 : Ac.tmps.getD 191 undef = .bool false := dep 24 rfl
                show Oper.wp _ _ Ac Wc Kq _
                go_simp
                exact hK _ _ (.inr rfl) hI
              · intro L Ac Wc Kq hI hj hcl hsm dep hK
                have t21 : Ac.tmps.getD 21 undef = .pointer (some ⟨q21, 0, none⟩) := hsm 21 rfl
                refine ⟨false, (show Ac.tmps.getD 192 undef = .bool false from dep 25 rfl), ?_⟩
                rw [if_pos rfl]
                go_simp
                exact hK _ _ (.inr rfl) hI
              · intro L Ac Wc Kq hI hj hcl hsm dep hK
                have t193 : Ac.tmps.getD 193 undef = .pointer (some ⟨q21, 1, none⟩) := dep 26 rfl
                refine ⟨false, (show Ac.tmps.getD 192 undef = .bool false from dep 25 rfl), ?_⟩
                rw [if_pos rfl]
                obtain ⟨y1, y2⟩ := (HC.out Wc hI).2.1.cells
                go_simp
                exact hK _ _ (.inr rfl) hI
              · intro L Ac Wc Kq hI hj hcl hsm dep hK
                have t0 : Ac.tmps.getD 0 undef = .int .i64 K := hsm 0 rfl
                refine ⟨false, (show Ac.tmps.getD 192 undef = .bool false from dep 25 rfl), ?_⟩
                rw [if_pos rfl]
                go_simp
                exact hK _ _ (.inr rfl) hI
              · intro L Ac Wc Kq hI hj hcl hsm dep hK
                have t24 : Ac.tmps.getD 24 undef = .slice (some ⟨b2, 0, none⟩) X1.length c4 := hsm 24 rfl
                refine ⟨false, (show Ac.tmps.getD 192 undef = .bool false from dep 25 rfl), ?_⟩
                rw [if_pos rfl]
                go_simp
                exact hK _ _ (.inr rfl) hI
              · intro L Ac Wc Kq hI hj hcl hsm dep hK
                have t196 : Ac.tmps.getD 196 undef = .slice (some ⟨b2, 0, none⟩) X1.length c4 := dep 29 rfl
                refine ⟨false, (show Ac.tmps.getD 192 undef = .bool false from dep 25 rfl), ?_⟩
                rw [if_pos rfl]
                go_simp
                exact hK _ _ (.inr rfl) hI
              · intro L Ac Wc Kq hI hj hcl hsm dep hK
                have t197 : Ac.tmps.getD 197 undef = .pointer (some ⟨b2, 0, none⟩) := dep 30 rfl
                refine ⟨false, (show Ac.tmps.getD 192 undef = .bool false from dep 25 rfl), ?_⟩
                rw [if_pos rfl]
                have y2 := (HC.out Wc hI).2.2.2.1
                go_simp
                exact hK _ _ (.inr rfl) hI
              · intro L Ac Wc Kq hI hj hcl hsm dep hK
                have t195 : Ac.tmps.getD 195 undef = .int .i64 K := dep 28 rfl
                have t198 : Ac.tmps.getD 198 undef = .string h2 := dep 31 rfl
                refine ⟨false, (show Ac.tmps.getD 192 undef = .bool false from dep 25 rfl), ?_⟩
                rw [if_pos rfl]
                go_simp
                refine (HO2.out Wc (HC.out Wc hI).2.2.2.2).mono ?_
                rintro e w' ⟨rfl, hb⟩
                exact hK _ _ (.inr rfl) (bnext hI hb)
              · intro L Ac Wc Kq hI hj hcl hsm dep hK
                have t194 : Ac.tmps.getD 194 undef = .string rb := dep 27 rfl
                have t199 : Ac.tmps.getD 199 undef = .string rb := dep 32 rfl
                refine ⟨false, (show Ac.tmps.getD 192 undef = .bool false from dep 25 rfl), ?_⟩
                rw [if_pos rfl]
                go_simp
                exact hK _ _ (.inr rfl) hI
              · intro L Ac Wc Kq hI hj hcl hsm dep hK
                have t192 : Ac.tmps.getD 192 undef = .bool false := dep 25 rfl
                have t200 : Ac.tmps.getD 200 undef = .bool false := dep 33 rfl
                show Oper.wp _ _ Ac Wc Kq _
                go_simp
                exact hK _ _ (.inr rfl) hI
              · intro L Ac Wc Kq hI hj hcl hsm dep hK
                have t201 : Ac.tmps.getD 201 undef = .bool false := dep 34 rfl
                show Oper.wp _ _ Ac Wc Kq _
                go_simp
                exact hK _ _ (.inr rfl) hI
              · intro L Ac Wc Kq hI hj hcl hsm dep hK
                have t18 : Ac.tmps.getD 18 undef = .pointer (some ⟨q18, 0, none⟩) := hsm 18 rfl
                refine ⟨false, (show Ac.tmps.getD 202 undef = .bool false from dep 35 rfl), ?_⟩
                rw [if_pos rfl]
                go_simp
                exact hK _ _ (.inr rfl) hI
              · intro L Ac Wc Kq hI hj hcl hsm dep hK
                have t203 : Ac.tmps.getD 203 undef = .pointer (some ⟨q18, 0, none⟩) := dep 36 rfl
                refine ⟨false, (show Ac.tmps.getD 202 undef = .bool false from dep 35 rfl), ?_⟩
                rw [if_pos rfl]
                obtain ⟨y1, y2⟩ := (HC.out Wc hI).1.cells
                go_simp
                exact hK _ _ (.inr rfl) hI
              · intro L Ac Wc Kq hI hj hcl hsm dep hK
                have t21 : Ac.tmps.getD 21 undef = .pointer (some ⟨q21, 0, none⟩) := hsm 21 rfl
                refine ⟨false, (show Ac.tmps.getD 202 undef = .bool false from dep 35 rfl), ?_⟩
                rw [if_pos rfl]
                go_simp
                exact hK _ _ (.inr rfl) hI
              · intro L Ac Wc Kq hI hj hcl hsm dep hK
                have t205 : Ac.tmps.getD 205 undef = .pointer (some ⟨q21, 0, none⟩) := dep 38 rfl
                refine ⟨false, (show Ac.tmps.getD 202 undef = .bool false from dep 35 rfl), ?_⟩
                rw [if_pos rfl]
                obtain ⟨y1, y2⟩ := (HC.out Wc hI).2.1.cells
                go_simp
                exact hK _ _ (.inr rfl) hI
              · intro L Ac Wc Kq hI hj hcl hsm dep hK
                have t204 : Ac.tmps.getD 204 undef = .int .u64 (tn : Int) := dep 37 rfl
                have t206 : Ac.tmps.getD 206 undef = .int .u64 (tn : Int) := dep 39 rfl
                refine ⟨false, (show Ac.tmps.getD 202 undef = .bool false from dep 35 rfl), ?_⟩
                rw [if_pos rfl]
                go_simp
                exact hK _ _ (.inr rfl) hI
              · intro L Ac Wc Kq hI hj hcl hsm dep hK
                have t202 : Ac.tmps.getD 202 undef = .bool false := dep 35 rfl
                have t207 : Ac.tmps.getD 207 undef = .bool false := dep 40 rfl
                show Oper.wp _ _ Ac Wc Kq _
                go_simp
                exact hK _ _ (.inr rfl) hI
            case fin =>
              intro L w21 hall hI
              clear hall HO1 HO2 HC
              have hW21 := HW.out w21 hI
              obtain ⟨k0, k1⟩ := hW21.1.cells
              obtain ⟨k2, k3⟩ := hW21.2.1.cells
              have HE := hide hW21.2.2.2.2
              have HW2 : Hid (∀ W, Below w21.heap.size w21 W → RdS W (some ⟨b1, 0, none⟩) b1 0 X1.length X1 ∧ RdS W (some ⟨b2, 0, none⟩) b2 0 X1.length X2 ∧ Below w.heap.size w W) := fun W hW => (HW.out W (bnext hI hW)).2.2
              clear hW21 HW hI
              simp only [puts]
              go_simp
              by_cases hre : ra = rb
              · have hP := HX.out.2.2.2.2.2.2.2.1 hre
                have HP := hide hP
                subst hre
                clear hP
                go_wp2
                clear k0 k1 k2 k3 hX0 hXn
                go_loopg [25] X1.length (fun gg v wr => ∃ t : Nat, t ≤ X1.length ∧ gg = X1.length - t ∧ v = .int .i64 (t : Int) ∧ (∀ x, x < t → ¬ (X1.getD x ByteArray.empty ≠ X2.getD x ByteArray.empty ∧ dg (clk K) (X1.getD x ByteArray.empty) = dg (clk K) (X2.getD x ByteArray.empty))) ∧ Hid (Below w21.heap.size w21 wr))
                case atStart =>
                  go_light
                  exact ⟨0, Nat.zero_le _, rfl, rfl, fun x hx => absurd hx (Nat.not_lt_zero _), Below.refl _ _⟩
                case round =>
                  obtain ⟨t, ht, rfl, rfl, hno, HI⟩ := hrel
                  by_cases hlt : t < X1.length
                  · have hz1 : (t : Int) < (X1.length : Int) := by omega
                    have hz0 : (0 : Int) ≤ (t : Int) := Int.natCast_nonneg _
                    obtain ⟨s1, hs1⟩ : ∃ s1, X1.getD t ByteArray.empty = s1 := ⟨_, rfl⟩
                    obtain ⟨s2, hs2⟩ : ∃ s2, X2.getD t ByteArray.empty = s2 := ⟨_, rfl⟩
                    obtain ⟨z1, hz1'⟩ : ∃ z1, dg (clk K) s1 = z1 := ⟨_, rfl⟩
                    obtain ⟨z2', hz2'⟩ : ∃ z2', dg (clk K) s2 = z2' := ⟨_, rfl⟩
                    have hl1 : s1.size ≤ 1000 := by rw [← hs1]; exact HX.out.2.2.2.1 _ (getD_mem hlt)
                    have hl2 : s2.size ≤ 1000 := by rw [← hs2]; exact HX.out.2.2.2.2.1 _ (getD_mem (by rw [HX.out.1]; exact hlt))
                    have HC : Hid (∀ W, Below wr.heap.size wr W → W.cell? ⟨b1, t, none⟩ = some (.string s1) ∧ W.cell? ⟨b2, t, none⟩ = some (.string s2) ∧ Below w.heap.size w W) := fun W hW => by
                      obtain ⟨x1, x2, x3⟩ := HW2.out W (bnext HI.out hW)
                      have e1 := x1.at hlt
                      have e2 := x2.at hlt
                      rw [hs1, Nat.zero_add] at e1
                      rw [hs2, Nat.zero_add] at e2
                      exact ⟨e1, e2, x3⟩
                    have HO1 : Hid (∀ W, Below w.heap.size w W → Calls Tryd.prog 20 #[.int .i64 K, .string s1] W fun e w' => e = .returned (.string z1) ∧ Below W.heap.size W w') := fun W hb => hof_any W (HT.out W hb) K s1 (by omega) z1 hz1'
                    have HO2 : Hid (∀ W, Below w.heap.size w W → Calls Tryd.prog 20 #[.int .i64 K, .string s2] W fun e w' => e = .returned (.string z2') ∧ Below W.heap.size W w') := fun W hb => hof_any W (HT.out W hb) K s2 (by omega) z2' hz2'
                    have HNo : Hid (¬ (s1 ≠ s2 ∧ z1 = z2') → ∀ x, x < t + 1 → ¬ (X1.getD x ByteArray.empty ≠ X2.getD x ByteArray.empty ∧ dg (clk K) (X1.getD x ByteArray.empty) = dg (clk K) (X2.getD x ByteArray.empty))) := fun h x hx => by
                      rcases Nat.lt_or_eq_of_le (Nat.le_of_lt_succ hx) with hx | rfl
                      · exact hno x hx
                      · rw [hs1, hs2, hz1', hz2']; exact h
                    have et : IntKind.i64.wrap ((t : Int) + 1) = ((t + 1 : Nat) : Int) := by rw [IntKind.wrap_i64]; omega
                    clear hno hl1 hl2 hz1' hz2' hs1 hs2 ht
                    by_cases hss : s1 = s2
                    · subst hss
                      go_upto_region 33 with (fail)
                      refine wp_region_planI (by kernel_rfl) [218, 219, 220, 221, 222, 223, 224, 225, 226, 227, 228, 229, 230, 231, 232, 233, 234, 235, 236, 237, 238, 239, 240, 241] [] [.slice (some ⟨b1, 0, none⟩) X1.length c1, .int .i64 (t : Int), .pointer (some ⟨b1, t, none⟩), .string s1, .slice (some ⟨b2, 0, none⟩) X1.length c4, .int .i64 (t : Int), .pointer (some ⟨b2, t, none⟩), .string s1, .bool false, .bool false, undef, undef, undef, undef, undef, undef, undef, undef, undef, undef, undef, undef, undef, .bool false] (by kernel_rfl) rfl (fun j hj => by cases hj) (fun _ W => Below wr.heap.size wr W) (fun W _ hb => hb) ?step ?fin
                      case step =>
                        refine ⟨?_, ?_, ?_, ?_, ?_, ?_, ?_, ?_, ?_, ?_, ?_, ?_, ?_, ?_, ?_, ?_, ?_, ?_, ?_, ?_, ?_, ?_, ?_, ?_, trivial⟩
                        · intro L Ac Wc Kq hI hj hcl hsm dep hK
                          have t23 : Ac.tmps.getD 23 undef = .slice (some ⟨b1, 0, none⟩) X1.length c1 := hsm 23 rfl
                          show Oper.wp _ _ Ac Wc Kq _
                          go_simp
                          exact hK _ _ (.inr rfl) hI
                        · intro L Ac Wc Kq hI hj hcl hsm dep hK
                          have t25 : Ac.tmps.getD 25 undef = .int .i64 (t : Int) := hsm 25 rfl
                          show Oper.wp _ _ Ac Wc Kq _
                          go_simp
                          exact hK _ _ (.inr rfl) hI
                        · intro L Ac Wc Kq hI hj hcl hsm dep hK
                          have t218 : Ac.tmps.getD 218 undef = .slice (some ⟨b1, 0, none⟩) X1.length c1 := dep 0 rfl
                          have t219 : Ac.tmps.getD 219 undef = .int .i64 (t : Int) := dep 1 rfl
                          show Oper.wp _ _ Ac Wc Kq _
                          go_simp
                          exact hK _ _ (.inr rfl) hI
                        · intro L Ac Wc Kq hI hj hcl hsm dep hK
                          have t220 : Ac.tmps.getD 220 undef = .pointer (some ⟨b1, t, none⟩) := dep 2 rfl
                          show Oper.wp _ _ Ac Wc Kq _
                          have y2 := (HC.out Wc hI).1
                          go_simp
                          exact hK _ _ (.inr rfl) hI
                        · intro L Ac Wc Kq hI hj hcl hsm dep hK
                          have t24 : Ac.tmps.getD 24 undef = .slice (some ⟨b2, 0, none⟩) X1.length c4 := hsm 24 rfl
                          show Oper.wp _ _ Ac Wc Kq _
                          go_simp
                          exact hK _ _ (.inr rfl) hI
                        · intro L Ac Wc Kq hI hj hcl hsm dep hK
                          have t25 : Ac.tmps.getD 25 undef = .int .i64 (t : Int) := hsm 25 rfl
                          show Oper.wp _ _ Ac Wc Kq _
                          go_simp
                          exact hK _ _ (.inr rfl) hI
                        · intro L Ac Wc Kq hI hj hcl hsm dep hK
                          have t222 : Ac.tmps.getD 222 undef = .slice (some ⟨b2, 0, none⟩) X1.length c4 := dep 4 rfl
                          have t223 : Ac.tmps.getD 223 undef = .int .i64 (t : Int) := dep 5 rfl
                          show Oper.wp _ _ Ac Wc Kq _
                          go_simp
                          exact hK _ _ (.inr rfl) hI
                        · intro L Ac Wc Kq hI hj hcl hsm dep hK
                          have t224 : Ac.tmps.getD 224 undef = .pointer (some ⟨b2, t, none⟩) := dep 6 rfl
                          show Oper.wp _ _ Ac Wc Kq _
                          have y2 := (HC.out Wc hI).2.1
                          go_simp
                          exact hK _ _ (.inr rfl) hI
                        · intro L Ac Wc Kq hI hj hcl hsm dep hK
                          have t221 : Ac.tmps.getD 221 undef = .string s1 := dep 3 rfl
                          have t225 : Ac.tmps.getD 225 undef = .string s1 := dep 7 rfl
                          show Oper.wp _ _ Ac Wc Kq _
                          go_simp
                          exact hK _ _ (.inr rfl) hI
                        · intro L Ac Wc Kq hI hj hcl hsm dep hK
                          have t226 : Ac.tmps.getD 226 undef = .bool false := dep 8 rfl
                          show Oper.wp _ _ Ac Wc Kq _
                          go_simp
                          exact hK _ _ (.inr rfl) hI
                        · intro L Ac Wc Kq hI hj hcl hsm dep hK
                          refine ⟨false, (show Ac.tmps.getD 227 undef = .bool false from dep 9 rfl), ?_⟩
                          rw [if_neg (by decide)]
                          exact hK _ _ (.inr rfl) hI
                        · intro L Ac Wc Kq hI hj hcl hsm dep hK
                          refine ⟨false, (show Ac.tmps.getD 227 undef = .bool false from dep 9 rfl), ?_⟩
                          rw [if_neg (by decide)]
                          exact hK _ _ (.inr rfl) hI
                        · intro L Ac Wc Kq hI hj hcl hsm dep hK
                          refine ⟨false, (show Ac.tmps.getD 227 undef = .bool false from dep 9 rfl), ?_⟩
                          rw [if_neg (by decide)]
                          exact hK _ _ (.inr rfl) hI
                        · intro L Ac Wc Kq hI hj hcl hsm dep hK
                          refine ⟨false, (show Ac.tmps.getD 227 undef = .bool false from dep 9 rfl), ?_⟩
                          rw [if_neg (by decide)]
                          exact hK _ _ (.inr rfl) hI
                        · intro L Ac Wc Kq hI hj hcl hsm dep hK
                          refine ⟨false, (show Ac.tmps.getD 227 undef = .bool false from dep 9 rfl), ?_⟩
                          rw [if_neg (by decide)]
                          exact hK _ _ (.inr rfl) hI
                        · intro L Ac Wc Kq hI hj hcl hsm dep hK
                          refine ⟨false, (show Ac.tmps.getD 227 undef = .bool false from dep 9 rfl), ?_⟩
                          rw [if_neg (by decide)]
                          exact hK _ _ (.inr rfl) hI
                        · intro L Ac Wc Kq hI hj hcl hsm dep hK
                          refine ⟨false, (show Ac.tmps.getD 227 undef = .bool false from dep 9 rfl), ?_⟩
                          rw [if_neg (by decide)]
                          exact hK _ _ (.inr rfl) hI
                        · intro L Ac Wc Kq hI hj hcl hsm dep hK
                          refine ⟨false, (show Ac.tmps.getD 227 undef = .bool false from dep 9 rfl), ?_⟩
                          rw [if_neg (by decide)]
                          exact hK _ _ (.inr rfl) hI
                        · intro L Ac Wc Kq hI hj hcl hsm dep hK
                          refine ⟨false, (show Ac.tmps.getD 227 undef = .bool false from dep 9 rfl), ?_⟩
                          rw [if_neg (by decide)]
                          exact hK _ _ (.inr rfl) hI
                        · intro L Ac Wc Kq hI hj hcl hsm dep hK
                          refine ⟨false, (show Ac.tmps.getD 227 undef = .bool false from dep 9 rfl), ?_⟩
                          rw [if_neg (by decide)]
                          exact hK _ _ (.inr rfl) hI
                        · intro L Ac Wc Kq hI hj hcl hsm dep hK
                          refine ⟨false, (show Ac.tmps.getD 227 undef = .bool false from dep 9 rfl), ?_⟩
                          rw [if_neg (by decide)]
                          exact hK _ _ (.inr rfl) hI
                        · intro L Ac Wc Kq hI hj hcl hsm dep hK
                          refine ⟨false, (show Ac.tmps.getD 227 undef = .bool false from dep 9 rfl), ?_⟩
                          rw [if_neg (by decide)]
                          exact hK _ _ (.inr rfl) hI
                        · intro L Ac Wc Kq hI hj hcl hsm dep hK
                          refine ⟨false, (show Ac.tmps.getD 227 undef = .bool false from dep 9 rfl), ?_⟩
                          rw [if_neg (by decide)]
                          exact hK _ _ (.inr rfl) hI
                        · intro L Ac Wc Kq hI hj hcl hsm dep hK
                          have t227 : Ac.tmps.getD 227 undef = .bool false := dep 9 rfl
                          have t240 : Ac.tmps.getD 240 undef = undef := dep 22 rfl
                          show Oper.wp _ _ Ac Wc Kq _
                          go_simp
                          exact hK _ _ (.inr rfl) hI
                      case fin =>
                        intro L w22 hall hI
                        have HY : Hid ((∀ x, x < t + 1 → ¬ (X1.getD x ByteArray.empty ≠ X2.getD x ByteArray.empty ∧ dg (clk K) (X1.getD x ByteArray.empty) = dg (clk K) (X2.getD x ByteArray.empty))) ∧ Below w21.heap.size w21 w22) := ⟨HNo.out (fun h => h.1 rfl), bnext HI.out hI⟩
                        clear hall hI HC HO1 HO2 HI HNo
                        simp only [puts]
                        go_simp
                        go_wp2
                        go_roundg (X1.length - (t + 1))
                        case rel =>
                          go_light
                          exact ⟨t + 1, by omega, rfl, rfl, HY.out.1, HY.out.2⟩
                        case measure => go_light; omega
                    · have hbq := beq_neT hss
                      by_cases hzz : z1 = z2'
                      · subst hzz
                        go_upto_region 33 with (fail)
                        refine wp_region_planI (by kernel_rfl) [218, 219, 220, 221, 222, 223, 224, 225, 226, 227, 228, 229, 230, 231, 232, 233, 234, 235, 236, 237, 238, 239, 240, 241] [] [.slice (some ⟨b1, 0, none⟩) X1.length c1, .int .i64 (t : Int), .pointer (some ⟨b1, t, none⟩), .string s1, .slice (some ⟨b2, 0, none⟩) X1.length c4, .int .i64 (t : Int), .pointer (some ⟨b2, t, none⟩), .string s2, .bool true, .bool true, .int .i64 K, .slice (some ⟨b1, 0, none⟩) X1.length c1, .int .i64 (t : Int), .pointer (some ⟨b1, t, none⟩), .string s1, .string z1, .int .i64 K, .slice (some ⟨b2, 0, none⟩) X1.length c4, .int .i64 (t : Int), .pointer (some ⟨b2, t, none⟩), .string s2, .string z1, .bool true, .bool true] (by kernel_rfl) rfl (fun j hj => by cases hj) (fun _ W => Below wr.heap.size wr W) (fun W _ hb => hb) ?step ?fin
                        case step =>
                          refine ⟨?_, ?_, ?_, ?_, ?_, ?_, ?_, ?_, ?_, ?_, ?_, ?_, ?_, ?_, ?_, ?_, ?_, ?_, ?_, ?_, ?_, ?_, ?_, ?_, trivial⟩
                          · intro L Ac Wc Kq hI hj hcl hsm dep hK
                            have t23 : Ac.tmps.getD 23 undef = .slice (some ⟨b1, 0, none⟩) X1.length c1 := hsm 23 rfl
                            show Oper.wp _ _ Ac Wc Kq _
                            go_simp
                            exact hK _ _ (.inr rfl) hI
                          · intro L Ac Wc Kq hI hj hcl hsm dep hK
                            have t25 : Ac.tmps.getD 25 undef = .int .i64 (t : Int) := hsm 25 rfl
                            show Oper.wp _ _ Ac Wc Kq _
                            go_simp
                            exact hK _ _ (.inr rfl) hI
                          · intro L Ac Wc Kq hI hj hcl hsm dep hK
                            have t218 : Ac.tmps.getD 218 undef = .slice (some ⟨b1, 0, none⟩) X1.length c1 := dep 0 rfl
                            have t219 : Ac.tmps.getD 219 undef = .int .i64 (t : Int) := dep 1 rfl
                            show Oper.wp _ _ Ac Wc Kq _
                            go_simp
                            exact hK _ _ (.inr rfl) hI
                          · intro L Ac Wc Kq hI hj hcl hsm dep hK
                            have t220 : Ac.tmps.getD 220 undef = .pointer (some ⟨b1, t, none⟩) := dep 2 rfl
                            show Oper.wp _ _ Ac Wc Kq _
                            have y2 := (HC.out Wc hI).1
                            go_simp
                            exact hK _ _ (.inr rfl) hI
                          · intro L Ac Wc Kq hI hj hcl hsm dep hK
                            have t24 : Ac.tmps.getD 24 undef = .slice (some ⟨b2, 0, none⟩) X1.length c4 := hsm 24 rfl
                            show Oper.wp _ _ Ac Wc Kq _
                            go_simp
                            exact hK _ _ (.inr rfl) hI
                          · intro L Ac Wc Kq hI hj hcl hsm dep hK
                            have t25 : Ac.tmps.getD 25 undef = .int .i64 (t : Int) := hsm 25 rfl
                            show Oper.wp _ _ Ac Wc Kq _
                            go_simp
                            exact hK _ _ (.inr rfl) hI
                          · intro L Ac Wc Kq hI hj hcl hsm dep hK
                            have t222 : Ac.tmps.getD 222 undef = .slice (some ⟨b2, 0, none⟩) X1.length c4 := dep 4 rfl
                            have t223 : Ac.tmps.getD 223 undef = .int .i64 (t : Int) := dep 5 rfl
                            show Oper.wp _ _ Ac Wc Kq _
                            go_simp
                            exact hK _ _ (.inr rfl) hI
                          · intro L Ac Wc Kq hI hj hcl hsm dep hK
                            have t224 : Ac.tmps.getD 224 undef = .pointer (some ⟨b2, t, none⟩) := dep 6 rfl
                            show Oper.wp _ _ Ac Wc Kq _
                            have y2 := (HC.out Wc hI).2.1
                            go_simp
                            exact hK _ _ (.inr rfl) hI
                          · intro L Ac Wc Kq hI hj hcl hsm dep hK
                            have t221 : Ac.tmps.getD 221 undef = .string s1 := dep 3 rfl
                            have t225 : Ac.tmps.getD 225 undef = .string s2 := dep 7 rfl
                            show Oper.wp _ _ Ac Wc Kq _
                            go_simp
                            exact hK _ _ (.inr rfl) hI
                          · intro L Ac Wc Kq hI hj hcl hsm dep hK
                            have t226 : Ac.tmps.getD 226 undef = .bool true := dep 8 rfl
                            show Oper.wp _ _ Ac Wc Kq _
                            go_simp
                            exact hK _ _ (.inr rfl) hI
                          · intro L Ac Wc Kq hI hj hcl hsm dep hK
                            have t0 : Ac.tmps.getD 0 undef = .int .i64 K := hsm 0 rfl
                            refine ⟨true, (show Ac.tmps.getD 227 undef = .bool true from dep 9 rfl), ?_⟩
                            rw [if_pos rfl]
                            go_simp
                            exact hK _ _ (.inr rfl) hI
                          · intro L Ac Wc Kq hI hj hcl hsm dep hK
                            have t23 : Ac.tmps.getD 23 undef = .slice (some ⟨b1, 0, none⟩) X1.length c1 := hsm 23 rfl
                            refine ⟨true, (show Ac.tmps.getD 227 undef = .bool true from dep 9 rfl), ?_⟩
                            rw [if_pos rfl]
                            go_simp
                            exact hK _ _ (.inr rfl) hI
                          · intro L Ac Wc Kq hI hj hcl hsm dep hK
                            have t25 : Ac.tmps.getD 25 undef = .int .i64 (t : Int) := hsm 25 rfl
                            refine ⟨true, (show Ac.tmps.getD 227 undef = .bool true from dep 9 rfl), ?_⟩
                            rw [if_pos rfl]
                            go_simp
                            exact hK _ _ (.inr rfl) hI
                          · intro L Ac Wc Kq hI hj hcl hsm dep hK
                            have t229 : Ac.tmps.getD 229 undef = .slice (some ⟨b1, 0, none⟩) X1.length c1 := dep 11 rfl
                            have t230 : Ac.tmps.getD 230 undef = .int .i64 (t : Int) := dep 12 rfl
                            refine ⟨true, (show Ac.tmps.getD 227 undef = .bool true from dep 9 rfl), ?_⟩
                            rw [if_pos rfl]
                            go_simp
                            exact hK _ _ (.inr rfl) hI
                          · intro L Ac Wc Kq hI hj hcl hsm dep hK
                            have t231 : Ac.tmps.getD 231 undef = .pointer (some ⟨b1, t, none⟩) := dep 13 rfl
                            refine ⟨true, (show Ac.tmps.getD 227 undef = .bool true from dep 9 rfl), ?_⟩
                            rw [if_pos rfl]
                            have y2 := (HC.out Wc hI).1
                            go_simp
                            exact hK _ _ (.inr rfl) hI
                          · intro L Ac Wc Kq hI hj hcl hsm dep hK
                            have t228 : Ac.tmps.getD 228 undef = .int .i64 K := dep 10 rfl
                            have t232 : Ac.tmps.getD 232 undef = .string s1 := dep 14 rfl
                            refine ⟨true, (show Ac.tmps.getD 227 undef = .bool true from dep 9 rfl), ?_⟩
                            rw [if_pos rfl]
                            go_simp
                            refine (HO1.out Wc (HC.out Wc hI).2.2).mono ?_
                            rintro e w' ⟨rfl, hb⟩
                            exact hK _ _ (.inr rfl) (bnext hI hb)
                          · intro L Ac Wc Kq hI hj hcl hsm dep hK
                            have t0 : Ac.tmps.getD 0 undef = .int .i64 K := hsm 0 rfl
                            refine ⟨true, (show Ac.tmps.getD 227 undef = .bool true from dep 9 rfl), ?_⟩
                            rw [if_pos rfl]
                            go_simp
                            exact hK _ _ (.inr rfl) hI
                          · intro L Ac Wc Kq hI hj hcl hsm dep hK
                            have t24 : Ac.tmps.getD 24 undef = .slice (some ⟨b2, 0, none⟩) X1.length c4 := hsm 24 rfl
                            refine ⟨true, (show Ac.tmps.getD 227 undef = .bool true from dep 9 rfl), ?_⟩
                            rw [if_pos rfl]
                            go_simp
                            exact hK _ _ (.inr rfl) hI
                          · intro L Ac Wc Kq hI hj hcl hsm dep hK
                            have t25 : Ac.tmps.getD 25 undef = .int .i64 (t : Int) := hsm 25 rfl
                            refine ⟨true, (show Ac.tmps.getD 227 undef = .bool true from dep 9 rfl), ?_⟩
                            rw [if_pos rfl]
                            go_simp
                            exact hK _ _ (.inr rfl) hI
                          · intro L Ac Wc Kq hI hj hcl hsm dep hK
                            have t235 : Ac.tmps.getD 235 undef = .slice (some ⟨b2, 0, none⟩) X1.length c4 := dep 17 rfl
                            have t236 : Ac.tmps.getD 236 undef = .int .i64 (t : Int) := dep 18 rfl
                            refine ⟨true, (show Ac.tmps.getD 227 undef = .bool true from dep 9 rfl), ?_⟩
                            rw [if_pos rfl]
                            go_simp
                            exact hK _ _ (.inr rfl) hI
                          · intro L Ac Wc Kq hI hj hcl hsm dep hK
                            have t237 : Ac.tmps.getD 237 undef = .pointer (some ⟨b2, t, none⟩) := dep 19 rfl
                            refine ⟨true, (show Ac.tmps.getD 227 undef = .bool true from dep 9 rfl), ?_⟩
                            rw [if_pos rfl]
                            have y2 := (HC.out Wc hI).2.1
                            go_simp
                            exact hK _ _ (.inr rfl) hI
                          · intro L Ac Wc Kq hI hj hcl hsm dep hK
                            have t234 : Ac.tmps.getD 234 undef = .int .i64 K := dep 16 rfl
                            have t238 : Ac.tmps.getD 238 undef = .string s2 := dep 20 rfl
                            refine ⟨true, (show Ac.tmps.getD 227 undef = .bool true from dep 9 rfl), ?_⟩
                            rw [if_pos rfl]
                            go_simp
                            refine (HO2.out Wc (HC.out Wc hI).2.2).mono ?_
                            rintro e w' ⟨rfl, hb⟩
                            exact hK _ _ (.inr rfl) (bnext hI hb)
                          · intro L Ac Wc Kq hI hj hcl hsm dep hK
                            have t233 : Ac.tmps.getD 233 undef = .string z1 := dep 15 rfl
                            have t239 : Ac.tmps.getD 239 undef = .string z1 := dep 21 rfl
                            refine ⟨true, (show Ac.tmps.getD 227 undef = .bool true from dep 9 rfl), ?_⟩
                            rw [if_pos rfl]
                            go_simp
                            exact hK _ _ (.inr rfl) hI
                          · intro L Ac Wc Kq hI hj hcl hsm dep hK
                            have t227 : Ac.tmps.getD 227 undef = .bool true := dep 9 rfl
                            have t240 : Ac.tmps.getD 240 undef = .bool true := dep 22 rfl
                            show Oper.wp _ _ Ac Wc Kq _
                            go_simp
                            exact hK _ _ (.inr rfl) hI
                        case fin =>
                          intro L w22 hall hI
                          have HY := hide (HC.out w22 hI).2.2
                          clear hall hI HC HO1 HO2 HI HNo hss
                          simp only [puts]
                          go_simp
                          go_wp2
                          go_ret
                          exact ⟨rfl, HY.out⟩
                      · have hbz := beq_neT hzz
                        go_upto_region 33 with (fail)
                        refine wp_region_planI (by kernel_rfl) [218, 219, 220, 221, 222, 223, 224, 225, 226, 227, 228, 229, 230, 231, 232, 233, 234, 235, 236, 237, 238, 239, 240, 241] [] [.slice (some ⟨b1, 0, none⟩) X1.length c1, .int .i64 (t : Int), .pointer (some ⟨b1, t, none⟩), .string s1, .slice (some ⟨b2, 0, none⟩) X1.length c4, .int .i64 (t : Int), .pointer (some ⟨b2, t, none⟩), .string s2, .bool true, .bool true, .int .i64 K, .slice (some ⟨b1, 0, none⟩) X1.length c1, .int .i64 (t : Int), .pointer (some ⟨b1, t, none⟩), .string s1, .string z1, .int .i64 K, .slice (some ⟨b2, 0, none⟩) X1.length c4, .int .i64 (t : Int), .pointer (some ⟨b2, t, none⟩), .string s2, .string z2', .bool false, .bool false] (by kernel_rfl) rfl (fun j hj => by cases hj) (fun _ W => Below wr.heap.size wr W) (fun W _ hb => hb) ?step ?fin
                        case step =>
                          refine ⟨?_, ?_, ?_, ?_, ?_, ?_, ?_, ?_, ?_, ?_, ?_, ?_, ?_, ?_, ?_, ?_, ?_, ?_, ?_, ?_, ?_, ?_, ?_, ?_, trivial⟩
                          · intro L Ac Wc Kq hI hj hcl hsm dep hK
                            have t23 : Ac.tmps.getD 23 undef = .slice (some ⟨b1, 0, none⟩) X1.length c1 := hsm 23 rfl
                            show Oper.wp _ _ Ac Wc Kq _
                            go_simp
                            exact hK _ _ (.inr rfl) hI
                          · intro L Ac Wc Kq hI hj hcl hsm dep hK
                            have t25 : Ac.tmps.getD 25 undef = .int .i64 (t : Int) := hsm 25 rfl
                            show Oper.wp _ _ Ac Wc Kq _
                            go_simp
                            exact hK _ _ (.inr rfl) hI
                          · intro L Ac Wc Kq hI hj hcl hsm dep hK
                            have t218 : Ac.tmps.getD 218 undef = .slice (some ⟨b1, 0, none⟩) X1.length c1 := dep 0 rfl
                            have t219 : Ac.tmps.getD 219 undef = .int .i64 (t : Int) := dep 1 rfl
                            show Oper.wp _ _ Ac Wc Kq _
                            go_simp
                            exact hK _ _ (.inr rfl) hI
                          · intro L Ac Wc Kq hI hj hcl hsm dep hK
                            have t220 : Ac.tmps.getD 220 undef = .pointer (some ⟨b1, t, none⟩) := dep 2 rfl
                            show Oper.wp _ _ Ac Wc Kq _
                            have y2 := (HC.out Wc hI).1
                            go_simp
                            exact hK _ _ (.inr rfl) hI
                          · intro L Ac Wc Kq hI hj hcl hsm dep hK
                            have t24 : Ac.tmps.getD 24 undef = .slice (some ⟨b2, 0, none⟩) X1.length c4 := hsm 24 rfl
                            show Oper.wp _ _ Ac Wc Kq _
                            go_simp
                            exact hK _ _ (.inr rfl) hI
                          · intro L Ac Wc Kq hI hj hcl hsm dep hK
                            have t25 : Ac.tmps.getD 25 undef = .int .i64 (t : Int) := hsm 25 rfl
                            show Oper.wp _ _ Ac Wc Kq _
                            go_simp
                            exact hK _ _ (.inr rfl) hI
                          · intro L Ac Wc Kq hI hj hcl hsm dep hK
                            have t222 : Ac.tmps.getD 222 undef = .slice (some ⟨b2, 0, none⟩) X1.length c4 := dep 4 rfl
                            have t223 : Ac.tmps.getD 223 undef = .int .i64 (t : Int) := dep 5 rfl
                            show Oper.wp _ _ Ac Wc Kq _
                            go_simp
                            exact hK _ _ (.inr rfl) hI
                          · intro L Ac Wc Kq hI hj hcl hsm dep hK
                            have t224 : Ac.tmps.getD 224 undef = .pointer (some ⟨b2, t, none⟩) := dep 6 rfl
                            show Oper.wp _ _ Ac Wc Kq _
                            have y2 := (HC.out Wc hI).2.1
                            go_simp
                            exact hK _ _ (.inr rfl) hI
                          · intro L Ac Wc Kq hI hj hcl hsm dep hK
                            have t221 : Ac.tmps.getD 221 undef = .string s1 := dep 3 rfl
                            have t225 : Ac.tmps.getD 225 undef = .string s2 := dep 7 rfl
                            show Oper.wp _ _ Ac Wc Kq _
                            go_simp
                            exact hK _ _ (.inr rfl) hI
                          · intro L Ac Wc Kq hI hj hcl hsm dep hK
                            have t226 : Ac.tmps.getD 226 undef = .bool true := dep 8 rfl
                            show Oper.wp _ _ Ac Wc Kq _
                            go_simp
                            exact hK _ _ (.inr rfl) hI
                          · intro L Ac Wc Kq hI hj hcl hsm dep hK
                            have t0 : Ac.tmps.getD 0 undef = .int .i64 K := hsm 0 rfl
                            refine ⟨true, (show Ac.tmps.getD 227 undef = .bool true from dep 9 rfl), ?_⟩
                            rw [if_pos rfl]
                            go_simp
                            exact hK _ _ (.inr rfl) hI
                          · intro L Ac Wc Kq hI hj hcl hsm dep hK
                            have t23 : Ac.tmps.getD 23 undef = .slice (some ⟨b1, 0, none⟩) X1.length c1 := hsm 23 rfl
                            refine ⟨true, (show Ac.tmps.getD 227 undef = .bool true from dep 9 rfl), ?_⟩
                            rw [if_pos rfl]
                            go_simp
                            exact hK _ _ (.inr rfl) hI
                          · intro L Ac Wc Kq hI hj hcl hsm dep hK
                            have t25 : Ac.tmps.getD 25 undef = .int .i64 (t : Int) := hsm 25 rfl
                            refine ⟨true, (show Ac.tmps.getD 227 undef = .bool true from dep 9 rfl), ?_⟩
                            rw [if_pos rfl]
                            go_simp
                            exact hK _ _ (.inr rfl) hI
                          · intro L Ac Wc Kq hI hj hcl hsm dep hK
                            have t229 : Ac.tmps.getD 229 undef = .slice (some ⟨b1, 0, none⟩) X1.length c1 := dep 11 rfl
                            have t230 : Ac.tmps.getD 230 undef = .int .i64 (t : Int) := dep 12 rfl
                            refine ⟨true, (show Ac.tmps.getD 227 undef = .bool true from dep 9 rfl), ?_⟩
                            rw [if_pos rfl]
                            go_simp
                            exact hK _ _ (.inr rfl) hI
                          · intro L Ac Wc Kq hI hj hcl hsm dep hK
                            have t231 : Ac.tmps.getD 231 undef = .pointer (some ⟨b1, t, none⟩) := dep 13 rfl
                            refine ⟨true, (show Ac.tmps.getD 227 undef = .bool true from dep 9 rfl), ?_⟩
                            rw [if_pos rfl]
                            have y2 := (HC.out Wc hI).1
                            go_simp
                            exact hK _ _ (.inr rfl) hI
                          · intro L Ac Wc Kq hI hj hcl hsm dep hK
                            have t228 : Ac.tmps.getD 228 undef = .int .i64 K := dep 10 rfl
                            have t232 : Ac.tmps.getD 232 undef = .string s1 := dep 14 rfl
                            refine ⟨true, (show Ac.tmps.getD 227 undef = .bool true from dep 9 rfl), ?_⟩
                            rw [if_pos rfl]
                            go_simp
                            refine (HO1.out Wc (HC.out Wc hI).2.2).mono ?_
                            rintro e w' ⟨rfl, hb⟩
                            exact hK _ _ (.inr rfl) (bnext hI hb)
                          · intro L Ac Wc Kq hI hj hcl hsm dep hK
                            have t0 : Ac.tmps.getD 0 undef = .int .i64 K := hsm 0 rfl
                            refine ⟨true, (show Ac.tmps.getD 227 undef = .bool true from dep 9 rfl), ?_⟩
                            rw [if_pos rfl]
                            go_simp
                            exact hK _ _ (.inr rfl) hI
                          · intro L Ac Wc Kq hI hj hcl hsm dep hK
                            have t24 : Ac.tmps.getD 24 undef = .slice (some ⟨b2, 0, none⟩) X1.length c4 := hsm 24 rfl
                            refine ⟨true, (show Ac.tmps.getD 227 undef = .bool true from dep 9 rfl), ?_⟩
                            rw [if_pos rfl]
                            go_simp
                            exact hK _ _ (.inr rfl) hI
                          · intro L Ac Wc Kq hI hj hcl hsm dep hK
                            have t25 : Ac.tmps.getD 25 undef = .int .i64 (t : Int) := hsm 25 rfl
                            refine ⟨true, (show Ac.tmps.getD 227 undef = .bool true from dep 9 rfl), ?_⟩
                            rw [if_pos rfl]
                            go_simp
                            exact hK _ _ (.inr rfl) hI
                          · intro L Ac Wc Kq hI hj hcl hsm dep hK
                            have t235 : Ac.tmps.getD 235 undef = .slice (some ⟨b2, 0, none⟩) X1.length c4 := dep 17 rfl
                            have t236 : Ac.tmps.getD 236 undef = .int .i64 (t : Int) := dep 18 rfl
                            refine ⟨true, (show Ac.tmps.getD 227 undef = .bool true from dep 9 rfl), ?_⟩
                            rw [if_pos rfl]
                            go_simp
                            exact hK _ _ (.inr rfl) hI
                          · intro L Ac Wc Kq hI hj hcl hsm dep hK
                            have t237 : Ac.tmps.getD 237 undef = .pointer (some ⟨b2, t, none⟩) := dep 19 rfl
                            refine ⟨true, (show Ac.tmps.getD 227 undef = .bool true from dep 9 rfl), ?_⟩
                            rw [if_pos rfl]
                            have y2 := (HC.out Wc hI).2.1
                            go_simp
                            exact hK _ _ (.inr rfl) hI
                          · intro L Ac Wc Kq hI hj hcl hsm dep hK
                            have t234 : Ac.tmps.getD 234 undef = .int .i64 K := dep 16 rfl
                            have t238 : Ac.tmps.getD 238 undef = .string s2 := dep 20 rfl
                            refine ⟨true, (show Ac.tmps.getD 227 undef = .bool true from dep 9 rfl), ?_⟩
                            rw [if_pos rfl]
                            go_simp
                            refine (HO2.out Wc (HC.out Wc hI).2.2).mono ?_
                            rintro e w' ⟨rfl, hb⟩
                            exact hK _ _ (.inr rfl) (bnext hI hb)
                          · intro L Ac Wc Kq hI hj hcl hsm dep hK
                            have t233 : Ac.tmps.getD 233 undef = .string z1 := dep 15 rfl
                            have t239 : Ac.tmps.getD 239 undef = .string z2' := dep 21 rfl
                            refine ⟨true, (show Ac.tmps.getD 227 undef = .bool true from dep 9 rfl), ?_⟩
                            rw [if_pos rfl]
                            go_simp
                            exact hK _ _ (.inr rfl) hI
                          · intro L Ac Wc Kq hI hj hcl hsm dep hK
                            have t227 : Ac.tmps.getD 227 undef = .bool true := dep 9 rfl
                            have t240 : Ac.tmps.getD 240 undef = .bool false := dep 22 rfl
                            show Oper.wp _ _ Ac Wc Kq _
                            go_simp
                            exact hK _ _ (.inr rfl) hI
                        case fin =>
                          intro L w22 hall hI
                          have HY : Hid ((∀ x, x < t + 1 → ¬ (X1.getD x ByteArray.empty ≠ X2.getD x ByteArray.empty ∧ dg (clk K) (X1.getD x ByteArray.empty) = dg (clk K) (X2.getD x ByteArray.empty))) ∧ Below w21.heap.size w21 w22) := ⟨HNo.out (fun h => hzz h.2), bnext HI.out hI⟩
                          clear hall hI HC HO1 HO2 HI HNo hss hzz
                          simp only [puts]
                          go_simp
                          go_wp2
                          go_roundg (X1.length - (t + 1))
                          case rel =>
                            go_light
                            exact ⟨t + 1, by omega, rfl, rfl, HY.out.1, HY.out.2⟩
                          case measure => go_light; omega
                  · exfalso
                    obtain ⟨x, x1, x2, x3⟩ := HP.out
                    exact hno x (by omega) ⟨x2, x3⟩
              · have hbq := beq_neT hre
                clear hre
                go_wp2
                go_ret
                exact ⟨rfl, HE.out⟩
end Go.Proofs.YtdkcliblbaldhaaDoor
