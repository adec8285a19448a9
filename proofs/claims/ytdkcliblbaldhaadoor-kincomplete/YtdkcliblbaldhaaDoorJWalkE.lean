/-
  Walks of package kin: joined. Own work.
-/
import Derived.Test.YtdkcliblbaldhaaDoorJWalkD
namespace Go.Proofs.YtdkcliblbaldhaaDoor
open Go.RowKit
open Cv (RdC zl cU cov Row)
open Pl (pw)
attribute [local go_sem ↓] Go.wp_at_zero Go.wp_at_succ
theorem zl_getD (L : List (Nat × Nat)) (j : Nat) : (zl L).getD j (0, 0) = (((L.getD j (0, 0)).1 : Int), (L.getD j (0, 0)).2) := by
  unfold zl
  rw [List.getD_eq_getElem?_getD, List.getD_eq_getElem?_getD, List.getElem?_map]
  cases L[j]? <;> rfl
theorem drop_cons {α : Type} (d : α) {L : List α} {j : Nat} (hj : j < L.length) : L.drop j = L.getD j d :: L.drop (j + 1) := by
  rw [List.drop_eq_getElem_cons hj, List.getD_eq_getElem?_getD, List.getElem?_eq_getElem hj]; rfl
theorem js_start (w : World) (o : Obj) : JS (((w.alloc o).alloc (.cells #[.slice none 0 0] 42)).alloc (.cells #[.slice none 0 0] 22)) w.heap.size (.slice none 0 0) (.slice none 0 0) [] [] := by
  refine ⟨?_, ?_, World.ownsRow_nil _ _ _ _, owns_nil _ _⟩
  · have h1 := heap_alloc_new (w.alloc o) (.cells #[.slice none 0 0] 42)
    rw [World.size_alloc] at h1
    exact (Cv.heap_al _ (by simp)).trans h1
  · have h1 := heap_alloc_new ((w.alloc o).alloc (.cells #[.slice none 0 0] 42)) (.cells #[.slice none 0 0] 22)
    rw [World.size_alloc, World.size_alloc] at h1
    exact h1
set_option maxRecDepth 100000 in
set_option maxHeartbeats 2000000 in
theorem joined_any (w : World) (ht : Tb w) (kd K : Int) (old size : Nat) (sa : Option Addr) (ns sc : Nat) (da : Option Addr) (db dO dc : Nat) (D : List ByteArray) (hr : RdS w da db dO D.length D) (ao : Option Addr) (g cap n : Nat) (L : List (Nat × Nat)) (hB : RdB w ao g 0 L.length (zl L)) (hrow : Row n 0 L) (hn : n ≤ 2 ^ 40) (hl : D.length = L.length) (hm : L.length ≤ 1000) (F : Nat → Nat → ByteArray) (hJ : Jn (clk K) L D F) :
    Calls Tryd.prog 39 #[.slice ao L.length cap, vP kd K old size (.slice sa ns sc) (.slice da D.length dc)] w fun e w' => ∃ v, e = .returned v ∧ OwnS w' w.heap.size v (dgF F (cov 0 n)) ∧ Below w.heap.size w w' := by
  obtain ⟨o1, ho1⟩ : ∃ o1, oP kd K old size (.slice sa ns sc) (.slice da D.length dc) = o1 := ⟨_, rfl⟩
  have hj0 := js_start w o1
  have hb0 : Below w.heap.size w (((w.alloc o1).alloc (.cells #[.slice none 0 0] 42)).alloc (.cells #[.slice none 0 0] 22)) := bal (bal (bal (Below.refl _ _) _) _) _
  have h6 : Six (((w.alloc o1).alloc (.cells #[.slice none 0 0] 42)).alloc (.cells #[.slice none 0 0] 22)) w.heap.size (.int .i64 kd) (.int .i64 K) (.int .u64 (old : Int)) (.int .u64 (size : Int)) (.slice sa ns sc) (.slice da D.length dc) := by
    rw [← ho1]
    exact (six_new w _ _ _ _ _ _).next (bal (bal (Below.refl _ _) _) _)
  obtain ⟨W0, hW0⟩ : ∃ W0, (((w.alloc o1).alloc (.cells #[.slice none 0 0] 42)).alloc (.cells #[.slice none 0 0] 22)) = W0 := ⟨_, rfl⟩
  rw [hW0] at hj0 hb0 h6
  have HX : Hid (∀ Z, Below (w.heap.size + 1) W0 Z → Below w.heap.size w Z ∧ Tb Z ∧ RdS Z da db dO D.length D ∧ RdB Z ao g 0 L.length (zl L) ∧ Six Z w.heap.size (.int .i64 kd) (.int .i64 K) (.int .u64 (old : Int)) (.int .u64 (size : Int)) (.slice sa ns sc) (.slice da D.length dc)) := fun Z hZ => by
    have h1 : Below w.heap.size w Z := hb0.trans (hZ.mono (by omega))
    exact ⟨h1, ht.next h1, hr.next h1 (Nat.le_refl _), hB.below h1, h6.same (hZ.block _ (by omega))⟩
  have HR : Hid (Row n 0 L ∧ n ≤ 2 ^ 40 ∧ D.length = L.length ∧ L.length ≤ 1000 ∧ Jn (clk K) L D F) := ⟨hrow, hn, hl, hm, hJ⟩
  have HJ0 := hide hj0
  have hm1 : (L.length : Int) ≤ 1000 := by omega
  have hW0' := hW0
  rw [← ho1] at hW0
  unfold oP at hW0
  clear ht hr hB hrow hn hl hm hJ hj0 hb0 h6 ho1 hW0'
  unfold vP
  go_enter Tryd.func39, Tryd.ntmps39
  go_wp2
  go_loopg [13] L.length (fun gg i wr => ∃ (j e : Nat) (v u : Value), j ≤ L.length ∧ gg = L.length - j ∧ i = .int .i64 (j : Int) ∧ Hid (Row n e (L.drop j) ∧ JS wr w.heap.size v u (cov 0 e) (dgF F (cov 0 e)) ∧ Below (w.heap.size + 1) W0 wr))
  case atStart =>
    go_light
    try rw [hW0]
    refine ⟨0, 0, .slice none 0 0, .slice none 0 0, Nat.zero_le _, rfl, rfl, HR.out.1, ?_, Below.refl _ _⟩
    rw [cov_none]
    exact HJ0.out
  case round =>
    obtain ⟨j, e, v, u, hj, rfl, rfl, HI⟩ := hrel
    clear HJ0
    obtain ⟨hbw, htb, hrd, hrb, hsix⟩ := HX.out wr HI.out.2.2
    by_cases hlt : j < L.length
    · have hz : (j : Int) < (L.length : Int) := by omega
      have hz0 : (0 : Int) ≤ (j : Int) := Int.natCast_nonneg _
      have hdr := drop_cons (0, 0) hlt
      have hin := mem_getD hlt
      obtain ⟨⟨h, k⟩, hhk⟩ : ∃ b, L.getD j (0, 0) = b := ⟨_, rfl⟩
      rw [hhk] at hdr hin
      have hro := HI.out.1
      rw [hdr] at hro
      obtain ⟨r1, r2, r3, r4⟩ := hro
      dsimp only at r1 r2 r3 r4
      have r5 := row_le r4
      obtain rfl := hrb.addr (by omega)
      obtain ⟨c0, c1⟩ := hrb.cell j hlt
      rw [zl_getD, hhk] at c0 c1
      dsimp only at c0 c1
      rw [Nat.zero_add] at c0 c1
      have hltD : j < D.length := by have := HR.out.2.2.1; omega
      obtain rfl := hrd.ptr (by omega)
      have d0 := hrd.at hltD
      obtain ⟨d, hd⟩ : ∃ d, D.getD j ByteArray.empty = d := ⟨_, rfl⟩
      rw [hd] at d0
      have hFd : F h k = d := by
        have := HR.out.2.2.2.2.at' j hlt
        rw [hhk] at this
        rw [← hd]
        exact this
      have hJs := HI.out.2.1
      rw [r1] at hJs
      have hDz : (j : Int) < (D.length : Int) := by omega
      have p5 := hsix.cells.2.2.2.2.2
      have t1 := tw_new wr 0 0
      have hb1 := bal (Below.refl wr.heap.size wr) (.cells #[.int .i64 0, .int .u64 ((0 : Nat) : Int)] 82)
      rw [show ((0 : Nat) : Int) = 0 from rfl] at hb1
      have t1' : Tw (wr.alloc (.cells #[.int .i64 0, .int .u64 0] 82)) wr.heap.size 0 0 := t1
      obtain ⟨W1, hW1⟩ : ∃ W1, wr.alloc (.cells #[.int .i64 0, .int .u64 0] 82) = W1 := ⟨_, rfl⟩
      rw [hW1] at t1' hb1
      obtain ⟨q0, q1⟩ := t1'.cells
      have f0 := t1'.fz 0
      have f1 := t1'.fz 1
      have t2 := t1'.put (h : Int) k
      have hch := putB_ch W1 wr.heap.size (h : Int) k
      obtain ⟨W2, hW2⟩ : ∃ W2, putB W1 wr.heap.size (h : Int) k = W2 := ⟨_, rfl⟩
      rw [hW2] at t2 hch
      have hb2 : Below wr.heap.size wr W2 := hb1.trans (hch.below (by rintro b rfl; exact Nat.le_refl _))
      have hls : w.heap.size + 2 < wr.heap.size := hJs.lt
      have HS : Hid (∀ Z, Below W2.heap.size W2 Z → Z.cell? ⟨wr.heap.size, 0, none⟩ = some (.int .i64 (h : Int)) ∧ Z.cell? ⟨wr.heap.size, 1, none⟩ = some (.int .u64 (k : Int)) ∧ Z.cell? ⟨w.heap.size, 5, none⟩ = some (.slice (some ⟨db, dO, none⟩) D.length dc) ∧ Z.cell? ⟨db, dO + j, none⟩ = some (.string d)) := fun Z hZ => by
        have h1 := bnext hb2 hZ
        have h2 := HX.out Z (HI.out.2.2.trans (h1.mono (by omega)))
        refine ⟨(t2.next hZ).cells.1, (t2.next hZ).cells.2, h2.2.2.2.2.cells.2.2.2.2.2, ?_⟩
        rw [← hd]
        exact h2.2.2.1.at hltD
      have HC : Hid (∀ Z, Below W2.heap.size W2 Z → Calls Tryd.prog 64 #[.agg #[.int .i64 (h : Int), .int .u64 (k : Int)], .string d, .pointer (some ⟨w.heap.size + 1, 0, none⟩), .pointer (some ⟨w.heap.size, 0, none⟩), .pointer (some ⟨w.heap.size + 1 + 1, 0, none⟩)] Z fun e w' => e = .returned (.tuple #[]) ∧ (∃ v' u', JS w' w.heap.size v' u' (cov 0 ((k + 1) * pw h)) (dgF F (cov 0 ((k + 1) * pw h)))) ∧ Below (w.heap.size + 1) Z w') := fun Z hZ => by
        have h1 := bnext hb2 hZ
        have h2 : Below (w.heap.size + 1) W0 Z := HI.out.2.2.trans (h1.mono (by omega))
        exact join_any Z w.heap.size K F h k v u (hJs.next h1) (Nat.le_trans r5 HR.out.2.1) (fun Y hY => (HX.out Y (h2.trans hY)).2.1) (HX.out Z h2).2.2.2.2.cells.2.1 (fun h' q a1 a2 => HR.out.2.2.2.2.join HR.out.1 hin a1 a2) HR.out.2.2.2.2.sz d hFd
      have HF : Hid (Row n ((k + 1) * pw h) (L.drop (j + 1)) ∧ (∀ Z Y, Below W2.heap.size W2 Z → Below (w.heap.size + 1) Z Y → Below (w.heap.size + 1) W0 Y)) := ⟨r4, fun Z Y h1 h2 => (HI.out.2.2.trans ((bnext hb2 h1).mono (by omega))).trans h2⟩
      have hbr := Below.refl W2.heap.size W2
      unfold putB at hW2
      clear hbw htb hrd hrb hsix hdr hin hhk r1 r2 r3 r4 r5 hFd hJs hd t1 t1' t2 hch hb1 hb2 HI
      go_upto_region 7 with (fail)
      refine wp_region_planI (by kernel_rfl) [18, 19, 20, 21, 22, 23, 24, 25] [] [Value.func (Fn.func 64) #[] #[.pointer (some ⟨w.heap.size + 1, 0, none⟩), .pointer (some ⟨w.heap.size, 0, none⟩), .pointer (some ⟨w.heap.size + 1 + 1, 0, none⟩)], .agg #[.int .i64 (h : Int), .int .u64 (k : Int)], .pointer (some ⟨w.heap.size, 5, none⟩), .slice (some ⟨db, dO, none⟩) D.length dc, .int .i64 (j : Int), .pointer (some ⟨db, dO + j, none⟩), .string d, .tuple #[]] (by kernel_rfl) rfl (fun j hj => by cases hj) (fun L Z => (L 7 = false → Below W2.heap.size W2 Z) ∧ (L 7 = true → (∃ v' u', JS Z w.heap.size v' u' (cov 0 ((k + 1) * pw h)) (dgF F (cov 0 ((k + 1) * pw h)))) ∧ Below (w.heap.size + 1) W0 Z)) (fun Z _ hb => ⟨fun _ => hb, fun h => by cases h⟩) ?step ?fin
      case step =>
        refine ⟨?_, ?_, ?_, ?_, ?_, ?_, ?_, ?_, trivial⟩
        · intro L Ac Wc K hI hj hcl hsm dep hK
          have t7 : Ac.tmps.getD 7 undef = Value.func (Fn.func 64) #[] #[.pointer (some ⟨w.heap.size + 1, 0, none⟩), .pointer (some ⟨w.heap.size, 0, none⟩), .pointer (some ⟨w.heap.size + 1 + 1, 0, none⟩)] := hsm 7 rfl
          show Oper.wp _ _ Ac Wc K _
          go_simp
          exact hK _ _ (.inr rfl) hI
        · intro L Ac Wc K hI hj hcl hsm dep hK
          have t9 : Ac.tmps.getD 9 undef = .pointer (some ⟨wr.heap.size, 0, none⟩) := hsm 9 rfl
          show Oper.wp _ _ Ac Wc K _
          have hL : L 7 = false := by
            cases h : L 7 with
            | false => rfl
            | true => rw [hcl 7 1 h rfl] at hj; cases hj
          obtain ⟨k1, k2, k3, k4⟩ := HS.out Wc (hI.1 hL)
          go_simp
          exact hK _ _ (.inr rfl) hI
        · intro L Ac Wc K hI hj hcl hsm dep hK
          have t3 : Ac.tmps.getD 3 undef = .pointer (some ⟨w.heap.size, 0, none⟩) := hsm 3 rfl
          show Oper.wp _ _ Ac Wc K _
          go_simp
          exact hK _ _ (.inr rfl) hI
        · intro L Ac Wc K hI hj hcl hsm dep hK
          have t20 : Ac.tmps.getD 20 undef = .pointer (some ⟨w.heap.size, 5, none⟩) := dep 2 rfl
          show Oper.wp _ _ Ac Wc K _
          have hL : L 7 = false := by
            cases h : L 7 with
            | false => rfl
            | true => rw [hcl 5 3 (hcl 6 5 (hcl 7 6 h rfl) rfl) rfl] at hj; cases hj
          obtain ⟨k1, k2, k3, k4⟩ := HS.out Wc (hI.1 hL)
          go_simp
          exact hK _ _ (.inr rfl) hI
        · intro L Ac Wc K hI hj hcl hsm dep hK
          have t8 : Ac.tmps.getD 8 undef = .int .i64 (j : Int) := hsm 8 rfl
          show Oper.wp _ _ Ac Wc K _
          go_simp
          exact hK _ _ (.inr rfl) hI
        · intro L Ac Wc K hI hj hcl hsm dep hK
          have t21 : Ac.tmps.getD 21 undef = .slice (some ⟨db, dO, none⟩) D.length dc := dep 3 rfl
          have t22 : Ac.tmps.getD 22 undef = .int .i64 (j : Int) := dep 4 rfl
          show Oper.wp _ _ Ac Wc K _
          go_simp
          exact hK _ _ (.inr rfl) hI
        · intro L Ac Wc K hI hj hcl hsm dep hK
          have t23 : Ac.tmps.getD 23 undef = .pointer (some ⟨db, dO + j, none⟩) := dep 5 rfl
          show Oper.wp _ _ Ac Wc K _
          have hL : L 7 = false := by
            cases h : L 7 with
            | false => rfl
            | true => rw [hcl 7 6 h rfl] at hj; cases hj
          obtain ⟨k1, k2, k3, k4⟩ := HS.out Wc (hI.1 hL)
          go_simp
          exact hK _ _ (.inr rfl) hI
        · intro L Ac Wc K hI hj hcl hsm dep hK
          have t18 : Ac.tmps.getD 18 undef = Value.func (Fn.func 64) #[] #[.pointer (some ⟨w.heap.size + 1, 0, none⟩), .pointer (some ⟨w.heap.size, 0, none⟩), .pointer (some ⟨w.heap.size + 1 + 1, 0, none⟩)] := dep 0 rfl
          have t19 : Ac.tmps.getD 19 undef = .agg #[.int .i64 (h : Int), .int .u64 (k : Int)] := dep 1 rfl
          have t24 : Ac.tmps.getD 24 undef = .string d := dep 6 rfl
          show Oper.wp _ _ Ac Wc K _
          go_simp
          refine (HC.out Wc (hI.1 hj)).mono ?_
          rintro e w' ⟨rfl, hjs, hb'⟩
          exact hK _ _ (.inr rfl) ⟨fun h => by simp at h, fun _ => ⟨hjs, HF.out.2 _ _ (hI.1 hj) hb'⟩⟩
      case fin =>
        intro L7 W7 hall hI
        obtain ⟨⟨v7, u7, hj7⟩, hb7⟩ := hI.2 (hall 7 (by decide))
        have HY : Hid (JS W7 w.heap.size v7 u7 (cov 0 ((k + 1) * pw h)) (dgF F (cov 0 ((k + 1) * pw h))) ∧ Below (w.heap.size + 1) W0 W7) := ⟨hj7, hb7⟩
        clear hall hI hj7 hb7 HC HS q0 q1 f0 f1 hW1 hW2 hbr c0 c1 d0 p5
        simp only [puts]
        go_simp
        go_wp2
        go_roundg (L.length - (j + 1))
        case rel =>
          go_light
          exact ⟨j + 1, _, v7, u7, by omega, rfl, by go_num, HF.out.1, HY.out.1, HY.out.2⟩
        case measure => go_light; omega
    · obtain rfl : j = L.length := by omega
      have hz : ¬ ((L.length : Int) < (L.length : Int)) := by omega
      have hen := HI.out.1
      rw [List.drop_length] at hen
      have hen : e = n := hen
      have hJs := HI.out.2.1
      rw [hen] at hJs
      obtain ⟨ua, un, uc, rfl⟩ := Cv.own_slice hJs.op
      have c2 := cell_of_one hJs.cp
      have HY : Hid (OwnS wr w.heap.size (.slice ua un uc) (dgF F (cov 0 n)) ∧ Below w.heap.size w wr) := ⟨World.ownsRow.mono hJs.op (by omega), hbw⟩
      clear hrd hrb hsix htb hbw hJs hen HI hlt
      go_wp2
      go_ret
      exact ⟨_, rfl, HY.out.1, HY.out.2⟩
end Go.Proofs.YtdkcliblbaldhaaDoor
