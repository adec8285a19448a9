/-
  Own work: JWalkE, JWalkG.
-/
import Derived.Test.YtdocjikpcbmcgaaGreatDoorQs44
import Derived.Test.YtdocjikpcbmcgaaGreatDoorQb03
namespace Go.Proofs.YtdocjikpcbmcgaaGreatDoor
open Go.RowKit
open Cv (RdC zl cU cov Row)
open Pl (pw)
attribute [local go_sem ↓] Go.wp_at_zero Go.wp_at_succ
theorem zl_getD (L : List (Nat × Nat)) (j : Nat) : (zl L).getD j (0, 0) = (((L.getD j (0, 0)).1 : Int), (L.getD j (0, 0)).2) := by
  unfold zl
  rw [List.getD_eq_getElem?_getD, List.getD_eq_getElem?_getD, List.getElem?_map]
  cases L[j]? <;> rfl
theorem drop_cons {α : Type} (d : α) {L : List α} {j : Nat} (hj : j < L.length) : L.drop j = L.getD j d :: L.drop (j + 1) := by
  rw [List.drop_eq_getElem_cons hj, List.getD_eq_getElem?_getD, List.getElem?_eq_getElem hj]; rfl
theorem js_start (w : World) (o : Obj) : JS (((w.alloc o).alloc (.cells #[.slice none 0 0] 77)).alloc (.cells #[.slice none 0 0] 22)) w.heap.size (.slice none 0 0) (.slice none 0 0) [] [] := by
  refine ⟨?_, ?_, World.ownsRow_nil _ _ _ _, owns_nil _ _⟩
  · have h1 := heap_alloc_new (w.alloc o) (.cells #[.slice none 0 0] 77)
    rw [World.size_alloc] at h1
    exact (Cv.heap_al _ (by simp)).trans h1
  · have h1 := heap_alloc_new ((w.alloc o).alloc (.cells #[.slice none 0 0] 77)) (.cells #[.slice none 0 0] 22)
    rw [World.size_alloc, World.size_alloc] at h1
    exact h1
set_option maxRecDepth 100000 in
set_option maxHeartbeats 2000000 in
theorem joined_any (w : World) (ht : Tb w) (kd K : Int) (old size : Nat) (sa : Option Addr) (ns sc : Nat) (da : Option Addr) (db dO dc : Nat) (D : List ByteArray) (hr : RdS w da db dO D.length D) (ao : Option Addr) (g cap n : Nat) (L : List (Nat × Nat)) (hB : RdB w ao g 0 L.length (zl L)) (hrow : Row n 0 L) (hn : n ≤ 2 ^ 40) (hl : D.length = L.length) (hm : L.length ≤ 1000) (F : Nat → Nat → ByteArray) (hJ : Jn (clk K) L D F) :
    Calls Tryz.prog 82 #[.slice ao L.length cap, vP kd K old size (.slice sa ns sc) (.slice da D.length dc)] w fun e w' => ∃ v, e = .returned v ∧ OwnS w' w.heap.size v (dgF F (cov 0 n)) ∧ Below w.heap.size w w' := by
  obtain ⟨o1, ho1⟩ : ∃ o1, oP kd K old size (.slice sa ns sc) (.slice da D.length dc) = o1 := ⟨_, rfl⟩
  have hj0 := js_start w o1
  have hb0 : Below w.heap.size w (((w.alloc o1).alloc (.cells #[.slice none 0 0] 77)).alloc (.cells #[.slice none 0 0] 22)) := bal (bal (bal (Below.refl _ _) _) _) _
  have h6 : Six (((w.alloc o1).alloc (.cells #[.slice none 0 0] 77)).alloc (.cells #[.slice none 0 0] 22)) w.heap.size (.int .i64 kd) (.int .i64 K) (.int .u64 (old : Int)) (.int .u64 (size : Int)) (.slice sa ns sc) (.slice da D.length dc) := by
    rw [← ho1]
    exact (six_new w _ _ _ _ _ _).next (bal (bal (Below.refl _ _) _) _)
  obtain ⟨W0, hW0⟩ : ∃ W0, (((w.alloc o1).alloc (.cells #[.slice none 0 0] 77)).alloc (.cells #[.slice none 0 0] 22)) = W0 := ⟨_, rfl⟩
  rw [hW0] at hj0 hb0 h6
  have HX : Hid (∀ Z, Below (w.heap.size + 1) W0 Z → Below w.heap.size w Z ∧ Tb Z ∧ RdS Z da db dO D.length D ∧ RdB Z ao g 0 L.length (zl L) ∧ Six Z w.heap.size (.int .i64 kd) (.int .i64 K) (.int .u64 (old : Int)) (.int .u64 (size : Int)) (.slice sa ns sc) (.slice da D.length dc)) := fun Z hZ => by
    have h1 : Below w.heap.size w Z := hb0.trans (hZ.mono (by omega))
    exact ⟨h1, ht.next h1, hr.next h1 (Nat.le_refl _), hB.below h1, h6.same (hZ.block _ (by omega))⟩
  have HR : Hid (Row n 0 L ∧ n ≤ 2 ^ 40 ∧ D.length = L.length ∧ L.length ≤ 1000 ∧ Jn (clk K) L D F) := ⟨hrow, hn, hl, hm, hJ⟩
  have HJ0 := hide hj0
  have hm1 : (L.length : Int) ≤ 1000 := by omega
  have hW0' := hW0
  rw [← ho1] at hW0
  unfold oP at hW0
  clear ht hr hB hrow hn hl hm hJ hj0 hb0 h6 ho1 hW0'
  unfold vP
  go_enter Tryz.func82, Tryz.ntmps82
  go_wp2
  go_loopg [13] L.length (fun gg i wr => ∃ (j e : Nat) (v u : Value), j ≤ L.length ∧ gg = L.length - j ∧ i = .int .i64 (j : Int) ∧ Hid (Row n e (L.drop j) ∧ JS wr w.heap.size v u (cov 0 e) (dgF F (cov 0 e)) ∧ Below (w.heap.size + 1) W0 wr))
  case atStart =>
    go_light
    try rw [hW0]
    refine ⟨0, 0, .slice none 0 0, .slice none 0 0, Nat.zero_le _, rfl, rfl, HR.out.1, ?_, Below.refl _ _⟩
    rw [cov_none]
    exact HJ0.out
  case round =>
    obtain ⟨j, e, v, u, hj, rfl, rfl, HI⟩ := hrel
    clear HJ0
    obtain ⟨hbw, htb, hrd, hrb, hsix⟩ := HX.out wr HI.out.2.2
    by_cases hlt : j < L.length
    · have hz : (j : Int) < (L.length : Int) := by omega
      have hz0 : (0 : Int) ≤ (j : Int) := Int.natCast_nonneg _
      have hdr := drop_cons (0, 0) hlt
      have hin := mem_getD hlt
      obtain ⟨⟨h, k⟩, hhk⟩ : ∃ b, L.getD j (0, 0) = b := ⟨_, rfl⟩
      rw [hhk] at hdr hin
      have hro := HI.out.1
      rw [hdr] at hro
      obtain ⟨r1, r2, r3, r4⟩ := hro
      dsimp only at r1 r2 r3 r4
      have r5 := row_leJ r4
      obtain rfl := hrb.addr (by omega)
      obtain ⟨c0, c1⟩ := hrb.cell j hlt
      rw [zl_getD, hhk] at c0 c1
      dsimp only at c0 c1
      rw [Nat.zero_add] at c0 c1
      have hltD : j < D.length := by have := HR.out.2.2.1; omega
      obtain rfl := hrd.ptr (by omega)
      have d0 := hrd.at hltD
      obtain ⟨d, hd⟩ : ∃ d, D.getD j ByteArray.empty = d := ⟨_, rfl⟩
      rw [hd] at d0
      have hFd : F h k = d := by
        have := HR.out.2.2.2.2.at' j hlt
        rw [hhk] at this
        rw [← hd]
        exact this
      have hJs := HI.out.2.1
      rw [r1] at hJs
      have hDz : (j : Int) < (D.length : Int) := by omega
      have p5 := hsix.cells.2.2.2.2.2
      have t1 := tw_new wr 0 0
      have hb1 := bal (Below.refl wr.heap.size wr) (.cells #[.int .i64 0, .int .u64 ((0 : Nat) : Int)] 83)
      rw [show ((0 : Nat) : Int) = 0 from rfl] at hb1
      have t1' : Tw (wr.alloc (.cells #[.int .i64 0, .int .u64 0] 83)) wr.heap.size 0 0 := t1
      obtain ⟨W1, hW1⟩ : ∃ W1, wr.alloc (.cells #[.int .i64 0, .int .u64 0] 83) = W1 := ⟨_, rfl⟩
      rw [hW1] at t1' hb1
      obtain ⟨q0, q1⟩ := t1'.cells
      have f0 := t1'.fz 0
      have f1 := t1'.fz 1
      have t2 := t1'.put (h : Int) k
      have hch := putB_ch W1 wr.heap.size (h : Int) k
      obtain ⟨W2, hW2⟩ : ∃ W2, putB W1 wr.heap.size (h : Int) k = W2 := ⟨_, rfl⟩
      rw [hW2] at t2 hch
      have hb2 : Below wr.heap.size wr W2 := hb1.trans (hch.below (by rintro b rfl; exact Nat.le_refl _))
      have hls : w.heap.size + 2 < wr.heap.size := hJs.lt
      have HS : Hid (∀ Z, Below W2.heap.size W2 Z → Z.cell? ⟨wr.heap.size, 0, none⟩ = some (.int .i64 (h : Int)) ∧ Z.cell? ⟨wr.heap.size, 1, none⟩ = some (.int .u64 (k : Int)) ∧ Z.cell? ⟨w.heap.size, 5, none⟩ = some (.slice (some ⟨db, dO, none⟩) D.length dc) ∧ Z.cell? ⟨db, dO + j, none⟩ = some (.string d)) := fun Z hZ => by
        have h1 := bnext hb2 hZ
        have h2 := HX.out Z (HI.out.2.2.trans (h1.mono (by omega)))
        refine ⟨(t2.next hZ).cells.1, (t2.next hZ).cells.2, h2.2.2.2.2.cells.2.2.2.2.2, ?_⟩
        rw [← hd]
        exact h2.2.2.1.at hltD
      have HC : Hid (∀ Z, Below W2.heap.size W2 Z → Calls Tryz.prog 131 #[.agg #[.int .i64 (h : Int), .int .u64 (k : Int)], .string d, .pointer (some ⟨w.heap.size + 1, 0, none⟩), .pointer (some ⟨w.heap.size, 0, none⟩), .pointer (some ⟨w.heap.size + 1 + 1, 0, none⟩)] Z fun e w' => e = .returned (.tuple #[]) ∧ (∃ v' u', JS w' w.heap.size v' u' (cov 0 ((k + 1) * pw h)) (dgF F (cov 0 ((k + 1) * pw h)))) ∧ Below (w.heap.size + 1) Z w') := fun Z hZ => by
        have h1 := bnext hb2 hZ
        have h2 : Below (w.heap.size + 1) W0 Z := HI.out.2.2.trans (h1.mono (by omega))
        exact join_any Z w.heap.size K F h k v u (hJs.next h1) (Nat.le_trans r5 HR.out.2.1) (fun Y hY => (HX.out Y (h2.trans hY)).2.1) (HX.out Z h2).2.2.2.2.cells.2.1 (fun h' q a1 a2 => HR.out.2.2.2.2.join HR.out.1 hin a1 a2) HR.out.2.2.2.2.sz d hFd
      have HF : Hid (Row n ((k + 1) * pw h) (L.drop (j + 1)) ∧ (∀ Z Y, Below W2.heap.size W2 Z → Below (w.heap.size + 1) Z Y → Below (w.heap.size + 1) W0 Y)) := ⟨r4, fun Z Y h1 h2 => (HI.out.2.2.trans ((bnext hb2 h1).mono (by omega))).trans h2⟩
      have hbr := Below.refl W2.heap.size W2
      unfold putB at hW2
      clear hbw htb hrd hrb hsix hdr hin hhk r1 r2 r3 r4 r5 hFd hJs hd t1 t1' t2 hch hb1 hb2 HI
      go_upto_region 7 with (fail)
      refine wp_region_planI (by kernel_rfl) [18, 19, 20, 21, 22, 23, 24, 25] [] [Value.func (Fn.func 131) #[] #[.pointer (some ⟨w.heap.size + 1, 0, none⟩), .pointer (some ⟨w.heap.size, 0, none⟩), .pointer (some ⟨w.heap.size + 1 + 1, 0, none⟩)], .agg #[.int .i64 (h : Int), .int .u64 (k : Int)], .pointer (some ⟨w.heap.size, 5, none⟩), .slice (some ⟨db, dO, none⟩) D.length dc, .int .i64 (j : Int), .pointer (some ⟨db, dO + j, none⟩), .string d, .tuple #[]] (by kernel_rfl) rfl (fun j hj => by cases hj) (fun L Z => (L 7 = false → Below W2.heap.size W2 Z) ∧ (L 7 = true → (∃ v' u', JS Z w.heap.size v' u' (cov 0 ((k + 1) * pw h)) (dgF F (cov 0 ((k + 1) * pw h)))) ∧ Below (w.heap.size + 1) W0 Z)) (fun Z _ hb => ⟨fun _ => hb, fun h => by cases h⟩) ?step ?fin
      case step =>
        refine ⟨?_, ?_, ?_, ?_, ?_, ?_, ?_, ?_, trivial⟩
        · intro L Ac Wc K hI hj hcl hsm dep hK
          have t7 : Ac.tmps.getD 7 undef = Value.func (Fn.func 131) #[] #[.pointer (some ⟨w.heap.size + 1, 0, none⟩), .pointer (some ⟨w.heap.size, 0, none⟩), .pointer (some ⟨w.heap.size + 1 + 1, 0, none⟩)] := hsm 7 rfl
          show Oper.wp _ _ Ac Wc K _
          go_simp
          exact hK _ _ (.inr rfl) hI
        · intro L Ac Wc K hI hj hcl hsm dep hK
          have t9 : Ac.tmps.getD 9 undef = .pointer (some ⟨wr.heap.size, 0, none⟩) := hsm 9 rfl
          show Oper.wp _ _ Ac Wc K _
          have hL : L 7 = false := by
            cases h : L 7 with
            | false => rfl
            | true => rw [hcl 7 1 h rfl] at hj; cases hj
          obtain ⟨k1, k2, k3, k4⟩ := HS.out Wc (hI.1 hL)
          go_simp
          exact hK _ _ (.inr rfl) hI
        · intro L Ac Wc K hI hj hcl hsm dep hK
          have t3 : Ac.tmps.getD 3 undef = .pointer (some ⟨w.heap.size, 0, none⟩) := hsm 3 rfl
          show Oper.wp _ _ Ac Wc K _
          go_simp
          exact hK _ _ (.inr rfl) hI
        · intro L Ac Wc K hI hj hcl hsm dep hK
          have t20 : Ac.tmps.getD 20 undef = .pointer (some ⟨w.heap.size, 5, none⟩) := dep 2 rfl
          show Oper.wp _ _ Ac Wc K _
          have hL : L 7 = false := by
            cases h : L 7 with
            | false => rfl
            | true => rw [hcl 5 3 (hcl 6 5 (hcl 7 6 h rfl) rfl) rfl] at hj; cases hj
          obtain ⟨k1, k2, k3, k4⟩ := HS.out Wc (hI.1 hL)
          go_simp
          exact hK _ _ (.inr rfl) hI
        · intro L Ac Wc K hI hj hcl hsm dep hK
          have t8 : Ac.tmps.getD 8 undef = .int .i64 (j : Int) := hsm 8 rfl
          show Oper.wp _ _ Ac Wc K _
          go_simp
          exact hK _ _ (.inr rfl) hI
        · intro L Ac Wc K hI hj hcl hsm dep hK
          have t21 : Ac.tmps.getD 21 undef = .slice (some ⟨db, dO, none⟩) D.length dc := dep 3 rfl
          have t22 : Ac.tmps.getD 22 undef = .int .i64 (j : Int) := dep 4 rfl
          show Oper.wp _ _ Ac Wc K _
          go_simp
          exact hK _ _ (.inr rfl) hI
        · intro L Ac Wc K hI hj hcl hsm dep hK
          have t23 : Ac.tmps.getD 23 undef = .pointer (some ⟨db, dO + j, none⟩) := dep 5 rfl
          show Oper.wp _ _ Ac Wc K _
          have hL : L 7 = false := by
            cases h : L 7 with
            | false => rfl
            | true => rw [hcl 7 6 h rfl] at hj; cases hj
          obtain ⟨k1, k2, k3, k4⟩ := HS.out Wc (hI.1 hL)
          go_simp
          exact hK _ _ (.inr rfl) hI
        · intro L Ac Wc K hI hj hcl hsm dep hK
          have t18 : Ac.tmps.getD 18 undef = Value.func (Fn.func 131) #[] #[.pointer (some ⟨w.heap.size + 1, 0, none⟩), .pointer (some ⟨w.heap.size, 0, none⟩), .pointer (some ⟨w.heap.size + 1 + 1, 0, none⟩)] := dep 0 rfl
          have t19 : Ac.tmps.getD 19 undef = .agg #[.int .i64 (h : Int), .int .u64 (k : Int)] := dep 1 rfl
          have t24 : Ac.tmps.getD 24 undef = .string d := dep 6 rfl
          show Oper.wp _ _ Ac Wc K _
          go_simp
          refine (HC.out Wc (hI.1 hj)).mono ?_
          rintro e w' ⟨rfl, hjs, hb'⟩
          exact hK _ _ (.inr rfl) ⟨fun h => by simp at h, fun _ => ⟨hjs, HF.out.2 _ _ (hI.1 hj) hb'⟩⟩
      case fin =>
        intro L7 W7 hall hI
        obtain ⟨⟨v7, u7, hj7⟩, hb7⟩ := hI.2 (hall 7 (by decide))
        have HY : Hid (JS W7 w.heap.size v7 u7 (cov 0 ((k + 1) * pw h)) (dgF F (cov 0 ((k + 1) * pw h))) ∧ Below (w.heap.size + 1) W0 W7) := ⟨hj7, hb7⟩
        clear hall hI hj7 hb7 HC HS q0 q1 f0 f1 hW1 hW2 hbr c0 c1 d0 p5
        simp only [puts]
        go_simp
        go_wp2
        go_roundg (L.length - (j + 1))
        case rel =>
          go_light
          exact ⟨j + 1, _, v7, u7, by omega, rfl, by go_num, HF.out.1, HY.out.1, HY.out.2⟩
        case measure => go_light; omega
    · obtain rfl : j = L.length := by omega
      have hz : ¬ ((L.length : Int) < (L.length : Int)) := by omega
      have hen := HI.out.1
      rw [List.drop_length] at hen
      have hen : e = n := hen
      have hJs := HI.out.2.1
      rw [hen] at hJs
      obtain ⟨ua, un, uc, rfl⟩ := Cv.own_slice hJs.op
      have c2 := cell_of_one hJs.cp
      have HY : Hid (OwnS wr w.heap.size (.slice ua un uc) (dgF F (cov 0 n)) ∧ Below w.heap.size w wr) := ⟨World.ownsRow.mono hJs.op (by omega), hbw⟩
      clear hrd hrb hsix htb hbw hJs hen HI hlt
      go_wp2
      go_ret
      exact ⟨_, rfl, HY.out.1, HY.out.2⟩
end Go.Proofs.YtdocjikpcbmcgaaGreatDoor
namespace Go.Proofs.YtdocjikpcbmcgaaGreatDoor
open Go.RowKit
open Cv (RdC zl cU cov)
open Pl (pw)
attribute [local go_sem ↓] Go.wp_at_zero Go.wp_at_succ
def kOld (c old : Nat) (D : List ByteArray) : ByteArray := dg c (rootT old (bagL c (D.take (cov 0 old).length)))
def kNow (c size : Nat) (F : Nat → Nat → ByteArray) : ByteArray := dg c (rootT size (bagL c (dgF F (cov 0 size))))
theorem rdb_block {w W : World} {ao : Option Addr} {g n : Nat} {l : List (Int × Nat)} (r : RdB w ao g 0 n l) (h : 0 < n → W.heap[g]? = w.heap[g]?) : RdB W ao g 0 n l :=
  ⟨r.len, r.addr, fun j hj => ⟨(World.cell?_of_block (h (by omega))).trans (r.cell j hj).1, (World.cell?_of_block (h (by omega))).trans (r.cell j hj).2⟩, r.fit⟩
theorem rdb_ne {w : World} {ao : Option Addr} {g n q m : Nat} {d : ByteArray} {l : List (Int × Nat)} (r : RdB w ao g 0 n l) (h0 : 0 < n) (hq : Rh w q m d) (e : g = q) : False := by
  subst e
  have h1 := (r.cell 0 h0).1
  rw [Nat.zero_mul, Nat.zero_add, hq.cells.1] at h1
  cases h1
set_option maxRecDepth 100000 in
set_option maxHeartbeats 4000000 in
theorem kroots_ok (w : World) (ht : Tb w) (k : Int) (old size : Nat) (sa : Option Addr) (sc : Nat) (da : Option Addr) (db dO dc : Nat) (D : List ByteArray) (hr : RdS w da db dO D.length D) (hdc : D.length ≤ dc) (hok : okK 3 k old size 0 D) (F : Nat → Nat → ByteArray) (hJ : Jn (clk k) (kb old size) D F) (r1 r2 : ByteArray) (hr1 : kOld (clk k) old D = r1) (hr2 : kNow (clk k) size F = r2) :
    Calls Tryz.prog 36 #[vP 3 k old size (.slice sa 0 sc) (.slice da D.length dc)] w fun e w' => e = .returned (.tuple #[.agg #[.int .u64 (old : Int), .string r1], .agg #[.int .u64 (size : Int), .string r2], .int .i64 0]) ∧ Below w.heap.size w w' := by
  obtain ⟨W0, hW0⟩ : ∃ W0, ((w.alloc (.cells #[.int .i64 3, .int .i64 k, .int .u64 (old : Int), .int .u64 (size : Int), .slice sa 0 sc, .slice da D.length dc] 55)).alloc (.cells #[.int .u64 0, .string ⟨#[]⟩] 30)).alloc (.cells #[.int .u64 0, .string ⟨#[]⟩] 30) = W0 := ⟨_, rfl⟩
  obtain ⟨h3, hb⟩ := k3_start w 3 k old size (.slice sa 0 sc) (.slice da D.length dc) hW0
  obtain ⟨c0, c1, c2, c3, c4, c5⟩ := h3.six.cells
  have H3 := hide h3
  obtain ⟨h1, h2⟩ := hok
  have hos : old ≤ size := h1.2.2.1
  have hs40 : size ≤ 2 ^ 40 := h1.2.1
  have hkk : 1 ≤ k ∧ k ≤ 32 := h1.1.2
  have hfl : D.length = (kb old size).length := h2.1
  have hfs : ∀ d ∈ D, (d.size : Int) = k := h2.2
  have hkl := kb_len hos hs40
  have hmm : D.length ≤ 8796093022208 := by omega
  have hon : (cov 0 old).length ≤ D.length := by rw [hfl, kb, List.length_append]; omega
  have ho1 := Cv.cov_ones old (by omega)
  obtain ⟨t, htl⟩ : ∃ t, (cov 0 old).length = t := ⟨_, rfl⟩
  rw [htl] at ho1 hon
  have HI : Hid (∀ W, Calls Tryz.prog 77 #[vP 3 k old size (.slice sa 0 sc) (.slice da D.length dc)] W fun e w' => e = .returned (.bool true) ∧ Below W.heap.size W w') := fun W => isk_core W 3 k old size sa 0 sc da D.length dc true (decide_eq_true h1)
  have HBk : Hid (∀ W, Calls Tryz.prog 78 #[.int .u64 (old : Int), .int .u64 (size : Int)] W fun e w' => ∃ ao g cap, e = .returned (.slice ao (kb old size).length cap) ∧ RdB w' ao g 0 (kb old size).length (zl (kb old size)) ∧ Below W.heap.size W w') := fun W => (blocksof_any W old size hos hs40).mono fun e w' ⟨v, e1, e2, e3⟩ => by
    obtain ⟨ao, g, n', cap, rfl, hr', _⟩ := own_rdB e2 (fun x hx => by
      obtain ⟨b0, hb0, rfl⟩ := List.mem_map.1 hx
      exact (fit40 (kb_in hos hs40 b0 hb0) hs40).1)
    have hl := hr'.len
    rw [Cv.zl_len] at hl
    subst hl
    exact ⟨ao, g, cap, e1, hr', e3⟩
  have HF : Hid (∀ W ao c, Below w.heap.size w W → Calls Tryz.prog 79 #[.slice ao (kb old size).length c, vP 3 k old size (.slice sa 0 sc) (.slice da D.length dc)] W fun e w' => e = .returned (.bool true) ∧ Below W.heap.size W w') := fun W ao c hb => kfilled_core W 3 k old size sa 0 sc da db dO dc D (hr.next hb (Nat.le_refl _)) hmm ao (kb old size).length c true (decide_eq_true h2)
  have HO : Hid (∀ W, Calls Tryz.prog 80 #[.int .u64 (old : Int)] W fun e w' => e = .returned (.int .i64 (t : Int)) ∧ W = w') := fun W => by
    have := Pl.ones_any old W (by omega)
    rw [← ho1] at this
    exact this.mono fun _ _ h => ⟨h.1, h.2.symm⟩
  have HR1 : Hid (∀ W, Below w.heap.size w W → Calls Tryz.prog 81 #[.int .i64 k, .int .u64 (old : Int), .slice da t dc] W fun e w' => e = .returned (.string r1) ∧ Below W.heap.size W w') := fun W hb => by
    have hrd := rds_take (hr.next hb (Nat.le_refl _)) hon
    rw [List.length_take, Nat.min_eq_left hon] at hrd
    exact root_any W (ht.next hb) k old da db dO t dc (D.take t) hrd (fun s hs => by have := hfs s (List.mem_of_mem_take hs); omega) (by omega) r1 (by rw [← hr1, kOld, htl])
  have HJd : Hid (∀ W ao g cap, Below w.heap.size w W → RdB W ao g 0 (kb old size).length (zl (kb old size)) → Calls Tryz.prog 82 #[.slice ao (kb old size).length cap, vP 3 k old size (.slice sa 0 sc) (.slice da D.length dc)] W fun e w' => ∃ ap bp cp, e = .returned (.slice ap (cov 0 size).length cp) ∧ RdS w' ap bp 0 (cov 0 size).length (dgF F (cov 0 size)) ∧ Below W.heap.size W w') := fun W ao g cap hb hB => by
    refine (joined_any W (ht.next hb) 3 k old size sa 0 sc da db dO dc D (hr.next hb (Nat.le_refl _)) ao g cap size (kb old size) hB (kb_row hos hs40) hs40 hfl (by omega) F hJ).mono fun e w' ⟨v, e1, e2, e3⟩ => ?_
    obtain ⟨aP, bP, cP, rfl, rP, _, _⟩ := owns_rds e2 (fun s hs => by
      obtain ⟨b, _, rfl⟩ := List.mem_map.1 hs
      have := hJ.sz b.1 b.2
      omega)
    rw [List.length_map] at e1 rP
    exact ⟨aP, bP, cP, e1, rP, e3⟩
  have hsl := Cv.cov_forty size hs40
  have HR2 : Hid (∀ W ap bp cp, Below w.heap.size w W → RdS W ap bp 0 (cov 0 size).length (dgF F (cov 0 size)) → Calls Tryz.prog 81 #[.int .i64 k, .int .u64 (size : Int), .slice ap (cov 0 size).length cp] W fun e w' => e = .returned (.string r2) ∧ Below W.heap.size W w') := fun W ap bp cp hb hR => root_any W (ht.next hb) k size ap bp 0 (cov 0 size).length cp (dgF F (cov 0 size)) hR (fun s hs => by
      obtain ⟨b, _, rfl⟩ := List.mem_map.1 hs
      have := hJ.sz b.1 b.2
      omega) (by omega) r2 (by rw [← hr2, kNow])
  have htz : (t : Int) ≤ (D.length : Int) := by omega
  have htc : (t : Int) ≤ (dc : Int) := by omega
  have ht0 : (0 : Int) ≤ (t : Int) := Int.natCast_nonneg _
  obtain ⟨lb, hlb⟩ : ∃ lb, (kb old size).length = lb := ⟨_, rfl⟩
  obtain ⟨zb, hzb⟩ : ∃ zb, zl (kb old size) = zb := ⟨_, rfl⟩
  obtain ⟨ls, hls⟩ : ∃ ls, (cov 0 size).length = ls := ⟨_, rfl⟩
  obtain ⟨P, hP⟩ : ∃ P, dgF F (cov 0 size) = P := ⟨_, rfl⟩
  rw [hlb, hzb] at HBk HJd
  rw [hlb] at HF
  rw [hls, hP] at HJd HR2
  clear ht hr hdc h1 h2 hos hs40 hkk hfl hfs hkl hmm hon ho1 htl hJ hr1 hr2 hsl h3 hlb hzb hls hP
  unfold vP at HI HF HJd
  unfold vP
  go_enter Tryz.func36, Tryz.ntmps36
  go_upto_region 6 with (first
    | (go_at_call 77; with_reducible refine (HI.out _).mono ?_; rintro e w1 ⟨rfl, hb1⟩; obtain ⟨d0, d1, d2, d3, d4, d5⟩ := (H3.out.next hb1).six.cells)
    | (go_at_call 78; with_reducible refine (HBk.out _).mono ?_; rintro e w2 ⟨ao, g, cap, rfl, hB2, hb2⟩; obtain ⟨g0, g1, g2, g3, g4, g5⟩ := (H3.out.next (bnext hb1 hb2)).six.cells)
    | (go_at_call 79; with_reducible refine (HF.out _ _ _ (bnext (bnext hb hb1) hb2)).mono ?_; rintro e w3 ⟨rfl, hb3⟩))
  have hK3 := H3.out.next (bnext (bnext hb1 hb2) hb3)
  have hB3 := hB2.below hb3
  have hbw := bnext (bnext (bnext hb hb1) hb2) hb3
  have HK : Hid (∀ Z, Below w3.heap.size w3 Z → Below w.heap.size w Z ∧ K3 Z w.heap.size 3 k old size (.slice sa 0 sc) (.slice da D.length dc) 0 ⟨#[]⟩ 0 ⟨#[]⟩ ∧ RdB Z ao g 0 lb zb) := fun Z hZ => ⟨bnext hbw hZ, hK3.next hZ, hB3.below hZ⟩
  have hb0 := Below.refl w3.heap.size w3
  clear H3 HI HBk HF hb hb1 hb2 hb3 hW0 c0 c1 c2 c3 c4 c5 d0 d1 d2 d3 d4 d5 g0 g1 g2 g3 g4 g5 hB2 hK3 hB3 hbw
  have HC : Hid (∀ Z, Below w3.heap.size w3 Z → Z.cell? ⟨w.heap.size, 5, none⟩ = some (.slice da D.length dc) ∧ Z.cell? ⟨w.heap.size, 2, none⟩ = some (.int .u64 (old : Int))) := fun Z hZ => by
    obtain ⟨_, _, x2, _, _, x5⟩ := (HK.out Z hZ).2.1.six.cells
    exact ⟨x5, x2⟩
  go_region_held3 (fun Z => Z.cell? ⟨w.heap.size, 5, none⟩ = some (.slice da D.length dc) ∧ Z.cell? ⟨w.heap.size, 2, none⟩ = some (.int .u64 (old : Int)))
    (exact HC.out _ (by first | exact hb0 | exact hb0.drew)) (first
    | (go_at_call 80; with_reducible refine (HO.out _).mono ?_; rintro e w4 ⟨rfl, rfl⟩))
  have hb7 := hb0.drew
  obtain ⟨W7, hW7⟩ : ∃ W7, w3.drew = W7 := ⟨_, rfl⟩
  rw [hW7] at hb7 ⊢
  have HK7 : Hid (∀ Z, Below W7.heap.size W7 Z → Below w.heap.size w Z ∧ K3 Z w.heap.size 3 k old size (.slice sa 0 sc) (.slice da D.length dc) 0 ⟨#[]⟩ 0 ⟨#[]⟩ ∧ RdB Z ao g 0 lb zb) := fun Z hZ => HK.out Z (bnext hb7 hZ)
  clear hW7 hb7 HK HC hb0
  have HC7 : Hid (∀ Z, Below W7.heap.size W7 Z → Z.cell? ⟨w.heap.size, 1, none⟩ = some (.int .i64 k) ∧ Z.cell? ⟨w.heap.size, 2, none⟩ = some (.int .u64 (old : Int))) := fun Z hZ => by
    obtain ⟨_, x1, x2, _, _, x5⟩ := (HK7.out Z hZ).2.1.six.cells
    exact ⟨x1, x2⟩
  have HP7 : Hid (∀ Z a b, Below W7.heap.size W7 Z → ((Z.setCell ⟨w.heap.size + 1, 0, none⟩ a).setCell ⟨w.heap.size + 1, 1, none⟩ b).cell? ⟨w.heap.size, 1, none⟩ = some (.int .i64 k) ∧ ((Z.setCell ⟨w.heap.size + 1, 0, none⟩ a).setCell ⟨w.heap.size + 1, 1, none⟩ b).cell? ⟨w.heap.size, 2, none⟩ = some (.int .u64 (old : Int))) := fun Z a b hZ => by
    obtain ⟨x1, x2⟩ := HC7.out Z hZ
    exact ⟨(World.cell?_setCell_other _ _ _ _ (by simp)).trans ((World.cell?_setCell_other _ _ _ _ (by simp)).trans x1), (World.cell?_setCell_other _ _ _ _ (by simp)).trans ((World.cell?_setCell_other _ _ _ _ (by simp)).trans x2)⟩
  have hb0 := Below.refl W7.heap.size W7
  go_upto_region 7 with (fail)
  go_region_held3 (fun Z => Z.cell? ⟨w.heap.size, 1, none⟩ = some (.int .i64 k) ∧ Z.cell? ⟨w.heap.size, 2, none⟩ = some (.int .u64 (old : Int)))
    (first | exact HC7.out _ (by first | exact hb0 | exact hb0.drew | exact hb8) | exact HP7.out _ _ _ (by first | exact hb0 | exact hb0.drew | exact hb8)) (first
    | (go_at_call 81; with_reducible refine (HR1.out _ (HK7.out _ (by first | exact hb0.drew | exact hb0)).1).mono ?_; rintro e w8 ⟨rfl, hb8'⟩
       have hb8 : Below W7.heap.size W7 w8 := by first | exact bnext hb0.drew hb8' | exact bnext hb0 hb8'
       have hK8 := HK7.out w8 hb8
       obtain ⟨k0, k1⟩ := hK8.2.1.r1.cells
       have f0 := hK8.2.1.r1.fz))
  all_goals
    have hK9 := hK8.2.1.put1 old r1
    have hc9 := putR_ch w8 (w.heap.size + 1) old r1
    obtain ⟨W9, hW9⟩ : ∃ W9, putR w8 (w.heap.size + 1) old r1 = W9 := ⟨_, rfl⟩
    rw [hW9] at hK9 hc9
    unfold putR at hW9
    rw [hW9]
    have hb9 : Below w.heap.size w W9 := hK8.1.trans (hc9.below (by rintro b rfl; omega))
    have hB9 : RdB W9 ao g 0 lb zb := rdb_block hK8.2.2 (fun h0 => hc9.block g (by
      intro e
      exact rdb_ne hK8.2.2 h0 hK8.2.1.r1 e))
    have HK9 : Hid (∀ Z, Below W9.heap.size W9 Z → Below w.heap.size w Z ∧ K3 Z w.heap.size 3 k old size (.slice sa 0 sc) (.slice da D.length dc) old r1 0 ⟨#[]⟩ ∧ RdB Z ao g 0 lb zb) := fun Z hZ => ⟨bnext hb9 hZ, hK9.next hZ, hB9.below hZ⟩
    clear hK9 hc9 hW9 hb9 hB9 HK7 HC7 HP7 hb0 hb8 hb8' hK8 k0 k1 f0 HR1
    have HC9 : Hid (∀ Z, Below W9.heap.size W9 Z → Z.cell? ⟨w.heap.size, 0, none⟩ = some (.int .i64 3) ∧ Z.cell? ⟨w.heap.size, 1, none⟩ = some (.int .i64 k) ∧ Z.cell? ⟨w.heap.size, 2, none⟩ = some (.int .u64 (old : Int)) ∧ Z.cell? ⟨w.heap.size, 3, none⟩ = some (.int .u64 (size : Int)) ∧ Z.cell? ⟨w.heap.size, 4, none⟩ = some (.slice sa 0 sc) ∧ Z.cell? ⟨w.heap.size, 5, none⟩ = some (.slice da D.length dc)) := fun Z hZ => (HK9.out Z hZ).2.1.six.cells
    have HP9 : Hid (∀ Y a b, Below W9.heap.size W9 Y → ∀ Z, (Y.setCell ⟨w.heap.size + 1 + 1, 0, none⟩ a).setCell ⟨w.heap.size + 1 + 1, 1, none⟩ b = Z → Z.cell? ⟨w.heap.size, 0, none⟩ = some (.int .i64 3) ∧ Z.cell? ⟨w.heap.size, 1, none⟩ = some (.int .i64 k) ∧ Z.cell? ⟨w.heap.size, 2, none⟩ = some (.int .u64 (old : Int)) ∧ Z.cell? ⟨w.heap.size, 3, none⟩ = some (.int .u64 (size : Int)) ∧ Z.cell? ⟨w.heap.size, 4, none⟩ = some (.slice sa 0 sc) ∧ Z.cell? ⟨w.heap.size, 5, none⟩ = some (.slice da D.length dc)) := fun Y a b hY Z hZ => by
      subst hZ
      obtain ⟨x0, x1, x2, x3, x4, x5⟩ := HC9.out Y hY
      exact ⟨(World.cell?_setCell_other _ _ _ _ (by simp)).trans ((World.cell?_setCell_other _ _ _ _ (by simp)).trans x0), (World.cell?_setCell_other _ _ _ _ (by simp)).trans ((World.cell?_setCell_other _ _ _ _ (by simp)).trans x1), (World.cell?_setCell_other _ _ _ _ (by simp)).trans ((World.cell?_setCell_other _ _ _ _ (by simp)).trans x2), (World.cell?_setCell_other _ _ _ _ (by simp)).trans ((World.cell?_setCell_other _ _ _ _ (by simp)).trans x3), (World.cell?_setCell_other _ _ _ _ (by simp)).trans ((World.cell?_setCell_other _ _ _ _ (by simp)).trans x4), (World.cell?_setCell_other _ _ _ _ (by simp)).trans ((World.cell?_setCell_other _ _ _ _ (by simp)).trans x5)⟩
    have hb0 := Below.refl W9.heap.size W9
    go_upto_region 8 with (fail)
    go_region_held3 (fun Z => Z.cell? ⟨w.heap.size, 0, none⟩ = some (.int .i64 3) ∧ Z.cell? ⟨w.heap.size, 1, none⟩ = some (.int .i64 k) ∧ Z.cell? ⟨w.heap.size, 2, none⟩ = some (.int .u64 (old : Int)) ∧ Z.cell? ⟨w.heap.size, 3, none⟩ = some (.int .u64 (size : Int)) ∧ Z.cell? ⟨w.heap.size, 4, none⟩ = some (.slice sa 0 sc) ∧ Z.cell? ⟨w.heap.size, 5, none⟩ = some (.slice da D.length dc))
      (first | exact HC9.out _ (by first | exact hb0 | exact hb0.drew | exact hb10 | exact hb11) | exact HP9.out _ _ _ (by first | exact hb0 | exact hb0.drew | exact hb11) _ rfl) (first
      | (go_at_call 82; with_reducible refine (HJd.out _ _ _ _ (HK9.out _ (by first | exact hb0.drew | exact hb0)).1 (HK9.out _ (by first | exact hb0.drew | exact hb0)).2.2).mono ?_; rintro e w10 ⟨ap, bp, cp, rfl, hR10, hb10'⟩
         have hb10 : Below W9.heap.size W9 w10 := by first | exact bnext hb0.drew hb10' | exact bnext hb0 hb10')
      | (go_at_call 81; with_reducible refine (HR2.out _ _ _ _ (HK9.out _ hb10).1 hR10).mono ?_; rintro e w11 ⟨rfl, hb11'⟩
         have hb11 : Below W9.heap.size W9 w11 := bnext hb10 hb11'
         have hK11 := HK9.out w11 hb11
         obtain ⟨k0, k1⟩ := hK11.2.1.r2.cells
         have f0 := hK11.2.1.r2.fz))
    all_goals
      have hK12 := hK11.2.1.put2 size r2
      have hc12 := putR_ch w11 (w.heap.size + 2) size r2
      obtain ⟨W12, hW12⟩ : ∃ W12, putR w11 (w.heap.size + 2) size r2 = W12 := ⟨_, rfl⟩
      rw [hW12] at hK12 hc12
      unfold putR at hW12
      rw [hW12]
      have hb12 : Below w.heap.size w W12 := hK11.1.trans (hc12.below (by rintro b rfl; omega))
      obtain ⟨x0, x1⟩ := hK12.r1.cells
      obtain ⟨x2, x3⟩ := hK12.r2.cells
      have fa := hK12.r1.fz
      have fb := hK12.r2.fz
      have hK14 := (hK12.put1 old r1).put2 size r2
      have hc13 := putR_ch W12 (w.heap.size + 1) old r1
      have hc14 := putR_ch (putR W12 (w.heap.size + 1) old r1) (w.heap.size + 2) size r2
      unfold putR at hK14 hc13 hc14
      obtain ⟨y0, y1⟩ := hK14.r1.cells
      obtain ⟨y2, y3⟩ := hK14.r2.cells
      have HB := hide ((hb12.trans (hc13.below (by rintro b rfl; omega))).trans (hc14.below (by rintro b rfl; omega)))
      clear hc12 hW12 hb12 hc13 hc14 hK12 HK9 HC9 HP9 hb0 hb10 hb10' hb11 hb11' hK11 k0 k1 f0 HR2 HJd hR10 hK14
      go_upto_region 9 with (fail)
      go_region
      all_goals go_wp2
      all_goals refine bodyPost_ret (v := .tuple #[.agg #[.int .u64 (old : Int), .string r1], .agg #[.int .u64 (size : Int), .string r2], .int .i64 0]) (by simp [results, Tryz.results36, go_sem, y0, y1, y2, y3]) rfl ⟨rfl, ?_⟩
      all_goals exact HB.out.drew
end Go.Proofs.YtdocjikpcbmcgaaGreatDoor
