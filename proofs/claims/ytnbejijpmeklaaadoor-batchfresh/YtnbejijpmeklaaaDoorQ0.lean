/-
  BLawB, BSame, BRefP, PRefA, PRefB, BWhole, BRefQ, BBoth, BProves in one text. Own work.
-/
import Derived.Test.YtnbejijpmeklaaaDoorBAlive
import Derived.Test.YtnbejijpmeklaaaDoorPWalkB
import Derived.Test.YtnbejijpmeklaaaDoorHRefB
import Derived.Deep.AppendLies
import Derived.Deep.RegionLaw
import Derived.Deep.RegionHeld3
/-
  The statements' own functions: roomy, kept. Own work.
-/
namespace Go.Proofs.YtnbejijpmeklaaaDoor
open Go.RowKit
open Cv (RdC zl cU)
attribute [local go_sem ↓] Go.wp_at_zero Go.wp_at_succ
theorem getD_app0 (S : List Nat) (x : Nat) : (S ++ [x]).getD S.length 0 = x := by
  have := getD_app 0 S [x] 0
  rwa [Nat.add_zero] at this
set_option maxRecDepth 100000 in
set_option maxHeartbeats 1000000 in
theorem roomy_any (w : World) (sa : Option Addr) (sb so sc : Nat) (S : List Nat) (rs : RdU w sa sb so S.length S) (hns : sa = none → sc = 0) (hS : S.length ≤ 17592186043904) :
    Calls Tryd.prog 18 #[.slice sa S.length sc] w fun e w' => ∃ g c, e = .returned (.slice (some ⟨g, 0, none⟩) S.length c) ∧ Cv.Own w' w.heap.size (.slice (some ⟨g, 0, none⟩) (S.length + 1) c) (S ++ [77]) ∧ S.length + 1 ≤ c ∧ Below w.heap.size w w' := by
  obtain ⟨u0, hu1, hu2, hu3, hu4⟩ := info_parts Cv.Tryd.infoU
  have HU : Hid (Tryd.prog.info? 23 = some u0 ∧ u0.zero = some (.int .u64 0) ∧ u0.size = 1 ∧ u0.bytes = 8) := ⟨hu1, hu2, hu3, hu4⟩
  have HX := hide hS
  have HR := hide (rdu_rdc rs hns)
  have hS63 : (S.length : Int) ≤ 17592186043904 := by omega
  clear rs hns hS hu1 hu2 hu3 hu4
  go_enter Tryd.func18, Tryd.ntmps18
  go_wp2_with (at_builtin; refine Cv.wpList_append_ap _ rfl _ _ _ rfl w.heap.size 23 u0 (.int .u64 0) 1 8 Tryd.underlying24 HU.out.1 HU.out.2.1 HU.out.2.2.1 HU.out.2.2.2 rfl (by decide) _ 0 [] rfl (World.ownsRow_nil _ _ _ _) _ S.length (cU S) rfl HR.out (by simp [cU]) (Cv.cU_one S) ?c1 ?c2 (Nat.le_refl _) ?_)
  case c1 => have := HX.out; unfold maxLen; omega
  case c2 => have := HX.out; omega
  intro v1 w1 a1
  have hb1 : Below w.heap.size w w1 := (Cv.ownB_step0 (Below.refl _ _) (Nat.le_refl _) (World.ownsRow_nil w w.heap.size 23 1) a1.grown).1
  have HO1 : Hid (w1.ownsRow w.heap.size 23 1 v1 S.length (cU S)) := a1.own
  clear a1
  have HB1 := hide hb1
  clear hb1
  go_wp2_with (at_builtin; refine Cv.wpList_append_ap _ rfl _ _ _ rfl w.heap.size 23 u0 (.int .u64 0) 1 8 Tryd.underlying24 HU.out.1 HU.out.2.1 HU.out.2.2.1 HU.out.2.2.2 rfl (by decide) _ S.length (cU S) rfl (HO1.out.alloc _) _ 1 (cU [77]) rfl (Cv.rdc_num w1 77 23) rfl (Cv.cU_one [77]) ?c1 ?c2 ?c3 ?_)
  case c1 => have := HX.out; unfold maxLen; omega
  case c2 => have := HX.out; omega
  case c3 => have := HB1.out.size; simp; omega
  intro v2 w2 a2
  have hb2 : Below w.heap.size w w2 := (Cv.ownB_step HB1.out HB1.out.size HO1.out a2.grown).1
  have o2 : Cv.Own w2 w.heap.size v2 (S ++ [77]) := by
    have := a2.own
    rw [Cv.Own, List.length_append]
    simpa [cU] using this
  obtain ⟨g, c, rfl, _, hc, _⟩ := ownU_form o2 (by simp)
  rw [List.length_append, List.length_singleton] at hc o2
  have HO2 := hide (And.intro o2 (And.intro hc hb2))
  have hcz : (S.length : Int) ≤ (c : Int) := by omega
  clear a2 o2 hb2 HO1 HB1 HR
  go_wp2
  go_ret
  exact ⟨g, c, rfl, HO2.out.1, HO2.out.2.1, HO2.out.2.2⟩
/-- Numbers that stand, and the mark behind them. -/
structure Kp (w : World) (g c : Nat) (S : List Nat) : Prop where
  rd : RdU w (some ⟨g, 0, none⟩) g 0 S.length S
  mark : w.cell? ⟨g, S.length, none⟩ = some (.int .u64 77)
  cap : S.length + 1 ≤ c
theorem Kp.next {w W : World} {g c : Nat} {S : List Nat} (h : Kp w g c S) (hb : Below w.heap.size w W) : Kp W g c S :=
  ⟨h.rd.next hb, (hb.cell (p := ⟨g, S.length, none⟩) (World.block_lt_of_cell? w _ h.mark)).trans h.mark, h.cap⟩
theorem kp_own {w : World} {B g n c : Nat} {S : List Nat} (o : Cv.Own w B (.slice (some ⟨g, 0, none⟩) n c) (S ++ [77])) (hc : S.length + 1 ≤ c) : Kp w g c S := by
  refine ⟨own_rdu o, ?_, hc⟩
  have h := own_rdu (l := S ++ [77]) (l' := []) (by rw [List.append_nil]; exact o)
  have := h.at (j := S.length) (by simp)
  rwa [Nat.zero_add, getD_app0] at this
set_option maxRecDepth 100000 in
set_option maxHeartbeats 1000000 in
theorem kept_any (w : World) (g c : Nat) (sa : Option Addr) (sb so sc : Nat) (S : List Nat) (hk : Kp w g c S) (rs : RdU w sa sb so S.length S) (hS : S.length ≤ 17592186043904) :
    Calls Tryd.prog 21 #[.slice (some ⟨g, 0, none⟩) S.length c, .slice sa S.length sc] w fun e w' => e = .returned (.bool true) ∧ Below w.heap.size w w' := by
  have HK := hide (And.intro hk rs)
  have hS63 : (S.length : Int) ≤ 17592186043904 := by omega
  have hcz : (S.length : Int) + 1 ≤ (c : Int) := by have := hk.cap; omega
  clear hk rs hS
  go_enter Tryd.func21, Tryd.ntmps21
  go_wp2
  go_loopg [5] S.length (fun g i wr => ∃ j : Nat, j ≤ S.length ∧ g = S.length - j ∧ i = .int .i64 (j : Int) ∧ Hid (Below w.heap.size w wr))
  case atStart =>
    go_light
    exact ⟨0, Nat.zero_le _, rfl, rfl, Below.refl _ _⟩
  case round =>
    obtain ⟨j, hj, rfl, rfl, HB⟩ := hrel
    have h1 := HK.out.1.next HB.out
    have h2 := HK.out.2.next HB.out
    by_cases hlt : j < S.length
    · have hz : (j : Int) < (S.length : Int) := by omega
      have hz0 : (0 : Int) ≤ (j : Int) := Int.natCast_nonneg _
      obtain rfl := h2.ptr (by omega)
      have c1 := h1.rd.at hlt
      have c2 := h2.at hlt
      rw [Nat.zero_add] at c1
      obtain ⟨x, hx⟩ : ∃ x, S.getD j 0 = x := ⟨_, rfl⟩
      rw [hx] at c1 c2
      clear hx h1 h2
      go_wp2
      go_quiet (fail)
      go_wp2
      go_roundg (S.length - (j + 1))
      case rel =>
        go_light
        exact ⟨j + 1, by omega, rfl, by go_num, below_drewN HB.out _⟩
      case measure => go_light; omega
    · obtain rfl : j = S.length := by omega
      have hz : ¬ ((S.length : Int) < (S.length : Int)) := by omega
      have c1 := h1.mark
      have e1 : (S.length : Int) < (S.length : Int) + 1 := by omega
      clear h1 h2 hlt
      go_wp2
      go_ret
      exact ⟨rfl, HB.out⟩
end Go.Proofs.YtnbejijpmeklaaaDoor
/-
  The statements' own functions: Same says yes of like proofs; the reference's Rising. Own work.
-/
namespace Go.Proofs.YtnbejijpmeklaaaDoor
open Go.RowKit
open Cv (RdC zl cU Rd incB incB_iff)
attribute [local go_sem ↓] Go.wp_at_zero Go.wp_at_succ
set_option maxRecDepth 100000 in
set_option maxHeartbeats 1000000 in
theorem same_yes (w : World) (kd k : Int) (old size : Nat) (sa : Option Addr) (sb so sc : Nat) (sa' : Option Addr) (sb' so' sc' : Nat) (S : List Nat) (u1 : RdU w sa sb so S.length S) (u2 : RdU w sa' sb' so' S.length S) (hS : S.length ≤ 4611686018427387904) (da : Option Addr) (db dO dc : Nat) (da' : Option Addr) (db' dO' dc' : Nat) (D : List ByteArray) (d1 : RdS w da db dO D.length D) (d2 : RdS w da' db' dO' D.length D) (hD : D.length ≤ 4611686018427387904) :
    Calls Tryd.prog 20 #[.agg #[.int .i64 kd, .int .i64 k, .int .u64 (old : Int), .int .u64 (size : Int), .slice sa S.length sc, .slice da D.length dc], .agg #[.int .i64 kd, .int .i64 k, .int .u64 (old : Int), .int .u64 (size : Int), .slice sa' S.length sc', .slice da' D.length dc']] w fun e w' => e = .returned (.bool true) ∧ Below w.heap.size w w' := by
  obtain ⟨W0, hW0⟩ : ∃ W0, (w.alloc (.cells #[.int .i64 kd, .int .i64 k, .int .u64 (old : Int), .int .u64 (size : Int), .slice sa S.length sc, .slice da D.length dc] 32)).alloc (.cells #[.int .i64 kd, .int .i64 k, .int .u64 (old : Int), .int .u64 (size : Int), .slice sa' S.length sc', .slice da' D.length dc'] 32) = W0 := ⟨_, rfl⟩
  have hb : Below w.heap.size w W0 := by rw [← hW0]; exact bal (bal (Below.refl _ _) _) _
  have h6 : Six W0 w.heap.size (.int .i64 kd) (.int .i64 k) (.int .u64 (old : Int)) (.int .u64 (size : Int)) (.slice sa S.length sc) (.slice da D.length dc) := by rw [← hW0]; exact (six_new w _ _ _ _ _ _).next (bal (Below.refl _ _) _)
  have h7 : Six W0 (w.heap.size + 1) (.int .i64 kd) (.int .i64 k) (.int .u64 (old : Int)) (.int .u64 (size : Int)) (.slice sa' S.length sc') (.slice da' D.length dc') := by
    rw [← hW0]
    have := six_new (w.alloc (.cells #[.int .i64 kd, .int .i64 k, .int .u64 (old : Int), .int .u64 (size : Int), .slice sa S.length sc, .slice da D.length dc] 32)) (.int .i64 kd) (.int .i64 k) (.int .u64 (old : Int)) (.int .u64 (size : Int)) (.slice sa' S.length sc') (.slice da' D.length dc')
    rwa [World.size_alloc] at this
  have HS : Hid (∀ W, Below W0.heap.size W0 W → Six W w.heap.size (.int .i64 kd) (.int .i64 k) (.int .u64 (old : Int)) (.int .u64 (size : Int)) (.slice sa S.length sc) (.slice da D.length dc) ∧ Six W (w.heap.size + 1) (.int .i64 kd) (.int .i64 k) (.int .u64 (old : Int)) (.int .u64 (size : Int)) (.slice sa' S.length sc') (.slice da' D.length dc') ∧ RdU W sa sb so S.length S ∧ RdU W sa' sb' so' S.length S ∧ RdS W da db dO D.length D ∧ RdS W da' db' dO' D.length D ∧ Below w.heap.size w W) := fun W hW =>
    ⟨h6.next hW, h7.next hW, u1.next (bnext hb hW), u2.next (bnext hb hW), d1.next (bnext hb hW) (Nat.le_refl _), d2.next (bnext hb hW) (Nat.le_refl _), bnext hb hW⟩
  have hS63 : (S.length : Int) ≤ 4611686018427387904 := by omega
  have hD63 : (D.length : Int) ≤ 4611686018427387904 := by omega
  obtain ⟨e0, e1, e2, e3, e4, e5⟩ := h6.cells
  obtain ⟨k0, k1, k2, k3, k4, k5⟩ := h7.cells
  clear u1 u2 d1 d2 h6 h7 hb
  go_enter Tryd.func20, Tryd.ntmps20
  go_upto_region 1 with (fail)
  try rw [hW0]
  clear hW0
  go_wp2
  go_loopg [5] S.length (fun g x wr => ∃ j : Nat, j ≤ S.length ∧ g = S.length - j ∧ x = .int .i64 (j : Int) ∧ Below W0.heap.size W0 wr)
  case atStart =>
    go_light
    exact ⟨0, Nat.zero_le _, rfl, rfl, Below.refl _ _⟩
  case round =>
    clear e0 e1 e2 e3 e4 e5 k0 k1 k2 k3 k4 k5
    obtain ⟨j, hj, rfl, rfl, hb⟩ := hrel
    obtain ⟨s1, s2, s3, s4, s5, s6, s7⟩ := HS.out wr hb
    obtain ⟨e0, e1, e2, e3, e4, e5⟩ := s1.cells
    obtain ⟨k0, k1, k2, k3, k4, k5⟩ := s2.cells
    have HB := hide hb
    by_cases hlt : j < S.length
    · have hz : (j : Int) < (S.length : Int) := by omega
      have hz0 : (0 : Int) ≤ (j : Int) := Int.natCast_nonneg _
      obtain rfl := s3.ptr (by omega)
      obtain rfl := s4.ptr (by omega)
      have c1 := s3.at hlt
      have c2 := s4.at hlt
      generalize S.getD j 0 = v at *
      clear s1 s2 s3 s4 s5 s6 s7 hb
      go_upto_region 6 with (fail)
      go_quiet (fail)
      go_wp2
      go_roundg (S.length - (j + 1))
      case rel =>
        go_light
        exact ⟨j + 1, by omega, rfl, by go_num, below_drewN HB.out _⟩
      case measure => go_light; omega
    · obtain rfl : j = S.length := by omega
      have hz : ¬ ((S.length : Int) < (S.length : Int)) := by omega
      clear s1 s2 s3 s4 s5 s6 s7 hb hlt
      generalize wr = wo at *
      clear wr
      go_wp2
      go_loopg [6] D.length (fun g x wr => ∃ j : Nat, j ≤ D.length ∧ g = D.length - j ∧ x = .int .i64 (j : Int) ∧ Below W0.heap.size W0 wr)
      case atStart =>
        go_light
        exact ⟨0, Nat.zero_le _, rfl, rfl, HB.out⟩
      case round =>
        clear e0 e1 e2 e3 e4 e5 k0 k1 k2 k3 k4 k5
        obtain ⟨j, hj, rfl, rfl, hb⟩ := hrel
        obtain ⟨s1, s2, s3, s4, s5, s6, s7⟩ := HS.out wr hb
        obtain ⟨e0, e1, e2, e3, e4, e5⟩ := s1.cells
        obtain ⟨k0, k1, k2, k3, k4, k5⟩ := s2.cells
        have HB := hide hb
        have HF := hide s7
        by_cases hlt : j < D.length
        · have hz : (j : Int) < (D.length : Int) := by omega
          have hz0 : (0 : Int) ≤ (j : Int) := Int.natCast_nonneg _
          obtain rfl := s5.ptr (by omega)
          obtain rfl := s6.ptr (by omega)
          have c1 := s5.at hlt
          have c2 := s6.at hlt
          generalize D.getD j ByteArray.empty = v at *
          clear s1 s2 s3 s4 s5 s6 s7 hb
          go_upto_region 11 with (fail)
          go_quiet (fail)
          go_wp2
          go_roundg (D.length - (j + 1))
          case rel =>
            go_light
            exact ⟨j + 1, by omega, rfl, by go_num, below_drewN HB.out _⟩
          case measure => go_light; omega
        · obtain rfl : j = D.length := by omega
          have hz : ¬ ((D.length : Int) < (D.length : Int)) := by omega
          clear s1 s2 s3 s4 s5 s6 s7 hb hlt
          go_wp2
          go_ret
          exact ⟨rfl, HF.out⟩
theorem refrising_any (w : World) (ao : Option Addr) (b off n cap : Nat) (l : List Nat) (r : Rd w ao b off n l) (hn : n ≤ maxLen) :
    Calls Tryd.prog 42 #[.slice ao n cap] w fun e w' => e = .returned (.bool (incB l)) ∧ Below w.heap.size w w' := by
  have hn' : (n : Int) ≤ 9223372036854775807 := by unfold maxLen at hn; omega
  have HR : Hid (Rd w ao b off n l) := r
  clear hn r
  go_enter Tryd.func42, Tryd.ntmps42
  go_wp2
  go_loopg [3] n (fun g i wr => ∃ k : Nat, (k ≤ n ∨ k = 1) ∧ 1 ≤ k ∧ g = n + 1 - k ∧ i = .int .i64 (k : Int) ∧ (∀ j, j + 1 < k → l.getD j 0 < l.getD (j + 1) 0) ∧ Below w.heap.size w wr)
  case atStart =>
    go_light
    exact ⟨1, .inr rfl, Nat.le_refl _, by omega, rfl, fun j hj => absurd hj (by omega), Below.refl _ _⟩
  case round =>
    obtain ⟨k, hk, hk1, rfl, rfl, he, hb⟩ := hrel
    have hk0 : (0 : Int) ≤ (k : Int) := Int.natCast_nonneg _
    by_cases hlt : k < n
    · obtain ⟨i, rfl⟩ : ∃ i, k = i + 1 := ⟨k - 1, by omega⟩
      have r1 := HR.out.below hb
      obtain rfl := r1.addr (by omega)
      have c1 := r1.cell (i + 1) hlt
      have c2 := r1.cell i (by omega)
      have hz : ((i + 1 : Nat) : Int) < (n : Int) := by omega
      have ei : (((i + 1 : Nat) : Int) - 1) = (i : Int) := by omega
      have ec : ((i + 1 : Nat) : Int) = (i : Int) + 1 := by omega
      have hz2 : (i : Int) + 1 < (n : Int) := by omega
      have hz3 : (i : Int) < (n : Int) := by omega
      have hi0 : (0 : Int) ≤ (i : Int) := Int.natCast_nonneg _
      have hi1 : (0 : Int) ≤ (i : Int) + 1 := by omega
      have HB : Hid (Below w.heap.size w wr) := hb
      have HE : Hid (∀ j, j + 1 < i + 1 → l.getD j 0 < l.getD (j + 1) 0) := he
      have HI : Hid (¬ l.getD i 0 < l.getD (i + 1) 0 → incB l = false) := fun hno => by
        cases hB : incB l with
        | false => rfl
        | true => exact absurd (((incB_iff l).1 hB).2 i (by have := HR.out.len; omega)) hno
      obtain ⟨x, hx⟩ : ∃ x, l.getD (i + 1) 0 = x := ⟨_, rfl⟩
      obtain ⟨y, hy⟩ : ∃ y, l.getD i 0 = y := ⟨_, rfl⟩
      rw [hx] at c1
      rw [hy] at c2
      rw [hx, hy] at HI
      have HX : Hid (l.getD (i + 1) 0 = x ∧ l.getD i 0 = y) := ⟨hx, hy⟩
      have hlt2 : i + 1 < n := hlt
      clear hx hy r1 hb he hk hlt
      by_cases hxy : x ≤ y
      · have HN : Hid (incB l = false) := HI.out (by omega)
        go_wp2
        go_quiet (fail)
        go_wp2
        go_ret
        exact ⟨by rw [HN.out]; rfl, below_drewN HB.out _⟩
      · go_wp2
        go_quiet (fail)
        go_wp2
        go_roundg (n + 1 - (i + 1 + 1))
        case rel =>
          go_light
          refine ⟨i + 1 + 1, by omega, by omega, rfl, by go_num, fun j hj => ?_, below_drewN HB.out _⟩
          by_cases hjk : j = i
          · subst hjk; rw [HX.out.1, HX.out.2]; omega
          · exact HE.out j (by omega)
        case measure => go_light; omega
    · have hz : ¬ (k : Int) < (n : Int) := by omega
      have hz' : ¬ k < n := by omega
      have HN : Hid (decide ((0 : Int) < (n : Int)) = incB l) := by
        have hl := HR.out.len
        cases hB : incB l with
        | true => have := ((incB_iff l).1 hB).1; exact decide_eq_true (by omega)
        | false =>
          refine decide_eq_false (fun hp => ?_)
          have : incB l = true := (incB_iff l).2 ⟨by omega, fun i hi => he i (by omega)⟩
          rw [this] at hB; cases hB
      have HB : Hid (Below w.heap.size w wr) := hb
      clear he hb hk
      go_wp2
      go_ret
      refine ⟨?_, HB.out⟩
      have := HN.out
      simp at this ⊢
      exact this
end Go.Proofs.YtnbejijpmeklaaaDoor
/-
  The reference's Prove, where it refuses. Own work.
-/
namespace Go.Proofs.YtnbejijpmeklaaaDoor
open Go.RowKit
open Cv (RdC zl cU incB)
attribute [local go_sem ↓] Go.wp_at_zero Go.wp_at_succ
set_option maxRecDepth 100000 in
set_option maxHeartbeats 1000000 in
theorem refbprove_no (w : World) (k : Int) (la : Option Addr) (ll lc n : Nat) (hl : ll ≤ 300) (sa : Option Addr) (sb so sc : Nat) (S : List Nat) (rs : RdU w sa sb so S.length S) (hS : S.length ≤ 17592186043904) (e0 : Nat) (he : (ll < n ∧ e0 = 30) ∨ (n ≤ ll ∧ Cv.errT n S = e0 ∧ e0 ≠ 0)) :
    Calls Tryd.prog 19 #[.int .i64 k, .slice la ll lc, .int .u64 (n : Int), .slice sa S.length sc] w fun e w' => e = .returned (.tuple #[noP, .int .i64 (e0 : Int)]) ∧ Below w.heap.size w w' := by
  have ec : IntKind.u64.wrap (ll : Int) = (ll : Int) := by rw [IntKind.wrap_u64]; omega
  have hb := bal (Below.refl w.heap.size w) zP
  rcases he with ⟨h1, rfl⟩ | ⟨h1, h2, h3⟩
  · have h1' : (ll : Int) < (n : Int) := by omega
    unfold zP at hb
    clear h1 hl rs hS
    go_enter Tryd.func19, Tryd.ntmps19
    go_wp2
    refine bodyPost_ret (v := .tuple #[noP, .int .i64 30]) (by simp [results, Tryd.results19, go_sem]) rfl ⟨rfl, ?_⟩
    exact hb
  · have h1' : ¬ (ll : Int) < (n : Int) := by omega
    have HI := refrising_any (w.alloc zP) sa sb so S.length sc S (rdu_rd (rs.next hb)) (by unfold maxLen; omega)
    have H6 := hide (six_new w (.int .i64 0) (.int .i64 0) (.int .u64 0) (.int .u64 0) (.slice none 0 0) (.slice none 0 0))
    have hch := fun W => put6_ch W w.heap.size (.int .i64 0) (.int .i64 0) (.int .u64 0) (.int .u64 0) (.slice none 0 0) (.slice none 0 0)
    by_cases hi : incB S = false
    · rw [hi] at HI
      obtain rfl : 40 = e0 := by rw [← h2, Cv.errT, if_pos hi]
      unfold zP at hb HI
      clear h1 hl rs hS h2 h3 hi
      go_enter Tryd.func19, Tryd.ntmps19
      go_wp2_with (go_at_call 42; with_reducible refine HI.mono ?_; rintro e w1 ⟨rfl, hb1⟩; have h6 := H6.out.next hb1; obtain ⟨k0, k1, k2, k3, k4, k5⟩ := h6.cells; have f0 := h6.fz)
      have hF6 := h6.put (.int .i64 0) (.int .i64 0) (.int .u64 0) (.int .u64 0) (.slice none 0 0) (.slice none 0 0)
      have hc6 := hch w1
      unfold put6 at hF6 hc6
      obtain ⟨s0, s1, s2, s3, s4, s5⟩ := hF6.cells
      refine bodyPost_ret (v := .tuple #[noP, .int .i64 40]) (by simp [results, Tryd.results19, go_sem, s0, s1, s2, s3, s4, s5]) rfl ⟨rfl, ?_⟩
      exact (bnext hb hb1).trans (hc6.below (by rintro b rfl; exact Nat.le_refl _))
    · have hi' : incB S = true := by simpa using hi
      rw [hi'] at HI
      rw [Cv.errT, if_neg hi] at h2
      have hin := ((Cv.incB_iff S).1 hi').1
      have hlast : n ≤ S.getD (S.length - 1) 0 := by
        by_cases hx : n ≤ S.getD (S.length - 1) 0
        · exact hx
        · rw [if_neg hx] at h2; exact absurd h2.symm h3
      obtain rfl : 31 = e0 := by rw [← h2, if_pos hlast]
      obtain rfl := rs.ptr hin
      obtain ⟨l1, hl1⟩ : ∃ l1, S.length - 1 = l1 := ⟨_, rfl⟩
      have hl2 : (S.length : Int) - 1 = (l1 : Int) := by omega
      have hl3 : (l1 : Int) < (S.length : Int) := by omega
      have hl4 : (0 : Int) ≤ (l1 : Int) := Int.natCast_nonneg _
      rw [hl1] at hlast
      have HC : Hid (∀ W, Below w.heap.size w W → W.cell? ⟨sb, so + l1, none⟩ = some (.int .u64 (S.getD l1 0 : Nat))) := fun W hW => (rs.next hW).at (by omega)
      obtain ⟨y, hy⟩ : ∃ y, S.getD l1 0 = y := ⟨_, rfl⟩
      rw [hy] at hlast HC
      have hyz : (n : Int) ≤ (y : Int) := by omega
      have hS63 : (S.length : Int) ≤ 17592186043904 := by omega
      unfold zP at hb HI
      clear h1 hl rs hS h2 h3 hi hi' hin hl1 hy hlast
      go_enter Tryd.func19, Tryd.ntmps19
      go_wp2_with (go_at_call 42; with_reducible refine HI.mono ?_; rintro e w1 ⟨rfl, hb1⟩; have h6 := H6.out.next hb1; obtain ⟨k0, k1, k2, k3, k4, k5⟩ := h6.cells; have f0 := h6.fz; have cl := HC.out _ (bnext hb hb1))
      have hF6 := h6.put (.int .i64 0) (.int .i64 0) (.int .u64 0) (.int .u64 0) (.slice none 0 0) (.slice none 0 0)
      have hc6 := hch w1
      unfold put6 at hF6 hc6
      obtain ⟨s0, s1, s2, s3, s4, s5⟩ := hF6.cells
      refine bodyPost_ret (v := .tuple #[noP, .int .i64 31]) (by simp [results, Tryd.results19, go_sem, s0, s1, s2, s3, s4, s5]) rfl ⟨rfl, ?_⟩
      exact (bnext hb hb1).trans (hc6.below (by rintro b rfl; exact Nat.le_refl _))
end Go.Proofs.YtnbejijpmeklaaaDoor
/-
  The reference's walks: tree, Tree. Own work.
-/
namespace Go.Proofs.YtnbejijpmeklaaaDoor
open Go.RowKit
attribute [local go_sem ↓] Go.wp_at_zero Go.wp_at_succ
set_option maxRecDepth 100000 in
set_option maxHeartbeats 2000000 in
theorem rtree_any (w : World) (ht : Tr w) (k : Int) (ao : Option Addr) (b off cap H n : Nat) (hH : H ≤ 40) (hn : 2 ^ H = n) (L : List ByteArray) (hr : RdS w ao b off n L) (hsz : ∀ s ∈ L, s.size ≤ 140737488351232) (r : ByteArray) (hq : Hid (nd (clk k) L H 0 = r)) :
    Calls Tryd.prog 67 #[.int .i64 k, .slice ao n cap] w fun e w' => e = .returned (.string r) ∧ Below w.heap.size w w' := by
  have hn0 : 0 < n := by rw [← hn]; exact Nat.two_pow_pos H
  have hmx : n ≤ 1099511627776 := by rw [← hn]; exact Nat.pow_le_pow_right (n := 2) (by decide) hH
  obtain rfl := hr.ptr hn0
  have HT : Hid (Tr w ∧ RdS w (some ⟨b, off, none⟩) b off n L ∧ (∀ s ∈ L, s.size ≤ 140737488351232)) := ⟨ht, hr, hsz⟩
  have hmx' : (n : Int) ≤ 1099511627776 := by omega
  have hb := Below.refl w.heap.size w
  have HN : Hid (2 ^ H = n ∧ n ≤ 1099511627776) := ⟨hn, hmx⟩
  have hc := clk_le k
  have HC : Hid (clk k ≤ 32) := hc
  clear ht hr hsz hn hH hmx hc
  go_enter Tryd.func67, Tryd.ntmps67
  go_wp2
  go_loopg [5, 6] n (fun gg v i0 wr => ∃ i : Nat, i ≤ n ∧ gg = n - i ∧ i0 = .int .i64 (i : Int) ∧ OwnS wr w.heap.size v (rowN (clk k) L 0 i) ∧ Below w.heap.size w wr)
  case atStart =>
    go_light
    exact ⟨0, Nat.zero_le _, rfl, rfl, owns_nil _ _, hb⟩
  case round =>
    clear hb
    obtain ⟨i, hi, rfl, rfl, ho, hb⟩ := hrel
    have hi0 : (0 : Int) ≤ (i : Int) := Int.natCast_nonneg _
    by_cases hlt : i < n
    · have hlt' : (i : Int) < (n : Int) := by omega
      obtain ⟨t1, t2, t3⟩ := HT.out
      obtain ⟨s, hs⟩ : ∃ s, L.getD i ByteArray.empty = s := ⟨_, rfl⟩
      have ci := (t2.next hb (Nat.le_refl _)).at hlt
      rw [hs] at ci
      obtain ⟨x, hx⟩ : ∃ x, nd (clk k) L 0 i = x := ⟨_, rfl⟩
      have HLf := refleaf_any wr (t1.next hb) k s (by rw [← hs]; have := t3 _ (getD_mem (ss := L) (k := i) (by rw [t2.hl]; exact hlt)); omega) x (by rw [← hx, nd, hs])
      have HX : Hid (OwnS wr w.heap.size u5 (rowN (clk k) L 0 i) ∧ Below w.heap.size w wr ∧ i + 1 ≤ n ∧ x.size ≤ 9223372036854775807 ∧ rowN (clk k) L 0 i ++ [x] = rowN (clk k) L 0 (i + 1)) := ⟨ho, hb, hlt, by rw [← hx, nd_size HC.out]; have := HC.out; omega, by rw [← hx]; exact rowN_more _ _ _ _⟩
      clear ho hb hi hlt hs hx t1 t2 t3
      go_wp2_with (first
        | (go_at_call 23; with_reducible refine HLf.mono ?_; rintro e w2 ⟨rfl, hb2⟩)
        | (at_builtin; refine wpList_append_S _ rfl _ _ rfl w.heap.size _ (rowN (clk k) L 0 i) rfl (own_al (own_next HX.out.1 hb2 (Nat.le_refl _)) _) (some ⟨w2.heap.size, 0, none⟩) w2.heap.size 0 1 [x] rfl (rds_one w2 x HX.out.2.2.2.1) (fun h => by cases h) ?c1 ?c2 ?_))
      case c1 => have h1 := HX.out.2.2.1; have h2 := HN.out.2; rw [rowN_len]; simp; omega
      case c2 => have := (bnext HX.out.2.1 hb2).size; simp; omega
      intro v2 w3 h3 hb3
      have HY : Hid (OwnS w3 w.heap.size v2 (rowN (clk k) L 0 (i + 1)) ∧ Below w.heap.size w w3) := ⟨by rw [← HX.out.2.2.2.2]; exact h3, (bal (bnext HX.out.2.1 hb2) _).trans hb3⟩
      clear h3 hb3 hb2
      go_wp2
      go_roundg (n - (i + 1))
      case rel =>
        go_light
        exact ⟨i + 1, HX.out.2.2.1, rfl, by go_num, HY.out.1, HY.out.2⟩
      case measure => go_light; have := HX.out.2.2.1; omega
    · obtain rfl : i = n := by omega
      have hlt' : ¬ ((i : Int) < (i : Int)) := by omega
      have HX : Hid (OwnS wr w.heap.size u5 (rowN (clk k) L 0 i) ∧ Below w.heap.size w wr) := ⟨ho, hb⟩
      clear ho hb hi hlt
      go_wp2
      go_loopg [5] H (fun gg v wx => ∃ (j N : Nat), j ≤ H ∧ gg = H - j ∧ Hid (2 ^ (H - j) = N ∧ N ≤ 1099511627776) ∧ OwnS wx w.heap.size v (rowN (clk k) L j N) ∧ Below w.heap.size w wx)
      case atStart =>
        go_light
        exact ⟨0, i, Nat.zero_le _, rfl, HN.out, HX.out.1, HX.out.2⟩
      case round =>
        clear HX
        obtain ⟨j, N, hj, rfl, HJ, ho, hb⟩ := hrel
        have hNN := HJ.out
        have hN0 : 0 < N := by rw [← hNN.1]; exact Nat.two_pow_pos _
        obtain ⟨g, cp, rfl, hg, hcp, hcm⟩ := own_form ho (by rw [rowN_len]; exact hN0)
        rw [rowN_len] at hcp ⊢
        by_cases hjl : j < H
        · obtain ⟨M, hM⟩ : ∃ M, 2 ^ (H - (j + 1)) = M := ⟨_, rfl⟩
          have hNM : N = 2 * M := by rw [← hNN.1, ← hM, show H - j = H - (j + 1) + 1 by omega, Nat.pow_succ]; omega
          have hM0 : 0 < M := by rw [← hM]; exact Nat.two_pow_pos _
          have h1N : (1 : Int) < (N : Int) := by omega
          have hN' : (N : Int) ≤ 1099511627776 := by omega
          have HX : Hid (OwnS wr w.heap.size (.slice (some ⟨g, 0, none⟩) (rowN (clk k) L j N).length cp) (rowN (clk k) L j N) ∧ Below w.heap.size w wr ∧ N = 2 * M ∧ 2 ^ (H - (j + 1)) = M ∧ j + 1 ≤ H ∧ N ≤ 1099511627776) := ⟨ho, hb, hNM, hM, hjl, hNN.2⟩
          clear ho hb hNN hN0 hg hcp hcm hNM hM hM0 hjl hj HJ
          obtain ⟨W0, hW0⟩ : ∃ W0, W0 = wr := ⟨wr, rfl⟩
          subst hW0
          go_wp2
          go_loopg [7, 8] M (fun gg v i0 wx => ∃ m : Nat, m ≤ M ∧ gg = M - m ∧ i0 = .int .i64 (2 * (m : Int)) ∧ OwnS wx W0.heap.size v (rowN (clk k) L (j + 1) m) ∧ Below W0.heap.size W0 wx)
          case atStart =>
            go_light
            exact ⟨0, Nat.zero_le _, rfl, rfl, owns_nil _ _, Below.refl _ _⟩
          case round =>
            obtain ⟨m, hm, rfl, rfl, ho, hb⟩ := hrel
            have hm0 : (0 : Int) ≤ (m : Int) := Int.natCast_nonneg _
            obtain ⟨y1, y2, y3, y4, y5, y6⟩ := HX.out
            by_cases hlt : m < M
            · have hlt' : 2 * (m : Int) + 1 < (N : Int) := by omega
              have hlt2 : 2 * (m : Int) < (N : Int) := by omega
              obtain ⟨a, ha⟩ : ∃ a, 2 * m = a := ⟨_, rfl⟩
              have ea : 2 * (m : Int) = (a : Int) := by omega
              have k1 := (own_cell (own_next y1 hb (Nat.le_refl _)) (j := a) (by rw [rowN_len]; omega)).1
              have k2 := (own_cell (own_next y1 hb (Nat.le_refl _)) (j := a + 1) (by rw [rowN_len]; omega)).1
              rw [rowN_at _ _ _ _ (by omega)] at k1 k2
              obtain ⟨x, hx⟩ : ∃ x, nd (clk k) L j a = x := ⟨_, rfl⟩
              obtain ⟨y, hy⟩ : ∃ y, nd (clk k) L j (a + 1) = y := ⟨_, rfl⟩
              obtain ⟨z, hz⟩ : ∃ z, nd (clk k) L (j + 1) m = z := ⟨_, rfl⟩
              rw [hx] at k1
              rw [hy] at k2
              have zx : x.size = clk k := by rw [← hx]; exact nd_size HC.out _ _ _
              have zy : y.size = clk k := by rw [← hy]; exact nd_size HC.out _ _ _
              have hcc := HC.out
              have HNd : Hid (∀ W, Below wr.heap.size wr W → Calls Tryd.prog 87 #[.int .i64 k, .string x, .string y] W fun e w' => e = .returned (.string z) ∧ Below W.heap.size W w') := fun W h => refnode_any W (HT.out.1.next (bnext (bnext y2 hb) h)) k x y (by omega) (by omega) z (by rw [← hz, nd, ha, hx, hy])
              have HK : Hid (∀ W, Below wr.heap.size wr W → W.cell? ⟨g, a, none⟩ = some (.string x) ∧ W.cell? ⟨g, a + 1, none⟩ = some (.string y)) := fun W h => by
                have l1 := World.block_lt_of_cell? wr _ k1
                exact ⟨(h.cell (p := ⟨g, a, none⟩) l1).trans k1, (h.cell (p := ⟨g, a + 1, none⟩) l1).trans k2⟩
              have HK0 : Hid (∀ W, Below W0.heap.size W0 W → W.cell? ⟨g, a, none⟩ = some (.string x) ∧ W.cell? ⟨g, a + 1, none⟩ = some (.string y)) := fun W h => by
                have r1 := (own_cell (own_next y1 h (Nat.le_refl _)) (j := a) (by rw [rowN_len]; omega)).1
                have r2 := (own_cell (own_next y1 h (Nat.le_refl _)) (j := a + 1) (by rw [rowN_len]; omega)).1
                rw [rowN_at _ _ _ _ (by omega)] at r1 r2
                rw [hx] at r1
                rw [hy] at r2
                exact ⟨r1, r2⟩
              have HY : Hid (OwnS wr W0.heap.size u7 (rowN (clk k) L (j + 1) m) ∧ Below W0.heap.size W0 wr ∧ rowN (clk k) L (j + 1) m ++ [z] = rowN (clk k) L (j + 1) (m + 1) ∧ z.size ≤ 9223372036854775807 ∧ m + 1 ≤ M ∧ N = 2 * M ∧ N ≤ 1099511627776) := ⟨ho, hb, by rw [← hz]; exact rowN_more _ _ _ _, by rw [← hz, nd_size HC.out]; omega, hlt, y3, y6⟩
              have e1 : IntKind.i64.wrap ((a : Int) + 1) = (a : Int) + 1 := by rw [IntKind.wrap_i64]; omega
              have h0a : (0 : Int) ≤ (a : Int) := by omega
              have h0b : (0 : Int) ≤ (a : Int) + 1 := by omega
              have hd : Below wr.heap.size wr wr.drew := (Below.refl _ _).drew
              rw [ea] at hlt' hlt2 ⊢
              clear y1 y2 y3 y4 y5 y6 ho hb hm hlt hx hy hz zx zy hcc ha
              go_upto_region 11 with (fail)
              obtain ⟨i0, hi0, hz0, hz1, hz2⟩ := info_parts Tryd.infoS
              have HO : Hid (∀ W, Below wr.heap.size wr W → (W.alloc (.cells #[.string z] 9)).ownsRow W0.heap.size 9 1 u7 m ((rowN (clk k) L (j + 1) m).map Value.string)) := fun W h => by
                have := own_al (own_next HY.out.1 h (Nat.le_refl _)) (.cells #[.string z] 9)
                rw [OwnS, rowN_len] at this; exact this
              have HM1 : Hid (m + 1 ≤ maxLen ∧ (m + 1) * 16 ≤ 140737488355328) := by have := HY.out; refine ⟨?_, ?_⟩; unfold maxLen; omega; omega
              have HS0 : Hid (∀ W, Below wr.heap.size wr W → W0.heap.size ≤ (W.alloc (.cells #[.string z] 9)).heap.size) := fun W h => by have := (bnext HY.out.2.1 h).size; simp; omega
              have kk := HK.out wr.drew hd
              have HG : Hid (∀ w2 w3, Below wr.drew.heap.size wr.drew w2 → (w2.alloc (.cells #[.string z] 9)).grownBy w3 u7.ownBlock → Below W0.heap.size W0 w3) := fun w2 w3 h1 h2 => (bal (bnext (bnext HY.out.2.1 hd) h1) _).grown h2 (by have := (bnext (bnext HY.out.2.1 hd) h1).size; simp; omega) (fun q hq => (HY.out.1.lt q hq).1)
              have HK3 : Hid (∀ w2 w3, Below wr.drew.heap.size wr.drew w2 → (w2.alloc (.cells #[.string z] 9)).grownBy w3 u7.ownBlock → w3.cell? ⟨g, a, none⟩ = some (.string x) ∧ w3.cell? ⟨g, a + 1, none⟩ = some (.string y)) := fun w2 w3 h1 h2 => HK0.out w3 (HG.out w2 w3 h1 h2)
              go_region_held3 (fun w' => w'.cell? ⟨g, a, none⟩ = some (.string x) ∧ w'.cell? ⟨g, a + 1, none⟩ = some (.string y)) (first | assumption | (exact HK3.out _ _ hb2 hgrow) | (exact HK.out _ (bnext hd hb2)) | (exact HK.out _ (bal (bnext hd hb2) _))) (first
                | (go_at_call 87; with_reducible refine (HNd.out _ hd).mono ?_; rintro e w2 ⟨rfl, hb2⟩)
                | (refine step_append_lies _ (by rfl) _ _ _ (by rfl) W0.heap.size 9 i0 _ 1 16 Tryd.underlying22 hi0 hz0 hz1 hz2 rfl (by omega) u7 m ((rowN (clk k) L (j + 1) m).map Value.string) (by rfl) (HO.out _ (bnext hd hb2)) ⟨w2.heap.size, 0, none⟩ 1 1 [.string z] (by rfl) (by rfl) (World.news_of_block (cs := #[.string z]) (t := 9) (fr := (0, 0)) (heap_alloc_new w2 _)) (by simp [Value.oneCell']) (by omega) HM1.out.1 HM1.out.2 (HS0.out _ (bnext hd hb2)) (w2.heap.size + 1) (by simp) ?_; intro gg cap_1 w3 hown3 hgrow hat hlt3))
              have HZ : Hid (OwnS w3 W0.heap.size (.slice (some ⟨gg, 0, none⟩) (m + 1) cap_1) (rowN (clk k) L (j + 1) (m + 1)) ∧ Below W0.heap.size W0 w3) := ⟨by
                rw [OwnS, rowN_len, ← HY.out.2.2.1, List.map_append]; exact hown3, HG.out _ _ hb2 hgrow⟩
              clear hown3 hgrow hat hlt3 HG HK3 HK HK0 HNd HO HS0 kk
              have HEa := hide ea
              clear ea
              go_wp2
              go_roundg (M - (m + 1))
              case rel =>
                go_light
                exact ⟨m + 1, HY.out.2.2.2.2.1, rfl, by have := HEa.out; rw [show 2 * ((m + 1 : Nat) : Int) = (a : Int) + 2 by omega], HZ.out.1, HZ.out.2⟩
              case measure => go_light; have := HY.out.2.2.2.2.1; omega
            · obtain rfl : m = M := by omega
              obtain ⟨a, ha⟩ : ∃ a, 2 * m = a := ⟨_, rfl⟩
              have ea : 2 * (m : Int) = (a : Int) := by omega
              have hlt' : ¬ ((a : Int) + 1 < (N : Int)) := by omega
              have e1 : IntKind.i64.wrap ((a : Int) + 1) = (a : Int) + 1 := by rw [IntKind.wrap_i64]; omega
              rw [ea]
              have HY : Hid (OwnS wr w.heap.size u7 (rowN (clk k) L (j + 1) m) ∧ Below w.heap.size w wr ∧ 2 ^ (H - (j + 1)) = m ∧ j + 1 ≤ H ∧ m ≤ 1099511627776) := ⟨World.ownsRow.mono ho y2.size, bnext y2 hb, y4, y5, by omega⟩
              clear y1 y2 y3 y4 y5 y6 ho hb hm hlt HX ha ea
              go_wp2
              go_roundg (H - (j + 1))
              case rel =>
                go_light
                obtain ⟨k1, k2, k3, k4, k5⟩ := HY.out
                exact ⟨j + 1, m, k4, rfl, ⟨k3, k5⟩, k1, k2⟩
              case measure => go_light; have := HY.out.2.2.2.1; omega
        · obtain rfl : j = H := by omega
          obtain ⟨n1, n2⟩ := hNN
          rw [Nat.sub_self, Nat.pow_zero] at n1
          subst n1
          have k1 := (own_cell ho (j := 0) (by rw [rowN_len]; decide)).1
          rw [rowN_at _ _ _ _ (by decide), hq.out] at k1
          have h1 : ¬ ((1 : Int) < 1) := by decide
          have HB : Hid (Below w.heap.size w wr) := hb
          clear ho hb hcp hcm hg HJ n2 hN0 hj hjl
          go_wp2
          go_ret
          exact ⟨rfl, HB.out⟩
end Go.Proofs.YtnbejijpmeklaaaDoor
/-
  The reference's walks: Tree. Own work.
-/
namespace Go.Proofs.YtnbejijpmeklaaaDoor
open Go.RowKit
attribute [local go_sem ↓] Go.wp_at_zero Go.wp_at_succ
theorem RdS.cut {w : World} {b off len : Nat} {ss : List ByteArray} (h : RdS w (some ⟨b, off, none⟩) b off len ss) (i n : Nat) (hn : i + n ≤ len) : RdS w (some ⟨b, off + i, none⟩) b (off + i) n ((ss.drop i).take n) := by
  refine ⟨by rw [List.length_take, List.length_drop, h.hl]; omega, fun _ => rfl, fun j v hv => ?_, fun s hs => h.sz s (List.mem_of_mem_drop (List.mem_of_mem_take hs))⟩
  rw [List.map_take, List.getElem?_take] at hv
  split at hv
  · rw [List.map_drop, List.getElem?_drop] at hv
    rw [Nat.add_assoc]
    exact h.rng (i + j) v hv
  · cases hv
set_option maxRecDepth 100000 in
set_option maxHeartbeats 1000000 in
theorem rtree_yes (w : World) (ht : Tr w) (k : Int) (ao : Option Addr) (b off len cap : Nat) (L : List ByteArray) (hr : RdS w ao b off len L) (hsz : ∀ s ∈ L, s.size ≤ 140737488351232) (hmx : len ≤ 8796093022208) (hc : len ≤ cap) (h i : Nat) (hh : h ≤ 40) (hi : (i + 1) * 2 ^ h ≤ len) (r : ByteArray) (hq : nd (clk k) L h i = r) :
    Calls Tryd.prog 44 #[.int .i64 k, .slice ao len cap, .agg #[.int .i64 (h : Int), .int .u64 (i : Int)]] w fun e w' => e = .returned (.tuple #[.string r, .bool true]) ∧ Below w.heap.size w w' := by
  obtain ⟨N, hN⟩ : ∃ N, 2 ^ h = N := ⟨_, rfl⟩
  have hN0 : 0 < N := by rw [← hN]; exact Nat.two_pow_pos h
  rw [hN] at hi
  have hi2 : i * N + N ≤ len := by rw [Nat.add_mul, Nat.one_mul] at hi; exact hi
  obtain rfl := hr.ptr (by omega)
  obtain ⟨lo, hlo⟩ : ∃ lo, i * N = lo := ⟨_, rfl⟩
  rw [hlo] at hi2
  have hil : i ≤ lo := by rw [← hlo]; exact Nat.le_mul_of_pos_right i hN0
  have HTr : Hid (∀ W, Below w.heap.size w W → Calls Tryd.prog 67 #[.int .i64 k, .slice (some ⟨b, off + lo, none⟩) N (cap - lo)] W fun e w' => e = .returned (.string r) ∧ Below W.heap.size W w') := fun W hb => by
    refine rtree_any W (ht.next hb) k _ b (off + lo) (cap - lo) h N hh hN ((L.drop lo).take N) ((hr.next hb (Nat.le_refl _)).cut lo N hi2) (fun s hs => hsz s (List.mem_of_mem_drop (List.mem_of_mem_take hs))) r ?_
    show _ = _
    rw [← hlo, ← hN, nd_cut]; exact hq
  obtain ⟨q, hqq⟩ : ∃ q, len / N = q := ⟨_, rfl⟩
  have hq1 : i + 1 ≤ q := by rw [← hqq, Nat.le_div_iff_mul_le hN0]; exact hi
  have hql : q ≤ len := by rw [← hqq]; exact Nat.div_le_self _ _
  obtain ⟨p, rfl⟩ : ∃ p, q = p + 1 := ⟨q - 1, by omega⟩
  have t1 : ¬ ((h : Int) < 0) := by omega
  have t2 : ¬ ((40 : Int) < (h : Int)) := by omega
  have e0 : IntKind.u64.wrap (len : Int) = (len : Int) := wrap_u _ (by omega) (by omega)
  have eq : (len : Int) / (N : Int) = (p : Int) + 1 := by
    have : (len : Int) / (N : Int) = ((len / N : Nat) : Int) := by simp
    rw [this, hqq]; rfl
  have ep : IntKind.u64.wrap (p : Int) = (p : Int) := wrap_u _ (by omega) (by omega)
  have ep1 : IntKind.u64.wrap ((p : Int) + 1) = (p : Int) + 1 := wrap_u _ (by omega) (by omega)
  have t3 : decide (p < i) = false := by simp; omega
  have t4 : decide (len < N) = false := by simp; omega
  have em1 : (i : Int) * (N : Int) = (lo : Int) := by rw [← hlo]; simp
  have em2 : ((i : Int) + 1) * (N : Int) = (lo : Int) + (N : Int) := by rw [Int.add_mul, em1, Int.one_mul]
  have ei : IntKind.u64.wrap ((i : Int) + 1) = (i : Int) + 1 := wrap_u _ (by omega) (by omega)
  have el : IntKind.u64.wrap (lo : Int) = (lo : Int) := wrap_u _ (by omega) (by omega)
  have eh : IntKind.u64.wrap ((lo : Int) + (N : Int)) = (lo : Int) + (N : Int) := wrap_u _ (by omega) (by omega)
  have hN' : ¬ ((N : Int) = 0) := by omega
  have s1 : (lo : Int) ≤ (lo : Int) + (N : Int) := by omega
  have s2 : (lo : Int) + (N : Int) ≤ (cap : Int) := by omega
  have s3 : ¬ (cap = lo) := by omega
  have s4 : lo + N - lo = N := by omega
  have HN : Hid (2 ^ h = N ∧ N ≤ 1099511627776 ∧ h ≤ 40) := ⟨hN, by rw [← hN]; exact Nat.pow_le_pow_right (n := 2) (by decide) hh, hh⟩
  have hb := Below.refl w.heap.size w
  clear hN hN0 hi hi2 hlo hil hqq hq1 hql hq ht hr hsz hmx hc hh
  go_enter Tryd.func44, Tryd.ntmps44
  go_wp2
  go_loopg [8, 9] h (fun gg v i0 wr => ∃ (j M : Nat), j ≤ h ∧ gg = h - j ∧ v = .int .u64 (M : Int) ∧ i0 = .int .i64 (j : Int) ∧ Hid (2 ^ j = M) ∧ w.alloc (.cells #[.int .i64 (h : Int), .int .u64 (i : Int)] 45) = wr)
  case atStart =>
    go_light
    exact ⟨0, 1, Nat.zero_le _, rfl, rfl, rfl, rfl, rfl⟩
  case round =>
    obtain ⟨j, M, hj, rfl, rfl, rfl, HM, rfl⟩ := hrel
    by_cases hlt : j < h
    · have hlt' : (j : Int) < (h : Int) := by omega
      obtain ⟨M2, hM2⟩ : ∃ M2, 2 * M = M2 := ⟨_, rfl⟩
      have e2 : IntKind.u64.wrap (2 * (M : Int)) = (M2 : Int) := by
        have h1 := HM.out
        have h2 := Nat.pow_le_pow_right (n := 2) (by decide) (show j ≤ 40 by have := HN.out.2.2; omega)
        rw [wrap_u _ (by omega) (by omega)]; omega
      have HX : Hid (2 ^ (j + 1) = M2 ∧ j + 1 ≤ h) := ⟨by rw [Nat.pow_succ, HM.out]; omega, hlt⟩
      clear hlt hj HM hM2
      go_wp2
      go_roundg (h - (j + 1))
      case rel =>
        go_light
        exact ⟨j + 1, M2, HX.out.2, rfl, rfl, by go_num, HX.out.1, rfl⟩
      case measure => go_light; have := HX.out.2; omega
    · obtain rfl : j = h := by omega
      obtain rfl : M = N := by rw [← HM.out]; exact HN.out.1
      have hlt' : ¬ ((j : Int) < (j : Int)) := by omega
      clear hj hlt HM
      go_upto_region 9 with (fail)
      go_quiet (fail)
      go_wp2_with (go_at_call 67; with_reducible refine (HTr.out _ (below_drewN (bal hb _) _)).mono ?_; rintro e w2 ⟨rfl, hb2⟩)
      go_ret2
      exact ⟨rfl, bnext (below_drewN (bal hb _) _) hb2⟩
set_option maxRecDepth 100000 in
set_option maxHeartbeats 1000000 in
theorem rtree_no (w : World) (k : Int) (ao : Option Addr) (len cap : Nat) (hmx : len ≤ 8796093022208) (h : Int) (i : Nat) (hno : h < 0 ∨ 40 < h ∨ (0 ≤ h ∧ h ≤ 40 ∧ len < (i + 1) * 2 ^ h.toNat)) :
    Calls Tryd.prog 44 #[.int .i64 k, .slice ao len cap, .agg #[.int .i64 h, .int .u64 (i : Int)]] w fun e w' => e = .returned (.tuple #[.string ⟨#[]⟩, .bool false]) ∧ Below w.heap.size w w' := by
  have hb := Below.refl w.heap.size w
  rcases hno with h1 | h1 | ⟨h1, h2, h3⟩
  · clear hmx
    go_enter Tryd.func44, Tryd.ntmps44
    go_wp2
    go_ret2
    exact ⟨rfl, bal hb _⟩
  · have h0 : ¬ (h < 0) := by omega
    clear hmx
    go_enter Tryd.func44, Tryd.ntmps44
    go_wp2
    go_ret2
    exact ⟨rfl, bal hb _⟩
  · obtain ⟨g, rfl⟩ : ∃ g : Nat, h = (g : Int) := ⟨h.toNat, by omega⟩
    rw [Int.toNat_natCast] at h3
    obtain ⟨N, hN⟩ : ∃ N, 2 ^ g = N := ⟨_, rfl⟩
    have hN0 : 0 < N := by rw [← hN]; exact Nat.two_pow_pos g
    have t1 : ¬ ((g : Int) < 0) := by omega
    have t2 : ¬ ((40 : Int) < (g : Int)) := by omega
    have e0 : IntKind.u64.wrap (len : Int) = (len : Int) := wrap_u _ (by omega) (by omega)
    have HN : Hid (2 ^ g = N ∧ g ≤ 40) := ⟨hN, by omega⟩
    obtain ⟨q, hqq⟩ : ∃ q, len / N = q := ⟨_, rfl⟩
    have hql : q ≤ len := by rw [← hqq]; exact Nat.div_le_self _ _
    have eq : (len : Int) / (N : Int) = (q : Int) := by
      have : (len : Int) / (N : Int) = ((len / N : Nat) : Int) := by simp
      rw [this, hqq]
    have hN' : ¬ ((N : Int) = 0) := by omega
    have hle : ¬ (i < q) := fun hh => by rw [← hqq, ← hN] at hh; have := within.1 hh; omega
    have hor : (len < N) ∨ (¬ (len < N) ∧ 1 ≤ q) := by
      by_cases hc : len < N
      · exact .inl hc
      · refine .inr ⟨hc, ?_⟩
        rw [← hqq, Nat.le_div_iff_mul_le hN0]; omega
    have HQ : Hid (len < N ∨ (¬ (len < N) ∧ 1 ≤ q)) := hor
    have HL : Hid (¬ (i < q) ∧ q ≤ 8796093022208) := ⟨hle, by omega⟩
    clear hor hle hqq hN hN0 hql h1 h2 h3 hmx
    go_enter Tryd.func44, Tryd.ntmps44
    go_wp2
    go_loopg [8, 9] g (fun gg v i0 wr => ∃ (j M : Nat), j ≤ g ∧ gg = g - j ∧ v = .int .u64 (M : Int) ∧ i0 = .int .i64 (j : Int) ∧ Hid (2 ^ j = M) ∧ w.alloc (.cells #[.int .i64 (g : Int), .int .u64 (i : Int)] 45) = wr)
    case atStart =>
      go_light
      exact ⟨0, 1, Nat.zero_le _, rfl, rfl, rfl, rfl, rfl⟩
    case round =>
      obtain ⟨j, M, hj, rfl, rfl, rfl, HM, rfl⟩ := hrel
      by_cases hlt : j < g
      · have hlt' : (j : Int) < (g : Int) := by omega
        obtain ⟨M2, hM2⟩ : ∃ M2, 2 * M = M2 := ⟨_, rfl⟩
        have e2 : IntKind.u64.wrap (2 * (M : Int)) = (M2 : Int) := by
          have h1 := HM.out
          have h2 := Nat.pow_le_pow_right (n := 2) (by decide) (show j ≤ 40 by have := HN.out.2; omega)
          rw [wrap_u _ (by omega) (by omega)]; omega
        have HX : Hid (2 ^ (j + 1) = M2 ∧ j + 1 ≤ g) := ⟨by rw [Nat.pow_succ, HM.out]; omega, hlt⟩
        clear hlt hj HM hM2
        go_wp2
        go_roundg (g - (j + 1))
        case rel =>
          go_light
          exact ⟨j + 1, M2, HX.out.2, rfl, rfl, by go_num, HX.out.1, rfl⟩
        case measure => go_light; have := HX.out.2; omega
      · obtain rfl : j = g := by omega
        obtain rfl : M = N := by rw [← HM.out]; exact HN.out.1
        have hlt' : ¬ ((j : Int) < (j : Int)) := by omega
        clear hj hlt HM
        rcases HQ.out with h5 | ⟨h5, h6⟩
        · have h7 : decide (len < M) = true := by simp; omega
          clear h5
          go_upto_region 9 with (fail)
          go_quiet (fail)
          go_wp2
          go_ret2
          exact ⟨rfl, below_drewN (bal hb _) _⟩
        · obtain ⟨p, rfl⟩ : ∃ p, q = p + 1 := ⟨q - 1, by omega⟩
          have h7 : decide (len < M) = false := by simp; omega
          have h8 : decide (p < i) = true := by have := HL.out.1; simp; omega
          have ep : IntKind.u64.wrap (p : Int) = (p : Int) := wrap_u _ (by omega) (by have := HL.out.2; omega)
          have ep1 : IntKind.u64.wrap ((p : Int) + 1) = (p : Int) + 1 := wrap_u _ (by omega) (by have := HL.out.2; omega)
          have eq' : (len : Int) / (M : Int) = (p : Int) + 1 := eq
          clear h5 h6 eq
          go_upto_region 9 with (fail)
          go_quiet (fail)
          go_wp2
          go_ret2
          exact ⟨rfl, below_drewN (bal hb _) _⟩
end Go.Proofs.YtnbejijpmeklaaaDoor
/-
  BatchWhole: a proof leads to the root; its length. Own work.
-/
namespace Go.Proofs.YtnbejijpmeklaaaDoor
open Go.RowKit
open Cv (RdC zl cU)
open Pl (pw)
attribute [local go_sem ↓] Go.wp_at_zero Go.wp_at_succ
theorem wp_append_S (w : World) {o : Oper} {a : Act} {K : Act → World → Prop} {Q : Exit → Act → World → Prop}
    (s x : Operand) (hop : o.op = Op.call { callee := Callee.builtin Builtin.append, args := #[s, x], argTypes := #[22, 22] })
    (B : Nat) (v : Value) (L : List ByteArray) (hs : a.eval s = v) (hown : OwnS w B v L) (ad : Addr) (b off cap : Nat) (M : List ByteArray) (hx : a.eval x = .slice (some ad) M.length cap) (hr : RdS w (some ad) b off M.length M)
    (hlen : L.length + M.length ≤ 8796093022208) (hB : B ≤ w.heap.size)
    (hK : ∀ v' w', OwnS w' B v' (L ++ M) → Below B w w' → K (a.put o.dst v') w') : o.wp Tryd.prog a w K Q := by
  obtain ⟨i0, hi, hz0, hz1, hz2⟩ := info_parts Tryd.infoS
  have hlt : ∀ k, v.ownBlock = some k → B ≤ k := fun k hk => (World.ownsRow.lt hown k hk).1
  have hnews : ∀ j u, (M.map Value.string)[j]? = some u → w.cell? (ad.add j) = some u := fun j u hu => by
    have hj : j < M.length := by have := (List.getElem?_eq_some_iff.1 hu).1; rwa [List.length_map] at this
    have := Option.some.inj (hr.ptr (by omega))
    subst this
    rw [Addr.add_mid]; exact hr.rng j u hu
  obtain ⟨v', w', hrun, r1, r2, _⟩ := run_append_own (P := Tryd.prog) w B 22 o.type 9 i0 (.string ByteArray.empty) 1 16 Tryd.underlying22 hi hz0 hz1 hz2 rfl (by decide) v L.length _ hown ad M.length cap (M.map Value.string) (by simp) hnews (by intro u hu; obtain ⟨y, _, rfl⟩ := List.mem_map.1 hu; rfl) (by unfold maxLen; omega) (by omega) hB
  unfold Oper.wp
  simp [execOp, hop, resolve, invoke, builtin, hs, hx, hrun, Result.andThen]
  refine hK v' w' ?_ ((Below.refl _ _).grown r2 hB hlt)
  rw [OwnS, List.length_append, List.map_append]; exact r1
theorem step_append_S (w : World) {ops : Array Oper} {o : Oper} {a : Act} {K : Act → World → Prop} {Q : Exit → Act → World → Prop} {E : Prop} (hgd : o.guard = none)
    (s x : Operand) (hop : o.op = Op.call { callee := Callee.builtin Builtin.append, args := #[s, x], argTypes := #[22, 22] })
    (B : Nat) (v : Value) (L : List ByteArray) (hs : a.eval s = v) (hown : OwnS w B v L) (ad : Addr) (b off cap : Nat) (M : List ByteArray) (hx : a.eval x = .slice (some ad) M.length cap) (hr : RdS w (some ad) b off M.length M)
    (hlen : L.length + M.length ≤ 8796093022208) (hB : B ≤ w.heap.size)
    (hK : ∀ v' w', OwnS w' B v' (L ++ M) → Below B w w' → K (a.put o.dst v') w') : if Region.wanted o (yielded ops a.tmps) = true then Oper.wp Tryd.prog o a w K Q else E := by
  have hw : Region.wanted o (yielded ops a.tmps) = true := by simp [Region.wanted, hgd]
  rw [if_pos hw]
  exact wp_append_S w s x hop B v L hs hown ad b off cap M hx hr hlen hB hK
/-- A root in its row. -/
def Rz (w : World) (p : Nat) (a b : Value) : Prop := w.heap[p]? = some (.cells #[a, b] 38 (0, 0))
section
variable {w W : World} {p : Nat} {a b : Value}
theorem Rz.lt (h : Rz w p a b) : p < w.heap.size := (Array.getElem?_eq_some_iff.1 h).1
theorem Rz.next (h : Rz w p a b) (hb : Below w.heap.size w W) : Rz W p a b := (hb.block p h.lt).trans h
theorem Rz.cells (h : Rz w p a b) : w.cell? ⟨p, 0, none⟩ = some a ∧ w.cell? ⟨p, 1, none⟩ = some b ∧ ∀ j, w.frozen? ⟨p, j, none⟩ = false :=
  ⟨by rw [cell_of_row w p 0 _ _ (0, 0) h]; rfl, by rw [cell_of_row w p 1 _ _ (0, 0) h]; rfl, fun j => frozen_of_row w p j _ _ h⟩
theorem Rz.put (h : Rz w p a b) (a' b' : Value) : Rz (put2 w p a' b') p a' b' := heap_setCell_same _ p 1 _ _ b' (heap_setCell_same w p 0 _ _ a' h)
theorem rz_new (V : World) (a b : Value) : Rz (V.alloc (.cells #[a, b] 38)) V.heap.size a b := heap_alloc_new V _
theorem rz_newd (V : World) (a b : Value) : Rz (V.alloc (.cells #[a, b] 38)).drew V.heap.size a b := heap_alloc_new V _
end
/-- What a case holds. -/
structure Cs (w : World) (k : Int) (n : Nat) (la : Option Addr) (lb lo lc : Nat) (L : List ByteArray) (sa : Option Addr) (sb so sc : Nat) (S : List Nat) : Prop where
  tb : Tb w
  tr : Tr w
  rl : RdS w la lb lo L.length L
  lcap : L.length ≤ lc
  lmax : L.length ≤ 8796093021952
  rs : RdU w sa sb so S.length S
  scap : S.length ≤ sc
  smax : S.length ≤ 17592186043904
  snil : sa = none → sc = 0
section
variable {w W : World} {k : Int} {n : Nat} {la : Option Addr} {lb lo lc : Nat} {L : List ByteArray} {sa : Option Addr} {sb so sc : Nat} {S : List Nat}
theorem Cs.next (h : Cs w k n la lb lo lc L sa sb so sc S) (hb : Below w.heap.size w W) : Cs W k n la lb lo lc L sa sb so sc S :=
  ⟨h.tb.next hb, h.tr.next hb, h.rl.next hb (Nat.le_refl _), h.lcap, h.lmax, h.rs.next hb, h.scap, h.smax, h.snil⟩
end
/-- The case's own block. -/
def Cb (w : World) (p : Nat) (k : Int) (vl : Value) (n : Nat) (vs : Value) : Prop := w.heap[p]? = some (oC k vl n vs)
theorem Cb.next {w W : World} {p : Nat} {k : Int} {vl : Value} {n : Nat} {vs : Value} (h : Cb w p k vl n vs) (hb : Below w.heap.size w W) : Cb W p k vl n vs := (hb.block p (Array.getElem?_eq_some_iff.1 h).1).trans h
theorem Cb.lt {w : World} {p : Nat} {k : Int} {vl : Value} {n : Nat} {vs : Value} (h : Cb w p k vl n vs) : p < w.heap.size := (Array.getElem?_eq_some_iff.1 h).1
theorem Cb.cells {w : World} {p : Nat} {k : Int} {vl : Value} {n : Nat} {vs : Value} (h : Cb w p k vl n vs) : w.cell? ⟨p, 0, none⟩ = some (.int .i64 k) ∧ w.cell? ⟨p, 1, none⟩ = some vl ∧ w.cell? ⟨p, 2, none⟩ = some (.int .u64 (n : Int)) ∧ w.cell? ⟨p, 3, none⟩ = some vs := four_cells h
set_option maxRecDepth 100000 in
set_option maxHeartbeats 2000000 in
theorem whole_no (w : World) (k : Int) (n : Nat) (la : Option Addr) (lb lo lc : Nat) (L : List ByteArray) (sa : Option Addr) (sb so sc : Nat) (S : List Nat) (h : Cs w k n la lb lo lc L sa sb so sc S) (hno : ¬ ((1 ≤ k ∧ k ≤ 32) ∧ ∀ s ∈ L.take 300, s.size ≤ 1048576)) :
    Calls Tryd.prog 3 #[vC k (.slice la L.length lc) n (.slice sa S.length sc)] w fun e w' => e = .returned (.bool true) ∧ Below w.heap.size w w' := by
  obtain ⟨o1, ho1⟩ : ∃ o1, oC k (.slice la L.length lc) n (.slice sa S.length sc) = o1 := ⟨_, rfl⟩
  have hb := bal (Below.refl w.heap.size w) o1
  have e1 : Cb (w.alloc o1) w.heap.size k (.slice la L.length lc) n (.slice sa S.length sc) := by rw [← ho1]; exact heap_alloc_new w _
  have HA := alive_any (w.alloc o1) (h.tb.next hb) (h.tr.next hb)
  have HH := hide (And.intro (h.next hb) (And.intro hb e1))
  rw [← ho1] at HA HH
  unfold oC at HA HH
  clear hb e1 ho1 h
  by_cases hk : 1 ≤ k ∧ k ≤ 32
  · have HF : Hid (∀ W, Below (w.alloc (oC k (.slice la L.length lc) n (.slice sa S.length sc))).heap.size (w.alloc (oC k (.slice la L.length lc) n (.slice sa S.length sc))) W → Calls Tryd.prog 9 #[vC k (.slice la L.length lc) n (.slice sa S.length sc)] W fun e w' => ∃ m, e = .returned (.pointer (some ⟨m + 1, 0, none⟩)) ∧ Below W.heap.size W w') := fun W hW => (cforest_ok W (HH.out.1.next hW).tb k hk.1 hk.2 la lb lo L.length lc L (HH.out.1.next hW).rl (by have := HH.out.1.lmax; omega) n sa S.length sc _ rfl).mono fun e w' ⟨m, h1, _, h3⟩ => ⟨m, h1, h3⟩
    have HG : Hid (∀ W, Below (w.alloc (oC k (.slice la L.length lc) n (.slice sa S.length sc))).heap.size (w.alloc (oC k (.slice la L.length lc) n (.slice sa S.length sc))) W → Calls Tryd.prog 10 #[vC k (.slice la L.length lc) n (.slice sa S.length sc)] W fun e w' => e = .returned (.bool false) ∧ Below W.heap.size W w') := fun W hW => cfit_any W k hk.1 hk.2 la lb lo L.length lc L (HH.out.1.next hW).rl (by have := HH.out.1.lmax; omega) n sa S.length sc false (decide_eq_false fun h => hno ⟨hk, h⟩)
    unfold oC vC at HF HG
    unfold vC
    clear hno hk
    go_enter Tryd.func3, Tryd.ntmps3
    go_wp2_with (first
      | (go_at_call 8; with_reducible refine HA.mono ?_; rintro e w1 ⟨rfl, hb1⟩; obtain ⟨c0, c1, c2, c3⟩ := (HH.out.2.2.next hb1).cells)
      | (go_at_call 9; with_reducible refine (HF.out _ hb1).mono ?_; rintro e w2 ⟨m, rfl, hb2⟩; obtain ⟨d0, d1, d2, d3⟩ := (HH.out.2.2.next (bnext hb1 hb2)).cells)
      | (go_at_call 10; with_reducible refine (HG.out _ (bnext hb1 hb2)).mono ?_; rintro e w3 ⟨rfl, hb3⟩))
    go_ret
    exact ⟨rfl, bnext (bnext (bnext HH.out.2.1 hb1) hb2) hb3⟩
  · have HF : Hid (∀ W, Calls Tryd.prog 9 #[vC k (.slice la L.length lc) n (.slice sa S.length sc)] W fun e w' => e = .returned (.pointer none) ∧ Below W.heap.size W w') := fun W => cforest_no W k (by omega) la L.length lc n sa S.length sc
    have HC : Hid (∀ W, Calls Tryd.prog 11 #[.int .i64 k] W fun e w' => e = .returned (.int .i64 70) ∧ W = w') := fun W => by
      have := refcheck_any W k
      rw [show chk k = 70 by rw [chk, if_pos (by omega)]] at this
      exact this.mono fun _ _ h => ⟨h.1, h.2.symm⟩
    unfold vC at HF
    unfold vC
    clear hno hk
    go_enter Tryd.func3, Tryd.ntmps3
    go_wp2_with (first
      | (go_at_call 8; with_reducible refine HA.mono ?_; rintro e w1 ⟨rfl, hb1⟩; obtain ⟨c0, c1, c2, c3⟩ := (HH.out.2.2.next hb1).cells)
      | (go_at_call 9; with_reducible refine (HF.out _).mono ?_; rintro e w2 ⟨rfl, hb2⟩; obtain ⟨d0, d1, d2, d3⟩ := (HH.out.2.2.next (bnext hb1 hb2)).cells)
      | (go_at_call 11; with_reducible refine (HC.out _).mono ?_; rintro e w3 ⟨rfl, rfl⟩))
    go_ret
    exact ⟨rfl, bnext (bnext HH.out.2.1 hb1) hb2⟩
set_option maxRecDepth 100000 in
set_option maxHeartbeats 2000000 in
theorem whole_err (w : World) (k : Int) (n : Nat) (la : Option Addr) (lb lo lc : Nat) (L : List ByteArray) (sa : Option Addr) (sb so sc : Nat) (S : List Nat) (h : Cs w k n la lb lo lc L sa sb so sc S) (hk : 1 ≤ k ∧ k ≤ 32) (hfit : ∀ s ∈ L.take 300, s.size ≤ 1048576) (hno : ¬ (n ≤ (L.take 300).length ∧ Cv.errS n S = 0)) :
    Calls Tryd.prog 3 #[vC k (.slice la L.length lc) n (.slice sa S.length sc)] w fun e w' => e = .returned (.bool true) ∧ Below w.heap.size w w' := by
  obtain ⟨o1, ho1⟩ : ∃ o1, oC k (.slice la L.length lc) n (.slice sa S.length sc) = o1 := ⟨_, rfl⟩
  have hb := bal (Below.refl w.heap.size w) o1
  have e1 : Cb (w.alloc o1) w.heap.size k (.slice la L.length lc) n (.slice sa S.length sc) := by rw [← ho1]; exact heap_alloc_new w _
  have HA := alive_any (w.alloc o1) (h.tb.next hb) (h.tr.next hb)
  have HH := hide (And.intro (h.next hb) (And.intro hb e1))
  rw [← ho1] at HA HH
  clear hb e1 ho1 h
  obtain ⟨L', hL'⟩ : ∃ L', L.take 300 = L' := ⟨_, rfl⟩
  rw [hL'] at hfit
  have hl3 : L'.length = min L.length 300 := by rw [← hL', List.length_take, Nat.min_comm]
  have HF : Hid (∀ W, Below (w.alloc (oC k (.slice la L.length lc) n (.slice sa S.length sc))).heap.size (w.alloc (oC k (.slice la L.length lc) n (.slice sa S.length sc))) W → Calls Tryd.prog 9 #[vC k (.slice la L.length lc) n (.slice sa S.length sc)] W fun e w' => ∃ m, e = .returned (.pointer (some ⟨m + 1, 0, none⟩)) ∧ Frs w' m k L' ∧ Below W.heap.size W w') := fun W hW => cforest_ok W (HH.out.1.next hW).tb k hk.1 hk.2 la lb lo L.length lc L (HH.out.1.next hW).rl (by have := HH.out.1.lmax; omega) n sa S.length sc _ (by rw [hL']; exact tk_self hfit)
  have HG : Hid (∀ W, Below (w.alloc (oC k (.slice la L.length lc) n (.slice sa S.length sc))).heap.size (w.alloc (oC k (.slice la L.length lc) n (.slice sa S.length sc))) W → Calls Tryd.prog 10 #[vC k (.slice la L.length lc) n (.slice sa S.length sc)] W fun e w' => e = .returned (.bool true) ∧ Below W.heap.size W w') := fun W hW => cfit_any W k hk.1 hk.2 la lb lo L.length lc L (HH.out.1.next hW).rl (by have := HH.out.1.lmax; omega) n sa S.length sc true (decide_eq_true (by rw [hL']; exact hfit))
  rw [hL'] at hno
  obtain ⟨e0, he0, HP⟩ : ∃ e0 : Nat, e0 ≠ 0 ∧ Hid (∀ W m, Below (w.alloc (oC k (.slice la L.length lc) n (.slice sa S.length sc))).heap.size (w.alloc (oC k (.slice la L.length lc) n (.slice sa S.length sc))) W → Frs W m k L' → Calls Tryd.prog 12 #[.pointer (some ⟨m + 1, 0, none⟩), .int .u64 (n : Int), .slice sa S.length sc] W fun e w' => e = .returned (.tuple #[noP, .int .i64 (e0 : Int)]) ∧ Below W.heap.size W w') := by
    by_cases hn : n ≤ L'.length
    · exact ⟨Cv.errS n S, fun e => hno ⟨hn, e⟩, fun W m hW hF => bprove_err W m k L' hF n hn sa sb so S.length sc S (HH.out.1.next hW).rs (by have := HH.out.1.smax; unfold maxLen; omega) _ rfl (fun e => hno ⟨hn, e⟩)⟩
    · exact ⟨30, by decide, fun W m _ hF => bprove_size W m k L' hF n (by omega) sa S.length sc⟩
  have hz : ((e0 : Int) != 0) = true := by simp; omega
  unfold oC at HA HH
  unfold oC vC at HF HG
  unfold oC at HP
  unfold vC
  clear hno hk hfit hL' hl3 he0
  go_enter Tryd.func3, Tryd.ntmps3
  go_wp2_with (first
    | (go_at_call 8; with_reducible refine HA.mono ?_; rintro e w1 ⟨rfl, hb1⟩; obtain ⟨c0, c1, c2, c3⟩ := (HH.out.2.2.next hb1).cells)
    | (go_at_call 9; with_reducible refine (HF.out _ hb1).mono ?_; rintro e w2 ⟨m, rfl, hF2, hb2⟩; obtain ⟨d0, d1, d2, d3⟩ := (HH.out.2.2.next (bnext hb1 hb2)).cells)
    | (go_at_call 10; with_reducible refine (HG.out _ (bnext hb1 hb2)).mono ?_; rintro e w3 ⟨rfl, hb3⟩; obtain ⟨f0, f1, f2, f3⟩ := (HH.out.2.2.next (bnext (bnext hb1 hb2) hb3)).cells)
    | (go_at_call 12; with_reducible refine (HP.out _ _ (bnext (bnext hb1 hb2) hb3) (hF2.next hb3 (Nat.le_refl _))).mono ?_; rintro e w4 ⟨rfl, hb4⟩))
  go_ret
  exact ⟨rfl, bal (bnext (bnext (bnext (bnext HH.out.2.1 hb1) hb2) hb3) hb4) _⟩
set_option maxRecDepth 100000 in
set_option maxHeartbeats 4000000 in
theorem whole_ok (w : World) (k : Int) (n : Nat) (la : Option Addr) (lb lo lc : Nat) (L : List ByteArray) (sa : Option Addr) (sb so sc : Nat) (S : List Nat) (h : Cs w k n la lb lo lc L sa sb so sc S) (hk : 1 ≤ k ∧ k ≤ 32) (hfit : ∀ s ∈ L.take 300, s.size ≤ 1048576) (hn : n ≤ (L.take 300).length) (he : Cv.errS n S = 0) :
    Calls Tryd.prog 3 #[vC k (.slice la L.length lc) n (.slice sa S.length sc)] w fun e w' => e = .returned (.bool true) ∧ Below w.heap.size w w' := by
  obtain ⟨o1, ho1⟩ : ∃ o1, oC k (.slice la L.length lc) n (.slice sa S.length sc) = o1 := ⟨_, rfl⟩
  have hb := bal (Below.refl w.heap.size w) o1
  have e1 : Cb (w.alloc o1) w.heap.size k (.slice la L.length lc) n (.slice sa S.length sc) := by rw [← ho1]; exact heap_alloc_new w _
  have HA := alive_any (w.alloc o1) (h.tb.next hb) (h.tr.next hb)
  have HH := hide (And.intro (h.next hb) (And.intro hb e1))
  rw [← ho1] at HA HH
  clear hb e1 ho1 h
  obtain ⟨L', hL'⟩ : ∃ L', L.take 300 = L' := ⟨_, rfl⟩
  rw [hL'] at hfit
  have hl3 : L'.length = min L.length 300 := by rw [← hL', List.length_take, Nat.min_comm]
  have HF : Hid (∀ W, Below (w.alloc (oC k (.slice la L.length lc) n (.slice sa S.length sc))).heap.size (w.alloc (oC k (.slice la L.length lc) n (.slice sa S.length sc))) W → Calls Tryd.prog 9 #[vC k (.slice la L.length lc) n (.slice sa S.length sc)] W fun e w' => ∃ m, e = .returned (.pointer (some ⟨m + 1, 0, none⟩)) ∧ Frs w' m k L' ∧ Below W.heap.size W w') := fun W hW => cforest_ok W (HH.out.1.next hW).tb k hk.1 hk.2 la lb lo L.length lc L (HH.out.1.next hW).rl (by have := HH.out.1.lmax; omega) n sa S.length sc _ (by rw [hL']; exact tk_self hfit)
  have HG : Hid (∀ W, Below (w.alloc (oC k (.slice la L.length lc) n (.slice sa S.length sc))).heap.size (w.alloc (oC k (.slice la L.length lc) n (.slice sa S.length sc))) W → Calls Tryd.prog 10 #[vC k (.slice la L.length lc) n (.slice sa S.length sc)] W fun e w' => e = .returned (.bool true) ∧ Below W.heap.size W w') := fun W hW => cfit_any W k hk.1 hk.2 la lb lo L.length lc L (HH.out.1.next hW).rl (by have := HH.out.1.lmax; omega) n sa S.length sc true (decide_eq_true (by rw [hL']; exact hfit))
  rw [hL'] at hn
  obtain ⟨D, hD⟩ : ∃ D, dgB (clk k) L' n S = D := ⟨_, rfl⟩
  have hS := rst_num he
  obtain ⟨X, hX⟩ : ∃ X, S.map (fun i => L'.getD i ByteArray.empty) = X := ⟨_, rfl⟩
  have hXl : X.length = S.length := by rw [← hX, List.length_map]
  obtain ⟨h40, _, _, hch⟩ := Cv.errS_ok he
  have hmem : ∀ i ∈ S, i < n := fun i hi => (Cv.chain_mem hch i hi).2
  have hXs : ∀ s ∈ X, s.size ≤ 1048576 := fun s hs => by
    rw [← hX] at hs
    obtain ⟨i, hi, rfl⟩ := List.mem_map.1 hs
    exact hfit _ (getD_mem (by have := hmem i hi; omega))
  have HP : Hid (∀ W m, Below (w.alloc (oC k (.slice la L.length lc) n (.slice sa S.length sc))).heap.size (w.alloc (oC k (.slice la L.length lc) n (.slice sa S.length sc))) W → Frs W m k L' → Calls Tryd.prog 12 #[.pointer (some ⟨m + 1, 0, none⟩), .int .u64 (n : Int), .slice sa S.length sc] W fun e w' => ∃ gs cs ad bd cd, e = .returned (.tuple #[.agg #[.int .i64 2, .int .i64 k, .int .u64 0, .int .u64 (n : Int), .slice (some ⟨gs, 0, none⟩) S.length cs, .slice ad D.length cd], .int .i64 0]) ∧ RdU w' (some ⟨gs, 0, none⟩) gs 0 S.length S ∧ S.length ≤ cs ∧ RdS w' ad bd 0 D.length D ∧ D.length ≤ cd ∧ (ad = none → cd = 0) ∧ Below W.heap.size W w') := fun W m hW hF =>
    (bprove_rd W m k L' hF (by omega) n hn sa sb so sc S (HH.out.1.next hW).rs he D hD).mono fun e w' ⟨gs, cs, ad, bd, cd, h1, h2, h3, h4, h5, h6, _, _, h8⟩ => ⟨gs, cs, ad, bd, cd, h1, h2, h3, h4, h5, h6, h8⟩
  have HIt : Hid (∀ W, Calls Tryd.prog 13 #[vC k (.slice la L.length lc) n (.slice sa S.length sc)] W fun e w' => e = .returned (.slice la L'.length lc) ∧ Below W.heap.size W w') := fun W => citems_any W k la L.length lc n HH.out.1.lcap sa S.length sc L'.length hl3.symm
  obtain ⟨rr, hrr⟩ : ∃ rr, rtD (clk k) L' n = rr := ⟨_, rfl⟩
  have hrt : dg (clk k) (rootT n (bagL (clk k) (pB (clk k) (Cv.dnL 41 0 n) S X D))) = rr := by rw [← hrr, rtD, ← batch_complete (clk k) L' n S hn he, hX, hD]
  have hDs : D.length ≤ 100000 := by rw [← hD, dgB_len]; have := Cv.rst_len n h40 S 0 hch; omega
  have hcnt : ∀ C, n ≤ 2 ^ C → D.length ≤ S.length * C + 40 := fun C hC => by rw [← hD, dgB_len]; exact Cv.rst_count n C S h40 hch hC
  have HRo : Hid (∀ W gs cs ad bd cd xa xb xc, Tb W → RdU W (some ⟨gs, 0, none⟩) gs 0 S.length S → S.length ≤ cs → RdS W ad bd 0 D.length D → D.length ≤ cd → (ad = none → cd = 0) → RdS W xa xb 0 S.length X → S.length ≤ xc → (xa = none → xc = 0) → Calls Tryd.prog 14 #[.agg #[.int .i64 2, .int .i64 k, .int .u64 0, .int .u64 (n : Int), .slice (some ⟨gs, 0, none⟩) S.length cs, .slice ad D.length cd], .slice xa S.length xc] W fun e w' => e = .returned (.tuple #[.agg #[.int .u64 (n : Int), .string rr], .int .i64 0]) ∧ Below W.heap.size W w') := fun W gs cs ad bd cd xa xb xc hT hU h1 hR h2 h3 hx h4 h5 => by
    have := broot_ok W hT k n (some ⟨gs, 0, none⟩) gs 0 cs S X (by rw [hXl]; exact hU) (by omega) (by omega) (fun e => by cases e) ad bd 0 cd D hR (by omega) h2 h3 xa xb 0 xc (by rw [hXl]; exact hx) (by omega) h5 (by rw [← hD]; exact okB_dg hk.1 hk.2 L' he) hXs rr hrt
    rw [hXl] at this
    exact this
  have hLe : L.take L'.length = L' := by rw [hl3, Nat.min_comm, ← List.take_eq_take_min]; exact hL'
  have HPl : Hid (∀ W, Tb W → RdS W la lb lo L.length L → Calls Tryd.prog 15 #[.int .i64 k, .slice la L'.length lc, .int .u64 (n : Int)] W fun e w' => e = .returned (.tuple #[.agg #[.int .u64 (n : Int), .string rr], .int .i64 0]) ∧ Below W.heap.size W w') := fun W hT hR => proot_ok W hT k hk.1 hk.2 la lb lo L'.length lc L' (by have := hR.take (n := L'.length) (by omega); rwa [hLe] at this) (fun s hs => by have := hfit s hs; omega) (by omega) (by have := HH.out.1.lcap; omega) n hn rr hrr
  have HQ : Hid (n ≤ 300 ∧ L'.length ≤ 300 ∧ L'.length ≤ L.length ∧ S.length ≤ 300 ∧ 0 < S.length ∧ D.length ≤ 100000 ∧ (∀ C, n ≤ 2 ^ C → D.length ≤ S.length * C + 40) ∧ X.length = S.length ∧ (∀ s ∈ X, s.size ≤ 1048576) ∧ (∀ j, j < S.length → S.getD j 0 < L'.length ∧ S.getD j 0 < L.length ∧ X.getD j ByteArray.empty = L.getD (S.getD j 0) ByteArray.empty)) := by
    refine ⟨by omega, by omega, by omega, by omega, hS.2, hDs, hcnt, hXl, hXs, fun j hj => ?_⟩
    have hm := hmem (S.getD j 0) (by rw [List.getD_eq_getElem?_getD, List.getElem?_eq_getElem hj]; exact List.getElem_mem _)
    refine ⟨by omega, by omega, ?_⟩
    rw [← hX, List.getD_eq_getElem?_getD, List.getElem?_map, List.getElem?_eq_getElem hj, ← hL']
    show (L.take 300).getD (S[j]) ByteArray.empty = _
    rw [show S.getD j 0 = S[j] by rw [List.getD_eq_getElem?_getD, List.getElem?_eq_getElem hj]; rfl] at hm ⊢
    exact getD_tk _ _ (by omega)
  unfold oC at HA HH
  unfold oC vC at HF HG
  unfold oC at HP
  unfold vC at HIt
  unfold vC
  clear hk hfit hL' hl3 hD hX hXl hXs hmem hS hrr hrt hDs hcnt hLe hn he h40 hch
  go_enter Tryd.func3, Tryd.ntmps3
  go_upto_region 9 with (first
    | (go_at_call 8; with_reducible refine HA.mono ?_; rintro e w1 ⟨rfl, hb1⟩; obtain ⟨c0, c1, c2, c3⟩ := (HH.out.2.2.next hb1).cells)
    | (go_at_call 9; with_reducible refine (HF.out _ hb1).mono ?_; rintro e w2 ⟨m, rfl, hF2, hb2⟩; obtain ⟨d0, d1, d2, d3⟩ := (HH.out.2.2.next (bnext hb1 hb2)).cells)
    | (go_at_call 10; with_reducible refine (HG.out _ (bnext hb1 hb2)).mono ?_; rintro e w3 ⟨rfl, hb3⟩; obtain ⟨f0, f1, f2, f3⟩ := (HH.out.2.2.next (bnext (bnext hb1 hb2) hb3)).cells)
    | (go_at_call 12; with_reducible refine (HP.out _ _ (bnext (bnext hb1 hb2) hb3) (hF2.next hb3 (Nat.le_refl _))).mono ?_; rintro e w4 ⟨gs, cs, ad, bd, cd, rfl, hU, h1, hR, h2, h3, hb4⟩))
  have h6 := six_new w4 (.int .i64 2) (.int .i64 k) (.int .u64 0) (.int .u64 (n : Int)) (.slice (some ⟨gs, 0, none⟩) S.length cs) (.slice ad D.length cd)
  have hb5 := bal (Below.refl w4.heap.size w4) (.cells #[.int .i64 2, .int .i64 k, .int .u64 0, .int .u64 (n : Int), .slice (some ⟨gs, 0, none⟩) S.length cs, .slice ad D.length cd] 32)
  obtain ⟨w5, hw5⟩ : ∃ w5, w4.alloc (.cells #[.int .i64 2, .int .i64 k, .int .u64 0, .int .u64 (n : Int), .slice (some ⟨gs, 0, none⟩) S.length cs, .slice ad D.length cd] 32) = w5 := ⟨_, rfl⟩
  rw [hw5] at h6 hb5 ⊢
  have hb14 := bnext (bnext (bnext hb1 hb2) hb3) (bnext hb4 hb5)
  have HK : Hid (∀ W, Below w5.heap.size w5 W → Cs W k n la lb lo lc L sa sb so sc S ∧ Cb W w.heap.size k (.slice la L.length lc) n (.slice sa S.length sc) ∧ Six W w4.heap.size (.int .i64 2) (.int .i64 k) (.int .u64 0) (.int .u64 (n : Int)) (.slice (some ⟨gs, 0, none⟩) S.length cs) (.slice ad D.length cd) ∧ RdU W (some ⟨gs, 0, none⟩) gs 0 S.length S ∧ RdS W ad bd 0 D.length D ∧ Below w.heap.size w W) := fun W hW =>
    ⟨HH.out.1.next (bnext hb14 hW), HH.out.2.2.next (bnext hb14 hW), h6.next hW, hU.next (bnext hb5 hW), hR.next (bnext hb5 hW) (Nat.le_refl _), bnext HH.out.2.1 (bnext hb14 hW)⟩
  have HN := hide (And.intro h1 (And.intro h2 h3))
  generalize w4.heap.size = q4 at *
  clear hw5 h6 hb5 hb14 hU hR h1 h2 h3 hb1 hb2 hb3 hb4 c0 c1 c2 c3 d0 d1 d2 d3 f0 f1 f2 f3 hF2 HF HG HP HA HH
  go_wp2
  go_loopg [6, 7] S.length (fun g v i wr => ∃ j : Nat, j ≤ S.length ∧ g = S.length - j ∧ i = .int .i64 (j : Int) ∧ Hid (OwnS wr w5.heap.size v (X.take j) ∧ Below w5.heap.size w5 wr))
  case atStart =>
    go_light
    exact ⟨0, Nat.zero_le _, rfl, rfl, owns_nil _ _, Below.refl _ _⟩
  case round =>
    obtain ⟨j, hj, rfl, rfl, HO⟩ := hrel
    obtain ⟨hC, hB, h6, hU, hR, hbw⟩ := HK.out wr HO.out.2
    obtain ⟨c0, c1, c2, c3⟩ := hB.cells
    have hs3 : (S.length : Int) ≤ 300 := by have := HQ.out.2.2.2.1; omega
    by_cases hlt : j < S.length
    · have hz : (j : Int) < (S.length : Int) := by omega
      have hz0 : (0 : Int) ≤ (j : Int) := Int.natCast_nonneg _
      have hpt := hC.rs.ptr (by omega)
      subst hpt
      have cj := hC.rs.at hlt
      obtain ⟨i, hi⟩ : ∃ i, S.getD j 0 = i := ⟨_, rfl⟩
      obtain ⟨q1, q2, q3⟩ := HQ.out.2.2.2.2.2.2.2.2.2 j hlt
      rw [hi] at cj q1 q2 q3
      have hpl := hC.rl.ptr (by omega)
      subst hpl
      obtain ⟨x, hx⟩ : ∃ x, X.getD j ByteArray.empty = x := ⟨_, rfl⟩
      have cl := hC.rl.at q2
      rw [← q3, hx] at cl
      have HKc : Hid (∀ Z, Below wr.heap.size wr Z → Z.cell? ⟨w.heap.size, 0, none⟩ = some (.int .i64 k) ∧ Z.cell? ⟨w.heap.size, 1, none⟩ = some (.slice (some ⟨lb, lo, none⟩) L.length lc) ∧ Z.cell? ⟨w.heap.size, 2, none⟩ = some (.int .u64 (n : Int)) ∧ Z.cell? ⟨w.heap.size, 3, none⟩ = some (.slice (some ⟨sb, so, none⟩) S.length sc) ∧ Z.cell? ⟨sb, so + j, none⟩ = some (.int .u64 (i : Int)) ∧ Z.cell? ⟨lb, lo + i, none⟩ = some (.string x)) := fun Z hZ => by
        obtain ⟨a0, a1, a2, a3⟩ := (hB.next hZ).cells
        exact ⟨a0, a1, a2, a3, (hZ.cell (p := ⟨sb, so + j, none⟩) (World.block_lt_of_cell? wr _ cj)).trans cj, (hZ.cell (p := ⟨lb, lo + i, none⟩) (World.block_lt_of_cell? wr _ cl)).trans cl⟩
      have HX : Hid (x.size ≤ 9223372036854775807 ∧ X.take (j + 1) = X.take j ++ [x] ∧ (X.take j).length ≤ 300) := by
        have hjX : j < X.length := by rw [HQ.out.2.2.2.2.2.2.2.1]; exact hlt
        refine ⟨?_, ?_, ?_⟩
        · have := HQ.out.2.2.2.2.2.2.2.2.1 _ (getD_mem hjX); rw [hx] at this; omega
        · rw [← hx]; exact take_succ_getD ByteArray.empty X j hjX
        · rw [List.length_take]; have := HQ.out.2.2.2.1; omega
      have e9 : IntKind.u64.wrap (L'.length : Int) = (L'.length : Int) := by have := HQ.out.2.1; rw [IntKind.wrap_u64]; omega
      have q1' : ¬ (L'.length : Int) ≤ (i : Int) := by omega
      have q1'' : ¬ L'.length ≤ i := by omega
      have q2' : (i : Int) < (L.length : Int) := by omega
      have q20 : (0 : Int) ≤ (i : Int) := Int.natCast_nonneg _
      clear q1 q2 q3 hi hx cj cl hC hB h6 hU hR hbw
      go_upto_region 13 with (fail)
      go_region_held3 (fun Z => Z.cell? ⟨w.heap.size, 0, none⟩ = some (.int .i64 k) ∧ Z.cell? ⟨w.heap.size, 1, none⟩ = some (.slice (some ⟨lb, lo, none⟩) L.length lc) ∧ Z.cell? ⟨w.heap.size, 2, none⟩ = some (.int .u64 (n : Int)) ∧ Z.cell? ⟨w.heap.size, 3, none⟩ = some (.slice (some ⟨sb, so, none⟩) S.length sc) ∧ Z.cell? ⟨sb, so + j, none⟩ = some (.int .u64 (i : Int)) ∧ Z.cell? ⟨lb, lo + i, none⟩ = some (.string x))
        (exact HKc.out _ (by repeat (first | exact Below.refl _ _ | refine Below.drew ?_ | refine bnext ?_ hb7))) (first
        | (go_at_call 13; with_reducible refine (HIt.out _).mono ?_; rintro e w7 ⟨rfl, hb7⟩))
      have hw7 : Below wr.heap.size wr w7 := bnext (Below.refl wr.heap.size wr).drew hb7
      obtain ⟨a0, a1, a2, a3, a4, a5⟩ := HKc.out w7 hw7
      have hlo : w5.heap.size ≤ w7.heap.size := (bnext HO.out.2 hw7).size
      have HOw : Hid (OwnS (w7.alloc (.cells #[.string x] 9)).drew w5.heap.size u6 (X.take j) ∧ RdS (w7.alloc (.cells #[.string x] 9)).drew (some ⟨w7.heap.size, 0, none⟩) w7.heap.size 0 1 [x] ∧ Below w5.heap.size w5 (w7.alloc (.cells #[.string x] 9)).drew) := ⟨own_al (own_next HO.out.1 hw7 (Nat.le_refl _)) _, (rds_one w7 x HX.out.1).next ((Below.refl _ _).drew) (Nat.le_refl _), (bal (bnext HO.out.2 hw7) _).drew⟩
      clear HKc hb7 c0 c1 c2 c3 HIt
      go_upto_region 15 with (fail)
      go_region_law (first
        | (refine step_append_S _ (by rfl) _ _ (by rfl) w5.heap.size _ (X.take j) (by rfl) HOw.out.1 ⟨w7.heap.size, 0, none⟩ w7.heap.size 0 1 [x] (by rfl) HOw.out.2.1 (by have := HX.out.2.2; show _ + 1 ≤ _; omega) (by have := HOw.out.2.2.size; exact this) ?_; intro v' w8 o1 o2; obtain ⟨xa, xm, xc, rfl⟩ := Cv.own_slice o1))
      all_goals
        go_wp2
        go_simp
        go_roundg (S.length - (j + 1))
        case rel =>
          go_light
          exact ⟨j + 1, by omega, rfl, by go_num, by show OwnS _ _ _ _ ∧ _; rw [HX.out.2.1]; exact ⟨o1, HOw.out.2.2.trans o2⟩⟩
        case measure => go_light; omega
    · obtain rfl : j = S.length := by omega
      have hz : ¬ ((S.length : Int) < (S.length : Int)) := by omega
      have hxl := HQ.out.2.2.2.2.2.2.2.1
      have hO := HO.out.1
      rw [List.take_of_length_le (by rw [hxl]; exact Nat.le_refl _)] at hO
      obtain ⟨xa, xb, xc, rfl, rX, hxc, hxn⟩ := owns_rds hO (fun s hs => by have := HQ.out.2.2.2.2.2.2.2.2.1 s hs; omega)
      rw [hxl] at rX hxc ⊢
      have HR1 := HRo.out wr gs cs ad bd cd xa xb xc hC.tb hU HN.out.1 hR HN.out.2.1 HN.out.2.2 rX hxc hxn
      obtain ⟨s0, s1, s2, s3, s4, s5⟩ := h6.cells
      clear hO rX hxc hxn hlt hxl hC hB h6 hU hR hbw HRo
      go_upto_region 17 with (go_at_call 14; with_reducible refine HR1.mono ?_; rintro e w8 ⟨rfl, hb8⟩)
      have hb9 := bal hb8 (.cells #[.int .u64 (n : Int), .string rr] 38)
      have z8 := rz_new w8 (.int .u64 (n : Int)) (.string rr)
      obtain ⟨w9, hw9⟩ : ∃ w9, w8.alloc (.cells #[.int .u64 (n : Int), .string rr] 38) = w9 := ⟨_, rfl⟩
      rw [hw9] at hb9 z8 ⊢
      have hb59 := bnext HO.out.2 hb9
      have HKd : Hid (∀ Z, Below w9.heap.size w9 Z → Z.cell? ⟨w.heap.size, 0, none⟩ = some (.int .i64 k) ∧ Z.cell? ⟨w.heap.size, 1, none⟩ = some (.slice la L.length lc) ∧ Z.cell? ⟨w.heap.size, 2, none⟩ = some (.int .u64 (n : Int)) ∧ Z.cell? ⟨w.heap.size, 3, none⟩ = some (.slice sa S.length sc)) := fun Z hZ => (HK.out Z (bnext hb59 hZ)).2.1.cells
      have HKt : Hid (∀ Z, Below w9.heap.size w9 Z → Tb Z ∧ RdS Z la lb lo L.length L) := fun Z hZ => ⟨(HK.out Z (bnext hb59 hZ)).1.tb, (HK.out Z (bnext hb59 hZ)).1.rl⟩
      have HZ8 := hide (And.intro z8 hb59)
      obtain ⟨c0, c1, c2, c3⟩ := HKd.out w9 (Below.refl _ _)
      generalize w8.heap.size = q8 at *
      clear hw9 hb8 hb9 z8 hb59 HR1 s0 s1 s2 s3 s4 s5
      go_cut [10, 11] from 93 to 102 (fun x e wx => e = .int .i64 0 ∧ ∃ q10, x = .pointer (some ⟨q10, 0, none⟩) ∧ Rz wx q10 (.int .u64 (n : Int)) (.string rr) ∧ Below w9.heap.size w9 wx)
      case first =>
        go_region_held3 (fun Z => Z.cell? ⟨w.heap.size, 0, none⟩ = some (.int .i64 k) ∧ Z.cell? ⟨w.heap.size, 1, none⟩ = some (.slice la L.length lc) ∧ Z.cell? ⟨w.heap.size, 2, none⟩ = some (.int .u64 (n : Int)) ∧ Z.cell? ⟨w.heap.size, 3, none⟩ = some (.slice sa S.length sc))
          (exact HKd.out _ (by repeat (first | exact Below.refl _ _ | refine Below.drew ?_ | refine bal ?_ _ | refine bnext ?_ hbb | refine bnext ?_ hba | refine below_put ?_ (by omega)))) (first
          | (go_at_call 13; with_reducible refine (HIt.out _).mono ?_; rintro e wa ⟨rfl, hba⟩
             have s1 := hba.size
             try simp only [World.size_alloc, World.drew] at s1
             first | (have y1 := (rz_newd w9 _ _).next hba) | skip)
          | (go_at_call 15; with_reducible refine (HPl.out _ (HKt.out _ (by repeat (first | exact Below.refl _ _ | refine Below.drew ?_ | refine bal ?_ _ | refine bnext ?_ hba))).1 (HKt.out _ (by repeat (first | exact Below.refl _ _ | refine Below.drew ?_ | refine bal ?_ _ | refine bnext ?_ hba))).2).mono ?_; rintro e wb ⟨rfl, hbb⟩
             have s2 := hbb.size
             try simp only [World.size_alloc] at s2
             first | (have x1 := y1.next hbb) | (have x1 := (rz_new wa _ _).next hbb) | skip
             try have v1 := x1.lt
             try obtain ⟨k0, k1, kf⟩ := x1.cells))
        all_goals have hVb : Below w9.heap.size w9 wb := by repeat (first | exact Below.refl _ _ | refine Below.drew ?_ | refine bal ?_ _ | refine bnext ?_ hbb | refine bnext ?_ hba)
        all_goals
          go_wp2
          go_meet
          case rel =>
            go_light
            first
              | with_reducible exact ⟨rfl, _, rfl, rz_new wb _ _, bal hVb _⟩
              | with_reducible exact ⟨rfl, _, rfl, x1.put _ _, below_put (below_put hVb (by omega)) (by omega)⟩
      case rest =>
        obtain ⟨rfl, q10, rfl, z10, hb10⟩ := hcut
        have hK := HK.out wc (bnext HZ8.out.2 hb10)
        obtain ⟨c0, c1, c2, c3⟩ := hK.2.1.cells
        obtain ⟨s0, s1, s2, s3, s4, s5⟩ := hK.2.2.1.cells
        obtain ⟨r0, r1, _⟩ := (HZ8.out.1.next hb10).cells
        obtain ⟨t0, t1, _⟩ := z10.cells
        have HBF := hide hK.2.2.2.2.2
        clear hK hb10 z10 HKd HKt HIt HPl
        go_wp2
        go_loopg [12] 10 (fun g i wx => ∃ u : Nat, u ≤ 9 ∧ g = 10 - u ∧ i = .int .i64 (u : Int) ∧ wc = wx)
        case atStart =>
          go_light
          exact ⟨0, by omega, rfl, rfl, rfl⟩
        case round =>
          obtain ⟨u, hu, rfl, rfl, rfl⟩ := hrel
          have hn3 := HQ.out.1
          obtain ⟨pu, hpu⟩ : ∃ pu : Nat, 2 ^ u = pu := ⟨_, rfl⟩
          have hpb : pu ≤ 512 := by rw [← hpu]; exact Nat.pow_le_pow_right (by decide) hu
          have u0 : (0 : Int) ≤ (u : Int) := Int.natCast_nonneg _
          have u1 : (u : Int) < 64 := by omega
          have u2 : IntKind.u64.wrap (u : Int) = (u : Int) := by rw [IntKind.wrap_u64]; omega
          have u3 : IntKind.u64.wrap ((2 : Int) ^ u) = (pu : Int) := by
            have e : ((2 : Int) ^ u) = (pu : Int) := by rw [← hpu]; simp
            rw [e, IntKind.wrap_u64]; omega
          by_cases hlt : pu < n
          · have hl2 : (pu : Int) < (n : Int) := by omega
            have hu9 : u < 9 := by
              rcases Nat.lt_or_ge u 9 with h | h
              · exact h
              · obtain rfl : u = 9 := by omega
                have : pu = 512 := by rw [← hpu]
                omega
            clear hpu
            go_wp2
            go_roundg (10 - (u + 1))
            case rel =>
              go_light
              exact ⟨u + 1, by omega, rfl, by go_num, rfl⟩
            case measure => go_light; omega
          · have hl2 : ¬ (pu : Int) < (n : Int) := by omega
            have hct := HQ.out.2.2.2.2.2.2.1 u (by omega)
            obtain ⟨mm, hmm⟩ : ∃ mm, S.length * u = mm := ⟨_, rfl⟩
            have hmb : mm ≤ 2700 := by rw [← hmm]; exact Nat.mul_le_mul HQ.out.2.2.2.1 hu
            have m1 : (S.length : Int) * (u : Int) = (mm : Int) := by rw [← hmm]; simp
            rw [hmm] at hct
            have m2 : (D.length : Int) ≤ (mm : Int) + 64 := by omega
            have m3 : (mm : Int) ≤ 2700 := by omega
            clear hpu hmm hct
            go_wp2
            go_ret
            exact ⟨rfl, HBF.out⟩
theorem whole_walk (w : World) (k : Int) (n : Nat) (la : Option Addr) (lb lo lc : Nat) (L : List ByteArray) (sa : Option Addr) (sb so sc : Nat) (S : List Nat) (h : Cs w k n la lb lo lc L sa sb so sc S) :
    Calls Tryd.prog 3 #[vC k (.slice la L.length lc) n (.slice sa S.length sc)] w fun e w' => e = .returned (.bool true) ∧ Below w.heap.size w w' := by
  by_cases h1 : (1 ≤ k ∧ k ≤ 32) ∧ ∀ s ∈ L.take 300, s.size ≤ 1048576
  · by_cases h2 : n ≤ (L.take 300).length ∧ Cv.errS n S = 0
    · exact whole_ok w k n la lb lo lc L sa sb so sc S h h1.1 h1.2 h2.1 h2.2
    · exact whole_err w k n la lb lo lc L sa sb so sc S h h1.1 h1.2 h2
  · exact whole_no w k n la lb lo lc L sa sb so sc S h h1
end Go.Proofs.YtnbejijpmeklaaaDoor
/-
  The reference's Prove, where it answers. Own work.
-/
namespace Go.Proofs.YtnbejijpmeklaaaDoor
open Go.RowKit
open Cv (RdC zl cU incB)
attribute [local go_sem ↓] Go.wp_at_zero Go.wp_at_succ
theorem row_next {w W : World} {B T s n : Nat} {v : Value} {xs : List Value} (h : w.ownsRow B T s v n xs) (hb : Below w.heap.size w W) : W.ownsRow B T s v n xs :=
  keep_row h fun g hg _ => hb.block g (World.ownsRow.lt h g hg).2
theorem Six.set5 {w : World} {s : Nat} {a b c d e f : Value} (h : Six w s a b c d e f) (f' : Value) : Six (w.setCell ⟨s, 5, none⟩ f') s a b c d e f' := heap_setCell_same w s 5 _ _ f' h
theorem Six.set4 {w : World} {s : Nat} {a b c d e f : Value} (h : Six w s a b c d e f) (e' : Value) : Six (w.setCell ⟨s, 4, none⟩ e') s a b c d e' f := heap_setCell_same w s 4 _ _ e' h
theorem nd_first {c n h i : Nat} {L : List ByteArray} (hi : (i + 1) * 2 ^ h ≤ n) (hn : n ≤ L.length) : nd c (L.take n) h i = nd c L h i :=
  nd_alike h i i fun t ht => by
    rw [Nat.add_mul, Nat.one_mul] at hi
    have := getD_first L [] n (i * 2 ^ h + t) hn (by omega)
    rwa [List.append_nil] at this
theorem take_getD {α : Type} (d : α) (l : List α) (j : Nat) (h : j < l.length) : l.take (j + 1) = l.take j ++ [l.getD j d] := by
  rw [List.take_add_one, List.getD_eq_getElem?_getD, List.getElem?_eq_getElem h]; rfl
set_option maxRecDepth 100000 in
set_option maxHeartbeats 2000000 in
theorem refbprove_ok (w : World) (hT : Tr w) (k : Int) (la : Option Addr) (lb lo lc : Nat) (L : List ByteArray) (hr : RdS w la lb lo L.length L) (hsz : ∀ s ∈ L, s.size ≤ 1048576) (hl : L.length ≤ 300) (hlc : L.length ≤ lc) (n : Nat) (hn : n ≤ L.length) (sa : Option Addr) (sb so sc : Nat) (S : List Nat) (rs : RdU w sa sb so S.length S) (he : Cv.errS n S = 0) (D : List ByteArray) (hD : dgB (clk k) L n S = D) :
    Calls Tryd.prog 19 #[.int .i64 k, .slice la L.length lc, .int .u64 (n : Int), .slice sa S.length sc] w fun e w' => ∃ vs vd, e = .returned (.tuple #[.agg #[.int .i64 2, .int .i64 k, .int .u64 0, .int .u64 (n : Int), vs, vd], .int .i64 0]) ∧ Cv.Own w' w.heap.size vs S ∧ OwnS w' w.heap.size vd D ∧ Below w.heap.size w w' := by
  have ec : IntKind.u64.wrap (L.length : Int) = (L.length : Int) := by rw [IntKind.wrap_u64]; omega
  obtain ⟨hS1, hS0⟩ := rst_num he
  have hin := rst_in he
  obtain ⟨h40, hinc, hlast, hc⟩ := Cv.errS_ok he
  obtain rfl := rs.ptr hS0
  obtain rfl := hr.ptr (by omega)
  obtain ⟨M, hM⟩ : ∃ M, Cv.rst 0 n S = M := ⟨_, rfl⟩
  rw [hM] at hin
  have hMl : M.length ≤ 80 * 301 := by rw [← hM]; have := Cv.rst_len n h40 S 0 hc; omega
  obtain ⟨c, hcc⟩ : ∃ c, clk k = c := ⟨_, rfl⟩
  have hc32 : c ≤ 32 := by rw [← hcc]; exact clk_le k
  have hDM : M.map (fun b => nd c L b.1 b.2) = D := by rw [← hD, dgB, hM, hcc]
  have hDl : D.length = M.length := by rw [← hDM, List.length_map]
  have hDs : ∀ s ∈ D, s.size ≤ 9223372036854775807 := fun s hs => by
    rw [← hDM] at hs
    obtain ⟨b, _, rfl⟩ := List.mem_map.1 hs
    have := nd_size hc32 L b.1 b.2
    omega
  have HTr : Hid (∀ W, Below w.heap.size w W → ∀ h q : Nat, (q + 1) * 2 ^ h ≤ n → Calls Tryd.prog 44 #[.int .i64 k, .slice (some ⟨lb, lo, none⟩) n lc, .agg #[.int .i64 (h : Int), .int .u64 (q : Int)]] W fun e w' => e = .returned (.tuple #[.string (nd c L h q), .bool true]) ∧ Below W.heap.size W w') := fun W hb h q h1 => by
    have hln : (L.take n).length = n := by rw [List.length_take]; omega
    have hrn := rds_take (hr.next hb (Nat.le_refl _)) hn
    rw [hln] at hrn
    exact rtree_yes W (hT.next hb) k _ lb lo n lc (L.take n) hrn (fun s hs => by have := hsz s ((List.take_sublist _ _).subset hs); omega) (by omega) (by omega) h q (fit40 (b := (h, q)) h1 h40).2.1 h1 _ (by rw [hcc]; exact nd_first h1 hn)
  have HRe : Hid (∀ W, Below w.heap.size w W → Calls Tryd.prog 43 #[.int .u64 (n : Int), .slice (some ⟨sb, so, none⟩) S.length sc] W fun e w' => ∃ ao g cap, e = .returned (.tuple #[.slice ao M.length cap, .int .i64 0]) ∧ RdB w' ao g 0 M.length (zl M) ∧ (0 < M.length → W.heap.size ≤ g) ∧ Below W.heap.size W w') := fun W hb => by
    refine (Cv.rrest_ok n W _ sb so S.length sc S (rdu_rd (rs.next hb)) (by omega) he).mono fun e w' ⟨v, e1, e2, e3⟩ => ?_
    rw [hM] at e2
    obtain ⟨ao, g, n', cap, rfl, hr', _⟩ := own_rdB e2 (fun x hx => by
      obtain ⟨b0, hb0, rfl⟩ := List.mem_map.1 hx
      exact (fit40 (hin b0 hb0) h40).1)
    have hl := hr'.len
    rw [Cv.zl_len] at hl
    subst hl
    exact ⟨ao, g, cap, e1, hr', fun h0 => (World.ownsRow.lt e2 g (by rw [hr'.addr h0]; rfl)).1, e3⟩
  have h1' : ¬ (L.length : Int) < (n : Int) := by omega
  have hb := bal (Below.refl w.heap.size w) zP
  have HI := refrising_any (w.alloc zP) (some ⟨sb, so, none⟩) sb so S.length sc S (rdu_rd (rs.next hb)) (by unfold maxLen; omega)
  rw [(Cv.incB_iff S).2 hinc] at HI
  obtain ⟨l1, hl1⟩ : ∃ l1, S.length - 1 = l1 := ⟨_, rfl⟩
  have hl2 : (S.length : Int) - 1 = (l1 : Int) := by omega
  have hl3 : (l1 : Int) < (S.length : Int) := by omega
  have hl4 : (0 : Int) ≤ (l1 : Int) := Int.natCast_nonneg _
  rw [hl1] at hlast
  have HC : Hid (∀ W, Below w.heap.size w W → W.cell? ⟨sb, so + l1, none⟩ = some (.int .u64 (S.getD l1 0 : Nat))) := fun W hW => (rs.next hW).at (by omega)
  obtain ⟨y, hy⟩ : ∃ y, S.getD l1 0 = y := ⟨_, rfl⟩
  rw [hy] at hlast HC
  have hyz : ¬ (n : Int) ≤ (y : Int) := by omega
  have hS63 : (S.length : Int) ≤ 300 := by omega
  have HR := hide (fun W (hW : Below w.heap.size w W) => rdu_rdc (cap := sc) (rs.next hW) (fun e => by cases e))
  have HX : Hid (S.length ≤ 300 ∧ M.map (fun b => nd c L b.1 b.2) = D ∧ D.length = M.length ∧ M.length ≤ 80 * 301 ∧ (∀ s ∈ D, s.size ≤ 9223372036854775807) ∧ (∀ b ∈ M, (b.2 + 1) * 2 ^ b.1 ≤ n)) := ⟨by omega, hDM, hDl, hMl, hDs, hin⟩
  have hm63 : (M.length : Int) ≤ 24080 := by omega
  have hnl : (n : Int) ≤ (lc : Int) := by omega
  have H8 := hide (six_new w (.int .i64 0) (.int .i64 0) (.int .u64 0) (.int .u64 0) (.slice none 0 0) (.slice none 0 0))
  unfold zP at hb HI
  clear hS1 hS0 hin h40 hinc hc hM hMl hcc hc32 hD hDM hDl hDs hT hr hsz hl hlc hn rs he hl1 hy hlast
  go_enter Tryd.func19, Tryd.ntmps19
  go_upto_region 8 with (go_at_call 42; with_reducible refine HI.mono ?_; rintro e w1 ⟨rfl, hb1⟩; have cl := HC.out _ (bnext hb hb1))
  obtain ⟨W2, hW2⟩ : ∃ W2, w1.alloc (.cells #[.int .i64 2, .int .i64 k, .int .u64 0, .int .u64 (n : Int), .slice none 0 0, .slice none 0 0] 32) = W2 := ⟨_, rfl⟩
  have hb2 : Below w1.heap.size w1 W2 := by rw [← hW2]; exact bal (Below.refl _ _) _
  have s10 : Six W2 w1.heap.size (.int .i64 2) (.int .i64 k) (.int .u64 0) (.int .u64 (n : Int)) (.slice none 0 0) (.slice none 0 0) := by rw [← hW2]; exact six_new w1 _ _ _ _ _ _
  have HZ2 : Hid (W2.heap.size = w1.heap.size + 1) := by rw [← hW2]; exact World.size_alloc ..
  have HZ1 : Hid (w.heap.size + 1 ≤ w1.heap.size) := by have := hb1.size; rw [World.size_alloc] at this; exact this
  rw [hW2]
  clear hW2 cl
  have hbw2 := bnext (bnext hb hb1) hb2
  obtain ⟨k0, k1, k2, k3, k4, k5⟩ := s10.cells
  go_wp2_with (at_builtin; refine Cv.wpList_append_U _ rfl _ _ rfl W2.heap.size _ [] rfl (World.ownsRow_nil _ _ _ _) _ S rfl (HR.out _ hbw2) ?c1 ?c2 ?_)
  case c1 => have := HX.out.1; simp only [List.length_nil]; omega
  case c2 => exact Nat.le_refl _
  intro vs w3 o3 g3 _
  have hb3 : Below W2.heap.size W2 w3 := (Below.refl _ _).grown g3 (Nat.le_refl _) (fun k hk => by cases hk)
  have hz1 := HZ1.out
  have hz2 := HZ2.out
  try rw [List.nil_append] at o3
  obtain ⟨xa, xm, xc, rfl⟩ := Cv.own_slice o3
  have s3 := s10.next hb3
  have s35 := s3.cells.2.2.2.2.1
  have s3z := s3.fz 4
  have s4 := s3.set4 (.slice xa xm xc)
  have hch := (ChT.refl (fun b => b = w1.heap.size) w3).set w1.heap.size 4 (.slice xa xm xc) rfl
  have o4 : Cv.Own (w3.setCell ⟨w1.heap.size, 4, none⟩ (.slice xa xm xc)) W2.heap.size (.slice xa xm xc) S := keep_row o3 fun g' _ hg' => hch.block g' (by show ¬ g' = _; omega)
  have s84 : Six (w3.setCell ⟨w1.heap.size, 4, none⟩ (.slice xa xm xc)) w.heap.size (.int .i64 0) (.int .i64 0) (.int .u64 0) (.int .u64 0) (.slice none 0 0) (.slice none 0 0) := (((H8.out.next hb1).next hb2).next hb3).same (hch.block _ (by show ¬ _ = _; omega))
  have hb4 : Below w.heap.size w (w3.setCell ⟨w1.heap.size, 4, none⟩ (.slice xa xm xc)) := (bnext hbw2 hb3).trans (hch.below (by rintro b rfl; omega))
  obtain ⟨W4, hW4⟩ : ∃ W4, w3.setCell ⟨w1.heap.size, 4, none⟩ (.slice xa xm xc) = W4 := ⟨_, rfl⟩
  rw [hW4] at s4 o4 s84 hb4
  have HQ : Hid (w1.heap.size < W4.heap.size ∧ w.heap.size + 1 ≤ w1.heap.size ∧ W2.heap.size = w1.heap.size + 1) := ⟨s4.lt, hz1, hz2⟩
  clear k0 k1 k2 k3 k4 k5 g3 o3 hb3 hch s3 s10 hb2 hb1 hbw2 HI H8 hb HC hz1 hz2 HZ1 HZ2
  go_upto_region 9 with (fail)
  try rw [hW4]
  clear hW4 s35 s3z
  go_upto_region 10 with (go_at_call 43; with_reducible refine (HRe.out _ hb4).mono ?_; rintro e w5 ⟨ao, g, cap, rfl, hR5, hg5, hb5⟩)
  have HS : Hid (∀ W, Bx w1.heap.size w5 W → Six W w.heap.size (.int .i64 0) (.int .i64 0) (.int .u64 0) (.int .u64 0) (.slice none 0 0) (.slice none 0 0) ∧ Cv.Own W W2.heap.size (.slice xa xm xc) S ∧ (∀ j, j < M.length → W.cell? ⟨g, j * 2, none⟩ = some (.int .i64 (((M.getD j (0, 0)).1 : Nat) : Int)) ∧ W.cell? ⟨g, j * 2 + 1, none⟩ = some (.int .u64 (((M.getD j (0, 0)).2 : Nat) : Int))) ∧ Below w.heap.size w W) := fun W hW => by
    obtain ⟨q1, q2, q3⟩ := HQ.out
    have hz5 := hb5.size
    refine ⟨(s84.next hb5).same (hW.block _ (by omega) (by omega)), keep_row (row_next o4 hb5) fun g' h1 h2 => hW.block g' (World.ownsRow.lt (row_next o4 hb5) g' h1).2 (by omega), fun j hj => ?_, (bnext hb4 hb5).trans (hW.below (by omega) (by omega))⟩
    have := hR5.cell j hj
    rw [getD_zl M j hj, Nat.zero_add] at this
    have hg2 : g < w5.heap.size := World.block_lt_of_cell? w5 _ this.1
    have hbk := hW.block g hg2 (by have := hg5 (by omega); omega)
    exact ⟨(World.cell?_of_block (a := ⟨g, j * 2, none⟩) hbk).trans this.1, (World.cell?_of_block (a := ⟨g, j * 2 + 1, none⟩) hbk).trans this.2⟩
  have HP5 : Hid (Six w5 w1.heap.size (.int .i64 2) (.int .i64 k) (.int .u64 0) (.int .u64 (n : Int)) (.slice xa xm xc) (.slice none 0 0) ∧ w1.heap.size < w5.heap.size) := ⟨s4.next hb5, (s4.next hb5).lt⟩
  have HA : Hid (0 < M.length → ao = some ⟨g, 0, none⟩) := hR5.addr
  clear s4 o4 s84 hb4 hR5 hg5 hb5 HRe HR
  go_wp2
  go_loopg [13] M.length (fun gh jj wr => ∃ (j : Nat) (vd : Value), j ≤ M.length ∧ gh = M.length - j ∧ jj = .int .i64 (j : Int) ∧ Hid (Six wr w1.heap.size (.int .i64 2) (.int .i64 k) (.int .u64 0) (.int .u64 (n : Int)) (.slice xa xm xc) vd ∧ OwnS wr w5.heap.size vd (D.take j) ∧ Bx w1.heap.size w5 wr))
  case atStart =>
    go_light
    exact ⟨0, _, Nat.zero_le _, rfl, rfl, HP5.out.1, owns_nil _ _, Bx.refl _ _⟩
  case round =>
    obtain ⟨j, vd, hj, rfl, rfl, HI⟩ := hrel
    by_cases hlt : j < M.length
    · have hz : (j : Int) < (M.length : Int) := by omega
      have hz0 : (0 : Int) ≤ (j : Int) := Int.natCast_nonneg _
      obtain rfl := HA.out (by omega)
      have HMc : Hid (∀ W, Below wr.heap.size wr W → W.cell? ⟨g, j * 2, none⟩ = some (.int .i64 (((M.getD j (0, 0)).1 : Nat) : Int)) ∧ W.cell? ⟨g, j * 2 + 1, none⟩ = some (.int .u64 (((M.getD j (0, 0)).2 : Nat) : Int))) := fun W hW => (HS.out W (HI.out.2.2.next hW)).2.2.1 j hlt
      have hmem : M.getD j (0, 0) ∈ M := by rw [List.getD_eq_getElem?_getD, List.getElem?_eq_getElem hlt]; exact List.getElem_mem _
      have hin := HX.out.2.2.2.2.2 _ hmem
      obtain ⟨y, hy⟩ : ∃ y, D.getD j ByteArray.empty = y := ⟨_, rfl⟩
      have hyd : y = nd c L (M.getD j (0, 0)).1 (M.getD j (0, 0)).2 := by rw [← hy, ← HX.out.2.1, List.getD_eq_getElem?_getD, List.getElem?_map, List.getD_eq_getElem?_getD, List.getElem?_eq_getElem hlt]; rfl
      have hdl : j < D.length := by rw [HX.out.2.2.1]; exact hlt
      have htk := take_getD ByteArray.empty D j hdl
      rw [hy] at htk
      have hys : y.size ≤ 9223372036854775807 := HX.out.2.2.2.2.1 y (by rw [← hy]; exact getD_mem hdl)
      obtain ⟨⟨mh, mk⟩, hmm⟩ : ∃ m, M.getD j (0, 0) = m := ⟨_, rfl⟩
      rw [hmm] at HMc hin hyd
      have HTm : Hid (∀ W, Below wr.heap.size wr W → Calls Tryd.prog 44 #[.int .i64 k, .slice (some ⟨lb, lo, none⟩) n lc, .agg #[.int .i64 (mh : Int), .int .u64 (mk : Int)]] W fun e w' => e = .returned (.tuple #[.string y, .bool true]) ∧ Below W.heap.size W w') := fun W hW => by
        rw [hyd]
        exact HTr.out W (HS.out W (HI.out.2.2.next hW)).2.2.2 mh mk hin
      have HG : Hid (D.take (j + 1) = D.take j ++ [y] ∧ y.size ≤ 9223372036854775807 ∧ (D.take j).length ≤ 24080 ∧ j < M.length) := ⟨htk, hys, by rw [List.length_take]; omega, hlt⟩
      obtain ⟨c0, c1⟩ := HMc.out wr (Below.refl _ _)
      clear hmem hin hy hyd hdl htk hys hmm hlt hj
      go_upto_region 13 with (fail)
      go_region_held3 (fun Z => Z.cell? ⟨g, j * 2, none⟩ = some (.int .i64 (mh : Int)) ∧ Z.cell? ⟨g, j * 2 + 1, none⟩ = some (.int .u64 (mk : Int)))
        (exact HMc.out _ (by repeat (first | exact Below.refl _ _ | refine Below.drew ?_ | refine bnext ?_ hb6))) (first
        | (go_at_call 44; with_reducible refine (HTm.out _ (by repeat (first | exact Below.refl _ _ | refine Below.drew ?_))).mono ?_; rintro e w6 ⟨rfl, hb6⟩))
      all_goals have hb7 : Below wr.heap.size wr w6 := by repeat (first | exact Below.refl _ _ | refine Below.drew ?_ | refine bnext ?_ hb6)
      all_goals obtain ⟨va, vm, vc, rfl⟩ := Cv.own_slice HI.out.2.1
      all_goals have s6 := HI.out.1.next hb7
      all_goals have s65 := s6.cells.2.2.2.2.2
      all_goals have HJ : Hid (OwnS w6 w5.heap.size (.slice va vm vc) (D.take j) ∧ Bx w1.heap.size w5 w6 ∧ Six w6 w1.heap.size (.int .i64 2) (.int .i64 k) (.int .u64 0) (.int .u64 (n : Int)) (.slice xa xm xc) (.slice va vm vc)) := ⟨row_next HI.out.2.1 hb7, HI.out.2.2.next hb7, s6⟩
      all_goals clear HI HMc HTm hb7 hb6 c0 c1 s6
      all_goals go_wp2_with (at_builtin; refine wpList_append_SA _ rfl _ _ rfl w5.heap.size _ (D.take j) rfl (own_al HJ.out.1 _) (some ⟨w6.heap.size, 0, none⟩) w6.heap.size 0 1 1 [y] rfl (rds_one w6 y HG.out.2.1) (fun h => by cases h) ?c1 ?c2 ?_)
      case c1 => have := HG.out.2.2.1; simp; omega
      case c2 => have := HJ.out.2.1.size; simp; omega
      intro v' w7 o1 hg hf
      obtain ⟨ya, ym, yc, rfl⟩ := Cv.own_slice o1
      have hbg : Below w5.heap.size (w6.alloc (.cells #[.string y] 9)) w7 := (Below.refl _ _).grown hg (by have := HJ.out.2.1.size; rw [World.size_alloc]; omega) (fun t ht => (World.ownsRow.lt HJ.out.1 t ht).1)
      have s7 := (HJ.out.2.2.next (bal (Below.refl w6.heap.size w6) (.cells #[.string y] 9))).same (hbg.block _ HP5.out.2)
      have s75 := s7.cells.2.2.2.2.2
      have s7z := s7.fz 5
      have hch := (ChT.refl (fun b => b = w1.heap.size) w7).set w1.heap.size 5 (.slice ya ym yc) rfl
      have HK : Hid (Six (w7.setCell ⟨w1.heap.size, 5, none⟩ (.slice ya ym yc)) w1.heap.size (.int .i64 2) (.int .i64 k) (.int .u64 0) (.int .u64 (n : Int)) (.slice xa xm xc) (.slice ya ym yc) ∧ OwnS (w7.setCell ⟨w1.heap.size, 5, none⟩ (.slice ya ym yc)) w5.heap.size (.slice ya ym yc) (D.take (j + 1)) ∧ Bx w1.heap.size w5 (w7.setCell ⟨w1.heap.size, 5, none⟩ (.slice ya ym yc))) := ⟨s7.set5 _, by rw [HG.out.1]; exact keep_row o1 fun g' _ hg' => hch.block g' (by have := HP5.out.2; show ¬ g' = _; omega), ((HJ.out.2.1.next (bal (Below.refl _ _) (.cells #[.string y] 9))).low hbg).put hch⟩
      clear o1 hg hf hbg s7 hch
      go_wp2
      go_roundg (M.length - (j + 1))
      case rel =>
        go_light
        exact ⟨j + 1, _, by have := HG.out.2.2.2; omega, rfl, by go_num, HK.out⟩
      case measure => go_light; have := HG.out.2.2.2; omega
    · obtain rfl : j = M.length := by omega
      have hz : ¬ ((M.length : Int) < (M.length : Int)) := by omega
      obtain ⟨va, vm, vc, rfl⟩ := Cv.own_slice HI.out.2.1
      have hD9 : D.take M.length = D := List.take_of_length_le (by rw [HX.out.2.2.1]; exact Nat.le_refl _)
      obtain ⟨h80, ho4, _, hbw⟩ := HS.out wr HI.out.2.2
      have HJ : Hid (OwnS wr w5.heap.size (.slice va vm vc) D ∧ Cv.Own wr W2.heap.size (.slice xa xm xc) S ∧ Below w.heap.size w wr) := ⟨by have := HI.out.2.1; rwa [hD9] at this, ho4, hbw⟩
      obtain ⟨k0, k1, k2, k3, k4, k5⟩ := HI.out.1.cells
      obtain ⟨l0, l1, l2, l3, l4, l5⟩ := h80.cells
      have f0 := h80.fz
      clear hD9 ho4 hbw hlt HI HS HTr
      go_wp2
      have hF6 := h80.put (.int .i64 2) (.int .i64 k) (.int .u64 0) (.int .u64 (n : Int)) (.slice xa xm xc) (.slice va vm vc)
      have hch := put6_ch wr w.heap.size (.int .i64 2) (.int .i64 k) (.int .u64 0) (.int .u64 (n : Int)) (.slice xa xm xc) (.slice va vm vc)
      unfold put6 at hF6 hch
      obtain ⟨s0, s1, s2, s3, s4, s5⟩ := hF6.cells
      refine bodyPost_ret (v := .tuple #[.agg #[.int .i64 2, .int .i64 k, .int .u64 0, .int .u64 (n : Int), .slice xa xm xc, .slice va vm vc], .int .i64 0]) (by simp [results, Tryd.results19, go_sem, s0, s1, s2, s3, s4, s5]) rfl ?_
      obtain ⟨q1, q2, q3⟩ := HQ.out
      have q5 := HP5.out.2
      exact ⟨_, _, rfl, (keep_row HJ.out.2.1 fun g' _ hg' => hch.block g' (by show ¬ g' = _; omega)).mono (by omega), (keep_row HJ.out.1 fun g' _ hg' => hch.block g' (by show ¬ g' = _; omega)).mono (by omega), HJ.out.2.2.trans (hch.below (by rintro b rfl; exact Nat.le_refl _))⟩
end Go.Proofs.YtnbejijpmeklaaaDoor
/-
  Both Proves answer alike. Own work.
-/
namespace Go.Proofs.YtnbejijpmeklaaaDoor
open Go.RowKit
open Cv (RdC zl cU incB)
theorem own_rdU {w : World} {B : Nat} {v : Value} {l : List Nat} (h : Cv.Own w B v l) : ∃ ao b cap, v = .slice ao l.length cap ∧ RdU w ao b 0 l.length l ∧ l.length ≤ cap ∧ (ao = none → cap = 0) := by
  have h0 := h
  obtain ⟨h1, h2⟩ := h
  rcases h2 with ⟨hv, h0⟩ | ⟨g, cap, cur, rfl, hg, hh, hc1, hc, hsz, ht⟩
  · have : l = [] := List.length_eq_zero_iff.1 h0
    subst this
    exact ⟨none, 0, 0, by rw [hv]; rfl, ⟨rfl, fun h => absurd h (Nat.lt_irrefl 0), (fun j v h => by cases h)⟩, Nat.le_refl _, fun _ => rfl⟩
  · exact ⟨some ⟨g, 0, none⟩, g, cap, rfl, own_rdu (l' := []) (by rw [List.append_nil]; exact h0), hc1, fun h => by cases h⟩
/-- What Prove answers. -/
abbrev PfE (W : World) (kd k : Int) (o sz : Nat) (S : List Nat) (D : List ByteArray) (e0 : Nat) : Ending → World → Prop := fun e w' => ∃ sa sb sc da db dc, e = .returned (.tuple #[.agg #[.int .i64 kd, .int .i64 k, .int .u64 (o : Int), .int .u64 (sz : Int), .slice sa S.length sc, .slice da D.length dc], .int .i64 (e0 : Int)]) ∧ RdU w' sa sb 0 S.length S ∧ RdS w' da db 0 D.length D ∧ Cv.Own w' W.heap.size (.slice sa S.length sc) S ∧ OwnS w' W.heap.size (.slice da D.length dc) D ∧ Below W.heap.size W w'
theorem pfe_no {W w' : World} {e : Ending} {e0 : Nat} (h : e = .returned (.tuple #[noP, .int .i64 (e0 : Int)]) ∧ Below W.heap.size W w') : PfE W 0 0 0 0 [] [] e0 e w' :=
  ⟨none, 0, 0, none, 0, 0, h.1, ⟨rfl, fun h => absurd h (Nat.lt_irrefl 0), (fun j v h => by cases h)⟩, ⟨rfl, fun h => absurd h (Nat.lt_irrefl 0), (fun j v h => by cases h), (fun s hs => by cases hs)⟩, World.ownsRow_nil _ _ _ _, owns_nil _ _, h.2⟩
theorem pfe_ok {W w' : World} {e : Ending} {k : Int} {n : Nat} {S : List Nat} {D : List ByteArray} (hD : ∀ s ∈ D, s.size ≤ 9223372036854775807) (h : ∃ vs vd, e = .returned (.tuple #[.agg #[.int .i64 2, .int .i64 k, .int .u64 0, .int .u64 (n : Int), vs, vd], .int .i64 0]) ∧ Cv.Own w' W.heap.size vs S ∧ OwnS w' W.heap.size vd D ∧ Below W.heap.size W w') : PfE W 2 k 0 n S D 0 e w' := by
  obtain ⟨vs, vd, h1, h2, h3, h4⟩ := h
  obtain ⟨sa, sb, sc, rfl, hu, _⟩ := own_rdU h2
  obtain ⟨da, db, dc, rfl, hd, _⟩ := owns_rds h3 hD
  exact ⟨sa, sb, sc, da, db, dc, h1, hu, hd, h2, h3, h4⟩
theorem both (k : Int) (L : List ByteArray) (hfit : ∀ s ∈ L, s.size ≤ 1048576) (hL : L.length ≤ 300) (n : Nat) (S : List Nat) (hS : S.length ≤ 17592186043904) :
    ∃ (kd k' : Int) (o sz : Nat) (S' : List Nat) (D' : List ByteArray) (e0 : Nat), S'.length ≤ 300 ∧ D'.length ≤ 24080 ∧ (∀ s ∈ D', s.size ≤ 9223372036854775807) ∧
      (∀ W m sa sb so sc, Frs W m k L → RdU W sa sb so S.length S → Calls Tryd.prog 12 #[.pointer (some ⟨m + 1, 0, none⟩), .int .u64 (n : Int), .slice sa S.length sc] W (PfE W kd k' o sz S' D' e0)) ∧
      (∀ W la lb lo lc sa sb so sc, Tr W → RdS W la lb lo L.length L → L.length ≤ lc → RdU W sa sb so S.length S → Calls Tryd.prog 19 #[.int .i64 k, .slice la L.length lc, .int .u64 (n : Int), .slice sa S.length sc] W (PfE W kd k' o sz S' D' e0)) := by
  by_cases hn : n ≤ L.length
  · have h40 : ¬ 2 ^ 40 < n := by omega
    by_cases he : Cv.errS n S = 0
    · obtain ⟨hS1, hS0⟩ := rst_num he
      obtain ⟨_, _, _, hc⟩ := Cv.errS_ok he
      have hc32 := clk_le k
      obtain ⟨D, hD⟩ : ∃ D, dgB (clk k) L n S = D := ⟨_, rfl⟩
      have hDl : D.length ≤ 24080 := by rw [← hD, dgB_len]; have := Cv.rst_len n (by omega) S 0 hc; omega
      have hDs : ∀ s ∈ D, s.size ≤ 9223372036854775807 := fun s hs => by
        rw [← hD] at hs
        obtain ⟨b, _, rfl⟩ := List.mem_map.1 hs
        have := nd_size hc32 L b.1 b.2
        omega
      exact ⟨2, k, 0, n, S, D, 0, by omega, hDl, hDs, fun W m sa sb so sc hF hU => (bprove_ok W m k L hF (by omega) n hn sa sb so sc S hU he D hD).mono fun e w' h => pfe_ok hDs h,
        fun W la lb lo lc sa sb so sc hT hR hlc hU => (refbprove_ok W hT k la lb lo lc L hR hfit hL hlc n hn sa sb so sc S hU he D hD).mono fun e w' h => pfe_ok hDs h⟩
    · exact ⟨0, 0, 0, 0, [], [], Cv.errS n S, Nat.zero_le _, Nat.zero_le _, (fun s hs => by cases hs), fun W m sa sb so sc hF hU => (bprove_err W m k L hF n hn sa sb so S.length sc S hU (by unfold maxLen; omega) _ rfl he).mono fun e w' h => pfe_no h,
        fun W la lb lo lc sa sb so sc hT hR hlc hU => (refbprove_no W k la L.length lc n hL sa sb so sc S hU hS (Cv.errS n S) (.inr ⟨hn, (Cv.errS_T h40).symm, he⟩)).mono fun e w' h => pfe_no h⟩
  · exact ⟨0, 0, 0, 0, [], [], 30, Nat.zero_le _, Nat.zero_le _, (fun s hs => by cases hs), fun W m sa sb so sc hF hU => (bprove_size W m k L hF n (by omega) sa S.length sc).mono fun e w' h => pfe_no h,
      fun W la lb lo lc sa sb so sc hT hR hlc hU => (refbprove_no W k la L.length lc n hL sa sb so sc S hU hS 30 (.inl ⟨by omega, rfl⟩)).mono fun e w' h => pfe_no h⟩
end Go.Proofs.YtnbejijpmeklaaaDoor
/-
  BatchProves: every Prove over a forest of any list. Own work.
-/
namespace Go.Proofs.YtnbejijpmeklaaaDoor
open Go.RowKit
open Cv (RdC zl cU)
attribute [local go_sem ↓] Go.wp_at_zero Go.wp_at_succ
theorem six_newd (w : World) (a b c d e f : Value) : Six (w.alloc (.cells #[a, b, c, d, e, f] 32)).drew w.heap.size a b c d e f := heap_alloc_new w _
theorem rdu_of {w : World} {B n c : Nat} {a : Option Addr} {l : List Nat} (h : Cv.Own w B (.slice a n c) l) : ∃ b, RdU w a b 0 l.length l := by
  obtain ⟨ao, b, cap, hv, hu, _⟩ := own_rdU h
  obtain ⟨rfl, _, _⟩ := Value.slice.inj hv
  exact ⟨b, hu⟩
theorem rds_of {w : World} {B n c : Nat} {a : Option Addr} {l : List ByteArray} (h : OwnS w B (.slice a n c) l) (hs : ∀ s ∈ l, s.size ≤ 9223372036854775807) : ∃ b, RdS w a b 0 l.length l := by
  obtain ⟨ao, b, cap, hv, hu, _⟩ := owns_rds h hs
  obtain ⟨rfl, _, _⟩ := Value.slice.inj hv
  exact ⟨b, hu⟩
/-- A proof put in its place: its lists can be read. -/
theorem pf_put {wb w0 : World} {p B B' n m rc tc : Nat} {a b c d e f : Value} {ra ta : Option Addr} {S' : List Nat} {D' : List ByteArray} (x : Six wb p a b c d e f) (o1 : Cv.Own wb B (.slice ra n rc) S') (o2 : OwnS wb B' (.slice ta m tc) D') (hD : ∀ s ∈ D', s.size ≤ 9223372036854775807) (hb : Below w0.heap.size w0 wb) (hp : w0.heap.size ≤ p) (a' b' c' d' e' f' : Value) :
    Six (put6 wb p a' b' c' d' e' f') p a' b' c' d' e' f' ∧ (∃ b, RdU (put6 wb p a' b' c' d' e' f') ra b 0 S'.length S') ∧ (∃ b, RdS (put6 wb p a' b' c' d' e' f') ta b 0 D'.length D') ∧ Below w0.heap.size w0 (put6 wb p a' b' c' d' e' f') := by
  have hch := put6_ch wb p a' b' c' d' e' f'
  exact ⟨x.put .., rdu_of (keep_row o1 fun g hg _ => hch.block g (own_ty o1 x (by decide) g hg)), rds_of (show OwnS _ _ _ _ from keep_row o2 fun g hg _ => hch.block g (own_ty o2 x (by decide) g hg)) hD, hb.trans (hch.below (by rintro b rfl; exact hp))⟩
set_option maxRecDepth 100000 in
set_option maxHeartbeats 2000000 in
theorem proves_no (w : World) (k : Int) (n : Nat) (la : Option Addr) (lb lo lc : Nat) (L : List ByteArray) (sa : Option Addr) (sb so sc : Nat) (S : List Nat) (h : Cs w k n la lb lo lc L sa sb so sc S) (hno : ¬ ((1 ≤ k ∧ k ≤ 32) ∧ ∀ s ∈ L.take 300, s.size ≤ 1048576)) :
    Calls Tryd.prog 5 #[vC k (.slice la L.length lc) n (.slice sa S.length sc)] w fun e w' => e = .returned (.bool true) ∧ Below w.heap.size w w' := by
  obtain ⟨o1, ho1⟩ : ∃ o1, oC k (.slice la L.length lc) n (.slice sa S.length sc) = o1 := ⟨_, rfl⟩
  have hb := bal (Below.refl w.heap.size w) o1
  have e1 : Cb (w.alloc o1) w.heap.size k (.slice la L.length lc) n (.slice sa S.length sc) := by rw [← ho1]; exact heap_alloc_new w _
  have HA := alive_any (w.alloc o1) (h.tb.next hb) (h.tr.next hb)
  have HH := hide (And.intro (h.next hb) (And.intro hb e1))
  rw [← ho1] at HA HH
  unfold oC at HA HH
  clear hb e1 ho1 h
  by_cases hk : 1 ≤ k ∧ k ≤ 32
  · have HF : Hid (∀ W, Below (w.alloc (oC k (.slice la L.length lc) n (.slice sa S.length sc))).heap.size (w.alloc (oC k (.slice la L.length lc) n (.slice sa S.length sc))) W → Calls Tryd.prog 9 #[vC k (.slice la L.length lc) n (.slice sa S.length sc)] W fun e w' => ∃ m, e = .returned (.pointer (some ⟨m + 1, 0, none⟩)) ∧ Below W.heap.size W w') := fun W hW => (cforest_ok W (HH.out.1.next hW).tb k hk.1 hk.2 la lb lo L.length lc L (HH.out.1.next hW).rl (by have := HH.out.1.lmax; omega) n sa S.length sc _ rfl).mono fun e w' ⟨m, h1, _, h3⟩ => ⟨m, h1, h3⟩
    have HG : Hid (∀ W, Below (w.alloc (oC k (.slice la L.length lc) n (.slice sa S.length sc))).heap.size (w.alloc (oC k (.slice la L.length lc) n (.slice sa S.length sc))) W → Calls Tryd.prog 10 #[vC k (.slice la L.length lc) n (.slice sa S.length sc)] W fun e w' => e = .returned (.bool false) ∧ Below W.heap.size W w') := fun W hW => cfit_any W k hk.1 hk.2 la lb lo L.length lc L (HH.out.1.next hW).rl (by have := HH.out.1.lmax; omega) n sa S.length sc false (decide_eq_false fun h => hno ⟨hk, h⟩)
    unfold oC vC at HF HG
    unfold vC
    clear hno hk
    go_enter Tryd.func5, Tryd.ntmps5
    go_wp2_with (first
      | (go_at_call 8; with_reducible refine HA.mono ?_; rintro e w1 ⟨rfl, hb1⟩; obtain ⟨c0, c1, c2, c3⟩ := (HH.out.2.2.next hb1).cells)
      | (go_at_call 9; with_reducible refine (HF.out _ hb1).mono ?_; rintro e w2 ⟨m, rfl, hb2⟩; obtain ⟨d0, d1, d2, d3⟩ := (HH.out.2.2.next (bnext hb1 hb2)).cells)
      | (go_at_call 10; with_reducible refine (HG.out _ (bnext hb1 hb2)).mono ?_; rintro e w3 ⟨rfl, hb3⟩))
    go_ret
    exact ⟨rfl, bnext (bnext (bnext HH.out.2.1 hb1) hb2) hb3⟩
  · have HF : Hid (∀ W, Calls Tryd.prog 9 #[vC k (.slice la L.length lc) n (.slice sa S.length sc)] W fun e w' => e = .returned (.pointer none) ∧ Below W.heap.size W w') := fun W => cforest_no W k (by omega) la L.length lc n sa S.length sc
    have HC : Hid (∀ W, Calls Tryd.prog 11 #[.int .i64 k] W fun e w' => e = .returned (.int .i64 70) ∧ W = w') := fun W => by
      have := refcheck_any W k
      rw [show chk k = 70 by rw [chk, if_pos (by omega)]] at this
      exact this.mono fun _ _ h => ⟨h.1, h.2.symm⟩
    unfold vC at HF
    unfold vC
    clear hno hk
    go_enter Tryd.func5, Tryd.ntmps5
    go_wp2_with (first
      | (go_at_call 8; with_reducible refine HA.mono ?_; rintro e w1 ⟨rfl, hb1⟩; obtain ⟨c0, c1, c2, c3⟩ := (HH.out.2.2.next hb1).cells)
      | (go_at_call 9; with_reducible refine (HF.out _).mono ?_; rintro e w2 ⟨rfl, hb2⟩; obtain ⟨d0, d1, d2, d3⟩ := (HH.out.2.2.next (bnext hb1 hb2)).cells)
      | (go_at_call 11; with_reducible refine (HC.out _).mono ?_; rintro e w3 ⟨rfl, rfl⟩))
    go_ret
    exact ⟨rfl, bnext (bnext HH.out.2.1 hb1) hb2⟩
set_option maxRecDepth 100000 in
set_option maxHeartbeats 4000000 in
theorem proves_yes (w : World) (k : Int) (n : Nat) (la : Option Addr) (lb lo lc : Nat) (L : List ByteArray) (sa : Option Addr) (sb so sc : Nat) (S : List Nat) (h : Cs w k n la lb lo lc L sa sb so sc S) (hk : 1 ≤ k ∧ k ≤ 32) (hfit : ∀ s ∈ L.take 300, s.size ≤ 1048576) :
    Calls Tryd.prog 5 #[vC k (.slice la L.length lc) n (.slice sa S.length sc)] w fun e w' => e = .returned (.bool true) ∧ Below w.heap.size w w' := by
  obtain ⟨o1, ho1⟩ : ∃ o1, oC k (.slice la L.length lc) n (.slice sa S.length sc) = o1 := ⟨_, rfl⟩
  have hb := bal (Below.refl w.heap.size w) o1
  have e1 : Cb (w.alloc o1) w.heap.size k (.slice la L.length lc) n (.slice sa S.length sc) := by rw [← ho1]; exact heap_alloc_new w _
  have HA := alive_any (w.alloc o1) (h.tb.next hb) (h.tr.next hb)
  have HH := hide (And.intro (h.next hb) (And.intro hb e1))
  rw [← ho1] at HA HH
  clear hb e1 ho1 h
  obtain ⟨L', hL'⟩ : ∃ L', L.take 300 = L' := ⟨_, rfl⟩
  rw [hL'] at hfit
  have hl3 : L'.length = min L.length 300 := by rw [← hL', List.length_take, Nat.min_comm]
  have HF : Hid (∀ W, Below (w.alloc (oC k (.slice la L.length lc) n (.slice sa S.length sc))).heap.size (w.alloc (oC k (.slice la L.length lc) n (.slice sa S.length sc))) W → Calls Tryd.prog 9 #[vC k (.slice la L.length lc) n (.slice sa S.length sc)] W fun e w' => ∃ m, e = .returned (.pointer (some ⟨m + 1, 0, none⟩)) ∧ Frs w' m k L' ∧ Below W.heap.size W w') := fun W hW => cforest_ok W (HH.out.1.next hW).tb k hk.1 hk.2 la lb lo L.length lc L (HH.out.1.next hW).rl (by have := HH.out.1.lmax; omega) n sa S.length sc _ (by rw [hL']; exact tk_self hfit)
  have HG : Hid (∀ W, Below (w.alloc (oC k (.slice la L.length lc) n (.slice sa S.length sc))).heap.size (w.alloc (oC k (.slice la L.length lc) n (.slice sa S.length sc))) W → Calls Tryd.prog 10 #[vC k (.slice la L.length lc) n (.slice sa S.length sc)] W fun e w' => e = .returned (.bool true) ∧ Below W.heap.size W w') := fun W hW => cfit_any W k hk.1 hk.2 la lb lo L.length lc L (HH.out.1.next hW).rl (by have := HH.out.1.lmax; omega) n sa S.length sc true (decide_eq_true (by rw [hL']; exact hfit))
  have HRm : Hid (∀ W, Below (w.alloc (oC k (.slice la L.length lc) n (.slice sa S.length sc))).heap.size (w.alloc (oC k (.slice la L.length lc) n (.slice sa S.length sc))) W → Calls Tryd.prog 18 #[.slice sa S.length sc] W fun e w' => ∃ g c, e = .returned (.slice (some ⟨g, 0, none⟩) S.length c) ∧ Kp w' g c S ∧ Below W.heap.size W w') := fun W hW => (roomy_any W sa sb so sc S (HH.out.1.next hW).rs HH.out.1.snil HH.out.1.smax).mono fun e w' ⟨g, c, h1, h2, h3, h4⟩ => ⟨g, c, h1, kp_own h2 h3, h4⟩
  obtain ⟨kd, k', o, sz, S', D', e0, hS', hD', hDs, HP, HR⟩ := both k L' hfit (by omega) n S HH.out.1.smax
  have HPr := hide HP
  clear HP
  have HIt : Hid (∀ W, Calls Tryd.prog 13 #[vC k (.slice la L.length lc) n (.slice sa S.length sc)] W fun e w' => e = .returned (.slice la L'.length lc) ∧ Below W.heap.size W w') := fun W => citems_any W k la L.length lc n HH.out.1.lcap sa S.length sc L'.length hl3.symm
  have hLe : L.take L'.length = L' := by rw [hl3, Nat.min_comm, ← List.take_eq_take_min]; exact hL'
  have HRf : Hid (∀ W, Below (w.alloc (oC k (.slice la L.length lc) n (.slice sa S.length sc))).heap.size (w.alloc (oC k (.slice la L.length lc) n (.slice sa S.length sc))) W → Calls Tryd.prog 19 #[.int .i64 k, .slice la L'.length lc, .int .u64 (n : Int), .slice sa S.length sc] W (PfE W kd k' o sz S' D' e0)) := fun W hW => by
    have hC := HH.out.1.next hW
    have hc1 := HH.out.1.lcap
    exact HR W la lb lo lc sa sb so sc hC.tr (by have := hC.rl.take (n := L'.length) (by omega); rwa [hLe] at this) (by omega) hC.rs
  have HKe : Hid (∀ W g c, Kp W g c S → RdU W sa sb so S.length S → Calls Tryd.prog 21 #[.slice (some ⟨g, 0, none⟩) S.length c, .slice sa S.length sc] W fun e w' => e = .returned (.bool true) ∧ Below W.heap.size W w') := fun W g c h1 h2 => kept_any W g c sa sb so sc S h1 h2 HH.out.1.smax
  have HSm : Hid (∀ W ba bb bc bd be bf ca cb cc cd ce cf, RdU W ba bb 0 S'.length S' → RdU W ca cb 0 S'.length S' → RdS W bd be 0 D'.length D' → RdS W cd ce 0 D'.length D' → Calls Tryd.prog 20 #[.agg #[.int .i64 kd, .int .i64 k', .int .u64 (o : Int), .int .u64 (sz : Int), .slice ba S'.length bc, .slice bd D'.length bf], .agg #[.int .i64 kd, .int .i64 k', .int .u64 (o : Int), .int .u64 (sz : Int), .slice ca S'.length cc, .slice cd D'.length cf]] W fun e w' => e = .returned (.bool true) ∧ Below W.heap.size W w') := fun W ba bb bc bd be bf ca cb cc cd ce cf u1 u2 d1 d2 => same_yes W kd k' o sz ba bb 0 bc ca cb 0 cc S' u1 u2 (by omega) bd be 0 bf cd ce 0 cf D' d1 d2 (by omega)
  unfold oC at HA HH
  unfold oC vC at HF HG
  unfold oC at HRm HRf
  unfold PfE at HPr HRf
  unfold vC at HIt
  unfold vC
  clear hk hfit hL' hl3 hLe hS' hD' hDs HR
  go_enter Tryd.func5, Tryd.ntmps5
  go_upto_region 8 with (first
    | (go_at_call 8; with_reducible refine HA.mono ?_; rintro e w1 ⟨rfl, hb1⟩; obtain ⟨c0, c1, c2, c3⟩ := (HH.out.2.2.next hb1).cells)
    | (go_at_call 9; with_reducible refine (HF.out _ hb1).mono ?_; rintro e w2 ⟨m, rfl, hF2, hb2⟩; obtain ⟨d0, d1, d2, d3⟩ := (HH.out.2.2.next (bnext hb1 hb2)).cells)
    | (go_at_call 10; with_reducible refine (HG.out _ (bnext hb1 hb2)).mono ?_; rintro e w3 ⟨rfl, hb3⟩; obtain ⟨f0, f1, f2, f3⟩ := (HH.out.2.2.next (bnext (bnext hb1 hb2) hb3)).cells)
    | (go_at_call 18; with_reducible refine (HRm.out _ (bnext (bnext hb1 hb2) hb3)).mono ?_; rintro e w4 ⟨g, c, rfl, hK4, hb4⟩; obtain ⟨g0, g1, g2, g3⟩ := (HH.out.2.2.next (bnext (bnext (bnext hb1 hb2) hb3) hb4)).cells)
    | (go_at_call 12; with_reducible refine (HPr.out _ _ _ _ _ _ (hF2.next (bnext hb3 hb4) (Nat.le_refl _)) hK4.rd).mono ?_; rintro e w5 ⟨pa, pb, pc, qa, qb, qc, rfl, hU, hR, _, _, hb5⟩))
  have h6 := six_new w5 (.int .i64 kd) (.int .i64 k') (.int .u64 (o : Int)) (.int .u64 (sz : Int)) (.slice pa S'.length pc) (.slice qa D'.length qc)
  have hb6 := bal (Below.refl w5.heap.size w5) (.cells #[.int .i64 kd, .int .i64 k', .int .u64 (o : Int), .int .u64 (sz : Int), .slice pa S'.length pc, .slice qa D'.length qc] 32)
  obtain ⟨w6, hw6⟩ : ∃ w6, w5.alloc (.cells #[.int .i64 kd, .int .i64 k', .int .u64 (o : Int), .int .u64 (sz : Int), .slice pa S'.length pc, .slice qa D'.length qc] 32) = w6 := ⟨_, rfl⟩
  rw [hw6] at h6 hb6 ⊢
  have hb16 := bnext (bnext (bnext (bnext hb1 hb2) hb3) hb4) (bnext hb5 hb6)
  have HK : Hid (∀ W, Below w6.heap.size w6 W → Cs W k n la lb lo lc L sa sb so sc S ∧ Cb W w.heap.size k (.slice la L.length lc) n (.slice sa S.length sc) ∧ Six W w5.heap.size (.int .i64 kd) (.int .i64 k') (.int .u64 (o : Int)) (.int .u64 (sz : Int)) (.slice pa S'.length pc) (.slice qa D'.length qc) ∧ RdU W pa pb 0 S'.length S' ∧ RdS W qa qb 0 D'.length D' ∧ Kp W g c S ∧ Below w.heap.size w W) := fun W hW =>
    ⟨HH.out.1.next (bnext hb16 hW), HH.out.2.2.next (bnext hb16 hW), h6.next hW, hU.next (bnext hb6 hW), hR.next (bnext hb6 hW) (Nat.le_refl _), hK4.next (bnext hb5 (bnext hb6 hW)), bnext HH.out.2.1 (bnext hb16 hW)⟩
  have HRg : Hid (∀ W, Below w6.heap.size w6 W → Calls Tryd.prog 19 #[.int .i64 k, .slice la L'.length lc, .int .u64 (n : Int), .slice sa S.length sc] W fun e w' => ∃ sa sb sc da db dc, e = .returned (.tuple #[.agg #[.int .i64 kd, .int .i64 k', .int .u64 (o : Int), .int .u64 (sz : Int), .slice sa S'.length sc, .slice da D'.length dc], .int .i64 (e0 : Int)]) ∧ RdU w' sa sb 0 S'.length S' ∧ RdS w' da db 0 D'.length D' ∧ Cv.Own w' W.heap.size (.slice sa S'.length sc) S' ∧ OwnS w' W.heap.size (.slice da D'.length dc) D' ∧ Below W.heap.size W w') := fun W hW => HRf.out W (bnext hb16 hW)
  have HKd : Hid (∀ Z, Below w6.heap.size w6 Z → Z.cell? ⟨w.heap.size, 0, none⟩ = some (.int .i64 k) ∧ Z.cell? ⟨w.heap.size, 1, none⟩ = some (.slice la L.length lc) ∧ Z.cell? ⟨w.heap.size, 2, none⟩ = some (.int .u64 (n : Int)) ∧ Z.cell? ⟨w.heap.size, 3, none⟩ = some (.slice sa S.length sc)) := fun Z hZ => (HK.out Z hZ).2.1.cells
  generalize w5.heap.size = q5 at *
  clear hw6 h6 hb6 hb16 hU hR hK4 hb1 hb2 hb3 hb4 hb5 c0 c1 c2 c3 d0 d1 d2 d3 f0 f1 f2 f3 g0 g1 g2 g3 hF2 HF HG HPr HA HH HRm HRf
  obtain ⟨c0, c1, c2, c3⟩ := HKd.out w6 (Below.refl _ _)
  go_cut [7, 8] from 39 to 51 (fun x e wx => e = .int .i64 (e0 : Int) ∧ ∃ q7 ra rb rc ta tb tc, x = .pointer (some ⟨q7, 0, none⟩) ∧ Six wx q7 (.int .i64 kd) (.int .i64 k') (.int .u64 (o : Int)) (.int .u64 (sz : Int)) (.slice ra S'.length rc) (.slice ta D'.length tc) ∧ RdU wx ra rb 0 S'.length S' ∧ RdS wx ta tb 0 D'.length D' ∧ Below w6.heap.size w6 wx)
  case first =>
    go_region_held3 (fun Z => Z.cell? ⟨w.heap.size, 0, none⟩ = some (.int .i64 k) ∧ Z.cell? ⟨w.heap.size, 1, none⟩ = some (.slice la L.length lc) ∧ Z.cell? ⟨w.heap.size, 2, none⟩ = some (.int .u64 (n : Int)) ∧ Z.cell? ⟨w.heap.size, 3, none⟩ = some (.slice sa S.length sc))
      (exact HKd.out _ (by repeat (first | with_reducible refine below_put ?_ (by first | exact Nat.le_refl _ | exact s1) | with_reducible refine bal ?_ _ | with_reducible refine Below.drew ?_ | with_reducible exact Below.refl _ _ | with_reducible exact hbb6 | with_reducible exact hba6))) (first
      | (go_at_call 13; with_reducible refine (HIt.out _).mono ?_; rintro e wa ⟨rfl, hba⟩
         have hba6 : Below w6.heap.size w6 wa := by first | exact bnext (Below.refl _ _).drew hba | exact bnext (bal (Below.refl _ _) _).drew hba
         have s1 := hba6.size
         first | (have y1 := (six_newd w6 _ _ _ _ _ _).next hba) | skip)
      | (go_at_call 19; with_reducible refine (HRg.out _ (by repeat (first | with_reducible refine bal ?_ _ | with_reducible exact hba6))).mono ?_; rintro e wb ⟨ra, rb, rc, ta, tb, tc, rfl, hU7, hR7, hO7, hO8, hbb⟩
         have hbb6 : Below w6.heap.size w6 wb := by first | exact bnext hba6 hbb | exact bnext (bal hba6 _) hbb
         have s2 := hbb.size
         try rw [World.size_alloc] at s2
         first | (have x1 := y1.next hbb) | (have x1 := (six_new wa _ _ _ _ _ _).next hbb) | skip
         try have v1 := x1.lt
         try obtain ⟨k0, k1, k2, k3, k4, k5⟩ := x1.cells
         try have kf := x1.fz))
    all_goals
      go_wp2
      go_meet
      case rel =>
        go_light
        first
          | with_reducible exact ⟨rfl, _, ra, rb, rc, ta, tb, tc, rfl, six_new wb _ _ _ _ _ _, hU7.next (bal (Below.refl _ _) _), hR7.next (bal (Below.refl _ _) _) (Nat.le_refl _), bal hbb6 _⟩
          | (have hpp := pf_put x1 hO7 hO8 hR7.sz hbb6 (by first | exact Nat.le_refl _ | exact s1) (.int .i64 kd) (.int .i64 k') (.int .u64 (o : Int)) (.int .u64 (sz : Int)) (.slice ra S'.length rc) (.slice ta D'.length tc)
             unfold put6 at hpp
             obtain ⟨p1, ⟨rb', p2⟩, ⟨tb', p3⟩, p4⟩ := hpp
             with_reducible exact ⟨rfl, _, ra, rb', rc, ta, tb', tc, rfl, p1, p2, p3, p4⟩)
  case rest =>
    obtain ⟨rfl, q7, ra, rb, rc, ta, tb, tc, rfl, h7, hU7, hR7, hb7⟩ := hcut
    have hK := HK.out wc hb7
    obtain ⟨c0, c1, c2, c3⟩ := hK.2.1.cells
    obtain ⟨s0, s1, s2, s3, s4, s5⟩ := hK.2.2.1.cells
    obtain ⟨t0, t1, t2, t3, t4, t5⟩ := h7.cells
    have HS1 := HSm.out wc pa pb pc qa qb qc ra rb rc ta tb tc hK.2.2.2.1 hU7 hK.2.2.2.2.1 hR7
    have HB7 := hide hb7
    clear hK hb7 h7 hU7 hR7 HSm HKd HRg HIt
    go_wp2_with (first
      | (go_at_call 20; with_reducible refine HS1.mono ?_; rintro e w8 ⟨rfl, hb8⟩; have hK8 := HK.out w8 (bnext HB7.out hb8); obtain ⟨d0, d1, d2, d3⟩ := hK8.2.1.cells)
      | (go_at_call 21; with_reducible refine (HKe.out _ _ _ hK8.2.2.2.2.2.1 hK8.1.rs).mono ?_; rintro e w9 ⟨rfl, hb9⟩))
    go_ret
    exact ⟨rfl, (HK.out w9 (bnext (bnext HB7.out hb8) hb9)).2.2.2.2.2.2⟩
theorem proves_walk (w : World) (k : Int) (n : Nat) (la : Option Addr) (lb lo lc : Nat) (L : List ByteArray) (sa : Option Addr) (sb so sc : Nat) (S : List Nat) (h : Cs w k n la lb lo lc L sa sb so sc S) :
    Calls Tryd.prog 5 #[vC k (.slice la L.length lc) n (.slice sa S.length sc)] w fun e w' => e = .returned (.bool true) ∧ Below w.heap.size w w' := by
  by_cases h1 : (1 ≤ k ∧ k ≤ 32) ∧ ∀ s ∈ L.take 300, s.size ≤ 1048576
  · exact proves_yes w k n la lb lo lc L sa sb so sc S h h1.1 h1.2
  · exact proves_no w k n la lb lo lc L sa sb so sc S h h1
end Go.Proofs.YtnbejijpmeklaaaDoor
