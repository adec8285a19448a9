/-
  BLawB, BSame, BUpS, BUp, BPk, BKn, BFm, BRr, BRoots, BRootsR in one text. Own work.
-/
import Derived.Test.YtnbejijpmeklaaaDoorBAlive
import Derived.Test.YtnbejijpmeklaaaDoorBWalkF
import Derived.Test.YtnbejijpmeklaaaDoorHRefB
import Derived.Test.YtnbejijpmeklaaaDoorBWalkE
import Derived.Test.YtnbejijpmeklaaaDoorCvRefE
import Derived.Deep.RegionHeld3
import Derived.Test.YtnbejijpmeklaaaDoorPlan2
import Derived.Test.YtnbejijpmeklaaaDoorBRow
/-
  The statements' own functions: roomy, kept. Own work.
-/
namespace Go.Proofs.YtnbejijpmeklaaaDoor
open Go.RowKit
open Cv (RdC zl cU)
attribute [local go_sem ↓] Go.wp_at_zero Go.wp_at_succ
theorem getD_app0 (S : List Nat) (x : Nat) : (S ++ [x]).getD S.length 0 = x := by
  have := getD_app 0 S [x] 0
  rwa [Nat.add_zero] at this
set_option maxRecDepth 100000 in
set_option maxHeartbeats 1000000 in
theorem roomy_any (w : World) (sa : Option Addr) (sb so sc : Nat) (S : List Nat) (rs : RdU w sa sb so S.length S) (hns : sa = none → sc = 0) (hS : S.length ≤ 17592186043904) :
    Calls Tryd.prog 18 #[.slice sa S.length sc] w fun e w' => ∃ g c, e = .returned (.slice (some ⟨g, 0, none⟩) S.length c) ∧ Cv.Own w' w.heap.size (.slice (some ⟨g, 0, none⟩) (S.length + 1) c) (S ++ [77]) ∧ S.length + 1 ≤ c ∧ Below w.heap.size w w' := by
  obtain ⟨u0, hu1, hu2, hu3, hu4⟩ := info_parts Cv.Tryd.infoU
  have HU : Hid (Tryd.prog.info? 23 = some u0 ∧ u0.zero = some (.int .u64 0) ∧ u0.size = 1 ∧ u0.bytes = 8) := ⟨hu1, hu2, hu3, hu4⟩
  have HX := hide hS
  have HR := hide (rdu_rdc rs hns)
  have hS63 : (S.length : Int) ≤ 17592186043904 := by omega
  clear rs hns hS hu1 hu2 hu3 hu4
  go_enter Tryd.func18, Tryd.ntmps18
  go_wp2_with (at_builtin; refine Cv.wpList_append_ap _ rfl _ _ _ rfl w.heap.size 23 u0 (.int .u64 0) 1 8 Tryd.underlying24 HU.out.1 HU.out.2.1 HU.out.2.2.1 HU.out.2.2.2 rfl (by decide) _ 0 [] rfl (World.ownsRow_nil _ _ _ _) _ S.length (cU S) rfl HR.out (by simp [cU]) (Cv.cU_one S) ?c1 ?c2 (Nat.le_refl _) ?_)
  case c1 => have := HX.out; unfold maxLen; omega
  case c2 => have := HX.out; omega
  intro v1 w1 a1
  have hb1 : Below w.heap.size w w1 := (Cv.ownB_step0 (Below.refl _ _) (Nat.le_refl _) (World.ownsRow_nil w w.heap.size 23 1) a1.grown).1
  have HO1 : Hid (w1.ownsRow w.heap.size 23 1 v1 S.length (cU S)) := a1.own
  clear a1
  have HB1 := hide hb1
  clear hb1
  go_wp2_with (at_builtin; refine Cv.wpList_append_ap _ rfl _ _ _ rfl w.heap.size 23 u0 (.int .u64 0) 1 8 Tryd.underlying24 HU.out.1 HU.out.2.1 HU.out.2.2.1 HU.out.2.2.2 rfl (by decide) _ S.length (cU S) rfl (HO1.out.alloc _) _ 1 (cU [77]) rfl (Cv.rdc_num w1 77 23) rfl (Cv.cU_one [77]) ?c1 ?c2 ?c3 ?_)
  case c1 => have := HX.out; unfold maxLen; omega
  case c2 => have := HX.out; omega
  case c3 => have := HB1.out.size; simp; omega
  intro v2 w2 a2
  have hb2 : Below w.heap.size w w2 := (Cv.ownB_step HB1.out HB1.out.size HO1.out a2.grown).1
  have o2 : Cv.Own w2 w.heap.size v2 (S ++ [77]) := by
    have := a2.own
    rw [Cv.Own, List.length_append]
    simpa [cU] using this
  obtain ⟨g, c, rfl, _, hc, _⟩ := ownU_form o2 (by simp)
  rw [List.length_append, List.length_singleton] at hc o2
  have HO2 := hide (And.intro o2 (And.intro hc hb2))
  have hcz : (S.length : Int) ≤ (c : Int) := by omega
  clear a2 o2 hb2 HO1 HB1 HR
  go_wp2
  go_ret
  exact ⟨g, c, rfl, HO2.out.1, HO2.out.2.1, HO2.out.2.2⟩
/-- Numbers that stand, and the mark behind them. -/
structure Kp (w : World) (g c : Nat) (S : List Nat) : Prop where
  rd : RdU w (some ⟨g, 0, none⟩) g 0 S.length S
  mark : w.cell? ⟨g, S.length, none⟩ = some (.int .u64 77)
  cap : S.length + 1 ≤ c
theorem Kp.next {w W : World} {g c : Nat} {S : List Nat} (h : Kp w g c S) (hb : Below w.heap.size w W) : Kp W g c S :=
  ⟨h.rd.next hb, (hb.cell (p := ⟨g, S.length, none⟩) (World.block_lt_of_cell? w _ h.mark)).trans h.mark, h.cap⟩
theorem kp_own {w : World} {B g n c : Nat} {S : List Nat} (o : Cv.Own w B (.slice (some ⟨g, 0, none⟩) n c) (S ++ [77])) (hc : S.length + 1 ≤ c) : Kp w g c S := by
  refine ⟨own_rdu o, ?_, hc⟩
  have h := own_rdu (l := S ++ [77]) (l' := []) (by rw [List.append_nil]; exact o)
  have := h.at (j := S.length) (by simp)
  rwa [Nat.zero_add, getD_app0] at this
set_option maxRecDepth 100000 in
set_option maxHeartbeats 1000000 in
theorem kept_any (w : World) (g c : Nat) (sa : Option Addr) (sb so sc : Nat) (S : List Nat) (hk : Kp w g c S) (rs : RdU w sa sb so S.length S) (hS : S.length ≤ 17592186043904) :
    Calls Tryd.prog 21 #[.slice (some ⟨g, 0, none⟩) S.length c, .slice sa S.length sc] w fun e w' => e = .returned (.bool true) ∧ Below w.heap.size w w' := by
  have HK := hide (And.intro hk rs)
  have hS63 : (S.length : Int) ≤ 17592186043904 := by omega
  have hcz : (S.length : Int) + 1 ≤ (c : Int) := by have := hk.cap; omega
  clear hk rs hS
  go_enter Tryd.func21, Tryd.ntmps21
  go_wp2
  go_loopg [5] S.length (fun g i wr => ∃ j : Nat, j ≤ S.length ∧ g = S.length - j ∧ i = .int .i64 (j : Int) ∧ Hid (Below w.heap.size w wr))
  case atStart =>
    go_light
    exact ⟨0, Nat.zero_le _, rfl, rfl, Below.refl _ _⟩
  case round =>
    obtain ⟨j, hj, rfl, rfl, HB⟩ := hrel
    have h1 := HK.out.1.next HB.out
    have h2 := HK.out.2.next HB.out
    by_cases hlt : j < S.length
    · have hz : (j : Int) < (S.length : Int) := by omega
      have hz0 : (0 : Int) ≤ (j : Int) := Int.natCast_nonneg _
      obtain rfl := h2.ptr (by omega)
      have c1 := h1.rd.at hlt
      have c2 := h2.at hlt
      rw [Nat.zero_add] at c1
      obtain ⟨x, hx⟩ : ∃ x, S.getD j 0 = x := ⟨_, rfl⟩
      rw [hx] at c1 c2
      clear hx h1 h2
      go_wp2
      go_quiet (fail)
      go_wp2
      go_roundg (S.length - (j + 1))
      case rel =>
        go_light
        exact ⟨j + 1, by omega, rfl, by go_num, below_drewN HB.out _⟩
      case measure => go_light; omega
    · obtain rfl : j = S.length := by omega
      have hz : ¬ ((S.length : Int) < (S.length : Int)) := by omega
      have c1 := h1.mark
      have e1 : (S.length : Int) < (S.length : Int) + 1 := by omega
      clear h1 h2 hlt
      go_wp2
      go_ret
      exact ⟨rfl, HB.out⟩
end Go.Proofs.YtnbejijpmeklaaaDoor
/-
  The statements' own functions: Same says yes of like proofs; the reference's Rising. Own work.
-/
namespace Go.Proofs.YtnbejijpmeklaaaDoor
open Go.RowKit
open Cv (RdC zl cU Rd incB incB_iff)
attribute [local go_sem ↓] Go.wp_at_zero Go.wp_at_succ
set_option maxRecDepth 100000 in
set_option maxHeartbeats 1000000 in
theorem same_yes (w : World) (kd k : Int) (old size : Nat) (sa : Option Addr) (sb so sc : Nat) (sa' : Option Addr) (sb' so' sc' : Nat) (S : List Nat) (u1 : RdU w sa sb so S.length S) (u2 : RdU w sa' sb' so' S.length S) (hS : S.length ≤ 4611686018427387904) (da : Option Addr) (db dO dc : Nat) (da' : Option Addr) (db' dO' dc' : Nat) (D : List ByteArray) (d1 : RdS w da db dO D.length D) (d2 : RdS w da' db' dO' D.length D) (hD : D.length ≤ 4611686018427387904) :
    Calls Tryd.prog 20 #[.agg #[.int .i64 kd, .int .i64 k, .int .u64 (old : Int), .int .u64 (size : Int), .slice sa S.length sc, .slice da D.length dc], .agg #[.int .i64 kd, .int .i64 k, .int .u64 (old : Int), .int .u64 (size : Int), .slice sa' S.length sc', .slice da' D.length dc']] w fun e w' => e = .returned (.bool true) ∧ Below w.heap.size w w' := by
  obtain ⟨W0, hW0⟩ : ∃ W0, (w.alloc (.cells #[.int .i64 kd, .int .i64 k, .int .u64 (old : Int), .int .u64 (size : Int), .slice sa S.length sc, .slice da D.length dc] 32)).alloc (.cells #[.int .i64 kd, .int .i64 k, .int .u64 (old : Int), .int .u64 (size : Int), .slice sa' S.length sc', .slice da' D.length dc'] 32) = W0 := ⟨_, rfl⟩
  have hb : Below w.heap.size w W0 := by rw [← hW0]; exact bal (bal (Below.refl _ _) _) _
  have h6 : Six W0 w.heap.size (.int .i64 kd) (.int .i64 k) (.int .u64 (old : Int)) (.int .u64 (size : Int)) (.slice sa S.length sc) (.slice da D.length dc) := by rw [← hW0]; exact (six_new w _ _ _ _ _ _).next (bal (Below.refl _ _) _)
  have h7 : Six W0 (w.heap.size + 1) (.int .i64 kd) (.int .i64 k) (.int .u64 (old : Int)) (.int .u64 (size : Int)) (.slice sa' S.length sc') (.slice da' D.length dc') := by
    rw [← hW0]
    have := six_new (w.alloc (.cells #[.int .i64 kd, .int .i64 k, .int .u64 (old : Int), .int .u64 (size : Int), .slice sa S.length sc, .slice da D.length dc] 32)) (.int .i64 kd) (.int .i64 k) (.int .u64 (old : Int)) (.int .u64 (size : Int)) (.slice sa' S.length sc') (.slice da' D.length dc')
    rwa [World.size_alloc] at this
  have HS : Hid (∀ W, Below W0.heap.size W0 W → Six W w.heap.size (.int .i64 kd) (.int .i64 k) (.int .u64 (old : Int)) (.int .u64 (size : Int)) (.slice sa S.length sc) (.slice da D.length dc) ∧ Six W (w.heap.size + 1) (.int .i64 kd) (.int .i64 k) (.int .u64 (old : Int)) (.int .u64 (size : Int)) (.slice sa' S.length sc') (.slice da' D.length dc') ∧ RdU W sa sb so S.length S ∧ RdU W sa' sb' so' S.length S ∧ RdS W da db dO D.length D ∧ RdS W da' db' dO' D.length D ∧ Below w.heap.size w W) := fun W hW =>
    ⟨h6.next hW, h7.next hW, u1.next (bnext hb hW), u2.next (bnext hb hW), d1.next (bnext hb hW) (Nat.le_refl _), d2.next (bnext hb hW) (Nat.le_refl _), bnext hb hW⟩
  have hS63 : (S.length : Int) ≤ 4611686018427387904 := by omega
  have hD63 : (D.length : Int) ≤ 4611686018427387904 := by omega
  obtain ⟨e0, e1, e2, e3, e4, e5⟩ := h6.cells
  obtain ⟨k0, k1, k2, k3, k4, k5⟩ := h7.cells
  clear u1 u2 d1 d2 h6 h7 hb
  go_enter Tryd.func20, Tryd.ntmps20
  go_upto_region 1 with (fail)
  try rw [hW0]
  clear hW0
  go_wp2
  go_loopg [5] S.length (fun g x wr => ∃ j : Nat, j ≤ S.length ∧ g = S.length - j ∧ x = .int .i64 (j : Int) ∧ Below W0.heap.size W0 wr)
  case atStart =>
    go_light
    exact ⟨0, Nat.zero_le _, rfl, rfl, Below.refl _ _⟩
  case round =>
    clear e0 e1 e2 e3 e4 e5 k0 k1 k2 k3 k4 k5
    obtain ⟨j, hj, rfl, rfl, hb⟩ := hrel
    obtain ⟨s1, s2, s3, s4, s5, s6, s7⟩ := HS.out wr hb
    obtain ⟨e0, e1, e2, e3, e4, e5⟩ := s1.cells
    obtain ⟨k0, k1, k2, k3, k4, k5⟩ := s2.cells
    have HB := hide hb
    by_cases hlt : j < S.length
    · have hz : (j : Int) < (S.length : Int) := by omega
      have hz0 : (0 : Int) ≤ (j : Int) := Int.natCast_nonneg _
      obtain rfl := s3.ptr (by omega)
      obtain rfl := s4.ptr (by omega)
      have c1 := s3.at hlt
      have c2 := s4.at hlt
      generalize S.getD j 0 = v at *
      clear s1 s2 s3 s4 s5 s6 s7 hb
      go_upto_region 6 with (fail)
      go_quiet (fail)
      go_wp2
      go_roundg (S.length - (j + 1))
      case rel =>
        go_light
        exact ⟨j + 1, by omega, rfl, by go_num, below_drewN HB.out _⟩
      case measure => go_light; omega
    · obtain rfl : j = S.length := by omega
      have hz : ¬ ((S.length : Int) < (S.length : Int)) := by omega
      clear s1 s2 s3 s4 s5 s6 s7 hb hlt
      generalize wr = wo at *
      clear wr
      go_wp2
      go_loopg [6] D.length (fun g x wr => ∃ j : Nat, j ≤ D.length ∧ g = D.length - j ∧ x = .int .i64 (j : Int) ∧ Below W0.heap.size W0 wr)
      case atStart =>
        go_light
        exact ⟨0, Nat.zero_le _, rfl, rfl, HB.out⟩
      case round =>
        clear e0 e1 e2 e3 e4 e5 k0 k1 k2 k3 k4 k5
        obtain ⟨j, hj, rfl, rfl, hb⟩ := hrel
        obtain ⟨s1, s2, s3, s4, s5, s6, s7⟩ := HS.out wr hb
        obtain ⟨e0, e1, e2, e3, e4, e5⟩ := s1.cells
        obtain ⟨k0, k1, k2, k3, k4, k5⟩ := s2.cells
        have HB := hide hb
        have HF := hide s7
        by_cases hlt : j < D.length
        · have hz : (j : Int) < (D.length : Int) := by omega
          have hz0 : (0 : Int) ≤ (j : Int) := Int.natCast_nonneg _
          obtain rfl := s5.ptr (by omega)
          obtain rfl := s6.ptr (by omega)
          have c1 := s5.at hlt
          have c2 := s6.at hlt
          generalize D.getD j ByteArray.empty = v at *
          clear s1 s2 s3 s4 s5 s6 s7 hb
          go_upto_region 11 with (fail)
          go_quiet (fail)
          go_wp2
          go_roundg (D.length - (j + 1))
          case rel =>
            go_light
            exact ⟨j + 1, by omega, rfl, by go_num, below_drewN HB.out _⟩
          case measure => go_light; omega
        · obtain rfl : j = D.length := by omega
          have hz : ¬ ((D.length : Int) < (D.length : Int)) := by omega
          clear s1 s2 s3 s4 s5 s6 s7 hb hlt
          go_wp2
          go_ret
          exact ⟨rfl, HF.out⟩
theorem refrising_any (w : World) (ao : Option Addr) (b off n cap : Nat) (l : List Nat) (r : Rd w ao b off n l) (hn : n ≤ maxLen) :
    Calls Tryd.prog 42 #[.slice ao n cap] w fun e w' => e = .returned (.bool (incB l)) ∧ Below w.heap.size w w' := by
  have hn' : (n : Int) ≤ 9223372036854775807 := by unfold maxLen at hn; omega
  have HR : Hid (Rd w ao b off n l) := r
  clear hn r
  go_enter Tryd.func42, Tryd.ntmps42
  go_wp2
  go_loopg [3] n (fun g i wr => ∃ k : Nat, (k ≤ n ∨ k = 1) ∧ 1 ≤ k ∧ g = n + 1 - k ∧ i = .int .i64 (k : Int) ∧ (∀ j, j + 1 < k → l.getD j 0 < l.getD (j + 1) 0) ∧ Below w.heap.size w wr)
  case atStart =>
    go_light
    exact ⟨1, .inr rfl, Nat.le_refl _, by omega, rfl, fun j hj => absurd hj (by omega), Below.refl _ _⟩
  case round =>
    obtain ⟨k, hk, hk1, rfl, rfl, he, hb⟩ := hrel
    have hk0 : (0 : Int) ≤ (k : Int) := Int.natCast_nonneg _
    by_cases hlt : k < n
    · obtain ⟨i, rfl⟩ : ∃ i, k = i + 1 := ⟨k - 1, by omega⟩
      have r1 := HR.out.below hb
      obtain rfl := r1.addr (by omega)
      have c1 := r1.cell (i + 1) hlt
      have c2 := r1.cell i (by omega)
      have hz : ((i + 1 : Nat) : Int) < (n : Int) := by omega
      have ei : (((i + 1 : Nat) : Int) - 1) = (i : Int) := by omega
      have ec : ((i + 1 : Nat) : Int) = (i : Int) + 1 := by omega
      have hz2 : (i : Int) + 1 < (n : Int) := by omega
      have hz3 : (i : Int) < (n : Int) := by omega
      have hi0 : (0 : Int) ≤ (i : Int) := Int.natCast_nonneg _
      have hi1 : (0 : Int) ≤ (i : Int) + 1 := by omega
      have HB : Hid (Below w.heap.size w wr) := hb
      have HE : Hid (∀ j, j + 1 < i + 1 → l.getD j 0 < l.getD (j + 1) 0) := he
      have HI : Hid (¬ l.getD i 0 < l.getD (i + 1) 0 → incB l = false) := fun hno => by
        cases hB : incB l with
        | false => rfl
        | true => exact absurd (((incB_iff l).1 hB).2 i (by have := HR.out.len; omega)) hno
      obtain ⟨x, hx⟩ : ∃ x, l.getD (i + 1) 0 = x := ⟨_, rfl⟩
      obtain ⟨y, hy⟩ : ∃ y, l.getD i 0 = y := ⟨_, rfl⟩
      rw [hx] at c1
      rw [hy] at c2
      rw [hx, hy] at HI
      have HX : Hid (l.getD (i + 1) 0 = x ∧ l.getD i 0 = y) := ⟨hx, hy⟩
      have hlt2 : i + 1 < n := hlt
      clear hx hy r1 hb he hk hlt
      by_cases hxy : x ≤ y
      · have HN : Hid (incB l = false) := HI.out (by omega)
        go_wp2
        go_quiet (fail)
        go_wp2
        go_ret
        exact ⟨by rw [HN.out]; rfl, below_drewN HB.out _⟩
      · go_wp2
        go_quiet (fail)
        go_wp2
        go_roundg (n + 1 - (i + 1 + 1))
        case rel =>
          go_light
          refine ⟨i + 1 + 1, by omega, by omega, rfl, by go_num, fun j hj => ?_, below_drewN HB.out _⟩
          by_cases hjk : j = i
          · subst hjk; rw [HX.out.1, HX.out.2]; omega
          · exact HE.out j (by omega)
        case measure => go_light; omega
    · have hz : ¬ (k : Int) < (n : Int) := by omega
      have hz' : ¬ k < n := by omega
      have HN : Hid (decide ((0 : Int) < (n : Int)) = incB l) := by
        have hl := HR.out.len
        cases hB : incB l with
        | true => have := ((incB_iff l).1 hB).1; exact decide_eq_true (by omega)
        | false =>
          refine decide_eq_false (fun hp => ?_)
          have : incB l = true := (incB_iff l).2 ⟨by omega, fun i hi => he i (by omega)⟩
          rw [this] at hB; cases hB
      have HB : Hid (Below w.heap.size w wr) := hb
      clear he hb hk
      go_wp2
      go_ret
      refine ⟨?_, HB.out⟩
      have := HN.out
      simp at this ⊢
      exact this
end Go.Proofs.YtnbejijpmeklaaaDoor
/-
  What the blocks that are known tell, as the document finds it. Own work.
-/
namespace Go.Proofs.YtnbejijpmeklaaaDoor
open Pl (pw pw_succ pw_pos pw_zero)
open Cv (tno All Til But)
/-- A block and its digest. -/
abbrev He : Type := (Nat × Nat) × ByteArray
/-- One digest a block. -/
def Fn (K : List He) : Prop := ∀ e ∈ K, ∀ e' ∈ K, e.1 = e'.1 → e.2 = e'.2
/-- Does a block lie below another? -/
def insB (h k : Nat) (e : He) : Bool := decide (e.1.1 < h) && decide (e.1.2 / 2 ^ (h - e.1.1) = k)
theorem Fn.filter {K : List He} (h : Fn K) (p : He → Bool) : Fn (K.filter p) := fun e he e' he' => h e (List.mem_filter.1 he).1 e' (List.mem_filter.1 he').1
theorem up_div {a h x k : Nat} (ha : a ≤ h) (hx : x / 2 ^ (h - a) = k) : x / 2 ^ (h + 1 - a) = k / 2 := by
  rw [show h + 1 - a = (h - a) + 1 by omega, Nat.pow_succ, ← Nat.div_div_eq_div_mul, hx]
theorem Tl.some {c : Nat} {K : List He} {h k : Nat} {v : ByteArray} (ht : Tl c K h k v) (hf : Fn K) : ∀ e ∈ K, e.1 = (h, k) → e.2 = v := by
  intro e he h1
  cases h with
  | zero => exact hf e he _ ht h1
  | succ h =>
    rcases ht with ht | ⟨hno, _⟩
    · exact hf e he _ ht h1
    · exact absurd (show ((h + 1, k), e.2) ∈ K by rw [← h1]; exact he) (hno e.2)
theorem Tl.keep {c : Nat} {K : List He} {p : He → Bool} : ∀ {h k : Nat} {v : ByteArray}, Tl c K h k v → (∀ e ∈ K, e.1.1 ≤ h → e.1.2 / 2 ^ (h - e.1.1) = k → p e = true) → Tl c (K.filter p) h k v := by
  intro h
  induction h with
  | zero =>
    intro k v ht hp
    exact List.mem_filter.2 ⟨ht, hp _ ht (Nat.le_refl _) (by simp)⟩
  | succ h ih =>
    intro k v ht hp
    rcases ht with ht | ⟨hno, x, y, hx, hy, hv⟩
    · exact .inl (List.mem_filter.2 ⟨ht, hp _ ht (Nat.le_refl _) (by simp)⟩)
    · refine .inr ⟨fun u hu => hno u (List.mem_filter.1 hu).1, x, y, ih hx fun e he h1 h2 => hp e he (by omega) ?_, ih hy fun e he h1 h2 => hp e he (by omega) ?_, hv⟩
      · rw [up_div h1 h2]; omega
      · rw [up_div h1 h2]; omega
theorem Tl.mem {c : Nat} {K : List He} : ∀ {h k : Nat} {v : ByteArray}, Tl c K h k v → ∃ e, e ∈ K := by
  intro h
  induction h with
  | zero => intro k v ht; exact ⟨_, ht⟩
  | succ h ih =>
    intro k v ht
    rcases ht with ht | ⟨_, x, y, hx, _⟩
    · exact ⟨_, ht⟩
    · exact ih hx
theorem Tl.size {c : Nat} (hc : c ≤ 32) {K : List He} (hK : ∀ e ∈ K, e.2.size ≤ 32) : ∀ {h k : Nat} {v : ByteArray}, Tl c K h k v → v.size ≤ 32 := by
  intro h k v ht
  cases h with
  | zero => exact hK _ ht
  | succ h =>
    rcases ht with ht | ⟨_, x, y, _, _, rfl⟩
    · exact hK _ ht
    · rw [dg_size hc]; exact hc
/-- Where nothing known is the block itself: both its halves, out of what lies below. -/
theorem Tl.down {c : Nat} {K : List He} {h k : Nat} {v : ByteArray} (ht : Tl c K h k v) (hno : ∀ e ∈ K, e.1 ≠ (h, k)) : ∃ g x y, h = g + 1 ∧ v = dg c (nodeT x y) ∧ Tl c (K.filter (insB (g + 1) k)) g (2 * k) x ∧ Tl c (K.filter (insB (g + 1) k)) g (2 * k + 1) y := by
  cases h with
  | zero => exact absurd rfl (hno _ ht)
  | succ g =>
    rcases ht with ht | ⟨_, x, y, hx, hy, hv⟩
    · exact absurd rfl (hno _ ht)
    · refine ⟨g, x, y, rfl, hv, hx.keep fun e he h1 h2 => ?_, hy.keep fun e he h1 h2 => ?_⟩
      · rw [insB, Bool.and_eq_true]; exact ⟨decide_eq_true (by omega), decide_eq_true (by rw [up_div h1 h2]; omega)⟩
      · rw [insB, Bool.and_eq_true]; exact ⟨decide_eq_true (by omega), decide_eq_true (by rw [up_div h1 h2]; omega)⟩
/-- The blocks that a batch and its items tell. -/
def knS (c : Nat) (S : List Nat) (X : List ByteArray) : List He := (S.zip X).map fun p => ((0, p.1), dg c (leafT p.2))
theorem knS_len (c : Nat) (S : List Nat) (X : List ByteArray) (h : X.length = S.length) : (knS c S X).length = S.length := by
  rw [knS, List.length_map, List.length_zip, h, Nat.min_self]
theorem knS_at (c : Nat) {S : List Nat} {X : List ByteArray} (h : X.length = S.length) {j : Nat} (hj : j < S.length) : (knS c S X)[j]? = some ((0, S.getD j 0), dg c (leafT (X.getD j ByteArray.empty))) := by
  have hz : (S.zip X)[j]? = some (S[j], X[j]'(by omega)) := List.getElem?_zip_eq_some.2 ⟨List.getElem?_eq_getElem hj, List.getElem?_eq_getElem (show j < X.length by omega)⟩
  rw [knS, List.getElem?_map, hz, List.getD_eq_getElem?_getD, List.getElem?_eq_getElem hj, List.getD_eq_getElem?_getD, List.getElem?_eq_getElem (show j < X.length by omega)]
  rfl
theorem zip_at {R : List (Nat × Nat)} {D : List ByteArray} (h : D.length = R.length) {j : Nat} (hj : j < R.length) : (R.zip D)[j]? = some (R.getD j (0, 0), D.getD j ByteArray.empty) := by
  have hz : (R.zip D)[j]? = some (R[j], D[j]'(by omega)) := List.getElem?_zip_eq_some.2 ⟨List.getElem?_eq_getElem hj, List.getElem?_eq_getElem (show j < D.length by omega)⟩
  rw [hz, List.getD_eq_getElem?_getD, List.getElem?_eq_getElem hj, List.getD_eq_getElem?_getD, List.getElem?_eq_getElem (show j < D.length by omega)]
  rfl
theorem zip_len {R : List (Nat × Nat)} {D : List ByteArray} (h : D.length = R.length) : (R.zip D).length = R.length := by rw [List.length_zip, h, Nat.min_self]
theorem til_all {A : Nat → Prop} {q : Nat} : ∀ {L : List (Nat × Nat)} {p : Nat}, Til A q p L → ∀ b ∈ L, p ≤ b.2 * pw b.1 ∧ All A b.1 b.2
  | [], _, _, b, hb => by cases hb
  | m :: L, p, h, b, hb => by
    obtain ⟨h1, h2, h3, h4, h5, h6⟩ := h
    rcases List.mem_cons.1 hb with rfl | hb
    · exact ⟨h1, h4⟩
    · have := til_all h6 b hb
      have h7 := Cv.blk_lt m.1 m.2
      exact ⟨by omega, this.2⟩
theorem til_unlike {A : Nat → Prop} {q : Nat} : ∀ {L : List (Nat × Nat)} {p : Nat}, Til A q p L → ∀ i j, i < j → j < L.length → L.getD i (0, 0) ≠ L.getD j (0, 0)
  | [], _, _, i, j, _, hj => absurd hj (Nat.not_lt_zero j)
  | m :: L, p, h, i, j, hij, hj => by
    obtain ⟨h1, h2, h3, h4, h5, h6⟩ := h
    match i, j, hij with
    | 0, j + 1, _ =>
      intro e
      have hj' : j < L.length := by rw [List.length_cons] at hj; omega
      have hm : L.getD j (0, 0) ∈ L := by rw [List.getD_eq_getElem?_getD, List.getElem?_eq_getElem hj']; exact List.getElem_mem _
      have h8 := (til_all h6 _ hm).1
      have e' : m = L.getD j (0, 0) := e
      rw [← e'] at h8
      have h7 := Cv.blk_lt m.1 m.2
      omega
    | i + 1, j + 1, hij => exact til_unlike h6 i j (by omega) (by rw [List.length_cons] at hj; omega)
section
variable {c n : Nat} {S : List Nat} {X D : List ByteArray}
theorem kn_mem (hX : X.length = S.length) {R : List (Nat × Nat)} (hD : D.length = R.length) {e : He} (he : e ∈ knS c S X ++ R.zip D) : (∃ j, j < S.length ∧ e = ((0, S.getD j 0), dg c (leafT (X.getD j ByteArray.empty)))) ∨ ∃ j, j < R.length ∧ e = (R.getD j (0, 0), D.getD j ByteArray.empty) := by
  rcases List.mem_append.1 he with he | he
  · obtain ⟨j, hj, hv⟩ := List.getElem_of_mem he
    rw [knS_len c S X hX] at hj
    refine .inl ⟨j, hj, ?_⟩
    have := knS_at c hX hj
    rw [List.getElem?_eq_getElem (by rw [knS_len c S X hX]; exact hj), hv] at this
    exact Option.some.inj this
  · obtain ⟨j, hj, hv⟩ := List.getElem_of_mem he
    rw [zip_len hD] at hj
    refine .inr ⟨j, hj, ?_⟩
    have := zip_at hD hj
    rw [List.getElem?_eq_getElem (by rw [zip_len hD]; exact hj), hv] at this
    exact Option.some.inj this
theorem asc_unlike (hp : Asc S) {i j : Nat} (hi : i < S.length) (hj : j < S.length) (he : S.getD i 0 = S.getD j 0) : i = j := by
  rw [List.getD_eq_getElem?_getD, List.getElem?_eq_getElem hi, List.getD_eq_getElem?_getD, List.getElem?_eq_getElem hj] at he
  have he : S[i] = S[j] := he
  have hw := List.pairwise_iff_getElem.1 hp
  rcases Nat.lt_trichotomy i j with h | h | h
  · have := hw i j hi hj h; omega
  · exact h
  · have := hw j i hj hi h; omega
theorem kn_fn (he : Cv.errS n S = 0) (hX : X.length = S.length) (hD : D.length = (Cv.rst 0 n S).length) : Fn (knS c S X ++ (Cv.rst 0 n S).zip D) := by
  obtain ⟨h40, _, _, hc⟩ := Cv.errS_ok he
  have hp := chain_asc hc
  have ht := Cv.rst_but n S h40 hc
  obtain ⟨R, hR⟩ : ∃ R, Cv.rst 0 n S = R := ⟨_, rfl⟩
  rw [hR] at hD ht ⊢
  have mixed : ∀ i j, i < S.length → j < R.length → (0, S.getD i 0) ≠ R.getD j (0, 0) := fun i j hi hj e => by
    have hm : R.getD j (0, 0) ∈ R := by rw [List.getD_eq_getElem?_getD, List.getElem?_eq_getElem hj]; exact List.getElem_mem _
    have := (til_all ht _ hm).2
    rw [← e] at this
    have h2 := this (S.getD i 0) (by simp [pw]) (by simp [pw])
    exact h2.2 (by rw [List.getD_eq_getElem?_getD, List.getElem?_eq_getElem hi]; exact List.getElem_mem _)
  intro e h1 e' h2 heq
  rcases kn_mem hX hD h1 with ⟨i, hi, rfl⟩ | ⟨i, hi, rfl⟩ <;> rcases kn_mem hX hD h2 with ⟨j, hj, rfl⟩ | ⟨j, hj, rfl⟩
  · obtain rfl := asc_unlike hp hi hj (congrArg Prod.snd heq)
    rfl
  · exact absurd heq (mixed i j hi hj)
  · exact absurd heq.symm (mixed j i hj hi)
  · have heq : R.getD i (0, 0) = R.getD j (0, 0) := heq
    rcases Nat.lt_trichotomy i j with h | h | h
    · exact absurd heq (til_unlike ht i j h hj)
    · rw [h]
    · exact absurd heq.symm (til_unlike ht j i h hi)
/-- The peaks that come out are what the document finds. -/
theorem kn_tl (he : Cv.errS n S = 0) (hX : X.length = S.length) (hD : D.length = (Cv.rst 0 n S).length) : ∀ j, j < (Cv.dnL 41 0 n).length → Tl c (knS c S X ++ (Cv.rst 0 n S).zip D) ((Cv.dnL 41 0 n).getD j (0, 0)).1 ((Cv.dnL 41 0 n).getD j (0, 0)).2 ((pB c (Cv.dnL 41 0 n) S X D).getD j ByteArray.empty) := by
  obtain ⟨h40, _, _, hc⟩ := Cv.errS_ok he
  have hp := chain_asc hc
  have hrow : Cv.Row n 0 (Cv.dnL 41 0 n) := by rw [← Cv.cov_zero n h40]; exact Cv.cov_row 0 n (Nat.zero_le _) h40
  have hfr : Fr 0 n S := fun i hi => Cv.chain_mem hc i hi
  have ht := Cv.rst_but n S h40 hc
  have hfB : fB (Cv.dnL 41 0 n) S = Cv.rst 0 n S := by rw [fB_flat hrow hp hfr, ← Cv.rest_ref n S h40 hc]
  refine pB_tl c _ _ 0 S X D hrow hp hfr (fun e hm h0 i hi hin => ?_) (fun j hj => ?_) (fun j hj => ?_)
  · rcases kn_mem hX hD hm with ⟨j, hj, rfl⟩ | ⟨j, hj, rfl⟩
    · exact absurd h0 (Nat.lt_irrefl 0)
    · have hm : (Cv.rst 0 n S).getD j (0, 0) ∈ Cv.rst 0 n S := by rw [List.getD_eq_getElem?_getD, List.getElem?_eq_getElem hj]; exact List.getElem_mem _
      exact ((til_all ht _ hm).2 i hin.1 hin.2).2 hi
  · exact List.mem_append_left _ (List.mem_of_getElem? (knS_at c hX hj))
  · rw [hfB] at hj ⊢
    exact List.mem_append_right _ (List.mem_of_getElem? (zip_at hD hj))
end
end Go.Proofs.YtnbejijpmeklaaaDoor
/-
  The reference's Up: what the known blocks tell. Own work.
-/
namespace Go.Proofs.YtnbejijpmeklaaaDoor
open Go.RowKit
open Cv (RdC)
attribute [local go_sem ↓] Go.wp_at_zero Go.wp_at_succ
theorem row_nextH {w W : World} {B T s n : Nat} {v : Value} {xs : List Value} (h : w.ownsRow B T s v n xs) (hb : Below w.heap.size w W) : W.ownsRow B T s v n xs :=
  keep_row h fun g hg _ => hb.block g (World.ownsRow.lt h g hg).2
theorem Tryd.infoH : (Tryd.prog.info? 113).map (fun i => (i.zero, i.size, i.bytes)) = some (some (.agg #[.int .i64 0, .int .u64 0, .string ByteArray.empty]), 3, 32) := by kernel_rfl
/-- Known blocks as cells. -/
def cH : List He → List Value
  | [] => []
  | e :: r => .int .i64 (e.1.1 : Int) :: .int .u64 (e.1.2 : Int) :: .string e.2 :: cH r
theorem cH_len (l : List He) : (cH l).length = l.length * 3 := by
  induction l with
  | nil => rfl
  | cons b r ih => simp [cH, ih]; omega
theorem cH_app (l m : List He) : cH (l ++ m) = cH l ++ cH m := by
  induction l with
  | nil => rfl
  | cons b r ih => simp [cH, ih]
theorem cH_one (l : List He) : ∀ u ∈ cH l, u.oneCell' = true := by
  induction l with
  | nil => intro u hu; cases hu
  | cons b r ih =>
    intro u hu
    simp [cH] at hu
    rcases hu with rfl | rfl | rfl | hu
    · rfl
    · rfl
    · rfl
    · exact ih u hu
theorem cH_get (l : List He) (j : Nat) (e : He) (hj : l[j]? = some e) : (cH l)[j * 3]? = some (.int .i64 (e.1.1 : Int)) ∧ (cH l)[j * 3 + 1]? = some (.int .u64 (e.1.2 : Int)) ∧ (cH l)[j * 3 + 2]? = some (.string e.2) := by
  induction l generalizing j with
  | nil => simp at hj
  | cons b r ih =>
    cases j with
    | zero => simp at hj; subst hj; exact ⟨rfl, rfl, rfl⟩
    | succ j =>
      have := ih j (by simpa using hj)
      rw [show (j + 1) * 3 = j * 3 + 1 + 1 + 1 by omega]
      simpa [cH] using this
abbrev OwnH (w : World) (B : Nat) (v : Value) (l : List He) : Prop := w.ownsRow B 113 3 v l.length (cH l)
abbrev dH : He := ((0, 0), ByteArray.empty)
/-- Known blocks that can be read. -/
structure RdH (w : World) (ao : Option Addr) (g n : Nat) (l : List He) : Prop where
  len : l.length = n
  addr : 0 < n → ao = some ⟨g, 0, none⟩
  cell : ∀ j, j < n → w.cell? ⟨g, j * 3, none⟩ = some (.int .i64 ((l.getD j dH).1.1 : Nat)) ∧ w.cell? ⟨g, j * 3 + 1, none⟩ = some (.int .u64 ((l.getD j dH).1.2 : Nat)) ∧ w.cell? ⟨g, j * 3 + 2, none⟩ = some (.string (l.getD j dH).2)
theorem RdH.next {w W : World} {ao : Option Addr} {g n : Nat} {l : List He} (r : RdH w ao g n l) (h : Below w.heap.size w W) : RdH W ao g n l :=
  ⟨r.len, r.addr, fun j hj => by
    obtain ⟨h1, h2, h3⟩ := r.cell j hj
    exact ⟨(h.cell (p := ⟨g, j * 3, none⟩) (World.block_lt_of_cell? w _ h1)).trans h1, (h.cell (p := ⟨g, j * 3 + 1, none⟩) (World.block_lt_of_cell? w _ h2)).trans h2, (h.cell (p := ⟨g, j * 3 + 2, none⟩) (World.block_lt_of_cell? w _ h3)).trans h3⟩⟩
theorem own_rdH {w : World} {B : Nat} {v : Value} {l : List He} (h : OwnH w B v l) : ∃ ao g cap, v = .slice ao l.length cap ∧ RdH w ao g l.length l := by
  have h0 := h
  obtain ⟨h1, h2⟩ := h
  rcases h2 with ⟨rfl, h2⟩ | ⟨g, cap, cur, rfl, hg, hh, hc1, hc2, hc3, hc4⟩
  · exact ⟨none, 0, 0, by rw [h2], rfl, fun h => by omega, fun j hj => by omega⟩
  · refine ⟨some ⟨g, 0, none⟩, g, cap, rfl, rfl, fun _ => rfl, fun j hj => ?_⟩
    have he : l[j]? = some (l.getD j dH) := by rw [List.getD_eq_getElem?_getD, List.getElem?_eq_getElem hj]; rfl
    obtain ⟨g1, g2, g3⟩ := cH_get l j _ he
    have hcs := h0.cells (g := g) rfl
    have k1 := hcs _ _ g1
    have k2 := hcs _ _ g2
    have k3 := hcs _ _ g3
    rw [Addr.add_mid, Nat.zero_add] at k1 k2 k3
    exact ⟨k1, k2, k3⟩
theorem rdc_H (w : World) (e : He) : RdC (w.alloc (.cells #[.int .i64 (e.1.1 : Int), .int .u64 (e.1.2 : Int), .string e.2] 113)) (.slice (some ⟨w.heap.size, 0, none⟩) 1 1) 1 (cH [e]) := by
  refine ⟨some ⟨w.heap.size, 0, none⟩, 1, rfl, (fun h => by cases h), fun ad ha j c hj => ?_⟩
  cases ha
  rw [Addr.add_mid, Nat.zero_add, cell_of_row _ _ _ _ _ (0, 0) (heap_alloc_new w _)]
  match j, hj with
  | 0, hj => exact hj
  | 1, hj => exact hj
  | 2, hj => exact hj
/-- Known blocks appended. -/
theorem wpList_append_H (w : World) {ops : Array Oper} {rest : List Oper} {o : Oper} {a : Act} {Q : Exit → Act → World → Prop}
    (hg : o.guard = none) (s x : Operand) (hop : o.op = Op.call { callee := Callee.builtin Builtin.append, args := #[s, x], argTypes := #[87, 87] })
    (B : Nat) (v : Value) (L : List He) (hs : a.eval s = v) (hown : OwnH w B v L) (u : Value) (M : List He) (hx : a.eval x = u) (hr : RdC w u M.length (cH M))
    (hlen : L.length + M.length ≤ 1048576) (hB : B ≤ w.heap.size)
    (hK : ∀ v' w', OwnH w' B v' (L ++ M) → w.grownBy w' v.ownBlock → wpList Tryd.prog ops Q rest (a.put o.dst v') w') : wpList Tryd.prog ops Q (o :: rest) a w := by
  obtain ⟨i0, hi, hz0, hz1, hz2⟩ := info_parts Tryd.infoH
  refine Cv.wpList_append_ap w hg s x _ hop B 113 i0 (.agg #[.int .i64 0, .int .u64 0, .string ByteArray.empty]) 3 32 Tryd.underlying87 hi hz0 hz1 hz2 rfl (by decide) v L.length (cH L) hs hown u M.length (cH M) hx hr (cH_len M) (cH_one M) (by unfold maxLen; omega) (by omega) hB ?_
  intro v' w' h
  refine hK v' w' ?_ h.grown
  rw [OwnH, cH_app, List.length_append]
  exact h.own
theorem filter_next {p : He → Bool} (K : List He) (j : Nat) (h : j < K.length) : (K.take (j + 1)).filter p = (K.take j).filter p ++ (if p (K.getD j dH) then [K.getD j dH] else []) := by
  have e : K.take (j + 1) = K.take j ++ [K.getD j dH] := by rw [List.take_add_one, List.getD_eq_getElem?_getD, List.getElem?_eq_getElem h]; rfl
  rw [e, List.filter_append]
  congr 1
  by_cases hp : p (K.getD j dH) = true
  · rw [List.filter_cons_of_pos hp, if_pos hp]; rfl
  · rw [List.filter_cons_of_neg hp, if_neg hp]; rfl
/-- What Up answers. -/
def UpC (k : Int) (h : Nat) : Prop := ∀ (kk : Nat), (kk + 1) * 2 ^ h ≤ 2 ^ 40 → ∀ (K : List He) (v : ByteArray) (w : World) (ao : Option Addr) (g cap : Nat), Tr w → RdH w ao g K.length K → K.length ≤ 500000 → Fn K → Tl (clk k) K h kk v → (∀ e ∈ K, e.1.1 ≤ 40 ∧ e.1.2 < 2 ^ 40 ∧ e.2.size ≤ 32) →
  Calls Tryd.prog 73 #[.int .i64 k, .agg #[.int .i64 (h : Int), .int .u64 (kk : Int)], .slice ao K.length cap] w fun e w' => e = .returned (.tuple #[.string v, .bool true]) ∧ Below w.heap.size w w'
set_option maxRecDepth 100000 in
set_option maxHeartbeats 2000000 in
theorem rup_step (k : Int) (h : Nat) (hh : h ≤ 40) (HI : ∀ g, h = g + 1 → UpC k g) : UpC k h := by
  intro kk hk K v w ao g cap hT hR hKl hF hTl hKb
  have hb := bal (Below.refl w.heap.size w) (.cells #[.int .i64 (h : Int), .int .u64 (kk : Int)] 45)
  have e0 := heap_alloc_new w (.cells #[.int .i64 (h : Int), .int .u64 (kk : Int)] 45)
  obtain ⟨W0, hW0⟩ : ∃ W0, w.alloc (.cells #[.int .i64 (h : Int), .int .u64 (kk : Int)] 45) = W0 := ⟨_, rfl⟩
  rw [hW0] at hb e0
  have c0 : W0.cell? ⟨w.heap.size, 0, none⟩ = some (.int .i64 (h : Int)) := by rw [cell_of_row _ _ 0 _ _ (0, 0) e0]; rfl
  have c1 : W0.cell? ⟨w.heap.size, 1, none⟩ = some (.int .u64 (kk : Int)) := by rw [cell_of_row _ _ 1 _ _ (0, 0) e0]; rfl
  have HS : Hid (∀ W, Below W0.heap.size W0 W → W.cell? ⟨w.heap.size, 0, none⟩ = some (.int .i64 (h : Int)) ∧ W.cell? ⟨w.heap.size, 1, none⟩ = some (.int .u64 (kk : Int)) ∧ RdH W ao g K.length K ∧ Tr W ∧ Below w.heap.size w W) := fun W hW =>
    ⟨(hW.cell (p := ⟨w.heap.size, 0, none⟩) (World.block_lt_of_cell? W0 _ c0)).trans c0, (hW.cell (p := ⟨w.heap.size, 1, none⟩) (World.block_lt_of_cell? W0 _ c1)).trans c1, hR.next (bnext hb hW), hT.next (bnext hb hW), bnext hb hW⟩
  have hKz : (K.length : Int) ≤ 500000 := by omega
  have HQ : Hid (K.length ≤ 500000 ∧ Fn K ∧ Tl (clk k) K h kk v ∧ (∀ e ∈ K, e.1.1 ≤ 40 ∧ e.1.2 < 2 ^ 40 ∧ e.2.size ≤ 32) ∧ (kk + 1) * 2 ^ h ≤ 2 ^ 40 ∧ h ≤ 40) := ⟨hKl, hF, hTl, hKb, hk, hh⟩
  have HI := hide HI
  have hkk : kk < 2 ^ 40 := by
    have := Nat.le_mul_of_pos_right (kk + 1) (Nat.two_pow_pos h)
    omega
  have hkz : (kk : Int) < 1099511627776 := by omega
  have hhz : (h : Int) ≤ 40 := by omega
  clear hT hR hKl hF hTl hKb hk hh hb e0 c0 c1 hkk
  go_enter Tryd.func73, Tryd.ntmps73
  go_upto_region 1 with (fail)
  try rw [hW0]
  clear hW0
  go_wp2
  go_loopg [8] K.length (fun gh jj wr => ∃ j : Nat, j ≤ K.length ∧ gh = K.length - j ∧ jj = .int .i64 (j : Int) ∧ Hid (∀ t, t < j → (K.getD t dH).1 ≠ (h, kk)) ∧ Hid (Below W0.heap.size W0 wr))
  case atStart =>
    go_light
    exact ⟨0, Nat.zero_le _, rfl, rfl, fun t ht => absurd ht (Nat.not_lt_zero _), Below.refl _ _⟩
  case round =>
    obtain ⟨j, hj, rfl, rfl, HA, HB⟩ := hrel
    obtain ⟨c0, c1, hR, hT, hbw⟩ := HS.out wr HB.out
    by_cases hlt : j < K.length
    · have hz : (j : Int) < (K.length : Int) := by omega
      have hz0 : (0 : Int) ≤ (j : Int) := Int.natCast_nonneg _
      obtain rfl := hR.addr (by omega)
      obtain ⟨m0, m1, m2⟩ := hR.cell j hlt
      have hmem : K.getD j dH ∈ K := by rw [List.getD_eq_getElem?_getD, List.getElem?_eq_getElem hlt]; exact List.getElem_mem _
      obtain ⟨⟨⟨eh, ek⟩, ed⟩, hee⟩ : ∃ e, K.getD j dH = e := ⟨_, rfl⟩
      rw [hee] at m0 m1 m2 hmem
      simp only at m0 m1 m2
      have HBF := hide hbw
      by_cases heq : eh = h ∧ ek = kk
      · obtain ⟨rfl, rfl⟩ := heq
        obtain rfl : ed = v := HQ.out.2.2.1.some HQ.out.2.1 _ hmem rfl
        clear hR hT hbw hmem hee HA
        go_wp2
        go_quiet (fail)
        go_wp2
        go_ret2
        exact ⟨rfl, below_drewN HBF.out _⟩
      · have HA' : Hid (∀ t, t < j + 1 → (K.getD t dH).1 ≠ (h, kk)) := fun t ht => by
          rcases Nat.lt_or_eq_of_le (Nat.le_of_lt_succ ht) with h1 | rfl
          · exact HA.out t h1
          · rw [hee]; intro e; exact heq ⟨congrArg Prod.fst e, congrArg Prod.snd e⟩
        by_cases x1 : eh = h
        · have x2 : ¬ ek = kk := fun e => heq ⟨x1, e⟩
          have x3 : ¬ (ek : Int) = (kk : Int) := by omega
          subst x1
          clear hR hT hbw hmem hee HA heq
          go_wp2
          go_quiet (fail)
          go_wp2
          go_roundg (K.length - (j + 1))
          case rel =>
            go_light
            exact ⟨j + 1, by omega, rfl, by go_num, HA'.out, below_drewN HB.out _⟩
          case measure => go_light; omega
        · have x3 : ¬ (eh : Int) = (h : Int) := by omega
          clear hR hT hbw hmem hee HA heq
          by_cases x2 : ek = kk
          · subst x2
            go_wp2
            go_quiet (fail)
            go_wp2
            go_roundg (K.length - (j + 1))
            case rel =>
              go_light
              exact ⟨j + 1, by omega, rfl, by go_num, HA'.out, below_drewN HB.out _⟩
            case measure => go_light; omega
          · have x4 : ¬ (ek : Int) = (kk : Int) := by omega
            go_wp2
            go_quiet (fail)
            go_wp2
            go_roundg (K.length - (j + 1))
            case rel =>
              go_light
              exact ⟨j + 1, by omega, rfl, by go_num, HA'.out, below_drewN HB.out _⟩
            case measure => go_light; omega
    · obtain rfl : j = K.length := by omega
      have hz : ¬ ((K.length : Int) < (K.length : Int)) := by omega
      have hnone : ∀ e ∈ K, e.1 ≠ (h, kk) := fun e he => by
        obtain ⟨t, ht, rfl⟩ := List.getElem_of_mem he
        have := HA.out t ht
        rw [List.getD_eq_getElem?_getD, List.getElem?_eq_getElem ht] at this
        exact this
      obtain ⟨f, x, y, hf, hv, hx, hy⟩ := HQ.out.2.2.1.down hnone
      rw [← hf] at hx hy
      have hh0 : ¬ (h : Int) = 0 := by omega
      have hh1 : (h : Int) - 1 = (f : Int) := by omega
      obtain ⟨Bl, hBl⟩ : ∃ Bl, K.filter (insB h kk) = Bl := ⟨_, rfl⟩
      rw [hBl] at hx hy
      have hBll : Bl.length ≤ K.length := by rw [← hBl]; exact List.length_filter_le _ _
      have hBl0 : 0 < Bl.length := by obtain ⟨e, he⟩ := hx.mem; exact List.length_pos_of_mem he
      have hBb : ∀ e ∈ Bl, e.1.1 ≤ 40 ∧ e.1.2 < 2 ^ 40 ∧ e.2.size ≤ 32 := fun e he => HQ.out.2.2.2.1 e (by rw [← hBl] at he; exact (List.mem_filter.1 he).1)
      have hBf : Fn Bl := by rw [← hBl]; exact HQ.out.2.1.filter _
      have hk40 := HQ.out.2.2.2.2.1
      have hp2 : 2 ^ h = 2 * 2 ^ f := by rw [hf, Nat.pow_succ]; omega
      have hka : (2 * kk + 1) * 2 ^ f ≤ 2 ^ 40 := by
        refine Nat.le_trans ?_ hk40
        rw [hp2, ← Nat.mul_assoc]
        exact Nat.mul_le_mul_right _ (by omega)
      have hkb : (2 * kk + 1 + 1) * 2 ^ f ≤ 2 ^ 40 := by
        refine Nat.le_trans ?_ hk40
        rw [hp2, ← Nat.mul_assoc]
        exact Nat.mul_le_mul_right _ (by omega)
      have hxs := hx.size (clk_le k) (fun e he => (hBb e he).2.2)
      have hys := hy.size (clk_le k) (fun e he => (hBb e he).2.2)
      have HU1 : Hid (∀ W ao g cap, Tr W → RdH W ao g Bl.length Bl → Calls Tryd.prog 73 #[.int .i64 k, .agg #[.int .i64 (f : Int), .int .u64 ((2 * kk : Nat) : Int)], .slice ao Bl.length cap] W fun e w' => e = .returned (.tuple #[.string x, .bool true]) ∧ Below W.heap.size W w') := fun W ao g cap hT hR => HI.out f hf (2 * kk) hka Bl x W ao g cap hT hR (by have := HQ.out.1; omega) hBf hx hBb
      have HU2 : Hid (∀ W ao g cap, Tr W → RdH W ao g Bl.length Bl → Calls Tryd.prog 73 #[.int .i64 k, .agg #[.int .i64 (f : Int), .int .u64 ((2 * kk + 1 : Nat) : Int)], .slice ao Bl.length cap] W fun e w' => e = .returned (.tuple #[.string y, .bool true]) ∧ Below W.heap.size W w') := fun W ao g cap hT hR => HI.out f hf (2 * kk + 1) hkb Bl y W ao g cap hT hR (by have := HQ.out.1; omega) hBf hy hBb
      have HNd : Hid (∀ W, Tr W → Calls Tryd.prog 87 #[.int .i64 k, .string x, .string y] W fun e w' => e = .returned (.string v) ∧ Below W.heap.size W w') := fun W hT => refnode_any W hT k x y (by omega) (by omega) v hv.symm
      have HX : Hid (K.filter (insB h kk) = Bl ∧ Bl.length ≤ K.length ∧ 0 < Bl.length) := ⟨hBl, hBll, hBl0⟩
      have HB0 := hide HB.out
      have HF := hide hf
      clear hnone hv hx hy hBl hBll hBl0 hBb hBf hk40 hp2 hka hkb hxs hys hR hT hbw HA HI hf
      obtain ⟨w1, hw1⟩ : ∃ w1, w1 = wr := ⟨_, rfl⟩
      subst hw1
      clear hlt hj hhz hkz hKz
      go_wp2
      go_loopg [9, 10] K.length (fun gh vv jj wr => ∃ j : Nat, j ≤ K.length ∧ gh = K.length - j ∧ jj = .int .i64 (j : Int) ∧ Hid (OwnH wr w1.heap.size vv ((K.take j).filter (insB h kk))) ∧ Hid (Below w1.heap.size w1 wr))
      case atStart =>
        go_light
        exact ⟨0, Nat.zero_le _, rfl, rfl, World.ownsRow_nil _ _ _ _, Below.refl _ _⟩
      case round =>
        obtain ⟨j, hj, rfl, rfl, HO, HB⟩ := hrel
        obtain ⟨c0, c1, hR, hT, hbw⟩ := HS.out wr (bnext HB0.out HB.out)
        by_cases hlt : j < K.length
        · have hz : (j : Int) < (K.length : Int) := by omega
          have hz0 : (0 : Int) ≤ (j : Int) := Int.natCast_nonneg _
          obtain rfl := hR.addr (by omega)
          obtain ⟨m0, m1, m2⟩ := hR.cell j hlt
          have hfn := filter_next (p := insB h kk) K j hlt
          have hfl : ((K.take j).filter (insB h kk)).length ≤ 500000 := by
            have := List.length_filter_le (insB h kk) (K.take j)
            rw [List.length_take] at this
            have := HQ.out.1
            omega
          have hmem : K.getD j dH ∈ K := by rw [List.getD_eq_getElem?_getD, List.getElem?_eq_getElem hlt]; exact List.getElem_mem _
          have hbd := HQ.out.2.2.2.1 _ hmem
          obtain ⟨⟨⟨eh, ek⟩, ed⟩, hee⟩ : ∃ e, K.getD j dH = e := ⟨_, rfl⟩
          rw [hee] at m0 m1 m2 hfn hbd
          simp only at m0 m1 m2 hbd
          obtain ⟨P, hP⟩ : ∃ P, (K.take j).filter (insB h kk) = P := ⟨_, rfl⟩
          rw [hP] at hfn hfl
          have HO1 := HO
          rw [hP] at HO1
          have hez : (eh : Int) ≤ 40 := by omega
          have hh40 := HQ.out.2.2.2.2.2
          have hKz : (K.length : Int) ≤ 500000 := by have := HQ.out.1; omega
          by_cases hel : eh < h
          · have hd1 : decide ((eh : Int) < (h : Int)) = true := decide_eq_true (by omega)
            have hd2 : decide (eh < h) = true := decide_eq_true hel
            obtain ⟨sh, hsh⟩ : ∃ sh, h - eh = sh := ⟨_, rfl⟩
            have hs1 : (h : Int) - (eh : Int) = (sh : Int) := by omega
            have hs2 : IntKind.u64.wrap (sh : Int) = (sh : Int) := by rw [IntKind.wrap_u64]; omega
            have hs3 : (sh : Int) < 64 := by omega
            have hs4 : (0 : Int) ≤ (sh : Int) := Int.natCast_nonneg _
            obtain ⟨qq, hqq⟩ : ∃ qq, ek / 2 ^ sh = qq := ⟨_, rfl⟩
            have hs5 : (ek : Int) / (2 : Int) ^ sh = (qq : Int) := by rw [← hqq]; simp
            have hin : insB h kk ((eh, ek), ed) = decide (qq = kk) := by
              rw [insB]
              simp only [hsh, hqq, decide_eq_true hel, Bool.true_and]
            by_cases hqk : qq = kk
            · have g1 : ((qq : Int) == (kk : Int)) = true := by rw [hqk]; simp
              have g2 : decide ((qq : Int) = (kk : Int)) = true := decide_eq_true (by rw [hqk])
              have HFn : Hid ((K.take (j + 1)).filter (insB h kk) = P ++ [((eh, ek), ed)]) := by rw [hin, decide_eq_true hqk] at hfn; exact hfn
              have HJ := hide hlt
              have HPl := hide hfl
              have HE := hide hee
              subst hqk
              clear hR hT hbw hfn hfl hmem hbd hee hP HO hel hsh hqq hin hh40 hlt hj
              go_upto_region 12 with (fail)
              go_quiet (fail)
              go_upto_region 13 with (fail)
              have hq : Below wr.heap.size wr (wr.drewN nq) := below_drewN (Below.refl _ _) _
              obtain ⟨_, _, hR', _, _⟩ := HS.out _ (bnext (bnext HB0.out HB.out) hq)
              obtain ⟨n0, n1, n2⟩ := hR'.cell j HJ.out
              rw [HE.out] at n0 n1 n2
              simp only at n0 n1 n2
              have HO2 := hide (row_nextH HO1.out hq)
              have HB2 := hide (bnext HB.out hq)
              clear hq hR' m0 m1 m2 c0 c1 HO1
              generalize wr.drewN nq = wq at *
              go_upto_region 11 with (at_builtin; refine wpList_append_H _ rfl _ _ rfl w1.heap.size _ P rfl (World.ownsRow.alloc HO2.out _) _ [((eh, ek), ed)] rfl (rdc_H _ ((eh, ek), ed)) ?c1 ?c2 ?_)
              case c1 => have := HPl.out; simp; omega
              case c2 => have := HB2.out.size; simp; omega
              intro v' w3 o3 g3
              have hb3 : Below w1.heap.size w1 w3 := (bal HB2.out _).trans ((Below.refl _ _).grown g3 (by have := HB2.out.size; rw [World.size_alloc]; omega) (fun t ht => (World.ownsRow.lt HO2.out t ht).1))
              have HO3 := hide (And.intro o3 hb3)
              clear o3 g3 hb3 HO2
              go_wp2
              go_roundg (K.length - (j + 1))
              case rel =>
                go_light
                exact ⟨j + 1, HJ.out, rfl, by go_num, by rw [HFn.out]; exact HO3.out.1, HO3.out.2⟩
              case measure => go_light; have := HJ.out; omega
            · have HFn : Hid ((K.take (j + 1)).filter (insB h kk) = P) := by rw [hin, decide_eq_false hqk] at hfn; rw [hfn]; exact List.append_nil _
              have g1 : ((qq : Int) == (kk : Int)) = false := by simp; omega
              have g2 : decide ((qq : Int) = (kk : Int)) = false := decide_eq_false (by omega)
              have g3 : decide (qq = kk) = false := decide_eq_false hqk
              have HJ := hide hlt
              clear hR hT hbw hfn hfl hmem hbd hee hP HO hel hsh hqq hin hh40 hlt hj
              go_upto_region 12 with (fail)
              go_quiet (fail)
              go_wp2
              go_roundg (K.length - (j + 1))
              case rel =>
                go_light
                exact ⟨j + 1, HJ.out, rfl, by go_num, by rw [HFn.out]; exact row_nextH HO1.out (below_drewN (Below.refl _ _) _), below_drewN HB.out _⟩
              case measure => go_light; have := HJ.out; omega
          · have hd1 : decide ((eh : Int) < (h : Int)) = false := decide_eq_false (by omega)
            have hd2 : decide (eh < h) = false := decide_eq_false hel
            have hin : insB h kk ((eh, ek), ed) = false := by rw [insB]; simp only [decide_eq_false hel, Bool.false_and]
            have HFn : Hid ((K.take (j + 1)).filter (insB h kk) = P) := by rw [hin] at hfn; rw [hfn]; exact List.append_nil _
            have HJ := hide hlt
            clear hR hT hbw hfn hfl hmem hbd hee hP HO hel hin hh40 hlt hj
            go_upto_region 12 with (fail)
            go_quiet (fail)
            go_wp2
            go_roundg (K.length - (j + 1))
            case rel =>
              go_light
              exact ⟨j + 1, HJ.out, rfl, by go_num, by rw [HFn.out]; exact row_nextH HO1.out (below_drewN (Below.refl _ _) _), below_drewN HB.out _⟩
            case measure => go_light; have := HJ.out; omega
        · obtain rfl : j = K.length := by omega
          have hz : ¬ ((K.length : Int) < (K.length : Int)) := by omega
          have hO := HO.out
          rw [List.take_of_length_le (Nat.le_refl _), HX.out.1] at hO
          obtain ⟨ba, bg, bc, rfl, hRb⟩ := own_rdH hO
          have hb0 : ¬ (Bl.length : Int) = 0 := by have := HX.out.2.2; omega
          have hb0' : ((Bl.length : Int) == 0) = false := by simp; have := HX.out.2.2; intro e; rw [e] at this; exact absurd this (Nat.lt_irrefl _)
          have hkk := HQ.out.2.2.2.2.1
          have hk2 : kk + 1 ≤ 2 ^ 40 := Nat.le_trans (Nat.le_mul_of_pos_right (kk + 1) (Nat.two_pow_pos h)) hkk
          have hf40 : (f : Int) ≤ 40 := by have := HQ.out.2.2.2.2.2; have := HF.out; omega
          obtain ⟨k2, hk2'⟩ : ∃ k2, 2 * kk = k2 := ⟨_, rfl⟩
          obtain ⟨k3, hk3'⟩ : ∃ k3, 2 * kk + 1 = k3 := ⟨_, rfl⟩
          have e1 : IntKind.u64.wrap (2 * (kk : Int)) = (k2 : Int) := by rw [IntKind.wrap_u64]; omega
          have e2 : IntKind.u64.wrap ((k2 : Int) + 1) = (k3 : Int) := by rw [IntKind.wrap_u64]; omega
          rw [hk2'] at HU1
          rw [hk3'] at HU2
          have HW1 := HU1.out wr ba bg bc hT hRb
          have HR2 := hide hRb
          have HB2 := hide HB.out
          clear hO hRb hkk hk2 hk2' hk3' hR hT hbw HO hlt hj
          go_wp2_with (first
            | (go_at_call 73; with_reducible refine HW1.mono ?_; rintro e w2 ⟨rfl, hb2⟩
               obtain ⟨d0, d1, _, hT2, _⟩ := HS.out w2 (bnext HB0.out (bnext HB2.out hb2))
               have HW2 := HU2.out w2 ba bg bc hT2 (HR2.out.next hb2))
            | (go_at_call 73; with_reducible refine HW2.mono ?_; rintro e w3 ⟨rfl, hb3⟩
               obtain ⟨_, _, _, hT3, _⟩ := HS.out w3 (bnext HB0.out (bnext (bnext HB2.out hb2) hb3)))
            | (go_at_call 87; with_reducible refine (HNd.out _ hT3).mono ?_; rintro e w4 ⟨rfl, hb4⟩))
          go_ret2
          exact ⟨rfl, (HS.out w4 (bnext HB0.out (bnext (bnext (bnext HB2.out hb2) hb3) hb4))).2.2.2.2⟩
theorem rup_any (k : Int) : ∀ h, h ≤ 40 → UpC k h
  | 0, _ => rup_step k 0 (Nat.zero_le _) (fun g e => by cases e)
  | h + 1, hh => rup_step k (h + 1) hh (fun g e => by cases e; exact rup_any k h (by omega))
end Go.Proofs.YtnbejijpmeklaaaDoor
/-
  The reference's Peaks, Digests and Count. Own work.
-/
namespace Go.Proofs.YtnbejijpmeklaaaDoor
open Go.RowKit
open Cv (RdC zl cU)
attribute [local go_sem ↓] Go.wp_at_zero Go.wp_at_succ
theorem take_getD' {α : Type} (d : α) (l : List α) (j : Nat) (h : j < l.length) : l.take (j + 1) = l.take j ++ [l.getD j d] := by
  rw [List.take_add_one, List.getD_eq_getElem?_getD, List.getElem?_eq_getElem h]; rfl
set_option maxRecDepth 100000 in
set_option maxHeartbeats 1000000 in
theorem rpk_any (w : World) (hT : Tr w) (k : Int) (n : Nat) (h40 : n ≤ 2 ^ 40) (ao : Option Addr) (g cap : Nat) (K : List He) (hR : RdH w ao g K.length K) (hKl : K.length ≤ 500000) (hF : Fn K) (hKb : ∀ e ∈ K, e.1.1 ≤ 40 ∧ e.1.2 < 2 ^ 40 ∧ e.2.size ≤ 32) (P : List ByteArray) (M : List (Nat × Nat)) (hM : Cv.dnL 41 0 n = M) (hP : P.length = M.length) (hTl : ∀ j, j < M.length → Tl (clk k) K (M.getD j (0, 0)).1 (M.getD j (0, 0)).2 (P.getD j ByteArray.empty)) :
    Calls Tryd.prog 47 #[.int .i64 k, .int .u64 (n : Int), .slice ao K.length cap] w fun e w' => ∃ pa pb pc, e = .returned (.slice pa P.length pc) ∧ RdS w' pa pb 0 P.length P ∧ Below w.heap.size w w' := by
  have hMin : ∀ b ∈ M, (b.2 + 1) * 2 ^ b.1 ≤ n := by rw [← hM]; exact dn_in n h40
  have hMl : M.length ≤ 41 := by rw [← hM]; exact Cv.dn_len 41 0 n
  have HM : Hid (∀ W, Calls Tryd.prog 72 #[.int .u64 (n : Int)] W fun e w' => ∃ ao g cap, e = .returned (.tuple #[.slice ao M.length cap, .int .i64 0]) ∧ RdB w' ao g 0 M.length (zl M) ∧ Below W.heap.size W w') := fun W => by
    have h := Cv.rMountains_any n W
    rw [(mount40 n h40).1, (mount40 n h40).2, hM] at h
    refine h.mono fun e w' ⟨v, e1, e2, e3⟩ => ?_
    obtain ⟨ao, g, n', cap, rfl, hr', _⟩ := own_rdB e2 (fun b hb => by
      obtain ⟨b0, hb0, rfl⟩ := List.mem_map.1 hb
      exact (fit40 (hMin b0 hb0) h40).1)
    have hl := hr'.len
    rw [Cv.zl_len] at hl
    subst hl
    exact ⟨ao, g, cap, e1, hr', e3⟩
  have hPs : ∀ s ∈ P, s.size ≤ 32 := fun s hs => by
    obtain ⟨j, hj, rfl⟩ := List.getElem_of_mem hs
    have := (hTl j (by omega)).size (clk_le k) (fun e he => (hKb e he).2.2)
    rwa [List.getD_eq_getElem?_getD, List.getElem?_eq_getElem hj] at this
  have HU : Hid (∀ W, Below w.heap.size w W → ∀ j, j < M.length → Calls Tryd.prog 73 #[.int .i64 k, .agg #[.int .i64 ((M.getD j (0, 0)).1 : Nat), .int .u64 ((M.getD j (0, 0)).2 : Nat)], .slice ao K.length cap] W fun e w' => e = .returned (.tuple #[.string (P.getD j ByteArray.empty), .bool true]) ∧ Below W.heap.size W w') := fun W hb j hj => by
    have hm : M.getD j (0, 0) ∈ M := by rw [List.getD_eq_getElem?_getD, List.getElem?_eq_getElem hj]; exact List.getElem_mem _
    have h1 := hMin _ hm
    exact rup_any k _ (fit40 h1 h40).2.1 _ (Nat.le_trans h1 h40) K _ W ao g cap (hT.next hb) (hR.next hb) hKl hF (hTl j hj) hKb
  have HQ : Hid (P.length = M.length ∧ M.length ≤ 41 ∧ (∀ s ∈ P, s.size ≤ 32)) := ⟨hP, hMl, hPs⟩
  have hmz : (M.length : Int) ≤ 41 := by omega
  clear hT hR hKl hF hKb hM hP hTl hMin hMl hPs h40
  go_enter Tryd.func47, Tryd.ntmps47
  go_upto_region 2 with (go_at_call 72; with_reducible refine (HM.out _).mono ?_; rintro e w1 ⟨ma, mg, mc, rfl, hRm, hb1⟩)
  have HR := hide (And.intro hRm hb1)
  clear hRm hb1 HM
  go_wp2
  go_loopg [9, 10] M.length (fun gh v jj wr => ∃ j : Nat, j ≤ M.length ∧ gh = M.length - j ∧ jj = .int .i64 (j : Int) ∧ Hid (OwnS wr w1.heap.size v (P.take j)) ∧ Hid (Below w1.heap.size w1 wr))
  case atStart =>
    go_light
    exact ⟨0, Nat.zero_le _, rfl, rfl, owns_nil _ _, Below.refl _ _⟩
  case round =>
    obtain ⟨j, hj, rfl, rfl, HO, HB⟩ := hrel
    by_cases hlt : j < M.length
    · have hz : (j : Int) < (M.length : Int) := by omega
      have hz0 : (0 : Int) ≤ (j : Int) := Int.natCast_nonneg _
      have hrd := HR.out.1.below HB.out
      obtain rfl := hrd.addr (by omega)
      obtain ⟨c0, c1⟩ := hrd.cell j hlt
      have HUj := HU.out wr (bnext HR.out.2 HB.out) j hlt
      have htk := take_getD' ByteArray.empty P j (by rw [HQ.out.1]; exact hlt)
      have hys := HQ.out.2.2 _ (getD_mem (show j < P.length by rw [HQ.out.1]; exact hlt))
      obtain ⟨y, hy⟩ : ∃ y, P.getD j ByteArray.empty = y := ⟨_, rfl⟩
      obtain ⟨⟨mh, mk⟩, hx⟩ : ∃ x, M.getD j (0, 0) = x := ⟨_, rfl⟩
      rw [Cv.zl_getD, hx] at c0 c1
      rw [Nat.zero_add] at c0 c1
      rw [hx, hy] at HUj
      rw [hy] at htk hys
      simp only at HUj
      have HG : Hid (P.take (j + 1) = P.take j ++ [y] ∧ y.size ≤ 9223372036854775807 ∧ (P.take j).length ≤ 41 ∧ j < M.length) := ⟨htk, by omega, by rw [List.length_take]; have := HQ.out.1; have := HQ.out.2.1; omega, hlt⟩
      clear hrd htk hys hy hx hlt hj
      go_wp2_with (first
        | (go_at_call 73; with_reducible refine HUj.mono ?_; rintro e w2 ⟨rfl, hb2⟩)
        | (at_builtin; refine wpList_append_S _ rfl _ _ rfl w1.heap.size _ (P.take j) rfl (own_al (own_next HO.out hb2 (Nat.le_refl _)) _) (some ⟨w2.heap.size, 0, none⟩) w2.heap.size 0 1 [y] rfl (rds_one w2 y HG.out.2.1) (fun h => by cases h) ?c1 ?c2 ?_))
      case c1 => have := HG.out.2.2.1; simp; omega
      case c2 => have := (bnext HB.out hb2).size; simp; omega
      intro v' w3 o1 o2
      have HO2 := hide (And.intro o1 ((bal (bnext HB.out hb2) (.cells #[.string y] 9)).trans o2))
      clear o1 o2 HUj
      go_wp2
      go_roundg (M.length - (j + 1))
      case rel =>
        go_light
        exact ⟨j + 1, HG.out.2.2.2, rfl, by go_num, by rw [HG.out.1]; exact HO2.out.1, HO2.out.2⟩
      case measure => go_light; have := HG.out.2.2.2; omega
    · obtain rfl : j = M.length := by omega
      have hz : ¬ ((M.length : Int) < (M.length : Int)) := by omega
      have hO := HO.out
      rw [List.take_of_length_le (by rw [HQ.out.1]; exact Nat.le_refl _)] at hO
      obtain ⟨pa, pb, pc, rfl, hRp, _⟩ := owns_rds hO (fun s hs => by have := HQ.out.2.2 s hs; omega)
      have HF := hide (And.intro hRp (bnext HR.out.2 HB.out))
      clear hO hRp hlt hj HU
      go_wp2
      go_ret
      exact ⟨pa, ⟨pc, rfl⟩, ⟨pb, HF.out.1⟩, HF.out.2⟩
set_option maxRecDepth 100000 in
theorem rdigs_any (w : World) (k : Int) (da : Option Addr) (db dO dc : Nat) (D : List ByteArray) (hr : RdS w da db dO D.length D) (hm : D.length ≤ 8796093022208) (n : Nat) (r : Bool) (hq : decide (fil k n D) = r) :
    Calls Tryd.prog 69 #[.int .i64 k, .slice da D.length dc, .int .i64 (n : Int)] w fun e w' => e = .returned (.bool r) ∧ Below w.heap.size w w' := by
  have HR := hide hr
  have HQ := hide hq
  have h63 : (D.length : Int) ≤ 8796093022208 := by omega
  clear hr hm hq
  go_enter Tryd.func69, Tryd.ntmps69
  go_wp2
  go_loopg [7] D.length (fun g i wr => ∃ j : Nat, j ≤ D.length ∧ g = D.length - j ∧ i = .int .i64 (j : Int) ∧ Hid (∀ t, t < j → ((D.getD t ByteArray.empty).size : Int) = k) ∧ w = wr)
  case atStart =>
    go_light
    exact ⟨0, Nat.zero_le _, rfl, rfl, fun t ht => absurd ht (Nat.not_lt_zero _), rfl⟩
  case round =>
    obtain ⟨j, hj, rfl, rfl, HA, rfl⟩ := hrel
    by_cases hlt : j < D.length
    · have hz : (j : Int) < (D.length : Int) := by omega
      have hz0 : (0 : Int) ≤ (j : Int) := Int.natCast_nonneg _
      obtain rfl := HR.out.ptr (by omega)
      have cj := HR.out.at hlt
      obtain ⟨x, hx⟩ : ∃ x, D.getD j ByteArray.empty = x := ⟨_, rfl⟩
      rw [hx] at cj
      by_cases hxs : (x.size : Int) = k
      · have HN : Hid (∀ t, t < j + 1 → ((D.getD t ByteArray.empty).size : Int) = k) := fun t ht => by
          rcases Nat.lt_or_eq_of_le (Nat.le_of_lt_succ ht) with h | rfl
          · exact HA.out t h
          · rw [hx]; exact hxs
        have hxb : ((x.size : Int) == k) = true := by rw [hxs]; simp
        clear hx HA
        go_wp2
        go_roundg (D.length - (j + 1))
        case rel =>
          go_light
          exact ⟨j + 1, by omega, rfl, by go_num, HN.out, rfl⟩
        case measure => go_light; omega
      · obtain rfl : false = r := by
          rw [← HQ.out]
          refine (decide_eq_false fun h => hxs ?_).symm
          rw [← hx]
          exact h.2 _ (getD_mem hlt)
        clear hx HA
        go_wp2
        go_ret
        exact ⟨rfl, Below.refl _ _⟩
    · obtain rfl : j = D.length := by omega
      have hz : ¬ ((D.length : Int) < (D.length : Int)) := by omega
      have hE : decide (D.length = n) = r := by
        rw [← HQ.out]
        have : fil k n D ↔ D.length = n := ⟨fun h => h.1, fun h => ⟨h, fun d hd => by
          obtain ⟨t, ht, rfl⟩ := List.getElem_of_mem hd
          have := HA.out t ht
          rwa [List.getD_eq_getElem?_getD, List.getElem?_eq_getElem ht] at this⟩⟩
        simp only [this]
      clear HA hlt hj
      by_cases hDn : D.length = n
      · obtain rfl : true = r := by rw [← hE]; exact (decide_eq_true hDn).symm
        subst hDn
        clear hE
        go_wp2
        go_ret
        exact ⟨rfl, Below.refl _ _⟩
      · obtain rfl : false = r := by rw [← hE]; exact (decide_eq_false hDn).symm
        have hDz : ¬ (D.length : Int) = (n : Int) := by omega
        have hDb : ((D.length : Int) == (n : Int)) = false := by simp; omega
        clear hE
        go_wp2
        go_ret
        exact ⟨rfl, Below.refl _ _⟩
theorem rcount_ok (n : Nat) (w : World) (ao : Option Addr) (b off m cap : Nat) (l : List Nat) (r : Cv.Rd w ao b off m l) (hm : m ≤ 5000) (he : Cv.errS n l = 0) (q : Nat) (hq : (Cv.rst 0 n l).length = q) :
    Calls Tryd.prog 68 #[.int .u64 (n : Int), .slice ao m cap] w fun x w' => x = .returned (.tuple #[.int .u64 (q : Int), .int .i64 0]) ∧ Below w.heap.size w w' := by
  obtain ⟨h40, _, _, hc⟩ := Cv.errS_ok he
  have hl := Cv.rst_len n h40 l 0 hc
  have hrl := r.len
  have eq : IntKind.u64.wrap (q : Int) = (q : Int) := by rw [IntKind.wrap_u64]; omega
  have HR : Calls Tryd.prog 43 #[.int .u64 (n : Int), .slice ao m cap] w fun e w' => ∃ a c, e = .returned (.tuple #[.slice a q c, .int .i64 0]) ∧ Below w.heap.size w w' := (Cv.rrest_ok n w ao b off m cap l r hm he).mono fun e w' ⟨v, e1, e2, e3⟩ => by
    have hf : (zl (Cv.rst 0 n l)).length = q := by rw [Cv.zl_len]; exact hq
    rcases e2.2 with ⟨hv, h0⟩ | ⟨g, cp, cur, hv, _⟩
    · exact ⟨none, 0, by rw [e1, hv, show q = 0 by omega], e3⟩
    · exact ⟨_, cp, by rw [e1, hv, hf], e3⟩
  clear r hm he hq h40 hc hl hrl
  go_enter Tryd.func68, Tryd.ntmps68
  go_wp2_with (go_at_call 43; with_reducible refine HR.mono ?_; rintro e w1 ⟨a1, c1, rfl, hb1⟩)
  go_ret2
  exact ⟨rfl, hb1⟩
end Go.Proofs.YtnbejijpmeklaaaDoor
/-
  The reference's Known: the blocks that a batch and its items tell. Own work.
-/
namespace Go.Proofs.YtnbejijpmeklaaaDoor
open Go.RowKit
open Cv (RdC zl cU)
attribute [local go_sem ↓] Go.wp_at_zero Go.wp_at_succ
/-- One known block more, in a region that draws its order. -/
theorem step_app_H (w : World) {ops : Array Oper} {o : Oper} {a : Act} {K : Act → World → Prop} {Q : Exit → Act → World → Prop} {E : Prop} (hgd : o.guard = none)
    (s x : Operand) (hop : o.op = Op.call { callee := Callee.builtin Builtin.append, args := #[s, x], argTypes := #[87, 87] })
    (B : Nat) (v : Value) (L : List He) (hs : a.eval s = v) (hown : OwnH w B v L) (ad : Addr) (cap : Nat) (e : He) (hx : a.eval x = .slice (some ad) 1 cap) (hr : ∀ j u, (cH [e])[j]? = some u → w.cell? (ad.add j) = some u)
    (hlen : L.length + 1 ≤ 1048576) (hB : B ≤ w.heap.size)
    (hK : ∀ v' w', OwnH w' B v' (L ++ [e]) → Below B w w' → w.grownBy w' v.ownBlock → K (a.put o.dst v') w') : if Region.wanted o (yielded ops a.tmps) = true then Oper.wp Tryd.prog o a w K Q else E := by
  have hw : Region.wanted o (yielded ops a.tmps) = true := by simp [Region.wanted, hgd]
  rw [if_pos hw]
  obtain ⟨i0, hi, hz0, hz1, hz2⟩ := info_parts Tryd.infoH
  have hlt : ∀ k, v.ownBlock = some k → B ≤ k := fun k hk => (World.ownsRow.lt hown k hk).1
  obtain ⟨v', w', hrun, r1, r2, _⟩ := run_append_own (P := Tryd.prog) w B 87 o.type 113 i0 (.agg #[.int .i64 0, .int .u64 0, .string ByteArray.empty]) 3 32 Tryd.underlying87 hi hz0 hz1 hz2 rfl (by decide) v L.length _ hown ad 1 cap (cH [e]) rfl hr (cH_one [e]) (by unfold maxLen; omega) (by omega) hB
  unfold Oper.wp
  simp [execOp, hop, resolve, invoke, builtin, hs, hx, hrun, Result.andThen]
  refine hK v' w' ?_ ((Below.refl _ _).grown r2 hB hlt) r2
  rw [OwnH, List.length_append, cH_app]; exact r1
theorem row_neH {w : World} {B B' e e' s s' n n' g : Nat} {v v' : Value} {xs xs' : List Value} (h : w.ownsRow B e s v n xs) (h' : w.ownsRow B' e' s' v' n' xs') (he : e ≠ e') (hg : v.ownBlock = some g) : v'.ownBlock ≠ some g := fun hg' => by
  obtain ⟨_, cur, hc⟩ := own_block h hg
  obtain ⟨_, cur', hc'⟩ := own_block h' hg'
  rw [hc] at hc'
  injection hc' with hc'
  injection hc' with _ h2 _
  exact he h2
theorem rdB_of {w : World} {B n c : Nat} {a : Option Addr} {R : List (Nat × Nat)} (h : Cv.OwnB w B (.slice a n c) (zl R)) (hf : ∀ b ∈ R, (b.2 + 1) * 2 ^ b.1 ≤ 2 ^ 40) : ∃ g, RdB w a g 0 R.length (zl R) := by
  obtain ⟨ao, g, n', cap, hv, hr, _⟩ := own_rdB h (fun x hx => by
    obtain ⟨b0, hb0, rfl⟩ := List.mem_map.1 hx
    exact (fit40 (hf b0 hb0) (Nat.le_refl _)).1)
  obtain ⟨rfl, _, _⟩ := Value.slice.inj hv
  have hl := hr.len
  rw [Cv.zl_len] at hl
  subst hl
  exact ⟨g, hr⟩
theorem cell_H (w : World) (e : He) : ∀ j u, (cH [e])[j]? = some u → (w.alloc (.cells #[.int .i64 (e.1.1 : Int), .int .u64 (e.1.2 : Int), .string e.2] 113)).drew.cell? (Addr.add ⟨w.heap.size, 0, none⟩ j) = some u := fun j u hj => by
  rw [Addr.add_mid, Nat.zero_add, cell_of_row (w.alloc (.cells #[.int .i64 (e.1.1 : Int), .int .u64 (e.1.2 : Int), .string e.2] 113)).drew _ _ _ _ (0, 0) (heap_alloc_new w _)]
  match j, hj with
  | 0, hj => exact hj
  | 1, hj => exact hj
  | 2, hj => exact hj
theorem cell_H' (w : World) (e : He) : ∀ j u, (cH [e])[j]? = some u → (w.alloc (.cells #[.int .i64 (e.1.1 : Int), .int .u64 (e.1.2 : Int), .string e.2] 113)).cell? (Addr.add ⟨w.heap.size, 0, none⟩ j) = some u := fun j u hj => by
  rw [Addr.add_mid, Nat.zero_add, cell_of_row (w.alloc (.cells #[.int .i64 (e.1.1 : Int), .int .u64 (e.1.2 : Int), .string e.2] 113)) _ _ _ _ (0, 0) (heap_alloc_new w _)]
  match j, hj with
  | 0, hj => exact hj
  | 1, hj => exact hj
  | 2, hj => exact hj
set_option maxRecDepth 100000 in
set_option maxHeartbeats 2000000 in
theorem rknown_any (w : World) (hT : Tr w) (kd k : Int) (old size : Nat) (sa : Option Addr) (sb so sc : Nat) (S : List Nat) (X : List ByteArray) (hs : RdU w sa sb so X.length S) (hns : X.length ≤ 5000) (da : Option Addr) (db dO dc : Nat) (D : List ByteArray) (hr : RdS w da db dO D.length D) (xa : Option Addr) (xb xo xc : Nat) (hx : RdS w xa xb xo X.length X) (hsz : ∀ s ∈ X, s.size ≤ 1048576) (he : Cv.errS size S = 0) (hD : D.length = (Cv.rst 0 size S).length) (Kn : List He) (hK : knS (clk k) S X ++ (Cv.rst 0 size S).zip D = Kn) :
    Calls Tryd.prog 48 #[vP kd k old size (.slice sa X.length sc) (.slice da D.length dc), .slice xa X.length xc] w fun e w' => ∃ ao g cap, e = .returned (.slice ao Kn.length cap) ∧ RdH w' ao g Kn.length Kn ∧ Below w.heap.size w w' := by
  obtain ⟨h40, _, _, hc⟩ := Cv.errS_ok he
  have hXS : X.length = S.length := hs.hl.symm
  have hin := rst_in he
  obtain ⟨R, hRR⟩ : ∃ R, Cv.rst 0 size S = R := ⟨_, rfl⟩
  have hRl : R.length ≤ 80 * 5001 := by rw [← hRR]; have := Cv.rst_len size h40 S 0 hc; omega
  rw [hRR] at hD hK hin
  obtain ⟨c, hcc⟩ : ∃ c, clk k = c := ⟨_, rfl⟩
  rw [hcc] at hK
  have hc32 : c ≤ 32 := by rw [← hcc]; exact clk_le k
  obtain ⟨N, hN⟩ : ∃ N, knS c S X = N := ⟨_, rfl⟩
  have hNl : N.length = X.length := by rw [← hN, knS_len c S X hXS, hXS]
  have hNat : ∀ j, j < X.length → N.take (j + 1) = N.take j ++ [((0, S.getD j 0), dg c (leafT (X.getD j ByteArray.empty)))] := fun j hj => by
    rw [List.take_add_one, ← hN, knS_at c hXS (by omega)]; rfl
  have hZat : ∀ j, j < R.length → (R.zip D).take (j + 1) = (R.zip D).take j ++ [(R.getD j (0, 0), D.getD j ByteArray.empty)] := fun j hj => by
    rw [List.take_add_one, zip_at hD hj]; rfl
  rw [hN] at hK
  have hZl := zip_len hD
  obtain ⟨Z, hZ⟩ : ∃ Z, R.zip D = Z := ⟨_, rfl⟩
  rw [hZ] at hK hZat hZl
  have HRe : Hid (∀ W, Below w.heap.size w W → Calls Tryd.prog 43 #[.int .u64 (size : Int), .slice sa X.length sc] W fun e w' => ∃ ao cap, e = .returned (.tuple #[.slice ao R.length cap, .int .i64 0]) ∧ Cv.OwnB w' W.heap.size (.slice ao R.length cap) (zl R) ∧ Below W.heap.size W w') := fun W hb => by
    refine (Cv.rrest_ok size W _ sb so X.length sc S (rdu_rd (hs.next hb)) hns he).mono fun e w' ⟨v, e1, e2, e3⟩ => ?_
    rw [hRR] at e2
    obtain ⟨ao, g, n', cap, rfl, hr', _⟩ := own_rdB e2 (fun x hx => by
      obtain ⟨b0, hb0, rfl⟩ := List.mem_map.1 hx
      exact (fit40 (hin b0 hb0) h40).1)
    have hl := hr'.len
    rw [Cv.zl_len] at hl
    subst hl
    exact ⟨ao, cap, e1, e2, e3⟩
  have HLf : Hid (∀ W, Below w.heap.size w W → ∀ j, j < X.length → Calls Tryd.prog 23 #[.int .i64 k, .string (X.getD j ByteArray.empty)] W fun e w' => e = .returned (.string (dg c (leafT (X.getD j ByteArray.empty)))) ∧ Below W.heap.size W w') := fun W hb j hj => refleaf_any W (hT.next hb) k _ (by have := hsz _ (getD_mem hj); omega) _ (by rw [hcc])
  have h6 := six_new w (.int .i64 kd) (.int .i64 k) (.int .u64 (old : Int)) (.int .u64 (size : Int)) (.slice sa X.length sc) (.slice da D.length dc)
  have hb := bal (Below.refl w.heap.size w) (.cells #[.int .i64 kd, .int .i64 k, .int .u64 (old : Int), .int .u64 (size : Int), .slice sa X.length sc, .slice da D.length dc] 32)
  obtain ⟨W0, hW0⟩ : ∃ W0, w.alloc (.cells #[.int .i64 kd, .int .i64 k, .int .u64 (old : Int), .int .u64 (size : Int), .slice sa X.length sc, .slice da D.length dc] 32) = W0 := ⟨_, rfl⟩
  rw [hW0] at h6 hb
  have HS : Hid (∀ W, Below W0.heap.size W0 W → Six W w.heap.size (.int .i64 kd) (.int .i64 k) (.int .u64 (old : Int)) (.int .u64 (size : Int)) (.slice sa X.length sc) (.slice da D.length dc) ∧ RdU W sa sb so X.length S ∧ RdS W da db dO D.length D ∧ RdS W xa xb xo X.length X ∧ Below w.heap.size w W) := fun W hW => ⟨h6.next hW, hs.next (bnext hb hW), hr.next (bnext hb hW) (Nat.le_refl _), hx.next (bnext hb hW) (Nat.le_refl _), bnext hb hW⟩
  have HQ : Hid (N.length = X.length ∧ (∀ j, j < X.length → N.take (j + 1) = N.take j ++ [((0, S.getD j 0), dg c (leafT (X.getD j ByteArray.empty)))]) ∧ (∀ j, j < R.length → Z.take (j + 1) = Z.take j ++ [(R.getD j (0, 0), D.getD j ByteArray.empty)]) ∧ Z.length = R.length ∧ N ++ Z = Kn ∧ R.length ≤ 80 * 5001 ∧ X.length ≤ 5000 ∧ D.length = R.length ∧ (∀ b ∈ R, (b.2 + 1) * 2 ^ b.1 ≤ 2 ^ 40)) := ⟨hNl, hNat, hZat, hZl, hK, hRl, hns, hD, fun b hb => Nat.le_trans (hin b hb) h40⟩
  have hxz : (X.length : Int) ≤ 5000 := by omega
  have hrz : (R.length : Int) ≤ 400080 := by omega
  clear hT hs hns hr hx hsz he hD hK h40 hc hXS hin hRl hcc hc32 hN hNl hNat hZat hZl hZ hRR h6 hb
  unfold vP
  go_enter Tryd.func48, Tryd.ntmps48
  go_upto_region 1 with (fail)
  try rw [hW0]
  clear hW0
  go_wp2
  go_loopg [5, 6] X.length (fun gh v jj wr => ∃ j : Nat, j ≤ X.length ∧ gh = X.length - j ∧ jj = .int .i64 (j : Int) ∧ Hid (OwnH wr W0.heap.size v (N.take j)) ∧ Hid (Below W0.heap.size W0 wr))
  case atStart =>
    go_light
    exact ⟨0, Nat.zero_le _, rfl, rfl, World.ownsRow_nil _ _ _ _, Below.refl _ _⟩
  case round =>
    obtain ⟨j, hj, rfl, rfl, HO, HB⟩ := hrel
    by_cases hlt : j < X.length
    · have hz : (j : Int) < (X.length : Int) := by omega
      have hz0 : (0 : Int) ≤ (j : Int) := Int.natCast_nonneg _
      obtain ⟨_, hU, _, hX, hbw⟩ := HS.out wr HB.out
      obtain rfl := hU.ptr (by omega)
      obtain rfl := hX.ptr (by omega)
      have HC : Hid (∀ W, Below W0.heap.size W0 W → W.cell? ⟨w.heap.size, 1, none⟩ = some (.int .i64 k) ∧ W.cell? ⟨w.heap.size, 4, none⟩ = some (.slice (some ⟨sb, so, none⟩) X.length sc) ∧ W.cell? ⟨sb, so + j, none⟩ = some (.int .u64 (S.getD j 0 : Nat)) ∧ W.cell? ⟨xb, xo + j, none⟩ = some (.string (X.getD j ByteArray.empty))) := fun W hW => by
        obtain ⟨k1, k2, _, k4, _⟩ := HS.out W hW
        exact ⟨k1.cells.2.1, k1.cells.2.2.2.2.1, k2.at hlt, k4.at hlt⟩
      have hLf := fun W (hW : Below wr.heap.size wr W) => HLf.out W (bnext hbw hW) j hlt
      have htk := HQ.out.2.1 j hlt
      obtain ⟨x, hx⟩ : ∃ x, X.getD j ByteArray.empty = x := ⟨_, rfl⟩
      obtain ⟨i, hi⟩ : ∃ i, S.getD j 0 = i := ⟨_, rfl⟩
      obtain ⟨d, hd⟩ : ∃ d, dg c (leafT x) = d := ⟨_, rfl⟩
      rw [hx, hi] at HC
      rw [hx, hd] at hLf
      rw [hx, hi, hd] at htk
      have HL := hide hLf
      obtain ⟨va, vm, vc, rfl⟩ := Cv.own_slice HO.out
      have HG : Hid (N.take (j + 1) = N.take j ++ [((0, i), d)] ∧ (N.take j).length ≤ 5000 ∧ j < X.length) := ⟨htk, by rw [List.length_take]; have := HQ.out.2.2.2.2.2.2.1; omega, hlt⟩
      have hdr := (Below.refl wr.heap.size wr).drew
      obtain ⟨q5, q6, q7, q8⟩ := HC.out _ (bnext HB.out hdr)
      clear hU hX hbw hLf htk hx hi hd hlt hj
      go_upto_region 5 with (fail)
      go_region_held3 (fun Z => Z.cell? ⟨w.heap.size, 1, none⟩ = some (.int .i64 k) ∧ Z.cell? ⟨w.heap.size, 4, none⟩ = some (.slice (some ⟨sb, so, none⟩) X.length sc) ∧ Z.cell? ⟨sb, so + j, none⟩ = some (.int .u64 (i : Int)) ∧ Z.cell? ⟨xb, xo + j, none⟩ = some (.string x)) (first | assumption | (exact HC.out _ hB3) | (exact HC.out _ (bnext HB.out hr2)) | (exact HC.out _ (bal (bnext HB.out hr2) _)) | (exact HC.out _ (bnext HB.out hdr))) (first
        | (go_at_call 23; with_reducible refine (HL.out _ hdr).mono ?_; rintro e w2 ⟨rfl, hb2⟩; have hr2 := bnext hdr hb2)
        | (refine step_app_H _ (by rfl) _ _ (by rfl) W0.heap.size _ (N.take j) (by rfl) (World.ownsRow.alloc (row_nextH HO.out hr2) _) ⟨w2.heap.size, 0, none⟩ 1 ((0, i), d) (by rfl) (cell_H' w2 ((0, i), d)) (by have := HG.out.2.1; omega) (by have := (bnext HB.out hr2).size; rw [World.size_alloc]; omega) ?_; intro v' w3 o1 o2 _; obtain ⟨ya, ym, yc, rfl⟩ := Cv.own_slice o1; have hB3 := (bal (bnext HB.out hr2) (.cells #[.int .i64 0, .int .u64 (i : Int), .string d] 113)).trans o2))
      all_goals
        have HZ := hide (And.intro o1 hB3)
        clear o1 o2 hB3 hr2 hb2 HL HO
        go_wp2
        go_roundg (X.length - (j + 1))
        case rel =>
          go_light
          exact ⟨j + 1, HG.out.2.2, rfl, by go_num, by rw [HG.out.1]; exact HZ.out.1, HZ.out.2⟩
        case measure => go_light; have := HG.out.2.2; omega
    · obtain rfl : j = X.length := by omega
      have hz : ¬ ((X.length : Int) < (X.length : Int)) := by omega
      obtain ⟨hS6, _, _, _, hbw⟩ := HS.out wr HB.out
      obtain ⟨k0, k1, k2, k3, k4, k5⟩ := hS6.cells
      have hO := HO.out
      rw [List.take_of_length_le (by rw [HQ.out.1]; exact Nat.le_refl _)] at hO
      have HO1 := hide hO
      have HRw := HRe.out wr hbw
      clear hO HO hS6 hbw hlt hj HRe HLf
      go_upto_region 7 with (go_at_call 43; with_reducible refine HRw.mono ?_; rintro e w2 ⟨ra, rc, rfl, hRr, hb2⟩)
      have HR2 : Hid (Cv.OwnB w2 W0.heap.size (.slice ra R.length rc) (zl R) ∧ Below W0.heap.size W0 w2 ∧ OwnH w2 W0.heap.size u5 N) := ⟨hRr.mono HB.out.size, bnext HB.out hb2, row_nextH HO1.out hb2⟩
      clear hRr hb2 HO1 HRw k0 k1 k2 k3 k4 k5
      go_wp2
      go_loopg [5, 9] R.length (fun gh v jj wr => ∃ j : Nat, j ≤ R.length ∧ gh = R.length - j ∧ jj = .int .i64 (j : Int) ∧ Hid (OwnH wr W0.heap.size v (N ++ Z.take j)) ∧ Hid (Below W0.heap.size W0 wr) ∧ Hid (Cv.OwnB wr W0.heap.size (.slice ra R.length rc) (zl R)))
      case atStart =>
        go_light
        exact ⟨0, Nat.zero_le _, rfl, rfl, by rw [List.take_zero, List.append_nil]; exact HR2.out.2.2, HR2.out.2.1, HR2.out.1⟩
      case round =>
        clear HR2
        obtain ⟨j, hj, rfl, rfl, HO, HB, HRo⟩ := hrel
        by_cases hlt : j < R.length
        · have hz : (j : Int) < (R.length : Int) := by omega
          have hz0 : (0 : Int) ≤ (j : Int) := Int.natCast_nonneg _
          obtain ⟨rg, hrd⟩ := rdB_of HRo.out HQ.out.2.2.2.2.2.2.2.2
          obtain rfl := hrd.addr (by omega)
          have hdl : j < D.length := by rw [HQ.out.2.2.2.2.2.2.2.1]; exact hlt
          have hdz : (j : Int) < (D.length : Int) := by omega
          obtain ⟨_, _, hDr, _, _⟩ := HS.out wr HB.out
          obtain rfl := hDr.ptr (by omega)
          have HC : Hid (∀ W, Below wr.heap.size wr W → W.cell? ⟨w.heap.size, 5, none⟩ = some (.slice (some ⟨db, dO, none⟩) D.length dc) ∧ W.cell? ⟨db, dO + j, none⟩ = some (.string (D.getD j ByteArray.empty)) ∧ W.cell? ⟨rg, j * 2, none⟩ = some (.int .i64 ((R.getD j (0, 0)).1 : Nat)) ∧ W.cell? ⟨rg, j * 2 + 1, none⟩ = some (.int .u64 ((R.getD j (0, 0)).2 : Nat))) := fun W hW => by
            obtain ⟨k1, _, k3, _, _⟩ := HS.out W (bnext HB.out hW)
            have hc := (hrd.below hW).cell j hlt
            rw [Cv.zl_getD, Nat.zero_add] at hc
            exact ⟨k1.cells.2.2.2.2.2, k3.at hdl, hc.1, hc.2⟩
          have htk := HQ.out.2.2.1 j hlt
          obtain ⟨x, hx⟩ : ∃ x, D.getD j ByteArray.empty = x := ⟨_, rfl⟩
          obtain ⟨⟨mh, mk⟩, hm⟩ : ∃ m, R.getD j (0, 0) = m := ⟨_, rfl⟩
          rw [hx, hm] at HC htk
          simp only at HC
          obtain ⟨va, vm, vc, rfl⟩ := Cv.own_slice HO.out
          have HG : Hid (Z.take (j + 1) = Z.take j ++ [((mh, mk), x)] ∧ (N ++ Z.take j).length ≤ 500000 ∧ j < R.length) := ⟨htk, by
            rw [List.length_append, List.length_take]
            obtain ⟨a1, _, _, a4, _, a6, a7, _⟩ := HQ.out
            omega, hlt⟩
          have hdr := (Below.refl wr.heap.size wr).drew
          have hal := bal (Below.refl wr.heap.size wr) (.cells #[.int .i64 (mh : Int), .int .u64 (mk : Int), .string x] 113)
          obtain ⟨q5, q6, q7, q8⟩ := HC.out _ hdr
          obtain ⟨r5, r6, r7, r8⟩ := HC.out _ (Below.refl _ _)
          have HO1 := hide (row_nextH HO.out hal.drew)
          have HRo1 := hide (row_nextH HRo.out hal.drew)
          have HB1 := hide (bnext HB.out hal.drew)
          have HCe := hide (cell_H wr ((mh, mk), x))
          have HC3 : Hid (∀ w3, Below W0.heap.size W0 w3 → (wr.alloc (.cells #[.int .i64 (mh : Int), .int .u64 (mk : Int), .string x] 113)).drew.grownBy w3 (Value.slice va vm vc).ownBlock → (w3.cell? ⟨w.heap.size, 5, none⟩ = some (.slice (some ⟨db, dO, none⟩) D.length dc) ∧ w3.cell? ⟨db, dO + j, none⟩ = some (.string x) ∧ w3.cell? ⟨rg, j * 2, none⟩ = some (.int .i64 (mh : Int)) ∧ w3.cell? ⟨rg, j * 2 + 1, none⟩ = some (.int .u64 (mk : Int))) ∧ Cv.OwnB w3 W0.heap.size (.slice (some ⟨rg, 0, none⟩) R.length rc) (zl R)) := fun w3 h1 h2 => by
            obtain ⟨k1, _, k3, _, _⟩ := HS.out w3 h1
            have c2 := k3.at hdl
            rw [hx] at c2
            obtain ⟨_, _, c3, c4⟩ := HC.out _ hal.drew
            have hne : ∀ g, (Value.slice (some ⟨rg, 0, none⟩) R.length rc).ownBlock = some g → some g ≠ (Value.slice va vm vc).ownBlock := fun g hg e => row_neH HRo1.out HO1.out (by decide) hg e.symm
            have hbk := h2.block rg (World.ownsRow.lt HRo1.out rg rfl).2 (hne rg rfl)
            exact ⟨⟨k1.cells.2.2.2.2.2, c2, (World.cell?_of_block (a := ⟨rg, j * 2, none⟩) hbk).trans c3, (World.cell?_of_block (a := ⟨rg, j * 2 + 1, none⟩) hbk).trans c4⟩, keep_row HRo1.out fun g hg _ => h2.block g (World.ownsRow.lt HRo1.out g hg).2 (hne g hg)⟩
          clear hrd hDr htk hx hm hlt hj hdl HO HRo
          go_upto_region 10 with (fail)
          go_region_held3 (fun Z' => Z'.cell? ⟨w.heap.size, 5, none⟩ = some (.slice (some ⟨db, dO, none⟩) D.length dc) ∧ Z'.cell? ⟨db, dO + j, none⟩ = some (.string x) ∧ Z'.cell? ⟨rg, j * 2, none⟩ = some (.int .i64 (mh : Int)) ∧ Z'.cell? ⟨rg, j * 2 + 1, none⟩ = some (.int .u64 (mk : Int))) (first | assumption | (exact (HC3.out _ hB3 o3).1) | (exact HC.out _ hdr) | (exact HC.out _ hal.drew) | (exact HC.out _ hal)) (first
            | (refine step_app_H _ (by rfl) _ _ (by rfl) W0.heap.size _ (N ++ Z.take j) (by rfl) HO1.out ⟨wr.heap.size, 0, none⟩ 1 ((mh, mk), x) (by rfl) HCe.out (by have := HG.out.2.1; omega) HB1.out.size ?_; intro v' w3 o1 o2 o3; obtain ⟨ya, ym, yc, rfl⟩ := Cv.own_slice o1; have hB3 := HB1.out.trans o2))
          all_goals
            have HZ : Hid (OwnH w3 W0.heap.size (.slice ya ym yc) (N ++ Z.take (j + 1)) ∧ Below W0.heap.size W0 w3 ∧ Cv.OwnB w3 W0.heap.size (.slice (some ⟨rg, 0, none⟩) R.length rc) (zl R)) := ⟨by rw [HG.out.1, ← List.append_assoc]; exact o1, hB3, (HC3.out _ hB3 o3).2⟩
            clear o1 o2 o3 hB3 HC3 HO1 HRo1 HB1 HCe HC hal q5 q6 q7 q8 r5 r6 r7 r8
            go_wp2
            go_roundg (R.length - (j + 1))
            case rel =>
              go_light
              exact ⟨j + 1, HG.out.2.2, rfl, by go_num, HZ.out.1, HZ.out.2.1, HZ.out.2.2⟩
            case measure => go_light; have := HG.out.2.2; omega
        · obtain rfl : j = R.length := by omega
          have hz : ¬ ((R.length : Int) < (R.length : Int)) := by omega
          have hO := HO.out
          rw [List.take_of_length_le (by rw [HQ.out.2.2.2.1]; exact Nat.le_refl _), HQ.out.2.2.2.2.1] at hO
          obtain ⟨oa, og, oc, rfl, hRo⟩ := own_rdH hO
          have HF := hide (And.intro hRo (HS.out wr HB.out).2.2.2.2)
          clear hO hRo hlt hj HO HRo
          go_wp2
          go_ret
          exact ⟨oa, ⟨oc, rfl⟩, ⟨og, HF.out.1⟩, HF.out.2⟩
end Go.Proofs.YtnbejijpmeklaaaDoor
/-
  The reference's Formed: is it a batch? Own work.
-/
namespace Go.Proofs.YtnbejijpmeklaaaDoor
open Go.RowKit
open Cv (RdC zl cU Rd incB incB_iff)
attribute [local go_sem ↓] Go.wp_at_zero Go.wp_at_succ
theorem refrising_q (w : World) (ao : Option Addr) (b off n cap : Nat) (l : List Nat) (r : Rd w ao b off n l) (hn : n ≤ maxLen) :
    Calls Tryd.prog 42 #[.slice ao n cap] w fun e w' => e = .returned (.bool (incB l)) ∧ ∃ m, w' = w.drewN m := by
  have hn' : (n : Int) ≤ 9223372036854775807 := by unfold maxLen at hn; omega
  have HR : Hid (Rd w ao b off n l) := r
  clear hn r
  go_enter Tryd.func42, Tryd.ntmps42
  go_wp2
  go_loopg [3] n (fun g i wr => ∃ k : Nat, (k ≤ n ∨ k = 1) ∧ 1 ≤ k ∧ g = n + 1 - k ∧ i = .int .i64 (k : Int) ∧ (∀ j, j + 1 < k → l.getD j 0 < l.getD (j + 1) 0) ∧ ∃ m, wr = w.drewN m)
  case atStart =>
    go_light
    exact ⟨1, .inr rfl, Nat.le_refl _, by omega, rfl, fun j hj => absurd hj (by omega), 0, rfl⟩
  case round =>
    obtain ⟨k, hk, hk1, rfl, rfl, he, m, hm⟩ := hrel
    have hb : Below w.heap.size w wr := by rw [hm]; exact below_drewN (Below.refl _ _) _
    have HM := hide hm
    clear hm
    have hk0 : (0 : Int) ≤ (k : Int) := Int.natCast_nonneg _
    by_cases hlt : k < n
    · obtain ⟨i, rfl⟩ : ∃ i, k = i + 1 := ⟨k - 1, by omega⟩
      have r1 := HR.out.below hb
      obtain rfl := r1.addr (by omega)
      have c1 := r1.cell (i + 1) hlt
      have c2 := r1.cell i (by omega)
      have hz : ((i + 1 : Nat) : Int) < (n : Int) := by omega
      have ei : (((i + 1 : Nat) : Int) - 1) = (i : Int) := by omega
      have ec : ((i + 1 : Nat) : Int) = (i : Int) + 1 := by omega
      have hz2 : (i : Int) + 1 < (n : Int) := by omega
      have hz3 : (i : Int) < (n : Int) := by omega
      have hi0 : (0 : Int) ≤ (i : Int) := Int.natCast_nonneg _
      have hi1 : (0 : Int) ≤ (i : Int) + 1 := by omega
      have HE : Hid (∀ j, j + 1 < i + 1 → l.getD j 0 < l.getD (j + 1) 0) := he
      have HI : Hid (¬ l.getD i 0 < l.getD (i + 1) 0 → incB l = false) := fun hno => by
        cases hB : incB l with
        | false => rfl
        | true => exact absurd (((incB_iff l).1 hB).2 i (by have := HR.out.len; omega)) hno
      obtain ⟨x, hx⟩ : ∃ x, l.getD (i + 1) 0 = x := ⟨_, rfl⟩
      obtain ⟨y, hy⟩ : ∃ y, l.getD i 0 = y := ⟨_, rfl⟩
      rw [hx] at c1
      rw [hy] at c2
      rw [hx, hy] at HI
      have HX : Hid (l.getD (i + 1) 0 = x ∧ l.getD i 0 = y) := ⟨hx, hy⟩
      have hlt2 : i + 1 < n := hlt
      clear hx hy r1 hb he hk hlt
      by_cases hxy : x ≤ y
      · have HN : Hid (incB l = false) := HI.out (by omega)
        go_wp2
        go_quiet (fail)
        go_wp2
        go_ret
        exact ⟨by rw [HN.out]; rfl, _, by rw [HM.out, World.drewN_drewN]⟩
      · go_wp2
        go_quiet (fail)
        go_wp2
        go_roundg (n + 1 - (i + 1 + 1))
        case rel =>
          go_light
          refine ⟨i + 1 + 1, by omega, by omega, rfl, by go_num, fun j hj => ?_, _, by rw [HM.out, World.drewN_drewN]⟩
          by_cases hjk : j = i
          · subst hjk; rw [HX.out.1, HX.out.2]; omega
          · exact HE.out j (by omega)
        case measure => go_light; omega
    · have hz : ¬ (k : Int) < (n : Int) := by omega
      have hz' : ¬ k < n := by omega
      have HN : Hid (decide ((0 : Int) < (n : Int)) = incB l) := by
        have hl := HR.out.len
        cases hB : incB l with
        | true => have := ((incB_iff l).1 hB).1; exact decide_eq_true (by omega)
        | false =>
          refine decide_eq_false (fun hp => ?_)
          have : incB l = true := (incB_iff l).2 ⟨by omega, fun i hi => he i (by omega)⟩
          rw [this] at hB; cases hB
      clear he hb hk
      go_wp2
      go_ret
      refine ⟨?_, m, HM.out⟩
      have := HN.out
      simp at this ⊢
      exact this
set_option maxRecDepth 100000 in
set_option maxHeartbeats 2000000 in
theorem rformed_1 (w : World) (kd k : Int) (old size : Nat) (sa : Option Addr) (sb so sc : Nat) (S : List Nat) (hs : RdU w sa sb so S.length S) (hns : S.length ≤ 5000) (da : Option Addr) (dn dc : Nat) (c1 : ¬ kd = 2) :
    Calls Tryd.prog 45 #[vP kd k old size (.slice sa S.length sc) (.slice da dn dc)] w fun e w' => e = .returned (.bool false) ∧ Below w.heap.size w w' := by
  have h6 := six_new w (.int .i64 kd) (.int .i64 k) (.int .u64 (old : Int)) (.int .u64 (size : Int)) (.slice sa S.length sc) (.slice da dn dc)
  have hb := bal (Below.refl w.heap.size w) (.cells #[.int .i64 kd, .int .i64 k, .int .u64 (old : Int), .int .u64 (size : Int), .slice sa S.length sc, .slice da dn dc] 32)
  obtain ⟨W0, hW0⟩ : ∃ W0, w.alloc (.cells #[.int .i64 kd, .int .i64 k, .int .u64 (old : Int), .int .u64 (size : Int), .slice sa S.length sc, .slice da dn dc] 32) = W0 := ⟨_, rfl⟩
  rw [hW0] at h6 hb
  obtain ⟨g0, g1, g2, g3, g4, g5⟩ := h6.cells
  have HB := hide hb
  have HC : Hid (∀ W, Calls Tryd.prog 11 #[.int .i64 k] W fun e w' => e = .returned (.int .i64 (chk k)) ∧ w' = W) := fun W => refcheck_any W k
  have HRi : Hid (∀ W, Below W0.heap.size W0 W → Calls Tryd.prog 42 #[.slice sa S.length sc] W fun e w' => e = .returned (.bool (incB S)) ∧ ∃ m, w' = W.drewN m) := fun W hW => refrising_q W sa sb so S.length sc S (rdu_rd (hs.next (bnext hb hW))) (by unfold maxLen; omega)
  unfold vP
  have f2 : decide (kd = 2) = false := decide_eq_false c1
  have f3 : (kd != 2) = true := by simp; exact c1
  have f4 : (!decide (kd = 2)) = true := by rw [f2]; rfl
  clear hs h6 hb hns f2
  go_enter Tryd.func45, Tryd.ntmps45
  go_upto_region 1 with (fail)
  try rw [hW0]
  clear hW0
  go_quiet (fail)
  go_wp2
  go_ret
  exact ⟨rfl, below_drewN HB.out _⟩
set_option maxRecDepth 100000 in
set_option maxHeartbeats 2000000 in
theorem rformed_2 (w : World) (kd k : Int) (old size : Nat) (sa : Option Addr) (sb so sc : Nat) (S : List Nat) (hs : RdU w sa sb so S.length S) (hns : S.length ≤ 5000) (da : Option Addr) (dn dc : Nat) (c1 : kd = 2) (c2 : ¬ (1 ≤ k ∧ k ≤ 32)) :
    Calls Tryd.prog 45 #[vP kd k old size (.slice sa S.length sc) (.slice da dn dc)] w fun e w' => e = .returned (.bool false) ∧ Below w.heap.size w w' := by
  have h6 := six_new w (.int .i64 kd) (.int .i64 k) (.int .u64 (old : Int)) (.int .u64 (size : Int)) (.slice sa S.length sc) (.slice da dn dc)
  have hb := bal (Below.refl w.heap.size w) (.cells #[.int .i64 kd, .int .i64 k, .int .u64 (old : Int), .int .u64 (size : Int), .slice sa S.length sc, .slice da dn dc] 32)
  obtain ⟨W0, hW0⟩ : ∃ W0, w.alloc (.cells #[.int .i64 kd, .int .i64 k, .int .u64 (old : Int), .int .u64 (size : Int), .slice sa S.length sc, .slice da dn dc] 32) = W0 := ⟨_, rfl⟩
  rw [hW0] at h6 hb
  obtain ⟨g0, g1, g2, g3, g4, g5⟩ := h6.cells
  have HB := hide hb
  have HC : Hid (∀ W, Calls Tryd.prog 11 #[.int .i64 k] W fun e w' => e = .returned (.int .i64 70) ∧ w' = W) := fun W => by have := refcheck_any W k; rw [show chk k = 70 by rw [chk, if_pos (by omega)]] at this; exact this
  have HRi : Hid (∀ W, Below W0.heap.size W0 W → Calls Tryd.prog 42 #[.slice sa S.length sc] W fun e w' => e = .returned (.bool (incB S)) ∧ ∃ m, w' = W.drewN m) := fun W hW => refrising_q W sa sb so S.length sc S (rdu_rd (hs.next (bnext hb hW))) (by unfold maxLen; omega)
  unfold vP
  subst c1
  clear hs h6 hb hns c2
  go_enter Tryd.func45, Tryd.ntmps45
  go_upto_region 1 with (fail)
  try rw [hW0]
  clear hW0
  go_quiet (first
    | (go_at_call 11; refine Calls.quiet_of_same (HC.out _)))
  go_wp2
  go_ret
  exact ⟨rfl, below_drewN HB.out _⟩
set_option maxRecDepth 100000 in
set_option maxHeartbeats 2000000 in
theorem rformed_3 (w : World) (kd k : Int) (old size : Nat) (sa : Option Addr) (sb so sc : Nat) (S : List Nat) (hs : RdU w sa sb so S.length S) (hns : S.length ≤ 5000) (da : Option Addr) (dn dc : Nat) (c1 : kd = 2) (c2 : 1 ≤ k ∧ k ≤ 32) (c3 : 2 ^ 40 < size) :
    Calls Tryd.prog 45 #[vP kd k old size (.slice sa S.length sc) (.slice da dn dc)] w fun e w' => e = .returned (.bool false) ∧ Below w.heap.size w w' := by
  have h6 := six_new w (.int .i64 kd) (.int .i64 k) (.int .u64 (old : Int)) (.int .u64 (size : Int)) (.slice sa S.length sc) (.slice da dn dc)
  have hb := bal (Below.refl w.heap.size w) (.cells #[.int .i64 kd, .int .i64 k, .int .u64 (old : Int), .int .u64 (size : Int), .slice sa S.length sc, .slice da dn dc] 32)
  obtain ⟨W0, hW0⟩ : ∃ W0, w.alloc (.cells #[.int .i64 kd, .int .i64 k, .int .u64 (old : Int), .int .u64 (size : Int), .slice sa S.length sc, .slice da dn dc] 32) = W0 := ⟨_, rfl⟩
  rw [hW0] at h6 hb
  obtain ⟨g0, g1, g2, g3, g4, g5⟩ := h6.cells
  have HB := hide hb
  have HC : Hid (∀ W, Calls Tryd.prog 11 #[.int .i64 k] W fun e w' => e = .returned (.int .i64 0) ∧ w' = W) := fun W => by have := refcheck_any W k; rw [show chk k = 0 by rw [chk, if_neg (by omega)]] at this; exact this
  have HRi : Hid (∀ W, Below W0.heap.size W0 W → Calls Tryd.prog 42 #[.slice sa S.length sc] W fun e w' => e = .returned (.bool (incB S)) ∧ ∃ m, w' = W.drewN m) := fun W hW => refrising_q W sa sb so S.length sc S (rdu_rd (hs.next (bnext hb hW))) (by unfold maxLen; omega)
  unfold vP
  subst c1
  have f8 : decide ((1099511627776 : Int) < (size : Int)) = true := decide_eq_true (by omega)
  clear hs h6 hb hns c2 c3
  go_enter Tryd.func45, Tryd.ntmps45
  go_upto_region 1 with (fail)
  try rw [hW0]
  clear hW0
  go_quiet (first
    | (go_at_call 11; refine Calls.quiet_of_same (HC.out _)))
  go_wp2
  go_ret
  exact ⟨rfl, below_drewN HB.out _⟩
set_option maxRecDepth 100000 in
set_option maxHeartbeats 2000000 in
theorem rformed_4 (w : World) (kd k : Int) (old size : Nat) (sa : Option Addr) (sb so sc : Nat) (S : List Nat) (hs : RdU w sa sb so S.length S) (hns : S.length ≤ 5000) (da : Option Addr) (dn dc : Nat) (c1 : kd = 2) (c2 : 1 ≤ k ∧ k ≤ 32) (c3 : ¬ 2 ^ 40 < size) (c4 : ¬ old = 0) :
    Calls Tryd.prog 45 #[vP kd k old size (.slice sa S.length sc) (.slice da dn dc)] w fun e w' => e = .returned (.bool false) ∧ Below w.heap.size w w' := by
  have h6 := six_new w (.int .i64 kd) (.int .i64 k) (.int .u64 (old : Int)) (.int .u64 (size : Int)) (.slice sa S.length sc) (.slice da dn dc)
  have hb := bal (Below.refl w.heap.size w) (.cells #[.int .i64 kd, .int .i64 k, .int .u64 (old : Int), .int .u64 (size : Int), .slice sa S.length sc, .slice da dn dc] 32)
  obtain ⟨W0, hW0⟩ : ∃ W0, w.alloc (.cells #[.int .i64 kd, .int .i64 k, .int .u64 (old : Int), .int .u64 (size : Int), .slice sa S.length sc, .slice da dn dc] 32) = W0 := ⟨_, rfl⟩
  rw [hW0] at h6 hb
  obtain ⟨g0, g1, g2, g3, g4, g5⟩ := h6.cells
  have HB := hide hb
  have HC : Hid (∀ W, Calls Tryd.prog 11 #[.int .i64 k] W fun e w' => e = .returned (.int .i64 0) ∧ w' = W) := fun W => by have := refcheck_any W k; rw [show chk k = 0 by rw [chk, if_neg (by omega)]] at this; exact this
  have HRi : Hid (∀ W, Below W0.heap.size W0 W → Calls Tryd.prog 42 #[.slice sa S.length sc] W fun e w' => e = .returned (.bool (incB S)) ∧ ∃ m, w' = W.drewN m) := fun W hW => refrising_q W sa sb so S.length sc S (rdu_rd (hs.next (bnext hb hW))) (by unfold maxLen; omega)
  unfold vP
  subst c1
  have f8 : decide ((1099511627776 : Int) < (size : Int)) = false := decide_eq_false (by omega)
  have f6 : decide (old = 0) = false := decide_eq_false c4
  have f7 : decide ((old : Int) = 0) = false := decide_eq_false (by omega)
  have f9 : ((old : Int) != 0) = true := by simp; omega
  have f10 : (!decide (old = 0)) = true := by rw [f6]; rfl
  have f11 : (!decide ((old : Int) = 0)) = true := by rw [f7]; rfl
  clear hs h6 hb hns c2 c3 c4 f6 f7
  go_enter Tryd.func45, Tryd.ntmps45
  go_upto_region 1 with (fail)
  try rw [hW0]
  clear hW0
  go_quiet (first
    | (go_at_call 11; refine Calls.quiet_of_same (HC.out _)))
  go_wp2
  go_ret
  exact ⟨rfl, below_drewN HB.out _⟩
set_option maxRecDepth 100000 in
set_option maxHeartbeats 2000000 in
theorem rformed_5 (w : World) (kd k : Int) (old size : Nat) (sa : Option Addr) (sb so sc : Nat) (S : List Nat) (hs : RdU w sa sb so S.length S) (hns : S.length ≤ 5000) (da : Option Addr) (dn dc : Nat) (c1 : kd = 2) (c2 : 1 ≤ k ∧ k ≤ 32) (c3 : ¬ 2 ^ 40 < size) (c4 : old = 0) (c5 : incB S = false) :
    Calls Tryd.prog 45 #[vP kd k old size (.slice sa S.length sc) (.slice da dn dc)] w fun e w' => e = .returned (.bool false) ∧ Below w.heap.size w w' := by
  have h6 := six_new w (.int .i64 kd) (.int .i64 k) (.int .u64 (old : Int)) (.int .u64 (size : Int)) (.slice sa S.length sc) (.slice da dn dc)
  have hb := bal (Below.refl w.heap.size w) (.cells #[.int .i64 kd, .int .i64 k, .int .u64 (old : Int), .int .u64 (size : Int), .slice sa S.length sc, .slice da dn dc] 32)
  obtain ⟨W0, hW0⟩ : ∃ W0, w.alloc (.cells #[.int .i64 kd, .int .i64 k, .int .u64 (old : Int), .int .u64 (size : Int), .slice sa S.length sc, .slice da dn dc] 32) = W0 := ⟨_, rfl⟩
  rw [hW0] at h6 hb
  obtain ⟨g0, g1, g2, g3, g4, g5⟩ := h6.cells
  have HB := hide hb
  have HC : Hid (∀ W, Calls Tryd.prog 11 #[.int .i64 k] W fun e w' => e = .returned (.int .i64 0) ∧ w' = W) := fun W => by have := refcheck_any W k; rw [show chk k = 0 by rw [chk, if_neg (by omega)]] at this; exact this
  have HRi : Hid (∀ W, Below W0.heap.size W0 W → Calls Tryd.prog 42 #[.slice sa S.length sc] W fun e w' => e = .returned (.bool false) ∧ ∃ m, w' = W.drewN m) := fun W hW => by rw [← c5]; exact refrising_q W sa sb so S.length sc S (rdu_rd (hs.next (bnext hb hW))) (by unfold maxLen; omega)
  unfold vP
  subst c1 c4
  have f8 : decide ((1099511627776 : Int) < (size : Int)) = false := decide_eq_false (by omega)
  rw [show ((0 : Nat) : Int) = 0 from rfl] at *
  clear hs h6 hb hns c2 c3 c5
  go_enter Tryd.func45, Tryd.ntmps45
  go_upto_region 1 with (fail)
  try rw [hW0]
  clear hW0
  go_quiet (first
    | (go_at_call 11; refine Calls.quiet_of_same (HC.out _))
    | (go_at_call 42; refine Calls.quiet_of (HRi.out _ (below_drewN (Below.refl _ _) _))))
  go_wp2
  go_ret
  exact ⟨rfl, below_drewN HB.out _⟩
set_option maxRecDepth 100000 in
set_option maxHeartbeats 2000000 in
theorem rformed_6 (w : World) (kd k : Int) (old size : Nat) (sa : Option Addr) (sb so sc : Nat) (S : List Nat) (hs : RdU w sa sb so S.length S) (hns : S.length ≤ 5000) (da : Option Addr) (dn dc : Nat) (c1 : kd = 2) (c2 : 1 ≤ k ∧ k ≤ 32) (c3 : ¬ 2 ^ 40 < size) (c4 : old = 0) (c5 : incB S = true) (c6 : size ≤ S.getD (S.length - 1) 0) :
    Calls Tryd.prog 45 #[vP kd k old size (.slice sa S.length sc) (.slice da dn dc)] w fun e w' => e = .returned (.bool false) ∧ Below w.heap.size w w' := by
  have h6 := six_new w (.int .i64 kd) (.int .i64 k) (.int .u64 (old : Int)) (.int .u64 (size : Int)) (.slice sa S.length sc) (.slice da dn dc)
  have hb := bal (Below.refl w.heap.size w) (.cells #[.int .i64 kd, .int .i64 k, .int .u64 (old : Int), .int .u64 (size : Int), .slice sa S.length sc, .slice da dn dc] 32)
  obtain ⟨W0, hW0⟩ : ∃ W0, w.alloc (.cells #[.int .i64 kd, .int .i64 k, .int .u64 (old : Int), .int .u64 (size : Int), .slice sa S.length sc, .slice da dn dc] 32) = W0 := ⟨_, rfl⟩
  rw [hW0] at h6 hb
  obtain ⟨g0, g1, g2, g3, g4, g5⟩ := h6.cells
  have HB := hide hb
  have HC : Hid (∀ W, Calls Tryd.prog 11 #[.int .i64 k] W fun e w' => e = .returned (.int .i64 0) ∧ w' = W) := fun W => by have := refcheck_any W k; rw [show chk k = 0 by rw [chk, if_neg (by omega)]] at this; exact this
  have HRi : Hid (∀ W, Below W0.heap.size W0 W → Calls Tryd.prog 42 #[.slice sa S.length sc] W fun e w' => e = .returned (.bool true) ∧ ∃ m, w' = W.drewN m) := fun W hW => by rw [← c5]; exact refrising_q W sa sb so S.length sc S (rdu_rd (hs.next (bnext hb hW))) (by unfold maxLen; omega)
  unfold vP
  subst c1 c4
  have f8 : decide ((1099511627776 : Int) < (size : Int)) = false := decide_eq_false (by omega)
  have hin := ((incB_iff S).1 c5).1
  obtain rfl := hs.ptr hin
  obtain ⟨l1, hl1⟩ : ∃ l1, S.length - 1 = l1 := ⟨_, rfl⟩
  have hl2 : (S.length : Int) - 1 = (l1 : Int) := by omega
  have hl3 : (l1 : Int) < (S.length : Int) := by omega
  have hl4 : (0 : Int) ≤ (l1 : Int) := Int.natCast_nonneg _
  have cl := (hs.next hb).at (j := l1) (by omega)
  rw [hl1] at c6
  obtain ⟨y, hy⟩ : ∃ y, S.getD l1 0 = y := ⟨_, rfl⟩
  rw [hy] at cl c6
  have hS63 : (S.length : Int) ≤ 5000 := by omega
  have d1 : decide ((size : Int) ≤ (y : Int)) = true := decide_eq_true (by omega)
  have d2 : decide (size ≤ y) = true := decide_eq_true c6
  rw [show ((0 : Nat) : Int) = 0 from rfl] at *
  clear hs h6 hb hns c2 c3 c5 hin hl1 hy
  go_enter Tryd.func45, Tryd.ntmps45
  go_upto_region 1 with (fail)
  try rw [hW0]
  clear hW0
  go_quiet (first
    | (go_at_call 11; refine Calls.quiet_of_same (HC.out _))
    | (go_at_call 42; refine Calls.quiet_of (HRi.out _ (below_drewN (Below.refl _ _) _))))
  go_wp2
  go_ret
  exact ⟨rfl, below_drewN HB.out _⟩
set_option maxRecDepth 100000 in
set_option maxHeartbeats 2000000 in
theorem rformed_7 (w : World) (kd k : Int) (old size : Nat) (sa : Option Addr) (sb so sc : Nat) (S : List Nat) (hs : RdU w sa sb so S.length S) (hns : S.length ≤ 5000) (da : Option Addr) (dn dc : Nat) (c1 : kd = 2) (c2 : 1 ≤ k ∧ k ≤ 32) (c3 : ¬ 2 ^ 40 < size) (c4 : old = 0) (c5 : incB S = true) (c6 : ¬ size ≤ S.getD (S.length - 1) 0) (db dO : Nat) (D : List ByteArray) (hdn : D.length = dn) (hr : RdS w da db dO dn D) (hm : dn ≤ 8796093022208) (q : Nat) (hq : (Cv.rst 0 size S).length = q) (r : Bool) (hq2 : decide (fil k q D) = r) :
    Calls Tryd.prog 45 #[vP kd k old size (.slice sa S.length sc) (.slice da dn dc)] w fun e w' => e = .returned (.bool r) ∧ Below w.heap.size w w' := by
  have herr : Cv.errS size S = 0 := by rw [Cv.errS, if_neg c3, if_neg (by rw [c5]; decide), if_neg c6]
  have h6 := six_new w (.int .i64 kd) (.int .i64 k) (.int .u64 (old : Int)) (.int .u64 (size : Int)) (.slice sa S.length sc) (.slice da dn dc)
  have hb := bal (Below.refl w.heap.size w) (.cells #[.int .i64 kd, .int .i64 k, .int .u64 (old : Int), .int .u64 (size : Int), .slice sa S.length sc, .slice da dn dc] 32)
  obtain ⟨W0, hW0⟩ : ∃ W0, w.alloc (.cells #[.int .i64 kd, .int .i64 k, .int .u64 (old : Int), .int .u64 (size : Int), .slice sa S.length sc, .slice da dn dc] 32) = W0 := ⟨_, rfl⟩
  rw [hW0] at h6 hb
  obtain ⟨g0, g1, g2, g3, g4, g5⟩ := h6.cells
  have HB := hide hb
  have HC : Hid (∀ W, Calls Tryd.prog 11 #[.int .i64 k] W fun e w' => e = .returned (.int .i64 0) ∧ w' = W) := fun W => by have := refcheck_any W k; rw [show chk k = 0 by rw [chk, if_neg (by omega)]] at this; exact this
  have HRi : Hid (∀ W, Below W0.heap.size W0 W → Calls Tryd.prog 42 #[.slice sa S.length sc] W fun e w' => e = .returned (.bool true) ∧ ∃ m, w' = W.drewN m) := fun W hW => by rw [← c5]; exact refrising_q W sa sb so S.length sc S (rdu_rd (hs.next (bnext hb hW))) (by unfold maxLen; omega)
  unfold vP
  subst c1 c4 hdn
  have f8 : decide ((1099511627776 : Int) < (size : Int)) = false := decide_eq_false (by omega)
  have hin := ((incB_iff S).1 c5).1
  obtain rfl := hs.ptr hin
  obtain ⟨l1, hl1⟩ : ∃ l1, S.length - 1 = l1 := ⟨_, rfl⟩
  have hl2 : (S.length : Int) - 1 = (l1 : Int) := by omega
  have hl3 : (l1 : Int) < (S.length : Int) := by omega
  have hl4 : (0 : Int) ≤ (l1 : Int) := Int.natCast_nonneg _
  have cl := (hs.next hb).at (j := l1) (by omega)
  rw [hl1] at c6
  obtain ⟨y, hy⟩ : ∃ y, S.getD l1 0 = y := ⟨_, rfl⟩
  rw [hy] at cl c6
  have hS63 : (S.length : Int) ≤ 5000 := by omega
  have d1 : decide ((size : Int) ≤ (y : Int)) = false := decide_eq_false (by omega)
  have d2 : decide (size ≤ y) = false := decide_eq_false c6
  have hq40 : q < 2 ^ 40 := by
    have h1 := Cv.rst_len size (by omega) S 0 (Cv.errS_ok herr).2.2.2
    omega
  have HCo : Hid (∀ W, Below W0.heap.size W0 W → Calls Tryd.prog 68 #[.int .u64 (size : Int), .slice (some ⟨sb, so, none⟩) S.length sc] W fun e w' => e = .returned (.tuple #[.int .u64 (q : Int), .int .i64 0]) ∧ Below W.heap.size W w') := fun W hW => rcount_ok size W _ sb so S.length sc S (rdu_rd (hs.next (bnext hb hW))) hns herr q hq
  have HDi : Hid (∀ W, Below W0.heap.size W0 W → Calls Tryd.prog 69 #[.int .i64 k, .slice da D.length dc, .int .i64 (D.length : Int)] W fun e w' => e = .returned (.bool (decide (fil k D.length D))) ∧ Below W.heap.size W w') := fun W hW => rdigs_any W k da db dO dc D (hr.next (bnext hb hW) (Nat.le_refl _)) hm D.length _ rfl
  have HS : Hid (∀ W, Below W0.heap.size W0 W → Six W w.heap.size (.int .i64 2) (.int .i64 k) (.int .u64 0) (.int .u64 (size : Int)) (.slice (some ⟨sb, so, none⟩) S.length sc) (.slice da D.length dc)) := fun W hW => h6.next hW
  have hdz : (D.length : Int) ≤ 8796093022208 := by omega
  rw [show ((0 : Nat) : Int) = 0 from rfl] at *
  clear hs h6 hb hns c2 c3 c5 hin hl1 hy c6 herr hr hm hq hq40
  go_enter Tryd.func45, Tryd.ntmps45
  go_upto_region 1 with (fail)
  try rw [hW0]
  clear hW0
  go_quiet (first
    | (go_at_call 11; refine Calls.quiet_of_same (HC.out _))
    | (go_at_call 42; refine Calls.quiet_of (HRi.out _ (below_drewN (Below.refl _ _) _))))
  have hbq := below_drewN (Below.refl W0.heap.size W0) nq
  obtain ⟨m0, m1, m2, m3, m4, m5⟩ := (HS.out _ hbq).cells
  have HCq := HCo.out _ hbq
  have HBq := hide hbq
  clear hbq
  generalize W0.drewN nq = wq at *
  by_cases hDq : D.length = q
  · obtain rfl : decide (fil k D.length D) = r := by rw [hDq]; exact hq2
    subst hDq
    have eD : IntKind.u64.wrap (D.length : Int) = (D.length : Int) := by rw [IntKind.wrap_u64]; omega
    clear hq2
    go_wp2_with (first
      | (go_at_call 68; with_reducible refine HCq.mono ?_; rintro e w2 ⟨rfl, hb2⟩; obtain ⟨n0, n1, n2, n3, n4, n5⟩ := (HS.out _ (bnext HBq.out hb2)).cells)
      | (go_at_call 69; with_reducible refine (HDi.out _ (bnext HBq.out hb2)).mono ?_; rintro e w3 ⟨rfl, hb3⟩))
    go_ret
    exact ⟨rfl, bnext HB.out (bnext (bnext HBq.out hb2) hb3)⟩
  · obtain rfl : false = r := by rw [← hq2]; exact (decide_eq_false fun h => hDq h.1).symm
    have eD : IntKind.u64.wrap (D.length : Int) = (D.length : Int) := by rw [IntKind.wrap_u64]; omega
    have hDz : ¬ (D.length : Int) = (q : Int) := by omega
    have hDb : decide (D.length = q) = false := decide_eq_false hDq
    clear hq2
    go_wp2_with (first
      | (go_at_call 68; with_reducible refine HCq.mono ?_; rintro e w2 ⟨rfl, hb2⟩; obtain ⟨n0, n1, n2, n3, n4, n5⟩ := (HS.out _ (bnext HBq.out hb2)).cells))
    go_ret
    exact ⟨rfl, bnext HB.out (bnext HBq.out hb2)⟩
theorem rformed_any (w : World) (kd k : Int) (old size : Nat) (sa : Option Addr) (sb so sc : Nat) (S : List Nat) (hs : RdU w sa sb so S.length S) (hns : S.length ≤ 5000) (da : Option Addr) (db dO dc : Nat) (D : List ByteArray) (hr : RdS w da db dO D.length D) (hm : D.length ≤ 8796093022208) (r : Bool) (hq : decide (okB kd k old size S D) = r) :
    Calls Tryd.prog 45 #[vP kd k old size (.slice sa S.length sc) (.slice da D.length dc)] w fun e w' => e = .returned (.bool r) ∧ Below w.heap.size w w' := by
  have no : ¬ okB kd k old size S D → r = false := fun h => by rw [← hq]; exact decide_eq_false h
  by_cases c1 : kd = 2
  · by_cases c2 : 1 ≤ k ∧ k ≤ 32
    · by_cases c3 : 2 ^ 40 < size
      · rw [no (fun h => by have := (Cv.errS_ok h.2.1).1; omega)]
        exact rformed_3 w kd k old size sa sb so sc S hs hns da D.length dc c1 c2 c3
      · by_cases c4 : old = 0
        · by_cases c5 : incB S = true
          · by_cases c6 : size ≤ S.getD (S.length - 1) 0
            · rw [no (fun h => by have := (Cv.errS_ok h.2.1).2.2.1; omega)]
              exact rformed_6 w kd k old size sa sb so sc S hs hns da D.length dc c1 c2 c3 c4 c5 c6
            · have herr : Cv.errS size S = 0 := by rw [Cv.errS, if_neg c3, if_neg (by rw [c5]; decide), if_neg c6]
              refine rformed_7 w kd k old size sa sb so sc S hs hns da D.length dc c1 c2 c3 c4 c5 c6 db dO D rfl hr hm _ rfl r ?_
              rw [← hq]
              have : okB kd k old size S D ↔ fil k (Cv.rst 0 size S).length D := by
                rw [okB, Cv.rstS, if_pos herr]
                exact ⟨fun h => h.2.2, fun h => ⟨⟨c1, c2, c4⟩, herr, h⟩⟩
              simp only [this]
          · rw [no (fun h => c5 ((incB_iff S).2 (Cv.errS_ok h.2.1).2.1))]
            exact rformed_5 w kd k old size sa sb so sc S hs hns da D.length dc c1 c2 c3 c4 (by simpa using c5)
        · rw [no (fun h => c4 h.1.2.2)]
          exact rformed_4 w kd k old size sa sb so sc S hs hns da D.length dc c1 c2 c3 c4
    · rw [no (fun h => c2 h.1.2.1)]
      exact rformed_2 w kd k old size sa sb so sc S hs hns da D.length dc c1 c2
  · rw [no (fun h => c1 h.1.1)]
    exact rformed_1 w kd k old size sa sb so sc S hs hns da D.length dc c1
end Go.Proofs.YtnbejijpmeklaaaDoor
/-
  The reference's Root. Own work.
-/
namespace Go.Proofs.YtnbejijpmeklaaaDoor
open Go.RowKit
open Cv (RdC zl cU)
attribute [local go_sem ↓] Go.wp_at_zero Go.wp_at_succ
set_option maxRecDepth 100000 in
set_option maxHeartbeats 1000000 in
theorem rroot_no (w : World) (kd k : Int) (old size : Nat) (sa : Option Addr) (sb so sc : Nat) (S : List Nat) (hs : RdU w sa sb so S.length S) (hns : S.length ≤ 5000) (da : Option Addr) (db dO dc : Nat) (D : List ByteArray) (hr : RdS w da db dO D.length D) (hm : D.length ≤ 8796093022208) (xa : Option Addr) (xn xc : Nat) (hno : ¬ (okB kd k old size S D ∧ xn = S.length)) :
    Calls Tryd.prog 22 #[vP kd k old size (.slice sa S.length sc) (.slice da D.length dc), .slice xa xn xc] w fun e w' => e = .returned (.tuple #[noR, .int .i64 150]) ∧ Below w.heap.size w w' := by
  obtain ⟨r1, hr1⟩ : ∃ r, decide (okB kd k old size S D) = r := ⟨_, rfl⟩
  have HI : Hid (∀ W, Below w.heap.size w W → Calls Tryd.prog 45 #[vP kd k old size (.slice sa S.length sc) (.slice da D.length dc)] W fun e w' => e = .returned (.bool r1) ∧ Below W.heap.size W w') := fun W hb => rformed_any W kd k old size sa sb so sc S (hs.next hb) hns da db dO dc D (hr.next hb (Nat.le_refl _)) hm r1 hr1
  have HN : Hid (r1 = true → ¬ xn = S.length) := fun h1 h3 => hno ⟨of_decide_eq_true (hr1.trans h1), h3⟩
  obtain ⟨W0, hW0⟩ : ∃ W0, (w.alloc (.cells #[.int .i64 kd, .int .i64 k, .int .u64 (old : Int), .int .u64 (size : Int), .slice sa S.length sc, .slice da D.length dc] 32)).alloc (.cells #[.int .u64 0, .string ⟨#[]⟩] 38) = W0 := ⟨_, rfl⟩
  obtain ⟨hb, h6, hRt, hz⟩ := root_start hW0
  obtain ⟨c0, c1, c2, c3, c4, c5⟩ := h6.cells
  have HR := hide (And.intro hRt hz)
  have H6 := hide h6
  clear hs hr hm hno hr1 h6 hRt hz
  unfold vP at HI
  unfold vP
  cases r1 with
  | false =>
    clear HN
    go_enter Tryd.func22, Tryd.ntmps22
    go_wp2_with (go_at_call 45; with_reducible refine (HI.out _ hb).mono ?_; rintro e w1 ⟨rfl, hb1⟩; have hR := HR.out.1.below hb1 (by rw [HR.out.2]; omega); have k0 := hR.c0; have k1 := hR.c1; have f0 := hR.f0; have f1 := hR.f1)
    obtain ⟨s0, s1, hch⟩ := rt_put hR 0 ⟨#[]⟩
    refine bodyPost_ret (v := .tuple #[noR, .int .i64 150]) (by simp [results, Tryd.results22, go_sem, s0, s1]) rfl ⟨rfl, ?_⟩
    exact (bnext hb hb1).trans (hch.below (by rintro b rfl; omega))
  | true =>
    have hne := HN.out rfl
    have hz : ¬ (xn : Int) = (S.length : Int) := by omega
    clear HN hne
    go_enter Tryd.func22, Tryd.ntmps22
    go_wp2_with (go_at_call 45; with_reducible refine (HI.out _ hb).mono ?_; rintro e w1 ⟨rfl, hb1⟩; have hR := HR.out.1.below hb1 (by rw [HR.out.2]; omega); have k0 := hR.c0; have k1 := hR.c1; have f0 := hR.f0; have f1 := hR.f1; obtain ⟨g0, g1, g2, g3, g4, g5⟩ := (H6.out.next hb1).cells)
    obtain ⟨s0, s1, hch⟩ := rt_put hR 0 ⟨#[]⟩
    refine bodyPost_ret (v := .tuple #[noR, .int .i64 150]) (by simp [results, Tryd.results22, go_sem, s0, s1]) rfl ⟨rfl, ?_⟩
    exact (bnext hb hb1).trans (hch.below (by rintro b rfl; omega))
set_option maxRecDepth 100000 in
set_option maxHeartbeats 1000000 in
theorem rroot_long (w : World) (k : Int) (size : Nat) (sa : Option Addr) (sb so sc : Nat) (S : List Nat) (X : List ByteArray) (hs : RdU w sa sb so X.length S) (hns : X.length ≤ 5000) (da : Option Addr) (db dO dc : Nat) (D : List ByteArray) (hr : RdS w da db dO D.length D) (hm : D.length ≤ 8796093022208) (xa : Option Addr) (xb xo xc : Nat) (hx : RdS w xa xb xo X.length X) (hok : okB 2 k 0 size S D) (hlong : ¬ ∀ s ∈ X, s.size ≤ 1048576) :
    Calls Tryd.prog 22 #[vP 2 k 0 size (.slice sa X.length sc) (.slice da D.length dc), .slice xa X.length xc] w fun e w' => e = .returned (.tuple #[noR, .int .i64 100]) ∧ Below w.heap.size w w' := by
  have hSl := hs.hl
  have HI : Hid (∀ W, Below w.heap.size w W → Calls Tryd.prog 45 #[vP 2 k 0 size (.slice sa X.length sc) (.slice da D.length dc)] W fun e w' => e = .returned (.bool true) ∧ Below W.heap.size W w') := fun W hb => by
    have := rformed_any W 2 k 0 size sa sb so sc S (by rw [hSl]; exact hs.next hb) (by omega) da db dO dc D (hr.next hb (Nat.le_refl _)) hm true (decide_eq_true hok)
    rw [hSl] at this
    exact this
  have HX : Hid (∀ W, Below w.heap.size w W → RdS W xa xb xo X.length X) := fun W hb => hx.next hb (Nat.le_refl _)
  obtain ⟨W0, hW0⟩ : ∃ W0, (w.alloc (.cells #[.int .i64 2, .int .i64 k, .int .u64 ((0 : Nat) : Int), .int .u64 (size : Int), .slice sa X.length sc, .slice da D.length dc] 32)).alloc (.cells #[.int .u64 0, .string ⟨#[]⟩] 38) = W0 := ⟨_, rfl⟩
  obtain ⟨hb, h6, hRt, hz⟩ := root_start hW0
  rw [show ((0 : Nat) : Int) = 0 from rfl] at hW0 h6
  obtain ⟨c0, c1, c2, c3, c4, c5⟩ := h6.cells
  have HR := hide (And.intro hRt hz)
  have H6 := hide h6
  have HN := hide hlong
  have hn5 : (X.length : Int) ≤ 5000 := by omega
  clear hs hr hm hok h6 hRt hz hx hlong
  unfold vP at HI
  rw [show ((0 : Nat) : Int) = 0 from rfl] at HI
  unfold vP
  rw [show ((0 : Nat) : Int) = 0 from rfl]
  go_enter Tryd.func22, Tryd.ntmps22
  go_upto_region 3 with (go_at_call 45; with_reducible refine (HI.out _ hb).mono ?_; rintro e w2 ⟨rfl, hb2⟩; have hR := HR.out.1.below hb2 (by rw [HR.out.2]; omega); have k0 := hR.c0; have k1 := hR.c1; have f0 := hR.f0; have f1 := hR.f1; obtain ⟨g0, g1, g2, g3, g4, g5⟩ := (H6.out.next hb2).cells)
  have hbw := bnext hb hb2
  clear hb hb2 c0 c1 c2 c3 c4 c5 HI hSl
  go_wp2
  go_loopg [6] X.length (fun g i wr => ∃ j : Nat, j ≤ X.length ∧ g = X.length - j ∧ i = .int .i64 (j : Int) ∧ (∀ t, t < j → (X.getD t ByteArray.empty).size ≤ 1048576) ∧ w2 = wr)
  case atStart =>
    go_light
    exact ⟨0, Nat.zero_le _, rfl, rfl, fun t ht => absurd ht (Nat.not_lt_zero _), rfl⟩
  case round =>
    obtain ⟨j, hj, rfl, rfl, hal, rfl⟩ := hrel
    by_cases hlt : j < X.length
    · have hz : (j : Int) < (X.length : Int) := by omega
      have hz0 : (0 : Int) ≤ (j : Int) := Int.natCast_nonneg _
      have hrd := HX.out w2 hbw
      obtain rfl := hrd.ptr (by omega)
      have cj := hrd.at hlt
      obtain ⟨d, hd⟩ : ∃ d, X.getD j ByteArray.empty = d := ⟨_, rfl⟩
      rw [hd] at cj
      by_cases hk : d.size ≤ 1048576
      · have HN2 : Hid (∀ t, t < j + 1 → (X.getD t ByteArray.empty).size ≤ 1048576) := fun t ht => by
          rcases Nat.lt_or_eq_of_le (Nat.le_of_lt_succ ht) with hx | rfl
          · exact hal t hx
          · rw [hd]; exact hk
        have hkz : ¬ (1048576 : Int) < (d.size : Int) := by omega
        clear hd hal hrd hk
        go_wp2
        go_roundg (X.length - (j + 1))
        case rel =>
          go_light
          exact ⟨j + 1, by omega, rfl, by go_num, HN2.out, rfl⟩
        case measure => go_light; omega
      · have hkz : (1048576 : Int) < (d.size : Int) := by omega
        clear hd hal hrd hk
        go_wp2
        obtain ⟨s0, s1, hch⟩ := rt_put hR 0 ⟨#[]⟩
        refine bodyPost_ret (v := .tuple #[noR, .int .i64 100]) (by simp [results, Tryd.results22, go_sem, s0, s1]) rfl ⟨rfl, ?_⟩
        exact hbw.trans (hch.below (by rintro b rfl; omega))
    · exfalso
      refine HN.out fun s hs => ?_
      obtain ⟨t, ht, rfl⟩ := List.getElem_of_mem hs
      have := hal t (by omega)
      rwa [List.getD_eq_getElem?_getD, List.getElem?_eq_getElem ht] at this
theorem kn_bounds {c size : Nat} (hc : c ≤ 32) {S : List Nat} {X D : List ByteArray} (he : Cv.errS size S = 0) (hX : X.length = S.length) (hD : D.length = (Cv.rst 0 size S).length) (hDs : ∀ d ∈ D, d.size ≤ 32) : ∀ e ∈ knS c S X ++ (Cv.rst 0 size S).zip D, e.1.1 ≤ 40 ∧ e.1.2 < 2 ^ 40 ∧ e.2.size ≤ 32 := fun e h => by
  obtain ⟨h40, _, _, hch⟩ := Cv.errS_ok he
  rcases kn_mem hX hD h with ⟨j, hj, rfl⟩ | ⟨j, hj, rfl⟩
  · have hm : S.getD j 0 ∈ S := by rw [List.getD_eq_getElem?_getD, List.getElem?_eq_getElem hj]; exact List.getElem_mem _
    have := (Cv.chain_mem hch _ hm).2
    exact ⟨Nat.zero_le _, by show S.getD j 0 < _; omega, by show (dg c _).size ≤ _; rw [dg_size hc]; exact hc⟩
  · have hm : (Cv.rst 0 size S).getD j (0, 0) ∈ Cv.rst 0 size S := by rw [List.getD_eq_getElem?_getD, List.getElem?_eq_getElem hj]; exact List.getElem_mem _
    have hf := fit40 (rst_in he _ hm) h40
    exact ⟨hf.2.1, hf.2.2, hDs _ (getD_mem (by omega))⟩
set_option maxRecDepth 100000 in
set_option maxHeartbeats 2000000 in
theorem rroot_ok (w : World) (hT : Tr w) (k : Int) (size : Nat) (sa : Option Addr) (sb so sc : Nat) (S : List Nat) (X : List ByteArray) (hs : RdU w sa sb so X.length S) (hns : X.length ≤ 5000) (da : Option Addr) (db dO dc : Nat) (D : List ByteArray) (hr : RdS w da db dO D.length D) (hm : D.length ≤ 8796093022208) (xa : Option Addr) (xb xo xc : Nat) (hx : RdS w xa xb xo X.length X) (hok : okB 2 k 0 size S D) (hsz : ∀ s ∈ X, s.size ≤ 1048576) (r : ByteArray) (hq : dg (clk k) (rootT size (bagL (clk k) (pB (clk k) (Cv.dnL 41 0 size) S X D))) = r) :
    Calls Tryd.prog 22 #[vP 2 k 0 size (.slice sa X.length sc) (.slice da D.length dc), .slice xa X.length xc] w fun e w' => e = .returned (.tuple #[.agg #[.int .u64 (size : Int), .string r], .int .i64 0]) ∧ Below w.heap.size w w' := by
  have hSl := hs.hl
  have HI : Hid (∀ W, Below w.heap.size w W → Calls Tryd.prog 45 #[vP 2 k 0 size (.slice sa X.length sc) (.slice da D.length dc)] W fun e w' => e = .returned (.bool true) ∧ Below W.heap.size W w') := fun W hb => by
    have := rformed_any W 2 k 0 size sa sb so sc S (by rw [hSl]; exact hs.next hb) (by omega) da db dO dc D (hr.next hb (Nat.le_refl _)) hm true (decide_eq_true hok)
    rw [hSl] at this
    exact this
  have he := hok.2.1
  obtain ⟨h40, _, _, hch⟩ := Cv.errS_ok he
  have hDl : D.length = (Cv.rst 0 size S).length := by have := hok.2.2.1; rwa [Cv.rstS, if_pos he] at this
  have hDs : ∀ d ∈ D, d.size ≤ 32 := fun d hd => by have := hok.2.2.2 d hd; have := hok.1.2.1; omega
  have hXS : X.length = S.length := hSl.symm
  obtain ⟨Kn, hKn⟩ : ∃ Kn, knS (clk k) S X ++ (Cv.rst 0 size S).zip D = Kn := ⟨_, rfl⟩
  have hKl : Kn.length ≤ 500000 := by
    rw [← hKn, List.length_append, knS_len _ _ _ hXS, zip_len hDl]
    have := Cv.rst_len size h40 S 0 hch
    omega
  have hKf : Fn Kn := by rw [← hKn]; exact kn_fn he hXS hDl
  have hKb : ∀ e ∈ Kn, e.1.1 ≤ 40 ∧ e.1.2 < 2 ^ 40 ∧ e.2.size ≤ 32 := by rw [← hKn]; exact kn_bounds (clk_le k) he hXS hDl hDs
  obtain ⟨M, hM⟩ : ∃ M, Cv.dnL 41 0 size = M := ⟨_, rfl⟩
  have hTl := kn_tl (c := clk k) he hXS hDl
  rw [hKn, hM] at hTl
  rw [hM] at hq
  obtain ⟨P, hP⟩ : ∃ P, pB (clk k) M S X D = P := ⟨_, rfl⟩
  rw [hP] at hTl hq
  have hPl : P.length = M.length := by rw [← hP]; exact pB_len _ _ _ _ _
  have hPs : ∀ s ∈ P, s.size ≤ 32 := fun s hs => by
    obtain ⟨j, hj, rfl⟩ := List.getElem_of_mem hs
    have := (hTl j (by omega)).size (clk_le k) (fun e he => (hKb e he).2.2)
    rwa [List.getD_eq_getElem?_getD, List.getElem?_eq_getElem hj] at this
  have hMl : M.length ≤ 41 := by rw [← hM]; exact Cv.dn_len 41 0 size
  have HKn : Hid (∀ W, Below w.heap.size w W → Calls Tryd.prog 48 #[vP 2 k 0 size (.slice sa X.length sc) (.slice da D.length dc), .slice xa X.length xc] W fun e w' => ∃ ao g cap, e = .returned (.slice ao Kn.length cap) ∧ RdH w' ao g Kn.length Kn ∧ Below W.heap.size W w') := fun W hb => rknown_any W (hT.next hb) 2 k 0 size sa sb so sc S X (hs.next hb) hns da db dO dc D (hr.next hb (Nat.le_refl _)) xa xb xo xc (hx.next hb (Nat.le_refl _)) hsz he hDl Kn hKn
  have HPk : Hid (∀ W ao g cap, Below w.heap.size w W → RdH W ao g Kn.length Kn → Calls Tryd.prog 47 #[.int .i64 k, .int .u64 (size : Int), .slice ao Kn.length cap] W fun e w' => ∃ pa pb pc, e = .returned (.slice pa P.length pc) ∧ RdS w' pa pb 0 P.length P ∧ Below W.heap.size W w') := fun W ao g cap hb hR => rpk_any W (hT.next hb) k size h40 ao g cap Kn hR hKl hKf hKb P M hM hPl hTl
  have HRo : Hid (∀ W pa pb pc, Below w.heap.size w W → RdS W pa pb 0 P.length P → Calls Tryd.prog 46 #[.int .i64 k, .int .u64 (size : Int), .slice pa P.length pc] W fun e w' => e = .returned (.string r) ∧ Below W.heap.size W w') := fun W pa pb pc hb hR => refroot_any W (hT.next hb) k size (by omega) pa pb 0 P.length pc P hR (fun s hs => by have := hPs s hs; omega) (by omega) r hq
  have HSz := hide hsz
  have HX : Hid (∀ W, Below w.heap.size w W → RdS W xa xb xo X.length X) := fun W hb => hx.next hb (Nat.le_refl _)
  obtain ⟨W0, hW0⟩ : ∃ W0, (w.alloc (.cells #[.int .i64 2, .int .i64 k, .int .u64 ((0 : Nat) : Int), .int .u64 (size : Int), .slice sa X.length sc, .slice da D.length dc] 32)).alloc (.cells #[.int .u64 0, .string ⟨#[]⟩] 38) = W0 := ⟨_, rfl⟩
  obtain ⟨hb, h6, hRt, hz⟩ := root_start hW0
  rw [show ((0 : Nat) : Int) = 0 from rfl] at hW0 h6
  obtain ⟨c0, c1, c2, c3, c4, c5⟩ := h6.cells
  have HR := hide (And.intro hRt hz)
  have H6 := hide h6
  have hn5 : (X.length : Int) ≤ 5000 := by omega
  clear hs hr hm hok h6 hRt hz hx hsz he h40 hch hDl hDs hXS hKn hKl hKf hKb hM hTl hq hP hPl hPs hMl hT
  unfold vP at HI HKn
  rw [show ((0 : Nat) : Int) = 0 from rfl] at HI HKn
  unfold vP
  rw [show ((0 : Nat) : Int) = 0 from rfl]
  go_enter Tryd.func22, Tryd.ntmps22
  go_upto_region 3 with (go_at_call 45; with_reducible refine (HI.out _ hb).mono ?_; rintro e w2 ⟨rfl, hb2⟩; have hR := HR.out.1.below hb2 (by rw [HR.out.2]; omega); have k0 := hR.c0; have k1 := hR.c1; have f0 := hR.f0; have f1 := hR.f1; have h62 := H6.out.next hb2; obtain ⟨g0, g1, g2, g3, g4, g5⟩ := h62.cells)
  have hbw := bnext hb hb2
  clear hb hb2 c0 c1 c2 c3 c4 c5 HI hSl
  go_wp2
  go_loopg [6] X.length (fun g i wr => ∃ j : Nat, j ≤ X.length ∧ g = X.length - j ∧ i = .int .i64 (j : Int) ∧ w2 = wr)
  case atStart =>
    go_light
    exact ⟨0, Nat.zero_le _, rfl, rfl, rfl⟩
  case round =>
    obtain ⟨j, hj, rfl, rfl, rfl⟩ := hrel
    by_cases hlt : j < X.length
    · have hz : (j : Int) < (X.length : Int) := by omega
      have hz0 : (0 : Int) ≤ (j : Int) := Int.natCast_nonneg _
      have hrd := HX.out w2 hbw
      obtain rfl := hrd.ptr (by omega)
      have cj := hrd.at hlt
      have hk := HSz.out _ (getD_mem hlt)
      obtain ⟨d, hd⟩ : ∃ d, X.getD j ByteArray.empty = d := ⟨_, rfl⟩
      rw [hd] at cj hk
      have hkz : ¬ (1048576 : Int) < (d.size : Int) := by omega
      clear hd hrd hk
      go_wp2
      go_roundg (X.length - (j + 1))
      case rel =>
        go_light
        exact ⟨j + 1, by omega, rfl, by go_num, rfl⟩
      case measure => go_light; omega
    · obtain rfl : j = X.length := by omega
      have hz : ¬ ((X.length : Int) < (X.length : Int)) := by omega
      have HS : Hid (∀ W, Below w2.heap.size w2 W → Six W w.heap.size (.int .i64 2) (.int .i64 k) (.int .u64 0) (.int .u64 (size : Int)) (.slice sa X.length sc) (.slice da D.length dc)) := fun W hW => h62.next hW
      have HRt : Hid (∀ W, Below w2.heap.size w2 W → Rt W (w.heap.size + 1) 0 ⟨#[]⟩) := fun W hW => hR.below hW (World.block_lt_of_cell? w2 _ hR.c0)
      have HBw := hide hbw
      have hne : ¬ w.heap.size = w.heap.size + 1 := by omega
      have hdr := (Below.refl w2.heap.size w2).drew
      clear hlt hj hR h62 hbw HX HSz k0 k1 f0 f1
      go_upto_region 8 with (fail)
      go_region_held3 (fun Z => Z.cell? ⟨w.heap.size, 0, none⟩ = some (.int .i64 2) ∧ Z.cell? ⟨w.heap.size, 1, none⟩ = some (.int .i64 k) ∧ Z.cell? ⟨w.heap.size, 2, none⟩ = some (.int .u64 0) ∧ Z.cell? ⟨w.heap.size, 3, none⟩ = some (.int .u64 (size : Int)) ∧ Z.cell? ⟨w.heap.size, 4, none⟩ = some (.slice sa X.length sc) ∧ Z.cell? ⟨w.heap.size, 5, none⟩ = some (.slice da D.length dc))
        (first | assumption | (exact (HS.out _ hdr).cells) | (exact (HS.out _ hr3).cells) | (exact (HS.out _ hr4).cells) | (exact (HS.out _ hr5).cells) | (exact ((HS.out _ hr5).same ((put2_ch w5 (w.heap.size + 1) (.int .u64 (size : Int)) (.string r)).block _ hne)).cells)) (first
        | (go_at_call 48; with_reducible refine (HKn.out _ (bnext HBw.out hdr)).mono ?_; rintro e w3 ⟨ka, kg, kc, rfl, hK3, hb3⟩; have hr3 := bnext hdr hb3)
        | (go_at_call 47; with_reducible refine (HPk.out _ ka kg kc (bnext HBw.out hr3) hK3).mono ?_; rintro e w4 ⟨pa, pb, pc, rfl, hP4, hb4⟩; have hr4 := bnext hr3 hb4)
        | (go_at_call 46; with_reducible refine (HRo.out _ pa pb pc (bnext HBw.out hr4) hP4).mono ?_; rintro e w5 ⟨rfl, hb5⟩; have hr5 := bnext hr4 hb5; have hR5 := HRt.out _ hr5; have k0 := hR5.c0; have k1 := hR5.c1; have f0 := hR5.f0; have f1 := hR5.f1))
      all_goals
        obtain ⟨s0, s1, hch⟩ := rt_put hR5 (size : Int) r
        go_wp2
        refine bodyPost_ret (v := .tuple #[.agg #[.int .u64 (size : Int), .string r], .int .i64 0]) (by simp [results, Tryd.results22, go_sem, s0, s1]) rfl ⟨rfl, ?_⟩
        exact (bnext HBw.out hr5).trans (hch.below (by rintro b rfl; omega))
end Go.Proofs.YtnbejijpmeklaaaDoor
/-
  BatchRoots: every Root of any proof and items. Own work.
-/
namespace Go.Proofs.YtnbejijpmeklaaaDoor
open Go.RowKit
open Cv (RdC zl cU)
attribute [local go_sem ↓] Go.wp_at_zero Go.wp_at_succ
/-- Both Roots answer alike. -/
theorem rboth (kd k : Int) (old size : Nat) (S : List Nat) (hS : S.length ≤ 2000) (D X : List ByteArray) (hD : D.length ≤ 8796093022208) : ∃ (n : Nat) (rr : ByteArray) (er : Nat),
    (∀ W sa sb so sc da db dO dc xa xb xo xc, Tb W → RdU W sa sb so S.length S → S.length ≤ sc → (sa = none → sc = 0) → RdS W da db dO D.length D → D.length ≤ dc → (da = none → dc = 0) → RdS W xa xb xo X.length X → X.length ≤ xc → (xa = none → xc = 0) → Calls Tryd.prog 14 #[vP kd k old size (.slice sa S.length sc) (.slice da D.length dc), .slice xa X.length xc] W fun e w' => e = .returned (.tuple #[.agg #[.int .u64 (n : Int), .string rr], .int .i64 (er : Int)]) ∧ Below W.heap.size W w') ∧
    (∀ W sa sb so sc da db dO dc xa xb xo xc, Tr W → RdU W sa sb so S.length S → RdS W da db dO D.length D → RdS W xa xb xo X.length X → Calls Tryd.prog 22 #[vP kd k old size (.slice sa S.length sc) (.slice da D.length dc), .slice xa X.length xc] W fun e w' => e = .returned (.tuple #[.agg #[.int .u64 (n : Int), .string rr], .int .i64 (er : Int)]) ∧ Below W.heap.size W w') := by
  by_cases h1 : okB kd k old size S D ∧ X.length = S.length
  · obtain ⟨hok, hXS⟩ := h1
    obtain rfl : kd = 2 := hok.1.1
    obtain rfl : old = 0 := hok.1.2.2
    by_cases h2 : ∀ s ∈ X, s.size ≤ 1048576
    · refine ⟨size, dg (clk k) (rootT size (bagL (clk k) (pB (clk k) (Cv.dnL 41 0 size) S X D))), 0, fun W sa sb so sc da db dO dc xa xb xo xc hT hU u1 u2 hR r1 r2 hx x1 x2 => ?_, fun W sa sb so sc da db dO dc xa xb xo xc hT hU hR hx => ?_⟩
      · have := broot_ok W hT k size sa sb so sc S X (by rw [hXS]; exact hU) (by omega) (by omega) u2 da db dO dc D hR hD r1 r2 xa xb xo xc hx x1 x2 hok h2 _ rfl
        rw [hXS] at this
        rw [hXS]
        exact this
      · have := rroot_ok W hT k size sa sb so sc S X (by rw [hXS]; exact hU) (by omega) da db dO dc D hR hD xa xb xo xc hx hok h2 _ rfl
        rw [hXS] at this
        rw [hXS]
        exact this
    · refine ⟨0, ⟨#[]⟩, 100, fun W sa sb so sc da db dO dc xa xb xo xc hT hU u1 u2 hR r1 r2 hx x1 x2 => ?_, fun W sa sb so sc da db dO dc xa xb xo xc hT hU hR hx => ?_⟩
      · have := broot_long W k size sa sb so sc S X (by rw [hXS]; exact hU) (by omega) da db dO dc D hR hD xa xb xo xc hx hok h2
        rw [hXS] at this
        rw [hXS]
        exact this
      · have := rroot_long W k size sa sb so sc S X (by rw [hXS]; exact hU) (by omega) da db dO dc D hR hD xa xb xo xc hx hok h2
        rw [hXS] at this
        rw [hXS]
        exact this
  · exact ⟨0, ⟨#[]⟩, 150, fun W sa sb so sc da db dO dc xa xb xo xc hT hU u1 u2 hR r1 r2 hx x1 x2 => broot_no W kd k old size sa sb so S.length sc S hU (by omega) da db dO D.length dc D hR hD xa X.length xc h1,
      fun W sa sb so sc da db dO dc xa xb xo xc hT hU hR hx => rroot_no W kd k old size sa sb so sc S hU (by omega) da db dO dc D hR hD xa X.length xc h1⟩
def markR : ByteArray := ⟨#[109, 97, 114, 107]⟩
/-- Texts appended in a region that draws its order. -/
theorem step_append_SO (w : World) {ops : Array Oper} {o : Oper} {a : Act} {K : Act → World → Prop} {Q : Exit → Act → World → Prop} {E : Prop} (hgd : o.guard = none)
    (s x : Operand) (hop : o.op = Op.call { callee := Callee.builtin Builtin.append, args := #[s, x], argTypes := #[22, 22] })
    (B : Nat) (v : Value) (L : List ByteArray) (hs : a.eval s = v) (hown : OwnS w B v L) (ao : Option Addr) (b off cap : Nat) (M : List ByteArray) (hx : a.eval x = .slice ao M.length cap) (hr : RdS w ao b off M.length M) (hn : ao = none → cap = 0)
    (hlen : L.length + M.length ≤ 8796093022208) (hB : B ≤ w.heap.size)
    (hK : ∀ v' w', OwnS w' B v' (L ++ M) → Below B w w' → w.grownBy w' v.ownBlock → K (a.put o.dst v') w') : if Region.wanted o (yielded ops a.tmps) = true then Oper.wp Tryd.prog o a w K Q else E := by
  have hw : Region.wanted o (yielded ops a.tmps) = true := by simp [Region.wanted, hgd]
  rw [if_pos hw]
  obtain ⟨i0, hi, hz0, hz1, hz2⟩ := info_parts Tryd.infoS
  have hlt : ∀ k, v.ownBlock = some k → B ≤ k := fun k hk => (World.ownsRow.lt hown k hk).1
  cases ao with
  | none =>
    obtain rfl := hn rfl
    have hM : M = [] := by
      cases M with
      | nil => rfl
      | cons m r => exact absurd (hr.ptr (by simp)) (by simp)
    subst hM
    have hrun := run_append_owned_none (P := Tryd.prog) (w := w) B 22 o.type 9 i0 1 Tryd.underlying22 hi v _ _ hown
    unfold Oper.wp
    rw [List.length_nil] at hx
    simp [execOp, hop, resolve, invoke, builtin, hs, hx, hrun, Result.andThen]
    exact hK v w (by rw [List.append_nil]; exact hown) (Below.refl _ _) (World.grownBy.refl w _)
  | some ad =>
    have hnews : ∀ j u, (M.map Value.string)[j]? = some u → w.cell? (ad.add j) = some u := fun j u hu => by
      have hj : j < M.length := by have := (List.getElem?_eq_some_iff.1 hu).1; rwa [List.length_map] at this
      have := Option.some.inj (hr.ptr (by omega))
      subst this
      rw [Addr.add_mid]; exact hr.rng j u hu
    obtain ⟨v', w', hrun, r1, r2, _⟩ := run_append_own (P := Tryd.prog) w B 22 o.type 9 i0 (.string ByteArray.empty) 1 16 Tryd.underlying22 hi hz0 hz1 hz2 rfl (by decide) v L.length _ hown ad M.length cap (M.map Value.string) (by simp) hnews (by intro u hu; obtain ⟨y, _, rfl⟩ := List.mem_map.1 hu; rfl) (by unfold maxLen; omega) (by omega) hB
    unfold Oper.wp
    simp [execOp, hop, resolve, invoke, builtin, hs, hx, hrun, Result.andThen]
    refine hK v' w' ?_ ((Below.refl _ _).grown r2 hB hlt) r2
    rw [OwnS, List.length_append, List.map_append]; exact r1
set_option maxRecDepth 100000 in
set_option maxHeartbeats 2000000 in
theorem roots_many (w : World) (ht : Tb w) (hr : Tr w) (kd k : Int) (old size : Nat) (sa : Option Addr) (sc : Nat) (S : List Nat) (hS : 2000 < S.length) (da : Option Addr) (dn dc : Nat) (xa : Option Addr) (xn xc : Nat) :
    Calls Tryd.prog 7 #[vP kd k old size (.slice sa S.length sc) (.slice da dn dc), .slice xa xn xc] w fun e w' => e = .returned (.bool true) ∧ Below w.heap.size w w' := by
  have h6 := six_new w (.int .i64 kd) (.int .i64 k) (.int .u64 (old : Int)) (.int .u64 (size : Int)) (.slice sa S.length sc) (.slice da dn dc)
  have hb := bal (Below.refl w.heap.size w) (.cells #[.int .i64 kd, .int .i64 k, .int .u64 (old : Int), .int .u64 (size : Int), .slice sa S.length sc, .slice da dn dc] 32)
  have HA : Hid (∀ W, Below w.heap.size w W → Calls Tryd.prog 8 #[] W fun e w' => e = .returned (.bool true) ∧ Below W.heap.size W w') := fun W hb => alive_any W (ht.next hb) (hr.next hb)
  have H6 := hide h6
  have hz : (2000 : Int) < (S.length : Int) := by omega
  unfold vP
  clear ht hr h6 hS
  go_enter Tryd.func7, Tryd.ntmps7
  go_wp2_with (first
    | (go_at_call 8; with_reducible refine (HA.out _ (bnext hb hb1)).mono ?_; rintro e w2 ⟨rfl, hb2⟩)
    | (go_at_call 8; with_reducible refine (HA.out _ hb).mono ?_; rintro e w1 ⟨rfl, hb1⟩; obtain ⟨c0, c1, c2, c3, c4, c5⟩ := (H6.out.next hb1).cells))
  go_ret
  exact ⟨rfl, bnext (bnext hb hb1) hb2⟩
theorem own_mark {w : World} {B : Nat} {v : Value} {D : List ByteArray} (h : OwnS w B v (D ++ [markR])) : ∃ gd cd, v = .slice (some ⟨gd, 0, none⟩) (D.length + 1) cd ∧ D.length + 1 ≤ cd ∧ OwnS w B (.slice (some ⟨gd, 0, none⟩) (D.length + 1) cd) (D ++ [markR]) := by
  obtain ⟨gd, cd, rfl, _, hcd, _⟩ := own_form h (by simp)
  rw [List.length_append, List.length_singleton] at hcd h ⊢
  exact ⟨gd, cd, rfl, hcd, h⟩
theorem Six.set5r {w : World} {s : Nat} {a b c d e f : Value} (h : Six w s a b c d e f) (f' : Value) : Six (w.setCell ⟨s, 5, none⟩ f') s a b c d e f' := heap_setCell_same w s 5 _ _ f' h
theorem Six.set4r {w : World} {s : Nat} {a b c d e f : Value} (h : Six w s a b c d e f) (e' : Value) : Six (w.setCell ⟨s, 4, none⟩ e') s a b c d e' f := heap_setCell_same w s 4 _ _ e' h
theorem getD_lastR (l : List ByteArray) (x : ByteArray) : (l ++ [x]).getD l.length ByteArray.empty = x := by rw [List.getD_eq_getElem?_getD, List.getElem?_append_right (Nat.le_refl _), Nat.sub_self]; rfl
/-- What is handed in, and what the copy holds. -/
structure Hi (W : World) (w : World) (kd k : Int) (old size : Nat) (sa : Option Addr) (sb so sc : Nat) (S : List Nat) (da : Option Addr) (db dO dc : Nat) (D : List ByteArray) (xa : Option Addr) (xb xo xc : Nat) (X : List ByteArray) : Prop where
  tb : Tb W
  tr : Tr W
  six : Six W w.heap.size (.int .i64 kd) (.int .i64 k) (.int .u64 (old : Int)) (.int .u64 (size : Int)) (.slice sa S.length sc) (.slice da D.length dc)
  rs : RdU W sa sb so S.length S
  rd : RdS W da db dO D.length D
  rx : RdS W xa xb xo X.length X
  bel : Below w.heap.size w W
theorem Hi.next {W W' w : World} {kd k : Int} {old size : Nat} {sa : Option Addr} {sb so sc : Nat} {S : List Nat} {da : Option Addr} {db dO dc : Nat} {D : List ByteArray} {xa : Option Addr} {xb xo xc : Nat} {X : List ByteArray} (h : Hi W w kd k old size sa sb so sc S da db dO dc D xa xb xo xc X) (hb : Below W.heap.size W W') : Hi W' w kd k old size sa sb so sc S da db dO dc D xa xb xo xc X :=
  ⟨h.tb.next hb, h.tr.next hb, h.six.next hb, h.rs.next hb, h.rd.next hb (Nat.le_refl _), h.rx.next hb (Nat.le_refl _), bnext h.bel hb⟩
set_option maxRecDepth 100000 in
set_option maxHeartbeats 4000000 in
theorem roots_few (w : World) (ht : Tb w) (hr : Tr w) (kd k : Int) (old size : Nat) (sa : Option Addr) (sb so sc : Nat) (S : List Nat) (rs : RdU w sa sb so S.length S) (hns : sa = none → sc = 0) (hS : ¬ 2000 < S.length) (da : Option Addr) (db dO dc : Nat) (D : List ByteArray) (rd : RdS w da db dO D.length D) (hnd : da = none → dc = 0) (hD : D.length ≤ 8796093021952) (xa : Option Addr) (xb xo xc : Nat) (X : List ByteArray) (rx : RdS w xa xb xo X.length X) (hnx : xa = none → xc = 0) (hX : X.length ≤ 8796093021952) :
    Calls Tryd.prog 7 #[vP kd k old size (.slice sa S.length sc) (.slice da D.length dc), .slice xa X.length xc] w fun e w' => e = .returned (.bool true) ∧ Below w.heap.size w w' := by
  have h6 := six_new w (.int .i64 kd) (.int .i64 k) (.int .u64 (old : Int)) (.int .u64 (size : Int)) (.slice sa S.length sc) (.slice da D.length dc)
  have hb := bal (Below.refl w.heap.size w) (.cells #[.int .i64 kd, .int .i64 k, .int .u64 (old : Int), .int .u64 (size : Int), .slice sa S.length sc, .slice da D.length dc] 32)
  have HA := alive_any _ (ht.next hb) (hr.next hb)
  have HH := hide (show Hi (w.alloc (.cells #[.int .i64 kd, .int .i64 k, .int .u64 (old : Int), .int .u64 (size : Int), .slice sa S.length sc, .slice da D.length dc] 32)) w kd k old size sa sb so sc S da db dO dc D xa xb xo xc X from ⟨ht.next hb, hr.next hb, h6, rs.next hb, rd.next hb (Nat.le_refl _), rx.next hb (Nat.le_refl _), hb⟩)
  obtain ⟨n, rr, er, hR1, hR2⟩ := rboth kd k old size S (by omega) D X (by omega)
  have HR1 := hide hR1
  have HR2 := hide hR2
  have HRm : Hid (∀ W, RdU W sa sb so S.length S → Calls Tryd.prog 18 #[.slice sa S.length sc] W fun e w' => ∃ g c, e = .returned (.slice (some ⟨g, 0, none⟩) S.length c) ∧ Cv.Own w' W.heap.size (.slice (some ⟨g, 0, none⟩) (S.length + 1) c) (S ++ [77]) ∧ S.length + 1 ≤ c ∧ Below W.heap.size W w') := fun W h => roomy_any W sa sb so sc S h hns (by omega)
  have HSm : Hid (∀ W ca cb cc cd ce cf, RdU W sa sb so S.length S → RdU W ca cb 0 S.length S → RdS W da db dO D.length D → RdS W cd ce 0 D.length D → Calls Tryd.prog 20 #[.agg #[.int .i64 kd, .int .i64 k, .int .u64 (old : Int), .int .u64 (size : Int), .slice sa S.length sc, .slice da D.length dc], .agg #[.int .i64 kd, .int .i64 k, .int .u64 (old : Int), .int .u64 (size : Int), .slice ca S.length cc, .slice cd D.length cf]] W fun e w' => e = .returned (.bool true) ∧ Below W.heap.size W w') := fun W ca cb cc cd ce cf u1 u2 d1 d2 => same_yes W kd k old size sa sb so sc ca cb 0 cc S u1 u2 (by omega) da db dO dc cd ce 0 cf D d1 d2 (by omega)
  have HKe : Hid (∀ W g c, Kp W g c S → RdU W sa sb so S.length S → Calls Tryd.prog 21 #[.slice (some ⟨g, 0, none⟩) S.length c, .slice sa S.length sc] W fun e w' => e = .returned (.bool true) ∧ Below W.heap.size W w') := fun W g c h1 h2 => kept_any W g c sa sb so sc S h1 h2 (by omega)
  have hz : ¬ (2000 : Int) < (S.length : Int) := by omega
  have HQ : Hid (S.length ≤ 2000 ∧ D.length ≤ 8796093021952 ∧ X.length ≤ 8796093021952 ∧ (da = none → dc = 0) ∧ (xa = none → xc = 0)) := ⟨by omega, hD, hX, hnd, hnx⟩
  have hDz : (D.length : Int) ≤ 8796093021952 := by omega
  have hXz : (X.length : Int) ≤ 8796093021952 := by omega
  unfold vP at HR1 HR2
  unfold vP
  clear ht hr h6 hb rs rd rx hns hS hnd hD hnx hX hR1 hR2
  go_enter Tryd.func7, Tryd.ntmps7
  go_upto_region 4 with (go_at_call 8; with_reducible refine HA.mono ?_; rintro e w1 ⟨rfl, hb1⟩; have hH1 := HH.out.next hb1; obtain ⟨c0, c1, c2, c3, c4, c5⟩ := hH1.six.cells)
  have h5 := six_new w1 (.int .i64 kd) (.int .i64 k) (.int .u64 (old : Int)) (.int .u64 (size : Int)) (.slice sa S.length sc) (.slice da D.length dc)
  have hb2 := bal (Below.refl w1.heap.size w1) (.cells #[.int .i64 kd, .int .i64 k, .int .u64 (old : Int), .int .u64 (size : Int), .slice sa S.length sc, .slice da D.length dc] 32)
  obtain ⟨w2, hw2⟩ : ∃ w2, w1.alloc (.cells #[.int .i64 kd, .int .i64 k, .int .u64 (old : Int), .int .u64 (size : Int), .slice sa S.length sc, .slice da D.length dc] 32) = w2 := ⟨_, rfl⟩
  have hq2 : w2.heap.size = w1.heap.size + 1 := by rw [← hw2]; exact World.size_alloc ..
  rw [hw2] at h5 hb2 ⊢
  have hH2 := hH1.next hb2
  have HZ2 : Hid (w2.heap.size = w1.heap.size + 1 ∧ w.heap.size < w1.heap.size) := ⟨hq2, hH1.six.lt⟩
  obtain ⟨c0, c1, c2, c3, c4, c5⟩ := hH2.six.cells
  have HH1 := hide hH1
  have HB2 := hide hb2
  have HRm2 := HRm.out w2 hH2.rs
  clear hw2 hq2 hH1 hb1 HA HH hH2 hb2
  go_upto_region 5 with (go_at_call 18; with_reducible refine HRm2.mono ?_; rintro e w3 ⟨g, c, rfl, oS, hcS, hb3⟩; have h53 := h5.next hb3; have k4 := h53.cells.2.2.2.2.1; have f4 := h53.fz 4)
  have h54 := h53.set4r (.slice (some ⟨g, 0, none⟩) S.length c)
  have hch := (ChT.refl (fun b => b = w1.heap.size) w3).set w1.heap.size 4 (.slice (some ⟨g, 0, none⟩) S.length c) rfl
  have hgw := (World.ownsRow.lt oS g rfl).1
  have oS4 : Cv.Own (w3.setCell ⟨w1.heap.size, 4, none⟩ (.slice (some ⟨g, 0, none⟩) S.length c)) w2.heap.size (.slice (some ⟨g, 0, none⟩) (S.length + 1) c) (S ++ [77]) := keep_row oS fun g' _ hg' => hch.block g' (by have := HZ2.out.1; show ¬ g' = _; omega)
  have hcb : Below w1.heap.size w3 (w3.setCell ⟨w1.heap.size, 4, none⟩ (.slice (some ⟨g, 0, none⟩) S.length c)) := hch.below (by rintro b rfl; exact Nat.le_refl _)
  obtain ⟨w4, hw4⟩ : ∃ w4, w3.setCell ⟨w1.heap.size, 4, none⟩ (.slice (some ⟨g, 0, none⟩) S.length c) = w4 := ⟨_, rfl⟩
  rw [hw4] at h54 oS4 hcb
  have hb14 : Below w1.heap.size w1 w4 := (HB2.out.trans (hb3.mono (by have := HZ2.out.1; omega))).trans hcb
  have HP4 : Hid (Six w4 w1.heap.size (.int .i64 kd) (.int .i64 k) (.int .u64 (old : Int)) (.int .u64 (size : Int)) (.slice (some ⟨g, 0, none⟩) S.length c) (.slice da D.length dc) ∧ Cv.Own w4 w2.heap.size (.slice (some ⟨g, 0, none⟩) (S.length + 1) c) (S ++ [77]) ∧ S.length + 1 ≤ c ∧ Below w1.heap.size w1 w4) := ⟨h54, oS4, hcS, hb14⟩
  clear hch hgw oS4 hcb h54 oS hcS hb3 h5 HRm HRm2 c0 c1 c2 c3 c4 c5 h53 hb14
  go_upto_region 5 with (fail)
  try rw [hw4]
  clear hw4 k4 f4
  have HD4 : Hid (∀ W, Below w4.heap.size w4 W → W.cell? ⟨w.heap.size, 5, none⟩ = some (.slice da D.length dc) ∧ RdS W da db dO D.length D ∧ Six W w1.heap.size (.int .i64 kd) (.int .i64 k) (.int .u64 (old : Int)) (.int .u64 (size : Int)) (.slice (some ⟨g, 0, none⟩) S.length c) (.slice da D.length dc)) := fun W hW => by
    have h1 := HH1.out.next (HP4.out.2.2.2.trans (hW.mono HP4.out.2.2.2.size))
    exact ⟨h1.six.cells.2.2.2.2.2, h1.rd, HP4.out.1.next hW⟩
  have hdr := (Below.refl w4.heap.size w4).drew
  have hal := bal (Below.refl w4.heap.size w4) (.cells #[.string markR] 9)
  have hq5 : ¬ w.heap.size = w1.heap.size := by have := HZ2.out.2; omega
  have HK5 : Hid (∀ W v, Below w4.heap.size w4 W → (W.setCell ⟨w1.heap.size, 5, none⟩ v).cell? ⟨w.heap.size, 5, none⟩ = some (.slice da D.length dc)) := fun W v hW => (World.cell?_of_block (a := ⟨w.heap.size, 5, none⟩) (((ChT.refl (fun b => b = w1.heap.size) W).set w1.heap.size 5 v rfl).block _ hq5)).trans (HD4.out W hW).1
  have k0 := (HD4.out _ hdr).1
  have hmk : (⟨#[109, 97, 114, 107]⟩ : ByteArray) = markR := rfl
  go_cut [5] from 26 to 36 (fun x wx => x = .pointer (some ⟨w1.heap.size, 0, none⟩) ∧ ∃ gd cd, Six wx w1.heap.size (.int .i64 kd) (.int .i64 k) (.int .u64 (old : Int)) (.int .u64 (size : Int)) (.slice (some ⟨g, 0, none⟩) S.length c) (.slice (some ⟨gd, 0, none⟩) D.length cd) ∧ OwnS wx w4.heap.size (.slice (some ⟨gd, 0, none⟩) (D.length + 1) cd) (D ++ [markR]) ∧ D.length + 1 ≤ cd ∧ Bx w1.heap.size w4 wx)
  case first =>
    go_region_held3 (fun Z => Z.cell? ⟨w.heap.size, 5, none⟩ = some (.slice da D.length dc)) (first | assumption | (exact (HD4.out _ hdr).1) | (exact (HD4.out _ hal).1) | (exact (HD4.out _ hal.drew).1) | (exact (HD4.out _ hb5).1) | (exact (HD4.out _ (bal hb5 _)).1) | (exact (HD4.out _ hb6).1) | (exact HK5.out _ _ hb6)) (first
      | (refine step_append_SO _ (by rfl) _ _ (by rfl) w4.heap.size _ D (by rfl) (own_al o5' _) (some ⟨w5.heap.size, 0, none⟩) w5.heap.size 0 1 [markR] (by rfl) (rds_one w5 markR (by decide)) (fun h => by cases h) (by have := HQ.out.2.1; simp only [List.length_singleton]; omega) (bal hb5 _).size ?_; intro v6 w6 o6 p6 _
         have hb6 : Below w4.heap.size w4 w6 := (bal hb5 (.cells #[.string markR] 9)).trans p6
         obtain ⟨gd, cd, rfl, hcd, o6'⟩ := own_mark o6
         have hcz : (D.length : Int) ≤ (cd : Int) := by omega
         have h56 := (HD4.out _ hb6).2.2
         have k5 := h56.cells.2.2.2.2.2
         have f5 := h56.fz 5)
      | (refine step_append_SO _ (by rfl) _ _ (by rfl) w4.heap.size _ D (by rfl) o5' (some ⟨w4.heap.size, 0, none⟩) w4.heap.size 0 1 [markR] (by rfl) (by first | exact (rds_one w4 markR (by decide)).next p5 (Nat.le_refl _) | exact ((rds_one w4 markR (by decide)).next ((Below.refl _ _).drew) (Nat.le_refl _)).next p5 (Nat.le_refl _)) (fun h => by cases h) (by have := HQ.out.2.1; simp only [List.length_singleton]; omega) hb5.size ?_; intro v6 w6 o6 p6 _
         have hb6 : Below w4.heap.size w4 w6 := hb5.trans p6
         obtain ⟨gd, cd, rfl, hcd, o6'⟩ := own_mark o6
         have hcz : (D.length : Int) ≤ (cd : Int) := by omega
         have h56 := (HD4.out _ hb6).2.2
         have k5 := h56.cells.2.2.2.2.2
         have f5 := h56.fz 5)
      | (refine step_append_SO _ (by rfl) _ _ (by rfl) w4.heap.size _ [] (by rfl) (owns_nil _ _) da db dO dc D (by rfl) (HD4.out _ (by first | exact hdr | exact hal.drew | exact hal)).2.1 HQ.out.2.2.2.1 (by have := HQ.out.2.1; simp only [List.length_nil]; omega) (by first | exact hdr.size | exact hal.size | exact hal.drew.size) ?_; intro v5 w5 o5 _ r5
         have p5 := (Below.refl _ _).grown r5 (Nat.le_refl _) (fun k hk => by cases hk)
         have hb5 : Below w4.heap.size w4 w5 := by first | exact bnext hdr p5 | exact bnext hal.drew p5 | exact bnext hal p5
         have o5' : OwnS w5 w4.heap.size v5 D := o5
         obtain ⟨va, vm, vc, rfl⟩ := Cv.own_slice o5'))
    all_goals
      have hS6 := h56.set5r (.slice (some ⟨gd, 0, none⟩) D.length cd)
      have hch6 := (ChT.refl (fun b => b = w1.heap.size) w6).set w1.heap.size 5 (.slice (some ⟨gd, 0, none⟩) D.length cd) rfl
      have hq1 := HP4.out.1.lt
      have oD6 : OwnS (w6.setCell ⟨w1.heap.size, 5, none⟩ (.slice (some ⟨gd, 0, none⟩) D.length cd)) w4.heap.size (.slice (some ⟨gd, 0, none⟩) (D.length + 1) cd) (D ++ [markR]) := keep_row o6' fun g' _ hg' => hch6.block g' (by show ¬ g' = _; omega)
      have hX6 : Bx w1.heap.size w4 (w6.setCell ⟨w1.heap.size, 5, none⟩ (.slice (some ⟨gd, 0, none⟩) D.length cd)) := ((Bx.refl _ _).next hb6).put hch6
      have HF := hide (And.intro hS6 (And.intro oD6 (And.intro hcd hX6)))
      clear hS6 hch6 hq1 oD6 hX6
      go_wp2
      go_meet
      case rel =>
        go_light
        exact ⟨rfl, gd, cd, HF.out.1, HF.out.2.1, HF.out.2.2.1, HF.out.2.2.2⟩
  case rest =>
    obtain ⟨rfl, gd, cd, h5, oD, hcd, hX⟩ := hcut
    have hb1c : Below w1.heap.size w1 wc := HP4.out.2.2.2.trans (hX.below (Nat.le_refl _) HP4.out.2.2.2.size)
    have oSc : Cv.Own wc w2.heap.size (.slice (some ⟨g, 0, none⟩) (S.length + 1) c) (S ++ [77]) := keep_row HP4.out.2.1 fun g' h1 h2 => hX.block g' (World.ownsRow.lt HP4.out.2.1 g' h1).2 (by have := HZ2.out.1; omega)
    have hKp := kp_own oSc HP4.out.2.2.1
    have HB5 : Hid (∀ W, Below wc.heap.size wc W → Hi W w kd k old size sa sb so sc S da db dO dc D xa xb xo xc X ∧ Six W w1.heap.size (.int .i64 kd) (.int .i64 k) (.int .u64 (old : Int)) (.int .u64 (size : Int)) (.slice (some ⟨g, 0, none⟩) S.length c) (.slice (some ⟨gd, 0, none⟩) D.length cd) ∧ Kp W g c S ∧ OwnS W w4.heap.size (.slice (some ⟨gd, 0, none⟩) (D.length + 1) cd) (D ++ [markR])) := fun W hW =>
      ⟨(HH1.out.next hb1c).next hW, h5.next hW, hKp.next hW, row_nextH oD hW⟩
    have HC5 := hide (And.intro hcd HP4.out.2.2.1)
    generalize w1.heap.size = q5 at *
    clear h5 oD hcd hX hb1c oSc hKp HP4 HD4 HK5 hdr hal hq5 k0 HH1 HB2 HZ2
    have hHc := (HB5.out wc (Below.refl _ _)).1
    go_upto_region 7 with (at_builtin; refine wpList_append_S _ rfl _ _ rfl wc.heap.size _ [] rfl (owns_nil _ _) xa xb xo xc X rfl hHc.rx HQ.out.2.2.2.2 ?c1 ?c2 ?_)
    case c1 => have := HQ.out.2.2.1; simp; omega
    case c2 => exact Nat.le_refl _
    intro v5 w5 o5 p5
    have HO5 : Hid (OwnS w5 wc.heap.size v5 X ∧ Below wc.heap.size wc w5) := ⟨o5, p5⟩
    clear o5 p5 hHc
    go_upto_region 7 with (at_builtin; refine wpList_append_S _ rfl _ _ rfl wc.heap.size _ X rfl (own_al HO5.out.1 _) (some ⟨w5.heap.size, 0, none⟩) w5.heap.size 0 1 [markR] rfl (rds_one w5 markR (by decide)) (fun h => by cases h) ?c1 ?c2 ?_)
    case c1 => have := HQ.out.2.2.1; simp; omega
    case c2 => have := HO5.out.2.size; simp; omega
    intro v6 w6 o6 p6
    obtain ⟨gl, cl, rfl, hcl, o6'⟩ := own_mark o6
    have hclz : (X.length : Int) ≤ (cl : Int) := by omega
    have HO6 : Hid (OwnS w6 wc.heap.size (.slice (some ⟨gl, 0, none⟩) (X.length + 1) cl) (X ++ [markR]) ∧ X.length + 1 ≤ cl ∧ Below wc.heap.size wc w6) := ⟨o6', hcl, (bal HO5.out.2 _).trans p6⟩
    clear o6 p6 o6' hcl HO5
    go_upto_region 7 with (fail)
    obtain ⟨hHi, hq6, hK6, hD6⟩ := HB5.out w6 HO6.out.2.2
    obtain ⟨c0, c1, c2, c3, c4, c5⟩ := hq6.cells
    have HW6 := HR1.out w6 (some ⟨g, 0, none⟩) g 0 c (some ⟨gd, 0, none⟩) gd 0 cd (some ⟨gl, 0, none⟩) gl 0 cl hHi.tb hK6.rd (by have := HC5.out.2; omega) (fun h => by cases h) (own_rds hD6 hHi.rd.sz) (by have := HC5.out.1; omega) (fun h => by cases h) (own_rds HO6.out.1 hHi.rx.sz) (by have := HO6.out.2.1; omega) (fun h => by cases h)
    clear hHi hq6 hK6 hD6
    go_upto_region 8 with (go_at_call 14; with_reducible refine HW6.mono ?_; rintro e w7 ⟨rfl, hb7⟩)
    have z7 := heap_alloc_new w7 (.cells #[.int .u64 (n : Int), .string rr] 38)
    have hb8 := bal hb7 (.cells #[.int .u64 (n : Int), .string rr] 38)
    obtain ⟨w8, hw8⟩ : ∃ w8, w7.alloc (.cells #[.int .u64 (n : Int), .string rr] 38) = w8 := ⟨_, rfl⟩
    rw [hw8] at z7 hb8 ⊢
    have hbc8 := bnext HO6.out.2.2 hb8
    obtain ⟨hHi, _, _, _⟩ := HB5.out w8 hbc8
    obtain ⟨c0, c1, c2, c3, c4, c5⟩ := hHi.six.cells
    have HW8 := HR2.out w8 sa sb so sc da db dO dc xa xb xo xc hHi.tr hHi.rs hHi.rd hHi.rx
    have HZ8 : Hid (w8.heap[w7.heap.size]? = some (.cells #[.int .u64 (n : Int), .string rr] 38 (0, 0)) ∧ Below wc.heap.size wc w8 ∧ OwnS w8 wc.heap.size (.slice (some ⟨gl, 0, none⟩) (X.length + 1) cl) (X ++ [markR])) := ⟨z7, hbc8, row_nextH HO6.out.1 hb8⟩
    generalize w7.heap.size = q7 at *
    clear hw8 z7 hb7 hb8 hbc8 hHi HW6
    go_upto_region 9 with (go_at_call 22; with_reducible refine HW8.mono ?_; rintro e w9 ⟨rfl, hb9⟩)
    have z9 := heap_alloc_new w9 (.cells #[.int .u64 (n : Int), .string rr] 38)
    have hb10 := bal hb9 (.cells #[.int .u64 (n : Int), .string rr] 38)
    obtain ⟨w10, hw10⟩ : ∃ w10, w9.alloc (.cells #[.int .u64 (n : Int), .string rr] 38) = w10 := ⟨_, rfl⟩
    rw [hw10] at z9 hb10 ⊢
    have HE : Hid (∀ W, Below w10.heap.size w10 W → Hi W w kd k old size sa sb so sc S da db dO dc D xa xb xo xc X ∧ Six W q5 (.int .i64 kd) (.int .i64 k) (.int .u64 (old : Int)) (.int .u64 (size : Int)) (.slice (some ⟨g, 0, none⟩) S.length c) (.slice (some ⟨gd, 0, none⟩) D.length cd) ∧ Kp W g c S ∧ OwnS W w4.heap.size (.slice (some ⟨gd, 0, none⟩) (D.length + 1) cd) (D ++ [markR]) ∧ OwnS W wc.heap.size (.slice (some ⟨gl, 0, none⟩) (X.length + 1) cl) (X ++ [markR]) ∧ (W.cell? ⟨q7, 0, none⟩ = some (.int .u64 (n : Int)) ∧ W.cell? ⟨q7, 1, none⟩ = some (.string rr)) ∧ (W.cell? ⟨w9.heap.size, 0, none⟩ = some (.int .u64 (n : Int)) ∧ W.cell? ⟨w9.heap.size, 1, none⟩ = some (.string rr))) := fun W hW => by
      have h8 := bnext hb10 hW
      obtain ⟨a1, a2, a3, a4⟩ := HB5.out W (bnext HZ8.out.2.1 h8)
      have r7 := (h8.block q7 (Array.getElem?_eq_some_iff.1 HZ8.out.1).1).trans HZ8.out.1
      have r9 := (hW.block w9.heap.size (Array.getElem?_eq_some_iff.1 z9).1).trans z9
      exact ⟨a1, a2, a3, a4, row_nextH HZ8.out.2.2 h8, ⟨by rw [cell_of_row _ _ 0 _ _ (0, 0) r7]; rfl, by rw [cell_of_row _ _ 1 _ _ (0, 0) r7]; rfl⟩, ⟨by rw [cell_of_row _ _ 0 _ _ (0, 0) r9]; rfl, by rw [cell_of_row _ _ 1 _ _ (0, 0) r9]; rfl⟩⟩
    have HCl : Hid (X.length + 1 ≤ cl ∧ D.length + 1 ≤ cd) := ⟨HO6.out.2.1, HC5.out.1⟩
    generalize w9.heap.size = q9 at *
    clear hw10 z9 hb9 hb10 HZ8 HW8 HO6 HB5 HR1 HR2 c0 c1 c2 c3 c4 c5
    go_wp2
    go_loopg [11] X.length (fun gh ii wr => ∃ j : Nat, j ≤ X.length ∧ gh = X.length - j ∧ ii = .int .i64 (j : Int) ∧ Hid (Below w10.heap.size w10 wr))
    case atStart =>
      go_light
      exact ⟨0, Nat.zero_le _, rfl, rfl, Below.refl _ _⟩
    case round =>
      obtain ⟨j, hj, rfl, rfl, HB⟩ := hrel
      by_cases hlt : j < X.length
      · have hz : (j : Int) < (X.length : Int) := by omega
        have hz0 : (0 : Int) ≤ (j : Int) := Int.natCast_nonneg _
        obtain ⟨e1, _, _, _, e5, _, _⟩ := HE.out wr HB.out
        obtain rfl := e1.rx.ptr (by omega)
        have m1 := e1.rx.at hlt
        have m2 := (own_rds e5 e1.rx.sz).at hlt
        rw [Nat.zero_add] at m2
        generalize X.getD j ByteArray.empty = v at *
        clear e1 e5
        go_upto_region 12 with (fail)
        go_quiet (fail)
        go_wp2
        go_roundg (X.length - (j + 1))
        case rel =>
          go_light
          exact ⟨j + 1, hlt, rfl, by go_num, below_drewN HB.out _⟩
        case measure => go_light; omega
      · obtain rfl : j = X.length := by omega
        have hz : ¬ ((X.length : Int) < (X.length : Int)) := by omega
        clear hlt hj
        have hXc : (X.length : Int) + 1 ≤ (cl : Int) := by have := HCl.out.1; omega
        have hDc : (D.length : Int) + 1 ≤ (cd : Int) := by have := HCl.out.2; omega
        have hx1 : (X.length : Int) < (X.length : Int) + 1 := by omega
        have eXw : IntKind.i64.wrap ((X.length : Int) + 1) = (X.length : Int) + 1 := by rw [IntKind.wrap_i64]; omega
        have eDw : IntKind.i64.wrap ((D.length : Int) + 1) = (D.length : Int) + 1 := by rw [IntKind.wrap_i64]; omega
        have hd1 : (D.length : Int) < (D.length : Int) + 1 := by omega
        have HEm : Hid (∀ W, Below w10.heap.size w10 W → W.cell? ⟨gd, D.length, none⟩ = some (.string markR) ∧ W.cell? ⟨gl, X.length, none⟩ = some (.string markR)) := fun W hW => by
          obtain ⟨_, _, _, a4, a5, _, _⟩ := HE.out W hW
          have h1 := (own_cell a4 (j := D.length) (by simp)).1
          have h2 := (own_cell a5 (j := X.length) (by simp)).1
          rw [getD_lastR] at h1 h2
          exact ⟨h1, h2⟩
        have HEs : Hid (∀ W, Below w10.heap.size w10 W → Calls Tryd.prog 20 #[.agg #[.int .i64 kd, .int .i64 k, .int .u64 (old : Int), .int .u64 (size : Int), .slice sa S.length sc, .slice da D.length dc], .agg #[.int .i64 kd, .int .i64 k, .int .u64 (old : Int), .int .u64 (size : Int), .slice (some ⟨g, 0, none⟩) S.length c, .slice (some ⟨gd, 0, none⟩) D.length cd]] W fun e w' => e = .returned (.bool true) ∧ Below W.heap.size W w') := fun W hW => by
          obtain ⟨a1, _, a3, a4, _, _, _⟩ := HE.out W hW
          exact HSm.out W (some ⟨g, 0, none⟩) g c (some ⟨gd, 0, none⟩) gd cd a1.rs a3.rd a1.rd (own_rds a4 a1.rd.sz)
        have HEk : Hid (∀ W, Below w10.heap.size w10 W → Calls Tryd.prog 21 #[.slice (some ⟨g, 0, none⟩) S.length c, .slice sa S.length sc] W fun e w' => e = .returned (.bool true) ∧ Below W.heap.size W w') := fun W hW => by
          obtain ⟨a1, _, a3, _, _, _, _⟩ := HE.out W hW
          exact HKe.out W g c a3 a1.rs
        go_upto_region 14 with (fail)
        refine wp_region_planI (by kernel_rfl) [70, 71, 72, 73, 74, 75, 76, 77, 78, 79, 80, 81, 82, 83, 84, 85, 86, 87, 88, 89, 90, 91, 92, 93, 94, 95, 96, 97, 98, 99, 100, 101, 102, 103, 104, 105, 106, 107, 108, 109, 110, 111, 112, 113, 114, 115, 116, 4] [] [.agg #[.int .u64 (n : Int), .string rr], .agg #[.int .u64 (n : Int), .string rr], .bool true, .bool true, .int .i64 (er : Int), .int .i64 (er : Int), .bool true, .bool true, .bool true, .agg #[.int .i64 kd, .int .i64 k, .int .u64 (old : Int), .int .u64 (size : Int), .slice sa S.length sc, .slice da D.length dc], .agg #[.int .i64 kd, .int .i64 k, .int .u64 (old : Int), .int .u64 (size : Int), .slice (some ⟨g, 0, none⟩) S.length c, .slice (some ⟨gd, 0, none⟩) D.length cd], .bool true, .bool true, .bool true, .pointer (some ⟨q5, 4, none⟩), .slice (some ⟨g, 0, none⟩) S.length c, .pointer (some ⟨w.heap.size, 4, none⟩), .slice sa S.length sc, .bool true, .bool true, .bool true, .pointer (some ⟨q5, 5, none⟩), .slice (some ⟨gd, 0, none⟩) D.length cd, .pointer (some ⟨w.heap.size, 5, none⟩), .slice da D.length dc, .int .i64 (D.length : Int), .int .i64 ((D.length : Int) + 1), .slice (some ⟨gd, 0, none⟩) (D.length + 1) cd, .pointer (some ⟨w.heap.size, 5, none⟩), .slice da D.length dc, .int .i64 (D.length : Int), .pointer (some ⟨gd, D.length, none⟩), .string markR, .bool true, .bool true, .bool true, .slice (some ⟨gl, 0, none⟩) X.length cl, .slice xa X.length xc, .int .i64 (X.length : Int), .int .i64 ((X.length : Int) + 1), .slice (some ⟨gl, 0, none⟩) (X.length + 1) cl, .slice xa X.length xc, .int .i64 (X.length : Int), .pointer (some ⟨gl, X.length, none⟩), .string markR, .bool true, .bool true, .bool true] (by kernel_rfl) rfl (fun j hj => by cases hj) (fun _ W => Below wr.heap.size wr W) (fun W _ hb => hb) ?step ?fin
        case step =>
          refine ⟨?_, ?_, ?_, ?_, ?_, ?_, ?_, ?_, ?_, ?_, ?_, ?_, ?_, ?_, ?_, ?_, ?_, ?_, ?_, ?_, ?_, ?_, ?_, ?_, ?_, ?_, ?_, ?_, ?_, ?_, ?_, ?_, ?_, ?_, ?_, ?_, ?_, ?_, ?_, ?_, ?_, ?_, ?_, ?_, ?_, ?_, ?_, ?_, trivial⟩
          · intro L Ac Wc K hI hj hcl hsm dep hK
            have t7 : Ac.tmps.getD 7 undef = .pointer (some ⟨q7, 0, none⟩) := hsm 7 rfl
            show Oper.wp _ _ Ac Wc K _
            obtain ⟨a1, a2, a3, a4, a5, ⟨a6, a7⟩, ⟨a8, a9⟩⟩ := HE.out Wc (bnext HB.out hI)
            go_simp
            exact hK _ _ (.inr rfl) hI
          · intro L Ac Wc K hI hj hcl hsm dep hK
            have t9 : Ac.tmps.getD 9 undef = .pointer (some ⟨q9, 0, none⟩) := hsm 9 rfl
            show Oper.wp _ _ Ac Wc K _
            obtain ⟨a1, a2, a3, a4, a5, ⟨a6, a7⟩, ⟨a8, a9⟩⟩ := HE.out Wc (bnext HB.out hI)
            go_simp
            exact hK _ _ (.inr rfl) hI
          · intro L Ac Wc K hI hj hcl hsm dep hK
            have t70 : Ac.tmps.getD 70 undef = .agg #[.int .u64 (n : Int), .string rr] := dep 0 rfl
            have t71 : Ac.tmps.getD 71 undef = .agg #[.int .u64 (n : Int), .string rr] := dep 1 rfl
            show Oper.wp _ _ Ac Wc K _
            go_simp
            exact hK _ _ (.inr rfl) hI
          · intro L Ac Wc K hI hj hcl hsm dep hK
            have t72 : Ac.tmps.getD 72 undef = .bool true := dep 2 rfl
            show Oper.wp _ _ Ac Wc K _
            go_simp
            exact hK _ _ (.inr rfl) hI
          · intro L Ac Wc K hI hj hcl hsm dep hK
            have t8 : Ac.tmps.getD 8 undef = .int .i64 (er : Int) := hsm 8 rfl
            refine ⟨true, (show Ac.tmps.getD 73 undef = .bool true from dep 3 rfl), ?_⟩
            rw [if_pos rfl]
            go_simp
            exact hK _ _ (.inr rfl) hI
          · intro L Ac Wc K hI hj hcl hsm dep hK
            have t10 : Ac.tmps.getD 10 undef = .int .i64 (er : Int) := hsm 10 rfl
            refine ⟨true, (show Ac.tmps.getD 73 undef = .bool true from dep 3 rfl), ?_⟩
            rw [if_pos rfl]
            go_simp
            exact hK _ _ (.inr rfl) hI
          · intro L Ac Wc K hI hj hcl hsm dep hK
            have t74 : Ac.tmps.getD 74 undef = .int .i64 (er : Int) := dep 4 rfl
            have t75 : Ac.tmps.getD 75 undef = .int .i64 (er : Int) := dep 5 rfl
            refine ⟨true, (show Ac.tmps.getD 73 undef = .bool true from dep 3 rfl), ?_⟩
            rw [if_pos rfl]
            go_simp
            exact hK _ _ (.inr rfl) hI
          · intro L Ac Wc K hI hj hcl hsm dep hK
            have t73 : Ac.tmps.getD 73 undef = .bool true := dep 3 rfl
            have t76 : Ac.tmps.getD 76 undef = .bool true := dep 6 rfl
            show Oper.wp _ _ Ac Wc K _
            go_simp
            exact hK _ _ (.inr rfl) hI
          · intro L Ac Wc K hI hj hcl hsm dep hK
            have t77 : Ac.tmps.getD 77 undef = .bool true := dep 7 rfl
            show Oper.wp _ _ Ac Wc K _
            go_simp
            exact hK _ _ (.inr rfl) hI
          · intro L Ac Wc K hI hj hcl hsm dep hK
            have t2 : Ac.tmps.getD 2 undef = .pointer (some ⟨w.heap.size, 0, none⟩) := hsm 2 rfl
            refine ⟨true, (show Ac.tmps.getD 78 undef = .bool true from dep 8 rfl), ?_⟩
            rw [if_pos rfl]
            obtain ⟨a1, a2, a3, a4, a5, ⟨a6, a7⟩, ⟨a8, a9⟩⟩ := HE.out Wc (bnext HB.out hI)
            obtain ⟨p0, p1, p2, p3, p4, p5⟩ := a1.six.cells
            go_simp
            exact hK _ _ (.inr rfl) hI
          · intro L Ac Wc K hI hj hcl hsm dep hK
            have t5 : Ac.tmps.getD 5 undef = .pointer (some ⟨q5, 0, none⟩) := hsm 5 rfl
            refine ⟨true, (show Ac.tmps.getD 78 undef = .bool true from dep 8 rfl), ?_⟩
            rw [if_pos rfl]
            obtain ⟨a1, a2, a3, a4, a5, ⟨a6, a7⟩, ⟨a8, a9⟩⟩ := HE.out Wc (bnext HB.out hI)
            obtain ⟨p0, p1, p2, p3, p4, p5⟩ := a2.cells
            go_simp
            exact hK _ _ (.inr rfl) hI
          · intro L Ac Wc K hI hj hcl hsm dep hK
            have t79 : Ac.tmps.getD 79 undef = .agg #[.int .i64 kd, .int .i64 k, .int .u64 (old : Int), .int .u64 (size : Int), .slice sa S.length sc, .slice da D.length dc] := dep 9 rfl
            have t80 : Ac.tmps.getD 80 undef = .agg #[.int .i64 kd, .int .i64 k, .int .u64 (old : Int), .int .u64 (size : Int), .slice (some ⟨g, 0, none⟩) S.length c, .slice (some ⟨gd, 0, none⟩) D.length cd] := dep 10 rfl
            refine ⟨true, (show Ac.tmps.getD 78 undef = .bool true from dep 8 rfl), ?_⟩
            rw [if_pos rfl]
            go_simp
            refine (HEs.out Wc (bnext HB.out hI)).mono ?_
            rintro e w' ⟨rfl, hb'⟩
            exact hK _ _ (.inr rfl) (bnext hI hb')
          · intro L Ac Wc K hI hj hcl hsm dep hK
            have t78 : Ac.tmps.getD 78 undef = .bool true := dep 8 rfl
            have t81 : Ac.tmps.getD 81 undef = .bool true := dep 11 rfl
            show Oper.wp _ _ Ac Wc K _
            go_simp
            exact hK _ _ (.inr rfl) hI
          · intro L Ac Wc K hI hj hcl hsm dep hK
            have t82 : Ac.tmps.getD 82 undef = .bool true := dep 12 rfl
            show Oper.wp _ _ Ac Wc K _
            go_simp
            exact hK _ _ (.inr rfl) hI
          · intro L Ac Wc K hI hj hcl hsm dep hK
            have t5 : Ac.tmps.getD 5 undef = .pointer (some ⟨q5, 0, none⟩) := hsm 5 rfl
            refine ⟨true, (show Ac.tmps.getD 83 undef = .bool true from dep 13 rfl), ?_⟩
            rw [if_pos rfl]
            go_simp
            exact hK _ _ (.inr rfl) hI
          · intro L Ac Wc K hI hj hcl hsm dep hK
            have t84 : Ac.tmps.getD 84 undef = .pointer (some ⟨q5, 4, none⟩) := dep 14 rfl
            refine ⟨true, (show Ac.tmps.getD 83 undef = .bool true from dep 13 rfl), ?_⟩
            rw [if_pos rfl]
            obtain ⟨a1, a2, a3, a4, a5, ⟨a6, a7⟩, ⟨a8, a9⟩⟩ := HE.out Wc (bnext HB.out hI)
            obtain ⟨p0, p1, p2, p3, p4, p5⟩ := a2.cells
            go_simp
            exact hK _ _ (.inr rfl) hI
          · intro L Ac Wc K hI hj hcl hsm dep hK
            have t2 : Ac.tmps.getD 2 undef = .pointer (some ⟨w.heap.size, 0, none⟩) := hsm 2 rfl
            refine ⟨true, (show Ac.tmps.getD 83 undef = .bool true from dep 13 rfl), ?_⟩
            rw [if_pos rfl]
            go_simp
            exact hK _ _ (.inr rfl) hI
          · intro L Ac Wc K hI hj hcl hsm dep hK
            have t86 : Ac.tmps.getD 86 undef = .pointer (some ⟨w.heap.size, 4, none⟩) := dep 16 rfl
            refine ⟨true, (show Ac.tmps.getD 83 undef = .bool true from dep 13 rfl), ?_⟩
            rw [if_pos rfl]
            obtain ⟨a1, a2, a3, a4, a5, ⟨a6, a7⟩, ⟨a8, a9⟩⟩ := HE.out Wc (bnext HB.out hI)
            obtain ⟨p0, p1, p2, p3, p4, p5⟩ := a1.six.cells
            go_simp
            exact hK _ _ (.inr rfl) hI
          · intro L Ac Wc K hI hj hcl hsm dep hK
            have t85 : Ac.tmps.getD 85 undef = .slice (some ⟨g, 0, none⟩) S.length c := dep 15 rfl
            have t87 : Ac.tmps.getD 87 undef = .slice sa S.length sc := dep 17 rfl
            refine ⟨true, (show Ac.tmps.getD 83 undef = .bool true from dep 13 rfl), ?_⟩
            rw [if_pos rfl]
            go_simp
            refine (HEk.out Wc (bnext HB.out hI)).mono ?_
            rintro e w' ⟨rfl, hb'⟩
            exact hK _ _ (.inr rfl) (bnext hI hb')
          · intro L Ac Wc K hI hj hcl hsm dep hK
            have t83 : Ac.tmps.getD 83 undef = .bool true := dep 13 rfl
            have t88 : Ac.tmps.getD 88 undef = .bool true := dep 18 rfl
            show Oper.wp _ _ Ac Wc K _
            go_simp
            exact hK _ _ (.inr rfl) hI
          · intro L Ac Wc K hI hj hcl hsm dep hK
            have t89 : Ac.tmps.getD 89 undef = .bool true := dep 19 rfl
            show Oper.wp _ _ Ac Wc K _
            go_simp
            exact hK _ _ (.inr rfl) hI
          · intro L Ac Wc K hI hj hcl hsm dep hK
            have t5 : Ac.tmps.getD 5 undef = .pointer (some ⟨q5, 0, none⟩) := hsm 5 rfl
            refine ⟨true, (show Ac.tmps.getD 90 undef = .bool true from dep 20 rfl), ?_⟩
            rw [if_pos rfl]
            go_simp
            exact hK _ _ (.inr rfl) hI
          · intro L Ac Wc K hI hj hcl hsm dep hK
            have t91 : Ac.tmps.getD 91 undef = .pointer (some ⟨q5, 5, none⟩) := dep 21 rfl
            refine ⟨true, (show Ac.tmps.getD 90 undef = .bool true from dep 20 rfl), ?_⟩
            rw [if_pos rfl]
            obtain ⟨a1, a2, a3, a4, a5, ⟨a6, a7⟩, ⟨a8, a9⟩⟩ := HE.out Wc (bnext HB.out hI)
            obtain ⟨p0, p1, p2, p3, p4, p5⟩ := a2.cells
            go_simp
            exact hK _ _ (.inr rfl) hI
          · intro L Ac Wc K hI hj hcl hsm dep hK
            have t2 : Ac.tmps.getD 2 undef = .pointer (some ⟨w.heap.size, 0, none⟩) := hsm 2 rfl
            refine ⟨true, (show Ac.tmps.getD 90 undef = .bool true from dep 20 rfl), ?_⟩
            rw [if_pos rfl]
            go_simp
            exact hK _ _ (.inr rfl) hI
          · intro L Ac Wc K hI hj hcl hsm dep hK
            have t93 : Ac.tmps.getD 93 undef = .pointer (some ⟨w.heap.size, 5, none⟩) := dep 23 rfl
            refine ⟨true, (show Ac.tmps.getD 90 undef = .bool true from dep 20 rfl), ?_⟩
            rw [if_pos rfl]
            obtain ⟨a1, a2, a3, a4, a5, ⟨a6, a7⟩, ⟨a8, a9⟩⟩ := HE.out Wc (bnext HB.out hI)
            obtain ⟨p0, p1, p2, p3, p4, p5⟩ := a1.six.cells
            go_simp
            exact hK _ _ (.inr rfl) hI
          · intro L Ac Wc K hI hj hcl hsm dep hK
            have t94 : Ac.tmps.getD 94 undef = .slice da D.length dc := dep 24 rfl
            refine ⟨true, (show Ac.tmps.getD 90 undef = .bool true from dep 20 rfl), ?_⟩
            rw [if_pos rfl]
            go_simp
            exact hK _ _ (.inr rfl) hI
          · intro L Ac Wc K hI hj hcl hsm dep hK
            have t95 : Ac.tmps.getD 95 undef = .int .i64 (D.length : Int) := dep 25 rfl
            refine ⟨true, (show Ac.tmps.getD 90 undef = .bool true from dep 20 rfl), ?_⟩
            rw [if_pos rfl]
            go_simp
            exact hK _ _ (.inr rfl) hI
          · intro L Ac Wc K hI hj hcl hsm dep hK
            have t92 : Ac.tmps.getD 92 undef = .slice (some ⟨gd, 0, none⟩) D.length cd := dep 22 rfl
            have t96 : Ac.tmps.getD 96 undef = .int .i64 ((D.length : Int) + 1) := dep 26 rfl
            refine ⟨true, (show Ac.tmps.getD 90 undef = .bool true from dep 20 rfl), ?_⟩
            rw [if_pos rfl]
            go_simp
            exact hK _ _ (.inr rfl) hI
          · intro L Ac Wc K hI hj hcl hsm dep hK
            have t2 : Ac.tmps.getD 2 undef = .pointer (some ⟨w.heap.size, 0, none⟩) := hsm 2 rfl
            refine ⟨true, (show Ac.tmps.getD 90 undef = .bool true from dep 20 rfl), ?_⟩
            rw [if_pos rfl]
            go_simp
            exact hK _ _ (.inr rfl) hI
          · intro L Ac Wc K hI hj hcl hsm dep hK
            have t98 : Ac.tmps.getD 98 undef = .pointer (some ⟨w.heap.size, 5, none⟩) := dep 28 rfl
            refine ⟨true, (show Ac.tmps.getD 90 undef = .bool true from dep 20 rfl), ?_⟩
            rw [if_pos rfl]
            obtain ⟨a1, a2, a3, a4, a5, ⟨a6, a7⟩, ⟨a8, a9⟩⟩ := HE.out Wc (bnext HB.out hI)
            obtain ⟨p0, p1, p2, p3, p4, p5⟩ := a1.six.cells
            go_simp
            exact hK _ _ (.inr rfl) hI
          · intro L Ac Wc K hI hj hcl hsm dep hK
            have t99 : Ac.tmps.getD 99 undef = .slice da D.length dc := dep 29 rfl
            refine ⟨true, (show Ac.tmps.getD 90 undef = .bool true from dep 20 rfl), ?_⟩
            rw [if_pos rfl]
            go_simp
            exact hK _ _ (.inr rfl) hI
          · intro L Ac Wc K hI hj hcl hsm dep hK
            have t97 : Ac.tmps.getD 97 undef = .slice (some ⟨gd, 0, none⟩) (D.length + 1) cd := dep 27 rfl
            have t100 : Ac.tmps.getD 100 undef = .int .i64 (D.length : Int) := dep 30 rfl
            refine ⟨true, (show Ac.tmps.getD 90 undef = .bool true from dep 20 rfl), ?_⟩
            rw [if_pos rfl]
            go_simp
            exact hK _ _ (.inr rfl) hI
          · intro L Ac Wc K hI hj hcl hsm dep hK
            have t101 : Ac.tmps.getD 101 undef = .pointer (some ⟨gd, D.length, none⟩) := dep 31 rfl
            refine ⟨true, (show Ac.tmps.getD 90 undef = .bool true from dep 20 rfl), ?_⟩
            rw [if_pos rfl]
            obtain ⟨a1, a2⟩ := HEm.out Wc (bnext HB.out hI)
            go_simp
            exact hK _ _ (.inr rfl) hI
          · intro L Ac Wc K hI hj hcl hsm dep hK
            have t102 : Ac.tmps.getD 102 undef = .string markR := dep 32 rfl
            refine ⟨true, (show Ac.tmps.getD 90 undef = .bool true from dep 20 rfl), ?_⟩
            rw [if_pos rfl]
            go_simp
            exact hK _ _ (.inr rfl) hI
          · intro L Ac Wc K hI hj hcl hsm dep hK
            have t90 : Ac.tmps.getD 90 undef = .bool true := dep 20 rfl
            have t103 : Ac.tmps.getD 103 undef = .bool true := dep 33 rfl
            show Oper.wp _ _ Ac Wc K _
            go_simp
            exact hK _ _ (.inr rfl) hI
          · intro L Ac Wc K hI hj hcl hsm dep hK
            have t104 : Ac.tmps.getD 104 undef = .bool true := dep 34 rfl
            show Oper.wp _ _ Ac Wc K _
            go_simp
            exact hK _ _ (.inr rfl) hI
          · intro L Ac Wc K hI hj hcl hsm dep hK
            have t6 : Ac.tmps.getD 6 undef = .slice (some ⟨gl, 0, none⟩) X.length cl := hsm 6 rfl
            refine ⟨true, (show Ac.tmps.getD 105 undef = .bool true from dep 35 rfl), ?_⟩
            rw [if_pos rfl]
            go_simp
            exact hK _ _ (.inr rfl) hI
          · intro L Ac Wc K hI hj hcl hsm dep hK
            have t1 : Ac.tmps.getD 1 undef = .slice xa X.length xc := hsm 1 rfl
            refine ⟨true, (show Ac.tmps.getD 105 undef = .bool true from dep 35 rfl), ?_⟩
            rw [if_pos rfl]
            go_simp
            exact hK _ _ (.inr rfl) hI
          · intro L Ac Wc K hI hj hcl hsm dep hK
            have t107 : Ac.tmps.getD 107 undef = .slice xa X.length xc := dep 37 rfl
            refine ⟨true, (show Ac.tmps.getD 105 undef = .bool true from dep 35 rfl), ?_⟩
            rw [if_pos rfl]
            go_simp
            exact hK _ _ (.inr rfl) hI
          · intro L Ac Wc K hI hj hcl hsm dep hK
            have t108 : Ac.tmps.getD 108 undef = .int .i64 (X.length : Int) := dep 38 rfl
            refine ⟨true, (show Ac.tmps.getD 105 undef = .bool true from dep 35 rfl), ?_⟩
            rw [if_pos rfl]
            go_simp
            exact hK _ _ (.inr rfl) hI
          · intro L Ac Wc K hI hj hcl hsm dep hK
            have t106 : Ac.tmps.getD 106 undef = .slice (some ⟨gl, 0, none⟩) X.length cl := dep 36 rfl
            have t109 : Ac.tmps.getD 109 undef = .int .i64 ((X.length : Int) + 1) := dep 39 rfl
            refine ⟨true, (show Ac.tmps.getD 105 undef = .bool true from dep 35 rfl), ?_⟩
            rw [if_pos rfl]
            go_simp
            exact hK _ _ (.inr rfl) hI
          · intro L Ac Wc K hI hj hcl hsm dep hK
            have t1 : Ac.tmps.getD 1 undef = .slice xa X.length xc := hsm 1 rfl
            refine ⟨true, (show Ac.tmps.getD 105 undef = .bool true from dep 35 rfl), ?_⟩
            rw [if_pos rfl]
            go_simp
            exact hK _ _ (.inr rfl) hI
          · intro L Ac Wc K hI hj hcl hsm dep hK
            have t111 : Ac.tmps.getD 111 undef = .slice xa X.length xc := dep 41 rfl
            refine ⟨true, (show Ac.tmps.getD 105 undef = .bool true from dep 35 rfl), ?_⟩
            rw [if_pos rfl]
            go_simp
            exact hK _ _ (.inr rfl) hI
          · intro L Ac Wc K hI hj hcl hsm dep hK
            have t110 : Ac.tmps.getD 110 undef = .slice (some ⟨gl, 0, none⟩) (X.length + 1) cl := dep 40 rfl
            have t112 : Ac.tmps.getD 112 undef = .int .i64 (X.length : Int) := dep 42 rfl
            refine ⟨true, (show Ac.tmps.getD 105 undef = .bool true from dep 35 rfl), ?_⟩
            rw [if_pos rfl]
            go_simp
            exact hK _ _ (.inr rfl) hI
          · intro L Ac Wc K hI hj hcl hsm dep hK
            have t113 : Ac.tmps.getD 113 undef = .pointer (some ⟨gl, X.length, none⟩) := dep 43 rfl
            refine ⟨true, (show Ac.tmps.getD 105 undef = .bool true from dep 35 rfl), ?_⟩
            rw [if_pos rfl]
            obtain ⟨a1, a2⟩ := HEm.out Wc (bnext HB.out hI)
            go_simp
            exact hK _ _ (.inr rfl) hI
          · intro L Ac Wc K hI hj hcl hsm dep hK
            have t114 : Ac.tmps.getD 114 undef = .string markR := dep 44 rfl
            refine ⟨true, (show Ac.tmps.getD 105 undef = .bool true from dep 35 rfl), ?_⟩
            rw [if_pos rfl]
            go_simp
            exact hK _ _ (.inr rfl) hI
          · intro L Ac Wc K hI hj hcl hsm dep hK
            have t105 : Ac.tmps.getD 105 undef = .bool true := dep 35 rfl
            have t115 : Ac.tmps.getD 115 undef = .bool true := dep 45 rfl
            show Oper.wp _ _ Ac Wc K _
            go_simp
            exact hK _ _ (.inr rfl) hI
          · intro L Ac Wc K hI hj hcl hsm dep hK
            have t116 : Ac.tmps.getD 116 undef = .bool true := dep 46 rfl
            show Oper.wp _ _ Ac Wc K _
            go_simp
            exact hK _ _ (.inr rfl) hI
        case fin =>
          intro L w12 hall hI
          clear hall
          simp only [puts]
          go_simp
          go_wp2
          go_ret
          exact ⟨rfl, (HE.out w12 (bnext HB.out hI)).1.bel⟩
theorem roots_walk (w : World) (ht : Tb w) (hr : Tr w) (kd k : Int) (old size : Nat) (sa : Option Addr) (sb so sc : Nat) (S : List Nat) (rs : RdU w sa sb so S.length S) (hns : sa = none → sc = 0) (da : Option Addr) (db dO dc : Nat) (D : List ByteArray) (rd : RdS w da db dO D.length D) (hnd : da = none → dc = 0) (hD : D.length ≤ 8796093021952) (xa : Option Addr) (xb xo xc : Nat) (X : List ByteArray) (rx : RdS w xa xb xo X.length X) (hnx : xa = none → xc = 0) (hX : X.length ≤ 8796093021952) :
    Calls Tryd.prog 7 #[vP kd k old size (.slice sa S.length sc) (.slice da D.length dc), .slice xa X.length xc] w fun e w' => e = .returned (.bool true) ∧ Below w.heap.size w w' := by
  by_cases h : 2000 < S.length
  · exact roots_many w ht hr kd k old size sa sc S h da D.length dc xa X.length xc
  · exact roots_few w ht hr kd k old size sa sb so sc S rs hns h da db dO dc D rd hnd hD xa xb xo xc X rx hnx hX
end Go.Proofs.YtnbejijpmeklaaaDoor
/-
  BatchRoots, as its row asks. Own work.
-/
namespace Go.Proofs.YtnbejijpmeklaaaDoor
theorem roots_row (w : World) (ht : Tb w) (hr : Tr w) (kd k : Int) (old size : Nat) (sa : Option Addr) (sb so sc : Nat) (S : List Nat) (rs : RdU w sa sb so S.length S) (hns : sa = none → sc = 0) (da : Option Addr) (db dO dc : Nat) (D : List ByteArray) (rd : RdS w da db dO D.length D) (hnd : da = none → dc = 0) (hD : D.length ≤ 8796093021952) (xa : Option Addr) (xb xo xn xc : Nat) (X : List ByteArray) (rx : RdS w xa xb xo xn X) (hX : xn ≤ 8796093021952) (hnx : xa = none → xc = 0) :
    Calls Tryd.prog 7 #[.agg #[.int .i64 kd, .int .i64 k, .int .u64 (old : Int), .int .u64 (size : Int), .slice sa S.length sc, .slice da D.length dc], .slice xa xn xc] w fun e w' => e = .returned (.bool true) ∧ Go.RowKit.Below w.heap.size w w' := by
  obtain rfl := rx.hl
  exact roots_walk w ht hr kd k old size sa sb so sc S rs hns da db dO dc D rd hnd hD xa xb xo xc X rx hnx hX
end Go.Proofs.YtnbejijpmeklaaaDoor
