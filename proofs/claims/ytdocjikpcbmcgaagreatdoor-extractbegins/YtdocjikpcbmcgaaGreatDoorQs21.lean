/-
  Own work: DWalkG, EWalkD, GWalkA, LWalkA.
-/
import Derived.Defers
import Derived.Recover
import Derived.Deep.AppendSrc
import Derived.Lib.AppendStr
import Derived.Deep.Upon
import Derived.Test.YtdocjikpcbmcgaaGreatDoorQs20
namespace Go.Proofs.YtdocjikpcbmcgaaGreatDoor
open Go.RowKit
attribute [local go_sem ↓] Go.wp_at_zero Go.wp_at_succ
def Er (w : World) (b : Nat) (e : Int) : Prop := w.heap[b]? = some (.cells #[.int .i64 e] 31 (0, 0))
theorem Er.cell {w : World} {b : Nat} {e : Int} (h : Er w b e) : w.cell? ⟨b, 0, none⟩ = some (.int .i64 e) := by rw [cell_of_row w b 0 _ _ (0, 0) h]; rfl
theorem Er.fz {w : World} {b : Nat} {e : Int} (h : Er w b e) : w.frozen? ⟨b, 0, none⟩ = false := frozen_of_row w b 0 _ _ h
theorem Er.same {w W : World} {b : Nat} {e : Int} (h : Er w b e) (hb : W.heap[b]? = w.heap[b]?) : Er W b e := hb.trans h
theorem Er.set {w : World} {b : Nat} {e : Int} (h : Er w b e) (e' : Int) : Er (w.setCell ⟨b, 0, none⟩ (.int .i64 e')) b e' := heap_setCell_same w b 0 _ _ (.int .i64 e') h
set_option maxRecDepth 100000 in
theorem catch_panicking (a b : Nat) (u : TypeId) (pv : Value) (older : List PanicEntry) (w : World) {x0 x1 x2 x3 x4 x5 : Value} {e : Int} (h6 : Six w a x0 x1 x2 x3 x4 x5) (he : Er w b e) (hne : a ≠ b) :
    CallsD Tryz.prog 57 #[.pointer (some ⟨a, 0, none⟩), .pointer (some ⟨b, 0, none⟩)] (.panicking ({ v := .iface u pv, recovered := false } :: older)) w fun e u' w' =>
      e = .returned (.tuple #[]) ∧ u' = .panicking ({ v := .iface u pv, recovered := true } :: older) ∧ w' = (put6 w a (.int .i64 0) (.int .i64 0) (.int .u64 0) (.int .u64 0) (.slice none 0 0) (.slice none 0 0)).setCell ⟨b, 0, none⟩ (.int .i64 140) := by
  obtain ⟨c0, c1, c2, c3, c4, c5⟩ := h6.cells
  have f0 := h6.fz
  have g0 := he.cell
  have g1 := he.fz
  have hne' : ¬ b = a := fun h => hne h.symm
  refine callsD_of_wpS Tryz.func57 rfl fun c₀ cs hu => ?_
  apply wpS_seq
  apply wpS_region
  simp [wpOpsS, go_sem, recoverD, hu, Tryz.ntmps57, Exit.thenS]
  refine wpS_cond (t := true) (by simp [Act.eval, Array.replicate]) ?_
  simp only [if_true]
  refine wpS_of_wp ?_
  have ht : (#[Value.pointer (some ⟨a, 0, none⟩), Value.pointer (some ⟨b, 0, none⟩)] ++ ((Array.replicate 3 undef).setIfInBounds 0 (Value.iface u pv)).setIfInBounds 1 (Value.bool true) : Array Value) = #[Value.pointer (some ⟨a, 0, none⟩), Value.pointer (some ⟨b, 0, none⟩), Value.iface u pv, Value.bool true, undef] := rfl
  rw [ht]
  have k6 := h6.put (.int .i64 0) (.int .i64 0) (.int .u64 0) (.int .u64 0) (.slice none 0 0) (.slice none 0 0)
  have kc := put6_ch w a (.int .i64 0) (.int .i64 0) (.int .u64 0) (.int .u64 0) (.slice none 0 0) (.slice none 0 0)
  have ke := he.same (kc.block b (by show ¬ _ = _; exact hne'))
  have k0 := ke.cell
  have k1 := ke.fz
  unfold put6 at k0 k1 ⊢
  clear k6 kc ke h6 he
  go_wp2
  simp [bodyPostS, results, Tryz.results57]
theorem catch_idle (a b : Nat) (w : World) :
    CallsD Tryz.prog 57 #[.pointer (some ⟨a, 0, none⟩), .pointer (some ⟨b, 0, none⟩)] .returning w fun e u' w' => e = .returned (.tuple #[]) ∧ u' = .returning ∧ w' = w := by
  refine callsD_of_wpS Tryz.func57 rfl fun c₀ cs hu => ?_
  apply wpS_seq
  apply wpS_region
  simp [wpOpsS, go_sem, recoverD, hu, Tryz.ntmps57, Exit.thenS]
  refine wpS_cond (t := false) (by simp [Act.eval, Array.replicate]) ?_
  simp only [Bool.false_eq_true, if_false]
  refine wpS_of_wp (wp_skip ?_)
  cases c₀
  simp_all [bodyPostS, results, Tryz.results57]
def DecQ (w : World) (s : ByteArray) (e : Ending) (w' : World) : Prop :=
  (∃ P sv dv, dec s.data.toList = some P ∧ e = .returned (.tuple #[pv6 P.kd P.k P.old P.size sv dv, .int .i64 0]) ∧ Cv.Own w' w.heap.size sv P.S ∧ OwnS w' w.heap.size dv P.D ∧ Below w.heap.size w w') ∨
    (dec s.data.toList = none ∧ e = .returned (.tuple #[noP, .int .i64 140]) ∧ Below w.heap.size w w')
structure D2 (w W : World) : Prop where
  six : Six W w.heap.size (.int .i64 0) (.int .i64 0) (.int .u64 0) (.int .u64 0) (.slice none 0 0) (.slice none 0 0)
  er : Er W (w.heap.size + 1) 0
  below : Below w.heap.size w W
theorem D2.next {w W W' : World} (h : D2 w W) (hb : ∀ b, b < w.heap.size + 2 → W'.heap[b]? = W.heap[b]?) (hw : Below w.heap.size w W') : D2 w W' :=
  ⟨h.six.same (hb _ (by omega)), h.er.same (hb _ (by omega)), hw⟩
theorem d2_new (w : World) (o1 o2 : Obj) (h1 : o1 = .cells #[.int .i64 0, .int .i64 0, .int .u64 0, .int .u64 0, .slice none 0 0, .slice none 0 0] 55) (h2 : o2 = .cells #[.int .i64 0] 31) : D2 w ((w.alloc o1).alloc o2) := by
  subst h1 h2
  refine ⟨(six_new w _ _ _ _ _ _).next (bal (Below.refl _ _) _), ?_, bal (bal (Below.refl _ _) _) _⟩
  have := heap_alloc_new (w.alloc (.cells #[.int .i64 0, .int .i64 0, .int .u64 0, .int .u64 0, .slice none 0 0, .slice none 0 0] 55)) (.cells #[.int .i64 0] 31)
  rw [World.size_alloc] at this
  exact this
set_option maxRecDepth 100000 in
set_option maxHeartbeats 1000000 in
theorem decode_any (w : World) (s : ByteArray) (hs : s.size ≤ 281474976710656) :
    Calls Tryz.prog 25 #[.string s] w (DecQ w s) := by
  have hmf : ∀ (fn : Go.Fn) (first cap : Array Value) (w : World), (Instr.makeFunc fn first cap).run Tryz.prog w = .ok (.func fn first cap) w := fun _ _ _ _ => rfl
  have K0 := d2_new w _ _ rfl rfl
  obtain ⟨W0, hW0⟩ : ∃ W0, (w.alloc (.cells #[.int .i64 0, .int .i64 0, .int .u64 0, .int .u64 0, .slice none 0 0, .slice none 0 0] 55)).alloc (.cells #[.int .i64 0] 31) = W0 := ⟨_, rfl⟩
  have hz0 : W0.heap.size = w.heap.size + 2 := by rw [← hW0]; simp
  rw [hW0] at K0
  have HW := new_anyC W0 s
  have HP := proof_any (W0.alloc (.cells #[.string s, .int .i64 0] 150)) W0.heap.size s (rdr_new W0 s _) hs
  have hsz1 : (W0.alloc (.cells #[.string s, .int .i64 0] 150)).heap.size = W0.heap.size + 1 := World.size_alloc _ _
  have hbr := bal (Below.refl W0.heap.size W0) (.cells #[.string s, .int .i64 0] 150)
  have HK : Hid (∀ w2, Ch W0.heap.size (W0.alloc (.cells #[.string s, .int .i64 0] 150)) w2 → D2 w w2) := fun w2 hc => K0.next (fun b hb => (hc.block b (by omega) (by omega)).trans (hbr.block b (by omega))) ((K0.below.trans (hbr.mono (by omega))).trans (hc.below.mono (by omega)))
  have HZ : Hid (w.heap.size ≤ (W0.alloc (.cells #[.string s, .int .i64 0] 150)).heap.size) := (by rw [hsz1]; omega : w.heap.size ≤ (W0.alloc (.cells #[.string s, .int .i64 0] 150)).heap.size)
  clear K0 hz0 hs hbr hsz1
  obtain ⟨W1, hW1⟩ : ∃ W1, W0.alloc (.cells #[.string s, .int .i64 0] 150) = W1 := ⟨_, rfl⟩
  rw [hW1] at HW HP HK HZ
  clear hW1
  obtain ⟨q, hq⟩ : ∃ q, W0.heap.size = q := ⟨_, rfl⟩
  rw [hq] at HW HP HK
  clear hq
  cases hd : dec s.data.toList with
  | none =>
    have HP' : Calls Tryz.prog 58 #[.pointer (some ⟨q, 0, none⟩)] W1 fun e w' => (∃ u v, e = .panicked [{ v := .iface u v, recovered := false }]) ∧ Ch q W1 w' := HP.mono fun e w' h => by
      rcases h with ⟨P, _, _, h, _⟩ | ⟨_, h1, h2⟩
      · rw [hd] at h; cases h
      · exact ⟨h1, h2⟩
    clear HP
    go_enter_defers Tryz.func25, Tryz.ntmps25
    go_upto_region 2 with (fail)
    try rw [hW0]
    clear hW0
    go_wp2_with (first
      | (go_at_call 59; with_reducible refine HW.mono ?_; rintro x w1 ⟨rfl, rfl⟩)
      | (go_at_call 58; with_reducible refine HP'.mono ?_; rintro x w2 ⟨⟨u, v, rfl⟩, hc⟩))
    refine leaves_cons (f := 57) (args := #[.pointer (some ⟨w.heap.size, 0, none⟩), .pointer (some ⟨w.heap.size + 1, 0, none⟩)]) (by simp) (by simp [go_sem]) ?_
    have K := HK.out _ hc
    refine (catch_panicking _ _ u v [] _ K.six K.er (by omega)).mono ?_
    rintro e u' w'' ⟨rfl, rfl, rfl⟩
    have h6 := K.six.put (.int .i64 0) (.int .i64 0) (.int .u64 0) (.int .u64 0) (.slice none 0 0) (.slice none 0 0)
    have kc := put6_ch w2 w.heap.size (.int .i64 0) (.int .i64 0) (.int .u64 0) (.int .u64 0) (.slice none 0 0) (.slice none 0 0)
    have ke := (K.er.same (kc.block _ (by show ¬ _ = _; omega))).set 140
    have hb1 : Below w.heap.size w (put6 w2 w.heap.size (.int .i64 0) (.int .i64 0) (.int .u64 0) (.int .u64 0) (.slice none 0 0) (.slice none 0 0)) := K.below.trans (kc.below (by rintro b rfl; exact Nat.le_refl _))
    have hb2 := hb1.setCell (p := ⟨w.heap.size + 1, 0, none⟩) (by show w.heap.size ≤ w.heap.size + 1; omega) (.int .i64 140)
    have h6' := h6.same (W := (put6 w2 w.heap.size (.int .i64 0) (.int .i64 0) (.int .u64 0) (.int .u64 0) (.slice none 0 0) (.slice none 0 0)).setCell ⟨w.heap.size + 1, 0, none⟩ (.int .i64 140)) (Below.heap_setCell _ _ _ _ (by show w.heap.size ≠ w.heap.size + 1; omega))
    obtain ⟨s0, s1, s2, s3, s4, s5⟩ := h6'.cells
    have t0 := ke.cell
    have HF : Hid (DecQ w s (.returned (.tuple #[noP, .int .i64 140])) ((put6 w2 w.heap.size (.int .i64 0) (.int .i64 0) (.int .u64 0) (.int .u64 0) (.slice none 0 0) (.slice none 0 0)).setCell ⟨w.heap.size + 1, 0, none⟩ (.int .i64 140))) := .inr ⟨hd, rfl, hb2⟩
    generalize (put6 w2 w.heap.size (.int .i64 0) (.int .i64 0) (.int .u64 0) (.int .u64 0) (.slice none 0 0) (.slice none 0 0)).setCell ⟨w.heap.size + 1, 0, none⟩ (.int .i64 140) = F at *
    simp [Leaves, settle, results, Tryz.results25, go_sem, s0, s1, s2, s3, s4, s5, t0]
    exact HF.out
  | some P =>
    have HP' : Calls Tryz.prog 58 #[.pointer (some ⟨q, 0, none⟩)] W1 fun e w' => ∃ sv dv, e = .returned (pv6 P.kd P.k P.old P.size sv dv) ∧ Cv.Own w' W1.heap.size sv P.S ∧ OwnS w' W1.heap.size dv P.D ∧ Ch q W1 w' := HP.mono fun e w' h => by
      rcases h with ⟨P', sv, dv, h, h2⟩ | ⟨h, _⟩
      · rw [hd] at h; cases h; exact ⟨sv, dv, h2⟩
      · rw [hd] at h; cases h
    clear HP
    obtain ⟨kd, k, old, size, S, D⟩ := P
    simp only at HP'
    have HD := hideC hd
    clear hd
    go_enter_defers Tryz.func25, Tryz.ntmps25
    go_upto_region 2 with (fail)
    try rw [hW0]
    clear hW0
    go_wp2_with (first
      | (go_at_call 59; with_reducible refine HW.mono ?_; rintro x w1 ⟨rfl, rfl⟩)
      | (go_at_call 58; (with_reducible refine HP'.mono ?_); rintro x w2 ⟨sv, dv, rfl, o1, o2, hc⟩; (obtain ⟨ao, m, c, rfl⟩ := Cv.own_slice o1); (obtain ⟨ao2, m2, c2, rfl⟩ := Cv.own_slice o2); (have K := HK.out _ hc); (obtain ⟨e0, e1, e2, e3, e4, e5⟩ := K.six.cells); (have f0 := K.six.fz); (have kc := put6_ch w2 w.heap.size (.int .i64 kd) (.int .i64 k) (.int .u64 (old : Int)) (.int .u64 (size : Int)) (.slice ao m c) (.slice ao2 m2 c2)); (have ke := K.er.same (kc.block _ (by show ¬ _ = _; omega))); (have k0 := ke.cell); (have k1 := ke.fz); (unfold put6 at k0 k1); (have HH : Hid (Cv.Own w2 w1.heap.size (.slice ao m c) S ∧ OwnS w2 w1.heap.size (.slice ao2 m2 c2) D ∧ D2 w w2) := ⟨o1, o2, K⟩); clear o1 o2 hc K kc ke))
    refine leaves_cons (f := 57) (args := #[.pointer (some ⟨w.heap.size, 0, none⟩), .pointer (some ⟨w.heap.size + 1, 0, none⟩)]) (by simp) (by simp [go_sem]) ?_
    refine (catch_idle _ _ _).mono ?_
    rintro e u' w'' ⟨rfl, rfl, rfl⟩
    obtain ⟨o1, o2, K⟩ := HH.out
    have h6 := K.six.put (.int .i64 kd) (.int .i64 k) (.int .u64 (old : Int)) (.int .u64 (size : Int)) (.slice ao m c) (.slice ao2 m2 c2)
    have kc := put6_ch w2 w.heap.size (.int .i64 kd) (.int .i64 k) (.int .u64 (old : Int)) (.int .u64 (size : Int)) (.slice ao m c) (.slice ao2 m2 c2)
    have ke' := K.er.same (kc.block _ (by show ¬ _ = _; omega))
    have ke := ke'.set 0
    have hb1 : Below w.heap.size w (put6 w2 w.heap.size (.int .i64 kd) (.int .i64 k) (.int .u64 (old : Int)) (.int .u64 (size : Int)) (.slice ao m c) (.slice ao2 m2 c2)) := K.below.trans (kc.below (by rintro b rfl; exact Nat.le_refl _))
    have hb2 := hb1.setCell (p := ⟨w.heap.size + 1, 0, none⟩) (by show w.heap.size ≤ w.heap.size + 1; omega) (.int .i64 0)
    have h6' := h6.same (W := (put6 w2 w.heap.size (.int .i64 kd) (.int .i64 k) (.int .u64 (old : Int)) (.int .u64 (size : Int)) (.slice ao m c) (.slice ao2 m2 c2)).setCell ⟨w.heap.size + 1, 0, none⟩ (.int .i64 0)) (Below.heap_setCell _ _ _ _ (by show w.heap.size ≠ w.heap.size + 1; omega))
    have hne : ∀ {e n : Nat} {v : Value} {xs : List Value}, w2.ownsRow w1.heap.size e 1 v n xs → e ≠ 55 → e ≠ 31 → ((put6 w2 w.heap.size (.int .i64 kd) (.int .i64 k) (.int .u64 (old : Int)) (.int .u64 (size : Int)) (.slice ao m c) (.slice ao2 m2 c2)).setCell ⟨w.heap.size + 1, 0, none⟩ (.int .i64 0)).ownsRow w.heap.size e 1 v n xs := fun {e n v xs} ho h1 h2 => by
      refine keep_row (ho.mono HZ.out) fun g hg _ => ?_
      have n1 := own_ne6 ho K.six h1 g hg
      have n2 : g ≠ w.heap.size + 1 := by
        rintro rfl
        rcases ho.2 with ⟨rfl, _⟩ | ⟨g', cap, cur, rfl, _, hh, _⟩
        · cases hg
        · cases hg
          have := K.er
          rw [Er, hh] at this
          injection this with this
          injection this with _ e2 _
          exact h2 e2
      rw [Below.heap_setCell _ _ _ _ (by show g ≠ w.heap.size + 1; exact n2)]
      exact kc.block g n1
    obtain ⟨s0, s1, s2, s3, s4, s5⟩ := h6'.cells
    have t0 := ke.cell
    have HF : Hid (DecQ w s (.returned (.tuple #[pv6 kd k old size (.slice ao m c) (.slice ao2 m2 c2), .int .i64 0])) ((put6 w2 w.heap.size (.int .i64 kd) (.int .i64 k) (.int .u64 (old : Int)) (.int .u64 (size : Int)) (.slice ao m c) (.slice ao2 m2 c2)).setCell ⟨w.heap.size + 1, 0, none⟩ (.int .i64 0))) := .inl ⟨_, _, _, HD.out, rfl, hne o1 (by decide) (by decide), hne o2 (by decide) (by decide), hb2⟩
    unfold put6 at HF s0 s1 s2 s3 s4 s5 t0
    simp [Leaves, settle, results, Tryz.results25, go_sem, s0, s1, s2, s3, s4, s5, t0]
    exact HF.out
end Go.Proofs.YtdocjikpcbmcgaaGreatDoor
namespace Go.Proofs.YtdocjikpcbmcgaaGreatDoor
open Go.RowKit
attribute [local go_sem ↓] Go.wp_at_zero Go.wp_at_succ
structure RdPC (w : World) (sa : Option Addr) (sb so sc : Nat) (da : Option Addr) (db dO dc : Nat) (P : PV) : Prop where
  rs : RdU w sa sb so P.S.length P.S
  rd : RdS w da db dO P.D.length P.D
  old64 : P.old < 18446744073709551616
  sz64 : P.size < 18446744073709551616
  mS : P.S.length ≤ 17592186044416
  mD : P.D.length ≤ 8796093022208
  cD : P.D.length ≤ dc
theorem RdPC.next {w w' : World} {sa : Option Addr} {sb so sc : Nat} {da : Option Addr} {db dO dc : Nat} {P : PV} (h : RdPC w sa sb so sc da db dO dc P) (hb : Below w.heap.size w w') : RdPC w' sa sb so sc da db dO dc P :=
  ⟨h.rs.next hb, h.rd.next hb (Nat.le_refl _), h.old64, h.sz64, h.mS, h.mD, h.cD⟩
section
variable (w : World) (sa : Option Addr) (sb so sc : Nat) (da : Option Addr) (db dO dc : Nat) (P : PV)
end
end Go.Proofs.YtdocjikpcbmcgaaGreatDoor
namespace Go.Proofs.YtdocjikpcbmcgaaGreatDoor
open Go.RowKit
attribute [local go_sem ↓] Go.wp_at_zero Go.wp_at_succ
theorem decode_none (w : World) (s : ByteArray) (hs : s.size ≤ 281474976710656) (h : dec s.data.toList = none) :
    Calls Tryz.prog 25 #[.string s] w fun e w' => e = .returned (.tuple #[noP, .int .i64 140]) ∧ Below w.heap.size w w' := by
  refine (decode_any w s hs).mono ?_
  rintro e w' (⟨P, _, _, h1, _⟩ | ⟨_, h2, h3⟩)
  · rw [h] at h1; cases h1
  · exact ⟨h2, h3⟩
end Go.Proofs.YtdocjikpcbmcgaaGreatDoor
namespace Go.Proofs.YtdocjikpcbmcgaaGreatDoor
open Go.RowKit
attribute [local go_sem ↓] Go.wp_at_zero Go.wp_at_succ
structure RdF (w : World) (sa : Option Addr) (sb sc : Nat) (da : Option Addr) (db dc : Nat) (P : PV) : Prop where
  p : RdPC w sa sb 0 sc da db 0 dc P
  cS : P.S.length ≤ sc
  nS : sa = none → sc = 0
  nD : da = none → dc = 0
  mC : dc ≤ 9223372036854775807
theorem RdF.next {w W : World} {sa : Option Addr} {sb sc : Nat} {da : Option Addr} {db dc : Nat} {P : PV} (h : RdF w sa sb sc da db dc P) (hb : Below w.heap.size w W) : RdF W sa sb sc da db dc P := ⟨h.p.next hb, h.cS, h.nS, h.nD, h.mC⟩
theorem own_cap {w : World} {B T s n c m : Nat} {ao : Option Addr} {xs : List Value} (h : w.ownsRow B T s (.slice ao n c) m xs) : n = m ∧ n ≤ c ∧ c ≤ 9223372036854775807 := by
  rcases h.2 with ⟨h1, h0⟩ | ⟨g, cap, cur, h1, hg, hh, hc1, hc2, _⟩
  · injection h1 with _ h2 h3
    subst h2 h3; exact ⟨h0.symm, Nat.le_refl _, Nat.zero_le _⟩
  · injection h1 with _ h2 h3
    subst h2 h3; exact ⟨rfl, hc1, hc2⟩
theorem own_rdf {w : World} {B : Nat} {sv dv : Value} {P : PV} (h : Well P) (o1 : Cv.Own w B sv P.S) (o2 : OwnS w B dv P.D) : ∃ sa sb sc da db dc, sv = .slice sa P.S.length sc ∧ dv = .slice da P.D.length dc ∧ RdF w sa sb sc da db dc P := by
  have ho := cnt_ok h.1
  have i1 := ho.hold
  have i2 := ho.hsz
  have i3 := ho.len
  have i4 := ho.hc
  have i5 := ho.k32
  obtain ⟨sa, sb, sc, rfl, r1, n1⟩ := own_read o1
  obtain ⟨da, db, dc, rfl, r2, r3, n2⟩ := owns_rds o2 (fun d hd => by have := h.2 d hd; omega)
  exact ⟨sa, sb, sc, da, db, dc, rfl, rfl, ⟨r1, r2, by omega, by omega, by omega, by omega, r3⟩, (own_cap o1).2.1, n1, n2, (own_cap o2).2.2⟩
theorem decode_full (w : World) (s : ByteArray) (hs : s.size ≤ 281474976710656) (P : PV) (h : dec s.data.toList = some P) :
    Calls Tryz.prog 25 #[.string s] w fun e w' => ∃ sa sb sc da db dc, e = .returned (.tuple #[.agg #[.int .i64 P.kd, .int .i64 P.k, .int .u64 (P.old : Int), .int .u64 (P.size : Int), .slice sa P.S.length sc, .slice da P.D.length dc], .int .i64 0]) ∧ RdF w' sa sb sc da db dc P ∧ (Cv.Own w' w.heap.size (.slice sa P.S.length sc) P.S ∧ OwnS w' w.heap.size (.slice da P.D.length dc) P.D) ∧ Below w.heap.size w w' := by
  refine (decode_any w s hs).mono ?_
  rintro e w' (⟨P', sv, dv, h1, rfl, h3, h4, h5⟩ | ⟨h1, _⟩)
  · rw [h] at h1; cases h1
    obtain ⟨sa, sb, sc, da, db, dc, rfl, rfl, r⟩ := own_rdf (enc_dec h).1 h3 h4
    exact ⟨sa, sb, sc, da, db, dc, rfl, r, ⟨h3, h4⟩, h5⟩
  · rw [h] at h1; cases h1
def tkE (k : Int) (s : ByteArray) : Int := if k < 1 ∨ 32 < k then 70 else match dec s.data.toList with | none => 140 | some P => if P.k = k then 0 else 150
theorem tkE_cases {k e0 : Int} {s : ByteArray} (h : tkE k s = e0) (h0 : e0 ≠ 0) : (chk k = 70 ∧ e0 = 70) ∨ (chk k = 0 ∧ dec s.data.toList = none ∧ e0 = 140) ∨ (chk k = 0 ∧ ∃ P, dec s.data.toList = some P ∧ P.k ≠ k ∧ e0 = 150) := by
  unfold tkE at h
  by_cases hk : k < 1 ∨ 32 < k
  · rw [if_pos hk] at h; exact .inl ⟨by rw [chk, if_pos hk], h.symm⟩
  · rw [if_neg hk] at h
    have hc : chk k = 0 := by rw [chk, if_neg hk]
    cases hd : dec s.data.toList with
    | none => rw [hd] at h; exact .inr (.inl ⟨hc, rfl, h.symm⟩)
    | some P =>
      rw [hd] at h
      by_cases hp : P.k = k
      · simp only [if_pos hp] at h; exact absurd h.symm h0
      · simp only [if_neg hp] at h; exact .inr (.inr ⟨hc, P, rfl, hp, h.symm⟩)
theorem tkE_zero {k : Int} {s : ByteArray} (h : tkE k s = 0) : (1 ≤ k ∧ k ≤ 32) ∧ ∃ P, dec s.data.toList = some P ∧ P.k = k := by
  unfold tkE at h
  by_cases hk : k < 1 ∨ 32 < k
  · rw [if_pos hk] at h; cases h
  · rw [if_neg hk] at h
    cases hd : dec s.data.toList with
    | none => rw [hd] at h; cases h
    | some P =>
      rw [hd] at h
      by_cases hp : P.k = k
      · exact ⟨by omega, P, rfl, hp⟩
      · simp only [if_neg hp] at h; cases h
set_option maxRecDepth 100000 in
set_option maxHeartbeats 1000000 in
theorem taken_no (w : World) (k : Int) (s : ByteArray) (hs : s.size ≤ 281474976710656) (e0 : Int) (he : tkE k s = e0) (h0 : e0 ≠ 0) :
    Calls Tryz.prog 27 #[.int .i64 k, .string s] w fun e w' => e = .returned (.tuple #[noP, .int .i64 e0]) ∧ Below w.heap.size w w' := by
  obtain ⟨W0, hW0, h6, hb0, _⟩ := box6 w (.int .i64 0) (.int .i64 0) (.int .u64 0) (.int .u64 0) (.slice none 0 0) (.slice none 0 0)
  have HX : Hid (∀ F, Below W0.heap.size W0 F → Six F w.heap.size (.int .i64 0) (.int .i64 0) (.int .u64 0) (.int .u64 0) (.slice none 0 0) (.slice none 0 0) ∧ Below w.heap.size w F) := fun F hF => ⟨h6.next hF, bnext hb0 hF⟩
  clear h6 hb0
  rcases tkE_cases he h0 with ⟨hc, rfl⟩ | ⟨hc, hd, rfl⟩ | ⟨hc, P, hd, hp, rfl⟩
  · have HC : Hid (∀ W, Calls Tryz.prog 61 #[.int .i64 k] W fun e w' => e = .returned (.int .i64 70) ∧ w' = W) := fun W => by rw [← hc]; exact check_any W k
    clear hc he h0 hs
    obtain ⟨x6, xb⟩ := HX.out _ (Below.refl _ _)
    obtain ⟨c0, c1, c2, c3, c4, c5⟩ := x6.cells
    have fz := x6.fz
    have hp := x6.put (.int .i64 0) (.int .i64 0) (.int .u64 0) (.int .u64 0) (.slice none 0 0) (.slice none 0 0)
    have hc := put6_ch W0 w.heap.size (.int .i64 0) (.int .i64 0) (.int .u64 0) (.int .u64 0) (.slice none 0 0) (.slice none 0 0)
    unfold put6 at hp hc
    have HB := hide (And.intro hp (And.intro hc xb))
    clear hp hc xb x6
    go_enter Tryz.func27, Tryz.ntmps27
    go_upto_region 1 with (fail)
    try rw [hW0]
    clear hW0
    go_upto_region 3 with (go_at_call 61; with_reducible refine (HC.out _).mono ?_; rintro e w1 ⟨rfl, rfl⟩)
    repeat go_step
    obtain ⟨hp, hc, xb⟩ := HB.out
    obtain ⟨s0, s1, s2, s3, s4, s5⟩ := hp.cells
    refine bodyPost_ret (v := .tuple #[noP, .int .i64 70]) (by simp [results, Tryz.results27, go_sem, s0, s1, s2, s3, s4, s5]) rfl ⟨rfl, xb.trans (hc.below (by rintro b rfl; omega))⟩
  · have HC : Hid (∀ W, Calls Tryz.prog 61 #[.int .i64 k] W fun e w' => e = .returned (.int .i64 0) ∧ w' = W) := fun W => by rw [← hc]; exact check_any W k
    have HD : Hid (∀ W, Calls Tryz.prog 25 #[.string s] W fun e w' => e = .returned (.tuple #[noP, .int .i64 140]) ∧ Below W.heap.size W w') := fun W => decode_none W s hs hd
    clear hc he h0 hs hd
    go_enter Tryz.func27, Tryz.ntmps27
    go_upto_region 1 with (fail)
    try rw [hW0]
    clear hW0
    go_upto_region 5 with (first
      | (go_at_call 61; with_reducible refine (HC.out _).mono ?_; rintro e w1 ⟨rfl, rfl⟩)
      | (go_at_call 25; with_reducible refine (HD.out _).mono ?_; rintro e w2 ⟨rfl, hb2⟩))
    obtain ⟨F, hF, h7, hb3, _⟩ := box6 w2 (.int .i64 0) (.int .i64 0) (.int .u64 0) (.int .u64 0) (.slice none 0 0) (.slice none 0 0)
    try rw [hF]
    clear hF h7
    obtain ⟨x6, xb⟩ := HX.out _ (bnext hb2 hb3)
    obtain ⟨c0, c1, c2, c3, c4, c5⟩ := x6.cells
    have fz := x6.fz
    have hp := x6.put (.int .i64 0) (.int .i64 0) (.int .u64 0) (.int .u64 0) (.slice none 0 0) (.slice none 0 0)
    have hc := put6_ch F w.heap.size (.int .i64 0) (.int .i64 0) (.int .u64 0) (.int .u64 0) (.slice none 0 0) (.slice none 0 0)
    unfold put6 at hp hc
    have HB := hide (And.intro hp (And.intro hc xb))
    clear hp hc xb x6 hb2 hb3
    repeat go_step
    obtain ⟨hp, hc, xb⟩ := HB.out
    obtain ⟨s0, s1, s2, s3, s4, s5⟩ := hp.cells
    refine bodyPost_ret (v := .tuple #[noP, .int .i64 140]) (by simp [results, Tryz.results27, go_sem, s0, s1, s2, s3, s4, s5]) rfl ⟨rfl, xb.trans (hc.below (by rintro b rfl; omega))⟩
  · have HC : Hid (∀ W, Calls Tryz.prog 61 #[.int .i64 k] W fun e w' => e = .returned (.int .i64 0) ∧ w' = W) := fun W => by rw [← hc]; exact check_any W k
    have HD : Hid (∀ W, Calls Tryz.prog 25 #[.string s] W fun e w' => ∃ (kd kk : Int) (old size : Nat) (sa : Option Addr) (ns sc : Nat) (da : Option Addr) (nd' dc : Nat), (kk == k) = false ∧ ¬ kk = k ∧ e = .returned (.tuple #[.agg #[.int .i64 kd, .int .i64 kk, .int .u64 (old : Int), .int .u64 (size : Int), .slice sa ns sc, .slice da nd' dc], .int .i64 0]) ∧ Below W.heap.size W w') := fun W => (decode_full W s hs P hd).mono fun e w' ⟨sa, sb, sc, da, db, dc, h1, _, _, h3⟩ => ⟨P.kd, P.k, P.old, P.size, sa, P.S.length, sc, da, P.D.length, dc, by simpa using hp, hp, h1, h3⟩
    clear hc he h0 hs hd hp
    go_enter Tryz.func27, Tryz.ntmps27
    go_upto_region 1 with (fail)
    try rw [hW0]
    clear hW0
    go_upto_region 5 with (first
      | (go_at_call 61; with_reducible refine (HC.out _).mono ?_; rintro e w1 ⟨rfl, rfl⟩)
      | (go_at_call 25; with_reducible refine (HD.out _).mono ?_; rintro e w2 ⟨kd, kk, old, size, sa, ns, sc, da, nd', dc, hkb, hkn, rfl, hb2⟩))
    obtain ⟨F, hF, h7, hb3, _⟩ := box6 w2 (.int .i64 kd) (.int .i64 kk) (.int .u64 (old : Int)) (.int .u64 (size : Int)) (.slice sa ns sc) (.slice da nd' dc)
    try rw [hF]
    clear hF
    have m1 := h7.cells.2.1
    obtain ⟨x6, xb⟩ := HX.out _ (bnext hb2 hb3)
    obtain ⟨c0, c1, c2, c3, c4, c5⟩ := x6.cells
    have fz := x6.fz
    have hp := x6.put (.int .i64 0) (.int .i64 0) (.int .u64 0) (.int .u64 0) (.slice none 0 0) (.slice none 0 0)
    have hc := put6_ch F w.heap.size (.int .i64 0) (.int .i64 0) (.int .u64 0) (.int .u64 0) (.slice none 0 0) (.slice none 0 0)
    unfold put6 at hp hc
    have HB := hide (And.intro hp (And.intro hc xb))
    clear hp hc xb x6 hb2 hb3 h7
    repeat go_step
    obtain ⟨hp, hc, xb⟩ := HB.out
    obtain ⟨s0, s1, s2, s3, s4, s5⟩ := hp.cells
    refine bodyPost_ret (v := .tuple #[noP, .int .i64 150]) (by simp [results, Tryz.results27, go_sem, s0, s1, s2, s3, s4, s5]) rfl ⟨rfl, xb.trans (hc.below (by rintro b rfl; omega))⟩
set_option maxRecDepth 100000 in
set_option maxHeartbeats 1000000 in
theorem taken_ok (w : World) (k : Int) (k1 : 1 ≤ k) (k2 : k ≤ 32) (s : ByteArray) (hs : s.size ≤ 281474976710656) (P : PV) (hd : dec s.data.toList = some P) (hk : P.k = k) :
    Calls Tryz.prog 27 #[.int .i64 k, .string s] w fun e w' => ∃ sa sb sc da db dc, e = .returned (.tuple #[.agg #[.int .i64 P.kd, .int .i64 k, .int .u64 (P.old : Int), .int .u64 (P.size : Int), .slice sa P.S.length sc, .slice da P.D.length dc], .int .i64 0]) ∧ RdF w' sa sb sc da db dc P ∧ Below w.heap.size w w' := by
  have hw := (enc_dec hd).1
  obtain ⟨kd, kk, old, size, S, D⟩ := P
  simp only at hk
  subst hk
  obtain ⟨W0, hW0, h6, hb0, _⟩ := box6 w (.int .i64 0) (.int .i64 0) (.int .u64 0) (.int .u64 0) (.slice none 0 0) (.slice none 0 0)
  have HX : Hid (∀ F, Below W0.heap.size W0 F → Six F w.heap.size (.int .i64 0) (.int .i64 0) (.int .u64 0) (.int .u64 0) (.slice none 0 0) (.slice none 0 0) ∧ Below w.heap.size w F) := fun F hF => ⟨h6.next hF, bnext hb0 hF⟩
  have HZ : Hid (w.heap.size < W0.heap.size) := h6.lt
  have HC : Hid (∀ W, Calls Tryz.prog 61 #[.int .i64 kk] W fun e w' => e = .returned (.int .i64 0) ∧ w' = W) := fun W => by
    have hc : chk kk = 0 := by rw [chk, if_neg (by omega)]
    rw [← hc]; exact check_any W kk
  have HD : Hid (∀ W, Calls Tryz.prog 25 #[.string s] W fun e w' => ∃ sa sc da dc, e = .returned (.tuple #[.agg #[.int .i64 kd, .int .i64 kk, .int .u64 (old : Int), .int .u64 (size : Int), .slice sa S.length sc, .slice da D.length dc], .int .i64 0]) ∧ Hid (Cv.Own w' W.heap.size (.slice sa S.length sc) S ∧ OwnS w' W.heap.size (.slice da D.length dc) D) ∧ Below W.heap.size W w') := fun W => (decode_full W s hs _ hd).mono fun e w' ⟨sa, sb, sc, da, db, dc, h1, _, h2, h3⟩ => ⟨sa, sc, da, dc, h1, h2, h3⟩
  have HW := hide hw
  clear h6 hb0 hs hd k1 k2 hw
  go_enter Tryz.func27, Tryz.ntmps27
  go_upto_region 1 with (fail)
  try rw [hW0]
  clear hW0
  go_upto_region 5 with (first
    | (go_at_call 61; with_reducible refine (HC.out _).mono ?_; rintro e w1 ⟨rfl, rfl⟩)
    | (go_at_call 25; with_reducible refine (HD.out _).mono ?_; rintro e w2 ⟨sa, sc, da, dc, rfl, HO, hb2⟩))
  obtain ⟨F, hF, h7, hb3, _⟩ := box6 w2 (.int .i64 kd) (.int .i64 kk) (.int .u64 (old : Int)) (.int .u64 (size : Int)) (.slice sa S.length sc) (.slice da D.length dc)
  try rw [hF]
  clear hF
  obtain ⟨m0, m1, m2, m3, m4, m5⟩ := h7.cells
  obtain ⟨x6, xb⟩ := HX.out _ (bnext hb2 hb3)
  obtain ⟨c0, c1, c2, c3, c4, c5⟩ := x6.cells
  have fz := x6.fz
  have hp := x6.put (.int .i64 kd) (.int .i64 kk) (.int .u64 (old : Int)) (.int .u64 (size : Int)) (.slice sa S.length sc) (.slice da D.length dc)
  have hc := put6_ch F w.heap.size (.int .i64 kd) (.int .i64 kk) (.int .u64 (old : Int)) (.int .u64 (size : Int)) (.slice sa S.length sc) (.slice da D.length dc)
  have hr : ∃ sb db, RdF (put6 F w.heap.size (.int .i64 kd) (.int .i64 kk) (.int .u64 (old : Int)) (.int .u64 (size : Int)) (.slice sa S.length sc) (.slice da D.length dc)) sa sb sc da db dc ⟨kd, kk, old, size, S, D⟩ := by
    obtain ⟨o1, o2⟩ := HO.out
    have hz := HZ.out
    have z1 : Cv.Own (put6 F w.heap.size (.int .i64 kd) (.int .i64 kk) (.int .u64 (old : Int)) (.int .u64 (size : Int)) (.slice sa S.length sc) (.slice da D.length dc)) w1.heap.size (.slice sa S.length sc) S := keep_row (Cv.ownB_next o1 hb3) fun g _ hB => hc.block g (by show ¬ _ = _; omega)
    have z2 : OwnS (put6 F w.heap.size (.int .i64 kd) (.int .i64 kk) (.int .u64 (old : Int)) (.int .u64 (size : Int)) (.slice sa S.length sc) (.slice da D.length dc)) w1.heap.size (.slice da D.length dc) D := keep_row (own_next o2 hb3 (Nat.le_refl _)) fun g _ hB => hc.block g (by show ¬ _ = _; omega)
    obtain ⟨a1, b1, c1, a2, b2, c2, e1, e2, r⟩ := own_rdf HW.out z1 z2
    injection e1 with g1 _ g3
    injection e2 with g4 _ g6
    subst g1 g3 g4 g6
    exact ⟨b1, b2, r⟩
  unfold put6 at hp hc hr
  have HB := hide (And.intro hp (And.intro hc (And.intro xb hr)))
  clear hp hc xb x6 hb2 hb3 h7 hr HO
  repeat go_step
  obtain ⟨hp, hc, xb, sb, db, hr⟩ := HB.out
  obtain ⟨s0, s1, s2, s3, s4, s5⟩ := hp.cells
  refine bodyPost_ret (v := .tuple #[.agg #[.int .i64 kd, .int .i64 kk, .int .u64 (old : Int), .int .u64 (size : Int), .slice sa S.length sc, .slice da D.length dc], .int .i64 0]) (by simp [results, Tryz.results27, go_sem, s0, s1, s2, s3, s4, s5]) rfl ⟨sa, sb, sc, da, db, dc, rfl, hr, xb.trans (hc.below (by rintro b rfl; omega))⟩
end Go.Proofs.YtdocjikpcbmcgaaGreatDoor
