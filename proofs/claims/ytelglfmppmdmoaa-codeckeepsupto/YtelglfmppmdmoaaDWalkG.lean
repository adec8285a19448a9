/-
  Walks of package codec: Decode. Own work.
-/
import Derived.Test.YtelglfmppmdmoaaDWalkF
import Derived.Defers
import Derived.Recover
namespace Go.Proofs.Ytelglfmppmdmoaa
open Go.RowKit
attribute [local go_sem ↓] Go.wp_at_zero Go.wp_at_succ
/-- The one cell of an error. -/
def Er (w : World) (b : Nat) (e : Int) : Prop := w.heap[b]? = some (.cells #[.int .i64 e] 28 (0, 0))
theorem Er.cell {w : World} {b : Nat} {e : Int} (h : Er w b e) : w.cell? ⟨b, 0, none⟩ = some (.int .i64 e) := by rw [cell_of_row w b 0 _ _ (0, 0) h]; rfl
theorem Er.fz {w : World} {b : Nat} {e : Int} (h : Er w b e) : w.frozen? ⟨b, 0, none⟩ = false := frozen_of_row w b 0 _ _ h
theorem Er.lt {w : World} {b : Nat} {e : Int} (h : Er w b e) : b < w.heap.size := (Array.getElem?_eq_some_iff.1 h).1
theorem Er.same {w W : World} {b : Nat} {e : Int} (h : Er w b e) (hb : W.heap[b]? = w.heap[b]?) : Er W b e := hb.trans h
theorem Er.set {w : World} {b : Nat} {e : Int} (h : Er w b e) (e' : Int) : Er (w.setCell ⟨b, 0, none⟩ (.int .i64 e')) b e' := heap_setCell_same w b 0 _ _ (.int .i64 e') h
set_option maxRecDepth 100000 in
theorem catch_panicking (a b : Nat) (u : TypeId) (pv : Value) (older : List PanicEntry) (w : World) {x0 x1 x2 x3 x4 x5 : Value} {e : Int} (h6 : Six w a x0 x1 x2 x3 x4 x5) (he : Er w b e) (hne : a ≠ b) :
    CallsD Try.prog 25 #[.pointer (some ⟨a, 0, none⟩), .pointer (some ⟨b, 0, none⟩)] (.panicking ({ v := .iface u pv, recovered := false } :: older)) w fun e u' w' =>
      e = .returned (.tuple #[]) ∧ u' = .panicking ({ v := .iface u pv, recovered := true } :: older) ∧ w' = (put6 w a (.int .i64 0) (.int .i64 0) (.int .u64 0) (.int .u64 0) (.slice none 0 0) (.slice none 0 0)).setCell ⟨b, 0, none⟩ (.int .i64 140) := by
  obtain ⟨c0, c1, c2, c3, c4, c5⟩ := h6.cells
  have f0 := h6.fz
  have g0 := he.cell
  have g1 := he.fz
  have hne' : ¬ b = a := fun h => hne h.symm
  refine callsD_of_wpS Try.func25 rfl fun c₀ cs hu => ?_
  apply wpS_seq
  apply wpS_region
  simp [wpOpsS, go_sem, recoverD, hu, Try.ntmps25, Exit.thenS]
  refine wpS_cond (t := true) (by simp [Act.eval, Array.replicate]) ?_
  simp only [if_true]
  refine wpS_of_wp ?_
  have ht : (#[Value.pointer (some ⟨a, 0, none⟩), Value.pointer (some ⟨b, 0, none⟩)] ++ ((Array.replicate 3 undef).setIfInBounds 0 (Value.iface u pv)).setIfInBounds 1 (Value.bool true) : Array Value) = #[Value.pointer (some ⟨a, 0, none⟩), Value.pointer (some ⟨b, 0, none⟩), Value.iface u pv, Value.bool true, undef] := rfl
  rw [ht]
  have k6 := h6.put (.int .i64 0) (.int .i64 0) (.int .u64 0) (.int .u64 0) (.slice none 0 0) (.slice none 0 0)
  have kc := put6_ch w a (.int .i64 0) (.int .i64 0) (.int .u64 0) (.int .u64 0) (.slice none 0 0) (.slice none 0 0)
  have ke := he.same (kc.block b (by show ¬ _ = _; exact hne'))
  have k0 := ke.cell
  have k1 := ke.fz
  unfold put6 at k0 k1 ⊢
  clear k6 kc ke h6 he
  go_wp2
  simp [bodyPostS, results, Try.results25]
theorem catch_idle (a b : Nat) (w : World) :
    CallsD Try.prog 25 #[.pointer (some ⟨a, 0, none⟩), .pointer (some ⟨b, 0, none⟩)] .returning w fun e u' w' => e = .returned (.tuple #[]) ∧ u' = .returning ∧ w' = w := by
  refine callsD_of_wpS Try.func25 rfl fun c₀ cs hu => ?_
  apply wpS_seq
  apply wpS_region
  simp [wpOpsS, go_sem, recoverD, hu, Try.ntmps25, Exit.thenS]
  refine wpS_cond (t := false) (by simp [Act.eval, Array.replicate]) ?_
  simp only [Bool.false_eq_true, if_false]
  refine wpS_of_wp (wp_skip ?_)
  cases c₀
  simp_all [bodyPostS, results, Try.results25]
/-- What Decode answers. -/
def DecQ (w : World) (s : ByteArray) (e : Ending) (w' : World) : Prop :=
  (∃ P sv dv, dec s.data.toList = some P ∧ e = .returned (.tuple #[pv6 P.kd P.k P.old P.size sv dv, .int .i64 0]) ∧ Cv.Own w' w.heap.size sv P.S ∧ OwnS w' w.heap.size dv P.D ∧ Below w.heap.size w w') ∨
    (dec s.data.toList = none ∧ e = .returned (.tuple #[noP, .int .i64 140]) ∧ Below w.heap.size w w')
/-- Decode's two cells. -/
structure D2 (w W : World) : Prop where
  six : Six W w.heap.size (.int .i64 0) (.int .i64 0) (.int .u64 0) (.int .u64 0) (.slice none 0 0) (.slice none 0 0)
  er : Er W (w.heap.size + 1) 0
  below : Below w.heap.size w W
theorem D2.next {w W W' : World} (h : D2 w W) (hb : ∀ b, b < w.heap.size + 2 → W'.heap[b]? = W.heap[b]?) (hw : Below w.heap.size w W') : D2 w W' :=
  ⟨h.six.same (hb _ (by omega)), h.er.same (hb _ (by omega)), hw⟩
theorem d2_new (w : World) (o1 o2 : Obj) (h1 : o1 = .cells #[.int .i64 0, .int .i64 0, .int .u64 0, .int .u64 0, .slice none 0 0, .slice none 0 0] 26) (h2 : o2 = .cells #[.int .i64 0] 28) : D2 w ((w.alloc o1).alloc o2) := by
  subst h1 h2
  refine ⟨(six_new w _ _ _ _ _ _).next (bal (Below.refl _ _) _), ?_, bal (bal (Below.refl _ _) _) _⟩
  have := heap_alloc_new (w.alloc (.cells #[.int .i64 0, .int .i64 0, .int .u64 0, .int .u64 0, .slice none 0 0, .slice none 0 0] 26)) (.cells #[.int .i64 0] 28)
  rw [World.size_alloc] at this
  exact this
set_option maxRecDepth 100000 in
set_option maxHeartbeats 1000000 in
theorem decode_any (w : World) (s : ByteArray) (hs : s.size ≤ 281474976710656) :
    Calls Try.prog 10 #[.string s] w (DecQ w s) := by
  have hmf : ∀ (fn : Fn) (first cap : Array Value) (w : World), (Instr.makeFunc fn first cap).run Try.prog w = .ok (.func fn first cap) w := fun _ _ _ _ => rfl
  have K0 := d2_new w _ _ rfl rfl
  obtain ⟨W0, hW0⟩ : ∃ W0, (w.alloc (.cells #[.int .i64 0, .int .i64 0, .int .u64 0, .int .u64 0, .slice none 0 0, .slice none 0 0] 26)).alloc (.cells #[.int .i64 0] 28) = W0 := ⟨_, rfl⟩
  have hz0 : W0.heap.size = w.heap.size + 2 := by rw [← hW0]; simp
  rw [hW0] at K0
  have HW := new_any W0 s
  have HP := proof_any (W0.alloc (.cells #[.string s, .int .i64 0] 76)) W0.heap.size s (rdr_new W0 s _) hs
  have hsz1 : (W0.alloc (.cells #[.string s, .int .i64 0] 76)).heap.size = W0.heap.size + 1 := World.size_alloc _ _
  have hbr := bal (Below.refl W0.heap.size W0) (.cells #[.string s, .int .i64 0] 76)
  have HK : Hid (∀ w2, Ch W0.heap.size (W0.alloc (.cells #[.string s, .int .i64 0] 76)) w2 → D2 w w2) := fun w2 hc => K0.next (fun b hb => (hc.block b (by omega) (by omega)).trans (hbr.block b (by omega))) ((K0.below.trans (hbr.mono (by omega))).trans (hc.below.mono (by omega)))
  have HZ : Hid (w.heap.size ≤ (W0.alloc (.cells #[.string s, .int .i64 0] 76)).heap.size) := (by rw [hsz1]; omega : w.heap.size ≤ (W0.alloc (.cells #[.string s, .int .i64 0] 76)).heap.size)
  clear K0 hz0 hs hbr hsz1
  obtain ⟨W1, hW1⟩ : ∃ W1, W0.alloc (.cells #[.string s, .int .i64 0] 76) = W1 := ⟨_, rfl⟩
  rw [hW1] at HW HP HK HZ
  clear hW1
  obtain ⟨q, hq⟩ : ∃ q, W0.heap.size = q := ⟨_, rfl⟩
  rw [hq] at HW HP HK
  clear hq
  cases hd : dec s.data.toList with
  | none =>
    have HP' : Calls Try.prog 26 #[.pointer (some ⟨q, 0, none⟩)] W1 fun e w' => (∃ u v, e = .panicked [{ v := .iface u v, recovered := false }]) ∧ Ch q W1 w' := HP.mono fun e w' h => by
      rcases h with ⟨P, _, _, h, _⟩ | ⟨_, h1, h2⟩
      · rw [hd] at h; cases h
      · exact ⟨h1, h2⟩
    clear HP
    go_enter_defers Try.func10, Try.ntmps10
    go_upto_region 2 with (fail)
    try rw [hW0]
    clear hW0
    go_wp2_with (first
      | (go_at_call 27; with_reducible refine HW.mono ?_; rintro x w1 ⟨rfl, rfl⟩)
      | (go_at_call 26; with_reducible refine HP'.mono ?_; rintro x w2 ⟨⟨u, v, rfl⟩, hc⟩))
    refine leaves_cons (f := 25) (args := #[.pointer (some ⟨w.heap.size, 0, none⟩), .pointer (some ⟨w.heap.size + 1, 0, none⟩)]) (by simp) (by simp [go_sem]) ?_
    have K := HK.out _ hc
    refine (catch_panicking _ _ u v [] _ K.six K.er (by omega)).mono ?_
    rintro e u' w'' ⟨rfl, rfl, rfl⟩
    have h6 := K.six.put (.int .i64 0) (.int .i64 0) (.int .u64 0) (.int .u64 0) (.slice none 0 0) (.slice none 0 0)
    have kc := put6_ch w2 w.heap.size (.int .i64 0) (.int .i64 0) (.int .u64 0) (.int .u64 0) (.slice none 0 0) (.slice none 0 0)
    have ke := (K.er.same (kc.block _ (by show ¬ _ = _; omega))).set 140
    have hb1 : Below w.heap.size w (put6 w2 w.heap.size (.int .i64 0) (.int .i64 0) (.int .u64 0) (.int .u64 0) (.slice none 0 0) (.slice none 0 0)) := K.below.trans (kc.below (by rintro b rfl; exact Nat.le_refl _))
    have hb2 := hb1.setCell (p := ⟨w.heap.size + 1, 0, none⟩) (by show w.heap.size ≤ w.heap.size + 1; omega) (.int .i64 140)
    have h6' := h6.same (W := (put6 w2 w.heap.size (.int .i64 0) (.int .i64 0) (.int .u64 0) (.int .u64 0) (.slice none 0 0) (.slice none 0 0)).setCell ⟨w.heap.size + 1, 0, none⟩ (.int .i64 140)) (Below.heap_setCell _ _ _ _ (by show w.heap.size ≠ w.heap.size + 1; omega))
    obtain ⟨s0, s1, s2, s3, s4, s5⟩ := h6'.cells
    have t0 := ke.cell
    have HF : Hid (DecQ w s (.returned (.tuple #[noP, .int .i64 140])) ((put6 w2 w.heap.size (.int .i64 0) (.int .i64 0) (.int .u64 0) (.int .u64 0) (.slice none 0 0) (.slice none 0 0)).setCell ⟨w.heap.size + 1, 0, none⟩ (.int .i64 140))) := .inr ⟨hd, rfl, hb2⟩
    generalize (put6 w2 w.heap.size (.int .i64 0) (.int .i64 0) (.int .u64 0) (.int .u64 0) (.slice none 0 0) (.slice none 0 0)).setCell ⟨w.heap.size + 1, 0, none⟩ (.int .i64 140) = F at *
    simp [Leaves, settle, results, Try.results10, go_sem, s0, s1, s2, s3, s4, s5, t0]
    exact HF.out
  | some P =>
    have HP' : Calls Try.prog 26 #[.pointer (some ⟨q, 0, none⟩)] W1 fun e w' => ∃ sv dv, e = .returned (pv6 P.kd P.k P.old P.size sv dv) ∧ Cv.Own w' W1.heap.size sv P.S ∧ OwnS w' W1.heap.size dv P.D ∧ Ch q W1 w' := HP.mono fun e w' h => by
      rcases h with ⟨P', sv, dv, h, h2⟩ | ⟨h, _⟩
      · rw [hd] at h; cases h; exact ⟨sv, dv, h2⟩
      · rw [hd] at h; cases h
    clear HP
    obtain ⟨kd, k, old, size, S, D⟩ := P
    simp only at HP'
    have HD := hide hd
    clear hd
    go_enter_defers Try.func10, Try.ntmps10
    go_upto_region 2 with (fail)
    try rw [hW0]
    clear hW0
    go_wp2_with (first
      | (go_at_call 27; with_reducible refine HW.mono ?_; rintro x w1 ⟨rfl, rfl⟩)
      | (go_at_call 26; (with_reducible refine HP'.mono ?_); rintro x w2 ⟨sv, dv, rfl, o1, o2, hc⟩; (obtain ⟨ao, m, c, rfl⟩ := Cv.own_slice o1); (obtain ⟨ao2, m2, c2, rfl⟩ := Cv.own_slice o2); (have K := HK.out _ hc); (obtain ⟨e0, e1, e2, e3, e4, e5⟩ := K.six.cells); (have f0 := K.six.fz); (have kc := put6_ch w2 w.heap.size (.int .i64 kd) (.int .i64 k) (.int .u64 (old : Int)) (.int .u64 (size : Int)) (.slice ao m c) (.slice ao2 m2 c2)); (have ke := K.er.same (kc.block _ (by show ¬ _ = _; omega))); (have k0 := ke.cell); (have k1 := ke.fz); (unfold put6 at k0 k1); (have HH : Hid (Cv.Own w2 w1.heap.size (.slice ao m c) S ∧ OwnS w2 w1.heap.size (.slice ao2 m2 c2) D ∧ D2 w w2) := ⟨o1, o2, K⟩); clear o1 o2 hc K kc ke))
    refine leaves_cons (f := 25) (args := #[.pointer (some ⟨w.heap.size, 0, none⟩), .pointer (some ⟨w.heap.size + 1, 0, none⟩)]) (by simp) (by simp [go_sem]) ?_
    refine (catch_idle _ _ _).mono ?_
    rintro e u' w'' ⟨rfl, rfl, rfl⟩
    obtain ⟨o1, o2, K⟩ := HH.out
    have h6 := K.six.put (.int .i64 kd) (.int .i64 k) (.int .u64 (old : Int)) (.int .u64 (size : Int)) (.slice ao m c) (.slice ao2 m2 c2)
    have kc := put6_ch w2 w.heap.size (.int .i64 kd) (.int .i64 k) (.int .u64 (old : Int)) (.int .u64 (size : Int)) (.slice ao m c) (.slice ao2 m2 c2)
    have ke' := K.er.same (kc.block _ (by show ¬ _ = _; omega))
    have ke := ke'.set 0
    have hb1 : Below w.heap.size w (put6 w2 w.heap.size (.int .i64 kd) (.int .i64 k) (.int .u64 (old : Int)) (.int .u64 (size : Int)) (.slice ao m c) (.slice ao2 m2 c2)) := K.below.trans (kc.below (by rintro b rfl; exact Nat.le_refl _))
    have hb2 := hb1.setCell (p := ⟨w.heap.size + 1, 0, none⟩) (by show w.heap.size ≤ w.heap.size + 1; omega) (.int .i64 0)
    have h6' := h6.same (W := (put6 w2 w.heap.size (.int .i64 kd) (.int .i64 k) (.int .u64 (old : Int)) (.int .u64 (size : Int)) (.slice ao m c) (.slice ao2 m2 c2)).setCell ⟨w.heap.size + 1, 0, none⟩ (.int .i64 0)) (Below.heap_setCell _ _ _ _ (by show w.heap.size ≠ w.heap.size + 1; omega))
    have hne : ∀ {e n : Nat} {v : Value} {xs : List Value}, w2.ownsRow w1.heap.size e 1 v n xs → e ≠ 26 → e ≠ 28 → ((put6 w2 w.heap.size (.int .i64 kd) (.int .i64 k) (.int .u64 (old : Int)) (.int .u64 (size : Int)) (.slice ao m c) (.slice ao2 m2 c2)).setCell ⟨w.heap.size + 1, 0, none⟩ (.int .i64 0)).ownsRow w.heap.size e 1 v n xs := fun {e n v xs} ho h1 h2 => by
      refine keep_row (ho.mono HZ.out) fun g hg _ => ?_
      have n1 := own_ne6 ho K.six h1 g hg
      have n2 : g ≠ w.heap.size + 1 := by
        rintro rfl
        rcases ho.2 with ⟨rfl, _⟩ | ⟨g', cap, cur, rfl, _, hh, _⟩
        · cases hg
        · cases hg
          have := K.er
          rw [Er, hh] at this
          injection this with this
          injection this with _ e2 _
          exact h2 e2
      rw [Below.heap_setCell _ _ _ _ (by show g ≠ w.heap.size + 1; exact n2)]
      exact kc.block g n1
    obtain ⟨s0, s1, s2, s3, s4, s5⟩ := h6'.cells
    have t0 := ke.cell
    have HF : Hid (DecQ w s (.returned (.tuple #[pv6 kd k old size (.slice ao m c) (.slice ao2 m2 c2), .int .i64 0])) ((put6 w2 w.heap.size (.int .i64 kd) (.int .i64 k) (.int .u64 (old : Int)) (.int .u64 (size : Int)) (.slice ao m c) (.slice ao2 m2 c2)).setCell ⟨w.heap.size + 1, 0, none⟩ (.int .i64 0))) := .inl ⟨_, _, _, HD.out, rfl, hne o1 (by decide) (by decide), hne o2 (by decide) (by decide), hb2⟩
    unfold put6 at HF s0 s1 s2 s3 s4 s5 t0
    simp [Leaves, settle, results, Try.results10, go_sem, s0, s1, s2, s3, s4, s5, t0]
    exact HF.out
end Go.Proofs.Ytelglfmppmdmoaa
