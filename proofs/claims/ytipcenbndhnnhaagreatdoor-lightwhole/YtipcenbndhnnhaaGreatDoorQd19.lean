/-
  Own work: DWalkG, CoJoin.
-/
import Derived.Defers
import Derived.Recover
import Derived.Shelf.Strings.OnBuilder
import Derived.Test.YtipcenbndhnnhaaGreatDoorQd18
namespace Go.Proofs.YtipcenbndhnnhaaGreatDoor
open Go.RowKit
attribute [local go_sem ↓] Go.wp_at_zero Go.wp_at_succ
def Er (w : World) (b : Nat) (e : Int) : Prop := w.heap[b]? = some (.cells #[.int .i64 e] 33 (0, 0))
theorem Er.cell {w : World} {b : Nat} {e : Int} (h : Er w b e) : w.cell? ⟨b, 0, none⟩ = some (.int .i64 e) := by rw [cell_of_row w b 0 _ _ (0, 0) h]; rfl
theorem Er.fz {w : World} {b : Nat} {e : Int} (h : Er w b e) : w.frozen? ⟨b, 0, none⟩ = false := frozen_of_row w b 0 _ _ h
theorem Er.lt {w : World} {b : Nat} {e : Int} (h : Er w b e) : b < w.heap.size := (Array.getElem?_eq_some_iff.1 h).1
theorem Er.same {w W : World} {b : Nat} {e : Int} (h : Er w b e) (hb : W.heap[b]? = w.heap[b]?) : Er W b e := hb.trans h
theorem Er.set {w : World} {b : Nat} {e : Int} (h : Er w b e) (e' : Int) : Er (w.setCell ⟨b, 0, none⟩ (.int .i64 e')) b e' := heap_setCell_same w b 0 _ _ (.int .i64 e') h
set_option maxRecDepth 100000 in
theorem catch_panicking (a b : Nat) (u : TypeId) (pv : Value) (older : List PanicEntry) (w : World) {x0 x1 x2 x3 x4 x5 : Value} {e : Int} (h6 : Six w a x0 x1 x2 x3 x4 x5) (he : Er w b e) (hne : a ≠ b) :
    CallsD Tryz.prog 112 #[.pointer (some ⟨a, 0, none⟩), .pointer (some ⟨b, 0, none⟩)] (.panicking ({ v := .iface u pv, recovered := false } :: older)) w fun e u' w' =>
      e = .returned (.tuple #[]) ∧ u' = .panicking ({ v := .iface u pv, recovered := true } :: older) ∧ w' = (put6 w a (.int .i64 0) (.int .i64 0) (.int .u64 0) (.int .u64 0) (.slice none 0 0) (.slice none 0 0)).setCell ⟨b, 0, none⟩ (.int .i64 140) := by
  obtain ⟨c0, c1, c2, c3, c4, c5⟩ := h6.cells
  have f0 := h6.fz
  have g0 := he.cell
  have g1 := he.fz
  have hne' : ¬ b = a := fun h => hne h.symm
  refine callsD_of_wpS Tryz.func112 rfl fun c₀ cs hu => ?_
  apply wpS_seq
  apply wpS_region
  simp [wpOpsS, go_sem, recoverD, hu, Tryz.ntmps112, Exit.thenS]
  refine wpS_cond (t := true) (by simp [Act.eval, Array.replicate]) ?_
  simp only [if_true]
  refine wpS_of_wp ?_
  have ht : (#[Value.pointer (some ⟨a, 0, none⟩), Value.pointer (some ⟨b, 0, none⟩)] ++ ((Array.replicate 3 undef).setIfInBounds 0 (Value.iface u pv)).setIfInBounds 1 (Value.bool true) : Array Value) = #[Value.pointer (some ⟨a, 0, none⟩), Value.pointer (some ⟨b, 0, none⟩), Value.iface u pv, Value.bool true, undef] := rfl
  rw [ht]
  have k6 := h6.put (.int .i64 0) (.int .i64 0) (.int .u64 0) (.int .u64 0) (.slice none 0 0) (.slice none 0 0)
  have kc := put6_ch w a (.int .i64 0) (.int .i64 0) (.int .u64 0) (.int .u64 0) (.slice none 0 0) (.slice none 0 0)
  have ke := he.same (kc.block b (by show ¬ _ = _; exact hne'))
  have k0 := ke.cell
  have k1 := ke.fz
  unfold put6 at k0 k1 ⊢
  clear k6 kc ke h6 he
  go_wp2
  simp [bodyPostS, results, Tryz.results112]
theorem catch_idle (a b : Nat) (w : World) :
    CallsD Tryz.prog 112 #[.pointer (some ⟨a, 0, none⟩), .pointer (some ⟨b, 0, none⟩)] .returning w fun e u' w' => e = .returned (.tuple #[]) ∧ u' = .returning ∧ w' = w := by
  refine callsD_of_wpS Tryz.func112 rfl fun c₀ cs hu => ?_
  apply wpS_seq
  apply wpS_region
  simp [wpOpsS, go_sem, recoverD, hu, Tryz.ntmps112, Exit.thenS]
  refine wpS_cond (t := false) (by simp [Act.eval, Array.replicate]) ?_
  simp only [Bool.false_eq_true, if_false]
  refine wpS_of_wp (wp_skip ?_)
  cases c₀
  simp_all [bodyPostS, results, Tryz.results112]
def DecQ (w : World) (s : ByteArray) (e : Ending) (w' : World) : Prop :=
  (∃ P sv dv, dec s.data.toList = some P ∧ e = .returned (.tuple #[pv6 P.kd P.k P.old P.size sv dv, .int .i64 0]) ∧ Cv.Own w' w.heap.size sv P.S ∧ OwnS w' w.heap.size dv P.D ∧ Below w.heap.size w w') ∨
    (dec s.data.toList = none ∧ e = .returned (.tuple #[noP, .int .i64 140]) ∧ Below w.heap.size w w')
structure D2 (w W : World) : Prop where
  six : Six W w.heap.size (.int .i64 0) (.int .i64 0) (.int .u64 0) (.int .u64 0) (.slice none 0 0) (.slice none 0 0)
  er : Er W (w.heap.size + 1) 0
  below : Below w.heap.size w W
theorem D2.next {w W W' : World} (h : D2 w W) (hb : ∀ b, b < w.heap.size + 2 → W'.heap[b]? = W.heap[b]?) (hw : Below w.heap.size w W') : D2 w W' :=
  ⟨h.six.same (hb _ (by omega)), h.er.same (hb _ (by omega)), hw⟩
theorem d2_new (w : World) (o1 o2 : Obj) (h1 : o1 = .cells #[.int .i64 0, .int .i64 0, .int .u64 0, .int .u64 0, .slice none 0 0, .slice none 0 0] 38) (h2 : o2 = .cells #[.int .i64 0] 33) : D2 w ((w.alloc o1).alloc o2) := by
  subst h1 h2
  refine ⟨(six_new w _ _ _ _ _ _).next (bal (Below.refl _ _) _), ?_, bal (bal (Below.refl _ _) _) _⟩
  have := heap_alloc_new (w.alloc (.cells #[.int .i64 0, .int .i64 0, .int .u64 0, .int .u64 0, .slice none 0 0, .slice none 0 0] 38)) (.cells #[.int .i64 0] 33)
  rw [World.size_alloc] at this
  exact this
set_option maxRecDepth 100000 in
set_option maxHeartbeats 1000000 in
theorem decode_any (w : World) (s : ByteArray) (hs : s.size ≤ 281474976710656) :
    Calls Tryz.prog 70 #[.string s] w (DecQ w s) := by
  have hmf : ∀ (fn : Fn) (first cap : Array Value) (w : World), (Instr.makeFunc fn first cap).run Tryz.prog w = .ok (.func fn first cap) w := fun _ _ _ _ => rfl
  have K0 := d2_new w _ _ rfl rfl
  obtain ⟨W0, hW0⟩ : ∃ W0, (w.alloc (.cells #[.int .i64 0, .int .i64 0, .int .u64 0, .int .u64 0, .slice none 0 0, .slice none 0 0] 38)).alloc (.cells #[.int .i64 0] 33) = W0 := ⟨_, rfl⟩
  have hz0 : W0.heap.size = w.heap.size + 2 := by rw [← hW0]; simp
  rw [hW0] at K0
  have HW := new_anyC W0 s
  have HP := proof_any (W0.alloc (.cells #[.string s, .int .i64 0] 190)) W0.heap.size s (rdr_new W0 s _) hs
  have hsz1 : (W0.alloc (.cells #[.string s, .int .i64 0] 190)).heap.size = W0.heap.size + 1 := World.size_alloc _ _
  have hbr := bal (Below.refl W0.heap.size W0) (.cells #[.string s, .int .i64 0] 190)
  have HK : Hid (∀ w2, Ch W0.heap.size (W0.alloc (.cells #[.string s, .int .i64 0] 190)) w2 → D2 w w2) := fun w2 hc => K0.next (fun b hb => (hc.block b (by omega) (by omega)).trans (hbr.block b (by omega))) ((K0.below.trans (hbr.mono (by omega))).trans (hc.below.mono (by omega)))
  have HZ : Hid (w.heap.size ≤ (W0.alloc (.cells #[.string s, .int .i64 0] 190)).heap.size) := (by rw [hsz1]; omega : w.heap.size ≤ (W0.alloc (.cells #[.string s, .int .i64 0] 190)).heap.size)
  clear K0 hz0 hs hbr hsz1
  obtain ⟨W1, hW1⟩ : ∃ W1, W0.alloc (.cells #[.string s, .int .i64 0] 190) = W1 := ⟨_, rfl⟩
  rw [hW1] at HW HP HK HZ
  clear hW1
  obtain ⟨q, hq⟩ : ∃ q, W0.heap.size = q := ⟨_, rfl⟩
  rw [hq] at HW HP HK
  clear hq
  cases hd : dec s.data.toList with
  | none =>
    have HP' : Calls Tryz.prog 113 #[.pointer (some ⟨q, 0, none⟩)] W1 fun e w' => (∃ u v, e = .panicked [{ v := .iface u v, recovered := false }]) ∧ Ch q W1 w' := HP.mono fun e w' h => by
      rcases h with ⟨P, _, _, h, _⟩ | ⟨_, h1, h2⟩
      · rw [hd] at h; cases h
      · exact ⟨h1, h2⟩
    clear HP
    go_enter_defers Tryz.func70, Tryz.ntmps70
    go_upto_region 2 with (fail)
    try rw [hW0]
    clear hW0
    go_wp2_with (first
      | (go_at_call 114; with_reducible refine HW.mono ?_; rintro x w1 ⟨rfl, rfl⟩)
      | (go_at_call 113; with_reducible refine HP'.mono ?_; rintro x w2 ⟨⟨u, v, rfl⟩, hc⟩))
    refine leaves_cons (f := 112) (args := #[.pointer (some ⟨w.heap.size, 0, none⟩), .pointer (some ⟨w.heap.size + 1, 0, none⟩)]) (by simp) (by simp [go_sem]) ?_
    have K := HK.out _ hc
    refine (catch_panicking _ _ u v [] _ K.six K.er (by omega)).mono ?_
    rintro e u' w'' ⟨rfl, rfl, rfl⟩
    have h6 := K.six.put (.int .i64 0) (.int .i64 0) (.int .u64 0) (.int .u64 0) (.slice none 0 0) (.slice none 0 0)
    have kc := put6_ch w2 w.heap.size (.int .i64 0) (.int .i64 0) (.int .u64 0) (.int .u64 0) (.slice none 0 0) (.slice none 0 0)
    have ke := (K.er.same (kc.block _ (by show ¬ _ = _; omega))).set 140
    have hb1 : Below w.heap.size w (put6 w2 w.heap.size (.int .i64 0) (.int .i64 0) (.int .u64 0) (.int .u64 0) (.slice none 0 0) (.slice none 0 0)) := K.below.trans (kc.below (by rintro b rfl; exact Nat.le_refl _))
    have hb2 := hb1.setCell (p := ⟨w.heap.size + 1, 0, none⟩) (by show w.heap.size ≤ w.heap.size + 1; omega) (.int .i64 140)
    have h6' := h6.same (W := (put6 w2 w.heap.size (.int .i64 0) (.int .i64 0) (.int .u64 0) (.int .u64 0) (.slice none 0 0) (.slice none 0 0)).setCell ⟨w.heap.size + 1, 0, none⟩ (.int .i64 140)) (Below.heap_setCell _ _ _ _ (by show w.heap.size ≠ w.heap.size + 1; omega))
    obtain ⟨s0, s1, s2, s3, s4, s5⟩ := h6'.cells
    have t0 := ke.cell
    have HF : Hid (DecQ w s (.returned (.tuple #[noP, .int .i64 140])) ((put6 w2 w.heap.size (.int .i64 0) (.int .i64 0) (.int .u64 0) (.int .u64 0) (.slice none 0 0) (.slice none 0 0)).setCell ⟨w.heap.size + 1, 0, none⟩ (.int .i64 140))) := .inr ⟨hd, rfl, hb2⟩
    generalize (put6 w2 w.heap.size (.int .i64 0) (.int .i64 0) (.int .u64 0) (.int .u64 0) (.slice none 0 0) (.slice none 0 0)).setCell ⟨w.heap.size + 1, 0, none⟩ (.int .i64 140) = F at *
    simp [Leaves, settle, results, Tryz.results70, go_sem, s0, s1, s2, s3, s4, s5, t0]
    exact HF.out
  | some P =>
    have HP' : Calls Tryz.prog 113 #[.pointer (some ⟨q, 0, none⟩)] W1 fun e w' => ∃ sv dv, e = .returned (pv6 P.kd P.k P.old P.size sv dv) ∧ Cv.Own w' W1.heap.size sv P.S ∧ OwnS w' W1.heap.size dv P.D ∧ Ch q W1 w' := HP.mono fun e w' h => by
      rcases h with ⟨P', sv, dv, h, h2⟩ | ⟨h, _⟩
      · rw [hd] at h; cases h; exact ⟨sv, dv, h2⟩
      · rw [hd] at h; cases h
    clear HP
    obtain ⟨kd, k, old, size, S, D⟩ := P
    simp only at HP'
    have HD := hideC hd
    clear hd
    go_enter_defers Tryz.func70, Tryz.ntmps70
    go_upto_region 2 with (fail)
    try rw [hW0]
    clear hW0
    go_wp2_with (first
      | (go_at_call 114; with_reducible refine HW.mono ?_; rintro x w1 ⟨rfl, rfl⟩)
      | (go_at_call 113; (with_reducible refine HP'.mono ?_); rintro x w2 ⟨sv, dv, rfl, o1, o2, hc⟩; (obtain ⟨ao, m, c, rfl⟩ := Cv.own_slice o1); (obtain ⟨ao2, m2, c2, rfl⟩ := Cv.own_slice o2); (have K := HK.out _ hc); (obtain ⟨e0, e1, e2, e3, e4, e5⟩ := K.six.cells); (have f0 := K.six.fz); (have kc := put6_ch w2 w.heap.size (.int .i64 kd) (.int .i64 k) (.int .u64 (old : Int)) (.int .u64 (size : Int)) (.slice ao m c) (.slice ao2 m2 c2)); (have ke := K.er.same (kc.block _ (by show ¬ _ = _; omega))); (have k0 := ke.cell); (have k1 := ke.fz); (unfold put6 at k0 k1); (have HH : Hid (Cv.Own w2 w1.heap.size (.slice ao m c) S ∧ OwnS w2 w1.heap.size (.slice ao2 m2 c2) D ∧ D2 w w2) := ⟨o1, o2, K⟩); clear o1 o2 hc K kc ke))
    refine leaves_cons (f := 112) (args := #[.pointer (some ⟨w.heap.size, 0, none⟩), .pointer (some ⟨w.heap.size + 1, 0, none⟩)]) (by simp) (by simp [go_sem]) ?_
    refine (catch_idle _ _ _).mono ?_
    rintro e u' w'' ⟨rfl, rfl, rfl⟩
    obtain ⟨o1, o2, K⟩ := HH.out
    have h6 := K.six.put (.int .i64 kd) (.int .i64 k) (.int .u64 (old : Int)) (.int .u64 (size : Int)) (.slice ao m c) (.slice ao2 m2 c2)
    have kc := put6_ch w2 w.heap.size (.int .i64 kd) (.int .i64 k) (.int .u64 (old : Int)) (.int .u64 (size : Int)) (.slice ao m c) (.slice ao2 m2 c2)
    have ke' := K.er.same (kc.block _ (by show ¬ _ = _; omega))
    have ke := ke'.set 0
    have hb1 : Below w.heap.size w (put6 w2 w.heap.size (.int .i64 kd) (.int .i64 k) (.int .u64 (old : Int)) (.int .u64 (size : Int)) (.slice ao m c) (.slice ao2 m2 c2)) := K.below.trans (kc.below (by rintro b rfl; exact Nat.le_refl _))
    have hb2 := hb1.setCell (p := ⟨w.heap.size + 1, 0, none⟩) (by show w.heap.size ≤ w.heap.size + 1; omega) (.int .i64 0)
    have h6' := h6.same (W := (put6 w2 w.heap.size (.int .i64 kd) (.int .i64 k) (.int .u64 (old : Int)) (.int .u64 (size : Int)) (.slice ao m c) (.slice ao2 m2 c2)).setCell ⟨w.heap.size + 1, 0, none⟩ (.int .i64 0)) (Below.heap_setCell _ _ _ _ (by show w.heap.size ≠ w.heap.size + 1; omega))
    have hne : ∀ {e n : Nat} {v : Value} {xs : List Value}, w2.ownsRow w1.heap.size e 1 v n xs → e ≠ 38 → e ≠ 33 → ((put6 w2 w.heap.size (.int .i64 kd) (.int .i64 k) (.int .u64 (old : Int)) (.int .u64 (size : Int)) (.slice ao m c) (.slice ao2 m2 c2)).setCell ⟨w.heap.size + 1, 0, none⟩ (.int .i64 0)).ownsRow w.heap.size e 1 v n xs := fun {e n v xs} ho h1 h2 => by
      refine keep_row (ho.mono HZ.out) fun g hg _ => ?_
      have n1 := own_ne6 ho K.six h1 g hg
      have n2 : g ≠ w.heap.size + 1 := by
        rintro rfl
        rcases ho.2 with ⟨rfl, _⟩ | ⟨g', cap, cur, rfl, _, hh, _⟩
        · cases hg
        · cases hg
          have := K.er
          rw [Er, hh] at this
          injection this with this
          injection this with _ e2 _
          exact h2 e2
      rw [Below.heap_setCell _ _ _ _ (by show g ≠ w.heap.size + 1; exact n2)]
      exact kc.block g n1
    obtain ⟨s0, s1, s2, s3, s4, s5⟩ := h6'.cells
    have t0 := ke.cell
    have HF : Hid (DecQ w s (.returned (.tuple #[pv6 kd k old size (.slice ao m c) (.slice ao2 m2 c2), .int .i64 0])) ((put6 w2 w.heap.size (.int .i64 kd) (.int .i64 k) (.int .u64 (old : Int)) (.int .u64 (size : Int)) (.slice ao m c) (.slice ao2 m2 c2)).setCell ⟨w.heap.size + 1, 0, none⟩ (.int .i64 0))) := .inl ⟨_, _, _, HD.out, rfl, hne o1 (by decide) (by decide), hne o2 (by decide) (by decide), hb2⟩
    unfold put6 at HF s0 s1 s2 s3 s4 s5 t0
    simp [Leaves, settle, results, Tryz.results70, go_sem, s0, s1, s2, s3, s4, s5, t0]
    exact HF.out
end Go.Proofs.YtipcenbndhnnhaaGreatDoor
namespace Go.Proofs.YtipcenbndhnnhaaGreatDoor
open Go.Shelf
open Go.RowKit
def Tryz.lays156_ren : Go.Shelf.Ren := ⟨fun | 156 => 34 | 165 => 67 | 166 => 68 | 169 => 69 | 240 => 110 | 241 => 111 | 276 => 152 | 277 => 153 | n => n, fun | 31 => 22 | 9 => 9 | 3 => 3 | 4 => 4 | 0 => 0 | 20 => 20 | 72 => 120 | 76 => 124 | 70 => 118 | 37 => 115 | 75 => 123 | 127 => 149 | 164 => 181 | 5 => 5 | 80 => 126 | n => n, fun | n => n⟩
theorem Tryz.lays156 : Go.Proofs.Lays.n156 Tryz.prog Tryz.lays156_ren := {
  mixed := by kernel_rfl
  f156 := Tryz.func34.trans (congrArg some (by kernel_rfl))
  f165 := Tryz.func67.trans (congrArg some (by kernel_rfl))
  f166 := Tryz.func68.trans (congrArg some (by kernel_rfl))
  f169 := Tryz.func69.trans (congrArg some (by kernel_rfl))
  f240 := Tryz.func110.trans (congrArg some (by kernel_rfl))
  f241 := Tryz.func111.trans (congrArg some (by kernel_rfl))
  f276 := Tryz.func152.trans (congrArg some (by kernel_rfl))
  f277 := Tryz.func153.trans (congrArg some (by kernel_rfl))
  t0 := Tryz.underlying0
  a0 := Tryz.isAgg0
  z0 := Tryz.sizeOf0
  v0 := Tryz.zeroValue0
  t3 := Tryz.underlying3
  a3 := Tryz.isAgg3
  z3 := Tryz.sizeOf3
  v3 := Tryz.zeroValue3
  t4 := Tryz.underlying4
  a4 := Tryz.isAgg4
  z4 := Tryz.sizeOf4
  v4 := Tryz.zeroValue4
  t9 := Tryz.underlying9
  a9 := Tryz.isAgg9
  z9 := Tryz.sizeOf9
  v9 := Tryz.zeroValue9
  t20 := Tryz.underlying20
  a20 := Tryz.isAgg20
  z20 := Tryz.sizeOf20
  v20 := Tryz.zeroValue20
  t31 := Tryz.underlying22
  a31 := Tryz.isAgg22
  z31 := Tryz.sizeOf22
  v31 := Tryz.zeroValue22
  t37 := Tryz.underlying115
  a37 := Tryz.isAgg115
  z37 := Tryz.sizeOf115
  v37 := Tryz.zeroValue115
  t70 := Tryz.underlying118
  a70 := Tryz.isAgg118
  z70 := Tryz.sizeOf118
  v70 := Tryz.zeroValue118
  t72 := Tryz.underlying120
  a72 := Tryz.isAgg120
  z72 := Tryz.sizeOf120
  v72 := Tryz.zeroValue120
  t75 := Tryz.underlying123
  a75 := Tryz.isAgg123
  z75 := Tryz.sizeOf123
  v75 := Tryz.zeroValue123
  t76 := Tryz.underlying124
  a76 := Tryz.isAgg124
  z76 := Tryz.sizeOf124
  v76 := Tryz.zeroValue124
  t127 := Tryz.underlying149
  a127 := Tryz.isAgg149
  z127 := Tryz.sizeOf149
  v127 := Tryz.zeroValue149
  t164 := Tryz.underlying181
  a164 := Tryz.isAgg181
  z164 := Tryz.sizeOf181
  v164 := Tryz.zeroValue181 }
theorem Tryz.Builder_Extra_156 : Builder.Extra Tryz.prog Tryz.lays156_ren := {
  sizeBuilder := by kernel_rfl
  liesBuilder := by kernel_rfl
  t5 := Tryz.underlying5
  a5 := Tryz.isAgg5
  z5 := Tryz.sizeOf5
  v5 := Tryz.zeroValue5
  infoByte := by kernel_rfl
  cellsByte := by kernel_rfl
  sizeByte := by kernel_rfl
  neB5 := by decide }
theorem Tryz.strings_Join_none (a : Option Addr) (c : Nat) (sep : ByteArray) (w : World) :
    Calls Tryz.prog 34 #[.slice a 0 c, .string sep] w fun e w' => e = .returned (.string ⟨#[]⟩) ∧ w' = w := Any.strings_Join_none Tryz.lays156 Tryz.Builder_Extra_156 a c sep w
theorem Tryz.strings_Join (bk o c : Nat) (xs : List ByteArray) (sep : ByteArray) (w : World) (hcells : ∀ (j : Nat) x, xs[j]? = some x → w.cell? ⟨bk, o + j, none⟩ = some (.string x)) (hbk : bk < w.heap.size) (hN : xs.length ≤ 140737488355328) (hcap : xs.length ≤ c) (hlen : (Lib.join (xs.map (·.data.toList)) sep.data.toList).length ≤ 140737488355328) :
    Calls Tryz.prog 34 #[.slice (some ⟨bk, o, none⟩) xs.length c, .string sep] w fun e w' => e = .returned (.string ⟨(Lib.join (xs.map (·.data.toList)) sep.data.toList).toArray⟩) ∧ Below w.heap.size w w' := Any.strings_Join Tryz.lays156 Tryz.Builder_Extra_156 bk o c xs sep w hcells hbk hN hcap hlen
theorem join_flat (D : List ByteArray) : Lib.join (D.map (·.data.toList)) [] = flatC D := by
  cases D with
  | nil => rfl
  | cons d D => rw [List.map_cons, Lib.join_cons, flat_cons]; simp [Lib.joinTail, flatC]; rfl
theorem join_anyC (w : World) (da : Option Addr) (db dO dc : Nat) (D : List ByteArray) (rd : RdS w da db dO D.length D) (hc : D.length ≤ dc) (hD : D.length ≤ 140737488355328) (hl : (flatC D).length ≤ 140737488355328) :
    Calls Tryz.prog 34 #[.slice da D.length dc, .string ByteArray.empty] w fun e w' => e = .returned (.string ⟨(flatC D).toArray⟩) ∧ Below w.heap.size w w' := by
  have he : ByteArray.empty.data.toList = [] := rfl
  by_cases h0 : D.length = 0
  · have : D = [] := List.length_eq_zero_iff.1 h0
    subst this
    exact (Tryz.strings_Join_none da dc ByteArray.empty w).mono fun e w' h => ⟨h.1, by rw [h.2]; exact Below.refl _ _⟩
  · obtain rfl := rd.ptr (by omega)
    have h := Tryz.strings_Join db dO dc D ByteArray.empty w (fun j x hx => rd.rng j _ (by rw [List.getElem?_map, hx]; rfl)) (rd.lt (by omega)) hD hc (by rw [he, join_flat]; exact hl)
    rw [he, join_flat] at h
    exact h
end Go.Proofs.YtipcenbndhnnhaaGreatDoor
