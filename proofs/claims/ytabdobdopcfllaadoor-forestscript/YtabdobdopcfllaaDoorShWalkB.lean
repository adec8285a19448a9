/-
  Walks of package sha: folded. Own work.
-/
import Derived.Test.YtabdobdopcfllaaDoorShWalkA
import Derived.Test.YtabdobdopcfllaaDoorShSpec2
import Derived.WalkKit
import Derived.WalkSpells
import Derived.Outline
import Derived.KernelRfl
import Derived.Deep.LoopGhost
import Derived.Deep.RegionHeld3
import Derived.Deep.MidRow
import Derived.Deep.DrawnRows
import Derived.Deep.Light
namespace Go.Proofs.YtabdobdopcfllaaDoor
open Go.RowKit
attribute [local go_sem ↓] Go.wp_at_zero Go.wp_at_succ
theorem size35 : (Tryd.prog.info? 120).map (·.size) = some 64 := by kernel_rfl
theorem size34 : (Tryd.prog.info? 119).map (·.size) = some 8 := by kernel_rfl

structure Fo (w wr : World) (st ws rs : List Int) (N : Nat) : Prop where
  below : Below w.heap.size w wr
  st : wr.rangeAt w.heap.size 0 (cW st)
  res : wr.there (w.heap.size + 1 + 1) 0 8
  ws : wr.rangeAt N 0 (cW ws)
  rs : wr.rangeAt 0 0 (cW rs)
theorem Fo.drew {w wr : World} {st ws rs : List Int} {N : Nat} (h : Fo w wr st ws rs N) : Fo w wr.drew st ws rs N :=
  ⟨h.below.drew, by rw [World.rangeAt_drew]; exact h.st, by rw [World.there_drew]; exact h.res, by rw [World.rangeAt_drew]; exact h.ws, by rw [World.rangeAt_drew]; exact h.rs⟩
theorem Fo.start {w w' : World} {st blk ws rs : List Int} {t1 t2 t3 t4 : TypeId} {z : List Int} (hz : z.length = 8) {z2 : Array Value} (hz2 : z2.size = 64) (hwl : ws.length = 64) (hrl : rs.length = 64)
    (hr : w.rangeAt 0 0 (cW rs))
    (hb : Below (((w.alloc (.cells (cW st).toArray t1)).alloc (.cells (cB blk).toArray t2)).alloc (.cells (cW z).toArray t3)).heap.size (((w.alloc (.cells (cW st).toArray t1)).alloc (.cells (cB blk).toArray t2)).alloc (.cells (cW z).toArray t3)) w') :
    Fo w ((w'.alloc (.cells z2 t4)).setCells w'.heap.size 0 (cW ws)) st ws rs w'.heap.size := by
  have hlt : 0 < w.heap.size := range_lt hr (by intro h; have := congrArg List.length h; simp [cW_len, hrl] at this)
  have hN : w.heap.size + 3 ≤ w'.heap.size := by have := hb.size; simp at this; omega
  have hbw2 : Below w.heap.size w w' := ((((Below.refl _ _).alloc (Nat.le_refl _) _).alloc (by simp) _).alloc (by simp; omega) _).trans (hb.mono (by simp; omega))
  have h1 : w'.rangeAt w.heap.size 0 (cW st) := range_below hb (by simp; omega) (World.rangeAt_alloc (World.rangeAt_alloc (range_new _ _ _) _) _)
  have h2 : w'.there (w.heap.size + 1 + 1) 0 8 := by
    have := there_new ((w.alloc (.cells (cW st).toArray t1)).alloc (.cells (cB blk).toArray t2)) (cW z).toArray t3 8 (by simp [cW_len, hz])
    simp only [World.size_alloc] at this
    exact there_below hb (by simp) this
  have h3 : w'.rangeAt 0 0 (cW rs) := range_below hbw2 hlt hr
  refine ⟨below_setCells (hbw2.alloc (by omega) _) (by omega) _ _, ?_, ?_, ?_, ?_⟩
  · exact World.rangeAt_setCells_apart (World.rangeAt_alloc h1 _) _ _ _ (Or.inl (by omega))
  · exact World.there_setCells (World.there_alloc h2 _) _ _ _
  · exact World.rangeAt_setCells_same _ _ _ _ (there_new _ _ _ _ (by rw [cW_len, hwl, hz2]; exact Nat.le_refl _))
  · exact World.rangeAt_setCells_apart (World.rangeAt_alloc h3 _) _ _ _ (Or.inl (by omega))

set_option maxHeartbeats 2000000 in
set_option maxRecDepth 100000 in
theorem folded_any (st : List Int) (hst : st.length = 8) (blk : List Int) (hl : blk.length = 64) (w : World) (rs : List Int) (hrl : rs.length = 64) (hr : w.rangeAt 0 0 (cW rs)) :
    Calls Tryd.prog 80 #[.agg (cW st).toArray, .agg (cB blk).toArray] w fun e w' => e = .returned (.agg (cW (foldI rs st blk)).toArray) ∧ Below w.heap.size w w' := by
  obtain ⟨s0, s1, s2, s3, s4, s5, s6, s7, rfl⟩ := list8 hst
  clear hst
  obtain ⟨ws, hws⟩ : ∃ ws, ws = schN blk 48 := ⟨_, rfl⟩
  have hwl : ws.length = 64 := by rw [hws, schN_len]
  have hsched := fun w => schedule_any blk hl w
  rw [← hws] at hsched
  have HE : Hid (ws = schN blk 48) := hws
  clear hws
  have hi35 : (Tryd.prog.info? 120).map (·.size) = some (cB blk).length := by rw [cB_len, hl]; exact size35
  have hi46 : (Tryd.prog.info? 128).map (·.size) = some (cW ws).toArray.size := by rw [List.size_toArray, cW_len, hwl]; exact size46
  have hsz : (cW ws).toArray.size = 64 := by simp [cW_len, hwl]
  have r1 := fun o => World.rangeAt_alloc (range_new (w.alloc o) (cB blk) 120)
  simp only [World.size_alloc] at r1
  go_enter Tryd.func80, Tryd.ntmps80
  go_wp2_with (first | (refine wpList_load_mid rfl 120 _ rfl (w.heap.size + 1) 0 rfl (cB blk) _ (r1 _ _) Tryd.underlying120 rfl hi35 ?_) | (go_at_call 87; refine (hsched _).mono ?_; rintro e w' ⟨rfl, hbw⟩) | (refine wpList_store_mid rfl 128 _ _ rfl _ 0 (cW ws).toArray rfl rfl ?_ hi46 (all_oneCell_toArray (cW_one ws)) ?_; exact there_new _ _ _ _ (by rw [hsz]; exact Nat.le_refl 64)))
  go_simp
  have hFo := Fo.start (z := [0, 0, 0, 0, 0, 0, 0, 0]) (z2 := (cW (List.replicate 64 0)).toArray) (t4 := 128) rfl rfl hwl hrl hr hbw
  clear hbw r1 hsched
  replace hFo : Fo w ((w'.alloc (.cells #[.int .u32 0, .int .u32 0, .int .u32 0, .int .u32 0, .int .u32 0, .int .u32 0, .int .u32 0, .int .u32 0, .int .u32 0, .int .u32 0, .int .u32 0, .int .u32 0, .int .u32 0, .int .u32 0, .int .u32 0, .int .u32 0, .int .u32 0, .int .u32 0, .int .u32 0, .int .u32 0, .int .u32 0, .int .u32 0, .int .u32 0, .int .u32 0, .int .u32 0, .int .u32 0, .int .u32 0, .int .u32 0, .int .u32 0, .int .u32 0, .int .u32 0, .int .u32 0, .int .u32 0, .int .u32 0, .int .u32 0, .int .u32 0, .int .u32 0, .int .u32 0, .int .u32 0, .int .u32 0, .int .u32 0, .int .u32 0, .int .u32 0, .int .u32 0, .int .u32 0, .int .u32 0, .int .u32 0, .int .u32 0, .int .u32 0, .int .u32 0, .int .u32 0, .int .u32 0, .int .u32 0, .int .u32 0, .int .u32 0, .int .u32 0, .int .u32 0, .int .u32 0, .int .u32 0, .int .u32 0, .int .u32 0, .int .u32 0, .int .u32 0, .int .u32 0] 128)).setCells w'.heap.size 0 (cW ws)) [s0, s1, s2, s3, s4, s5, s6, s7] ws rs w'.heap.size := hFo
  generalize ((w'.alloc (.cells #[.int .u32 0, .int .u32 0, .int .u32 0, .int .u32 0, .int .u32 0, .int .u32 0, .int .u32 0, .int .u32 0, .int .u32 0, .int .u32 0, .int .u32 0, .int .u32 0, .int .u32 0, .int .u32 0, .int .u32 0, .int .u32 0, .int .u32 0, .int .u32 0, .int .u32 0, .int .u32 0, .int .u32 0, .int .u32 0, .int .u32 0, .int .u32 0, .int .u32 0, .int .u32 0, .int .u32 0, .int .u32 0, .int .u32 0, .int .u32 0, .int .u32 0, .int .u32 0, .int .u32 0, .int .u32 0, .int .u32 0, .int .u32 0, .int .u32 0, .int .u32 0, .int .u32 0, .int .u32 0, .int .u32 0, .int .u32 0, .int .u32 0, .int .u32 0, .int .u32 0, .int .u32 0, .int .u32 0, .int .u32 0, .int .u32 0, .int .u32 0, .int .u32 0, .int .u32 0, .int .u32 0, .int .u32 0, .int .u32 0, .int .u32 0, .int .u32 0, .int .u32 0, .int .u32 0, .int .u32 0, .int .u32 0, .int .u32 0, .int .u32 0, .int .u32 0] 128)).setCells w'.heap.size 0 (cW ws)) = W2 at *
  generalize w'.heap.size = N at *
  clear w'
  have c0 : W2.cell? ⟨w.heap.size, 0, none⟩ = some (.int .u32 s0) := cell_cW0 hFo.st (i := 0) (by simp)
  have c1 : W2.cell? ⟨w.heap.size, 1, none⟩ = some (.int .u32 s1) := cell_cW0 hFo.st (i := 1) (by simp)
  have c2 : W2.cell? ⟨w.heap.size, 2, none⟩ = some (.int .u32 s2) := cell_cW0 hFo.st (i := 2) (by simp)
  have c3 : W2.cell? ⟨w.heap.size, 3, none⟩ = some (.int .u32 s3) := cell_cW0 hFo.st (i := 3) (by simp)
  have c4 : W2.cell? ⟨w.heap.size, 4, none⟩ = some (.int .u32 s4) := cell_cW0 hFo.st (i := 4) (by simp)
  have c5 : W2.cell? ⟨w.heap.size, 5, none⟩ = some (.int .u32 s5) := cell_cW0 hFo.st (i := 5) (by simp)
  have c6 : W2.cell? ⟨w.heap.size, 6, none⟩ = some (.int .u32 s6) := cell_cW0 hFo.st (i := 6) (by simp)
  have c7 : W2.cell? ⟨w.heap.size, 7, none⟩ = some (.int .u32 s7) := cell_cW0 hFo.st (i := 7) (by simp)
  go_region_held3 (fun w' => w'.cell? ⟨w.heap.size, 0, none⟩ = some (.int .u32 s0) ∧ w'.cell? ⟨w.heap.size, 1, none⟩ = some (.int .u32 s1) ∧ w'.cell? ⟨w.heap.size, 2, none⟩ = some (.int .u32 s2) ∧ w'.cell? ⟨w.heap.size, 3, none⟩ = some (.int .u32 s3)) (first | assumption | (refine ⟨?_, ?_, ?_, ?_⟩ <;> first | assumption | (rw [World.cell?_drew]; assumption))) (fail)
  go_wp2
  go_region_held3 (fun w' => w'.cell? ⟨w.heap.size, 4, none⟩ = some (.int .u32 s4) ∧ w'.cell? ⟨w.heap.size, 5, none⟩ = some (.int .u32 s5) ∧ w'.cell? ⟨w.heap.size, 6, none⟩ = some (.int .u32 s6) ∧ w'.cell? ⟨w.heap.size, 7, none⟩ = some (.int .u32 s7)) (first | assumption | (refine ⟨?_, ?_, ?_, ?_⟩ <;> first | assumption | (rw [World.cell?_drew]; assumption))) (fail)
  clear c0 c1 c2 c3 c4 c5 c6 c7
  go_wp2
  go_loopg [6, 7, 8, 9, 10, 11, 12, 13, 35] 64 (fun gk a b c d e f g h i wr => ∃ (k : Nat) (v : S8), k ≤ 64 ∧ gk = 64 - k ∧ i = .int .i64 k ∧ Hid (v = rnds (s8of [s0, s1, s2, s3, s4, s5, s6, s7]) rs ws k) ∧ a = .int .u32 v.a ∧ b = .int .u32 v.b ∧ c = .int .u32 v.c ∧ d = .int .u32 v.d ∧ e = .int .u32 v.e ∧ f = .int .u32 v.f ∧ g = .int .u32 v.g ∧ h = .int .u32 v.h ∧ Fo w wr [s0, s1, s2, s3, s4, s5, s6, s7] ws rs N)
  case atStart =>
    go_light
    exact ⟨0, s8of [s0, s1, s2, s3, s4, s5, s6, s7], Nat.zero_le _, rfl, rfl, rfl, rfl, rfl, rfl, rfl, rfl, rfl, rfl, rfl, hFo.drew.drew⟩
  case round =>
    clear hFo
    obtain ⟨k, v, hk, rfl, rfl, hv, rfl, rfl, rfl, rfl, rfl, rfl, rfl, rfl, hFo⟩ := hrel
    by_cases hlt : k < 64
    · have hk0 : (0 : Int) ≤ (k : Int) := Int.natCast_nonneg _
      have hk8 : (k : Int) < 64 := by omega
      have cr := cell_cW0 hFo.rs (i := k) (by omega)
      have cw := cell_cW0 hFo.ws (i := k) (by omega)
      have HV : Hid (∀ v', v' = v.rnd (rs.getD k 0) (ws.getD k 0) → v' = rnds (s8of [s0, s1, s2, s3, s4, s5, s6, s7]) rs ws (k + 1)) := fun v' h => by
        rw [h, show v = rnds (s8of [s0, s1, s2, s3, s4, s5, s6, s7]) rs ws k from hv]; rfl
      have HF : Hid (Fo w wr.drew [s0, s1, s2, s3, s4, s5, s6, s7] ws rs N) := hFo.drew
      clear hFo hv
      generalize rs.getD k 0 = r at *
      generalize ws.getD k 0 = x at *
      obtain ⟨a, b, c, d, e, f, g, h⟩ := v
      dsimp only at *
      go_wp2
      go_region_held3 (fun w' => w'.cell? ⟨0, k, none⟩ = some (.int .u32 r) ∧ w'.cell? ⟨N, k, none⟩ = some (.int .u32 x)) (first | assumption | (refine ⟨?_, ?_⟩ <;> first | assumption | (rw [World.cell?_drew]; assumption))) (first | (go_at_call 88; refine (turned_any _ _ _ (by decide) (by decide)).mono ?_; rintro e w' ⟨rfl, rfl⟩))
      go_wp2_with (go_at_call 88; refine (turned_any _ _ _ (by decide) (by decide)).mono ?_; rintro e w' ⟨rfl, rfl⟩)
      go_roundg (64 - (k + 1))
      case rel =>
        go_light
        refine ⟨k + 1, _, by omega, rfl, by go_num, HV.out _ rfl, ?_, rfl, rfl, rfl, ?_, rfl, rfl, rfl, HF.out⟩ <;> simp only [S8.rnd, oneI, twoI, IntKind.wrap_u32']
      case measure => go_light; omega
    · obtain rfl : k = 64 := by omega
      clear hk hlt
      have c0 : wr.cell? ⟨w.heap.size, 0, none⟩ = some (.int .u32 s0) := cell_cW0 hFo.st (i := 0) (by simp)
      have c1 : wr.cell? ⟨w.heap.size, 1, none⟩ = some (.int .u32 s1) := cell_cW0 hFo.st (i := 1) (by simp)
      have c2 : wr.cell? ⟨w.heap.size, 2, none⟩ = some (.int .u32 s2) := cell_cW0 hFo.st (i := 2) (by simp)
      have c3 : wr.cell? ⟨w.heap.size, 3, none⟩ = some (.int .u32 s3) := cell_cW0 hFo.st (i := 3) (by simp)
      have c4 : wr.cell? ⟨w.heap.size, 4, none⟩ = some (.int .u32 s4) := cell_cW0 hFo.st (i := 4) (by simp)
      have c5 : wr.cell? ⟨w.heap.size, 5, none⟩ = some (.int .u32 s5) := cell_cW0 hFo.st (i := 5) (by simp)
      have c6 : wr.cell? ⟨w.heap.size, 6, none⟩ = some (.int .u32 s6) := cell_cW0 hFo.st (i := 6) (by simp)
      have c7 : wr.cell? ⟨w.heap.size, 7, none⟩ = some (.int .u32 s7) := cell_cW0 hFo.st (i := 7) (by simp)
      have hres := hFo.res
      have hbel := hFo.below
      clear hFo
      have HV : Hid (foldI rs [s0, s1, s2, s3, s4, s5, s6, s7] blk = sumI ⟨s0, s1, s2, s3, s4, s5, s6, s7⟩ v) := by
        show _ = _
        rw [show v = _ from hv, show ws = _ from HE]; rfl
      clear hv
      obtain ⟨a, b, c, d, e, f, g, h⟩ := v
      dsimp only at *
      go_wp2_with (refine wpList_store_mid rfl 119 _ _ rfl (w.heap.size + 1 + 1) 0 (cW [_, _, _, _, _, _, _, _]).toArray rfl rfl hres size34 (all_oneCell_toArray (cW_one _)) ?_)
      refine bodyPost_ret (v := .agg (cW (sumI ⟨s0, s1, s2, s3, s4, s5, s6, s7⟩ ⟨a, b, c, d, e, f, g, h⟩)).toArray) ?_ rfl ⟨by rw [HV.out], ?_⟩
      · refine results_cell_mid Tryd.results80 _ _ (w.heap.size + 1 + 1) 0 (cW (sumI ⟨s0, s1, s2, s3, s4, s5, s6, s7⟩ ⟨a, b, c, d, e, f, g, h⟩)) (.array 8 118) ?_ ?_ Tryd.underlying119 rfl size34
        · rfl
        · go_light
          simp only [sumI, IntKind.wrap_u32']
          exact World.rangeAt_setCells_same _ _ _ _ hres
      · go_light
        exact below_setCells hbel (by omega) _ _
end Go.Proofs.YtabdobdopcfllaaDoor
