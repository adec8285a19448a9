/-
  Own work: ShWalkB, ShSpec3.
-/
import Derived.WalkKit
import Derived.WalkSpells
import Derived.Outline
import Derived.KernelRfl
import Derived.Deep.LoopGhost
import Derived.Deep.RegionHeld3
import Derived.Deep.MidRow
import Derived.Deep.DrawnRows
import Derived.Deep.Light
import Derived.Test.YtdocjikpcbmcgaaGreatDoorQs00
namespace Go.Proofs.YtdocjikpcbmcgaaGreatDoor
open Go.RowKit
attribute [local go_sem ↓] Go.wp_at_zero Go.wp_at_succ
theorem size35 : (Tryz.prog.info? 221).map (·.size) = some 64 := by kernel_rfl
theorem size34 : (Tryz.prog.info? 113).map (·.size) = some 8 := by kernel_rfl
structure Fo (w wr : World) (st ws rs : List Int) (N : Nat) : Prop where
  below : Below w.heap.size w wr
  st : wr.rangeAt w.heap.size 0 (cW st)
  res : wr.there (w.heap.size + 1 + 1) 0 8
  ws : wr.rangeAt N 0 (cW ws)
  rs : wr.rangeAt 2 0 (cW rs)
theorem Fo.drew {w wr : World} {st ws rs : List Int} {N : Nat} (h : Fo w wr st ws rs N) : Fo w wr.drew st ws rs N :=
  ⟨h.below.drew, by rw [World.rangeAt_drew]; exact h.st, by rw [World.there_drew]; exact h.res, by rw [World.rangeAt_drew]; exact h.ws, by rw [World.rangeAt_drew]; exact h.rs⟩
theorem Fo.start {w w' : World} {st blk ws rs : List Int} {t1 t2 t3 t4 : TypeId} {z : List Int} (hz : z.length = 8) {z2 : Array Value} (hz2 : z2.size = 64) (hwl : ws.length = 64) (hrl : rs.length = 64)
    (hr : w.rangeAt 2 0 (cW rs))
    (hb : Below (((w.alloc (.cells (cW st).toArray t1)).alloc (.cells (cB blk).toArray t2)).alloc (.cells (cW z).toArray t3)).heap.size (((w.alloc (.cells (cW st).toArray t1)).alloc (.cells (cB blk).toArray t2)).alloc (.cells (cW z).toArray t3)) w') :
    Fo w ((w'.alloc (.cells z2 t4)).setCells w'.heap.size 0 (cW ws)) st ws rs w'.heap.size := by
  have hlt : 2 < w.heap.size := range_lt hr (by intro h; have := congrArg List.length h; simp [cW_len, hrl] at this)
  have hN : w.heap.size + 3 ≤ w'.heap.size := by have := hb.size; simp at this; omega
  have hbw2 : Below w.heap.size w w' := ((((Below.refl _ _).alloc (Nat.le_refl _) _).alloc (by simp) _).alloc (by simp; omega) _).trans (hb.mono (by simp; omega))
  have h1 : w'.rangeAt w.heap.size 0 (cW st) := range_below hb (by simp; omega) (World.rangeAt_alloc (World.rangeAt_alloc (range_new _ _ _) _) _)
  have h2 : w'.there (w.heap.size + 1 + 1) 0 8 := by
    have := there_new ((w.alloc (.cells (cW st).toArray t1)).alloc (.cells (cB blk).toArray t2)) (cW z).toArray t3 8 (by simp [cW_len, hz])
    simp only [World.size_alloc] at this
    exact there_below hb (by simp) this
  have h3 : w'.rangeAt 2 0 (cW rs) := range_below hbw2 hlt hr
  refine ⟨below_setCells (hbw2.alloc (by omega) _) (by omega) _ _, ?_, ?_, ?_, ?_⟩
  · exact World.rangeAt_setCells_apart (World.rangeAt_alloc h1 _) _ _ _ (Or.inl (by omega))
  · exact World.there_setCells (World.there_alloc h2 _) _ _ _
  · exact World.rangeAt_setCells_same _ _ _ _ (there_new _ _ _ _ (by rw [cW_len, hwl, hz2]; exact Nat.le_refl _))
  · exact World.rangeAt_setCells_apart (World.rangeAt_alloc h3 _) _ _ _ (Or.inl (by omega))
set_option maxHeartbeats 2000000 in
set_option maxRecDepth 100000 in
theorem folded_any (st : List Int) (hst : st.length = 8) (blk : List Int) (hl : blk.length = 64) (w : World) (rs : List Int) (hrl : rs.length = 64) (hr : w.rangeAt 2 0 (cW rs)) :
    Calls Tryz.prog 194 #[.agg (cW st).toArray, .agg (cB blk).toArray] w fun e w' => e = .returned (.agg (cW (foldI rs st blk)).toArray) ∧ Below w.heap.size w w' := by
  obtain ⟨s0, s1, s2, s3, s4, s5, s6, s7, rfl⟩ := list8 hst
  clear hst
  obtain ⟨ws, hws⟩ : ∃ ws, ws = schN blk 48 := ⟨_, rfl⟩
  have hwl : ws.length = 64 := by rw [hws, schN_len]
  have hsched := fun w => schedule_any blk hl w
  rw [← hws] at hsched
  have HE : Hid (ws = schN blk 48) := hws
  clear hws
  have hi35 : (Tryz.prog.info? 221).map (·.size) = some (cB blk).length := by rw [cB_len, hl]; exact size35
  have hi46 : (Tryz.prog.info? 167).map (·.size) = some (cW ws).toArray.size := by rw [List.size_toArray, cW_len, hwl]; exact size46
  have hsz : (cW ws).toArray.size = 64 := by simp [cW_len, hwl]
  have r1 := fun o => World.rangeAt_alloc (range_new (w.alloc o) (cB blk) 221)
  simp only [World.size_alloc] at r1
  go_enter Tryz.func194, Tryz.ntmps194
  go_wp2_with (first | (refine wpList_load_mid rfl 221 _ rfl (w.heap.size + 1) 0 rfl (cB blk) _ (r1 _ _) Tryz.underlying221 rfl hi35 ?_) | (go_at_call 196; refine (hsched _).mono ?_; rintro e w' ⟨rfl, hbw⟩) | (refine wpList_store_mid rfl 167 _ _ rfl _ 0 (cW ws).toArray rfl rfl ?_ hi46 (all_oneCell_toArray (cW_one ws)) ?_; exact there_new _ _ _ _ (by rw [hsz]; exact Nat.le_refl 64)))
  go_simp
  have hFo := Fo.start (z := [0, 0, 0, 0, 0, 0, 0, 0]) (z2 := (cW (List.replicate 64 0)).toArray) (t4 := 167) rfl rfl hwl hrl hr hbw
  clear hbw r1 hsched
  replace hFo : Fo w ((w'.alloc (.cells #[.int .u32 0, .int .u32 0, .int .u32 0, .int .u32 0, .int .u32 0, .int .u32 0, .int .u32 0, .int .u32 0, .int .u32 0, .int .u32 0, .int .u32 0, .int .u32 0, .int .u32 0, .int .u32 0, .int .u32 0, .int .u32 0, .int .u32 0, .int .u32 0, .int .u32 0, .int .u32 0, .int .u32 0, .int .u32 0, .int .u32 0, .int .u32 0, .int .u32 0, .int .u32 0, .int .u32 0, .int .u32 0, .int .u32 0, .int .u32 0, .int .u32 0, .int .u32 0, .int .u32 0, .int .u32 0, .int .u32 0, .int .u32 0, .int .u32 0, .int .u32 0, .int .u32 0, .int .u32 0, .int .u32 0, .int .u32 0, .int .u32 0, .int .u32 0, .int .u32 0, .int .u32 0, .int .u32 0, .int .u32 0, .int .u32 0, .int .u32 0, .int .u32 0, .int .u32 0, .int .u32 0, .int .u32 0, .int .u32 0, .int .u32 0, .int .u32 0, .int .u32 0, .int .u32 0, .int .u32 0, .int .u32 0, .int .u32 0, .int .u32 0, .int .u32 0] 167)).setCells w'.heap.size 0 (cW ws)) [s0, s1, s2, s3, s4, s5, s6, s7] ws rs w'.heap.size := hFo
  generalize ((w'.alloc (.cells #[.int .u32 0, .int .u32 0, .int .u32 0, .int .u32 0, .int .u32 0, .int .u32 0, .int .u32 0, .int .u32 0, .int .u32 0, .int .u32 0, .int .u32 0, .int .u32 0, .int .u32 0, .int .u32 0, .int .u32 0, .int .u32 0, .int .u32 0, .int .u32 0, .int .u32 0, .int .u32 0, .int .u32 0, .int .u32 0, .int .u32 0, .int .u32 0, .int .u32 0, .int .u32 0, .int .u32 0, .int .u32 0, .int .u32 0, .int .u32 0, .int .u32 0, .int .u32 0, .int .u32 0, .int .u32 0, .int .u32 0, .int .u32 0, .int .u32 0, .int .u32 0, .int .u32 0, .int .u32 0, .int .u32 0, .int .u32 0, .int .u32 0, .int .u32 0, .int .u32 0, .int .u32 0, .int .u32 0, .int .u32 0, .int .u32 0, .int .u32 0, .int .u32 0, .int .u32 0, .int .u32 0, .int .u32 0, .int .u32 0, .int .u32 0, .int .u32 0, .int .u32 0, .int .u32 0, .int .u32 0, .int .u32 0, .int .u32 0, .int .u32 0, .int .u32 0] 167)).setCells w'.heap.size 0 (cW ws)) = W2 at *
  generalize w'.heap.size = N at *
  clear w'
  have c0 : W2.cell? ⟨w.heap.size, 0, none⟩ = some (.int .u32 s0) := cell_cW0 hFo.st (i := 0) (by simp)
  have c1 : W2.cell? ⟨w.heap.size, 1, none⟩ = some (.int .u32 s1) := cell_cW0 hFo.st (i := 1) (by simp)
  have c2 : W2.cell? ⟨w.heap.size, 2, none⟩ = some (.int .u32 s2) := cell_cW0 hFo.st (i := 2) (by simp)
  have c3 : W2.cell? ⟨w.heap.size, 3, none⟩ = some (.int .u32 s3) := cell_cW0 hFo.st (i := 3) (by simp)
  have c4 : W2.cell? ⟨w.heap.size, 4, none⟩ = some (.int .u32 s4) := cell_cW0 hFo.st (i := 4) (by simp)
  have c5 : W2.cell? ⟨w.heap.size, 5, none⟩ = some (.int .u32 s5) := cell_cW0 hFo.st (i := 5) (by simp)
  have c6 : W2.cell? ⟨w.heap.size, 6, none⟩ = some (.int .u32 s6) := cell_cW0 hFo.st (i := 6) (by simp)
  have c7 : W2.cell? ⟨w.heap.size, 7, none⟩ = some (.int .u32 s7) := cell_cW0 hFo.st (i := 7) (by simp)
  go_region_held3 (fun w' => w'.cell? ⟨w.heap.size, 0, none⟩ = some (.int .u32 s0) ∧ w'.cell? ⟨w.heap.size, 1, none⟩ = some (.int .u32 s1) ∧ w'.cell? ⟨w.heap.size, 2, none⟩ = some (.int .u32 s2) ∧ w'.cell? ⟨w.heap.size, 3, none⟩ = some (.int .u32 s3)) (first | assumption | (refine ⟨?_, ?_, ?_, ?_⟩ <;> first | assumption | (rw [World.cell?_drew]; assumption))) (fail)
  go_wp2
  go_region_held3 (fun w' => w'.cell? ⟨w.heap.size, 4, none⟩ = some (.int .u32 s4) ∧ w'.cell? ⟨w.heap.size, 5, none⟩ = some (.int .u32 s5) ∧ w'.cell? ⟨w.heap.size, 6, none⟩ = some (.int .u32 s6) ∧ w'.cell? ⟨w.heap.size, 7, none⟩ = some (.int .u32 s7)) (first | assumption | (refine ⟨?_, ?_, ?_, ?_⟩ <;> first | assumption | (rw [World.cell?_drew]; assumption))) (fail)
  clear c0 c1 c2 c3 c4 c5 c6 c7
  go_wp2
  go_loopg [6, 7, 8, 9, 10, 11, 12, 13, 35] 64 (fun gk a b c d e f g h i wr => ∃ (k : Nat) (v : S8), k ≤ 64 ∧ gk = 64 - k ∧ i = .int .i64 k ∧ Hid (v = rnds (s8of [s0, s1, s2, s3, s4, s5, s6, s7]) rs ws k) ∧ a = .int .u32 v.a ∧ b = .int .u32 v.b ∧ c = .int .u32 v.c ∧ d = .int .u32 v.d ∧ e = .int .u32 v.e ∧ f = .int .u32 v.f ∧ g = .int .u32 v.g ∧ h = .int .u32 v.h ∧ Fo w wr [s0, s1, s2, s3, s4, s5, s6, s7] ws rs N)
  case atStart =>
    go_light
    exact ⟨0, s8of [s0, s1, s2, s3, s4, s5, s6, s7], Nat.zero_le _, rfl, rfl, rfl, rfl, rfl, rfl, rfl, rfl, rfl, rfl, rfl, hFo.drew.drew⟩
  case round =>
    clear hFo
    obtain ⟨k, v, hk, rfl, rfl, hv, rfl, rfl, rfl, rfl, rfl, rfl, rfl, rfl, hFo⟩ := hrel
    by_cases hlt : k < 64
    · have hk0 : (0 : Int) ≤ (k : Int) := Int.natCast_nonneg _
      have hk8 : (k : Int) < 64 := by omega
      have cr := cell_cW0 hFo.rs (i := k) (by omega)
      have cw := cell_cW0 hFo.ws (i := k) (by omega)
      have HV : Hid (∀ v', v' = v.rnd (rs.getD k 0) (ws.getD k 0) → v' = rnds (s8of [s0, s1, s2, s3, s4, s5, s6, s7]) rs ws (k + 1)) := fun v' h => by
        rw [h, show v = rnds (s8of [s0, s1, s2, s3, s4, s5, s6, s7]) rs ws k from hv]; rfl
      have HF : Hid (Fo w wr.drew [s0, s1, s2, s3, s4, s5, s6, s7] ws rs N) := hFo.drew
      clear hFo hv
      generalize rs.getD k 0 = r at *
      generalize ws.getD k 0 = x at *
      obtain ⟨a, b, c, d, e, f, g, h⟩ := v
      dsimp only at *
      go_wp2
      go_region_held3 (fun w' => w'.cell? ⟨2, k, none⟩ = some (.int .u32 r) ∧ w'.cell? ⟨N, k, none⟩ = some (.int .u32 x)) (first | assumption | (refine ⟨?_, ?_⟩ <;> first | assumption | (rw [World.cell?_drew]; assumption))) (first | (go_at_call 197; refine (turned_any _ _ _ (by decide) (by decide)).mono ?_; rintro e w' ⟨rfl, rfl⟩))
      go_wp2_with (go_at_call 197; refine (turned_any _ _ _ (by decide) (by decide)).mono ?_; rintro e w' ⟨rfl, rfl⟩)
      go_roundg (64 - (k + 1))
      case rel =>
        go_light
        refine ⟨k + 1, _, by omega, rfl, by go_num, HV.out _ rfl, ?_, rfl, rfl, rfl, ?_, rfl, rfl, rfl, HF.out⟩ <;> simp only [S8.rnd, oneI, twoI, IntKind.wrap_u32']
      case measure => go_light; omega
    · obtain rfl : k = 64 := by omega
      clear hk hlt
      have c0 : wr.cell? ⟨w.heap.size, 0, none⟩ = some (.int .u32 s0) := cell_cW0 hFo.st (i := 0) (by simp)
      have c1 : wr.cell? ⟨w.heap.size, 1, none⟩ = some (.int .u32 s1) := cell_cW0 hFo.st (i := 1) (by simp)
      have c2 : wr.cell? ⟨w.heap.size, 2, none⟩ = some (.int .u32 s2) := cell_cW0 hFo.st (i := 2) (by simp)
      have c3 : wr.cell? ⟨w.heap.size, 3, none⟩ = some (.int .u32 s3) := cell_cW0 hFo.st (i := 3) (by simp)
      have c4 : wr.cell? ⟨w.heap.size, 4, none⟩ = some (.int .u32 s4) := cell_cW0 hFo.st (i := 4) (by simp)
      have c5 : wr.cell? ⟨w.heap.size, 5, none⟩ = some (.int .u32 s5) := cell_cW0 hFo.st (i := 5) (by simp)
      have c6 : wr.cell? ⟨w.heap.size, 6, none⟩ = some (.int .u32 s6) := cell_cW0 hFo.st (i := 6) (by simp)
      have c7 : wr.cell? ⟨w.heap.size, 7, none⟩ = some (.int .u32 s7) := cell_cW0 hFo.st (i := 7) (by simp)
      have hres := hFo.res
      have hbel := hFo.below
      clear hFo
      have HV : Hid (foldI rs [s0, s1, s2, s3, s4, s5, s6, s7] blk = sumI ⟨s0, s1, s2, s3, s4, s5, s6, s7⟩ v) := by
        show _ = _
        rw [show v = _ from hv, show ws = _ from HE]; rfl
      clear hv
      obtain ⟨a, b, c, d, e, f, g, h⟩ := v
      dsimp only at *
      go_wp2_with (refine wpList_store_mid rfl 113 _ _ rfl (w.heap.size + 1 + 1) 0 (cW [_, _, _, _, _, _, _, _]).toArray rfl rfl hres size34 (all_oneCell_toArray (cW_one _)) ?_)
      refine bodyPost_ret (v := .agg (cW (sumI ⟨s0, s1, s2, s3, s4, s5, s6, s7⟩ ⟨a, b, c, d, e, f, g, h⟩)).toArray) ?_ rfl ⟨by rw [HV.out], ?_⟩
      · refine results_cell_mid Tryz.results194 _ _ (w.heap.size + 1 + 1) 0 (cW (sumI ⟨s0, s1, s2, s3, s4, s5, s6, s7⟩ ⟨a, b, c, d, e, f, g, h⟩)) (.array 8 112) ?_ ?_ Tryz.underlying113 rfl size34
        · rfl
        · go_light
          simp only [sumI, IntKind.wrap_u32']
          exact World.rangeAt_setCells_same _ _ _ _ hres
      · go_light
        exact below_setCells hbel (by omega) _ _
end Go.Proofs.YtdocjikpcbmcgaaGreatDoor
namespace Go.Proofs.YtdocjikpcbmcgaaGreatDoor
open Go.RowKit
def endL (blk : List Int) (u : Nat) : List Int := (blk.set u 128).take (u + 1) ++ List.replicate (64 - (u + 1)) 0
def lenAt (l : List Int) (b : Int) : Nat → List Int
  | 0 => l
  | k + 1 => (lenAt l b k).set (63 - k) (IntKind.u8.wrap (b / 2 ^ (8 * k)))
def closeI (rs st blk : List Int) (n : Nat) : List Int :=
  if 55 < n % 64 then foldI rs (foldI rs st (endL blk (n % 64))) (lenAt (List.replicate 64 0) (IntKind.u64.wrap ((n : Int) * 8)) 8)
  else foldI rs st (lenAt (endL blk (n % 64)) (IntKind.u64.wrap ((n : Int) * 8)) 8)
theorem endL_len {blk : List Int} (h : blk.length = 64) {u : Nat} (hu : u < 64) : (endL blk u).length = 64 := by
  simp [endL, h]; omega
theorem closeI_len (rs st blk : List Int) (n : Nat) : (closeI rs st blk n).length = 8 := by
  unfold closeI; split <;> rfl
structure Hs (w : World) (p : Nat) (st blk : List Int) (n : Nat) : Prop where
  stl : st.length = 8
  blkl : blk.length = 64
  st : w.rangeAt p 0 (cW st)
  blk : w.rangeAt p 8 (cB blk)
  len : w.cell? ⟨p, 72, none⟩ = some (.int .u64 n)
  there : w.there p 0 73
theorem Hs.lt {w : World} {p : Nat} {st blk : List Int} {n : Nat} (h : Hs w p st blk n) : p < w.heap.size := World.block_lt_of_cell? _ _ h.len
theorem Hs.later {w w' : World} {p B : Nat} {st blk : List Int} {n : Nat} (h : Hs w p st blk n) (hb : Below B w w') (hp : p < B) : Hs w' p st blk n :=
  ⟨h.stl, h.blkl, range_below hb hp h.st, range_below hb hp h.blk, by rw [hb.cell (p := ⟨p, 72, none⟩) hp]; exact h.len, there_below hb hp h.there⟩
theorem range_part {w : World} {b : Nat} {cs : List Value} (h : w.rangeAt b 0 cs) (k : Nat) (vs : List Value) (hk : k + vs.length = cs.length) (ht : w.there b k vs.length) :
    (w.setCells b k vs).rangeAt b 0 (cs.take k ++ vs) := fun j u hu => by
  rw [Nat.zero_add]
  by_cases hj : j < k
  · rw [List.getElem?_append_left (by simp; omega), List.getElem?_take, if_pos hj] at hu
    rw [World.cell?_setCells_out b vs k w ⟨b, j, none⟩ (fun _ _ => Or.inl hj)]
    have := h j u hu
    rwa [Nat.zero_add] at this
  · rw [List.getElem?_append_right (by simp; omega)] at hu
    have hlen : (cs.take k).length = k := by simp; omega
    rw [hlen] at hu
    have hlt : j - k < vs.length := (List.getElem?_eq_some_iff.1 hu).1
    have := World.cell?_setCells_in b vs k w (fun i hi => (ht i hi).1) (j - k) hlt
    rw [show k + (j - k) = j by omega] at this
    rw [this, ← hu, List.getElem?_eq_getElem hlt]
structure Cl (w wc : World) (st last : List Int) (bs bl : Nat) : Prop where
  stl : st.length = 8
  lastl : last.length = 64
  below : Below w.heap.size w wc
  hbs : w.heap.size + 1 ≤ bs
  hbl : w.heap.size + 1 ≤ bl
  ne : bs ≠ bl
  st : wc.rangeAt bs 0 (cW st)
  stt : wc.there bs 0 8
  last : wc.rangeAt bl 0 (cB last)
  lastt : wc.there bl 0 64
  res : wc.there w.heap.size 0 8
theorem Cl.one (w : World) (st blk : List Int) (hs : st.length = 8) (hb : blk.length = 64) (z : List Int) (hz : z.length = 8) (z2 : List Int) (hz2 : z2.length = 64) (t1 t2 t3 : TypeId) :
    Cl w ((((w.alloc (.cells (cW z).toArray t1)).alloc (.cells (cW st).toArray t2)).alloc (.cells (cB z2).toArray t3)).drew.setCells (w.heap.size + 1 + 1) 0 (cB blk)) st blk (w.heap.size + 1) (w.heap.size + 1 + 1) := by
  have r1 := range_new (w.alloc (.cells (cW z).toArray t1)) (cW st) t2
  have q1 := there_new (w.alloc (.cells (cW z).toArray t1)) (cW st).toArray t2 8 (by simp [cW_len, hs])
  have q2 := there_new ((w.alloc (.cells (cW z).toArray t1)).alloc (.cells (cW st).toArray t2)) (cB z2).toArray t3 64 (by simp [cB_len, hz2])
  have q0 := there_new w (cW z).toArray t1 8 (by simp [cW_len, hz])
  simp only [World.size_alloc] at r1 q1 q2 q0
  refine ⟨hs, hb, below_setCells ((((Below.refl _ _).alloc (Nat.le_refl _) _).alloc (by simp) _).alloc (by simp; omega) _).drew (by omega) _ _, by omega, by omega, by omega, ?_, ?_, ?_, ?_, ?_⟩
  · exact World.rangeAt_setCells_apart (by rw [World.rangeAt_drew]; exact World.rangeAt_alloc r1 _) _ _ _ (Or.inl (by omega))
  · exact World.there_setCells (by rw [World.there_drew]; exact World.there_alloc q1 _) _ _ _
  · exact World.rangeAt_setCells_same _ _ _ _ (by rw [World.there_drew, cB_len, hb]; exact q2)
  · exact World.there_setCells (by rw [World.there_drew]; exact q2) _ _ _
  · exact World.there_setCells (by rw [World.there_drew]; exact World.there_alloc (World.there_alloc q0 _) _) _ _ _
theorem Cl.two (w : World) (st blk : List Int) (hs : st.length = 8) (hb : blk.length = 64) (z : List Int) (hz : z.length = 8) (z2 : List Int) (hz2 : z2.length = 64) (t1 t2 t3 : TypeId) :
    Cl w ((((w.alloc (.cells (cW z).toArray t1)).alloc (.cells (cB z2).toArray t3)).alloc (.cells (cW st).toArray t2)).drew.setCells (w.heap.size + 1) 0 (cB blk)) st blk (w.heap.size + 1 + 1) (w.heap.size + 1) := by
  have r1 := range_new ((w.alloc (.cells (cW z).toArray t1)).alloc (.cells (cB z2).toArray t3)) (cW st) t2
  have q1 := there_new ((w.alloc (.cells (cW z).toArray t1)).alloc (.cells (cB z2).toArray t3)) (cW st).toArray t2 8 (by simp [cW_len, hs])
  have q2 := there_new (w.alloc (.cells (cW z).toArray t1)) (cB z2).toArray t3 64 (by simp [cB_len, hz2])
  have q0 := there_new w (cW z).toArray t1 8 (by simp [cW_len, hz])
  simp only [World.size_alloc] at r1 q1 q2 q0
  refine ⟨hs, hb, below_setCells ((((Below.refl _ _).alloc (Nat.le_refl _) _).alloc (by simp) _).alloc (by simp; omega) _).drew (by omega) _ _, by omega, by omega, by omega, ?_, ?_, ?_, ?_, ?_⟩
  · exact World.rangeAt_setCells_apart (by rw [World.rangeAt_drew]; exact r1) _ _ _ (Or.inl (by omega))
  · exact World.there_setCells (by rw [World.there_drew]; exact q1) _ _ _
  · exact World.rangeAt_setCells_same _ _ _ _ (by rw [World.there_drew, cB_len, hb]; exact World.there_alloc q2 _)
  · exact World.there_setCells (by rw [World.there_drew]; exact World.there_alloc q2 _) _ _ _
  · exact World.there_setCells (by rw [World.there_drew]; exact World.there_alloc (World.there_alloc q0 _) _) _ _ _
theorem Cl.set {w wc : World} {st last : List Int} {bs bl : Nat} (h : Cl w wc st last bs bl) (i : Nat) (v : Int) : Cl w (wc.setCell ⟨bl, i, none⟩ (.int .u8 v)) st (last.set i v) bs bl := by
  have hbl := h.hbl
  refine ⟨h.stl, by rw [List.length_set]; exact h.lastl, h.below.setCell (by show w.heap.size ≤ bl; omega) _, h.hbs, h.hbl, h.ne, range_other h.st (Ne.symm h.ne) _, there_set h.stt _ _, ?_, there_set h.lastt _ _, there_set h.res _ _⟩
  have := range_set h.last i (.int .u8 v)
  rwa [Nat.zero_add, cB_set] at this
theorem Cl.rest {w wc : World} {st last : List Int} {bs bl : Nat} (h : Cl w wc st last bs bl) (k : Nat) (hk : k ≤ 64) :
    Cl w (wc.setCells bl k (List.replicate (64 - k) (.int .u8 0))) st (last.take k ++ List.replicate (64 - k) 0) bs bl := by
  have hbl := h.hbl
  have hl := h.lastl
  have e : (List.replicate (64 - k) (Value.int .u8 0)) = cB (List.replicate (64 - k) 0) := by simp [cB]
  refine ⟨h.stl, by simp [hl]; omega, below_setCells h.below (by omega) _ _, h.hbs, h.hbl, h.ne, World.rangeAt_setCells_apart h.st _ _ _ (Or.inl h.ne), World.there_setCells h.stt _ _ _, ?_, World.there_setCells h.lastt _ _ _, World.there_setCells h.res _ _ _⟩
  have := range_part h.last k (List.replicate (64 - k) (Value.int .u8 0)) (by simp [cB_len, hl]; omega) (fun j hj => by
    have := h.lastt (k + j) (by simp at hj; omega)
    rwa [Nat.zero_add] at this)
  rw [e] at this
  rw [e]
  simpa [cB, List.map_take] using this
theorem Cl.later {w wc w' : World} {st last : List Int} {bs bl : Nat} (h : Cl w wc st last bs bl) (hb : Below wc.heap.size wc w') : Cl w w' st last bs bl := by
  have h1 := there_lt h.stt (by decide)
  have h2 := there_lt h.lastt (by decide)
  have h3 := there_lt h.res (by decide)
  exact ⟨h.stl, h.lastl, h.below.trans (hb.mono (by omega)), h.hbs, h.hbl, h.ne, range_below hb h1 h.st, there_below hb h1 h.stt, range_below hb h2 h.last, there_below hb h2 h.lastt, there_below hb h3 h.res⟩
theorem Cl.storeSt {w wc : World} {st last : List Int} {bs bl : Nat} (h : Cl w wc st last bs bl) (st' : List Int) (hs : st'.length = 8) : Cl w (wc.setCells bs 0 (cW st')) st' last bs bl := by
  have hbs := h.hbs
  exact ⟨hs, h.lastl, below_setCells h.below (by omega) _ _, h.hbs, h.hbl, h.ne, World.rangeAt_setCells_same _ _ _ _ (by rw [cW_len, hs]; exact h.stt), World.there_setCells h.stt _ _ _, World.rangeAt_setCells_apart h.last _ _ _ (Or.inl (Ne.symm h.ne)), World.there_setCells h.lastt _ _ _, World.there_setCells h.res _ _ _⟩
theorem Cl.storeLast {w wc : World} {st last : List Int} {bs bl : Nat} (h : Cl w wc st last bs bl) (l' : List Int) (hs : l'.length = 64) : Cl w (wc.setCells bl 0 (cB l')) st l' bs bl := by
  have hbl := h.hbl
  exact ⟨h.stl, hs, below_setCells h.below (by omega) _ _, h.hbs, h.hbl, h.ne, World.rangeAt_setCells_apart h.st _ _ _ (Or.inl h.ne), World.there_setCells h.stt _ _ _, World.rangeAt_setCells_same _ _ _ _ (by rw [cB_len, hs]; exact h.lastt), World.there_setCells h.lastt _ _ _, World.there_setCells h.res _ _ _⟩
end Go.Proofs.YtdocjikpcbmcgaaGreatDoor
