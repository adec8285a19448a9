/-
  ShSpec, ShWalkA, ShSpec2, ShWalkB, ShSpec3, ShWalkC, ShSpec4, ShWalkD, ShWalkE, ShWalkF, ShEval in one text. Own work.
-/
import Derived.Deep.MidRow
import Derived.Below
import Derived.WalkKit
import Derived.Test.YtdkcliblbaldhaaDoorProg
import Derived.WalkSpells
import Derived.Outline
import Derived.KernelRfl
import Derived.Deep.LoopGhost
import Derived.Deep.RegionHeld3
import Derived.Deep.DrawnRows
import Derived.Deep.Light
import Derived.Lib.SliceRun
import Derived.Deep.Cut
import Derived.Deep.CutRange
import Derived.Lib.LazyBuf
import Derived.Deep.RegionLaw
import Derived.Lib.BufferOwn
/-
  The sums of package sha as plain functions, in the walk's own forms; laws on ranges of cells. Own work.
-/
namespace Go.Proofs.YtdkcliblbaldhaaDoor
open Go.RowKit

def rotI (x n : Int) : Int := bits .or .u32 (x / 2 ^ n.toNat) (IntKind.u32.wrap (x * 2 ^ (32 - n).toNat))
def cB (l : List Int) : List Value := l.map (Value.int .u8)
def cW (l : List Int) : List Value := l.map (Value.int .u32)
def pad (l : List Int) : List Int := l ++ List.replicate (64 - l.length) 0
def wordI (a b c d : Int) : Int :=
  bits .or .u32 (bits .or .u32 (bits .or .u32 (IntKind.u32.wrap (IntKind.u32.wrap a * 16777216)) (IntKind.u32.wrap (IntKind.u32.wrap b * 65536))) (IntKind.u32.wrap (IntKind.u32.wrap c * 256))) (IntKind.u32.wrap d)
def sch0 (blk : List Int) : Nat → List Int
  | 0 => []
  | k + 1 => sch0 blk k ++ [wordI (blk.getD (4 * k) 0) (blk.getD (4 * k + 1) 0) (blk.getD (4 * k + 2) 0) (blk.getD (4 * k + 3) 0)]
/-- w[t] out of w[t-16], w[t-15], w[t-7], w[t-2]. -/
def nextI (a x c y : Int) : Int :=
  IntKind.u32.wrap (IntKind.u32.wrap (IntKind.u32.wrap (a + bits .xor .u32 (bits .xor .u32 (rotI x 7) (rotI x 18)) (x / 8)) + c) + bits .xor .u32 (bits .xor .u32 (rotI y 17) (rotI y 19)) (y / 1024))
def schN (blk : List Int) : Nat → List Int
  | 0 => sch0 blk 16
  | k + 1 => schN blk k ++ [nextI ((schN blk k).getD k 0) ((schN blk k).getD (k + 1) 0) ((schN blk k).getD (k + 9) 0) ((schN blk k).getD (k + 14) 0)]
theorem sch0_len (blk : List Int) (k : Nat) : (sch0 blk k).length = k := by
  induction k with
  | zero => rfl
  | succ k ih => simp [sch0, ih]
theorem schN_len (blk : List Int) (k : Nat) : (schN blk k).length = 16 + k := by
  induction k with
  | zero => exact sch0_len _ _
  | succ k ih => simp only [schN, List.length_append, ih, List.length_cons, List.length_nil]; omega
theorem pad_len {l : List Int} (h : l.length ≤ 64) : (pad l).length = 64 := by simp [pad]; omega
theorem pad_full {l : List Int} (h : l.length = 64) : pad l = l := by simp [pad, h]
theorem pad_getD (l : List Int) (i : Nat) : (pad l).getD i 0 = l.getD i 0 := by
  unfold pad
  simp only [List.getD_eq_getElem?_getD]
  by_cases h : i < l.length
  · rw [List.getElem?_append_left h]
  · rw [List.getElem?_append_right (by omega), List.getElem?_eq_none (l := l) (by omega), List.getElem?_replicate]
    split <;> rfl
theorem pad_set {l : List Int} (h : l.length < 64) (v : Int) : (pad l).set l.length v = pad (l ++ [v]) := by
  unfold pad
  rw [List.set_append_right _ _ (Nat.le_refl _)]
  obtain ⟨n, hn⟩ : ∃ n, 64 - l.length = n + 1 := ⟨64 - l.length - 1, by omega⟩
  have hn' : 64 - (l ++ [v]).length = n := by simp; omega
  rw [hn, hn', List.replicate_succ]
  simp

/-! ### cells -/
theorem cell_cB {w : World} {b o : Nat} {l : List Int} (h : w.rangeAt b o (cB l)) {i : Nat} (hi : i < l.length) : w.cell? ⟨b, o + i, none⟩ = some (.int .u8 (l.getD i 0)) :=
  h i _ (by simp [cB, List.getElem?_eq_getElem hi, List.getD_eq_getElem?_getD])
theorem cell_cW {w : World} {b o : Nat} {l : List Int} (h : w.rangeAt b o (cW l)) {i : Nat} (hi : i < l.length) : w.cell? ⟨b, o + i, none⟩ = some (.int .u32 (l.getD i 0)) :=
  h i _ (by simp [cW, List.getElem?_eq_getElem hi, List.getD_eq_getElem?_getD])
theorem cell_cB0 {w : World} {b : Nat} {l : List Int} (h : w.rangeAt b 0 (cB l)) {i : Nat} (hi : i < l.length) : w.cell? ⟨b, i, none⟩ = some (.int .u8 (l.getD i 0)) := by
  have := cell_cB h hi; rwa [Nat.zero_add] at this
theorem cell_cW0 {w : World} {b : Nat} {l : List Int} (h : w.rangeAt b 0 (cW l)) {i : Nat} (hi : i < l.length) : w.cell? ⟨b, i, none⟩ = some (.int .u32 (l.getD i 0)) := by
  have := cell_cW h hi; rwa [Nat.zero_add] at this
theorem cW_len (l : List Int) : (cW l).length = l.length := by simp [cW]
theorem cB_len (l : List Int) : (cB l).length = l.length := by simp [cB]
theorem cW_one (l : List Int) : ∀ v ∈ cW l, v.oneCell' = true := by
  intro v hv; obtain ⟨x, _, rfl⟩ := List.mem_map.1 hv; rfl
theorem cB_one (l : List Int) : ∀ v ∈ cB l, v.oneCell' = true := by
  intro v hv; obtain ⟨x, _, rfl⟩ := List.mem_map.1 hv; rfl
theorem cW_set (l : List Int) (i : Nat) (v : Int) : (cW l).set i (.int .u32 v) = cW (l.set i v) := by simp [cW, List.map_set]
theorem cB_set (l : List Int) (i : Nat) (v : Int) : (cB l).set i (.int .u8 v) = cB (l.set i v) := by simp [cB, List.map_set]

theorem keep_cell {w : World} {a b : Addr} {v u : Value} (h : w.cell? b = some u) (hne : a.block ≠ b.block) : (w.setCell a v).drew.cell? b = some u := by
  rw [World.cell?_drew, World.cell?_setCell_other _ _ _ _ (fun e => hne (by rw [e]))]; exact h
/-- One cell of a range is stored into. -/
theorem range_set {w : World} {b o : Nat} {cs : List Value} (h : w.rangeAt b o cs) (i : Nat) (v : Value) : (w.setCell ⟨b, o + i, none⟩ v).rangeAt b o (cs.set i v) := fun j u hu => by
  by_cases e : i = j
  · subst e
    rw [List.getElem?_set_self'] at hu
    cases hc : cs[i]? with
    | none => simp [hc] at hu
    | some c =>
      simp [hc] at hu; subst hu
      exact World.cell?_setCell_same _ _ _ (h i c hc)
  · rw [List.getElem?_set_ne e] at hu
    rw [World.cell?_setCell_other _ _ _ _ (fun e' => e (by have := congrArg Addr.off e'; simp at this; omega))]
    exact h j u hu
theorem range_other {w : World} {b o : Nat} {cs : List Value} (h : w.rangeAt b o cs) {a : Addr} (ha : a.block ≠ b) (v : Value) : (w.setCell a v).rangeAt b o cs := fun j u hu => by
  rw [World.cell?_setCell_other _ _ _ _ (fun e => ha (by rw [e]))]; exact h j u hu
theorem there_set {w : World} {b o n : Nat} (h : w.there b o n) (a : Addr) (v : Value) : (w.setCell a v).there b o n := fun j hj => by
  obtain ⟨h1, h2⟩ := h j hj
  refine ⟨?_, by rw [World.frozen?_setCell]; exact h2⟩
  obtain ⟨u, hu⟩ := Option.isSome_iff_exists.1 h1
  by_cases e : a = ⟨b, o + j, none⟩
  · subst e; rw [World.cell?_setCell_same _ _ _ hu]; rfl
  · rw [World.cell?_setCell_other _ _ _ _ e, hu]; rfl
theorem range_below {w w' : World} {B b o : Nat} {cs : List Value} (hb : Below B w w') (hlt : b < B) (h : w.rangeAt b o cs) : w'.rangeAt b o cs := fun j u hu => by
  rw [hb.cell (p := ⟨b, o + j, none⟩) hlt]; exact h j u hu
theorem there_below {w w' : World} {B b o n : Nat} (hb : Below B w w') (hlt : b < B) (h : w.there b o n) : w'.there b o n := fun j hj => by
  rw [hb.cell (p := ⟨b, o + j, none⟩) hlt, hb.frozen (p := ⟨b, o + j, none⟩) hlt]; exact h j hj
/-- A new block of cells. -/
theorem range_new (w : World) (cs : List Value) (t : TypeId) : (w.alloc (.cells cs.toArray t)).rangeAt w.heap.size 0 cs := fun j u hu => by
  rw [World.cell?_alloc_new, Nat.zero_add]; simpa using hu
theorem there_new (w : World) (cs : Array Value) (t : TypeId) (n : Nat) (hn : n ≤ cs.size) : (w.alloc (.cells cs t)).there w.heap.size 0 n := fun j hj => by
  refine ⟨?_, World.frozen?_alloc_new _ _ _ _⟩
  rw [World.cell?_alloc_new, Nat.zero_add, Array.getElem?_eq_getElem (by omega)]; rfl
theorem there_lt {w : World} {b o n : Nat} (h : w.there b o n) (hn : 0 < n) : b < w.heap.size := by
  obtain ⟨u, hu⟩ := Option.isSome_iff_exists.1 (h 0 hn).1
  exact World.block_lt_of_cell? _ _ hu
theorem range_lt {w : World} {b o : Nat} {cs : List Value} (h : w.rangeAt b o cs) (hn : cs ≠ []) : b < w.heap.size := by
  cases cs with
  | nil => exact absurd rfl hn
  | cons c r => exact World.block_lt_of_cell? _ _ (h 0 c rfl)
theorem wrap_id (x : Int) (h0 : 0 ≤ x) (h1 : x < 9223372036854775808) : IntKind.i64.wrap x = x := by
  simp [IntKind.wrap, IntKind.bits, IntKind.signed]; omega
end Go.Proofs.YtdkcliblbaldhaaDoor
/-
  Walks of package sha: turned, waiting, schedule. Own work.
-/
namespace Go.Proofs.YtdkcliblbaldhaaDoor
open Go.RowKit
attribute [local go_sem ↓] Go.wp_at_zero Go.wp_at_succ

theorem turned_any (x n : Int) (w : World) (hn : 0 < n) (hn' : n < 32) :
    Calls Tryd.prog 91 #[.int .u32 x, .int .u64 n] w fun e w' => e = .returned (.int .u32 (rotI x n)) ∧ w' = w := by
  go_enter Tryd.func91, Tryd.ntmps91
  go_wp2
  go_ret
  refine ⟨?_, rfl⟩
  simp only [rotI, IntKind.wrap_u32']
  rfl

theorem waiting_any (n : Int) (w : World) (b : Nat) (h0 : 0 ≤ n) (hc : w.cell? ⟨b, 72, none⟩ = some (.int .u64 n)) :
    Calls Tryd.prog 81 #[.pointer (some ⟨b, 0, none⟩)] w fun e w' => e = .returned (.int .i64 (n % 64)) ∧ w' = w := by
  go_enter Tryd.func81, Tryd.ntmps81
  go_wp2
  go_ret
  exact ⟨rfl, rfl⟩

theorem keep_off {w : World} {b i j : Nat} {v u : Value} (h : w.cell? ⟨b, i, none⟩ = some u) (hne : i ≠ j) : (w.setCell ⟨b, j, none⟩ v).drew.cell? ⟨b, i, none⟩ = some u := by
  rw [World.cell?_drew, World.cell?_setCell_other _ _ _ _ (fun e => hne (by have := congrArg Addr.off e; simpa using this.symm))]; exact h
theorem size46 : (Tryd.prog.info? 128).map (·.size) = some 64 := by kernel_rfl
theorem results_cell_mid {P : Program} {fn : Func} {p : Tmp} {ty : TypeId} (h : fn.results = #[.cell p ty]) (tmps : Array Value) (w : World) (b o : Nat) (cs : List Value) (d : TypeDesc)
    (hp : tmps.getD p undef = .pointer (some ⟨b, o, none⟩)) (hc : w.rangeAt b o cs)
    (hu : P.underlying ty = some d) (hd : d.isRow = true) (hi : (P.info? ty).map (·.size) = some cs.length) :
    (results fn tmps).run P w = .ok (.agg cs.toArray) w := by
  have hp' : tmps[p]?.getD undef = .pointer (some ⟨b, o, none⟩) := by simpa using hp
  simp [results, h, hp', asAddr, run_loadVar_mid w b o ty cs d hc hu hd hi]
theorem below_setCells {B : Nat} {a w : World} (h : Below B a w) {b : Nat} (hb : B ≤ b) (o : Nat) (cs : List Value) : Below B a (w.setCells b o cs) := by
  induction cs generalizing o w with
  | nil => exact h
  | cons c r ih => exact ih (h.setCell (p := ⟨b, o, none⟩) hb c) (o + 1)
structure Sch (w wr : World) (blk ws : List Int) : Prop where
  below : Below w.heap.size w wr
  blk : wr.rangeAt w.heap.size 0 (cB blk)
  res : wr.there (w.heap.size + 1) 0 64
  ws : wr.rangeAt (w.heap.size + 1 + 1) 0 (cW (pad ws))
  wst : wr.there (w.heap.size + 1 + 1) 0 64

theorem Sch.step {w wr : World} {blk ws : List Int} (h : Sch w wr blk ws) (hl : ws.length < 64) (v : Int) :
    Sch w (wr.setCell ⟨w.heap.size + 1 + 1, ws.length, none⟩ (.int .u32 v)).drew blk (ws ++ [v]) := by
  refine ⟨(h.below.setCell (by show w.heap.size ≤ w.heap.size + 1 + 1; omega) _).drew, ?_, ?_, ?_, ?_⟩
  · rw [World.rangeAt_drew]; exact range_other h.blk (by show w.heap.size + 1 + 1 ≠ w.heap.size; omega) _
  · rw [World.there_drew]; exact there_set h.res _ _
  · rw [World.rangeAt_drew]
    have := range_set h.ws ws.length (.int .u32 v)
    rw [Nat.zero_add, cW_set, pad_set hl] at this
    exact this
  · rw [World.there_drew]; exact there_set h.wst _ _

theorem Sch.drew {w wr : World} {blk ws : List Int} (h : Sch w wr blk ws) : Sch w wr.drew blk ws :=
  ⟨h.below.drew, by rw [World.rangeAt_drew]; exact h.blk, by rw [World.there_drew]; exact h.res, by rw [World.rangeAt_drew]; exact h.ws, by rw [World.there_drew]; exact h.wst⟩

theorem Sch.start (w : World) (blk : List Int) (z1 z2 : Array Value) (t1 t2 t3 : TypeId) (h1 : z1.size = 64) (h2 : z2 = (cW (pad [])).toArray) :
    Sch w (((w.alloc (.cells (cB blk).toArray t1)).alloc (.cells z1 t2)).alloc (.cells z2 t3)) blk [] := by
  subst h2
  have r1 := range_new w (cB blk) t1
  have t2' := there_new (w.alloc (.cells (cB blk).toArray t1)) z1 t2 64 (by omega)
  have r3 := range_new ((w.alloc (.cells (cB blk).toArray t1)).alloc (.cells z1 t2)) (cW (pad [])) t3
  have t3' := there_new ((w.alloc (.cells (cB blk).toArray t1)).alloc (.cells z1 t2)) (cW (pad [])).toArray t3 64 (by simp [cW_len, pad])
  simp only [World.size_alloc] at r1 t2' r3 t3'
  exact ⟨(((Below.refl _ _).alloc (Nat.le_refl _) _).alloc (by simp) _).alloc (by simp; omega) _, World.rangeAt_alloc (World.rangeAt_alloc r1 _) _, World.there_alloc t2' _, r3, t3'⟩

set_option maxHeartbeats 1000000 in
set_option maxRecDepth 100000 in
theorem schedule_any (blk : List Int) (hl : blk.length = 64) (w : World) :
    Calls Tryd.prog 90 #[.agg (cB blk).toArray] w fun e w' => e = .returned (.agg (cW (schN blk 48)).toArray) ∧ Below w.heap.size w w' := by
  go_enter Tryd.func90, Tryd.ntmps90
  go_wp2
  go_loopg [8] 16 (fun g i wr => ∃ k : Nat, k ≤ 16 ∧ g = 16 - k ∧ i = .int .i64 k ∧ Sch w wr blk (sch0 blk k))
  case atStart =>
    go_light
    exact ⟨0, Nat.zero_le _, rfl, rfl, Sch.start w blk _ _ _ _ _ rfl rfl⟩
  case round =>
    obtain ⟨k, hk, rfl, rfl, hs⟩ := hrel
    by_cases hlt : k < 16
    · have hk0 : (0 : Int) ≤ (k : Int) := Int.natCast_nonneg _
      have hk8 : (k : Int) < 16 := by omega
      obtain ⟨m, hm⟩ : ∃ m : Nat, 4 * k = m := ⟨_, rfl⟩
      obtain ⟨m1, hm1⟩ : ∃ m1 : Nat, m + 1 = m1 := ⟨_, rfl⟩
      obtain ⟨m2, hm2⟩ : ∃ m2 : Nat, m + 2 = m2 := ⟨_, rfl⟩
      obtain ⟨m3, hm3⟩ : ∃ m3 : Nat, m + 3 = m3 := ⟨_, rfl⟩
      have e0 : IntKind.i64.wrap (4 * (k : Int)) = (m : Int) := by rw [wrap_id _ (by omega) (by omega)]; omega
      have e1 : IntKind.i64.wrap ((m : Int) + 1) = (m1 : Int) := by rw [wrap_id _ (by omega) (by omega)]; omega
      have e2 : IntKind.i64.wrap ((m : Int) + 2) = (m2 : Int) := by rw [wrap_id _ (by omega) (by omega)]; omega
      have e3 : IntKind.i64.wrap ((m : Int) + 3) = (m3 : Int) := by rw [wrap_id _ (by omega) (by omega)]; omega
      have b0 : (0 : Int) ≤ (m : Int) := Int.natCast_nonneg _
      have b1 : (0 : Int) ≤ (m1 : Int) := Int.natCast_nonneg _
      have b2 : (0 : Int) ≤ (m2 : Int) := Int.natCast_nonneg _
      have b3 : (0 : Int) ≤ (m3 : Int) := Int.natCast_nonneg _
      have d0 : (m : Int) < 64 := by omega
      have d1 : (m1 : Int) < 64 := by omega
      have d2 : (m2 : Int) < 64 := by omega
      have d3 : (m3 : Int) < 64 := by omega
      have dk : (k : Int) < 64 := by omega
      have c0 : wr.cell? ⟨w.heap.size, m, none⟩ = some (.int .u8 (blk.getD m 0)) := cell_cB0 hs.blk (by omega)
      have c1 : wr.cell? ⟨w.heap.size, m1, none⟩ = some (.int .u8 (blk.getD m1 0)) := cell_cB0 hs.blk (by omega)
      have c2 : wr.cell? ⟨w.heap.size, m2, none⟩ = some (.int .u8 (blk.getD m2 0)) := cell_cB0 hs.blk (by omega)
      have c3 : wr.cell? ⟨w.heap.size, m3, none⟩ = some (.int .u8 (blk.getD m3 0)) := cell_cB0 hs.blk (by omega)
      have st : wr.cell? ⟨w.heap.size + 1 + 1, k, none⟩ = some (.int .u32 ((pad (sch0 blk k)).getD k 0)) := cell_cW0 hs.ws (by rw [pad_len (by rw [sch0_len]; omega)]; omega)
      have sf : wr.frozen? ⟨w.heap.size + 1 + 1, k, none⟩ = false := by have := (hs.wst k (by omega)).2; rwa [Nat.zero_add] at this
      have HF : Hid (∀ v, Sch w (wr.setCell ⟨w.heap.size + 1 + 1, k, none⟩ (.int .u32 v)).drew blk (sch0 blk k ++ [v])) := fun v => by
        have := hs.step (by rw [sch0_len]; omega) v
        rwa [sch0_len] at this
      have HV : Hid (sch0 blk (k + 1) = sch0 blk k ++ [wordI (blk.getD m 0) (blk.getD m1 0) (blk.getD m2 0) (blk.getD m3 0)]) := by
        show _ = _
        subst hm hm1 hm2 hm3; rfl
      clear hs hm hm1 hm2 hm3
      generalize (pad (sch0 blk k)).getD k 0 = z at *
      generalize blk.getD m 0 = x0 at *
      generalize blk.getD m1 0 = x1 at *
      generalize blk.getD m2 0 = x2 at *
      generalize blk.getD m3 0 = x3 at *
      go_wp2
      go_region_held3 (fun w' => w'.cell? ⟨w.heap.size, m, none⟩ = some (.int .u8 x0) ∧ w'.cell? ⟨w.heap.size, m1, none⟩ = some (.int .u8 x1) ∧ w'.cell? ⟨w.heap.size, m2, none⟩ = some (.int .u8 x2) ∧ w'.cell? ⟨w.heap.size, m3, none⟩ = some (.int .u8 x3)) (first | assumption | (refine ⟨?_, ?_, ?_, ?_⟩ <;> first | assumption | (refine keep_cell (by assumption) ?_; show w.heap.size + 1 + 1 ≠ w.heap.size; omega))) (fail)
      go_wp2
      go_roundg (16 - (k + 1))
      case rel =>
        go_light
        refine ⟨k + 1, by omega, rfl, by go_num, ?_⟩
        rw [HV.out]
        exact HF.out _
      case measure => go_light; omega
    · obtain rfl : k = 16 := by omega
      clear hk hlt
      go_wp2
      go_loopg [5] 48 (fun g i wr => ∃ k : Nat, k ≤ 48 ∧ g = 48 - k ∧ i = .int .i64 ((16 + k : Nat) : Int) ∧ Sch w wr blk (schN blk k))
      case atStart =>
        go_light
        exact ⟨0, Nat.zero_le _, rfl, rfl, hs⟩
      case round =>
        clear hs
        obtain ⟨k, hk, rfl, rfl, hs⟩ := hrel
        by_cases hlt : k < 48
        · obtain ⟨t, ht⟩ : ∃ t : Nat, 16 + k = t := ⟨_, rfl⟩
          obtain ⟨k1, hk1⟩ : ∃ k1 : Nat, k + 1 = k1 := ⟨_, rfl⟩
          obtain ⟨k9, hk9⟩ : ∃ k9 : Nat, k + 9 = k9 := ⟨_, rfl⟩
          obtain ⟨k14, hk14⟩ : ∃ k14 : Nat, k + 14 = k14 := ⟨_, rfl⟩
          rw [ht]
          have e0 : IntKind.i64.wrap ((t : Int) - 16) = (k : Int) := by rw [wrap_id _ (by omega) (by omega)]; omega
          have e1 : IntKind.i64.wrap ((t : Int) - 15) = (k1 : Int) := by rw [wrap_id _ (by omega) (by omega)]; omega
          have e2 : IntKind.i64.wrap ((t : Int) - 7) = (k9 : Int) := by rw [wrap_id _ (by omega) (by omega)]; omega
          have e3 : IntKind.i64.wrap ((t : Int) - 2) = (k14 : Int) := by rw [wrap_id _ (by omega) (by omega)]; omega
          have b0 : (0 : Int) ≤ (k : Int) := Int.natCast_nonneg _
          have b1 : (0 : Int) ≤ (k1 : Int) := Int.natCast_nonneg _
          have b2 : (0 : Int) ≤ (k9 : Int) := Int.natCast_nonneg _
          have b3 : (0 : Int) ≤ (k14 : Int) := Int.natCast_nonneg _
          have bt : (0 : Int) ≤ (t : Int) := Int.natCast_nonneg _
          have d0 : (k : Int) < 64 := by omega
          have d1 : (k1 : Int) < 64 := by omega
          have d2 : (k9 : Int) < 64 := by omega
          have d3 : (k14 : Int) < 64 := by omega
          have dt : (t : Int) < 64 := by omega
          have hlen := schN_len blk k
          have hpl : (pad (schN blk k)).length = 64 := pad_len (by omega)
          have c0 : wr.cell? ⟨w.heap.size + 1 + 1, k, none⟩ = some (.int .u32 ((schN blk k).getD k 0)) := by rw [← pad_getD]; exact cell_cW0 hs.ws (by omega)
          have c1 : wr.cell? ⟨w.heap.size + 1 + 1, k1, none⟩ = some (.int .u32 ((schN blk k).getD k1 0)) := by rw [← pad_getD]; exact cell_cW0 hs.ws (by omega)
          have c2 : wr.cell? ⟨w.heap.size + 1 + 1, k9, none⟩ = some (.int .u32 ((schN blk k).getD k9 0)) := by rw [← pad_getD]; exact cell_cW0 hs.ws (by omega)
          have c3 : wr.cell? ⟨w.heap.size + 1 + 1, k14, none⟩ = some (.int .u32 ((schN blk k).getD k14 0)) := by rw [← pad_getD]; exact cell_cW0 hs.ws (by omega)
          have st : wr.cell? ⟨w.heap.size + 1 + 1, t, none⟩ = some (.int .u32 ((schN blk k).getD t 0)) := by rw [← pad_getD]; exact cell_cW0 hs.ws (by omega)
          have sf : wr.frozen? ⟨w.heap.size + 1 + 1, t, none⟩ = false := by have := (hs.wst t (by omega)).2; rwa [Nat.zero_add] at this
          have HF : Hid (∀ v, Sch w (wr.drew.setCell ⟨w.heap.size + 1 + 1, t, none⟩ (.int .u32 v)).drew blk (schN blk k ++ [v])) := fun v => by
            have := hs.drew.step (by omega) v
            rwa [hlen, ht] at this
          have HV : Hid (schN blk (k + 1) = schN blk k ++ [nextI ((schN blk k).getD k 0) ((schN blk k).getD k1 0) ((schN blk k).getD k9 0) ((schN blk k).getD k14 0)]) := by
            show _ = _
            subst hk1 hk9 hk14; rfl
          have HT : Hid (16 + k = t) := ht
          have N0 : k ≠ t := by omega
          have N1 : k1 ≠ t := by omega
          have N2 : k9 ≠ t := by omega
          have N3 : k14 ≠ t := by omega
          clear hs ht hk1 hk9 hk14 hlen hpl hl
          generalize (schN blk k).getD k 0 = x0 at *
          generalize (schN blk k).getD k1 0 = x1 at *
          generalize (schN blk k).getD k9 0 = x2 at *
          generalize (schN blk k).getD k14 0 = x3 at *
          generalize (schN blk k).getD t 0 = z at *
          go_wp2
          go_region_held3 (fun w' => w'.cell? ⟨w.heap.size + 1 + 1, k1, none⟩ = some (.int .u32 x1) ∧ w'.cell? ⟨w.heap.size + 1 + 1, k14, none⟩ = some (.int .u32 x3)) (first | assumption | (refine ⟨?_, ?_⟩ <;> first | assumption | (rw [World.cell?_drew]; assumption))) (fail)
          go_wp2
          go_region_held3 (fun w' => w'.cell? ⟨w.heap.size + 1 + 1, k, none⟩ = some (.int .u32 x0) ∧ w'.cell? ⟨w.heap.size + 1 + 1, k9, none⟩ = some (.int .u32 x2)) (first | assumption | (refine ⟨?_, ?_⟩ <;> first | assumption | (rw [World.cell?_drew]; assumption) | (refine keep_off ?_ ?_ <;> assumption))) (first | (go_at_call 91; refine (turned_any _ _ _ (by decide) (by decide)).mono ?_; rintro e w' ⟨rfl, rfl⟩))
          go_wp2
          go_roundg (48 - (k + 1))
          case rel =>
            go_light
            refine ⟨k + 1, by omega, rfl, ?_, ?_⟩
            · have := HT.out; go_num
            rw [HV.out]
            exact HF.out _
          case measure => go_light; omega
        · obtain rfl : k = 48 := by omega
          have hlen := schN_len blk 48
          have hws := hs.ws
          rw [pad_full hlen] at hws
          have hres := hs.res
          have hbel := hs.below
          have hi : (Tryd.prog.info? 128).map (·.size) = some (cW (schN blk 48)).length := by rw [cW_len, hlen]; exact size46
          have hi2 : (Tryd.prog.info? 128).map (·.size) = some (cW (schN blk 48)).toArray.size := by simpa using hi
          have hre2 : wr.there (w.heap.size + 1) 0 (cW (schN blk 48)).toArray.size := by
            have hsz : (cW (schN blk 48)).toArray.size = 64 := by simp [cW_len, hlen]
            rw [hsz]; exact hres
          clear hs hk hlt hl hlen
          generalize hE : schN blk 48 = ws at *
          have HE : Hid (schN blk 48 = ws) := hE
          clear hE
          go_wp2_with (first | (refine wpList_load_mid rfl 128 _ rfl (w.heap.size + 1 + 1) 0 rfl (cW ws) _ hws Tryd.underlying128 rfl hi ?_) | (refine wpList_store_mid rfl 128 _ _ rfl (w.heap.size + 1) 0 (cW ws).toArray rfl rfl hre2 hi2 (all_oneCell_toArray (cW_one ws)) ?_))
          refine bodyPost_ret (v := .agg (cW ws).toArray) ?_ rfl ⟨by rw [HE.out], ?_⟩
          · refine results_cell_mid Tryd.results90 _ _ (w.heap.size + 1) 0 (cW ws) (.array 64 118) ?_ ?_ Tryd.underlying128 rfl hi
            · rfl
            · go_light
              simpa using World.rangeAt_setCells_same _ _ _ _ (by simpa using hre2)
          · go_light
            exact below_setCells hbel (by omega) _ _
end Go.Proofs.YtdkcliblbaldhaaDoor
/-
  The rounds of package sha as plain functions, in the walk's own forms. Own work.
-/
namespace Go.Proofs.YtdkcliblbaldhaaDoor
open Go.RowKit

structure S8 where
  a : Int
  b : Int
  c : Int
  d : Int
  e : Int
  f : Int
  g : Int
  h : Int
def oneI (e f g h r w : Int) : Int :=
  IntKind.u32.wrap (IntKind.u32.wrap (IntKind.u32.wrap (IntKind.u32.wrap (h + bits .xor .u32 (bits .xor .u32 (rotI e 6) (rotI e 11)) (rotI e 25)) + bits .xor .u32 (bits .and .u32 e f) (bits .and .u32 (bits .xor .u32 IntKind.u32.max e) g)) + r) + w)
def twoI (a b c : Int) : Int :=
  IntKind.u32.wrap (bits .xor .u32 (bits .xor .u32 (rotI a 2) (rotI a 13)) (rotI a 22) + bits .xor .u32 (bits .xor .u32 (bits .and .u32 a b) (bits .and .u32 a c)) (bits .and .u32 b c))
def S8.rnd (v : S8) (r w : Int) : S8 :=
  { a := IntKind.u32.wrap (oneI v.e v.f v.g v.h r w + twoI v.a v.b v.c), b := v.a, c := v.b, d := v.c, e := IntKind.u32.wrap (v.d + oneI v.e v.f v.g v.h r w), f := v.e, g := v.f, h := v.g }
def rnds (v : S8) (rs ws : List Int) : Nat → S8
  | 0 => v
  | k + 1 => (rnds v rs ws k).rnd (rs.getD k 0) (ws.getD k 0)
def s8of (st : List Int) : S8 := ⟨st.getD 0 0, st.getD 1 0, st.getD 2 0, st.getD 3 0, st.getD 4 0, st.getD 5 0, st.getD 6 0, st.getD 7 0⟩
def sumI (s v : S8) : List Int :=
  [IntKind.u32.wrap (s.a + v.a), IntKind.u32.wrap (s.b + v.b), IntKind.u32.wrap (s.c + v.c), IntKind.u32.wrap (s.d + v.d), IntKind.u32.wrap (s.e + v.e), IntKind.u32.wrap (s.f + v.f), IntKind.u32.wrap (s.g + v.g), IntKind.u32.wrap (s.h + v.h)]
/-- The state behind one block more. -/
def foldI (rs st blk : List Int) : List Int := sumI (s8of st) (rnds (s8of st) rs (schN blk 48) 64)
theorem foldI_len (rs st blk : List Int) : (foldI rs st blk).length = 8 := rfl
theorem list8 {st : List Int} (h : st.length = 8) : ∃ s0 s1 s2 s3 s4 s5 s6 s7, st = [s0, s1, s2, s3, s4, s5, s6, s7] := by
  match st, h with
  | [s0, s1, s2, s3, s4, s5, s6, s7], _ => exact ⟨s0, s1, s2, s3, s4, s5, s6, s7, rfl⟩
end Go.Proofs.YtdkcliblbaldhaaDoor
/-
  Walks of package sha: folded. Own work.
-/
namespace Go.Proofs.YtdkcliblbaldhaaDoor
open Go.RowKit
attribute [local go_sem ↓] Go.wp_at_zero Go.wp_at_succ
theorem size35 : (Tryd.prog.info? 120).map (·.size) = some 64 := by kernel_rfl
theorem size34 : (Tryd.prog.info? 119).map (·.size) = some 8 := by kernel_rfl

structure Fo (w wr : World) (st ws rs : List Int) (N : Nat) : Prop where
  below : Below w.heap.size w wr
  st : wr.rangeAt w.heap.size 0 (cW st)
  res : wr.there (w.heap.size + 1 + 1) 0 8
  ws : wr.rangeAt N 0 (cW ws)
  rs : wr.rangeAt 0 0 (cW rs)
theorem Fo.drew {w wr : World} {st ws rs : List Int} {N : Nat} (h : Fo w wr st ws rs N) : Fo w wr.drew st ws rs N :=
  ⟨h.below.drew, by rw [World.rangeAt_drew]; exact h.st, by rw [World.there_drew]; exact h.res, by rw [World.rangeAt_drew]; exact h.ws, by rw [World.rangeAt_drew]; exact h.rs⟩
theorem Fo.start {w w' : World} {st blk ws rs : List Int} {t1 t2 t3 t4 : TypeId} {z : List Int} (hz : z.length = 8) {z2 : Array Value} (hz2 : z2.size = 64) (hwl : ws.length = 64) (hrl : rs.length = 64)
    (hr : w.rangeAt 0 0 (cW rs))
    (hb : Below (((w.alloc (.cells (cW st).toArray t1)).alloc (.cells (cB blk).toArray t2)).alloc (.cells (cW z).toArray t3)).heap.size (((w.alloc (.cells (cW st).toArray t1)).alloc (.cells (cB blk).toArray t2)).alloc (.cells (cW z).toArray t3)) w') :
    Fo w ((w'.alloc (.cells z2 t4)).setCells w'.heap.size 0 (cW ws)) st ws rs w'.heap.size := by
  have hlt : 0 < w.heap.size := range_lt hr (by intro h; have := congrArg List.length h; simp [cW_len, hrl] at this)
  have hN : w.heap.size + 3 ≤ w'.heap.size := by have := hb.size; simp at this; omega
  have hbw2 : Below w.heap.size w w' := ((((Below.refl _ _).alloc (Nat.le_refl _) _).alloc (by simp) _).alloc (by simp; omega) _).trans (hb.mono (by simp; omega))
  have h1 : w'.rangeAt w.heap.size 0 (cW st) := range_below hb (by simp; omega) (World.rangeAt_alloc (World.rangeAt_alloc (range_new _ _ _) _) _)
  have h2 : w'.there (w.heap.size + 1 + 1) 0 8 := by
    have := there_new ((w.alloc (.cells (cW st).toArray t1)).alloc (.cells (cB blk).toArray t2)) (cW z).toArray t3 8 (by simp [cW_len, hz])
    simp only [World.size_alloc] at this
    exact there_below hb (by simp) this
  have h3 : w'.rangeAt 0 0 (cW rs) := range_below hbw2 hlt hr
  refine ⟨below_setCells (hbw2.alloc (by omega) _) (by omega) _ _, ?_, ?_, ?_, ?_⟩
  · exact World.rangeAt_setCells_apart (World.rangeAt_alloc h1 _) _ _ _ (Or.inl (by omega))
  · exact World.there_setCells (World.there_alloc h2 _) _ _ _
  · exact World.rangeAt_setCells_same _ _ _ _ (there_new _ _ _ _ (by rw [cW_len, hwl, hz2]; exact Nat.le_refl _))
  · exact World.rangeAt_setCells_apart (World.rangeAt_alloc h3 _) _ _ _ (Or.inl (by omega))

set_option maxHeartbeats 2000000 in
set_option maxRecDepth 100000 in
theorem folded_any (st : List Int) (hst : st.length = 8) (blk : List Int) (hl : blk.length = 64) (w : World) (rs : List Int) (hrl : rs.length = 64) (hr : w.rangeAt 0 0 (cW rs)) :
    Calls Tryd.prog 82 #[.agg (cW st).toArray, .agg (cB blk).toArray] w fun e w' => e = .returned (.agg (cW (foldI rs st blk)).toArray) ∧ Below w.heap.size w w' := by
  obtain ⟨s0, s1, s2, s3, s4, s5, s6, s7, rfl⟩ := list8 hst
  clear hst
  obtain ⟨ws, hws⟩ : ∃ ws, ws = schN blk 48 := ⟨_, rfl⟩
  have hwl : ws.length = 64 := by rw [hws, schN_len]
  have hsched := fun w => schedule_any blk hl w
  rw [← hws] at hsched
  have HE : Hid (ws = schN blk 48) := hws
  clear hws
  have hi35 : (Tryd.prog.info? 120).map (·.size) = some (cB blk).length := by rw [cB_len, hl]; exact size35
  have hi46 : (Tryd.prog.info? 128).map (·.size) = some (cW ws).toArray.size := by rw [List.size_toArray, cW_len, hwl]; exact size46
  have hsz : (cW ws).toArray.size = 64 := by simp [cW_len, hwl]
  have r1 := fun o => World.rangeAt_alloc (range_new (w.alloc o) (cB blk) 120)
  simp only [World.size_alloc] at r1
  go_enter Tryd.func82, Tryd.ntmps82
  go_wp2_with (first | (refine wpList_load_mid rfl 120 _ rfl (w.heap.size + 1) 0 rfl (cB blk) _ (r1 _ _) Tryd.underlying120 rfl hi35 ?_) | (go_at_call 90; refine (hsched _).mono ?_; rintro e w' ⟨rfl, hbw⟩) | (refine wpList_store_mid rfl 128 _ _ rfl _ 0 (cW ws).toArray rfl rfl ?_ hi46 (all_oneCell_toArray (cW_one ws)) ?_; exact there_new _ _ _ _ (by rw [hsz]; exact Nat.le_refl 64)))
  go_simp
  have hFo := Fo.start (z := [0, 0, 0, 0, 0, 0, 0, 0]) (z2 := (cW (List.replicate 64 0)).toArray) (t4 := 128) rfl rfl hwl hrl hr hbw
  clear hbw r1 hsched
  replace hFo : Fo w ((w'.alloc (.cells #[.int .u32 0, .int .u32 0, .int .u32 0, .int .u32 0, .int .u32 0, .int .u32 0, .int .u32 0, .int .u32 0, .int .u32 0, .int .u32 0, .int .u32 0, .int .u32 0, .int .u32 0, .int .u32 0, .int .u32 0, .int .u32 0, .int .u32 0, .int .u32 0, .int .u32 0, .int .u32 0, .int .u32 0, .int .u32 0, .int .u32 0, .int .u32 0, .int .u32 0, .int .u32 0, .int .u32 0, .int .u32 0, .int .u32 0, .int .u32 0, .int .u32 0, .int .u32 0, .int .u32 0, .int .u32 0, .int .u32 0, .int .u32 0, .int .u32 0, .int .u32 0, .int .u32 0, .int .u32 0, .int .u32 0, .int .u32 0, .int .u32 0, .int .u32 0, .int .u32 0, .int .u32 0, .int .u32 0, .int .u32 0, .int .u32 0, .int .u32 0, .int .u32 0, .int .u32 0, .int .u32 0, .int .u32 0, .int .u32 0, .int .u32 0, .int .u32 0, .int .u32 0, .int .u32 0, .int .u32 0, .int .u32 0, .int .u32 0, .int .u32 0, .int .u32 0] 128)).setCells w'.heap.size 0 (cW ws)) [s0, s1, s2, s3, s4, s5, s6, s7] ws rs w'.heap.size := hFo
  generalize ((w'.alloc (.cells #[.int .u32 0, .int .u32 0, .int .u32 0, .int .u32 0, .int .u32 0, .int .u32 0, .int .u32 0, .int .u32 0, .int .u32 0, .int .u32 0, .int .u32 0, .int .u32 0, .int .u32 0, .int .u32 0, .int .u32 0, .int .u32 0, .int .u32 0, .int .u32 0, .int .u32 0, .int .u32 0, .int .u32 0, .int .u32 0, .int .u32 0, .int .u32 0, .int .u32 0, .int .u32 0, .int .u32 0, .int .u32 0, .int .u32 0, .int .u32 0, .int .u32 0, .int .u32 0, .int .u32 0, .int .u32 0, .int .u32 0, .int .u32 0, .int .u32 0, .int .u32 0, .int .u32 0, .int .u32 0, .int .u32 0, .int .u32 0, .int .u32 0, .int .u32 0, .int .u32 0, .int .u32 0, .int .u32 0, .int .u32 0, .int .u32 0, .int .u32 0, .int .u32 0, .int .u32 0, .int .u32 0, .int .u32 0, .int .u32 0, .int .u32 0, .int .u32 0, .int .u32 0, .int .u32 0, .int .u32 0, .int .u32 0, .int .u32 0, .int .u32 0, .int .u32 0] 128)).setCells w'.heap.size 0 (cW ws)) = W2 at *
  generalize w'.heap.size = N at *
  clear w'
  have c0 : W2.cell? ⟨w.heap.size, 0, none⟩ = some (.int .u32 s0) := cell_cW0 hFo.st (i := 0) (by simp)
  have c1 : W2.cell? ⟨w.heap.size, 1, none⟩ = some (.int .u32 s1) := cell_cW0 hFo.st (i := 1) (by simp)
  have c2 : W2.cell? ⟨w.heap.size, 2, none⟩ = some (.int .u32 s2) := cell_cW0 hFo.st (i := 2) (by simp)
  have c3 : W2.cell? ⟨w.heap.size, 3, none⟩ = some (.int .u32 s3) := cell_cW0 hFo.st (i := 3) (by simp)
  have c4 : W2.cell? ⟨w.heap.size, 4, none⟩ = some (.int .u32 s4) := cell_cW0 hFo.st (i := 4) (by simp)
  have c5 : W2.cell? ⟨w.heap.size, 5, none⟩ = some (.int .u32 s5) := cell_cW0 hFo.st (i := 5) (by simp)
  have c6 : W2.cell? ⟨w.heap.size, 6, none⟩ = some (.int .u32 s6) := cell_cW0 hFo.st (i := 6) (by simp)
  have c7 : W2.cell? ⟨w.heap.size, 7, none⟩ = some (.int .u32 s7) := cell_cW0 hFo.st (i := 7) (by simp)
  go_region_held3 (fun w' => w'.cell? ⟨w.heap.size, 0, none⟩ = some (.int .u32 s0) ∧ w'.cell? ⟨w.heap.size, 1, none⟩ = some (.int .u32 s1) ∧ w'.cell? ⟨w.heap.size, 2, none⟩ = some (.int .u32 s2) ∧ w'.cell? ⟨w.heap.size, 3, none⟩ = some (.int .u32 s3)) (first | assumption | (refine ⟨?_, ?_, ?_, ?_⟩ <;> first | assumption | (rw [World.cell?_drew]; assumption))) (fail)
  go_wp2
  go_region_held3 (fun w' => w'.cell? ⟨w.heap.size, 4, none⟩ = some (.int .u32 s4) ∧ w'.cell? ⟨w.heap.size, 5, none⟩ = some (.int .u32 s5) ∧ w'.cell? ⟨w.heap.size, 6, none⟩ = some (.int .u32 s6) ∧ w'.cell? ⟨w.heap.size, 7, none⟩ = some (.int .u32 s7)) (first | assumption | (refine ⟨?_, ?_, ?_, ?_⟩ <;> first | assumption | (rw [World.cell?_drew]; assumption))) (fail)
  clear c0 c1 c2 c3 c4 c5 c6 c7
  go_wp2
  go_loopg [6, 7, 8, 9, 10, 11, 12, 13, 35] 64 (fun gk a b c d e f g h i wr => ∃ (k : Nat) (v : S8), k ≤ 64 ∧ gk = 64 - k ∧ i = .int .i64 k ∧ Hid (v = rnds (s8of [s0, s1, s2, s3, s4, s5, s6, s7]) rs ws k) ∧ a = .int .u32 v.a ∧ b = .int .u32 v.b ∧ c = .int .u32 v.c ∧ d = .int .u32 v.d ∧ e = .int .u32 v.e ∧ f = .int .u32 v.f ∧ g = .int .u32 v.g ∧ h = .int .u32 v.h ∧ Fo w wr [s0, s1, s2, s3, s4, s5, s6, s7] ws rs N)
  case atStart =>
    go_light
    exact ⟨0, s8of [s0, s1, s2, s3, s4, s5, s6, s7], Nat.zero_le _, rfl, rfl, rfl, rfl, rfl, rfl, rfl, rfl, rfl, rfl, rfl, hFo.drew.drew⟩
  case round =>
    clear hFo
    obtain ⟨k, v, hk, rfl, rfl, hv, rfl, rfl, rfl, rfl, rfl, rfl, rfl, rfl, hFo⟩ := hrel
    by_cases hlt : k < 64
    · have hk0 : (0 : Int) ≤ (k : Int) := Int.natCast_nonneg _
      have hk8 : (k : Int) < 64 := by omega
      have cr := cell_cW0 hFo.rs (i := k) (by omega)
      have cw := cell_cW0 hFo.ws (i := k) (by omega)
      have HV : Hid (∀ v', v' = v.rnd (rs.getD k 0) (ws.getD k 0) → v' = rnds (s8of [s0, s1, s2, s3, s4, s5, s6, s7]) rs ws (k + 1)) := fun v' h => by
        rw [h, show v = rnds (s8of [s0, s1, s2, s3, s4, s5, s6, s7]) rs ws k from hv]; rfl
      have HF : Hid (Fo w wr.drew [s0, s1, s2, s3, s4, s5, s6, s7] ws rs N) := hFo.drew
      clear hFo hv
      generalize rs.getD k 0 = r at *
      generalize ws.getD k 0 = x at *
      obtain ⟨a, b, c, d, e, f, g, h⟩ := v
      dsimp only at *
      go_wp2
      go_region_held3 (fun w' => w'.cell? ⟨0, k, none⟩ = some (.int .u32 r) ∧ w'.cell? ⟨N, k, none⟩ = some (.int .u32 x)) (first | assumption | (refine ⟨?_, ?_⟩ <;> first | assumption | (rw [World.cell?_drew]; assumption))) (first | (go_at_call 91; refine (turned_any _ _ _ (by decide) (by decide)).mono ?_; rintro e w' ⟨rfl, rfl⟩))
      go_wp2_with (go_at_call 91; refine (turned_any _ _ _ (by decide) (by decide)).mono ?_; rintro e w' ⟨rfl, rfl⟩)
      go_roundg (64 - (k + 1))
      case rel =>
        go_light
        refine ⟨k + 1, _, by omega, rfl, by go_num, HV.out _ rfl, ?_, rfl, rfl, rfl, ?_, rfl, rfl, rfl, HF.out⟩ <;> simp only [S8.rnd, oneI, twoI, IntKind.wrap_u32']
      case measure => go_light; omega
    · obtain rfl : k = 64 := by omega
      clear hk hlt
      have c0 : wr.cell? ⟨w.heap.size, 0, none⟩ = some (.int .u32 s0) := cell_cW0 hFo.st (i := 0) (by simp)
      have c1 : wr.cell? ⟨w.heap.size, 1, none⟩ = some (.int .u32 s1) := cell_cW0 hFo.st (i := 1) (by simp)
      have c2 : wr.cell? ⟨w.heap.size, 2, none⟩ = some (.int .u32 s2) := cell_cW0 hFo.st (i := 2) (by simp)
      have c3 : wr.cell? ⟨w.heap.size, 3, none⟩ = some (.int .u32 s3) := cell_cW0 hFo.st (i := 3) (by simp)
      have c4 : wr.cell? ⟨w.heap.size, 4, none⟩ = some (.int .u32 s4) := cell_cW0 hFo.st (i := 4) (by simp)
      have c5 : wr.cell? ⟨w.heap.size, 5, none⟩ = some (.int .u32 s5) := cell_cW0 hFo.st (i := 5) (by simp)
      have c6 : wr.cell? ⟨w.heap.size, 6, none⟩ = some (.int .u32 s6) := cell_cW0 hFo.st (i := 6) (by simp)
      have c7 : wr.cell? ⟨w.heap.size, 7, none⟩ = some (.int .u32 s7) := cell_cW0 hFo.st (i := 7) (by simp)
      have hres := hFo.res
      have hbel := hFo.below
      clear hFo
      have HV : Hid (foldI rs [s0, s1, s2, s3, s4, s5, s6, s7] blk = sumI ⟨s0, s1, s2, s3, s4, s5, s6, s7⟩ v) := by
        show _ = _
        rw [show v = _ from hv, show ws = _ from HE]; rfl
      clear hv
      obtain ⟨a, b, c, d, e, f, g, h⟩ := v
      dsimp only at *
      go_wp2_with (refine wpList_store_mid rfl 119 _ _ rfl (w.heap.size + 1 + 1) 0 (cW [_, _, _, _, _, _, _, _]).toArray rfl rfl hres size34 (all_oneCell_toArray (cW_one _)) ?_)
      refine bodyPost_ret (v := .agg (cW (sumI ⟨s0, s1, s2, s3, s4, s5, s6, s7⟩ ⟨a, b, c, d, e, f, g, h⟩)).toArray) ?_ rfl ⟨by rw [HV.out], ?_⟩
      · refine results_cell_mid Tryd.results82 _ _ (w.heap.size + 1 + 1) 0 (cW (sumI ⟨s0, s1, s2, s3, s4, s5, s6, s7⟩ ⟨a, b, c, d, e, f, g, h⟩)) (.array 8 118) ?_ ?_ Tryd.underlying119 rfl size34
        · rfl
        · go_light
          simp only [sumI, IntKind.wrap_u32']
          exact World.rangeAt_setCells_same _ _ _ _ hres
      · go_light
        exact below_setCells hbel (by omega) _ _
end Go.Proofs.YtdkcliblbaldhaaDoor
/-
  The end of a sum as plain functions; laws on the two copies that 'closed' makes. Own work.
-/
namespace Go.Proofs.YtdkcliblbaldhaaDoor
open Go.RowKit

/-- The last block: what waits, the end mark, zeros. -/
def endL (blk : List Int) (u : Nat) : List Int := (blk.set u 128).take (u + 1) ++ List.replicate (64 - (u + 1)) 0
/-- The number of bits, byte by byte from behind. -/
def lenAt (l : List Int) (b : Int) : Nat → List Int
  | 0 => l
  | k + 1 => (lenAt l b k).set (63 - k) (IntKind.u8.wrap (b / 2 ^ (8 * k)))
def closeI (rs st blk : List Int) (n : Nat) : List Int :=
  if 55 < n % 64 then foldI rs (foldI rs st (endL blk (n % 64))) (lenAt (List.replicate 64 0) (IntKind.u64.wrap ((n : Int) * 8)) 8)
  else foldI rs st (lenAt (endL blk (n % 64)) (IntKind.u64.wrap ((n : Int) * 8)) 8)
theorem endL_len {blk : List Int} (h : blk.length = 64) {u : Nat} (hu : u < 64) : (endL blk u).length = 64 := by
  simp [endL, h]; omega
theorem lenAt_len (l : List Int) (b : Int) (k : Nat) : (lenAt l b k).length = l.length := by
  induction k with
  | zero => rfl
  | succ k ih => simp [lenAt, ih]
theorem closeI_len (rs st blk : List Int) (n : Nat) : (closeI rs st blk n).length = 8 := by
  unfold closeI; split <;> rfl

/-- A hash in memory. -/
structure Hs (w : World) (p : Nat) (st blk : List Int) (n : Nat) : Prop where
  stl : st.length = 8
  blkl : blk.length = 64
  st : w.rangeAt p 0 (cW st)
  blk : w.rangeAt p 8 (cB blk)
  len : w.cell? ⟨p, 72, none⟩ = some (.int .u64 n)
  there : w.there p 0 73
theorem Hs.lt {w : World} {p : Nat} {st blk : List Int} {n : Nat} (h : Hs w p st blk n) : p < w.heap.size := World.block_lt_of_cell? _ _ h.len
theorem Hs.later {w w' : World} {p B : Nat} {st blk : List Int} {n : Nat} (h : Hs w p st blk n) (hb : Below B w w') (hp : p < B) : Hs w' p st blk n :=
  ⟨h.stl, h.blkl, range_below hb hp h.st, range_below hb hp h.blk, by rw [hb.cell (p := ⟨p, 72, none⟩) hp]; exact h.len, there_below hb hp h.there⟩

/-- The cells from k on are stored anew. -/
theorem range_part {w : World} {b : Nat} {cs : List Value} (h : w.rangeAt b 0 cs) (k : Nat) (vs : List Value) (hk : k + vs.length = cs.length) (ht : w.there b k vs.length) :
    (w.setCells b k vs).rangeAt b 0 (cs.take k ++ vs) := fun j u hu => by
  rw [Nat.zero_add]
  by_cases hj : j < k
  · rw [List.getElem?_append_left (by simp; omega), List.getElem?_take, if_pos hj] at hu
    rw [World.cell?_setCells_out b vs k w ⟨b, j, none⟩ (fun _ _ => Or.inl hj)]
    have := h j u hu
    rwa [Nat.zero_add] at this
  · rw [List.getElem?_append_right (by simp; omega)] at hu
    have hlen : (cs.take k).length = k := by simp; omega
    rw [hlen] at hu
    have hlt : j - k < vs.length := (List.getElem?_eq_some_iff.1 hu).1
    have := World.cell?_setCells_in b vs k w (fun i hi => (ht i hi).1) (j - k) hlt
    rw [show k + (j - k) = j by omega] at this
    rw [this, ← hu, List.getElem?_eq_getElem hlt]

/-- behind 'state, last, used := h.state, h.block, h.waiting()': the two copies, wherever they lie. -/
structure Cl (w wc : World) (st last : List Int) (bs bl : Nat) : Prop where
  stl : st.length = 8
  lastl : last.length = 64
  below : Below w.heap.size w wc
  hbs : w.heap.size + 1 ≤ bs
  hbl : w.heap.size + 1 ≤ bl
  ne : bs ≠ bl
  st : wc.rangeAt bs 0 (cW st)
  stt : wc.there bs 0 8
  last : wc.rangeAt bl 0 (cB last)
  lastt : wc.there bl 0 64
  res : wc.there w.heap.size 0 8

theorem Cl.one (w : World) (st blk : List Int) (hs : st.length = 8) (hb : blk.length = 64) (z : List Int) (hz : z.length = 8) (z2 : List Int) (hz2 : z2.length = 64) (t1 t2 t3 : TypeId) :
    Cl w ((((w.alloc (.cells (cW z).toArray t1)).alloc (.cells (cW st).toArray t2)).alloc (.cells (cB z2).toArray t3)).drew.setCells (w.heap.size + 1 + 1) 0 (cB blk)) st blk (w.heap.size + 1) (w.heap.size + 1 + 1) := by
  have r1 := range_new (w.alloc (.cells (cW z).toArray t1)) (cW st) t2
  have q1 := there_new (w.alloc (.cells (cW z).toArray t1)) (cW st).toArray t2 8 (by simp [cW_len, hs])
  have q2 := there_new ((w.alloc (.cells (cW z).toArray t1)).alloc (.cells (cW st).toArray t2)) (cB z2).toArray t3 64 (by simp [cB_len, hz2])
  have q0 := there_new w (cW z).toArray t1 8 (by simp [cW_len, hz])
  simp only [World.size_alloc] at r1 q1 q2 q0
  refine ⟨hs, hb, below_setCells ((((Below.refl _ _).alloc (Nat.le_refl _) _).alloc (by simp) _).alloc (by simp; omega) _).drew (by omega) _ _, by omega, by omega, by omega, ?_, ?_, ?_, ?_, ?_⟩
  · exact World.rangeAt_setCells_apart (by rw [World.rangeAt_drew]; exact World.rangeAt_alloc r1 _) _ _ _ (Or.inl (by omega))
  · exact World.there_setCells (by rw [World.there_drew]; exact World.there_alloc q1 _) _ _ _
  · exact World.rangeAt_setCells_same _ _ _ _ (by rw [World.there_drew, cB_len, hb]; exact q2)
  · exact World.there_setCells (by rw [World.there_drew]; exact q2) _ _ _
  · exact World.there_setCells (by rw [World.there_drew]; exact World.there_alloc (World.there_alloc q0 _) _) _ _ _
theorem Cl.two (w : World) (st blk : List Int) (hs : st.length = 8) (hb : blk.length = 64) (z : List Int) (hz : z.length = 8) (z2 : List Int) (hz2 : z2.length = 64) (t1 t2 t3 : TypeId) :
    Cl w ((((w.alloc (.cells (cW z).toArray t1)).alloc (.cells (cB z2).toArray t3)).alloc (.cells (cW st).toArray t2)).drew.setCells (w.heap.size + 1) 0 (cB blk)) st blk (w.heap.size + 1 + 1) (w.heap.size + 1) := by
  have r1 := range_new ((w.alloc (.cells (cW z).toArray t1)).alloc (.cells (cB z2).toArray t3)) (cW st) t2
  have q1 := there_new ((w.alloc (.cells (cW z).toArray t1)).alloc (.cells (cB z2).toArray t3)) (cW st).toArray t2 8 (by simp [cW_len, hs])
  have q2 := there_new (w.alloc (.cells (cW z).toArray t1)) (cB z2).toArray t3 64 (by simp [cB_len, hz2])
  have q0 := there_new w (cW z).toArray t1 8 (by simp [cW_len, hz])
  simp only [World.size_alloc] at r1 q1 q2 q0
  refine ⟨hs, hb, below_setCells ((((Below.refl _ _).alloc (Nat.le_refl _) _).alloc (by simp) _).alloc (by simp; omega) _).drew (by omega) _ _, by omega, by omega, by omega, ?_, ?_, ?_, ?_, ?_⟩
  · exact World.rangeAt_setCells_apart (by rw [World.rangeAt_drew]; exact r1) _ _ _ (Or.inl (by omega))
  · exact World.there_setCells (by rw [World.there_drew]; exact q1) _ _ _
  · exact World.rangeAt_setCells_same _ _ _ _ (by rw [World.there_drew, cB_len, hb]; exact World.there_alloc q2 _)
  · exact World.there_setCells (by rw [World.there_drew]; exact World.there_alloc q2 _) _ _ _
  · exact World.there_setCells (by rw [World.there_drew]; exact World.there_alloc (World.there_alloc q0 _) _) _ _ _
theorem Cl.set {w wc : World} {st last : List Int} {bs bl : Nat} (h : Cl w wc st last bs bl) (i : Nat) (v : Int) : Cl w (wc.setCell ⟨bl, i, none⟩ (.int .u8 v)) st (last.set i v) bs bl := by
  have hbl := h.hbl
  refine ⟨h.stl, by rw [List.length_set]; exact h.lastl, h.below.setCell (by show w.heap.size ≤ bl; omega) _, h.hbs, h.hbl, h.ne, range_other h.st (Ne.symm h.ne) _, there_set h.stt _ _, ?_, there_set h.lastt _ _, there_set h.res _ _⟩
  have := range_set h.last i (.int .u8 v)
  rwa [Nat.zero_add, cB_set] at this
theorem Cl.rest {w wc : World} {st last : List Int} {bs bl : Nat} (h : Cl w wc st last bs bl) (k : Nat) (hk : k ≤ 64) :
    Cl w (wc.setCells bl k (List.replicate (64 - k) (.int .u8 0))) st (last.take k ++ List.replicate (64 - k) 0) bs bl := by
  have hbl := h.hbl
  have hl := h.lastl
  have e : (List.replicate (64 - k) (Value.int .u8 0)) = cB (List.replicate (64 - k) 0) := by simp [cB]
  refine ⟨h.stl, by simp [hl]; omega, below_setCells h.below (by omega) _ _, h.hbs, h.hbl, h.ne, World.rangeAt_setCells_apart h.st _ _ _ (Or.inl h.ne), World.there_setCells h.stt _ _ _, ?_, World.there_setCells h.lastt _ _ _, World.there_setCells h.res _ _ _⟩
  have := range_part h.last k (List.replicate (64 - k) (Value.int .u8 0)) (by simp [cB_len, hl]; omega) (fun j hj => by
    have := h.lastt (k + j) (by simp at hj; omega)
    rwa [Nat.zero_add] at this)
  rw [e] at this
  rw [e]
  simpa [cB, List.map_take] using this
theorem Cl.later {w wc w' : World} {st last : List Int} {bs bl : Nat} (h : Cl w wc st last bs bl) (hb : Below wc.heap.size wc w') : Cl w w' st last bs bl := by
  have h1 := there_lt h.stt (by decide)
  have h2 := there_lt h.lastt (by decide)
  have h3 := there_lt h.res (by decide)
  exact ⟨h.stl, h.lastl, h.below.trans (hb.mono (by omega)), h.hbs, h.hbl, h.ne, range_below hb h1 h.st, there_below hb h1 h.stt, range_below hb h2 h.last, there_below hb h2 h.lastt, there_below hb h3 h.res⟩
theorem Cl.storeSt {w wc : World} {st last : List Int} {bs bl : Nat} (h : Cl w wc st last bs bl) (st' : List Int) (hs : st'.length = 8) : Cl w (wc.setCells bs 0 (cW st')) st' last bs bl := by
  have hbs := h.hbs
  exact ⟨hs, h.lastl, below_setCells h.below (by omega) _ _, h.hbs, h.hbl, h.ne, World.rangeAt_setCells_same _ _ _ _ (by rw [cW_len, hs]; exact h.stt), World.there_setCells h.stt _ _ _, World.rangeAt_setCells_apart h.last _ _ _ (Or.inl (Ne.symm h.ne)), World.there_setCells h.lastt _ _ _, World.there_setCells h.res _ _ _⟩
theorem Cl.storeLast {w wc : World} {st last : List Int} {bs bl : Nat} (h : Cl w wc st last bs bl) (l' : List Int) (hs : l'.length = 64) : Cl w (wc.setCells bl 0 (cB l')) st l' bs bl := by
  have hbl := h.hbl
  exact ⟨h.stl, hs, below_setCells h.below (by omega) _ _, h.hbs, h.hbl, h.ne, World.rangeAt_setCells_apart h.st _ _ _ (Or.inl h.ne), World.there_setCells h.stt _ _ _, World.rangeAt_setCells_same _ _ _ _ (by rw [cB_len, hs]; exact h.lastt), World.there_setCells h.lastt _ _ _, World.there_setCells h.res _ _ _⟩
end Go.Proofs.YtdkcliblbaldhaaDoor
namespace Go.Proofs.YtdkcliblbaldhaaDoor
open Go.RowKit
attribute [local go_sem ↓] Go.wp_at_zero Go.wp_at_succ
theorem cells5 : Tryd.prog.cellsOf 5 = 1 := by kernel_rfl
theorem size5 (w : World) : (Go.sizeOf 5).run Tryd.prog w = .ok 1 w := by kernel_rfl
theorem zero5 (w : World) : (zeroValue 5).run Tryd.prog w = .ok (.int .u8 0) w := by kernel_rfl
theorem slice_tail (b o v : Nat) (m : Nat) (hm : v + m = 64) (h0 : 0 < m) (w : World) :
    (Instr.sliceAt 120 (.pointer (some ⟨b, o, none⟩)) (some (.int .i64 (v : Int))) none none).run Tryd.prog w = .ok (.slice (some ⟨b, o + v, none⟩) m m) w := by
  have h := run_sliceAt_array_l (P := Tryd.prog) w 120 ⟨b, o, none⟩ (by kernel_rfl) .i64 (v : Int) (Int.natCast_nonneg _) (by
    have e : Tryd.prog.arrayLen 120 = 64 := by kernel_rfl
    rw [e]; omega)
  have e : Tryd.prog.arrayLen 120 = 64 := by kernel_rfl
  have e2 : Tryd.prog.elem 120 = 5 := by kernel_rfl
  rw [h, e, e2, size5]
  have e3 : 64 - v = m := by omega
  have e4 : ¬ 64 = v := by omega
  simp [slicedAt, e3, e4, Addr.add_mid]
theorem clear_some (w : World) (b o m : Nat) (h0 : 0 < m) (ht : w.there b o m) :
    (Builtin.clear_ #[51] 0 #[.slice (some ⟨b, o, none⟩) m m]).run Tryd.prog w = .ok (.tuple #[]) (w.setCells b o (List.replicate m (.int .u8 0))) :=
  Lib.run_clear_slice w 51 5 0 (.int .u8 0) Tryd.underlying51 zero5 rfl rfl b o m m h0 (fun j hj => (ht j hj).1) (fun j hj => (ht j hj).2)
theorem clear_none (w : World) (a : Option Addr) : (Builtin.clear_ #[51] 0 #[.slice a 0 0]).run Tryd.prog w = .ok (.tuple #[]) w := by
  cases a <;> simp [Builtin.clear_, run_underlying Tryd.underlying51]
theorem waiting_u (n u : Nat) (h : Hid (n % 64 = u)) (w : World) (b : Nat) (hc : w.cell? ⟨b, 72, none⟩ = some (.int .u64 n)) :
    Calls Tryd.prog 81 #[.pointer (some ⟨b, 0, none⟩)] w fun e w' => e = .returned (.int .i64 (u : Int)) ∧ w' = w := by
  refine (waiting_any n w b (Int.natCast_nonneg _) hc).mono ?_
  rintro e w' ⟨rfl, rfl⟩
  have h := h.out
  exact ⟨by rw [show ((n : Int) % 64) = (u : Int) by omega], rfl⟩

set_option maxHeartbeats 2000000 in
set_option maxRecDepth 100000 in
theorem closed_any (w : World) (p : Nat) (st blk : List Int) (n : Nat) (hh : Hs w p st blk n) (rs : List Int) (hrl : rs.length = 64) (hr : w.rangeAt 0 0 (cW rs)) :
    Calls Tryd.prog 83 #[.pointer (some ⟨p, 0, none⟩)] w fun e w' => e = .returned (.agg (cW (closeI rs st blk n)).toArray) ∧ Below w.heap.size w w' := by
  obtain ⟨s0, s1, s2, s3, s4, s5, s6, s7, rfl⟩ := list8 hh.stl
  have hp : p < w.heap.size := World.block_lt_of_cell? _ _ hh.len
  have hl := hh.blkl
  have h1w : 0 < w.heap.size := range_lt hr (by intro h; have := congrArg List.length h; simp [cW_len, hrl] at this)
  have c0 : w.cell? ⟨p, 0, none⟩ = some (.int .u32 s0) := cell_cW0 hh.st (i := 0) (by simp)
  have c1 : w.cell? ⟨p, 1, none⟩ = some (.int .u32 s1) := cell_cW0 hh.st (i := 1) (by simp)
  have c2 : w.cell? ⟨p, 2, none⟩ = some (.int .u32 s2) := cell_cW0 hh.st (i := 2) (by simp)
  have c3 : w.cell? ⟨p, 3, none⟩ = some (.int .u32 s3) := cell_cW0 hh.st (i := 3) (by simp)
  have c4 : w.cell? ⟨p, 4, none⟩ = some (.int .u32 s4) := cell_cW0 hh.st (i := 4) (by simp)
  have c5 : w.cell? ⟨p, 5, none⟩ = some (.int .u32 s5) := cell_cW0 hh.st (i := 5) (by simp)
  have c6 : w.cell? ⟨p, 6, none⟩ = some (.int .u32 s6) := cell_cW0 hh.st (i := 6) (by simp)
  have c7 : w.cell? ⟨p, 7, none⟩ = some (.int .u32 s7) := cell_cW0 hh.st (i := 7) (by simp)
  have c72 := hh.len
  have hrb := hh.blk
  have hu := Tryd.underlying120
  obtain ⟨u, hun⟩ : ∃ u : Nat, n % 64 = u := ⟨_, rfl⟩
  have hu64 : Hid (n % 64 = u) := hun
  clear hun
  have hi : (Tryd.prog.info? 120).map (·.size) = some (cB blk).length := by rw [cB_len, hl]; exact size35
  have hl' : (cB blk).length = 64 := by rw [cB_len, hl]
  have h1 := cB_one blk
  have hA : ∀ (r o : Obj), (((w.alloc r).alloc o).alloc (.cells #[.int .u8 0, .int .u8 0, .int .u8 0, .int .u8 0, .int .u8 0, .int .u8 0, .int .u8 0, .int .u8 0, .int .u8 0, .int .u8 0, .int .u8 0, .int .u8 0, .int .u8 0, .int .u8 0, .int .u8 0, .int .u8 0, .int .u8 0, .int .u8 0, .int .u8 0, .int .u8 0, .int .u8 0, .int .u8 0, .int .u8 0, .int .u8 0, .int .u8 0, .int .u8 0, .int .u8 0, .int .u8 0, .int .u8 0, .int .u8 0, .int .u8 0, .int .u8 0, .int .u8 0, .int .u8 0, .int .u8 0, .int .u8 0, .int .u8 0, .int .u8 0, .int .u8 0, .int .u8 0, .int .u8 0, .int .u8 0, .int .u8 0, .int .u8 0, .int .u8 0, .int .u8 0, .int .u8 0, .int .u8 0, .int .u8 0, .int .u8 0, .int .u8 0, .int .u8 0, .int .u8 0, .int .u8 0, .int .u8 0, .int .u8 0, .int .u8 0, .int .u8 0, .int .u8 0, .int .u8 0, .int .u8 0, .int .u8 0, .int .u8 0, .int .u8 0] 120)).drew.there (w.heap.size + 1 + 1) 0 64 := fun r o => by
    have q2 := there_new ((w.alloc r).alloc o) (cB (List.replicate 64 0)).toArray 120 64 (by simp [cB_len])
    simp only [World.size_alloc] at q2
    rw [World.there_drew]; exact q2
  have hB : ∀ (r o : Obj), (((w.alloc r).alloc (.cells #[.int .u8 0, .int .u8 0, .int .u8 0, .int .u8 0, .int .u8 0, .int .u8 0, .int .u8 0, .int .u8 0, .int .u8 0, .int .u8 0, .int .u8 0, .int .u8 0, .int .u8 0, .int .u8 0, .int .u8 0, .int .u8 0, .int .u8 0, .int .u8 0, .int .u8 0, .int .u8 0, .int .u8 0, .int .u8 0, .int .u8 0, .int .u8 0, .int .u8 0, .int .u8 0, .int .u8 0, .int .u8 0, .int .u8 0, .int .u8 0, .int .u8 0, .int .u8 0, .int .u8 0, .int .u8 0, .int .u8 0, .int .u8 0, .int .u8 0, .int .u8 0, .int .u8 0, .int .u8 0, .int .u8 0, .int .u8 0, .int .u8 0, .int .u8 0, .int .u8 0, .int .u8 0, .int .u8 0, .int .u8 0, .int .u8 0, .int .u8 0, .int .u8 0, .int .u8 0, .int .u8 0, .int .u8 0, .int .u8 0, .int .u8 0, .int .u8 0, .int .u8 0, .int .u8 0, .int .u8 0, .int .u8 0, .int .u8 0, .int .u8 0, .int .u8 0] 120)).alloc o).drew.there (w.heap.size + 1) 0 64 := fun r o => by
    have q2 := there_new (w.alloc r) (cB (List.replicate 64 0)).toArray 120 64 (by simp [cB_len])
    simp only [World.size_alloc] at q2
    rw [World.there_drew]; exact World.there_alloc q2 _
  have HK : Hid (∀ w', Below w.heap.size w w' → (w'.cell? ⟨p, 0, none⟩ = some (.int .u32 s0) ∧ w'.cell? ⟨p, 1, none⟩ = some (.int .u32 s1) ∧ w'.cell? ⟨p, 2, none⟩ = some (.int .u32 s2) ∧ w'.cell? ⟨p, 3, none⟩ = some (.int .u32 s3) ∧ w'.cell? ⟨p, 4, none⟩ = some (.int .u32 s4) ∧ w'.cell? ⟨p, 5, none⟩ = some (.int .u32 s5) ∧ w'.cell? ⟨p, 6, none⟩ = some (.int .u32 s6) ∧ w'.cell? ⟨p, 7, none⟩ = some (.int .u32 s7) ∧ w'.cell? ⟨p, 72, none⟩ = some (.int .u64 n) ∧ w'.rangeAt p 8 (cB blk) ∧ Below w.heap.size w w')) := fun w' hb => by
    refine ⟨?_, ?_, ?_, ?_, ?_, ?_, ?_, ?_, ?_, range_below hb hp hrb, hb⟩ <;> (rw [hb.cell hp]; assumption)
  have HH : Hid (Hs w p [s0, s1, s2, s3, s4, s5, s6, s7] blk n) := hh
  clear hh
  go_enter Tryd.func83, Tryd.ntmps83
  go_wp2
  go_cut [3, 4, 5] from 8 (fun q3 q4 q5 wc => ∃ bs bl : Nat, q3 = .pointer (some ⟨bs, 0, none⟩) ∧ q4 = .pointer (some ⟨bl, 0, none⟩) ∧ q5 = .int .i64 (u : Int) ∧ Cl w wc [s0, s1, s2, s3, s4, s5, s6, s7] blk bs bl)
  case first =>
   go_region_held3 (fun w' => w'.cell? ⟨p, 0, none⟩ = some (.int .u32 s0) ∧ w'.cell? ⟨p, 1, none⟩ = some (.int .u32 s1) ∧ w'.cell? ⟨p, 2, none⟩ = some (.int .u32 s2) ∧ w'.cell? ⟨p, 3, none⟩ = some (.int .u32 s3) ∧ w'.cell? ⟨p, 4, none⟩ = some (.int .u32 s4) ∧ w'.cell? ⟨p, 5, none⟩ = some (.int .u32 s5) ∧ w'.cell? ⟨p, 6, none⟩ = some (.int .u32 s6) ∧ w'.cell? ⟨p, 7, none⟩ = some (.int .u32 s7) ∧ w'.cell? ⟨p, 72, none⟩ = some (.int .u64 n) ∧ w'.rangeAt p 8 (cB blk) ∧ Below w.heap.size w w')
    ((refine HK.out _ ?_; repeat (first | exact Below.refl _ _ | assumption | apply Below.drew | (refine Below.alloc ?_ (by simp <;> omega) _) | (refine below_setCells ?_ (by omega) _ _)))) (first | (go_at_call 81; refine (waiting_u n u hu64 _ p ?_).mono ?_; (simp [*]); rintro e w' ⟨rfl, rfl⟩))
   all_goals
     go_wp2
     go_meet
     case rel =>
      go_light
      first
        | exact ⟨_, _, rfl, rfl, rfl, Cl.one w [s0, s1, s2, s3, s4, s5, s6, s7] blk rfl hl [0, 0, 0, 0, 0, 0, 0, 0] rfl (List.replicate 64 0) rfl 119 119 120⟩
        | exact ⟨_, _, rfl, rfl, rfl, Cl.two w [s0, s1, s2, s3, s4, s5, s6, s7] blk rfl hl [0, 0, 0, 0, 0, 0, 0, 0] rfl (List.replicate 64 0) rfl 119 119 120⟩
  case rest =>
   obtain ⟨bs, bl, rfl, rfl, rfl, hcl⟩ := hcut
   clear hA hB HK c0 c1 c2 c3 c4 c5 c6 c7
   have hu0 : (0 : Int) ≤ (u : Int) := Int.natCast_nonneg _
   have hu1 : (u : Int) < 64 := by have := hu64.out; omega
   have cu : wc.cell? ⟨bl, u, none⟩ = some (.int .u8 (blk.getD u 0)) := cell_cB0 hcl.last (by omega)
   have fu : wc.frozen? ⟨bl, u, none⟩ = false := by have := (hcl.lastt u (by omega)).2; rwa [Nat.zero_add] at this
   have HC : Hid (Cl w (wc.setCell ⟨bl, u, none⟩ (.int .u8 128)) [s0, s1, s2, s3, s4, s5, s6, s7] (blk.set u 128) bs bl) := hcl.set u 128
   clear hcl
   obtain ⟨v, hv⟩ : ∃ v : Nat, u + 1 = v := ⟨_, rfl⟩
   have ev : (u : Int) + 1 = (v : Int) := by omega
   have HV : Hid (u + 1 = v) := hv
   clear hv
   go_upto_region 3 with (fail)
   go_cut [] from 18 (fun wx => Cl w wx [s0, s1, s2, s3, s4, s5, s6, s7] (endL blk u) bs bl)
   case first =>
    by_cases h63 : v = 64
    · subst h63
      have hclr : (Builtin.clear_ #[51] 0 #[.slice (some ⟨bl, 0, none⟩) 0 0]).run Tryd.prog (wc.setCell ⟨bl, u, none⟩ (.int .u8 128)) = .ok (.tuple #[]) (wc.setCell ⟨bl, u, none⟩ (.int .u8 128)) := clear_none _ _
      go_wp2
      go_meet
      case rel =>
        go_light
        have h1 := HC.out
        have h2 := HV.out
        have e : endL blk u = blk.set u 128 := by
          unfold endL; rw [List.take_of_length_le (by simp; omega)]; simp; omega
        rw [e]; exact h1
    · obtain ⟨m, hm⟩ : ∃ m : Nat, v + m = 64 := ⟨64 - v, by have := HV.out; omega⟩
      have hm0 : 0 < m := by omega
      have hsl := fun w' => slice_tail bl 0 v m hm hm0 w'
      have hclr : (Builtin.clear_ #[51] 0 #[.slice (some ⟨bl, v, none⟩) m m]).run Tryd.prog (wc.setCell ⟨bl, u, none⟩ (.int .u8 128)) = .ok (.tuple #[]) ((wc.setCell ⟨bl, u, none⟩ (.int .u8 128)).setCells bl v (List.replicate m (.int .u8 0))) := clear_some _ _ _ _ hm0 (fun j hj => by
        have := HC.out.lastt (v + j) (by omega)
        rwa [Nat.zero_add] at this)
      simp only [Nat.zero_add] at hsl
      have HM : Hid (v + m = 64) := hm
      clear hm
      go_wp2
      go_meet
      case rel =>
        go_light
        have h1 := HC.out.rest v (by have := HM.out; omega)
        have h2 := HV.out
        have e : 64 - v = m := by have := HM.out; omega
        rw [e] at h1
        unfold endL
        rw [h2, e]; exact h1
   case rest =>
    have hcl := hcut
    clear hcut HC cu fu
    have HB : Hid (∃ b8, b8 = IntKind.u64.wrap ((n : Int) * 8)) := ⟨_, rfl⟩
    go_upto_if 26 with (fail)
    go_cut [] from 18 (fun wx => ∃ st2 last2 : List Int, Hid (closeI rs [s0, s1, s2, s3, s4, s5, s6, s7] blk n = foldI rs st2 (lenAt last2 (IntKind.u64.wrap ((n : Int) * 8)) 8)) ∧ Cl w wx st2 last2 bs bl)
    case first =>
      by_cases h55 : v + 8 ≤ 64
      · have h55' : ¬ ((64 : Int) < (v : Int) + 8) := by omega
        go_wp2
        go_meet
        case rel =>
          go_light
          refine ⟨_, _, ?_, hcl⟩
          have h2 := HV.out
          have h3 := hu64.out
          show _ = _
          unfold closeI
          rw [if_neg (by omega), h3]
      · have h55' : (64 : Int) < (v : Int) + 8 := by omega
        have hi34 : (Tryd.prog.info? 119).map (·.size) = some (cW [s0, s1, s2, s3, s4, s5, s6, s7]).length := size34
        have hle := endL_len hl (show u < 64 by omega)
        have hi35 : (Tryd.prog.info? 120).map (·.size) = some (cB (endL blk u)).length := by rw [cB_len, hle]; exact size35
        have hrc : wc.rangeAt 0 0 (cW rs) := range_below hcl.below h1w hr
        have hst := hcl.st
        have hla := hcl.last
        have HL : Hid (∀ w', Below wc.heap.size wc w' → Cl w w' [s0, s1, s2, s3, s4, s5, s6, s7] (endL blk u) bs bl) := fun w' hb => hcl.later hb
        clear hcl
        have hfo := fun w' => folded_any [s0, s1, s2, s3, s4, s5, s6, s7] rfl (endL blk u) hle w' rs hrl
        generalize hF : foldI rs [s0, s1, s2, s3, s4, s5, s6, s7] (endL blk u) = F at hfo
        have hFl : F.length = 8 := by rw [← hF]; rfl
        have hiF : (Tryd.prog.info? 119).map (·.size) = some (cW F).toArray.size := by rw [List.size_toArray, cW_len, hFl]; exact size34
        have HF : Hid (foldI rs [s0, s1, s2, s3, s4, s5, s6, s7] (endL blk u) = F) := hF
        clear hF
        go_wp2_with (first | (refine wpList_load_mid rfl 119 _ rfl bs 0 rfl _ _ hst Tryd.underlying119 rfl hi34 ?_) | (refine wpList_load_mid rfl 120 _ rfl bl 0 rfl _ _ hla Tryd.underlying120 rfl hi35 ?_) | (go_at_call 82; refine (hfo _ hrc).mono ?_; rintro e w' ⟨rfl, hbw⟩) | (refine wpList_store_mid rfl 119 _ _ rfl bs 0 (cW F).toArray rfl rfl ?_ hiF (all_oneCell_toArray (cW_one F)) ?_; exact (by rw [List.size_toArray, cW_len, hFl]; exact (HL.out _ hbw).stt)) | (refine wpList_store_mid rfl 120 _ _ rfl bl 0 (cB (List.replicate 64 0)).toArray rfl rfl ?_ size35 (all_oneCell_toArray (cB_one _)) ?_; exact ((HL.out _ hbw).storeSt F hFl).lastt))
        go_simp
        go_meet
        case rel =>
          go_light
          refine ⟨_, _, ?_, ((HL.out _ hbw).storeSt F hFl).storeLast _ rfl⟩
          have h2 := HV.out
          have h3 := hu64.out
          show _ = _
          unfold closeI
          rw [if_pos (by omega), h3, HF.out]
          rfl
    case rest =>
      obtain ⟨st2, last2, HC, hcl⟩ := hcut
      have c72' : wc.cell? ⟨p, 72, none⟩ = some (.int .u64 n) := by rw [hcl.below.cell (p := ⟨p, 72, none⟩) hp]; exact c72
      go_wp2
      generalize hb8 : IntKind.u64.wrap ((n : Int) * 8) = b8 at *
      clear hb8
      go_loopg [36] 8 (fun g i wr => ∃ k : Nat, k ≤ 8 ∧ g = 8 - k ∧ i = .int .i64 k ∧ Cl w wr st2 (lenAt last2 b8 k) bs bl)
      case atStart =>
        go_light
        exact ⟨0, Nat.zero_le _, rfl, rfl, hcl⟩
      case round =>
        clear hcl c72'
        obtain ⟨k, hk, rfl, rfl, hcl⟩ := hrel
        by_cases hlt : k < 8
        · have hk0 : (0 : Int) ≤ (k : Int) := Int.natCast_nonneg _
          have hk8 : (k : Int) < 8 := by omega
          obtain ⟨m, hm⟩ : ∃ m : Nat, k + m = 63 := ⟨63 - k, by omega⟩
          obtain ⟨m8, hm8⟩ : ∃ m8 : Nat, 8 * k = m8 := ⟨_, rfl⟩
          have em : (63 : Int) - (k : Int) = (m : Int) := by omega
          have em8 : (8 : Int) * (k : Int) = (m8 : Int) := by omega
          have bm0 : (0 : Int) ≤ (m : Int) := Int.natCast_nonneg _
          have bm1 : (m : Int) < 64 := by omega
          have b80 : (0 : Int) ≤ (m8 : Int) := Int.natCast_nonneg _
          have b81 : (m8 : Int) < 64 := by omega
          have cm : wr.cell? ⟨bl, m, none⟩ = some (.int .u8 ((lenAt last2 b8 k).getD m 0)) := cell_cB0 hcl.last (by have := hcl.lastl; omega)
          have fm : wr.frozen? ⟨bl, m, none⟩ = false := by have := (hcl.lastt m (by omega)).2; rwa [Nat.zero_add] at this
          have HF : Hid (∀ x, Cl w (wr.setCell ⟨bl, m, none⟩ (.int .u8 x)) st2 ((lenAt last2 b8 k).set m x) bs bl) := fun x => hcl.set m x
          have HV : Hid (lenAt last2 b8 (k + 1) = (lenAt last2 b8 k).set m (IntKind.u8.wrap (b8 / 2 ^ m8))) := by
            show _ = _
            rw [lenAt, ← hm8, show 63 - k = m by omega]
          clear hcl hm hm8
          generalize (lenAt last2 b8 k).getD m 0 = z at *
          go_wp2
          go_roundg (8 - (k + 1))
          case rel =>
            go_light
            refine ⟨k + 1, by omega, rfl, by go_num, ?_⟩
            rw [HV.out]
            exact HF.out _
          case measure => go_light; omega
        · obtain rfl : k = 8 := by omega
          clear hk hlt
          have hi34 : (Tryd.prog.info? 119).map (·.size) = some (cW st2).length := by rw [cW_len, hcl.stl]; exact size34
          have hi35 : (Tryd.prog.info? 120).map (·.size) = some (cB (lenAt last2 b8 8)).length := by rw [cB_len, hcl.lastl]; exact size35
          have hrc : wr.rangeAt 0 0 (cW rs) := range_below hcl.below h1w hr
          have hst := hcl.st
          have hla := hcl.last
          have HL : Hid (∀ w', Below wr.heap.size wr w' → Cl w w' st2 (lenAt last2 b8 8) bs bl) := fun w' hb => hcl.later hb
          have hfo := fun w' => folded_any st2 hcl.stl (lenAt last2 b8 8) hcl.lastl w' rs hrl
          clear hcl
          rw [← HC.out] at hfo
          have hFl := closeI_len rs [s0, s1, s2, s3, s4, s5, s6, s7] blk n
          generalize hE : closeI rs [s0, s1, s2, s3, s4, s5, s6, s7] blk n = F at hfo hFl
          have hiF : (Tryd.prog.info? 119).map (·.size) = some (cW F).toArray.size := by rw [List.size_toArray, cW_len, hFl]; exact size34
          have hszF : (cW F).toArray.size = 8 := by simp [cW_len, hFl]
          have hiF2 : (Tryd.prog.info? 119).map (·.size) = some (cW F).length := by rw [cW_len, hFl]; exact size34
          have HE : Hid (closeI rs [s0, s1, s2, s3, s4, s5, s6, s7] blk n = F) := hE
          clear hE HC
          go_wp2_with (first | (refine wpList_load_mid rfl 119 _ rfl bs 0 rfl _ _ hst Tryd.underlying119 rfl hi34 ?_) | (refine wpList_load_mid rfl 120 _ rfl bl 0 rfl _ _ hla Tryd.underlying120 rfl hi35 ?_) | (go_at_call 82; refine (hfo _ hrc).mono ?_; rintro e w' ⟨rfl, hbw⟩) | (refine wpList_store_mid rfl 119 _ _ rfl w.heap.size 0 (cW F).toArray rfl rfl ?_ hiF (all_oneCell_toArray (cW_one F)) ?_; exact (by rw [hszF]; exact (HL.out _ hbw).res)))
          refine bodyPost_ret (v := .agg (cW F).toArray) ?_ rfl ⟨by rw [HE.out], ?_⟩
          · refine results_cell_mid Tryd.results83 _ _ w.heap.size 0 (cW F) (.array 8 118) ?_ ?_ Tryd.underlying119 rfl hiF2
            · rfl
            · go_light
              exact World.rangeAt_setCells_same _ _ _ _ (by rw [cW_len, hFl]; exact (HL.out _ hbw).res)
          · go_light
            exact below_setCells (HL.out _ hbw).below (Nat.le_refl _) _ _
end Go.Proofs.YtdkcliblbaldhaaDoor
/-
  What was written, as a list of bytes, and the hash that holds it; copy from a string. Own work.
-/
namespace Go.Proofs.YtdkcliblbaldhaaDoor
open Go.RowKit

/-- A string's bytes as numbers. -/
def tB (s : ByteArray) : List Int := s.data.toList.map fun x => (x.toNat : Int)
theorem tB_len (s : ByteArray) : (tB s).length = s.size := by simp [tB]
theorem cB_tB (s : ByteArray) : cB (tB s) = s.data.toList.map fun x => Value.int .u8 (x.toNat : Int) := by simp [cB, tB, List.map_map, Function.comp_def]

theorem run_copy_str {P : Program} (w : World) (dT sT ty elem : TypeId) (b o dLen dCap c : Nat) (t : ByteArray)
    (hu : P.underlying dT = some (.slice elem)) (hz : ∀ w, (Go.sizeOf elem).run P w = .ok 1 w) (hc : Nat.min t.size dLen = c) (ht : w.there b o c) :
    (Builtin.copy_ #[dT, sT] ty #[.slice (some ⟨b, o, none⟩) dLen dCap, .string t]).run P w = .ok (goInt c) (w.setCells b o (cB ((tB t).take c))) := by
  have hle : c ≤ t.size := by rw [← hc]; exact Nat.min_le_left _ _
  have hl : (cB ((tB t).take c)).length = c := by rw [cB_len, List.length_take, tB_len]; omega
  have hst := run_storeCells_cells (P := P) b o (cB ((tB t).take c)) 0 w (by rw [hl]; intro j hj; simpa using (ht j hj).1) (by rw [hl]; intro j hj; simpa using (ht j hj).2) (cB_one _)
  have he : List.take c (List.map (fun x : UInt8 => Value.int IntKind.u8 (x.toNat : Int)) t.data.toList) = cB ((tB t).take c) := by
    rw [← cB_tB]; simp [cB, List.map_take]
  simp only [Nat.add_zero] at hst
  simp [Builtin.copy_, run_underlying hu, Builtin.lenOf, Builtin.firstCells, hz, hc]
  rw [he, hst]
  rfl

theorem step_copy_str {P : Program} {ops : Array Oper} {o : Oper} {a : Act} {w : World} {K : Act → World → Prop} {Q : Exit → Act → World → Prop} {E : Prop}
    (hg : o.guard = none) (d x : Operand) (dT sT : TypeId) (hop : o.op = Op.call { callee := Callee.builtin Builtin.copy, args := #[d, x], argTypes := #[dT, sT] })
    (elem : TypeId) (hu : P.underlying dT = some (.slice elem)) (hz : ∀ w, (Go.sizeOf elem).run P w = .ok 1 w)
    (b off dLen dCap c : Nat) (hd : a.eval d = .slice (some ⟨b, off, none⟩) dLen dCap) (t : ByteArray) (hx : a.eval x = .string t) (hc : Nat.min t.size dLen = c) (ht : w.there b off c)
    (hK : K (a.put o.dst (goInt c)) (w.setCells b off (cB ((tB t).take c)))) :
    if Region.wanted o (yielded ops a.tmps) = true then Oper.wp P o a w K Q else E := by
  have hw : Region.wanted o (yielded ops a.tmps) = true := by simp [Region.wanted, hg]
  rw [if_pos hw]
  have hrun := run_copy_str (P := P) w dT sT o.type elem b off dLen dCap c t hu hz hc ht
  unfold Oper.wp
  simp [execOp, hop, resolve, invoke, builtin, hd, hx, hrun, Result.andThen]
  exact hK

/-- Cells within a range are stored anew. -/
theorem range_mid {w : World} {b o : Nat} {cs : List Value} (h : w.rangeAt b o cs) (k : Nat) (vs : List Value) (hk : k + vs.length ≤ cs.length) (ht : w.there b (o + k) vs.length) :
    (w.setCells b (o + k) vs).rangeAt b o (cs.take k ++ vs ++ cs.drop (k + vs.length)) := fun j u hu => by
  have hlen : (cs.take k).length = k := by simp; omega
  by_cases hj : j < k
  · rw [List.append_assoc, List.getElem?_append_left (by omega), List.getElem?_take, if_pos hj] at hu
    rw [World.cell?_setCells_out b vs (o + k) w ⟨b, o + j, none⟩ (fun _ _ => Or.inl (by show o + j < o + k; omega))]
    exact h j u hu
  · by_cases hj2 : j < k + vs.length
    · rw [List.getElem?_append_left (by simp; omega), List.getElem?_append_right (by omega), hlen] at hu
      have := World.cell?_setCells_in b vs (o + k) w (fun i hi => (ht i hi).1) (j - k) (by omega)
      rw [show o + k + (j - k) = o + j by omega] at this
      rw [this, ← hu, List.getElem?_eq_getElem (by omega)]
    · rw [List.getElem?_append_right (by simp; omega)] at hu
      rw [List.getElem?_drop, show k + vs.length + (j - (cs.take k ++ vs).length) = j by simp; omega] at hu
      rw [World.cell?_setCells_out b vs (o + k) w ⟨b, o + j, none⟩ (fun _ _ => Or.inr (by show o + k + vs.length ≤ o + j; omega))]
      exact h j u hu

/-- The state behind k whole blocks of t. -/
def stN (rs iv t : List Int) : Nat → List Int
  | 0 => iv
  | k + 1 => foldI rs (stN rs iv t k) ((t.drop (64 * k)).take 64)
theorem stN_append (rs iv t x : List Int) (k : Nat) (h : 64 * k ≤ t.length) : stN rs iv (t ++ x) k = stN rs iv t k := by
  induction k with
  | zero => rfl
  | succ k ih =>
    rw [stN, stN, ih (by omega), List.drop_append_of_le_length (by omega), List.take_append_of_le_length (by simp; omega)]
theorem stN_len {rs iv t : List Int} (h : iv.length = 8) (k : Nat) : (stN rs iv t k).length = 8 := by
  cases k with
  | zero => exact h
  | succ k => exact foldI_len _ _ _

/-- A hash that holds what was written: t. -/
def Hst (w : World) (p : Nat) (rs iv t : List Int) : Prop :=
  ∃ st blk, Hs w p st blk t.length ∧ st = stN rs iv t (t.length / 64) ∧ blk.take (t.length % 64) = t.drop (64 * (t.length / 64))
theorem Hst.later {w w' : World} {p B : Nat} {rs iv t : List Int} (h : Hst w p rs iv t) (hb : Below B w w') (hp : p < B) : Hst w' p rs iv t := by
  obtain ⟨st, blk, h1, h2, h3⟩ := h
  exact ⟨st, blk, h1.later hb hp, h2, h3⟩
theorem Hst.lt {w : World} {p : Nat} {rs iv t : List Int} (h : Hst w p rs iv t) : p < w.heap.size := by
  obtain ⟨st, blk, h1, h2, h3⟩ := h
  exact h1.lt

/-- The block behind a copy. -/
def blkC (blk x : List Int) (u : Nat) : List Int := blk.take u ++ x ++ blk.drop (u + x.length)
theorem blkC_len {blk x : List Int} {u : Nat} (h : blk.length = 64) (hu : u + x.length ≤ 64) : (blkC blk x u).length = 64 := by simp [blkC, h]; omega
theorem blkC_take {blk x t : List Int} {u : Nat} (h : blk.length = 64) (_hu : u + x.length ≤ 64) (ht : t.length % 64 = u) (hb : blk.take u = t.drop (64 * (t.length / 64))) :
    (blkC blk x u).take (u + x.length) = (t ++ x).drop (64 * (t.length / 64)) := by
  have e : (blk.take u ++ x).length = u + x.length := by simp [h]; omega
  rw [blkC, List.take_append_of_le_length (by omega), List.take_of_length_le (by omega), hb, List.drop_append_of_le_length (by omega)]
theorem div_same {t x : List Int} (h : t.length % 64 + x.length < 64) : (t ++ x).length / 64 = t.length / 64 ∧ (t ++ x).length % 64 = t.length % 64 + x.length := by
  simp only [List.length_append]; omega
theorem div_next {t x : List Int} (h : t.length % 64 + x.length = 64) : (t ++ x).length / 64 = t.length / 64 + 1 ∧ (t ++ x).length % 64 = 0 := by
  simp only [List.length_append]; omega

theorem Hs.copied {w : World} {p : Nat} {st blk : List Int} {n : Nat} (h : Hs w p st blk n) (u : Nat) (x : List Int) (hu : u + x.length ≤ 64) : Hs (w.setCells p (8 + u) (cB x)) p st (blkC blk x u) n := by
  have hl := h.blkl
  refine ⟨h.stl, blkC_len hl hu, ?_, ?_, ?_, World.there_setCells h.there _ _ _⟩
  · exact World.rangeAt_setCells_apart h.st _ _ _ (by right; left; rw [cW_len, h.stl]; omega)
  · have := range_mid h.blk u (cB x) (by rw [cB_len, cB_len, hl]; omega) (fun j hj => by
      rw [cB_len] at hj
      have := h.there (8 + u + j) (by omega)
      rwa [Nat.zero_add] at this)
    simpa [blkC, cB, List.map_take, List.map_drop] using this
  · rw [World.cell?_setCells_out p (cB x) (8 + u) w ⟨p, 72, none⟩ (fun _ _ => by right; show 8 + u + (cB x).length ≤ 72; rw [cB_len]; omega)]
    exact h.len
theorem Hs.setLen {w : World} {p : Nat} {st blk : List Int} {n : Nat} (h : Hs w p st blk n) (m : Nat) : Hs (w.setCell ⟨p, 72, none⟩ (.int .u64 m)) p st blk m := by
  have hl := h.blkl
  have hs := h.stl
  refine ⟨h.stl, h.blkl, ?_, ?_, ?_, there_set h.there _ _⟩
  · intro j u hu
    have hj : j < 8 := by have := (List.getElem?_eq_some_iff.1 hu).1; rw [cW_len, hs] at this; exact this
    rw [World.cell?_setCell_other _ _ _ _ (fun e => by have := congrArg Addr.off e; simp at this; omega)]
    exact h.st j u hu
  · intro j u hu
    have hj : j < 64 := by have := (List.getElem?_eq_some_iff.1 hu).1; rw [cB_len, hl] at this; exact this
    rw [World.cell?_setCell_other _ _ _ _ (fun e => by have := congrArg Addr.off e; simp at this; omega)]
    exact h.blk j u hu
  · exact World.cell?_setCell_same _ _ _ h.len
theorem Hs.setState {w : World} {p : Nat} {st blk : List Int} {n : Nat} (h : Hs w p st blk n) (st' : List Int) (hs' : st'.length = 8) : Hs (w.setCells p 0 (cW st')) p st' blk n := by
  refine ⟨hs', h.blkl, ?_, ?_, ?_, World.there_setCells h.there _ _ _⟩
  · exact World.rangeAt_setCells_same _ _ _ _ (by rw [cW_len, hs']; exact fun j hj => h.there j (by omega))
  · exact World.rangeAt_setCells_apart h.blk _ _ _ (by right; right; rw [cW_len, hs']; omega)
  · rw [World.cell?_setCells_out p (cW st') 0 w ⟨p, 72, none⟩ (fun _ _ => by right; show 0 + (cW st').length ≤ 72; rw [cW_len, hs']; omega)]
    exact h.len
theorem Hs.drew {w : World} {p : Nat} {st blk : List Int} {n : Nat} (h : Hs w p st blk n) : Hs w.drew p st blk n :=
  ⟨h.stl, h.blkl, by rw [World.rangeAt_drew]; exact h.st, by rw [World.rangeAt_drew]; exact h.blk, h.len, by rw [World.there_drew]; exact h.there⟩
theorem grown_setCells {a w : World} {b : Nat} (h : a.grownBy w (some b)) (o : Nat) (vs : List Value) : a.grownBy (w.setCells b o vs) (some b) := by
  induction vs generalizing o w with
  | nil => exact h
  | cons c r ih => exact ih (Lib.grownBy_setB h o c) (o + 1)
theorem grown_below {a w w' : World} {b : Nat} (h : a.grownBy w (some b)) (hb : Below w.heap.size w w') : a.grownBy w' (some b) :=
  Lib.grownBy_trans h ⟨hb.os, hb.tape, hb.output, hb.size, fun k hk _ => hb.block k hk⟩
theorem grown_drew {a w : World} {b : Nat} (h : a.grownBy w (some b)) : a.grownBy w.drew (some b) := ⟨h.os, h.tape, h.output, h.size, h.block⟩
theorem range_grown {a w : World} {b c o : Nat} {cs : List Value} (h : a.grownBy w (some b)) (hne : c ≠ b) (hr : a.rangeAt c o cs) : w.rangeAt c o cs := fun j u hu => by
  have h1 := hr j u hu
  have hlt := World.block_lt_of_cell? _ _ h1
  rw [World.cell?_of_block (w := a) (h.block c hlt (fun e => hne (Option.some.inj e)))]
  exact h1
/-- The rounds are no hash. -/
theorem Hs.ne_rounds {w : World} {p q : Nat} {st blk : List Int} {n : Nat} (h : Hs w p st blk n) {rs : List Int} (hl : rs.length = 64) (hr : w.rangeAt q 0 (cW rs)) : q ≠ p := by
  rintro rfl
  have h1 := cell_cW0 hr (i := 8) (by omega)
  have h2 := cell_cB h.blk (i := 0) (by have := h.blkl; omega)
  rw [Nat.add_zero, h1] at h2
  injection h2 with h2
  injection h2 with h2
  cases h2
theorem tB_extract (r : ByteArray) (c : Nat) : tB (r.extract c r.size) = (tB r).drop c := by
  have : (r.extract c r.size).data.toList = r.data.toList.drop c := by
    rw [ByteArray.data_extract]
    simp [Array.toList_extract, List.extract]
    apply List.take_of_length_le
    simp
  rw [tB, this, tB, List.map_drop]
theorem tB_nil {r : ByteArray} (h : r.size = 0) : tB r = [] := by
  have := tB_len r
  rw [h] at this
  exact List.length_eq_zero_iff.1 this
/-- One copy more: the block is full, and is folded. -/
theorem Hst.full {w : World} {p : Nat} {rs iv t x st blk : List Int} {u : Nat} (hl : blk.length = 64) (hu : t.length % 64 = u) (hx : u + x.length = 64)
    (hst : st = stN rs iv t (t.length / 64)) (hb : blk.take u = t.drop (64 * (t.length / 64))) (h : Hs w p (foldI rs st (blkC blk x u)) (blkC blk x u) (t ++ x).length) : Hst w p rs iv (t ++ x) := by
  have hd := div_next (t := t) (x := x) (by omega)
  have hk := blkC_take (x := x) hl (by omega) hu hb
  rw [hx, List.take_of_length_le (by rw [blkC_len hl (by omega)]; exact Nat.le_refl _)] at hk
  refine ⟨_, _, h, ?_, ?_⟩
  · rw [hd.1, stN, stN_append _ _ _ _ _ (by omega), ← hst, ← hk, List.take_of_length_le (by rw [blkC_len hl (by omega)]; exact Nat.le_refl _)]
  · rw [hd.2, hd.1, List.take_zero, List.drop_eq_nil_of_le]
    simp only [List.length_append]; omega
/-- One copy more: the block is not full yet. -/
theorem Hst.part {w : World} {p : Nat} {rs iv t x st blk : List Int} {u : Nat} (hl : blk.length = 64) (hu : t.length % 64 = u) (hx : u + x.length < 64)
    (hst : st = stN rs iv t (t.length / 64)) (hb : blk.take u = t.drop (64 * (t.length / 64))) (h : Hs w p st (blkC blk x u) (t ++ x).length) : Hst w p rs iv (t ++ x) := by
  have hd := div_same (t := t) (x := x) (by omega)
  have hk := blkC_take (x := x) hl (by omega) hu hb
  refine ⟨_, _, h, ?_, ?_⟩
  · rw [hd.1, stN_append _ _ _ _ _ (by omega), ← hst]
  · rw [hd.2, hd.1, hu]; exact hk
end Go.Proofs.YtdkcliblbaldhaaDoor
/-
  Walks of package sha: Write. Own work.
-/
namespace Go.Proofs.YtdkcliblbaldhaaDoor
open Go.RowKit
attribute [local go_sem ↓] Go.wp_at_zero Go.wp_at_succ

set_option maxHeartbeats 2000000 in
set_option maxRecDepth 100000 in
theorem write_any (w : World) (p : Nat) (rs iv t : List Int) (s : ByteArray) (hrl : rs.length = 64) (hr : w.rangeAt 0 0 (cW rs)) (hh : Hst w p rs iv t) (hlen : t.length + s.size < 4611686018427387904) :
    Calls Tryd.prog 69 #[.pointer (some ⟨p, 0, none⟩), .string s] w fun e w' => e = .returned (.tuple #[]) ∧ Hst w' p rs iv (t ++ tB s) ∧ w.grownBy w' (some p) := by
  have hne1 : 0 ≠ p := by obtain ⟨st, blk, h1, h2, h3⟩ := hh; exact h1.ne_rounds hrl hr
  have HI : Hid (Hst w p rs iv t) := hh
  clear hh
  go_enter Tryd.func69, Tryd.ntmps69
  go_wp2
  go_loopg [1] s.size (fun g v wr => ∃ (r : ByteArray) (t' : List Int), g = r.size ∧ v = .string r ∧ Hst wr p rs iv t' ∧ Hid (t' ++ tB r = t ++ tB s) ∧ w.grownBy wr (some p))
  case atStart =>
    go_light
    exact ⟨s, t, rfl, rfl, HI.out, rfl, World.grownBy.refl _ _⟩
  case round =>
    obtain ⟨r, t', rfl, rfl, hh, HT, hg⟩ := hrel
    have hlen2 : t'.length + r.size = t.length + s.size := by
      have := congrArg List.length HT.out
      simpa [tB_len] using this
    by_cases hr0 : 0 < r.size
    · obtain ⟨st, blk, h1, h2, h3⟩ := hh
      obtain ⟨n, hn⟩ : ∃ n, t'.length = n := ⟨_, rfl⟩
      obtain ⟨u, hu⟩ : ∃ u, n % 64 = u := ⟨_, rfl⟩
      obtain ⟨m, hm⟩ : ∃ m, u + m = 64 := ⟨64 - u, by omega⟩
      obtain ⟨c, hc⟩ : ∃ c, Nat.min r.size m = c := ⟨_, rfl⟩
      obtain ⟨q, hq⟩ : ∃ q, 8 + u = q := ⟨_, rfl⟩
      have hcr : c ≤ r.size := by rw [← hc]; exact Nat.min_le_left _ _
      have hcm : c ≤ m := by rw [← hc]; exact Nat.min_le_right _ _
      have hc0 : 0 < c := by rw [← hc]; exact Nat.lt_min.2 ⟨hr0, by omega⟩
      have hr0' : (0 : Int) < (r.size : Int) := by omega
      rw [hn] at h1
      have c72 := h1.len
      have hth : wr.there p q c := fun j hj => by
        have := h1.there (q + j) (by omega)
        rwa [Nat.zero_add] at this
      have hu64 : Hid (n % 64 = u) := hu
      have hsl := fun w' => slice_tail p 8 u m hm (by omega) w'
      rw [hq] at hsl
      have hxl : ((tB r).take c).length = c := by rw [List.length_take, tB_len]; omega
      have hux : u + ((tB r).take c).length ≤ 64 := by omega
      have HK : Hid (∀ w' : World, w'.cell? ⟨p, 72, none⟩ = some (.int .u64 n) → (w'.setCells p q (cB ((tB r).take c))).cell? ⟨p, 72, none⟩ = some (.int .u64 n)) := fun w' h => by
        rw [World.cell?_setCells_out p _ q w' ⟨p, 72, none⟩ (fun _ _ => by right; show q + (cB ((tB r).take c)).length ≤ 72; rw [cB_len, hxl]; omega)]
        exact h
      have HW : Hid (Hs (wr.drew.setCells p q (cB ((tB r).take c))) p st (blkC blk ((tB r).take c) u) n) := by
        have := h1.drew.copied u ((tB r).take c) hux
        rwa [hq] at this
      have HG : Hid (w.grownBy (wr.drew.setCells p q (cB ((tB r).take c))) (some p)) := grown_setCells (grown_drew hg) _ _
      have Hnum : Hid (t'.length = n ∧ n % 64 = u ∧ u + m = 64 ∧ Nat.min r.size m = c ∧ ((tB r).take c).length = c) := ⟨hn, hu, hm, hc, hxl⟩
      have HL : Hid (blk.length = 64) := h1.blkl
      have Hst2 : Hid (st = stN rs iv t' (t'.length / 64) ∧ blk.take (t'.length % 64) = t'.drop (64 * (t'.length / 64))) := ⟨h2, h3⟩
      have hm0 : (0 : Int) ≤ (c : Int) := Int.natCast_nonneg _
      have hcr' : (c : Int) ≤ (r.size : Int) := by omega
      clear h1 h2 h3 hn hu hg hq hxl hux
      go_upto_region 1 with (fail)
      go_cut [4] from 5 to 42 (fun q4 wc => q4 = .int .i64 (c : Int) ∧ Hs wc p st (blkC blk ((tB r).take c) u) n ∧ w.grownBy wc (some p))
      case first =>
        go_region_held3 (fun w' => w'.cell? ⟨p, 72, none⟩ = some (.int .u64 n)) (first | assumption | (rw [World.cell?_drew]; assumption) | (exact HK.out _ (by assumption)) | (rw [World.cell?_drew]; exact HK.out _ (by assumption)) | (refine HK.out _ ?_; rw [World.cell?_drew]; assumption)) (first | (go_at_call 81; refine (waiting_u n u hu64 _ p ?_).mono ?_; (first | assumption | (rw [World.cell?_drew]; assumption)); rintro e w' ⟨rfl, rfl⟩) | (refine step_copy_str rfl _ _ 51 9 rfl 5 Tryd.underlying51 size5 p q m m c rfl r rfl hc ?_ ?_; (first | assumption | (rw [World.there_drew]; assumption))))
        go_wp2
        go_meet
        case rel =>
          go_light
          exact ⟨rfl, HW.out, HG.out⟩
      case rest =>
        obtain ⟨rfl, hs2, hg2⟩ := hcut
        obtain ⟨n', hn'⟩ : ∃ n' : Nat, n + c = n' := ⟨_, rfl⟩
        obtain ⟨u', hu'⟩ : ∃ u' : Nat, n' % 64 = u' := ⟨_, rfl⟩
        have hcB : n + c < 4611686018427387904 := by have := Hnum.out.1; omega
        have en : (n : Int) + (c : Int) = (n' : Int) := by omega
        have c72' := hs2.len
        have f72 : wc.frozen? ⟨p, 72, none⟩ = false := by have := (hs2.there 72 (by omega)).2; rwa [Nat.zero_add] at this
        have hs3 := hs2.setLen n'
        have hg3 : w.grownBy (wc.setCell ⟨p, 72, none⟩ (.int .u64 n')) (some p) := Lib.grownBy_setB hg2 _ _
        have b0 : (0 : Int) ≤ (n : Int) := Int.natCast_nonneg _
        have b1 : (n : Int) < 4611686018427387904 := by omega
        have b2 : (c : Int) < 4611686018427387904 := by omega
        have Hn' : Hid (n + c = n') := hn'
        have Hu' : Hid (n' % 64 = u') := hu'
        clear hn' hu' hs2 hg2 hcB
        go_upto_region 4 with (fail)
        generalize wc.setCell ⟨p, 72, none⟩ (.int .u64 (n' : Int)) = W3 at *
        clear c72' f72
        generalize hB : blkC blk ((tB r).take c) u = blk' at *
        have HB : Hid (blkC blk ((tB r).take c) u = blk') := hB
        clear hB HW HG HK hsl hth c72
        have hxs : (r.extract c r.size).size = r.size - c := by simp
        by_cases h0 : u' = 0
        · subst h0
          obtain ⟨s0, s1, s2, s3, s4, s5, s6, s7, rfl⟩ := list8 hs3.stl
          have c0 : W3.cell? ⟨p, 0, none⟩ = some (.int .u32 s0) := cell_cW0 hs3.st (i := 0) (by simp)
          have c1 : W3.cell? ⟨p, 1, none⟩ = some (.int .u32 s1) := cell_cW0 hs3.st (i := 1) (by simp)
          have c2 : W3.cell? ⟨p, 2, none⟩ = some (.int .u32 s2) := cell_cW0 hs3.st (i := 2) (by simp)
          have c3 : W3.cell? ⟨p, 3, none⟩ = some (.int .u32 s3) := cell_cW0 hs3.st (i := 3) (by simp)
          have c4 : W3.cell? ⟨p, 4, none⟩ = some (.int .u32 s4) := cell_cW0 hs3.st (i := 4) (by simp)
          have c5 : W3.cell? ⟨p, 5, none⟩ = some (.int .u32 s5) := cell_cW0 hs3.st (i := 5) (by simp)
          have c6 : W3.cell? ⟨p, 6, none⟩ = some (.int .u32 s6) := cell_cW0 hs3.st (i := 6) (by simp)
          have c7 : W3.cell? ⟨p, 7, none⟩ = some (.int .u32 s7) := cell_cW0 hs3.st (i := 7) (by simp)
          have hbl := hs3.blkl
          have hbr := hs3.blk
          have hi : (Tryd.prog.info? 120).map (·.size) = some (cB blk').length := by rw [cB_len, hbl]; exact size35
          have hu35 := Tryd.underlying120
          have hl' : (cB blk').length = 64 := by rw [cB_len, hbl]
          have hr3 : W3.rangeAt 0 0 (cW rs) := range_grown hg3 hne1 hr
          have hr3d : W3.drew.rangeAt 0 0 (cW rs) := by rw [World.rangeAt_drew]; exact hr3
          have hfo := fun w' => folded_any [s0, s1, s2, s3, s4, s5, s6, s7] rfl blk' hbl w' rs hrl
          generalize hF : foldI rs [s0, s1, s2, s3, s4, s5, s6, s7] blk' = F at hfo
          have hFl : F.length = 8 := by rw [← hF]; rfl
          have hszF : (cW F).toArray.size = 8 := by simp [cW_len, hFl]
          have hiF : (Tryd.prog.info? 119).map (·.size) = some (cW F).toArray.size := by rw [hszF]; exact size34
          have HF : Hid (foldI rs [s0, s1, s2, s3, s4, s5, s6, s7] blk' = F) := hF
          clear hF
          have c72' := hs3.len
          have hplt := hs3.lt
          have ht8 : W3.there p 0 8 := fun j hj => hs3.there j (by omega)
          have hst34 : ∀ w' : World, w'.there p 0 8 → (storeCells ⟨p, 0, none⟩ (cW F)).run Tryd.prog w' = .ok () (w'.setCells p 0 (cW F)) := fun w' h => by
            have hl8 : (cW F).length = 8 := by rw [cW_len, hFl]
            have := run_storeCells_cells (P := Tryd.prog) p 0 (cW F) 0 w' (by rw [hl8]; intro j hj; simpa using (h j hj).1) (by rw [hl8]; intro j hj; simpa using (h j hj).2) (cW_one F)
            simpa using this
          have HS3 : Hid (Hs W3 p [s0, s1, s2, s3, s4, s5, s6, s7] blk' n') := hs3
          clear hs3
          have HK : Hid (∀ w' : World, Below W3.drew.heap.size W3.drew w' → w'.rangeAt p 8 (cB blk') ∧ w'.there p 0 8) := fun w' h => ⟨range_below h hplt (by rw [World.rangeAt_drew]; exact hbr), there_below h hplt (by rw [World.there_drew]; exact ht8)⟩
          have hst3 : W3.drew.rangeAt p 0 (cW [s0, s1, s2, s3, s4, s5, s6, s7]) := by rw [World.rangeAt_drew]; exact HS3.out.st
          have hi34 : (Tryd.prog.info? 119).map (·.size) = some (cW [s0, s1, s2, s3, s4, s5, s6, s7]).length := size34
          have hS0 : W3.drew.rangeAt p 8 (cB blk') ∧ W3.drew.there p 0 8 := ⟨by rw [World.rangeAt_drew]; exact hbr, by rw [World.there_drew]; exact ht8⟩
          have HX : Hid (∀ w', Below W3.drew.heap.size W3.drew w' → Hs (w'.setCells p 0 (cW F)) p F blk' n' ∧ w.grownBy (w'.setCells p 0 (cW F)) (some p)) := fun w' hb =>
            ⟨(HS3.out.drew.later hb hplt).setState F hFl, grown_setCells (grown_below (grown_drew hg3) hb) _ _⟩
          clear c0 c1 c2 c3 c4 c5 c6 c7 hg3 hst34
          go_wp2_with (go_at_call 81; refine (waiting_u n' 0 Hu' _ p c72').mono ?_; rintro e w' ⟨rfl, rfl⟩)
          refine wp_region_noPanic ?_
          refine wp_region_held_drew (S := fun w' => w'.rangeAt p 8 (cB blk') ∧ w'.there p 0 8) (by kernel_rfl) hS0 (fun hHeld => ?_)
          refine wpAnyH_take (i := 0) (oi := { dst := some 31, op := Op.move (Operand.tmp 0), type := 108, pos := "sha.go:45", after := #[], guard := none }) (v := .pointer (some ⟨p, 0, none⟩)) rfl (by kernel_rfl) (by kernel_rfl) (by kernel_rfl) (fun _ _ _ h => h) (Or.inl ⟨by rfl, fun w hSw => ?_⟩) (by assumption) ?_
          · go_simp
          simp only [Act.put, List.setIfInBounds_toArray, List.set_cons_zero, List.set_cons_succ]
          refine wpAnyH_take (i := 1) (oi := { dst := some 32, op := Op.move (Operand.tmp 0), type := 108, pos := "sha.go:45", after := #[], guard := none }) (v := .pointer (some ⟨p, 0, none⟩)) rfl (by kernel_rfl) (by kernel_rfl) (by kernel_rfl) (fun _ _ _ h => h) (Or.inl ⟨by rfl, fun w hSw => ?_⟩) (by assumption) ?_
          · go_simp
          simp only [Act.put, List.setIfInBounds_toArray, List.set_cons_zero, List.set_cons_succ]
          refine wpAnyH_take (i := 2) (oi := { dst := some 33, op := Op.nilCheck (Operand.tmp 32), type := 0, pos := "sha.go:45", after := #[{ on := 1, ground := Ground.data }], guard := none }) (v := .pointer (some ⟨p, 0, none⟩)) rfl (by kernel_rfl) (by kernel_rfl) (by kernel_rfl) (fun _ _ _ h => h) (Or.inl ⟨by rfl, fun w hSw => ?_⟩) (by assumption) ?_
          · go_simp
          simp only [Act.put, List.setIfInBounds_toArray, List.set_cons_zero, List.set_cons_succ]
          refine wpAnyH_take (i := 3) (oi := { dst := some 34, op := Op.fieldAddr 122 (Operand.tmp 33) 0, type := 0, pos := "sha.go:45", after := #[{ on := 2, ground := Ground.data }], guard := none }) (v := .pointer (some ⟨p, 0, none⟩)) rfl (by kernel_rfl) (by kernel_rfl) (by kernel_rfl) (fun _ _ _ h => h) (Or.inl ⟨by rfl, fun w hSw => ?_⟩) (by assumption) ?_
          · go_simp
          simp only [Act.put, List.setIfInBounds_toArray, List.set_cons_zero, List.set_cons_succ]
          refine wpAnyH_take (i := 5) (oi := { dst := some 36, op := Op.move (Operand.tmp 0), type := 108, pos := "sha.go:45", after := #[], guard := none }) (v := .pointer (some ⟨p, 0, none⟩)) rfl (by kernel_rfl) (by kernel_rfl) (by kernel_rfl) (fun _ _ _ h => h) (Or.inl ⟨by rfl, fun w hSw => ?_⟩) (by assumption) ?_
          · go_simp
          simp only [Act.put, List.setIfInBounds_toArray, List.set_cons_zero, List.set_cons_succ]
          refine wpAnyH_take (i := 6) (oi := { dst := some 37, op := Op.nilCheck (Operand.tmp 36), type := 0, pos := "sha.go:45", after := #[{ on := 5, ground := Ground.data }], guard := none }) (v := .pointer (some ⟨p, 0, none⟩)) rfl (by kernel_rfl) (by kernel_rfl) (by kernel_rfl) (fun _ _ _ h => h) (Or.inl ⟨by rfl, fun w hSw => ?_⟩) (by assumption) ?_
          · go_simp
          simp only [Act.put, List.setIfInBounds_toArray, List.set_cons_zero, List.set_cons_succ]
          refine wpAnyH_take (i := 7) (oi := { dst := some 38, op := Op.fieldAddr 122 (Operand.tmp 37) 1, type := 0, pos := "sha.go:45", after := #[{ on := 6, ground := Ground.data }], guard := none }) (v := .pointer (some ⟨p, 8, none⟩)) rfl (by kernel_rfl) (by kernel_rfl) (by kernel_rfl) (fun _ _ _ h => h) (Or.inl ⟨by rfl, fun w hSw => ?_⟩) (by assumption) ?_
          · go_simp
          simp only [Act.put, List.setIfInBounds_toArray, List.set_cons_zero, List.set_cons_succ]
          refine wpAnyH_take (i := 8) (oi := { dst := some 39, op := Op.load 120 (Operand.tmp 38), type := 120, pos := "sha.go:45", after := #[{ on := 7, ground := Ground.data }], guard := none }) (v := .agg (cB blk').toArray) rfl (by kernel_rfl) (by kernel_rfl) (by kernel_rfl) (fun _ _ _ h => h) (yieldsIf_load_mid (by rfl) 120 _ rfl p 8 rfl (cB blk') _ (fun w hw => hw.1) Tryd.underlying120 rfl hi) (by assumption) ?_
          simp only [Act.put, List.setIfInBounds_toArray, List.set_cons_zero, List.set_cons_succ]
          refine wpAnyH_ready (rs := [4]) (by kernel_rfl) (by simp) ?_
          refine AllReadyH.cons (o := { dst := some 35, op := Op.load 119 (Operand.tmp 34), type := 119, pos := "sha.go:45", after := #[{ on := 3, ground := Ground.data }], guard := none }) rfl (fun K hK => ?_) AllReadyH.nil
          rw [if_pos (by rfl)]
          refine wp_load_mid 119 _ rfl p 0 rfl (cW [s0, s1, s2, s3, s4, s5, s6, s7]) _ hst3 Tryd.underlying119 rfl hi34 ?_
          refine hK.out _ _ hHeld (fun hHeld => ?_)
          clear hK K
          simp only [Act.put, List.setIfInBounds_toArray, List.set_cons_zero, List.set_cons_succ]
          refine wpAnyH_ready (rs := [9]) (by kernel_rfl) (by simp) ?_
          refine AllReadyH.cons (o := { dst := some 40, op := Op.call { callee := Callee.value (Operand.func 82), args := #[Operand.tmp 35, Operand.tmp 39], argTypes := #[119, 120] }, type := 119, pos := "sha.go:45", after := #[{ on := 4, ground := Ground.data }, { on := 8, ground := Ground.data }], guard := none }) rfl (fun K hK => ?_) AllReadyH.nil
          go_simp
          refine (hfo _ hr3d).mono ?_
          rintro e w4 ⟨rfl, hbw⟩
          have hth4 := (HK.out _ hbw).2
          refine hK.out _ _ (HK.out _ hbw) (fun hHeld => ?_)
          clear hK K
          refine wpAnyH_take (i := 10) (oi := { dst := some 41, op := Op.nilCheck (Operand.tmp 31), type := 0, pos := "sha.go:45", after := #[{ on := 0, ground := Ground.data }, { on := 0, ground := Ground.phase }, { on := 1, ground := Ground.phase }, { on := 2, ground := Ground.phase }, { on := 3, ground := Ground.phase }, { on := 4, ground := Ground.phase }, { on := 5, ground := Ground.phase }, { on := 6, ground := Ground.phase }, { on := 7, ground := Ground.phase }, { on := 8, ground := Ground.phase }, { on := 9, ground := Ground.phase }], guard := none }) (v := .pointer (some ⟨p, 0, none⟩)) rfl (by kernel_rfl) (by kernel_rfl) (by kernel_rfl) (fun _ _ _ h => h) (Or.inl ⟨by rfl, fun w hSw => ?_⟩) (by assumption) ?_
          · go_simp
          simp only [Act.put, List.setIfInBounds_toArray, List.set_cons_zero, List.set_cons_succ]
          refine wpAnyH_take (i := 11) (oi := { dst := some 42, op := Op.fieldAddr 122 (Operand.tmp 41) 0, type := 0, pos := "sha.go:45", after := #[{ on := 10, ground := Ground.data }, { on := 0, ground := Ground.phase }, { on := 1, ground := Ground.phase }, { on := 2, ground := Ground.phase }, { on := 3, ground := Ground.phase }, { on := 4, ground := Ground.phase }, { on := 5, ground := Ground.phase }, { on := 6, ground := Ground.phase }, { on := 7, ground := Ground.phase }, { on := 8, ground := Ground.phase }, { on := 9, ground := Ground.phase }], guard := none }) (v := .pointer (some ⟨p, 0, none⟩)) rfl (by kernel_rfl) (by kernel_rfl) (by kernel_rfl) (fun _ _ _ h => h) (Or.inl ⟨by rfl, fun w hSw => ?_⟩) (by assumption) ?_
          · go_simp
          simp only [Act.put, List.setIfInBounds_toArray, List.set_cons_zero, List.set_cons_succ]
          refine wpAnyH_ready (rs := [12]) (by kernel_rfl) (by simp) ?_
          refine AllReadyH.cons (o := { dst := none, op := Op.store 119 (Operand.tmp 42) (Operand.tmp 40), type := 0, pos := "sha.go:45", after := #[{ on := 11, ground := Ground.data }, { on := 9, ground := Ground.data }, { on := 9, ground := Ground.chain }, { on := 0, ground := Ground.phase }, { on := 1, ground := Ground.phase }, { on := 2, ground := Ground.phase }, { on := 3, ground := Ground.phase }, { on := 4, ground := Ground.phase }, { on := 5, ground := Ground.phase }, { on := 6, ground := Ground.phase }, { on := 7, ground := Ground.phase }, { on := 8, ground := Ground.phase }, { on := 9, ground := Ground.phase }], guard := none }) rfl (fun K hK => ?_) AllReadyH.nil
          rw [if_pos (by rfl)]
          refine wp_store_mid 119 _ _ rfl p 0 (cW F).toArray rfl rfl (by rw [hszF]; exact hth4) hiF (all_oneCell_toArray (cW_one F)) ?_
          refine hK.out _ _ ⟨World.rangeAt_setCells_apart hHeld.1 _ _ _ (by right; right; rw [List.toList_toArray, cW_len, hFl]; omega), World.there_setCells hth4 _ _ _⟩ (fun hHeld => ?_)
          clear hK K
          simp only [Act.put]
          refine wpAnyH_done (by kernel_rfl) ?_ _
          refine NoPanic.normal ?_
          go_wp2
          go_roundg (r.extract c r.size).size
          case rel =>
            go_light
            obtain ⟨hn, hu, hm, hc, hxl⟩ := Hnum.out
            obtain ⟨hH, hG⟩ := HX.out _ hbw
            have hn' := Hn'.out
            have hu' := Hu'.out
            obtain ⟨hst, hbk⟩ := Hst2.out
            have hf := HF.out
            have hb' := HB.out
            rw [hn, hu, ← hn] at hbk
            refine ⟨_, t' ++ (tB r).take c, rfl, rfl, Hst.full HL.out (by omega) (by omega) hst hbk ?_, ?_, hG⟩
            · rw [List.length_append, hxl, hn, hn', hb', hf]; exact hH
            · rw [tB_extract, List.append_assoc, List.take_append_drop]; exact HT
          case measure =>
            go_light
            rw [hxs]; omega
        · have h0' : ((u' : Int) == 0) = false := by rw [beq_eq_false_iff_ne]; omega
          have c72' := hs3.len
          have HS3 : Hid (Hs W3 p st blk' n') := hs3
          have HG3 : Hid (w.grownBy W3 (some p)) := hg3
          clear hs3 hg3
          go_wp2_with (go_at_call 81; refine (waiting_u n' u' Hu' _ p c72').mono ?_; rintro e w' ⟨rfl, rfl⟩)
          go_roundg (r.extract c r.size).size
          case rel =>
            go_light
            obtain ⟨hn, hu, hm, hc, hxl⟩ := Hnum.out
            have hn' := Hn'.out
            have hu' := Hu'.out
            obtain ⟨hst, hbk⟩ := Hst2.out
            have hb' := HB.out
            rw [hn, hu, ← hn] at hbk
            refine ⟨_, t' ++ (tB r).take c, rfl, rfl, Hst.part HL.out (by omega) (by omega) hst hbk ?_, ?_, HG3.out⟩
            · rw [List.length_append, hxl, hn, hn', hb']; exact HS3.out
            · rw [tB_extract, List.append_assoc, List.take_append_drop]; exact HT
          case measure =>
            go_light
            rw [hxs]; omega
    · have hr1 : r.size = 0 := by omega
      have hr0' : ¬ ((0 : Int) < (r.size : Int)) := by omega
      have HR : Hid (Hst wr p rs iv (t ++ tB s)) := by
        have := HT.out
        rw [tB_nil hr1, List.append_nil] at this
        rw [← this]; exact hh
      clear hh
      go_wp2
      go_end0
      exact ⟨rfl, HR.out, hg⟩
end Go.Proofs.YtdkcliblbaldhaaDoor
/-
  Walks of package sha: New, Sum. Own work.
-/
namespace Go.Proofs.YtdkcliblbaldhaaDoor
open Go.RowKit
attribute [local go_sem ↓] Go.wp_at_zero Go.wp_at_succ
/-- The words with which a sum begins. -/
def IV : List Int := [1779033703, 3144134277, 1013904242, 2773480762, 1359893119, 2600822924, 528734635, 1541459225]
set_option maxRecDepth 100000 in
theorem new_any (w : World) :
    Calls Tryd.prog 68 #[] w fun e w' => e = .returned (.pointer (some ⟨w.heap.size, 0, none⟩)) ∧ w' = w.alloc (.cells ((cW IV ++ cB (List.replicate 64 0)) ++ [Value.int .u64 0]).toArray 122) := by
  have hz : ∀ w' : World, (zeroValue 122).run Tryd.prog w' = .ok (.agg #[.int .u32 0, .int .u32 0, .int .u32 0, .int .u32 0, .int .u32 0, .int .u32 0, .int .u32 0, .int .u32 0, .int .u8 0, .int .u8 0, .int .u8 0, .int .u8 0, .int .u8 0, .int .u8 0, .int .u8 0, .int .u8 0, .int .u8 0, .int .u8 0, .int .u8 0, .int .u8 0, .int .u8 0, .int .u8 0, .int .u8 0, .int .u8 0, .int .u8 0, .int .u8 0, .int .u8 0, .int .u8 0, .int .u8 0, .int .u8 0, .int .u8 0, .int .u8 0, .int .u8 0, .int .u8 0, .int .u8 0, .int .u8 0, .int .u8 0, .int .u8 0, .int .u8 0, .int .u8 0, .int .u8 0, .int .u8 0, .int .u8 0, .int .u8 0, .int .u8 0, .int .u8 0, .int .u8 0, .int .u8 0, .int .u8 0, .int .u8 0, .int .u8 0, .int .u8 0, .int .u8 0, .int .u8 0, .int .u8 0, .int .u8 0, .int .u8 0, .int .u8 0, .int .u8 0, .int .u8 0, .int .u8 0, .int .u8 0, .int .u8 0, .int .u8 0, .int .u8 0, .int .u8 0, .int .u8 0, .int .u8 0, .int .u8 0, .int .u8 0, .int .u8 0, .int .u8 0, .int .u64 0]) w' := fun w' => by kernel_rfl
  go_enter Tryd.func68, Tryd.ntmps68
  go_wp2
  go_ret
  exact ⟨rfl, rfl⟩
theorem idx34 (H : List Int) (hl : H.length = 8) (k : Nat) (hk : k < 8) (w : World) : (Instr.index 119 (.agg (cW H).toArray) (.int .i64 (k : Int))).run Tryd.prog w = .ok (.int .u32 (H.getD k 0)) w := by
  obtain ⟨s0, s1, s2, s3, s4, s5, s6, s7, rfl⟩ := list8 hl
  obtain rfl | rfl | rfl | rfl | rfl | rfl | rfl | rfl : k = 0 ∨ k = 1 ∨ k = 2 ∨ k = 3 ∨ k = 4 ∨ k = 5 ∨ k = 6 ∨ k = 7 := by omega
  all_goals kernel_rfl
def w4 (x : Int) : List Int := [IntKind.u8.wrap (x / 16777216), IntKind.u8.wrap (x / 65536), IntKind.u8.wrap (x / 256), IntKind.u8.wrap x]
def outB (H : List Int) : Nat → List Int
  | 0 => []
  | k + 1 => outB H k ++ w4 (H.getD k 0)
def pad32 (l : List Int) : List Int := l ++ List.replicate (32 - l.length) 0
theorem outB_len (H : List Int) (k : Nat) : (outB H k).length = 4 * k := by
  induction k with
  | zero => rfl
  | succ k ih => simp only [outB, List.length_append, ih, w4, List.length_cons, List.length_nil]; omega
theorem pad32_len {l : List Int} (h : l.length ≤ 32) : (pad32 l).length = 32 := by simp [pad32]; omega
theorem pad32_full {l : List Int} (h : l.length = 32) : pad32 l = l := by simp [pad32, h]
theorem pad32_set {l : List Int} (h : l.length < 32) (v : Int) : (pad32 l).set l.length v = pad32 (l ++ [v]) := by
  unfold pad32
  rw [List.set_append_right _ _ (Nat.le_refl _)]
  obtain ⟨n, hn⟩ : ∃ n, 32 - l.length = n + 1 := ⟨32 - l.length - 1, by omega⟩
  have hn' : 32 - (l ++ [v]).length = n := by simp; omega
  rw [hn, hn', List.replicate_succ]
  simp
structure Su (w wr : World) (l : List Int) : Prop where
  below : Below w.heap.size w wr
  out : wr.rangeAt w.heap.size 0 (cB (pad32 l))
  outt : wr.there w.heap.size 0 32
theorem Su.step {w wr : World} {l : List Int} (h : Su w wr l) {m : Nat} (hm : l.length = m) (hl : m < 32) (v : Int) : Su w (wr.setCell ⟨w.heap.size, m, none⟩ (.int .u8 v)) (l ++ [v]) := by
  subst hm
  refine ⟨h.below.setCell (Nat.le_refl _) _, ?_, there_set h.outt _ _⟩
  have := range_set h.out l.length (.int .u8 v)
  rwa [Nat.zero_add, cB_set, pad32_set hl] at this
/-- Bytes as a string. -/
def strB (l : List Int) : ByteArray := l.foldl (fun r n => r.push (UInt8.ofNat n.toNat)) ByteArray.empty
theorem conv_str (w : World) (b : Nat) (l : List Int) (n : Nat) (hl : l.length = n) (h : w.rangeAt b 0 (cB l)) : (convert 51 9 (.slice (some ⟨b, 0, none⟩) n n)).run Tryd.prog w = .ok (.string (strB l)) w := by
  subst hl
  rw [run_convert_bytes_string w 51 9 5 _ _ _ Tryd.underlying51 Tryd.underlying5 Tryd.underlying9]
  refine run_bytesToString w ⟨b, 0, none⟩ l.length l.length l ?_
  have := run_loadCells_list (P := Tryd.prog) w ⟨b, 0, none⟩ (cB l) (fun j v hv => by rw [Addr.add_mid]; exact h j v hv)
  rwa [cB_len] at this
theorem other2 {w : World} {b i j : Nat} {v u : Value} (h : w.cell? ⟨b, i, none⟩ = some u) (hne : i ≠ j) : (w.setCell ⟨b, j, none⟩ v).cell? ⟨b, i, none⟩ = some u := by
  rw [World.cell?_setCell_other _ _ _ _ (fun e => hne (by have := congrArg Addr.off e; simpa using this.symm))]; exact h
set_option maxHeartbeats 2000000 in
set_option maxRecDepth 100000 in
theorem sum_any (w : World) (p : Nat) (st blk : List Int) (n : Nat) (hh : Hs w p st blk n) (rs : List Int) (hrl : rs.length = 64) (hr : w.rangeAt 0 0 (cW rs)) :
    Calls Tryd.prog 70 #[.pointer (some ⟨p, 0, none⟩)] w fun e w' => e = .returned (.string (strB (outB (closeI rs st blk n) 8))) ∧ Below w.heap.size w w' := by
  obtain ⟨H, hH⟩ : ∃ H, H = closeI rs st blk n := ⟨_, rfl⟩
  have hHl : H.length = 8 := by rw [hH]; exact closeI_len _ _ _ _
  have hcl := fun (w' : World) (h : Hs w' p st blk n) (h2 : w'.rangeAt 0 0 (cW rs)) => closed_any w' p st blk n h rs hrl h2
  rw [← hH] at hcl
  have HE : Hid (H = closeI rs st blk n) := hH
  clear hH
  have hlt : p < w.heap.size := hh.lt
  have h1w : 0 < w.heap.size := range_lt hr (by intro h; have := congrArg List.length h; simp [cW_len, hrl] at this)
  have hA : ∀ o, Hs (w.alloc o) p st blk n := fun o => hh.later ((Below.refl w.heap.size w).alloc (Nat.le_refl _) o) hlt
  have hR : ∀ o, (w.alloc o).rangeAt 0 0 (cW rs) := fun o => World.rangeAt_alloc hr o
  go_enter Tryd.func70, Tryd.ntmps70
  go_wp2_with (go_at_call 83; refine (hcl _ (hA _) (hR _)).mono ?_; rintro e w' ⟨rfl, hbw⟩)
  have hS : Su w w' [] := by
    have q := there_new w (cB (List.replicate 32 0)).toArray 124 32 (by simp [cB_len])
    have r := range_new w (cB (List.replicate 32 0)) 124
    exact ⟨((Below.refl _ _).alloc (Nat.le_refl _) _).trans (hbw.mono (by simp)), range_below hbw (by simp) r, there_below hbw (by simp) q⟩
  clear hbw hcl hA hR
  go_loopg [8] 8 (fun g i wr => ∃ k : Nat, k ≤ 8 ∧ g = 8 - k ∧ i = .int .i64 k ∧ Su w wr (outB H k))
  case atStart =>
    go_light
    exact ⟨0, Nat.zero_le _, rfl, rfl, hS⟩
  case round =>
    clear hS
    obtain ⟨k, hk, rfl, rfl, hs⟩ := hrel
    by_cases hlt : k < 8
    · have hk0 : (0 : Int) ≤ (k : Int) := Int.natCast_nonneg _
      have hk8 : (k : Int) < 8 := by omega
      have hidx := fun w' => idx34 H hHl k hlt w'
      obtain ⟨m, hm⟩ : ∃ m : Nat, 4 * k = m := ⟨_, rfl⟩
      obtain ⟨m1, hm1⟩ : ∃ m1 : Nat, m + 1 = m1 := ⟨_, rfl⟩
      obtain ⟨m2, hm2⟩ : ∃ m2 : Nat, m + 2 = m2 := ⟨_, rfl⟩
      obtain ⟨m3, hm3⟩ : ∃ m3 : Nat, m + 3 = m3 := ⟨_, rfl⟩
      have e0 : 4 * (k : Int) = (m : Int) := by omega
      have e1 : (m : Int) + 1 = (m1 : Int) := by omega
      have e2 : (m : Int) + 2 = (m2 : Int) := by omega
      have e3 : (m : Int) + 3 = (m3 : Int) := by omega
      have b0 : (0 : Int) ≤ (m : Int) := Int.natCast_nonneg _
      have b1 : (0 : Int) ≤ (m1 : Int) := Int.natCast_nonneg _
      have b2 : (0 : Int) ≤ (m2 : Int) := Int.natCast_nonneg _
      have b3 : (0 : Int) ≤ (m3 : Int) := Int.natCast_nonneg _
      have d0 : (m : Int) < 32 := by omega
      have d1 : (m1 : Int) < 32 := by omega
      have d2 : (m2 : Int) < 32 := by omega
      have d3 : (m3 : Int) < 32 := by omega
      have hol := outB_len H k
      have hpl : (pad32 (outB H k)).length = 32 := pad32_len (by omega)
      have c0 := cell_cB0 hs.out (i := m) (by omega)
      have c1 := cell_cB0 hs.out (i := m1) (by omega)
      have c2 := cell_cB0 hs.out (i := m2) (by omega)
      have c3 := cell_cB0 hs.out (i := m3) (by omega)
      have f0 : wr.frozen? ⟨w.heap.size, m, none⟩ = false := by have := (hs.outt m (by omega)).2; rwa [Nat.zero_add] at this
      have f1 : wr.frozen? ⟨w.heap.size, m1, none⟩ = false := by have := (hs.outt m1 (by omega)).2; rwa [Nat.zero_add] at this
      have f2 : wr.frozen? ⟨w.heap.size, m2, none⟩ = false := by have := (hs.outt m2 (by omega)).2; rwa [Nat.zero_add] at this
      have f3 : wr.frozen? ⟨w.heap.size, m3, none⟩ = false := by have := (hs.outt m3 (by omega)).2; rwa [Nat.zero_add] at this
      have c1' := fun v => other2 (v := v) c1 (show m1 ≠ m by omega)
      have c2' := fun v v' => other2 (v := v') (other2 (v := v) c2 (show m2 ≠ m by omega)) (show m2 ≠ m1 by omega)
      have c3' := fun v v' v'' => other2 (v := v'') (other2 (v := v') (other2 (v := v) c3 (show m3 ≠ m by omega)) (show m3 ≠ m1 by omega)) (show m3 ≠ m2 by omega)
      have HF : Hid (∀ x0 x1 x2 x3, Su w ((((wr.setCell ⟨w.heap.size, m, none⟩ (.int .u8 x0)).setCell ⟨w.heap.size, m1, none⟩ (.int .u8 x1)).setCell ⟨w.heap.size, m2, none⟩ (.int .u8 x2)).setCell ⟨w.heap.size, m3, none⟩ (.int .u8 x3)) (outB H k ++ [x0, x1, x2, x3])) := fun x0 x1 x2 x3 => by
        have := (((hs.step (m := m) (by omega) (by omega) x0).step (m := m1) (by simp; omega) (by omega) x1).step (m := m2) (by simp; omega) (by omega) x2).step (m := m3) (by simp; omega) (by omega) x3
        simpa using this
      clear hs hm hm1 hm2 hm3 c1 c2 c3 hol hpl
      generalize (pad32 (outB H k)).getD m 0 = z0 at *
      generalize (pad32 (outB H k)).getD m1 0 = z1 at *
      generalize (pad32 (outB H k)).getD m2 0 = z2 at *
      generalize (pad32 (outB H k)).getD m3 0 = z3 at *
      generalize hx : H.getD k 0 = x at *
      have HX : Hid (H.getD k 0 = x) := hx
      clear hx
      go_wp2
      go_roundg (8 - (k + 1))
      case rel =>
        go_light
        refine ⟨k + 1, by omega, rfl, by go_num, ?_⟩
        rw [outB, HX.out]
        exact HF.out _ _ _ _
      case measure => go_light; omega
    · obtain rfl : k = 8 := by omega
      have hol := outB_len H 8
      have hrg := hs.out
      rw [pad32_full hol] at hrg
      have hcv := conv_str wr w.heap.size (outB H 8) 32 hol hrg
      have HB : Hid (Below w.heap.size w wr) := hs.below
      have HO : Hid (outB H 8 = outB (closeI rs st blk n) 8) := by rw [HE.out]; exact rfl
      clear hs hrg hol
      generalize outB H 8 = l at *
      go_wp2
      go_ret
      exact ⟨by rw [← HO.out]; rfl, HB.out⟩
end Go.Proofs.YtdkcliblbaldhaaDoor
/-
  Walks of package sha: Of. Own work.
-/
namespace Go.Proofs.YtdkcliblbaldhaaDoor
open Go.RowKit
attribute [local go_sem ↓] Go.wp_at_zero Go.wp_at_succ
theorem endL_eq {blk : List Int} (h : blk.length = 64) {u : Nat} (hu : u < 64) : endL blk u = (blk.take u ++ [128]) ++ List.replicate (64 - (u + 1)) 0 := by
  unfold endL
  congr 1
  apply List.ext_getElem?
  intro i
  by_cases hi : i < u
  · rw [List.getElem?_take, if_pos (by omega), List.getElem?_set_ne (by omega), List.getElem?_append_left (by simp; omega), List.getElem?_take, if_pos hi]
  · by_cases hi2 : i = u
    · subst hi2
      rw [List.getElem?_take, if_pos (by omega), List.getElem?_set_self (by omega), List.getElem?_append_right (by simp; omega)]
      have : (blk.take i).length = i := by simp; omega
      rw [this, Nat.sub_self]; rfl
    · rw [List.getElem?_take, if_neg (by omega), List.getElem?_eq_none]
      simp; omega
theorem closeI_congr {rs st blk blk' : List Int} {n : Nat} (h : blk.length = 64) (h' : blk'.length = 64) (he : blk.take (n % 64) = blk'.take (n % 64)) : closeI rs st blk n = closeI rs st blk' n := by
  have : endL blk (n % 64) = endL blk' (n % 64) := by rw [endL_eq h (Nat.mod_lt _ (by decide)), endL_eq h' (Nat.mod_lt _ (by decide)), he]
  unfold closeI
  rw [this]
/-- The sum of t's bytes, 32 numbers. -/
def shaT (rs t : List Int) : List Int := outB (closeI rs (stN rs IV t (t.length / 64)) (pad (t.drop (64 * (t.length / 64)))) t.length) 8
def shaS (rs t : List Int) : ByteArray := strB (shaT rs t)
theorem sum_hst (w : World) (p : Nat) (rs t : List Int) (hh : Hst w p rs IV t) (hrl : rs.length = 64) (hr : w.rangeAt 0 0 (cW rs)) :
    Calls Tryd.prog 70 #[.pointer (some ⟨p, 0, none⟩)] w fun e w' => e = .returned (.string (shaS rs t)) ∧ Below w.heap.size w w' := by
  obtain ⟨st, blk, h1, h2, h3⟩ := hh
  refine (sum_any w p st blk t.length h1 rs hrl hr).mono fun e w' ⟨he, hb⟩ => ⟨?_, hb⟩
  have hd : (t.drop (64 * (t.length / 64))).length = t.length % 64 := by rw [List.length_drop]; omega
  have e : closeI rs st blk t.length = closeI rs (stN rs IV t (t.length / 64)) (pad (t.drop (64 * (t.length / 64)))) t.length := by
    rw [← h2]
    refine closeI_congr h1.blkl (pad_len (by omega)) ?_
    rw [h3, pad, List.take_append_of_le_length (by omega), List.take_of_length_le (by omega)]
  rw [he, shaS, shaT, e]
/-- A new hash holds nothing. -/
theorem new_hst (w : World) (rs : List Int) : Hst (w.alloc (.cells ((cW IV ++ cB (List.replicate 64 0)) ++ [Value.int .u64 0]).toArray 122)) w.heap.size rs IV [] := by
  have r := range_new w ((cW IV ++ cB (List.replicate 64 0)) ++ [Value.int .u64 0]) 122
  have q := there_new w ((cW IV ++ cB (List.replicate 64 0)) ++ [Value.int .u64 0]).toArray 122 73 (by simp [cW_len, cB_len, IV])
  refine ⟨IV, List.replicate 64 0, ⟨rfl, by simp, ?_, ?_, ?_, q⟩, rfl, rfl⟩
  · intro j v hv
    have hj : j < 8 := (List.getElem?_eq_some_iff.1 hv).1
    exact r j v (by rw [List.getElem?_append_left (by simp [cW_len, cB_len, IV]; omega), List.getElem?_append_left (by simp [cW_len, IV]; omega)]; exact hv)
  · intro j v hv
    have hj : j < 64 := by have := (List.getElem?_eq_some_iff.1 hv).1; simpa [cB_len] using this
    have := r (8 + j) v (by rw [List.getElem?_append_left (by simp [cW_len, cB_len, IV]; omega), List.getElem?_append_right (by simp [cW_len, IV])]; simpa [cW_len, IV] using hv)
    rwa [Nat.zero_add] at this
  · exact r 72 _ rfl
/-- A new hash, as it lies. -/
def newObj : Obj := .cells ((cW IV ++ cB (List.replicate 64 0)) ++ [Value.int .u64 0]).toArray 122
theorem new_obj (w : World) : Calls Tryd.prog 68 #[] w fun e w' => e = .returned (.pointer (some ⟨w.heap.size, 0, none⟩)) ∧ w' = w.alloc newObj := new_any w
def flat (ss : List ByteArray) : List Int := (ss.map tB).flatten
theorem flat_snoc (ss : List ByteArray) (k : Nat) (hk : k < ss.length) : flat (ss.take (k + 1)) = flat (ss.take k) ++ tB (ss.getD k ByteArray.empty) := by
  have e : ss.getD k ByteArray.empty = ss[k] := by rw [List.getD_eq_getElem?_getD, List.getElem?_eq_getElem hk]; rfl
  unfold flat
  rw [List.take_succ_eq_append_getElem hk, List.map_append, List.flatten_append, e]
  simp only [List.map_cons, List.map_nil, List.flatten_cons, List.flatten_nil, List.append_nil]
theorem flat_take_le (ss : List ByteArray) (k : Nat) : (flat (ss.take k)).length ≤ (flat ss).length := by
  have : flat ss = flat (ss.take k) ++ flat (ss.drop k) := by
    unfold flat
    rw [← List.flatten_append, ← List.map_append, List.take_append_drop]
  rw [this, List.length_append]; omega
set_option maxHeartbeats 2000000 in
set_option maxRecDepth 100000 in
theorem of_any (w : World) (ao : Option Addr) (b off len cap : Nat) (ss : List ByteArray) (hl : ss.length = len) (hao : 0 < len → ao = some ⟨b, off, none⟩) (hs : w.rangeAt b off (ss.map Value.string))
    (hmx : len ≤ 9223372036854775807) (rs : List Int) (hrl : rs.length = 64) (hr : w.rangeAt 0 0 (cW rs)) (hlen : (flat ss).length < 4611686018427387904) :
    Calls Tryd.prog 48 #[.slice ao len cap] w fun e w' => e = .returned (.string (shaS rs (flat ss))) ∧ Below w.heap.size w w' := by
  have h1w : 0 < w.heap.size := range_lt hr (by intro h; have := congrArg List.length h; simp [cW_len, hrl] at this)
  have hn0 : Hst (w.alloc newObj) w.heap.size rs IV [] := new_hst w rs
  have hb0 : Below w.heap.size w (w.alloc newObj) := (Below.refl _ _).alloc (Nat.le_refl _) _
  go_enter Tryd.func48, Tryd.ntmps48
  go_wp2_with (go_at_call 68; refine (new_obj _).mono ?_; rintro e w' ⟨rfl, rfl⟩)
  generalize w.alloc newObj = w1 at *
  go_loopg [9] len (fun g i wr => ∃ k : Nat, k ≤ len ∧ g = len - k ∧ i = .int .i64 k ∧ Hst wr w.heap.size rs IV (flat (ss.take k)) ∧ Below w.heap.size w wr)
  case atStart =>
    go_light
    exact ⟨0, Nat.zero_le _, rfl, rfl, hn0, hb0⟩
  case round =>
    clear hn0 hb0
    obtain ⟨k, hk, rfl, rfl, hh, hb⟩ := hrel
    have hrr : wr.rangeAt 0 0 (cW rs) := range_below hb h1w hr
    by_cases hlt : k < len
    · obtain rfl := hao (by omega)
      have hk' : k < ss.length := by omega
      have hbl : b < w.heap.size := range_lt hs (by intro h; have := congrArg List.length h; rw [List.length_map, List.length_nil] at this; omega)
      have ck : wr.cell? ⟨b, off + k, none⟩ = some (.string (ss.getD k ByteArray.empty)) := by
        rw [hb.cell (p := ⟨b, off + k, none⟩) hbl]
        exact hs k _ (by simp [List.getElem?_eq_getElem hk', List.getD_eq_getElem?_getD])
      have hz : (k : Int) < (len : Int) := by omega
      have hsz : (flat (ss.take (k + 1))).length ≤ (flat ss).length := flat_take_le _ _
      have hfs := flat_snoc ss k hk'
      have hln : (flat (ss.take k)).length + (ss.getD k ByteArray.empty).size < 4611686018427387904 := by
        rw [hfs, List.length_append, tB_len] at hsz; omega
      have hw := write_any wr w.heap.size rs IV (flat (ss.take k)) (ss.getD k ByteArray.empty) hrl hrr hh hln
      rw [← hfs] at hw
      have HB : Hid (Below w.heap.size w wr) := hb
      have HZ : Hid (w.heap.size ≤ wr.heap.size) := hb.size
      clear hfs hsz hln hh hb hs hao
      generalize ss.getD k ByteArray.empty = part at *
      go_wp2_with (go_at_call 69; refine hw.mono ?_; rintro e w' ⟨rfl, hh', hg'⟩)
      go_roundg (len - (k + 1))
      case rel =>
        go_light
        exact ⟨k + 1, by omega, rfl, by go_num, hh', HB.out.grown hg' HZ.out (fun j hj => by cases hj; exact Nat.le_refl _)⟩
      case measure => go_light; omega
    · obtain rfl : k = len := by omega
      have hz : ¬ (k : Int) < (k : Int) := by omega
      have hsum := sum_hst wr w.heap.size rs _ hh hrl hrr
      rw [List.take_of_length_le (by omega)] at hsum
      have HB : Hid (Below w.heap.size w wr) := hb
      have HZ : Hid (w.heap.size ≤ wr.heap.size) := hb.size
      clear hh hb
      go_wp2_with (go_at_call 70; refine hsum.mono ?_; rintro e w' ⟨rfl, hb'⟩)
      go_ret
      exact ⟨rfl, HB.out.trans (hb'.mono HZ.out)⟩
end Go.Proofs.YtdkcliblbaldhaaDoor
/-
  The published sums: the plain functions evaluated by the kernel, step by step. Own work.
-/
namespace Go.Proofs.YtdkcliblbaldhaaDoor
open Go.RowKit

def forceN {α : Type} (n : Nat) (k : Nat → α) : α :=
  match n with
  | 0 => k 0
  | m + 1 => k (m + 1)
theorem forceN_eq {α : Type} (n : Nat) (k : Nat → α) : forceN n k = k n := by cases n <;> rfl
def forceI {α : Type} (x : Int) (k : Int → α) : α :=
  match x with
  | .ofNat n => forceN n fun n => k (.ofNat n)
  | .negSucc n => forceN n fun n => k (.negSucc n)
theorem forceI_eq {α : Type} (x : Int) (k : Int → α) : forceI x k = k x := by
  cases x with
  | ofNat n => exact forceN_eq n fun n => k (.ofNat n)
  | negSucc n => exact forceN_eq n fun n => k (.negSucc n)
def forceL {α : Type} (l : List Int) (k : List Int → α) : α :=
  match l with
  | [] => k []
  | x :: r => forceI x fun x => forceL r fun r => k (x :: r)
theorem forceL_eq {α : Type} (l : List Int) (k : List Int → α) : forceL l k = k l := by
  induction l generalizing k with
  | nil => rfl
  | cons x r ih => rw [forceL, forceI_eq, ih]

def schGo : Nat → Nat → List Int → List Int
  | 0, _, l => l
  | f + 1, k, l => forceL (l ++ [nextI (l.getD k 0) (l.getD (k + 1) 0) (l.getD (k + 9) 0) (l.getD (k + 14) 0)]) fun l => schGo f (k + 1) l
theorem schGo_eq (blk : List Int) (f k : Nat) : schGo f k (schN blk k) = schN blk (k + f) := by
  induction f generalizing k with
  | zero => rfl
  | succ f ih =>
    rw [schGo, forceL_eq]
    have := ih (k + 1)
    rw [schN] at this
    rw [this, show k + 1 + f = k + (f + 1) by omega]
def rndGo (rs ws : List Int) : Nat → Nat → S8 → S8
  | 0, _, v => v
  | f + 1, k, ⟨a, b, c, d, e, g, h, i⟩ =>
    forceI (oneI e g h i (rs.getD k 0) (ws.getD k 0)) fun one => forceI (IntKind.u32.wrap (one + twoI a b c)) fun x => forceI (IntKind.u32.wrap (d + one)) fun y => rndGo rs ws f (k + 1) ⟨x, a, b, c, y, e, g, h⟩
theorem rndGo_eq (rs ws : List Int) (v : S8) (f k : Nat) : rndGo rs ws f k (rnds v rs ws k) = rnds v rs ws (k + f) := by
  induction f generalizing k with
  | zero => cases rnds v rs ws k; rfl
  | succ f ih =>
    have h := ih (k + 1)
    rw [rnds] at h
    rw [show k + (f + 1) = k + 1 + f by omega, ← h]
    cases rnds v rs ws k
    rw [rndGo, forceI_eq, forceI_eq, forceI_eq]
    rfl
def foldS (rs st blk : List Int) : List Int :=
  forceL blk fun blk => forceL (sch0 blk 16) fun l => forceL (schGo 48 0 l) fun ws => forceL (sumI (s8of st) (rndGo rs ws 64 0 (s8of st))) fun r => r
theorem foldS_eq (rs st blk : List Int) : foldS rs st blk = foldI rs st blk := by
  rw [foldS, forceL_eq, forceL_eq, forceL_eq, forceL_eq, foldI]
  have h1 := schGo_eq blk 48 0
  rw [Nat.zero_add] at h1
  have h2 := rndGo_eq rs (schN blk 48) (s8of st) 64 0
  rw [Nat.zero_add] at h2
  rw [← h2, ← h1]
  rfl
def closeS (rs st blk : List Int) (n : Nat) : List Int :=
  if 55 < n % 64 then foldS rs (foldS rs st (endL blk (n % 64))) (lenAt (List.replicate 64 0) (IntKind.u64.wrap ((n : Int) * 8)) 8)
  else foldS rs st (lenAt (endL blk (n % 64)) (IntKind.u64.wrap ((n : Int) * 8)) 8)
theorem closeS_eq (rs st blk : List Int) (n : Nat) : closeS rs st blk n = closeI rs st blk n := by
  unfold closeS closeI
  simp only [foldS_eq]
def shaE (rs t : List Int) : List Int := forceL (closeS rs IV (pad t) t.length) fun h => outB h 8
theorem shaE_eq (rs t : List Int) (h : t.length < 64) : shaE rs t = shaT rs t := by
  have e : t.length / 64 = 0 := by omega
  rw [shaE, forceL_eq, closeS_eq, shaT, e]
  rfl
/-- The words k0 to k63. -/
def RS : List Int := [1116352408, 1899447441, 3049323471, 3921009573, 961987163, 1508970993, 2453635748, 2870763221, 3624381080, 310598401, 607225278, 1426881987, 1925078388, 2162078206, 2614888103, 3248222580, 3835390401, 4022224774, 264347078, 604807628, 770255983, 1249150122, 1555081692, 1996064986, 2554220882, 2821834349, 2952996808, 3210313671, 3336571891, 3584528711, 113926993, 338241895, 666307205, 773529912, 1294757372, 1396182291, 1695183700, 1986661051, 2177026350, 2456956037, 2730485921, 2820302411, 3259730800, 3345764771, 3516065817, 3600352804, 4094571909, 275423344, 430227734, 506948616, 659060556, 883997877, 958139571, 1322822218, 1537002063, 1747873779, 1955562222, 2024104815, 2227730452, 2361852424, 2428436474, 2756734187, 3204031479, 3329325298]
theorem RS_len : RS.length = 64 := rfl
theorem ev_abc : shaE RS [97, 98, 99] = [186, 120, 22, 191, 143, 1, 207, 234, 65, 65, 64, 222, 93, 174, 34, 35, 176, 3, 97, 163, 150, 23, 122, 156, 180, 16, 255, 97, 242, 0, 21, 173] := by kernel_rfl
theorem ev_nil : shaE RS [] = [227, 176, 196, 66, 152, 252, 28, 20, 154, 251, 244, 200, 153, 111, 185, 36, 39, 174, 65, 228, 100, 155, 147, 76, 164, 149, 153, 27, 120, 82, 184, 85] := by kernel_rfl
def longT : List Int := [97, 98, 99, 100, 98, 99, 100, 101, 99, 100, 101, 102, 100, 101, 102, 103, 101, 102, 103, 104, 102, 103, 104, 105, 103, 104, 105, 106, 104, 105, 106, 107, 105, 106, 107, 108, 106, 107, 108, 109, 107, 108, 109, 110, 108, 109, 110, 111, 109, 110, 111, 112, 110, 111, 112, 113]
theorem ev_long : shaE RS longT = [36, 141, 106, 97, 210, 6, 56, 184, 229, 192, 38, 147, 12, 62, 96, 57, 163, 60, 228, 89, 100, 255, 33, 103, 246, 236, 237, 212, 25, 219, 6, 193] := by kernel_rfl
theorem sha_abc : shaS RS [97, 98, 99] = ⟨#[186, 120, 22, 191, 143, 1, 207, 234, 65, 65, 64, 222, 93, 174, 34, 35, 176, 3, 97, 163, 150, 23, 122, 156, 180, 16, 255, 97, 242, 0, 21, 173]⟩ := by
  rw [shaS, ← shaE_eq _ _ (by decide), ev_abc]; kernel_rfl
theorem sha_nil : shaS RS [] = ⟨#[227, 176, 196, 66, 152, 252, 28, 20, 154, 251, 244, 200, 153, 111, 185, 36, 39, 174, 65, 228, 100, 155, 147, 76, 164, 149, 153, 27, 120, 82, 184, 85]⟩ := by
  rw [shaS, ← shaE_eq _ _ (by decide), ev_nil]; kernel_rfl
theorem sha_long : shaS RS longT = ⟨#[36, 141, 106, 97, 210, 6, 56, 184, 229, 192, 38, 147, 12, 62, 96, 57, 163, 60, 228, 89, 100, 255, 33, 103, 246, 236, 237, 212, 25, 219, 6, 193]⟩ := by
  rw [shaS, ← shaE_eq _ _ (by decide), ev_long]; kernel_rfl
end Go.Proofs.YtdkcliblbaldhaaDoor
