/-
  ShRefA, ShRefB, ShRefC, ShRefD, ShRefE, ShRefF in one text. Own work.
-/
import Derived.Test.YtdkcliblbaldhaaDoorS0
/-
  Walks of the reference of layer 1: turn, plan. Own work.
-/
namespace Go.Proofs.YtdkcliblbaldhaaDoor
open Go.RowKit
attribute [local go_sem ↓] Go.wp_at_zero Go.wp_at_succ
theorem turn_any (x n : Int) (w : World) (hn : 0 < n) (hn' : n < 32) :
    Calls Tryd.prog 97 #[.int .u32 x, .int .i64 n] w fun e w' => e = .returned (.int .u32 (rotI x n)) ∧ ∃ k, w' = w.drewN k := by
  have e1 : IntKind.i64.wrap (32 - n) = 32 - n := wrap_id _ (by omega) (by omega)
  have b0 : (0 : Int) ≤ n := by omega
  have b1 : (0 : Int) ≤ 32 - n := by omega
  have hm : min n.toNat 32 = n.toNat := by omega
  have hm2 : min (32 - n).toNat 32 = (32 - n).toNat := by omega
  go_enter Tryd.func97, Tryd.ntmps97
  go_wp2
  go_region_held3 (fun _ => True) (trivial) (fail)
  go_wp2
  go_ret
  refine ⟨?_, 1, rfl⟩
  show Ending.returned (Value.int .u32 _) = _
  unfold rotI
  rfl
/-- Horner's way to a word. -/
def horI (blk : List Int) (t : Nat) : Nat → Int
  | 0 => 0
  | i + 1 => IntKind.u32.wrap (IntKind.u32.wrap (horI blk t i * 256) + IntKind.u32.wrap (blk.getD (4 * t + i) 0))
def schR0 (blk : List Int) : Nat → List Int
  | 0 => []
  | k + 1 => schR0 blk k ++ [horI blk k 4]
theorem schR0_len (blk : List Int) (k : Nat) : (schR0 blk k).length = k := by
  induction k with
  | zero => rfl
  | succ k ih => simp [schR0, ih]
def schR (blk : List Int) : Nat → List Int
  | 0 => schR0 blk 16
  | k + 1 => schR blk k ++ [nextI ((schR blk k).getD k 0) ((schR blk k).getD (k + 1) 0) ((schR blk k).getD (k + 9) 0) ((schR blk k).getD (k + 14) 0)]
theorem schR_len (blk : List Int) (k : Nat) : (schR blk k).length = 16 + k := by
  induction k with
  | zero => exact schR0_len _ _
  | succ k ih => simp only [schR, List.length_append, ih, List.length_cons, List.length_nil]; omega
theorem keep_off2 {w : World} {b i j : Nat} {v u : Value} (h : w.cell? ⟨b, i, none⟩ = some u) (hne : i ≠ j) : (w.setCell ⟨b, j, none⟩ v).cell? ⟨b, i, none⟩ = some u := by
  rw [World.cell?_setCell_other _ _ _ _ (fun e => hne (by have := congrArg Addr.off e; simpa using this.symm))]; exact h
theorem pad_zero {l : List Int} (h : l.length < 64) : pad (l ++ [0]) = pad l := by
  rw [← pad_set h 0]
  apply List.ext_getElem?
  intro i
  by_cases e : i = l.length
  · subst e
    rw [List.getElem?_set_self (by rw [pad_len (by omega)]; omega)]
    have := pad_getD l l.length
    rw [List.getD_eq_getElem?_getD, List.getElem?_eq_getElem (by rw [pad_len (by omega)]; omega), List.getD_eq_getElem?_getD, List.getElem?_eq_none (l := l) (by omega)] at this
    rw [List.getElem?_eq_getElem (by rw [pad_len (by omega)]; omega)]
    simpa using this.symm
  · rw [List.getElem?_set_ne (fun h => e h.symm)]
theorem idx_str (b : ByteArray) (m : Nat) (hm : m < b.size) (w : World) : (Instr.index 9 (.string b) (.int .i64 (m : Int))).run Tryd.prog w = .ok (.int .u8 ((tB b).getD m 0)) w := by
  have e : (tB b).getD m 0 = (b[m].toNat : Int) := by
    have : b.data.toList[m]? = some b[m] := by
      rw [Array.getElem?_toList, Array.getElem?_eq_getElem (by simpa using hm)]; rfl
    simp [tB, List.getD_eq_getElem?_getD, this]
  have h2 : b[m]? = some b[m] := getElem?_pos b m hm
  rw [e]
  simp [Instr.index, asIntOf, run_underlying Tryd.underlying9, h2]
structure Pl (w wr : World) (ws : List Int) : Prop where
  below : Below w.heap.size w wr
  res : wr.there w.heap.size 0 64
  ws : wr.rangeAt (w.heap.size + 1) 0 (cW (pad ws))
  wst : wr.there (w.heap.size + 1) 0 64
theorem Pl.set {w wr : World} {ws : List Int} {y : Int} (h : Pl w wr (ws ++ [y])) {m : Nat} (hm : ws.length = m) (hl : m < 64) (v : Int) : Pl w (wr.setCell ⟨w.heap.size + 1, m, none⟩ (.int .u32 v)) (ws ++ [v]) := by
  subst hm
  refine ⟨h.below.setCell (by show w.heap.size ≤ w.heap.size + 1; omega) _, there_set h.res _ _, ?_, there_set h.wst _ _⟩
  have := range_set h.ws ws.length (.int .u32 v)
  rw [Nat.zero_add, cW_set, ← pad_set hl y, List.set_set, pad_set hl] at this
  exact this
theorem Pl.step {w wr : World} {ws : List Int} (h : Pl w wr ws) {m : Nat} (hm : ws.length = m) (hl : m < 64) (v : Int) : Pl w (wr.setCell ⟨w.heap.size + 1, m, none⟩ (.int .u32 v)) (ws ++ [v]) :=
  Pl.set (y := 0) ⟨h.below, h.res, by rw [pad_zero (by omega)]; exact h.ws, h.wst⟩ hm hl v
theorem Pl.drewN {w wr : World} {ws : List Int} (h : Pl w wr ws) (k : Nat) : Pl w (wr.drewN k) ws :=
  ⟨⟨h.below.os, h.below.tape, h.below.output, h.below.size, h.below.block⟩, h.res, h.ws, h.wst⟩
theorem Pl.same {w X Y : World} {ws : List Int} (h : Pl w X ws) (e1 : Y.heap = X.heap) (e2 : Y.os = X.os) (e3 : Y.tape = X.tape) (e4 : Y.output = X.output) : Pl w Y ws := by
  have hc : ∀ a, Y.cell? a = X.cell? a := fun a => World.cell?_of_block (w := X) (by rw [e1])
  have hf : ∀ a, Y.frozen? a = X.frozen? a := fun a => World.frozen?_of_block (w := X) (by rw [e1])
  exact ⟨⟨e2.trans h.below.os, e3.trans h.below.tape, e4.trans h.below.output, by rw [e1]; exact h.below.size, fun k hk => by rw [e1]; exact h.below.block k hk⟩,
    fun j hj => by rw [hc, hf]; exact h.res j hj, fun j v hv => by rw [hc]; exact h.ws j v hv, fun j hj => by rw [hc, hf]; exact h.wst j hj⟩
theorem Pl.start (w : World) (z1 z2 : Array Value) (t1 t2 : TypeId) (h1 : z1.size = 64) (h2 : z2 = (cW (pad [])).toArray) : Pl w ((w.alloc (.cells z1 t1)).alloc (.cells z2 t2)) [] := by
  subst h2
  have q1 := there_new w z1 t1 64 (by omega)
  have r2 := range_new (w.alloc (.cells z1 t1)) (cW (pad [])) t2
  have q2 := there_new (w.alloc (.cells z1 t1)) (cW (pad [])).toArray t2 64 (by simp [cW_len, pad])
  simp only [World.size_alloc] at r2 q2
  exact ⟨((Below.refl _ _).alloc (Nat.le_refl _) _).alloc (by simp) _, World.there_alloc q1 _, r2, q2⟩
set_option maxHeartbeats 2000000 in
set_option maxRecDepth 100000 in
theorem plan_any (b : ByteArray) (hb : b.size = 64) (w : World) :
    Calls Tryd.prog 96 #[.string b] w fun e w' => e = .returned (.agg (cW (schR (tB b) 48)).toArray) ∧ Below w.heap.size w w' := by
  go_enter Tryd.func96, Tryd.ntmps96
  go_wp2
  go_loopg [4] 16 (fun g i wr => ∃ k : Nat, k ≤ 16 ∧ g = 16 - k ∧ i = .int .i64 k ∧ Pl w wr (schR0 (tB b) k))
  case atStart =>
    go_light
    exact ⟨0, Nat.zero_le _, rfl, rfl, Pl.start w _ _ _ _ rfl rfl⟩
  case round =>
    obtain ⟨k, hk, rfl, rfl, hs⟩ := hrel
    by_cases hlt : k < 16
    · have hk0 : (0 : Int) ≤ (k : Int) := Int.natCast_nonneg _
      have hk8 : (k : Int) < 16 := by omega
      have dk : (k : Int) < 64 := by omega
      have hlen := schR0_len (tB b) k
      go_wp2
      go_loopg [5] 4 (fun g i wi => ∃ j : Nat, j ≤ 4 ∧ g = 4 - j ∧ i = .int .i64 j ∧ Pl w wi (schR0 (tB b) k ++ [horI (tB b) k j]))
      case atStart =>
        go_light
        refine ⟨0, Nat.zero_le _, rfl, rfl, ?_⟩
        exact ⟨hs.below, hs.res, by rw [show horI (tB b) k 0 = 0 from rfl, pad_zero (by omega)]; exact hs.ws, hs.wst⟩
      case round =>
        clear hs
        obtain ⟨j, hj, rfl, rfl, hs⟩ := hrel
        by_cases hjl : j < 4
        · have hj0 : (0 : Int) ≤ (j : Int) := Int.natCast_nonneg _
          have hj4 : (j : Int) < 4 := by omega
          obtain ⟨m, hm⟩ : ∃ m : Nat, 4 * k + j = m := ⟨_, rfl⟩
          obtain ⟨m4, hm4⟩ : ∃ m4 : Nat, 4 * k = m4 := ⟨_, rfl⟩
          have e0 : IntKind.i64.wrap (4 * (k : Int)) = (m4 : Int) := by rw [wrap_id _ (by omega) (by omega)]; omega
          have e1 : IntKind.i64.wrap ((m4 : Int) + (j : Int)) = (m : Int) := by rw [wrap_id _ (by omega) (by omega)]; omega
          have hidx := fun w' => idx_str b m (by omega) w'
          have c0 : wr.cell? ⟨w.heap.size + 1, k, none⟩ = some (.int .u32 (horI (tB b) k j)) := by
            have := cell_cW0 hs.ws (i := k) (by rw [pad_len (by simp [hlen]; omega)]; omega)
            rw [pad_getD, List.getD_eq_getElem?_getD, List.getElem?_append_right (by omega), hlen, Nat.sub_self] at this
            exact this
          have f0 : wr.frozen? ⟨w.heap.size + 1, k, none⟩ = false := by have := (hs.wst k (by omega)).2; rwa [Nat.zero_add] at this
          have HF : Hid (∀ v, Pl w (wr.setCell ⟨w.heap.size + 1, k, none⟩ (.int .u32 v)) (schR0 (tB b) k ++ [v])) := fun v => hs.set hlen (by omega) v
          have HV : Hid (horI (tB b) k (j + 1) = IntKind.u32.wrap (IntKind.u32.wrap (horI (tB b) k j * 256) + IntKind.u32.wrap ((tB b).getD m 0))) := by
            show _ = _
            rw [horI, hm]
          clear hs hm hm4
          generalize horI (tB b) k j = x at *
          generalize (tB b).getD m 0 = y at *
          go_wp2
          go_region
          all_goals
            go_wp2
            go_roundg (4 - (j + 1))
            case rel =>
              go_light
              refine ⟨j + 1, by omega, rfl, by go_num, ?_⟩
              have e : IntKind.u32.wrap (IntKind.u32.wrap (x * 256) + IntKind.u32.wrap y) = (x * 256 + y) % 4294967296 := by simp only [IntKind.wrap_u32']; omega
              rw [HV.out, e]
              exact (HF.out _).same rfl rfl rfl rfl
            case measure => go_light; omega
        · obtain rfl : j = 4 := by omega
          go_wp2
          go_roundg (16 - (k + 1))
          case rel =>
            go_light
            exact ⟨k + 1, by omega, rfl, by go_num, hs⟩
          case measure => go_light; omega
    · obtain rfl : k = 16 := by omega
      clear hk hlt
      go_wp2
      go_loopg [6] 48 (fun g i wr => ∃ k : Nat, k ≤ 48 ∧ g = 48 - k ∧ i = .int .i64 ((16 + k : Nat) : Int) ∧ Pl w wr (schR (tB b) k))
      case atStart =>
        go_light
        exact ⟨0, Nat.zero_le _, rfl, rfl, hs⟩
      case round =>
        clear hs
        obtain ⟨k, hk, rfl, rfl, hs⟩ := hrel
        by_cases hlt : k < 48
        · obtain ⟨t, ht⟩ : ∃ t : Nat, 16 + k = t := ⟨_, rfl⟩
          obtain ⟨k1, hk1⟩ : ∃ k1 : Nat, k + 1 = k1 := ⟨_, rfl⟩
          obtain ⟨k9, hk9⟩ : ∃ k9 : Nat, k + 9 = k9 := ⟨_, rfl⟩
          obtain ⟨k14, hk14⟩ : ∃ k14 : Nat, k + 14 = k14 := ⟨_, rfl⟩
          rw [ht]
          have e0 : IntKind.i64.wrap ((t : Int) - 16) = (k : Int) := by rw [wrap_id _ (by omega) (by omega)]; omega
          have e2 : IntKind.i64.wrap ((t : Int) - 7) = (k9 : Int) := by rw [wrap_id _ (by omega) (by omega)]; omega
          have e1 : (t : Int) - 15 = (k1 : Int) := by omega
          have e3 : (t : Int) - 2 = (k14 : Int) := by omega
          have b0 : (0 : Int) ≤ (k : Int) := Int.natCast_nonneg _
          have b1 : (0 : Int) ≤ (k1 : Int) := Int.natCast_nonneg _
          have b2 : (0 : Int) ≤ (k9 : Int) := Int.natCast_nonneg _
          have b3 : (0 : Int) ≤ (k14 : Int) := Int.natCast_nonneg _
          have bt : (0 : Int) ≤ (t : Int) := Int.natCast_nonneg _
          have d0 : (k : Int) < 64 := by omega
          have d1 : (k1 : Int) < 64 := by omega
          have d2 : (k9 : Int) < 64 := by omega
          have d3 : (k14 : Int) < 64 := by omega
          have dt : (t : Int) < 64 := by omega
          have hlen := schR_len (tB b) k
          have hpl : (pad (schR (tB b) k)).length = 64 := pad_len (by omega)
          have c0 : wr.cell? ⟨w.heap.size + 1, k, none⟩ = some (.int .u32 ((schR (tB b) k).getD k 0)) := by rw [← pad_getD]; exact cell_cW0 hs.ws (by omega)
          have c1 : wr.cell? ⟨w.heap.size + 1, k1, none⟩ = some (.int .u32 ((schR (tB b) k).getD k1 0)) := by rw [← pad_getD]; exact cell_cW0 hs.ws (by omega)
          have c2 : wr.cell? ⟨w.heap.size + 1, k9, none⟩ = some (.int .u32 ((schR (tB b) k).getD k9 0)) := by rw [← pad_getD]; exact cell_cW0 hs.ws (by omega)
          have c3 : wr.cell? ⟨w.heap.size + 1, k14, none⟩ = some (.int .u32 ((schR (tB b) k).getD k14 0)) := by rw [← pad_getD]; exact cell_cW0 hs.ws (by omega)
          have st : wr.cell? ⟨w.heap.size + 1, t, none⟩ = some (.int .u32 ((schR (tB b) k).getD t 0)) := by rw [← pad_getD]; exact cell_cW0 hs.ws (by omega)
          have sf : wr.frozen? ⟨w.heap.size + 1, t, none⟩ = false := by have := (hs.wst t (by omega)).2; rwa [Nat.zero_add] at this
          have HF : Hid (∀ v, Pl w (wr.setCell ⟨w.heap.size + 1, t, none⟩ (.int .u32 v)) (schR (tB b) k ++ [v])) := fun v => hs.step (by omega) (by omega) v
          have HV : Hid (schR (tB b) (k + 1) = schR (tB b) k ++ [nextI ((schR (tB b) k).getD k 0) ((schR (tB b) k).getD k1 0) ((schR (tB b) k).getD k9 0) ((schR (tB b) k).getD k14 0)]) := by
            show _ = _
            subst hk1 hk9 hk14; rfl
          have HT : Hid (16 + k = t) := ht
          have N0 : k ≠ t := by omega
          have N2 : k9 ≠ t := by omega
          clear hs ht hk1 hk9 hk14 hlen hpl hb
          generalize (schR (tB b) k).getD k 0 = x0 at *
          generalize (schR (tB b) k).getD k1 0 = x1 at *
          generalize (schR (tB b) k).getD k9 0 = x2 at *
          generalize (schR (tB b) k).getD k14 0 = x3 at *
          generalize (schR (tB b) k).getD t 0 = z at *
          go_wp2
          go_region_held3 (fun w' => w'.cell? ⟨w.heap.size + 1, k, none⟩ = some (.int .u32 x0) ∧ w'.cell? ⟨w.heap.size + 1, k9, none⟩ = some (.int .u32 x2)) (first | assumption | (refine ⟨?_, ?_⟩ <;> first | assumption | (refine keep_off2 ?_ ?_ <;> assumption))) (first | (go_at_call 97; refine (turn_any _ _ _ (by decide) (by decide)).mono ?_; rintro e w' ⟨rfl, q, rfl⟩))
          go_wp2
          go_roundg (48 - (k + 1))
          case rel =>
            go_light
            refine ⟨k + 1, by omega, rfl, ?_, ?_⟩
            · have := HT.out; go_num
            rw [HV.out]
            exact (HF.out _).same rfl rfl rfl rfl
          case measure => go_light; omega
        · obtain rfl : k = 48 := by omega
          have hlen := schR_len (tB b) 48
          have hws := hs.ws
          rw [pad_full hlen] at hws
          have hbel := hs.below
          have hi : (Tryd.prog.info? 128).map (·.size) = some (cW (schR (tB b) 48)).length := by rw [cW_len, hlen]; exact size46
          have hi2 : (Tryd.prog.info? 128).map (·.size) = some (cW (schR (tB b) 48)).toArray.size := by simpa using hi
          have hre2 : wr.there w.heap.size 0 (cW (schR (tB b) 48)).toArray.size := by
            have hsz : (cW (schR (tB b) 48)).toArray.size = 64 := by simp [cW_len, hlen]
            rw [hsz]; exact hs.res
          clear hs hk hlt hlen hb
          generalize hE : schR (tB b) 48 = ws at *
          have HE : Hid (schR (tB b) 48 = ws) := hE
          clear hE
          go_wp2_with (first | (refine wpList_load_mid rfl 128 _ rfl (w.heap.size + 1) 0 rfl (cW ws) _ hws Tryd.underlying128 rfl hi ?_) | (refine wpList_store_mid rfl 128 _ _ rfl w.heap.size 0 (cW ws).toArray rfl rfl hre2 hi2 (all_oneCell_toArray (cW_one ws)) ?_))
          refine bodyPost_ret (v := .agg (cW ws).toArray) ?_ rfl ⟨by rw [HE.out], ?_⟩
          · refine results_cell_mid Tryd.results96 _ _ w.heap.size 0 (cW ws) (.array 64 118) ?_ ?_ Tryd.underlying128 rfl hi
            · rfl
            · go_light
              simpa using World.rangeAt_setCells_same _ _ _ _ (by simpa using hre2)
          · go_light
            exact below_setCells hbel (Nat.le_refl _) _ _
end Go.Proofs.YtdkcliblbaldhaaDoor
/-
  The reference's words are the program's. Own work.
-/
namespace Go.Proofs.YtdkcliblbaldhaaDoor
open Go.RowKit
theorem word_eq (a b c d : Int) (ha : 0 ≤ a ∧ a < 256) (hb : 0 ≤ b ∧ b < 256) (hc : 0 ≤ c ∧ c < 256) (hd : 0 ≤ d ∧ d < 256) :
    wordI a b c d = a * 16777216 + b * 65536 + c * 256 + d := by
  obtain ⟨a, rfl⟩ := Int.eq_ofNat_of_zero_le ha.1
  obtain ⟨b, rfl⟩ := Int.eq_ofNat_of_zero_le hb.1
  obtain ⟨c, rfl⟩ := Int.eq_ofNat_of_zero_le hc.1
  obtain ⟨d, rfl⟩ := Int.eq_ofNat_of_zero_le hd.1
  have h1 : a < 256 := by omega
  have h2 : b < 256 := by omega
  have h3 : c < 256 := by omega
  have h4 : d < 256 := by omega
  have e1 : IntKind.u32.wrap (IntKind.u32.wrap (a : Int) * 16777216) = ((a * 16777216 : Nat) : Int) := by simp only [IntKind.wrap_u32']; omega
  have e2 : IntKind.u32.wrap (IntKind.u32.wrap (b : Int) * 65536) = ((b * 65536 : Nat) : Int) := by simp only [IntKind.wrap_u32']; omega
  have e3 : IntKind.u32.wrap (IntKind.u32.wrap (c : Int) * 256) = ((c * 256 : Nat) : Int) := by simp only [IntKind.wrap_u32']; omega
  have e4 : IntKind.u32.wrap (d : Int) = ((d : Nat) : Int) := by simp only [IntKind.wrap_u32']; omega
  have j1 : a * 16777216 ||| b * 65536 = a * 16777216 + b * 65536 := nat_join 24 _ _ (by omega) (by omega)
  have j2 : (a * 16777216 + b * 65536) ||| c * 256 = a * 16777216 + b * 65536 + c * 256 := nat_join 16 _ _ (by omega) (by omega)
  have j3 : (a * 16777216 + b * 65536 + c * 256) ||| d = a * 16777216 + b * 65536 + c * 256 + d := nat_join 8 _ _ (by omega) (by omega)
  unfold wordI
  rw [e1, e2, e3, e4, u32_or_nat _ _ (by omega) (by omega), j1, u32_or_nat _ _ (by omega) (by omega), j2, u32_or_nat _ _ (by omega) (by omega), j3]
  omega
def Bytes (l : List Int) : Prop := ∀ x ∈ l, 0 ≤ x ∧ x < 256
theorem Bytes.getD {l : List Int} (h : Bytes l) (i : Nat) : 0 ≤ l.getD i 0 ∧ l.getD i 0 < 256 := by
  rw [List.getD_eq_getElem?_getD]
  cases e : l[i]? with
  | none => exact ⟨by decide, by decide⟩
  | some x => exact h x (List.mem_of_getElem? e)
theorem hor_eq {blk : List Int} (h : Bytes blk) (k : Nat) : horI blk k 4 = wordI (blk.getD (4 * k) 0) (blk.getD (4 * k + 1) 0) (blk.getD (4 * k + 2) 0) (blk.getD (4 * k + 3) 0) := by
  have h0 := h.getD (4 * k)
  have h1 := h.getD (4 * k + 1)
  have h2 := h.getD (4 * k + 2)
  have h3 := h.getD (4 * k + 3)
  rw [word_eq _ _ _ _ h0 h1 h2 h3]
  simp only [horI, IntKind.wrap_u32', Nat.add_zero]
  omega
theorem schR_eq {blk : List Int} (h : Bytes blk) (k : Nat) : schR blk k = schN blk k := by
  have h0 : ∀ k, schR0 blk k = sch0 blk k := fun k => by
    induction k with
    | zero => rfl
    | succ k ih => rw [schR0, sch0, ih, hor_eq h]
  induction k with
  | zero => exact h0 16
  | succ k ih => rw [schR, schN, ih]
theorem tB_bytes (s : ByteArray) : Bytes (tB s) := by
  intro x hx
  obtain ⟨y, _, rfl⟩ := List.mem_map.1 hx
  have := y.toNat_lt
  omega
end Go.Proofs.YtdkcliblbaldhaaDoor
/-
  Walks of the reference of layer 1: mixed. Own work.
-/
namespace Go.Proofs.YtdkcliblbaldhaaDoor
open Go.RowKit
attribute [local go_sem ↓] Go.wp_at_zero Go.wp_at_succ
def l8 (v : S8) : List Int := [v.a, v.b, v.c, v.d, v.e, v.f, v.g, v.h]
/-- The sums of v and s, the first k of them. -/
def addL (s v : S8) : Nat → List Int
  | 0 => l8 v
  | k + 1 => (addL s v k).set k (IntKind.u32.wrap ((l8 v).getD k 0 + (l8 s).getD k 0))
theorem addL_len (s v : S8) (k : Nat) : (addL s v k).length = 8 := by
  induction k with
  | zero => rfl
  | succ k ih => rw [addL, List.length_set, ih]
theorem addL_getD (s v : S8) (k j : Nat) (h : k ≤ j) : (addL s v k).getD j 0 = (l8 v).getD j 0 := by
  induction k with
  | zero => rfl
  | succ k ih => rw [addL, List.getD_eq_getElem?_getD, List.getElem?_set_ne (by omega), ← List.getD_eq_getElem?_getD, ih (by omega)]
theorem addL_sum (s v : S8) : addL s v 8 = sumI s v := by
  have : addL s v 8 = [IntKind.u32.wrap (v.a + s.a), IntKind.u32.wrap (v.b + s.b), IntKind.u32.wrap (v.c + s.c), IntKind.u32.wrap (v.d + s.d), IntKind.u32.wrap (v.e + s.e), IntKind.u32.wrap (v.f + s.f), IntKind.u32.wrap (v.g + s.g), IntKind.u32.wrap (v.h + s.h)] := rfl
  rw [this, sumI]
  simp only [Int.add_comm]
theorem rnd_a (a b c e f g h r x : Int) : IntKind.u32.wrap (oneI e f g h r x + twoI a b c) =
    (h + bits .xor .u32 (bits .xor .u32 (rotI e 6) (rotI e 11)) (rotI e 25) + bits .xor .u32 (bits .and .u32 e f) (bits .and .u32 (bits .xor .u32 IntKind.u32.max e) g) + r + x + (bits .xor .u32 (bits .xor .u32 (rotI a 2) (rotI a 13)) (rotI a 22) + bits .xor .u32 (bits .xor .u32 (bits .and .u32 a b) (bits .and .u32 a c)) (bits .and .u32 b c))) % 4294967296 := by
  simp only [oneI, twoI, IntKind.wrap_u32']; omega
theorem rnd_e (d e f g h r x : Int) : IntKind.u32.wrap (d + oneI e f g h r x) =
    (d + (h + bits .xor .u32 (bits .xor .u32 (rotI e 6) (rotI e 11)) (rotI e 25) + bits .xor .u32 (bits .and .u32 e f) (bits .and .u32 (bits .xor .u32 IntKind.u32.max e) g) + r + x)) % 4294967296 := by
  simp only [oneI, IntKind.wrap_u32']; omega
structure Mx (w wr : World) (st ws rs vl : List Int) (N V : Nat) : Prop where
  vlen : vl.length = 8
  below : Below w.heap.size w wr
  st : wr.rangeAt w.heap.size 0 (cW st)
  res : wr.there (w.heap.size + 1) 0 8
  ws : wr.rangeAt N 0 (cW ws)
  rs : wr.rangeAt 2 0 (cW rs)
  v : wr.rangeAt V 0 (cW vl)
  vt : wr.there V 0 8
  hN : w.heap.size + 2 ≤ N
  hV : N < V
  h2 : 2 < w.heap.size
theorem Mx.same {w X Y : World} {st ws rs vl : List Int} {N V : Nat} (h : Mx w X st ws rs vl N V) (e1 : Y.heap = X.heap) (e2 : Y.os = X.os) (e3 : Y.tape = X.tape) (e4 : Y.output = X.output) : Mx w Y st ws rs vl N V := by
  have hc : ∀ a, Y.cell? a = X.cell? a := fun a => World.cell?_of_block (w := X) (by rw [e1])
  have hf : ∀ a, Y.frozen? a = X.frozen? a := fun a => World.frozen?_of_block (w := X) (by rw [e1])
  exact ⟨h.vlen, ⟨e2.trans h.below.os, e3.trans h.below.tape, e4.trans h.below.output, by rw [e1]; exact h.below.size, fun k hk => by rw [e1]; exact h.below.block k hk⟩,
    fun j v hv => by rw [hc]; exact h.st j v hv, fun j hj => by rw [hc, hf]; exact h.res j hj, fun j v hv => by rw [hc]; exact h.ws j v hv, fun j v hv => by rw [hc]; exact h.rs j v hv, fun j v hv => by rw [hc]; exact h.v j v hv, fun j hj => by rw [hc, hf]; exact h.vt j hj, h.hN, h.hV, h.h2⟩
theorem Mx.store {w wr : World} {st ws rs vl : List Int} {N V : Nat} (h : Mx w wr st ws rs vl N V) (l : List Int) (hl : l.length = 8) : Mx w (wr.setCells V 0 (cW l)) st ws rs l N V := by
  have hN := h.hN
  have hV := h.hV
  have h2 := h.h2
  exact ⟨hl, below_setCells h.below (by omega) _ _, World.rangeAt_setCells_apart h.st _ _ _ (Or.inl (by omega)), World.there_setCells h.res _ _ _, World.rangeAt_setCells_apart h.ws _ _ _ (Or.inl (by omega)), World.rangeAt_setCells_apart h.rs _ _ _ (Or.inl (by omega)),
    World.rangeAt_setCells_same _ _ _ _ (by rw [cW_len, hl]; exact h.vt), World.there_setCells h.vt _ _ _, hN, hV, h2⟩
theorem Mx.set {w wr : World} {st ws rs vl : List Int} {N V : Nat} (h : Mx w wr st ws rs vl N V) (i : Nat) (x : Int) : Mx w (wr.setCell ⟨V, i, none⟩ (.int .u32 x)) st ws rs (vl.set i x) N V := by
  have hN := h.hN
  have hV := h.hV
  have h2 := h.h2
  refine ⟨by rw [List.length_set]; exact h.vlen, h.below.setCell (by show w.heap.size ≤ V; omega) _, range_other h.st (by show V ≠ _; omega) _, there_set h.res _ _, range_other h.ws (by show V ≠ _; omega) _, range_other h.rs (by show V ≠ _; omega) _, ?_, there_set h.vt _ _, hN, hV, h2⟩
  have := range_set h.v i (.int .u32 x)
  rwa [Nat.zero_add, cW_set] at this
structure M1 (w W : World) (st ws rs : List Int) (N : Nat) : Prop where
  below : Below w.heap.size w W
  st : W.rangeAt w.heap.size 0 (cW st)
  res : W.there (w.heap.size + 1) 0 8
  ws : W.rangeAt N 0 (cW ws)
  rs : W.rangeAt 2 0 (cW rs)
  hN : w.heap.size + 2 ≤ N
  hV : N < W.heap.size
  h2 : 2 < w.heap.size
theorem M1.start {w w' : World} {st ws rs : List Int} {t1 t2 t3 : TypeId} {z : Array Value} (hz : z.size = 8) {z2 : Array Value} (hz2 : z2.size = 64) (hwl : ws.length = 64) (hrl : rs.length = 64)
    (hr : w.rangeAt 2 0 (cW rs))
    (hb : Below ((w.alloc (.cells (cW st).toArray t1)).alloc (.cells z t2)).heap.size ((w.alloc (.cells (cW st).toArray t1)).alloc (.cells z t2)) w') :
    M1 w ((w'.alloc (.cells z2 t3)).setCells w'.heap.size 0 (cW ws)) st ws rs w'.heap.size := by
  have hlt : 2 < w.heap.size := range_lt hr (by intro h; have := congrArg List.length h; simp [cW_len, hrl] at this)
  have hN : w.heap.size + 2 ≤ w'.heap.size := by have := hb.size; simp at this; omega
  have hbw2 : Below w.heap.size w w' := (((Below.refl _ _).alloc (Nat.le_refl _) _).alloc (by simp) _).trans (hb.mono (by simp; omega))
  have h1 : w'.rangeAt w.heap.size 0 (cW st) := range_below hb (by simp; omega) (World.rangeAt_alloc (range_new _ _ _) _)
  have h2 : w'.there (w.heap.size + 1) 0 8 := by
    have := there_new (w.alloc (.cells (cW st).toArray t1)) z t2 8 (by omega)
    simp only [World.size_alloc] at this
    exact there_below hb (by simp) this
  have h3 : w'.rangeAt 2 0 (cW rs) := range_below hbw2 hlt hr
  have hw : ((w'.alloc (.cells z2 t3)).setCells w'.heap.size 0 (cW ws)).rangeAt w'.heap.size 0 (cW ws) := World.rangeAt_setCells_same _ _ _ _ (there_new _ _ _ _ (by rw [cW_len, hwl, hz2]; exact Nat.le_refl _))
  refine ⟨below_setCells (hbw2.alloc (by omega) _) (by omega) _ _, ?_, ?_, hw, ?_, hN, ?_, hlt⟩
  · exact World.rangeAt_setCells_apart (World.rangeAt_alloc h1 _) _ _ _ (Or.inl (by omega))
  · exact World.there_setCells (World.there_alloc h2 _) _ _ _
  · exact World.rangeAt_setCells_apart (World.rangeAt_alloc h3 _) _ _ _ (Or.inl (by omega))
  · exact range_lt hw (by intro h; have := congrArg List.length h; simp [cW_len, hwl] at this)
theorem Mx.start {w W : World} {st ws rs : List Int} {N : Nat} (h : M1 w W st ws rs N) (hst : st.length = 8) (t : TypeId) : Mx w (W.alloc (.cells (cW st).toArray t)) st ws rs st N W.heap.size :=
  ⟨hst, h.below.alloc h.below.size _, World.rangeAt_alloc h.st _, World.there_alloc h.res _, World.rangeAt_alloc h.ws _, World.rangeAt_alloc h.rs _, range_new _ _ _, there_new _ _ _ _ (by simp [cW_len, hst]), h.hN, h.hV, h.h2⟩
set_option maxHeartbeats 1000000 in
set_option maxRecDepth 100000 in
theorem mixed_any (st : List Int) (hst : st.length = 8) (b : ByteArray) (hb : b.size = 64) (w : World) (rs : List Int) (hrl : rs.length = 64) (hr : w.rangeAt 2 0 (cW rs)) :
    Calls Tryd.prog 94 #[.agg (cW st).toArray, .string b] w fun e w' => e = .returned (.agg (cW (foldI rs st (tB b))).toArray) ∧ Below w.heap.size w w' := by
  obtain ⟨s0, s1, s2, s3, s4, s5, s6, s7, rfl⟩ := list8 hst
  clear hst
  obtain ⟨ws, hws⟩ : ∃ ws, ws = schN (tB b) 48 := ⟨_, rfl⟩
  have hwl : ws.length = 64 := by rw [hws, schN_len]
  have hplan := fun w => plan_any b hb w
  rw [schR_eq (tB_bytes b), ← hws] at hplan
  have HE : Hid (ws = schN (tB b) 48) := hws
  clear hws
  have hsz : (cW ws).toArray.size = 64 := by simp [cW_len, hwl]
  have hi46 : (Tryd.prog.info? 128).map (·.size) = some (cW ws).toArray.size := by rw [hsz]; exact size46
  go_enter Tryd.func94, Tryd.ntmps94
  go_upto_region 2 with (first | (go_at_call 96; refine (hplan _).mono ?_; rintro e w' ⟨rfl, hbw⟩) | (refine wpList_store_mid rfl 128 _ _ rfl _ 0 (cW ws).toArray rfl rfl ?_ hi46 (all_oneCell_toArray (cW_one ws)) ?_; exact there_new _ _ _ _ (by rw [hsz]; exact Nat.le_refl 64)))
  go_simp
  have hM : M1 w ((w'.alloc (.cells #[.int .u32 0, .int .u32 0, .int .u32 0, .int .u32 0, .int .u32 0, .int .u32 0, .int .u32 0, .int .u32 0, .int .u32 0, .int .u32 0, .int .u32 0, .int .u32 0, .int .u32 0, .int .u32 0, .int .u32 0, .int .u32 0, .int .u32 0, .int .u32 0, .int .u32 0, .int .u32 0, .int .u32 0, .int .u32 0, .int .u32 0, .int .u32 0, .int .u32 0, .int .u32 0, .int .u32 0, .int .u32 0, .int .u32 0, .int .u32 0, .int .u32 0, .int .u32 0, .int .u32 0, .int .u32 0, .int .u32 0, .int .u32 0, .int .u32 0, .int .u32 0, .int .u32 0, .int .u32 0, .int .u32 0, .int .u32 0, .int .u32 0, .int .u32 0, .int .u32 0, .int .u32 0, .int .u32 0, .int .u32 0, .int .u32 0, .int .u32 0, .int .u32 0, .int .u32 0, .int .u32 0, .int .u32 0, .int .u32 0, .int .u32 0, .int .u32 0, .int .u32 0, .int .u32 0, .int .u32 0, .int .u32 0, .int .u32 0, .int .u32 0, .int .u32 0] 128)).setCells w'.heap.size 0 (cW ws)) [s0, s1, s2, s3, s4, s5, s6, s7] ws rs w'.heap.size := M1.start (z2 := (cW (List.replicate 64 0)).toArray) (z := (cW [0, 0, 0, 0, 0, 0, 0, 0]).toArray) rfl rfl hwl hrl hr hbw
  clear hbw hplan
  generalize ((w'.alloc (.cells #[.int .u32 0, .int .u32 0, .int .u32 0, .int .u32 0, .int .u32 0, .int .u32 0, .int .u32 0, .int .u32 0, .int .u32 0, .int .u32 0, .int .u32 0, .int .u32 0, .int .u32 0, .int .u32 0, .int .u32 0, .int .u32 0, .int .u32 0, .int .u32 0, .int .u32 0, .int .u32 0, .int .u32 0, .int .u32 0, .int .u32 0, .int .u32 0, .int .u32 0, .int .u32 0, .int .u32 0, .int .u32 0, .int .u32 0, .int .u32 0, .int .u32 0, .int .u32 0, .int .u32 0, .int .u32 0, .int .u32 0, .int .u32 0, .int .u32 0, .int .u32 0, .int .u32 0, .int .u32 0, .int .u32 0, .int .u32 0, .int .u32 0, .int .u32 0, .int .u32 0, .int .u32 0, .int .u32 0, .int .u32 0, .int .u32 0, .int .u32 0, .int .u32 0, .int .u32 0, .int .u32 0, .int .u32 0, .int .u32 0, .int .u32 0, .int .u32 0, .int .u32 0, .int .u32 0, .int .u32 0, .int .u32 0, .int .u32 0, .int .u32 0, .int .u32 0] 128)).setCells w'.heap.size 0 (cW ws)) = W2 at *
  generalize w'.heap.size = N at *
  clear w'
  have c0 : W2.cell? ⟨w.heap.size, 0, none⟩ = some (.int .u32 s0) := cell_cW0 hM.st (i := 0) (by simp)
  have c1 : W2.cell? ⟨w.heap.size, 1, none⟩ = some (.int .u32 s1) := cell_cW0 hM.st (i := 1) (by simp)
  have c2 : W2.cell? ⟨w.heap.size, 2, none⟩ = some (.int .u32 s2) := cell_cW0 hM.st (i := 2) (by simp)
  have c3 : W2.cell? ⟨w.heap.size, 3, none⟩ = some (.int .u32 s3) := cell_cW0 hM.st (i := 3) (by simp)
  have c4 : W2.cell? ⟨w.heap.size, 4, none⟩ = some (.int .u32 s4) := cell_cW0 hM.st (i := 4) (by simp)
  have c5 : W2.cell? ⟨w.heap.size, 5, none⟩ = some (.int .u32 s5) := cell_cW0 hM.st (i := 5) (by simp)
  have c6 : W2.cell? ⟨w.heap.size, 6, none⟩ = some (.int .u32 s6) := cell_cW0 hM.st (i := 6) (by simp)
  have c7 : W2.cell? ⟨w.heap.size, 7, none⟩ = some (.int .u32 s7) := cell_cW0 hM.st (i := 7) (by simp)
  have hX : Mx w (W2.alloc (.cells (cW [s0, s1, s2, s3, s4, s5, s6, s7]).toArray 119)) [s0, s1, s2, s3, s4, s5, s6, s7] ws rs [s0, s1, s2, s3, s4, s5, s6, s7] N W2.heap.size := Mx.start hM rfl 119
  replace hX : Mx w (W2.alloc (.cells #[.int .u32 s0, .int .u32 s1, .int .u32 s2, .int .u32 s3, .int .u32 s4, .int .u32 s5, .int .u32 s6, .int .u32 s7] 119)) [s0, s1, s2, s3, s4, s5, s6, s7] ws rs [s0, s1, s2, s3, s4, s5, s6, s7] N W2.heap.size := hX
  clear hM
  go_wp2
  clear c0 c1 c2 c3 c4 c5 c6 c7
  generalize W2.alloc (.cells #[.int .u32 s0, .int .u32 s1, .int .u32 s2, .int .u32 s3, .int .u32 s4, .int .u32 s5, .int .u32 s6, .int .u32 s7] 119) = W3 at *
  generalize W2.heap.size = V at *
  clear W2
  go_loopg [7] 64 (fun g i wr => ∃ (k : Nat) (v : S8), k ≤ 64 ∧ g = 64 - k ∧ i = .int .i64 k ∧ Hid (v = rnds (s8of [s0, s1, s2, s3, s4, s5, s6, s7]) rs ws k) ∧ Mx w wr [s0, s1, s2, s3, s4, s5, s6, s7] ws rs (l8 v) N V)
  case atStart =>
    go_light
    exact ⟨0, s8of [s0, s1, s2, s3, s4, s5, s6, s7], Nat.zero_le _, rfl, rfl, rfl, hX⟩
  case round =>
    clear hX
    obtain ⟨k, v, hk, rfl, rfl, hv, hX⟩ := hrel
    by_cases hlt : k < 64
    · have hk0 : (0 : Int) ≤ (k : Int) := Int.natCast_nonneg _
      have hk8 : (k : Int) < 64 := by omega
      obtain ⟨a, b', c, d, e, f, g, gh⟩ := v
      have cr := cell_cW0 hX.rs (i := k) (by omega)
      have cw := cell_cW0 hX.ws (i := k) (by omega)
      have c0 : wr.cell? ⟨V, 0, none⟩ = some (.int .u32 a) := cell_cW0 hX.v (i := 0) (by simp [l8])
      have c1 : wr.cell? ⟨V, 1, none⟩ = some (.int .u32 b') := cell_cW0 hX.v (i := 1) (by simp [l8])
      have c2 : wr.cell? ⟨V, 2, none⟩ = some (.int .u32 c) := cell_cW0 hX.v (i := 2) (by simp [l8])
      have c3 : wr.cell? ⟨V, 3, none⟩ = some (.int .u32 d) := cell_cW0 hX.v (i := 3) (by simp [l8])
      have c4 : wr.cell? ⟨V, 4, none⟩ = some (.int .u32 e) := cell_cW0 hX.v (i := 4) (by simp [l8])
      have c5 : wr.cell? ⟨V, 5, none⟩ = some (.int .u32 f) := cell_cW0 hX.v (i := 5) (by simp [l8])
      have c6 : wr.cell? ⟨V, 6, none⟩ = some (.int .u32 g) := cell_cW0 hX.v (i := 6) (by simp [l8])
      have c7 : wr.cell? ⟨V, 7, none⟩ = some (.int .u32 gh) := cell_cW0 hX.v (i := 7) (by simp [l8])
      have f0 : wr.frozen? ⟨V, 0, none⟩ = false := by have := (hX.vt 0 (by decide)).2; rwa [Nat.zero_add] at this
      have f1 : wr.frozen? ⟨V, 1, none⟩ = false := by have := (hX.vt 1 (by decide)).2; rwa [Nat.zero_add] at this
      have f2 : wr.frozen? ⟨V, 2, none⟩ = false := by have := (hX.vt 2 (by decide)).2; rwa [Nat.zero_add] at this
      have f3 : wr.frozen? ⟨V, 3, none⟩ = false := by have := (hX.vt 3 (by decide)).2; rwa [Nat.zero_add] at this
      have f4 : wr.frozen? ⟨V, 4, none⟩ = false := by have := (hX.vt 4 (by decide)).2; rwa [Nat.zero_add] at this
      have f5 : wr.frozen? ⟨V, 5, none⟩ = false := by have := (hX.vt 5 (by decide)).2; rwa [Nat.zero_add] at this
      have f6 : wr.frozen? ⟨V, 6, none⟩ = false := by have := (hX.vt 6 (by decide)).2; rwa [Nat.zero_add] at this
      have f7 : wr.frozen? ⟨V, 7, none⟩ = false := by have := (hX.vt 7 (by decide)).2; rwa [Nat.zero_add] at this
      have HX : Hid (∀ x0 x1 x2 x3 x4 x5 x6 x7, Mx w ((((((((wr.setCell ⟨V, 0, none⟩ (.int .u32 x0)).setCell ⟨V, 1, none⟩ (.int .u32 x1)).setCell ⟨V, 2, none⟩ (.int .u32 x2)).setCell ⟨V, 3, none⟩ (.int .u32 x3)).setCell ⟨V, 4, none⟩ (.int .u32 x4)).setCell ⟨V, 5, none⟩ (.int .u32 x5)).setCell ⟨V, 6, none⟩ (.int .u32 x6)).setCell ⟨V, 7, none⟩ (.int .u32 x7)) [s0, s1, s2, s3, s4, s5, s6, s7] ws rs [x0, x1, x2, x3, x4, x5, x6, x7] N V) := fun x0 x1 x2 x3 x4 x5 x6 x7 => ((((((((hX.set 0 x0).set 1 x1).set 2 x2).set 3 x3).set 4 x4).set 5 x5).set 6 x6).set 7 x7)
      have HV : Hid (∀ v', v' = S8.rnd ⟨a, b', c, d, e, f, g, gh⟩ (rs.getD k 0) (ws.getD k 0) → v' = rnds (s8of [s0, s1, s2, s3, s4, s5, s6, s7]) rs ws (k + 1)) := fun v' h => by
        rw [h, show S8.mk a b' c d e f g gh = _ from hv]; rfl
      clear hX hv
      generalize rs.getD k 0 = r at *
      generalize ws.getD k 0 = x at *
      go_wp2
      go_region_held3 (fun w' => w'.cell? ⟨2, k, none⟩ = some (.int .u32 r) ∧ w'.cell? ⟨N, k, none⟩ = some (.int .u32 x) ∧ w'.cell? ⟨V, 4, none⟩ = some (.int .u32 e) ∧ w'.cell? ⟨V, 5, none⟩ = some (.int .u32 f) ∧ w'.cell? ⟨V, 6, none⟩ = some (.int .u32 g) ∧ w'.cell? ⟨V, 7, none⟩ = some (.int .u32 gh)) (first | assumption | (refine ⟨?_, ?_, ?_, ?_, ?_, ?_⟩ <;> assumption)) (first | (go_at_call 97; refine (turn_any _ _ _ (by decide) (by decide)).mono ?_; rintro e w' ⟨rfl, q, rfl⟩))
      go_wp2
      go_region_held3 (fun w' => w'.cell? ⟨V, 0, none⟩ = some (.int .u32 a) ∧ w'.cell? ⟨V, 1, none⟩ = some (.int .u32 b') ∧ w'.cell? ⟨V, 2, none⟩ = some (.int .u32 c)) (first | assumption | (refine ⟨?_, ?_, ?_⟩ <;> assumption)) (first | (go_at_call 97; refine (turn_any _ _ _ (by decide) (by decide)).mono ?_; rintro e w' ⟨rfl, q, rfl⟩))
      go_wp2
      go_roundg (64 - (k + 1))
      case rel =>
        go_light
        refine ⟨k + 1, S8.rnd ⟨a, b', c, d, e, f, g, gh⟩ r x, by omega, rfl, by go_num, HV.out (S8.rnd ⟨a, b', c, d, e, f, g, gh⟩ r x) rfl, ?_⟩
        simp only [l8, S8.rnd, rnd_a, rnd_e]
        refine Mx.same (HX.out _ _ _ _ _ _ _ _) ?_ ?_ ?_ ?_
        all_goals rfl
      case measure => go_light; omega
    · obtain rfl : k = 64 := by omega
      have HVF : Hid (foldI rs [s0, s1, s2, s3, s4, s5, s6, s7] (tB b) = sumI (s8of [s0, s1, s2, s3, s4, s5, s6, s7]) v) := by
        show _ = _
        rw [show v = _ from hv, show ws = _ from HE]; rfl
      clear hk hlt hv
      go_wp2
      go_loopg [10] 8 (fun g i wr => ∃ k : Nat, k ≤ 8 ∧ g = 8 - k ∧ i = .int .i64 k ∧ Mx w wr [s0, s1, s2, s3, s4, s5, s6, s7] ws rs (addL (s8of [s0, s1, s2, s3, s4, s5, s6, s7]) v k) N V)
      case atStart =>
        go_light
        exact ⟨0, Nat.zero_le _, rfl, rfl, hX⟩
      case round =>
        clear hX
        obtain ⟨k, hk, rfl, rfl, hX⟩ := hrel
        by_cases hlt : k < 8
        · have hk0 : (0 : Int) ≤ (k : Int) := Int.natCast_nonneg _
          have hk8 : (k : Int) < 8 := by omega
          have cv := cell_cW0 hX.v (i := k) (by rw [hX.vlen]; omega)
          rw [addL_getD _ _ _ _ (Nat.le_refl _)] at cv
          have cs : wr.cell? ⟨w.heap.size, k, none⟩ = some (.int .u32 ((l8 (s8of [s0, s1, s2, s3, s4, s5, s6, s7])).getD k 0)) := cell_cW0 hX.st (i := k) hlt
          have fv : wr.frozen? ⟨V, k, none⟩ = false := by have := (hX.vt k hlt).2; rwa [Nat.zero_add] at this
          have HF : Hid (∀ x, Mx w (wr.setCell ⟨V, k, none⟩ (.int .u32 x)) [s0, s1, s2, s3, s4, s5, s6, s7] ws rs ((addL (s8of [s0, s1, s2, s3, s4, s5, s6, s7]) v k).set k x) N V) := fun x => hX.set k x
          have HV : Hid (addL (s8of [s0, s1, s2, s3, s4, s5, s6, s7]) v (k + 1) = (addL (s8of [s0, s1, s2, s3, s4, s5, s6, s7]) v k).set k (IntKind.u32.wrap ((l8 v).getD k 0 + (l8 (s8of [s0, s1, s2, s3, s4, s5, s6, s7])).getD k 0))) := rfl
          clear hX
          generalize (l8 v).getD k 0 = x at *
          generalize (l8 (s8of [s0, s1, s2, s3, s4, s5, s6, s7])).getD k 0 = y at *
          go_wp2
          go_region
          all_goals
            go_wp2
            go_roundg (8 - (k + 1))
            case rel =>
              go_light
              refine ⟨k + 1, by omega, rfl, by go_num, ?_⟩
              rw [HV.out, IntKind.wrap_u32']
              exact (HF.out _).same rfl rfl rfl rfl
            case measure => go_light; omega
        · obtain rfl : k = 8 := by omega
          rw [addL_sum] at hX
          have hvl := hX.vlen
          have hvr := hX.v
          have hi34 : (Tryd.prog.info? 119).map (·.size) = some (cW (sumI (s8of [s0, s1, s2, s3, s4, s5, s6, s7]) v)).length := size34
          have hi34' : (Tryd.prog.info? 119).map (·.size) = some (cW (sumI (s8of [s0, s1, s2, s3, s4, s5, s6, s7]) v)).toArray.size := size34
          have hres : wr.there (w.heap.size + 1) 0 (cW (sumI (s8of [s0, s1, s2, s3, s4, s5, s6, s7]) v)).toArray.size := hX.res
          have hbel := hX.below
          clear hX
          generalize hE : sumI (s8of [s0, s1, s2, s3, s4, s5, s6, s7]) v = F at *
          have HF : Hid (foldI rs [s0, s1, s2, s3, s4, s5, s6, s7] (tB b) = F) := HVF
          clear hE HVF
          go_wp2_with (first | (refine wpList_load_mid rfl 119 _ rfl V 0 rfl (cW F) _ hvr Tryd.underlying119 rfl hi34 ?_) | (refine wpList_store_mid rfl 119 _ _ rfl (w.heap.size + 1) 0 (cW F).toArray rfl rfl hres hi34' (all_oneCell_toArray (cW_one F)) ?_))
          refine bodyPost_ret (v := .agg (cW F).toArray) ?_ rfl ⟨by rw [HF.out], ?_⟩
          · refine results_cell_mid Tryd.results94 _ _ (w.heap.size + 1) 0 (cW F) (.array 8 118) ?_ ?_ Tryd.underlying119 rfl hi34
            · rfl
            · go_light
              simpa using World.rangeAt_setCells_same _ _ _ _ (by simpa using hres)
          · go_light
            exact below_setCells hbel (by omega) _ _
end Go.Proofs.YtdkcliblbaldhaaDoor
/-
  Walks of the reference of layer 1: Big. Own work.
-/
namespace Go.Proofs.YtdkcliblbaldhaaDoor
open Go.RowKit
attribute [local go_sem ↓] Go.wp_at_zero Go.wp_at_succ
/-- n's last j bytes, the highest first. -/
def tl (n : Int) : Nat → List Int
  | 0 => []
  | j + 1 => (n / 256 ^ j % 256) :: tl n j
theorem tl_len (n : Int) (j : Nat) : (tl n j).length = j := by
  induction j with
  | zero => rfl
  | succ j ih => simp [tl, ih]
theorem tl_bytes (n : Int) (j : Nat) : Bytes (tl n j) := by
  induction j with
  | zero => intro x hx; cases hx
  | succ j ih =>
    intro x hx
    rcases List.mem_cons.1 hx with rfl | hx
    · omega
    · exact ih x hx
structure Bg (w wr : World) (l : List Int) (K : Nat) : Prop where
  len : l.length = K
  below : Below w.heap.size w wr
  out : wr.rangeAt w.heap.size 0 (cB l)
  outt : wr.there w.heap.size 0 K
theorem Bg.set {w wr : World} {l : List Int} {K : Nat} (h : Bg w wr l K) (m : Nat) (v : Int) : Bg w (wr.setCell ⟨w.heap.size, m, none⟩ (.int .u8 v)) (l.set m v) K := by
  refine ⟨by rw [List.length_set]; exact h.len, h.below.setCell (Nat.le_refl _) _, ?_, there_set h.outt _ _⟩
  have := range_set h.out m (.int .u8 v)
  rwa [Nat.zero_add, cB_set] at this
theorem rep_set (K j : Nat) (n v : Int) (h : j < K) : (List.replicate (K - j) 0 ++ tl n j).set (K - 1 - j) v = List.replicate (K - (j + 1)) 0 ++ v :: tl n j := by
  obtain ⟨m, rfl⟩ : ∃ m, K = j + 1 + m := ⟨K - (j + 1), by omega⟩
  rw [show j + 1 + m - j = m + 1 by omega, show j + 1 + m - 1 - j = m by omega, show j + 1 + m - (j + 1) = m by omega, List.replicate_succ', List.append_assoc, List.set_append_right _ _ (by simp)]
  simp
theorem conv_strK (w : World) (b K : Nat) (l : List Int) (hl : l.length = K) (h : w.rangeAt b 0 (cB l)) : (convert 51 9 (.slice (some ⟨b, 0, none⟩) K K)).run Tryd.prog w = .ok (.string (strB l)) w := conv_str w b l K hl h
set_option maxHeartbeats 1000000 in
set_option maxRecDepth 100000 in
theorem big_gen (n : Int) (h0 : 0 ≤ n) (h64 : n < 18446744073709551616) (K : Nat) (hK : K ≤ 8)
    (hmk : ∀ u : World, (Instr.makeSlice 51 (.int .i64 (K : Int)) (.int .i64 (K : Int))).run Tryd.prog u = .ok (.slice (some ⟨u.heap.size, 0, none⟩) K K) (u.alloc (.cells (cB (List.replicate K 0)).toArray 5))) (w : World) :
    Calls Tryd.prog 93 #[.int .u64 n, .int .i64 (K : Int)] w fun e w' => e = .returned (.string (strB (tl n K))) ∧ Below w.heap.size w w' := by
  have hB0 : Bg w (w.alloc (.cells (cB (List.replicate K 0)).toArray 5)) (List.replicate K 0) K :=
    ⟨by simp, (Below.refl _ _).alloc (Nat.le_refl _) _, range_new _ _ _, there_new _ _ _ _ (by simp [cB_len])⟩
  have k0 : (0 : Int) ≤ (K : Int) := Int.natCast_nonneg _
  have k8 : (K : Int) ≤ 8 := by omega
  go_enter Tryd.func93, Tryd.ntmps93
  go_wp2
  generalize w.alloc (.cells (cB (List.replicate K 0)).toArray 5) = w1 at *
  clear hmk
  go_loopg [0, 6] K (fun g x i wr => ∃ j : Nat, j ≤ K ∧ g = K - j ∧ x = .int .u64 (n / 256 ^ j) ∧ i = .int .i64 ((K : Int) - 1 - (j : Int)) ∧ Bg w wr (List.replicate (K - j) 0 ++ tl n j) K)
  case atStart =>
    go_light
    refine ⟨0, Nat.zero_le _, rfl, ?_, ?_, ?_⟩
    · simp
    · simp
    · simpa [tl] using hB0
  case round =>
    clear hB0
    obtain ⟨j, hj, rfl, rfl, rfl, hs⟩ := hrel
    have hx0 : 0 ≤ n / 256 ^ j := Int.ediv_nonneg h0 (Int.pow_nonneg (by decide))
    have hx1 : n / 256 ^ j ≤ n := Int.ediv_le_self _ h0
    have hx2 : n / 256 ^ j < 18446744073709551616 := by omega
    by_cases hlt : j < K
    · obtain ⟨m, hm⟩ : ∃ m : Nat, j + m + 1 = K := ⟨K - 1 - j, by omega⟩
      have em : (K : Int) - 1 - (j : Int) = (m : Int) := by omega
      rw [em]
      have m0 : (0 : Int) ≤ (m : Int) := Int.natCast_nonneg _
      have mK : (m : Int) < (K : Int) := by omega
      have m8 : (m : Int) ≤ 8 := by omega
      have cm := cell_cB0 hs.out (i := m) (by rw [hs.len]; omega)
      have fm : wr.frozen? ⟨w.heap.size, m, none⟩ = false := by have := (hs.outt m (by omega)).2; rwa [Nat.zero_add] at this
      have HF : Hid (Bg w (wr.setCell ⟨w.heap.size, m, none⟩ (.int .u8 (n / 256 ^ j % 256))) (List.replicate (K - (j + 1)) 0 ++ tl n (j + 1)) K) := by
        have := hs.set m (n / 256 ^ j % 256)
        rwa [show m = K - 1 - j by omega, rep_set K j n _ hlt, ← show m = K - 1 - j by omega] at this
      have HD : Hid (n / 256 ^ j / 256 = n / 256 ^ (j + 1)) := by
        show _ = _
        rw [Int.pow_succ, Int.ediv_ediv_of_nonneg (Int.pow_nonneg (by decide))]
      have HM : Hid (j + m + 1 = K) := hm
      clear hs hm em
      generalize n / 256 ^ j = x at *
      generalize (List.replicate (K - j) 0 ++ tl n j).getD m 0 = z at *
      go_wp2
      go_roundg (K - (j + 1))
      case rel =>
        go_light
        refine ⟨j + 1, by omega, rfl, by rw [← HD.out], ?_, HF.out⟩
        have := HM.out; go_num
      case measure => go_light; omega
    · obtain rfl : j = K := by omega
      have em : (j : Int) - 1 - (j : Int) = -1 := by omega
      rw [em]
      have hs2 := hs.out
      rw [Nat.sub_self, List.replicate_zero, List.nil_append] at hs2
      have hcv := conv_strK wr w.heap.size j (tl n j) (tl_len _ _) hs2
      have HB : Hid (Below w.heap.size w wr) := hs.below
      clear hs hs2
      go_wp2
      go_ret
      exact ⟨rfl, HB.out⟩
theorem big8 (n : Int) (h0 : 0 ≤ n) (h64 : n < 18446744073709551616) (w : World) :
    Calls Tryd.prog 93 #[.int .u64 n, .int .i64 8] w fun e w' => e = .returned (.string (strB (tl n 8))) ∧ Below w.heap.size w w' := big_gen n h0 h64 8 (by decide) (fun u => by kernel_rfl) w
theorem big4 (n : Int) (h0 : 0 ≤ n) (h64 : n < 18446744073709551616) (w : World) :
    Calls Tryd.prog 93 #[.int .u64 n, .int .i64 4] w fun e w' => e = .returned (.string (strB (tl n 4))) ∧ Below w.heap.size w w' := big_gen n h0 h64 4 (by decide) (fun u => by kernel_rfl) w
end Go.Proofs.YtdkcliblbaldhaaDoor
/-
  The reference's sum is the program's: the text with its end, block by block. Own work.
-/
namespace Go.Proofs.YtdkcliblbaldhaaDoor
open Go.RowKit
theorem fold_push (l : List Int) (acc : ByteArray) : (l.foldl (fun r n => r.push (UInt8.ofNat n.toNat)) acc).data.toList = acc.data.toList ++ l.map fun n => UInt8.ofNat n.toNat := by
  induction l generalizing acc with
  | nil => simp
  | cons x r ih => rw [List.foldl_cons, ih]; simp [ByteArray.push]
theorem strB_list (l : List Int) : (strB l).data.toList = l.map fun n => UInt8.ofNat n.toNat := by
  rw [strB, fold_push]; rfl
theorem tB_strB {l : List Int} (h : Bytes l) : tB (strB l) = l := by
  rw [tB, strB_list, List.map_map]
  conv => rhs; rw [← List.map_id l]
  apply List.map_congr_left
  intro x hx
  obtain ⟨h0, h1⟩ := h x hx
  obtain ⟨n, rfl⟩ := Int.eq_ofNat_of_zero_le h0
  simp
  omega
theorem strB_tB (s : ByteArray) : strB (tB s) = s := by
  have : (strB (tB s)).data.toList = s.data.toList := by
    rw [strB_list, tB, List.map_map]
    conv => rhs; rw [← List.map_id s.data.toList]
    apply List.map_congr_left
    intro x _
    simp
  cases s with
  | mk d =>
    cases h : strB (tB ⟨d⟩) with
    | mk d' =>
      rw [h] at this
      simp only at this
      rw [Array.toList_inj.1 this]
/-- The text with its end. -/
def msg (t : List Int) (z : Nat) : List Int := (t ++ (128 :: List.replicate z 0)) ++ tl (8 * (t.length : Int)) 8
theorem lenAt_tl {l : List Int} (h : l.length = 64) (b : Int) : lenAt l b 8 = l.take 56 ++ tl b 8 := by
  obtain ⟨s0, s1, s2, s3, s4, s5, s6, s7, hd⟩ := list8 (st := l.drop 56) (by simp [h])
  have e : l = l.take 56 ++ [s0, s1, s2, s3, s4, s5, s6, s7] := by rw [← hd, List.take_append_drop]
  have hA : (l.take 56).length = 56 := by simp [h]
  generalize l.take 56 = A at *
  subst e
  simp only [lenAt, tl, IntKind.wrap_u8']
  rw [List.set_append_right _ _ (by omega), List.set_append_right _ _ (by omega), List.set_append_right _ _ (by omega), List.set_append_right _ _ (by omega), List.set_append_right _ _ (by omega), List.set_append_right _ _ (by omega), List.set_append_right _ _ (by omega), List.set_append_right _ _ (by omega), hA]
  congr 1
theorem take56_tl (A : List Int) (h : A.length = 56) (B : List Int) : (A ++ B).take 56 = A := by
  rw [List.take_append_of_le_length (by omega), List.take_of_length_le (by omega)]
theorem msg_sum (rs t : List Int) (z : Nat) (hlt : t.length < 1152921504606846976) (hz : (t.length + (z + 1) + 8) % 64 = 0) (hz2 : z < 64) :
    stN rs IV (msg t z) ((msg t z).length / 64) = closeI rs (stN rs IV t (t.length / 64)) (pad (t.drop (64 * (t.length / 64)))) t.length := by
  have hml : (msg t z).length = t.length + (z + 1) + 8 := by simp [msg, tl_len]; omega
  have hb8 : IntKind.u64.wrap ((t.length : Int) * 8) = 8 * (t.length : Int) := by
    simp [IntKind.wrap, IntKind.bits, IntKind.signed]; omega
  have hdl : (t.drop (64 * (t.length / 64))).length = t.length % 64 := by rw [List.length_drop]; omega
  have hpl : (pad (t.drop (64 * (t.length / 64)))).length = 64 := pad_len (by omega)
  have hpt : (pad (t.drop (64 * (t.length / 64)))).take (t.length % 64) = t.drop (64 * (t.length / 64)) := by
    rw [pad, List.take_append_of_le_length (by omega), List.take_of_length_le (by omega)]
  have hdrop : ∀ q, q = t.length / 64 → (msg t z).drop (64 * q) = (t.drop (64 * q) ++ (128 :: List.replicate z 0)) ++ tl (8 * (t.length : Int)) 8 := fun q hq => by
    unfold msg
    rw [List.drop_append_of_le_length (by simp; omega), List.drop_append_of_le_length (by omega)]
  have hpre : stN rs IV (msg t z) (t.length / 64) = stN rs IV t (t.length / 64) := by
    unfold msg
    rw [List.append_assoc, stN_append _ _ _ _ _ (by omega)]
  unfold closeI
  rw [hb8]
  have hend : endL (pad (t.drop (64 * (t.length / 64)))) (t.length % 64) = (t.drop (64 * (t.length / 64)) ++ [128]) ++ List.replicate (64 - (t.length % 64 + 1)) 0 := by
    rw [endL_eq hpl (Nat.mod_lt _ (by decide)), hpt]
  by_cases h55 : 55 < t.length % 64
  · rw [if_pos h55]
    have hq : (msg t z).length / 64 = t.length / 64 + 1 + 1 := by omega
    have hzz : z = (64 - (t.length % 64 + 1)) + 56 := by omega
    rw [hq, stN, stN, hpre, hdrop _ rfl, hend, lenAt_tl (by simp)]
    have e1 : ((t.drop (64 * (t.length / 64)) ++ (128 :: List.replicate z 0)) ++ tl (8 * (t.length : Int)) 8).take 64 = (t.drop (64 * (t.length / 64)) ++ [128]) ++ List.replicate (64 - (t.length % 64 + 1)) 0 := by
      rw [hzz, ← List.replicate_append_replicate]
      have : t.drop (64 * (t.length / 64)) ++ (128 :: (List.replicate (64 - (t.length % 64 + 1)) 0 ++ List.replicate 56 0)) ++ tl (8 * (t.length : Int)) 8 = ((t.drop (64 * (t.length / 64)) ++ [128]) ++ List.replicate (64 - (t.length % 64 + 1)) 0) ++ (List.replicate 56 0 ++ tl (8 * (t.length : Int)) 8) := by simp
      rw [this, List.take_append_of_le_length (by simp; omega), List.take_of_length_le (by simp; omega)]
    have e2 : ((msg t z).drop (64 * (t.length / 64 + 1))).take 64 = (List.replicate 64 (0 : Int)).take 56 ++ tl (8 * (t.length : Int)) 8 := by
      have hd2 : (msg t z).drop (64 * (t.length / 64 + 1)) = ((msg t z).drop (64 * (t.length / 64))).drop 64 := by rw [List.drop_drop]; congr 1
      rw [hd2, hdrop _ rfl, hzz, ← List.replicate_append_replicate]
      have : t.drop (64 * (t.length / 64)) ++ (128 :: (List.replicate (64 - (t.length % 64 + 1)) 0 ++ List.replicate 56 0)) ++ tl (8 * (t.length : Int)) 8 = ((t.drop (64 * (t.length / 64)) ++ [128]) ++ List.replicate (64 - (t.length % 64 + 1)) 0) ++ (List.replicate 56 0 ++ tl (8 * (t.length : Int)) 8) := by simp
      rw [this, List.drop_append_of_le_length (by simp; omega), List.drop_eq_nil_of_le (by simp; omega), List.nil_append, List.take_of_length_le (by simp [tl_len])]
      simp
    rw [e1, e2]
  · rw [if_neg h55]
    have hq : (msg t z).length / 64 = t.length / 64 + 1 := by omega
    have hzz : z = 55 - t.length % 64 := by omega
    rw [hq, stN, hpre, hdrop _ rfl, hend, lenAt_tl (by simp; omega)]
    congr 1
    rw [List.take_of_length_le (by simp [tl_len]; omega)]
    congr 1
    have : (t.drop (64 * (t.length / 64)) ++ [128]) ++ List.replicate (64 - (t.length % 64 + 1)) 0 = (t.drop (64 * (t.length / 64)) ++ (128 :: List.replicate z 0)) ++ List.replicate 8 0 := by
      rw [show 64 - (t.length % 64 + 1) = z + 8 by omega, ← List.replicate_append_replicate]; simp
    rw [this, take56_tl _ (by simp; omega)]
/-- The words as bytes. -/
def outR (H : List Int) : Nat → List Int
  | 0 => []
  | k + 1 => outR H k ++ tl (H.getD k 0) 4
theorem outR_eq (H : List Int) (k : Nat) : outR H k = outB H k := by
  induction k with
  | zero => rfl
  | succ k ih =>
    rw [outR, outB, ih]
    simp [tl, w4, IntKind.wrap_u8']
end Go.Proofs.YtdkcliblbaldhaaDoor
/-
  Walks of the reference of layer 1: Of. Own work.
-/
namespace Go.Proofs.YtdkcliblbaldhaaDoor
open Go.RowKit
attribute [local go_sem ↓] Go.wp_at_zero Go.wp_at_succ
theorem tB_append (a b : ByteArray) : tB (a ++ b) = tB a ++ tB b := by simp [tB]
/-- Sum of a hash that stood in W0, asked later. -/
theorem info5 : (Tryd.prog.info? 5).map (fun i => (i.zero, i.size, i.bytes)) = some (some (.int .u8 0), 1, 1) := by kernel_rfl
theorem conv_cap (w : World) (b : Nat) (l : List Int) (n cap : Nat) (hl : l.length = n) (h : w.rangeAt b 0 (cB l)) : (convert 51 9 (.slice (some ⟨b, 0, none⟩) n cap)).run Tryd.prog w = .ok (.string (strB l)) w := by
  subst hl
  rw [run_convert_bytes_string w 51 9 5 _ _ _ Tryd.underlying51 Tryd.underlying5 Tryd.underlying9]
  refine run_bytesToString w ⟨b, 0, none⟩ l.length cap l ?_
  have := run_loadCells_list (P := Tryd.prog) w ⟨b, 0, none⟩ (cB l) (fun j v hv => by rw [Addr.add_mid]; exact h j v hv)
  rwa [cB_len] at this
theorem owns_range {w : World} {base g n cap : Nat} {l : List Int} (h : w.ownsRow base 5 1 (.slice (some ⟨g, 0, none⟩) n cap) n (cB l)) : w.rangeAt g 0 (cB l) ∧ base ≤ g := by
  obtain ⟨h1, h2⟩ := h
  rcases h2 with ⟨h2, _⟩ | ⟨g', cap', cur, hv, hg, hh, hn, hc, hs, ht⟩
  · cases h2
  · injection hv with e1 e2 e3
    injection e1 with e1
    injection e1 with e1
    subst e1
    refine ⟨fun j v hj => ?_, hg⟩
    rw [Nat.zero_add, cell_of_row w g j cur 5 (0, 0) hh]
    rw [← ht, List.getElem?_take] at hj
    split at hj
    · simpa using hj
    · cases hj
theorem owns_form {w : World} {base n : Nat} {v : Value} {xs : List Value} (h : w.ownsRow base 5 1 v n xs) (hn : 0 < n) : ∃ g cap, v = .slice (some ⟨g, 0, none⟩) n cap ∧ base ≤ g := by
  obtain ⟨h1, h2⟩ := h
  rcases h2 with ⟨_, h2⟩ | ⟨g, cap, cur, hv, hg, _⟩
  · omega
  · exact ⟨g, cap, hv, hg⟩
theorem end_bytes (z : Nat) : Bytes (128 :: List.replicate z 0) := by
  intro x hx
  rcases List.mem_cons.1 hx with rfl | hx
  · omega
  · rw [List.eq_of_mem_replicate hx]; omega
theorem below_of_drew {w w2 : World} {B : Nat} (h : Below w.drew.heap.size w.drew w2) (hB : B ≤ w.heap.size) : Below B w w2 :=
  ⟨h.os, h.tape, h.output, h.size, fun k hk => h.block k (Nat.lt_of_lt_of_le hk hB)⟩
theorem tB_slice (r : ByteArray) (p q : Nat) : tB (r.extract p q) = ((tB r).drop p).take (q - p) := by
  have : (r.extract p q).data.toList = (r.data.toList.drop p).take (q - p) := by
    rw [ByteArray.data_extract]
    simp [Array.toList_extract, List.extract]
  rw [tB, this, tB, List.map_take, List.map_drop]
theorem outR_len (H : List Int) (m : Nat) : (outR H m).length = 4 * m := by
  induction m with
  | zero => rfl
  | succ m ih => rw [outR, List.length_append, ih, tl_len]; omega
theorem wrap_w32 (x : Int) : 0 ≤ IntKind.u32.wrap x ∧ IntKind.u32.wrap x < 4294967296 := by rw [IntKind.wrap_u32']; omega
theorem w32_getD {l : List Int} (h : ∀ x ∈ l, 0 ≤ x ∧ x < 4294967296) (i : Nat) : 0 ≤ l.getD i 0 ∧ l.getD i 0 < 4294967296 := by
  rw [List.getD_eq_getElem?_getD]
  cases e : l[i]? with
  | none => exact ⟨by decide, by decide⟩
  | some x => exact h x (List.mem_of_getElem? e)
theorem stN_w32 (rs t : List Int) (k i : Nat) : 0 ≤ (stN rs IV t k).getD i 0 ∧ (stN rs IV t k).getD i 0 < 4294967296 := by
  refine w32_getD (fun x hx => ?_) i
  cases k with
  | zero => simp [stN, IV] at hx; omega
  | succ k =>
    rw [stN, foldI, sumI] at hx
    simp only [List.mem_cons, List.not_mem_nil, or_false] at hx
    rcases hx with rfl | rfl | rfl | rfl | rfl | rfl | rfl | rfl <;> exact wrap_w32 _
theorem wrap_u64_id {x : Int} (h0 : 0 ≤ x) (h1 : x < 4294967296) : IntKind.u64.wrap x = x := by
  simp [IntKind.wrap, IntKind.bits, IntKind.signed]; omega
theorem row_lt {w : World} {g : Nat} {o : Obj} (h : w.heap[g]? = some o) : g < w.heap.size := by
  rcases Nat.lt_or_ge g w.heap.size with h' | h'
  · exact h'
  · rw [Array.getElem?_eq_none h'] at h; cases h
theorem endz (L : Nat) : ∃ z, z < 64 ∧ (L + (z + 1) + 8) % 64 = 0 := ⟨(64 - (L + 9) % 64) % 64, by omega, by omega⟩
set_option maxHeartbeats 2000000 in
set_option maxRecDepth 100000 in
theorem refOf_any (w : World) (ao : Option Addr) (b off len cap : Nat) (ss : List ByteArray) (hl : ss.length = len) (hao : 0 < len → ao = some ⟨b, off, none⟩) (hs : w.rangeAt b off (ss.map Value.string))
    (hmx : len ≤ 1048576) (rs : List Int) (hrl : rs.length = 64) (hr : w.rangeAt 2 0 (cW rs)) (hiv : w.rangeAt 1 0 (cW IV)) (hlen : (flat ss).length < 1152921504606846976) :
    Calls Tryd.prog 86 #[.slice ao len cap] w fun e w' => e = .returned (.string (shaS rs (flat ss))) ∧ Below w.heap.size w w' := by
  have h2w : 2 < w.heap.size := range_lt hr (by intro h; have := congrArg List.length h; simp [cW_len, hrl] at this)
  have h0w : Hid (1 < w.heap.size) := range_lt hiv (by intro h; cases h)
  go_enter Tryd.func86, Tryd.ntmps86
  go_wp2
  go_loopg [3, 4] len (fun g x i wx => w = wx ∧ ∃ (k : Nat) (text : ByteArray), k ≤ len ∧ g = len - k ∧ x = .string text ∧ i = .int .i64 k ∧ Hid (tB text = flat (ss.take k)))
  case atStart =>
    go_light
    exact ⟨rfl, 0, _, Nat.zero_le _, rfl, rfl, rfl, rfl⟩
  case round =>
    obtain ⟨rfl, k, text, hk, rfl, rfl, rfl, HT⟩ := hrel
    by_cases hlt : k < len
    · obtain rfl := hao (by omega)
      have hk' : k < ss.length := by omega
      have ck : w.cell? ⟨b, off + k, none⟩ = some (.string (ss.getD k ByteArray.empty)) :=
        hs k _ (by simp [List.getElem?_eq_getElem hk', List.getD_eq_getElem?_getD])
      have hz : (k : Int) < (len : Int) := by omega
      have hfs := flat_snoc ss k hk'
      have hsz : (flat (ss.take (k + 1))).length ≤ (flat ss).length := flat_take_le _ _
      have hts : text.size = (flat (ss.take k)).length := by rw [← tB_len, HT.out]
      have hns : ¬ (9223372036854775807 < text.size + (ss.getD k ByteArray.empty).size) := by
        rw [hfs, List.length_append, tB_len] at hsz; omega
      have HF : Hid (tB (text ++ ss.getD k ByteArray.empty) = flat (ss.take (k + 1))) := by
        show _ = _
        rw [tB_append, HT.out, hfs]
      clear hfs hsz hts
      generalize ss.getD k ByteArray.empty = part at *
      go_wp2
      go_roundg (len - (k + 1))
      case rel =>
        go_light
        exact ⟨rfl, k + 1, _, by omega, rfl, rfl, by go_num, HF.out⟩
      case measure => go_light; omega
    · obtain rfl : k = len := by omega
      have hz : ¬ (k : Int) < (k : Int) := by omega
      have hT := HT.out
      rw [List.take_of_length_le (by omega)] at hT
      have hts : text.size = (flat ss).length := by rw [← tB_len, hT]
      have HTT : Hid (tB text = flat ss) := hT
      clear hT HT hs hao hl
      obtain ⟨zN, hz1, hz2⟩ := endz text.size
      obtain ⟨i0, hi, hz0, hzz1, hzz2⟩ := info_parts info5
      have hO0 : (w.alloc (.cells #[.int .u8 128] 5)).ownsRow w.heap.size 5 1 (.slice (some ⟨w.heap.size, 0, none⟩) 1 1) 1 (cB (128 :: List.replicate 0 0)) :=
        ⟨rfl, Or.inr ⟨w.heap.size, 1, #[.int .u8 128], rfl, Nat.le_refl _, heap_alloc_new _ _, Nat.le_refl _, by unfold maxLen; omega, rfl, rfl⟩⟩
      have hb0 : Below w.heap.size w (w.alloc (.cells #[.int .u8 128] 5)) := (Below.refl _ _).alloc (Nat.le_refl _) _
      have HZ : Hid (zN < 64 ∧ (text.size + (zN + 1) + 8) % 64 = 0) := ⟨hz1, hz2⟩
      have ht63 : (text.size : Int) < 1152921504606846976 := by omega
      have ht0 : (0 : Int) ≤ (text.size : Int) := Int.natCast_nonneg _
      have HTS : Hid (text.size = (flat ss).length) := hts
      clear hz1 hz2 hts
      go_upto_region 7 with (fail)
      generalize w.alloc (.cells #[.int .u8 128] 5) = w1 at *
      go_loopg [5] zN (fun g v wi => ∃ (z n g' cap' : Nat), n = z + 1 ∧ z ≤ zN ∧ g = zN - z ∧ v = .slice (some ⟨g', 0, none⟩) n cap' ∧ wi.ownsRow w.heap.size 5 1 v n (cB (128 :: List.replicate z 0)) ∧ Below w.heap.size w wi)
      case atStart =>
        go_light
        exact ⟨0, 1, _, _, rfl, Nat.zero_le _, rfl, rfl, hO0, hb0⟩
      case round =>
        clear hO0 hb0
        obtain ⟨z, n, g', cap', hnz, hzl, rfl, rfl, hO, hb⟩ := hrel
        obtain ⟨s1, hs1⟩ : ∃ s1 : Nat, text.size + n = s1 := ⟨_, rfl⟩
        obtain ⟨s2, hs2⟩ : ∃ s2 : Nat, s1 + 8 = s2 := ⟨_, rfl⟩
        have hZ := HZ.out
        have e1 : IntKind.i64.wrap ((text.size : Int) + (n : Int)) = (s1 : Int) := by rw [wrap_id _ (by omega) (by omega)]; omega
        have e2 : IntKind.i64.wrap ((s1 : Int) + 8) = (s2 : Int) := by rw [wrap_id _ (by omega) (by omega)]; omega
        have b2 : (0 : Int) ≤ (s2 : Int) := Int.natCast_nonneg _
        have HN : Hid (n = z + 1 ∧ z ≤ zN ∧ text.size + n = s1 ∧ s1 + 8 = s2) := ⟨hnz, hzl, hs1, hs2⟩
        have hn64 : n ≤ 64 := by omega
        by_cases hne : z < zN
        · have hm : ((s2 : Int) % 64 == 0) = false := by rw [beq_eq_false_iff_ne]; omega
          have HLT : Hid (z < zN) := hne
          have HG : Hid (w.heap.size ≤ g') := (owns_range hO).2
          clear hZ hnz hzl hs1 hs2 ht63 ht0 hne
          have hbs : w.heap.size ≤ wr.heap.size := hb.size
          have HO : Hid (∀ o, (wr.alloc o).ownsRow w.heap.size 5 1 (.slice (some ⟨g', 0, none⟩) n cap') n (cB (128 :: List.replicate z 0))) := fun o => by
            obtain ⟨h1, h2⟩ := hO
            refine ⟨h1, ?_⟩
            rcases h2 with ⟨h2, _⟩ | ⟨g, cp, cur, hv, hg, hh, r⟩
            · cases h2
            · exact Or.inr ⟨g, cp, cur, hv, hg, by rw [Below.heap_alloc _ _ _ (row_lt hh)]; exact hh, r⟩
          have Hb : Hid (∀ o, Below w.heap.size w (wr.alloc o)) := fun o => hb.alloc hb.size o
          have hby : Hid ((n + 1) * 1 ≤ 140737488355328) := by show _ ≤ _; omega
          have hmx2 : Hid (n + 1 ≤ maxLen) := by show _ ≤ _; unfold maxLen; omega
          clear hO hb
          go_upto_region 8 with (fail)
          go_wp2_with (at_builtin; (refine wpList_append_own _ rfl _ _ 51 rfl w.heap.size 5 i0 (.int .u8 0) 1 1 Tryd.underlying51 hi hz0 hzz1 hzz2 rfl (by decide) _ _ _ rfl (HO.out _) ⟨wr.heap.size, 0, none⟩ 1 1 [.int .u8 0] rfl rfl (cell_one_new _ _ _) (fun x hx => by simp at hx; subst hx; rfl) hmx2.out hby.out (by simp; omega) ?_); intro v' w2 hown' hg' hne')
          obtain ⟨g2, cap2, hv2, hgb⟩ := owns_form hown' (Nat.succ_pos _)
          rw [hv2] at hown' ⊢
          have HR : Hid (w2.ownsRow w.heap.size 5 1 (.slice (some ⟨g2, 0, none⟩) (n + 1) cap2) (n + 1) (cB (128 :: List.replicate (z + 1) 0))) := by
            have e : cB (128 :: List.replicate z 0) ++ [Value.int IntKind.u8 0] = cB (128 :: List.replicate (z + 1) 0) := by
              rw [List.replicate_succ']; simp [cB]
            rw [← e]; exact hown'
          have HB2 : Hid (Below w.heap.size w w2) := (Hb.out _).grown hg' (by simp; omega) (fun j hj => by cases hj; exact HG.out)
          clear hown' hg' hne' hv2
          go_roundg (zN - (z + 1))
          case rel =>
            go_light
            have := HN.out
            have := HZ.out
            exact ⟨z + 1, n + 1, g2, cap2, by omega, by have := HLT.out; omega, rfl, rfl, HR.out, HB2.out⟩
          case measure => go_light; have := HLT.out; omega
        · have hzz : z = zN := by omega
          subst hzz
          have hm : ((s2 : Int) % 64 == 0) = true := by rw [beq_iff_eq]; omega
          obtain ⟨hrg, hgb⟩ := owns_range hO
          have hglt : g' < wr.heap.size := range_lt hrg (by simp [cB])
          have HGB : Hid (w.heap.size ≤ g') := hgb
          have HBL : Hid (Below w.heap.size w wr) := hb
          have hsz1 : (strB (128 :: List.replicate z 0)).size = n := by rw [← tB_len, tB_strB (end_bytes z)]; simp; omega
          have hcv := fun w' h => conv_cap w' g' (128 :: List.replicate z 0) n cap' (by simp; omega) h
          have hns : ¬ (9223372036854775807 < text.size + n) := by omega
          have HKP : Hid (∀ w', Below wr.drew.heap.size wr.drew w' → w'.rangeAt g' 0 (cB (128 :: List.replicate z 0))) := fun w' h => range_below h hglt (by rw [World.rangeAt_drew]; exact hrg)
          have hL8 : IntKind.u64.wrap (8 * IntKind.u64.wrap (text.size : Int)) = 8 * (text.size : Int) := by
            simp [IntKind.wrap, IntKind.bits, IntKind.signed]; omega
          have hbig := fun w' => big8 (8 * (text.size : Int)) (by omega) (by omega) w'
          have hsz3 : (strB (tl (8 * (text.size : Int)) 8)).size = 8 := by rw [← tB_len, tB_strB (tl_bytes _ _), tl_len]
          have hns2 : ¬ (9223372036854775807 < text.size + n + 8) := by omega
          clear hO hb hgb hZ hnz hzl hs1 hs2 ht63 ht0 hne
          go_upto_region 9 with (fail)
          go_region_held3 (fun w' => w'.rangeAt g' 0 (cB (128 :: List.replicate z 0))) (first | assumption | (rw [World.rangeAt_drew]; assumption) | (exact HKP.out _ (by assumption))) (first | (go_at_call 93; refine (hbig _).mono ?_; rintro e w2 ⟨rfl, hbw⟩))
          have HBA : Hid (Below w.heap.size w w2) := HBL.out.trans (below_of_drew hbw HBL.out.size)
          generalize hall : (text ++ strB (128 :: List.replicate z 0)) ++ strB (tl (8 * (text.size : Int)) 8) = all at *
          have HALL : Hid (tB all = msg (flat ss) z) := by
            show _ = _
            have e := HTT.out
            rw [← hall, tB_append, tB_append, tB_strB (end_bytes z), tB_strB (tl_bytes _ _), msg, e, HTS.out]
          clear hall hbw hbig hcv HKP hL8 hns hns2 hsz1 hsz3
          have v0 : w2.cell? ⟨1, 0, none⟩ = some (.int .u32 1779033703) := by rw [HBA.out.cell (p := ⟨1, 0, none⟩) h0w.out]; exact cell_cW0 hiv (i := 0) (by decide)
          have v1 : w2.cell? ⟨1, 1, none⟩ = some (.int .u32 3144134277) := by rw [HBA.out.cell (p := ⟨1, 1, none⟩) h0w.out]; exact cell_cW0 hiv (i := 1) (by decide)
          have v2 : w2.cell? ⟨1, 2, none⟩ = some (.int .u32 1013904242) := by rw [HBA.out.cell (p := ⟨1, 2, none⟩) h0w.out]; exact cell_cW0 hiv (i := 2) (by decide)
          have v3 : w2.cell? ⟨1, 3, none⟩ = some (.int .u32 2773480762) := by rw [HBA.out.cell (p := ⟨1, 3, none⟩) h0w.out]; exact cell_cW0 hiv (i := 3) (by decide)
          have v4 : w2.cell? ⟨1, 4, none⟩ = some (.int .u32 1359893119) := by rw [HBA.out.cell (p := ⟨1, 4, none⟩) h0w.out]; exact cell_cW0 hiv (i := 4) (by decide)
          have v5 : w2.cell? ⟨1, 5, none⟩ = some (.int .u32 2600822924) := by rw [HBA.out.cell (p := ⟨1, 5, none⟩) h0w.out]; exact cell_cW0 hiv (i := 5) (by decide)
          have v6 : w2.cell? ⟨1, 6, none⟩ = some (.int .u32 528734635) := by rw [HBA.out.cell (p := ⟨1, 6, none⟩) h0w.out]; exact cell_cW0 hiv (i := 6) (by decide)
          have v7 : w2.cell? ⟨1, 7, none⟩ = some (.int .u32 1541459225) := by rw [HBA.out.cell (p := ⟨1, 7, none⟩) h0w.out]; exact cell_cW0 hiv (i := 7) (by decide)
          have HS0 : Hid ((w2.alloc (.cells #[.int .u32 1779033703, .int .u32 3144134277, .int .u32 1013904242, .int .u32 2773480762, .int .u32 1359893119, .int .u32 2600822924, .int .u32 528734635, .int .u32 1541459225] 119)).rangeAt w2.heap.size 0 (cW (stN rs IV (tB all) 0)) ∧ (w2.alloc (.cells #[.int .u32 1779033703, .int .u32 3144134277, .int .u32 1013904242, .int .u32 2773480762, .int .u32 1359893119, .int .u32 2600822924, .int .u32 528734635, .int .u32 1541459225] 119)).there w2.heap.size 0 8 ∧ Below w.heap.size w (w2.alloc (.cells #[.int .u32 1779033703, .int .u32 3144134277, .int .u32 1013904242, .int .u32 2773480762, .int .u32 1359893119, .int .u32 2600822924, .int .u32 528734635, .int .u32 1541459225] 119))) :=
            ⟨range_new w2 (cW IV) 119, there_new w2 #[.int .u32 1779033703, .int .u32 3144134277, .int .u32 1013904242, .int .u32 2773480762, .int .u32 1359893119, .int .u32 2600822924, .int .u32 528734635, .int .u32 1541459225] 119 8 (by simp), HBA.out.alloc HBA.out.size _⟩
          have HSG : Hid (w.heap.size ≤ w2.heap.size) := HBA.out.size
          go_upto_region 11 with (fail)
          clear v0 v1 v2 v3 v4 v5 v6 v7
          generalize w2.alloc (.cells #[.int .u32 1779033703, .int .u32 3144134277, .int .u32 1013904242, .int .u32 2773480762, .int .u32 1359893119, .int .u32 2600822924, .int .u32 528734635, .int .u32 1541459225] 119) = w3 at *
          generalize w2.heap.size = Sg at *
          obtain ⟨nb, hnb⟩ : ∃ nb, all.size = 64 * nb := by
            have e := congrArg List.length HALL.out
            rw [tB_len] at e
            have hml : (msg (flat ss) z).length = (flat ss).length + (z + 1) + 8 := by simp [msg, tl_len]; omega
            have := HZ.out.2
            have := HTS.out
            exact ⟨all.size / 64, by omega⟩
          have hasz : all.size < 2305843009213693952 := by
            have e := congrArg List.length HALL.out
            rw [tB_len] at e
            have hml : (msg (flat ss) z).length = (flat ss).length + (z + 1) + 8 := by simp [msg, tl_len]; omega
            have := HZ.out.1
            omega
          have HNB : Hid (all.size = 64 * nb ∧ all.size < 2305843009213693952) := ⟨hnb, hasz⟩
          have HX : Hid (w.heap.size ≤ g' ∧ g' < wr.heap.size) := ⟨HGB.out, hglt⟩
          clear hnb hasz hglt hrg HBL HBA HGB e1 e2 b2 hn64 hm HN
          go_wp2
          go_loopg [8] nb (fun g i wi => ∃ (j p : Nat), p = 64 * j ∧ j ≤ nb ∧ g = nb - j ∧ i = .int .i64 (p : Int) ∧ wi.rangeAt Sg 0 (cW (stN rs IV (tB all) j)) ∧ wi.there Sg 0 8 ∧ Below w.heap.size w wi)
          case atStart =>
            go_light
            exact ⟨0, 0, rfl, Nat.zero_le _, rfl, rfl, HS0.out.1, HS0.out.2.1, HS0.out.2.2⟩
          case round =>
            clear HS0 HX
            obtain ⟨j, p, hp, hj, rfl, rfl, hst, htt, hb⟩ := hrel
            have hN := HNB.out
            by_cases hjl : j < nb
            · obtain ⟨q, hq⟩ : ∃ q : Nat, p + 64 = q := ⟨_, rfl⟩
              have eq1 : IntKind.i64.wrap ((p : Int) + 64) = (q : Int) := by rw [wrap_id _ (by omega) (by omega)]; omega
              have b0 : (0 : Int) ≤ (p : Int) := Int.natCast_nonneg _
              have b1 : (p : Int) ≤ (q : Int) := by omega
              have b2 : (q : Int) ≤ (all.size : Int) := by omega
              have b3 : (p : Int) < (all.size : Int) := by omega
              have hex : (all.extract p q).size = 64 := by rw [ByteArray.size_extract]; omega
              have hrr : wr.rangeAt 2 0 (cW rs) := range_below hb h2w hr
              have hrd : wr.drew.rangeAt 2 0 (cW rs) := by rw [World.rangeAt_drew]; exact hrr
              have hsl8 : (stN rs IV (tB all) j).length = 8 := stN_len rfl j
              have HST : Hid (foldI rs (stN rs IV (tB all) j) (tB (all.extract p q)) = stN rs IV (tB all) (j + 1)) := by
                show _ = _
                rw [stN, tB_slice, hp]
                congr 2
                omega
              obtain ⟨st, hste⟩ : ∃ st, st = stN rs IV (tB all) j := ⟨_, rfl⟩
              rw [← hste] at hst hsl8 HST
              clear hste
              obtain ⟨s0, s1, s2, s3, s4, s5, s6, s7, rfl⟩ := list8 hsl8
              have c0 : wr.cell? ⟨Sg, 0, none⟩ = some (.int .u32 s0) := cell_cW0 hst (i := 0) (by simp)
              have c1 : wr.cell? ⟨Sg, 1, none⟩ = some (.int .u32 s1) := cell_cW0 hst (i := 1) (by simp)
              have c2 : wr.cell? ⟨Sg, 2, none⟩ = some (.int .u32 s2) := cell_cW0 hst (i := 2) (by simp)
              have c3 : wr.cell? ⟨Sg, 3, none⟩ = some (.int .u32 s3) := cell_cW0 hst (i := 3) (by simp)
              have c4 : wr.cell? ⟨Sg, 4, none⟩ = some (.int .u32 s4) := cell_cW0 hst (i := 4) (by simp)
              have c5 : wr.cell? ⟨Sg, 5, none⟩ = some (.int .u32 s5) := cell_cW0 hst (i := 5) (by simp)
              have c6 : wr.cell? ⟨Sg, 6, none⟩ = some (.int .u32 s6) := cell_cW0 hst (i := 6) (by simp)
              have c7 : wr.cell? ⟨Sg, 7, none⟩ = some (.int .u32 s7) := cell_cW0 hst (i := 7) (by simp)
              have hmix := fun w' h => mixed_any [s0, s1, s2, s3, s4, s5, s6, s7] rfl (all.extract p q) hex w' rs hrl h
              rw [HST.out] at hmix
              have hFl : (stN rs IV (tB all) (j + 1)).length = 8 := stN_len rfl _
              generalize hFE : stN rs IV (tB all) (j + 1) = F at *
              have HFE : Hid (stN rs IV (tB all) (j + 1) = F) := hFE
              clear hFE
              have hst34 : ∀ w' : World, w'.there Sg 0 8 → (storeCells ⟨Sg, 0, none⟩ (cW F)).run Tryd.prog w' = .ok () (w'.setCells Sg 0 (cW F)) := fun w' h => by
                have hl8 : (cW F).length = 8 := by rw [cW_len, hFl]
                have := run_storeCells_cells (P := Tryd.prog) Sg 0 (cW F) 0 w' (by rw [hl8]; intro j hj; simpa using (h j hj).1) (by rw [hl8]; intro j hj; simpa using (h j hj).2) (cW_one F)
                simpa using this
              have hcl : (cW F).length = 8 := by rw [cW_len, hFl]
              have HK : Hid (∀ w', Below wr.drew.heap.size wr.drew w' → w'.there Sg 0 8 ∧ Below w.heap.size w w') := fun w' h => ⟨there_below h (there_lt htt (by decide)) (by rw [World.there_drew]; exact htt), hb.trans (below_of_drew h hb.size)⟩
              have HP : Hid (p = 64 * j ∧ p + 64 = q) := ⟨hp, hq⟩
              clear hp hq hst htt hb HST hN hsl8
              go_upto_region 14 with (fail)
              go_region_with (go_at_call 94; refine (hmix _ hrd).mono ?_; rintro e w4 ⟨rfl, hbw⟩; have hth4 := (HK.out _ hbw).1)
              have HW4 : Hid (Below w.heap.size w w4) := (HK.out _ hbw).2
              clear HK hbw
              go_wp2
              go_roundg (nb - (j + 1))
              case rel =>
                go_light
                have := HP.out
                have := HSG.out
                refine ⟨j + 1, q, by omega, by omega, rfl, ?_, ?_, World.there_setCells hth4 _ _ _, below_setCells HW4.out HSG.out _ _⟩
                · have : (p : Int) + 64 = (q : Int) := by omega
                  first | rw [this] | rfl
                · rw [HFE.out]; exact World.rangeAt_setCells_same _ _ _ _ (by rw [hcl]; exact hth4)
              case measure => go_light; omega
            · have hjn : j = nb := by omega
              subst hjn
              have hpa : ¬ ((p : Int) < (all.size : Int)) := by omega
              have hHl : (stN rs IV (tB all) j).length = 8 := stN_len rfl j
              have hW32 : ∀ i, 0 ≤ (stN rs IV (tB all) j).getD i 0 ∧ (stN rs IV (tB all) j).getD i 0 < 4294967296 := fun i => stN_w32 rs _ j i
              have HSUM : Hid (strB (outB (stN rs IV (tB all) j) 8) = shaS rs (flat ss)) := by
                show _ = _
                have e := HALL.out
                have hml : (msg (flat ss) z).length = all.size := by rw [← e, tB_len]
                have hz := HZ.out
                rw [HTS.out] at hz
                have := msg_sum rs (flat ss) z hlen hz.2 hz.1
                rw [hml, show all.size / 64 = j by omega] at this
                rw [e, this, shaS, shaT]
              have HP : Hid (Sg < wr.heap.size) := there_lt htt (by decide)
              clear hp hj hN htt HNB HALL hjl
              generalize stN rs IV (tB all) j = H at *
              go_wp2
              go_loopg [9, 10] 8 (fun g x i wi => ∃ (m : Nat) (out : ByteArray), m ≤ 8 ∧ g = 8 - m ∧ x = .string out ∧ i = .int .i64 m ∧ Hid (tB out = outR H m) ∧ wi.rangeAt Sg 0 (cW H) ∧ Below w.heap.size w wi)
              case atStart =>
                go_light
                exact ⟨0, _, Nat.zero_le _, rfl, rfl, rfl, rfl, hst, hb⟩
              case round =>
                clear hst hb HP
                obtain ⟨m, out, hm, rfl, rfl, rfl, HO, hst, hb⟩ := hrel
                have hos : out.size = 4 * m := by rw [← tB_len, HO.out, outR_len]
                by_cases hml : m < 8
                · have m0 : (0 : Int) ≤ (m : Int) := Int.natCast_nonneg _
                  have m8 : (m : Int) < 8 := by omega
                  have cm := cell_cW0 hst (i := m) (by omega)
                  have hx := hW32 m
                  have hwx : IntKind.u64.wrap (H.getD m 0) = H.getD m 0 := wrap_u64_id hx.1 hx.2
                  have hbig := fun w' => big4 (H.getD m 0) hx.1 (by omega) w'
                  have hsz3 : (strB (tl (H.getD m 0) 4)).size = 4 := by rw [← tB_len, tB_strB (tl_bytes _ _), tl_len]
                  have hns : ¬ (9223372036854775807 < out.size + 4) := by omega
                  have HF : Hid (tB (out ++ strB (tl (H.getD m 0) 4)) = outR H (m + 1)) := by
                    show _ = _
                    rw [tB_append, HO.out, tB_strB (tl_bytes _ _), outR]
                  have hlt' : Sg < wr.heap.size := range_lt hst (by intro h; have := congrArg List.length h; rw [cW_len, hHl] at this; cases this)
                  have HK : Hid (∀ w', Below wr.heap.size wr w' → w'.rangeAt Sg 0 (cW H) ∧ Below w.heap.size w w') := fun w' h => ⟨range_below h hlt' hst, hb.trans (h.mono hb.size)⟩
                  clear hst hb hW32 hos hlt'
                  generalize H.getD m 0 = x at *
                  go_wp2_with (go_at_call 93; refine (hbig _).mono ?_; rintro e w5 ⟨rfl, hbw⟩)
                  go_roundg (8 - (m + 1))
                  case rel =>
                    go_light
                    exact ⟨m + 1, _, by omega, rfl, rfl, by go_num, HF.out, (HK.out _ hbw).1, (HK.out _ hbw).2⟩
                  case measure => go_light; omega
                · obtain rfl : m = 8 := by omega
                  have HOUT : Hid (out = shaS rs (flat ss)) := by
                    show _ = _
                    rw [← HSUM.out, ← outR_eq, ← HO.out, strB_tB]
                  have Hb : Hid (Below w.heap.size w wr) := hb
                  clear hst hb hos
                  go_wp2
                  go_ret
                  exact ⟨by rw [← HOUT.out]; rfl, Hb.out⟩
end Go.Proofs.YtdkcliblbaldhaaDoor
