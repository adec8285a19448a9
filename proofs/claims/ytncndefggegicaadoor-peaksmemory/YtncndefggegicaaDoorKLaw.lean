/-
  Walks of peaks' laws: same, strength, digest. Own work.
-/
import Derived.Test.YtncndefggegicaaDoorKWalkD
import Derived.Laws.MakeOwn
import Derived.Deep.Cut
import Derived.Deep.CutRange
namespace Go.Proofs.YtncndefggegicaaDoor
open Go.RowKit
open Pl (ones)
attribute [local go_sem ↓] Go.wp_at_zero Go.wp_at_succ
set_option maxRecDepth 100000 in
theorem same_any (w : World) (ao : Option Addr) (b off len cap : Nat) (ss : List ByteArray) (hr : RdS w ao b off len ss) (ao' : Option Addr) (b' off' cap' : Nat) (hr' : RdS w ao' b' off' len ss) (hmx : len ≤ 8796093022208) :
    Calls Tryd.prog 14 #[.slice ao len cap, .slice ao' len cap'] w fun e w' => e = .returned (.bool true) ∧ Below w.heap.size w w' := by
  obtain rfl := hr.hl
  have HR1 : Hid (∀ W, Below w.heap.size w W → RdS W ao b off ss.length ss) := fun W h => hr.next h (Nat.le_refl _)
  have HR2 : Hid (∀ W, Below w.heap.size w W → RdS W ao' b' off' ss.length ss) := fun W h => hr'.next h (Nat.le_refl _)
  have hb := Below.refl w.heap.size w
  clear hr hr'
  go_enter Tryd.func14, Tryd.ntmps14
  go_wp2
  go_loopg [5] ss.length (fun gk i wr => ∃ j : Nat, j ≤ ss.length ∧ gk = ss.length - j ∧ i = .int .i64 (j : Int) ∧ Below w.heap.size w wr)
  case atStart =>
    go_light
    exact ⟨0, Nat.zero_le _, rfl, rfl, hb⟩
  case round =>
    clear hb
    obtain ⟨j, hj, rfl, rfl, hb⟩ := hrel
    by_cases hlt : j < ss.length
    · have hz : (j : Int) < (ss.length : Int) := by omega
      have r1 := HR1.out wr hb
      have r2 := HR2.out wr hb
      obtain rfl := r1.ptr (by omega)
      obtain rfl := r2.ptr (by omega)
      have k1 := r1.at hlt
      have k2 := r2.at hlt
      generalize ss.getD j ByteArray.empty = p at *
      have HB := hide hb
      clear hb r1 r2 HR1 HR2
      go_upto_region 6 with (fail)
      go_region
      go_wp2
      go_roundg (ss.length - (j + 1))
      case rel =>
        go_light
        exact ⟨j + 1, by omega, rfl, by go_num, HB.out.drew⟩
      case measure => go_light; omega
    · obtain rfl : j = ss.length := by omega
      have hz : ¬ ((ss.length : Int) < (ss.length : Int)) := by omega
      clear HR1 HR2
      go_wp2
      go_ret
      exact ⟨rfl, hb⟩
/-- Two lists of one's own that are alike. -/
theorem same_own (w : World) (v u : Value) (B B' : Nat) (ss : List ByteArray) (hv : OwnS w B v ss) (hu : OwnS w B' u ss) (hs : ∀ s ∈ ss, s.size ≤ 140737488351232) (hmx : ss.length ≤ 8796093022208) :
    Calls Tryd.prog 14 #[v, u] w fun e w' => e = .returned (.bool true) ∧ Below w.heap.size w w' := by
  have hs' : ∀ s ∈ ss, s.size ≤ 9223372036854775807 := fun s h => Nat.le_trans (hs s h) (by decide)
  obtain ⟨ao, b, cap, rfl, hr, _, _⟩ := owns_rds hv hs'
  obtain ⟨ao', b', cap', rfl, hr', _, _⟩ := owns_rds hu hs'
  exact same_any w ao b 0 _ cap ss hr ao' b' 0 cap' hr' hmx
/-- A strength out of any number. -/
def stg (k : Int) : Int := 1 + IntKind.u64.wrap k % 32
theorem stg_in (k : Int) : 1 ≤ stg k ∧ stg k ≤ 32 := by
  unfold stg
  have h1 := Int.emod_nonneg (IntKind.u64.wrap k) (show (32 : Int) ≠ 0 by decide)
  have h2 := Int.emod_lt_of_pos (IntKind.u64.wrap k) (show (0 : Int) < 32 by decide)
  omega
theorem strength_any (w : World) (k K : Int) (hK : stg k = K) : Calls Tryd.prog 10 #[.int .i64 k] w fun e w' => e = .returned (.int .i64 K) ∧ w = w' := by
  have hK2 := hK
  unfold stg at hK2
  obtain ⟨m, hm⟩ : ∃ m, IntKind.u64.wrap k % 32 = m := ⟨_, rfl⟩
  have h0 : 0 ≤ m := by rw [← hm]; exact Int.emod_nonneg _ (by decide)
  have h1 : m < 32 := by rw [← hm]; exact Int.emod_lt_of_pos _ (by decide)
  have hn : 0 ≤ IntKind.u64.wrap k := by rw [IntKind.wrap_u64]; omega
  have e1 : Int.tmod (IntKind.u64.wrap k) 32 = m := by rw [Int.tmod_eq_emod_of_nonneg hn]; exact hm
  have e2 : IntKind.u64.wrap m = m := u64_id _ h0 (by omega)
  have e3 : IntKind.i64.wrap m = m := by rw [IntKind.wrap_i64]; omega
  have e4 : IntKind.i64.wrap (1 + m) = K := by rw [IntKind.wrap_i64]; omega
  clear hK hK2
  go_enter Tryd.func10, Tryd.ntmps10
  go_wp2
  go_ret
  exact ⟨rfl, rfl⟩
theorem idx_k (b : ByteArray) (m : Nat) (x : Int) (hm : m < b.size) (hx : (tB b).getD m 0 = x) (w : World) : (Instr.index 9 (.string b) (.int .i64 (m : Int))).run Tryd.prog w = .ok (.int .u8 x) w := by
  subst hx
  have e : (tB b).getD m 0 = (b[m].toNat : Int) := by
    have : b.data.toList[m]? = some b[m] := by
      rw [Array.getElem?_toList, Array.getElem?_eq_getElem (by simpa using hm)]; rfl
    simp [tB, List.getD_eq_getElem?_getD, this]
  have h2 : b[m]? = some b[m] := getElem?_pos b m hm
  rw [e]
  simp [Instr.index, asIntOf, run_underlying Tryd.underlying9, h2]
/-- A text laid into K bytes: behind j of them. -/
def padL (s : ByteArray) (K : Nat) : Nat → List Int
  | 0 => List.replicate K 0
  | j + 1 => (padL s K j).set j ((tB s).getD j 0)
theorem padL_len (s : ByteArray) (K : Nat) : ∀ j, (padL s K j).length = K
  | 0 => by simp [padL]
  | j + 1 => by rw [padL, List.length_set, padL_len s K j]
def padS (s : ByteArray) (K : Nat) : ByteArray := strB (padL s K (min K s.size))
theorem padS_size (s : ByteArray) (K : Nat) : (padS s K).size = K := by rw [padS, strB_size, padL_len]
theorem made_bytes (K : Nat) : madeCells (Value.cells (.int .u8 0)) (K * 1) = (cB (List.replicate K 0)).toArray := by
  apply Array.ext
  · simp [size_madeCells, cB]
  · intro i h1 h2
    simp [madeCells, cB, Value.cells, Nat.mod_one]
theorem make_bytes (K : Nat) (hK : K ≤ 32) (u : World) : (Instr.makeSlice 27 (.int .i64 (K : Int)) (.int .i64 (K : Int))).run Tryd.prog u = .ok (.slice (some ⟨u.heap.size, 0, none⟩) K K) (u.alloc (.cells (cB (List.replicate K 0)).toArray 5)) := by
  obtain ⟨i0, hi, hz0, hz1, hz2⟩ := info_parts Tryd.infoI
  have := run_make (P := Tryd.prog) u 27 5 i0 (.int .u8 0) Tryd.underlying27 hi hz0 .i64 .i64 (K : Int) (K : Int) (by omega) (Int.le_refl _) (by rw [hz2]; omega) (by omega)
  rw [this, hz1, Int.toNat_natCast, made_bytes]
set_option maxRecDepth 100000 in
theorem digest_any (w : World) (s : ByteArray) (hs : s.size ≤ 140737488351232) (K : Nat) (hK : K ≤ 32) (r : ByteArray) (hr : padS s K = r) :
    Calls Tryd.prog 11 #[.string s, .int .i64 (K : Int)] w fun e w' => e = .returned (.string r) ∧ Below w.heap.size w w' := by
  have hmk := fun u => make_bytes K hK u
  have HB0 : Hid (Below w.heap.size w (w.alloc (.cells (cB (List.replicate K 0)).toArray 5)) ∧ (w.alloc (.cells (cB (List.replicate K 0)).toArray 5)).rangeAt w.heap.size 0 (cB (padL s K 0)) ∧ (w.alloc (.cells (cB (List.replicate K 0)).toArray 5)).there w.heap.size 0 K) :=
    ⟨bal (Below.refl _ _) _, range_new w _ _, there_new w _ _ K (by simp [cB])⟩
  have HQ : Hid (strB (padL s K (min K s.size)) = r ∧ s.size ≤ 140737488351232 ∧ K ≤ 32) := ⟨hr, hs, hK⟩
  clear hr hs hK
  go_enter Tryd.func11, Tryd.ntmps11
  go_wp2
  go_loopg [6] K (fun gk i wr => ∃ j : Nat, j ≤ K ∧ j ≤ s.size ∧ gk = K - j ∧ i = .int .i64 (j : Int) ∧ Hid (Below w.heap.size w wr ∧ wr.rangeAt w.heap.size 0 (cB (padL s K j)) ∧ wr.there w.heap.size 0 K))
  case atStart =>
    go_light
    exact ⟨0, Nat.zero_le _, Nat.zero_le _, rfl, rfl, HB0⟩
  case round =>
    obtain ⟨j, hj, hj2, rfl, rfl, HB⟩ := hrel
    have done : j = min K s.size → Hid ((convert 27 9 (.slice (some ⟨w.heap.size, 0, none⟩) K K)).run Tryd.prog wr = .ok (.string r) wr) := fun h => by
      have := conv_str wr w.heap.size (padL s K j) K (padL_len _ _ _) HB.out.2.1
      rw [h, HQ.out.1] at this
      exact this
    by_cases hlt : j < K
    · have hz : (j : Int) < (K : Int) := by omega
      by_cases hlt2 : j < s.size
      · have hz2 : (j : Int) < (s.size : Int) := by omega
        have hz9 : (j : Int) < 32 := by have := HQ.out.2.2; omega
        obtain ⟨x, hx⟩ : ∃ x, (tB s).getD j 0 = x := ⟨_, rfl⟩
        have ik := fun W => idx_k s j x hlt2 hx W
        obtain ⟨y, hy⟩ : ∃ y, wr.cell? ⟨w.heap.size, j, none⟩ = some y := by
          have := (HB.out.2.2 j hlt).1
          rw [Nat.zero_add] at this
          exact Option.isSome_iff_exists.1 this
        have fy : wr.frozen? ⟨w.heap.size, j, none⟩ = false := by have := (HB.out.2.2 j hlt).2; rwa [Nat.zero_add] at this
        have HB2 : Hid (Below w.heap.size w (wr.setCell ⟨w.heap.size, j, none⟩ (.int .u8 x)) ∧ (wr.setCell ⟨w.heap.size, j, none⟩ (.int .u8 x)).rangeAt w.heap.size 0 (cB (padL s K (j + 1))) ∧ (wr.setCell ⟨w.heap.size, j, none⟩ (.int .u8 x)).there w.heap.size 0 K) := by
          refine ⟨HB.out.1.setCell (p := ⟨w.heap.size, j, none⟩) (Nat.le_refl _) _, ?_, there_set HB.out.2.2 _ _⟩
          have := range_set HB.out.2.1 j (.int .u8 x)
          rw [Nat.zero_add] at this
          rw [padL, hx]
          simpa [cB, List.map_set] using this
        clear done HB HB0 hx
        go_wp2
        go_roundg (K - (j + 1))
        case rel =>
          go_light
          exact ⟨j + 1, by omega, by omega, rfl, by go_num, HB2⟩
        case measure => go_light; omega
      · have hz2 : ¬ ((j : Int) < (s.size : Int)) := by omega
        have kc := (done (by omega)).out
        clear done HB0
        go_wp2
        go_ret
        exact ⟨rfl, HB.out.1⟩
    · have hz : ¬ ((j : Int) < (K : Int)) := by omega
      have kc := (done (by omega)).out
      clear done HB0
      go_wp2
      go_ret
      exact ⟨rfl, HB.out.1⟩
end Go.Proofs.YtncndefggegicaaDoor
