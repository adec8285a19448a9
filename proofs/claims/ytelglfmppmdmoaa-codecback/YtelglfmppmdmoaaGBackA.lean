/-
  CodecBack: what its walk needs. Own work.
-/
import Derived.Test.YtelglfmppmdmoaaGLent
import Derived.Test.YtelglfmppmdmoaaGForm
import Derived.Test.YtelglfmppmdmoaaRWalkG
import Derived.Deep.RegionLawGrows
namespace Go.Proofs.Ytelglfmppmdmoaa
open Go.RowKit
attribute [local go_sem ↓] Go.wp_at_zero Go.wp_at_succ
theorem Try.infoB8 : (Try.prog.info? 5).map (fun i => (i.zero, i.size, i.bytes)) = some (some (.int .u8 0), 1, 1) := by kernel_rfl
theorem make_bytes (K : Nat) (hK : K ≤ 32) (u : World) : (Instr.makeSlice 38 (.int .i64 (K : Int)) (.int .i64 (K : Int))).run Try.prog u = .ok (.slice (some ⟨u.heap.size, 0, none⟩) K K) (u.alloc (.cells (List.replicate K (Value.int .u8 0)).toArray 5)) := by
  obtain ⟨i0, hi, hz0, hz1, hz2⟩ := info_parts Try.infoB8
  have := run_make (P := Try.prog) u 38 5 i0 (.int .u8 0) Try.underlying38 hi hz0 .i64 .i64 (K : Int) (K : Int) (by omega) (Int.le_refl _) (by rw [hz2]; omega) (by omega)
  rw [this, hz1, Int.toNat_natCast]
  have e : madeCells (Value.cells (.int .u8 0)) (K * 1) = (List.replicate K (Value.int .u8 0)).toArray := by
    apply Array.ext
    · simp [size_madeCells]
    · intro i h1 h2
      simp [madeCells, Value.cells, Nat.mod_one]
  rw [e]
/-- Naughts as a text. -/
def zB (K : Nat) : ByteArray := ⟨(List.replicate K (0 : UInt8)).toArray⟩
theorem zB_size (K : Nat) : (zB K).size = K := by simp [zB, ByteArray.size]
theorem conv_zero (u : World) (K : Nat) : (convert 38 9 (.slice (some ⟨u.heap.size, 0, none⟩) K K)).run Try.prog (u.alloc (.cells (List.replicate K (Value.int .u8 0)).toArray 5)) = .ok (.string (zB K)) (u.alloc (.cells (List.replicate K (Value.int .u8 0)).toArray 5)) := by
  have := run_convert_bytes_back (P := Try.prog) (u.alloc (.cells (List.replicate K (Value.int .u8 0)).toArray 5)) 38 9 5 ⟨u.heap.size, 0, none⟩ K (List.replicate K (0 : UInt8)) Try.underlying38 Try.underlying5 Try.underlying9 fun j hj => by
    rw [Addr.add_mid]
    refine range_new u (List.replicate K (Value.int .u8 0)) 5 j _ ?_
    simp at hj
    simp [hj]
  simpa [zB] using this
/-- The place of a cut. -/
theorem cut_at (a : Int) (n : Nat) (hn : 0 < n) : ∃ (r : Int) (j : Nat), Int.tmod a (n : Int) = r ∧ -(n : Int) < r ∧ r < (n : Int) ∧ Int.tmod (r + (n : Int)) (n : Int) = (j : Int) ∧ j < n := by
  have h0 : (0 : Int) < (n : Int) := by omega
  have hb : -(n : Int) < Int.tmod a n ∧ Int.tmod a n < n := by
    by_cases ha : 0 ≤ a
    · rw [Int.tmod_eq_emod_of_nonneg ha]
      have h1 := Int.emod_nonneg a (show (n : Int) ≠ 0 by omega)
      have h2 := Int.emod_lt_of_pos a h0
      omega
    · have e : Int.tmod a n = -(Int.tmod (-a) n) := by rw [Int.neg_tmod, Int.neg_neg]
      rw [e, Int.tmod_eq_emod_of_nonneg (show 0 ≤ -a by omega)]
      have h1 := Int.emod_nonneg (-a) (show (n : Int) ≠ 0 by omega)
      have h2 := Int.emod_lt_of_pos (-a) h0
      omega
  have h3 : 0 ≤ Int.tmod a n + n := by omega
  have h4 := Int.emod_nonneg (Int.tmod a n + n) (show (n : Int) ≠ 0 by omega)
  have h5 := Int.emod_lt_of_pos (Int.tmod a n + n) h0
  refine ⟨Int.tmod a n, ((Int.tmod a n + n) % n).toNat, rfl, hb.1, hb.2, ?_, by omega⟩
  rw [Int.tmod_eq_emod_of_nonneg h3]; omega
/-- One digest more or less is not well formed. -/
theorem not_well {P : PV} (h : Well P) {D : List ByteArray} (hD : D.length ≠ P.D.length) : ¬ Well ⟨P.kd, P.k, P.old, P.size, P.S, D⟩ := fun g => by
  have := g.1
  simp only at this
  rw [h.1] at this
  exact hD (Option.some.inj this).symm
theorem rds_drop1 {w : World} {g : Nat} {D : List ByteArray} (h : RdS w (some ⟨g, 0, none⟩) g 0 D.length D) : RdS w (some ⟨g, 1, none⟩) g 1 (D.drop 1).length (D.drop 1) :=
  ⟨rfl, fun _ => rfl, fun j v hv => by
    have := h.rng (j + 1) v (by rw [List.getElem?_map] at hv ⊢; rw [List.getElem?_drop] at hv; rw [Nat.add_comm j 1]; exact hv)
    rw [Nat.zero_add] at this
    rw [Nat.add_comm 1 j]; exact this, fun s hs => h.sz s (List.mem_of_mem_drop hs)⟩
end Go.Proofs.Ytelglfmppmdmoaa
