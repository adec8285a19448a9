/-
  Walks of package forest: New, Size, Strength, Digest. Own work.
-/
import Derived.Test.YtdkcliblbaldhaaDoorFSpec
import Derived.Test.YtdkcliblbaldhaaDoorHList
import Derived.Test.YtdkcliblbaldhaaDoorL0
import Derived.Test.YtdkcliblbaldhaaDoorC0
import Derived.BigQuiet
import Derived.WalkMore
namespace Go.Proofs.YtdkcliblbaldhaaDoor
open Go.RowKit
attribute [local go_sem ↓] Go.wp_at_zero Go.wp_at_succ
/-- A forest of the items L: its map at m, itself behind it. -/
structure Frs (w : World) (m : Nat) (k : Int) (L : List ByteArray) : Prop where
  blk : w.heap[m + 1]? = some (.cells #[.int .i64 k, .int .u64 (L.length : Int), .map (some m)] 78 (0, 0))
  mp : Mp w m (ff (clk k) L)
  k1 : 1 ≤ k
  k2 : k ≤ 32
  hn : L.length ≤ 65536
section
variable {w W : World} {m : Nat} {k : Int} {L : List ByteArray}
theorem Frs.lt (h : Frs w m k L) : m + 1 < w.heap.size := (Array.getElem?_eq_some_iff.1 h.blk).1
theorem Frs.c0 (h : Frs w m k L) : w.cell? ⟨m + 1, 0, none⟩ = some (.int .i64 k) := by rw [cell_of_row w (m + 1) 0 _ _ (0, 0) h.blk]; rfl
theorem Frs.c1 (h : Frs w m k L) : w.cell? ⟨m + 1, 1, none⟩ = some (.int .u64 (L.length : Int)) := by rw [cell_of_row w (m + 1) 1 _ _ (0, 0) h.blk]; rfl
theorem Frs.c2 (h : Frs w m k L) : w.cell? ⟨m + 1, 2, none⟩ = some (.map (some m)) := by rw [cell_of_row w (m + 1) 2 _ _ (0, 0) h.blk]; rfl
theorem Frs.fz (h : Frs w m k L) (j : Nat) : w.frozen? ⟨m + 1, j, none⟩ = false := frozen_of_row w (m + 1) j _ _ h.blk
theorem Frs.same (h : Frs w m k L) (h0 : W.heap[m]? = w.heap[m]?) (h1 : W.heap[m + 1]? = w.heap[m + 1]?) : Frs W m k L := ⟨h1.trans h.blk, h.mp.same h0, h.k1, h.k2, h.hn⟩
theorem Frs.next {B : Nat} (h : Frs w m k L) (hb : Below B w W) (hB : w.heap.size ≤ B) : Frs W m k L :=
  h.same (hb.block m (by have := h.lt; omega)) (hb.block (m + 1) (by have := h.lt; omega))
end
theorem ff_nil (c : Nat) : (fun _ _ => none) = ff c [] := by
  funext h k
  rw [ff, if_neg]
  rintro ⟨_, e⟩
  have := Nat.two_pow_pos h.toNat
  have : 0 < (k + 1) * 2 ^ h.toNat := Nat.mul_pos (by omega) this
  simp at e
  omega
theorem fnew_ok (w : World) (k : Int) (h1 : 1 ≤ k) (h2 : k ≤ 32) :
    Calls Tryd.prog 30 #[.int .i64 k] w fun e w' => e = .returned (.tuple #[.pointer (some ⟨w.heap.size + 1, 0, none⟩), .int .i64 0]) ∧ Frs w' w.heap.size k [] ∧ Below w.heap.size w w' := by
  have HC : Hid (∀ W, Calls Tryd.prog 60 #[.int .i64 k] W fun e w' => e = .returned (.int .i64 0) ∧ W = w') := fun W => by
    have := (check_any W k)
    rw [show chk k = 0 by rw [chk, if_neg (by omega)]] at this
    exact this.mono fun _ _ h => ⟨h.1, h.2.symm⟩
  have hmm := @run_makeMap Tryd.prog
  have HK := hide (And.intro h1 h2)
  clear h1 h2
  go_enter Tryd.func30, Tryd.ntmps30
  go_wp2_with (go_at_call 60; with_reducible refine (HC.out _).mono ?_; rintro e w1 ⟨rfl, rfl⟩)
  go_ret2
  refine ⟨rfl, ⟨?_, ?_, HK.out.1, HK.out.2, by simp⟩, bal (bal (Below.refl _ _) _) _⟩
  · have := heap_alloc_new (w.alloc (.map #[] 0)) (.cells #[.int .i64 k, .int .u64 0, .map (some w.heap.size)] 78)
    simpa using this
  · rw [← ff_nil]
    refine (mp_new w).same ?_
    exact (MapKept.heap_alloc (w.alloc (.map #[] 0)) _).2 w.heap.size (by simp)
theorem fnew_no (w : World) (k : Int) (hk : k < 1 ∨ 32 < k) :
    Calls Tryd.prog 30 #[.int .i64 k] w fun e w' => e = .returned (.tuple #[.pointer none, .int .i64 70]) ∧ Below w.heap.size w w' := by
  have HC : Hid (∀ W, Calls Tryd.prog 60 #[.int .i64 k] W fun e w' => e = .returned (.int .i64 70) ∧ W = w') := fun W => by
    have := (check_any W k)
    rw [show chk k = 70 by rw [chk, if_pos hk]] at this
    exact this.mono fun _ _ h => ⟨h.1, h.2.symm⟩
  clear hk
  go_enter Tryd.func30, Tryd.ntmps30
  go_wp2_with (go_at_call 60; with_reducible refine (HC.out _).mono ?_; rintro e w1 ⟨rfl, rfl⟩)
  go_ret2
  exact ⟨rfl, Below.refl _ _⟩
theorem fsize_any (w : World) (m : Nat) (k : Int) (L : List ByteArray) (hF : Frs w m k L) :
    Calls Tryd.prog 32 #[.pointer (some ⟨m + 1, 0, none⟩)] w fun e w' => e = .returned (.int .u64 (L.length : Int)) ∧ w' = w := by
  have c1 := hF.c1
  clear hF
  go_enter Tryd.func32, Tryd.ntmps32
  go_wp2
  go_ret
  exact ⟨rfl, rfl⟩
theorem fstrength_any (w : World) (m : Nat) (k : Int) (L : List ByteArray) (hF : Frs w m k L) :
    Calls Tryd.prog 35 #[.pointer (some ⟨m + 1, 0, none⟩)] w fun e w' => e = .returned (.int .i64 k) ∧ w' = w := by
  have c0 := hF.c0
  clear hF
  go_enter Tryd.func35, Tryd.ntmps35
  go_wp2
  go_ret
  exact ⟨rfl, rfl⟩
theorem fdigest_any (w : World) (m : Nat) (k : Int) (L : List ByteArray) (hF : Frs w m k L) (h : Int) (b : Nat) (hf : Fitb h b) (s : ByteArray) (ok : Bool) (hs : Hid ((ff (clk k) L h b).getD ByteArray.empty = s ∧ (ff (clk k) L h b).isSome = ok)) :
    Calls Tryd.prog 62 #[.pointer (some ⟨m + 1, 0, none⟩), .agg #[.int .i64 h, .int .u64 (b : Int)]] w fun e w' => e = .returned (.tuple #[.string s, .bool ok]) ∧ Below w.heap.size w w' := by
  have HL : ∀ W : World, W.heap[m]? = w.heap[m]? → (Instr.lookup 76 (.map (some m)) (.agg #[.int .i64 h, .int .u64 (b : Int)]) true).run Tryd.prog W = .ok (.tuple #[.agg #[.string s], .bool ok]) W := fun W hW => by
    have := (hF.mp.same hW).look hf true
    rw [hs.out.1, hs.out.2] at this
    exact this
  have HF : Hid (∀ W, Below w.heap.size w W → W.cell? ⟨m + 1, 2, none⟩ = some (.map (some m)) ∧ (Instr.lookup 76 (.map (some m)) (.agg #[.int .i64 h, .int .u64 (b : Int)]) true).run Tryd.prog W = .ok (.tuple #[.agg #[.string s], .bool ok]) W) := fun W hb =>
    ⟨(hF.next hb (Nat.le_refl _)).c2, HL W (hb.block m (by have := hF.lt; omega))⟩
  clear hF hs hf HL
  go_enter Tryd.func62, Tryd.ntmps62
  go_upto_region 1 with (fail)
  obtain ⟨w1, hw1⟩ : ∃ w1, w.alloc (.cells #[.int .i64 h, .int .u64 (b : Int)] 82) = w1 := ⟨_, rfl⟩
  have k0 : w1.cell? ⟨w.heap.size, 0, none⟩ = some (.int .i64 h) := by rw [← hw1]; simp
  have k1 : w1.cell? ⟨w.heap.size, 1, none⟩ = some (.int .u64 (b : Int)) := by rw [← hw1]; simp
  have hb1 : Below w.heap.size w w1 := by rw [← hw1]; exact bal (Below.refl _ _) _
  have hz : w.heap.size < w1.heap.size := by rw [← hw1]; simp
  obtain ⟨a1, a2⟩ := HF.out w1.drew hb1.drew
  obtain ⟨a3, a4⟩ := HF.out (w1.drew.alloc (.cells #[.string ⟨#[]⟩] 100)) (bal hb1.drew _)
  obtain ⟨a5, a6⟩ := HF.out (w1.alloc (.cells #[.string ⟨#[]⟩] 100)).drew (bal hb1 _).drew
  rw [hw1]
  clear hw1
  go_region
  all_goals
    go_wp2
    go_ret2
    exact ⟨rfl, (bal hb1 _).drew⟩
end Go.Proofs.YtdkcliblbaldhaaDoor
