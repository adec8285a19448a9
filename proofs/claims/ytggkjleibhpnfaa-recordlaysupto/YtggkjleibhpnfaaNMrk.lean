/-
  Walks: Mark. Own work.
-/
import Derived.Test.YtggkjleibhpnfaaNLay
namespace Go.Proofs.Ytggkjleibhpnfaa
open Go.RowKit
attribute [local go_sem ↓] Go.wp_at_zero Go.wp_at_succ
/-- A marker as a value, in cells. -/
def mC (m : MV) : Array Value := #[.int .i64 m.k, .int .u64 (m.size : Int), .int .u64 (m.items : Int), .int .u64 (m.nodes : Int), .int .u32 (m.chain.toNat : Int)]
def pC (g : Nat) : Array Value := #[.slice (some ⟨g, 0, none⟩) 4 4, .slice (some ⟨g, 4, none⟩) 1 1, .slice (some ⟨g, 8, none⟩) 8 8, .slice (some ⟨g, 16, none⟩) 8 8, .slice (some ⟨g, 24, none⟩) 8 8, .slice (some ⟨g, 32, none⟩) 4 4]
/-- Where Mark stands: the marker at bm, the row at g, its parts at bp; all made since w. -/
structure Mk (w W : World) (m : MV) (bm g bp : Nat) (l : List UInt8) : Prop where
  hm : W.heap[bm]? = some (.cells (mC m) 34 (0, 0))
  hp : W.heap[bp]? = some (.cells (pC g) 56 (0, 0))
  row : Byt W g l
  len : l.length = 64
  nm : bm ≠ g
  np : bp ≠ g
  lg : w.heap.size ≤ g
  bel : Below w.heap.size w W
theorem Mk.cells {w W : World} {m : MV} {bm g bp : Nat} {l : List UInt8} (h : Mk w W m bm g bp l) :
    W.cell? ⟨bm, 0, none⟩ = some (.int .i64 m.k) ∧ W.cell? ⟨bm, 1, none⟩ = some (.int .u64 (m.size : Int)) ∧ W.cell? ⟨bm, 2, none⟩ = some (.int .u64 (m.items : Int)) ∧ W.cell? ⟨bm, 3, none⟩ = some (.int .u64 (m.nodes : Int)) ∧ W.cell? ⟨bm, 4, none⟩ = some (.int .u32 (m.chain.toNat : Int)) ∧
    W.cell? ⟨bp, 0, none⟩ = some (.slice (some ⟨g, 0, none⟩) 4 4) ∧ W.cell? ⟨bp, 1, none⟩ = some (.slice (some ⟨g, 4, none⟩) 1 1) ∧ W.cell? ⟨bp, 2, none⟩ = some (.slice (some ⟨g, 8, none⟩) 8 8) ∧ W.cell? ⟨bp, 3, none⟩ = some (.slice (some ⟨g, 16, none⟩) 8 8) ∧ W.cell? ⟨bp, 4, none⟩ = some (.slice (some ⟨g, 24, none⟩) 8 8) ∧ W.cell? ⟨bp, 5, none⟩ = some (.slice (some ⟨g, 32, none⟩) 4 4) := by
  refine ⟨?_, ?_, ?_, ?_, ?_, ?_, ?_, ?_, ?_, ?_, ?_⟩
  iterate 5 (rw [cell_of_row W bm _ _ _ (0, 0) h.hm]; rfl)
  iterate 6 (rw [cell_of_row W bp _ _ _ (0, 0) h.hp]; rfl)
theorem Mk.upo {w W W' : World} {m : MV} {bm g bp : Nat} {l l' : List UInt8} (h : Mk w W m bm g bp l) (hu : Upo (fun b => b = g) W W') (hr : Byt W' g l') (hl : l'.length = 64) : Mk w W' m bm g bp l' :=
  ⟨(hu.block bm (Array.getElem?_eq_some_iff.1 h.hm).1 h.nm).trans h.hm, (hu.block bp (Array.getElem?_eq_some_iff.1 h.hp).1 h.np).trans h.hp, hr, hl, h.nm, h.np, h.lg, hu.since h.bel h.lg⟩
theorem Mk.put {w W : World} {m : MV} {bm g bp : Nat} {l : List UInt8} (h : Mk w W m bm g bp l) (off len n : Nat) (ho : off + len ≤ 64) (h8 : len ≤ 8) (hn : n < 18446744073709551616) :
    Calls Try.prog 24 #[.slice (some ⟨g, off, none⟩) len len, .int .u64 (n : Int)] W fun e w' => e = .returned (.tuple #[]) ∧ Mk w w' m bm g bp (ovr l off (big len n)) := by
  refine (put_any W g off len len n l h.row (by rw [h.len]; exact ho) h8 hn).mono ?_
  rintro e w' ⟨rfl, hy, hu⟩
  exact ⟨rfl, h.upo hu hy (by rw [ovr_len _ _ _ (by rw [big_len, h.len]; exact ho), h.len])⟩
theorem mrk_row (k a b c d : Nat) : ovr (ovr (ovr (ovr (ovr (ovr (zer 64) 0 [109, 115, 102, 1]) 4 (big 1 k)) 8 (big 8 a)) 16 (big 8 b)) 24 (big 8 c)) 32 (big 4 d) = bodyM k a b c d ++ zer 4 := by
  have e64 : zer 64 = [] ++ zer 64 := rfl
  rw [e64, ovr_zer [] _ _ 0 rfl, List.nil_append, show ([109, 115, 102, 1] : List UInt8).length = 4 from rfl, ovr_zer _ _ _ 4 rfl, big_len]
  rw [show zer (64 - 4 - 1) = zer 3 ++ zer 56 from rfl, ← List.append_assoc, ovr_zer _ _ _ 8 (by simp [big_len, zer_len]), big_len]
  rw [ovr_zer _ _ _ 16 (by simp [big_len, zer_len]), big_len, ovr_zer _ _ _ 24 (by simp [big_len, zer_len]), big_len, ovr_zer _ _ _ 32 (by simp [big_len, zer_len]), big_len]
  rw [bodyM, show zer (56 - 8 - 8 - 8 - 4) = zer 24 ++ zer 4 from rfl, List.append_assoc _ (zer 24)]
theorem Mk.first {w W : World} {m : MV} {bm g bp : Nat} (h : Mk w W m bm g bp (zer 64)) : ∃ W', (∀ ty, (Builtin.copy_ #[41, 9] ty #[.slice (some ⟨g, 0, none⟩) 4 4, .string ⟨#[109, 115, 102, 1]⟩]).run Try.prog W = .ok (goInt 4) W') ∧ Mk w W' m bm g bp (ovr (zer 64) 0 [109, 115, 102, 1]) := by
  refine ⟨W.setCells g 0 (cY [109, 115, 102, 1]), fun ty => run_copy ty (k := 0) (n := 4) (m := 4) (o := 0) h.row (by rw [zer_len]; decide) (fun _ => rfl) (Nat.le_refl _), h.upo (Upo.sets (S := fun b => b = g) (.inl rfl) _ 0 _ (Upo.refl _ _)) (h.row.over 0 _ (by rw [zer_len]; decide)) ?_⟩
  rw [ovr_len _ _ _ (by rw [zer_len]; decide), zer_len]
theorem Mk.seal {w W : World} {m : MV} {bm g bp : Nat} {k a b c d : Nat} (h : Mk w W m bm g bp (ovr (ovr (ovr (ovr (ovr (ovr (zer 64) 0 [109, 115, 102, 1]) 4 (big 1 k)) 8 (big 8 a)) 16 (big 8 b)) 24 (big 8 c)) 32 (big 4 d))) (t : ByteArray) (ht : (⟨(sld (bodyM k a b c d)).toArray⟩ : ByteArray) = t) :
    Calls Try.prog 25 #[.slice (some ⟨g, 0, none⟩) 64 64] W fun e w' => e = .returned (.string t) ∧ Below w.heap.size w w' := by
  have hr := h.row
  have hl := h.len
  rw [mrk_row] at hr hl
  have htk : (bodyM k a b c d ++ zer 4).take (64 - 4) = bodyM k a b c d := by
    rw [List.take_append_of_le_length (by rw [bodyM_len]; decide), List.take_of_length_le (by rw [bodyM_len]; decide)]
  refine (sealed_any W g 64 64 _ hr hl (by decide) (Nat.le_refl _) (by decide) t (by rw [htk]; exact ht)).mono ?_
  rintro e w' ⟨rfl, _, hup⟩
  exact ⟨rfl, hup.since h.bel h.lg⟩
set_option maxRecDepth 100000 in
set_option maxHeartbeats 2000000 in
theorem mark_any (w : World) (m : MV) (h1 : m.size < 18446744073709551616) (h2 : m.items < 18446744073709551616) (h3 : m.nodes < 18446744073709551616) (t : ByteArray) (ht : (⟨(mrk m).toArray⟩ : ByteArray) = t) :
    Calls Try.prog 13 #[.agg (mC m)] w fun e w' => e = .returned (.string t) ∧ Below w.heap.size w w' := by
  obtain ⟨mk, ma, mb, mc, md⟩ := m
  have HS := fun W => strength_any W mk
  have h4 := md.isLt
  by_cases hk : 1 ≤ mk ∧ mk ≤ 32
  · rw [decide_eq_true hk] at HS
    rw [mrk, if_pos hk] at ht
    obtain ⟨k, rfl⟩ : ∃ k : Nat, mk = (k : Int) := ⟨mk.toNat, by omega⟩
    simp only [Int.toNat_natCast] at ht h1 h2 h3
    have hw : IntKind.u64.wrap (k : Int) = (k : Int) := by rw [IntKind.wrap_u64]; omega
    obtain ⟨d, hd⟩ : ∃ d, md.toNat = d := ⟨_, rfl⟩
    have hw2 : IntKind.u64.wrap (d : Int) = (d : Int) := by rw [IntKind.wrap_u64]; omega
    have H4 : Hid (k < 18446744073709551616 ∧ ma < 18446744073709551616 ∧ mb < 18446744073709551616 ∧ mc < 18446744073709551616 ∧ d < 18446744073709551616) := ⟨by omega, h1, h2, h3, by omega⟩
    have hmk : ∀ u : World, (Instr.makeSlice 41 (.int .i64 64) (.int .i64 64)).run Try.prog u = .ok (.slice (some ⟨u.heap.size, 0, none⟩) 64 64) (u.alloc (.cells (Array.replicate 64 (Value.int .u8 0)) 5)) := fun u => make_bytes 64 (by decide) u
    have HPP : Hid (∀ W g, Calls Try.prog 29 #[.slice (some ⟨g, 0, none⟩) 64 64] W fun e w' => e = .returned (mP g) ∧ Below W.heap.size W w') := fun W g => mparts_any W g 64 64 (by decide)
    obtain ⟨z64, hz⟩ : ∃ z, Array.replicate 64 (Value.int .u8 0) = z := ⟨_, rfl⟩
    rw [hz] at hmk
    have HZ : Hid (Array.replicate 64 (Value.int .u8 0) = z64) := hz
    have HT : Hid ((⟨(sld (bodyM k ma mb mc d)).toArray⟩ : ByteArray) = t) := by rw [← hd]; exact ht
    clear ht hz h1 h2 h3 h4 hk
    unfold mC
    rw [hd]
    go_enter Try.func13, Try.ntmps13
    go_upto_region 5 with (first
      | (go_at_call 27; with_reducible refine (HS _).mono ?_; rintro e w1 ⟨rfl, rfl⟩)
      | (go_at_call 29; with_reducible refine (HPP.out _ _).mono ?_; rintro e w2 ⟨rfl, hb⟩; unfold mP))
    obtain ⟨w3, hw3⟩ : ∃ w3, w2.alloc (.cells (pC (w.heap.size + 1)) 56) = w3 := ⟨_, rfl⟩
    obtain ⟨wa, hwa⟩ : ∃ wa, w.alloc (.cells (mC ⟨(k : Int), ma, mb, mc, md⟩) 34) = wa := ⟨_, rfl⟩
    have M3 : Mk w w3 ⟨(k : Int), ma, mb, mc, md⟩ w.heap.size (w.heap.size + 1) w2.heap.size (zer 64) := by
      have hb' := hb
      unfold mC at hwa
      rw [hd] at hwa
      rw [hwa] at hb'
      have hsa : wa.heap.size = w.heap.size + 1 := by rw [← hwa]; simp
      have y0 : Byt (wa.alloc (.cells z64 5)) (w.heap.size + 1) (zer 64) := by
        rw [← HZ.out, ← hsa]; exact byt_made wa 64
      have s2 : w.heap.size + 2 ≤ w2.heap.size := by have := hb'.size; simp at this; omega
      have y2 := y0.next hb' (by simp; omega)
      have m2 : w2.heap[w.heap.size]? = some (.cells (mC ⟨(k : Int), ma, mb, mc, md⟩) 34 (0, 0)) := by
        rw [hb'.block _ (by simp; omega), (MapKept.heap_alloc wa _).2 _ (by omega), ← hwa, new1]
        unfold mC
        rw [hd]
      have b2 : Below w.heap.size w w2 := bnext (by rw [← hwa]; exact bal (bal (Below.refl _ _) _) _) hb'
      rw [← hw3]
      exact ⟨(MapKept.heap_alloc w2 _).2 _ (by omega) |>.trans m2, new1 _ _, y2.same ((MapKept.heap_alloc w2 _).2 _ (by omega)), zer_len _, by omega, by omega, by omega, bal b2 _⟩
    unfold pC at hw3
    rw [hw3]
    generalize w.heap.size + 1 = g at *
    generalize w2.heap.size = bp at *
    obtain ⟨w4, hcp, M⟩ := M3.first
    have HM : Hid (∀ W l, Mk w W ⟨(k : Int), ma, mb, mc, md⟩ w.heap.size g bp l → W.cell? ⟨w.heap.size, 0, none⟩ = some (.int .i64 (k : Int)) ∧ W.cell? ⟨w.heap.size, 1, none⟩ = some (.int .u64 (ma : Int)) ∧ W.cell? ⟨w.heap.size, 2, none⟩ = some (.int .u64 (mb : Int)) ∧ W.cell? ⟨w.heap.size, 3, none⟩ = some (.int .u64 (mc : Int)) ∧ W.cell? ⟨w.heap.size, 4, none⟩ = some (.int .u32 (d : Int)) ∧
        W.cell? ⟨bp, 0, none⟩ = some (.slice (some ⟨g, 0, none⟩) 4 4) ∧ W.cell? ⟨bp, 1, none⟩ = some (.slice (some ⟨g, 4, none⟩) 1 1) ∧ W.cell? ⟨bp, 2, none⟩ = some (.slice (some ⟨g, 8, none⟩) 8 8) ∧ W.cell? ⟨bp, 3, none⟩ = some (.slice (some ⟨g, 16, none⟩) 8 8) ∧ W.cell? ⟨bp, 4, none⟩ = some (.slice (some ⟨g, 24, none⟩) 8 8) ∧ W.cell? ⟨bp, 5, none⟩ = some (.slice (some ⟨g, 32, none⟩) 4 4)) := fun W l h => by
      have := h.cells
      simp only [hd] at this
      exact this
    have p0 := (HM.out _ _ M3).2.2.2.2.2.1
    obtain ⟨c0, c1, c2, c3, c4, _, q1, q2, q3, q4, q5⟩ := HM.out _ _ M
    clear hw3 hd hb HPP HS hmk hwa
    go_wp2_with (first
      | (refine wpList_copy_at (by rfl) _ _ _ _ (by rfl) (by rfl) (by rfl) (hcp _) ?_)
      | (go_at_call 24; (first
          | (with_reducible refine (M.put 4 1 k (by decide) (by decide) H4.out.1).mono ?_)
          | (with_reducible refine (M.put 8 8 ma (by decide) (by decide) H4.out.2.1).mono ?_)
          | (with_reducible refine (M.put 16 8 mb (by decide) (by decide) H4.out.2.2.1).mono ?_)
          | (with_reducible refine (M.put 24 8 mc (by decide) (by decide) H4.out.2.2.2.1).mono ?_)
          | (with_reducible refine (M.put 32 4 d (by decide) (by decide) H4.out.2.2.2.2).mono ?_)); rintro e w5 ⟨rfl, M⟩; obtain ⟨c0, c1, c2, c3, c4, _, q1, q2, q3, q4, q5⟩ := HM.out _ _ M)
      | (go_at_call 25; with_reducible refine (M.seal t HT.out).mono ?_; rintro e w6 ⟨rfl, hb6⟩))
    go_ret
    exact ⟨rfl, hb6⟩
  · rw [decide_eq_false hk] at HS
    rw [mrk, if_neg hk] at ht
    subst ht
    unfold mC
    go_enter Try.func13, Try.ntmps13
    go_wp2_with (go_at_call 27; with_reducible refine (HS _).mono ?_; rintro e w1 ⟨rfl, rfl⟩)
    go_ret
    exact ⟨rfl, bal (Below.refl _ _) _⟩
end Go.Proofs.Ytggkjleibhpnfaa
