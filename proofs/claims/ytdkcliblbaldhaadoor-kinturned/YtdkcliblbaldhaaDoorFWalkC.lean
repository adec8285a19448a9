/-
  Walks of package forest: Append. Own work.
-/
import Derived.Test.YtdkcliblbaldhaaDoorFWalkB
namespace Go.Proofs.YtdkcliblbaldhaaDoor
open Go.RowKit
attribute [local go_sem ↓] Go.wp_at_zero Go.wp_at_succ
theorem u64_id (x : Int) (h0 : 0 ≤ x) (h1 : x < 18446744073709551616) : IntKind.u64.wrap x = x := by
  simp [IntKind.wrap, IntKind.signed, IntKind.bits]; omega
theorem trail_any (n : Nat) (w : World) (hn : n < 2 ^ 64) (t : Nat) (ht : tr 64 n = t) :
    Calls Tryd.prog 61 #[.int .u64 n] w fun e w' => e = .returned (.int .i64 (t : Int)) ∧ w' = w := by
  subst ht
  go_enter Tryd.func61, Tryd.ntmps61
  go_wp2
  go_loopg [4] 64 (fun g i wr => ∃ k : Nat, k ≤ 64 ∧ g = 64 - k ∧ i = .int .i64 k ∧ k + tr (64 - k) (n / 2 ^ k) = tr 64 n ∧ w = wr)
  case atStart =>
    go_light
    exact ⟨0, Nat.zero_le _, rfl, rfl, by simp, rfl⟩
  case round =>
    obtain ⟨k, hk, rfl, rfl, hs, rfl⟩ := hrel
    have hk0 : (0 : Int) ≤ (k : Int) := Int.natCast_nonneg _
    by_cases hlt : k < 64
    · have hk8 : (k : Int) < 64 := by omega
      have HC := Pl.isOne_any n k w hn hlt
      have HS := tr_step k n hlt
      by_cases hb : n / 2 ^ k % 2 = 1
      · rw [if_pos hb] at HS
        rw [decide_eq_true hb] at HC
        go_wp2_with (go_at_call 43; refine HC.mono ?_; rintro e w' ⟨rfl, rfl⟩)
        go_ret
        refine ⟨?_, rfl⟩
        rw [← hs, HS]
        rfl
      · rw [if_neg hb] at HS
        rw [decide_eq_false hb] at HC
        go_wp2_with (go_at_call 43; refine HC.mono ?_; rintro e w' ⟨rfl, rfl⟩)
        go_roundg (64 - (k + 1))
        case rel =>
          go_light
          exact ⟨k + 1, by omega, rfl, by go_num, by omega, rfl⟩
        case measure => go_light; omega
    · obtain rfl : k = 64 := by omega
      clear hk hlt
      go_wp2
      go_ret
      refine ⟨?_, rfl⟩
      rw [← hs]
      rfl
theorem own_one (w : World) (s : ByteArray) : OwnS (w.alloc (.cells #[.string s] 9)) w.heap.size (.slice (some ⟨w.heap.size, 0, none⟩) 1 1) [s] :=
  ⟨rfl, .inr ⟨w.heap.size, 1, #[.string s], rfl, Nat.le_refl _, heap_alloc_new w _, Nat.le_refl _, by unfold maxLen; omega, rfl, rfl⟩⟩
theorem own_mono {w : World} {B B' : Nat} {v : Value} {l : List ByteArray} (h : OwnS w B v l) (hB : B' ≤ B) : OwnS w B' v l := by
  obtain ⟨h1, h2⟩ := h
  refine ⟨h1, ?_⟩
  rcases h2 with h2 | ⟨g, cap, cur, hv, hg, h3⟩
  · exact .inl h2
  · exact .inr ⟨g, cap, cur, hv, by omega, h3⟩
/-- Nothing but a forest's two blocks has changed. -/
structure Chf (m : Nat) (w w' : World) : Prop where
  below : Below m w w'
  block : ∀ q, q < w.heap.size → q ≠ m → q ≠ m + 1 → w'.heap[q]? = w.heap[q]?
theorem Chf.refl (m : Nat) (w : World) : Chf m w w := ⟨Below.refl _ _, fun _ _ _ _ => rfl⟩
theorem Chf.of {m : Nat} {w w' : World} (h : Below w.heap.size w w') (hm : m < w.heap.size) : Chf m w w' := ⟨h.mono (Nat.le_of_lt hm), fun q hq _ _ => h.block q hq⟩
theorem Chf.trans {m : Nat} {w w1 w2 : World} (h : Chf m w w1) (h2 : Chf m w1 w2) : Chf m w w2 :=
  ⟨h.below.trans h2.below, fun q hq x y => (h2.block q (Nat.lt_of_lt_of_le hq h.below.size) x y).trans (h.block q hq x y)⟩
theorem Chf.size {m : Nat} {w w' : World} (h : Chf m w w') : w.heap.size ≤ w'.heap.size := h.below.size
theorem Chf.next {m : Nat} {w w1 w2 : World} (h : Chf m w w1) (h2 : Below w1.heap.size w1 w2) (hm : m < w.heap.size) : Chf m w w2 := h.trans (Chf.of h2 (Nat.lt_of_lt_of_le hm h.size))
theorem Chf.set {m b : Nat} {w w' : World} (h : Chf m w w') (i : Nat) (v : Value) (hb : b = m + 1 ∨ w.heap.size ≤ b) (hm : m < w.heap.size) : Chf m w (w'.setCell ⟨b, i, none⟩ v) := by
  refine ⟨h.below.setCell (p := ⟨b, i, none⟩) (by show m ≤ b; omega) v, fun q hq x y => ?_⟩
  rw [← h.block q hq x y]
  exact Below.heap_setCell _ _ _ _ (by show q ≠ b; omega)
theorem Chf.put {m : Nat} {w w' : World} (h : Chf m w w') (o : Obj) : Chf m w (ChangeMaps.setBlock w' m o) := by
  refine ⟨⟨h.below.os, h.below.tape, h.below.output, ?_, fun q hq => ?_⟩, fun q hq x _ => ?_⟩
  · simp [ChangeMaps.setBlock, h.below.size]
  · rw [← h.below.block q hq]
    simp [ChangeMaps.setBlock, show ¬ m = q by omega]
  · rw [← h.block q hq x (by assumption)]
    simp [ChangeMaps.setBlock, show ¬ m = q by omega]
theorem set_other {m q : Nat} {w : World} (o : Obj) (h : q ≠ m) : (ChangeMaps.setBlock w m o).heap[q]? = w.heap[q]? := by
  simp [ChangeMaps.setBlock, show ¬ m = q by omega]
/-- A list of texts is untouched where a forest changes. -/
theorem row_chf {w w' : World} {m B T s n : Nat} {x : Value} {cs : List Value} {k : Int} {L : List ByteArray} (h : w.ownsRow B T s x n cs) (hF : Frs w m k L) (hc : Chf m w w') (hT : T ≠ 78) : w'.ownsRow B T s x n cs := by
  obtain ⟨h1, h2⟩ := h
  refine ⟨h1, ?_⟩
  rcases h2 with h2 | ⟨g, cap, cur, rfl, hg, hh, r⟩
  · exact .inl h2
  · refine .inr ⟨g, cap, cur, rfl, hg, ?_, r⟩
    rw [hc.block g (Array.getElem?_eq_some_iff.1 hh).1 ?_ ?_]
    · exact hh
    · rintro rfl
      obtain ⟨es, c, hx, _⟩ := hF.mp
      rw [hh] at hx
      cases hx
    · rintro rfl
      have := hF.blk
      rw [hh] at this
      injection this with this
      injection this with _ h3 _
      exact hT h3
theorem Frs.chf {w w' : World} {m m' : Nat} {k k' : Int} {L L' : List ByteArray} (h : Frs w m' k' L') (hF : Frs w m k L) (hc : Chf m w w') (hne : m' ≠ m) : Frs w' m' k' L' := by
  have hl := h.lt
  refine h.same (hc.block m' (by omega) hne ?_) (hc.block (m' + 1) hl ?_ (by omega))
  · rintro rfl
    obtain ⟨es, c, hx, _⟩ := h.mp
    have := hF.blk
    rw [hx] at this
    cases this
  · intro e
    obtain ⟨es, c, hx, _⟩ := hF.mp
    have := h.blk
    rw [e, hx] at this
    cases this
theorem tb_ne {w : World} {m g : Nat} {k x : Int} {L : List ByteArray} (h0 : w.cell? ⟨g, 0, none⟩ = some (.int .u32 x)) (hF : Frs w m k L) : g ≠ m ∧ g ≠ m + 1 := by
  constructor
  · rintro rfl
    obtain ⟨es, c, hm, _⟩ := hF.mp
    simp [World.cell?, hm] at h0
  · rintro rfl
    rw [hF.c0] at h0
    cases h0
theorem Tb.chf {w w' : World} {m : Nat} {k : Int} {L : List ByteArray} (ht : Tb w) (hF : Frs w m k L) (hc : Chf m w w') : Tb w' := by
  have hlt := range_lt ht.rs (cW_ne (by rw [RS_len]; decide))
  obtain ⟨x, h0⟩ : ∃ x, w.cell? ⟨0, 0, none⟩ = some (.int .u32 x) := by
    have hx : 0 < RS.length := by rw [RS_len]; decide
    exact ⟨RS[0], ht.rs 0 _ (by simp [cW, hx])⟩
  obtain ⟨hne, hne2⟩ := tb_ne h0 hF
  refine ⟨fun j u hu => ?_⟩
  rw [← ht.rs j u hu]
  have := hc.block _ hlt hne hne2
  simp only [World.cell?, this]
end Go.Proofs.YtdkcliblbaldhaaDoor
