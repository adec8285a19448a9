/-
  Walks of the laws' own helpers: same. Own work.
-/
import Derived.Test.YtilflepomeoffabWalkE
import Derived.Deep.MidRow
namespace Go.Proofs.Ytilflepomeoffab
open Go.RowKit
attribute [local go_sem ↓] Go.wp_at_zero Go.wp_at_succ
/-- A list of numbers that can be read. -/
structure Rd (w : World) (ao : Option Addr) (b off n : Nat) (l : List Nat) : Prop where
  len : l.length = n
  addr : 0 < n → ao = some ⟨b, off, none⟩
  cell : ∀ j, j < n → w.cell? ⟨b, off + j, none⟩ = some (.int .u64 (l.getD j 0 : Nat))
theorem Rd.below {w w' : World} {ao : Option Addr} {b off n : Nat} {l : List Nat} (r : Rd w ao b off n l) (h : Below w.heap.size w w') : Rd w' ao b off n l :=
  ⟨r.len, r.addr, fun j hj => (h.cell (p := ⟨b, off + j, none⟩) (World.block_lt_of_cell? w _ (r.cell j hj))).trans (r.cell j hj)⟩
theorem own_rd {w : World} {base : Nat} {v : Value} {l : List Nat} (h : Own w base v l) : ∃ ao b n cap, v = .slice ao n cap ∧ Rd w ao b 0 n l ∧ n ≤ maxLen ∧ (ao = none → n = 0) := by
  obtain ⟨h1, h2⟩ := h
  rcases h2 with ⟨rfl, h2⟩ | ⟨g, cap, cur, rfl, hg, hh, hc1, hc2, hc3, hc4⟩
  · exact ⟨none, 0, 0, 0, rfl, ⟨h2, fun h => absurd h (by omega), fun j hj => absurd hj (by omega)⟩, Nat.zero_le _, fun _ => rfl⟩
  · have hcl := World.ownsRow.cells (w := w) (base := base) (e := 22) (size := 1) (v := .slice (some ⟨g, 0, none⟩) l.length cap) (n := l.length) (xs := cU l) ⟨h1, .inr ⟨g, cap, cur, rfl, hg, hh, hc1, hc2, hc3, hc4⟩⟩ (g := g) rfl
    refine ⟨some ⟨g, 0, none⟩, g, l.length, cap, rfl, ⟨rfl, fun _ => rfl, fun j hj => ?_⟩, by omega, fun h => by cases h⟩
    have := hcl j (.int .u64 (l.getD j 0 : Nat)) (by simp [cU, List.getD_eq_getElem?_getD, List.getElem?_eq_getElem hj])
    rw [Addr.add_mid] at this
    exact this
theorem take_getD {l m : List Nat} {n : Nat} (hl : l.length = n) (hm : m.length = n) (h : ∀ j, j < n → l.getD j 0 = m.getD j 0) : l = m := by
  apply List.ext_getElem?
  intro j
  by_cases hj : j < n
  · have := h j hj
    rw [List.getD_eq_getElem?_getD, List.getD_eq_getElem?_getD, List.getElem?_eq_getElem (by omega), List.getElem?_eq_getElem (by omega)] at this
    rw [List.getElem?_eq_getElem (by omega), List.getElem?_eq_getElem (by omega)]
    simpa using this
  · rw [List.getElem?_eq_none (by omega), List.getElem?_eq_none (by omega)]
theorem same_len (w : World) (ao ao' : Option Addr) (n cap n' cap' : Nat) (hne : n ≠ n') :
    Calls Try.prog 20 #[.slice ao n cap, .slice ao' n' cap'] w fun e w' => e = .returned (.bool false) ∧ Below w.heap.size w w' := by
  have ht : ¬ (n : Int) = (n' : Int) := by omega
  clear hne
  go_enter Try.func20, Try.ntmps20
  go_wp2
  go_ret
  exact ⟨rfl, Below.refl _ _⟩
theorem same_eq (w : World) (ao ao' : Option Addr) (b off b' off' n cap cap' : Nat) (l m : List Nat) (hr : Rd w ao b off n l) (hr' : Rd w ao' b' off' n m) (hn : n ≤ maxLen) :
    Calls Try.prog 20 #[.slice ao n cap, .slice ao' n cap'] w fun e w' => e = .returned (.bool (decide (l = m))) ∧ Below w.heap.size w w' := by
  go_enter Try.func20, Try.ntmps20
  have hn' : (n : Int) ≤ 9223372036854775807 := by unfold maxLen at hn; omega
  have HR : Hid (Rd w ao b off n l ∧ Rd w ao' b' off' n m) := ⟨hr, hr'⟩
  clear hn hr hr'
  go_wp2
  go_loopg [5] n (fun g i wr => ∃ k : Nat, k ≤ n ∧ g = n - k ∧ i = .int .i64 k ∧ (∀ j, j < k → l.getD j 0 = m.getD j 0) ∧ Below w.heap.size w wr)
  case atStart =>
    go_light
    exact ⟨0, Nat.zero_le _, rfl, rfl, fun j hj => absurd hj (by omega), Below.refl _ _⟩
  case round =>
    obtain ⟨k, hk, rfl, rfl, he, hb⟩ := hrel
    have hk0 : (0 : Int) ≤ (k : Int) := Int.natCast_nonneg _
    by_cases hlt : k < n
    · have r1 := HR.out.1.below hb
      have r2 := HR.out.2.below hb
      obtain rfl := r1.addr (by omega)
      obtain rfl := r2.addr (by omega)
      have c1 := r1.cell k hlt
      have c2 := r2.cell k hlt
      have hz : (k : Int) < (n : Int) := by omega
      have HB : Hid (Below w.heap.size w wr) := hb
      have HE : Hid (∀ j, j < k → l.getD j 0 = m.getD j 0) := he
      obtain ⟨x, hx⟩ : ∃ x, l.getD k 0 = x := ⟨_, rfl⟩
      obtain ⟨y, hy⟩ : ∃ y, m.getD k 0 = y := ⟨_, rfl⟩
      rw [hx] at c1
      rw [hy] at c2
      have HX : Hid (l.getD k 0 = x ∧ m.getD k 0 = y) := ⟨hx, hy⟩
      clear hx hy r1 r2 hb he
      by_cases hxy : x = y
      · have hd : decide ((x : Int) = (y : Int)) = true := decide_eq_true (by omega)
        go_wp2
        go_quiet (fail)
        go_wp2
        go_roundg (n - (k + 1))
        case rel =>
          go_light
          refine ⟨k + 1, by omega, rfl, by go_num, fun j hj => ?_, below_drewN HB.out _⟩
          by_cases hjk : j = k
          · subst hjk; rw [HX.out.1, HX.out.2]; exact hxy
          · exact HE.out j (by omega)
        case measure => go_light; omega
      · have hd : decide ((x : Int) = (y : Int)) = false := decide_eq_false (by omega)
        have HN : Hid (decide (l = m) = false) := decide_eq_false (by
          intro h; rw [h] at HX; exact hxy (HX.out.1.symm.trans HX.out.2))
        go_wp2
        go_quiet (fail)
        go_wp2
        go_ret
        exact ⟨by rw [HN.out]; rfl, below_drewN HB.out _⟩
    · obtain rfl : k = n := by omega
      have hz : ¬ (k : Int) < (k : Int) := by omega
      have HN : Hid (decide (l = m) = true) := decide_eq_true (take_getD HR.out.1.len HR.out.2.len he)
      have HB : Hid (Below w.heap.size w wr) := hb
      clear he hb
      go_wp2
      go_ret
      exact ⟨by rw [HN.out]; rfl, HB.out⟩
/-- Two lists, held against each other. -/
theorem same_own (w : World) (v v' : Value) (B B' : Nat) (l m : List Nat) (h : Own w B v l) (h' : Own w B' v' m) :
    Calls Try.prog 20 #[v, v'] w fun e w' => e = .returned (.bool (decide (l = m))) ∧ Below w.heap.size w w' := by
  obtain ⟨ao, b, n, cap, rfl, r, hn, _⟩ := own_rd h
  obtain ⟨ao', b', n', cap', rfl, r', hn', _⟩ := own_rd h'
  by_cases he : n = n'
  · subst he
    exact same_eq w ao ao' b 0 b' 0 n cap cap' l m r r' hn
  · rw [decide_eq_false (fun e => he (by rw [← r.len, ← r'.len, e]))]
    exact same_len w ao ao' n cap n' cap' he
end Go.Proofs.Ytilflepomeoffab
