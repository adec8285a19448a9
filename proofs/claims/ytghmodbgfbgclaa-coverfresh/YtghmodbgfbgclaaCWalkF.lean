/-
  Walks of the laws' own helpers: same. Own work.
-/
import Derived.Test.YtghmodbgfbgclaaCWalkE
namespace Go.Proofs.Ytghmodbgfbgclaa
open Go.RowKit
attribute [local go_sem ↓] Go.wp_at_zero Go.wp_at_succ
/-- A list of blocks that can be read. -/
structure RdB (w : World) (ao : Option Addr) (g n : Nat) (l : List (Int × Nat)) : Prop where
  len : l.length = n
  addr : 0 < n → ao = some ⟨g, 0, none⟩
  cell : ∀ j, j < n → w.cell? ⟨g, j * 2, none⟩ = some (.int .i64 (l.getD j (0, 0)).1) ∧ w.cell? ⟨g, j * 2 + 1, none⟩ = some (.int .u64 ((l.getD j (0, 0)).2 : Nat))
theorem RdB.below {w w' : World} {ao : Option Addr} {g n : Nat} {l : List (Int × Nat)} (r : RdB w ao g n l) (h : Below w.heap.size w w') : RdB w' ao g n l :=
  ⟨r.len, r.addr, fun j hj => ⟨(h.cell (p := ⟨g, j * 2, none⟩) (World.block_lt_of_cell? w _ (r.cell j hj).1)).trans (r.cell j hj).1, (h.cell (p := ⟨g, j * 2 + 1, none⟩) (World.block_lt_of_cell? w _ (r.cell j hj).2)).trans (r.cell j hj).2⟩⟩
theorem own_rdB {w : World} {base : Nat} {v : Value} {l : List (Int × Nat)} (h : OwnB w base v l) : ∃ ao g n cap, v = .slice ao n cap ∧ RdB w ao g n l ∧ n ≤ maxLen := by
  have h0 := h
  obtain ⟨h1, h2⟩ := h
  rcases h2 with ⟨rfl, h2⟩ | ⟨g, cap, cur, rfl, hg, hh, hc1, hc2, hc3, hc4⟩
  · exact ⟨none, 0, 0, 0, rfl, ⟨h2, fun h => absurd h (by omega), fun j hj => absurd hj (by omega)⟩, Nat.zero_le _⟩
  · refine ⟨some ⟨g, 0, none⟩, g, l.length, cap, rfl, ⟨rfl, fun _ => rfl, fun j hj => ?_⟩, by omega⟩
    have hcl := h0.cells (g := g) rfl
    obtain ⟨⟨a, b⟩, hq⟩ : ∃ q, l[j] = q := ⟨_, rfl⟩
    have hget : l[j]? = some (a, b) := by rw [List.getElem?_eq_getElem hj, hq]
    obtain ⟨e1, e2⟩ := cB_get l j a b hget
    have f1 := hcl _ _ e1
    have f2 := hcl _ _ e2
    rw [Addr.add_mid, Nat.zero_add, Nat.mul_comm] at f1 f2
    rw [List.getD_eq_getElem?_getD, hget]
    exact ⟨f1, f2⟩
theorem ext_getD {α : Type} {d : α} {l m : List α} {n : Nat} (hl : l.length = n) (hm : m.length = n) (h : ∀ j, j < n → l.getD j d = m.getD j d) : l = m := by
  apply List.ext_getElem?
  intro j
  by_cases hj : j < n
  · have := h j hj
    rw [List.getD_eq_getElem?_getD, List.getD_eq_getElem?_getD, List.getElem?_eq_getElem (by omega), List.getElem?_eq_getElem (by omega)] at this
    rw [List.getElem?_eq_getElem (by omega), List.getElem?_eq_getElem (by omega)]
    simpa using this
  · rw [List.getElem?_eq_none (by omega), List.getElem?_eq_none (by omega)]
theorem same_len (w : World) (ao ao' : Option Addr) (n cap n' cap' : Nat) (hne : n ≠ n') :
    Calls Try.prog 15 #[.slice ao n cap, .slice ao' n' cap'] w fun e w' => e = .returned (.bool false) ∧ Below w.heap.size w w' := by
  have ht : ¬ (n : Int) = (n' : Int) := by omega
  clear hne
  go_enter Try.func15, Try.ntmps15
  go_wp2
  go_ret
  exact ⟨rfl, Below.refl _ _⟩
theorem same_eq (w : World) (ao ao' : Option Addr) (b b' n cap cap' : Nat) (l m : List (Int × Nat)) (hr : RdB w ao b n l) (hr' : RdB w ao' b' n m) (hn : n ≤ maxLen) :
    Calls Try.prog 15 #[.slice ao n cap, .slice ao' n cap'] w fun e w' => e = .returned (.bool (decide (l = m))) ∧ Below w.heap.size w w' := by
  go_enter Try.func15, Try.ntmps15
  have hn' : (n : Int) ≤ 9223372036854775807 := by unfold maxLen at hn; omega
  have HR : Hid (RdB w ao b n l ∧ RdB w ao' b' n m) := ⟨hr, hr'⟩
  clear hn hr hr'
  go_wp2
  go_loopg [5] n (fun g i wr => ∃ k : Nat, k ≤ n ∧ g = n - k ∧ i = .int .i64 k ∧ (∀ j, j < k → l.getD j (0, 0) = m.getD j (0, 0)) ∧ Below w.heap.size w wr)
  case atStart =>
    go_light
    exact ⟨0, Nat.zero_le _, rfl, rfl, fun j hj => absurd hj (by omega), Below.refl _ _⟩
  case round =>
    obtain ⟨k, hk, rfl, rfl, he, hb⟩ := hrel
    have hk0 : (0 : Int) ≤ (k : Int) := Int.natCast_nonneg _
    by_cases hlt : k < n
    · have r1 := HR.out.1.below hb
      have r2 := HR.out.2.below hb
      obtain rfl := r1.addr (by omega)
      obtain rfl := r2.addr (by omega)
      obtain ⟨c1, c2⟩ := r1.cell k hlt
      obtain ⟨c3, c4⟩ := r2.cell k hlt
      have hz : (k : Int) < (n : Int) := by omega
      have HB : Hid (Below w.heap.size w wr) := hb
      have HE : Hid (∀ j, j < k → l.getD j (0, 0) = m.getD j (0, 0)) := he
      obtain ⟨⟨h1, q1⟩, hx⟩ : ∃ x, l.getD k (0, 0) = x := ⟨_, rfl⟩
      obtain ⟨⟨h2, q2⟩, hy⟩ : ∃ y, m.getD k (0, 0) = y := ⟨_, rfl⟩
      rw [hx] at c1 c2
      rw [hy] at c3 c4
      have HX : Hid (l.getD k (0, 0) = (h1, q1) ∧ m.getD k (0, 0) = (h2, q2)) := ⟨hx, hy⟩
      clear hx hy r1 r2 hb he
      by_cases hxy : (h1, q1) = (h2, q2)
      · have e1 : h1 = h2 := (Prod.mk.inj hxy).1
        have e2 : q1 = q2 := (Prod.mk.inj hxy).2
        subst e1 e2
        go_wp2
        go_quiet (fail)
        go_wp2
        go_roundg (n - (k + 1))
        case rel =>
          go_light
          refine ⟨k + 1, by omega, rfl, by go_num, fun j hj => ?_, below_drewN HB.out _⟩
          by_cases hjk : j = k
          · subst hjk; rw [HX.out.1, HX.out.2]
          · exact HE.out j (by omega)
        case measure => go_light; omega
      · have HN : Hid (decide (l = m) = false) := decide_eq_false (by
          intro h; rw [h] at HX; exact hxy (HX.out.1.symm.trans HX.out.2))
        by_cases e1 : h1 = h2
        · have e2 : ¬ (q1 : Int) = (q2 : Int) := fun e => hxy (by rw [e1, show q1 = q2 by omega])
          have e3 : ¬ q1 = q2 := fun e => e2 (by rw [e])
          subst e1
          clear hxy
          go_wp2
          go_quiet (fail)
          go_wp2
          go_ret
          exact ⟨by rw [HN.out]; rfl, below_drewN HB.out _⟩
        · clear hxy
          by_cases e2 : q1 = q2
          · subst e2
            go_wp2
            go_quiet (fail)
            go_wp2
            go_ret
            exact ⟨by rw [HN.out]; rfl, below_drewN HB.out _⟩
          · have e3 : ¬ (q1 : Int) = (q2 : Int) := by omega
            go_wp2
            go_quiet (fail)
            go_wp2
            go_ret
            exact ⟨by rw [HN.out]; rfl, below_drewN HB.out _⟩
    · obtain rfl : k = n := by omega
      have hz : ¬ (k : Int) < (k : Int) := by omega
      have HN : Hid (decide (l = m) = true) := decide_eq_true (ext_getD HR.out.1.len HR.out.2.len he)
      have HB : Hid (Below w.heap.size w wr) := hb
      clear he hb
      go_wp2
      go_ret
      exact ⟨by rw [HN.out]; rfl, HB.out⟩
/-- Two lists, held against each other. -/
theorem same_own (w : World) (v v' : Value) (B B' : Nat) (l m : List (Int × Nat)) (h : OwnB w B v l) (h' : OwnB w B' v' m) :
    Calls Try.prog 15 #[v, v'] w fun e w' => e = .returned (.bool (decide (l = m))) ∧ Below w.heap.size w w' := by
  obtain ⟨ao, b, n, cap, rfl, r, hn⟩ := own_rdB h
  obtain ⟨ao', b', n', cap', rfl, r', hn'⟩ := own_rdB h'
  by_cases he : n = n'
  · subst he
    exact same_eq w ao ao' b b' n cap cap' l m r r' hn
  · rw [decide_eq_false (fun e => he (by rw [← r.len, ← r'.len, e]))]
    exact same_len w ao ao' n cap n' cap' he
end Go.Proofs.Ytghmodbgfbgclaa
