/-
  The reference of peaks: a Range in memory, New, From, Peaks, Root. Own work.
-/
import Derived.Test.YtncndefggegicabDoorKWalkD
import Derived.Test.YtncndefggegicabDoorHRefB
import Derived.Deep.AppendLies
namespace Go.Proofs.YtncndefggegicabDoor
open Go.RowKit
open Pl (ones)
attribute [local go_sem ↓] Go.wp_at_zero Go.wp_at_succ
theorem refOnes_any (n : Nat) (w : World) (hn : n < 2 ^ 64) :
    Calls Tryd.prog 34 #[.int .u64 n] w fun e w' => e = .returned (.int .i64 (ones 64 n : Nat)) ∧ w' = w := by
  go_enter Tryd.func34, Tryd.ntmps34
  go_wp2
  go_loopg [0, 3] 64 (fun g x c wr => ∃ k m y : Nat, k ≤ 64 ∧ g = 64 - k ∧ x = .int .u64 y ∧ c = .int .i64 m ∧ m ≤ k ∧ y < 2 ^ (64 - k) ∧ m + ones (64 - k) y = ones 64 n ∧ w = wr)
  case atStart =>
    go_light
    exact ⟨0, 0, n, Nat.zero_le _, rfl, rfl, rfl, Nat.zero_le _, hn, by simp, rfl⟩
  case round =>
    obtain ⟨k, m, y, hk, rfl, rfl, rfl, hm, hy, hs, rfl⟩ := hrel
    have hy0 : (0 : Int) ≤ (y : Int) := Int.natCast_nonneg _
    have hm0 : (0 : Int) ≤ (m : Int) := Int.natCast_nonneg _
    by_cases hlt : 0 < y
    · have hy1 : (0 : Int) < (y : Int) := by omega
      have hk1 : k < 64 := by
        rcases Nat.lt_or_ge k 64 with h | h
        · exact h
        · rw [show 64 - k = 0 by omega] at hy; simp at hy; omega
      have hm1 : (m : Int) < 64 := by omega
      have HS : ones (64 - k) y = y % 2 + ones (64 - (k + 1)) (y / 2) := by
        rw [show 64 - k = (64 - (k + 1)) + 1 by omega, ones]
      have HY : y / 2 < 2 ^ (64 - (k + 1)) := by
        rw [show 64 - k = (64 - (k + 1)) + 1 by omega, Nat.pow_succ] at hy; omega
      obtain ⟨d, hd⟩ : ∃ d : Nat, y / 2 = d := ⟨_, rfl⟩
      obtain ⟨r, hr⟩ : ∃ r : Nat, y % 2 = r := ⟨_, rfl⟩
      have e1 : (y : Int) / 2 = (d : Int) := by omega
      have e5 : IntKind.u64.wrap (d : Int) = (d : Int) := by rw [← hd]; have : y < 2 ^ 64 := Nat.lt_of_lt_of_le hy (Nat.pow_le_pow_right (by decide) (by omega)); rw [IntKind.wrap_u64]; omega
      have e2 : (y : Int) % 2 = (r : Int) := by omega
      have e3 : (0 : Int) ≤ (r : Int) := by omega
      have e4 : (r : Int) < 2 := by omega
      rw [hd] at HS HY
      rw [hr] at HS
      clear hy hn
      go_wp2
      go_roundg (64 - (k + 1))
      case rel =>
        go_light
        exact ⟨k + 1, m + r, d, by omega, rfl, rfl, by go_num, by omega, HY, by omega, rfl⟩
      case measure => go_light; omega
    · obtain rfl : y = 0 := by omega
      rw [Pl.ones_zero] at hs
      clear hk hlt hy
      go_wp2
      go_ret
      refine ⟨?_, rfl⟩
      rw [← hs]
      rfl
/-- Peaks with their heights as cells. -/
def cK : List (Nat × ByteArray) → List Value
  | [] => []
  | p :: r => .int .i64 (p.1 : Int) :: .string p.2 :: cK r
theorem cK_len (l : List (Nat × ByteArray)) : (cK l).length = l.length * 2 := by
  induction l with
  | nil => rfl
  | cons b r ih => simp [cK, ih]; omega
theorem cK_app (l m : List (Nat × ByteArray)) : cK (l ++ m) = cK l ++ cK m := by
  induction l with
  | nil => rfl
  | cons b r ih => simp [cK, ih]
theorem cK_get (l : List (Nat × ByteArray)) (j : Nat) (hj : j < l.length) : (cK l)[j * 2]? = some (.int .i64 ((l.getD j (0, ByteArray.empty)).1 : Int)) ∧ (cK l)[j * 2 + 1]? = some (.string (l.getD j (0, ByteArray.empty)).2) := by
  induction l generalizing j with
  | nil => simp at hj
  | cons b r ih =>
    cases j with
    | zero => exact ⟨rfl, rfl⟩
    | succ j =>
      have := ih j (by simpa using hj)
      rw [show (j + 1) * 2 = j * 2 + 1 + 1 by omega]
      simpa [cK] using this
theorem Tryd.infoK : (Tryd.prog.info? 63).map (fun i => (i.zero, i.size, i.bytes)) = some (some (.agg #[.int .i64 0, .string ByteArray.empty]), 2, 24) := by kernel_rfl
/-- A list of peaks with their heights of one's own. -/
def OwnK (w : World) (B : Nat) (v : Value) (l : List (Nat × ByteArray)) : Prop := w.ownsRow B 63 2 v l.length (cK l)
theorem ownK_next {w W : World} {B B' : Nat} {v : Value} {l : List (Nat × ByteArray)} (h : OwnK w B v l) (hb : Below B' w W) (hB : w.heap.size ≤ B') : OwnK W B v l := by
  obtain ⟨h1, h2⟩ := h
  refine ⟨h1, ?_⟩
  rcases h2 with h2 | ⟨g, cap, cur, rfl, hg, hh, r⟩
  · exact .inl h2
  · exact .inr ⟨g, cap, cur, rfl, hg, by rw [hb.block g (Nat.lt_of_lt_of_le (Array.getElem?_eq_some_iff.1 hh).1 hB)]; exact hh, r⟩
theorem ownK_nil (w : World) (B : Nat) : OwnK w B (.slice none 0 0) [] := ⟨rfl, .inl ⟨rfl, rfl⟩⟩
theorem ownK_mono {w : World} {B B' : Nat} {v : Value} {l : List (Nat × ByteArray)} (h : OwnK w B v l) (hB : B' ≤ B) : OwnK w B' v l := by
  obtain ⟨h1, h2⟩ := h
  refine ⟨h1, ?_⟩
  rcases h2 with h2 | ⟨g, cap, cur, hv, hg, h3⟩
  · exact .inl h2
  · exact .inr ⟨g, cap, cur, hv, by omega, h3⟩
theorem ownK_slice {w : World} {B : Nat} {v : Value} {l : List (Nat × ByteArray)} (h : OwnK w B v l) : ∃ ao cap, v = .slice ao l.length cap := by
  obtain ⟨_, h2⟩ := h
  rcases h2 with ⟨h2, h3⟩ | ⟨g, cap, cur, hv, _⟩
  · exact ⟨none, 0, by rw [h2, h3]⟩
  · exact ⟨_, cap, hv⟩
theorem ownK_form {w : World} {B : Nat} {v : Value} {l : List (Nat × ByteArray)} (h : OwnK w B v l) (h0 : 0 < l.length) : ∃ g cap, v = .slice (some ⟨g, 0, none⟩) l.length cap ∧ B ≤ g ∧ l.length ≤ cap := by
  obtain ⟨h1, h2⟩ := h
  rcases h2 with ⟨_, h2⟩ | ⟨g, cap, cur, hv, hg, _, hc, hm, _⟩
  · omega
  · exact ⟨g, cap, hv, hg, hc⟩
theorem ownK_cell {w : World} {B g n cap : Nat} {l : List (Nat × ByteArray)} (h : OwnK w B (.slice (some ⟨g, 0, none⟩) n cap) l) {j : Nat} (hj : j < l.length) : w.cell? ⟨g, j * 2, none⟩ = some (.int .i64 ((l.getD j (0, ByteArray.empty)).1 : Int)) ∧ w.cell? ⟨g, j * 2 + 1, none⟩ = some (.string (l.getD j (0, ByteArray.empty)).2) := by
  obtain ⟨k1, k2⟩ := cK_get l j hj
  have h1 := World.ownsRow.cells h (g := g) rfl _ _ k1
  have h2 := World.ownsRow.cells h (g := g) rfl _ _ k2
  rw [Addr.add_mid, Nat.zero_add] at h1 h2
  exact ⟨h1, h2⟩
/-- What is of another type is not that list. -/
theorem ownK_ne {w : World} {B p t : Nat} {v : Value} {l : List (Nat × ByteArray)} {cs : Array Value} (h : OwnK w B v l) (hp : w.heap[p]? = some (.cells cs t (0, 0))) (ht : t ≠ 63) : v.ownBlock ≠ some p := by
  rcases h.2 with ⟨rfl, _⟩ | ⟨g, cap, cur, rfl, _, hg, _⟩
  · intro e; cases e
  · intro e
    have : g = p := by simpa [Value.ownBlock] using e
    subst this
    rw [hg] at hp
    injection hp with h1
    injection h1 with _ h2 _
    exact ht h2.symm
/-- Peaks appended to a list of one's own. -/
theorem wpList_append_K (w : World) {ops : Array Oper} {rest : List Oper} {o : Oper} {a : Act} {Q : Exit → Act → World → Prop}
    (hg : o.guard = none) (s x : Operand) (hop : o.op = Op.call { callee := Callee.builtin Builtin.append, args := #[s, x], argTypes := #[55, 55] })
    (B : Nat) (v : Value) (L : List (Nat × ByteArray)) (hs : a.eval s = v) (hown : OwnK w B v L) (ad : Addr) (c : Nat) (M : List (Nat × ByteArray)) (hx : a.eval x = .slice (some ad) M.length c) (hnews : ∀ j u, (cK M)[j]? = some u → w.cell? (ad.add j) = some u)
    (hlen : L.length + M.length ≤ 1048576) (hB : B ≤ w.heap.size)
    (hK : ∀ v' w', OwnK w' B v' (L ++ M) → Below B w w' → (∀ q, q < w.heap.size → v.ownBlock ≠ some q → w'.heap[q]? = w.heap[q]?) → wpList Tryd.prog ops Q rest (a.put o.dst v') w') : wpList Tryd.prog ops Q (o :: rest) a w := by
  obtain ⟨i0, hi, hz0, hz1, hz2⟩ := info_parts Tryd.infoK
  have hlt : ∀ k, v.ownBlock = some k → B ≤ k := fun k hk => (World.ownsRow.lt hown k hk).1
  have one : ∀ (M : List (Nat × ByteArray)), ∀ u ∈ cK M, u.oneCell' = true := by
    intro M
    induction M with
    | nil => intro u hu; cases hu
    | cons b r ih =>
      intro u hu
      simp only [cK, List.mem_cons] at hu
      rcases hu with rfl | rfl | hu
      · rfl
      · rfl
      · exact ih u hu
  refine wpList_append_own w hg s x _ hop B 63 i0 (.agg #[.int .i64 0, .string ByteArray.empty]) 2 24 Tryd.underlying55 hi hz0 hz1 hz2 rfl (by decide) _ _ _ hs hown ad M.length c (cK M) hx (cK_len M) hnews (one M) (by unfold maxLen; omega) (by omega) hB ?_
  intro v' w' h1 h2 _
  refine hK v' w' ?_ ((Below.refl _ _).grown h2 hB hlt) (fun q hq hne => h2.block q hq (fun e => hne e.symm))
  rw [OwnK, List.length_append, cK_app]; exact h1
theorem news_one (w : World) (h : Nat) (d : ByteArray) : ∀ j u, (cK [(h, d)])[j]? = some u → (w.alloc (.cells #[.int .i64 (h : Int), .string d] 63)).cell? ((⟨w.heap.size, 0, none⟩ : Addr).add j) = some u :=
  World.news_of_block (cs := #[.int .i64 (h : Int), .string d]) (t := 63) (fr := (0, 0)) (heap_alloc_new w _)
/-- The reference's Range lies at p. -/
structure Rf (w : World) (p : Nat) (v : Value) (k : Int) (n : Nat) (P : List ByteArray) : Prop where
  blk : w.heap[p]? = some (.cells #[.int .i64 k, .int .u64 (n : Int), v] 57 (0, 0))
  own : OwnK w 0 v ((hts n).zip P)
  k1 : 1 ≤ k
  k2 : k ≤ 32
  hn : n ≤ 1099511627776
  hl : P.length = (hts n).length
  hs : ∀ s ∈ P, s.size = clk k
section
variable {w W : World} {p : Nat} {v : Value} {k : Int} {n : Nat} {P : List ByteArray}
theorem Rf.lt (h : Rf w p v k n P) : p < w.heap.size := (Array.getElem?_eq_some_iff.1 h.blk).1
theorem Rf.c0 (h : Rf w p v k n P) : w.cell? ⟨p, 0, none⟩ = some (.int .i64 k) := by rw [cell_of_row w p 0 _ _ (0, 0) h.blk]; rfl
theorem Rf.c1 (h : Rf w p v k n P) : w.cell? ⟨p, 1, none⟩ = some (.int .u64 (n : Int)) := by rw [cell_of_row w p 1 _ _ (0, 0) h.blk]; rfl
theorem Rf.c2 (h : Rf w p v k n P) : w.cell? ⟨p, 2, none⟩ = some v := by rw [cell_of_row w p 2 _ _ (0, 0) h.blk]; rfl
theorem Rf.fz (h : Rf w p v k n P) (j : Nat) : w.frozen? ⟨p, j, none⟩ = false := frozen_of_row w p j _ _ h.blk
theorem Rf.short (h : Rf w p v k n P) : P.length ≤ 41 := by rw [h.hl]; exact hts_le n
theorem Rf.small (h : Rf w p v k n P) : ∀ s ∈ P, s.size ≤ 140737488351232 := fun s hs => by rw [h.hs s hs]; have := clk_le k; omega
theorem Rf.next {B : Nat} (h : Rf w p v k n P) (hb : Below B w W) (hB : w.heap.size ≤ B) : Rf W p v k n P :=
  ⟨by rw [hb.block p (Nat.lt_of_lt_of_le h.lt hB)]; exact h.blk, ownK_next h.own hb hB, h.k1, h.k2, h.hn, h.hl, h.hs⟩
theorem zip_len (h : Rf w p v k n P) : ((hts n).zip P).length = P.length := by rw [List.length_zip, h.hl, Nat.min_self]
theorem Rf.dig (h : Rf w p v k n P) {j : Nat} (hj : j < P.length) : (((hts n).zip P).getD j (0, ByteArray.empty)).2 = P.getD j ByteArray.empty := by
  have hj2 : j < (hts n).length := by rw [← h.hl]; exact hj
  rw [List.getD_eq_getElem?_getD, List.getD_eq_getElem?_getD, List.getElem?_eq_getElem hj, List.getElem?_eq_getElem (by rw [zip_len h]; exact hj), List.getElem_zip]
  rfl
end
/-- What the reference's From answers. -/
def MadeR (w w' : World) (k : Int) (n : Nat) (L : List ByteArray) (e0 : Nat) (e : Ending) : Prop :=
  Below w.heap.size w w' ∧ ((e0 ≠ 0 ∧ e = .returned (.tuple #[.pointer none, .int .i64 (e0 : Int)])) ∨ (e0 = 0 ∧ ∃ p v, e = .returned (.tuple #[.pointer (some ⟨p, 0, none⟩), .int .i64 0]) ∧ Rf w' p v k n L ∧ w.heap.size ≤ p))
theorem MadeR.no {w w' : World} {k : Int} {n : Nat} {L : List ByteArray} {e0 : Nat} {e : Ending} (h : MadeR w w' k n L e0 e) (h0 : e0 ≠ 0) : e = .returned (.tuple #[.pointer none, .int .i64 (e0 : Int)]) ∧ Below w.heap.size w w' := by
  obtain ⟨hb, ⟨_, h2⟩ | ⟨h1, _⟩⟩ := h
  · exact ⟨h2, hb⟩
  · exact absurd h1 h0
theorem MadeR.ok {w w' : World} {k : Int} {n : Nat} {L : List ByteArray} {e : Ending} (h : MadeR w w' k n L 0 e) : ∃ p v, e = .returned (.tuple #[.pointer (some ⟨p, 0, none⟩), .int .i64 0]) ∧ Rf w' p v k n L ∧ w.heap.size ≤ p ∧ Below w.heap.size w w' := by
  obtain ⟨hb, ⟨h1, _⟩ | ⟨_, p, v, h2, h3, h4⟩⟩ := h
  · exact absurd rfl h1
  · exact ⟨p, v, h2, h3, h4, hb⟩
theorem refnew_no (w : World) (k : Int) (hk : k < 1 ∨ 32 < k) : Calls Tryd.prog 18 #[.int .i64 k] w fun e w' => e = .returned (.tuple #[.pointer none, .int .i64 70]) ∧ w = w' := by
  by_cases h1 : k < 1
  · clear hk
    go_enter Tryd.func18, Tryd.ntmps18
    go_wp2
    go_ret2
    exact ⟨rfl, rfl⟩
  · have h2 : decide (k < 1) = false := by simp; omega
    have h3 : decide ((32 : Int) < k) = true := by simp; omega
    clear hk h1
    go_enter Tryd.func18, Tryd.ntmps18
    go_wp2
    go_ret2
    exact ⟨rfl, rfl⟩
theorem refnew_ok (w : World) (k : Int) (k1 : 1 ≤ k) (k2 : k ≤ 32) : Calls Tryd.prog 18 #[.int .i64 k] w fun e w' => e = .returned (.tuple #[.pointer (some ⟨w.heap.size, 0, none⟩), .int .i64 0]) ∧ w.alloc (.cells #[.int .i64 k, .int .u64 0, .slice none 0 0] 57) = w' := by
  have h2 : decide (k < 1) = false := by simp; omega
  have h3 : decide ((32 : Int) < k) = false := by simp; omega
  clear k1 k2
  go_enter Tryd.func18, Tryd.ntmps18
  go_wp2
  go_ret2
  exact ⟨rfl, rfl⟩
theorem refnew_any (w : World) (k : Int) (e0 : Nat) (he : fe k 0 [] = e0) : Calls Tryd.prog 18 #[.int .i64 k] w fun e w' => MadeR w w' k 0 [] e0 e := by
  by_cases hk : k < 1 ∨ 32 < k
  · obtain rfl : e0 = 70 := by rw [← he, fe, if_pos hk]
    refine (refnew_no w k hk).mono ?_
    rintro e w' ⟨rfl, rfl⟩
    exact ⟨Below.refl _ _, .inl ⟨by decide, rfl⟩⟩
  · have k1 : 1 ≤ k := by omega
    have k2 : k ≤ 32 := by omega
    have hz : hts 0 = [] := ol_nil _ _ _ (Nat.zero_mod _)
    obtain rfl : e0 = 0 := by
      rw [← he, fe, if_neg hk, if_neg (by decide), if_neg]
      rintro (h | h)
      · exact h (by rw [Pl.ones_zero]; rfl)
      · exact h fun s hs => by cases hs
    refine (refnew_ok w k k1 k2).mono ?_
    rintro e w' ⟨rfl, rfl⟩
    refine ⟨bal (Below.refl _ _) _, .inr ⟨rfl, _, _, rfl, ⟨heap_alloc_new w _, by rw [hz]; exact ownK_nil _ _, k1, k2, by decide, by rw [hz]; rfl, fun s hs => by cases hs⟩, Nat.le_refl _⟩⟩
end Go.Proofs.YtncndefggegicabDoor
