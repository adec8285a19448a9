/-
  Walks of package peaks: numbers, a Range in memory, Clone, Clip. Own work.
-/
import Derived.Test.YtncndefggegicaaDoorKSpec
import Derived.Test.YtncndefggegicaaDoorHList
import Derived.Test.YtncndefggegicaaDoorPlWalkA
import Derived.BigQuiet
import Derived.ScopeJumps
import Derived.Lib.SliceRun
import Derived.WalkMore
namespace Go.Proofs.YtncndefggegicaaDoor
open Go.RowKit
open Pl (ones)
attribute [local go_sem ↓] Go.wp_at_zero Go.wp_at_succ
theorem u64_id (x : Int) (h0 : 0 ≤ x) (h1 : x < 18446744073709551616) : IntKind.u64.wrap x = x := by
  simp [IntKind.wrap, IntKind.signed, IntKind.bits]; omega
theorem trail_any (n : Nat) (w : World) (hn : n < 2 ^ 64) (t : Nat) (ht : tr 64 n = t) :
    Calls Tryd.prog 40 #[.int .u64 n] w fun e w' => e = .returned (.int .i64 (t : Int)) ∧ w' = w := by
  subst ht
  go_enter Tryd.func40, Tryd.ntmps40
  go_wp2
  go_loopg [4] 64 (fun g i wr => ∃ k : Nat, k ≤ 64 ∧ g = 64 - k ∧ i = .int .i64 k ∧ k + tr (64 - k) (n / 2 ^ k) = tr 64 n ∧ w = wr)
  case atStart =>
    go_light
    exact ⟨0, Nat.zero_le _, rfl, rfl, by simp, rfl⟩
  case round =>
    obtain ⟨k, hk, rfl, rfl, hs, rfl⟩ := hrel
    have hk0 : (0 : Int) ≤ (k : Int) := Int.natCast_nonneg _
    by_cases hlt : k < 64
    · have hk8 : (k : Int) < 64 := by omega
      have HC := Pl.isOne_any n k w hn hlt
      have HS := tr_step k n hlt
      by_cases hb : n / 2 ^ k % 2 = 1
      · rw [if_pos hb] at HS
        rw [decide_eq_true hb] at HC
        go_wp2_with (go_at_call 55; refine HC.mono ?_; rintro e w' ⟨rfl, rfl⟩)
        go_ret
        refine ⟨?_, rfl⟩
        rw [← hs, HS]
        rfl
      · rw [if_neg hb] at HS
        rw [decide_eq_false hb] at HC
        go_wp2_with (go_at_call 55; refine HC.mono ?_; rintro e w' ⟨rfl, rfl⟩)
        go_roundg (64 - (k + 1))
        case rel =>
          go_light
          exact ⟨k + 1, by omega, rfl, by go_num, by omega, rfl⟩
        case measure => go_light; omega
    · obtain rfl : k = 64 := by omega
      clear hk hlt
      go_wp2
      go_ret
      refine ⟨?_, rfl⟩
      rw [← hs]
      rfl
theorem pow_yes (h : Nat) (w : World) (hh : h < 64) (p : Nat) (hp : 2 ^ h = p) :
    Calls Tryd.prog 57 #[.int .i64 h] w fun e w' => e = .returned (.tuple #[.int .u64 (p : Int), .bool true]) ∧ w' = w := by
  have hk0 : (0 : Int) ≤ (h : Int) := Int.natCast_nonneg _
  have hk1 : (h : Int) < 64 := by omega
  have e1 : IntKind.u64.wrap ((2 : Int) ^ h) = (p : Int) := by
    have := Nat.pow_lt_pow_right (a := 2) (by decide) hh
    have e : ((2 : Int) ^ h) = (p : Int) := by rw [← hp]; simp
    rw [hp] at this
    rw [e, IntKind.wrap_u64]; omega
  clear hp
  go_enter Tryd.func57, Tryd.ntmps57
  go_wp2
  go_ret2
  exact ⟨rfl, rfl⟩
theorem items_any (h : Nat) (w : World) (hh : h ≤ 40) (p : Nat) (hp : 2 ^ h = p) :
    Calls Tryd.prog 41 #[.int .i64 h] w fun e w' => e = .returned (.int .u64 (p : Int)) ∧ w' = w := by
  have HP := pow_yes h w (by omega) p hp
  clear hp
  go_enter Tryd.func41, Tryd.ntmps41
  go_wp2_with (go_at_call 57; refine HP.mono ?_; rintro e w' ⟨rfl, rfl⟩)
  go_ret
  exact ⟨rfl, rfl⟩
theorem own_empty (w : World) : OwnS (w.alloc (.cells #[] 9)) w.heap.size (.slice (some ⟨w.heap.size, 0, none⟩) 0 0) [] :=
  ⟨rfl, .inr ⟨w.heap.size, 0, #[], rfl, Nat.le_refl _, heap_alloc_new w _, Nat.le_refl _, Nat.zero_le _, rfl, rfl⟩⟩
theorem own_one (w : World) (s : ByteArray) : OwnS (w.alloc (.cells #[.string s] 9)) w.heap.size (.slice (some ⟨w.heap.size, 0, none⟩) 1 1) [s] :=
  ⟨rfl, .inr ⟨w.heap.size, 1, #[.string s], rfl, Nat.le_refl _, heap_alloc_new w _, Nat.le_refl _, by unfold maxLen; omega, rfl, rfl⟩⟩
theorem own_mono {w : World} {B B' : Nat} {v : Value} {l : List ByteArray} (h : OwnS w B v l) (hB : B' ≤ B) : OwnS w B' v l := by
  obtain ⟨h1, h2⟩ := h
  refine ⟨h1, ?_⟩
  rcases h2 with h2 | ⟨g, cap, cur, hv, hg, h3⟩
  · exact .inl h2
  · exact .inr ⟨g, cap, cur, hv, by omega, h3⟩
set_option maxRecDepth 100000 in
theorem clone_any (w : World) (ao : Option Addr) (b off cap : Nat) (P : List ByteArray) (hr : RdS w ao b off P.length P) (hn : ao = none → cap = 0) (hmx : P.length ≤ 8796093022208) :
    Calls Tryd.prog 36 #[.slice ao P.length cap] w fun e w' => ∃ v, e = .returned v ∧ OwnS w' w.heap.size v P ∧ Below w.heap.size w w' := by
  have qT : ∀ (w : World) (a : Option Addr) (n c n' c' : Nat), (binOp .eql 25 (.slice a n c) (.slice none n' c')).run Tryd.prog w = .ok (.bool a.isNone) w := fun w a n c n' c' => Lib.run_eql_slice_nil w _ _ a n c n' c' Tryd.underlying25
  cases ao with
  | none =>
    obtain rfl := hn rfl
    have hP : P = [] := by
      cases P with
      | nil => rfl
      | cons m r => exact absurd (hr.ptr (by simp)) (by simp)
    subst hP
    clear hr hmx hn
    go_enter Tryd.func36, Tryd.ntmps36
    go_wp2
    go_ret
    exact ⟨_, rfl, owns_nil w _, Below.refl _ _⟩
  | some ad =>
    have HR : Hid (∀ o, RdS (w.alloc o) (some ad) b off P.length P) := fun o => hr.next (bal (Below.refl _ _) o) (Nat.le_refl _)
    have HM := hide hmx
    clear hr hn hmx
    go_enter Tryd.func36, Tryd.ntmps36
    go_wp2_with (at_builtin; refine wpList_append_S _ rfl _ _ rfl w.heap.size _ [] rfl (own_empty w) (some ad) b off cap P rfl (HR.out _) (fun h => by cases h) ?c1 ?c2 ?_)
    case c1 => have := HM.out; simp; omega
    case c2 => simp
    intro v1 w1 h1 hb1
    have HX : Hid (OwnS w1 w.heap.size v1 P ∧ Below w.heap.size w w1) := ⟨by simpa using h1, (bal (Below.refl _ _) _).trans hb1⟩
    clear h1 hb1
    go_wp2
    go_ret
    exact ⟨_, rfl, HX.out.1, HX.out.2⟩
theorem clip_any (w : World) (ao : Option Addr) (len cap : Nat) (hc : len ≤ cap) :
    Calls Tryd.prog 56 #[.slice ao len cap] w fun e w' => e = .returned (.slice ao len len) ∧ w' = w := by
  have hc' : (len : Int) ≤ (cap : Int) := by omega
  clear hc
  go_enter Tryd.func56, Tryd.ntmps56
  go_wp2
  go_ret
  exact ⟨rfl, rfl⟩
/-- One text appended to a clipped list: a new list. -/
theorem wpList_append_clip (w : World) {ops : Array Oper} {rest : List Oper} {o : Oper} {a : Act} {Q : Exit → Act → World → Prop}
    (hg : o.guard = none) (s x : Operand) (hop : o.op = Op.call { callee := Callee.builtin Builtin.append, args := #[s, x], argTypes := #[25, 25] })
    (ao : Option Addr) (b : Nat) (P : List ByteArray) (hs : a.eval s = .slice ao P.length P.length) (hr : RdS w ao b 0 P.length P) (ad : Addr) (d : ByteArray) (hx : a.eval x = .slice (some ad) 1 1) (hc : w.cell? ad = some (.string d))
    (hlen : P.length ≤ 1000)
    (hK : ∀ v' w', OwnS w' w.heap.size v' (P ++ [d]) → Below w.heap.size w w' → wpList Tryd.prog ops Q rest (a.put o.dst v') w') : wpList Tryd.prog ops Q (o :: rest) a w := by
  obtain ⟨i0, hi, hz0, hz1, hz2⟩ := info_parts Tryd.infoS
  have hnews : ∀ j u, [Value.string d][j]? = some u → w.cell? (ad.add j) = some u := by
    intro j u hj
    match j, hj with
    | 0, hj => simp at hj; subst hj; simpa [Addr.add] using hc
  refine wpList_append_grows w hg s x _ hop 9 i0 (.string ByteArray.empty) 1 16 Tryd.underlying25 hi hz0 hz1 hz2 rfl (by decide) ao P.length P.length (P.map Value.string) hs (fun h => ?_) (by simp) (fun ad' h j u hu => ?_) ad 1 1 [.string d] hx rfl hnews (by intro u hu; simp at hu; subst hu; rfl) (by omega) (by unfold maxLen; omega) (by omega) ?_
  · by_cases h0 : 0 < P.length
    · have := hr.ptr h0; rw [h] at this; cases this
    · omega
  · have hj : j < P.length := by have := (List.getElem?_eq_some_iff.1 hu).1; rwa [List.length_map] at this
    have e := hr.ptr (by omega)
    rw [h] at e
    cases e
    rw [Addr.add_mid]; exact hr.rng j u hu
  · intro v' w' h1 h2
    refine hK v' w' ?_ ((Below.refl _ _).grown h2 (Nat.le_refl _) (fun k hk => by cases hk))
    rw [OwnS, List.length_append, List.map_append]; exact h1
/-- A Range lies at p; v: the list of its peaks. -/
structure Rg (w : World) (p : Nat) (v : Value) (k : Int) (n : Nat) (P : List ByteArray) : Prop where
  blk : w.heap[p]? = some (.cells #[.int .i64 k, .int .u64 (n : Int), v] 82 (0, 0))
  own : OwnS w 0 v P
  k1 : 1 ≤ k
  k2 : k ≤ 32
  hn : n ≤ 1099511627776
  hl : P.length = (hts n).length
  hs : ∀ s ∈ P, s.size = clk k
section
variable {w W : World} {p q : Nat} {v u : Value} {k k' : Int} {n n' : Nat} {P P' : List ByteArray}
theorem Rg.lt (h : Rg w p v k n P) : p < w.heap.size := (Array.getElem?_eq_some_iff.1 h.blk).1
theorem Rg.c0 (h : Rg w p v k n P) : w.cell? ⟨p, 0, none⟩ = some (.int .i64 k) := by rw [cell_of_row w p 0 _ _ (0, 0) h.blk]; rfl
theorem Rg.c1 (h : Rg w p v k n P) : w.cell? ⟨p, 1, none⟩ = some (.int .u64 (n : Int)) := by rw [cell_of_row w p 1 _ _ (0, 0) h.blk]; rfl
theorem Rg.c2 (h : Rg w p v k n P) : w.cell? ⟨p, 2, none⟩ = some v := by rw [cell_of_row w p 2 _ _ (0, 0) h.blk]; rfl
theorem Rg.fz (h : Rg w p v k n P) (j : Nat) : w.frozen? ⟨p, j, none⟩ = false := frozen_of_row w p j _ _ h.blk
theorem Rg.short (h : Rg w p v k n P) : P.length ≤ 41 := by rw [h.hl]; exact hts_le n
theorem Rg.small (h : Rg w p v k n P) : ∀ s ∈ P, s.size ≤ 140737488351232 := fun s hs => by rw [h.hs s hs]; have := clk_le k; omega
theorem Rg.next {B : Nat} (h : Rg w p v k n P) (hb : Below B w W) (hB : w.heap.size ≤ B) : Rg W p v k n P :=
  ⟨by rw [hb.block p (Nat.lt_of_lt_of_le h.lt hB)]; exact h.blk, own_next h.own hb hB, h.k1, h.k2, h.hn, h.hl, h.hs⟩
/-- Its peaks, to be read. -/
theorem Rg.rd (h : Rg w p v k n P) : ∃ ao b cap, v = .slice ao P.length cap ∧ RdS w ao b 0 P.length P ∧ P.length ≤ cap ∧ (ao = none → cap = 0) :=
  owns_rds h.own (fun s hs => Nat.le_trans (h.small s hs) (by decide))
end
/-- Nothing but p's block has changed. -/
structure Ch (p : Nat) (w w' : World) : Prop where
  below : Below p w w'
  block : ∀ q, q < w.heap.size → q ≠ p → w'.heap[q]? = w.heap[q]?
theorem Ch.refl (p : Nat) (w : World) : Ch p w w := ⟨Below.refl _ _, fun _ _ _ => rfl⟩
theorem Ch.of {p : Nat} {w w' : World} (h : Below w.heap.size w w') (hp : p < w.heap.size) : Ch p w w' := ⟨h.mono (Nat.le_of_lt hp), fun q hq _ => h.block q hq⟩
theorem Ch.trans {p : Nat} {w w1 w2 : World} (h : Ch p w w1) (h2 : Ch p w1 w2) : Ch p w w2 :=
  ⟨h.below.trans h2.below, fun q hq hne => (h2.block q (Nat.lt_of_lt_of_le hq h.below.size) hne).trans (h.block q hq hne)⟩
theorem Ch.next {p : Nat} {w w1 w2 : World} (h : Ch p w w1) (h2 : Below w1.heap.size w1 w2) (hp : p < w.heap.size) : Ch p w w2 := h.trans (Ch.of h2 (Nat.lt_of_lt_of_le hp h.below.size))
theorem Ch.set {p : Nat} {w w' : World} (h : Ch p w w') (i : Nat) (v : Value) : Ch p w (w'.setCell ⟨p, i, none⟩ v) := by
  refine ⟨h.below.setCell (p := ⟨p, i, none⟩) (Nat.le_refl _) v, fun q hq hne => ?_⟩
  rw [← h.block q hq hne]
  exact Below.heap_setCell _ _ _ _ hne
theorem Ch.size {p : Nat} {w w' : World} (h : Ch p w w') : w.heap.size ≤ w'.heap.size := h.below.size
/-- A list of texts is untouched where a Range changes. -/
theorem own_ch {w w' : World} {p B : Nat} {u v : Value} {l P : List ByteArray} {k : Int} {n : Nat} (h : OwnS w B u l) (hr : Rg w p v k n P) (hc : Ch p w w') : OwnS w' B u l := by
  obtain ⟨h1, h2⟩ := h
  refine ⟨h1, ?_⟩
  rcases h2 with h2 | ⟨g, cap, cur, rfl, hg, hh, r⟩
  · exact .inl h2
  · refine .inr ⟨g, cap, cur, rfl, hg, ?_, r⟩
    rw [hc.block g (Array.getElem?_eq_some_iff.1 hh).1 ?_]
    · exact hh
    · rintro rfl
      have := hr.blk
      rw [hh] at this
      injection this with this
      injection this with _ h3 _
      exact absurd h3 (by decide)
theorem Rg.ch {w w' : World} {p q : Nat} {u v : Value} {k k' : Int} {n n' : Nat} {P P' : List ByteArray} (h : Rg w q u k' n' P') (hr : Rg w p v k n P) (hc : Ch p w w') (hne : q ≠ p) : Rg w' q u k' n' P' :=
  ⟨by rw [hc.block q h.lt hne]; exact h.blk, own_ch h.own hr hc, h.k1, h.k2, h.hn, h.hl, h.hs⟩
theorem Tb.ch {w w' : World} {p : Nat} {v : Value} {k : Int} {n : Nat} {P : List ByteArray} (ht : Tb w) (hr : Rg w p v k n P) (hc : Ch p w w') : Tb w' := by
  have hlt := range_lt ht.rs (cW_ne (by rw [RS_len]; decide))
  have hne : 1 ≠ p := by
    intro e
    have hx : 0 < (cW RS).length := by rw [cW_len, RS_len]; decide
    have h0 := ht.rs 0 _ (List.getElem?_eq_getElem hx)
    rw [e, Nat.zero_add, hr.c0] at h0
    simp [cW] at h0
  refine ⟨fun j u hu => ?_⟩
  rw [← ht.rs j u hu]
  have := hc.block _ hlt hne
  simp only [World.cell?, this]
end Go.Proofs.YtncndefggegicaaDoor
