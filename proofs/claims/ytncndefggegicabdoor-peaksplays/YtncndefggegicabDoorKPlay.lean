/-
  One call at the program and at the reference: plays. Own work.
-/
import Derived.Test.YtncndefggegicabDoorKRefF
import Derived.Test.YtncndefggegicabDoorKOps
namespace Go.Proofs.YtncndefggegicabDoor
open Go.RowKit
attribute [local go_sem ↓] Go.wp_at_zero Go.wp_at_succ
/-- The program's Range and the reference's, of one size and the same peaks. -/
structure Pair (w : World) (p : Nat) (v : Value) (q : Nat) (u : Value) (k : Int) (n : Nat) (P : List ByteArray) : Prop where
  rg : Rg w p v k n P
  rf : Rf w q u k n P
  pq : p < q
theorem Pair.next {w W : World} {p : Nat} {v : Value} {q : Nat} {u : Value} {k : Int} {n : Nat} {P : List ByteArray} (h : Pair w p v q u k n P) (hb : Below w.heap.size w W) : Pair W p v q u k n P :=
  ⟨h.rg.next hb (Nat.le_refl _), h.rf.next hb (Nat.le_refl _), h.pq⟩
/-- Nothing changed but the two. -/
structure Ch2 (p q : Nat) (w w' : World) : Prop where
  below : Below p w w'
  block : ∀ b, b < w.heap.size → b ≠ p → b ≠ q → w'.heap[b]? = w.heap[b]?
theorem Ch2.of {p q : Nat} {w w' : World} (h : Below w.heap.size w w') (hp : p < w.heap.size) : Ch2 p q w w' := ⟨h.mono (Nat.le_of_lt hp), fun b hb _ _ => h.block b hb⟩
theorem Ch2.p {p q : Nat} {w w' : World} (h : Ch p w w') : Ch2 p q w w' := ⟨h.below, fun b hb h1 _ => h.block b hb h1⟩
theorem Ch2.q {p q : Nat} {w w' : World} (h : Ch q w w') (hpq : p < q) : Ch2 p q w w' := ⟨h.below.mono (Nat.le_of_lt hpq), fun b hb _ h2 => h.block b hb h2⟩
theorem Ch2.trans {p q : Nat} {w w1 w2 : World} (h : Ch2 p q w w1) (h2 : Ch2 p q w1 w2) : Ch2 p q w w2 :=
  ⟨h.below.trans h2.below, fun b hb x y => (h2.block b (Nat.lt_of_lt_of_le hb h.below.size) x y).trans (h.block b hb x y)⟩
theorem row_ch2 {w w' : World} {B T s n p q : Nat} {x : Value} {cs : List Value} {a1 a2 : Array Value} {f1 f2 : Nat × Nat} (h : w.ownsRow B T s x n cs) (hp : w.heap[p]? = some (.cells a1 60 f1)) (hq : w.heap[q]? = some (.cells a2 57 f2)) (hc : Ch2 p q w w') (h1 : T ≠ 60) (h2 : T ≠ 57) : w'.ownsRow B T s x n cs := by
  obtain ⟨g1, g2⟩ := h
  refine ⟨g1, ?_⟩
  rcases g2 with g2 | ⟨g, cap, cur, rfl, hg, hh, r⟩
  · exact .inl g2
  · refine .inr ⟨g, cap, cur, rfl, hg, ?_, r⟩
    rw [hc.block g (Array.getElem?_eq_some_iff.1 hh).1 ?_ ?_]
    · exact hh
    · rintro rfl
      rw [hh] at hp
      have := Option.some.inj hp
      injection this with _ h3 _
      exact h1 h3
    · rintro rfl
      rw [hh] at hq
      have := Option.some.inj hq
      injection this with _ h3 _
      exact h2 h3
theorem Rg.ch2 {w w' : World} {p q p' : Nat} {v u v' : Value} {k k1 k2 : Int} {n n1 n2 : Nat} {P P1 P2 : List ByteArray} (h : Rg w p' v' k n P) (h1 : Rg w p v k1 n1 P1) (h2 : Rf w q u k2 n2 P2) (hc : Ch2 p q w w') (hp : p' ≠ p) (hq : p' ≠ q) : Rg w' p' v' k n P :=
  ⟨by rw [hc.block p' h.lt hp hq]; exact h.blk, row_ch2 h.own h1.blk h2.blk hc (by decide) (by decide), h.k1, h.k2, h.hn, h.hl, h.hs⟩
theorem Rf.ch2 {w w' : World} {p q p' : Nat} {v u v' : Value} {k k1 k2 : Int} {n n1 n2 : Nat} {P P1 P2 : List ByteArray} (h : Rf w p' v' k n P) (h1 : Rg w p v k1 n1 P1) (h2 : Rf w q u k2 n2 P2) (hc : Ch2 p q w w') (hp : p' ≠ p) (hq : p' ≠ q) : Rf w' p' v' k n P :=
  ⟨by rw [hc.block p' h.lt hp hq]; exact h.blk, row_ch2 h.own h1.blk h2.blk hc (by decide) (by decide), h.k1, h.k2, h.hn, h.hl, h.hs⟩
/-- One alone: the other is as it was. -/
theorem Rf.chp {w w' : World} {p q : Nat} {v u : Value} {k k1 : Int} {n n1 : Nat} {P P1 : List ByteArray} (h : Rf w q u k n P) (h1 : Rg w p v k1 n1 P1) (hc : Ch p w w') (hp : q ≠ p) : Rf w' q u k n P := by
  refine ⟨by rw [hc.block q h.lt hp]; exact h.blk, ?_, h.k1, h.k2, h.hn, h.hl, h.hs⟩
  obtain ⟨g1, g2⟩ := h.own
  refine ⟨g1, ?_⟩
  rcases g2 with g2 | ⟨g, cap, cur, e, hg, hh, r⟩
  · exact .inl g2
  · refine .inr ⟨g, cap, cur, e, hg, ?_, r⟩
    rw [hc.block g (Array.getElem?_eq_some_iff.1 hh).1 ?_]
    · exact hh
    · rintro rfl
      have hx := h1.blk
      rw [hh] at hx
      have := Option.some.inj hx
      injection this with _ h3 _
      exact absurd h3 (by decide)
theorem own_chq {w w' : World} {q B : Nat} {x u : Value} {l : List ByteArray} {k : Int} {n : Nat} {P : List ByteArray} (h : OwnS w B x l) (h1 : Rf w q u k n P) (hc : Ch q w w') : OwnS w' B x l := by
  obtain ⟨g1, g2⟩ := h
  refine ⟨g1, ?_⟩
  rcases g2 with g2 | ⟨g, cap, cur, e, hg, hh, r⟩
  · exact .inl g2
  · refine .inr ⟨g, cap, cur, e, hg, ?_, r⟩
    rw [hc.block g (Array.getElem?_eq_some_iff.1 hh).1 ?_]
    · exact hh
    · rintro rfl
      have hx := h1.blk
      rw [hh] at hx
      have := Option.some.inj hx
      injection this with _ h3 _
      exact absurd h3 (by decide)
theorem Rg.chq {w w' : World} {p q : Nat} {v u : Value} {k k1 : Int} {n n1 : Nat} {P P1 : List ByteArray} (h : Rg w p v k n P) (h1 : Rf w q u k1 n1 P1) (hc : Ch q w w') (hp : p ≠ q) : Rg w' p v k n P :=
  ⟨by rw [hc.block p h.lt hp]; exact h.blk, own_chq h.own h1 hc, h.k1, h.k2, h.hn, h.hl, h.hs⟩
/-- What plays leaves. -/
def Plyd (w w' : World) (p q : Nat) (K : Int) : Prop := (∃ v u n P, Pair w' p v q u K n P) ∧ Ch2 p q w w'
set_option maxRecDepth 100000 in
set_option maxHeartbeats 2000000 in
theorem plays_any (W0 w : World) (ht : Tb W0) (hr : Tr W0) (hb0 : Below W0.heap.size W0 w) (p q : Nat) (hp : W0.heap.size ≤ p) (v u : Value) (K : Int) (n : Nat) (P : List ByteArray) (hP : Pair w p v q u K n P) (o : OpV) (ho : o.s.size ≤ 140737488351232) :
    Calls Tryd.prog 6 #[.pointer (some ⟨p, 0, none⟩), .pointer (some ⟨q, 0, none⟩), .agg #[.int .i64 o.kind, .int .i64 o.which, .int .i64 o.h, .string o.s, .bool o.r]] w fun e w' => e = .returned (.bool true) ∧ Plyd w w' p q K := by
  obtain ⟨kd, wh, h, s, r⟩ := o
  have hkk : (K.toNat : Int) = K := Int.toNat_of_nonneg (by have := hP.rg.k1; omega)
  have HD0 : Hid (∀ W, Calls Tryd.prog 21 #[.string s, .int .i64 K] W fun e w' => e = .returned (.string (padS s K.toNat)) ∧ Below W.heap.size W w') := fun W => by
    have := digest_any W s ho K.toNat (by have := hP.rg.k2; omega) _ rfl
    rw [hkk] at this
    exact this
  obtain ⟨d, hd⟩ : ∃ d, opS ⟨kd, wh, h, s, r⟩ K = d := ⟨_, rfl⟩
  obtain ⟨w0, hw0⟩ : ∃ w0, w.alloc (.cells #[.int .i64 kd, .int .i64 wh, .int .i64 h, .string s, .bool r] 34) = w0 := ⟨_, rfl⟩
  have X0 : w0.heap[w.heap.size]? = some (.cells #[.int .i64 kd, .int .i64 wh, .int .i64 h, .string s, .bool r] 34 (0, 0)) := by rw [← hw0]; exact heap_alloc_new w _
  have b0 : Below w.heap.size w w0 := by rw [← hw0]; exact bal (Below.refl w.heap.size w) _
  have HC : Hid (∀ W : World, W.heap[w.heap.size]? = w0.heap[w.heap.size]? → W.cell? ⟨w.heap.size, 0, none⟩ = some (.int .i64 kd) ∧ W.cell? ⟨w.heap.size, 2, none⟩ = some (.int .i64 h)) := fun W hW => by
    have X := hW.trans X0
    refine ⟨?_, ?_⟩
    · rw [cell_of_row W _ 0 _ _ (0, 0) X]; rfl
    · rw [cell_of_row W _ 2 _ _ (0, 0) X]; rfl
  have HP : Hid (∀ W, Below w.heap.size w W → Pair W p v q u K n P) := fun W hb => hP.next hb
  have HT : Hid (∀ W, Below p w W → Tb W ∧ Tr W) := fun W hb => ⟨ht.next (hb0.trans (hb.mono hp)), hr.next (hb0.trans (hb.mono hp))⟩
  have HL : Hid (p < q ∧ p < w.heap.size ∧ q < w.heap.size ∧ 1 ≤ K ∧ K ≤ 32 ∧ w.heap.size < w0.heap.size) := ⟨hP.pq, hP.rg.lt, hP.rf.lt, hP.rg.k1, hP.rg.k2, (Array.getElem?_eq_some_iff.1 X0).1⟩
  have y3 : w0.cell? ⟨w.heap.size, 3, none⟩ = some (.string s) := by rw [cell_of_row w0 _ 3 _ _ (0, 0) X0]; rfl
  have y4 : w0.cell? ⟨w.heap.size, 4, none⟩ = some (.bool r) := by rw [cell_of_row w0 _ 4 _ _ (0, 0) X0]; rfl
  have HB0 := hide b0
  have HPs : Hid ((∀ x ∈ P, x.size ≤ 140737488351232) ∧ P.length ≤ 1000) := ⟨fun x hx => by rw [hP.rg.hs x hx]; have := clk_le K; omega, by have := hP.rf.short; omega⟩
  have HAs : Hid (∀ h d, (∀ x ∈ an K n P h d, x.size ≤ 140737488351232) ∧ (an K n P h d).length ≤ 1000) := fun h d => an_size h d hP.rg.k1 hP.rg.k2 hP.rg.hs
  have kq : w0.cell? ⟨q, 0, none⟩ = some (.int .i64 K) := (HP.out w0 b0).rf.c0
  obtain ⟨rt, hrt⟩ : ∃ rt, rgD K n P = rt := ⟨_, rfl⟩
  have HRt := hide hrt
  have HN : Hid (∀ W, Below w0.heap.size w0 W → Below w.heap.size w W ∧ Below p w W ∧ W.heap[w.heap.size]? = w0.heap[w.heap.size]?) := fun W hb => ⟨bnext b0 hb, (bnext b0 hb).mono (Nat.le_of_lt HL.out.2.1), hb.block _ HL.out.2.2.2.2.2⟩
  have HAdd : Hid (∀ (e0 n' : Nat) (P' A : List ByteArray), Hid (er K n 0 d = e0 ∧ nxN K n 0 d = n' ∧ nxP K n P 0 d = P' ∧ an K n P 0 d = A) → ∀ W, Below w0.heap.size w0 W → Calls Tryd.prog 15 #[.pointer (some ⟨p, 0, none⟩), .string d] W fun e w' => ∃ vm v', e = .returned (.tuple #[vm, .int .i64 (e0 : Int)]) ∧ Did W w' p v K n' P' vm A v') := fun e0 n' P' A he W hb =>
    add_any W (HT.out W (HN.out W hb).2.1).1 p v K n P (HP.out W (HN.out W hb).1).rg d e0 n' P' A he
  have HRAdd : Hid (∀ (e0 n' : Nat) (P' A : List ByteArray), Hid (er K n 0 d = e0 ∧ nxN K n 0 d = n' ∧ nxP K n P 0 d = P' ∧ an K n P 0 d = A) → ∀ W W1 vm v', Below w0.heap.size w0 W → Did W W1 p v K n' P' vm A v' → Calls Tryd.prog 22 #[.pointer (some ⟨q, 0, none⟩), .string d] W1 fun e w' => ∃ vm2 u', e = .returned (.tuple #[vm2, .int .i64 (e0 : Int)]) ∧ DidR W1 w' q K n' P' vm2 A u') := fun e0 n' P' A he W W1 vm v' hb hD =>
    refadd_any W1 (HT.out W1 ((HN.out W hb).2.1.trans hD.ch.below)).2 q u K n P ((HP.out W (HN.out W hb).1).rf.chp (HP.out W (HN.out W hb).1).rg hD.ch (by have := HL.out.1; omega)) d e0 n' P' A he
  have HFin : Hid (∀ W W1 W2 W3 vm v' vm2 u' n' P' A, Below w0.heap.size w0 W → Did W W1 p v K n' P' vm A v' → DidR W1 W2 q K n' P' vm2 A u' → Below W2.heap.size W2 W3 → OwnS W2 W.heap.size vm A ∧ Plyd w W3 p q K) := fun W W1 W2 W3 vm v' vm2 u' n' P' A hb hD hR hb3 => by
    have hne : q ≠ p := by have := HL.out.1; omega
    have h1 := (HP.out W (HN.out W hb).1).rf.chp (HP.out W (HN.out W hb).1).rg hD.ch hne
    have hc : Ch2 p q w W2 := ((Ch2.of (HN.out W hb).1 HL.out.2.1).trans (Ch2.p hD.ch)).trans (Ch2.q hR.ch HL.out.1)
    have hlt := HL.out.2.1
    exact ⟨own_chq hD.own h1 hR.ch, ⟨v', u', n', P', (hD.rg.chq h1 hR.ch hne.symm).next hb3 (Nat.le_refl _), hR.rf.next hb3 (Nat.le_refl _), HL.out.1⟩, hc.trans (Ch2.of hb3 (Nat.lt_of_lt_of_le hlt hc.below.size))⟩
  have HFb : Hid (∀ W, Below w0.heap.size w0 W → Plyd w W p q K) := fun W hb => ⟨⟨v, u, n, P, HP.out W (HN.out W hb).1⟩, Ch2.of (HN.out W hb).1 HL.out.2.1⟩
  have HJ : Hid (∀ (e0 n' : Nat) (P' A : List ByteArray), Hid (er K n h d = e0 ∧ nxN K n h d = n' ∧ nxP K n P h d = P' ∧ an K n P h d = A) → ∀ W, Below w0.heap.size w0 W → Calls Tryd.prog 23 #[.pointer (some ⟨p, 0, none⟩), .int .i64 h, .string d] W fun e w' => ∃ vm v', e = .returned (.int .i64 (e0 : Int)) ∧ Did W w' p v K n' P' vm A v') := fun e0 n' P' A he W hb =>
    join_any W (HT.out W (HN.out W hb).2.1).1 p v K n P (HP.out W (HN.out W hb).1).rg h d e0 n' P' A he
  have HRJ : Hid (∀ (e0 n' : Nat) (P' A : List ByteArray), Hid (er K n h d = e0 ∧ nxN K n h d = n' ∧ nxP K n P h d = P' ∧ an K n P h d = A) → ∀ W W1 vm v', Below w0.heap.size w0 W → Did W W1 p v K n' P' vm A v' → Calls Tryd.prog 24 #[.pointer (some ⟨q, 0, none⟩), .int .i64 h, .string d] W1 fun e w' => ∃ vm2 u', e = .returned (.int .i64 (e0 : Int)) ∧ DidR W1 w' q K n' P' vm2 A u') := fun e0 n' P' A he W W1 vm v' hb hD =>
    refjoin_any W1 (HT.out W1 ((HN.out W hb).2.1.trans hD.ch.below)).2 q u K n P ((HP.out W (HN.out W hb).1).rf.chp (HP.out W (HN.out W hb).1).rg hD.ch (by have := HL.out.1; omega)) h d e0 n' P' A he
  have HRJ1 : Hid (∀ (e0 n' : Nat) (P' A : List ByteArray), Hid (er K n h d = e0 ∧ nxN K n h d = n' ∧ nxP K n P h d = P' ∧ an K n P h d = A) → ∀ W, Below w0.heap.size w0 W → Calls Tryd.prog 24 #[.pointer (some ⟨q, 0, none⟩), .int .i64 h, .string d] W fun e w' => ∃ vm2 u', e = .returned (.int .i64 (e0 : Int)) ∧ DidR W w' q K n' P' vm2 A u') := fun e0 n' P' A he W hb =>
    refjoin_any W (HT.out W (HN.out W hb).2.1).2 q u K n P (HP.out W (HN.out W hb).1).rf h d e0 n' P' A he
  have HJ2 : Hid (∀ (e0 n' : Nat) (P' A : List ByteArray), Hid (er K n h d = e0 ∧ nxN K n h d = n' ∧ nxP K n P h d = P' ∧ an K n P h d = A) → ∀ W W1 vm u', Below w0.heap.size w0 W → DidR W W1 q K n' P' vm A u' → Calls Tryd.prog 23 #[.pointer (some ⟨p, 0, none⟩), .int .i64 h, .string d] W1 fun e w' => ∃ vm2 v', e = .returned (.int .i64 (e0 : Int)) ∧ Did W1 w' p v K n' P' vm2 A v') := fun e0 n' P' A he W W1 vm u' hb hR =>
    join_any W1 (HT.out W1 ((HN.out W hb).2.1.trans (hR.ch.below.mono (Nat.le_of_lt HL.out.1)))).1 p v K n P ((HP.out W (HN.out W hb).1).rg.chq (HP.out W (HN.out W hb).1).rf hR.ch (by have := HL.out.1; omega)) h d e0 n' P' A he
  have HFin2 : Hid (∀ W W1 W2 vm v' vm2 u' n' P' A, Below w0.heap.size w0 W → DidR W W1 q K n' P' vm2 A u' → Did W1 W2 p v K n' P' vm A v' → Plyd w W2 p q K) := fun W W1 W2 vm v' vm2 u' n' P' A hb hR hD => by
    have hne : q ≠ p := by have := HL.out.1; omega
    have h1 := (HP.out W (HN.out W hb).1).rg.chq (HP.out W (HN.out W hb).1).rf hR.ch hne.symm
    exact ⟨⟨v', u', n', P', hD.rg, hR.rf.chp h1 hD.ch hne, HL.out.1⟩, ((Ch2.of (HN.out W hb).1 HL.out.2.1).trans (Ch2.q hR.ch HL.out.1)).trans (Ch2.p hD.ch)⟩
  have HXc : Hid (∀ (b : Nat) (W W1 : World), (b = p ∨ b = q) → w0.heap.size ≤ W.heap.size → W.heap[w.heap.size]? = w0.heap[w.heap.size]? → Ch b W W1 → W1.heap[w.heap.size]? = w0.heap[w.heap.size]?) := fun b W W1 hbq hsz hW hc => by
    have := HL.out
    rw [hc.block w.heap.size (by omega) (by omega)]; exact hW
  clear hP ht hr hb0 hp ho hkk hrt X0 b0
  have HGo : ∃ x : Bool, r = x := ⟨_, rfl⟩
  clear HGo
  cases r
  case' false =>
    have e3 : d = s := by rw [← hd]; simp [opS]
    subst e3
    clear hd HD0
    go_enter Tryd.func6, Tryd.ntmps6
    go_upto_region 4 with (fail)
    obtain ⟨w1, hw1⟩ : ∃ w1, w0 = w1 := ⟨_, rfl⟩
    have HB1 : Hid (Below w0.heap.size w0 w1) := by rw [hw1]; exact Below.refl _ _
    rw [hw1]
    clear hw1
  case' true =>
    have e3 : padS s K.toNat = d := by rw [← hd]; simp [opS]
    rw [e3] at HD0
    clear hd e3
    go_enter Tryd.func6, Tryd.ntmps6
    go_upto_region 4 with (go_at_call 21; with_reducible refine (HD0.out _).mono ?_; rintro e w1 ⟨rfl, hb1⟩)
    have HB1 := hide hb1
    clear hb1 HD0
  all_goals
    clear hw0 y3 y4 kq HB0
    obtain ⟨z0, z2⟩ := HC.out w1 (HN.out w1 HB1.out).2.2
    by_cases k1 : kd = 1
    · subst k1
      obtain ⟨e0, he0⟩ : ∃ e0, er K n 0 d = e0 := ⟨_, rfl⟩
      obtain ⟨n', hn'⟩ : ∃ n', nxN K n 0 d = n' := ⟨_, rfl⟩
      obtain ⟨P', hP'⟩ : ∃ P', nxP K n P 0 d = P' := ⟨_, rfl⟩
      obtain ⟨A, hA⟩ : ∃ A, an K n P 0 d = A := ⟨_, rfl⟩
      have HE : Hid (er K n 0 d = e0 ∧ nxN K n 0 d = n' ∧ nxP K n P 0 d = P' ∧ an K n P 0 d = A) := ⟨he0, hn', hP', hA⟩
      have HAs1 := HAs.out 0 d
      rw [hA] at HAs1
      have HA1 := hide HAs1
      clear he0 hn' hP' hA HAs1
      go_wp2_with (first
        | (go_at_call 15; with_reducible refine (HAdd.out e0 n' P' A HE w1 HB1.out).mono ?_; rintro e w2 ⟨vm, v', rfl, hD⟩; have HDd := hide hD; clear hD)
        | (go_at_call 22; with_reducible refine (HRAdd.out e0 n' P' A HE w1 w2 vm v' HB1.out HDd.out).mono ?_; rintro e w3 ⟨vm2, u', rfl, hR⟩; have HRr := hide hR; clear hR)
        | (go_at_call 9; with_reducible refine (same_own w3 vm vm2 _ _ A (HFin.out _ _ _ _ _ _ _ _ _ _ _ HB1.out HDd.out HRr.out (Below.refl _ _)).1 HRr.out.own HA1.out.1 (by have := HA1.out.2; omega)).mono ?_; rintro e w4 ⟨rfl, hb4⟩; have HB4 := hide hb4; clear hb4))
      go_ret
      first | exact ⟨rfl, (HFin.out _ _ _ _ _ _ _ _ _ _ _ HB1.out HDd.out HRr.out HB4.out).2⟩ | exact (HFin.out _ _ _ _ _ _ _ _ _ _ _ HB1.out HDd.out HRr.out HB4.out).2
    · by_cases k2 : kd = 2
      · subst k2
        obtain ⟨e0, he0⟩ : ∃ e0, er K n h d = e0 := ⟨_, rfl⟩
        obtain ⟨n', hn'⟩ : ∃ n', nxN K n h d = n' := ⟨_, rfl⟩
        obtain ⟨P', hP'⟩ : ∃ P', nxP K n P h d = P' := ⟨_, rfl⟩
        obtain ⟨A, hA⟩ : ∃ A, an K n P h d = A := ⟨_, rfl⟩
        have HE : Hid (er K n h d = e0 ∧ nxN K n h d = n' ∧ nxP K n P h d = P' ∧ an K n P h d = A) := ⟨he0, hn', hP', hA⟩
        clear he0 hn' hP' hA k1
        go_upto_region 10 with (fail)
        have hbD : Below w0.heap.size w0 w1.drew := HB1.out.drew
        have hx0 := (HN.out _ hbD).2.2
        have y2 := (HC.out _ hx0).2
        go_region_held3 (fun w' => w'.cell? ⟨w.heap.size, 2, none⟩ = some (.int .i64 h)) (first | assumption | (exact (HC.out _ hx2).2) | (exact (HC.out _ hx1).2) | (exact (HC.out _ hx0).2)) (first
          | (go_at_call 23; with_reducible refine (HJ.out e0 n' P' A HE _ hbD).mono ?_; rintro e w2 ⟨vm, v', rfl, hD⟩; have hx1 := HXc.out p _ _ (Or.inl rfl) hbD.size hx0 hD.ch)
          | (go_at_call 24; with_reducible refine (HRJ.out e0 n' P' A HE _ w2 vm v' hbD hD).mono ?_; rintro e w3 ⟨vm2, u', rfl, hR⟩; have hx2 := HXc.out q _ _ (Or.inr rfl) (Nat.le_trans hbD.size hD.ch.size) hx1 hR.ch)
          | (go_at_call 24; with_reducible refine (HRJ1.out e0 n' P' A HE _ hbD).mono ?_; rintro e w2 ⟨vm2, u', rfl, hR⟩; have hx1 := HXc.out q _ _ (Or.inr rfl) hbD.size hx0 hR.ch)
          | (go_at_call 23; with_reducible refine (HJ2.out e0 n' P' A HE _ w2 vm2 u' hbD hR).mono ?_; rintro e w3 ⟨vm, v', rfl, hD⟩; have hx2 := HXc.out p _ _ (Or.inl rfl) (Nat.le_trans hbD.size hR.ch.size) hx1 hD.ch))
        all_goals
          have HG : Hid (Plyd w w3 p q K) := by first | exact (HFin.out _ _ _ _ _ _ _ _ _ _ _ hbD hD hR (Below.refl _ _)).2 | exact HFin2.out _ _ _ _ _ _ _ _ _ _ hbD hR hD
          clear hD hR hx0 hx1 hx2 y2 hbD
          go_wp2
          go_ret
          first | exact ⟨rfl, HG.out⟩ | exact HG.out
      · have f1 : (kd == 1) = false := by simpa using k1
        have f2 : (kd == 2) = false := by simpa using k2
        by_cases k3 : kd = 3
        · subst k3
          clear f1 f2 k1 k2
          go_wp2_with (first
            | (go_at_call 7; with_reducible refine (size_any w1 p v K n P (HP.out w1 (HN.out w1 HB1.out).1).rg).mono ?_; rintro e w2 ⟨rfl, hb2⟩; have HB2 := hide (bnext HB1.out hb2); clear hb2)
            | (go_at_call 8; with_reducible refine (refsize_any w2 q u K n P (HP.out w2 (HN.out w2 HB2.out).1).rf).mono ?_; rintro e w3 ⟨rfl, hb3⟩; have HB3 := hide (bnext HB2.out hb3); clear hb3))
          go_ret
          first | exact ⟨rfl, HFb.out _ HB3.out⟩ | exact HFb.out _ HB3.out
        · have f3 : (kd == 3) = false := by simpa using k3
          by_cases k4 : kd = 4
          · subst k4
            clear f1 f2 f3 k1 k2 k3
            go_wp2_with (first
              | (go_at_call 10; with_reducible refine (rpeaks_own w1 p v K n P (HP.out w1 (HN.out w1 HB1.out).1).rg).mono ?_; rintro e w2 ⟨u1, rfl, ho1, hb2⟩; have HB2 := hide (bnext HB1.out hb2); have HO1 := hide ho1; clear hb2 ho1)
              | (go_at_call 11; with_reducible refine (refpeaks_own w2 q u K n P (HP.out w2 (HN.out w2 HB2.out).1).rf).mono ?_; rintro e w3 ⟨u2, rfl, ho2, hb3⟩; have HB3 := hide (bnext HB2.out hb3); have HO2 := hide ho2; have HO3 := hide (own_next HO1.out hb3 (Nat.le_refl _)); clear hb3 ho2)
              | (go_at_call 9; with_reducible refine (same_own w3 u1 u2 _ _ P HO3.out HO2.out HPs.out.1 (by have := HPs.out.2; omega)).mono ?_; rintro e w4 ⟨rfl, hb4⟩; have HB4 := hide (bnext HB3.out hb4); clear hb4))
            go_ret
            first | exact ⟨rfl, HFb.out _ HB4.out⟩ | exact HFb.out _ HB4.out
          · have f4 : (kd == 4) = false := by simpa using k4
            go_wp2_with (first
              | (go_at_call 12; with_reducible refine (rroot_any w1 (HT.out w1 (HN.out w1 HB1.out).2.1).1 p v K n P (HP.out w1 (HN.out w1 HB1.out).1).rg rt HRt).mono ?_; rintro e w2 ⟨rfl, hb2⟩; have HB2 := hide (bnext HB1.out hb2); clear hb2)
              | (go_at_call 13; with_reducible refine (refrroot_any w2 (HT.out w2 (HN.out w2 HB2.out).2.1).2 q u K n P (HP.out w2 (HN.out w2 HB2.out).1).rf rt HRt).mono ?_; rintro e w3 ⟨rfl, hb3⟩; have HB3 := hide (bnext HB2.out hb3); clear hb3))
            go_ret
            first | exact ⟨rfl, HFb.out _ HB3.out⟩ | exact HFb.out _ HB3.out
end Go.Proofs.YtncndefggegicabDoor
