/-
  Two pairs; plays of any Op. Own work.
-/
import Derived.Test.YtmhedhhbdpdafabQPl6
import Derived.Test.YtmhedhhbdpdafabGAl
import Derived.Test.YtmhedhhbdpdafabQOpd
namespace Go.Proofs.Ytmhedhhbdpdafab
open Go.RowKit
/-- What an Op is held to, and that it is small. -/
structure OpOz (w : World) (o : OpV) : Prop where
  ok : OpOk w o
  dt : o.data.size ≤ 1048576
  kl : o.keep.length ≤ 1048576
  kz : o.ka = none → o.kc = 0
theorem plays_any {F : Nat → Prop} {pa p r k : Nat} {D : DV} {V : RV} (w0 w : World) (hw : Below w0.heap.size w0 w) (h : Pq w w F pa p r D V) (hF : ∀ x, F x → w0.heap.size ≤ x ∧ x < w.heap.size) (hb : Bd D V k) (hk1 : k + 1 ≤ 2097152) (o : OpV) (ho : OpOz w0 o) :
    Calls Try.prog 8 #[.pointer (some ⟨pa, 0, none⟩), o.val] w fun e w' => e = .returned (.bool true) ∧ PL w w' F pa k := by
  obtain ⟨kind, which, nm, dt, x, n, ka, kc, kb, ko, ks⟩ := o
  obtain ⟨⟨o1, o2, o3, o4, o5, o6, _⟩, o7, o8, o9⟩ := ho
  simp only at o1 o2 o3 o4 o5 o6 o7 o8 o9
  have hk : RdL w ka kb ko ks := o6.next hw
  have hF2 : ∀ x, F x → x < w.heap.size := fun x hx => (hF x hx).2
  unfold OpV.val
  simp only
  by_cases k1 : kind = 1 ∨ kind = 2 ∨ kind = 3
  · exact plays_act w h hF2 hb hk1 kind which x n k1 nm dt ka ks.length kc o1 (by omega) o2 o3
  · by_cases k6 : kind = 6
    · subst k6
      refine plays_lay w h hF2 hb hk1 which x n nm dt ka kb ko kc ks o3 hk (by omega) o9 (fun h0 => ?_)
      have h1 := o6.cell 0 h0
      have h2 : kb < w0.heap.size := World.block_lt_of_cell? _ _ h1
      exact ⟨fun q => by have := (hF kb q).1; omega, Nat.lt_of_lt_of_le h2 hw.size⟩
    · by_cases k9 : kind = 9
      · subst k9
        exact plays_anew w h hb hk1 which x n nm dt ka kb ko kc ks o4 o5 hk (by omega)
      · exact plays_look w h hb hk1 kind which x n (fun e => k1 (.inl e)) (fun e => k1 (.inr (.inl e))) (fun e => k1 (.inr (.inr e))) k6 k9 nm dt ka kb ko kc ks o1 o2 o3 o4 o5 hk (by omega)
/-- Two pairs apart, both made since w0. -/
def Tp (w0 w : World) (pa qa k : Nat) : Prop := ∃ (F G : Nat → Prop) (p r : Nat) (D : DV) (V : RV) (q s : Nat) (E : DV) (U : RV), (∀ x, F x → ¬ G x) ∧ (∀ x, F x → w0.heap.size ≤ x ∧ x < w.heap.size) ∧ (∀ x, G x → w0.heap.size ≤ x ∧ x < w.heap.size) ∧ Pq w w F pa p r D V ∧ Pq w w G qa q s E U ∧ Bd D V k ∧ Bd E U k ∧ Below w0.heap.size w0 w
theorem Tp.below {w0 w : World} {pa qa k : Nat} (h : Tp w0 w pa qa k) : Below w0.heap.size w0 w := by
  obtain ⟨F, G, p, r, D, V, q, s, E, U, h1, h2, h3, h4, h5, h6, h7, h8⟩ := h
  exact h8
theorem Tp.symm {w0 w : World} {pa qa k : Nat} (h : Tp w0 w pa qa k) : Tp w0 w qa pa k := by
  obtain ⟨F, G, p, r, D, V, q, s, E, U, h1, h2, h3, h4, h5, h6, h7, h8⟩ := h
  exact ⟨G, F, q, s, E, U, p, r, D, V, fun x a b => h1 x b a, h3, h2, h5, h4, h7, h6, h8⟩
theorem Tp.next {w0 w W : World} {pa qa k : Nat} (h : Tp w0 w pa qa k) (hb : Below w.heap.size w W) : Tp w0 W pa qa k := by
  obtain ⟨F, G, p, r, D, V, q, s, E, U, h1, h2, h3, h4, h5, h6, h7, h8⟩ := h
  have hz := hb.size
  exact ⟨F, G, p, r, D, V, q, s, E, U, h1, fun x hx => ⟨(h2 x hx).1, Nat.lt_of_lt_of_le (h2 x hx).2 hz⟩, fun x hx => ⟨(h3 x hx).1, Nat.lt_of_lt_of_le (h3 x hx).2 hz⟩, h4.start hb, h5.start hb, h6, h7, bnext h8 hb⟩
theorem Pq.other {w W : World} {F G : Nat → Prop} {qa q s : Nat} {E : DV} {U : RV} (h : Pq w w G qa q s E U) (hu : Upo F w W) (hd : ∀ x, F x → ¬ G x) : Pq W W G qa q s E U := by
  have hl := h.lt
  obtain ⟨S, T, h1, h2, h3, h4, h5, h6, h7, h8, h9, hA⟩ := h
  have g1 : ∀ x, S x → G x := fun x hx => (h7 x hx).elim id (fun z => absurd (h2.lt hx) (Nat.not_lt.2 z))
  have g2 : ∀ x, T x → G x := fun x hx => (h8 x hx).elim id (fun z => absurd (h3.lt hx) (Nat.not_lt.2 z))
  have g3 : G qa := h9.elim id (fun z => absurd hl (Nat.not_lt.2 z))
  exact ⟨S, T, (hu.block qa hl (fun z => hd qa z g3)).trans h1, h2.keep hu (fun x hx z => hd x z (g1 x hx)), h3.keep hu (fun x hx z => hd x z (g2 x hx)), h4, h5, h6, fun x hx => .inl (g1 x hx), fun x hx => .inl (g2 x hx), .inl g3, Upo.refl _ _⟩
theorem Tp.plays {w0 w : World} {pa qa k : Nat} (h : Tp w0 w pa qa k) (hk1 : k + 1 ≤ 2097152) (o : OpV) (ho : OpOz w0 o) :
    Calls Try.prog 8 #[.pointer (some ⟨pa, 0, none⟩), o.val] w fun e w' => e = .returned (.bool true) ∧ Tp w0 w' pa qa (k + 1) := by
  obtain ⟨F, G, p, r, D, V, q, s, E, U, h1, h2, h3, h4, h5, h6, h7, h8⟩ := h
  refine (plays_any w0 w h8 h4 h2 h6 hk1 o ho).mono fun e w' z => ⟨z.1, ?_⟩
  obtain ⟨p', r', D', V', z1, z2⟩ := z.2
  have hu := z2.upo
  have hz := hu.size
  refine ⟨_, G, p', r', D', V', q, s, E, U, fun x hx hg => ?_, fun x hx => ?_, fun x hx => ?_, z2.lend (Below.refl _ _), h5.other hu h1, z1, h7.up hk1, h8.trans (hu.below h8.size (fun b hb => (h2 b hb).1))⟩
  · exact hx.elim (fun y => h1 x y hg) (fun y => by have := (h3 x hg).2; omega)
  · exact hx.elim (fun y => by have := h2 x y; omega) (fun y => by have := h8.size; omega)
  · have := h3 x hx; omega
/-- A pair of new ones. -/
theorem pq_new {w w1 w2 : World} {n : Nat} {p r : Nat} {S T : Nat → Prop} (hd : Dsk w1 p S (newD n)) (hS : ∀ x, S x → w.heap.size ≤ x) (u1 : Below w.heap.size w w1) (u2 : Below w1.heap.size w1 w2) (hr : Rsk w2 r T (newR n)) (hT : ∀ x, T x → w1.heap.size ≤ x) :
    Pq w (w2.alloc (.cells #[.pointer (some ⟨p, 0, none⟩), .pointer (some ⟨r, 0, none⟩)] 32)) (fun _ => False) w2.heap.size p r (newD n) (newR n) := by
  have ha := bal (Below.refl w2.heap.size w2) (.cells #[.pointer (some ⟨p, 0, none⟩), .pointer (some ⟨r, 0, none⟩)] 32)
  refine ⟨S, T, new1 _ _, (hd.next u2).next ha, hr.next ha, fun x hx hq => ?_, fun q => ?_, fun q => ?_, fun x hx => .inr (hS x hx), fun x hx => .inr ?_, .inr ?_, Upo.of (bal (bnext u1 u2) _)⟩
  · have := hd.lt hx; have := hT x hq; omega
  · have := hd.lt q; have := u2.size; omega
  · exact Nat.lt_irrefl _ (hr.lt q)
  · have := hT x hx; have := u1.size; omega
  · have := u1.size; have := u2.size; omega
theorem bd_new (n : Nat) : Bd (newD n) (newR n) 1048576 := ⟨sim_new n, Nat.zero_le _, Nat.zero_le _, by decide⟩
theorem bd_open (n : Nat) (l : List (List UInt8 × List UInt8)) (h1 : canL l) (h2 : byt l ≤ n) (h3 : l.length ≤ 1048576) : Bd (openD n l) (openR n l) 1048576 := by
  refine ⟨sim_open n l h1.1 h2, ?_, Nat.zero_le _, by decide⟩
  have := rlay_len l
  show (rlayL l).length ≤ _
  omega
/-- One pair made since w0. -/
def Op1 (w0 w : World) (pa : Nat) : Prop := ∃ p r D V, Pq w0 w (fun _ => False) pa p r D V ∧ Bd D V 1048576
theorem Op1.next {w0 w W : World} {pa : Nat} (h : Op1 w0 w pa) (hb : Below w.heap.size w W) : Op1 w0 W pa := by
  obtain ⟨p, r, D, V, h1, h2⟩ := h
  exact ⟨p, r, D, V, h1.next hb, h2⟩
theorem Op1.back {w w1 W : World} {pa : Nat} (h : Op1 w1 W pa) (hb : Below w.heap.size w w1) : Op1 w W pa := by
  obtain ⟨p, r, D, V, h1, h2⟩ := h
  exact ⟨p, r, D, V, h1.back hb, h2⟩
theorem op1_new {w w1 w2 : World} {n : Nat} {p r : Nat} {S T : Nat → Prop} (hd : Dsk w1 p S (newD n)) (hS : ∀ x, S x → w.heap.size ≤ x) (u1 : Below w.heap.size w w1) (u2 : Below w1.heap.size w1 w2) (hr : Rsk w2 r T (newR n)) (hT : ∀ x, T x → w1.heap.size ≤ x) :
    Op1 w (w2.alloc (.cells #[.pointer (some ⟨p, 0, none⟩), .pointer (some ⟨r, 0, none⟩)] 32)) w2.heap.size := ⟨p, r, _, _, pq_new hd hS u1 u2 hr hT, bd_new n⟩
theorem tp_start {w0 w1 w2 : World} {pa qa : Nat} (h1 : Op1 w0 w1 pa) (h2 : Op1 w1 w2 qa) (u1 : Below w0.heap.size w0 w1) (u2 : Below w1.heap.size w1 w2) : Tp w0 w2 pa qa 1048576 := by
  obtain ⟨p, r, D, V, a1, a2⟩ := h1
  obtain ⟨q, s, E, U, b1, b2⟩ := h2
  refine ⟨_, _, p, r, D, V, q, s, E, U, fun x hx hg => ?_, fun x hx => ?_, fun x hx => ?_, a1.lend u2, b1.lend (Below.refl _ _), a2, b2, bnext u1 u2⟩
  · have := hx.elim False.elim id; have := hg.elim False.elim id; omega
  · have := hx.elim False.elim id; have := u2.size; omega
  · have := hx.elim False.elim id; have := u1.size; omega
end Go.Proofs.Ytmhedhhbdpdafab
