/-
  Two disks and a box. Own work.
-/
import Derived.Test.YtmhedhhbdpdafaaDPlain
namespace Go.Proofs.Ytmhedhhbdpdafaa
open Go.RowKit
/-- Two disks apart, made since w, and a block that is none of theirs. -/
def Tw (w W : World) (p q : Nat) (D E : DV) (bo : Nat) (ob : Obj) : Prop := ∃ S T, Dsk W p S D ∧ Dsk W q T E ∧ (∀ x, S x → T x → False) ∧ (∀ x, S x → w.heap.size ≤ x ∧ x ≠ bo) ∧ (∀ x, T x → w.heap.size ≤ x ∧ x ≠ bo) ∧ Below w.heap.size w W ∧ W.heap[bo]? = some ob
/-- Without a block. -/
def Tw0 (w W : World) (p q : Nat) (D E : DV) : Prop := ∃ S T, Dsk W p S D ∧ Dsk W q T E ∧ (∀ x, S x → T x → False) ∧ (∀ x, S x → w.heap.size ≤ x) ∧ (∀ x, T x → w.heap.size ≤ x) ∧ Below w.heap.size w W
section
variable {w W W' : World} {p q bo : Nat} {D E D' : DV} {ob : Obj}
theorem Tw.symm (h : Tw w W p q D E bo ob) : Tw w W q p E D bo ob := by
  obtain ⟨S, T, h1, h2, h3, h4, h5, h6, h7⟩ := h
  exact ⟨T, S, h2, h1, fun x a b => h3 x b a, h5, h4, h6, h7⟩
theorem Tw.below (h : Tw w W p q D E bo ob) : Below w.heap.size w W := by
  obtain ⟨S, T, h1, h2, h3, h4, h5, h6, h7⟩ := h
  exact h6
theorem Tw.box (h : Tw w W p q D E bo ob) : W.heap[bo]? = some ob := by
  obtain ⟨S, T, h1, h2, h3, h4, h5, h6, h7⟩ := h
  exact h7
theorem Tw.next (h : Tw w W p q D E bo ob) (hb : Below W.heap.size W W') : Tw w W' p q D E bo ob := by
  obtain ⟨S, T, h1, h2, h3, h4, h5, h6, h7⟩ := h
  exact ⟨S, T, h1.next hb, h2.next hb, h3, h4, h5, bnext h6 hb, (hb.block bo (Array.getElem?_eq_some_iff.1 h7).1).trans h7⟩
theorem Tw.to0 (h : Tw w W p q D E bo ob) : Tw0 w W p q D E := by
  obtain ⟨S, T, h1, h2, h3, h4, h5, h6, h7⟩ := h
  exact ⟨S, T, h1, h2, h3, fun x hx => (h4 x hx).1, fun x hx => (h5 x hx).1, h6⟩
theorem Tw0.below (h : Tw0 w W p q D E) : Below w.heap.size w W := by
  obtain ⟨S, T, h1, h2, h3, h4, h5, h6⟩ := h
  exact h6
theorem Tw0.next (h : Tw0 w W p q D E) (hb : Below W.heap.size W W') : Tw0 w W' p q D E := by
  obtain ⟨S, T, h1, h2, h3, h4, h5, h6⟩ := h
  exact ⟨S, T, h1.next hb, h2.next hb, h3, h4, h5, bnext h6 hb⟩
/-- A box. -/
theorem Tw0.alloc (h : Tw0 w W p q D E) (o : Obj) : Tw w (W.alloc o) p q D E W.heap.size o := by
  obtain ⟨S, T, h1, h2, h3, h4, h5, h6⟩ := h
  exact ⟨S, T, h1.next (bal (Below.refl _ _) _), h2.next (bal (Below.refl _ _) _), h3, fun x hx => ⟨h4 x hx, fun e => by have := h1.lt hx; omega⟩, fun x hx => ⟨h5 x hx, fun e => by have := h2.lt hx; omega⟩, bal h6 _, new1 _ _⟩
/-- The box has been written. -/
theorem Tw.put (h : Tw w W p q D E bo ob) (hbo : w.heap.size ≤ bo) {o2 : Obj} (hu : Upo (fun x => x = bo) W W') (h2 : W'.heap[bo]? = some o2) : Tw w W' p q D E bo o2 := by
  obtain ⟨S, T, h1, h2', h3, h4, h5, h6, h7⟩ := h
  exact ⟨S, T, h1.keep hu (fun x hx e => (h4 x hx).2 e), h2'.keep hu (fun x hx e => (h5 x hx).2 e), h3, h4, h5, upo_below h6 (fun x e => by rw [e]; exact hbo) hu, h2⟩
theorem Tw.mvd {S T : Nat → Prop} (h2 : Dsk W q T E) (h3 : ∀ x, S x → T x → False) (h4 : ∀ x, S x → w.heap.size ≤ x ∧ x ≠ bo) (h5 : ∀ x, T x → w.heap.size ≤ x ∧ x ≠ bo) (h6 : Below w.heap.size w W) (h7 : W.heap[bo]? = some ob) (hm : Mvd W W' p S D') : Tw w W' p q D' E bo ob := by
  obtain ⟨S', q1, q2, q3⟩ := hm
  have hz := (Array.getElem?_eq_some_iff.1 h7).1
  refine ⟨S', T, q1, h2.keep q3 (fun x hx e => h3 x e hx), fun x hx ht => ?_, fun x hx => ?_, h5, upo_below h6 (fun x hx => (h4 x hx).1) q3, (q3.block bo hz (fun e => (h4 bo e).2 rfl)).trans h7⟩
  · rcases q2 x hx with e | e
    · exact h3 x e ht
    · have := h2.lt ht; omega
  · rcases q2 x hx with e | e
    · exact h4 x e
    · exact ⟨by have := h6.size; omega, by omega⟩
theorem Tw.act (h : Tw w W p q D E bo ob) (hr : Roomy D) (kind which x n : Int) (nm dt : ByteArray) (ka : Option Addr) (kn kc : Nat) (hs : nm.size ≤ maxLen) (ho1 : -9223372036854775808 ≤ x) (ho2 : x ≤ 9223372036854775807) {r : Int} (he : actO D kind nm.data.toList x dt.data.toList = (D', r)) :
    Calls Try.prog 23 #[.pointer (some ⟨p, 0, none⟩), .agg #[.int .i64 kind, .int .i64 which, .string nm, .string dt, .int .i64 x, .int .i64 n, .slice ka kn kc]] W fun e w' => e = .returned (.int .i64 r) ∧ Tw w w' p q D' E bo ob := by
  obtain ⟨S, T, h1, h2, h3, h4, h5, h6, h7⟩ := h
  have := lact_any W h1 kind which x n nm dt ka kn kc hs ho1 ho2 hr.1 hr.2.1 (h1.small hr _)
  rw [he] at this
  exact this.mono fun e w' z => ⟨z.1, Tw.mvd h2 h3 h4 h5 h6 h7 z.2⟩
theorem Tw.size (h : Tw w W p q D E bo ob) (nm : ByteArray) (hs : nm.size ≤ maxLen) : Calls Try.prog 17 #[.pointer (some ⟨p, 0, none⟩), .string nm] W fun e w' => e = .returned (.int .i64 (sizD D nm.data.toList : Int)) ∧ w' = W := by
  obtain ⟨S, T, h1, _⟩ := h
  exact h1.size nm hs
theorem Tw.acts (h : Tw w W p q D E bo ob) : Calls Try.prog 18 #[.pointer (some ⟨p, 0, none⟩)] W fun e w' => e = .returned (.int .i64 (D.acts : Int)) ∧ w' = W := by
  obtain ⟨S, T, h1, _⟩ := h
  exact h1.acts
theorem Tw.down (h : Tw w W p q D E bo ob) : Calls Try.prog 19 #[.pointer (some ⟨p, 0, none⟩)] W fun e w' => e = .returned (.bool D.down) ∧ w' = W := by
  obtain ⟨S, T, h1, _⟩ := h
  exact h1.down
theorem Tw.read (h : Tw w W p q D E bo ob) (nm : ByteArray) (hs : nm.size ≤ maxLen) (off y : Int) (ho1 : -9223372036854775808 ≤ off) (ho2 : off ≤ 9223372036854775807) (hq1 : -9223372036854775808 ≤ y) (hq2 : y ≤ 9223372036854775807) :
    Calls Try.prog 16 #[.pointer (some ⟨p, 0, none⟩), .string nm, .int .i64 off, .int .i64 y] W fun e w' => (∃ t r, e = .returned (.tuple #[.string t, .int .i64 r])) ∧ Below W.heap.size W w' := by
  obtain ⟨S, T, h1, _⟩ := h
  exact (h1.read nm hs off y ho1 ho2 hq1 hq2).mono fun e w' z => ⟨⟨_, _, z.1⟩, z.2⟩
theorem Tw.files (h : Tw w W p q D E bo ob) {l : List (List UInt8 × List UInt8)} (he : tell D.L = l) :
    Calls Try.prog 21 #[.pointer (some ⟨p, 0, none⟩)] W fun e w' => ∃ ao b c, e = .returned (.slice ao l.length c) ∧ RdF w' ao b 0 l ∧ Tw w w' p q D E bo ob ∧ Below W.heap.size W w' := by
  have hh := h
  obtain ⟨S, T, h1, _⟩ := h
  rw [← he]
  refine h1.files.mono fun e w' z => ?_
  obtain ⟨v, q1, q2, q3⟩ := z
  obtain ⟨ao, b, c, rfl, q4, _⟩ := ownF_rd q2
  exact ⟨ao, b, c, q1, q4, hh.next q3, q3⟩
theorem Tw.after (h : Tw w W p q D E bo ob) (ao : Option Addr) (b o c : Nat) (ks : List Bool) (hk : RdL w ao b o ks) (hkl : ks.length ≤ 9223372036854775807) {l : List (List UInt8 × List UInt8)} (he : aft ks D.L 0 = l) :
    Calls Try.prog 22 #[.pointer (some ⟨p, 0, none⟩), .slice ao ks.length c] W fun e w' => ∃ ao b c, e = .returned (.slice ao l.length c) ∧ RdF w' ao b 0 l ∧ Tw w w' p q D E bo ob ∧ Below W.heap.size W w' := by
  have hh := h
  obtain ⟨S, T, h1, _⟩ := h
  rw [← he]
  refine (h1.after ao b o c ks (hk.next hh.below) hkl).mono fun e w' z => ?_
  obtain ⟨v, q1, q2, q3⟩ := z
  obtain ⟨ao, b, c, rfl, q4, _⟩ := ownF_rd q2
  exact ⟨ao, b, c, q1, q4, hh.next q3, q3⟩
end
theorem Dsk.sz {w : World} {p : Nat} {S : Nat → Prop} {D : DV} (h : Dsk w p S D) (s : List UInt8) : sizD D s ≤ 268435456 := by
  obtain ⟨m, R, ka, kb, ko, kc, h1, h2⟩ := h
  unfold sizD
  split
  · omega
  · by_cases hm : s ∈ keys D.L
    · exact (h1.fil s hm (by simp)).b1
    · rw [fget_none hm]; exact Nat.zero_le _
theorem Tw.sz {w W : World} {p q bo : Nat} {D E : DV} {ob : Obj} (h : Tw w W p q D E bo ob) (s : List UInt8) : sizD D s ≤ 268435456 := by
  obtain ⟨S, T, h1, _⟩ := h
  exact h1.sz s
/-- Two new disks. -/
theorem tw_new {w w1 w2 : World} {p q : Nat} {S T : Nat → Prop} {D E : DV} (h1 : Dsk w1 p S D) (s1 : ∀ x, S x → w.heap.size ≤ x) (b1 : Below w.heap.size w w1) (h2 : Dsk w2 q T E) (s2 : ∀ x, T x → w1.heap.size ≤ x) (b2 : Below w1.heap.size w1 w2) : Tw0 w w2 p q D E := by
  refine ⟨S, T, h1.next b2, h2, fun x a b => ?_, s1, fun x hx => ?_, bnext b1 b2⟩
  · have := h1.lt a; have := s2 x b; omega
  · have := s2 x hx; have := b1.size; omega
/-- What an Op is held to. -/
structure OpOk (w : World) (o : OpV) : Prop where
  nm : o.name.size ≤ maxLen
  a1 : -9223372036854775808 ≤ o.at_
  a2 : o.at_ ≤ 9223372036854775807
  n1 : -9223372036854775808 ≤ o.n
  n2 : o.n ≤ 9223372036854775807
  kp : RdL w o.ka o.kb o.ko o.keep
  kl : o.keep.length ≤ 9223372036854775807
/-- A list of them that can be read. -/
structure RdO (w : World) (ao : Option Addr) (b off len : Nat) (l : Nat → OpV) : Prop where
  ptr : 0 < len → ao = some ⟨b, off, none⟩
  cell : ∀ j, j < len → w.cell? ⟨b, off + (j * 7 + 0), none⟩ = some (.int .i64 (l j).kind) ∧ w.cell? ⟨b, off + (j * 7 + 1), none⟩ = some (.int .i64 (l j).which) ∧ w.cell? ⟨b, off + (j * 7 + 2), none⟩ = some (.string (l j).name) ∧ w.cell? ⟨b, off + (j * 7 + 3), none⟩ = some (.string (l j).data) ∧ w.cell? ⟨b, off + (j * 7 + 4), none⟩ = some (.int .i64 (l j).at_) ∧ w.cell? ⟨b, off + (j * 7 + 5), none⟩ = some (.int .i64 (l j).n) ∧ w.cell? ⟨b, off + (j * 7 + 6), none⟩ = some (.slice (l j).ka (l j).keep.length (l j).kc) ∧ OpOk w (l j)
/-- Its seven cells, its place as a letter. -/
theorem RdO.seven {w W : World} {ao : Option Addr} {b off len : Nat} {l : Nat → OpV} (h : RdO w ao b off len l) (hb : Below w.heap.size w W) {j : Nat} (hj : j < len) {a : Nat} (ha : off + j * 7 = a) :
    W.cell? ⟨b, a, none⟩ = some (.int .i64 (l j).kind) ∧ W.cell? ⟨b, a + 1, none⟩ = some (.int .i64 (l j).which) ∧ W.cell? ⟨b, a + 2, none⟩ = some (.string (l j).name) ∧ W.cell? ⟨b, a + 3, none⟩ = some (.string (l j).data) ∧ W.cell? ⟨b, a + 4, none⟩ = some (.int .i64 (l j).at_) ∧ W.cell? ⟨b, a + 5, none⟩ = some (.int .i64 (l j).n) ∧ W.cell? ⟨b, a + 6, none⟩ = some (.slice (l j).ka (l j).keep.length (l j).kc) := by
  obtain ⟨h0, h1, h2, h3, h4, h5, h6, _⟩ := h.cell j hj
  have hlt : b < w.heap.size := World.block_lt_of_cell? _ _ h0
  subst ha
  exact ⟨(hb.cell (p := ⟨b, _, none⟩) hlt).trans h0, (hb.cell (p := ⟨b, _, none⟩) hlt).trans h1, (hb.cell (p := ⟨b, _, none⟩) hlt).trans h2, (hb.cell (p := ⟨b, _, none⟩) hlt).trans h3, (hb.cell (p := ⟨b, _, none⟩) hlt).trans h4, (hb.cell (p := ⟨b, _, none⟩) hlt).trans h5, (hb.cell (p := ⟨b, _, none⟩) hlt).trans h6⟩
/-- A block of seven cells. -/
theorem seven_at {W : World} {q : Nat} {a b c d e f g : Value} {T : TypeId} (h : W.heap[q]? = some (.cells #[a, b, c, d, e, f, g] T (0, 0))) : W.cell? ⟨q, 0, none⟩ = some a ∧ W.cell? ⟨q, 1, none⟩ = some b ∧ W.cell? ⟨q, 2, none⟩ = some c ∧ W.cell? ⟨q, 3, none⟩ = some d ∧ W.cell? ⟨q, 4, none⟩ = some e ∧ W.cell? ⟨q, 5, none⟩ = some f ∧ W.cell? ⟨q, 6, none⟩ = some g :=
  ⟨by rw [cell_of_row W q 0 _ _ (0, 0) h]; rfl, by rw [cell_of_row W q 1 _ _ (0, 0) h]; rfl, by rw [cell_of_row W q 2 _ _ (0, 0) h]; rfl, by rw [cell_of_row W q 3 _ _ (0, 0) h]; rfl, by rw [cell_of_row W q 4 _ _ (0, 0) h]; rfl, by rw [cell_of_row W q 5 _ _ (0, 0) h]; rfl, by rw [cell_of_row W q 6 _ _ (0, 0) h]; rfl⟩
end Go.Proofs.Ytmhedhhbdpdafaa
