/-
  Two stores on two disks, and memory that is none of theirs. Own work.
-/
import Derived.Test.YthfnpagangjpbaaGreatZ37
namespace Go.Proofs.YthfnpagangjpbaaGreat
open Go.RowKit
open Rc
/-- Two stores apart, made since w; the blocks of O are none of theirs. -/
def Tws (w W : World) (q p : Nat) (D : DV) (S : SV) (q2 p2 : Nat) (E : DV) (S2 : SV) (O : Nat → Prop) : Prop := ∃ T U, Sk W q p T D S ∧ Sk W q2 p2 U E S2 ∧ (∀ x, T x → ¬ U x) ∧ (∀ x, T x → w.heap.size ≤ x ∧ ¬ O x) ∧ (∀ x, U x → w.heap.size ≤ x ∧ ¬ O x) ∧ (∀ x, O x → w.heap.size ≤ x ∧ x < W.heap.size) ∧ Below w.heap.size w W
section
variable {w W W' : World} {q p q2 p2 : Nat} {D D' E E' : DV} {S S' S2 S2' : SV} {O : Nat → Prop}
theorem Tws.below (h : Tws w W q p D S q2 p2 E S2 O) : Below w.heap.size w W := by
  obtain ⟨T, U, h1, h2, h3, h4, h5, h6, h7⟩ := h
  exact h7
theorem Tws.symm (h : Tws w W q p D S q2 p2 E S2 O) : Tws w W q2 p2 E S2 q p D S O := by
  obtain ⟨T, U, h1, h2, h3, h4, h5, h6, h7⟩ := h
  exact ⟨U, T, h2, h1, fun x hu ht => h3 x ht hu, h5, h4, h6, h7⟩
theorem Tws.next (h : Tws w W q p D S q2 p2 E S2 O) (hb : Below W.heap.size W W') : Tws w W' q p D S q2 p2 E S2 O := by
  obtain ⟨T, U, h1, h2, h3, h4, h5, h6, h7⟩ := h
  exact ⟨T, U, h1.next hb, h2.next hb, h3, h4, h5, fun x hx => ⟨(h6 x hx).1, Nat.lt_of_lt_of_le (h6 x hx).2 hb.size⟩, bnext h7 hb⟩
theorem Tws.keep (h : Tws w W q p D S q2 p2 E S2 O) (hu : Upo O W W') : Tws w W' q p D S q2 p2 E S2 O := by
  obtain ⟨T, U, h1, h2, h3, h4, h5, h6, h7⟩ := h
  exact ⟨T, U, h1.keep hu (fun x hx => (h4 x hx).2), h2.keep hu (fun x hx => (h5 x hx).2), h3, h4, h5, fun x hx => ⟨(h6 x hx).1, Nat.lt_of_lt_of_le (h6 x hx).2 hu.size⟩, upo_below h7 (fun x hx => (h6 x hx).1) hu⟩
/-- All that was made since wr is none of theirs. -/
theorem Tws.wide (h : Tws w W q p D S q2 p2 E S2 NoB) (hb : Below W.heap.size W W') : Tws w W' q p D S q2 p2 E S2 (fun x => W.heap.size ≤ x ∧ x < W'.heap.size) := by
  obtain ⟨T, U, h1, h2, h3, h4, h5, h6, h7⟩ := h
  have hs := h7.size
  refine ⟨T, U, h1.next hb, h2.next hb, h3, fun x hx => ⟨(h4 x hx).1, fun e => ?_⟩, fun x hx => ⟨(h5 x hx).1, fun e => ?_⟩, fun x hx => ⟨by omega, hx.2⟩, bnext h7 hb⟩
  · have := h1.lt hx; omega
  · have := h2.lt hx; omega
theorem Tws.drop (h : Tws w W q p D S q2 p2 E S2 O) : Tws w W q p D S q2 p2 E S2 NoB := by
  obtain ⟨T, U, h1, h2, h3, h4, h5, h6, h7⟩ := h
  exact ⟨T, U, h1, h2, h3, fun x hx => ⟨(h4 x hx).1, fun q => q⟩, fun x hx => ⟨(h5 x hx).1, fun q => q⟩, fun x hx => hx.elim, h7⟩
/-- Add to the first. -/
theorem Tws.add (h : Tws w W q p D S q2 p2 E S2 O) (hrm : Rm 7 D) (s : ByteArray) (hs : s.size ≤ 9223372036854775807) (ao : Option Addr) (b off len cap : Nat) (ds : List ByteArray) (hr : RdS W ao b off len ds) (hmx : len ≤ 9223372036854775807) (r : Int) (hR : addD D S s.data.toList ds = (D', S', r)) :
    Calls Tryz.prog 15 #[.pointer (some ⟨q, 0, none⟩), .string s, .slice ao len cap] W fun e w' => e = .returned (.int .i64 r) ∧ Tws w w' q p D' S' q2 p2 E S2 O ∧ ∀ x, O x → w'.heap[x]? = W.heap[x]? := by
  obtain ⟨T, U, h1, h2, h3, h4, h5, h6, h7⟩ := h
  refine (add_any W h1 hrm s hs ao b off len cap ds hr hmx D' S' r hR).mono fun e w' z => ⟨z.1, ?_, ?_⟩
  · obtain ⟨T', g1, g2, g3⟩ := z.2
    refine ⟨T', U, g1, h2.keep g3 (fun x hx ht => h3 x ht hx), fun x hx hu => ?_, fun x hx => ?_, h5, fun x hx => ⟨(h6 x hx).1, Nat.lt_of_lt_of_le (h6 x hx).2 g3.size⟩, upo_below h7 (fun x hx => (h4 x hx).1) g3⟩
    · rcases g2 x hx with e | e
      · exact h3 x e hu
      · have := h2.lt hu; omega
    · rcases g2 x hx with e | e
      · exact h4 x e
      · exact ⟨Nat.le_trans h7.size e, fun ho => by have := (h6 x ho).2; omega⟩
  · obtain ⟨T', g1, g2, g3⟩ := z.2
    exact fun x hx => g3.block x (h6 x hx).2 (fun ht => (h4 x ht).2 hx)
theorem Tws.has (h : Tws w W q p D S q2 p2 E S2 O) (k : Nat) (l : List ByteArray) (hh : HasA k l D S) (la : Option Addr) (lb lo len lc : Nat) (hr : RdS W la lb lo len l) :
    Calls Tryz.prog 16 #[.pointer (some ⟨q, 0, none⟩), .int .i64 (k : Int), .slice la len lc] W fun e w' => e = .returned (.bool true) ∧ Tws w w' q p D S q2 p2 E S2 O := by
  have h' := h
  obtain ⟨T, U, h1, h2, h3, h4, h5, h6, h7⟩ := h
  exact (has_any W h1 k l hh la lb lo len lc hr).mono fun e w' z => ⟨z.1, h'.next z.2⟩
end
/-- Two disks, two stores opened. -/
theorem tws_first {w w3 w4 : World} {p p2 : Nat} {D E : DV} (h1 : Mvd w w3 p NoB D) (h2 : Mvd w3 w4 p2 NoB E) (hrm : Rm 7 D) (k : Int) {D' : DV} {S : SV} (he : opnD D k = (D', some S, 0)) :
    Calls Tryz.prog 13 #[.pointer (some ⟨p, 0, none⟩), .int .i64 k] w4 fun e w' => ∃ q, e = .returned (.tuple #[.pointer (some ⟨q, 0, none⟩), .int .i64 0]) ∧ ∃ T U, Sk w' q p T D' S ∧ Dsk w' p2 U E ∧ (∀ x, T x → ¬ U x) ∧ (∀ x, T x → w.heap.size ≤ x) ∧ (∀ x, U x → w.heap.size ≤ x) ∧ Below w.heap.size w w' := by
  have b1 := h1.nob
  have b2 := h2.nob
  obtain ⟨S1, d1, d2, d3⟩ := h1
  obtain ⟨U, e1, e2, e3⟩ := h2
  refine (fopen_any w4 (d1.next b2) hrm k _ he).mono fun e w' z => ?_
  obtain ⟨q, T, z1, z2, z3, _, z4⟩ := z
  have hU : ∀ x, U x → w3.heap.size ≤ x := fun x hx => (e2 x hx).elim (fun q => q.elim) id
  have hS : ∀ x, S1 x → w.heap.size ≤ x := fun x hx => (d2 x hx).elim (fun q => q.elim) id
  have s1 := b1.size
  have s2 := b2.size
  refine ⟨q, z1, T, U, z2, e1.same (fun x hx => z4.block x (e1.lt hx) (fun hs => by have := d1.lt hs; have := hU x hx; omega)), fun x hx hu => ?_, fun x hx => ?_, fun x hx => by have := hU x hx; omega, upo_below (bnext b1 b2) hS z4⟩
  · rcases z3 x hx with e | e
    · have := d1.lt e; have := hU x hu; omega
    · have := e1.lt hu; omega
  · rcases z3 x hx with e | e
    · exact hS x e
    · omega
theorem tws_second {w W : World} {q p p2 : Nat} {D E E' : DV} {S S2 : SV} (h : ∃ T U, Sk W q p T D S ∧ Dsk W p2 U E ∧ (∀ x, T x → ¬ U x) ∧ (∀ x, T x → w.heap.size ≤ x) ∧ (∀ x, U x → w.heap.size ≤ x) ∧ Below w.heap.size w W) (hrm : Rm 7 E) (k : Int) (he : opnD E k = (E', some S2, 0)) :
    Calls Tryz.prog 13 #[.pointer (some ⟨p2, 0, none⟩), .int .i64 k] W fun e w' => ∃ q2, e = .returned (.tuple #[.pointer (some ⟨q2, 0, none⟩), .int .i64 0]) ∧ Tws w w' q p D S q2 p2 E' S2 NoB := by
  obtain ⟨T, U, h1, h2, h3, h4, h5, h6⟩ := h
  refine (fopen_any W h2 hrm k _ he).mono fun e w' z => ?_
  obtain ⟨q2, U', z1, z2, z3, _, z4⟩ := z
  have s1 := h6.size
  refine ⟨q2, z1, T, U', h1.keep z4 (fun x hx hu => h3 x hx hu), z2, fun x hx hu => ?_, fun x hx => ⟨h4 x hx, fun q => q⟩, fun x hx => ⟨?_, fun q => q⟩, fun x hx => hx.elim, upo_below h6 h5 z4⟩
  · rcases z3 x hu with e | e
    · exact h3 x hx e
    · have := h1.lt hx; omega
  · rcases z3 x hx with e | e
    · exact h5 x e
    · omega
end Go.Proofs.YthfnpagangjpbaaGreat
