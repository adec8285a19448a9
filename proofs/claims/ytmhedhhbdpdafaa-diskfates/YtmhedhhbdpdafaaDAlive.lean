/-
  The laws' alive. Own work.
-/
import Derived.Test.YtmhedhhbdpdafaaDLawB
namespace Go.Proofs.Ytmhedhhbdpdafaa
open Go.RowKit
/-- A disk that was made since w. -/
def Nw (w W : World) (p : Nat) (D : DV) : Prop := ∃ S, Dsk W p S D ∧ (∀ x, S x → w.heap.size ≤ x) ∧ Below w.heap.size w W
theorem upo_below {w W W' : World} {S : Nat → Prop} (h : Below w.heap.size w W) (hS : ∀ x, S x → w.heap.size ≤ x) (hu : Upo S W W') : Below w.heap.size w W' :=
  ⟨hu.os.trans h.os, hu.tape.trans h.tape, hu.output.trans h.output, Nat.le_trans h.size hu.size, fun b hb => (hu.block b (by have := h.size; omega) (fun q => by have := hS b q; omega)).trans (h.block b hb)⟩
section
variable {w W : World} {p : Nat} {D D' : DV} {r : Int}
theorem Nw.below (h : Nw w W p D) : Below w.heap.size w W := by obtain ⟨S, _, _, h⟩ := h; exact h
theorem Nw.next {W' : World} (h : Nw w W p D) (hb : Below W.heap.size W W') : Nw w W' p D := by
  obtain ⟨S, h1, h2, h3⟩ := h
  exact ⟨S, h1.next hb, h2, bnext h3 hb⟩
theorem Nw.mvd {W' : World} {S : Nat → Prop} (h3 : Below w.heap.size w W) (h2 : ∀ x, S x → w.heap.size ≤ x) (hm : Mvd W W' p S D') : Nw w W' p D' := by
  obtain ⟨S', q1, q2, q3⟩ := hm
  exact ⟨S', q1, fun x hx => (q2 x hx).elim (h2 x) (fun e => by have := h3.size; omega), upo_below h3 h2 q3⟩
/-- Room for one act more. -/
def Roomy (D : DV) : Prop := D.acts + 1 ≤ 4611686018427387904 ∧ D.L.length < 1099511627776 ∧ D.free ≤ 4611686018427387904
theorem Dsk.small {S : Nat → Prop} (h : Dsk w p S D) (hr : Roomy D) (s : List UInt8) : D.down = false → D.free + (fget D.L s).now.length ≤ 9223372036854775807 := fun _ => by
  obtain ⟨m, R, ka, kb, ko, kc, h1, h2⟩ := h
  have : (fget D.L s).now.length ≤ 268435456 := by
    by_cases hm : s ∈ keys D.L
    · exact (h1.fil s hm (by simp)).b1
    · rw [fget_none hm]; exact Nat.zero_le _
  have := hr.2.2
  omega
theorem Nw.write (h : Nw w W p D) (hr : Roomy D) (nm dt : ByteArray) (hs : nm.size ≤ maxLen) (off : Int) (ho1 : -9223372036854775808 ≤ off) (ho2 : off ≤ 9223372036854775807) (ht : dt.size ≤ 140737488355328) (he : wrD D nm.data.toList off dt.data.toList = (D', r)) :
    Calls Try.prog 13 #[.pointer (some ⟨p, 0, none⟩), .string nm, .int .i64 off, .string dt] W fun e w' => e = .returned (.int .i64 r) ∧ Nw w w' p D' := by
  obtain ⟨S, h1, h2, h3⟩ := h
  have := h1.write nm dt hs off ho1 ho2 ht hr.1 hr.2.1 (h1.small hr _)
  rw [he] at this
  exact this.mono fun e w' q => ⟨q.1, Nw.mvd h3 h2 q.2⟩
theorem Nw.cut (h : Nw w W p D) (hr : Roomy D) (nm : ByteArray) (hs : nm.size ≤ maxLen) (off : Int) (ho1 : -9223372036854775808 ≤ off) (ho2 : off ≤ 9223372036854775807) (he : cutD D nm.data.toList off = (D', r)) :
    Calls Try.prog 14 #[.pointer (some ⟨p, 0, none⟩), .string nm, .int .i64 off] W fun e w' => e = .returned (.int .i64 r) ∧ Nw w w' p D' := by
  obtain ⟨S, h1, h2, h3⟩ := h
  have := h1.cut nm hs off ho1 ho2 hr.1 hr.2.1 (h1.small hr _)
  rw [he] at this
  exact this.mono fun e w' q => ⟨q.1, Nw.mvd h3 h2 q.2⟩
theorem Nw.sync (h : Nw w W p D) (hr : Roomy D) (nm : ByteArray) (hs : nm.size ≤ maxLen) (he : synD D nm.data.toList = (D', r)) :
    Calls Try.prog 15 #[.pointer (some ⟨p, 0, none⟩), .string nm] W fun e w' => e = .returned (.int .i64 r) ∧ Nw w w' p D' := by
  obtain ⟨S, h1, h2, h3⟩ := h
  have := h1.sync nm hs hr.1 hr.2.1 (h1.small hr _)
  rw [he] at this
  exact this.mono fun e w' q => ⟨q.1, Nw.mvd h3 h2 q.2⟩
theorem Nw.read (h : Nw w W p D) (nm : ByteArray) (hs : nm.size ≤ maxLen) (off q : Int) (ho1 : -9223372036854775808 ≤ off) (ho2 : off ≤ 9223372036854775807) (hq1 : -9223372036854775808 ≤ q) (hq2 : q ≤ 9223372036854775807) {t : List UInt8} {T : ByteArray} (he : rdD D nm.data.toList off q = (t, r)) (hT : (⟨t.toArray⟩ : ByteArray) = T) :
    Calls Try.prog 16 #[.pointer (some ⟨p, 0, none⟩), .string nm, .int .i64 off, .int .i64 q] W fun e w' => e = .returned (.tuple #[.string T, .int .i64 r]) ∧ Nw w w' p D := by
  obtain ⟨S, h1, h2, h3⟩ := h
  have := h1.read nm hs off q ho1 ho2 hq1 hq2
  rw [he] at this
  exact this.mono fun e w' q => ⟨by rw [q.1, hT], S, h1.next q.2, h2, bnext h3 q.2⟩
theorem Nw.size (h : Nw w W p D) (nm : ByteArray) (hs : nm.size ≤ maxLen) {n : Int} (he : (sizD D nm.data.toList : Int) = n) :
    Calls Try.prog 17 #[.pointer (some ⟨p, 0, none⟩), .string nm] W fun e w' => e = .returned (.int .i64 n) ∧ Nw w w' p D := by
  obtain ⟨S, h1, h2, h3⟩ := h
  rw [← he]
  exact (h1.size nm hs).mono fun e w' q => ⟨q.1, S, by rw [q.2]; exact h1, h2, by rw [q.2]; exact h3⟩
theorem Nw.acts (h : Nw w W p D) {n : Int} (he : (D.acts : Int) = n) :
    Calls Try.prog 18 #[.pointer (some ⟨p, 0, none⟩)] W fun e w' => e = .returned (.int .i64 n) ∧ Nw w w' p D := by
  obtain ⟨S, h1, h2, h3⟩ := h
  rw [← he]
  exact h1.acts.mono fun e w' q => ⟨q.1, S, by rw [q.2]; exact h1, h2, by rw [q.2]; exact h3⟩
theorem Nw.down (h : Nw w W p D) {b : Bool} (he : D.down = b) :
    Calls Try.prog 19 #[.pointer (some ⟨p, 0, none⟩)] W fun e w' => e = .returned (.bool b) ∧ Nw w w' p D := by
  obtain ⟨S, h1, h2, h3⟩ := h
  rw [← he]
  exact h1.down.mono fun e w' q => ⟨q.1, S, by rw [q.2]; exact h1, h2, by rw [q.2]; exact h3⟩
theorem Nw.files (h : Nw w W p D) {l : List (List UInt8 × List UInt8)} (he : tell D.L = l) :
    Calls Try.prog 21 #[.pointer (some ⟨p, 0, none⟩)] W fun e w' => ∃ ao b c, e = .returned (.slice ao l.length c) ∧ RdF w' ao b 0 l ∧ Nw w w' p D := by
  obtain ⟨S, h1, h2, h3⟩ := h
  rw [← he]
  refine h1.files.mono fun e w' q => ?_
  obtain ⟨v, q1, q2, q3⟩ := q
  obtain ⟨ao, b, c, rfl, q4, _⟩ := ownF_rd q2
  exact ⟨ao, b, c, q1, q4, S, h1.next q3, h2, bnext h3 q3⟩
theorem Nw.after (h : Nw w W p D) (ao : Option Addr) (b o c : Nat) (ks : List Bool) (hk : RdL W ao b o ks) (hkl : ks.length ≤ 9223372036854775807) {l : List (List UInt8 × List UInt8)} (he : aft ks D.L 0 = l) :
    Calls Try.prog 22 #[.pointer (some ⟨p, 0, none⟩), .slice ao ks.length c] W fun e w' => ∃ ao b c, e = .returned (.slice ao l.length c) ∧ RdF w' ao b 0 l ∧ Nw w w' p D ∧ Below W.heap.size W w' := by
  obtain ⟨S, h1, h2, h3⟩ := h
  rw [← he]
  refine (h1.after ao b o c ks hk hkl).mono fun e w' q => ?_
  obtain ⟨v, q1, q2, q3⟩ := q
  obtain ⟨ao, b, c, rfl, q4, _⟩ := ownF_rd q2
  exact ⟨ao, b, c, q1, q4, ⟨S, h1.next q3, h2, bnext h3 q3⟩, q3⟩
end
/-- The disk as the examples go. -/
def eD1 : DV := ⟨197, [([97], ⟨[120, 121, 122], []⟩)], 1, 0, 0, [], false⟩
def eD2 : DV := ⟨196, [([97], ⟨[120, 121, 122, 113], []⟩)], 2, 0, 0, [], false⟩
def eD3 : DV := ⟨196, [([97], ⟨[120, 121, 122, 113], [120, 121, 122, 113]⟩)], 3, 0, 0, [], false⟩
def eD4 : DV := ⟨196, [([97], ⟨[88, 121, 122, 113], [120, 121, 122, 113]⟩)], 4, 0, 0, [], false⟩
def eD5 : DV := ⟨198, [([97], ⟨[88, 121], [120, 121, 122, 113]⟩)], 5, 0, 0, [], false⟩
theorem ex1 : wrD (newD 200) [97] 0 [120, 121, 122] = (eD1, 0) := by rfl
theorem ex2 : wrD eD1 [97] 5 [113] = (eD1, 173) := by rfl
theorem ex3 : wrD eD1 [97] 3 [113] = (eD2, 0) := by rfl
theorem ex4 : rdD eD2 [97] 1 3 = ([121, 122, 113], 0) := by rfl
theorem ex5 : synD eD2 [97] = (eD3, 0) := by rfl
theorem ex6 : wrD eD3 [97] 0 [88] = (eD4, 0) := by rfl
theorem ex7 : cutD eD4 [97] 2 = (eD5, 0) := by rfl
theorem ex8 : aft [] eD2.L 0 = [] := by rfl
theorem ex9 : aft [false, true] eD5.L 0 = [([97], [88, 121, 0, 0])] := by rfl
theorem ex10 : aft [true, false] eD5.L 0 = [([97], [120, 121])] := by rfl
theorem ex11 : tell eD5.L = [([97], [88, 121])] := by rfl
end Go.Proofs.Ytmhedhhbdpdafaa
