/-
  One disk and some boxes. Own work.
-/
import Derived.Test.YtmhedhhbdpdafaaDTwo
namespace Go.Proofs.Ytmhedhhbdpdafaa
open Go.RowKit
theorem bdw (w : World) : Below w.heap.size w w.drew := ⟨rfl, rfl, rfl, Nat.le_refl _, fun _ _ => rfl⟩
/-- A disk made since w, and blocks that are none of its own. -/
def Bx (w W : World) (p : Nat) (D : DV) (B : List (Nat × Obj)) : Prop := ∃ S, Dsk W p S D ∧ (∀ x, S x → w.heap.size ≤ x) ∧ Below w.heap.size w W ∧ ∀ c ∈ B, ¬ S c.1 ∧ w.heap.size ≤ c.1 ∧ W.heap[c.1]? = some c.2
section
variable {w W W' : World} {p : Nat} {D D' : DV} {B : List (Nat × Obj)} {r : Int}
theorem Bx.below (h : Bx w W p D B) : Below w.heap.size w W := by obtain ⟨S, _, _, h, _⟩ := h; exact h
theorem Bx.box (h : Bx w W p D B) {c : Nat × Obj} (hc : c ∈ B) : W.heap[c.1]? = some c.2 := by obtain ⟨S, _, _, _, h⟩ := h; exact (h c hc).2.2
theorem Bx.old (h : Bx w W p D B) {c : Nat × Obj} (hc : c ∈ B) : w.heap.size ≤ c.1 := by obtain ⟨S, _, _, _, h⟩ := h; exact (h c hc).2.1
theorem Bx.lt (h : Bx w W p D B) {c : Nat × Obj} (hc : c ∈ B) : c.1 < W.heap.size := (Array.getElem?_eq_some_iff.1 (h.box hc)).1
theorem Bx.next (h : Bx w W p D B) (hb : Below W.heap.size W W') : Bx w W' p D B := by
  obtain ⟨S, h1, h2, h3, h4⟩ := h
  exact ⟨S, h1.next hb, h2, bnext h3 hb, fun c hc => ⟨(h4 c hc).1, (h4 c hc).2.1, (hb.block c.1 (Array.getElem?_eq_some_iff.1 (h4 c hc).2.2).1).trans (h4 c hc).2.2⟩⟩
theorem Bx.sub (h : Bx w W p D B) {C : List (Nat × Obj)} (hs : ∀ c ∈ C, c ∈ B) : Bx w W p D C := by
  obtain ⟨S, h1, h2, h3, h4⟩ := h
  exact ⟨S, h1, h2, h3, fun c hc => h4 c (hs c hc)⟩
theorem Bx.alloc (h : Bx w W p D B) (o : Obj) : Bx w (W.alloc o) p D ((W.heap.size, o) :: B) := by
  have h' := h.next (bal (Below.refl W.heap.size W) o)
  obtain ⟨S, h1, h2, h3, h4⟩ := h
  obtain ⟨S', g1, g2, g3, g4⟩ := h'
  have hn := h1.next (bal (Below.refl W.heap.size W) o)
  refine ⟨S, hn, h2, g3, fun c hc => ?_⟩
  rcases List.mem_cons.1 hc with rfl | hc
  · exact ⟨fun e => by have := h1.lt e; simp at this, h3.size, new1 _ _⟩
  · exact ⟨(h4 c hc).1, (h4 c hc).2.1, (g4 c hc).2.2⟩
/-- The first box has been written. -/
theorem Bx.put {b : Nat} {o o2 : Obj} (h : Bx w W p D ((b, o) :: B)) (hne : ∀ c ∈ B, c.1 ≠ b) (hu : Upo (fun x => x = b) W W') (h2 : W'.heap[b]? = some o2) : Bx w W' p D ((b, o2) :: B) := by
  have hold := h.old (c := (b, o)) (by simp)
  obtain ⟨S, h1, g2, g3, g4⟩ := h
  have hb := g4 (b, o) (by simp)
  refine ⟨S, h1.keep hu (fun x hx e => hb.1 (by rw [← e]; exact hx)), g2, upo_below g3 (fun x e => by rw [e]; exact hold) hu, fun c hc => ?_⟩
  rcases List.mem_cons.1 hc with rfl | hc
  · exact ⟨hb.1, hold, h2⟩
  · have q := g4 c (List.mem_cons_of_mem _ hc)
    exact ⟨q.1, q.2.1, (hu.block c.1 (Array.getElem?_eq_some_iff.1 q.2.2).1 (hne c hc)).trans q.2.2⟩
theorem Bx.mvd {S : Nat → Prop} (h2 : ∀ x, S x → w.heap.size ≤ x) (h3 : Below w.heap.size w W) (h4 : ∀ c ∈ B, ¬ S c.1 ∧ w.heap.size ≤ c.1 ∧ W.heap[c.1]? = some c.2) (hm : Mvd W W' p S D') : Bx w W' p D' B := by
  obtain ⟨S', q1, q2, q3⟩ := hm
  refine ⟨S', q1, fun x hx => (q2 x hx).elim (h2 x) (fun e => by have := h3.size; omega), upo_below h3 h2 q3, fun c hc => ?_⟩
  obtain ⟨z1, z2, z3⟩ := h4 c hc
  have hlt := (Array.getElem?_eq_some_iff.1 z3).1
  exact ⟨fun e => (q2 c.1 e).elim z1 (fun e => by omega), z2, (q3.block c.1 hlt z1).trans z3⟩
theorem Bx.write (h : Bx w W p D B) (hr : Roomy D) (nm dt : ByteArray) (hs : nm.size ≤ maxLen) (off : Int) (ho1 : -9223372036854775808 ≤ off) (ho2 : off ≤ 9223372036854775807) (ht : dt.size ≤ 140737488355328) (he : wrD D nm.data.toList off dt.data.toList = (D', r)) :
    Calls Try.prog 13 #[.pointer (some ⟨p, 0, none⟩), .string nm, .int .i64 off, .string dt] W fun e w' => e = .returned (.int .i64 r) ∧ Bx w w' p D' B := by
  obtain ⟨S, h1, h2, h3, h4⟩ := h
  have := h1.write nm dt hs off ho1 ho2 ht hr.1 hr.2.1 (h1.small hr _)
  rw [he] at this
  exact this.mono fun e w' q => ⟨q.1, Bx.mvd h2 h3 h4 q.2⟩
theorem Bx.cut (h : Bx w W p D B) (hr : Roomy D) (nm : ByteArray) (hs : nm.size ≤ maxLen) (off : Int) (ho1 : -9223372036854775808 ≤ off) (ho2 : off ≤ 9223372036854775807) (he : cutD D nm.data.toList off = (D', r)) :
    Calls Try.prog 14 #[.pointer (some ⟨p, 0, none⟩), .string nm, .int .i64 off] W fun e w' => e = .returned (.int .i64 r) ∧ Bx w w' p D' B := by
  obtain ⟨S, h1, h2, h3, h4⟩ := h
  have := h1.cut nm hs off ho1 ho2 hr.1 hr.2.1 (h1.small hr _)
  rw [he] at this
  exact this.mono fun e w' q => ⟨q.1, Bx.mvd h2 h3 h4 q.2⟩
theorem Bx.sync (h : Bx w W p D B) (hr : Roomy D) (nm : ByteArray) (hs : nm.size ≤ maxLen) (he : synD D nm.data.toList = (D', r)) :
    Calls Try.prog 15 #[.pointer (some ⟨p, 0, none⟩), .string nm] W fun e w' => e = .returned (.int .i64 r) ∧ Bx w w' p D' B := by
  obtain ⟨S, h1, h2, h3, h4⟩ := h
  have := h1.sync nm hs hr.1 hr.2.1 (h1.small hr _)
  rw [he] at this
  exact this.mono fun e w' q => ⟨q.1, Bx.mvd h2 h3 h4 q.2⟩
theorem Bx.read (h : Bx w W p D B) (nm : ByteArray) (hs : nm.size ≤ maxLen) (off q : Int) (ho1 : -9223372036854775808 ≤ off) (ho2 : off ≤ 9223372036854775807) (hq1 : -9223372036854775808 ≤ q) (hq2 : q ≤ 9223372036854775807) {t : List UInt8} {T : ByteArray} (he : rdD D nm.data.toList off q = (t, r)) (hT : (⟨t.toArray⟩ : ByteArray) = T) :
    Calls Try.prog 16 #[.pointer (some ⟨p, 0, none⟩), .string nm, .int .i64 off, .int .i64 q] W fun e w' => e = .returned (.tuple #[.string T, .int .i64 r]) ∧ Bx w w' p D B := by
  have hh := h
  obtain ⟨S, h1, h2, h3, h4⟩ := h
  have := h1.read nm hs off q ho1 ho2 hq1 hq2
  rw [he] at this
  exact this.mono fun e w' q => ⟨by rw [q.1, hT], hh.next q.2⟩
theorem Bx.size (h : Bx w W p D B) (nm : ByteArray) (hs : nm.size ≤ maxLen) {n : Nat} (he : sizD D nm.data.toList = n) :
    Calls Try.prog 17 #[.pointer (some ⟨p, 0, none⟩), .string nm] W fun e w' => e = .returned (.int .i64 (n : Int)) ∧ w' = W := by
  obtain ⟨S, h1, h2, h3⟩ := h
  rw [← he]
  exact h1.size nm hs
theorem Bx.acts (h : Bx w W p D B) {n : Nat} (he : D.acts = n) : Calls Try.prog 18 #[.pointer (some ⟨p, 0, none⟩)] W fun e w' => e = .returned (.int .i64 (n : Int)) ∧ w' = W := by
  obtain ⟨S, h1, h2, h3⟩ := h
  rw [← he]
  exact h1.acts
theorem Bx.down (h : Bx w W p D B) {b : Bool} (he : D.down = b) : Calls Try.prog 19 #[.pointer (some ⟨p, 0, none⟩)] W fun e w' => e = .returned (.bool b) ∧ w' = W := by
  obtain ⟨S, h1, h2, h3⟩ := h
  rw [← he]
  exact h1.down
theorem Bx.files (h : Bx w W p D B) {l : List (List UInt8 × List UInt8)} (he : tell D.L = l) :
    Calls Try.prog 21 #[.pointer (some ⟨p, 0, none⟩)] W fun e w' => ∃ ao b c, e = .returned (.slice ao l.length c) ∧ RdF w' ao b 0 l ∧ Bx w w' p D B ∧ Below W.heap.size W w' := by
  have hh := h
  obtain ⟨S, h1, h2, h3⟩ := h
  rw [← he]
  refine h1.files.mono fun e w' q => ?_
  obtain ⟨v, q1, q2, q3⟩ := q
  obtain ⟨ao, b, c, rfl, q4, _⟩ := ownF_rd q2
  exact ⟨ao, b, c, q1, q4, hh.next q3, q3⟩
theorem Bx.after (h : Bx w W p D B) (ao : Option Addr) (b o c : Nat) (ks : List Bool) (hk : RdL W ao b o ks) (hkl : ks.length ≤ 9223372036854775807) {l : List (List UInt8 × List UInt8)} (he : aft ks D.L 0 = l) :
    Calls Try.prog 22 #[.pointer (some ⟨p, 0, none⟩), .slice ao ks.length c] W fun e w' => ∃ ao b c, e = .returned (.slice ao l.length c) ∧ RdF w' ao b 0 l ∧ Bx w w' p D B ∧ Below W.heap.size W w' := by
  have hh := h
  obtain ⟨S, h1, h2, h3⟩ := h
  rw [← he]
  refine (h1.after ao b o c ks hk hkl).mono fun e w' q => ?_
  obtain ⟨v, q1, q2, q3⟩ := q
  obtain ⟨ao, b, c, rfl, q4, _⟩ := ownF_rd q2
  exact ⟨ao, b, c, q1, q4, hh.next q3, q3⟩
theorem bx_new {S : Nat → Prop} (h1 : Dsk W p S D) (h2 : ∀ x, S x → w.heap.size ≤ x) (h3 : Below w.heap.size w W) : Bx w W p D [] := ⟨S, h1, h2, h3, fun c hc => by simp at hc⟩
end
/-- Three texts. -/
def tB (T : Nat → ByteArray) : Obj := .cells #[.string (T 0), .string (T 1), .string (T 2)] 9
theorem three_cell {W : World} {b k : Nat} {T : Nat → ByteArray} (h : W.heap[b]? = some (tB T)) (hk : k < 3) : W.cell? ⟨b, k, none⟩ = some (.string (T k)) := by
  rw [cell_of_row W b k _ _ (0, 0) h]
  match k, hk with
  | 0, _ => rfl
  | 1, _ => rfl
  | 2, _ => rfl
theorem three_put {W : World} {b k : Nat} {T T' : Nat → ByteArray} (h : W.heap[b]? = some (tB T)) (hk : k < 3) (y : ByteArray) (hT : ∀ i, T' i = if i = k then y else T i) : (W.setCell ⟨b, k, none⟩ (.string y)).heap[b]? = some (tB T') := by
  have := heap_setCell_same W b k _ _ (.string y) h
  rw [this]
  match k, hk with
  | 0, _ => simp only [tB, hT]; rfl
  | 1, _ => simp only [tB, hT]; rfl
  | 2, _ => simp only [tB, hT]; rfl
end Go.Proofs.Ytmhedhhbdpdafaa
