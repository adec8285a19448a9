/-
  Two disks and some boxes. Own work.
-/
import Derived.Test.YtmhedhhbdpdafaaDFt
import Derived.Test.YtmhedhhbdpdafaaDBx
namespace Go.Proofs.Ytmhedhhbdpdafaa
open Go.RowKit
/-- Two disks apart, made since w, and blocks that are none of theirs. -/
def Bw (w W : World) (p q : Nat) (D E : DV) (B : List (Nat × Obj)) : Prop := ∃ S T, Dsk W p S D ∧ Dsk W q T E ∧ (∀ x, S x → T x → False) ∧ (∀ x, S x → w.heap.size ≤ x) ∧ (∀ x, T x → w.heap.size ≤ x) ∧ Below w.heap.size w W ∧ ∀ c ∈ B, ¬ S c.1 ∧ ¬ T c.1 ∧ w.heap.size ≤ c.1 ∧ W.heap[c.1]? = some c.2
section
variable {w W W' : World} {p q : Nat} {D E D' : DV} {B : List (Nat × Obj)} {r : Int}
theorem Bw.symm (h : Bw w W p q D E B) : Bw w W q p E D B := by
  obtain ⟨S, T, h1, h2, h3, h4, h5, h6, h7⟩ := h
  exact ⟨T, S, h2, h1, fun x a b => h3 x b a, h5, h4, h6, fun c hc => ⟨(h7 c hc).2.1, (h7 c hc).1, (h7 c hc).2.2⟩⟩
theorem Bw.below (h : Bw w W p q D E B) : Below w.heap.size w W := by
  obtain ⟨S, T, h1, h2, h3, h4, h5, h6, h7⟩ := h
  exact h6
theorem Bw.box (h : Bw w W p q D E B) {c : Nat × Obj} (hc : c ∈ B) : W.heap[c.1]? = some c.2 := by
  obtain ⟨S, T, h1, h2, h3, h4, h5, h6, h7⟩ := h
  exact (h7 c hc).2.2.2
theorem Bw.lt (h : Bw w W p q D E B) {c : Nat × Obj} (hc : c ∈ B) : c.1 < W.heap.size := (Array.getElem?_eq_some_iff.1 (h.box hc)).1
theorem Bw.old (h : Bw w W p q D E B) {c : Nat × Obj} (hc : c ∈ B) : w.heap.size ≤ c.1 := by
  obtain ⟨S, T, h1, h2, h3, h4, h5, h6, h7⟩ := h
  exact (h7 c hc).2.2.1
theorem Bw.next (h : Bw w W p q D E B) (hb : Below W.heap.size W W') : Bw w W' p q D E B := by
  obtain ⟨S, T, h1, h2, h3, h4, h5, h6, h7⟩ := h
  exact ⟨S, T, h1.next hb, h2.next hb, h3, h4, h5, bnext h6 hb, fun c hc => ⟨(h7 c hc).1, (h7 c hc).2.1, (h7 c hc).2.2.1, (hb.block c.1 (Array.getElem?_eq_some_iff.1 (h7 c hc).2.2.2).1).trans (h7 c hc).2.2.2⟩⟩
theorem Bw.sub (h : Bw w W p q D E B) {C : List (Nat × Obj)} (hs : ∀ c ∈ C, c ∈ B) : Bw w W p q D E C := by
  obtain ⟨S, T, h1, h2, h3, h4, h5, h6, h7⟩ := h
  exact ⟨S, T, h1, h2, h3, h4, h5, h6, fun c hc => h7 c (hs c hc)⟩
theorem Bw.alloc (h : Bw w W p q D E B) (o : Obj) : Bw w (W.alloc o) p q D E ((W.heap.size, o) :: B) := by
  have hb := bal (Below.refl W.heap.size W) o
  obtain ⟨S, T, h1, h2, h3, h4, h5, h6, h7⟩ := h
  refine ⟨S, T, h1.next hb, h2.next hb, h3, h4, h5, bnext h6 hb, fun c hc => ?_⟩
  rcases List.mem_cons.1 hc with rfl | hc
  · exact ⟨fun e => by have := h1.lt e; simp at this, fun e => by have := h2.lt e; simp at this, h6.size, new1 _ _⟩
  · exact ⟨(h7 c hc).1, (h7 c hc).2.1, (h7 c hc).2.2.1, (hb.block c.1 (Array.getElem?_eq_some_iff.1 (h7 c hc).2.2.2).1).trans (h7 c hc).2.2.2⟩
theorem Bw.put {b : Nat} {o o2 : Obj} (h : Bw w W p q D E ((b, o) :: B)) (hne : ∀ c ∈ B, c.1 ≠ b) (hu : Upo (fun x => x = b) W W') (h2 : W'.heap[b]? = some o2) : Bw w W' p q D E ((b, o2) :: B) := by
  have hold := h.old (c := (b, o)) (by simp)
  obtain ⟨S, T, h1, h1', h3, h4, h5, h6, h7⟩ := h
  have hb := h7 (b, o) (by simp)
  refine ⟨S, T, h1.keep hu (fun x hx e => hb.1 (by rw [← e]; exact hx)), h1'.keep hu (fun x hx e => hb.2.1 (by rw [← e]; exact hx)), h3, h4, h5, upo_below h6 (fun x e => by rw [e]; exact hold) hu, fun c hc => ?_⟩
  rcases List.mem_cons.1 hc with rfl | hc
  · exact ⟨hb.1, hb.2.1, hold, h2⟩
  · have z := h7 c (List.mem_cons_of_mem _ hc)
    exact ⟨z.1, z.2.1, z.2.2.1, (hu.block c.1 (Array.getElem?_eq_some_iff.1 z.2.2.2).1 (hne c hc)).trans z.2.2.2⟩
theorem Bw.mvd {S T : Nat → Prop} (h2 : Dsk W q T E) (h3 : ∀ x, S x → T x → False) (h4 : ∀ x, S x → w.heap.size ≤ x) (h5 : ∀ x, T x → w.heap.size ≤ x) (h6 : Below w.heap.size w W) (h7 : ∀ c ∈ B, ¬ S c.1 ∧ ¬ T c.1 ∧ w.heap.size ≤ c.1 ∧ W.heap[c.1]? = some c.2) (hm : Mvd W W' p S D') : Bw w W' p q D' E B := by
  obtain ⟨S', q1, q2, q3⟩ := hm
  refine ⟨S', T, q1, h2.keep q3 (fun x hx e => h3 x e hx), fun x hx ht => ?_, fun x hx => ?_, h5, upo_below h6 h4 q3, fun c hc => ?_⟩
  · rcases q2 x hx with e | e
    · exact h3 x e ht
    · have := h2.lt ht; omega
  · rcases q2 x hx with e | e
    · exact h4 x e
    · have := h6.size; omega
  · obtain ⟨z1, z2, z3, z4⟩ := h7 c hc
    have hlt := (Array.getElem?_eq_some_iff.1 z4).1
    exact ⟨fun e => (q2 c.1 e).elim z1 (fun e => by omega), z2, z3, (q3.block c.1 hlt z1).trans z4⟩
theorem Bw.act (h : Bw w W p q D E B) (hr : Roomy D) (kind which x n : Int) (nm dt : ByteArray) (ka : Option Addr) (kn kc : Nat) (hs : nm.size ≤ maxLen) (ho1 : -9223372036854775808 ≤ x) (ho2 : x ≤ 9223372036854775807) (he : actO D kind nm.data.toList x dt.data.toList = (D', r)) :
    Calls Try.prog 23 #[.pointer (some ⟨p, 0, none⟩), .agg #[.int .i64 kind, .int .i64 which, .string nm, .string dt, .int .i64 x, .int .i64 n, .slice ka kn kc]] W fun e w' => e = .returned (.int .i64 r) ∧ Bw w w' p q D' E B := by
  obtain ⟨S, T, h1, h2, h3, h4, h5, h6, h7⟩ := h
  have := lact_any W h1 kind which x n nm dt ka kn kc hs ho1 ho2 hr.1 hr.2.1 (h1.small hr _)
  rw [he] at this
  exact this.mono fun e w' z => ⟨z.1, Bw.mvd h2 h3 h4 h5 h6 h7 z.2⟩
theorem Bw.lay (h : Bw w W p q D E B) (a k : Int) (ha : a ≤ 9223372036854775807) (ao : Option Addr) (b o c : Nat) (ks : List Bool) (hk : RdL w ao b o ks) (hkl : ks.length ≤ 140737488355328) :
    Calls Try.prog 25 #[.pointer (some ⟨p, 0, none⟩), .agg #[.int .i64 a, .int .i64 k, .slice ao ks.length c]] W fun e w' => e = .returned (.tuple #[]) ∧ Bw w w' p q (layD D a k ks) E B := by
  obtain ⟨S, T, h1, h2, h3, h4, h5, h6, h7⟩ := h
  exact (h1.lay a k ha ao b o c ks (hk.next h6) hkl (fun h0 e => by have := h4 b e; have : b < w.heap.size := World.block_lt_of_cell? w _ (hk.cell 0 h0); omega)).mono fun e w' z => ⟨z.1, Bw.mvd h2 h3 h4 h5 h6 h7 z.2⟩
theorem Bw.size (h : Bw w W p q D E B) (nm : ByteArray) (hs : nm.size ≤ maxLen) {n : Nat} (he : sizD D nm.data.toList = n) : Calls Try.prog 17 #[.pointer (some ⟨p, 0, none⟩), .string nm] W fun e w' => e = .returned (.int .i64 (n : Int)) ∧ w' = W := by
  obtain ⟨S, T, h1, _⟩ := h
  rw [← he]
  exact h1.size nm hs
theorem Bw.acts (h : Bw w W p q D E B) {n : Nat} (he : D.acts = n) : Calls Try.prog 18 #[.pointer (some ⟨p, 0, none⟩)] W fun e w' => e = .returned (.int .i64 (n : Int)) ∧ w' = W := by
  obtain ⟨S, T, h1, _⟩ := h
  rw [← he]
  exact h1.acts
theorem Bw.down (h : Bw w W p q D E B) {b : Bool} (he : D.down = b) : Calls Try.prog 19 #[.pointer (some ⟨p, 0, none⟩)] W fun e w' => e = .returned (.bool b) ∧ w' = W := by
  obtain ⟨S, T, h1, _⟩ := h
  rw [← he]
  exact h1.down
theorem Bw.read (h : Bw w W p q D E B) (nm : ByteArray) (hs : nm.size ≤ maxLen) (off y : Int) (ho1 : -9223372036854775808 ≤ off) (ho2 : off ≤ 9223372036854775807) (hq1 : -9223372036854775808 ≤ y) (hq2 : y ≤ 9223372036854775807) {t : List UInt8} {T : ByteArray} (he : rdD D nm.data.toList off y = (t, r)) (hT : (⟨t.toArray⟩ : ByteArray) = T) :
    Calls Try.prog 16 #[.pointer (some ⟨p, 0, none⟩), .string nm, .int .i64 off, .int .i64 y] W fun e w' => e = .returned (.tuple #[.string T, .int .i64 r]) ∧ Below W.heap.size W w' := by
  obtain ⟨S, _, h1, _⟩ := h
  have := h1.read nm hs off y ho1 ho2 hq1 hq2
  rw [he] at this
  exact this.mono fun e w' z => ⟨by rw [z.1, hT], z.2⟩
theorem Bw.files (h : Bw w W p q D E B) {l : List (List UInt8 × List UInt8)} (he : tell D.L = l) :
    Calls Try.prog 21 #[.pointer (some ⟨p, 0, none⟩)] W fun e w' => ∃ ao b c, e = .returned (.slice ao l.length c) ∧ RdF w' ao b 0 l ∧ Below W.heap.size W w' := by
  obtain ⟨S, T, h1, _⟩ := h
  rw [← he]
  refine h1.files.mono fun e w' z => ?_
  obtain ⟨v, q1, q2, q3⟩ := z
  obtain ⟨ao, b, c, rfl, q4, _⟩ := ownF_rd q2
  exact ⟨ao, b, c, q1, q4, q3⟩
theorem Bw.after (h : Bw w W p q D E B) (ao : Option Addr) (b o c : Nat) (ks : List Bool) (hk : RdL w ao b o ks) (hkl : ks.length ≤ 9223372036854775807) {l : List (List UInt8 × List UInt8)} (he : aft ks D.L 0 = l) :
    Calls Try.prog 22 #[.pointer (some ⟨p, 0, none⟩), .slice ao ks.length c] W fun e w' => ∃ ao b c, e = .returned (.slice ao l.length c) ∧ RdF w' ao b 0 l ∧ Below W.heap.size W w' ∧ (0 < l.length → W.heap.size ≤ b) := by
  have hh := h
  obtain ⟨S, T, h1, _⟩ := h
  rw [← he]
  refine (h1.after ao b o c ks (hk.next hh.below) hkl).mono fun e w' z => ?_
  obtain ⟨v, q1, q2, q3⟩ := z
  obtain ⟨ao, b, c, rfl, q4, q5⟩ := ownF_rd q2
  exact ⟨ao, b, c, q1, q4, q3, q5.2⟩
end
/-- A row that was answered, kept. -/
theorem Bw.row {w W W' : World} {p q : Nat} {D E : DV} {B : List (Nat × Obj)} (h : Bw w W p q D E B) (hb : Below W.heap.size W W') {ao : Option Addr} {b : Nat} {l : List (List UInt8 × List UInt8)} (hr : RdF W' ao b 0 l) (hg : 0 < l.length → W.heap.size ≤ b) : ∃ B', Bw w W' p q D E B' ∧ (∀ c ∈ B, c ∈ B') ∧ ∀ W2 D2 E2, Bw w W2 p q D2 E2 B' → RdF W2 ao b 0 l := by
  by_cases h0 : 0 < l.length
  · have hlt := hr.lt h0
    have hob : W'.heap[b]? = some W'.heap[b] := Array.getElem?_eq_getElem hlt
    have hn := h.next hb
    obtain ⟨S, T, h1, h2, h3, h4, h5, h6, h7⟩ := h
    refine ⟨(b, W'.heap[b]) :: B, ⟨S, T, h1.next hb, h2.next hb, h3, h4, h5, bnext h6 hb, fun c hc => ?_⟩, fun c hc => List.mem_cons_of_mem _ hc, fun W2 D2 E2 h2 => hr.same fun _ => (h2.box (List.mem_cons_self ..)).trans hob.symm⟩
    rcases List.mem_cons.1 hc with rfl | hc
    · have := hg h0
      exact ⟨fun e => by have := h1.lt e; simp only at this; omega, fun e => by have := h2.lt e; simp only at this; omega, by have := h6.size; simp only; omega, hob⟩
    · have z := h7 c hc
      exact ⟨z.1, z.2.1, z.2.2.1, (hb.block c.1 (Array.getElem?_eq_some_iff.1 z.2.2.2).1).trans z.2.2.2⟩
  · exact ⟨B, h.next hb, fun c hc => hc, fun W2 D2 E2 _ => hr.same (fun q => absurd q h0)⟩
theorem bw_new {w w1 w2 : World} {p q : Nat} {S T : Nat → Prop} {D E : DV} {B : List (Nat × Obj)} (h1 : Dsk w1 p S D) (s1 : ∀ x, S x → w.heap.size ≤ x) (b1 : Below w.heap.size w w1) (hB : ∀ c ∈ B, ¬ S c.1 ∧ w.heap.size ≤ c.1 ∧ w1.heap[c.1]? = some c.2) (h2 : Dsk w2 q T E) (s2 : ∀ x, T x → w1.heap.size ≤ x) (b2 : Below w1.heap.size w1 w2) : Bw w w2 p q D E B := by
  refine ⟨S, T, h1.next b2, h2, fun x a b => ?_, s1, fun x hx => ?_, bnext b1 b2, fun c hc => ?_⟩
  · have := h1.lt a; have := s2 x b; omega
  · have := s2 x hx; have := b1.size; omega
  · obtain ⟨z1, z2, z3⟩ := hB c hc
    have hlt := (Array.getElem?_eq_some_iff.1 z3).1
    exact ⟨z1, fun e => by have := s2 _ e; omega, z2, (b2.block c.1 hlt).trans z3⟩
theorem three_at' {W : World} {b : Nat} {x y z : Value} {T : TypeId} (h : W.heap[b]? = some (.cells #[x, y, z] T (0, 0))) : W.cell? ⟨b, 0, none⟩ = some x ∧ W.cell? ⟨b, 1, none⟩ = some y ∧ W.cell? ⟨b, 2, none⟩ = some z :=
  ⟨by rw [cell_of_row W b 0 _ _ (0, 0) h]; rfl, by rw [cell_of_row W b 1 _ _ (0, 0) h]; rfl, by rw [cell_of_row W b 2 _ _ (0, 0) h]; rfl⟩
end Go.Proofs.Ytmhedhhbdpdafaa
