/-
  Forest's script: any call; two pairs of forests in memory. Own work.
-/
import Derived.Test.YtabdobdopcfllaaDoorFScrD
import Derived.Test.YtabdobdopcfllaaDoorFScrE
namespace Go.Proofs.YtabdobdopcfllaaDoor
open Go.RowKit
open Mm (dv)
/-- One call of a script. -/
structure OpV where
  kind : Int
  at' : Int
  s : ByteArray
  n : Nat
  ao : Option Addr
  g : Nat
  off : Nat
  cap : Nat
  Bs : List (Int × Nat)
instance : Inhabited OpV := ⟨⟨0, 0, ByteArray.empty, 0, none, 0, 0, 0, []⟩⟩
/-- Its list of blocks can be read. -/
structure OpOk (w : World) (o : OpV) : Prop where
  rd : RdB w o.ao o.g o.off o.Bs.length o.Bs
  mx : o.Bs.length ≤ 8796093021952
  no : o.ao = none → o.cap = 0
theorem OpOk.next {w W : World} {o : OpV} (h : OpOk w o) (hb : Below w.heap.size w W) : OpOk W o := ⟨h.rd.below hb, h.mx, h.no⟩
/-- A script that can be read. -/
structure RdO (w : World) (ao : Option Addr) (b off len : Nat) (l : Nat → OpV) : Prop where
  ptr : 0 < len → ao = some ⟨b, off, none⟩
  cell : ∀ j, j < len → w.cell? ⟨b, off + (j * 5 + 0), none⟩ = some (.int .i64 (l j).kind) ∧ w.cell? ⟨b, off + (j * 5 + 1), none⟩ = some (.int .i64 (l j).at') ∧ w.cell? ⟨b, off + (j * 5 + 2), none⟩ = some (.string (l j).s) ∧ w.cell? ⟨b, off + (j * 5 + 3), none⟩ = some (.int .u64 ((l j).n : Int)) ∧ w.cell? ⟨b, off + (j * 5 + 4), none⟩ = some (.slice (l j).ao (l j).Bs.length (l j).cap) ∧ OpOk w (l j)
theorem RdO.next {w W : World} {ao : Option Addr} {b off len : Nat} {l : Nat → OpV} (h : RdO w ao b off len l) (hb : Below w.heap.size w W) : RdO W ao b off len l := by
  refine ⟨h.ptr, fun j hj => ?_⟩
  obtain ⟨h0, h1, h2, h3, h4, h5⟩ := h.cell j hj
  have hlt : b < w.heap.size := World.block_lt_of_cell? _ _ h0
  exact ⟨(hb.cell (p := ⟨b, _, none⟩) hlt).trans h0, (hb.cell (p := ⟨b, _, none⟩) hlt).trans h1, (hb.cell (p := ⟨b, _, none⟩) hlt).trans h2, (hb.cell (p := ⟨b, _, none⟩) hlt).trans h3, (hb.cell (p := ⟨b, _, none⟩) hlt).trans h4, h5.next hb⟩
/-- A call's five cells, its place as a letter. -/
theorem RdO.five {w : World} {ao : Option Addr} {b off len : Nat} {l : Nat → OpV} (h : RdO w ao b off len l) {j : Nat} (hj : j < len) {a : Nat} (ha : off + j * 5 = a) :
    w.cell? ⟨b, a, none⟩ = some (.int .i64 (l j).kind) ∧ w.cell? ⟨b, a + 1, none⟩ = some (.int .i64 (l j).at') ∧ w.cell? ⟨b, a + 2, none⟩ = some (.string (l j).s) ∧ w.cell? ⟨b, a + 3, none⟩ = some (.int .u64 ((l j).n : Int)) ∧ w.cell? ⟨b, a + 4, none⟩ = some (.slice (l j).ao (l j).Bs.length (l j).cap) := by
  obtain ⟨h0, h1, h2, h3, h4, _⟩ := h.cell j hj
  subst ha
  exact ⟨h0, h1, h2, h3, h4⟩
theorem plays_any (W0 w : World) (ht : Tb W0) (hr : Tr W0) (hb0 : Below W0.heap.size W0 w) (m q : Nat) (K : Int) (L : List ByteArray) (gA cA : Nat) (vs : List Value) (hP : Pair w W0.heap.size m q K L gA cA vs) (kd at' : Int) (s : ByteArray) (n : Nat) (ao : Option Addr) (g off cap : Nat) (Bs : List (Int × Nat)) (ho : OpOk W0 ⟨kd, at', s, n, ao, g, off, cap, Bs⟩) :
    Calls Tryd.prog 29 #[.pointer (some ⟨m + 1, 0, none⟩), .pointer (some ⟨q, 0, none⟩), .agg #[.int .i64 kd, .int .i64 at', .string s, .int .u64 (n : Int), .slice ao Bs.length cap]] w fun e w' => e = .returned (.bool true) ∧ Plyd w w' W0.heap.size m q K gA vs := by
  by_cases k1 : kd = 1
  · subst k1; exact play_append W0 w ht hr hb0 m q K L gA cA vs hP at' s n ao _ cap
  by_cases k2 : kd = 2
  · subst k2; exact play_node W0 w m q K L gA cA vs hP at' s n ao _ cap
  by_cases k3 : kd = 3
  · subst k3; exact play_digest W0 w hb0 m q K L gA cA vs hP at' s n ao g off cap Bs ho.rd ho.mx
  by_cases k4 : kd = 4
  · subst k4; exact play_digests W0 w hb0 m q K L gA cA vs hP at' s n ao g off cap Bs ho.rd ho.mx ho.no
  by_cases k5 : kd = 5
  · subst k5; exact play_root W0 w ht hr hb0 m q K L gA cA vs hP at' s n ao _ cap
  exact play_else w _ m q K L gA cA vs hP kd at' s n ao _ cap k1 k2 k3 k4 k5
/-- A pair that may be missing. -/
structure PV where
  m : Nat
  q : Nat
  K : Int
  L : List ByteArray
  gA : Nat
  cA : Nat
  vs : List Value
def fP : Option PV → Value
  | none => .pointer none
  | some p => .pointer (some ⟨p.m + 1, 0, none⟩)
def rP : Option PV → Value
  | none => .pointer none
  | some p => .pointer (some ⟨p.q, 0, none⟩)
def PFp : Option PV → Nat → Prop
  | none, _ => False
  | some p, b => Fp p.m p.q p.gA p.vs b
def PIn (w : World) (B : Nat) : Option PV → Prop
  | none => True
  | some p => Pair w B p.m p.q p.K p.L p.gA p.cA p.vs
theorem PIn.same {w w' : World} {B : Nat} : ∀ {P : Option PV}, PIn w B P → (∀ b, PFp P b → w'.heap[b]? = w.heap[b]?) → PIn w' B P
  | none, _, _ => trivial
  | some _, h, hs => Pair.same h hs
theorem PIn.lt {w : World} {B : Nat} : ∀ {P : Option PV}, PIn w B P → ∀ b, PFp P b → B ≤ b ∧ b < w.heap.size
  | none, _, _, e => e.elim
  | some _, h, _, e => Pair.lt h e
/-- Two pairs and the arrays that hold them. -/
structure Ms (w wr : World) (F R : Nat) (P0 P1 : Option PV) : Prop where
  bl : Below w.heap.size w wr
  fr : w.heap.size ≤ F ∧ F < R
  p0 : PIn wr w.heap.size P0
  p1 : PIn wr w.heap.size P1
  lo : ∀ b, PFp P0 b ∨ PFp P1 b → R < b
  dj : ∀ b, PFp P0 b → PFp P1 b → False
  cf : wr.heap[F]? = some (.cells #[fP P0, fP P1] 68 (0, 0))
  cr : wr.heap[R]? = some (.cells #[rP P0, rP P1] 70 (0, 0))
section
variable {w wr wa w1 w2 w3 : World} {F R : Nat} {P0 P1 : Option PV}
theorem Ms.size (h : Ms w wr F R P0 P1) : F < wr.heap.size ∧ R < wr.heap.size := ⟨(Array.getElem?_eq_some_iff.1 h.cf).1, (Array.getElem?_eq_some_iff.1 h.cr).1⟩
theorem Ms.next (h : Ms w wr F R P0 P1) (hb : Below wr.heap.size wr wa) : Ms w wa F R P0 P1 :=
  ⟨bnext h.bl hb, h.fr, h.p0.same fun b hf => hb.block b (h.p0.lt b hf).2, h.p1.same fun b hf => hb.block b (h.p1.lt b hf).2, h.lo, h.dj, (hb.block F h.size.1).trans h.cf, (hb.block R h.size.2).trans h.cr⟩
theorem Ms.cells (h : Ms w wr F R P0 P1) : (wr.cell? ⟨F, 0, none⟩ = some (fP P0) ∧ wr.cell? ⟨F, 1, none⟩ = some (fP P1) ∧ wr.frozen? ⟨F, 0, none⟩ = false ∧ wr.frozen? ⟨F, 1, none⟩ = false) ∧ wr.cell? ⟨R, 0, none⟩ = some (rP P0) ∧ wr.cell? ⟨R, 1, none⟩ = some (rP P1) ∧ wr.frozen? ⟨R, 0, none⟩ = false ∧ wr.frozen? ⟨R, 1, none⟩ = false :=
  ⟨⟨by rw [cell_of_row wr F 0 _ _ (0, 0) h.cf]; rfl, by rw [cell_of_row wr F 1 _ _ (0, 0) h.cf]; rfl, frozen_of_row wr F 0 _ _ h.cf, frozen_of_row wr F 1 _ _ h.cf⟩, by rw [cell_of_row wr R 0 _ _ (0, 0) h.cr]; rfl, by rw [cell_of_row wr R 1 _ _ (0, 0) h.cr]; rfl, frozen_of_row wr R 0 _ _ h.cr, frozen_of_row wr R 1 _ _ h.cr⟩
/-- The first pair played. -/
theorem Ms.play0 {p : PV} {L' : List ByteArray} {gA' cA' : Nat} {vs' : List Value} (h : Ms w wr F R (some p) P1) (hs : St wr wa w.heap.size p.m p.q p.K p.gA p.vs L' gA' cA' vs') : Ms w wa F R (some ⟨p.m, p.q, p.K, L', gA', cA', vs'⟩) P1 := by
  have hsz := h.size
  have hbs := h.bl.size
  have hFR := h.fr
  have hin : ∀ b, Fp p.m p.q gA' vs' b → Fp p.m p.q p.gA p.vs b ∨ wr.heap.size ≤ b := fun b hb => by
    rcases hb with rfl | rfl | hb
    · exact .inl (.inl rfl)
    · exact .inl (.inr (.inl rfl))
    · exact (hs.ft b hb).imp_left fun e => .inr (.inr e)
  refine ⟨h.bl.trans (hs.below h.p0 hbs), h.fr, hs.pr, h.p1.same fun b hf => hs.ch.block b (h.p1.lt b hf).2 fun e => h.dj b e hf, ?_, ?_, ?_, ?_⟩
  · rintro b (hb | hb)
    · rcases hin b hb with e | e
      · exact h.lo b (.inl e)
      · omega
    · exact h.lo b (.inr hb)
  · intro b hb hb1
    rcases hin b hb with e | e
    · exact h.dj b e hb1
    · have := (h.p1.lt b hb1).2; omega
  · rw [hs.ch.block F hsz.1 fun e => by have := h.lo F (.inl e); omega]; exact h.cf
  · rw [hs.ch.block R hsz.2 fun e => by have := h.lo R (.inl e); omega]; exact h.cr
theorem Ms.play1 {p : PV} {L' : List ByteArray} {gA' cA' : Nat} {vs' : List Value} (h : Ms w wr F R P0 (some p)) (hs : St wr wa w.heap.size p.m p.q p.K p.gA p.vs L' gA' cA' vs') : Ms w wa F R P0 (some ⟨p.m, p.q, p.K, L', gA', cA', vs'⟩) := by
  have hsz := h.size
  have hbs := h.bl.size
  have hFR := h.fr
  have hin : ∀ b, Fp p.m p.q gA' vs' b → Fp p.m p.q p.gA p.vs b ∨ wr.heap.size ≤ b := fun b hb => by
    rcases hb with rfl | rfl | hb
    · exact .inl (.inl rfl)
    · exact .inl (.inr (.inl rfl))
    · exact (hs.ft b hb).imp_left fun e => .inr (.inr e)
  refine ⟨h.bl.trans (hs.below h.p1 hbs), h.fr, h.p0.same fun b hf => hs.ch.block b (h.p0.lt b hf).2 fun e => h.dj b hf e, hs.pr, ?_, ?_, ?_, ?_⟩
  · rintro b (hb | hb)
    · exact h.lo b (.inl hb)
    · rcases hin b hb with e | e
      · exact h.lo b (.inr e)
      · omega
  · intro b hb hb1
    rcases hin b hb1 with e | e
    · exact h.dj b hb e
    · have := (h.p0.lt b hb).2; omega
  · rw [hs.ch.block F hsz.1 fun e => by have := h.lo F (.inr e); omega]; exact h.cf
  · rw [hs.ch.block R hsz.2 fun e => by have := h.lo R (.inr e); omega]; exact h.cr
/-- A pair laid new. -/
theorem Rf.low {B B' q : Nat} {K : Int} {L : List ByteArray} {gA cA : Nat} {vs : List Value} (h : Rf w B q K L gA cA vs) (hB : B' ≤ B) : Rf w B' q K L gA cA vs :=
  ⟨⟨h.lv.blk, h.lv.all.mono hB, ⟨h.lv.fam.len, fun i hi => own_mono (h.lv.fam.own i hi) hB, h.lv.fam.dj⟩, by have := h.lv.bq; omega⟩, h.top, h.h1, h.h2, h.k1, h.k2, h.hn⟩
/-- New at the program, then at the reference. -/
theorem new_pair {m q : Nat} {K : Int} {gA cA : Nat} {vs : List Value} (hF : Frs w2 m K []) (hR : Rf w3 w2.heap.size q K [] gA cA vs) (hb : Below w2.heap.size w2 w3) {B : Nat} (hB : B ≤ m) : PIn w3 B (some ⟨m, q, K, [], gA, cA, vs⟩) ∧ ∀ b, PFp (some ⟨m, q, K, [], gA, cA, vs⟩) b → m ≤ b := by
  have hl := hF.lt
  have hf : ∀ b, Foot q gA vs b → w2.heap.size ≤ b := fun b hb => (hR.lv.foot hb).1
  refine ⟨⟨hF.next hb (Nat.le_refl _), hR.low (by omega), hB, fun b hb => by have := hf b hb; exact ⟨show b ≠ m by omega, show b ≠ m + 1 by omega⟩⟩, ?_⟩
  rintro b (e | e | e)
  · exact Nat.le_of_eq e.symm
  · rw [e]; exact Nat.le_succ _
  · have := hf b e; show m ≤ b; omega
theorem Ms.put0 {P : Option PV} (h : Ms w wr F R P0 P1) (hb : Below wr.heap.size wr w3) (hP : PIn w3 w.heap.size P) (hlo : ∀ b, PFp P b → wr.heap.size ≤ b) : Ms w ((w3.setCell ⟨F, 0, none⟩ (fP P)).setCell ⟨R, 0, none⟩ (rP P)) F R P P1 := by
  have h3 := h.next hb
  have hsz := h.size
  have hFR := h.fr
  have hne : ∀ b, R < b → ((w3.setCell ⟨F, 0, none⟩ (fP P)).setCell ⟨R, 0, none⟩ (rP P)).heap[b]? = w3.heap[b]? := fun b hb => by
    rw [Below.heap_setCell _ ⟨R, 0, none⟩ _ b (show b ≠ R by omega), Below.heap_setCell _ ⟨F, 0, none⟩ _ b (show b ≠ F by omega)]
  refine ⟨(h3.bl.setCell (p := ⟨F, 0, none⟩) hFR.1 _).setCell (p := ⟨R, 0, none⟩) (show w.heap.size ≤ R by omega) _, h.fr, hP.same fun b hf => hne b (by have := hlo b hf; omega), h3.p1.same fun b hf => hne b (h.lo b (.inr hf)), ?_, ?_, ?_, ?_⟩
  · rintro b (e | e)
    · have := hlo b e; omega
    · exact h.lo b (.inr e)
  · intro b e e1
    have := hlo b e
    have := (h.p1.lt b e1).2
    omega
  · rw [Below.heap_setCell _ ⟨R, 0, none⟩ _ F (show F ≠ R by omega)]
    exact heap_setCell_same w3 F 0 _ _ _ h3.cf
  · have := (Below.heap_setCell w3 ⟨F, 0, none⟩ (fP P) R (show R ≠ F by omega)).trans h3.cr
    exact heap_setCell_same _ R 0 _ _ _ this
theorem Ms.put1 {P : Option PV} (h : Ms w wr F R P0 P1) (hb : Below wr.heap.size wr w3) (hP : PIn w3 w.heap.size P) (hlo : ∀ b, PFp P b → wr.heap.size ≤ b) : Ms w ((w3.setCell ⟨F, 1, none⟩ (fP P)).setCell ⟨R, 1, none⟩ (rP P)) F R P0 P := by
  have h3 := h.next hb
  have hsz := h.size
  have hFR := h.fr
  have hne : ∀ b, R < b → ((w3.setCell ⟨F, 1, none⟩ (fP P)).setCell ⟨R, 1, none⟩ (rP P)).heap[b]? = w3.heap[b]? := fun b hb => by
    rw [Below.heap_setCell _ ⟨R, 1, none⟩ _ b (show b ≠ R by omega), Below.heap_setCell _ ⟨F, 1, none⟩ _ b (show b ≠ F by omega)]
  refine ⟨(h3.bl.setCell (p := ⟨F, 1, none⟩) hFR.1 _).setCell (p := ⟨R, 1, none⟩) (show w.heap.size ≤ R by omega) _, h.fr, h3.p0.same fun b hf => hne b (h.lo b (.inl hf)), hP.same fun b hf => hne b (by have := hlo b hf; omega), ?_, ?_, ?_, ?_⟩
  · rintro b (e | e)
    · exact h.lo b (.inl e)
    · have := hlo b e; omega
  · intro b e1 e
    have := hlo b e
    have := (h.p0.lt b e1).2
    omega
  · rw [Below.heap_setCell _ ⟨R, 1, none⟩ _ F (show F ≠ R by omega)]
    exact heap_setCell_same w3 F 1 _ _ _ h3.cf
  · have := (Below.heap_setCell w3 ⟨F, 1, none⟩ (fP P) R (show R ≠ F by omega)).trans h3.cr
    exact heap_setCell_same _ R 1 _ _ _ this
end
end Go.Proofs.YtabdobdopcfllaaDoor
