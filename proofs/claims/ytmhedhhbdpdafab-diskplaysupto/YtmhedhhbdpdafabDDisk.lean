/-
  A disk in memory. Own work.
-/
import Derived.Test.YtmhedhhbdpdafabDWalkB
import Derived.Test.YtmhedhhbdpdafabDWalkC
namespace Go.Proofs.Ytmhedhhbdpdafab
open Go.RowKit
/-- Where a file's rows lie. -/
structure FR where
  a : Option Addr
  g : Nat
  c : Nat
  b : Option Addr
  h : Nat
  d : Nat
  s : Nat
/-- Nowhere. -/
def fr0 : FR := ⟨none, 0, 0, none, 0, 0, 0⟩
/-- A file's value. -/
def fval (f : FV) (r : FR) : Value := fv r.a f.now.length r.c r.b f.syn.length r.d r.s
/-- A file in memory. -/
structure Fil (w : World) (f : FV) (r : FR) : Prop where
  now : Rw w r.a r.g r.c f.now
  syn : Rw w r.b r.h r.d f.syn
  s1 : r.s ≤ f.now.length
  s2 : r.s ≤ f.syn.length
  sm : f.syn.take r.s = f.now.take r.s
  ap : r.a = some ⟨r.g, 0, none⟩ → r.b = some ⟨r.h, 0, none⟩ → r.g ≠ r.h
  b1 : f.now.length ≤ 268435456
  b2 : f.syn.length ≤ 268435456
/-- Its blocks. -/
def Blk (r : FR) (x : Nat) : Prop := (r.a = some ⟨r.g, 0, none⟩ ∧ x = r.g) ∨ (r.b = some ⟨r.h, 0, none⟩ ∧ x = r.h)
theorem Fil.same {w W : World} {f : FV} {r : FR} (h : Fil w f r) (hb : ∀ x, Blk r x → W.heap[x]? = w.heap[x]?) : Fil W f r :=
  ⟨h.now.same fun e => hb _ (.inl ⟨e, rfl⟩), h.syn.same fun e => hb _ (.inr ⟨e, rfl⟩), h.s1, h.s2, h.sm, h.ap, h.b1, h.b2⟩
theorem Fil.blk {w : World} {f : FV} {r : FR} (h : Fil w f r) {x : Nat} (hx : Blk r x) : Ty w x 5 := by
  rcases hx with ⟨e, rfl⟩ | ⟨e, rfl⟩
  · exact h.now.ty e
  · exact h.syn.ty e
theorem fil_none (w : World) : Fil w fz fr0 := ⟨rw_nil w 0, rw_nil w 0, Nat.le_refl _, Nat.le_refl _, rfl, fun e => (by cases e), Nat.zero_le _, Nat.zero_le _⟩
theorem blk_none {x : Nat} (h : Blk fr0 x) : False := by
  rcases h with ⟨e, _⟩ | ⟨e, _⟩ <;> cases e
/-- A disk. -/
structure DV where
  free : Nat
  L : List (List UInt8 × FV)
  acts : Nat
  fa : Int
  fk : Int
  ks : List Bool
  down : Bool
/-- The names. -/
def keys (L : List (List UInt8 × FV)) : List (List UInt8) := L.map (·.1)
/-- What the map holds. -/
def mapF (L : List (List UInt8 × FV)) (R : List UInt8 → FR) : List UInt8 → Option Value := fun s => if s ∈ keys L then some (fval (fget L s) (R s)) else none
/-- A disk at p: its map at m, its files' rows; one file (ex) may be under way. -/
structure Dk (w : World) (p m : Nat) (R : List UInt8 → FR) (ka : Option Addr) (kb ko kc : Nat) (D : DV) (ex : Option (List UInt8)) : Prop where
  blk : w.heap[p]? = some (.cells #[.int .i64 (D.free : Int), .map (some m), .int .i64 (D.acts : Int), .int .i64 D.fa, .int .i64 D.fk, .slice ka D.ks.length kc, .bool D.down] 62 (0, 0))
  mp : Mv w m (mapF D.L R)
  ord : Ord D.L
  fil : ∀ s ∈ keys D.L, some s ≠ ex → Fil w (fget D.L s) (R s)
  low : ∀ s ∈ keys D.L, ∀ x, Blk (R s) x → Ty w x 5
  apart : ∀ s ∈ keys D.L, ∀ t ∈ keys D.L, s ≠ t → ∀ x, Blk (R s) x → Blk (R t) x → False
  nm : ∀ s ∈ keys D.L, s.length ≤ maxLen
  cnt : D.L.length ≤ 1099511627776
  kp : RdL w ka kb ko D.ks
  kt : 0 < D.ks.length → Ty w kb 4
  kl : D.ks.length ≤ 140737488355328
  fr : D.free ≤ 9223372036854775807
  ac : D.acts ≤ 4611686018427387904
  ft : D.fk = 0 ∨ (1 ≤ D.fk ∧ D.fk ≤ 5 ∧ 1 ≤ D.fa ∧ D.fa ≤ 9223372036854775807)
/-- Its blocks. -/
def Foot (p m : Nat) (R : List UInt8 → FR) (kb : Nat) (D : DV) (x : Nat) : Prop := x = p ∨ x = m ∨ (∃ s ∈ keys D.L, Blk (R s) x) ∨ (0 < D.ks.length ∧ x = kb)
section
variable {w W : World} {p m : Nat} {R : List UInt8 → FR} {ka : Option Addr} {kb ko kc : Nat} {D : DV} {ex : Option (List UInt8)}
theorem Dk.lt (h : Dk w p m R ka kb ko kc D ex) {x : Nat} (hx : Foot p m R kb D x) : x < w.heap.size := by
  rcases hx with rfl | rfl | ⟨s, hs, hx⟩ | ⟨h0, rfl⟩
  · exact (Array.getElem?_eq_some_iff.1 h.blk).1
  · exact h.mp.lt
  · exact (h.low s hs x hx).lt
  · exact (h.kt h0).lt
theorem Dk.same (h : Dk w p m R ka kb ko kc D ex) (hb : ∀ x, Foot p m R kb D x → W.heap[x]? = w.heap[x]?) : Dk W p m R ka kb ko kc D ex :=
  ⟨(hb p (.inl rfl)).trans h.blk, h.mp.same (hb m (.inr (.inl rfl))), h.ord, fun s hs he => (h.fil s hs he).same fun x hx => hb x (.inr (.inr (.inl ⟨s, hs, hx⟩))), fun s hs x hx => (h.low s hs x hx).same (hb x (.inr (.inr (.inl ⟨s, hs, hx⟩)))), h.apart, h.nm, h.cnt, h.kp.same fun h0 => hb kb (.inr (.inr (.inr ⟨h0, rfl⟩))), fun h0 => (h.kt h0).same (hb kb (.inr (.inr (.inr ⟨h0, rfl⟩)))), h.kl, h.fr, h.ac, h.ft⟩
theorem Dk.next (h : Dk w p m R ka kb ko kc D ex) (hb : Below w.heap.size w W) : Dk W p m R ka kb ko kc D ex := h.same fun x hx => hb.block x (h.lt hx)
theorem Dk.cells (h : Dk w p m R ka kb ko kc D ex) : w.cell? ⟨p, 0, none⟩ = some (.int .i64 (D.free : Int)) ∧ w.cell? ⟨p, 1, none⟩ = some (.map (some m)) ∧ w.cell? ⟨p, 2, none⟩ = some (.int .i64 (D.acts : Int)) ∧ w.cell? ⟨p, 3, none⟩ = some (.int .i64 D.fa) ∧ w.cell? ⟨p, 4, none⟩ = some (.int .i64 D.fk) ∧ w.cell? ⟨p, 5, none⟩ = some (.slice ka D.ks.length kc) ∧ w.cell? ⟨p, 6, none⟩ = some (.bool D.down) :=
  ⟨by rw [cell_of_row w p 0 _ _ (0, 0) h.blk]; rfl, by rw [cell_of_row w p 1 _ _ (0, 0) h.blk]; rfl, by rw [cell_of_row w p 2 _ _ (0, 0) h.blk]; rfl, by rw [cell_of_row w p 3 _ _ (0, 0) h.blk]; rfl, by rw [cell_of_row w p 4 _ _ (0, 0) h.blk]; rfl, by rw [cell_of_row w p 5 _ _ (0, 0) h.blk]; rfl, by rw [cell_of_row w p 6 _ _ (0, 0) h.blk]; rfl⟩
theorem Dk.frz (h : Dk w p m R ka kb ko kc D ex) (j : Nat) : w.frozen? ⟨p, j, none⟩ = false := frozen_of_row w p j _ _ h.blk
theorem Dk.pm (h : Dk w p m R ka kb ko kc D ex) : p ≠ m := by
  rintro rfl
  obtain ⟨D0, ⟨es, c, h1, _⟩, _⟩ := h.mp
  rw [h.blk] at h1
  cases h1
theorem Ty.mv {w : World} {x m : Nat} {T : TypeId} {F : List UInt8 → Option Value} (h : Ty w x T) (hm : Mv w m F) : x ≠ m := by
  rintro rfl
  obtain ⟨cs, fr, h⟩ := h
  obtain ⟨D0, ⟨es, c, h1, _⟩, _⟩ := hm
  rw [h] at h1
  cases h1
/-- A row's block is none of the others. -/
theorem Dk.other (h : Dk w p m R ka kb ko kc D ex) {x : Nat} (hx : Ty w x 5) : x ≠ p ∧ x ≠ m ∧ (0 < D.ks.length → x ≠ kb) :=
  ⟨hx.ne ⟨_, _, h.blk⟩ (by decide), hx.mv h.mp, fun h0 => hx.ne (h.kt h0) (by decide)⟩
theorem Dk.kbp (h : Dk w p m R ka kb ko kc D ex) (h0 : 0 < D.ks.length) : kb ≠ p ∧ kb ≠ m := ⟨(h.kt h0).ne ⟨_, _, h.blk⟩ (by decide), (h.kt h0).mv h.mp⟩
theorem keys_nodup {L : List (List UInt8 × FV)} (h : Ord L) : (keys L).Nodup := by
  refine List.pairwise_map.2 (h.1.imp fun {a b} hlt e => ?_)
  rw [e] at hlt
  exact List.lt_irrefl _ hlt
theorem keys_map (L : List (List UInt8 × FV)) (R : List UInt8 → FR) (s : List UInt8) : s ∈ keys L ↔ (mapF L R s).isSome = true := by
  unfold mapF
  split
  · simp [*]
  · simp [*]
theorem keys_put {L : List (List UInt8 × FV)} (h : Ord L) (s : List UInt8) (f : FV) (t : List UInt8) : t ∈ keys (fput L s f) ↔ (if t = s then f.gone = false else t ∈ keys L) := by
  have e := fget_gone (ord_fput h s f) (s := t)
  rw [fget_fput h] at e
  by_cases hts : t = s
  · subst hts
    rw [if_pos rfl] at e ⊢
    constructor
    · intro hm
      cases hg : f.gone
      · rfl
      · exact absurd hm (e.1 hg)
    · intro hg
      rcases Decidable.em (t ∈ keys (fput L t f)) with q | q
      · exact q
      · rw [e.2 q] at hg; cases hg
  · rw [if_neg hts] at e ⊢
    have e2 := fget_gone h (s := t)
    rw [e] at e2
    constructor
    · intro hm
      rcases Decidable.em (t ∈ keys L) with q | q
      · exact q
      · exact absurd hm (e2.2 q)
    · intro hm
      rcases Decidable.em (t ∈ keys (fput L s f)) with q | q
      · exact q
      · exact absurd hm (e2.1 q)
theorem len_put {L : List (List UInt8 × FV)} (s : List UInt8) (f : FV) : (fput L s f).length ≤ L.length + 1 := by
  induction L with
  | nil => rw [fput]; split <;> simp
  | cons q r ih =>
    obtain ⟨t, g⟩ := q
    rw [fput]
    split
    · split <;> simp
      omega
    · split
      · split <;> simp
      · simp; omega
/-- What a look up gives. -/
theorem Dk.look (h : Dk w p m R ka kb ko kc D ex) (s : ByteArray) (hs : s.size ≤ maxLen) : ∃ r, (∀ W, W.heap[m]? = w.heap[m]? → (Instr.lookup 58 (.map (some m)) (.string s) false).run Try.prog W = .ok (fval (fget D.L s.data.toList) r) W) ∧
    ((s.data.toList ∈ keys D.L ∧ r = R s.data.toList) ∨ (s.data.toList ∉ keys D.L ∧ r = fr0 ∧ fget D.L s.data.toList = fz)) := by
  have hz : ∀ W, (zeroValue 69).run Try.prog W = .ok (fval fz fr0) W := fun W => by kernel_rfl
  by_cases hm : s.data.toList ∈ keys D.L
  · refine ⟨R s.data.toList, fun W hW => ?_, .inl ⟨hm, rfl⟩⟩
    rw [(h.mp.same hW).look Try.underlying58 (hz W) hs, mapF, if_pos hm, Option.getD_some]
  · refine ⟨fr0, fun W hW => ?_, .inr ⟨hm, rfl, fget_none hm⟩⟩
    rw [(h.mp.same hW).look Try.underlying58 (hz W) hs, mapF, if_neg hm, Option.getD_none, fget_none hm]
end
end Go.Proofs.Ytmhedhhbdpdafab
