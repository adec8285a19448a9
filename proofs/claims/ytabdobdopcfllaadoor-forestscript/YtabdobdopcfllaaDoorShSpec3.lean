/-
  The end of a sum as plain functions; laws on the two copies that 'closed' makes. Own work.
-/
import Derived.Test.YtabdobdopcfllaaDoorShSpec2
import Derived.Test.YtabdobdopcfllaaDoorShWalkB
namespace Go.Proofs.YtabdobdopcfllaaDoor
open Go.RowKit

/-- The last block: what waits, the end mark, zeros. -/
def endL (blk : List Int) (u : Nat) : List Int := (blk.set u 128).take (u + 1) ++ List.replicate (64 - (u + 1)) 0
/-- The number of bits, byte by byte from behind. -/
def lenAt (l : List Int) (b : Int) : Nat → List Int
  | 0 => l
  | k + 1 => (lenAt l b k).set (63 - k) (IntKind.u8.wrap (b / 2 ^ (8 * k)))
def closeI (rs st blk : List Int) (n : Nat) : List Int :=
  if 55 < n % 64 then foldI rs (foldI rs st (endL blk (n % 64))) (lenAt (List.replicate 64 0) (IntKind.u64.wrap ((n : Int) * 8)) 8)
  else foldI rs st (lenAt (endL blk (n % 64)) (IntKind.u64.wrap ((n : Int) * 8)) 8)
theorem endL_len {blk : List Int} (h : blk.length = 64) {u : Nat} (hu : u < 64) : (endL blk u).length = 64 := by
  simp [endL, h]; omega
theorem lenAt_len (l : List Int) (b : Int) (k : Nat) : (lenAt l b k).length = l.length := by
  induction k with
  | zero => rfl
  | succ k ih => simp [lenAt, ih]
theorem closeI_len (rs st blk : List Int) (n : Nat) : (closeI rs st blk n).length = 8 := by
  unfold closeI; split <;> rfl

/-- A hash in memory. -/
structure Hs (w : World) (p : Nat) (st blk : List Int) (n : Nat) : Prop where
  stl : st.length = 8
  blkl : blk.length = 64
  st : w.rangeAt p 0 (cW st)
  blk : w.rangeAt p 8 (cB blk)
  len : w.cell? ⟨p, 72, none⟩ = some (.int .u64 n)
  there : w.there p 0 73
theorem Hs.lt {w : World} {p : Nat} {st blk : List Int} {n : Nat} (h : Hs w p st blk n) : p < w.heap.size := World.block_lt_of_cell? _ _ h.len
theorem Hs.later {w w' : World} {p B : Nat} {st blk : List Int} {n : Nat} (h : Hs w p st blk n) (hb : Below B w w') (hp : p < B) : Hs w' p st blk n :=
  ⟨h.stl, h.blkl, range_below hb hp h.st, range_below hb hp h.blk, by rw [hb.cell (p := ⟨p, 72, none⟩) hp]; exact h.len, there_below hb hp h.there⟩

/-- The cells from k on are stored anew. -/
theorem range_part {w : World} {b : Nat} {cs : List Value} (h : w.rangeAt b 0 cs) (k : Nat) (vs : List Value) (hk : k + vs.length = cs.length) (ht : w.there b k vs.length) :
    (w.setCells b k vs).rangeAt b 0 (cs.take k ++ vs) := fun j u hu => by
  rw [Nat.zero_add]
  by_cases hj : j < k
  · rw [List.getElem?_append_left (by simp; omega), List.getElem?_take, if_pos hj] at hu
    rw [World.cell?_setCells_out b vs k w ⟨b, j, none⟩ (fun _ _ => Or.inl hj)]
    have := h j u hu
    rwa [Nat.zero_add] at this
  · rw [List.getElem?_append_right (by simp; omega)] at hu
    have hlen : (cs.take k).length = k := by simp; omega
    rw [hlen] at hu
    have hlt : j - k < vs.length := (List.getElem?_eq_some_iff.1 hu).1
    have := World.cell?_setCells_in b vs k w (fun i hi => (ht i hi).1) (j - k) hlt
    rw [show k + (j - k) = j by omega] at this
    rw [this, ← hu, List.getElem?_eq_getElem hlt]

/-- behind 'state, last, used := h.state, h.block, h.waiting()': the two copies, wherever they lie. -/
structure Cl (w wc : World) (st last : List Int) (bs bl : Nat) : Prop where
  stl : st.length = 8
  lastl : last.length = 64
  below : Below w.heap.size w wc
  hbs : w.heap.size + 1 ≤ bs
  hbl : w.heap.size + 1 ≤ bl
  ne : bs ≠ bl
  st : wc.rangeAt bs 0 (cW st)
  stt : wc.there bs 0 8
  last : wc.rangeAt bl 0 (cB last)
  lastt : wc.there bl 0 64
  res : wc.there w.heap.size 0 8

theorem Cl.one (w : World) (st blk : List Int) (hs : st.length = 8) (hb : blk.length = 64) (z : List Int) (hz : z.length = 8) (z2 : List Int) (hz2 : z2.length = 64) (t1 t2 t3 : TypeId) :
    Cl w ((((w.alloc (.cells (cW z).toArray t1)).alloc (.cells (cW st).toArray t2)).alloc (.cells (cB z2).toArray t3)).drew.setCells (w.heap.size + 1 + 1) 0 (cB blk)) st blk (w.heap.size + 1) (w.heap.size + 1 + 1) := by
  have r1 := range_new (w.alloc (.cells (cW z).toArray t1)) (cW st) t2
  have q1 := there_new (w.alloc (.cells (cW z).toArray t1)) (cW st).toArray t2 8 (by simp [cW_len, hs])
  have q2 := there_new ((w.alloc (.cells (cW z).toArray t1)).alloc (.cells (cW st).toArray t2)) (cB z2).toArray t3 64 (by simp [cB_len, hz2])
  have q0 := there_new w (cW z).toArray t1 8 (by simp [cW_len, hz])
  simp only [World.size_alloc] at r1 q1 q2 q0
  refine ⟨hs, hb, below_setCells ((((Below.refl _ _).alloc (Nat.le_refl _) _).alloc (by simp) _).alloc (by simp; omega) _).drew (by omega) _ _, by omega, by omega, by omega, ?_, ?_, ?_, ?_, ?_⟩
  · exact World.rangeAt_setCells_apart (by rw [World.rangeAt_drew]; exact World.rangeAt_alloc r1 _) _ _ _ (Or.inl (by omega))
  · exact World.there_setCells (by rw [World.there_drew]; exact World.there_alloc q1 _) _ _ _
  · exact World.rangeAt_setCells_same _ _ _ _ (by rw [World.there_drew, cB_len, hb]; exact q2)
  · exact World.there_setCells (by rw [World.there_drew]; exact q2) _ _ _
  · exact World.there_setCells (by rw [World.there_drew]; exact World.there_alloc (World.there_alloc q0 _) _) _ _ _
theorem Cl.two (w : World) (st blk : List Int) (hs : st.length = 8) (hb : blk.length = 64) (z : List Int) (hz : z.length = 8) (z2 : List Int) (hz2 : z2.length = 64) (t1 t2 t3 : TypeId) :
    Cl w ((((w.alloc (.cells (cW z).toArray t1)).alloc (.cells (cB z2).toArray t3)).alloc (.cells (cW st).toArray t2)).drew.setCells (w.heap.size + 1) 0 (cB blk)) st blk (w.heap.size + 1 + 1) (w.heap.size + 1) := by
  have r1 := range_new ((w.alloc (.cells (cW z).toArray t1)).alloc (.cells (cB z2).toArray t3)) (cW st) t2
  have q1 := there_new ((w.alloc (.cells (cW z).toArray t1)).alloc (.cells (cB z2).toArray t3)) (cW st).toArray t2 8 (by simp [cW_len, hs])
  have q2 := there_new (w.alloc (.cells (cW z).toArray t1)) (cB z2).toArray t3 64 (by simp [cB_len, hz2])
  have q0 := there_new w (cW z).toArray t1 8 (by simp [cW_len, hz])
  simp only [World.size_alloc] at r1 q1 q2 q0
  refine ⟨hs, hb, below_setCells ((((Below.refl _ _).alloc (Nat.le_refl _) _).alloc (by simp) _).alloc (by simp; omega) _).drew (by omega) _ _, by omega, by omega, by omega, ?_, ?_, ?_, ?_, ?_⟩
  · exact World.rangeAt_setCells_apart (by rw [World.rangeAt_drew]; exact r1) _ _ _ (Or.inl (by omega))
  · exact World.there_setCells (by rw [World.there_drew]; exact q1) _ _ _
  · exact World.rangeAt_setCells_same _ _ _ _ (by rw [World.there_drew, cB_len, hb]; exact World.there_alloc q2 _)
  · exact World.there_setCells (by rw [World.there_drew]; exact World.there_alloc q2 _) _ _ _
  · exact World.there_setCells (by rw [World.there_drew]; exact World.there_alloc (World.there_alloc q0 _) _) _ _ _
theorem Cl.set {w wc : World} {st last : List Int} {bs bl : Nat} (h : Cl w wc st last bs bl) (i : Nat) (v : Int) : Cl w (wc.setCell ⟨bl, i, none⟩ (.int .u8 v)) st (last.set i v) bs bl := by
  have hbl := h.hbl
  refine ⟨h.stl, by rw [List.length_set]; exact h.lastl, h.below.setCell (by show w.heap.size ≤ bl; omega) _, h.hbs, h.hbl, h.ne, range_other h.st (Ne.symm h.ne) _, there_set h.stt _ _, ?_, there_set h.lastt _ _, there_set h.res _ _⟩
  have := range_set h.last i (.int .u8 v)
  rwa [Nat.zero_add, cB_set] at this
theorem Cl.rest {w wc : World} {st last : List Int} {bs bl : Nat} (h : Cl w wc st last bs bl) (k : Nat) (hk : k ≤ 64) :
    Cl w (wc.setCells bl k (List.replicate (64 - k) (.int .u8 0))) st (last.take k ++ List.replicate (64 - k) 0) bs bl := by
  have hbl := h.hbl
  have hl := h.lastl
  have e : (List.replicate (64 - k) (Value.int .u8 0)) = cB (List.replicate (64 - k) 0) := by simp [cB]
  refine ⟨h.stl, by simp [hl]; omega, below_setCells h.below (by omega) _ _, h.hbs, h.hbl, h.ne, World.rangeAt_setCells_apart h.st _ _ _ (Or.inl h.ne), World.there_setCells h.stt _ _ _, ?_, World.there_setCells h.lastt _ _ _, World.there_setCells h.res _ _ _⟩
  have := range_part h.last k (List.replicate (64 - k) (Value.int .u8 0)) (by simp [cB_len, hl]; omega) (fun j hj => by
    have := h.lastt (k + j) (by simp at hj; omega)
    rwa [Nat.zero_add] at this)
  rw [e] at this
  rw [e]
  simpa [cB, List.map_take] using this
theorem Cl.later {w wc w' : World} {st last : List Int} {bs bl : Nat} (h : Cl w wc st last bs bl) (hb : Below wc.heap.size wc w') : Cl w w' st last bs bl := by
  have h1 := there_lt h.stt (by decide)
  have h2 := there_lt h.lastt (by decide)
  have h3 := there_lt h.res (by decide)
  exact ⟨h.stl, h.lastl, h.below.trans (hb.mono (by omega)), h.hbs, h.hbl, h.ne, range_below hb h1 h.st, there_below hb h1 h.stt, range_below hb h2 h.last, there_below hb h2 h.lastt, there_below hb h3 h.res⟩
theorem Cl.storeSt {w wc : World} {st last : List Int} {bs bl : Nat} (h : Cl w wc st last bs bl) (st' : List Int) (hs : st'.length = 8) : Cl w (wc.setCells bs 0 (cW st')) st' last bs bl := by
  have hbs := h.hbs
  exact ⟨hs, h.lastl, below_setCells h.below (by omega) _ _, h.hbs, h.hbl, h.ne, World.rangeAt_setCells_same _ _ _ _ (by rw [cW_len, hs]; exact h.stt), World.there_setCells h.stt _ _ _, World.rangeAt_setCells_apart h.last _ _ _ (Or.inl (Ne.symm h.ne)), World.there_setCells h.lastt _ _ _, World.there_setCells h.res _ _ _⟩
theorem Cl.storeLast {w wc : World} {st last : List Int} {bs bl : Nat} (h : Cl w wc st last bs bl) (l' : List Int) (hs : l'.length = 64) : Cl w (wc.setCells bl 0 (cB l')) st l' bs bl := by
  have hbl := h.hbl
  exact ⟨h.stl, hs, below_setCells h.below (by omega) _ _, h.hbs, h.hbl, h.ne, World.rangeAt_setCells_apart h.st _ _ _ (Or.inl h.ne), World.there_setCells h.stt _ _ _, World.rangeAt_setCells_same _ _ _ _ (by rw [cB_len, hs]; exact h.lastt), World.there_setCells h.lastt _ _ _, World.there_setCells h.res _ _ _⟩
end Go.Proofs.YtabdobdopcfllaaDoor
