/-
  Own work: DDisk, DPut, DMet.
-/
import Derived.BigRegion
import Derived.Deep.RegionWith
import Derived.Test.YthfnpagangjpbabGreatV07
namespace Go.Proofs.YthfnpagangjpbabGreat
open Go.RowKit
structure FR where
  a : Option Addr
  g : Nat
  c : Nat
  b : Option Addr
  h : Nat
  d : Nat
  s : Nat
def fr0 : FR := ⟨none, 0, 0, none, 0, 0, 0⟩
def fval (f : FV) (r : FR) : Value := fv r.a f.now.length r.c r.b f.syn.length r.d r.s
structure Fil (w : World) (f : FV) (r : FR) : Prop where
  now : Rw w r.a r.g r.c f.now
  syn : Rw w r.b r.h r.d f.syn
  s1 : r.s ≤ f.now.length
  s2 : r.s ≤ f.syn.length
  sm : f.syn.take r.s = f.now.take r.s
  ap : r.a = some ⟨r.g, 0, none⟩ → r.b = some ⟨r.h, 0, none⟩ → r.g ≠ r.h
  b1 : f.now.length ≤ 268435456
  b2 : f.syn.length ≤ 268435456
def Blk (r : FR) (x : Nat) : Prop := (r.a = some ⟨r.g, 0, none⟩ ∧ x = r.g) ∨ (r.b = some ⟨r.h, 0, none⟩ ∧ x = r.h)
theorem Fil.same {w W : World} {f : FV} {r : FR} (h : Fil w f r) (hb : ∀ x, Blk r x → W.heap[x]? = w.heap[x]?) : Fil W f r :=
  ⟨h.now.same fun e => hb _ (.inl ⟨e, rfl⟩), h.syn.same fun e => hb _ (.inr ⟨e, rfl⟩), h.s1, h.s2, h.sm, h.ap, h.b1, h.b2⟩
theorem Fil.blk {w : World} {f : FV} {r : FR} (h : Fil w f r) {x : Nat} (hx : Blk r x) : Ty w x 5 := by
  rcases hx with ⟨e, rfl⟩ | ⟨e, rfl⟩
  · exact h.now.ty e
  · exact h.syn.ty e
theorem fil_none (w : World) : Fil w fz fr0 := ⟨rw_nil w 0, rw_nil w 0, Nat.le_refl _, Nat.le_refl _, rfl, fun e => (by cases e), Nat.zero_le _, Nat.zero_le _⟩
theorem blk_none {x : Nat} (h : Blk fr0 x) : False := by
  rcases h with ⟨e, _⟩ | ⟨e, _⟩ <;> cases e
structure DV where
  free : Nat
  L : List (List UInt8 × FV)
  acts : Nat
  fa : Int
  fk : Int
  ks : List Bool
  down : Bool
def keys (L : List (List UInt8 × FV)) : List (List UInt8) := L.map (·.1)
def mapF (L : List (List UInt8 × FV)) (R : List UInt8 → FR) : List UInt8 → Option Value := fun s => if s ∈ keys L then some (fval (fget L s) (R s)) else none
structure Dk (w : World) (p m : Nat) (R : List UInt8 → FR) (ka : Option Addr) (kb ko kc : Nat) (D : DV) (ex : Option (List UInt8)) : Prop where
  blk : w.heap[p]? = some (.cells #[.int .i64 (D.free : Int), .map (some m), .int .i64 (D.acts : Int), .int .i64 D.fa, .int .i64 D.fk, .slice ka D.ks.length kc, .bool D.down] 69 (0, 0))
  mp : Mv w m (mapF D.L R)
  ord : Ord D.L
  fil : ∀ s ∈ keys D.L, some s ≠ ex → Fil w (fget D.L s) (R s)
  low : ∀ s ∈ keys D.L, ∀ x, Blk (R s) x → Ty w x 5
  apart : ∀ s ∈ keys D.L, ∀ t ∈ keys D.L, s ≠ t → ∀ x, Blk (R s) x → Blk (R t) x → False
  nm : ∀ s ∈ keys D.L, s.length ≤ maxLen
  cnt : D.L.length ≤ 1099511627776
  kp : RdL w ka kb ko D.ks
  kt : 0 < D.ks.length → Ty w kb 4
  kl : D.ks.length ≤ 140737488355328
  fr : D.free ≤ 9223372036854775807
  ac : D.acts ≤ 4611686018427387904
  ft : D.fk = 0 ∨ (1 ≤ D.fk ∧ D.fk ≤ 5 ∧ 1 ≤ D.fa ∧ D.fa ≤ 9223372036854775807)
def Foot (p m : Nat) (R : List UInt8 → FR) (kb : Nat) (D : DV) (x : Nat) : Prop := x = p ∨ x = m ∨ (∃ s ∈ keys D.L, Blk (R s) x) ∨ (0 < D.ks.length ∧ x = kb)
section
variable {w W : World} {p m : Nat} {R : List UInt8 → FR} {ka : Option Addr} {kb ko kc : Nat} {D : DV} {ex : Option (List UInt8)}
theorem Dk.lt (h : Dk w p m R ka kb ko kc D ex) {x : Nat} (hx : Foot p m R kb D x) : x < w.heap.size := by
  rcases hx with rfl | rfl | ⟨s, hs, hx⟩ | ⟨h0, rfl⟩
  · exact (Array.getElem?_eq_some_iff.1 h.blk).1
  · exact h.mp.lt
  · exact (h.low s hs x hx).lt
  · exact (h.kt h0).lt
theorem Dk.same (h : Dk w p m R ka kb ko kc D ex) (hb : ∀ x, Foot p m R kb D x → W.heap[x]? = w.heap[x]?) : Dk W p m R ka kb ko kc D ex :=
  ⟨(hb p (.inl rfl)).trans h.blk, h.mp.same (hb m (.inr (.inl rfl))), h.ord, fun s hs he => (h.fil s hs he).same fun x hx => hb x (.inr (.inr (.inl ⟨s, hs, hx⟩))), fun s hs x hx => (h.low s hs x hx).same (hb x (.inr (.inr (.inl ⟨s, hs, hx⟩)))), h.apart, h.nm, h.cnt, h.kp.same fun h0 => hb kb (.inr (.inr (.inr ⟨h0, rfl⟩))), fun h0 => (h.kt h0).same (hb kb (.inr (.inr (.inr ⟨h0, rfl⟩)))), h.kl, h.fr, h.ac, h.ft⟩
theorem Dk.next (h : Dk w p m R ka kb ko kc D ex) (hb : Below w.heap.size w W) : Dk W p m R ka kb ko kc D ex := h.same fun x hx => hb.block x (h.lt hx)
theorem Dk.cells (h : Dk w p m R ka kb ko kc D ex) : w.cell? ⟨p, 0, none⟩ = some (.int .i64 (D.free : Int)) ∧ w.cell? ⟨p, 1, none⟩ = some (.map (some m)) ∧ w.cell? ⟨p, 2, none⟩ = some (.int .i64 (D.acts : Int)) ∧ w.cell? ⟨p, 3, none⟩ = some (.int .i64 D.fa) ∧ w.cell? ⟨p, 4, none⟩ = some (.int .i64 D.fk) ∧ w.cell? ⟨p, 5, none⟩ = some (.slice ka D.ks.length kc) ∧ w.cell? ⟨p, 6, none⟩ = some (.bool D.down) :=
  ⟨by rw [cell_of_row w p 0 _ _ (0, 0) h.blk]; rfl, by rw [cell_of_row w p 1 _ _ (0, 0) h.blk]; rfl, by rw [cell_of_row w p 2 _ _ (0, 0) h.blk]; rfl, by rw [cell_of_row w p 3 _ _ (0, 0) h.blk]; rfl, by rw [cell_of_row w p 4 _ _ (0, 0) h.blk]; rfl, by rw [cell_of_row w p 5 _ _ (0, 0) h.blk]; rfl, by rw [cell_of_row w p 6 _ _ (0, 0) h.blk]; rfl⟩
theorem Dk.frz (h : Dk w p m R ka kb ko kc D ex) (j : Nat) : w.frozen? ⟨p, j, none⟩ = false := frozen_of_row w p j _ _ h.blk
theorem Dk.pm (h : Dk w p m R ka kb ko kc D ex) : p ≠ m := by
  rintro rfl
  obtain ⟨D0, ⟨es, c, h1, _⟩, _⟩ := h.mp
  rw [h.blk] at h1
  cases h1
theorem Ty.mv {w : World} {x m : Nat} {T : TypeId} {F : List UInt8 → Option Value} (h : Ty w x T) (hm : Mv w m F) : x ≠ m := by
  rintro rfl
  obtain ⟨cs, fr, h⟩ := h
  obtain ⟨D0, ⟨es, c, h1, _⟩, _⟩ := hm
  rw [h] at h1
  cases h1
theorem Dk.other (h : Dk w p m R ka kb ko kc D ex) {x : Nat} (hx : Ty w x 5) : x ≠ p ∧ x ≠ m ∧ (0 < D.ks.length → x ≠ kb) :=
  ⟨hx.ne ⟨_, _, h.blk⟩ (by decide), hx.mv h.mp, fun h0 => hx.ne (h.kt h0) (by decide)⟩
theorem Dk.kbp (h : Dk w p m R ka kb ko kc D ex) (h0 : 0 < D.ks.length) : kb ≠ p ∧ kb ≠ m := ⟨(h.kt h0).ne ⟨_, _, h.blk⟩ (by decide), (h.kt h0).mv h.mp⟩
theorem keys_nodup {L : List (List UInt8 × FV)} (h : Ord L) : (keys L).Nodup := by
  refine List.pairwise_map.2 (h.1.imp fun {a b} hlt e => ?_)
  rw [e] at hlt
  exact List.lt_irrefl _ hlt
theorem keys_map (L : List (List UInt8 × FV)) (R : List UInt8 → FR) (s : List UInt8) : s ∈ keys L ↔ (mapF L R s).isSome = true := by
  unfold mapF
  split
  · simp [*]
  · simp [*]
theorem keys_put {L : List (List UInt8 × FV)} (h : Ord L) (s : List UInt8) (f : FV) (t : List UInt8) : t ∈ keys (fput L s f) ↔ (if t = s then f.gone = false else t ∈ keys L) := by
  have e := fget_gone (ord_fput h s f) (s := t)
  rw [fget_fput h] at e
  by_cases hts : t = s
  · subst hts
    rw [if_pos rfl] at e ⊢
    constructor
    · intro hm
      cases hg : f.gone
      · rfl
      · exact absurd hm (e.1 hg)
    · intro hg
      rcases Decidable.em (t ∈ keys (fput L t f)) with q | q
      · exact q
      · rw [e.2 q] at hg; cases hg
  · rw [if_neg hts] at e ⊢
    have e2 := fget_gone h (s := t)
    rw [e] at e2
    constructor
    · intro hm
      rcases Decidable.em (t ∈ keys L) with q | q
      · exact q
      · exact absurd hm (e2.2 q)
    · intro hm
      rcases Decidable.em (t ∈ keys (fput L s f)) with q | q
      · exact q
      · exact absurd hm (e2.1 q)
theorem len_put {L : List (List UInt8 × FV)} (s : List UInt8) (f : FV) : (fput L s f).length ≤ L.length + 1 := by
  induction L with
  | nil => rw [fput]; split <;> simp
  | cons q r ih =>
    obtain ⟨t, g⟩ := q
    rw [fput]
    split
    · split <;> simp
      omega
    · split
      · split <;> simp
      · simp; omega
theorem Dk.look (h : Dk w p m R ka kb ko kc D ex) (s : ByteArray) (hs : s.size ≤ maxLen) : ∃ r, (∀ W, W.heap[m]? = w.heap[m]? → (Instr.lookup 66 (.map (some m)) (.string s) false).run Tryz.prog W = .ok (fval (fget D.L s.data.toList) r) W) ∧
    ((s.data.toList ∈ keys D.L ∧ r = R s.data.toList) ∨ (s.data.toList ∉ keys D.L ∧ r = fr0 ∧ fget D.L s.data.toList = fz)) := by
  have hz : ∀ W, (zeroValue 113).run Tryz.prog W = .ok (fval fz fr0) W := fun W => by kernel_rfl
  by_cases hm : s.data.toList ∈ keys D.L
  · refine ⟨R s.data.toList, fun W hW => ?_, .inl ⟨hm, rfl⟩⟩
    rw [(h.mp.same hW).look Tryz.underlying66 (hz W) hs, mapF, if_pos hm, Option.getD_some]
  · refine ⟨fr0, fun W hW => ?_, .inr ⟨hm, rfl, fget_none hm⟩⟩
    rw [(h.mp.same hW).look Tryz.underlying66 (hz W) hs, mapF, if_neg hm, Option.getD_none, fget_none hm]
end
end Go.Proofs.YthfnpagangjpbabGreat
namespace Go.Proofs.YthfnpagangjpbabGreat
open Go.RowKit
def updR (R : List UInt8 → FR) (s : List UInt8) (r : FR) : List UInt8 → FR := fun t => if t = s then r else R t
def dput (D : DV) (s : List UInt8) (f : FV) : DV := { D with L := fput D.L s f, free := D.free + (fget D.L s).now.length - f.now.length }
theorem mapF_put {L : List (List UInt8 × FV)} (h : Ord L) (R : List UInt8 → FR) (s : List UInt8) (f : FV) (r : FR) : mapF (fput L s f) (updR R s r) = updF (mapF L R) s (if f.gone then none else some (fval f r)) := by
  funext t
  simp only [mapF, updF, keys_put h, fget_fput h, updR]
  by_cases e : t = s
  · simp only [e, if_true]
    cases f.gone <;> simp
  · simp only [e, if_false]
theorem Dk.put {w W : World} {p m : Nat} {R : List UInt8 → FR} {ka : Option Addr} {kb ko kc : Nat} {D : DV} {s : List UInt8} {f : FV} {r : FR} (h : Dk w p m R ka kb ko kc D (some s)) (hf : Fil w f r) (hs : s.length ≤ maxLen)
    (hap : ∀ t ∈ keys D.L, t ≠ s → ∀ x, Blk (R t) x → Blk r x → False) (hc : D.L.length < 1099511627776) (hfr : D.free + (fget D.L s).now.length - f.now.length ≤ 9223372036854775807)
    (hblk : W.heap[p]? = some (.cells #[.int .i64 ((D.free + (fget D.L s).now.length - f.now.length : Nat) : Int), .map (some m), .int .i64 (D.acts : Int), .int .i64 D.fa, .int .i64 D.fk, .slice ka D.ks.length kc, .bool D.down] 69 (0, 0)))
    (hmp : Mv W m (updF (mapF D.L R) s (if f.gone then none else some (fval f r)))) (hu : Upo (fun x => x = p ∨ x = m) w W) : Dk W p m (updR R s r) ka kb ko kc (dput D s f) none := by
  have kt : ∀ x, Ty w x 5 → W.heap[x]? = w.heap[x]? := fun x hx => hu.block x hx.lt (fun e => by
    obtain ⟨h1, h2, _⟩ := h.other hx
    rcases e with e | e
    · exact h1 e
    · exact h2 e)
  have kk : 0 < D.ks.length → W.heap[kb]? = w.heap[kb]? := fun h0 => hu.block kb (h.kt h0).lt (fun e => by
    obtain ⟨h1, h2⟩ := h.kbp h0
    rcases e with e | e
    · exact h1 e
    · exact h2 e)
  have hfW : Fil W f r := hf.same fun x hx => kt x (hf.blk hx)
  have inl : ∀ t, t ∈ keys (fput D.L s f) → t ≠ s → t ∈ keys D.L := fun t ht hne => by
    have := (keys_put h.ord s f t).1 ht
    rwa [if_neg hne] at this
  refine ⟨hblk, by rw [show (dput D s f).L = fput D.L s f from rfl, mapF_put h.ord]; exact hmp, ord_fput h.ord s f, fun t ht _ => ?_, fun t ht x hx => ?_, fun t ht u hu' hne x hx hy => ?_, fun t ht => ?_, ?_, h.kp.same kk, fun h0 => (h.kt h0).same (kk h0), h.kl, hfr, h.ac, h.ft⟩
  · show Fil W (fget (fput D.L s f) t) (updR R s r t)
    rw [fget_fput h.ord, updR]
    by_cases e : t = s
    · rw [if_pos e, if_pos e]; exact hfW
    · rw [if_neg e, if_neg e]
      have hk := inl t ht e
      exact (h.fil t hk (fun q => e (by injection q))).same fun x hx => kt x (h.low t hk x hx)
  · simp only [updR] at hx
    by_cases e : t = s
    · rw [if_pos e] at hx
      exact hfW.blk hx
    · rw [if_neg e] at hx
      have := h.low t (inl t ht e) x hx
      exact this.same (kt x this)
  · simp only [updR] at hx hy
    by_cases e : t = s
    · rw [if_pos e] at hx
      have e2 : u ≠ s := fun q => hne (e.trans q.symm)
      rw [if_neg e2] at hy
      exact hap u (inl u hu' e2) e2 x hy hx
    · rw [if_neg e] at hx
      by_cases e2 : u = s
      · rw [if_pos e2] at hy
        exact hap t (inl t ht e) e x hx hy
      · rw [if_neg e2] at hy
        exact h.apart t (inl t ht e) u (inl u hu' e2) hne x hx hy
  · by_cases e : t = s
    · rw [e]; exact hs
    · exact h.nm t (inl t ht e)
  · have := len_put (L := D.L) s f
    show (fput D.L s f).length ≤ _
    omega
theorem field_F (w : World) (u v x : Value) : (Instr.field 113 (.agg #[u, v, x]) 0).run Tryz.prog w = .ok u w := by kernel_rfl
theorem wpList_del {w w' : World} {ops : Array Oper} {rest : List Oper} {o : Oper} {a : Act} {Q : Exit → Act → World → Prop} (hg : o.guard = none) (x y : Operand) (t u : TypeId) (hop : o.op = Op.call { callee := Callee.builtin Builtin.delete, args := #[x, y], argTypes := #[t, u] })
    {vx vy v' : Value} (hx : a.eval x = vx) (hy : a.eval y = vy) (hr : (Builtin.delete_ #[t, u] o.type #[vx, vy]).run Tryz.prog w = .ok v' w') (hK : wpList Tryz.prog ops Q rest (a.put o.dst v') w') : wpList Tryz.prog ops Q (o :: rest) a w := by
  refine wpList_plain hg fun K hK' => ?_
  unfold Oper.wp
  simp [execOp, hop, resolve, invoke, builtin, hx, hy, hr, Result.andThen]
  exact hK' _ _ hK
set_option maxRecDepth 100000 in
set_option maxHeartbeats 1000000 in
theorem put_any (w : World) (p m : Nat) (R : List UInt8 → FR) (ka : Option Addr) (kb ko kc : Nat) (D : DV) (s : ByteArray) (f : FV) (r : FR) (h : Dk w p m R ka kb ko kc D (some s.data.toList)) (hf : Fil w f r) (hs : s.size ≤ maxLen)
    (hap : ∀ t ∈ keys D.L, t ≠ s.data.toList → ∀ x, Blk (R t) x → Blk r x → False) (hc : D.L.length < 1099511627776) (hfr : D.free + (fget D.L s.data.toList).now.length ≤ 9223372036854775807) (hle : f.now.length ≤ D.free + (fget D.L s.data.toList).now.length) :
    Calls Tryz.prog 113 #[.pointer (some ⟨p, 0, none⟩), .string s, fval f r] w fun e w' => e = .returned (.tuple #[]) ∧ Dk w' p m (updR R s.data.toList r) ka kb ko kc (dput D s.data.toList f) none ∧ Upo (fun x => x = p ∨ x = m) w w' := by
  obtain ⟨r0, hl, _⟩ := h.look s hs
  obtain ⟨N0, hN0⟩ : ∃ n, (fget D.L s.data.toList).now.length = n := ⟨_, rfl⟩
  obtain ⟨N, hN⟩ : ∃ n, f.now.length = n := ⟨_, rfl⟩
  obtain ⟨M, hM⟩ : ∃ n, f.syn.length = n := ⟨_, rfl⟩
  obtain ⟨M0, hM0⟩ : ∃ n, (fget D.L s.data.toList).syn.length = n := ⟨_, rfl⟩
  obtain ⟨F, hF⟩ : ∃ n, D.free = n := ⟨_, rfl⟩
  obtain ⟨G, hG⟩ : ∃ n, D.free + (fget D.L s.data.toList).now.length - f.now.length = n := ⟨_, rfl⟩
  have HG : Hid (D.free + (fget D.L s.data.toList).now.length - f.now.length = G ∧ (fget D.L s.data.toList).now.length = N0 ∧ f.now.length = N ∧ f.syn.length = M) := ⟨hG, hN0, hN, hM⟩
  have HH : Hid (Dk w p m R ka kb ko kc D (some s.data.toList) ∧ Fil w f r ∧ (∀ t ∈ keys D.L, t ≠ s.data.toList → ∀ x, Blk (R t) x → Blk r x → False) ∧ D.L.length < 1099511627776 ∧ D.free + (fget D.L s.data.toList).now.length - f.now.length ≤ 9223372036854775807) := ⟨h, hf, hap, hc, by omega⟩
  simp only [fval, fv, hN0, hM0] at hl
  have e1 : IntKind.i64.wrap ((N0 : Int) - (N : Int)) = (N0 : Int) - (N : Int) := by
    have := hf.b1
    rw [IntKind.wrap_i64]; omega
  have e2 : IntKind.i64.wrap ((F : Int) + ((N0 : Int) - (N : Int))) = (G : Int) := by rw [IntKind.wrap_i64]; omega
  have hb : Below w.heap.size w (w.alloc (.cells #[.slice r.a N r.c, .slice r.b M r.d, .int .i64 (r.s : Int)] 113)) := bal (Below.refl _ _) _
  have h1 := h.next hb
  rw [fval, fv, hN, hM]
  obtain ⟨ra, rg, rc, rb, rh, rd, rs⟩ := r
  simp only at hb h1 ⊢
  obtain ⟨w1, hw1⟩ : ∃ W, w.alloc (.cells #[.slice ra N rc, .slice rb M rd, .int .i64 (rs : Int)] 113) = W := ⟨_, rfl⟩
  have k1 : w1.heap[w.heap.size]? = some (.cells #[.slice ra N rc, .slice rb M rd, .int .i64 (rs : Int)] 113 (0, 0)) := by rw [← hw1]; exact new1 _ _
  rw [hw1] at hb h1
  obtain ⟨c0, c1, c2, c3, c4, c5, c6⟩ := h1.cells
  have f0 := h1.frz 0
  rw [hF] at c0
  have hl1 := hl w1.drew (hb.block m h.mp.lt)
  have HW : Hid (w.alloc (.cells #[.slice ra N rc, .slice rb M rd, .int .i64 (rs : Int)] 113) = w1) := hw1
  have HB : Hid (Below w.heap.size w w1 ∧ Dk w1 p m R ka kb ko kc D (some s.data.toList) ∧ p ≠ w.heap.size ∧ p ≠ m) := ⟨hb, h1, by have := h.lt (.inl rfl); omega, h.pm⟩
  obtain ⟨b0, b1, b2⟩ := three_at k1
  have hfld := field_F
  clear h hf hap hc hfr hle hl hN0 hN hM hM0 hF hG hb h1 hw1
  go_enter Tryz.func113, Tryz.ntmps113
  go_upto_region 1 with (fail)
  rw [HW.out]
  go_region
  obtain ⟨w2, hw2⟩ : ∃ W, (w1.setCell ⟨p, 0, none⟩ (.int .i64 (G : Int))).drew = W := ⟨_, rfl⟩
  have hu2 : Upo (fun x => x = p) w1 w2 := by rw [← hw2]; exact ((Upo.refl (fun x => x = p) w1).set p 0 _ (.inl rfl)).drew
  have j2 : w2.heap[p]? = some (.cells #[.int .i64 (G : Int), .map (some m), .int .i64 (D.acts : Int), .int .i64 D.fa, .int .i64 D.fk, .slice ka D.ks.length kc, .bool D.down] 69 (0, 0)) := by
    rw [← hw2]
    exact heap_setCell_same w1 p 0 _ _ _ HB.out.2.1.blk
  have k2 : w2.heap[w.heap.size]? = some (.cells #[.slice ra N rc, .slice rb M rd, .int .i64 (rs : Int)] 113 (0, 0)) := (hu2.block _ (Array.getElem?_eq_some_iff.1 k1).1 (fun e => HB.out.2.2.1 e.symm)).trans k1
  have m2 : Mv w2 m (mapF D.L R) := HB.out.2.1.mp.same (hu2.block m HB.out.2.1.mp.lt (fun e => HB.out.2.2.2 e.symm))
  have HU2 : Hid (Upo (fun x => x = p) w w2) := (Upo.of HB.out.1).trans hu2 (fun _ _ q => q)
  rw [hw2]
  clear hw2 hl1 c0 c1 c2 c3 c4 c5 c6 f0 b0 b1 b2 k1 e1 e2
  obtain ⟨b0, b1, b2⟩ := three_at k2
  have c1 : w2.cell? ⟨p, 1, none⟩ = some (.map (some m)) := by rw [cell_of_row w2 p 1 _ _ (0, 0) j2]; rfl
  have J2 : Hid (w2.heap[p]? = some (.cells #[.int .i64 (G : Int), .map (some m), .int .i64 (D.acts : Int), .int .i64 D.fa, .int .i64 D.fk, .slice ka D.ks.length kc, .bool D.down] 69 (0, 0)) ∧ Mv w2 m (mapF D.L R)) := ⟨j2, m2⟩
  have hfin : Hid (∀ W, Mv W m (updF (mapF D.L R) s.data.toList (if f.gone then none else some (fval f ⟨ra, rg, rc, rb, rh, rd, rs⟩))) → w2.grownBy W (some m) → Dk W p m (updR R s.data.toList ⟨ra, rg, rc, rb, rh, rd, rs⟩) ka kb ko kc (dput D s.data.toList f) none ∧ Upo (fun x => x = p ∨ x = m) w W) := fun W hm hg => by
    have hu : Upo (fun x => x = p ∨ x = m) w W := (HU2.out.mono (T := fun x => x = p ∨ x = m) (fun _ _ q => .inl q)).trans (Upo.grown (S := fun x => x = m) hg (fun b e => by injection e with e; exact e.symm)) (fun _ _ q => .inr q)
    refine ⟨HH.out.1.put HH.out.2.1 (by rw [size_list]; exact hs) HH.out.2.2.1 HH.out.2.2.2.1 HH.out.2.2.2.2 ?_ hm hu, hu⟩
    rw [HG.out.1]
    exact (hg.block p (Array.getElem?_eq_some_iff.1 J2.out.1).1 (fun e => HB.out.2.2.2 (by injection e))).trans J2.out.1
  clear j2 k2 m2 hu2
  by_cases hgo : f.gone = true
  · have hg2 := gone_len.1 hgo
    obtain ⟨rfl, rfl⟩ : N = 0 ∧ M = 0 := ⟨HG.out.2.2.1.symm.trans hg2.1, HG.out.2.2.2.symm.trans hg2.2⟩
    obtain ⟨w3, hd, m3, g3⟩ := J2.out.2.drop Tryz.underlying66 hs 0
    have HQ : Hid _ := hfin.out w3 (by rw [hgo]; exact m3) g3
    clear hgo hg2 m3 g3
    go_wp2_with (refine wpList_del (by rfl) _ _ _ _ (by rfl) (by rfl) (by rfl) hd ?_)
    refine bodyPost_ret (v := .tuple #[]) (by simp [results, Tryz.results113, go_sem]) rfl ⟨rfl, HQ.out⟩
  · obtain ⟨w3, hd, m3, g3⟩ := (J2.out.2.same (W := w2.drew) rfl).write Tryz.underlying66 (keys_nodup HH.out.1.ord) (keys_map D.L R) (by have := HH.out.2.2.2.1; simp only [keys, List.length_map]; unfold maxLen; omega) hs (fval f ⟨ra, rg, rc, rb, rh, rd, rs⟩)
    have hg' : f.gone = false := by simpa using hgo
    have HQ : Hid _ := hfin.out w3 (by rw [hg']; exact m3) ⟨g3.os, g3.tape, g3.output, g3.size, g3.block⟩
    have hcond : (((N : Int) == 0) && ((M : Int) == 0)) = false := by
      have : ¬ (N = 0 ∧ M = 0) := fun e => hgo (gone_len.2 ⟨HG.out.2.2.1.trans e.1, HG.out.2.2.2.trans e.2⟩)
      by_cases h1 : N = 0
      · have h2 : M ≠ 0 := fun e => this ⟨h1, e⟩
        simp [h1, h2]
      · simp [h1]
    simp only [fval, fv, HG.out.2.2.1, HG.out.2.2.2] at hd
    clear hgo hg' m3 g3
    by_cases hN0 : N = 0
    · have hM0 : ((M : Int) == 0) = false := by simpa [hN0] using hcond
      have hM1 : ¬ ((M : Int) = 0) := by simpa using hM0
      subst hN0
      clear hcond
      go_upto_region 4 with (fail)
      go_region
      all_goals
        go_wp2
        go_end0
        exact ⟨rfl, HQ.out⟩
    · have hN1 : ((N : Int) == 0) = false := by simpa using hN0
      have hN2 : ¬ ((N : Int) = 0) := by omega
      clear hcond hN0
      go_upto_region 4 with (fail)
      go_region
      all_goals
        go_wp2
        go_end0
        exact ⟨rfl, HQ.out⟩
end Go.Proofs.YthfnpagangjpbabGreat
namespace Go.Proofs.YthfnpagangjpbabGreat
open Go.RowKit
theorem hide {p : Prop} (h : p) : Hid p := h
section
variable {w W : World} {p m : Nat} {R : List UInt8 → FR} {ka : Option Addr} {kb ko kc : Nat} {D : DV}
theorem acts_any (w : World) (h : Dk w p m R ka kb ko kc D none) : Calls Tryz.prog 21 #[.pointer (some ⟨p, 0, none⟩)] w fun e w' => e = .returned (.int .i64 (D.acts : Int)) ∧ w' = w := by
  obtain ⟨c0, c1, c2, c3, c4, c5, c6⟩ := h.cells
  clear h
  go_enter Tryz.func21, Tryz.ntmps21
  go_wp2
  go_ret
  exact ⟨rfl, rfl⟩
theorem down_any (w : World) (h : Dk w p m R ka kb ko kc D none) : Calls Tryz.prog 45 #[.pointer (some ⟨p, 0, none⟩)] w fun e w' => e = .returned (.bool D.down) ∧ w' = w := by
  obtain ⟨c0, c1, c2, c3, c4, c5, c6⟩ := h.cells
  clear h
  go_enter Tryz.func45, Tryz.ntmps45
  go_wp2
  go_ret
  exact ⟨rfl, rfl⟩
theorem size_any (w : World) (h : Dk w p m R ka kb ko kc D none) (s : ByteArray) (hs : s.size ≤ maxLen) (n : Nat) (hn : Hid ((if D.down then 0 else (fget D.L s.data.toList).now.length) = n)) :
    Calls Tryz.prog 98 #[.pointer (some ⟨p, 0, none⟩), .string s] w fun e w' => e = .returned (.int .i64 (n : Int)) ∧ w' = w := by
  obtain ⟨c0, c1, c2, c3, c4, c5, c6⟩ := h.cells
  obtain ⟨r, hl, _⟩ := h.look s hs
  have hl1 := hl w rfl
  have hfld := field_F
  cases hd : D.down
  · have hn2 : (fget D.L s.data.toList).now.length = n := by have := hn.out; simpa [hd] using this
    simp only [fval, fv, hn2] at hl1
    rw [hd] at c6
    clear h hd hl hn hn2
    go_enter Tryz.func98, Tryz.ntmps98
    go_wp2
    go_ret
    exact ⟨rfl, rfl⟩
  · have hn2 : 0 = n := by have := hn.out; simpa [hd] using this
    subst hn2
    rw [hd] at c6
    clear h hd hl hn hl1
    go_enter Tryz.func98, Tryz.ntmps98
    go_wp2
    go_ret
    exact ⟨rfl, rfl⟩
theorem Dk.re {ex : Option (List UInt8)} (h : Dk w p m R ka kb ko kc D ex) (hu : Upo (fun x => x = p) w W) {D' : DV} (hL : D'.L = D.L) {ka' : Option Addr} {kc' : Nat}
    (hblk : W.heap[p]? = some (.cells #[.int .i64 (D'.free : Int), .map (some m), .int .i64 (D'.acts : Int), .int .i64 D'.fa, .int .i64 D'.fk, .slice ka' D'.ks.length kc', .bool D'.down] 69 (0, 0)))
    (hk : (D'.ks = D.ks ∧ ka' = ka) ∨ D'.ks = []) (fr : D'.free ≤ 9223372036854775807) (ac : D'.acts ≤ 4611686018427387904) (ft : D'.fk = 0 ∨ (1 ≤ D'.fk ∧ D'.fk ≤ 5 ∧ 1 ≤ D'.fa ∧ D'.fa ≤ 9223372036854775807)) : Dk W p m R ka' kb ko kc' D' ex := by
  have ky : ∀ x, Ty w x 5 → W.heap[x]? = w.heap[x]? := fun x hx => hu.block x hx.lt (h.other hx).1
  have kk : 0 < D.ks.length → W.heap[kb]? = w.heap[kb]? := fun h0 => hu.block kb (h.kt h0).lt (h.kbp h0).1
  refine ⟨hblk, by rw [hL]; exact h.mp.same (hu.block m h.mp.lt fun e => h.pm e.symm), by rw [hL]; exact h.ord, by rw [hL]; exact fun s hs he => (h.fil s hs he).same fun x hx => ky x (h.low s hs x hx), by rw [hL]; exact fun s hs x hx => (h.low s hs x hx).same (ky x (h.low s hs x hx)), by rw [hL]; exact h.apart, by rw [hL]; exact h.nm, by rw [hL]; exact h.cnt, ?_, ?_, ?_, fr, ac, ft⟩
  · rcases hk with ⟨e1, e2⟩ | e1
    · rw [e1, e2]; exact h.kp.same kk
    · rw [e1]; exact rdl_nil _ _ _ _
  · rcases hk with ⟨e1, e2⟩ | e1
    · rw [e1]; exact fun h0 => (h.kt h0).same (kk h0)
    · rw [e1]; intro h0; simp at h0
  · rcases hk with ⟨e1, e2⟩ | e1
    · rw [e1]; exact h.kl
    · rw [e1]; simp
def metD (D : DV) : DV × Int × List Bool := if D.fk = 0 then (D, 0, []) else if 1 < D.fa then ({ D with fa := D.fa - 1 }, 0, []) else ({ D with fa := 0, fk := 0, ks := [] }, D.fk, D.ks)
def fateV (a k : Int) (ka : Option Addr) (n kc : Nat) : Value := .agg #[.int .i64 a, .int .i64 k, .slice ka n kc]
set_option maxRecDepth 100000 in
set_option maxHeartbeats 1000000 in
theorem met_any (w : World) (h : Dk w p m R ka kb ko kc D none) : Calls Tryz.prog 143 #[.pointer (some ⟨p, 0, none⟩)] w fun e w' => ∃ ka' kc' qa qc x, e = .returned (fateV x (metD D).2.1 qa (metD D).2.2.length qc) ∧ Dk w' p m R ka' kb ko kc' (metD D).1 none ∧ RdL w' qa kb ko (metD D).2.2 ∧ Upo (fun x => x = p) w w' := by
  have hpl := h.lt (.inl rfl)
  have HH : Hid (Dk w p m R ka kb ko kc D none) := h
  obtain ⟨w1, hw1⟩ : ∃ W, w.alloc (.cells #[.int .i64 0, .int .i64 0, .slice none 0 0] 62) = W := ⟨_, rfl⟩
  have HW : Hid (w.alloc (.cells #[.int .i64 0, .int .i64 0, .slice none 0 0] 62) = w1) := hw1
  have hb : Below w.heap.size w w1 := by rw [← hw1]; exact bal (Below.refl _ _) _
  have k1 : w1.heap[w.heap.size]? = some (.cells #[.int .i64 0, .int .i64 0, .slice none 0 0] 62 (0, 0)) := by rw [← hw1]; exact new1 _ _
  have h1 := h.next hb
  obtain ⟨c0, c1, c2, c3, c4, c5, c6⟩ := h1.cells
  have fz := fun j => h1.frz j
  have fy := fun j => frozen_of_row w1 w.heap.size j _ _ k1
  obtain ⟨b0, b1, b2⟩ := three_at k1
  have HB : Hid (Below w.heap.size w w1 ∧ Dk w1 p m R ka kb ko kc D none ∧ p < w.heap.size ∧ w1.heap[w.heap.size]? = some (.cells #[.int .i64 0, .int .i64 0, .slice none 0 0] 62 (0, 0))) := ⟨hb, h1, hpl, k1⟩
  have ft := h.ft
  clear h hb h1 k1 hw1 hpl
  by_cases hk : D.fk = 0
  · have e1 : metD D = (D, 0, []) := by rw [metD, if_pos hk]
    rw [e1]
    rw [hk] at c4
    clear hk e1 ft
    go_enter Tryz.func143, Tryz.ntmps143
    go_upto_region 1 with (fail)
    rw [HW.out]
    go_wp2
    obtain ⟨w5, hw5⟩ : ∃ W, ((w1.setCell ⟨w.heap.size, 0, none⟩ (.int .i64 0)).setCell ⟨w.heap.size, 1, none⟩ (.int .i64 0)).setCell ⟨w.heap.size, 2, none⟩ (.slice none 0 0) = W := ⟨_, rfl⟩
    have q := three_at (set3_at HB.out.2.2.2 (.int .i64 0) (.int .i64 0) (.slice none 0 0))
    rw [hw5] at q
    rw [hw5]
    obtain ⟨s0, s1, s2⟩ := q
    have hb5 : Below w.heap.size w w5 := by
      rw [← hw5]
      exact ((HB.out.1.setCell (p := ⟨w.heap.size, 0, none⟩) (Nat.le_refl _) _).setCell (p := ⟨w.heap.size, 1, none⟩) (Nat.le_refl _) _).setCell (p := ⟨w.heap.size, 2, none⟩) (Nat.le_refl _) _
    refine bodyPost_ret (v := fateV 0 0 none 0 0) (by simp [results, Tryz.results143, go_sem, fateV, s0, s1, s2]) rfl ⟨ka, kc, none, 0, 0, rfl, HH.out.next hb5, rdl_nil _ _ _ _, Upo.of hb5⟩
  · have hk1 : (D.fk == 0) = false := by simpa using hk
    obtain ⟨f1, f2, f3, f4⟩ := ft.resolve_left hk
    have e0 : IntKind.i64.wrap (D.fa - 1) = D.fa - 1 := by rw [IntKind.wrap_i64]; omega
    obtain ⟨y, hy⟩ : ∃ y, D.fa - 1 = y := ⟨_, rfl⟩
    rw [show (IntKind.i64.wrap (D.fa - 1) = D.fa - 1) ↔ (IntKind.i64.wrap (D.fa - 1) = y) by rw [hy]] at e0
    obtain ⟨w2, hw2⟩ : ∃ W, w1.setCell ⟨p, 3, none⟩ (.int .i64 y) = W := ⟨_, rfl⟩
    have HW2 : Hid (w1.setCell ⟨p, 3, none⟩ (.int .i64 y) = w2) := hw2
    have j2 : w2.heap[p]? = some (.cells #[.int .i64 (D.free : Int), .map (some m), .int .i64 (D.acts : Int), .int .i64 y, .int .i64 D.fk, .slice ka D.ks.length kc, .bool D.down] 69 (0, 0)) := by
      rw [← hw2]
      exact heap_setCell_same w1 p 3 _ _ _ HB.out.2.1.blk
    have hu2 : Upo (fun x => x = p) w w2 := by rw [← hw2]; exact (Upo.of HB.out.1).set p 3 _ (.inl rfl)
    have k2 : w2.heap[w.heap.size]? = some (.cells #[.int .i64 0, .int .i64 0, .slice none 0 0] 62 (0, 0)) := by
      rw [← hw2]
      exact (Below.heap_setCell _ _ _ _ (by have := HB.out.2.2.1; show w.heap.size ≠ p; omega)).trans HB.out.2.2.2
    obtain ⟨b0, b1, b2⟩ := three_at k2
    have fy2 := fun j => frozen_of_row w2 w.heap.size j _ _ k2
    have fz2 := fun j => frozen_of_row w2 p j _ _ j2
    have d3 : w2.cell? ⟨p, 3, none⟩ = some (.int .i64 y) := by rw [cell_of_row w2 p 3 _ _ (0, 0) j2]; rfl
    have d4 : w2.cell? ⟨p, 4, none⟩ = some (.int .i64 D.fk) := by rw [cell_of_row w2 p 4 _ _ (0, 0) j2]; rfl
    have d5 : w2.cell? ⟨p, 5, none⟩ = some (.slice ka D.ks.length kc) := by rw [cell_of_row w2 p 5 _ _ (0, 0) j2]; rfl
    have HJ : Hid (w2.heap[p]? = some (.cells #[.int .i64 (D.free : Int), .map (some m), .int .i64 (D.acts : Int), .int .i64 y, .int .i64 D.fk, .slice ka D.ks.length kc, .bool D.down] 69 (0, 0)) ∧ Upo (fun x => x = p) w w2 ∧ w2.heap[w.heap.size]? = some (.cells #[.int .i64 0, .int .i64 0, .slice none 0 0] 62 (0, 0)) ∧ p < w.heap.size ∧ w2.heap.size = w.heap.size + 1) := ⟨j2, hu2, k2, HB.out.2.2.1, by rw [← hw2, ← HW.out]; simp⟩
    clear hw2 j2 hu2 k2
    by_cases hy0 : 0 < y
    · have e1 : metD D = ({ D with fa := y }, 0, []) := by rw [metD, if_neg hk, if_pos (by omega), hy]
      rw [e1]
      have HD : Hid (∀ W, Below w2.heap.size w2 W ∨ (Upo (fun x => x = w.heap.size) w2 W) → Dk W p m R ka kb ko kc { D with fa := y } none ∧ Upo (fun x => x = p) w W) := fun W hW => by
        have hu : Upo (fun x => x = p) w W := HJ.out.2.1.trans (T := fun x => x = w.heap.size) (hW.elim (fun q => Upo.of q) id) (fun b hb e => by omega)
        refine ⟨HH.out.re (D' := { D with fa := y }) hu rfl ?_ (.inl ⟨rfl, rfl⟩) HH.out.fr HH.out.ac (.inr ⟨f1, f2, by show 1 ≤ y; omega, by show y ≤ _; omega⟩), hu⟩
        refine Eq.trans ?_ HJ.out.1
        rcases hW with q | q
        · exact q.block p (by have := HJ.out.2.2.2; omega)
        · exact q.block p (by have := HJ.out.2.2.2; omega) (fun e => by have := HJ.out.2.2.2.1; omega)
      have hk2 : ¬ D.fk = 0 := hk
      clear e1 f1 f2 f3 f4 hy ft hk HB
      go_enter Tryz.func143, Tryz.ntmps143
      go_upto_region 1 with (fail)
      rw [HW.out]
      go_upto_region 4 with (fail)
      rw [HW2.out]
      go_wp2
      obtain ⟨w5, hw5⟩ : ∃ W, ((w2.setCell ⟨w.heap.size, 0, none⟩ (.int .i64 0)).setCell ⟨w.heap.size, 1, none⟩ (.int .i64 0)).setCell ⟨w.heap.size, 2, none⟩ (.slice none 0 0) = W := ⟨_, rfl⟩
      have q := three_at (set3_at HJ.out.2.2.1 (.int .i64 0) (.int .i64 0) (.slice none 0 0))
      rw [hw5] at q
      rw [hw5]
      obtain ⟨s0, s1, s2⟩ := q
      obtain ⟨hD, hU⟩ := HD.out w5 (.inr (by rw [← hw5]; exact (((Upo.refl (fun x => x = w.heap.size) w2).set _ _ _ (.inl rfl)).set _ _ _ (.inl rfl)).set _ _ _ (.inl rfl)))
      refine bodyPost_ret (v := fateV 0 0 none 0 0) (by simp [results, Tryz.results143, go_sem, fateV, s0, s1, s2]) rfl ⟨ka, kc, none, 0, 0, rfl, hD, rdl_nil _ _ _ _, hU⟩
    · have e1 : metD D = ({ D with fa := 0, fk := 0, ks := [] }, D.fk, D.ks) := by rw [metD, if_neg hk, if_neg (by omega)]
      rw [e1]
      have hk2 : ¬ D.fk = 0 := hk
      obtain rfl : y = 0 := by omega
      clear e1 f1 f2 f3 f4 hy ft hk HB hy0
      go_enter Tryz.func143, Tryz.ntmps143
      go_upto_region 1 with (fail)
      rw [HW.out]
      go_upto_region 4 with (fail)
      rw [HW2.out]
      go_upto_region 7 with (fail)
      obtain ⟨w3, hw3⟩ : ∃ W, w2.alloc (.cells #[.int .i64 0, .int .i64 D.fk, .slice ka D.ks.length kc] 62) = W := ⟨_, rfl⟩
      rw [hw3]
      obtain ⟨j2, hu2, k2, hpl, hz2⟩ := HJ.out
      have hb3 : Below w2.heap.size w2 w3 := by rw [← hw3]; exact bal (Below.refl _ _) _
      have j3 := (hb3.block p (by omega)).trans j2
      have k3 := (hb3.block w.heap.size (by omega)).trans k2
      have n3 : w3.heap[w2.heap.size]? = some (.cells #[.int .i64 0, .int .i64 D.fk, .slice ka D.ks.length kc] 62 (0, 0)) := by rw [← hw3]; exact new1 _ _
      have a3 : w3.cell? ⟨p, 3, none⟩ = some (.int .i64 0) := by rw [cell_of_row w3 p 3 _ _ (0, 0) j3]; rfl
      have a4 : w3.cell? ⟨p, 4, none⟩ = some (.int .i64 D.fk) := by rw [cell_of_row w3 p 4 _ _ (0, 0) j3]; rfl
      have a5 : w3.cell? ⟨p, 5, none⟩ = some (.slice ka D.ks.length kc) := by rw [cell_of_row w3 p 5 _ _ (0, 0) j3]; rfl
      have g3 := fun j => frozen_of_row w3 p j _ _ j3
      obtain ⟨w4, hw4⟩ : ∃ W, ((w3.setCell ⟨p, 3, none⟩ (.int .i64 0)).setCell ⟨p, 4, none⟩ (.int .i64 0)).setCell ⟨p, 5, none⟩ (.slice none 0 0) = W := ⟨_, rfl⟩
      have HW4 : Hid (((w3.setCell ⟨p, 3, none⟩ (.int .i64 0)).setCell ⟨p, 4, none⟩ (.int .i64 0)).setCell ⟨p, 5, none⟩ (.slice none 0 0) = w4) := hw4
      have hu4 : Upo (fun x => x = p) w3 w4 := by rw [← hw4]; exact (((Upo.refl (fun x => x = p) w3).set _ _ _ (.inl rfl)).set _ _ _ (.inl rfl)).set _ _ _ (.inl rfl)
      have j4 : w4.heap[p]? = some (.cells #[.int .i64 (D.free : Int), .map (some m), .int .i64 (D.acts : Int), .int .i64 0, .int .i64 0, .slice none 0 0, .bool D.down] 69 (0, 0)) := by
        rw [← hw4]
        have q1 : (w3.setCell ⟨p, 3, none⟩ (.int .i64 0)).heap[p]? = some (.cells #[.int .i64 (D.free : Int), .map (some m), .int .i64 (D.acts : Int), .int .i64 0, .int .i64 D.fk, .slice ka D.ks.length kc, .bool D.down] 69 (0, 0)) := heap_setCell_same w3 p 3 _ _ _ j3
        have q2 : ((w3.setCell ⟨p, 3, none⟩ (.int .i64 0)).setCell ⟨p, 4, none⟩ (.int .i64 0)).heap[p]? = some (.cells #[.int .i64 (D.free : Int), .map (some m), .int .i64 (D.acts : Int), .int .i64 0, .int .i64 0, .slice ka D.ks.length kc, .bool D.down] 69 (0, 0)) := heap_setCell_same _ p 4 _ _ _ q1
        exact heap_setCell_same _ p 5 _ _ _ q2
      have hz3 : w3.heap.size = w2.heap.size + 1 := by rw [← hw3]; simp
      have n4 := (hu4.block w2.heap.size (by omega) (fun e => by omega)).trans n3
      have k4 := (hu4.block w.heap.size (by omega) (fun e => by omega)).trans k3
      obtain ⟨x0, x1, x2⟩ := three_at n4
      obtain ⟨z0, z1, z2⟩ := three_at k4
      have gz := fun j => frozen_of_row w4 w.heap.size j _ _ k4
      have HF : Hid (w4.heap[p]? = some (.cells #[.int .i64 (D.free : Int), .map (some m), .int .i64 (D.acts : Int), .int .i64 0, .int .i64 0, .slice none 0 0, .bool D.down] 69 (0, 0)) ∧ Upo (fun x => x = p) w w4 ∧ w4.heap[w.heap.size]? = some (.cells #[.int .i64 0, .int .i64 0, .slice none 0 0] 62 (0, 0)) ∧ p < w.heap.size) := ⟨j4, (hu2.next hb3).trans hu4 (fun _ _ q => q), k4, hpl⟩
      clear hw3 hw4 j2 hu2 k2 hz2 hb3 j3 k3 n3 hu4 j4 hz3 n4 k4 HJ
      go_upto_region 8 with (fail)
      rw [HW4.out]
      go_wp2
      obtain ⟨w5, hw5⟩ : ∃ W, ((w4.setCell ⟨w.heap.size, 0, none⟩ (.int .i64 0)).setCell ⟨w.heap.size, 1, none⟩ (.int .i64 D.fk)).setCell ⟨w.heap.size, 2, none⟩ (.slice ka D.ks.length kc) = W := ⟨_, rfl⟩
      have q := three_at (set3_at HF.out.2.2.1 (.int .i64 0) (.int .i64 D.fk) (.slice ka D.ks.length kc))
      rw [hw5] at q
      rw [hw5]
      obtain ⟨s0, s1, s2⟩ := q
      have hu5 : Upo (fun x => x = w.heap.size) w4 w5 := by rw [← hw5]; exact (((Upo.refl (fun x => x = w.heap.size) w4).set _ _ _ (.inl rfl)).set _ _ _ (.inl rfl)).set _ _ _ (.inl rfl)
      have hU : Upo (fun x => x = p) w w5 := HF.out.2.1.trans hu5 (fun b hb e => by omega)
      have hD : Dk w5 p m R none kb ko 0 { D with fa := 0, fk := 0, ks := [] } none := HH.out.re (D' := { D with fa := 0, fk := 0, ks := [] }) hU rfl ((hu5.block p (by have := HF.out.2.2.2; have := HF.out.2.1.size; omega) (fun e => by have := HF.out.2.2.2; omega)).trans HF.out.1) (.inr rfl) HH.out.fr HH.out.ac (.inl rfl)
      refine bodyPost_ret (v := fateV 0 D.fk ka D.ks.length kc) (by simp [results, Tryz.results143, go_sem, fateV, s0, s1, s2]) rfl ⟨none, 0, ka, kc, 0, rfl, hD, HH.out.kp.same fun h0 => hU.block kb (HH.out.kt h0).lt (HH.out.kbp h0).1, hU⟩
end
end Go.Proofs.YthfnpagangjpbabGreat
