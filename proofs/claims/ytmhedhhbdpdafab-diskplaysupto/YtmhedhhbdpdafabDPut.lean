/-
  put. Own work.
-/
import Derived.Test.YtmhedhhbdpdafabDDisk
import Derived.BigRegion
namespace Go.Proofs.Ytmhedhhbdpdafab
open Go.RowKit
/-- Other rows at a name. -/
def updR (R : List UInt8 → FR) (s : List UInt8) (r : FR) : List UInt8 → FR := fun t => if t = s then r else R t
/-- The disk with another file. -/
def dput (D : DV) (s : List UInt8) (f : FV) : DV := { D with L := fput D.L s f, free := D.free + (fget D.L s).now.length - f.now.length }
theorem mapF_put {L : List (List UInt8 × FV)} (h : Ord L) (R : List UInt8 → FR) (s : List UInt8) (f : FV) (r : FR) : mapF (fput L s f) (updR R s r) = updF (mapF L R) s (if f.gone then none else some (fval f r)) := by
  funext t
  simp only [mapF, updF, keys_put h, fget_fput h, updR]
  by_cases e : t = s
  · simp only [e, if_true]
    cases f.gone <;> simp
  · simp only [e, if_false]
/-- Behind a put. -/
theorem Dk.put {w W : World} {p m : Nat} {R : List UInt8 → FR} {ka : Option Addr} {kb ko kc : Nat} {D : DV} {s : List UInt8} {f : FV} {r : FR} (h : Dk w p m R ka kb ko kc D (some s)) (hf : Fil w f r) (hs : s.length ≤ maxLen)
    (hap : ∀ t ∈ keys D.L, t ≠ s → ∀ x, Blk (R t) x → Blk r x → False) (hc : D.L.length < 1099511627776) (hfr : D.free + (fget D.L s).now.length - f.now.length ≤ 9223372036854775807)
    (hblk : W.heap[p]? = some (.cells #[.int .i64 ((D.free + (fget D.L s).now.length - f.now.length : Nat) : Int), .map (some m), .int .i64 (D.acts : Int), .int .i64 D.fa, .int .i64 D.fk, .slice ka D.ks.length kc, .bool D.down] 62 (0, 0)))
    (hmp : Mv W m (updF (mapF D.L R) s (if f.gone then none else some (fval f r)))) (hu : Upo (fun x => x = p ∨ x = m) w W) : Dk W p m (updR R s r) ka kb ko kc (dput D s f) none := by
  have kt : ∀ x, Ty w x 5 → W.heap[x]? = w.heap[x]? := fun x hx => hu.block x hx.lt (fun e => by
    obtain ⟨h1, h2, _⟩ := h.other hx
    rcases e with e | e
    · exact h1 e
    · exact h2 e)
  have kk : 0 < D.ks.length → W.heap[kb]? = w.heap[kb]? := fun h0 => hu.block kb (h.kt h0).lt (fun e => by
    obtain ⟨h1, h2⟩ := h.kbp h0
    rcases e with e | e
    · exact h1 e
    · exact h2 e)
  have hfW : Fil W f r := hf.same fun x hx => kt x (hf.blk hx)
  have inl : ∀ t, t ∈ keys (fput D.L s f) → t ≠ s → t ∈ keys D.L := fun t ht hne => by
    have := (keys_put h.ord s f t).1 ht
    rwa [if_neg hne] at this
  refine ⟨hblk, by rw [show (dput D s f).L = fput D.L s f from rfl, mapF_put h.ord]; exact hmp, ord_fput h.ord s f, fun t ht _ => ?_, fun t ht x hx => ?_, fun t ht u hu' hne x hx hy => ?_, fun t ht => ?_, ?_, h.kp.same kk, fun h0 => (h.kt h0).same (kk h0), h.kl, hfr, h.ac, h.ft⟩
  · show Fil W (fget (fput D.L s f) t) (updR R s r t)
    rw [fget_fput h.ord, updR]
    by_cases e : t = s
    · rw [if_pos e, if_pos e]; exact hfW
    · rw [if_neg e, if_neg e]
      have hk := inl t ht e
      exact (h.fil t hk (fun q => e (by injection q))).same fun x hx => kt x (h.low t hk x hx)
  · simp only [updR] at hx
    by_cases e : t = s
    · rw [if_pos e] at hx
      exact hfW.blk hx
    · rw [if_neg e] at hx
      have := h.low t (inl t ht e) x hx
      exact this.same (kt x this)
  · simp only [updR] at hx hy
    by_cases e : t = s
    · rw [if_pos e] at hx
      have e2 : u ≠ s := fun q => hne (e.trans q.symm)
      rw [if_neg e2] at hy
      exact hap u (inl u hu' e2) e2 x hy hx
    · rw [if_neg e] at hx
      by_cases e2 : u = s
      · rw [if_pos e2] at hy
        exact hap t (inl t ht e) e x hx hy
      · rw [if_neg e2] at hy
        exact h.apart t (inl t ht e) u (inl u hu' e2) hne x hx hy
  · by_cases e : t = s
    · rw [e]; exact hs
    · exact h.nm t (inl t ht e)
  · have := len_put (L := D.L) s f
    show (fput D.L s f).length ≤ _
    omega
theorem field_F (w : World) (u v x : Value) : (Instr.field 69 (.agg #[u, v, x]) 0).run Try.prog w = .ok u w := by kernel_rfl
/-- delete, whose answer is known. -/
theorem wpList_del {w w' : World} {ops : Array Oper} {rest : List Oper} {o : Oper} {a : Act} {Q : Exit → Act → World → Prop} (hg : o.guard = none) (x y : Operand) (t u : TypeId) (hop : o.op = Op.call { callee := Callee.builtin Builtin.delete, args := #[x, y], argTypes := #[t, u] })
    {vx vy v' : Value} (hx : a.eval x = vx) (hy : a.eval y = vy) (hr : (Builtin.delete_ #[t, u] o.type #[vx, vy]).run Try.prog w = .ok v' w') (hK : wpList Try.prog ops Q rest (a.put o.dst v') w') : wpList Try.prog ops Q (o :: rest) a w := by
  refine wpList_plain hg fun K hK' => ?_
  unfold Oper.wp
  simp [execOp, hop, resolve, invoke, builtin, hx, hy, hr, Result.andThen]
  exact hK' _ _ hK
set_option maxRecDepth 100000 in
set_option maxHeartbeats 1000000 in
theorem put_any (w : World) (p m : Nat) (R : List UInt8 → FR) (ka : Option Addr) (kb ko kc : Nat) (D : DV) (s : ByteArray) (f : FV) (r : FR) (h : Dk w p m R ka kb ko kc D (some s.data.toList)) (hf : Fil w f r) (hs : s.size ≤ maxLen)
    (hap : ∀ t ∈ keys D.L, t ≠ s.data.toList → ∀ x, Blk (R t) x → Blk r x → False) (hc : D.L.length < 1099511627776) (hfr : D.free + (fget D.L s.data.toList).now.length ≤ 9223372036854775807) (hle : f.now.length ≤ D.free + (fget D.L s.data.toList).now.length) :
    Calls Try.prog 35 #[.pointer (some ⟨p, 0, none⟩), .string s, fval f r] w fun e w' => e = .returned (.tuple #[]) ∧ Dk w' p m (updR R s.data.toList r) ka kb ko kc (dput D s.data.toList f) none ∧ Upo (fun x => x = p ∨ x = m) w w' := by
  obtain ⟨r0, hl, _⟩ := h.look s hs
  obtain ⟨N0, hN0⟩ : ∃ n, (fget D.L s.data.toList).now.length = n := ⟨_, rfl⟩
  obtain ⟨N, hN⟩ : ∃ n, f.now.length = n := ⟨_, rfl⟩
  obtain ⟨M, hM⟩ : ∃ n, f.syn.length = n := ⟨_, rfl⟩
  obtain ⟨M0, hM0⟩ : ∃ n, (fget D.L s.data.toList).syn.length = n := ⟨_, rfl⟩
  obtain ⟨F, hF⟩ : ∃ n, D.free = n := ⟨_, rfl⟩
  obtain ⟨G, hG⟩ : ∃ n, D.free + (fget D.L s.data.toList).now.length - f.now.length = n := ⟨_, rfl⟩
  have HG : Hid (D.free + (fget D.L s.data.toList).now.length - f.now.length = G ∧ (fget D.L s.data.toList).now.length = N0 ∧ f.now.length = N ∧ f.syn.length = M) := ⟨hG, hN0, hN, hM⟩
  have HH : Hid (Dk w p m R ka kb ko kc D (some s.data.toList) ∧ Fil w f r ∧ (∀ t ∈ keys D.L, t ≠ s.data.toList → ∀ x, Blk (R t) x → Blk r x → False) ∧ D.L.length < 1099511627776 ∧ D.free + (fget D.L s.data.toList).now.length - f.now.length ≤ 9223372036854775807) := ⟨h, hf, hap, hc, by omega⟩
  simp only [fval, fv, hN0, hM0] at hl
  have e1 : IntKind.i64.wrap ((N0 : Int) - (N : Int)) = (N0 : Int) - (N : Int) := by
    have := hf.b1
    rw [IntKind.wrap_i64]; omega
  have e2 : IntKind.i64.wrap ((F : Int) + ((N0 : Int) - (N : Int))) = (G : Int) := by rw [IntKind.wrap_i64]; omega
  have hb : Below w.heap.size w (w.alloc (.cells #[.slice r.a N r.c, .slice r.b M r.d, .int .i64 (r.s : Int)] 69)) := bal (Below.refl _ _) _
  have h1 := h.next hb
  rw [fval, fv, hN, hM]
  obtain ⟨ra, rg, rc, rb, rh, rd, rs⟩ := r
  simp only at hb h1 ⊢
  obtain ⟨w1, hw1⟩ : ∃ W, w.alloc (.cells #[.slice ra N rc, .slice rb M rd, .int .i64 (rs : Int)] 69) = W := ⟨_, rfl⟩
  have k1 : w1.heap[w.heap.size]? = some (.cells #[.slice ra N rc, .slice rb M rd, .int .i64 (rs : Int)] 69 (0, 0)) := by rw [← hw1]; exact new1 _ _
  rw [hw1] at hb h1
  obtain ⟨c0, c1, c2, c3, c4, c5, c6⟩ := h1.cells
  have f0 := h1.frz 0
  rw [hF] at c0
  have hl1 := hl w1.drew (hb.block m h.mp.lt)
  have HW : Hid (w.alloc (.cells #[.slice ra N rc, .slice rb M rd, .int .i64 (rs : Int)] 69) = w1) := hw1
  have HB : Hid (Below w.heap.size w w1 ∧ Dk w1 p m R ka kb ko kc D (some s.data.toList) ∧ p ≠ w.heap.size ∧ p ≠ m) := ⟨hb, h1, by have := h.lt (.inl rfl); omega, h.pm⟩
  obtain ⟨b0, b1, b2⟩ := three_at k1
  have hfld := field_F
  clear h hf hap hc hfr hle hl hN0 hN hM hM0 hF hG hb h1 hw1
  go_enter Try.func35, Try.ntmps35
  go_upto_region 1 with (fail)
  rw [HW.out]
  go_region
  obtain ⟨w2, hw2⟩ : ∃ W, (w1.setCell ⟨p, 0, none⟩ (.int .i64 (G : Int))).drew = W := ⟨_, rfl⟩
  have hu2 : Upo (fun x => x = p) w1 w2 := by rw [← hw2]; exact ((Upo.refl (fun x => x = p) w1).set p 0 _ (.inl rfl)).drew
  have j2 : w2.heap[p]? = some (.cells #[.int .i64 (G : Int), .map (some m), .int .i64 (D.acts : Int), .int .i64 D.fa, .int .i64 D.fk, .slice ka D.ks.length kc, .bool D.down] 62 (0, 0)) := by
    rw [← hw2]
    exact heap_setCell_same w1 p 0 _ _ _ HB.out.2.1.blk
  have k2 : w2.heap[w.heap.size]? = some (.cells #[.slice ra N rc, .slice rb M rd, .int .i64 (rs : Int)] 69 (0, 0)) := (hu2.block _ (Array.getElem?_eq_some_iff.1 k1).1 (fun e => HB.out.2.2.1 e.symm)).trans k1
  have m2 : Mv w2 m (mapF D.L R) := HB.out.2.1.mp.same (hu2.block m HB.out.2.1.mp.lt (fun e => HB.out.2.2.2 e.symm))
  have HU2 : Hid (Upo (fun x => x = p) w w2) := (Upo.of HB.out.1).trans hu2 (fun _ _ q => q)
  rw [hw2]
  clear hw2 hl1 c0 c1 c2 c3 c4 c5 c6 f0 b0 b1 b2 k1 e1 e2
  obtain ⟨b0, b1, b2⟩ := three_at k2
  have c1 : w2.cell? ⟨p, 1, none⟩ = some (.map (some m)) := by rw [cell_of_row w2 p 1 _ _ (0, 0) j2]; rfl
  have J2 : Hid (w2.heap[p]? = some (.cells #[.int .i64 (G : Int), .map (some m), .int .i64 (D.acts : Int), .int .i64 D.fa, .int .i64 D.fk, .slice ka D.ks.length kc, .bool D.down] 62 (0, 0)) ∧ Mv w2 m (mapF D.L R)) := ⟨j2, m2⟩
  have hfin : Hid (∀ W, Mv W m (updF (mapF D.L R) s.data.toList (if f.gone then none else some (fval f ⟨ra, rg, rc, rb, rh, rd, rs⟩))) → w2.grownBy W (some m) → Dk W p m (updR R s.data.toList ⟨ra, rg, rc, rb, rh, rd, rs⟩) ka kb ko kc (dput D s.data.toList f) none ∧ Upo (fun x => x = p ∨ x = m) w W) := fun W hm hg => by
    have hu : Upo (fun x => x = p ∨ x = m) w W := (HU2.out.mono (T := fun x => x = p ∨ x = m) (fun _ _ q => .inl q)).trans (Upo.grown (S := fun x => x = m) hg (fun b e => by injection e with e; exact e.symm)) (fun _ _ q => .inr q)
    refine ⟨HH.out.1.put HH.out.2.1 (by rw [size_list]; exact hs) HH.out.2.2.1 HH.out.2.2.2.1 HH.out.2.2.2.2 ?_ hm hu, hu⟩
    rw [HG.out.1]
    exact (hg.block p (Array.getElem?_eq_some_iff.1 J2.out.1).1 (fun e => HB.out.2.2.2 (by injection e))).trans J2.out.1
  clear j2 k2 m2 hu2
  by_cases hgo : f.gone = true
  · have hg2 := gone_len.1 hgo
    obtain ⟨rfl, rfl⟩ : N = 0 ∧ M = 0 := ⟨HG.out.2.2.1.symm.trans hg2.1, HG.out.2.2.2.symm.trans hg2.2⟩
    obtain ⟨w3, hd, m3, g3⟩ := J2.out.2.drop Try.underlying58 hs 0
    have HQ : Hid _ := hfin.out w3 (by rw [hgo]; exact m3) g3
    clear hgo hg2 m3 g3
    go_wp2_with (refine wpList_del (by rfl) _ _ _ _ (by rfl) (by rfl) (by rfl) hd ?_)
    refine bodyPost_ret (v := .tuple #[]) (by simp [results, Try.results35, go_sem]) rfl ⟨rfl, HQ.out⟩
  · obtain ⟨w3, hd, m3, g3⟩ := (J2.out.2.same (W := w2.drew) rfl).write Try.underlying58 (keys_nodup HH.out.1.ord) (keys_map D.L R) (by have := HH.out.2.2.2.1; simp only [keys, List.length_map]; unfold maxLen; omega) hs (fval f ⟨ra, rg, rc, rb, rh, rd, rs⟩)
    have hg' : f.gone = false := by simpa using hgo
    have HQ : Hid _ := hfin.out w3 (by rw [hg']; exact m3) ⟨g3.os, g3.tape, g3.output, g3.size, g3.block⟩
    have hcond : (((N : Int) == 0) && ((M : Int) == 0)) = false := by
      have : ¬ (N = 0 ∧ M = 0) := fun e => hgo (gone_len.2 ⟨HG.out.2.2.1.trans e.1, HG.out.2.2.2.trans e.2⟩)
      by_cases h1 : N = 0
      · have h2 : M ≠ 0 := fun e => this ⟨h1, e⟩
        simp [h1, h2]
      · simp [h1]
    simp only [fval, fv, HG.out.2.2.1, HG.out.2.2.2] at hd
    clear hgo hg' m3 g3
    by_cases hN0 : N = 0
    · have hM0 : ((M : Int) == 0) = false := by simpa [hN0] using hcond
      have hM1 : ¬ ((M : Int) = 0) := by simpa using hM0
      subst hN0
      clear hcond
      go_upto_region 4 with (fail)
      go_region
      all_goals
        go_wp2
        go_end0
        exact ⟨rfl, HQ.out⟩
    · have hN1 : ((N : Int) == 0) = false := by simpa using hN0
      have hN2 : ¬ ((N : Int) = 0) := by omega
      clear hcond hN0
      go_upto_region 4 with (fail)
      go_region
      all_goals
        go_wp2
        go_end0
        exact ⟨rfl, HQ.out⟩
end Go.Proofs.Ytmhedhhbdpdafab
