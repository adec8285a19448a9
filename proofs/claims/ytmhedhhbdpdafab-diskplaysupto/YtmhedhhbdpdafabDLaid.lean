/-
  laid. Own work.
-/
import Derived.Test.YtmhedhhbdpdafabDAfter
import Derived.Deep.RegionHeld3
namespace Go.Proofs.Ytmhedhhbdpdafab
open Go.RowKit
/-- Files that can be read. -/
structure RdF (w : World) (ao : Option Addr) (b off : Nat) (l : List (List UInt8 × List UInt8)) : Prop where
  ptr : 0 < l.length → ao = some ⟨b, off, none⟩
  c0 : ∀ j, j < l.length → w.cell? ⟨b, off + j * 2, none⟩ = some (.string ⟨(l.getD j ([], [])).1.toArray⟩)
  c1 : ∀ j, j < l.length → w.cell? ⟨b, off + j * 2 + 1, none⟩ = some (.string ⟨(l.getD j ([], [])).2.toArray⟩)
section
variable {w W : World} {ao : Option Addr} {b off : Nat} {l : List (List UInt8 × List UInt8)}
theorem RdF.lt (h : RdF w ao b off l) (h0 : 0 < l.length) : b < w.heap.size := World.block_lt_of_cell? w _ (h.c0 0 h0)
theorem RdF.same (h : RdF w ao b off l) (hb : 0 < l.length → W.heap[b]? = w.heap[b]?) : RdF W ao b off l :=
  ⟨h.ptr, fun j hj => (World.cell?_of_block (a := ⟨b, off + j * 2, none⟩) (hb (by omega))).trans (h.c0 j hj), fun j hj => (World.cell?_of_block (a := ⟨b, off + j * 2 + 1, none⟩) (hb (by omega))).trans (h.c1 j hj)⟩
theorem RdF.next (h : RdF w ao b off l) (hb : Below w.heap.size w W) : RdF W ao b off l := h.same fun h0 => hb.block b (h.lt h0)
end
theorem cF_at : ∀ (l : List (List UInt8 × List UInt8)) (j : Nat), j < l.length → (cF l)[j * 2]? = some (.string ⟨(l.getD j ([], [])).1.toArray⟩) ∧ (cF l)[j * 2 + 1]? = some (.string ⟨(l.getD j ([], [])).2.toArray⟩)
  | [], j, h => by simp at h
  | x :: r, 0, _ => ⟨rfl, rfl⟩
  | x :: r, j + 1, h => by
    have := cF_at r j (by simpa using h)
    rw [show (j + 1) * 2 = j * 2 + 2 by omega]
    exact this
/-- A list of files of one's own can be read. -/
theorem ownF_rd {w : World} {B : Nat} {v : Value} {l : List (List UInt8 × List UInt8)} (h : OwnF w B v l) : ∃ ao b cap, v = .slice ao l.length cap ∧ RdF w ao b 0 l ∧ l.length ≤ cap ∧ (0 < l.length → B ≤ b) := by
  rcases h.2 with ⟨e1, e2⟩ | ⟨g, cap, cur, e1, e2, hb, h1, h2, h3, h4⟩
  · refine ⟨none, 0, 0, by rw [e1, e2], ⟨fun h0 => ?_, fun j hj => ?_, fun j hj => ?_⟩, by omega, fun h0 => ?_⟩ <;> omega
  · have at' : ∀ i, i < l.length * 2 → w.cell? ⟨g, i, none⟩ = (cF l)[i]? := fun i hi => by
      rw [cell_of_row w g i cur _ (0, 0) hb]
      have := congrArg (fun x => x[i]?) h4
      simp only [List.getElem?_take, if_pos hi] at this
      rw [Array.getElem?_toList] at this
      exact this
    refine ⟨some ⟨g, 0, none⟩, g, cap, e1, ⟨fun _ => rfl, fun j hj => ?_, fun j hj => ?_⟩, h1, fun _ => e2⟩
    · rw [Nat.zero_add, at' _ (by omega)]; exact (cF_at l j hj).1
    · rw [Nat.zero_add, at' _ (by omega)]; exact (cF_at l j hj).2
/-- A map of files. -/
structure Fm (w : World) (m : Nat) (R : List UInt8 → FR) (L : List (List UInt8 × FV)) : Prop where
  mp : Mv w m (mapF L R)
  ord : Ord L
  fil : ∀ s ∈ keys L, Fil w (fget L s) (R s)
  apart : ∀ s ∈ keys L, ∀ t ∈ keys L, s ≠ t → ∀ x, Blk (R s) x → Blk (R t) x → False
  nm : ∀ s ∈ keys L, s.length ≤ maxLen
  cnt : L.length ≤ 1099511627776
/-- Another file in it. -/
theorem Fm.put {w W : World} {m : Nat} {R : List UInt8 → FR} {L : List (List UInt8 × FV)} {s : List UInt8} {f : FV} {r : FR} (h : Fm w m R L) (hf : Fil w f r) (hs : s.length ≤ maxLen)
    (hap : ∀ t ∈ keys L, t ≠ s → ∀ x, Blk (R t) x → Blk r x → False) (hc : L.length < 1099511627776)
    (hmp : Mv W m (updF (mapF L R) s (if f.gone then none else some (fval f r)))) (hu : Upo (fun x => x = m) w W) : Fm W m (updR R s r) (fput L s f) := by
  have kt : ∀ x, Ty w x 5 → W.heap[x]? = w.heap[x]? := fun x hx => hu.block x hx.lt (hx.mv h.mp)
  have inl : ∀ t, t ∈ keys (fput L s f) → t ≠ s → t ∈ keys L := fun t ht hne => by
    have := (keys_put h.ord s f t).1 ht
    rwa [if_neg hne] at this
  refine ⟨by rw [mapF_put h.ord]; exact hmp, ord_fput h.ord s f, fun t ht => ?_, fun t ht u hu' hne x hx hy => ?_, fun t ht => ?_, ?_⟩
  · rw [fget_fput h.ord, updR]
    by_cases e : t = s
    · rw [if_pos e, if_pos e]; exact hf.same fun x hx => kt x (hf.blk hx)
    · rw [if_neg e, if_neg e]
      have := h.fil t (inl t ht e)
      exact this.same fun x hx => kt x (this.blk hx)
  · simp only [updR] at hx hy
    by_cases e : t = s
    · rw [if_pos e] at hx
      have e2 : u ≠ s := fun q => hne (e.trans q.symm)
      rw [if_neg e2] at hy
      exact hap u (inl u hu' e2) e2 x hy hx
    · rw [if_neg e] at hx
      by_cases e2 : u = s
      · rw [if_pos e2] at hy
        exact hap t (inl t ht e) e x hx hy
      · rw [if_neg e2] at hy
        exact h.apart t (inl t ht e) u (inl u hu' e2) hne x hx hy
  · by_cases e : t = s
    · rw [e]; exact hs
    · exact h.nm t (inl t ht e)
  · have := len_put (L := L) s f
    omega
theorem Fm.same {w W : World} {m : Nat} {R : List UInt8 → FR} {L : List (List UInt8 × FV)} (h : Fm w m R L) (hm : W.heap[m]? = w.heap[m]?) (hb : ∀ x, Ty w x 5 → W.heap[x]? = w.heap[x]?) : Fm W m R L :=
  ⟨h.mp.same hm, h.ord, fun s hs => (h.fil s hs).same fun x hx => hb x ((h.fil s hs).blk hx), h.apart, h.nm, h.cnt⟩
/-- Files as a disk has them, all synced. -/
def layL (l : List (List UInt8 × List UInt8)) : List (List UInt8 × FV) := l.foldl (fun acc x => if x.2 = [] then acc else fput acc x.1 ⟨x.2, x.2⟩) []
theorem layL_snoc (l : List (List UInt8 × List UInt8)) (x : List UInt8 × List UInt8) : layL (l ++ [x]) = if x.2 = [] then layL l else fput (layL l) x.1 ⟨x.2, x.2⟩ := by simp [layL]
theorem layL_len (l : List (List UInt8 × List UInt8)) : (layL l).length ≤ l.length := by
  suffices h : ∀ (l : List (List UInt8 × List UInt8)) (acc : List (List UInt8 × FV)), (l.foldl (fun acc x => if x.2 = [] then acc else fput acc x.1 ⟨x.2, x.2⟩) acc).length ≤ acc.length + l.length from by simpa [layL] using h l []
  intro l
  induction l with
  | nil => intro acc; simp
  | cons x r ih =>
    intro acc
    rw [List.foldl_cons]
    have := ih (if x.2 = [] then acc else fput acc x.1 ⟨x.2, x.2⟩)
    split at this
    · rw [if_pos (by assumption)]; simp; omega
    · rw [if_neg (by assumption)]
      have q := len_put (L := acc) x.1 ⟨x.2, x.2⟩
      simp
      omega
/-- A text's bytes as a row. -/
theorem rw_bytes (w : World) (s : ByteArray) (cap : Nat) (hc : s.size ≤ cap) : Rw (w.alloc (.cells (bytesRow s cap) 5 ((bytesRow s cap).size, (bytesRow s cap).size + 1))) (some ⟨w.heap.size, 0, none⟩) w.heap.size cap s.data.toList := by
  have hd : s.data.size = s.size := rfl
  have hsz : (bytesRow s cap).size = cap := by simp only [bytesRow, Array.size_append, Array.size_map, Array.size_replicate, hd]; omega
  refine ⟨.inr rfl, fun e => (by cases e), fun _ => ⟨_, _, new1 _ _⟩, by rw [size_list]; exact hc, fun _ j v hv => ?_, fun _ j hj => ⟨?_, ?_⟩⟩
  · have hj : j < s.data.size := by have := (List.getElem?_eq_some_iff.1 hv).1; rw [cY_len, Array.length_toList] at this; exact this
    rw [Nat.zero_add, World.cell?_alloc_mark, bytesRow_at s cap j hj, ← hv]
    simp [cY, Array.getElem?_eq_getElem hj]
  · rw [Nat.zero_add, World.cell?_alloc_mark, Array.getElem?_eq_getElem (by omega)]; rfl
  · rw [Nat.zero_add, World.frozen?_alloc_mark, hsz]
    simp
    omega
theorem bytes_any (W : World) (t : ByteArray) : ∃ c W', (convert 9 67 (.string t)).run Try.prog W = .ok (.slice (some ⟨W.heap.size, 0, none⟩) t.size c) W' ∧ Rw W' (some ⟨W.heap.size, 0, none⟩) W.heap.size c t.data.toList ∧ Below W.heap.size W W' ∧ W.heap.size < W'.heap.size := by
  have h := run_bytes_of_string (P := Try.prog) W 9 67 5 t Try.underlying9 Try.underlying67 Try.underlying5
  exact ⟨_, _, h, rw_bytes W.drew t _ (grownCap_ge W t.size 0 5), (below_drewN (Below.refl _ W) 1).alloc (Nat.le_refl _) _, by show W.drew.heap.size < (W.drew.alloc _).heap.size; simp⟩
set_option maxRecDepth 100000 in
set_option maxHeartbeats 2000000 in
theorem laid_any (w : World) (ao : Option Addr) (b off c : Nat) (l : List (List UInt8 × List UInt8)) (hr : RdF w ao b off l) (hs : ∀ x ∈ l, x.1.length ≤ maxLen ∧ x.2.length ≤ 268435456) (hl : l.length ≤ 1099511627776) :
    Calls Try.prog 47 #[.slice ao l.length c] w fun e w' => ∃ R, e = .returned (.map (some w.heap.size)) ∧ Fm w' w.heap.size R (layL l) ∧ (∀ s ∈ keys (layL l), ∀ x, Blk (R s) x → w.heap.size ≤ x) ∧ Below w.heap.size w w' := by
  have hmm := @run_makeMap Try.prog
  obtain ⟨n, hn⟩ : ∃ n, l.length = n := ⟨_, rfl⟩
  have HH : Hid (RdF w ao b off l ∧ (∀ x ∈ l, x.1.length ≤ maxLen ∧ x.2.length ≤ 268435456) ∧ l.length = n ∧ n ≤ 1099511627776) := ⟨hr, hs, hn, by omega⟩
  rw [hn]
  clear hr hs hl hn
  go_enter Try.func47, Try.ntmps47
  go_wp2
  go_loopg [9] n (fun g i wr => ∃ (j : Nat) (R : List UInt8 → FR), j ≤ n ∧ g = n - j ∧ i = .int .i64 (j : Int) ∧ Fm wr w.heap.size R (layL (l.take j)) ∧ (∀ s ∈ keys (layL (l.take j)), ∀ x, Blk (R s) x → w.heap.size ≤ x) ∧ Below w.heap.size w wr)
  case atStart =>
    refine ⟨0, fun _ => fr0, Nat.zero_le _, rfl, rfl, ⟨?_, ord_nil, fun s h => (by cases h), fun s h => (by cases h), fun s h => (by cases h), Nat.zero_le _⟩, fun s h => (by cases h), bal (Below.refl _ _) _⟩
    have := mv_new w
    exact this
  case round =>
    obtain ⟨j, R, hj, rfl, rfl, hF, hlow, hb⟩ := hrel
    by_cases hlt : j < n
    · obtain ⟨x, hx⟩ : ∃ x, l.getD j ([], []) = x := ⟨_, rfl⟩
      have hxm : x ∈ l := by
        rw [← hx, List.getD_eq_getElem?_getD, List.getElem?_eq_getElem (by rw [HH.out.2.2.1]; exact hlt)]
        exact List.getElem_mem _
      obtain ⟨hx1, hx2⟩ := HH.out.2.1 x hxm
      have rr := HH.out.1.next hb
      have c0 := rr.c0 j (by rw [HH.out.2.2.1]; exact hlt)
      have c1 := rr.c1 j (by rw [HH.out.2.2.1]; exact hlt)
      rw [hx] at c0 c1
      have ea := rr.ptr (by rw [HH.out.2.2.1]; omega)
      obtain ⟨nm, hnm⟩ : ∃ nm : ByteArray, (⟨x.1.toArray⟩ : ByteArray) = nm := ⟨_, rfl⟩
      obtain ⟨dt, hdt⟩ : ∃ dt : ByteArray, (⟨x.2.toArray⟩ : ByteArray) = dt := ⟨_, rfl⟩
      rw [hnm] at c0
      rw [hdt] at c1
      have hnl : nm.data.toList = x.1 := by rw [← hnm]
      have hdl : dt.data.toList = x.2 := by rw [← hdt]
      have hi1 : (0 : Int) ≤ (j : Int) := by omega
      have hi2 : (j : Int) < (n : Int) := by omega
      have hw : IntKind.i64.wrap ((j : Int) + 1) = (j : Int) + 1 := by have := HH.out.2.2.2; rw [IntKind.wrap_i64]; omega
      have htk : l.take (j + 1) = l.take j ++ [x] := by rw [← hx]; exact take_snoc _ _ _ (by rw [HH.out.2.2.1]; exact hlt)
      have hst := layL_snoc (l.take j) x
      rw [← htk] at hst
      have HG : Hid (Fm wr w.heap.size R (layL (l.take j)) ∧ (∀ s ∈ keys (layL (l.take j)), ∀ x, Blk (R s) x → w.heap.size ≤ x) ∧ Below w.heap.size w wr ∧ j < n ∧ nm.data.toList = x.1 ∧ dt.data.toList = x.2 ∧ x.1.length ≤ maxLen ∧ x.2.length ≤ 268435456 ∧ layL (l.take (j + 1)) = if x.2 = [] then layL (l.take j) else fput (layL (l.take j)) x.1 ⟨x.2, x.2⟩) := ⟨hF, hlow, hb, hlt, hnl, hdl, hx1, hx2, hst⟩
      subst ea
      obtain ⟨w1, hw1⟩ : ∃ W, wr.alloc (.cells #[.string nm, .string dt] 52) = W := ⟨_, rfl⟩
      have HW : Hid (wr.alloc (.cells #[.string nm, .string dt] 52) = w1) := hw1
      have hb1 : Below wr.heap.size wr w1 := by rw [← hw1]; exact bal (Below.refl _ _) _
      have k1 : w1.heap[wr.heap.size]? = some (.cells #[.string nm, .string dt] 52 (0, 0)) := by rw [← hw1]; exact new1 _ _
      have d0 : w1.cell? ⟨wr.heap.size, 0, none⟩ = some (.string nm) := by rw [cell_of_row w1 wr.heap.size 0 _ _ (0, 0) k1]; rfl
      have d1 : w1.cell? ⟨wr.heap.size, 1, none⟩ = some (.string dt) := by rw [cell_of_row w1 wr.heap.size 1 _ _ (0, 0) k1]; rfl
      have HB1 : Hid (Below wr.heap.size wr w1 ∧ w1.heap[wr.heap.size]? = some (.cells #[.string nm, .string dt] 52 (0, 0))) := ⟨hb1, k1⟩
      clear hF hlow hb hx hxm hx1 hx2 rr hnm hdt hnl hdl htk hst hw1 hb1 k1 hlt hj
      go_upto_region 5 with (fail)
      rw [HW.out]
      by_cases hd0 : dt.size = 0
      · have hz : ¬ ((dt.size : Int) > 0) := by omega
        have HF : Hid (Fm w1 w.heap.size R (layL (l.take (j + 1))) ∧ (∀ s ∈ keys (layL (l.take (j + 1))), ∀ x, Blk (R s) x → w.heap.size ≤ x) ∧ Below w.heap.size w w1) := by
          obtain ⟨hF, hlow, hb, hlt, hnl, hdl, hx1, hx2, hst⟩ := HG.out
          have : x.2 = [] := by rw [← hdl]; exact List.length_eq_zero_iff.1 (by rw [size_list]; exact hd0)
          rw [if_pos this] at hst
          rw [hst]
          exact ⟨hF.same (HB1.out.1.block _ hF.mp.lt) (fun x hx => HB1.out.1.block x hx.lt), hlow, bnext hb HB1.out.1⟩
        clear hd0
        go_wp2
        go_roundg (n - (j + 1))
        case rel =>
          go_light
          exact ⟨j + 1, R, by have := HG.out.2.2.2.1; omega, rfl, by go_num, HF.out⟩
        case measure => go_light; have := HG.out.2.2.2.1; omega
      · have hz : (0 : Int) < (dt.size : Int) := by omega
        obtain ⟨cp, w2, hcv, rw2, hb2, hz2⟩ := bytes_any w1.drew dt
        have hb2' : Below w1.heap.size w1 w2 := ⟨hb2.os, hb2.tape, hb2.output, hb2.size, hb2.block⟩
        have HS := fsync_any w2 (some ⟨w1.heap.size, 0, none⟩) w1.heap.size dt.size cp dt.data.toList none 0 0 0 0 [] rw2 (rw_nil w2 0) (size_list dt) rfl (Nat.zero_le _) (Nat.le_refl _) rfl (by have := HG.out.2.2.2.2.2; rw [← this.1, size_list] at this; omega)
        have HCl : Hid (∀ W, Below w1.heap.size w1 W → W.cell? ⟨wr.heap.size, 0, none⟩ = some (.string nm) ∧ W.cell? ⟨wr.heap.size, 1, none⟩ = some (.string dt)) := fun W hW => by
          have e := (hW.block wr.heap.size (Array.getElem?_eq_some_iff.1 HB1.out.2).1).trans HB1.out.2
          exact ⟨by rw [cell_of_row W wr.heap.size 0 _ _ (0, 0) e]; rfl, by rw [cell_of_row W wr.heap.size 1 _ _ (0, 0) e]; rfl⟩
        have HFin : Hid (∀ (w3 : World) b' h' d', Rw w3 b' h' d' dt.data.toList → Upo (fun x => (none : Option Addr) = some ⟨0, 0, none⟩ ∧ x = 0) w2 w3 → ((b' = none ∧ h' = 0) ∨ (w2.heap.size ≤ h' ∧ h' < w3.heap.size)) →
            ∃ w4, (Instr.mapUpdate 58 (.map (some w.heap.size)) (.string nm) (fv (some ⟨w1.heap.size, 0, none⟩) dt.size cp b' dt.size d' dt.size)).run Try.prog w3 = .ok () w4 ∧ ∃ R', Fm w4 w.heap.size R' (layL (l.take (j + 1))) ∧ (∀ s ∈ keys (layL (l.take (j + 1))), ∀ x, Blk (R' s) x → w.heap.size ≤ x) ∧ Below w.heap.size w w4 ∧ w4.cell? ⟨wr.heap.size, 0, none⟩ = some (.string nm) ∧ w4.cell? ⟨wr.heap.size, 1, none⟩ = some (.string dt)) := fun w3 b' h' d' r3 u3 loc => by
          obtain ⟨hF, hlow, hb, hlt, hnl, hdl, hx1, hx2, hst⟩ := HG.out
          have hb3 : Below w2.heap.size w2 w3 := ⟨u3.os, u3.tape, u3.output, u3.size, fun x hx => u3.block x hx (fun q => by cases q.1)⟩
          have hbw : Below wr.heap.size wr w3 := bnext HB1.out.1 (bnext hb2' hb3)
          have hF3 : Fm w3 w.heap.size R (layL (l.take j)) := hF.same (hbw.block _ hF.mp.lt) (fun x hx => hbw.block x hx.lt)
          have hfil : Fil w3 ⟨x.2, x.2⟩ ⟨some ⟨w1.heap.size, 0, none⟩, w1.heap.size, cp, b', h', d', dt.size⟩ := by
            rw [← hdl]
            refine ⟨rw2.same fun _ => hb3.block _ hz2, r3, by rw [size_list]; exact Nat.le_refl _, by rw [size_list]; exact Nat.le_refl _, rfl, fun _ e => ?_, by rw [hdl]; exact hx2, by rw [hdl]; exact hx2⟩
            rcases loc with ⟨q, _⟩ | q
            · rw [q] at e; cases e
            · show w1.heap.size ≠ h'
              have : w1.heap.size < w2.heap.size := hz2
              omega
          have hg : (⟨x.2, x.2⟩ : FV).gone = false := by
            cases e : (⟨x.2, x.2⟩ : FV).gone
            · rfl
            · have := (gone_len.1 e).1
              rw [← hdl, size_list] at this
              exact absurd this hd0
          have hne : ¬ x.2 = [] := fun e => hd0 (by rw [← size_list, hdl, e]; rfl)
          rw [if_neg hne] at hst
          have hlen := layL_len (l.take j)
          have hcl : (layL (l.take j)).length < 1099511627776 := by
            rw [List.length_take] at hlen
            have := HH.out.2.2.2
            omega
          obtain ⟨w4, h1, h2, h3⟩ := hF3.mp.write Try.underlying58 (keys_nodup hF.ord) (keys_map _ R) (by rw [keys_len]; unfold maxLen; omega) (s := nm) (by rw [← size_list, hnl]; exact hx1) (fv (some ⟨w1.heap.size, 0, none⟩) dt.size cp b' dt.size d' dt.size)
          refine ⟨w4, h1, updR R x.1 ⟨some ⟨w1.heap.size, 0, none⟩, w1.heap.size, cp, b', h', d', dt.size⟩, ?_⟩
          have hold : ∀ t ∈ keys (layL (l.take j)), ∀ y, Blk (R t) y → y < wr.heap.size := fun t ht y hy => ((hF.fil t ht).blk hy).lt
          have hnew : ∀ y, Blk (⟨some ⟨w1.heap.size, 0, none⟩, w1.heap.size, cp, b', h', d', dt.size⟩ : FR) y → wr.heap.size ≤ y := fun y hy => by
            have := HB1.out.1.size
            rcases hy with ⟨_, e⟩ | ⟨e, e2⟩
            · simp only at e; omega
            · rcases loc with ⟨q, _⟩ | q
              · simp only at e; rw [q] at e; cases e
              · simp only at e2; have : w1.heap.size < w2.heap.size := hz2; omega
          have hu4 : Upo (fun x => x = w.heap.size) w3 w4 := Upo.grown h3 (fun b e => by injection e with e; exact e.symm)
          rw [hst]
          refine ⟨hF3.put hfil hx1 (fun t ht _ y h1 h2 => by have := hold t ht y h1; have := hnew y h2; omega) hcl ?_ hu4, fun t ht y hy => ?_, ?_, ?_⟩
          · rw [hg, ← hnl]
            have e : fval ⟨x.2, x.2⟩ ⟨some ⟨w1.heap.size, 0, none⟩, w1.heap.size, cp, b', h', d', dt.size⟩ = fv (some ⟨w1.heap.size, 0, none⟩) dt.size cp b' dt.size d' dt.size := by
              simp only [fval, ← hdl, size_list]
            rw [e]
            exact h2
          · simp only [updR] at hy
            have hws := hb.size
            by_cases e : t = x.1
            · rw [if_pos e] at hy
              have := hnew y hy
              omega
            · rw [if_neg e] at hy
              refine hlow t ?_ y hy
              have := (keys_put hF.ord x.1 ⟨x.2, x.2⟩ t).1 ht
              rwa [if_neg e] at this
          · have := bnext hb hbw
            exact ⟨hu4.os.trans this.os, hu4.tape.trans this.tape, hu4.output.trans this.output, Nat.le_trans this.size hu4.size, fun y hy => (hu4.block y (by have := this.size; omega) (fun e => by omega)).trans (this.block y hy)⟩
          · have q := HCl.out w3 (bnext hb2' hb3)
            have hm := hF.mp.lt
            have hbl : w4.heap[wr.heap.size]? = w3.heap[wr.heap.size]? := hu4.block _ (World.block_lt_of_cell? _ _ q.1) (fun e => by omega)
            exact ⟨(World.cell?_of_block (a := ⟨wr.heap.size, 0, none⟩) hbl).trans q.1, (World.cell?_of_block (a := ⟨wr.heap.size, 1, none⟩) hbl).trans q.2⟩
        have HB2 := hide hb2'
        clear rw2 hb2 hb2' hz2 hd0
        go_upto_region 6 with (fail)
        obtain ⟨e20, e21⟩ := HCl.out _ HB2.out
        have HS' : Calls Try.prog 41 #[.agg #[.slice (some ⟨w1.heap.size, 0, none⟩) dt.size cp, .slice none 0 0, .int .i64 0]] w2 fun e w' => ∃ b' h' d', e = .returned (fv (some ⟨w1.heap.size, 0, none⟩) dt.size cp b' dt.size d' dt.size) ∧ Rw w' b' h' d' dt.data.toList ∧ Upo (fun x => (none : Option Addr) = some ⟨0, 0, none⟩ ∧ x = 0) w2 w' ∧ ((b' = none ∧ h' = 0) ∨ (w2.heap.size ≤ h' ∧ h' < w'.heap.size)) := HS.mono fun e w' q => by obtain ⟨b', h', d', q1, q2, q3, q4, _⟩ := q; exact ⟨b', h', d', q1, q2, q3, q4⟩
        clear HS
        go_region_with (go_at_call 41; with_reducible refine HS'.mono ?_; rintro e w3 ⟨b', h', d', rfl, r3, u3, loc⟩; obtain ⟨e30, e31⟩ := HCl.out w3 (bnext HB2.out ⟨u3.os, u3.tape, u3.output, u3.size, fun x hx => u3.block x hx (fun q => by cases q.1)⟩); obtain ⟨w4, hmu, R', HF'⟩ := HFin.out w3 b' h' d' r3 u3 loc)
        all_goals
          have HFh := hide HF'
          clear HF' hmu hcv e20 e21 e30 e31 d0 d1 r3 u3 loc HS' c0 c1
          go_wp2
          go_roundg (n - (j + 1))
          case rel =>
            go_light
            obtain ⟨q1, q2, q3, _⟩ := HFh.out
            exact ⟨j + 1, R', by have := HG.out.2.2.2.1; omega, rfl, by go_num, q1, q2, q3⟩
          case measure => go_light; have := HG.out.2.2.2.1; omega
    · obtain rfl : j = n := by omega
      have hc : ¬ ((j : Int) < (j : Int)) := by omega
      have HR : Hid (Fm wr w.heap.size R (layL l) ∧ (∀ s ∈ keys (layL l), ∀ x, Blk (R s) x → w.heap.size ≤ x) ∧ Below w.heap.size w wr) := by
        rw [List.take_of_length_le (by rw [HH.out.2.2.1]; exact Nat.le_refl _)] at hF hlow
        exact ⟨hF, hlow, hb⟩
      clear hF hlow hb hlt hj
      go_wp2
      go_ret
      exact ⟨rfl, R, HR.out⟩
end Go.Proofs.Ytmhedhhbdpdafab
