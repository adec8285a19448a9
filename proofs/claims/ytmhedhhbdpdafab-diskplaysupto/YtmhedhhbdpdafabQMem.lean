/-
  The document's disk in memory. Own work.
-/
import Derived.Test.YtmhedhhbdpdafabQSpec
namespace Go.Proofs.Ytmhedhhbdpdafab
open Go.RowKit
theorem toList_loop (bs : ByteArray) : ∀ (n i : Nat) (r : List UInt8), bs.size - i = n → ByteArray.toList.loop bs i r = r.reverse ++ bs.data.toList.drop i := by
  intro n
  induction n with
  | zero =>
    intro i r h
    rw [ByteArray.toList.loop, if_neg (by omega)]
    rw [List.drop_eq_nil_of_le (by simp; exact (by omega : bs.size ≤ i)), List.append_nil]
  | succ n ih =>
    intro i r h
    have hi : i < bs.size := by omega
    rw [ByteArray.toList.loop, if_pos hi, ih (i + 1) _ (by omega)]
    have hl : i < bs.data.toList.length := by simp; exact hi
    rw [List.drop_eq_getElem_cons hl, List.reverse_cons, List.append_assoc]
    have : bs.get! i = bs.data.toList[i] := by
      show bs.data[i]! = _
      have hi2 : i < bs.data.size := hi
      rw [getElem!_pos bs.data i hi2]
      simp
    rw [this]; rfl
theorem toList_eq (bs : ByteArray) : bs.toList = bs.data.toList := by
  rw [ByteArray.toList, toList_loop bs bs.size 0 [] rfl]; rfl
theorem beq_ne {x y : ByteArray} (h : x ≠ y) : (x.toList == y.toList) = false := by
  rw [toList_eq, toList_eq]
  simp only [beq_eq_false_iff_ne, ne_eq]
  intro e
  exact h (ByteArray.ext (Array.toList_inj.1 e))
/-- Its files as cells. -/
def cR (L : List (List UInt8 × FV)) : List Value := L.flatMap fun p => [Value.string ⟨p.1.toArray⟩, Value.string ⟨p.2.now.toArray⟩, Value.string ⟨p.2.syn.toArray⟩]
theorem cR_len (L : List (List UInt8 × FV)) : (cR L).length = L.length * 3 := by
  induction L with
  | nil => rfl
  | cons x r ih => simp only [cR, List.flatMap_cons, List.length_append, List.length_cons] at *; simp at *; omega
theorem cR_app (l k : List (List UInt8 × FV)) : cR (l ++ k) = cR l ++ cR k := by simp [cR]
theorem cR_one (l : List (List UInt8 × FV)) : ∀ u ∈ cR l, u.oneCell' = true := fun u hu => by
  obtain ⟨p, _, hp⟩ := List.mem_flatMap.1 hu
  simp at hp
  rcases hp with rfl | rfl | rfl <;> rfl
/-- No file. -/
abbrev f0 : List UInt8 × FV := ([], fz)
theorem cR_at : ∀ (l : List (List UInt8 × FV)) (j : Nat), j < l.length → (cR l)[j * 3]? = some (.string ⟨(l.getD j f0).1.toArray⟩) ∧ (cR l)[j * 3 + 1]? = some (.string ⟨(l.getD j f0).2.now.toArray⟩) ∧ (cR l)[j * 3 + 2]? = some (.string ⟨(l.getD j f0).2.syn.toArray⟩)
  | [], j, h => by simp at h
  | x :: r, 0, _ => ⟨rfl, rfl, rfl⟩
  | x :: r, j + 1, h => by
    have := cR_at r j (by simpa using h)
    rw [show (j + 1) * 3 = j * 3 + 3 by omega]
    exact this
theorem Try.infoR : (Try.prog.info? 83).map (fun i => (i.zero, i.size, i.bytes)) = some (some (.agg #[.string ⟨#[]⟩, .string ⟨#[]⟩, .string ⟨#[]⟩]), 3, 48) := by kernel_rfl
/-- A list of its files of one's own. -/
def OwnR (w : World) (B : Nat) (v : Value) (L : List (List UInt8 × FV)) : Prop := w.ownsRow B 83 3 v L.length (cR L)
/-- A list of its files that can be read. -/
structure RdR (w : World) (ao : Option Addr) (b : Nat) (l : List (List UInt8 × FV)) : Prop where
  ptr : 0 < l.length → ao = some ⟨b, 0, none⟩
  c0 : ∀ j, j < l.length → w.cell? ⟨b, j * 3, none⟩ = some (.string ⟨(l.getD j f0).1.toArray⟩)
  c1 : ∀ j, j < l.length → w.cell? ⟨b, j * 3 + 1, none⟩ = some (.string ⟨(l.getD j f0).2.now.toArray⟩)
  c2 : ∀ j, j < l.length → w.cell? ⟨b, j * 3 + 2, none⟩ = some (.string ⟨(l.getD j f0).2.syn.toArray⟩)
theorem RdR.lt {w : World} {ao : Option Addr} {b : Nat} {l : List (List UInt8 × FV)} (h : RdR w ao b l) (h0 : 0 < l.length) : b < w.heap.size := World.block_lt_of_cell? w _ (h.c0 0 h0)
theorem RdR.same {w W : World} {ao : Option Addr} {b : Nat} {l : List (List UInt8 × FV)} (h : RdR w ao b l) (hb : 0 < l.length → W.heap[b]? = w.heap[b]?) : RdR W ao b l :=
  ⟨h.ptr, fun j hj => (World.cell?_of_block (a := ⟨b, j * 3, none⟩) (hb (by omega))).trans (h.c0 j hj), fun j hj => (World.cell?_of_block (a := ⟨b, j * 3 + 1, none⟩) (hb (by omega))).trans (h.c1 j hj), fun j hj => (World.cell?_of_block (a := ⟨b, j * 3 + 2, none⟩) (hb (by omega))).trans (h.c2 j hj)⟩
theorem RdR.next {w W : World} {ao : Option Addr} {b : Nat} {l : List (List UInt8 × FV)} (h : RdR w ao b l) (hb : Below w.heap.size w W) : RdR W ao b l := h.same fun h0 => hb.block b (h.lt h0)
theorem ownR_rd {w : World} {B : Nat} {v : Value} {l : List (List UInt8 × FV)} (h : OwnR w B v l) : ∃ ao b cap, v = .slice ao l.length cap ∧ RdR w ao b l ∧ (0 < l.length → B ≤ b ∧ v.ownBlock = some b) := by
  rcases h.2 with ⟨e1, e2⟩ | ⟨g, cap, cur, e1, e2, hb, h1, h2, h3, h4⟩
  · refine ⟨none, 0, 0, by rw [e1, e2], ⟨fun h0 => ?_, fun j hj => ?_, fun j hj => ?_, fun j hj => ?_⟩, fun h0 => ?_⟩ <;> omega
  · have at' : ∀ i, i < l.length * 3 → w.cell? ⟨g, i, none⟩ = (cR l)[i]? := fun i hi => by
      rw [cell_of_row w g i cur _ (0, 0) hb]
      have := congrArg (fun x => x[i]?) h4
      simp only [List.getElem?_take, if_pos hi] at this
      rw [Array.getElem?_toList] at this
      exact this
    refine ⟨some ⟨g, 0, none⟩, g, cap, e1, ⟨fun _ => rfl, fun j hj => ?_, fun j hj => ?_, fun j hj => ?_⟩, fun _ => ⟨e2, by rw [e1]; rfl⟩⟩
    · rw [at' _ (by omega)]; exact (cR_at l j hj).1
    · rw [at' _ (by omega)]; exact (cR_at l j hj).2.1
    · rw [at' _ (by omega)]; exact (cR_at l j hj).2.2
theorem ownR_ty {w : World} {B : Nat} {v : Value} {l : List (List UInt8 × FV)} (h : OwnR w B v l) {g : Nat} (hg : v.ownBlock = some g) : Ty w g 83 := by
  rcases h.2 with ⟨e1, _⟩ | ⟨g', cap, cur, e1, _, hb, _⟩
  · rw [e1] at hg; cases hg
  · rw [e1] at hg; cases hg
    exact ⟨_, _, hb⟩
/-- The document's disk at p. -/
structure Rk (w : World) (p : Nat) (lv : Value) (ka : Option Addr) (kb ko kc : Nat) (V : RV) : Prop where
  blk : w.heap[p]? = some (.cells #[.int .i64 (V.room : Int), lv, .int .i64 (V.cnt : Int), .int .i64 0, .int .i64 V.fk, .slice ka V.ks.length kc, .int .i64 (V.left : Int), .bool V.out] 65 (0, 0))
  own : OwnR w 0 lv V.L
  kp : RdL w ka kb ko V.ks
  kt : 0 < V.ks.length → Ty w kb 4
  kl : V.ks.length ≤ 140737488355328
  rm : V.room ≤ 9223372036854775807
  ct : V.cnt ≤ 4611686018427387904
  lf : V.left ≤ 9223372036854775807
  srt : srt V.L
  nm : ∀ p ∈ V.L, p.1.length ≤ maxLen
  sz : ∀ p ∈ V.L, p.2.now.length ≤ 268435456 ∧ p.2.syn.length ≤ 268435456
  cn : V.L.length ≤ 1099511627776
/-- Its blocks. -/
def RFoot (p : Nat) (lv : Value) (kb : Nat) (V : RV) (x : Nat) : Prop := x = p ∨ lv.ownBlock = some x ∨ (0 < V.ks.length ∧ x = kb)
section
variable {w W : World} {p : Nat} {lv : Value} {ka : Option Addr} {kb ko kc : Nat} {V : RV}
theorem Rk.lt (h : Rk w p lv ka kb ko kc V) {x : Nat} (hx : RFoot p lv kb V x) : x < w.heap.size := by
  rcases hx with rfl | hx | ⟨h0, rfl⟩
  · exact (Array.getElem?_eq_some_iff.1 h.blk).1
  · exact (h.own.lt x hx).2
  · exact (h.kt h0).lt
theorem Rk.same (h : Rk w p lv ka kb ko kc V) (hb : ∀ x, RFoot p lv kb V x → W.heap[x]? = w.heap[x]?) : Rk W p lv ka kb ko kc V :=
  ⟨(hb p (.inl rfl)).trans h.blk, row_keep h.own (fun g hg => hb g (.inr (.inl hg))), h.kp.same (fun h0 => hb kb (.inr (.inr ⟨h0, rfl⟩))), fun h0 => (h.kt h0).same (hb kb (.inr (.inr ⟨h0, rfl⟩))), h.kl, h.rm, h.ct, h.lf, h.srt, h.nm, h.sz, h.cn⟩
theorem Rk.next (h : Rk w p lv ka kb ko kc V) (hb : Below w.heap.size w W) : Rk W p lv ka kb ko kc V := h.same fun x hx => hb.block x (h.lt hx)
theorem Rk.cells (h : Rk w p lv ka kb ko kc V) : w.cell? ⟨p, 0, none⟩ = some (.int .i64 (V.room : Int)) ∧ w.cell? ⟨p, 1, none⟩ = some lv ∧ w.cell? ⟨p, 2, none⟩ = some (.int .i64 (V.cnt : Int)) ∧ w.cell? ⟨p, 3, none⟩ = some (.int .i64 0) ∧ w.cell? ⟨p, 4, none⟩ = some (.int .i64 V.fk) ∧ w.cell? ⟨p, 5, none⟩ = some (.slice ka V.ks.length kc) ∧ w.cell? ⟨p, 6, none⟩ = some (.int .i64 (V.left : Int)) ∧ w.cell? ⟨p, 7, none⟩ = some (.bool V.out) :=
  ⟨by rw [cell_of_row w p 0 _ _ (0, 0) h.blk]; rfl, by rw [cell_of_row w p 1 _ _ (0, 0) h.blk]; rfl, by rw [cell_of_row w p 2 _ _ (0, 0) h.blk]; rfl, by rw [cell_of_row w p 3 _ _ (0, 0) h.blk]; rfl, by rw [cell_of_row w p 4 _ _ (0, 0) h.blk]; rfl, by rw [cell_of_row w p 5 _ _ (0, 0) h.blk]; rfl, by rw [cell_of_row w p 6 _ _ (0, 0) h.blk]; rfl, by rw [cell_of_row w p 7 _ _ (0, 0) h.blk]; rfl⟩
theorem Rk.frz (h : Rk w p lv ka kb ko kc V) (j : Nat) : w.frozen? ⟨p, j, none⟩ = false := frozen_of_row w p j _ _ h.blk
theorem Rk.pl (h : Rk w p lv ka kb ko kc V) {g : Nat} (hg : lv.ownBlock = some g) : g ≠ p := (ownR_ty h.own hg).ne ⟨_, _, h.blk⟩ (by decide)
theorem Rk.pk (h : Rk w p lv ka kb ko kc V) (h0 : 0 < V.ks.length) : kb ≠ p := (h.kt h0).ne ⟨_, _, h.blk⟩ (by decide)
end
set_option maxRecDepth 100000 in
set_option maxHeartbeats 2000000 in
/-- get. -/
theorem rget_any (w : World) {p : Nat} {lv : Value} {ka : Option Addr} {kb ko kc : Nat} {V : RV} (h : Rk w p lv ka kb ko kc V) (s : ByteArray) (nb sb : ByteArray) (hnb : (⟨(fget V.L s.data.toList).now.toArray⟩ : ByteArray) = nb) (hsb : (⟨(fget V.L s.data.toList).syn.toArray⟩ : ByteArray) = sb) :
    Calls Try.prog 48 #[.pointer (some ⟨p, 0, none⟩), .string s] w fun e w' => e = .returned (.agg #[.string s, .string nb, .string sb]) ∧ Below w.heap.size w w' := by
  obtain ⟨ao, b, cap, hv, rd, _⟩ := ownR_rd h.own
  obtain ⟨n, hn⟩ : ∃ n, V.L.length = n := ⟨_, rfl⟩
  rw [hn] at hv
  subst hv
  obtain ⟨w1, hw1⟩ : ∃ W, w.alloc (.cells #[.string ⟨#[]⟩, .string ⟨#[]⟩, .string ⟨#[]⟩] 83) = W := ⟨_, rfl⟩
  have HW1 := hide hw1
  have u1 : Below w.heap.size w w1 := by rw [← hw1]; exact bal (Below.refl _ _) _
  have k1 : w1.heap[w.heap.size]? = some (.cells #[.string ⟨#[]⟩, .string ⟨#[]⟩, .string ⟨#[]⟩] 83 (0, 0)) := by rw [← hw1]; exact new1 _ _
  have h1 := h.next u1
  obtain ⟨_, c1, _⟩ := h1.cells
  have r1 := rd.next u1
  obtain ⟨d0, d1, d2⟩ := three_at k1
  have fz' := fun i => frozen_of_row w1 w.heap.size i _ _ k1
  have HH : Hid (V.L.length = n ∧ n ≤ 1099511627776 ∧ (⟨(fget V.L s.data.toList).now.toArray⟩ : ByteArray) = nb ∧ (⟨(fget V.L s.data.toList).syn.toArray⟩ : ByteArray) = sb ∧ RdR w1 ao b V.L ∧ Below w.heap.size w w1 ∧ w1.heap[w.heap.size]? = some (.cells #[.string ⟨#[]⟩, .string ⟨#[]⟩, .string ⟨#[]⟩] 83 (0, 0))) := ⟨hn, by rw [← hn]; exact h.cn, hnb, hsb, r1, u1, k1⟩
  clear hw1 u1 h h1 rd r1 hn hnb hsb k1
  go_enter Try.func48, Try.ntmps48
  go_upto_region 1 with (fail)
  rw [HW1.out]
  go_wp2
  go_loopg [5] n (fun g y wr => ∃ j : Nat, j ≤ n ∧ g = n - j ∧ y = .int .i64 (j : Int) ∧ wr = w1 ∧ Hid (fget V.L s.data.toList = fget (V.L.drop j) s.data.toList))
  case atStart => exact ⟨0, Nat.zero_le _, rfl, rfl, rfl, rfl⟩
  case round =>
    obtain ⟨j, hj, rfl, rfl, hwr, HF⟩ := hrel
    rw [hwr]
    clear hwr wr
    by_cases hlt : j < n
    · obtain ⟨q1, q2, q3, q4, q5, q6, q7⟩ := HH.out
      obtain ⟨⟨t, f⟩, hx⟩ : ∃ x, V.L.getD j f0 = x := ⟨_, rfl⟩
      have e0 := q5.c0 j (by omega)
      have e1 := q5.c1 j (by omega)
      have e2 := q5.c2 j (by omega)
      rw [hx] at e0 e1 e2
      have hdr : V.L.drop j = (t, f) :: V.L.drop (j + 1) := by
        rw [List.drop_eq_getElem_cons (by omega), ← hx, List.getD_eq_getElem?_getD, List.getElem?_eq_getElem (by omega)]; rfl
      have ea := q5.ptr (by omega)
      subst ea
      obtain ⟨tb, htb⟩ : ∃ a : ByteArray, ⟨t.toArray⟩ = a := ⟨_, rfl⟩
      have htl : tb.data.toList = t := by rw [← htb]
      simp only at e0 e1 e2
      rw [htb] at e0
      have hi1 : (0 : Int) ≤ (j : Int) := by omega
      have hi2 : (j : Int) < (n : Int) := by omega
      have hw : IntKind.i64.wrap ((j : Int) + 1) = (j : Int) + 1 := by rw [IntKind.wrap_i64]; omega
      have HG : Hid (fget V.L s.data.toList = if t = s.data.toList then f else fget (V.L.drop (j + 1)) s.data.toList) := by rw [HF.out, hdr]; rfl
      by_cases hts : tb = s
      · subst hts
        have hf : fget V.L tb.data.toList = f := by rw [HG.out, if_pos htl.symm]
        rw [hf] at q3 q4
        rw [q3] at e1
        rw [q4] at e2
        have HB := hide (And.intro q6 q7)
        clear q1 q2 q3 q4 q5 q6 q7 hx hdr htb htl HF HG hf HW1 HH hlt
        have hs3 := three_at (set3_at HB.out.2 (.string tb) (.string nb) (.string sb))
        obtain ⟨s0, s1, s2⟩ := hs3
        repeat go_step
        refine bodyPost_ret (v := .agg #[.string tb, .string nb, .string sb]) (by simp [results, Try.results48, go_sem, s0, s1, s2]) rfl ⟨rfl, ?_⟩
        exact ((HB.out.1.setCell (Nat.le_refl _) _).setCell (Nat.le_refl _) _).setCell (Nat.le_refl _) _
      · have hne : ¬ t = s.data.toList := fun e => hts (ba_ext (by rw [htl, e]))
        have hbe := beq_ne hts
        clear q1 q2 q3 q4 q5 q6 q7 hx hdr htb htl HF
        go_wp2
        go_roundg (n - (j + 1))
        case rel =>
          go_light
          exact ⟨j + 1, by omega, rfl, by go_num, rfl, HG.out.trans (if_neg hne)⟩
        case measure => go_light; omega
    · obtain rfl : j = n := by omega
      have hz : ¬ ((j : Int) < (j : Int)) := by omega
      obtain ⟨q1, q2, q3, q4, q5, q6, q7⟩ := HH.out
      have hf : fget V.L s.data.toList = fz := by rw [HF.out, List.drop_of_length_le (by omega)]; rfl
      rw [hf] at q3 q4
      have HB := hide (And.intro q6 q7)
      have HE : Hid ((⟨#[]⟩ : ByteArray) = nb ∧ (⟨#[]⟩ : ByteArray) = sb) := ⟨q3, q4⟩
      clear q1 q2 q3 q4 q5 q6 q7 hf HF HH HW1 hlt
      obtain ⟨s0, s1, s2⟩ := three_at (set3_at HB.out.2 (.string s) (.string ⟨#[]⟩) (.string ⟨#[]⟩))
      repeat go_step
      refine bodyPost_ret (v := .agg #[.string s, .string ⟨#[]⟩, .string ⟨#[]⟩]) (by simp [results, Try.results48, go_sem, s0, s1, s2]) rfl ⟨?_, ?_⟩
      · rw [← HE.out.1, ← HE.out.2]
      · exact ((HB.out.1.setCell (Nat.le_refl _) _).setCell (Nat.le_refl _) _).setCell (Nat.le_refl _) _
end Go.Proofs.Ytmhedhhbdpdafab
