/-
  The reference of peaks: Size, comes. Own work.
-/
import Derived.Test.YtncndefggegicabDoorKRefD
namespace Go.Proofs.YtncndefggegicabDoor
open Go.RowKit
attribute [local go_sem ↓] Go.wp_at_zero Go.wp_at_succ
theorem refsize_any (w : World) (p : Nat) (v : Value) (k : Int) (n : Nat) (P : List ByteArray) (hr : Rf w p v k n P) :
    Calls Tryd.prog 8 #[.pointer (some ⟨p, 0, none⟩)] w fun e w' => e = .returned (.int .u64 (n : Int)) ∧ Below w.heap.size w w' := by
  have c1 := hr.c1
  clear hr
  go_enter Tryd.func8, Tryd.ntmps8
  go_wp2
  go_ret
  exact ⟨rfl, Below.refl _ _⟩
theorem ownK_setp {w : World} {B p i : Nat} {v x : Value} {l : List (Nat × ByteArray)} (h : OwnK w B v l) (hp : p < B) : OwnK (w.setCell ⟨p, i, none⟩ x) B v l := by
  obtain ⟨h1, h2⟩ := h
  refine ⟨h1, ?_⟩
  rcases h2 with h2 | ⟨g, cap, cur, rfl, hg, hh, r⟩
  · exact .inl h2
  · exact .inr ⟨g, cap, cur, rfl, hg, by rw [← hh]; exact Below.heap_setCell _ _ _ _ (by show g ≠ p; omega), r⟩
theorem Ch.drewN {p : Nat} {w w' : World} (h : Ch p w w') (n : Nat) : Ch p w (w'.drewN n) := ⟨below_drewN h.below n, h.block⟩
theorem ownK_empty1 (w : World) (o : Obj) : OwnK ((w.alloc o).alloc (.cells #[] 63)) w.heap.size (.slice (some ⟨w.heap.size + 1, 0, none⟩) 0 0) [] := by
  have hx := ownK_mono (ownK_empty (w.alloc o)) (show w.heap.size ≤ (w.alloc o).heap.size by simp)
  rw [show (w.alloc o).heap.size = w.heap.size + 1 by simp] at hx
  exact hx
theorem ownK_apart {w W : World} {B : Nat} {v : Value} {l : List (Nat × ByteArray)} (h : OwnK w B v l) (hb : ∀ k, k < w.heap.size → B ≤ k → W.heap[k]? = w.heap[k]?) : OwnK W B v l := by
  obtain ⟨h1, h2⟩ := h
  refine ⟨h1, ?_⟩
  rcases h2 with h2 | ⟨g, cap, cur, rfl, hg, hh, r⟩
  · exact .inl h2
  · exact .inr ⟨g, cap, cur, rfl, hg, by rw [hb g (Array.getElem?_eq_some_iff.1 hh).1 hg]; exact hh, r⟩
/-- Texts appended to texts of one's own: no other block is written. -/
theorem wpList_append_SG (w : World) {ops : Array Oper} {rest : List Oper} {o : Oper} {a : Act} {Q : Exit → Act → World → Prop}
    (hg : o.guard = none) (s x : Operand) (hop : o.op = Op.call { callee := Callee.builtin Builtin.append, args := #[s, x], argTypes := #[23, 23] })
    (B : Nat) (v : Value) (L : List ByteArray) (hs : a.eval s = v) (hown : OwnS w B v L) (ad : Addr) (b off cap : Nat) (M : List ByteArray) (hx : a.eval x = .slice (some ad) M.length cap) (hr : RdS w (some ad) b off M.length M)
    (hlen : L.length + M.length ≤ 8796093022208) (hB : B ≤ w.heap.size)
    (hK : ∀ v' w', OwnS w' B v' (L ++ M) → Below B w w' → (∀ k, k < w.heap.size → v.ownBlock ≠ some k → w'.heap[k]? = w.heap[k]?) → wpList Tryd.prog ops Q rest (a.put o.dst v') w') : wpList Tryd.prog ops Q (o :: rest) a w := by
  obtain ⟨i0, hi, hz0, hz1, hz2⟩ := info_parts Tryd.infoS
  have hlt : ∀ k, v.ownBlock = some k → B ≤ k := fun k hk => (World.ownsRow.lt hown k hk).1
  have hnews : ∀ j u, (M.map Value.string)[j]? = some u → w.cell? (ad.add j) = some u := fun j u hu => by
    have hj : j < M.length := by have := (List.getElem?_eq_some_iff.1 hu).1; rwa [List.length_map] at this
    have := Option.some.inj (hr.ptr (by omega))
    subst this
    rw [Addr.add_mid]; exact hr.rng j u hu
  refine wpList_append_own w hg s x _ hop B 9 i0 (.string ByteArray.empty) 1 16 Tryd.underlying23 hi hz0 hz1 hz2 rfl (by decide) _ _ _ hs hown ad M.length cap (M.map Value.string) hx (by simp) hnews (by intro u hu; obtain ⟨y, _, rfl⟩ := List.mem_map.1 hu; rfl) (by unfold maxLen; omega) (by omega) hB ?_
  intro v' w' h1 h2 _
  refine hK v' w' ?_ ((Below.refl _ _).grown h2 hB hlt) (fun k hk hne => h2.block k hk (fun e => hne e.symm))
  rw [OwnS, List.length_append, List.map_append]; exact h1
set_option maxRecDepth 100000 in
set_option maxHeartbeats 2000000 in
theorem comes_any (w : World) (ht : Tr w) (q : Nat) (u : Value) (k : Int) (n : Nat) (P : List ByteArray) (hr : Rf w q u k n P) (h : Nat) (hh : h ≤ 40) (d : ByteArray) (hd : d.size = clk k) (h0 : n % 2 ^ h = 0) (gr : Nat) (hgr0 : n + 2 ^ h = gr) (h1 : gr ≤ 1099511627776) (M Q : List ByteArray) (hM : Hid (mk (clk k) n P h d = (M, Q))) :
    Calls Tryd.prog 35 #[.pointer (some ⟨q, 0, none⟩), .agg #[.int .i64 (h : Int), .string d]] w fun e w' => ∃ vm u', e = .returned vm ∧ DidR w w' q k gr Q vm M u' := by
  obtain ⟨au, cu, hu⟩ := ownK_slice hr.own
  rw [zip_len hr] at hu
  have HR : Hid (∀ W, Below w.heap.size w W → Rf W q u k n P) := fun W hb => hr.next hb (Nat.le_refl _)
  have HT : Hid (∀ W, Below w.heap.size w W → Tr W) := fun W hb => ht.next hb
  have HU := hide hu
  obtain ⟨w0, hw0⟩ : ∃ w0, w.alloc (.cells #[.int .i64 (h : Int), .string d] 63) = w0 := ⟨_, rfl⟩
  have b0 : Below w.heap.size w w0 := by rw [← hw0]; exact bal (Below.refl w.heap.size w) _
  have X0 : w0.heap[w.heap.size]? = some (.cells #[.int .i64 (h : Int), .string d] 63 (0, 0)) := by rw [← hw0]; exact heap_alloc_new w _
  have hlt0 : w.heap.size < w0.heap.size := (Array.getElem?_eq_some_iff.1 X0).1
  have y1 : w0.cell? ⟨w.heap.size, 1, none⟩ = some (.string d) := by rw [cell_of_row w0 w.heap.size 1 _ _ (0, 0) X0]; rfl
  have HX : Hid (∀ W, Below w0.heap.size w0 W → (W.cell? ⟨w.heap.size, 0, none⟩ = some (.int .i64 (h : Int)) ∧ W.cell? ⟨w.heap.size, 1, none⟩ = some (.string d) ∧ W.cell? ⟨q, 2, none⟩ = some (.slice au P.length cu)) ∧ Below w.heap.size w W) := fun W hb => by
    have X1 := (hb.block _ hlt0).trans X0
    refine ⟨⟨?_, ?_, ?_⟩, bnext b0 hb⟩
    · rw [cell_of_row W w.heap.size 0 _ _ (0, 0) X1]; rfl
    · rw [cell_of_row W w.heap.size 1 _ _ (0, 0) X1]; rfl
    · rw [← hu]; exact (hr.next (bnext b0 hb) (Nat.le_refl _)).c2
  have HRd : Hid (∀ W, Below w.heap.size w W → RdK W au cu ((hts n).zip P)) := fun W hb => by
    have := (hr.next hb (Nat.le_refl _)).own
    rw [hu] at this
    exact ownK_rd this
  have HZ : Hid (((hts n).zip P).length = P.length ∧ P.length ≤ 41) := ⟨zip_len hr, hr.short⟩
  go_enter Tryd.func35, Tryd.ntmps35
  go_upto_region 2 with (fail)
  have b1 := bal (Below.refl w0.heap.size w0) (.cells #[.string d] 9)
  have o1 := own_one w0 d
  generalize w0.alloc (.cells #[.string d] 9) = w1 at *
  have hd1 : Below w0.heap.size w0 w1.drew := b1.drew
  have HS1 : Hid (w.heap.size ≤ w1.heap.size ∧ w0.heap.size ≤ w1.heap.size) := ⟨Nat.le_trans (Nat.le_of_lt hlt0) b1.size, b1.size⟩
  have hw1 : Below w1.heap.size w1 w1.drew := (Below.refl w1.heap.size w1).drew
  obtain ⟨z0, z1, z2⟩ := (HX.out w1.drew hd1).1
  clear y1 hw0 X0
  have HOn : Hid (∀ W, Below w1.heap.size w1 W → OwnS W w0.heap.size (.slice (some ⟨w0.heap.size, 0, none⟩) 1 1) [d]) := fun W hb => own_next o1 hb (Nat.le_refl _)
  have HXw : Hid (∀ W, Below w1.heap.size w1 W → Below w0.heap.size w0 W) := fun W hb => bnext b1 hb
  have HK : Hid (∀ W, Below w1.heap.size w1 W → W.cell? ⟨w.heap.size, 0, none⟩ = some (.int .i64 (h : Int)) ∧ W.cell? ⟨w.heap.size, 1, none⟩ = some (.string d) ∧ W.cell? ⟨q, 2, none⟩ = some (.slice au P.length cu)) := fun W hb => (HX.out W (bnext b1 hb)).1
  go_cut [6] from 13 to 21 (fun y wx => Hid (OwnK wx w0.heap.size y ((hts n).zip P ++ [(h, d)]) ∧ Below w1.heap.size w1 wx))
  case first =>
    go_region_held3 (fun w' => w'.cell? ⟨w.heap.size, 0, none⟩ = some (.int .i64 (h : Int)) ∧ w'.cell? ⟨w.heap.size, 1, none⟩ = some (.string d) ∧ w'.cell? ⟨q, 2, none⟩ = some (.slice au P.length cu)) (first | assumption | (exact HK.out _ hb4) | (exact HK.out _ (bal hb3 _)) | (exact HK.out _ hb3) | (exact HK.out _ (bal (bal hw1 _) _)) | (exact HK.out _ (bal hw1 _)) | (exact HK.out _ hw1)) (first
      | (refine step_append_K0 _ (by rfl) _ _ (by rfl) w1.heap.size w1.heap.size (by rfl) (ownK_empty w1.drew) au P.length cu ((hts n).zip P) HZ.out.1 (by rfl) (HRd.out _ (HX.out _ (HXw.out _ (bal hw1 _))).2) (by have := HZ.out; omega) (by first | (simp; done) | (have := HS1.out; simp; omega)) ?_; intro v3 w3 ho3 hb3'; have hb3 : Below w1.heap.size w1 w3 := bnext (bal hw1 (.cells #[] 63)) hb3')
      | (refine step_append_K0 _ (by rfl) _ _ (by rfl) w1.heap.size w1.heap.size (by rfl) (ownK_al (ownK_empty w1.drew) _) au P.length cu ((hts n).zip P) HZ.out.1 (by rfl) (HRd.out _ (HX.out _ (HXw.out _ (bal (bal hw1 _) _))).2) (by have := HZ.out; omega) (by first | (simp; done) | (have := HS1.out; simp; omega)) ?_; intro v3 w3 ho3 hb3'; have rO3 : RdK w3 (some ⟨w1.heap.size + 1, 0, none⟩) 1 [(h, d)] := (by have hx := (rdK_new (w1.drew.alloc (.cells #[] 63)) h d).next hb3'; simp at hx; exact hx); have hb3 : Below w1.heap.size w1 w3 := bnext (bal (bal hw1 (.cells #[] 63)) (.cells #[.int .i64 (h : Int), .string d] 63)) hb3')
      | (refine step_append_K0 _ (by rfl) _ _ (by rfl) w1.heap.size (w1.heap.size + 1) (by rfl) (ownK_empty1 w1.drew _) au P.length cu ((hts n).zip P) HZ.out.1 (by rfl) (HRd.out _ (HX.out _ (HXw.out _ (bal (bal hw1 _) _))).2) (by have := HZ.out; omega) (by first | (simp; done) | (have := HS1.out; simp; omega)) ?_; intro v3 w3 ho3 hb3'; have rO3 : RdK w3 (some ⟨w1.heap.size, 0, none⟩) 1 [(h, d)] := ((rdK_new w1.drew h d).next (bal (Below.refl _ _) (.cells #[] 63))).next hb3'; have hb3 : Below w1.heap.size w1 w3 := bnext (bal (bal hw1 (.cells #[.int .i64 (h : Int), .string d] 63)) (.cells #[] 63)) hb3')
      | (refine step_append_K _ (by rfl) _ _ (by rfl) w1.heap.size _ ((hts n).zip P) (by rfl) (ownK_al ho3 _) (some ⟨w3.heap.size, 0, none⟩) 1 1 [(h, d)] rfl (by rfl) (rdK_new w3 h d) (by have := HZ.out; simp; omega) (by first | (simp; done) | (have := hb3.size; simp; omega)) ?_; intro v4 w4 ho4 hb4'; have hb4 : Below w1.heap.size w1 w4 := (bal hb3 _).trans hb4')
      | (refine step_append_K _ (by rfl) _ _ (by rfl) w1.heap.size _ ((hts n).zip P) (by rfl) ho3 (some ⟨w1.heap.size + 1, 0, none⟩) 1 1 [(h, d)] rfl (by rfl) rO3 (by have := HZ.out; simp; omega) hb3.size ?_; intro v4 w4 ho4 hb4'; have hb4 : Below w1.heap.size w1 w4 := hb3.trans hb4')
      | (refine step_append_K _ (by rfl) _ _ (by rfl) w1.heap.size _ ((hts n).zip P) (by rfl) ho3 (some ⟨w1.heap.size, 0, none⟩) 1 1 [(h, d)] rfl (by rfl) rO3 (by have := HZ.out; simp; omega) hb3.size ?_; intro v4 w4 ho4 hb4'; have hb4 : Below w1.heap.size w1 w4 := hb3.trans hb4'))
    all_goals
      have HM4 : Hid (OwnK w4 w0.heap.size v4 ((hts n).zip P ++ [(h, d)]) ∧ Below w1.heap.size w1 w4) := ⟨ownK_mono ho4 HS1.out.2, hb4⟩
      clear ho4 hb4 hb4' ho3 hb3 hb3'
      go_wp2
      go_meet
      case rel =>
        go_light
        exact HM4
  case rest =>
    have HS0 : Hid (Atr w0 wc gr (clk k) h (n / 2 ^ h) (40 - h) n d [] P M Q (.slice (some ⟨w0.heap.size, 0, none⟩) 1 1) u6) := by
      have hn := hr.hn
      have hdm := Nat.div_add_mod n (2 ^ h)
      refine ⟨hgr0, by omega, ?_, by omega, hd, hr.hs, hr.hl, Nat.zero_le _, by rw [List.nil_append]; exact congrArg Prod.fst hM.out, congrArg Prod.snd hM.out, HOn.out wc hcut.out.2, hcut.out.1, HXw.out wc hcut.out.2⟩
      rw [Nat.div_lt_iff_lt_mul (Nat.two_pow_pos h), ← Nat.pow_add, show 40 - h + h = 40 by omega]
      have := Nat.two_pow_pos h
      omega
    have HN : Hid (n ≤ 1099511627776 ∧ gr ≤ 1099511627776 ∧ Q.length = (hts gr).length ∧ (∀ s ∈ Q, s.size = clk k) ∧ 1 ≤ k ∧ k ≤ 32 ∧ n + 2 ^ h = gr ∧ h ≤ 40 ∧ q < w.heap.size ∧ w.heap.size < w0.heap.size) := by
      have eQ : (carry (clk k) (40 - h) (n / 2 ^ h) P d).2 = Q := congrArg Prod.snd hM.out
      refine ⟨hr.hn, h1, ?_, ?_, hr.k1, hr.k2, hgr0, hh, hr.lt, hlt0⟩
      · rw [← eQ, carry_len (clk k) 41 (40 - h) h (n / 2 ^ h) P d (by omega) HS0.out.ht (by rw [← HS0.out.hleft]; exact hr.hl), ← HS0.out.hleft, hgr0]; rfl
      · rw [← eQ]; exact (carry_size (clk_le k) _ _ _ _ hr.hs hd).2
    clear hcut HOn HK HXw hw1 HS1 hd1 o1 b1 hr ht hd h0 hgr0 h1 hM hu z0 z1 z2 HRd HZ b0 hh hlt0
    go_wp2
    go_loopg [5, 6] P.length (fun g y5 y6 wx => ∃ (hc t f left : Nat) (dc : ByteArray) (A0 P' : List ByteArray), P'.length = g ∧ Hid (Atr w0 wx gr (clk k) hc t f left dc A0 P' M Q y5 y6))
    case atStart =>
      go_light
      exact ⟨h, n / 2 ^ h, 40 - h, n, d, [], P, rfl, HS0⟩
    case round =>
      clear HS0
      obtain ⟨hc, t, f, left, dc, A0, P', hg, HA⟩ := hrel
      have HGk := hide hg
      clear hg
      obtain ⟨al, cl, hvl⟩ := ownK_slice HA.out.lst
      have hlen : ((ol (fun h _ => h) 41 left).zip P' ++ [(hc, dc)]).length = P'.length + 1 := by rw [List.length_append, List.length_zip, HA.out.hl, Nat.min_self]; rfl
      rw [hlen] at hvl
      have h40 : P'.length ≤ 41 := by rw [HA.out.hl]; exact ol_len_le _ _ _
      by_cases ho : t % 2 = 1
      · obtain ⟨m, hm⟩ : ∃ m, P'.length = m + 1 := by
          have h1 := HA.out.hl
          rw [HA.out.hleft, ol_odd _ (by have := HA.out.hf; have := HA.out.ht; cases f with | zero => (simp at this; omega) | succ f => omega) ho, List.length_append, List.length_singleton] at h1
          exact ⟨P'.length - 1, by omega⟩
        obtain ⟨ln, hln⟩ : ∃ ln, P'.length + 1 = ln := ⟨_, rfl⟩
        rw [hln] at hvl
        obtain ⟨gl, cl2, hvl2, _, hcl⟩ := ownK_form HA.out.lst (by omega)
        rw [hvl, hlen, hln] at hvl2
        obtain ⟨rfl, _, rfl⟩ := Value.slice.inj hvl2
        have oL := HA.out.lst
        rw [hvl] at oL
        obtain ⟨i1, hi1⟩ : ∃ i1, m + 1 = i1 := ⟨_, rfl⟩
        have hf39 : hc ≤ 39 := by
          have h1 := HA.out.hf
          have h2 := HA.out.ht
          cases f with
          | zero => simp at h2; omega
          | succ f => omega
        have hol : (ol (fun h _ => h) 41 left).length = m + 1 := by rw [← HA.out.hl]; exact hm
        obtain ⟨x, hx⟩ : ∃ x, P'.getD m ByteArray.empty = x := ⟨_, rfl⟩
        have g1 : ((ol (fun h _ => h) 41 left).zip P' ++ [(hc, dc)]).getD (m + 1) (0, ByteArray.empty) = (hc, dc) := by
          rw [List.getD_eq_getElem?_getD, List.getElem?_append_right (by rw [List.length_zip]; omega), List.length_zip, hol, hm, Nat.min_self, Nat.sub_self]; rfl
        have g0 : ((ol (fun h _ => h) 41 left).zip P' ++ [(hc, dc)]).getD m (0, ByteArray.empty) = (hc, x) := by
          have eo : (ol (fun h _ => h) 41 left) = ol (fun h _ => h) 41 (2 ^ (hc + 1) * (t / 2)) ++ [hc] := by rw [HA.out.hleft]; exact ol_odd _ (by omega) ho
          have hol2 := hol
          rw [eo, List.length_append, List.length_singleton] at hol2
          rw [List.getD_eq_getElem?_getD, List.getElem?_append_left (by rw [List.length_zip]; omega), List.getElem?_eq_getElem (by rw [List.length_zip]; omega), Option.getD_some, List.getElem_zip]
          refine Prod.ext ?_ ?_
          · show (ol (fun h _ => h) 41 left)[m]'_ = hc
            have : (ol (fun h _ => h) 41 left)[m]? = some hc := by rw [eo, List.getElem?_append_right (by omega)]; rw [show m - (ol (fun h _ => h) 41 (2 ^ (hc + 1) * (t / 2))).length = 0 by omega]; rfl
            rw [List.getElem?_eq_getElem (by omega)] at this
            exact Option.some.inj this
          · show P'[m]'_ = x
            rw [← hx, List.getD_eq_getElem?_getD, List.getElem?_eq_getElem (by omega)]; rfl
        have HC : Hid (∀ W, Below wr.heap.size wr W → W.cell? ⟨gl, i1 * 2, none⟩ = some (.int .i64 (hc : Int)) ∧ W.cell? ⟨gl, i1 * 2 + 1, none⟩ = some (.string dc) ∧ W.cell? ⟨gl, m * 2, none⟩ = some (.int .i64 (hc : Int)) ∧ W.cell? ⟨gl, m * 2 + 1, none⟩ = some (.string x)) := fun W hb => by
          have oW := ownK_next oL hb (Nat.le_refl _)
          have c1 := ownK_cell oW (j := m + 1) (by rw [hlen, hm]; omega)
          have c0 := ownK_cell oW (j := m) (by rw [hlen, hm]; omega)
          rw [g1, hi1] at c1
          rw [g0] at c0
          exact ⟨c1.1, c1.2, c0.1, c0.2⟩
        have e1 : IntKind.i64.wrap ((ln : Int) - 1) = (i1 : Int) := by rw [IntKind.wrap_i64]; omega
        have e2 : IntKind.i64.wrap ((ln : Int) - 2) = (m : Int) := by rw [IntKind.wrap_i64]; omega
        have z1 : (2 : Int) ≤ (ln : Int) := by omega
        have z2 : (i1 : Int) < (ln : Int) := by omega
        have z3 : (m : Int) < (ln : Int) := by omega
        have z4 : (0 : Int) ≤ (m : Int) := Int.natCast_nonneg _
        have z5 : (0 : Int) ≤ (i1 : Int) := Int.natCast_nonneg _
        have z7 : (m : Int) ≤ (cl : Int) := by omega
        have HM : Hid (P'.length = m + 1 ∧ P'.getD m ByteArray.empty = x ∧ ln = m + 2 ∧ hc ≤ 39 ∧ ((ol (fun h _ => h) 41 left).zip P' ++ [(hc, dc)]).length = ln ∧ m ≤ 41) := ⟨hm, hx, by omega, hf39, by omega, by omega⟩
        subst hvl
        clear hvl2 oL hi1 hol hx g1 g0 hcl hln hlen h40 hm hf39
        go_upto_region 3 with (fail)
        go_cut [41] from 22 to 40 (fun y wx => y = .bool true ∧ Hid (Below wr.heap.size wr wx))
        case first =>
          obtain ⟨c1, _, c0, _⟩ := HC.out wr (Below.refl _ _)
          go_quiet (fail)
          go_wp2
          go_meet
          case rel =>
            go_light
            exact ⟨rfl, below_drewN (Below.refl _ _) _⟩
        case rest =>
          obtain ⟨rfl, HBc⟩ := hcut
          obtain ⟨_, _, c0, c0'⟩ := HC.out wc HBc.out
          have c1 := fun o => (HC.out _ (bal HBc.out o)).1
          have c1' := fun o => (HC.out _ (bal HBc.out o)).2.1
          go_upto_region 6 with (fail)
          obtain ⟨d2, hd2⟩ : ∃ d2, dg (clk k) (nodeT x dc) = d2 := ⟨_, rfl⟩
          obtain ⟨hc2, hhc2⟩ : ∃ hc2, hc + 1 = hc2 := ⟨_, rfl⟩
          have e3 : IntKind.i64.wrap ((hc : Int) + 1) = (hc2 : Int) := by have := HM.out.2.2.2.1; rw [IntKind.wrap_i64]; omega
          obtain ⟨w6, hw6⟩ : ∃ w6, (wc.alloc (.cells #[.int .i64 (hc : Int), .string x] 63)).alloc (.cells #[.int .i64 (hc : Int), .string dc] 63) = w6 := ⟨_, rfl⟩
          have b6 : Below wc.heap.size wc w6 := by rw [← hw6]; exact bal (bal (Below.refl _ _) _) _
          have XA : w6.heap[wc.heap.size]? = some (.cells #[.int .i64 (hc : Int), .string x] 63 (0, 0)) := by
            rw [← hw6, Below.heap_alloc _ _ _ (by simp)]; exact heap_alloc_new wc _
          have XB : w6.heap[wc.heap.size + 1]? = some (.cells #[.int .i64 (hc : Int), .string dc] 63 (0, 0)) := by
            rw [← hw6, show wc.heap.size + 1 = (wc.alloc (.cells #[.int .i64 (hc : Int), .string x] 63)).heap.size by simp]; exact heap_alloc_new _ _
          have HBl : Hid (∀ W, Below w6.heap.size w6 W → Below w0.heap.size w0 W ∧ Below wr.heap.size wr W) := fun W hb => by
            have h1 := bnext HBc.out (bnext b6 hb)
            exact ⟨bnext HA.out.below h1, h1⟩
          have HK6 : Hid (∀ W, Below w6.heap.size w6 W → W.cell? ⟨wc.heap.size, 0, none⟩ = some (.int .i64 (hc : Int)) ∧ W.cell? ⟨wc.heap.size, 1, none⟩ = some (.string x) ∧ W.cell? ⟨wc.heap.size + 1, 1, none⟩ = some (.string dc) ∧ W.cell? ⟨q, 0, none⟩ = some (.int .i64 k)) := fun W hb => by
            have a1 := (hb.block _ (Array.getElem?_eq_some_iff.1 XA).1).trans XA
            have a2 := (hb.block _ (Array.getElem?_eq_some_iff.1 XB).1).trans XB
            refine ⟨?_, ?_, ?_, (HR.out W (HX.out W (HBl.out W hb).1).2).c0⟩
            · rw [cell_of_row W _ 0 _ _ (0, 0) a1]; rfl
            · rw [cell_of_row W _ 1 _ _ (0, 0) a1]; rfl
            · rw [cell_of_row W _ 1 _ _ (0, 0) a2]; rfl
          have HNd : Hid (∀ W, Below w6.heap.size w6 W → Calls Tryd.prog 46 #[.int .i64 k, .string x, .string dc] W fun e w' => e = .returned (.string d2) ∧ Below W.heap.size W w') := fun W hb => by
            have hcl := clk_le k
            have s1 : x.size = clk k := by rw [← HM.out.2.1]; exact HA.out.hP _ (getD_mem (by have := HM.out.1; omega))
            have s2 := HA.out.hd
            exact refnode_any W (HT.out W (HX.out W (HBl.out W hb).1).2) k x dc (by omega) (by omega) d2 hd2
          have HE6 : Hid (dg (clk k) (nodeT x dc) = d2 ∧ hc + 1 = hc2) := ⟨hd2, hhc2⟩
          have b6d : Below w6.heap.size w6 w6.drew := (Below.refl w6.heap.size w6).drew
          clear c0 c0' c1 c1' b6 XA XB hd2 hhc2
          try rw [hw6]
          go_cut [9] from 54 to 66 (fun y wx => ∃ g9, y = .pointer (some ⟨g9, 0, none⟩) ∧ Hid (wx.heap[g9]? = some (.cells #[.int .i64 (hc2 : Int), .string d2] 63 (0, 0)) ∧ Below w6.heap.size w6 wx))
          case first =>
            obtain ⟨q0, q1, q2, q3⟩ := HK6.out w6.drew b6d
            go_region_held3 (fun w' => w'.cell? ⟨wc.heap.size, 0, none⟩ = some (.int .i64 (hc : Int)) ∧ w'.cell? ⟨wc.heap.size, 1, none⟩ = some (.string x) ∧ w'.cell? ⟨wc.heap.size + 1, 1, none⟩ = some (.string dc) ∧ w'.cell? ⟨q, 0, none⟩ = some (.int .i64 k)) (first | assumption | (exact HK6.out _ hb7) | (exact HK6.out _ (bal hb7 _)) | (exact HK6.out _ b6d) | (exact HK6.out _ (bal (Below.refl w6.heap.size w6) _).drew) | (exact HK6.out _ (bal b6d _)) | (exact HK6.out _ ((hb7.setCell (by exact Nat.le_refl _) _).setCell (by exact Nat.le_refl _) _)) | (exact HK6.out _ (hb7.setCell (by exact Nat.le_refl _) _))) (first
              | (go_at_call 46; with_reducible refine (HNd.out _ b6d).mono ?_; rintro e w7 ⟨rfl, hb7'⟩; have hb7 := bnext b6d hb7')
              | (go_at_call 46; with_reducible refine (HNd.out _ (bal (Below.refl w6.heap.size w6) (.cells #[.int .i64 0, .string ⟨#[]⟩] 63)).drew).mono ?_; rintro e w7 ⟨rfl, hb7'⟩; have hb7 := bnext (bal (Below.refl w6.heap.size w6) (.cells #[.int .i64 0, .string ⟨#[]⟩] 63)).drew hb7'; have X7 : w7.heap[w6.heap.size]? = some (.cells #[.int .i64 0, .string ⟨#[]⟩] 63 (0, 0)) := (hb7'.block _ (by simp)).trans (((Below.refl (w6.heap.size + 1) (w6.alloc (.cells #[.int .i64 0, .string ⟨#[]⟩] 63))).drew.block w6.heap.size (Nat.lt_succ_self _)).trans (heap_alloc_new w6 _)); have s0 : w7.cell? ⟨w6.heap.size, 0, none⟩ = some (.int .i64 0) := (cell_of_row w7 _ 0 _ _ (0, 0) X7).trans rfl; have s1 : w7.cell? ⟨w6.heap.size, 1, none⟩ = some (.string ⟨#[]⟩) := (cell_of_row w7 _ 1 _ _ (0, 0) X7).trans rfl; have f0 := frozen_of_row w7 _ 0 _ _ X7; have f1 := frozen_of_row w7 _ 1 _ _ X7))
            · have HM6 : Hid ((w7.alloc (.cells #[.int .i64 (hc2 : Int), .string d2] 63)).heap[w7.heap.size]? = some (.cells #[.int .i64 (hc2 : Int), .string d2] 63 (0, 0)) ∧ Below w6.heap.size w6 (w7.alloc (.cells #[.int .i64 (hc2 : Int), .string d2] 63))) := ⟨heap_alloc_new w7 _, bal hb7 _⟩
              clear hb7 hb7' q0 q1 q2 q3
              go_wp2
              go_meet
              case rel =>
                go_light
                exact ⟨_, rfl, HM6⟩
            · have HM6 : Hid (((w7.setCell ⟨w6.heap.size, 0, none⟩ (.int .i64 (hc2 : Int))).setCell ⟨w6.heap.size, 1, none⟩ (.string d2)).heap[w6.heap.size]? = some (.cells #[.int .i64 (hc2 : Int), .string d2] 63 (0, 0)) ∧ Below w6.heap.size w6 ((w7.setCell ⟨w6.heap.size, 0, none⟩ (.int .i64 (hc2 : Int))).setCell ⟨w6.heap.size, 1, none⟩ (.string d2))) :=
                ⟨heap_setCell_same _ w6.heap.size 1 _ 63 (.string d2) (heap_setCell_same w7 w6.heap.size 0 _ 63 (.int .i64 (hc2 : Int)) X7), (hb7.setCell (by exact Nat.le_refl _) _).setCell (by exact Nat.le_refl _) _⟩
              clear hb7 hb7' q0 q1 q2 q3 X7 s0 s1 f0 f1
              go_wp2
              go_meet
              case rel =>
                go_light
                exact ⟨_, rfl, HM6⟩
          case rest =>
            obtain ⟨g9, rfl, HG9⟩ := hcut
            have hw7 : Below wc.heap.size wc wc.drew := (Below.refl wc.heap.size wc).drew
            have HK7 : Hid (∀ W, Below wc.heap.size wc W → W.cell? ⟨g9, 0, none⟩ = some (.int .i64 (hc2 : Int)) ∧ W.cell? ⟨g9, 1, none⟩ = some (.string d2)) := fun W hb => by
              have a1 := (hb.block _ (Array.getElem?_eq_some_iff.1 HG9.out.1).1).trans HG9.out.1
              refine ⟨?_, ?_⟩
              · rw [cell_of_row W _ 0 _ _ (0, 0) a1]; rfl
              · rw [cell_of_row W _ 1 _ _ (0, 0) a1]; rfl
            have HRd7 : Hid (∀ W, Below wc.heap.size wc W → RdK W (some ⟨gl, 0, none⟩) cl (((ol (fun h _ => h) 41 left).zip P' ++ [(hc, dc)]).take m)) := fun W hb => (ownK_rd (ownK_next HA.out.lst (HBl.out W (bnext HG9.out.2 hb)).2 (Nat.le_refl _))).take m
            have HZ7 : Hid ((((ol (fun h _ => h) 41 left).zip P' ++ [(hc, dc)]).take m).length = m ∧ m ≤ 41) := by
              obtain ⟨_, _, m3, _, m5, m6⟩ := HM.out
              exact ⟨by rw [List.length_take, m5]; omega, m6⟩
            have HB7 : Hid (∀ W, Below wc.heap.size wc W → Below w0.heap.size w0 W ∧ Below wr.heap.size wr W) := fun W hb => HBl.out W (bnext HG9.out.2 hb)
            clear HG9 HBl HK6 HNd HBc HC b6d hw6
            generalize hL7 : ((ol (fun h _ => h) 41 left).zip P' ++ [(hc, dc)]).take m = L7 at HRd7 HZ7
            go_upto_region 7 with (fail)
            go_cut [6] from 67 to 76 (fun y wx => Hid (OwnK wx wc.heap.size y (L7 ++ [(hc2, d2)]) ∧ Below wc.heap.size wc wx))
            case first =>
              obtain ⟨v0, v1⟩ := HK7.out wc.drew hw7
              go_region_held3 (fun w' => w'.cell? ⟨g9, 0, none⟩ = some (.int .i64 (hc2 : Int)) ∧ w'.cell? ⟨g9, 1, none⟩ = some (.string d2)) (first | assumption | (exact HK7.out _ hb4) | (exact HK7.out _ (bal hb3 _)) | (exact HK7.out _ hb3) | (exact HK7.out _ (bal (bal hw7 _) _)) | (exact HK7.out _ (bal hw7 _)) | (exact HK7.out _ hw7)) (first
                | (refine step_append_K0 _ (by rfl) _ _ (by rfl) wc.heap.size wc.heap.size (by rfl) (ownK_empty wc.drew) (some ⟨gl, 0, none⟩) m cl L7 HZ7.out.1 (by rfl) (HRd7.out _ (bal hw7 _)) (by have := HZ7.out; omega) (by simp) ?_; intro v3 w3 ho3 hb3'; have hb3 : Below wc.heap.size wc w3 := bnext (bal hw7 (.cells #[] 63)) hb3')
                | (refine step_append_K0 _ (by rfl) _ _ (by rfl) wc.heap.size wc.heap.size (by rfl) (ownK_al (ownK_empty wc.drew) _) (some ⟨gl, 0, none⟩) m cl L7 HZ7.out.1 (by rfl) (HRd7.out _ (bal (bal hw7 _) _)) (by have := HZ7.out; omega) (by simp; omega) ?_; intro v3 w3 ho3 hb3'; have rO3 : RdK w3 (some ⟨wc.heap.size + 1, 0, none⟩) 1 [(hc2, d2)] := (by have hx := (rdK_new (wc.drew.alloc (.cells #[] 63)) hc2 d2).next hb3'; simp at hx; exact hx); have hb3 : Below wc.heap.size wc w3 := bnext (bal (bal hw7 (.cells #[] 63)) (.cells #[.int .i64 (hc2 : Int), .string d2] 63)) hb3')
                | (refine step_append_K0 _ (by rfl) _ _ (by rfl) wc.heap.size (wc.heap.size + 1) (by rfl) (ownK_empty1 wc.drew _) (some ⟨gl, 0, none⟩) m cl L7 HZ7.out.1 (by rfl) (HRd7.out _ (bal (bal hw7 _) _)) (by have := HZ7.out; omega) (by simp; omega) ?_; intro v3 w3 ho3 hb3'; have rO3 : RdK w3 (some ⟨wc.heap.size, 0, none⟩) 1 [(hc2, d2)] := ((rdK_new wc.drew hc2 d2).next (bal (Below.refl _ _) (.cells #[] 63))).next hb3'; have hb3 : Below wc.heap.size wc w3 := bnext (bal (bal hw7 (.cells #[.int .i64 (hc2 : Int), .string d2] 63)) (.cells #[] 63)) hb3')
                | (refine step_append_K _ (by rfl) _ _ (by rfl) wc.heap.size _ L7 (by rfl) (ownK_al ho3 _) (some ⟨w3.heap.size, 0, none⟩) 1 1 [(hc2, d2)] rfl (by rfl) (rdK_new w3 hc2 d2) (by have := HZ7.out; simp; omega) (by have := hb3.size; simp; omega) ?_; intro v4 w4 ho4 hb4'; have hb4 : Below wc.heap.size wc w4 := (bal hb3 _).trans hb4')
                | (refine step_append_K _ (by rfl) _ _ (by rfl) wc.heap.size _ L7 (by rfl) ho3 (some ⟨wc.heap.size + 1, 0, none⟩) 1 1 [(hc2, d2)] rfl (by rfl) rO3 (by have := HZ7.out; simp; omega) hb3.size ?_; intro v4 w4 ho4 hb4'; have hb4 : Below wc.heap.size wc w4 := hb3.trans hb4')
                | (refine step_append_K _ (by rfl) _ _ (by rfl) wc.heap.size _ L7 (by rfl) ho3 (some ⟨wc.heap.size, 0, none⟩) 1 1 [(hc2, d2)] rfl (by rfl) rO3 (by have := HZ7.out; simp; omega) hb3.size ?_; intro v4 w4 ho4 hb4'; have hb4 : Below wc.heap.size wc w4 := hb3.trans hb4'))
              all_goals
                have HM4 : Hid (OwnK w4 wc.heap.size v4 (L7 ++ [(hc2, d2)]) ∧ Below wc.heap.size wc w4) := ⟨ho4, hb4⟩
                clear ho4 hb4 hb4' ho3 hb3 hb3' v0 v1
                go_wp2
                go_meet
                case rel =>
                  go_light
                  exact HM4
            case rest =>
              obtain ⟨_, k1⟩ := HK7.out wc hcut.out.2
              have HW8 : Hid (Below w0.heap.size w0 wc ∧ Below wr.heap.size wr wc) := HB7.out wc hcut.out.2
              have HS8 : Hid (∀ W, (∀ k, k < wc.heap.size + 1 → u5.ownBlock ≠ some k → W.heap[k]? = (wc.alloc (.cells #[.string d2] 9)).heap[k]?) → OwnK W w0.heap.size u6 (((ol (fun h _ => h) 41 left).zip P' ++ [(hc, dc)]).take m ++ [(hc2, d2)])) := fun W hW => by
                have hz := HB7.out _ (Below.refl _ _)
                have hz1 := hz.1.size
                have hz2 := hz.2.size
                rw [hL7]
                refine ownK_mono (ownK_apart hcut.out.1 fun k hk hk2 => ?_) hz1
                rw [hW k (by omega) (fun e => by have := (World.ownsRow.lt HA.out.own k e).2; omega)]
                exact Below.heap_alloc _ _ _ hk
              have HD2 : Hid (d2.size ≤ 32) := by show _ ≤ _; rw [← HE6.out.1, dg_size (clk_le k)]; exact clk_le k
              clear hcut HK7 HRd7 HB7 HZ7 hw7 hL7
              go_wp2_with (at_builtin; refine wpList_append_SG _ rfl _ _ rfl w0.heap.size _ (A0 ++ [dc]) rfl (own_al (own_next HA.out.own HW8.out.2 (Nat.le_refl _)) _) ⟨wc.heap.size, 0, none⟩ wc.heap.size 0 1 [d2] rfl (rds_one wc d2 ?c0) ?c1 ?c2 ?_)
              case c0 => have := HD2.out; omega
              case c1 => have := HA.out.hA; have := HM.out.2.2.2.1; simp; omega
              case c2 => have := HW8.out.1.size; simp; omega
              intro v3 w3 h3 hb3 hap
              have HX3 : Hid (OwnS w3 w0.heap.size v3 ((A0 ++ [dc]) ++ [d2]) ∧ Below w0.heap.size w0 w3) := ⟨by simpa using h3, (bal HW8.out.1 _).trans hb3⟩
              have HS3 : Hid (OwnK w3 w0.heap.size u6 (((ol (fun h _ => h) 41 left).zip P' ++ [(hc, dc)]).take m ++ [(hc2, d2)])) := HS8.out w3 (fun k hk hne => hap k (by first | omega | (simp; omega)) hne)
              clear h3 hb3 hap HS8 HW8
              go_wp2
              go_roundg m
              case rel =>
                go_light
                obtain ⟨f', hP⟩ := HA.out.pop (d' := d2) (clk_le k) HM.out.1 ho (by rw [HM.out.2.1]; exact HE6.out.1) HX3.out.2 HX3.out.1 (by rw [HE6.out.2]; exact HS3.out)
                refine ⟨hc + 1, t / 2, f', left - 2 ^ hc, d2, A0 ++ [dc], P'.take m, ?_, hP⟩
                rw [List.length_take]; have := HM.out.1; omega
              case measure => go_light; have := HGk.out; have := HM.out.1; omega
      · go_upto_region 3 with (fail)
        go_cut [41] from 22 to 40 (fun y wx => y = .bool false ∧ Hid (Below wr.heap.size wr wx))
        case first =>
          by_cases hP0 : P'.length = 0
          · rw [hP0] at hvl
            subst hvl
            have z1 : ¬ ((2 : Int) ≤ 1) := by decide
            clear hlen h40 hP0
            go_quiet (fail)
            go_wp2
            go_meet
            case rel =>
              go_light
              exact ⟨rfl, below_drewN (Below.refl _ _) _⟩
          · obtain ⟨m, hm⟩ : ∃ m, P'.length = m + 1 := ⟨P'.length - 1, by omega⟩
            obtain ⟨ln, hln⟩ : ∃ ln, P'.length + 1 = ln := ⟨_, rfl⟩
            rw [hln] at hvl
            obtain ⟨gl, cl2, hvl2, _, hcl⟩ := ownK_form HA.out.lst (by omega)
            rw [hvl, hlen, hln] at hvl2
            obtain ⟨rfl, _, rfl⟩ := Value.slice.inj hvl2
            have oL := HA.out.lst
            rw [hvl] at oL
            obtain ⟨i1, hi1⟩ : ∃ i1, m + 1 = i1 := ⟨_, rfl⟩
            have hol : (ol (fun h _ => h) 41 left).length = m + 1 := by rw [← HA.out.hl]; exact hm
            have c1 := (ownK_cell oL (j := m + 1) (by rw [hlen, hm]; omega)).1
            have c0 := (ownK_cell oL (j := m) (by rw [hlen, hm]; omega)).1
            have g1 : (((ol (fun h _ => h) 41 left).zip P' ++ [(hc, dc)]).getD (m + 1) (0, ByteArray.empty)).1 = hc := by
              rw [List.getD_eq_getElem?_getD, List.getElem?_append_right (by rw [List.length_zip]; omega), List.length_zip, hol, hm, Nat.min_self, Nat.sub_self]; rfl
            obtain ⟨x, hx⟩ : ∃ x, (((ol (fun h _ => h) 41 left).zip P' ++ [(hc, dc)]).getD m (0, ByteArray.empty)).1 = x := ⟨_, rfl⟩
            have hxm : x ∈ ol (fun h _ => h) 41 left := by
              rw [← hx, List.getD_eq_getElem?_getD, List.getElem?_append_left (by rw [List.length_zip]; omega), List.getElem?_eq_getElem (by rw [List.length_zip]; omega), Option.getD_some, List.getElem_zip]
              exact List.getElem_mem _
            have hne : x ≠ hc := by
              rintro rfl
              have := ol_mem 41 left x hxm
              rw [HA.out.hleft, (pow_num x t).2] at this
              exact ho this
            rw [g1, hi1] at c1
            rw [hx] at c0
            have e1 : IntKind.i64.wrap ((ln : Int) - 1) = (i1 : Int) := by rw [IntKind.wrap_i64]; omega
            have e2 : IntKind.i64.wrap ((ln : Int) - 2) = (m : Int) := by rw [IntKind.wrap_i64]; omega
            have z1 : (2 : Int) ≤ (ln : Int) := by omega
            have z2 : (i1 : Int) < (ln : Int) := by omega
            have z3 : (m : Int) < (ln : Int) := by omega
            have z4 : (0 : Int) ≤ (m : Int) := Int.natCast_nonneg _
            have z5 : (0 : Int) ≤ (i1 : Int) := Int.natCast_nonneg _
            have z6 : ((hc : Int) == (x : Int)) = false := by simp; omega
            subst hvl
            clear hlen h40 hP0 hm hvl2 oL hi1 hol g1 hx hxm hne hcl hln
            go_quiet (fail)
            go_wp2
            go_meet
            case rel =>
              go_light
              exact ⟨rfl, below_drewN (Below.refl _ _) _⟩
        case rest =>
          obtain ⟨rfl, HBc⟩ := hcut
          have hWc := bnext HA.out.below HBc.out
          have hR := HR.out wc (HX.out wc hWc).2
          have y1 := hR.c1
          have y2 := hR.c2
          rw [HU.out] at y2
          have f1 := hR.fz 1
          have f2 := hR.fz 2
          have x0 := (HX.out wc hWc).1.1
          obtain ⟨k1, k2, k3, k4, k5, k6, k7, k8, k9, k10⟩ := HN.out
          obtain ⟨qp, hqp⟩ : ∃ qp, 2 ^ h = qp := ⟨_, rfl⟩
          have t5 : IntKind.u64.wrap (h : Int) = (h : Int) := u64_id _ (by omega) (by omega)
          have t4 : (0 : Int) ≤ (h : Int) := by omega
          have t3 : (h : Int) < 64 := by omega
          have t6 : IntKind.u64.wrap ((2 : Int) ^ h) = (qp : Int) := by
            have e : ((2 : Int) ^ h) = (qp : Int) := by rw [← hqp]; simp
            rw [e]; exact u64_id _ (by omega) (by omega)
          have t7 : IntKind.u64.wrap ((n : Int) + (qp : Int)) = (gr : Int) := by rw [u64_id _ (by omega) (by omega)]; omega
          have HRf := hide hR
          have HWc := hide hWc
          have xq : (wc.setCell ⟨q, 2, none⟩ (.slice al (P'.length + 1) cl)).cell? ⟨w.heap.size, 0, none⟩ = some (.int .i64 (h : Int)) := (World.cell?_setCell_other _ _ _ _ (by simp)).trans x0
          have yq : (wc.setCell ⟨q, 2, none⟩ (.slice al (P'.length + 1) cl)).cell? ⟨q, 1, none⟩ = some (.int .u64 (n : Int)) := (World.cell?_setCell_other _ _ _ _ (by simp)).trans y1
          have fq : (wc.setCell ⟨q, 2, none⟩ (.slice al (P'.length + 1) cl)).frozen? ⟨q, 1, none⟩ = false := (World.frozen?_setCell _ _ _ _).trans f1
          subst hvl
          clear hR hWc k1 k2 k3 k4 k5 k6 k7 k8 k9 k10 hqp
          go_upto_region 10 with (fail)
          obtain ⟨w9, hw9⟩ : ∃ w9, wc.setCell ⟨q, 2, none⟩ (.slice al (P'.length + 1) cl) = w9 := ⟨_, rfl⟩
          rw [hw9] at xq yq fq
          try rw [hw9]
          clear x0 y1 y2 f1 f2
          go_region
          go_wp2
          go_ret
          obtain ⟨k1, k2, k3, k4, k5, k6, k7, k8, k9, k10⟩ := HN.out
          have hB := (HX.out wc HWc.out).2
          have o9 := own_next HA.out.own HBc.out (Nat.le_refl _)
          have l9 := ownK_next HA.out.lst HBc.out (Nat.le_refl _)
          have hQ : P' ++ [dc] = Q := by have := HA.out.hQ; rw [carry_even ho] at this; exact this
          have hMM : A0 ++ [dc] = M := by have := HA.out.hM; rw [carry_even ho] at this; exact this
          have hgr : hts gr = ol (fun h _ => h) 41 left ++ [hc] := by
            rw [hts, ← HA.out.hG, HA.out.hleft]
            exact ol_even _ (by have := HA.out.hf; omega) ho
          have hzip : (hts gr).zip Q = (ol (fun h _ => h) 41 left).zip P' ++ [(hc, dc)] := by
            rw [hgr, ← hQ, List.zip_append HA.out.hl.symm]; rfl
          refine ⟨_, .slice al (P'.length + 1) cl, rfl, ⟨⟨?_, ?_, k5, k6, k2, k3, k4⟩, ?_, ?_⟩⟩
          · subst hw9
            have e1 := heap_setCell_same wc q 2 _ 57 (.slice al (P'.length + 1) cl) HRf.out.blk
            exact heap_setCell_same _ q 1 _ 57 (.int .u64 (gr : Int)) e1
          · rw [hzip]
            subst hw9
            refine ownK_mono (B := w0.heap.size) (ownK_setp (ownK_setp l9 (by omega)) (by omega)) (Nat.zero_le _)
          · rw [← hMM]
            subst hw9
            exact own_mono (own_setp (own_setp o9 (by omega)) (by omega)) (by omega)
          · subst hw9
            exact (((Ch.of hB k9).set 2 _).drewN 1).set 1 _
end Go.Proofs.YtncndefggegicabDoor
