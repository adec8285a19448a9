/-
  What both Proves leave, side by side; the row of all proofs. Own work.
-/
import Derived.Test.YtgmnolepaidiiaaDoorTRefP
import Derived.Test.YtgmnolepaidiiaaDoorTApart
namespace Go.Proofs.YtgmnolepaidiiaaDoor
open Go.RowKit
open Cv (RdC cU)
attribute [local go_sem ↓] Go.wp_at_zero Go.wp_at_succ
/-- A proof's two lists can be read. -/
def PL (w : World) (S : List Nat) (D : List ByteArray) (sa da : Option Addr) : Prop := ∃ sb db, RdU w sa sb 0 S.length S ∧ RdS w da db 0 D.length D
theorem PL.next {w W : World} {S : List Nat} {D : List ByteArray} {sa da : Option Addr} (h : PL w S D sa da) (hb : Below w.heap.size w W) : PL W S D sa da := by
  obtain ⟨sb, db, h1, h2⟩ := h
  exact ⟨sb, db, h1.next hb, h2.next hb (Nat.le_refl _)⟩
theorem PL.put {w W : World} {S : List Nat} {D : List ByteArray} {sa da : Option Addr} (h : PL w S D sa da) {q : Nat} {z : Int} (hq : w.cell? ⟨q, 0, none⟩ = some (.int .i64 z)) (hc : ChT (fun b => b = q) w W) : PL W S D sa da := by
  obtain ⟨sb, db, h1, h2⟩ := h
  refine ⟨sb, db, ⟨h1.hl, h1.ptr, fun j v hv => ?_⟩, ⟨h2.hl, h2.ptr, fun j v hv => ?_, h2.sz⟩⟩
  · have hne : ¬ sb = q := by
      rintro rfl
      have h0 : 0 < S.length := by have := (List.getElem?_eq_some_iff.1 hv).1; rw [List.length_map] at this; omega
      have := h1.at h0
      rw [Nat.zero_add, hq] at this
      cases this
    exact (World.cell?_of_block (hc.block _ hne)).trans (h1.rng j v hv)
  · have hne : ¬ db = q := by
      rintro rfl
      have h0 : 0 < D.length := by have := (List.getElem?_eq_some_iff.1 hv).1; rw [List.length_map] at this; omega
      have := h2.at h0
      rw [Nat.zero_add, hq] at this
      cases this
    exact (World.cell?_of_block (hc.block _ hne)).trans (h2.rng j v hv)
/-- .. are one's own. -/
def PO (w : World) (B : Nat) (S : List Nat) (D : List ByteArray) (vs vd : Value) : Prop := Cv.Own w B vs S ∧ OwnS w B vd D
theorem PO.next {w W : World} {B : Nat} {S : List Nat} {D : List ByteArray} {vs vd : Value} (h : PO w B S D vs vd) (hb : Below w.heap.size w W) : PO W B S D vs vd :=
  ⟨keep_row h.1 fun g hg _ => hb.block g (World.ownsRow.lt h.1 g hg).2, own_next h.2 hb (Nat.le_refl _)⟩
theorem PO.put {w W : World} {B q : Nat} {S : List Nat} {D : List ByteArray} {vs vd : Value} (h : PO w B S D vs vd) (hc : ChT (fun b => b = q) w W) (hq : q < B) : PO W B S D vs vd :=
  ⟨keep_row h.1 fun g _ h1 => hc.block g (by show ¬ g = q; omega), keep_row h.2 fun g _ h1 => hc.block g (by show ¬ g = q; omega)⟩
theorem PO.mono {w : World} {B B' : Nat} {S : List Nat} {D : List ByteArray} {vs vd : Value} (h : PO w B S D vs vd) (hB : B' ≤ B) : PO w B' S D vs vd := ⟨World.ownsRow.mono h.1 hB, World.ownsRow.mono h.2 hB⟩
theorem PO.pl {w : World} {B sc dc : Nat} {S : List Nat} {D : List ByteArray} {sa da : Option Addr} (h : PO w B S D (.slice sa S.length sc) (.slice da D.length dc)) (hD : ∀ s ∈ D, s.size ≤ 9223372036854775807) : PL w S D sa da := by
  obtain ⟨h1, h2⟩ := h
  obtain ⟨ao, db, cp, hv, hr, _⟩ := owns_rds h2 hD
  obtain ⟨rfl, _, _⟩ := Value.slice.inj hv
  rcases row_form h1 with ⟨h0, hv1⟩ | ⟨g, cap, hv1, _, _⟩
  · obtain ⟨rfl, _, _⟩ := Value.slice.inj hv1
    have : S = [] := List.length_eq_zero_iff.1 h0
    subst this
    exact ⟨0, db, ⟨rfl, fun h => absurd h (Nat.lt_irrefl 0), fun j v hv => by cases hv⟩, hr⟩
  · obtain ⟨rfl, _, _⟩ := Value.slice.inj hv1
    refine ⟨g, db, ⟨rfl, fun _ => rfl, fun j v hv => ?_⟩, hr⟩
    rw [Nat.zero_add]
    exact (row_at h1 rfl hv).1
theorem own_nilU (w : World) (B : Nat) : Cv.Own w B (.slice none 0 0) [] := ⟨rfl, .inl ⟨rfl, rfl⟩⟩
theorem own_len {w : World} {B e n m c : Nat} {ao : Option Addr} {xs : List Value} (h : w.ownsRow B e 1 (.slice ao m c) n xs) : m = n := by
  rcases row_form h with ⟨h0, hv1⟩ | ⟨g, cap, hv1, _, _⟩
  · obtain ⟨_, h2, _⟩ := Value.slice.inj hv1; omega
  · obtain ⟨_, h2, _⟩ := Value.slice.inj hv1; exact h2
/-- Both Proves answer alike. -/
theorem both (K : Int) (hK : 1 ≤ K ∧ K ≤ 32) (T : List ByteArray) (hTl : T.length ≤ 80) (hTs : ∀ s ∈ T, s.size ≤ 2000) (m N I : Nat) :
    ∃ (kd kk : Int) (nn : Nat) (e0 : Int) (S : List Nat) (D : List ByteArray), S.length ≤ 1 ∧ D.length ≤ 14 ∧ (∀ s ∈ D, s.size ≤ 9223372036854775807) ∧
      (∀ W, Frs W m K T → Calls Tryd.prog 16 #[.pointer (some ⟨m + 1, 0, none⟩), .int .u64 (N : Int), .int .u64 (I : Int)] W fun e w' => ∃ sa sc da dc, e = .returned (.tuple #[.agg #[.int .i64 kd, .int .i64 kk, .int .u64 0, .int .u64 (nn : Int), .slice sa S.length sc, .slice da D.length dc], .int .i64 e0]) ∧ PO w' W.heap.size S D (.slice sa S.length sc) (.slice da D.length dc) ∧ Below W.heap.size W w') ∧
      (∀ W al bl cl, Tr W → RdS W al bl 0 T.length T → Calls Tryd.prog 20 #[.int .i64 K, .slice al T.length cl, .int .u64 (N : Int), .int .u64 (I : Int)] W fun e w' => ∃ sa sc da dc, e = .returned (.tuple #[.agg #[.int .i64 kd, .int .i64 kk, .int .u64 0, .int .u64 (nn : Int), .slice sa S.length sc, .slice da D.length dc], .int .i64 e0]) ∧ PL w' S D sa da ∧ Below W.heap.size W w') := by
  have hnil : ∀ w : World, PL w [] [] none none := fun w => ⟨0, 0, ⟨rfl, fun h => absurd h (Nat.lt_irrefl 0), fun j v hv => by cases hv⟩, ⟨rfl, fun h => absurd h (Nat.lt_irrefl 0), (fun j v h => by cases h), fun s hs => by cases hs⟩⟩
  by_cases h1 : T.length < N
  · refine ⟨0, 0, 0, 30, [], [], by decide, by decide, (fun s hs => by cases hs), fun W hF => ?_, fun W al bl cl hT hr => ?_⟩
    · exact (prove_size W m K T hF N I h1).mono fun e w' h => ⟨none, 0, none, 0, h.1, ⟨own_nilU _ _, owns_nil _ _⟩, h.2⟩
    · exact (refprove_no W K al T.length cl N I hTl 30 (.inl ⟨h1, rfl⟩)).mono fun e w' h => ⟨none, 0, none, 0, h.1, hnil _, h.2⟩
  by_cases h2 : N ≤ I
  · refine ⟨0, 0, 0, 31, [], [], by decide, by decide, (fun s hs => by cases hs), fun W hF => ?_, fun W al bl cl hT hr => ?_⟩
    · exact (prove_index W m K T hF N I (by omega) h2).mono fun e w' h => ⟨none, 0, none, 0, h.1, ⟨own_nilU _ _, owns_nil _ _⟩, h.2⟩
    · exact (refprove_no W K al T.length cl N I hTl 31 (.inr ⟨by omega, h2, rfl⟩)).mono fun e w' h => ⟨none, 0, none, 0, h.1, hnil _, h.2⟩
  · obtain ⟨A, H, B, hw⟩ := wy_ex N I (by omega) (by omega)
    have hsh := hw.short (by omega)
    obtain ⟨D, hD⟩ : ∃ D, dgP (clk K) T I H A B = D := ⟨_, rfl⟩
    have hDl : D.length = H + (A.length + B.length) := by rw [← hD, dgP_len]
    refine ⟨1, K, N, 0, [I], D, Nat.le_refl _, by omega, fun s hs => ?_, fun W hF => ?_, fun W al bl cl hT hr => ?_⟩
    · rw [← hD] at hs; have := dgP_size (clk_le K) T I H A B s hs; have := clk_le K; omega
    · refine (prove_ok W m K T hF N I H A B hw (by omega) (by omega) D hD).mono ?_
      rintro e w' ⟨vs, vd, rfl, o1, o2, hb⟩
      obtain ⟨sa, sm, sc, rfl⟩ := Cv.own_slice o1
      obtain ⟨da, dm, dc, rfl⟩ := Cv.own_slice o2
      obtain rfl : sm = [I].length := own_len o1
      obtain rfl : dm = D.length := own_len o2
      exact ⟨sa, sc, da, dc, rfl, ⟨o1, o2⟩, hb⟩
    · refine (refprove_ok W hT K hK.1 hK.2 al bl 0 T.length cl T hr hTs hTl N I H A B hw (by omega) (by omega) D hD).mono ?_
      rintro e w' ⟨sb, da, db, dc, rfl, r1, r2, hb⟩
      exact ⟨_, 1, da, dc, rfl, ⟨sb, db, r1, r2⟩, hb⟩
/-- The proofs so far: nr in their row v9, the lists of np. -/
def GA (w wx : World) (nr np : Nat) (v9 : Value) (sv dv : Nat → Value) : Prop :=
  ∃ (τ : Nat → Nat) (cs ds : Nat → List Value) (L : List Value), Ow wx τ w.heap.size 0 26 6 v9 nr L ∧ (∀ k, k < nr → L[k * 6 + 4]? = some (sv k) ∧ L[k * 6 + 5]? = some (dv k)) ∧ (∀ k, k < np → Ow wx τ w.heap.size (3 + 2 * k) 22 1 (sv k) (cs k).length (cs k) ∧ Ow wx τ w.heap.size (4 + 2 * k) 9 1 (dv k) (ds k).length (ds k) ∧ (cs k).length ≤ 60 ∧ (ds k).length ≤ 60) ∧ nr ≤ np ∧ Below w.heap.size w wx
section
variable {w wx w' : World} {nr np : Nat} {v9 : Value} {sv dv : Nat → Value}
theorem GA.start {w wx : World} (hb : Below w.heap.size w wx) (v : Nat → Value) : GA w wx 0 0 (.slice none 0 0) v v :=
  ⟨fun _ => 0, fun _ => [], fun _ => [], [], ⟨World.ownsRow_nil _ _ _ _, fun g hg => by cases hg⟩, fun k hk => absurd hk (Nat.not_lt_zero k), fun k hk => absurd hk (Nat.not_lt_zero k), Nat.le_refl _, hb⟩
theorem GA.next (h : GA w wx nr np v9 sv dv) (hb : Below wx.heap.size wx w') : GA w w' nr np v9 sv dv := by
  obtain ⟨τ, cs, ds, L, h1, h2, h3, h4, h5⟩ := h
  exact ⟨τ, cs, ds, L, h1.next hb, h2, fun k hk => ⟨(h3 k hk).1.next hb, (h3 k hk).2.1.next hb, (h3 k hk).2.2⟩, h4, bnext h5 hb⟩
theorem GA.below (h : GA w wx nr np v9 sv dv) : Below w.heap.size w wx := by
  obtain ⟨τ, cs, ds, L, h1, h2, h3, h4, h5⟩ := h
  exact h5
theorem GA.piece (h : GA w wx nr np v9 sv dv) (hb : Below wx.heap.size wx w') {S : List Nat} {D : List ByteArray} {vs vd : Value} (ho : PO w' wx.heap.size S D vs vd) (hS : S.length ≤ 60) (hD : D.length ≤ 60) : GA w w' nr (np + 1) v9 (upd sv np vs) (upd dv np vd) := by
  obtain ⟨τ, cs, ds, L, h1, h2, h3, h4, h5⟩ := h
  have hB := h5.size
  obtain ⟨τ', hτ'⟩ : ∃ τ' : Nat → Nat, τ' = fun b => if b < wx.heap.size then τ b else if vs.ownBlock = some b then 3 + 2 * np else 4 + 2 * np := ⟨_, rfl⟩
  have hτ : ∀ b, b < wx.heap.size → τ' b = τ b := fun b hb => by rw [hτ']; exact if_pos hb
  have hs : ∀ t, Stp τ t wx w' := fun t => stp_below hb
  refine ⟨τ', upd cs np (cU S), upd ds np (D.map Value.string), L, h1.keep (hs 1) (by omega) hτ, fun k hk => ?_, fun k hk => ?_, by omega, bnext h5 hb⟩
  · rw [upd_ne _ _ (by omega), upd_ne _ _ (by omega)]; exact h2 k hk
  · by_cases e : k = np
    · subst e
      rw [upd_at, upd_at, upd_at, upd_at]
      have l1 : (cU S).length = S.length := by simp [cU]
      have l2 : (D.map Value.string).length = D.length := List.length_map _
      refine ⟨⟨?_, fun g hg => ?_⟩, ⟨?_, fun g hg => ?_⟩, by omega, by omega⟩
      · rw [l1]; exact World.ownsRow.mono ho.1 hB
      · have := (World.ownsRow.lt ho.1 g hg).1
        rw [hτ']; simp only; rw [if_neg (by omega), if_pos hg]
      · rw [l2]; exact World.ownsRow.mono ho.2 hB
      · have := (World.ownsRow.lt ho.2 g hg).1
        rw [hτ']; simp only
        rw [if_neg (by omega), if_neg]
        intro e
        rcases ho.1.2 with ⟨h, _⟩ | ⟨g1, c1, u1, h, _, hh, _⟩
        · rw [h] at e; cases e
        rcases ho.2.2 with ⟨h', _⟩ | ⟨g2, c2, u2, h', _, hh', _⟩
        · rw [h'] at hg; cases hg
        rw [h] at e
        rw [h'] at hg
        obtain rfl : g1 = g := by simpa [Value.ownBlock] using e
        obtain rfl : g2 = g1 := by simpa [Value.ownBlock] using hg
        rw [hh] at hh'
        injection hh' with k1
        injection k1 with _ k2 _
        exact absurd k2 (by decide)
    · rw [upd_ne _ _ e, upd_ne _ _ e, upd_ne _ _ e, upd_ne _ _ e]
      obtain ⟨k1, k2, k3⟩ := h3 k (by omega)
      exact ⟨k1.keep (hs 1) (by omega) hτ, k2.keep (hs 1) (by omega) hτ, k3⟩
theorem GA.row (h : GA w wx nr (nr + 2) v9 sv dv) : ∃ L, wx.ownsRow w.heap.size 26 6 v9 nr L ∧ ∀ w' v' a b c d a' b' c' d', Ap2 wx w' w.heap.size 26 6 v9 v' (nr + 2) (L ++ [a, b, c, d, sv nr, dv nr, a', b', c', d', sv (nr + 1), dv (nr + 1)]) → GA w w' (nr + 2) (nr + 2) v' sv dv := by
  obtain ⟨τ, cs, ds, L, h1, h2, h3, h4, h5⟩ := h
  refine ⟨L, h1.own, fun w' v' a b c d a' b' c' d' ha => ?_⟩
  have hs := ha.stp h1.tag
  have hl : L.length = nr * 6 := h1.own.1
  refine ⟨ex τ wx.heap.size 0, cs, ds, _, h1.app ha, fun k hk => ?_, fun k hk => ?_, Nat.le_refl _, ha.below h5 h1.own h5.size⟩
  · rcases Nat.lt_or_ge k nr with h | h
    · rw [List.getElem?_append_left (by omega), List.getElem?_append_left (by omega)]; exact h2 k h
    · rw [List.getElem?_append_right (by omega), List.getElem?_append_right (by omega), hl]
      rcases (show k = nr ∨ k = nr + 1 by omega) with e | e
      · subst e
        rw [show k * 6 + 4 - k * 6 = 4 by omega, show k * 6 + 5 - k * 6 = 5 by omega]; exact ⟨rfl, rfl⟩
      · subst e
        rw [show (nr + 1) * 6 + 4 - nr * 6 = 10 by omega, show (nr + 1) * 6 + 5 - nr * 6 = 11 by omega]; exact ⟨rfl, rfl⟩
  · obtain ⟨k1, k2, k3⟩ := h3 k hk
    exact ⟨k1.keep hs (by omega) fun b hb => ex_lt hb, k2.keep hs (by omega) fun b hb => ex_lt hb, k3⟩
theorem GA.apart (h : GA w wx nr nr v9 sv dv) (hn : nr ≤ 24) : ∃ ao c, v9 = .slice ao nr c ∧ Calls Tryd.prog 21 #[.slice ao nr c] wx fun e w' => e = .returned (.bool true) ∧ Below w.heap.size wx w' := by
  obtain ⟨τ, cs, ds, L, h1, h2, h3, h4, h5⟩ := h
  rcases row_form h1.own with ⟨rfl, hv⟩ | ⟨g, cap, hv, hg, hl⟩
  · exact ⟨none, 0, hv, apart_any wx w.heap.size h5.size 0 0 0 (by omega) none (fun h => absurd h (Nat.lt_irrefl 0)) τ sv dv cs ds ⟨fun i hi => absurd hi (Nat.not_lt_zero i), fun i hi => absurd hi (Nat.not_lt_zero i), fun i hi => absurd hi (Nat.not_lt_zero i), fun h => absurd h (Nat.lt_irrefl 0)⟩ fun i hi => absurd hi (Nat.not_lt_zero i)⟩
  · refine ⟨_, cap, hv, apart_any wx w.heap.size h5.size nr g cap hn _ (fun _ => rfl) τ sv dv cs ds ⟨fun i hi => (h3 i hi).1, fun i hi => (h3 i hi).2.1, fun i hi => ?_, fun _ => ⟨h1.tag g (by rw [hv]; rfl), hl⟩⟩ fun i hi => (h3 i hi).2.2⟩
    exact ⟨(row_at h1.own (by rw [hv]; rfl) (h2 i hi).1).1, (row_at h1.own (by rw [hv]; rfl) (h2 i hi).2).1⟩
end
theorem Tryd.infoP : (Tryd.prog.info? 26).map (fun i => (i.zero, i.size, i.bytes)) = some (some noP, 6, 80) := by kernel_rfl
theorem wpList_app_P (w : World) {ops : Array Oper} {rest : List Oper} {o : Oper} {a : Act} {Q : Exit → Act → World → Prop} (hg : o.guard = none) (s x : Operand) (hop : o.op = Op.call { callee := Callee.builtin Builtin.append, args := #[s, x], argTypes := #[48, 48] }) (B : Nat) (v : Value) (n : Nat) (xs : List Value) (hs : a.eval s = v) (hown : w.ownsRow B 26 6 v n xs) (u : Value) (ys : List Value) (hx : a.eval x = u) (hr : RdC w u 2 ys) (hy : ys.length = 12) (h1c : ∀ u ∈ ys, u.oneCell' = true) (hlen : n + 2 ≤ 1048576) (hB : B ≤ w.heap.size) (hK : ∀ v' w', Ap2 w w' B 26 6 v v' (n + 2) (xs ++ ys) → wpList Tryd.prog ops Q rest (a.put o.dst v') w') : wpList Tryd.prog ops Q (o :: rest) a w := by
  obtain ⟨i0, hi, hz0, hz1, hz2⟩ := info_parts Tryd.infoP
  exact wpList_append_tag w hg s x _ hop B 26 i0 noP 6 80 Tryd.underlying48 hi hz0 hz1 hz2 rfl (by decide) v n xs hs hown u 2 ys hx hr hy h1c (by unfold maxLen; omega) (by omega) hB hK
theorem rdc_twelve (w : World) (cs : Array Value) (t : Nat) (m : Nat) : RdC (w.alloc (.cells cs t)) (.slice (some ⟨w.heap.size, 0, none⟩) m m) m cs.toList := by
  refine ⟨some ⟨w.heap.size, 0, none⟩, m, rfl, (fun h => by cases h), fun ad ha j c hj => ?_⟩
  cases ha
  rw [Addr.add_mid, Nat.zero_add, World.cell?_alloc_at cs t w.heap.size j rfl]
  simpa using hj
end Go.Proofs.YtgmnolepaidiiaaDoor
