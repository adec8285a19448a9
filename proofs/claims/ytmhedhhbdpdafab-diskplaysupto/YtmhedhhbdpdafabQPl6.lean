/-
  plays: Lay. Own work.
-/
import Derived.Test.YtmhedhhbdpdafabGNw
import Derived.Test.YtmhedhhbdpdafabGKd
namespace Go.Proofs.Ytmhedhhbdpdafab
open Go.RowKit
/-- Both, and a block b that is none of theirs. -/
def PqK (w0 w : World) (F : Nat → Prop) (pa p r : Nat) (D : DV) (V : RV) (b : Nat) : Prop := ∃ S T, w.heap[pa]? = some (.cells #[.pointer (some ⟨p, 0, none⟩), .pointer (some ⟨r, 0, none⟩)] 32) ∧ Dsk w p S D ∧ Rsk w r T V ∧ (∀ x, S x → ¬ T x) ∧ ¬ S pa ∧ ¬ T pa ∧ (∀ x, S x → F x ∨ w0.heap.size ≤ x) ∧ (∀ x, T x → F x ∨ w0.heap.size ≤ x) ∧ (F pa ∨ w0.heap.size ≤ pa) ∧ Upo F w0 w ∧ ¬ S b ∧ ¬ T b ∧ pa ≠ b ∧ w0.heap.size ≤ b
section
variable {F : Nat → Prop} {pa p r k b : Nat} {D : DV} {V : RV}
theorem PqK.pq {w0 w : World} (h : PqK w0 w F pa p r D V b) : Pq w0 w F pa p r D V := by
  obtain ⟨S, T, h1, h2, h3, h4, h5, h6, h7, h8, h9, hA, _⟩ := h
  exact ⟨S, T, h1, h2, h3, h4, h5, h6, h7, h8, h9, hA⟩
theorem PqK.set {w0 w : World} (h : PqK w0 w F pa p r D V b) (j : Nat) (v : Value) : PqK w0 (w.setCell ⟨b, j, none⟩ v) F pa p r D V b := by
  obtain ⟨S, T, h1, h2, h3, h4, h5, h6, h7, h8, h9, hA, hB, hC, hD, hE⟩ := h
  have hup : Upo (fun x => x = b) w (w.setCell ⟨b, j, none⟩ v) := (Upo.refl (fun x => x = b) w).set _ _ _ (.inl rfl)
  exact ⟨S, T, by rw [Below.heap_setCell _ _ _ _ hD]; exact h1, h2.keep hup (fun x hx e => hB (e ▸ hx)), h3.keep hup (fun x hx e => hC (e ▸ hx)), h4, h5, h6, h7, h8, h9, hA.trans hup (fun x hx e => absurd hE (by subst e; exact Nat.not_le.2 hx)), hB, hC, hD, hE⟩
/-- As of a later world. -/
theorem Pq.lend {w1 w2 w4 : World} (h : Pq w1 w2 F pa p r D V) (u : Below w2.heap.size w2 w4) : Pq w4 w4 (fun x => F x ∨ (w1.heap.size ≤ x ∧ x < w2.heap.size)) pa p r D V := by
  have hl := h.lt
  obtain ⟨S, T, h1, h2, h3, h4, h5, h6, h7, h8, h9, hA⟩ := h
  exact ⟨S, T, (u.block pa hl).trans h1, h2.next u, h3.next u, h4, h5, h6, fun x hx => .inl ((h7 x hx).imp id (fun q => ⟨q, h2.lt hx⟩)), fun x hx => .inl ((h8 x hx).imp id (fun q => ⟨q, h3.lt hx⟩)), .inl (h9.imp id (fun q => ⟨q, hl⟩)), Upo.refl _ _⟩
theorem Pq.held {w w4 W : World} {F' : Nat → Prop} (h : Pq w4 W F' pa p r D V) (A : Upo F w w4) (hF : ∀ x, F' x → F x ∨ w.heap.size ≤ x) (h1 : w.heap.size ≤ b) (h2 : b < w4.heap.size) (h3 : ¬ F' b) : PqK w W F pa p r D V b := by
  obtain ⟨S, T, q1, q2, q3, q4, q5, q6, q7, q8, q9, qA⟩ := h
  have hz := A.size
  refine ⟨S, T, q1, q2, q3, q4, q5, q6, fun x hx => (q7 x hx).elim (hF x) (fun q => .inr (Nat.le_trans hz q)), fun x hx => (q8 x hx).elim (hF x) (fun q => .inr (Nat.le_trans hz q)), q9.elim (hF pa) (fun q => .inr (Nat.le_trans hz q)), A.trans qA (fun x hx q => (hF x q).elim id (fun q => absurd hx (Nat.not_lt.2 q))), fun q => (q7 b q).elim h3 (fun q => by omega), fun q => (q8 b q).elim h3 (fun q => by omega), fun e => ?_, h1⟩
  subst e
  exact q9.elim h3 (fun q => by omega)
attribute [local go_sem ↓] exec_appR
set_option maxRecDepth 100000 in
set_option maxHeartbeats 8000000 in
theorem plays_lay (w : World) (h : Pq w w F pa p r D V) (hF : ∀ x, F x → x < w.heap.size) (hb : Bd D V k) (hk1 : k + 1 ≤ 2097152) (which x n : Int) (nm dt : ByteArray) (ka : Option Addr) (kb ko kc : Nat) (ks : List Bool) (ho2 : x ≤ 9223372036854775807) (hk : RdL w ka kb ko ks) (hkl : ks.length ≤ 140737488355328) (hkn0 : ka = none → kc = 0) (hkb : 0 < ks.length → ¬ F kb ∧ kb < w.heap.size) :
    Calls Try.prog 8 #[.pointer (some ⟨pa, 0, none⟩), .agg #[.int .i64 6, .int .i64 which, .string nm, .string dt, .int .i64 x, .int .i64 n, .slice ka ks.length kc]] w fun e w' => e = .returned (.bool true) ∧ PL w w' F pa k := by
  obtain ⟨kn, hkn⟩ : ∃ n, ks.length = n := ⟨_, rfl⟩
  obtain ⟨w1, hw1⟩ : ∃ W, w.alloc (.cells #[.int .i64 6, .int .i64 which, .string nm, .string dt, .int .i64 x, .int .i64 n, .slice ka kn kc] 38) = W := ⟨_, rfl⟩
  have HW := hide hw1
  obtain ⟨bo, hbo⟩ : ∃ b, w.heap.size = b := ⟨_, rfl⟩
  have HBo := hide hbo
  have u1 : Below w.heap.size w w1 := by rw [← hw1]; exact bal (Below.refl _ _) _
  have hs1 : w1.heap.size = bo + 1 := by rw [← hw1, ← hbo]; simp
  have k1 : w1.heap[bo]? = some (.cells #[.int .i64 6, .int .i64 which, .string nm, .string dt, .int .i64 x, .int .i64 n, .slice ka kn kc] 38 (0, 0)) := by rw [← hw1, ← hbo]; exact new1 _ _
  have t1 := h.start u1
  obtain ⟨V', hV'⟩ : ∃ a, rlay V x n ks = a := ⟨_, rfl⟩
  obtain ⟨D', hD'⟩ : ∃ a, layD D x n ks = a := ⟨_, rfl⟩
  have HCc : Hid (∀ W : World, W.heap[bo]? = some (.cells #[.int .i64 6, .int .i64 which, .string nm, .string dt, .int .i64 x, .int .i64 n, .slice ka kn kc] 38 (0, 0)) → W.cell? ⟨bo, 4, none⟩ = some (.int .i64 x) ∧ W.cell? ⟨bo, 5, none⟩ = some (.int .i64 n) ∧ W.cell? ⟨bo, 6, none⟩ = some (.slice ka kn kc)) := fun W kk => by
    refine ⟨?_, ?_, ?_⟩
    · rw [cell_of_row W _ 4 _ _ (0, 0) kk]; rfl
    · rw [cell_of_row W _ 5 _ _ (0, 0) kk]; rfl
    · rw [cell_of_row W _ 6 _ _ (0, 0) kk]; rfl
  have HB1 : ∀ W D V, Pq w1 W F pa p r D V → W.heap[bo]? = some (.cells #[.int .i64 6, .int .i64 which, .string nm, .string dt, .int .i64 x, .int .i64 n, .slice ka kn kc] 38 (0, 0)) := fun W D V hW => (hW.upo.block bo (by omega) (fun q => by have := hF bo q; omega)).trans k1
  have HC : Hid (∀ W D V, Pq w1 W F pa p r D V → W.cell? ⟨pa, 1, none⟩ = some (.pointer (some ⟨r, 0, none⟩)) ∧ W.cell? ⟨bo, 4, none⟩ = some (.int .i64 x) ∧ W.cell? ⟨bo, 5, none⟩ = some (.int .i64 n) ∧ W.cell? ⟨bo, 6, none⟩ = some (.slice ka kn kc)) := fun W D V hW => ⟨hW.cells.2, HCc.out W (HB1 W D V hW)⟩
  have d0 : w1.cell? ⟨bo, 0, none⟩ = some (.int .i64 6) := by rw [cell_of_row w1 _ 0 _ _ (0, 0) k1]; rfl
  have HR : Hid (Calls Try.prog 25 #[.pointer (some ⟨r, 0, none⟩), .agg #[.int .i64 x, .int .i64 n, .slice ka kn kc]] w1.drew fun e w' => e = .returned (.tuple #[]) ∧ Pq w1 w' F pa p r D V' ∧ (∀ b, b < w1.heap.size → ¬ F b → w'.heap[b]? = w1.heap[b]?)) := by
    have := (t1.next (bdq _)).rlay x n ho2 ka kb ko kc ks ((hk.next u1).next (bdq _)) hkl hkn0 (fun h0 T _ hT q => by obtain ⟨z1, z2⟩ := hkb h0; rcases hT _ q with z | z; exact z1 z; omega)
    rw [hkn, hV'] at this
    exact this.mono fun e w' q => ⟨q.1, q.2, fun b h1 h2 => q.2.upo.block b h1 h2⟩
  /- behind the append -/
  have HA : Hid (∀ w2, Pq w1 w2 F pa p r D V' → ∃ ao c4 b w4, (Builtin.append_ #[36, 36] 36 #[.slice (some ⟨w2.heap.size, 0, none⟩) 0 0, .slice ka kn kc]).run Try.prog (w2.alloc (.cells #[] 4)) = .ok (.slice ao kn c4) w4 ∧ (0 < kn → ao = some ⟨b, 0, none⟩) ∧
      (w4.drew.cell? ⟨pa, 0, none⟩ = some (.pointer (some ⟨p, 0, none⟩)) ∧ w4.drew.cell? ⟨bo, 4, none⟩ = some (.int .i64 x) ∧ w4.drew.cell? ⟨bo, 5, none⟩ = some (.int .i64 n)) ∧
      Calls Try.prog 26 #[.pointer (some ⟨p, 0, none⟩), .agg #[.int .i64 x, .int .i64 n, .slice ao kn c4]] w4.drew fun e w' => e = .returned (.tuple #[]) ∧ PqK w w' F pa p r D' V' b ∧ OwnL w' w2.heap.size (.slice ao kn c4) ks ∧ w'.cell? ⟨pa, 0, none⟩ = some (.pointer (some ⟨p, 0, none⟩)) ∧ w'.cell? ⟨bo, 4, none⟩ = some (.int .i64 x) ∧ w'.cell? ⟨bo, 5, none⟩ = some (.int .i64 n)) := fun w2 hp => by
    have hz2 := hp.upo.size
    have hb3 : Below w2.heap.size w2 (w2.alloc (.cells #[] 4)) := bal (Below.refl _ _) _
    have hkk : RdL w2 ka kb ko ks := by
      refine ⟨hk.ptr, fun j hj => ?_⟩
      obtain ⟨z1, z2⟩ := hkb (by omega)
      have e1 := hp.upo.block kb (by omega) z1
      have e2 := (hk.next u1).cell j hj
      rw [← e2]
      simp [World.cell?, e1]
    obtain ⟨v4, w4, hrn, o4, g4⟩ := run_all_L (w2.alloc (.cells #[] 4)) 36 w2.heap.size _ [] (ownL_made w2) ka kb ko kc ks (hkk.next hb3) hkn0 (by simp; omega) hb3.size
    rw [List.nil_append] at o4
    have hb4 : Below w2.heap.size w2 w4 := hb3.grown g4 hb3.size (fun k hk => by cases hk; exact Nat.le_refl _)
    obtain ⟨a4, b4, c4, rfl, r4, z4⟩ := ownL_rd o4
    rw [hkn] at hrn o4
    have hz4 : w2.heap.size < w4.heap.size := by have h0 := g4.size; have h1 := new1 w2 (.cells #[] 4); have h2 := (Array.getElem?_eq_some_iff.1 h1).1; omega
    obtain ⟨b, hb1, hb2, hb3'⟩ : ∃ b, (0 < kn → a4 = some ⟨b, 0, none⟩) ∧ w2.heap.size ≤ b ∧ b < w4.heap.size := by
      rcases Nat.eq_zero_or_pos kn with q | q
      · exact ⟨w2.heap.size, fun h0 => by omega, Nat.le_refl _, hz4⟩
      · have e1 := r4.ptr (by omega)
        exact ⟨b4, fun _ => e1, (z4 (by omega)).2, (ownL_lt o4 b4 (by rw [e1]; rfl)).2⟩
    have l4 := hp.lend hb4
    have kk4 := (hb4.block bo (by omega)).trans (HB1 _ _ _ hp)
    have l5 := l4.next (bdq _)
    have kk5 : w4.drew.heap[bo]? = _ := kk4
    refine ⟨a4, c4, b, w4, hrn, hb1, ⟨l5.cells.1, (HCc.out _ kk5).1, (HCc.out _ kk5).2.1⟩, ?_⟩
    have hnF : ¬ (F b ∨ (w1.heap.size ≤ b ∧ b < w2.heap.size)) := fun q => q.elim (fun q => by have := hF b q; omega) (fun q => by omega)
    have := l5.dlay x n ho2 a4 b4 0 c4 ks (r4.next (bdq _)) hkl (fun h0 S _ hS q => by
      have e1 := r4.ptr h0
      have e2 := hb1 (by omega)
      rw [e1] at e2
      obtain rfl : b4 = b := by injection e2 with e2; injection e2
      exact (hS _ q).elim hnF (fun q => by omega))
    rw [hkn, hD'] at this
    refine this.mono fun e w' q => ⟨q.1, q.2.held ((hp.back u1).upo.next hb4) (fun y hy => hy.imp id (fun z => by have := u1.size; omega)) (by have := u1.size; omega) hb3' hnF, ?_, q.2.cells.1, ?_⟩
    rotate_left
    · have kk6 := (q.2.upo.block bo (by omega) (fun z => z.elim (fun q => by have := hF bo q; omega) (fun q => by omega))).trans kk4
      exact ⟨(HCc.out _ kk6).1, (HCc.out _ kk6).2.1⟩
    rw [← hkn] at o4 ⊢
    refine row_keep o4 fun g hg => q.2.upo.block g (ownL_lt o4 g hg).2 (fun z => ?_)
    have := (ownL_lt o4 g hg).1
    exact z.elim (fun q => by have := hF g q; omega) (fun q => by omega)
  have HZ : Hid (∀ W b, PqK w W F pa p r D' V' b → PL w W F pa k) := fun W b hW => PL.of hW.pq (by rw [← hD', ← hV']; exact hb.lay hk1 _ _ _)
  have hkl2 : kn ≤ 140737488355328 := by omega
  have HL := hide hkn
  rw [hkn]
  clear h hF hb hk1 ho2 hw1 hbo u1 k1 hV' hD' HB1 hk hkl hkn0 hkb hs1 HCc hkn
  go_enter Try.func8, Try.ntmps8
  go_upto_region 1 with (fail)
  rw [HW.out, HBo.out]
  go_upto_region 9 with (fail)
  have tw := t1.next (bdq _)
  go_region_held3 (fun Z => Z.cell? ⟨pa, 1, none⟩ = some (.pointer (some ⟨r, 0, none⟩)) ∧ Z.cell? ⟨bo, 4, none⟩ = some (.int .i64 x) ∧ Z.cell? ⟨bo, 5, none⟩ = some (.int .i64 n) ∧ Z.cell? ⟨bo, 6, none⟩ = some (.slice ka kn kc)) (first | assumption | (exact HC.out _ _ _ tw) | (exact HC.out _ _ _ t1)) (first
    | (go_at_call 25; (with_reducible refine HR.out.mono ?_); rintro e w2 ⟨rfl, tw, _⟩))
  all_goals
    obtain ⟨ao, c4, b, w4, hrn, hao, ⟨y0, y1, y2⟩, hop⟩ := HA.out w2 tw
    obtain ⟨z0, z4, z5, z6⟩ := HC.out _ _ _ tw
    have z6' : (w2.alloc (.cells #[] 4)).cell? ⟨bo, 6, none⟩ = some (.slice ka kn kc) := by simp [World.cell?_alloc_some, z6]
    have hap := appR_of hrn
    have HO := hide hop
    clear hop hrn HA HR HC
    go_upto_region 11 with (fail)
    have HY : Hid (w4.drew.cell? ⟨pa, 0, none⟩ = some (.pointer (some ⟨p, 0, none⟩)) ∧ w4.drew.cell? ⟨bo, 4, none⟩ = some (.int .i64 x) ∧ w4.drew.cell? ⟨bo, 5, none⟩ = some (.int .i64 n)) := ⟨y0, y1, y2⟩
    go_region_held3 (fun Z => Z.cell? ⟨pa, 0, none⟩ = some (.pointer (some ⟨p, 0, none⟩)) ∧ Z.cell? ⟨bo, 4, none⟩ = some (.int .i64 x) ∧ Z.cell? ⟨bo, 5, none⟩ = some (.int .i64 n)) (first | assumption | (exact HY.out) | (exact ⟨y0, y1, y2⟩)) (first
      | (go_at_call 26; (with_reducible refine HO.out.mono ?_); rintro e w5 ⟨rfl, hP, hOw, y0, y1, y2⟩))
    all_goals
      clear y0 y1 y2 HO HY hap z0 z4 z5 z6 z6' tw t1 d0
      clear HW HBo
      go_wp2
      go_loopg [6] kn (fun g y wr => ∃ (j : Nat) (ls : List Bool), j ≤ kn ∧ g = kn - j ∧ y = .int .i64 (j : Int) ∧ ls.length = kn ∧ OwnL wr w2.heap.size (.slice ao kn c4) ls ∧ PqK w wr F pa p r D' V' b)
      case atStart => exact ⟨0, ks, Nat.zero_le _, rfl, rfl, HL.out, hOw, hP⟩
      case round =>
        obtain ⟨j, ls, hj, rfl, rfl, hll, hO, hQ⟩ := hrel
        by_cases hlt : j < kn
        · obtain rfl := hao (by omega)
          obtain ⟨c1, c2⟩ := ownL_at hO (j := j) (by omega)
          have hO2 := ownL_set hO (j := j) (!(ls.getD j false))
          have hQ2 := hQ.set j (.bool (!(ls.getD j false)))
          have hi1 : (0 : Int) ≤ (j : Int) := by omega
          have hi2 : (j : Int) < (kn : Int) := by omega
          have hw : IntKind.i64.wrap ((j : Int) + 1) = (j : Int) + 1 := by rw [IntKind.wrap_i64]; omega
          have HQ := hide (show _ ∧ _ from ⟨hO2, hQ2⟩)
          obtain ⟨xx, hxx⟩ : ∃ x, ls.getD j false = x := ⟨_, rfl⟩
          rw [hxx] at c1 HQ
          clear hO2 hQ2 hxx
          go_wp2
          go_roundg (kn - (j + 1))
          case rel =>
            go_light
            exact ⟨j + 1, _, by omega, rfl, by go_num, by rw [List.length_set]; exact hll, HQ.out.1, HQ.out.2⟩
          case measure => go_light; omega
        · have hz : ¬ ((j : Int) < (kn : Int)) := by omega
          have HP := hide (HZ.out _ _ hQ)
          clear hQ hO
          go_wp2
          go_ret
          exact ⟨rfl, HP.out⟩
end
end Go.Proofs.Ytmhedhhbdpdafab
