/-
  QNew, QPlz in one text. Own work.
-/
import Derived.Test.YtmhedhhbdpdafabQPly
/-
  anew. Own work.
-/
namespace Go.Proofs.Ytmhedhhbdpdafab
open Go.RowKit
theorem byt_le : ∀ {l : List (List UInt8 × List UInt8)} (_ : ∀ x ∈ l, x.2.length ≤ 268435456), byt l ≤ 268435456 * l.length
  | [], _ => Nat.zero_le _
  | x :: l, h => by
    have h1 := h x (by simp)
    have h2 := byt_le (l := l) fun q hq => h q (by simp [hq])
    simp only [byt, List.length_cons] at h2 ⊢
    omega
section
variable {F : Nat → Prop} {pa p r k : Nat} {D : DV} {V : RV}
theorem Pq.list {w0 w : World} (h : Pq w0 w F pa p r D V) (hb : Bd D V k) (ks : List Bool) : (raf V ks).length ≤ k ∧ (∀ x ∈ raf V ks, x.1.length ≤ maxLen) ∧ byt (raf V ks) ≤ 562949953421312 := by
  obtain ⟨_, _, _, ⟨m, R, ka, kb, ko, kc, h1, _⟩, _⟩ := h
  have h2 := h1.aft_ok ks
  have h3 := aft_len ks D.L 0
  have h4 : D.L.length ≤ V.L.length := by rw [hb.sim.L]; exact List.length_filter_le _ _
  rw [hb.sim.aft] at h2 h3
  have h5 := byt_le fun x hx => (h2.1 x hx).2
  have := hb.len; have := hb.few
  exact ⟨by omega, fun x hx => (h2.1 x hx).1, by omega⟩
/-- The pair holds others. -/
theorem Pq.turn {w w1 : World} (h : Pq w w F pa p r D V) (u1 : Below w.heap.size w w1) {w2 : World} {qa p' r' n : Nat} {l : List (List UInt8 × List UInt8)} (u2 : Below w1.heap.size w1 w2) (hq : Pq w1 w2 (fun _ => False) qa p' r' (openD n l) (openR n l)) : Pq w ((w2.setCell ⟨pa, 0, none⟩ (.pointer (some ⟨p', 0, none⟩))).setCell ⟨pa, 1, none⟩ (.pointer (some ⟨r', 0, none⟩))) F pa p' r' (openD n l) (openR n l) := by
  have hl := h.lt
  have hu := bnext u1 u2
  obtain ⟨S, T, h1, h2, h3, h4, h5, h6, h7, h8, h9, hA⟩ := h
  obtain ⟨S', T', q1, q2, q3, q4, q5, q6, q7, q8, q9, qA⟩ := hq
  have hFp : F pa := h9.elim id (fun q => absurd hl (Nat.not_lt.2 q))
  have hs7 : ∀ x, S' x → w1.heap.size ≤ x := fun x hx => (q7 x hx).elim False.elim id
  have hs8 : ∀ x, T' x → w1.heap.size ≤ x := fun x hx => (q8 x hx).elim False.elim id
  have hz := u1.size
  have hp2 := (hu.block pa hl).trans h1
  have hup : Upo (fun x => x = pa) w2 ((w2.setCell ⟨pa, 0, none⟩ (.pointer (some ⟨p', 0, none⟩))).setCell ⟨pa, 1, none⟩ (.pointer (some ⟨r', 0, none⟩))) := ((Upo.refl (fun x => x = pa) w2).set _ _ _ (.inl rfl)).set _ _ _ (.inl rfl)
  refine ⟨S', T', ?_, q2.keep hup (fun x hx e => by have := hs7 x hx; omega), q3.keep hup (fun x hx e => by have := hs8 x hx; omega), q4, fun q => by have := hs7 _ q; omega, fun q => by have := hs8 _ q; omega, fun x hx => .inr (Nat.le_trans hz (hs7 x hx)), fun x hx => .inr (Nat.le_trans hz (hs8 x hx)), h9, (Upo.of hu).trans hup (fun b _ e => e ▸ hFp)⟩
  exact heap_setCell_same _ pa 1 _ _ _ (heap_setCell_same w2 pa 0 _ _ (.pointer (some ⟨p', 0, none⟩)) hp2)
set_option maxRecDepth 100000 in
set_option maxHeartbeats 8000000 in
theorem anew_any (w : World) (h : Pq w w F pa p r D V) (hb : Bd D V k) (hk1 : k + 1 ≤ 2097152) (kind which x n : Int) (nm dt : ByteArray) (ka : Option Addr) (kb ko kc : Nat) (ks : List Bool) (hn1 : -9223372036854775808 ≤ n) (hn2 : n ≤ 9223372036854775807) (hk : RdL w ka kb ko ks) (hkl : ks.length ≤ 140737488355328) :
    Calls Try.prog 27 #[.pointer (some ⟨pa, 0, none⟩), .agg #[.int .i64 kind, .int .i64 which, .string nm, .string dt, .int .i64 x, .int .i64 n, .slice ka ks.length kc]] w fun e w' => e = .returned (.bool true) ∧ PL w w' F pa k := by
  obtain ⟨kn, hkn⟩ : ∃ n, ks.length = n := ⟨_, rfl⟩
  obtain ⟨w1, hw1⟩ : ∃ W, w.alloc (.cells #[.int .i64 kind, .int .i64 which, .string nm, .string dt, .int .i64 x, .int .i64 n, .slice ka kn kc] 38) = W := ⟨_, rfl⟩
  have HW := hide hw1
  obtain ⟨bo, hbo⟩ : ∃ b, w.heap.size = b := ⟨_, rfl⟩
  have HBo := hide hbo
  have u1 : Below w.heap.size w w1 := by rw [← hw1]; exact bal (Below.refl _ _) _
  have k1 : w1.heap[bo]? = some (.cells #[.int .i64 kind, .int .i64 which, .string nm, .string dt, .int .i64 x, .int .i64 n, .slice ka kn kc] 38 (0, 0)) := by rw [← hw1, ← hbo]; exact new1 _ _
  obtain ⟨hl1, hl2, hl3⟩ := h.list hb ks
  obtain ⟨l, hl⟩ : ∃ l, raf V ks = l := ⟨_, rfl⟩
  rw [hl] at hl1 hl2 hl3
  obtain ⟨ll, hll⟩ : ∃ n, l.length = n := ⟨_, rfl⟩
  have hfew := hb.few
  have HC : Hid (∀ W, Below w1.heap.size w1 W → W.cell? ⟨pa, 0, none⟩ = some (.pointer (some ⟨p, 0, none⟩)) ∧ W.cell? ⟨pa, 1, none⟩ = some (.pointer (some ⟨r, 0, none⟩)) ∧ W.cell? ⟨bo, 5, none⟩ = some (.int .i64 n) ∧ W.cell? ⟨bo, 6, none⟩ = some (.slice ka kn kc)) := fun W hW => by
    have kk := (hW.block bo (Array.getElem?_eq_some_iff.1 k1).1).trans k1
    obtain ⟨q0, q1⟩ := (h.next (bnext u1 hW)).cells
    refine ⟨q0, q1, ?_, ?_⟩
    · rw [cell_of_row W _ 5 _ _ (0, 0) kk]; rfl
    · rw [cell_of_row W _ 6 _ _ (0, 0) kk]; rfl
  have HFz : Hid (∀ W, Below w1.heap.size w1 W → W.frozen? ⟨pa, 0, none⟩ = false ∧ W.frozen? ⟨pa, 1, none⟩ = false) := fun W hW => by
    obtain ⟨_, _, q, _⟩ := h.next (bnext u1 hW)
    constructor <;> simp [World.frozen?, q]
  have HAd : Hid (∀ W, Below w1.heap.size w1 W → Calls Try.prog 13 #[.pointer (some ⟨p, 0, none⟩), .slice ka kn kc] W fun e w' => ∃ a b c, e = .returned (.slice a ll c) ∧ RdF w' a b 0 l ∧ Below W.heap.size W w') := fun W hW => by
    have := (h.next (bnext u1 hW)).dafter ka kb ko kc ks (hk.next (bnext u1 hW)) hkl ((hb.sim.aft ks).trans hl)
    rw [hkn] at this
    refine this.mono fun e w' q => ?_
    obtain ⟨v, q1, q2, q3⟩ := q
    obtain ⟨a, b, c, rfl, q4, _⟩ := ownF_rd q2
    rw [hll] at q1
    exact ⟨a, b, c, q1, q4, q3⟩
  have HAr : Hid (∀ W, Below w1.heap.size w1 W → Calls Try.prog 32 #[.pointer (some ⟨r, 0, none⟩), .slice ka kn kc] W fun e w' => ∃ a b c, e = .returned (.slice a ll c) ∧ RdF w' a b 0 l ∧ (a = none → c = 0) ∧ Below W.heap.size W w') := fun W hW => by
    have := (h.next (bnext u1 hW)).rafter (by have := hb.len; omega) ka kb ko kc ks (hk.next (bnext u1 hW)) hkl hl
    rw [hkn] at this
    refine this.mono fun e w' q => ?_
    obtain ⟨v, q1, q2, q3⟩ := q
    obtain ⟨a, b, c, rfl, q4, q5, _⟩ := ownF_rd' q2
    rw [hll] at q1
    exact ⟨a, b, c, q1, q4, q5, q3⟩
  have HSl : Hid (∀ (W : World) a b c a' b' c', RdF W a b 0 l → RdF W a' b' 0 l → Calls Try.prog 17 #[.slice a ll c, .slice a' ll c'] W fun e w' => e = .returned (.bool true) ∧ Below W.heap.size W w') := fun W a b c a' b' c' h1 h2 => by
    have := same_yes W l a b 0 c h1 a' b' 0 c' h2 (by omega)
    rw [hll] at this
    exact this
  have HOp : Hid (∀ (W : World) a b c (rm : Int), rm ≤ 9223372036854775807 → (a = none → c = 0) → RdF W a b 0 l → Calls Try.prog 5 #[.int .i64 rm, .slice a ll c] W (OdP W rm.toNat l)) := fun W a b c rm h1 h2 h3 => by
    have := opened_any W rm _ rfl h1 a b 0 c l h3 h2 hl2 (by omega) (by omega)
    rw [hll] at this
    exact this
  have HZ : Hid (∀ W, Below w1.heap.size w1 W → PL w W F pa k) := fun W hW => PL.of (h.next (bnext u1 hW)) (hb.up hk1)
  have HT : Hid (∀ W W' qa p' r' m, Below w1.heap.size w1 W → Below W.heap.size W W' → Pq W W' (fun _ => False) qa p' r' (openD m l) (openR m l) → canL l → byt l ≤ m → PL w ((W'.setCell ⟨pa, 0, none⟩ (.pointer (some ⟨p', 0, none⟩))).setCell ⟨pa, 1, none⟩ (.pointer (some ⟨r', 0, none⟩))) F pa k) := fun W W' qa p' r' m h1 h2 h3 h4 h5 => by
    refine PL.of (h.turn (bnext u1 h1) h2 h3) ⟨sim_open m l h4.1 h5, ?_, Nat.zero_le _, hk1⟩
    have := rlay_len l
    show (rlayL l).length ≤ _
    omega
  have HPl : Hid (pa < w1.heap.size) := Nat.lt_of_lt_of_le h.lt u1.size
  have HL : Hid (l.length = ll ∧ ll ≤ 2097152 ∧ byt l ≤ 562949953421312 ∧ -9223372036854775808 ≤ n ∧ n ≤ 9223372036854775807) := ⟨hll, by omega, hl3, hn1, hn2⟩
  rw [hkn]
  have t1 : Below w1.heap.size w1 w1 := Below.refl _ _
  clear h hb hk1 hn1 hn2 hk hkl hkn hw1 hbo u1 k1 hl1 hl2 hl3 hl hll hfew
  go_enter Try.func27, Try.ntmps27
  go_upto_region 1 with (fail)
  rw [HW.out, HBo.out]
  have tw := t1.drew
  go_region_held3 (fun Z => Z.cell? ⟨pa, 0, none⟩ = some (.pointer (some ⟨p, 0, none⟩)) ∧ Z.cell? ⟨pa, 1, none⟩ = some (.pointer (some ⟨r, 0, none⟩)) ∧ Z.cell? ⟨bo, 5, none⟩ = some (.int .i64 n) ∧ Z.cell? ⟨bo, 6, none⟩ = some (.slice ka kn kc)) (first | assumption | (exact HC.out _ tw) | (exact HC.out _ t1)) (first
    | (go_at_call 32; (with_reducible refine (HAr.out _ tw).mono ?_); rintro e w2 ⟨a2, b2, c2, rfl, f2, hn2, uu⟩; have tw := bnext tw uu))
  all_goals
    have t2 := tw
    go_upto_region 2 with (fail)
    have tw := t2.drew
    have f2 := f2.next (bdq _)
    go_region_held3 (fun Z => Z.cell? ⟨pa, 0, none⟩ = some (.pointer (some ⟨p, 0, none⟩)) ∧ Z.cell? ⟨pa, 1, none⟩ = some (.pointer (some ⟨r, 0, none⟩)) ∧ Z.cell? ⟨bo, 5, none⟩ = some (.int .i64 n) ∧ Z.cell? ⟨bo, 6, none⟩ = some (.slice ka kn kc)) (first | assumption | (exact HC.out _ tw) | (exact HC.out _ t2)) (first
      | (go_at_call 13; (with_reducible refine (HAd.out _ tw).mono ?_); rintro e w3 ⟨a1, b1, c1, rfl, f1, uu⟩; have tw := bnext tw uu; have f2 := f2.next uu))
    all_goals
      go_upto_region 5 with (go_at_call 17; (with_reducible refine (HSl.out _ _ _ _ _ _ _ f1 f2).mono ?_); rintro e w4 ⟨rfl, uu⟩; have tw := bnext tw uu; have f2 := f2.next uu)
      obtain ⟨x0, x1, x5, x6⟩ := HC.out _ tw
      have HF2 : Hid (RdF w4 a2 b2 0 l ∧ (a2 = none → c2 = 0) ∧ Below w1.heap.size w1 w4) := ⟨f2, hn2, tw⟩
      clear f1 f2 hn2 uu
      go_wp2
      go_loopg [7, 8] ll (fun g x y wr => ∃ (j : Nat) (rm : Int), j ≤ ll ∧ g = ll - j ∧ y = .int .i64 (j : Int) ∧ x = .int .i64 rm ∧ -9223372036854775808 ≤ rm ∧ rm ≤ 9223372036854775807 ∧ wr = w4)
      case atStart => exact ⟨0, n, Nat.zero_le _, rfl, rfl, rfl, HL.out.2.2.2.1, HL.out.2.2.2.2, rfl⟩
      case round =>
        obtain ⟨j, rm, hj, rfl, rfl, rfl, hr1, hr2, rfl⟩ := hrel
        by_cases hlt : j < ll
        · obtain ⟨q1, q2, q3, _⟩ := HL.out
          obtain ⟨r1, r2, r3⟩ := HF2.out
          obtain ⟨⟨tx, x2⟩, hx⟩ : ∃ x, l.getD j ([], []) = x := ⟨_, rfl⟩
          have e1 := r1.c1 j (by omega)
          rw [hx] at e1
          simp only [Nat.zero_add] at e1
          have ea := r1.ptr (by omega)
          obtain ⟨xb, hxb⟩ : ∃ a : ByteArray, ⟨x2.toArray⟩ = a := ⟨_, rfl⟩
          rw [hxb] at e1
          have htk : l.take (j + 1) = l.take j ++ [(tx, x2)] := by rw [← hx]; exact take_snoc _ _ _ (by omega)
          have hbt := byt_snoc (l.take j) (tx, x2)
          rw [← htk] at hbt
          have hle := byt_take l (j + 1)
          have hsz : xb.size = x2.length := by rw [← size_list, ← hxb]
          simp only at hbt
          have hxs : xb.size ≤ 562949953421312 := by omega
          have hi1 : (0 : Int) ≤ (j : Int) := by omega
          have hi2 : (j : Int) < (ll : Int) := by omega
          have hw : IntKind.i64.wrap ((j : Int) + 1) = (j : Int) + 1 := by rw [IntKind.wrap_i64]; omega
          subst ea
          clear r1 r2 r3 hx hxb htk hbt hle hsz
          by_cases hm1 : rm ≥ 0
          · by_cases hm2 : rm < 1099511627776
            · have hwr : IntKind.i64.wrap (rm + (xb.size : Int)) = rm + (xb.size : Int) := by rw [IntKind.wrap_i64]; omega
              go_wp2
              go_roundg (ll - (j + 1))
              case rel =>
                go_light
                exact ⟨j + 1, rm + (xb.size : Int), by omega, rfl, by go_num, by go_num, by omega, by omega, rfl⟩
              case measure => go_light; omega
            · go_wp2
              go_roundg (ll - (j + 1))
              case rel =>
                go_light
                exact ⟨j + 1, rm, by omega, rfl, by go_num, rfl, by omega, by omega, rfl⟩
              case measure => go_light; omega
          · go_wp2
            go_roundg (ll - (j + 1))
            case rel =>
              go_light
              exact ⟨j + 1, rm, by omega, rfl, by go_num, rfl, by omega, by omega, rfl⟩
            case measure => go_light; omega
        · obtain rfl : j = ll := by omega
          have hz : ¬ ((j : Int) < (j : Int)) := by omega
          have HO := hide (HOp.out _ a2 b2 c2 rm hr2 HF2.out.2.1 HF2.out.1)
          clear hlt hj
          go_upto_region 12 with (go_at_call 5; (with_reducible refine HO.out.mono ?_); rintro e w5 ⟨qa, rfl, u5, hqa, hq⟩)
          rcases hq with ⟨p5, r5, hq, hcan, hby⟩ | hq
          · have HP := hide (HT.out _ _ _ _ _ _ HF2.out.2.2 u5 hq hcan hby)
            obtain ⟨y0, y1⟩ := hq.cells
            obtain ⟨z0, z1⟩ := HFz.out _ (bnext HF2.out.2.2 u5)
            obtain ⟨v0, v1, _, _⟩ := HC.out _ (bnext HF2.out.2.2 u5)
            have hne : pa ≠ qa := by have := HPl.out; have := HF2.out.2.2.size; omega
            have s1 : (w5.setCell ⟨pa, 0, none⟩ (.pointer (some ⟨p5, 0, none⟩))).cell? ⟨qa, 1, none⟩ = some (.pointer (some ⟨r5, 0, none⟩)) := by
              have hne2 : qa ≠ pa := Ne.symm hne
              have hh : (w5.setCell ⟨pa, 0, none⟩ (.pointer (some ⟨p5, 0, none⟩))).heap[qa]? = w5.heap[qa]? := by rw [Below.heap_setCell _ _ _ _ hne2]
              rw [← y1]
              simp [World.cell?, hh]
            clear hq hcan hby
            go_wp2
            go_ret
            exact ⟨rfl, HP.out⟩
          · have HP := hide (HZ.out _ (bnext HF2.out.2.2 u5))
            have y1 : w5.cell? ⟨qa, 1, none⟩ = some (.pointer none) := by rw [cell_of_row w5 _ 1 _ _ (0, 0) hq]; rfl
            clear hq
            go_wp2
            go_ret
            exact ⟨rfl, HP.out⟩
end
end Go.Proofs.Ytmhedhhbdpdafab
/-
  plays: anew. Own work.
-/
namespace Go.Proofs.Ytmhedhhbdpdafab
open Go.RowKit
section
variable {F : Nat → Prop} {pa p r k : Nat} {D : DV} {V : RV}
set_option maxRecDepth 100000 in
set_option maxHeartbeats 8000000 in
theorem plays_anew (w : World) (h : Pq w w F pa p r D V) (hb : Bd D V k) (hk1 : k + 1 ≤ 2097152) (which x n : Int) (nm dt : ByteArray) (ka : Option Addr) (kb ko kc : Nat) (ks : List Bool) (hn1 : -9223372036854775808 ≤ n) (hn2 : n ≤ 9223372036854775807) (hk : RdL w ka kb ko ks) (hkl : ks.length ≤ 140737488355328) :
    Calls Try.prog 8 #[.pointer (some ⟨pa, 0, none⟩), .agg #[.int .i64 9, .int .i64 which, .string nm, .string dt, .int .i64 x, .int .i64 n, .slice ka ks.length kc]] w fun e w' => e = .returned (.bool true) ∧ PL w w' F pa k := by
  obtain ⟨kn, hkn⟩ : ∃ n, ks.length = n := ⟨_, rfl⟩
  obtain ⟨w1, hw1⟩ : ∃ W, w.alloc (.cells #[.int .i64 9, .int .i64 which, .string nm, .string dt, .int .i64 x, .int .i64 n, .slice ka kn kc] 38) = W := ⟨_, rfl⟩
  have HW := hide hw1
  obtain ⟨bo, hbo⟩ : ∃ b, w.heap.size = b := ⟨_, rfl⟩
  have HBo := hide hbo
  have u1 : Below w.heap.size w w1 := by rw [← hw1]; exact bal (Below.refl _ _) _
  have k1 : w1.heap[bo]? = some (.cells #[.int .i64 9, .int .i64 which, .string nm, .string dt, .int .i64 x, .int .i64 n, .slice ka kn kc] 38 (0, 0)) := by rw [← hw1, ← hbo]; exact new1 _ _
  have HL : Hid (Calls Try.prog 27 #[.pointer (some ⟨pa, 0, none⟩), .agg #[.int .i64 9, .int .i64 which, .string nm, .string dt, .int .i64 x, .int .i64 n, .slice ka kn kc]] w1 fun e w' => e = .returned (.bool true) ∧ PL w w' F pa k) := by
    have := anew_any w1 (h.start u1) hb hk1 9 which x n nm dt ka kb ko kc ks hn1 hn2 (hk.next u1) hkl
    rw [hkn] at this
    refine this.mono fun e w' q => ⟨q.1, ?_⟩
    obtain ⟨p', r', D', V', q1, q2⟩ := q.2
    exact PL.of (q2.back u1) q1
  have d0 : w1.cell? ⟨bo, 0, none⟩ = some (.int .i64 9) := by rw [cell_of_row w1 _ 0 _ _ (0, 0) k1]; rfl
  have d1 : w1.cell? ⟨bo, 1, none⟩ = some (.int .i64 which) := by rw [cell_of_row w1 _ 1 _ _ (0, 0) k1]; rfl
  have d2 : w1.cell? ⟨bo, 2, none⟩ = some (.string nm) := by rw [cell_of_row w1 _ 2 _ _ (0, 0) k1]; rfl
  have d3 : w1.cell? ⟨bo, 3, none⟩ = some (.string dt) := by rw [cell_of_row w1 _ 3 _ _ (0, 0) k1]; rfl
  have d4 : w1.cell? ⟨bo, 4, none⟩ = some (.int .i64 x) := by rw [cell_of_row w1 _ 4 _ _ (0, 0) k1]; rfl
  have d5 : w1.cell? ⟨bo, 5, none⟩ = some (.int .i64 n) := by rw [cell_of_row w1 _ 5 _ _ (0, 0) k1]; rfl
  have d6 : w1.cell? ⟨bo, 6, none⟩ = some (.slice ka kn kc) := by rw [cell_of_row w1 _ 6 _ _ (0, 0) k1]; rfl
  rw [hkn]
  clear h hb hk1 hn1 hn2 hk hkl hkn hw1 hbo u1
  go_enter Try.func8, Try.ntmps8
  go_upto_region 1 with (fail)
  rw [HW.out, HBo.out]
  go_wp2_with (go_at_call 27; (with_reducible refine HL.out.mono ?_); rintro e w2 ⟨rfl, hz⟩)
  all_goals
    go_ret
    exact ⟨rfl, hz⟩
end
end Go.Proofs.Ytmhedhhbdpdafab
