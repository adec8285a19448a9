/-
  Own work: FWalkI.
-/
import Derived.Test.YthfnpagangjpbabGreatV22
namespace Go.Proofs.YthfnpagangjpbabGreat
open Go.RowKit
open Rc
attribute [local go_sem ↓] Go.wp_at_zero Go.wp_at_succ
theorem rep_zero : (⟨(Lib.repeatL [0] 64).toArray⟩ : ByteArray) = tx (zer 64) := by kernel_rfl
theorem isnone_any (w : World) (s : ByteArray) (b : Bool) (hb : decide (s.data.toList = zer 64) = b) : Calls Tryz.prog 99 #[.string s] w fun e w' => e = .returned (.bool b) ∧ Below w.heap.size w w' := by
  have HR : Hid (Calls Tryz.prog 132 #[.string ⟨#[0]⟩, .int .i64 64] w fun e w' => e = .returned (.string (tx (zer 64))) ∧ Below w.heap.size w w') := by
    have := Tryz.strings_Repeat_main ⟨#[0]⟩ 64 w (by decide) (by decide) (by decide) (by decide)
    rw [show (ByteArray.mk #[0]).data.toList = [0] from rfl, rep_zero] at this
    exact this
  have h1 : (s.toList == (tx (zer 64)).toList) = b := by
    rw [← hb]
    by_cases h : s = tx (zer 64)
    · rw [beq_yes h, h, tx_data]; simp
    · rw [beq_ne h]
      exact (decide_eq_false fun e => h (Rc.ba_ext (by rw [e, tx_data]))).symm
  generalize tx (zer 64) = z at *
  clear hb
  go_enter Tryz.func99, Tryz.ntmps99
  go_wp2_with (go_at_call 132; refine HR.out.mono ?_; rintro e w1 ⟨rfl, u1⟩)
  go_ret
  exact ⟨by simp_all, u1⟩
theorem rdN_len (k : Nat) (b : List UInt8) (p : Nat) : ∀ {j : Nat} {l : List ByteArray}, rdN k b p j = some l → l.length = j ∧ ∀ x ∈ l, x.size = 40
  | 0, l, h => by simp only [rdN, Option.some.injEq] at h; subst h; simp
  | j + 1, l, h => by
    rw [rdN] at h
    cases hq : rdN k b p j with
    | none => rw [hq] at h; cases h
    | some l' =>
      rw [hq] at h
      simp only at h
      split at h
      · rename_i hc
        simp only [Option.some.injEq] at h
        subst h
        obtain ⟨h1, h2⟩ := rdN_len k b p hq
        refine ⟨by simp [h1], fun x hx => ?_⟩
        rcases List.mem_append.1 hx with h | h
        · exact h2 x h
        · rw [List.mem_singleton.1 h, tx_size, rowN, List.length_take, List.length_drop]
          have := hc.1
          omega
      · cases h
theorem rdN_none {k : Nat} {b : List UInt8} {p j : Nat} (h : rdN k b p j = none) : ∀ i, j ≤ i → rdN k b p i = none := fun i hi => by
  induction i with
  | zero => obtain rfl : j = 0 := by omega
            exact h
  | succ i ih =>
    by_cases e : j = i + 1
    · rw [← e]; exact h
    · rw [rdN, ih (by omega)]
def RnQ (w : World) (o : Option (List ByteArray)) (e : Ending) (w' : World) : Prop := Below w.heap.size w w' ∧ match o with
  | none => e = .returned (.tuple #[.slice none 0 0, .int .i64 190])
  | some rows => ∃ va vc, e = .returned (.tuple #[.slice va rows.length vc, .int .i64 0]) ∧ OwnS w' w.heap.size (.slice va rows.length vc) rows
theorem rdS_row {D : DV} (hd : D.down = false) (s : List UInt8) (a n : Nat) : rdS D s (a : Int) (n : Int) = if a + n ≤ (now D s).length then (((now D s).drop a).take n, 0) else ([], 190) := by
  have e1 : rdD D s (a : Int) (n : Int) = if a + n ≤ (now D s).length then (((now D s).drop a).take n, 0) else ([], 173) := by
    unfold rdD now
    rw [hd]
    simp only [Bool.false_eq_true, if_false, Int.toNat_natCast]
    by_cases h : a + n ≤ (fget D.L s).now.length
    · rw [if_neg (by omega), if_pos h]
    · rw [if_pos (by omega), if_neg h]
  unfold rdS
  rw [e1]
  by_cases h : a + n ≤ (now D s).length
  · simp only [if_pos h]; rfl
  · simp only [if_neg h]; rfl
set_option maxRecDepth 100000 in
theorem newnodes_any (w : World) {q p : Nat} {T : Nat → Prop} {D : DV} {S : SV} (h : Sk w q p T D S) (hd : D.down = false) (hfew : S.ends.length < 65536) :
    Calls Tryz.prog 134 #[.pointer (some ⟨q, 0, none⟩)] w (RnQ w (rdN S.k (now D nmN) (nn S.ends.length) (nn (S.ends.length + 1) - nn S.ends.length))) := by
  obtain ⟨hk1, hk2, hf, _⟩ := h.small
  have hmm := nn_mono S.ends.length hf
  obtain ⟨ea, ec, hcs⟩ := h.seen
  have HC : Hid (∀ W, Below w.heap.size w W → W.cell? ⟨q, 1, none⟩ = some (.int .i64 (S.k : Int))) := fun W hW => (hcs W hW).2.1
  obtain ⟨_, _, c2, _, _⟩ := hcs w (Below.refl _ _)
  have HN : Hid (∀ W, Calls Tryz.prog 34 #[.int .i64 (S.ends.length : Int)] W fun e w' => e = .returned (.int .u64 (nn S.ends.length : Int)) ∧ w' = W) := fun W => nodesof_any W S.ends.length (by omega)
  have HN1 : Hid (∀ W, Calls Tryz.prog 34 #[.int .i64 ((S.ends.length : Int) + 1)] W fun e w' => e = .returned (.int .u64 (nn (S.ends.length + 1) : Int)) ∧ w' = W) := fun W => by
    have := nodesof_any W (S.ends.length + 1) (by omega)
    rw [Int.natCast_add] at this
    exact this
  have hz := h.sz nmN
  have HR : Hid (∀ W, Below w.heap.size w W → ∀ i t r, rdS D nmN ((i * 40 : Nat) : Int) 40 = (t, r) → i ≤ 131074 → Calls Tryz.prog 28 #[.pointer (some ⟨q, 0, none⟩), .string ⟨#[110, 111, 100, 101, 115]⟩, .int .i64 ((i : Int) * 40), .int .i64 40] W fun e w' => e = .returned (.tuple #[.string (tx t), .int .i64 r]) ∧ Below W.heap.size W w') := fun W hW i t r h1 h2 => by
    rw [show (i : Int) * 40 = ((i * 40 : Nat) : Int) by omega]
    exact fread_any W (h.next hW) ⟨#[110, 111, 100, 101, 115]⟩ (by decide) _ _ (by omega) (by omega) (by omega) (by omega) (tx t) r (by rw [show (ByteArray.mk #[110, 111, 100, 101, 115]).data.toList = nmN from rfl, h1]) (by rw [show (ByteArray.mk #[110, 111, 100, 101, 115]).data.toList = nmN from rfl, h1])
  have hrow := fun i => rdS_row hd nmN (i * 40) 40
  clear hcs h
  obtain ⟨nb, hnb⟩ : ∃ l, now D nmN = l := ⟨_, rfl⟩
  rw [hnb] at hrow ⊢
  generalize nn (S.ends.length + 1) = m1 at *
  generalize nn S.ends.length = m0 at *
  generalize S.ends.length = n at *
  generalize S.k = k at *
  have e1 : IntKind.i64.wrap ((n : Int) + 1) = (n : Int) + 1 := by rw [IntKind.wrap_i64]; omega
  obtain ⟨m, hm⟩ : ∃ m, m1 - m0 = m := ⟨_, rfl⟩
  have hm1 : m1 = m0 + m := by omega
  subst hm1
  rw [hm]
  clear hm
  go_enter Tryz.func134, Tryz.ntmps134
  go_wp2_with (go_at_call 34; (with_reducible refine (HN.out _).mono ?_); rintro e w1 ⟨rfl, rfl⟩)
  go_loopg [5, 6] m (fun g v x wr => ∃ (j : Nat) (rows : List ByteArray), j ≤ m ∧ g = m - j ∧ x = .int .u64 ((m0 + j : Nat) : Int) ∧ Hid (rdN k nb m0 j = some rows) ∧ Hid (OwnS wr w1.heap.size v rows) ∧ Hid (Below w1.heap.size w1 wr))
  case atStart =>
    go_light
    exact ⟨0, [], Nat.zero_le _, rfl, rfl, rfl, owns_nil _ _, Below.refl _ _⟩
  case round =>
    obtain ⟨j, rows, hj, rfl, hx, HA, HO, HW⟩ := hrel
    obtain ⟨hrl, hrs⟩ := rdN_len k nb m0 HA.out
    obtain ⟨va, vc, rfl⟩ := own_slice HO.out
    rw [hrl] at HO
    obtain ⟨i, hi⟩ : ∃ i, m0 + j = i := ⟨_, rfl⟩
    rw [hi] at hx
    subst hx
    by_cases hlt : j < m
    · have hz1 : ((m0 + j : Nat) : Int) < ((m0 + m : Nat) : Int) := by omega
      have ew1 : IntKind.i64.wrap ((m0 + j : Nat) : Int) = ((m0 + j : Nat) : Int) := by rw [IntKind.wrap_i64]; omega
      have ew2 : IntKind.i64.wrap (((m0 + j : Nat) : Int) * 40) = ((m0 + j : Nat) : Int) * 40 := by rw [IntKind.wrap_i64]; omega
      have ew3 : IntKind.u64.wrap (((m0 + j : Nat) : Int) + 1) = ((m0 + (j + 1) : Nat) : Int) := by rw [wrap_u _ (by omega) (by omega)]; omega
      have hrow1 := hrow i
      rw [hi] at hz1 ew1 ew2 ew3
      have hstep : rdN k nb m0 (j + 1) = if 40 * i + 40 ≤ nb.length ∧ (rnod k i (rowN nb i)).isSome then some (rows ++ [tx (rowN nb i)]) else none := by rw [rdN, HA.out, hi]
      by_cases hin : i * 40 + 40 ≤ nb.length
      · rw [if_pos hin] at hrow1
        have er : (nb.drop (i * 40)).take 40 = rowN nb i := by rw [rowN, Nat.mul_comm]
        rw [er] at hrow1
        have HR1 := hide (HR.out wr HW.out i _ _ hrow1 (by omega))
        obtain ⟨row, hrw⟩ : ∃ l, rowN nb i = l := ⟨_, rfl⟩
        have hrz : row.length ≤ 40 := by rw [← hrw, rowN, List.length_take]; omega
        rw [hrw] at HR1 hstep
        cases hq : rnod k i row with
        | none =>
          have hno : rdN k nb m0 m = none := rdN_none (by rw [hstep, hq]; simp) m (by omega)
          have HN2 : Hid (∀ W, Calls Tryz.prog 35 #[.int .i64 (k : Int), .int .u64 (i : Int), .string (tx row)] W fun e w' => e = .returned (.tuple #[.string ⟨#[]⟩, .int .i64 180]) ∧ Below W.heap.size W w') := fun W => rnode_any W (k : Int) i (by omega) (tx row) _ _ (rnT_no (by omega) (by show rnod (k : Int).toNat i row = none; simpa using hq))
          have HZ : Hid (∀ W W', Below wr.heap.size wr W → Below W.heap.size W W' → RnQ w1 (rdN k nb m0 m) (.returned (.tuple #[.slice none 0 0, .int .i64 190])) W') := fun W W' h1 h2 => by
            rw [hno]
            exact ⟨bnext (bnext HW.out h1) h2, rfl⟩
          have CK : Hid (∀ W, Below wr.heap.size wr W → W.cell? ⟨q, 1, none⟩ = some (.int .i64 (k : Int))) := fun W h1 => HC.out W (bnext HW.out h1)
          generalize rdN k nb m0 m = rr at *
          generalize tx row = tr at *
          clear HA HO HW HC HR hrow hstep hno hq hi hrow1 hrs
          go_wp2_with (first
            | (go_at_call 34; (with_reducible refine (HN1.out _).mono ?_); rintro e w2 ⟨rfl, rfl⟩)
            | (go_at_call 28; (with_reducible refine HR1.out.mono ?_); rintro e w3 ⟨rfl, u3⟩; have c1 := CK.out _ u3)
            | (go_at_call 35; (with_reducible refine (HN2.out _).mono ?_); rintro e w4 ⟨rfl, u4⟩))
          go_ret2
          exact HZ.out _ _ u3 u4
        | some x =>
          have hyes : rdN k nb m0 (j + 1) = some (rows ++ [tx row]) := by rw [hstep, hq, if_pos ⟨by omega, rfl⟩]
          have HN2 : Hid (∀ W, Calls Tryz.prog 35 #[.int .i64 (k : Int), .int .u64 (i : Int), .string (tx row)] W fun e w' => e = .returned (.tuple #[.string ⟨x.toArray⟩, .int .i64 0]) ∧ Below W.heap.size W w') := fun W => rnode_any W (k : Int) i (by omega) (tx row) _ _ (rnT_yes (by omega) (by show rnod (k : Int).toNat i row = some x; simpa using hq))
          have CK : Hid (∀ W, Below wr.heap.size wr W → W.cell? ⟨q, 1, none⟩ = some (.int .i64 (k : Int))) := fun W h1 => HC.out W (bnext HW.out h1)
          have hts : (tx row).size ≤ 9223372036854775807 := by rw [tx_size]; omega
          have HY := hide hyes
          have HB2 : Hid (∀ W W', Below wr.heap.size wr W → Below W.heap.size W W' → OwnS W' w1.heap.size (.slice va j vc) rows ∧ w1.heap.size ≤ W'.heap.size ∧ Below w1.heap.size w1 W') := fun W W' h1 h2 => ⟨own_next (own_next HO.out h1 (Nat.le_refl _)) h2 (Nat.le_refl _), (bnext (bnext HW.out h1) h2).size, bnext (bnext HW.out h1) h2⟩
          have hm40 := hmm.2.2
          clear HA HO HW HC HR hrow hstep hq hrow1 hrs hyes
          generalize tx row = tr at *
          go_wp2_with (first
            | (go_at_call 34; (with_reducible refine (HN1.out _).mono ?_); rintro e w2 ⟨rfl, rfl⟩)
            | (go_at_call 28; (with_reducible refine HR1.out.mono ?_); rintro e w3 ⟨rfl, u3⟩; have c1 := CK.out _ u3)
            | (go_at_call 35; (with_reducible refine (HN2.out _).mono ?_); rintro e w4 ⟨rfl, u4⟩)
            | (at_builtin; refine wpList_append_S _ rfl _ _ rfl w1.heap.size _ rows rfl (own_al (HB2.out _ _ u3 u4).1 _) (some ⟨w4.heap.size, 0, none⟩) w4.heap.size 0 1 [tr] rfl (rds_one w4 tr hts) (fun h => by cases h) (by rw [hrl]; show j + 1 ≤ _; omega) (by have := (HB2.out _ _ u3 u4).2.1; rw [al_size]; omega) ?_))
          intro v5 w5 h5 u5
          have HZ : Hid (OwnS w5 w1.heap.size v5 (rows ++ [tr]) ∧ Below w1.heap.size w1 w5) := ⟨h5, (bal (HB2.out _ _ u3 u4).2.2 _).trans u5⟩
          clear h5 u5 HB2
          go_wp2
          go_roundg (m - (j + 1))
          case rel =>
            go_light
            exact ⟨j + 1, rows ++ [tr], by omega, rfl, by first | rfl | (congr 1; omega), HY.out, HZ.out.1, HZ.out.2⟩
          case measure => go_light; omega
      · rw [if_neg hin] at hrow1
        have HR1 := hide (HR.out wr HW.out i _ _ hrow1 (by omega))
        have hno : rdN k nb m0 m = none := rdN_none (by rw [hstep, if_neg (fun h => hin (by omega))]) m (by omega)
        have HZ : Hid (∀ W, Below wr.heap.size wr W → RnQ w1 (rdN k nb m0 m) (.returned (.tuple #[.slice none 0 0, .int .i64 190])) W) := fun W h1 => by
          rw [hno]
          exact ⟨bnext HW.out h1, rfl⟩
        generalize rdN k nb m0 m = rr at *
        clear HA HO HW HC HR hrow hstep hno hi hrow1 hrs
        go_wp2_with (first
          | (go_at_call 34; (with_reducible refine (HN1.out _).mono ?_); rintro e w2 ⟨rfl, rfl⟩)
          | (go_at_call 28; (with_reducible refine HR1.out.mono ?_); rintro e w3 ⟨rfl, u3⟩))
        go_ret2
        exact HZ.out _ u3
    · have hz1 : ¬ (i : Int) < ((m0 + m : Nat) : Int) := by omega
      obtain rfl : j = m := by omega
      have HZ : Hid (RnQ w1 (rdN k nb m0 j) (.returned (.tuple #[.slice va j vc, .int .i64 0])) wr) := by
        rw [HA.out]
        exact ⟨HW.out, va, vc, by rw [hrl], by rw [hrl]; exact HO.out⟩
      generalize rdN k nb m0 j = rr at *
      clear HA HO HW HC HR hrow hrs
      go_wp2_with (go_at_call 34; (with_reducible refine (HN1.out _).mono ?_); rintro e w2 ⟨rfl, rfl⟩)
      go_ret2
      exact HZ.out
end Go.Proofs.YthfnpagangjpbabGreat
