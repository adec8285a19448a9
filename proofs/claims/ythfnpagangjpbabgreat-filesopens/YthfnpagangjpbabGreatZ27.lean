/-
  takeAll. Own work.
-/
import Derived.Test.YthfnpagangjpbabGreatZ26
namespace Go.Proofs.YthfnpagangjpbabGreat
open Go.RowKit
open Rc
attribute [local go_sem ↓] Go.wp_at_zero Go.wp_at_succ
theorem tkA_none {k : Nat} {a b m : List UInt8} {j : Nat} (h : tkA k a b m j = none) : ∀ i, j ≤ i → tkA k a b m i = none := fun i hi => by
  induction i with
  | zero => obtain rfl : j = 0 := by omega
            exact h
  | succ i ih =>
    by_cases e : j = i + 1
    · rw [← e]; exact h
    · rw [tkA, ih (by omega)]
theorem cntM_le (m : List UInt8) : cntM m ≤ m.length / 64 := by unfold cntM; split <;> omega
theorem cntM_step {m : List UInt8} {i : Nat} (hi : i < m.length / 64) (hr : ¬ (i = m.length / 64 - 1 ∧ rowM m i = zer 64)) : i + 1 ≤ cntM m := by
  unfold cntM
  split
  · rename_i h
    by_cases e : i = m.length / 64 - 1
    · exact absurd ⟨e, by rw [e]; exact h.2⟩ hr
    · omega
  · omega
theorem cntM_zero {m : List UInt8} {i : Nat} (hi : i < m.length / 64) (e : i = m.length / 64 - 1) (hr : rowM m i = zer 64) : cntM m = i := by
  unfold cntM
  rw [if_pos ⟨by omega, by rw [← e]; exact hr⟩]; exact e.symm
/-- What takeAll comes to. -/
def TaQ (w : World) (q p : Nat) (T : Nat → Prop) (D : DV) (S : SV) (o : Option (List Nat × BitVec 32)) (e : Ending) (w' : World) : Prop := match o with
  | none => e = .returned (.int .i64 190) ∧ ∃ S', SkM w w' q p T D S'
  | some st => e = .returned (.int .i64 0) ∧ SkM w w' q p T D { S with ends := st.1, chain := st.2 }
section
variable {q p : Nat} {T : Nat → Prop} {D : DV} {S : SV}
set_option maxRecDepth 100000 in
set_option maxHeartbeats 4000000 in
theorem takeall_any (w : World) (h : Sk w q p T D S) (hd : D.down = false) (h0 : S.ends = []) (hc0 : S.chain = 0#32) :
    Calls Tryz.prog 52 #[.pointer (some ⟨q, 0, none⟩)] w (TaQ w q p T D S (tkAll S.k (now D nmI) (now D nmN) (now D nmM))) := by
  have hsz := h.sz nmM
  have hsD : sizD D nmM = (now D nmM).length := by unfold sizD now; rw [hd]; rfl
  have HS : Hid (Calls Tryz.prog 98 #[.pointer (some ⟨p, 0, none⟩), .string ⟨#[109, 97, 114, 107, 115]⟩] w fun e w' => e = .returned (.int .i64 ((now D nmM).length : Int)) ∧ w' = w) := by
    have := h.size ⟨#[109, 97, 114, 107, 115]⟩ (by decide)
    rw [show (ByteArray.mk #[109, 97, 114, 107, 115]).data.toList = nmM from rfl, hsD] at this
    exact this
  obtain ⟨_, _, ⟨c0, _⟩, _⟩ := h.cells
  obtain ⟨M, hM⟩ : ∃ M, now D nmM = M := ⟨_, rfl⟩
  have hrow := fun i => rdS_row hd nmM (i * 64) 64
  rw [hM] at HS hrow ⊢
  have hMl : M.length ≤ 268435456 := by rw [← hM]; exact hsz
  obtain ⟨c, hc⟩ : ∃ c, M.length / 64 = c := ⟨_, rfl⟩
  have hq : Int.tdiv (M.length : Int) 64 = (c : Int) := by rw [← hc]; rfl
  have HRd : Hid (∀ wr S', SkM w wr q p T D S' → ∀ i : Nat, i < c → Calls Tryz.prog 77 #[.pointer (some ⟨p, 0, none⟩), .string ⟨#[109, 97, 114, 107, 115]⟩, .int .i64 ((i : Int) * 64), .int .i64 64] wr fun e w' => e = .returned (.tuple #[.string (tx (rowM M i)), .int .i64 0]) ∧ Below wr.heap.size wr w') := fun wr S' hS i hi => by
    obtain ⟨T1, hk, _, _⟩ := hS
    have := hk.read ⟨#[109, 97, 114, 107, 115]⟩ (by decide) ((i : Int) * 64) 64 (by omega) (by omega) (by omega) (by omega)
    have h1 := hrow i
    rw [if_pos (by omega)] at h1
    unfold rdS at h1
    rw [show (ByteArray.mk #[109, 97, 114, 107, 115]).data.toList = nmM from rfl, show (i : Int) * 64 = ((i * 64 : Nat) : Int) by omega] at this
    rw [show (i : Int) * 64 = ((i * 64 : Nat) : Int) by omega]
    split at h1
    · injection h1 with _ h1; cases h1
    · rw [show ((64 : Nat) : Int) = 64 from rfl] at h1
      rw [h1] at this
      rw [rowM, Nat.mul_comm 64 i]
      exact this
  have HTk : Hid (∀ wr st i, SkM w wr q p T D { S with ends := st.1, chain := st.2 } → Calls Tryz.prog 100 #[.pointer (some ⟨q, 0, none⟩), .string (tx (rowM M i))] wr fun e w' => (tkN S.k (now D nmI) (now D nmN) st (rowM M i) = none ∧ e = .returned (.int .i64 190) ∧ ∃ S', SkM w w' q p T D S') ∨ (∃ st', tkN S.k (now D nmI) (now D nmN) st (rowM M i) = some st' ∧ e = .returned (.int .i64 0) ∧ SkM w w' q p T D { S with ends := st'.1, chain := st'.2 })) := fun wr st i hS => by
    obtain ⟨T1, hk, hT, hu⟩ := hS
    refine (takenext_any wr hk hd (tx (rowM M i))).mono fun e w' z => ?_
    rw [tx_data] at z
    change TkQ wr q p T1 D _ (tkN S.k (now D nmI) (now D nmN) (st.1, st.2) (rowM M i)) e w' at z
    cases ht : tkN S.k (now D nmI) (now D nmN) (st.1, st.2) (rowM M i) with
    | none =>
      rw [ht] at z
      exact .inl ⟨rfl, z.1, _, skm_join hT hu z.2⟩
    | some st' =>
      rw [ht] at z
      exact .inr ⟨st', rfl, z.1, skm_join hT hu z.2⟩
  have HC : Hid (∀ wr S', SkM w wr q p T D S' → wr.cell? ⟨q, 0, none⟩ = some (.pointer (some ⟨p, 0, none⟩))) := fun wr S' hS => by
    obtain ⟨T1, hk, _, _⟩ := hS
    obtain ⟨_, _, ⟨c0, _⟩, _⟩ := hk.cells
    exact c0
  have HN : Hid (∀ i W b, decide (rowM M i = zer 64) = b → Calls Tryz.prog 99 #[.string (tx (rowM M i))] W fun e w' => e = .returned (.bool b) ∧ Below W.heap.size W w') := fun i W b hb => isnone_any W (tx (rowM M i)) b hb
  obtain ⟨o, ho⟩ : ∃ o, tkAll S.k (now D nmI) (now D nmN) M = o := ⟨_, rfl⟩
  have HA : Hid (∀ j, tkA S.k (now D nmI) (now D nmN) M j = none → j ≤ cntM M → o = none) := fun j h1 h2 => by rw [← ho]; exact tkA_none h1 _ h2
  have HA2 : Hid (∀ j st, tkA S.k (now D nmI) (now D nmN) M j = some st → cntM M = j → o = some st) := fun j st h1 h2 => by rw [← ho, tkAll, h2]; exact h1
  rw [ho]
  have HS0 : Hid (SkM w w q p T D { S with ends := [], chain := 0#32 }) := by
    have : ({ S with ends := [], chain := 0#32 } : SV) = S := by rw [← h0, ← hc0]
    rw [this]; exact SkM.of h (Below.refl _ _)
  have HCl := hide (cntM_le M)
  rw [hc] at HCl
  have HCs : Hid (∀ i, i < c → ¬ (i = c - 1 ∧ rowM M i = zer 64) → i + 1 ≤ cntM M) := fun i h1 h2 => cntM_step (by rw [hc]; exact h1) (by rw [hc]; exact h2)
  have HCz : Hid (∀ i, i < c → i = c - 1 → rowM M i = zer 64 → cntM M = i) := fun i h1 h2 h3 => cntM_zero (by rw [hc]; exact h1) (by rw [hc]; exact h2) h3
  have hcb : c ≤ 4194304 := by omega
  clear h h0 hc0 hsz hsD hM hrow ho hc
  generalize M.length = ml at *
  go_enter Tryz.func52, Tryz.ntmps52
  go_wp2_with (go_at_call 98; (with_reducible refine HS.out.mono ?_); rintro e w1 ⟨rfl, rfl⟩)
  go_loopg [15] c (fun g x wr => ∃ (i : Nat) (st : List Nat × BitVec 32), i ≤ c ∧ i ≤ cntM M ∧ g = c - i ∧ x = .int .i64 (i : Int) ∧ Hid (tkA S.k (now D nmI) (now D nmN) M i = some st) ∧ Hid (SkM w1 wr q p T D { S with ends := st.1, chain := st.2 }))
  case atStart =>
    go_light
    exact ⟨0, ([], 0#32), Nat.zero_le _, Nat.zero_le _, rfl, rfl, rfl, HS0⟩
  case round =>
    obtain ⟨i, st, hi, hic, rfl, rfl, HI, HT⟩ := hrel
    clear HS0
    have c0 := HC.out _ _ HT.out
    by_cases hlt : i < c
    · have hz : (i : Int) < (c : Int) := by omega
      have ew1 : IntKind.i64.wrap ((i : Int) * 64) = (i : Int) * 64 := by rw [IntKind.wrap_i64]; omega
      have ew2 : IntKind.i64.wrap ((c : Int) - 1) = (c : Int) - 1 := by rw [IntKind.wrap_i64]; omega
      have ew3 : IntKind.i64.wrap ((i : Int) + 1) = (i : Int) + 1 := by rw [IntKind.wrap_i64]; omega
      by_cases hl : i = c - 1
      · have hl1 : ((i : Int) == (c : Int) - 1) = true := by simp; omega
        have HLl := hide hl
        clear hl
        by_cases hzr : rowM M i = zer 64
        · have HN2 := hide (fun W => HN.out i W true (decide_eq_true hzr))
          have HZ : Hid (∀ W W', Below wr.heap.size wr W → Below W.heap.size W W' → TaQ w1 q p T D S o (.returned (.int .i64 0)) W') := fun W W' h1 h2 => by
            rw [HA2.out i st HI.out (HCz.out i hlt HLl.out hzr)]
            exact ⟨rfl, (HT.out.last h1).last h2⟩
          clear hzr HN
          go_wp2_with (first
            | (go_at_call 77; (with_reducible refine (HRd.out _ _ HT.out _ hlt).mono ?_); rintro e w2 ⟨rfl, u2⟩)
            | (go_at_call 99; (with_reducible refine (HN2.out _).mono ?_); rintro e w3 ⟨rfl, u3⟩))
          go_ret
          exact HZ.out _ _ u2 u3
        · have HN2 := hide (fun W => HN.out i W false (decide_eq_false hzr))
          have hle : i + 1 ≤ cntM M := HCs.out i hlt (fun h => hzr h.2)
          clear hzr HN
          go_wp2_with (first
            | (go_at_call 77; (with_reducible refine (HRd.out _ _ HT.out _ hlt).mono ?_); rintro e w2 ⟨rfl, u2⟩)
            | (go_at_call 99; (with_reducible refine (HN2.out _).mono ?_); rintro e w3 ⟨rfl, u3⟩)
            | (go_at_call 100; (with_reducible refine (HTk.out _ _ _ ((HT.out.last u2).last u3)).mono ?_); rintro e w4 (⟨h4, rfl, S4, t4⟩ | ⟨st4, h4, rfl, t4⟩)))
          · have HZ : Hid (TaQ w1 q p T D S o (.returned (.int .i64 190)) w4) := by
              rw [HA.out (i + 1) (by rw [tkA, HI.out]; exact h4) hle]
              exact ⟨rfl, S4, t4⟩
            clear h4
            go_wp2
            go_ret
            exact HZ.out
          · have HI2 : Hid (tkA S.k (now D nmI) (now D nmN) M (i + 1) = some st4) := by show _ = _; rw [tkA, HI.out]; exact h4
            clear h4
            go_wp2
            go_roundg (c - (i + 1))
            case rel =>
              go_light
              exact ⟨i + 1, st4, by omega, hle, rfl, by go_num, HI2, t4⟩
            case measure => go_light; omega
      · have hl1 : ((i : Int) == (c : Int) - 1) = false := by simp; omega
        have hl2 : ¬ (i : Int) = (c : Int) - 1 := by omega
        have hle : i + 1 ≤ cntM M := HCs.out i hlt (fun h => hl h.1)
        go_wp2_with (first
          | (go_at_call 77; (with_reducible refine (HRd.out _ _ HT.out _ hlt).mono ?_); rintro e w2 ⟨rfl, u2⟩)
          | (go_at_call 100; (with_reducible refine (HTk.out _ _ _ (HT.out.last u2)).mono ?_); rintro e w4 (⟨h4, rfl, S4, t4⟩ | ⟨st4, h4, rfl, t4⟩)))
        · have HZ : Hid (TaQ w1 q p T D S o (.returned (.int .i64 190)) w4) := by
            rw [HA.out (i + 1) (by rw [tkA, HI.out]; exact h4) hle]
            exact ⟨rfl, S4, t4⟩
          clear h4
          go_wp2
          go_ret
          exact HZ.out
        · have HI2 : Hid (tkA S.k (now D nmI) (now D nmN) M (i + 1) = some st4) := by show _ = _; rw [tkA, HI.out]; exact h4
          clear h4
          go_wp2
          go_roundg (c - (i + 1))
          case rel =>
            go_light
            exact ⟨i + 1, st4, by omega, hle, rfl, by go_num, HI2, t4⟩
          case measure => go_light; omega
    · have hz : ¬ (i : Int) < (c : Int) := by omega
      have HZ : Hid (TaQ w1 q p T D S o (.returned (.int .i64 0)) wr) := by
        rw [HA2.out i st HI.out (by have := HCl.out; omega)]
        exact ⟨rfl, HT.out⟩
      go_wp2
      go_ret
      exact HZ.out
end
end Go.Proofs.YthfnpagangjpbabGreat
