/-
  Own work: FWalkM.
-/
import Derived.Test.YthfnpagangjpbabGreatV26
import Derived.Test.YthfnpagangjpbabGreatV28
namespace Go.Proofs.YthfnpagangjpbabGreat
open Go.RowKit
open Rc
attribute [local go_sem ↓] Go.wp_at_zero Go.wp_at_succ
def chk (k : Int) : Int := if k < 1 ∨ 32 < k then 70 else 0
theorem check_any (w : World) (k : Int) : Calls Tryz.prog 51 #[.int .i64 k] w fun e w' => e = .returned (.int .i64 (chk k)) ∧ w' = w := by
  unfold chk
  go_enter Tryz.func51, Tryz.ntmps51
  by_cases h1 : k < 1
  · rw [if_pos (.inl h1)]
    go_wp2
    go_ret
    simp
  · by_cases h2 : 32 < k
    · rw [if_pos (.inr h2)]
      go_wp2
      go_ret
      simp
    · rw [if_neg (by omega)]
      go_wp2
      go_ret
      simp
def OpQ (w : World) (p : Nat) (S0 : Nat → Prop) (x : DV × Option SV × Int) (e : Ending) (w' : World) : Prop := match x.2.1 with
  | none => e = .returned (.tuple #[.pointer none, .int .i64 x.2.2]) ∧ Mvd w w' p S0 x.1
  | some S => ∃ q T, e = .returned (.tuple #[.pointer (some ⟨q, 0, none⟩), .int .i64 x.2.2]) ∧ Sk w' q p T x.1 S ∧ (∀ y, T y → S0 y ∨ w.heap.size ≤ y) ∧ w.heap.size ≤ q ∧ Upo S0 w w'
theorem mvd_same {w W : World} {p : Nat} {S0 : Nat → Prop} {D : DV} (h : Dsk w p S0 D) (hb : Below w.heap.size w W) : Mvd w W p S0 D := ⟨S0, h.next hb, fun _ hx => .inl hx, Upo.of hb⟩
theorem upo_new {w w1 W : World} {S0 T : Nat → Prop} (hb : Below w.heap.size w w1) (hu : Upo T w1 W) (hT : ∀ x, T x → S0 x ∨ w.heap.size ≤ x) : Upo S0 w W :=
  (Upo.of hb).trans hu (fun x hx ht => (hT x ht).elim id (fun e => by omega))
theorem skm_mvd {w w1 W : World} {q p : Nat} {S0 T : Nat → Prop} {D : DV} {S : SV} (hb : Below w.heap.size w w1) (hT : ∀ x, T x → S0 x ∨ w.heap.size ≤ x) (h : SkM w1 W q p T D S) : Mvd w W p S0 D := by
  obtain ⟨T', ⟨S1, v, d1, d2, d3, d4, d5⟩, h2, h3⟩ := h
  refine ⟨S1, d1, fun x hx => ?_, upo_new hb h3 hT⟩
  rcases h2 x ((d5 x).2 (.inl hx)) with e | e
  · exact hT x e
  · exact .inr (Nat.le_trans hb.size e)
set_option maxRecDepth 100000 in
set_option maxHeartbeats 4000000 in
theorem fopen_any (w : World) {p : Nat} {S0 : Nat → Prop} {D : DV} (h : Dsk w p S0 D) (hrm : Rm 7 D) (k : Int) (x : DV × Option SV × Int) (hx : opnD D k = x) :
    Calls Tryz.prog 20 #[.pointer (some ⟨p, 0, none⟩), .int .i64 k] w (OpQ w p S0 x) := by
  have HC := hide (check_any w k)
  have HDn := hide h.down
  unfold opnD at hx
  by_cases hk : 1 ≤ k ∧ k ≤ 32
  · rw [if_neg (fun q => q hk)] at hx
    have hc : chk k = 0 := if_neg (by omega)
    rw [hc] at HC
    by_cases hd : D.down = true
    · rw [if_pos hd] at hx
      subst hx
      rw [hd] at HDn
      have HZ := hide (mvd_same h (Below.refl _ _))
      clear h
      go_enter Tryz.func20, Tryz.ntmps20
      go_wp2_with (first
        | (go_at_call 51; (with_reducible refine HC.out.mono ?_); rintro e w1 ⟨rfl, rfl⟩)
        | (go_at_call 45; (with_reducible refine HDn.out.mono ?_); rintro e w1 ⟨rfl, rfl⟩))
      go_ret2
      exact ⟨rfl, HZ.out⟩
    · rw [if_neg hd] at hx
      have hd' : D.down = false := by simpa using hd
      rw [hd'] at HDn
      obtain ⟨w1, hw1⟩ : ∃ W, w.alloc (.cells #[.pointer (some ⟨p, 0, none⟩), .int .i64 k, .slice none 0 0, .int .u32 0, .bool false] 80) = W := ⟨_, rfl⟩
      have u1 : Below w.heap.size w w1 := by rw [← hw1]; exact bal (Below.refl _ _) _
      have k1 : w1.heap[w.heap.size]? = some (.cells #[.pointer (some ⟨p, 0, none⟩), .int .i64 k, .slice none 0 0, .int .u32 0, .bool false] 80 (0, 0)) := by rw [← hw1]; exact new1 _ _
      obtain ⟨kn, hkn⟩ : ∃ n : Nat, k.toNat = n := ⟨_, rfl⟩
      have hk2 : k = (kn : Int) := by omega
      rw [hkn] at hx
      subst hk2
      have hS : Sk w1 w.heap.size p (fun y => S0 y ∨ y = w.heap.size) D ⟨kn, [], 0#32, false⟩ :=
        ⟨S0, .slice none 0 0, h.next u1, ⟨k1, ownE_nil _ _, by show 1 ≤ kn; omega, by show kn ≤ 32; omega, by simp, by simp⟩, fun e => (by have := h.lt e; omega), fun g hg => (by cases hg), fun y => ⟨fun e => e.elim .inl (fun e => .inr (.inl e)), fun e => e.elim .inl (fun e => e.elim .inr (fun e => by cases e))⟩⟩
      have hT : ∀ y, (S0 y ∨ y = w.heap.size) → S0 y ∨ w.heap.size ≤ y := fun y e => e.imp id (fun e => by omega)
      have HA := hide (takeall_any w1 hS hd' rfl rfl)
      obtain ⟨bq, hbq⟩ : ∃ b, w.heap.size = b := ⟨_, rfl⟩
      have HW := hide hw1
      have HB := hide hbq
      rw [hbq] at HA
      change Hid (Calls Tryz.prog 52 #[.pointer (some ⟨bq, 0, none⟩)] w1 (TaQ w1 bq p _ D _ (tkAll kn (now D nmI) (now D nmN) (now D nmM)))) at HA
      cases ht : tkAll kn (now D nmI) (now D nmN) (now D nmM) with
      | none =>
        rw [ht] at HA hx
        subst hx
        have HA2 : Hid (Calls Tryz.prog 52 #[.pointer (some ⟨bq, 0, none⟩)] w1 fun e w' => e = .returned (.int .i64 190) ∧ Mvd w w' p S0 D) := HA.out.mono fun e w' z => ⟨z.1, by obtain ⟨S', z2⟩ := z.2; rw [← hbq] at z2; exact skm_mvd u1 hT z2⟩
        clear h HA hS hT u1 k1 hw1 hbq ht
        go_enter Tryz.func20, Tryz.ntmps20
        go_upto_region 7 with (first
          | (go_at_call 51; (with_reducible refine HC.out.mono ?_); rintro e w2 ⟨rfl, rfl⟩)
          | (go_at_call 45; (with_reducible refine HDn.out.mono ?_); rintro e w2 ⟨rfl, rfl⟩))
        rw [HW.out, HB.out]
        go_wp2_with (go_at_call 52; (with_reducible refine HA2.out.mono ?_); rintro e w3 ⟨rfl, t3⟩)
        go_ret2
        exact ⟨rfl, t3⟩
      | some st =>
        rw [ht] at HA hx
        simp only at hx
        have HA2 : Hid (Calls Tryz.prog 52 #[.pointer (some ⟨bq, 0, none⟩)] w1 fun e w' => e = .returned (.int .i64 0) ∧ SkM w1 w' bq p (fun y => S0 y ∨ y = bq) D ⟨kn, st.1, st.2, false⟩) := HA.out.mono fun e w' z => ⟨z.1, z.2⟩
        obtain ⟨D1, r1, hD1⟩ : ∃ D1 r1, runA (stl st.1) D = (D1, r1) := ⟨_, _, rfl⟩
        rw [hD1] at hx
        have HSt : Hid (∀ W, SkM w1 W bq p (fun y => S0 y ∨ y = bq) D ⟨kn, st.1, st.2, false⟩ → Calls Tryz.prog 53 #[.pointer (some ⟨bq, 0, none⟩)] W fun e w' => e = .returned (.int .i64 r1) ∧ SkM w1 w' bq p (fun y => S0 y ∨ y = bq) D1 ⟨kn, st.1, st.2, false⟩) := fun W hW => by
          obtain ⟨T1, hk1, hT1, hu1⟩ := hW
          exact (settle_any W hk1 hrm D1 r1 hD1).mono fun e w' z => ⟨z.1, skm_join hT1 hu1 z.2⟩
        rw [hbq] at hT
        have HU := hide u1
        have HT := hide hT
        by_cases h0 : r1 = 0
        · subst h0
          rw [if_pos rfl] at hx
          subst hx
          clear h HA hS u1 k1 hw1 hbq ht hT
          go_enter Tryz.func20, Tryz.ntmps20
          go_upto_region 7 with (first
            | (go_at_call 51; (with_reducible refine HC.out.mono ?_); rintro e w2 ⟨rfl, rfl⟩)
            | (go_at_call 45; (with_reducible refine HDn.out.mono ?_); rintro e w2 ⟨rfl, rfl⟩))
          rw [HW.out, HB.out]
          go_wp2_with (first
            | (go_at_call 52; (with_reducible refine HA2.out.mono ?_); rintro e w3 ⟨rfl, t3⟩)
            | (go_at_call 53; (with_reducible refine (HSt.out _ t3).mono ?_); rintro e w4 ⟨rfl, t4⟩))
          go_ret2
          obtain ⟨T4, z1, z2, z3⟩ := t4
          exact ⟨bq, T4, rfl, z1, fun y hy => (z2 y hy).elim (fun e => (HT.out y e).imp id (fun e => by rw [HB.out]; exact e)) (fun e => .inr (Nat.le_trans HU.out.size e)), Nat.le_of_eq HB.out, upo_new HU.out z3 (fun y hy => (HT.out y hy).imp id (fun e => by rw [HB.out]; exact e))⟩
        · rw [if_neg h0] at hx
          subst hx
          have hr0 : (r1 != 0) = true := by simp [h0]
          clear h HA hS u1 k1 hw1 hbq ht hT
          go_enter Tryz.func20, Tryz.ntmps20
          go_upto_region 7 with (first
            | (go_at_call 51; (with_reducible refine HC.out.mono ?_); rintro e w2 ⟨rfl, rfl⟩)
            | (go_at_call 45; (with_reducible refine HDn.out.mono ?_); rintro e w2 ⟨rfl, rfl⟩))
          rw [HW.out, HB.out]
          go_wp2_with (first
            | (go_at_call 52; (with_reducible refine HA2.out.mono ?_); rintro e w3 ⟨rfl, t3⟩)
            | (go_at_call 53; (with_reducible refine (HSt.out _ t3).mono ?_); rintro e w4 ⟨rfl, t4⟩))
          go_ret2
          exact ⟨rfl, skm_mvd HU.out (fun y hy => (HT.out y hy).imp id (fun e => by rw [HB.out]; exact e)) t4⟩
  · rw [if_pos hk] at hx
    subst hx
    have hc : chk k = 70 := if_pos (by omega)
    rw [hc] at HC
    have HZ := hide (mvd_same h (Below.refl _ _))
    clear h HDn
    go_enter Tryz.func20, Tryz.ntmps20
    go_wp2_with (go_at_call 51; (with_reducible refine HC.out.mono ?_); rintro e w1 ⟨rfl, rfl⟩)
    go_ret2
    exact ⟨rfl, HZ.out⟩
end Go.Proofs.YthfnpagangjpbabGreat
