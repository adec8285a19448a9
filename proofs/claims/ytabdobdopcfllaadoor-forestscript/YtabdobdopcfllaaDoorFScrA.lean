/-
  Walks of forest's script: lent and kept, of blocks. Own work.
-/
import Derived.Test.YtabdobdopcfllaaDoorFRefG
namespace Go.Proofs.YtabdobdopcfllaaDoor
open Go.RowKit
attribute [local go_sem ↓] Go.wp_at_zero Go.wp_at_succ
theorem rdb_rdc {w : World} {ao : Option Addr} {g off n cap : Nat} {l : List (Int × Nat)} (r : RdB w ao g off n l) (hn : ao = none → cap = 0) : Cv.RdC w (.slice ao n cap) n (Cv.cB l) := by
  refine ⟨ao, cap, rfl, fun h => ⟨?_, hn h⟩, fun ad ha j c hj => ?_⟩
  · by_cases h0 : 0 < n
    · have := r.addr h0; rw [h] at this; cases this
    · omega
  · have hl := (List.getElem?_eq_some_iff.1 hj).1
    rw [Cv.cB_len, r.len] at hl
    have e := r.addr (by omega)
    rw [ha] at e
    cases e
    obtain ⟨i, hi⟩ : ∃ i, j / 2 = i := ⟨_, rfl⟩
    have hin : i < l.length := by rw [r.len]; omega
    obtain ⟨⟨a, b⟩, hq⟩ : ∃ q, l[i] = q := ⟨_, rfl⟩
    have hget : l[i]? = some (a, b) := by rw [List.getElem?_eq_getElem hin, hq]
    obtain ⟨e1, e2⟩ := Cv.cB_get l i a b hget
    obtain ⟨f1, f2⟩ := r.cell i (by rw [← r.len]; exact hin)
    rw [List.getD_eq_getElem?_getD, hget] at f1 f2
    rcases (by omega : j = 2 * i ∨ j = 2 * i + 1) with rfl | rfl
    · rw [e1] at hj
      injection hj with hj
      subst hj
      rw [Addr.add_mid, Nat.mul_comm]
      exact f1
    · rw [e2] at hj
      injection hj with hj
      subst hj
      rw [Addr.add_mid, Nat.mul_comm 2 i]
      exact f2
set_option maxRecDepth 100000 in
theorem lent_any (w : World) (ao : Option Addr) (b off len cap : Nat) (l : List (Int × Nat)) (hr : RdB w ao b off len l) (hmx : len ≤ 8796093021952) (hn : ao = none → cap = 0) :
    Calls Tryd.prog 48 #[.slice ao len cap] w fun e w' => ∃ g c, e = .returned (.slice (some ⟨g, 0, none⟩) len c) ∧ Cv.OwnB w' w.heap.size (.slice (some ⟨g, 0, none⟩) (len + 1) c) (l ++ [(77, 0)]) ∧ len + 1 ≤ c ∧ Below w.heap.size w w' := by
  obtain rfl := hr.len
  obtain ⟨i0, hi, hz0, hz1, hz2⟩ := info_parts Cv.Tryd.infoB
  have HI : Hid (Tryd.prog.info? 49 = some i0 ∧ i0.zero = some (.agg #[.int .i64 0, .int .u64 0]) ∧ i0.size = 2 ∧ i0.bytes = 16) := ⟨hi, hz0, hz1, hz2⟩
  have HR := hide (rdb_rdc (cap := cap) hr hn)
  have HM := hide hmx
  clear hi hz0 hz1 hz2 hr hn hmx
  go_enter Tryd.func48, Tryd.ntmps48
  go_wp2_with (at_builtin; refine Cv.wpList_append_ap w rfl _ _ _ rfl w.heap.size 49 i0 (.agg #[.int .i64 0, .int .u64 0]) 2 16 Tryd.underlying58 HI.out.1 HI.out.2.1 HI.out.2.2.1 HI.out.2.2.2 rfl (by decide) _ 0 [] rfl (World.ownsRow_nil _ _ _ _) _ l.length (Cv.cB l) rfl HR.out (Cv.cB_len l) (Cv.cB_one l) ?_ ?_ (Nat.le_refl _) ?_)
  · have := HM.out; unfold maxLen; omega
  · have := HM.out; omega
  intro v1 w1 h1
  have hb1 : Below w.heap.size w w1 := (Below.refl w.heap.size w).grown h1.grown (Nat.le_refl _) (fun j hj => by cases hj)
  have HO1 := hide h1.own
  have HB1 := hide hb1
  clear h1 hb1
  go_wp2_with (at_builtin; refine Cv.wpList_append_ap _ rfl _ _ _ rfl w.heap.size 49 i0 (.agg #[.int .i64 0, .int .u64 0]) 2 16 Tryd.underlying58 HI.out.1 HI.out.2.1 HI.out.2.2.1 HI.out.2.2.2 rfl (by decide) _ l.length (Cv.cB l) rfl (Cv.ownB_next HO1.out (bal (Below.refl w1.heap.size w1) _)) _ 1 (Cv.cB [(77, 0)]) rfl (Cv.rdc_block w1 77 0 49) rfl (Cv.cB_one [(77, 0)]) ?_ ?_ ?_ ?_)
  · have := HM.out; unfold maxLen; omega
  · have := HM.out; omega
  · have := HB1.out.size; simp; omega
  intro v2 w2 h2
  have hb2 := (Cv.ownB_step HB1.out HB1.out.size HO1.out h2.grown).1
  have HO2 : Hid (Cv.OwnB w2 w.heap.size v2 (l ++ [(77, 0)])) := by
    show Cv.OwnB w2 w.heap.size v2 (l ++ [(77, 0)])
    rw [Cv.OwnB, Cv.cB_app, List.length_append]; exact h2.own
  have HB2 := hide hb2
  clear h2 hb2
  obtain ⟨g, c, rfl, hc⟩ : ∃ g c, v2 = .slice (some ⟨g, 0, none⟩) (l.length + 1) c ∧ l.length + 1 ≤ c := by
    obtain ⟨h1, h2⟩ := HO2.out
    rcases h2 with ⟨_, h2⟩ | ⟨g, c, cur, hv, hg, hh, hc1, _⟩
    · simp at h2
    · rw [List.length_append, List.length_singleton] at hv hc1
      exact ⟨g, c, hv, hc1⟩
  have hc2 : (l.length : Int) ≤ (c : Int) := by omega
  go_wp2
  go_ret
  exact ⟨g, c, rfl, HO2.out, hc, HB2.out⟩
theorem own_cellB {w : World} {B g n c : Nat} {l : List (Int × Nat)} (h : Cv.OwnB w B (.slice (some ⟨g, 0, none⟩) n c) l) {j : Nat} (hj : j < l.length) : w.cell? ⟨g, j * 2, none⟩ = some (.int .i64 (l.getD j (0, 0)).1) ∧ w.cell? ⟨g, j * 2 + 1, none⟩ = some (.int .u64 ((l.getD j (0, 0)).2 : Nat)) := by
  have hcl := h.cells (g := g) rfl
  obtain ⟨⟨a, b⟩, hq⟩ : ∃ q, l[j] = q := ⟨_, rfl⟩
  have hget : l[j]? = some (a, b) := by rw [List.getElem?_eq_getElem hj, hq]
  obtain ⟨e1, e2⟩ := Cv.cB_get l j a b hget
  have f1 := hcl _ _ e1
  have f2 := hcl _ _ e2
  rw [Addr.add_mid, Nat.zero_add, Nat.mul_comm] at f1 f2
  rw [List.getD_eq_getElem?_getD, hget]
  exact ⟨f1, f2⟩
theorem room_rdb {w : World} {B g n c : Nat} {l : List (Int × Nat)} (h : Cv.OwnB w B (.slice (some ⟨g, 0, none⟩) n c) (l ++ [(77, 0)])) (hf : ∀ b ∈ l, Fitb b.1 b.2) : RdB w (some ⟨g, 0, none⟩) g 0 l.length l :=
  ⟨rfl, fun _ => rfl, fun j hj => by
    have := own_cellB h (j := j) (by simp; omega)
    rw [List.getD_eq_getElem?_getD, List.getElem?_append_left hj, ← List.getD_eq_getElem?_getD] at this
    rw [Nat.zero_add]
    exact this, hf⟩
set_option maxRecDepth 100000 in
theorem kept_any (w : World) (B g c : Nat) (l : List (Int × Nat)) (ao : Option Addr) (b off cap : Nat) (ow : Cv.OwnB w B (.slice (some ⟨g, 0, none⟩) (l.length + 1) c) (l ++ [(77, 0)])) (hc : l.length + 1 ≤ c) (r : RdB w ao b off l.length l) (hm : l.length ≤ 8796093021952) :
    Calls Tryd.prog 50 #[.slice (some ⟨g, 0, none⟩) l.length c, .slice ao l.length cap] w fun e w' => e = .returned (.bool true) ∧ Below w.heap.size w w' := by
  have k77 := (own_cellB (j := l.length) ow (by simp)).1
  rw [List.getD_eq_getElem?_getD, List.getElem?_append_right (Nat.le_refl _), Nat.sub_self] at k77
  have kk : w.cell? ⟨g, l.length * 2, none⟩ = some (.int .i64 77) := k77
  have HK : Hid (∀ W, Below w.heap.size w W → RdB W (some ⟨g, 0, none⟩) g 0 l.length l ∧ RdB W ao b off l.length l) := fun W hb => ⟨(room_rdb ow r.fit).below hb, r.below hb⟩
  have hm' : (l.length : Int) ≤ 8796093021952 := by omega
  have hm0 : (0 : Int) ≤ (l.length : Int) := Int.natCast_nonneg _
  have f1 : (l.length : Int) + 1 ≤ (c : Int) := by omega
  have f3 : l.length + 1 ≤ c := by omega
  have f4 : (l.length : Int) < (l.length : Int) + 1 := by omega
  clear r ow k77
  generalize hn : l.length = n at *
  go_enter Tryd.func50, Tryd.ntmps50
  go_wp2
  go_loopg [6] n (fun gg i wr => ∃ k : Nat, k ≤ n ∧ gg = n - k ∧ i = .int .i64 (k : Int) ∧ Below w.heap.size w wr)
  case atStart =>
    go_light
    exact ⟨0, Nat.zero_le _, rfl, rfl, Below.refl _ _⟩
  case round =>
    obtain ⟨k, hk, rfl, rfl, hb⟩ := hrel
    have hk0 : (0 : Int) ≤ (k : Int) := Int.natCast_nonneg _
    by_cases hlt : k < n
    · have hlt' : (k : Int) < (n : Int) := by omega
      obtain ⟨r1, r2⟩ := HK.out wr hb
      obtain rfl := r2.addr (by omega)
      obtain ⟨c1, c2⟩ := r1.cell k hlt
      obtain ⟨c3, c4⟩ := r2.cell k hlt
      rw [Nat.zero_add] at c1 c2
      have HB : Hid (Below w.heap.size w wr) := hb
      generalize l.getD k (0, 0) = x at *
      clear r1 r2 hb kk
      go_wp2
      go_quiet (fail)
      go_wp2
      go_roundg (n - (k + 1))
      case rel =>
        go_light
        exact ⟨k + 1, by omega, rfl, by go_num, Cv.below_drewN HB.out _⟩
      case measure => go_light; omega
    · obtain rfl : k = n := by omega
      have hlt' : ¬ (k : Int) < (k : Int) := by omega
      have HB : Hid (Below w.heap.size w wr) := hb
      clear hb
      go_wp2
      go_ret
      exact ⟨rfl, HB.out⟩
end Go.Proofs.YtabdobdopcfllaaDoor
