/-
  Walks of codec's laws: still. Own work.
-/
import Derived.Test.YtelglfmppmdmoaaGLent
namespace Go.Proofs.Ytelglfmppmdmoaa
open Go.RowKit
attribute [local go_sem ↓] Go.wp_at_zero Go.wp_at_succ
theorem mark_S {w : World} {B gs cs : Nat} {S : List Nat} (o : Cv.Own w B (.slice (some ⟨gs, 0, none⟩) (S.length + 2) cs) (S ++ [7000000, 7000001])) : w.cell? ⟨gs, S.length, none⟩ = some (.int .u64 7000000) ∧ w.cell? ⟨gs, S.length + 1, none⟩ = some (.int .u64 7000001) := by
  have r : RdU w (some ⟨gs, 0, none⟩) gs 0 (S ++ [7000000, 7000001]).length (S ++ [7000000, 7000001]) := own_rdu (l' := []) (by rw [List.append_nil]; exact o)
  have h1 := r.at (j := S.length) (by simp)
  have h2 := r.at (j := S.length + 1) (by simp)
  rw [Nat.zero_add] at h1 h2
  rw [List.getD_eq_getElem?_getD, List.getElem?_append_right (Nat.le_refl _), Nat.sub_self] at h1
  rw [List.getD_eq_getElem?_getD, List.getElem?_append_right (Nat.le_succ _), Nat.succ_sub (Nat.le_refl _), Nat.sub_self] at h2
  exact ⟨h1, h2⟩
theorem mark_D {w : World} {B gd cd : Nat} {D : List ByteArray} (o : OwnS w B (.slice (some ⟨gd, 0, none⟩) (D.length + 2) cd) (D ++ [oneB, twoB])) (hs : ∀ d ∈ D, d.size ≤ 9223372036854775807) : w.cell? ⟨gd, D.length, none⟩ = some (.string oneB) ∧ w.cell? ⟨gd, D.length + 1, none⟩ = some (.string twoB) := by
  have r : RdS w (some ⟨gd, 0, none⟩) gd 0 (D ++ [oneB, twoB]).length (D ++ [oneB, twoB]) := own_rds (l' := []) (by rw [List.append_nil]; exact o) (fun d hd => by
    rcases List.mem_append.1 hd with hd | hd
    · exact hs d hd
    · simp at hd; rcases hd with rfl | rfl <;> decide)
  have h1 := r.at (k := D.length) (by simp)
  have h2 := r.at (k := D.length + 1) (by simp)
  rw [Nat.zero_add] at h1 h2
  rw [List.getD_eq_getElem?_getD, List.getElem?_append_right (Nat.le_refl _), Nat.sub_self] at h1
  rw [List.getD_eq_getElem?_getD, List.getElem?_append_right (Nat.le_succ _), Nat.succ_sub (Nat.le_refl _), Nat.sub_self] at h2
  exact ⟨h1, h2⟩
set_option maxRecDepth 100000 in
set_option maxHeartbeats 4000000 in
theorem still_yes (w : World) (sa : Option Addr) (sb so sc : Nat) (da : Option Addr) (db dO dc : Nat) (P : PV) (hp : RdP w sa sb so sc da db dO dc P) (B gs cs gd cd : Nat) (o1 : Cv.Own w B (.slice (some ⟨gs, 0, none⟩) (P.S.length + 2) cs) (P.S ++ [7000000, 7000001])) (o2 : OwnS w B (.slice (some ⟨gd, 0, none⟩) (P.D.length + 2) cd) (P.D ++ [oneB, twoB])) (hc1 : P.S.length + 2 ≤ cs) (hc2 : P.D.length + 2 ≤ cd) :
    Calls Try.prog 18 #[pvP P (some ⟨gs, 0, none⟩) cs (some ⟨gd, 0, none⟩) cd, pvP P sa sc da dc] w fun e w' => e = .returned (.bool true) ∧ Below w.heap.size w w' := by
  have hq : RdP w (some ⟨gs, 0, none⟩) gs 0 cs (some ⟨gd, 0, none⟩) gd 0 cd P := ⟨own_rdu o1, own_rds o2 hp.rd.sz, hp.old64, hp.sz64, hp.mS, hp.mD, by omega⟩
  obtain ⟨kd, k, old, size, S, D⟩ := P
  simp only at o1 o2 hc1 hc2
  obtain ⟨W0, hW0⟩ : ∃ W0, (w.alloc (.cells #[.int .i64 kd, .int .i64 k, .int .u64 (old : Int), .int .u64 (size : Int), .slice (some ⟨gs, 0, none⟩) S.length cs, .slice (some ⟨gd, 0, none⟩) D.length cd] 26)).alloc (.cells #[.int .i64 kd, .int .i64 k, .int .u64 (old : Int), .int .u64 (size : Int), .slice sa S.length sc, .slice da D.length dc] 26) = W0 := ⟨_, rfl⟩
  have hb : Below w.heap.size w W0 := by rw [← hW0]; exact bal (bal (Below.refl _ _) _) _
  have h6 : Six W0 w.heap.size (.int .i64 kd) (.int .i64 k) (.int .u64 (old : Int)) (.int .u64 (size : Int)) (.slice (some ⟨gs, 0, none⟩) S.length cs) (.slice (some ⟨gd, 0, none⟩) D.length cd) := by rw [← hW0]; exact (six_new w _ _ _ _ _ _).next (bal (Below.refl _ _) _)
  have h7 : Six W0 (w.heap.size + 1) (.int .i64 kd) (.int .i64 k) (.int .u64 (old : Int)) (.int .u64 (size : Int)) (.slice sa S.length sc) (.slice da D.length dc) := by
    rw [← hW0]
    have := six_new (w.alloc (.cells #[.int .i64 kd, .int .i64 k, .int .u64 (old : Int), .int .u64 (size : Int), .slice (some ⟨gs, 0, none⟩) S.length cs, .slice (some ⟨gd, 0, none⟩) D.length cd] 26)) (.int .i64 kd) (.int .i64 k) (.int .u64 (old : Int)) (.int .u64 (size : Int)) (.slice sa S.length sc) (.slice da D.length dc)
    rwa [World.size_alloc] at this
  have HSm := same_yes W0 _ _ _ _ _ _ _ _ _ _ _ _ _ _ _ _ _ (hq.next hb) (hp.next hb)
  simp only [pvP, pv6] at HSm ⊢
  have HM : Hid (∀ F, Below W0.heap.size W0 F → (F.cell? ⟨gs, S.length, none⟩ = some (.int .u64 7000000) ∧ F.cell? ⟨gs, S.length + 1, none⟩ = some (.int .u64 7000001)) ∧ (F.cell? ⟨gd, D.length, none⟩ = some (.string oneB) ∧ F.cell? ⟨gd, D.length + 1, none⟩ = some (.string twoB)) ∧ Below w.heap.size w F) := fun F hF => ⟨mark_S (Cv.ownB_next o1 (bnext hb hF)), mark_D (own_next o2 (bnext hb hF) (Nat.le_refl _)) hp.rd.sz, bnext hb hF⟩
  have hS1 : (S.length : Int) ≤ 17592186044416 := by have := hp.mS; simp only at this; omega
  have hD1 : (D.length : Int) ≤ 8796093022208 := by have := hp.mD; simp only at this; omega
  have hS2 : (S.length : Int) + 2 ≤ (cs : Int) := by omega
  have hD2 : (D.length : Int) + 2 ≤ (cd : Int) := by omega
  have hS0 : (0 : Int) ≤ (S.length : Int) := Int.natCast_nonneg _
  have hD0 : (0 : Int) ≤ (D.length : Int) := Int.natCast_nonneg _
  have hS3 : (S.length : Int) < (S.length : Int) + 2 := by omega
  have hD3 : (D.length : Int) < (D.length : Int) + 2 := by omega
  have hS4 : (S.length : Int) + 1 < (S.length : Int) + 2 := by omega
  have hD4 : (D.length : Int) + 1 < (D.length : Int) + 2 := by omega
  obtain ⟨a0, a1, a2, a3, a4, a5⟩ := h6.cells
  obtain ⟨b0, b1, b2, b3, b4, b5⟩ := h7.cells
  clear h6 h7 hb hp hq o1 o2 hc1 hc2
  go_enter Try.func18, Try.ntmps18
  go_upto_region 1 with (fail)
  try rw [hW0]
  clear hW0
  generalize S.length = ms at *
  generalize D.length = md at *
  go_wp2_with (go_at_call 13; with_reducible refine HSm.mono ?_; rintro x w1 ⟨rfl, hb1⟩; (obtain ⟨⟨c1, c2⟩, ⟨c3, c4⟩, c5⟩ := HM.out _ hb1))
  go_ret
  exact ⟨rfl, c5⟩
end Go.Proofs.Ytelglfmppmdmoaa
