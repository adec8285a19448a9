/-
  The reference of peaks: Peaks, Root, Size. Own work.
-/
import Derived.Test.YtncndefggegicabDoorKRefB
namespace Go.Proofs.YtncndefggegicabDoor
open Go.RowKit
attribute [local go_sem ↓] Go.wp_at_zero Go.wp_at_succ
set_option maxRecDepth 100000 in
theorem refpeaks_own (w : World) (p : Nat) (v : Value) (k : Int) (n : Nat) (P : List ByteArray) (hr : Rf w p v k n P) :
    Calls Tryd.prog 11 #[.pointer (some ⟨p, 0, none⟩)] w fun e w' => ∃ u, e = .returned u ∧ OwnS w' w.heap.size u P ∧ Below w.heap.size w w' := by
  obtain ⟨ao, cap, hv⟩ := ownK_slice hr.own
  rw [zip_len hr] at hv
  have HR : Hid (∀ W, Below w.heap.size w W → Rf W p v k n P) := fun W hb => hr.next hb (Nat.le_refl _)
  have HC2 : Hid (∀ W, Below w.heap.size w W → W.cell? ⟨p, 2, none⟩ = some (.slice ao P.length cap)) := fun W hb => by rw [← hv]; exact (HR.out W hb).c2
  have HV := hide hv
  have hb := Below.refl w.heap.size w
  clear hr hv
  go_enter Tryd.func11, Tryd.ntmps11
  go_wp2
  go_loopg [3, 4] P.length (fun g u i wr => ∃ j : Nat, j ≤ P.length ∧ g = P.length - j ∧ i = .int .i64 (j : Int) ∧ OwnS wr w.heap.size u (P.take j) ∧ Below w.heap.size w wr)
  case atStart =>
    go_light
    exact ⟨0, Nat.zero_le _, rfl, rfl, owns_nil w _, hb⟩
  case round =>
    clear hb
    obtain ⟨j, hj, rfl, rfl, ho, hb⟩ := hrel
    have y2 := HC2.out wr hb
    by_cases hlt : j < P.length
    · have hz : (j : Int) < (P.length : Int) := by omega
      have hz0 : (0 : Int) ≤ (j : Int) := Int.natCast_nonneg _
      have R := HR.out wr hb
      have hz9 : (j : Int) < 41 := by have := R.short; omega
      obtain ⟨g, cap2, hv2, _, hcp⟩ := ownK_form R.own (by rw [zip_len R]; omega)
      rw [zip_len R] at hv2 hcp
      rw [HV.out] at hv2
      obtain ⟨e1, _, e3⟩ := Value.slice.inj hv2
      subst e1
      have oc := R.own
      rw [HV.out, e3] at oc
      have cd := (ownK_cell oc (j := j) (by rw [zip_len R]; exact hlt)).2
      rw [R.dig hlt] at cd
      obtain ⟨d, hd⟩ : ∃ d, P.getD j ByteArray.empty = d := ⟨_, rfl⟩
      rw [hd] at cd
      have HE : Hid (P.take (j + 1) = P.take j ++ [d] ∧ d.size ≤ 9223372036854775807 ∧ (P.take j).length ≤ 41) := ⟨by rw [List.take_add_one, ← hd, List.getD_eq_getElem?_getD, List.getElem?_eq_getElem hlt]; rfl, by rw [← hd]; have := R.small _ (getD_mem hlt); omega, by rw [List.length_take]; have := R.short; omega⟩
      have HO := hide ho
      have HB := hide hb
      clear R oc hv2 e3 hd ho hb hcp
      go_wp2_with (at_builtin; refine wpList_append_S _ rfl _ _ rfl w.heap.size _ (P.take j) rfl (own_al HO.out _) (some ⟨wr.heap.size, 0, none⟩) wr.heap.size 0 1 [d] rfl (rds_one wr d HE.out.2.1) (fun h => by cases h) ?c1 ?c2 ?_)
      case c1 => first | omega | (simp; omega)
      case c2 => have := HB.out.size; simp; omega
      intro v3 w3 h3 hb3
      have HX : Hid (OwnS w3 w.heap.size v3 (P.take (j + 1)) ∧ Below w.heap.size w w3) := ⟨by rw [HE.out.1]; exact h3, (bal HB.out _).trans hb3⟩
      clear h3 hb3
      go_wp2
      go_roundg (P.length - (j + 1))
      case rel =>
        go_light
        exact ⟨j + 1, by omega, rfl, by go_num, HX.out.1, HX.out.2⟩
      case measure => go_light; omega
    · obtain rfl : j = P.length := by omega
      have hz : ¬ ((P.length : Int) < (P.length : Int)) := by omega
      rw [List.take_length] at ho
      go_wp2
      go_ret
      exact ⟨_, rfl, ho, hb⟩
set_option maxRecDepth 100000 in
set_option maxHeartbeats 1000000 in
theorem refrroot_any (w : World) (ht : Tr w) (p : Nat) (v : Value) (k : Int) (n : Nat) (P : List ByteArray) (hr : Rf w p v k n P) (r : ByteArray) (hq : Hid (rgD k n P = r)) :
    Calls Tryd.prog 13 #[.pointer (some ⟨p, 0, none⟩)] w fun e w' => e = .returned (.agg #[.int .u64 (n : Int), .string r]) ∧ Below w.heap.size w w' := by
  have hb := bal (Below.refl w.heap.size w) (.cells #[.int .u64 0, .string ⟨#[]⟩] 40)
  have HPk : Hid (∀ W, Below w.heap.size w W → Calls Tryd.prog 11 #[.pointer (some ⟨p, 0, none⟩)] W fun e w' => ∃ ao b cap, e = .returned (.slice ao P.length cap) ∧ RdS w' ao b 0 P.length P ∧ Below W.heap.size W w') := fun W hb =>
    (refpeaks_own W p v k n P (hr.next hb (Nat.le_refl _))).mono fun e w' ⟨u, h1, h2, h3⟩ => by
      obtain ⟨ao, b, cap, rfl, h4, _, _⟩ := owns_rds h2 (fun s hs => Nat.le_trans (hr.small s hs) (by decide))
      exact ⟨ao, b, cap, h1, h4, h3⟩
  have HRo : Hid (∀ W ao b cap, Below w.heap.size w W → RdS W ao b 0 P.length P → Calls Tryd.prog 26 #[.int .i64 k, .int .u64 (n : Int), .slice ao P.length cap] W fun e w' => e = .returned (.string r) ∧ Below W.heap.size W w') := fun W ao b cap hb h => refroot_any W (ht.next hb) k n (by have := hr.hn; omega) ao b 0 P.length cap P h hr.small (by have := hr.short; omega) r hq.out
  have HK : Hid (∀ W, Below w.heap.size w W → W.cell? ⟨p, 0, none⟩ = some (.int .i64 k) ∧ W.cell? ⟨p, 1, none⟩ = some (.int .u64 (n : Int))) := fun W hb => by
    have h := hr.next hb (Nat.le_refl _)
    exact ⟨h.c0, h.c1⟩
  have HP0 : Hid (p < w.heap.size) := hr.lt
  clear hq ht hr
  go_enter Tryd.func13, Tryd.ntmps13
  go_upto_region 1 with (fail)
  obtain ⟨w0, hw0⟩ : ∃ w0, w.alloc (.cells #[.int .u64 0, .string ⟨#[]⟩] 40) = w0 := ⟨_, rfl⟩
  have HN : Hid (w0.cell? ⟨w.heap.size, 0, none⟩ = some (.int .u64 0) ∧ w0.cell? ⟨w.heap.size, 1, none⟩ = some (.string ⟨#[]⟩) ∧ w0.frozen? ⟨w.heap.size, 0, none⟩ = false ∧ w0.frozen? ⟨w.heap.size, 1, none⟩ = false ∧ w.heap.size < w0.heap.size) := by
    subst hw0
    refine ⟨?_, ?_, ?_, ?_, ?_⟩ <;> simp
  rw [hw0] at hb
  try rw [hw0]
  clear hw0
  have hd : Below w.heap.size w w0.drew := hb.drew
  have HN2 : Hid (∀ W, Below w0.drew.heap.size w0.drew W → W.cell? ⟨w.heap.size, 0, none⟩ = some (.int .u64 0) ∧ W.cell? ⟨w.heap.size, 1, none⟩ = some (.string ⟨#[]⟩) ∧ W.frozen? ⟨w.heap.size, 0, none⟩ = false ∧ W.frozen? ⟨w.heap.size, 1, none⟩ = false) := fun W h => by
    obtain ⟨a1, a2, a3, a4, a5⟩ := HN.out
    exact ⟨(h.cell (p := ⟨w.heap.size, 0, none⟩) a5).trans a1, (h.cell (p := ⟨w.heap.size, 1, none⟩) a5).trans a2, (h.frozen (p := ⟨w.heap.size, 0, none⟩) a5).trans a3, (h.frozen (p := ⟨w.heap.size, 1, none⟩) a5).trans a4⟩
  have HK3 : Hid (∀ W x y, Below w.heap.size w W → (fun w' : World => w'.cell? ⟨p, 0, none⟩ = some (.int .i64 k) ∧ w'.cell? ⟨p, 1, none⟩ = some (.int .u64 (n : Int))) ((W.setCell ⟨w.heap.size, 0, none⟩ x).setCell ⟨w.heap.size, 1, none⟩ y)) := fun W x y h => by
    exact HK.out _ ((h.setCell (p := ⟨w.heap.size, 0, none⟩) (Nat.le_refl _) _).setCell (p := ⟨w.heap.size, 1, none⟩) (Nat.le_refl _) _)
  obtain ⟨y0, y1⟩ := HK.out w0.drew hd
  clear hb HN
  go_region_held3 (fun w' => w'.cell? ⟨p, 0, none⟩ = some (.int .i64 k) ∧ w'.cell? ⟨p, 1, none⟩ = some (.int .u64 (n : Int))) (first | assumption | (exact HK.out _ hd) | (exact HK.out _ (bnext (bnext hd hb2) hb3)) | (exact HK3.out _ _ _ (bnext (bnext hd hb2) hb3)) | (exact HK.out _ (bnext hd hb2))) (first
    | (go_at_call 11; with_reducible refine (HPk.out _ hd).mono ?_; rintro e w2 ⟨ao2, b2, c2, rfl, r2, hb2⟩)
    | (go_at_call 26; with_reducible refine (HRo.out _ _ _ _ (bnext hd hb2) r2).mono ?_; rintro e w3 ⟨rfl, hb3⟩; obtain ⟨k0, k1, f0, f1⟩ := HN2.out _ (bnext hb2 hb3)))
  go_wp2
  have s0 : (w3.setCell ⟨w.heap.size, 0, none⟩ (.int .u64 (n : Int))).cell? ⟨w.heap.size, 0, none⟩ = some (.int .u64 (n : Int)) := World.cell?_setCell_same _ _ _ k0
  have s1 : ((w3.setCell ⟨w.heap.size, 0, none⟩ (.int .u64 (n : Int))).setCell ⟨w.heap.size, 1, none⟩ (.string r)).cell? ⟨w.heap.size, 1, none⟩ = some (.string r) :=
    World.cell?_setCell_same _ _ _ ((World.cell?_setCell_other _ _ _ _ (by simp)).trans k1)
  refine bodyPost_ret (v := .agg #[.int .u64 (n : Int), .string r]) (by simp [results, Tryd.results13, go_sem, s0, s1]) rfl ⟨rfl, ?_⟩
  exact ((bnext (bnext hd hb2) hb3).setCell (p := ⟨w.heap.size, 0, none⟩) (Nat.le_refl _) _).setCell (p := ⟨w.heap.size, 1, none⟩) (Nat.le_refl _) _
end Go.Proofs.YtncndefggegicabDoor
