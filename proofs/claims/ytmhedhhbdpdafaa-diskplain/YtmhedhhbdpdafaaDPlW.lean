/-
  DiskPlain. Own work.
-/
import Derived.Test.YtmhedhhbdpdafaaDPl
import Derived.Test.YtmhedhhbdpdafaaDBx
import Derived.Deep.CutBlock
namespace Go.Proofs.Ytmhedhhbdpdafaa
open Go.RowKit
/-- The texts. -/
def tX (f : Nat → FV) : Nat → ByteArray := fun i => ⟨(f i).now.toArray⟩
/-- The names. -/
def nmB (k : Nat) : ByteArray := ⟨(nmK k).toArray⟩
theorem Tx.le {D : DV} {room acts k : Nat} {f : Nat → FV} (h : Tx D room acts f) (hr : room ≤ 4000) (hk : k < 3) : (f k).now.length ≤ 4000 := by
  have := h.free
  match k, hk with
  | 0, _ => omega
  | 1, _ => omega
  | 2, _ => omega
theorem nm_small {k : Nat} (hk : k < 3) : (nmB k).size ≤ maxLen := by
  match k, hk with
  | 0, _ => decide
  | 1, _ => decide
  | 2, _ => decide
theorem tx_upd (f : Nat → FV) (k : Nat) (g : FV) (y : ByteArray) (hy : y.data.toList = g.now) (i : Nat) : tX (updV f k g) i = if i = k then y else tX f i := by
  unfold tX updV
  split
  · exact ba_ext (by rw [hy])
  · rfl
theorem y_wr {X dd y0 : ByteArray} {off : Nat} (_ho : off ≤ X.size) (h0 : X.extract 0 off ++ dd = y0) : y0.data.toList = X.data.toList.take off ++ dd.data.toList := by
  rw [← h0, ByteArray.data_append, Array.toList_append, ext_take]
theorem wr_a {X dd y0 y : ByteArray} {off : Nat} (ho : off ≤ X.size) (h0 : X.extract 0 off ++ dd = y0) (hy : y0 ++ X.extract y0.size X.size = y) : y.data.toList = wr X.data.toList off dd.data.toList := by
  have e0 := y_wr ho h0
  have s0 : y0.size = off + dd.data.toList.length := by rw [← size_list, e0, List.length_append, List.length_take, size_list]; omega
  rw [← hy, ByteArray.data_append, Array.toList_append, e0, ext_drop, s0]
  rfl
theorem wr_b {X dd y0 : ByteArray} {off : Nat} (ho : off ≤ X.size) (h0 : X.extract 0 off ++ dd = y0) (hs : X.size ≤ off + dd.size) : y0.data.toList = wr X.data.toList off dd.data.toList := by
  rw [y_wr ho h0]
  unfold wr
  rw [List.drop_eq_nil_of_le (by rw [size_list, size_list]; exact hs), List.append_nil]
theorem idx3 (i : Nat) (hi : i < 3) : ∃ k : Nat, (i + 2) % 3 = k ∧ k < 3 ∧ (i : Int) < 3 ∧ (0 : Int) ≤ (k : Int) ∧ (k : Int) < 3 ∧ (IntKind.i64.wrap ((i : Int) + 2) = (i : Int) + 2 ∧ ((i : Int) + 2) % 3 = (k : Int) ∧ IntKind.i64.wrap (k : Int) = (k : Int) ∧ wrap64 (k : Int) = (k : Int) ∧ IntKind.i64.wrap ((i : Int) + 1) = (i : Int) + 1 ∧ Int.tmod ((i : Int) + 2) 3 = (k : Int)) := by
  refine ⟨_, rfl, by omega, by omega, by omega, by omega, by rw [IntKind.wrap_i64]; omega, by omega, by rw [IntKind.wrap_i64]; omega, by unfold wrap64; omega, by rw [IntKind.wrap_i64]; omega, ?_⟩
  rw [Int.tmod_eq_emod_of_nonneg (by omega)]; omega
/-- What is wanted at the end. -/
def wl (f : Nat → FV) : Nat → List (List UInt8 × List UInt8)
  | 0 => []
  | i + 1 => wl f i ++ (if (f ((i + 2) % 3)).now = [] then [] else [(nmK ((i + 2) % 3), (f ((i + 2) % 3)).now)])
theorem wl_len (f : Nat → FV) (i : Nat) : (wl f i).length ≤ i := by
  induction i with
  | zero => exact Nat.le_refl _
  | succ i ih =>
    rw [wl, List.length_append]
    split <;> simp <;> omega
theorem Tx.want {D : DV} {room acts : Nat} {f : Nat → FV} (h : Tx D room acts f) : Go.Proofs.Ytmhedhhbdpdafaa.tell D.L = wl f 3 := by
  rw [h.tell]
  rfl
set_option maxRecDepth 100000 in
set_option maxHeartbeats 4000000 in
theorem plain_walk (w : World) (room : Int) (a0 : Option Addr) (b0 o0 n0 c0 : Nat) (l0 : Nat → OpV) (r0 : RdO w a0 b0 o0 n0 l0) (m0 : n0 ≤ maxLen) :
    Calls Try.prog 3 #[.int .i64 room, .slice a0 n0 c0] w fun e w' => e = .returned (.bool true) ∧ Below w.heap.size w w' := by
  have HR : Hid (RdO w a0 b0 o0 n0 l0 ∧ n0 ≤ maxLen) := ⟨r0, m0⟩
  have HA := alive_any w
  obtain ⟨r, hr⟩ : ∃ r, bentV room 4000 = r := ⟨_, rfl⟩
  have hr4 : r ≤ 4000 := by rw [← hr]; exact bentV_le _ _
  have HBr : Hid (∀ W, Calls Try.prog 10 #[.int .i64 room, .int .i64 4000] W fun e w' => e = .returned (.int .i64 (r : Int)) ∧ w' = W) := fun W => by rw [← hr]; exact bent_any W room 4000 (by omega)
  have HN : Hid (∀ W, Calls Try.prog 11 #[.int .i64 (r : Int)] W fun e w' => ∃ p S, e = .returned (.pointer (some ⟨p, 0, none⟩)) ∧ Dsk w' p S (newD r) ∧ (∀ x, S x → W.heap.size ≤ x) ∧ Below W.heap.size W w') := fun W => new_any W r r (by simp) (by omega)
  clear r0 m0 hr
  go_enter Try.func3, Try.ntmps3
  go_upto_region 5 with (first
    | (go_at_call 9; (with_reducible refine HA.mono ?_); rintro e w1 ⟨rfl, u1⟩)
    | (go_at_call 10; (with_reducible refine (HBr.out _).mono ?_); rintro e w2 ⟨rfl, rfl⟩)
    | (go_at_call 11; (with_reducible refine (HN.out _).mono ?_); rintro e w2 ⟨p, S, rfl, d1, s1, u2⟩))
  have b2 : Bx w w2 p (newD r) [] := bx_new d1 (fun x hx => Nat.le_trans u1.size (s1 x hx)) (bnext u1 u2)
  clear d1 s1 u1 u2 HA HBr HN
  have HB2 := hide b2
  go_upto_region 8 with (fail)
  obtain ⟨w5, hw5⟩ : ∃ W, (w2.alloc (.cells #[.string ⟨#[97]⟩, .string ⟨#[98]⟩, .string ⟨#[]⟩] 9)).alloc (.cells #[.string ⟨#[]⟩, .string ⟨#[]⟩, .string ⟨#[]⟩] 9) = W := ⟨_, rfl⟩
  have HW5 := hide hw5
  have b5 : Bx w w5 p (newD r) [(w2.heap.size + 1, tB (tX fun _ => fz)), (w2.heap.size, tB nmB)] := by
    have q1 := HB2.out.alloc (tB nmB)
    have q2 := q1.alloc (tB (tX fun _ => fz))
    rw [← hw5]
    have hz : (w2.alloc (tB nmB)).heap.size = w2.heap.size + 1 := by simp
    rw [hz] at q2
    exact q2
  rw [hw5]
  obtain ⟨bn, hbn⟩ : ∃ b, w2.heap.size = b := ⟨_, rfl⟩
  rw [hbn] at b5 ⊢
  obtain ⟨bt, hbt⟩ : ∃ b, bn + 1 = b := ⟨_, rfl⟩
  rw [hbt] at b5 ⊢
  have hne : bn ≠ bt := by omega
  have HNe := hide hne
  have HB5 := hide b5
  clear hw5 HW5 hbn hbt hne HB2 b2 b5
  go_wp2
  go_loopg [8, 9] 80 (fun g xa x wr => ∃ (j A : Nat) (D : DV) (f : Nat → FV), j ≤ 80 ∧ g = 80 - j ∧ xa = .int .i64 (A : Int) ∧ x = .int .i64 (j : Int) ∧ A ≤ j ∧ Tx D r A f ∧ Bx w wr p D [(bt, tB (tX f)), (bn, tB nmB)] ∧ j ≤ n0)
  case atStart =>
    exact ⟨0, 0, newD r, fun _ => fz, by omega, rfl, rfl, rfl, Nat.le_refl _, tx_new r, HB5.out, Nat.zero_le _⟩
  case round =>
    clear HB5
    obtain ⟨j, A, D, f, hj, rfl, rfl, rfl, hA, htx, bx, hjn⟩ := hrel
    by_cases hlt : j < n0 ∧ j < 80
    · obtain ⟨hl1, hl2⟩ := hlt
      obtain ⟨q0, q2⟩ := HR.out
      obtain ⟨a, ha⟩ : ∃ a, o0 + j * 7 = a := ⟨_, rfl⟩
      obtain ⟨k0, k1, k2, k3, k4, k5, k6⟩ := q0.seven bx.below hl1 ha
      have hok := (q0.cell j hl1).2.2.2.2.2.2.2
      obtain rfl := q0.ptr (by omega)
      generalize l0 j = o at *
      obtain ⟨kind, which, nmo, dt, at_, n, ka, kc, kb, ko, keep⟩ := o
      simp only at k0 k1 k2 k3 k4 k5 k6 hok
      obtain ⟨kl, hkl⟩ : ∃ kl, keep.length = kl := ⟨_, rfl⟩
      rw [hkl] at k6
      obtain ⟨w4, hw4⟩ : ∃ W, wr.alloc (.cells #[.int .i64 kind, .int .i64 which, .string nmo, .string dt, .int .i64 at_, .int .i64 n, .slice ka kl kc] 30) = W := ⟨_, rfl⟩
      have HW4 := hide hw4
      have b4 : Bx w w4 p D ((wr.heap.size, .cells #[.int .i64 kind, .int .i64 which, .string nmo, .string dt, .int .i64 at_, .int .i64 n, .slice ka kl kc] 30) :: [(bt, tB (tX f)), (bn, tB nmB)]) := by rw [← hw4]; exact bx.alloc _
      have hx1 : (j : Int) < (n0 : Int) := by omega
      have hx2 : (j : Int) < 80 := by omega
      have hx0 : (0 : Int) ≤ (j : Int) := by omega
      have hne4 : ∀ c ∈ [(wr.heap.size, (.cells #[.int .i64 kind, .int .i64 which, .string nmo, .string dt, .int .i64 at_, .int .i64 n, .slice ka kl kc] 30 : Obj)), (bn, tB nmB)], c.1 ≠ bt := fun c hc => by
        simp only [List.mem_cons, List.not_mem_nil, or_false] at hc
        rcases hc with rfl | rfl
        · have := bx.lt (c := (bt, tB (tX f))) (by simp)
          simp only at this ⊢
          omega
        · exact HNe.out
      obtain ⟨bo, hbo⟩ : ∃ bo, wr.heap.size = bo := ⟨_, rfl⟩
      rw [hbo] at b4 hne4
      have HBo := hide hbo
      have HN4 := hide hne4
      obtain ⟨k, hk⟩ : ∃ k, bentV which 2 = k := ⟨_, rfl⟩
      have hk3 : k < 3 := by rw [← hk]; have := bentV_le which 2; omega
      have HK : Hid (k < 3 ∧ True) := ⟨hk3, trivial⟩
      have HBk : Hid (∀ W, Calls Try.prog 10 #[.int .i64 which, .int .i64 2] W fun e w' => e = .returned (.int .i64 (k : Int)) ∧ w' = W) := fun W => by rw [← hk]; exact bent_any W which 2 (by omega)
      obtain ⟨X, hX⟩ : ∃ X : ByteArray, tX f k = X := ⟨_, rfl⟩
      have hXl : X.data.toList = (f k).now := by rw [← hX]; rfl
      obtain ⟨xs, hxs⟩ : ∃ xs, X.size = xs := ⟨_, rfl⟩
      have hxl : (f k).now.length = xs := by rw [← hXl, size_list]; exact hxs
      have hx4 : xs ≤ 4000 := by rw [← hxl]; exact htx.le hr4 hk3
      obtain ⟨off, hoff⟩ : ∃ z, bentV at_ xs = z := ⟨_, rfl⟩
      have hol : off ≤ xs := by rw [← hoff]; exact bentV_le _ _
      have HBo2 : Hid (∀ W, Calls Try.prog 10 #[.int .i64 at_, .int .i64 (xs : Int)] W fun e w' => e = .returned (.int .i64 (off : Int)) ∧ w' = W) := fun W => by rw [← hoff]; exact bent_any W at_ xs (by omega)
      obtain ⟨nm, hnm⟩ : ∃ nm, nmB k = nm := ⟨_, rfl⟩
      have HNm : Hid (nm.data.toList = nmK k ∧ nm.size ≤ maxLen) := ⟨by rw [← hnm]; rfl, by rw [← hnm]; exact nm_small hk3⟩
      have cN : w4.cell? ⟨bn, k, none⟩ = some (.string nm) := by rw [← hnm]; exact three_cell (b4.box (c := (bn, tB nmB)) (by simp)) hk3
      have cX : w4.cell? ⟨bt, k, none⟩ = some (.string X) := by rw [← hX]; exact three_cell (b4.box (c := (bt, tB (tX f))) (by simp)) hk3
      obtain ⟨X0, hX0⟩ : ∃ X : ByteArray, tX f 0 = X := ⟨_, rfl⟩
      obtain ⟨X1, hX1⟩ : ∃ X : ByteArray, tX f 1 = X := ⟨_, rfl⟩
      obtain ⟨X2, hX2⟩ : ∃ X : ByteArray, tX f 2 = X := ⟨_, rfl⟩
      have cX0 : w4.cell? ⟨bt, 0, none⟩ = some (.string X0) := by rw [← hX0]; exact three_cell (b4.box (c := (bt, tB (tX f))) (by simp)) (by omega)
      have cX1 : w4.cell? ⟨bt, 1, none⟩ = some (.string X1) := by rw [← hX1]; exact three_cell (b4.box (c := (bt, tB (tX f))) (by simp)) (by omega)
      have cX2 : w4.cell? ⟨bt, 2, none⟩ = some (.string X2) := by rw [← hX2]; exact three_cell (b4.box (c := (bt, tB (tX f))) (by simp)) (by omega)
      obtain ⟨z0, hz0⟩ : ∃ z, X0.size = z := ⟨_, rfl⟩
      obtain ⟨z1, hz1⟩ : ∃ z, X1.size = z := ⟨_, rfl⟩
      obtain ⟨z2, hz2⟩ : ∃ z, X2.size = z := ⟨_, rfl⟩
      have y0 : (f 0).now.length = z0 := by rw [← hz0, ← hX0, ← size_list]; rfl
      have y1 : (f 1).now.length = z1 := by rw [← hz1, ← hX1, ← size_list]; rfl
      have y2 : (f 2).now.length = z2 := by rw [← hz2, ← hX2, ← size_list]; rfl
      have hfree := htx.free
      rw [y0, y1, y2] at hfree
      have hle : xs ≤ z0 + z1 + z2 := by
        rw [← hxl]
        match k, hk3 with
        | 0, _ => omega
        | 1, _ => omega
        | 2, _ => omega
      have e1 : IntKind.i64.wrap ((z0 : Int) + (z1 : Int)) = (z0 : Int) + (z1 : Int) := by rw [IntKind.wrap_i64]; omega
      have e2 : IntKind.i64.wrap ((z0 : Int) + (z1 : Int) + (z2 : Int)) = (z0 : Int) + (z1 : Int) + (z2 : Int) := by rw [IntKind.wrap_i64]; omega
      obtain ⟨g0, g1, g2, g3, g4, g5, g6⟩ := seven_at (show w4.heap[bo]? = some (.cells #[.int .i64 kind, .int .i64 which, .string nmo, .string dt, .int .i64 at_, .int .i64 n, .slice ka kl kc] 30 (0, 0)) from b4.box (List.mem_cons_self ..))
      have hk0 : (0 : Int) ≤ (k : Int) := by omega
      have hk1 : (k : Int) < 3 := by omega
      have HTX : Hid (Tx D r A f ∧ tX f k = X ∧ X.data.toList = (f k).now ∧ (f k).now.length = xs ∧ D.free + (z0 + z1 + z2) = r) := ⟨htx, hX, hXl, hxl, hfree⟩
      have hzs : z0 + z1 + z2 ≤ 4000 := by omega
      clear hw4 hbo hne4 hk htx hX hXl hxl hoff hnm hX0 hX1 hX2 y0 y1 y2 hfree hok bx hkl q0 q2 hk3
      go_upto_region 12 with (fail)
      rw [HW4.out, HBo.out]
      go_upto_region 13 with (go_at_call 10; (with_reducible refine (HBk.out _).mono ?_); rintro e w6 ⟨rfl, rfl⟩)
      go_quiet (fail)
      go_upto_region 14 with (fail)
      go_quiet (fail)
      go_upto_region 16 with (go_at_call 10; (with_reducible refine (HBo2.out _).mono ?_); rintro e w6 ⟨rfl, rfl⟩)
      have b5 := fun N => b4.next (W' := w6.drewN N) (below_drewN (Below.refl _ _) N)
      clear cN cX cX0 cX1 cX2 g1 g2 g4 g5 g6 k0 k1 k2 k3 k4 k5 k6 HBk HBo2 e1 e2 b4 hz0 hz1 hz2 HW4
      have hwA : IntKind.i64.wrap ((A : Int) + 1) = ((A + 1 : Nat) : Int) := by rw [IntKind.wrap_i64]; omega
      have ho0 : (0 : Int) ≤ (off : Int) := by omega
      have ho1 : (off : Int) ≤ (xs : Int) := by omega
      go_upto_block 2 with (fail)
      go_cut [8, 16, 17, 18] from 34 to 234 (fun v8 _v16 _v17 _v18 wx => ∃ (D' : DV) (f' : Nat → FV) (A' : Nat), v8 = .int .i64 (A' : Int) ∧ A' ≤ j + 1 ∧ Tx D' r A' f' ∧ Bx w wx p D' [(bt, tB (tX f')), (bn, tB nmB)])
      case first =>
        by_cases hk1' : kind = 1
        · subst hk1'
          obtain ⟨dd, hdd⟩ : ∃ t : ByteArray, (⟨(dt.data.toList.take 300).toArray⟩ : ByteArray) = t := ⟨_, rfl⟩
          have hds : dd.size ≤ 300 := by rw [← size_list, ← hdd, List.length_take]; omega
          have HS : Hid (∀ W, Calls Try.prog 12 #[.string dt, .int .i64 300] W fun e w' => e = .returned (.string dd) ∧ w' = W) := fun W => by
            have := short_any W dt 300 (by omega)
            rw [hdd] at this
            exact this
          clear hdd
          obtain ⟨y0, hy0⟩ : ∃ y, X.extract 0 off ++ dd = y := ⟨_, rfl⟩
          obtain ⟨ys, hys⟩ : ∃ z, y0.size = z := ⟨_, rfl⟩
          have hyz : ys = off + dd.size := by rw [← hys, ← size_list, y_wr (by rw [hxs]; exact hol) hy0, List.length_append, List.length_take, size_list, size_list]; omega
          have HY0 := hide hy0
          have hcc : ¬ (9223372036854775807 < off + dd.size) := by omega
          have hy0' : ys = y0.size := hys.symm
          obtain ⟨htx, hX, hXl, hxl, hfree⟩ := HTX.out
          have hro := htx.roomy hr4 (by omega : A ≤ 1000)
          by_cases hfit : off + dd.size ≤ D.free + xs
          · obtain ⟨hwr, htx'⟩ := htx.wr HK.out.1 off (by omega) dd.data.toList hr4 (by rw [size_list]; exact hds) (by rw [size_list, hxl]; exact hfit)
            have hro' := htx'.roomy hr4 (by omega : A + 1 ≤ 1000)
            have hn2 := fun t => htx'.wr_no HK.out.1 (-1) (.inl (by omega)) t
            have hAt : (updV f k ⟨Go.Proofs.Ytmhedhhbdpdafaa.wr (f k).now off dd.data.toList, (f k).syn⟩ k).now = Go.Proofs.Ytmhedhhbdpdafaa.wr (f k).now off dd.data.toList := by simp [updV]
            have hwl : (Go.Proofs.Ytmhedhhbdpdafaa.wr (f k).now off dd.data.toList).length = max xs ys := by rw [wr_len _ _ _ (by omega), size_list, hxl, hyz]
            have hn1 := fun t => htx'.wr_no HK.out.1 ((max xs ys : Nat) + 1 : Int) (.inr (by rw [hAt, hwl]; omega)) t
            generalize hD' : dput { D with acts := D.acts + 1 } (nmK k) ⟨Go.Proofs.Ytmhedhhbdpdafaa.wr (f k).now off dd.data.toList, (f k).syn⟩ = D' at hwr htx' hro' hn1 hn2
            clear hD'
            have HW1 : Hid (∀ W B, Bx w W p D B → Calls Try.prog 13 #[.pointer (some ⟨p, 0, none⟩), .string nm, .int .i64 (off : Int), .string dd] W fun e w' => e = .returned (.int .i64 0) ∧ Bx w w' p D' B) := fun W B h => h.write hro nm dd HNm.out.2 off (by omega) (by omega) (by omega) (by rw [HNm.out.1]; exact hwr)
            have HW2 : Hid (∀ W B, Bx w W p D' B → Calls Try.prog 13 #[.pointer (some ⟨p, 0, none⟩), .string nm, .int .i64 ((max xs ys : Nat) + 1 : Int), .string dd] W fun e w' => e = .returned (.int .i64 173) ∧ Bx w w' p D' B) := fun W B h => h.write hro' nm dd HNm.out.2 _ (by omega) (by omega) (by omega) (by rw [HNm.out.1]; exact hn1 _)
            have HW3 : Hid (∀ W B, Bx w W p D' B → Calls Try.prog 13 #[.pointer (some ⟨p, 0, none⟩), .string nm, .int .i64 (-1), .string dd] W fun e w' => e = .returned (.int .i64 173) ∧ Bx w w' p D' B) := fun W B h => h.write hro' nm dd HNm.out.2 _ (by omega) (by omega) (by omega) (by rw [HNm.out.1]; exact hn2 _)
            obtain ⟨f', hf'⟩ : ∃ f', updV f k ⟨Go.Proofs.Ytmhedhhbdpdafaa.wr (f k).now off dd.data.toList, (f k).syn⟩ = f' := ⟨_, rfl⟩
            have HPut : Hid (∀ (y : ByteArray) (W : World) o, y.data.toList = Go.Proofs.Ytmhedhhbdpdafaa.wr (f k).now off dd.data.toList → Bx w W p D' ((bo, o) :: [(bt, tB (tX f)), (bn, tB nmB)]) → (∀ c ∈ [(bo, o), (bn, tB nmB)], c.1 ≠ bt) → Bx w (W.setCell ⟨bt, k, none⟩ (.string y)) p D' [(bt, tB (tX f')), (bo, o), (bn, tB nmB)]) := fun y W o hy hb hn => by
              rw [← hf']
              exact (hb.sub (C := [(bt, tB (tX f)), (bo, o), (bn, tB nmB)]) (fun c hc => by simp only [List.mem_cons, List.not_mem_nil, or_false] at hc ⊢; rcases hc with rfl | rfl | rfl <;> simp)).put hn ((Upo.refl (fun y => y = bt) W).set _ _ _ (.inl rfl)) (three_put (hb.box (c := (bt, tB (tX f))) (by simp)) HK.out.1 y (tx_upd f k _ y hy))
            obtain ⟨A', hA1⟩ : ∃ A', A + 1 = A' := ⟨_, rfl⟩
            have hA' : A' ≤ j + 1 := by omega
            have HTx' : Hid (Tx D' r A' f') := by rw [← hf', ← hA1]; exact htx'
            rw [hA1] at hwA
            clear hwr htx' hro' hn1 hn2 hAt hwl hf' hro htx hX hxl
            have HXl := hide hXl
            by_cases hsm : ys < xs
            · have hmx : max xs ys = xs := by omega
              rw [hmx] at HW2
              obtain ⟨y, hy⟩ : ∃ y, y0 ++ X.extract ys xs = y := ⟨_, rfl⟩
              have hyl : y.data.toList = Go.Proofs.Ytmhedhhbdpdafaa.wr (f k).now off dd.data.toList := by
                rw [← hXl]
                exact wr_a (by omega) HY0.out (by rw [hys, hxs]; exact hy)
              have hyz2 : y.size = xs := by rw [← size_list, hyl, wr_len _ _ _ (by rw [← hXl, size_list, hxs]; exact hol), ← hXl, size_list, size_list, hxs]; omega
              have HYl := hide hyl
              have hv1 : (ys : Int) < (xs : Int) := by omega
              have hv2 : (ys : Int) ≤ (xs : Int) := by omega
              have hv3 : (0 : Int) ≤ (ys : Int) := by omega
              have hv4 : ¬ ((xs : Int) < (xs : Int)) := by omega
              have hwx : IntKind.i64.wrap ((xs : Int) + 1) = (xs : Int) + 1 := by rw [IntKind.wrap_i64]; omega
              clear hyl hXl hfit hmx hyz hsm hds hfree hle hy0'
              as_aux_lemma =>
                go_upto_region 32 with (first
                  | (go_at_call 12; (with_reducible refine (HS.out _).mono ?_); rintro e w6 ⟨rfl, rfl⟩)
                  | (go_at_call 13; (with_reducible refine (HW1.out _ _ (b5 _)).mono ?_); rintro e w6 ⟨rfl, bz⟩)
                  | (go_at_call 13; (with_reducible refine (HW2.out _ _ bz).mono ?_); rintro e w7 ⟨rfl, bz⟩)
                  | (go_at_call 13; (with_reducible refine (HW3.out _ _ bz).mono ?_); rintro e w8 ⟨rfl, bz⟩))
                clear hy0 hy HY0 HW1 HW2 HW3 HS hv1 hv2 hv3 hv4 g0 g3 b5 hwx hwA
                have hbx := bz.box (c := (bt, tB (tX f))) (by simp)
                have cX : w8.cell? ⟨bt, k, none⟩ = some (.string X) := by rw [← HTX.out.2.1]; exact three_cell hbx HK.out.1
                have cz : w8.frozen? ⟨bt, k, none⟩ = false := frozen_of_row w8 _ k _ _ hbx
                have b6 := HPut.out y w8 _ HYl.out bz HN4.out
                clear hbx
                go_wp2
                go_meet
                case rel => exact ⟨D', f', A', rfl, hA', HTx'.out, b6.sub (fun c hc => by simp only [List.mem_cons, List.not_mem_nil, or_false] at hc ⊢; rcases hc with rfl | rfl <;> simp)⟩
            · have hmx : max xs ys = ys := by omega
              rw [hmx] at HW2
              obtain ⟨y, hyy⟩ : ∃ y, y0 = y := ⟨_, rfl⟩
              subst hyy
              have hyl : y0.data.toList = Go.Proofs.Ytmhedhhbdpdafaa.wr (f k).now off dd.data.toList := by
                rw [← hXl]
                exact wr_b (by omega) HY0.out (by omega)
              have HYl := hide hyl
              have hv1 : ¬ ((ys : Int) < (xs : Int)) := by omega
              have hwx : IntKind.i64.wrap ((ys : Int) + 1) = (ys : Int) + 1 := by rw [IntKind.wrap_i64]; omega
              by_cases hgt : xs < ys
              · have hv2 : (xs : Int) < (ys : Int) := by omega
                have hv3 : IntKind.i64.wrap ((z0 : Int) + (z1 : Int) + (z2 : Int) - (xs : Int)) = (z0 : Int) + (z1 : Int) + (z2 : Int) - (xs : Int) := by rw [IntKind.wrap_i64]; omega
                have hv4 : IntKind.i64.wrap ((z0 : Int) + (z1 : Int) + (z2 : Int) - (xs : Int) + (ys : Int)) = (z0 : Int) + (z1 : Int) + (z2 : Int) - (xs : Int) + (ys : Int) := by rw [IntKind.wrap_i64]; omega
                have hv5 : ¬ ((r : Int) < (z0 : Int) + (z1 : Int) + (z2 : Int) - (xs : Int) + (ys : Int)) := by omega
                clear hyl hXl hfit hmx hyz hsm hds hfree hle hy0' hgt
                as_aux_lemma =>
                  go_upto_region 32 with (first
                    | (go_at_call 12; (with_reducible refine (HS.out _).mono ?_); rintro e w6 ⟨rfl, rfl⟩)
                    | (go_at_call 13; (with_reducible refine (HW1.out _ _ (b5 _)).mono ?_); rintro e w6 ⟨rfl, bz⟩)
                    | (go_at_call 13; (with_reducible refine (HW2.out _ _ bz).mono ?_); rintro e w7 ⟨rfl, bz⟩)
                    | (go_at_call 13; (with_reducible refine (HW3.out _ _ bz).mono ?_); rintro e w8 ⟨rfl, bz⟩))
                  clear hv5 hy0 HY0 HW1 HW2 HW3 HS hv1 hv2 hv3 hv4 g0 g3 b5 hwx hwA
                  have hbx := bz.box (c := (bt, tB (tX f))) (by simp)
                  have cX : w8.cell? ⟨bt, k, none⟩ = some (.string X) := by rw [← HTX.out.2.1]; exact three_cell hbx HK.out.1
                  have cz : w8.frozen? ⟨bt, k, none⟩ = false := frozen_of_row w8 _ k _ _ hbx
                  have b6 := HPut.out y0 w8 _ HYl.out bz HN4.out
                  clear hbx
                  go_wp2
                  go_meet
                  case rel => exact ⟨D', f', A', rfl, hA', HTx'.out, b6.sub (fun c hc => by simp only [List.mem_cons, List.not_mem_nil, or_false] at hc ⊢; rcases hc with rfl | rfl <;> simp)⟩
              · have hv2 : ¬ ((xs : Int) < (ys : Int)) := by omega
                have hv3 : True := trivial
                have hv4 : True := trivial
                clear hyl hXl hfit hmx hyz hsm hds hfree hle hy0' hgt
                as_aux_lemma =>
                  go_upto_region 32 with (first
                    | (go_at_call 12; (with_reducible refine (HS.out _).mono ?_); rintro e w6 ⟨rfl, rfl⟩)
                    | (go_at_call 13; (with_reducible refine (HW1.out _ _ (b5 _)).mono ?_); rintro e w6 ⟨rfl, bz⟩)
                    | (go_at_call 13; (with_reducible refine (HW2.out _ _ bz).mono ?_); rintro e w7 ⟨rfl, bz⟩)
                    | (go_at_call 13; (with_reducible refine (HW3.out _ _ bz).mono ?_); rintro e w8 ⟨rfl, bz⟩))
                  clear hy0 HY0 HW1 HW2 HW3 HS hv1 hv2 hv3 hv4 g0 g3 b5 hwx hwA
                  have hbx := bz.box (c := (bt, tB (tX f))) (by simp)
                  have cX : w8.cell? ⟨bt, k, none⟩ = some (.string X) := by rw [← HTX.out.2.1]; exact three_cell hbx HK.out.1
                  have cz : w8.frozen? ⟨bt, k, none⟩ = false := frozen_of_row w8 _ k _ _ hbx
                  have b6 := HPut.out y0 w8 _ HYl.out bz HN4.out
                  clear hbx
                  go_wp2
                  go_meet
                  case rel => exact ⟨D', f', A', rfl, hA', HTx'.out, b6.sub (fun c hc => by simp only [List.mem_cons, List.not_mem_nil, or_false] at hc ⊢; rcases hc with rfl | rfl <;> simp)⟩
          · obtain ⟨D', rfl⟩ : ∃ D', D' = D := ⟨_, rfl⟩
            obtain ⟨f', rfl⟩ : ∃ f', f' = f := ⟨_, rfl⟩
            obtain ⟨A', rfl⟩ : ∃ A', A' = A := ⟨_, rfl⟩
            have hwr := htx.full HK.out.1 off (by omega) dd.data.toList hr4 (by rw [size_list]; exact hds) (by rw [size_list, hxl]; exact hfit)
            have hn1 := fun t => htx.wr_no HK.out.1 ((xs : Int) + 1) (.inr (by rw [hxl]; omega)) t
            have hn2 := fun t => htx.wr_no HK.out.1 (-1) (.inl (by omega)) t
            have HW1 : Hid (∀ W B, Bx w W p D' B → Calls Try.prog 13 #[.pointer (some ⟨p, 0, none⟩), .string nm, .int .i64 (off : Int), .string dd] W fun e w' => e = .returned (.int .i64 172) ∧ Bx w w' p D' B) := fun W B h => h.write hro nm dd HNm.out.2 off (by omega) (by omega) (by omega) (by rw [HNm.out.1]; exact hwr)
            have HW2 : Hid (∀ W B, Bx w W p D' B → Calls Try.prog 13 #[.pointer (some ⟨p, 0, none⟩), .string nm, .int .i64 ((xs : Int) + 1), .string dd] W fun e w' => e = .returned (.int .i64 173) ∧ Bx w w' p D' B) := fun W B h => h.write hro nm dd HNm.out.2 _ (by omega) (by omega) (by omega) (by rw [HNm.out.1]; exact hn1 _)
            have HW3 : Hid (∀ W B, Bx w W p D' B → Calls Try.prog 13 #[.pointer (some ⟨p, 0, none⟩), .string nm, .int .i64 (-1), .string dd] W fun e w' => e = .returned (.int .i64 173) ∧ Bx w w' p D' B) := fun W B h => h.write hro nm dd HNm.out.2 _ (by omega) (by omega) (by omega) (by rw [HNm.out.1]; exact hn2 _)
            have HPut : Hid (∀ (W : World) o, Bx w W p D' ((bo, o) :: [(bt, tB (tX f')), (bn, tB nmB)]) → (∀ c ∈ [(bo, o), (bn, tB nmB)], c.1 ≠ bt) → Bx w (W.setCell ⟨bt, k, none⟩ (.string X)) p D' [(bt, tB (tX f')), (bo, o), (bn, tB nmB)]) := fun W o hb hn => by
              exact (hb.sub (C := [(bt, tB (tX f')), (bo, o), (bn, tB nmB)]) (fun c hc => by simp only [List.mem_cons, List.not_mem_nil, or_false] at hc ⊢; rcases hc with rfl | rfl | rfl <;> simp)).put hn ((Upo.refl (fun y => y = bt) W).set _ _ _ (.inl rfl)) (three_put (hb.box (c := (bt, tB (tX f'))) (by simp)) HK.out.1 X (fun i => by
                by_cases e : i = k
                · rw [if_pos e, e]; exact hX
                · rw [if_neg e]))
            have HTx' : Hid (Tx D' r A' f') := htx
            have hA' : A' ≤ j + 1 := by omega
            have hv1 : ¬ ((ys : Int) < (xs : Int)) := by omega
            have hwx : IntKind.i64.wrap ((xs : Int) + 1) = (xs : Int) + 1 := by rw [IntKind.wrap_i64]; omega
            have hv2 : (xs : Int) < (ys : Int) := by omega
            have hv3 : IntKind.i64.wrap ((z0 : Int) + (z1 : Int) + (z2 : Int) - (xs : Int)) = (z0 : Int) + (z1 : Int) + (z2 : Int) - (xs : Int) := by rw [IntKind.wrap_i64]; omega
            have hv4 : IntKind.i64.wrap ((z0 : Int) + (z1 : Int) + (z2 : Int) - (xs : Int) + (ys : Int)) = (z0 : Int) + (z1 : Int) + (z2 : Int) - (xs : Int) + (ys : Int) := by rw [IntKind.wrap_i64]; omega
            have hv5 : (r : Int) < (z0 : Int) + (z1 : Int) + (z2 : Int) - (xs : Int) + (ys : Int) := by omega
            clear hwr hro hn1 hn2 htx hX hxl hXl hfit hyz hds hfree hle hy0'
            as_aux_lemma =>
              go_upto_region 32 with (first
                | (go_at_call 12; (with_reducible refine (HS.out _).mono ?_); rintro e w6 ⟨rfl, rfl⟩)
                | (go_at_call 13; (with_reducible refine (HW1.out _ _ (b5 _)).mono ?_); rintro e w6 ⟨rfl, bz⟩)
                | (go_at_call 13; (with_reducible refine (HW2.out _ _ bz).mono ?_); rintro e w7 ⟨rfl, bz⟩)
                | (go_at_call 13; (with_reducible refine (HW3.out _ _ bz).mono ?_); rintro e w8 ⟨rfl, bz⟩))
              clear hv5 hy0 HY0 HW1 HW2 HW3 HS hv1 hv2 hv3 hv4 g0 g3 b5 hwx hwA
              have hbx := bz.box (c := (bt, tB (tX f'))) (by simp)
              have cX : w8.cell? ⟨bt, k, none⟩ = some (.string X) := by rw [← HTX.out.2.1]; exact three_cell hbx HK.out.1
              have cz : w8.frozen? ⟨bt, k, none⟩ = false := frozen_of_row w8 _ k _ _ hbx
              have b6 := HPut.out w8 _ bz HN4.out
              clear hbx
              go_wp2
              go_meet
              case rel => exact ⟨D', f', A', rfl, hA', HTx'.out, b6.sub (fun c hc => by simp only [List.mem_cons, List.not_mem_nil, or_false] at hc ⊢; rcases hc with rfl | rfl <;> simp)⟩
        · have hk1b : (kind == 1) = false := by simpa using hk1'
          obtain ⟨htx, hX, hXl, hxl, hfree⟩ := HTX.out
          have hro := htx.roomy hr4 (by omega : A ≤ 1000)
          by_cases hk2' : kind = 2
          · subst hk2'
            obtain ⟨hct, htx'⟩ := htx.cut HK.out.1 off (by omega)
            have hn1 := htx.cut_no HK.out.1 ((xs : Int) + 1) (by rw [hxl]; omega)
            generalize hD' : dput { D with acts := D.acts + 1 } (nmK k) ⟨(f k).now.take off, (f k).syn⟩ = D' at hct htx'
            clear hD'
            have HW1 : Hid (∀ W B, Bx w W p D B → Calls Try.prog 14 #[.pointer (some ⟨p, 0, none⟩), .string nm, .int .i64 ((xs : Int) + 1)] W fun e w' => e = .returned (.int .i64 173) ∧ Bx w w' p D B) := fun W B h => h.cut hro nm HNm.out.2 _ (by omega) (by omega) (by rw [HNm.out.1]; exact hn1)
            have HW2 : Hid (∀ W B, Bx w W p D B → Calls Try.prog 14 #[.pointer (some ⟨p, 0, none⟩), .string nm, .int .i64 (off : Int)] W fun e w' => e = .returned (.int .i64 0) ∧ Bx w w' p D' B) := fun W B h => h.cut hro nm HNm.out.2 _ (by omega) (by omega) (by rw [HNm.out.1]; exact hct)
            obtain ⟨f', hf'⟩ : ∃ f', updV f k ⟨(f k).now.take off, (f k).syn⟩ = f' := ⟨_, rfl⟩
            obtain ⟨y, hy⟩ : ∃ y, X.extract 0 off = y := ⟨_, rfl⟩
            have hyl : y.data.toList = (f k).now.take off := by rw [← hy, ext_take, hXl]
            have HPut : Hid (∀ (W : World) o, Bx w W p D' ((bo, o) :: [(bt, tB (tX f)), (bn, tB nmB)]) → (∀ c ∈ [(bo, o), (bn, tB nmB)], c.1 ≠ bt) → Bx w (W.setCell ⟨bt, k, none⟩ (.string y)) p D' [(bt, tB (tX f')), (bo, o), (bn, tB nmB)]) := fun W o hb hn => by
              rw [← hf']
              exact (hb.sub (C := [(bt, tB (tX f)), (bo, o), (bn, tB nmB)]) (fun c hc => by simp only [List.mem_cons, List.not_mem_nil, or_false] at hc ⊢; rcases hc with rfl | rfl | rfl <;> simp)).put hn ((Upo.refl (fun y => y = bt) W).set _ _ _ (.inl rfl)) (three_put (hb.box (c := (bt, tB (tX f))) (by simp)) HK.out.1 y (tx_upd f k _ y hyl))
            obtain ⟨A', hA1⟩ : ∃ A', A + 1 = A' := ⟨_, rfl⟩
            have hA' : A' ≤ j + 1 := by omega
            have HTx' : Hid (Tx D' r A' f') := by rw [← hf', ← hA1]; exact htx'
            rw [hA1] at hwA
            have hwx : IntKind.i64.wrap ((xs : Int) + 1) = (xs : Int) + 1 := by rw [IntKind.wrap_i64]; omega
            clear hct htx' hro hn1 htx hX hxl hXl hyl hf' hfree hle hk1' hk1b
            as_aux_lemma =>
              go_upto_region 37 with (first
                | (go_at_call 14; (with_reducible refine (HW1.out _ _ (b5 _)).mono ?_); rintro e w6 ⟨rfl, bz⟩)
                | (go_at_call 14; (with_reducible refine (HW2.out _ _ bz).mono ?_); rintro e w8 ⟨rfl, bz⟩))
              have hbx := bz.box (c := (bt, tB (tX f))) (by simp)
              have cX : w8.cell? ⟨bt, k, none⟩ = some (.string X) := by rw [← HTX.out.2.1]; exact three_cell hbx HK.out.1
              have cz : w8.frozen? ⟨bt, k, none⟩ = false := frozen_of_row w8 _ k _ _ hbx
              have b6 := HPut.out w8 _ bz HN4.out
              clear hbx HW1 HW2 g0 g3 b5 hwx hwA
              go_wp2
              go_meet
              case rel => exact ⟨D', f', A', rfl, hA', HTx'.out, b6.sub (fun c hc => by simp only [List.mem_cons, List.not_mem_nil, or_false] at hc ⊢; rcases hc with rfl | rfl <;> simp)⟩
          · have hk2b : (kind == 2) = false := by simpa using hk2'
            obtain ⟨hsy, htx'⟩ := htx.syn HK.out.1
            generalize hD' : dput { D with acts := D.acts + 1 } (nmK k) ⟨(f k).now, (f k).now⟩ = D' at hsy htx'
            clear hD'
            have HW1 : Hid (∀ W B, Bx w W p D B → Calls Try.prog 15 #[.pointer (some ⟨p, 0, none⟩), .string nm] W fun e w' => e = .returned (.int .i64 0) ∧ Bx w w' p D' B) := fun W B h => h.sync hro nm HNm.out.2 (by rw [HNm.out.1]; exact hsy)
            obtain ⟨f', hf'⟩ : ∃ f', updV f k ⟨(f k).now, (f k).now⟩ = f' := ⟨_, rfl⟩
            have hff : tX f = tX f' := by
              rw [← hf']
              funext i
              rw [tx_upd f k ⟨(f k).now, (f k).now⟩ X hXl]
              split
              · rename_i e; rw [e]; exact hX
              · rfl
            obtain ⟨A', hA1⟩ : ∃ A', A + 1 = A' := ⟨_, rfl⟩
            have hA' : A' ≤ j + 1 := by omega
            have HTx' : Hid (Tx D' r A' f') := by rw [← hf', ← hA1]; exact htx'
            have HFF := hide hff
            rw [hA1] at hwA
            clear hsy htx' hro htx hX hxl hXl hf' hfree hle hff
            as_aux_lemma =>
              go_wp2_with (go_at_call 15; (with_reducible refine (HW1.out _ _ (b5 _)).mono ?_); rintro e w6 ⟨rfl, bz⟩)
              rw [HFF.out] at bz
              obtain ⟨o6, ho6⟩ : ∃ o, o = (.cells #[.int .i64 kind, .int .i64 which, .string nmo, .string dt, .int .i64 at_, .int .i64 n, .slice ka kl kc] 30 : Obj) := ⟨_, rfl⟩
              rw [← ho6] at bz
              have b6 := bz.sub (C := [(bt, tB (tX f')), (bo, o6), (bn, tB nmB)]) (fun c hc => by simp only [List.mem_cons, List.not_mem_nil, or_false] at hc ⊢; rcases hc with rfl | rfl | rfl <;> simp)
              go_meet
              case rel => exact ⟨D', f', A', rfl, hA', HTx'.out, b6.sub (fun c hc => by simp only [List.mem_cons, List.not_mem_nil, or_false] at hc ⊢; rcases hc with rfl | rfl <;> simp)⟩
      case rest =>
        obtain ⟨D', f', A', rfl, hA', htx', b6⟩ := hcut
        obtain ⟨w6, hw6⟩ : ∃ W, W = wc := ⟨_, rfl⟩
        subst hw6
        as_aux_lemma =>
          obtain ⟨X', hX'⟩ : ∃ X' : ByteArray, tX f' k = X' := ⟨_, rfl⟩
          have hXl : X'.data.toList = (f' k).now := by rw [← hX']; rfl
          have hXs : (f' k).now.length = X'.size := by rw [← hXl, size_list]
          have hXz : X'.size ≤ 4000 := by rw [← hXs]; exact htx'.le hr4 HK.out.1
          have hR1 := htx'.rd HK.out.1
          have hR2 := htx'.rd_no HK.out.1
          have hSz := htx'.sz HK.out.1
          rw [hXs] at hR1 hR2 hSz
          have hAc := htx'.acts
          have hDn := htx'.down
          obtain ⟨xz, hxz⟩ : ∃ xz, X'.size = xz := ⟨_, rfl⟩
          rw [hxz] at hR1 hR2 hSz hXz
          have HRa : Hid (∀ W B, Bx w W p D' B → Calls Try.prog 16 #[.pointer (some ⟨p, 0, none⟩), .string nm, .int .i64 0, .int .i64 (xz : Int)] W fun e w' => e = .returned (.tuple #[.string X', .int .i64 0]) ∧ Bx w w' p D' B) := fun W B h => h.read nm HNm.out.2 0 (xz : Int) (by decide) (by decide) (by omega) (by omega) (by rw [HNm.out.1]; exact hR1) (ba_ext (by rw [hXl]))
          have HRb : Hid (∀ W B, Bx w W p D' B → Calls Try.prog 16 #[.pointer (some ⟨p, 0, none⟩), .string nm, .int .i64 1, .int .i64 (xz : Int)] W fun e w' => e = .returned (.tuple #[.string ⟨#[]⟩, .int .i64 173]) ∧ Bx w w' p D' B) := fun W B h => h.read nm HNm.out.2 1 (xz : Int) (by decide) (by decide) (by omega) (by omega) (by rw [HNm.out.1]; exact hR2) rfl
          have HSi : Hid (∀ W B, Bx w W p D' B → Calls Try.prog 17 #[.pointer (some ⟨p, 0, none⟩), .string nm] W fun e w' => e = .returned (.int .i64 (xz : Int)) ∧ w' = W) := fun W B h => h.size nm HNm.out.2 (by rw [HNm.out.1]; exact hSz)
          have HAc : Hid (∀ W B, Bx w W p D' B → Calls Try.prog 18 #[.pointer (some ⟨p, 0, none⟩)] W fun e w' => e = .returned (.int .i64 (A' : Int)) ∧ w' = W) := fun W B h => h.acts hAc
          have HDn : Hid (∀ W B, Bx w W p D' B → Calls Try.prog 19 #[.pointer (some ⟨p, 0, none⟩)] W fun e w' => e = .returned (.bool false) ∧ w' = W) := fun W B h => h.down hDn
          have HTx := hide htx'
          have ct : w6.cell? ⟨bt, k, none⟩ = some (.string X') := by rw [← hX']; exact three_cell (b6.box (c := (bt, tB (tX f'))) (by simp)) HK.out.1
          have HX := hide hX'
          clear hR1 hR2 hSz hAc hDn htx' hXl hXs hX'
          have hw1 : IntKind.i64.wrap ((j : Int) + 1) = (j : Int) + 1 := by rw [IntKind.wrap_i64]; omega
          go_upto_region 39 with (go_at_call 16; (with_reducible refine (HRa.out _ _ b6).mono ?_); rintro e w7 ⟨rfl, b7⟩)
          clear ct
          have ct : w7.cell? ⟨bt, k, none⟩ = some (.string X') := by rw [← HX.out]; exact three_cell (b7.box (c := (bt, tB (tX f'))) (by simp)) HK.out.1
          go_upto_region 40 with (go_at_call 16; (with_reducible refine (HRb.out _ _ b7).mono ?_); rintro e w8 ⟨rfl, b8⟩)
          clear ct
          have ct : w8.cell? ⟨bt, k, none⟩ = some (.string X') := by rw [← HX.out]; exact three_cell (b8.box (c := (bt, tB (tX f'))) (by simp)) HK.out.1
          have tw := b8.next (bdw w8)
          go_region_held3 (fun Z => Z.cell? ⟨bt, k, none⟩ = some (.string X')) (first | assumption) (first
            | (go_at_call 17; (with_reducible refine (HSi.out _ _ tw).mono ?_); rintro e W1 ⟨rfl, rfl⟩)
            | (go_at_call 18; (with_reducible refine (HAc.out _ _ tw).mono ?_); rintro e W1 ⟨rfl, rfl⟩)
            | (go_at_call 19; (with_reducible refine (HDn.out _ _ tw).mono ?_); rintro e W1 ⟨rfl, rfl⟩))
          go_wp2
          go_roundg (80 - (j + 1))
          case rel =>
            go_light
            exact ⟨j + 1, A', D', f', by omega, rfl, rfl, by go_num, hA', HTx.out, tw.sub (fun c hc => by simp only [List.mem_cons, List.not_mem_nil, or_false] at hc ⊢; rcases hc with rfl | rfl <;> simp), by omega⟩
          case measure => go_light; omega
    · have HTx := hide htx
      by_cases hl1 : (j : Int) < (n0 : Int)
      · have hl2 : ¬ ((j : Int) < 80) := by omega
        clear hlt htx
        have HFi : Hid (∀ W, Bx w W p D [(bt, tB (tX f)), (bn, tB nmB)] → Calls Try.prog 21 #[.pointer (some ⟨p, 0, none⟩)] W fun e w' => ∃ ao b c, e = .returned (.slice ao (wl f 3).length c) ∧ RdF w' ao b 0 (wl f 3) ∧ Bx w w' p D [(bt, tB (tX f)), (bn, tB nmB)] ∧ Below W.heap.size W w') := fun W h => h.files HTx.out.want
        have HSm : Hid (∀ W a b c a' b' c', RdF W a b 0 (wl f 3) → RdF W a' b' 0 (wl f 3) → Calls Try.prog 20 #[.slice a (wl f 3).length c, .slice a' (wl f 3).length c'] W fun e w' => e = .returned (.bool true) ∧ Below W.heap.size W w') := fun W a b c a' b' c' h1 h2 => same_yes W _ a b 0 c h1 a' b' 0 c' h2 (by have := wl_len f 3; omega)
        have HB := hide bx
        clear bx HTx
        go_wp2
        generalize wr = wo at *
        clear wr
        go_loopg [23, 24] 3 (fun g v x wr => ∃ i : Nat, i ≤ 3 ∧ g = 3 - i ∧ x = .int .i64 (i : Int) ∧ OwnF wr wo.heap.size v (wl f i) ∧ Below wo.heap.size wo wr)
        case atStart =>
          exact ⟨0, Nat.zero_le _, rfl, rfl, ⟨rfl, .inl ⟨rfl, rfl⟩⟩, Below.refl _ _⟩
        case round =>
          obtain ⟨i, hi, rfl, rfl, own, ub⟩ := hrel
          by_cases hi3 : i < 3
          · as_aux_lemma =>
              obtain ⟨k, hk, hk3, hi1, hk0, hk1, hee⟩ := idx3 i hi3
              have HEe := hide hee
              clear hee
              have hb := HB.out.next ub
              obtain ⟨nm, hnm⟩ : ∃ nm, nmB k = nm := ⟨_, rfl⟩
              obtain ⟨X, hX⟩ : ∃ X : ByteArray, tX f k = X := ⟨_, rfl⟩
              have cN : wr.cell? ⟨bn, k, none⟩ = some (.string nm) := by rw [← hnm]; exact three_cell (hb.box (c := (bn, tB nmB)) (by simp)) hk3
              have cX : wr.cell? ⟨bt, k, none⟩ = some (.string X) := by rw [← hX]; exact three_cell (hb.box (c := (bt, tB (tX f))) (by simp)) hk3
              have hXl : X.data.toList = (f k).now := by rw [← hX]; rfl
              have hNl : nm.data.toList = nmK k := by rw [← hnm]; rfl
              obtain ⟨xs, hxs⟩ : ∃ z, X.size = z := ⟨_, rfl⟩
              have hwl : wl f (i + 1) = wl f i ++ (if (f k).now = [] then [] else [(nmK k, (f k).now)]) := by rw [wl, hk]
              have hll := wl_len f i
              by_cases h0 : xs = 0
              · have hemp : (f k).now = [] := by rw [← hXl, ← List.length_eq_zero_iff, size_list, hxs]; exact h0
                rw [if_pos hemp, List.append_nil] at hwl
                have HO : Hid (OwnF wr wo.heap.size u23 (wl f (i + 1)) ∧ Below wo.heap.size wo wr) := ⟨by rw [hwl]; exact own, ub⟩
                have hz : ¬ ((0 : Int) < (xs : Int)) := by omega
                clear hk hb hnm hX hXl hNl hwl hll own ub hemp
                obtain ⟨e1, e3, e4, e5, e6, e2⟩ := HEe.out
                go_wp2
                clear e1 e2 e3 e4 e5 e6
                go_roundg (3 - (i + 1))
                case rel =>
                  go_light
                  exact ⟨i + 1, by omega, rfl, by go_num, HO.out.1, HO.out.2⟩
                case measure => go_light; omega
              · have hne : ¬ (f k).now = [] := fun e => h0 (by rw [← hxs, ← size_list, hXl, e]; rfl)
                rw [if_neg hne] at hwl
                have hz : (0 : Int) < (xs : Int) := by omega
                obtain ⟨i0, hi0, hy0, hy1, hy2⟩ := info_parts Try.infoF
                have own1 : OwnF wr.drew wo.heap.size u23 (wl f i) := row_keep own (fun _ _ => rfl)
                obtain ⟨v', w', hrun, own', hgr, _⟩ := run_append_own (P := Try.prog) (wr.drew.alloc (.cells #[.string nm, .string X] 42)) wo.heap.size 40 40 42 i0 (.agg #[.string ⟨#[]⟩, .string ⟨#[]⟩]) 2 32 Try.underlying40 hi0 hy0 hy1 hy2 rfl (by decide) _ _ _ (own1.alloc _) ⟨wr.heap.size, 0, none⟩ 1 1 [.string nm, .string X] rfl (two_new _ _ _ _) (by simp [Value.oneCell']) (by unfold maxLen; omega) (by omega) (by have := ub.size; simp; omega)
                have HF : Hid (OwnF w' wo.heap.size v' (wl f (i + 1)) ∧ Below wo.heap.size wo w') := by
                  refine ⟨?_, upo_below (bal (below_drewN ub 1) _) (S := fun x => wo.heap.size ≤ x) (fun x h => h) (Upo.grown hgr (fun b hb => (own.lt b hb).1))⟩
                  unfold OwnF
                  rw [hwl, cF_app, List.length_append]
                  have ee : cF [(nmK k, (f k).now)] = [.string nm, .string X] := by rw [← hNl, ← hXl]; rfl
                  rw [ee]
                  exact own'
                have HCs : Hid (∀ W, Below wr.heap.size wr W → W.cell? ⟨bn, k, none⟩ = some (.string nm) ∧ W.cell? ⟨bt, k, none⟩ = some (.string X)) := fun W hW => ⟨by rw [← hnm]; exact three_cell ((hb.next hW).box (c := (bn, tB nmB)) (by simp)) hk3, by rw [← hX]; exact three_cell ((hb.next hW).box (c := (bt, tB (tX f))) (by simp)) hk3⟩
                have HC2 : Hid (w'.cell? ⟨bn, k, none⟩ = some (.string nm) ∧ w'.cell? ⟨bt, k, none⟩ = some (.string X)) := ⟨by rw [← hnm]; exact three_cell ((HB.out.next HF.out.2).box (c := (bn, tB nmB)) (by simp)) hk3, by rw [← hX]; exact three_cell ((HB.out.next HF.out.2).box (c := (bt, tB (tX f))) (by simp)) hk3⟩
                clear hk hb hnm hX hXl hNl hwl hll own ub own1 own' hgr hne h0
                obtain ⟨e1, e3, e4, e5, e6, e2⟩ := HEe.out
                go_upto_region 48 with (fail)
                clear e1 e2 e3 e4 e5
                go_region_held3 (fun Z => Z.cell? ⟨bn, k, none⟩ = some (.string nm) ∧ Z.cell? ⟨bt, k, none⟩ = some (.string X)) (first | assumption | (exact ⟨cN, cX⟩) | (exact HCs.out _ (bdw _)) | (exact HCs.out _ (bal (bdw _) _)) | (exact HC2.out)) (first
                  | (refine step_app (by rfl) _ _ _ _ (by rfl) (by rfl) (by rfl) hrun ?_))
                all_goals
                  go_wp2
                  clear e6
                  go_roundg (3 - (i + 1))
                  case rel =>
                    go_light
                    exact ⟨i + 1, by omega, rfl, by go_num, HF.out.1, HF.out.2⟩
                  case measure => go_light; omega
          · obtain rfl : i = 3 := by omega
            have hz : ¬ ((3 : Int) < 3) := by omega
            obtain ⟨ao, b, c, rfl, rd, _⟩ := ownF_rd own
            have bx := HB.out.next ub
            clear own ub hi3
            go_wp2_with (first
              | (go_at_call 21; (with_reducible refine (HFi.out _ bx).mono ?_); rintro e w8 ⟨ao8, b8, c8, rfl, f8, bx8, u8⟩; have rd := rd.next u8)
              | (go_at_call 20; (with_reducible refine (HSm.out _ _ _ _ _ _ _ f8 rd).mono ?_); rintro e w9 ⟨rfl, u9⟩; have bx9 := bx8.next u9))
            go_ret
            exact ⟨rfl, bx9.below⟩
      · clear hlt htx
        have HFi : Hid (∀ W, Bx w W p D [(bt, tB (tX f)), (bn, tB nmB)] → Calls Try.prog 21 #[.pointer (some ⟨p, 0, none⟩)] W fun e w' => ∃ ao b c, e = .returned (.slice ao (wl f 3).length c) ∧ RdF w' ao b 0 (wl f 3) ∧ Bx w w' p D [(bt, tB (tX f)), (bn, tB nmB)] ∧ Below W.heap.size W w') := fun W h => h.files HTx.out.want
        have HSm : Hid (∀ W a b c a' b' c', RdF W a b 0 (wl f 3) → RdF W a' b' 0 (wl f 3) → Calls Try.prog 20 #[.slice a (wl f 3).length c, .slice a' (wl f 3).length c'] W fun e w' => e = .returned (.bool true) ∧ Below W.heap.size W w') := fun W a b c a' b' c' h1 h2 => same_yes W _ a b 0 c h1 a' b' 0 c' h2 (by have := wl_len f 3; omega)
        have HB := hide bx
        clear bx HTx
        go_wp2
        generalize wr = wo at *
        clear wr
        go_loopg [23, 24] 3 (fun g v x wr => ∃ i : Nat, i ≤ 3 ∧ g = 3 - i ∧ x = .int .i64 (i : Int) ∧ OwnF wr wo.heap.size v (wl f i) ∧ Below wo.heap.size wo wr)
        case atStart =>
          exact ⟨0, Nat.zero_le _, rfl, rfl, ⟨rfl, .inl ⟨rfl, rfl⟩⟩, Below.refl _ _⟩
        case round =>
          obtain ⟨i, hi, rfl, rfl, own, ub⟩ := hrel
          by_cases hi3 : i < 3
          · as_aux_lemma =>
              obtain ⟨k, hk, hk3, hi1, hk0, hk1, hee⟩ := idx3 i hi3
              have HEe := hide hee
              clear hee
              have hb := HB.out.next ub
              obtain ⟨nm, hnm⟩ : ∃ nm, nmB k = nm := ⟨_, rfl⟩
              obtain ⟨X, hX⟩ : ∃ X : ByteArray, tX f k = X := ⟨_, rfl⟩
              have cN : wr.cell? ⟨bn, k, none⟩ = some (.string nm) := by rw [← hnm]; exact three_cell (hb.box (c := (bn, tB nmB)) (by simp)) hk3
              have cX : wr.cell? ⟨bt, k, none⟩ = some (.string X) := by rw [← hX]; exact three_cell (hb.box (c := (bt, tB (tX f))) (by simp)) hk3
              have hXl : X.data.toList = (f k).now := by rw [← hX]; rfl
              have hNl : nm.data.toList = nmK k := by rw [← hnm]; rfl
              obtain ⟨xs, hxs⟩ : ∃ z, X.size = z := ⟨_, rfl⟩
              have hwl : wl f (i + 1) = wl f i ++ (if (f k).now = [] then [] else [(nmK k, (f k).now)]) := by rw [wl, hk]
              have hll := wl_len f i
              by_cases h0 : xs = 0
              · have hemp : (f k).now = [] := by rw [← hXl, ← List.length_eq_zero_iff, size_list, hxs]; exact h0
                rw [if_pos hemp, List.append_nil] at hwl
                have HO : Hid (OwnF wr wo.heap.size u23 (wl f (i + 1)) ∧ Below wo.heap.size wo wr) := ⟨by rw [hwl]; exact own, ub⟩
                have hz : ¬ ((0 : Int) < (xs : Int)) := by omega
                clear hk hb hnm hX hXl hNl hwl hll own ub hemp
                obtain ⟨e1, e3, e4, e5, e6, e2⟩ := HEe.out
                go_wp2
                clear e1 e2 e3 e4 e5 e6
                go_roundg (3 - (i + 1))
                case rel =>
                  go_light
                  exact ⟨i + 1, by omega, rfl, by go_num, HO.out.1, HO.out.2⟩
                case measure => go_light; omega
              · have hne : ¬ (f k).now = [] := fun e => h0 (by rw [← hxs, ← size_list, hXl, e]; rfl)
                rw [if_neg hne] at hwl
                have hz : (0 : Int) < (xs : Int) := by omega
                obtain ⟨i0, hi0, hy0, hy1, hy2⟩ := info_parts Try.infoF
                have own1 : OwnF wr.drew wo.heap.size u23 (wl f i) := row_keep own (fun _ _ => rfl)
                obtain ⟨v', w', hrun, own', hgr, _⟩ := run_append_own (P := Try.prog) (wr.drew.alloc (.cells #[.string nm, .string X] 42)) wo.heap.size 40 40 42 i0 (.agg #[.string ⟨#[]⟩, .string ⟨#[]⟩]) 2 32 Try.underlying40 hi0 hy0 hy1 hy2 rfl (by decide) _ _ _ (own1.alloc _) ⟨wr.heap.size, 0, none⟩ 1 1 [.string nm, .string X] rfl (two_new _ _ _ _) (by simp [Value.oneCell']) (by unfold maxLen; omega) (by omega) (by have := ub.size; simp; omega)
                have HF : Hid (OwnF w' wo.heap.size v' (wl f (i + 1)) ∧ Below wo.heap.size wo w') := by
                  refine ⟨?_, upo_below (bal (below_drewN ub 1) _) (S := fun x => wo.heap.size ≤ x) (fun x h => h) (Upo.grown hgr (fun b hb => (own.lt b hb).1))⟩
                  unfold OwnF
                  rw [hwl, cF_app, List.length_append]
                  have ee : cF [(nmK k, (f k).now)] = [.string nm, .string X] := by rw [← hNl, ← hXl]; rfl
                  rw [ee]
                  exact own'
                have HCs : Hid (∀ W, Below wr.heap.size wr W → W.cell? ⟨bn, k, none⟩ = some (.string nm) ∧ W.cell? ⟨bt, k, none⟩ = some (.string X)) := fun W hW => ⟨by rw [← hnm]; exact three_cell ((hb.next hW).box (c := (bn, tB nmB)) (by simp)) hk3, by rw [← hX]; exact three_cell ((hb.next hW).box (c := (bt, tB (tX f))) (by simp)) hk3⟩
                have HC2 : Hid (w'.cell? ⟨bn, k, none⟩ = some (.string nm) ∧ w'.cell? ⟨bt, k, none⟩ = some (.string X)) := ⟨by rw [← hnm]; exact three_cell ((HB.out.next HF.out.2).box (c := (bn, tB nmB)) (by simp)) hk3, by rw [← hX]; exact three_cell ((HB.out.next HF.out.2).box (c := (bt, tB (tX f))) (by simp)) hk3⟩
                clear hk hb hnm hX hXl hNl hwl hll own ub own1 own' hgr hne h0
                obtain ⟨e1, e3, e4, e5, e6, e2⟩ := HEe.out
                go_upto_region 48 with (fail)
                clear e1 e2 e3 e4 e5
                go_region_held3 (fun Z => Z.cell? ⟨bn, k, none⟩ = some (.string nm) ∧ Z.cell? ⟨bt, k, none⟩ = some (.string X)) (first | assumption | (exact ⟨cN, cX⟩) | (exact HCs.out _ (bdw _)) | (exact HCs.out _ (bal (bdw _) _)) | (exact HC2.out)) (first
                  | (refine step_app (by rfl) _ _ _ _ (by rfl) (by rfl) (by rfl) hrun ?_))
                all_goals
                  go_wp2
                  clear e6
                  go_roundg (3 - (i + 1))
                  case rel =>
                    go_light
                    exact ⟨i + 1, by omega, rfl, by go_num, HF.out.1, HF.out.2⟩
                  case measure => go_light; omega
          · obtain rfl : i = 3 := by omega
            have hz : ¬ ((3 : Int) < 3) := by omega
            obtain ⟨ao, b, c, rfl, rd, _⟩ := ownF_rd own
            have bx := HB.out.next ub
            clear own ub hi3
            go_wp2_with (first
              | (go_at_call 21; (with_reducible refine (HFi.out _ bx).mono ?_); rintro e w8 ⟨ao8, b8, c8, rfl, f8, bx8, u8⟩; have rd := rd.next u8)
              | (go_at_call 20; (with_reducible refine (HSm.out _ _ _ _ _ _ _ f8 rd).mono ?_); rintro e w9 ⟨rfl, u9⟩; have bx9 := bx8.next u9))
            go_ret
            exact ⟨rfl, bx9.below⟩
end Go.Proofs.Ytmhedhhbdpdafaa
