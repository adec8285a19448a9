/-
  The reference's walks: Prove. Own work.
-/
import Derived.Deep.RegionLaw
import Derived.Test.YtgmnolepaidiiaaDoorTAp
import Derived.Test.YtgmnolepaidiiaaDoorTLent
import Derived.Test.YtgmnolepaidiiaaDoorTWalkE
namespace Go.Proofs.YtgmnolepaidiiaaDoor
open Go.RowKit
open Cv (zl cU)
attribute [local go_sem ↓] Go.wp_at_zero Go.wp_at_succ
theorem Six.set5 {w : World} {s : Nat} {a b c d e f : Value} (h : Six w s a b c d e f) (f' : Value) : Six (w.setCell ⟨s, 5, none⟩ f') s a b c d e f' := heap_setCell_same w s 5 _ _ f' h
theorem own_bx {w W : World} {B q : Nat} {v : Value} {l : List ByteArray} (h : OwnS w B v l) (hb : Bx q w W) (hq : q < B) : OwnS W B v l :=
  keep_row h fun g hg h1 => hb.block g (World.ownsRow.lt h g hg).2 (by omega)
/-- Where another mountain stands among the others. -/
theorem oth_at {A B : List (Nat × Nat)} {m : Nat × Nat} {j : Nat} (hj : j < (A ++ m :: B).length) (hne : j ≠ A.length) : (A ++ B)[if A.length < j then j - 1 else j]? = some ((A ++ m :: B).getD j (0, 0)) := by
  rw [List.getD_eq_getElem?_getD]
  by_cases h : A.length < j
  · obtain ⟨t, rfl⟩ : ∃ t, j = A.length + (t + 1) := ⟨j - A.length - 1, by omega⟩
    rw [if_pos h, List.getElem?_append_right (by omega), List.getElem?_append_right (by omega), show A.length + (t + 1) - 1 - A.length = t by omega, show A.length + (t + 1) - A.length = t + 1 by omega, List.getElem?_cons_succ]
    have : t < B.length := by rw [List.length_append, List.length_cons] at hj; omega
    rw [List.getElem?_eq_getElem this]; rfl
  · have h2 : j < A.length := by omega
    rw [if_neg h, List.getElem?_append_left h2, List.getElem?_append_left h2, List.getElem?_eq_getElem h2]; rfl
set_option maxRecDepth 100000 in
set_option maxHeartbeats 1000000 in
theorem refprove_no (w : World) (k : Int) (ao : Option Addr) (len cap n i : Nat) (hl : len ≤ 80) (e0 : Int) (he : (len < n ∧ e0 = 30) ∨ (n ≤ len ∧ n ≤ i ∧ e0 = 31)) :
    Calls Tryd.prog 20 #[.int .i64 k, .slice ao len cap, .int .u64 (n : Int), .int .u64 (i : Int)] w fun e w' => e = .returned (.tuple #[noP, .int .i64 e0]) ∧ Below w.heap.size w w' := by
  have ec : IntKind.u64.wrap (len : Int) = (len : Int) := by rw [IntKind.wrap_u64]; omega
  have hb := bal (Below.refl w.heap.size w) (.cells #[.int .i64 0, .int .i64 0, .int .u64 0, .int .u64 0, .slice none 0 0, .slice none 0 0] 26)
  rcases he with ⟨h1, rfl⟩ | ⟨h1, h2, rfl⟩
  · have h1' : (len : Int) < (n : Int) := by omega
    clear h1 hl
    go_enter Tryd.func20, Tryd.ntmps20
    go_wp2
    refine bodyPost_ret (v := .tuple #[noP, .int .i64 30]) (by simp [results, Tryd.results20, go_sem]) rfl ⟨rfl, ?_⟩
    exact hb
  · have h1' : ¬ (len : Int) < (n : Int) := by omega
    have h2' : (n : Int) ≤ (i : Int) := by omega
    clear h1 h2 hl
    go_enter Tryd.func20, Tryd.ntmps20
    go_wp2
    refine bodyPost_ret (v := .tuple #[noP, .int .i64 31]) (by simp [results, Tryd.results20, go_sem]) rfl ⟨rfl, ?_⟩
    exact hb
set_option maxRecDepth 100000 in
set_option maxHeartbeats 4000000 in
theorem refprove_ok (w : World) (hT : Tr w) (k : Int) (k1 : 1 ≤ k) (k2 : k ≤ 32) (ao : Option Addr) (b off len cap : Nat) (L : List ByteArray) (hr : RdS w ao b off len L) (hsz : ∀ s ∈ L, s.size ≤ 2000) (hl : len ≤ 80) (n i H : Nat) (A B : List (Nat × Nat)) (hw : Wy n i A H B) (hn : n ≤ len) (hi : i < n) (D : List ByteArray) (hD : dgP (clk k) L i H A B = D) :
    Calls Tryd.prog 20 #[.int .i64 k, .slice ao len cap, .int .u64 (n : Int), .int .u64 (i : Int)] w fun e w' => ∃ sb da db dc, e = .returned (.tuple #[.agg #[.int .i64 1, .int .i64 k, .int .u64 0, .int .u64 (n : Int), .slice (some ⟨sb, 0, none⟩) 1 1, .slice da D.length dc], .int .i64 0]) ∧ RdU w' (some ⟨sb, 0, none⟩) sb 0 1 [i] ∧ RdS w' da db 0 D.length D ∧ Below w.heap.size w w' := by
  have hln := hw.len
  have hH := hw.hH
  have hinn := hw.inn (by omega)
  obtain ⟨M, hM⟩ : ∃ M, Cv.dnL 41 0 n = M := ⟨_, rfl⟩
  have hin := dn_in n (by omega)
  rw [hM] at hin
  have hMe : M = A ++ (H, i / 2 ^ H) :: B := by rw [← hM]; exact hw.all
  have hMl : M.length = A.length + 1 + B.length := by rw [hMe, List.length_append, List.length_cons]; omega
  have HM : Hid (∀ W, Calls Tryd.prog 31 #[.int .u64 (n : Int)] W fun e w' => ∃ g cap, e = .returned (.slice (some ⟨g, 0, none⟩) M.length cap) ∧ RdB w' (some ⟨g, 0, none⟩) g 0 M.length (zl M) ∧ Below W.heap.size W w') := fun W => rmount_rd n W (by omega) M hM (by omega)
  obtain ⟨c, hc⟩ : ∃ c, clk k = c := ⟨_, rfl⟩
  rw [hc] at hD
  obtain ⟨O, hO⟩ : ∃ O, (A ++ B).map (fun b => nd c L b.1 b.2) = O := ⟨_, rfl⟩
  obtain ⟨E, hE⟩ : ∃ E, (bes i H).map (fun b => nd c L b.1 b.2) = E := ⟨_, rfl⟩
  have hDE : E ++ O = D := by rw [← hE, ← hO, ← List.map_append, ← hD]; rfl
  have hOl : O.length = A.length + B.length := by rw [← hO, List.length_map, List.length_append]
  have hEl : E.length = H := by rw [← hE, List.length_map, bes_len]
  have hDl : D.length = H + (A.length + B.length) := by rw [← hDE, List.length_append, hOl, hEl]
  have hc32 : c ≤ 32 := by rw [← hc]; exact clk_le k
  have hDs : ∀ s ∈ D, s.size ≤ 9223372036854775807 := fun s hs => by rw [← hD] at hs; have := dgP_size hc32 L i H A B s hs; omega
  have HTr : Hid (∀ W, Below w.heap.size w W → ∀ h q lo : Nat, (q + 1) * 2 ^ h ≤ n → q * 2 ^ h = lo → Calls Tryd.prog 42 #[.int .i64 k, .slice ao len cap, .int .i64 (h : Int), .int .i64 (lo : Int)] W fun e w' => e = .returned (.string (nd c L h q)) ∧ Below W.heap.size W w') := fun W hb h q lo h1 h2 => rtr_any k k1 k2 ao b off len cap L hsz hl h W (hT.next hb) (hr.next hb (Nat.le_refl _)) q lo (by omega) h2 _ (by rw [hc])
  have ec : IntKind.u64.wrap (len : Int) = (len : Int) := by rw [IntKind.wrap_u64]; omega
  have h1' : ¬ (len : Int) < (n : Int) := by omega
  have h2' : ¬ (n : Int) ≤ (i : Int) := by omega
  have hl63 : (M.length : Int) ≤ 41 := by omega
  have HX : Hid (Wy n i A H B ∧ Cv.dnL 41 0 n = M ∧ M = A ++ (H, i / 2 ^ H) :: B ∧ M.length = A.length + 1 + B.length ∧ i < n ∧ n ≤ 80 ∧ A.length + B.length ≤ 40 ∧ H ≤ 40 ∧ (∀ b ∈ M, (b.2 + 1) * 2 ^ b.1 ≤ n) ∧ (∀ b ∈ wyB i H A B, (b.2 + 1) * 2 ^ b.1 ≤ n)) := ⟨hw, hM, hMe, hMl, hi, by omega, hln, hH, hin, hinn⟩
  have HD : Hid ((A ++ B).map (fun b => nd c L b.1 b.2) = O ∧ (bes i H).map (fun b => nd c L b.1 b.2) = E ∧ E ++ O = D ∧ O.length = A.length + B.length ∧ E.length = H ∧ (∀ s ∈ D, s.size ≤ 9223372036854775807) ∧ c ≤ 32) := ⟨hO, hE, hDE, hOl, hEl, hDs, hc32⟩
  clear hw hln hH hinn hM hin hMe hMl hc hD hO hE hDE hOl hEl hDl hc32 hDs hT hr hsz hl k1 k2 hn hi
  go_enter Tryd.func20, Tryd.ntmps20
  go_upto_region 6 with (fail)
  obtain ⟨W1, hW1⟩ : ∃ W1, ((w.alloc (.cells #[.int .i64 0, .int .i64 0, .int .u64 0, .int .u64 0, .slice none 0 0, .slice none 0 0] 26)).alloc (.cells #[.int .u64 (i : Int)] 22)).alloc (.cells #[.int .i64 1, .int .i64 k, .int .u64 0, .int .u64 (n : Int), .slice (some ⟨w.heap.size + 1, 0, none⟩) 1 1, .slice none 0 0] 26) = W1 := ⟨_, rfl⟩
  have hb1 : Below w.heap.size w W1 := by rw [← hW1]; exact bal (bal (bal (Below.refl _ _) _) _) _
  have s8 : Six W1 w.heap.size (.int .i64 0) (.int .i64 0) (.int .u64 0) (.int .u64 0) (.slice none 0 0) (.slice none 0 0) := by
    rw [← hW1]
    exact (six_new w _ _ _ _ _ _).next (bal (bal (Below.refl _ _) _) _)
  have s10 : Six W1 (w.heap.size + 1 + 1) (.int .i64 1) (.int .i64 k) (.int .u64 0) (.int .u64 (n : Int)) (.slice (some ⟨w.heap.size + 1, 0, none⟩) 1 1) (.slice none 0 0) := by
    rw [← hW1]
    have := six_new ((w.alloc (.cells #[.int .i64 0, .int .i64 0, .int .u64 0, .int .u64 0, .slice none 0 0, .slice none 0 0] 26)).alloc (.cells #[.int .u64 (i : Int)] 22)) (.int .i64 1) (.int .i64 k) (.int .u64 0) (.int .u64 (n : Int)) (.slice (some ⟨w.heap.size + 1, 0, none⟩) 1 1) (.slice none 0 0)
    rwa [show ((w.alloc (.cells #[.int .i64 0, .int .i64 0, .int .u64 0, .int .u64 0, .slice none 0 0, .slice none 0 0] 26)).alloc (.cells #[.int .u64 (i : Int)] 22)).heap.size = w.heap.size + 1 + 1 by simp] at this
  have hset : RdU W1 (some ⟨w.heap.size + 1, 0, none⟩) (w.heap.size + 1) 0 1 [i] := by
    have h0 := heap_alloc_new (w.alloc (.cells #[.int .i64 0, .int .i64 0, .int .u64 0, .int .u64 0, .slice none 0 0, .slice none 0 0] 26)) (.cells #[.int .u64 (i : Int)] 22)
    rw [World.size_alloc] at h0
    have h1 : W1.heap[w.heap.size + 1]? = some (.cells #[.int .u64 (i : Int)] 22 (0, 0)) := by
      rw [← hW1]
      exact ((bal (Below.refl _ _) _).block _ (by simp)).trans h0
    refine ⟨rfl, fun _ => rfl, fun t v hv => ?_⟩
    match t, hv with
    | 0, hv => cases hv; rw [cell_of_row W1 (w.heap.size + 1) (0 + 0) _ _ (0, 0) h1]; rfl
  have hz1 : W1.heap.size = w.heap.size + 3 := by rw [← hW1]; simp
  rw [hW1]
  clear hW1
  go_upto_region 7 with (go_at_call 31; with_reducible refine (HM.out _).mono ?_; rintro e w2 ⟨g, cp, rfl, hR, hb2⟩)
  have hg2 : g < w2.heap.size := World.block_lt_of_cell? w2 _ (hR.cell 0 (by have := HX.out.2.2.2.1; omega)).1
  have hgq : g ≠ w.heap.size + 1 + 1 := by
    intro e
    have h1 := (hR.cell 0 (by have := HX.out.2.2.2.1; omega)).2
    have h2 := (s10.next hb2).cells.2.1
    rw [e, Nat.zero_mul, Nat.zero_add, h2] at h1
    cases h1
  have HS : Hid (∀ W, Bx (w.heap.size + 1 + 1) w2 W → Six W w.heap.size (.int .i64 0) (.int .i64 0) (.int .u64 0) (.int .u64 0) (.slice none 0 0) (.slice none 0 0) ∧ RdU W (some ⟨w.heap.size + 1, 0, none⟩) (w.heap.size + 1) 0 1 [i] ∧ (∀ j, j < M.length → W.cell? ⟨g, j * 2, none⟩ = some (.int .i64 (((M.getD j (0, 0)).1 : Nat) : Int)) ∧ W.cell? ⟨g, j * 2 + 1, none⟩ = some (.int .u64 (((M.getD j (0, 0)).2 : Nat) : Int))) ∧ Below w.heap.size w W) := fun W hW => by
    have hz2 := hb2.size
    refine ⟨(s8.next hb2).same (hW.block _ (by omega) (by omega)), ⟨rfl, fun _ => rfl, fun t v hv => (World.cell?_of_block (hW.block _ (by show w.heap.size + 1 < _; omega) (by show w.heap.size + 1 ≠ _; omega))).trans ((hset.next hb2).rng t v hv)⟩, fun j hj => ?_, (bnext hb1 hb2).trans (hW.below (by omega) (by omega))⟩
    have := hR.cell j hj
    rw [getD_zl M j hj, Nat.zero_add] at this
    have hbk := hW.block g hg2 hgq
    exact ⟨(World.cell?_of_block (a := ⟨g, j * 2, none⟩) hbk).trans this.1, (World.cell?_of_block (a := ⟨g, j * 2 + 1, none⟩) hbk).trans this.2⟩
  have hP0 : Pv w2 w2 (w.heap.size + 1 + 1) (.int .i64 1) (.int .i64 k) (.int .u64 0) (.int .u64 (n : Int)) (.slice (some ⟨w.heap.size + 1, 0, none⟩) 1 1) (.slice none 0 0) (.slice none 0 0) [] [] := ⟨owns_nil _ _, owns_nil _ _, fun k k1 _ => (by cases k1), s10.next hb2, Bx.refl _ _⟩
  have HQ : Hid (w.heap.size + 1 + 1 < w2.heap.size) := by have := hb2.size; show _ < _; omega
  clear hR hg2 hgq s8 s10 hset hz1 hb1 hb2 HM
  go_wp2
  go_loopg [12, 13] M.length (fun gh ov jj wr => ∃ (j : Nat) (v5 : Value), j ≤ M.length ∧ gh = M.length - j ∧ jj = .int .i64 (j : Int) ∧ Hid (Pv w2 wr (w.heap.size + 1 + 1) (.int .i64 1) (.int .i64 k) (.int .u64 0) (.int .u64 (n : Int)) (.slice (some ⟨w.heap.size + 1, 0, none⟩) 1 1) ov v5 (O.take (if A.length < j then j - 1 else j)) (if A.length < j then E else []) ∧ (j ≤ A.length → v5 = .slice none 0 0)))
  case atStart =>
    go_light
    exact ⟨0, _, Nat.zero_le _, rfl, rfl, by rw [if_neg (by omega), if_neg (by omega), List.take_zero]; exact hP0, fun _ => rfl⟩
  case round =>
    obtain ⟨j, v5, hj, rfl, rfl, HI⟩ := hrel
    obtain ⟨hx1, hx2, hx3, hx4, hx5, hx6, hx7, hx8, hx9, hx10⟩ := HX.out
    by_cases hlt : j < M.length
    · have hz : (j : Int) < (M.length : Int) := by omega
      have hz0 : (0 : Int) ≤ (j : Int) := Int.natCast_nonneg _
      obtain ⟨ww1, ww2, ww3⟩ := wy_where hx1 hx2 hlt
      have HMc0 : Hid (∀ W, Bx (w.heap.size + 1 + 1) w2 W → W.cell? ⟨g, j * 2, none⟩ = some (.int .i64 (((M.getD j (0, 0)).1 : Nat) : Int)) ∧ W.cell? ⟨g, j * 2 + 1, none⟩ = some (.int .u64 (((M.getD j (0, 0)).2 : Nat) : Int))) := fun W hW => (HS.out W hW).2.2.1 j hlt
      have hmem : M.getD j (0, 0) ∈ M := by rw [List.getD_eq_getElem?_getD, List.getElem?_eq_getElem hlt]; exact List.getElem_mem _
      have hin := hx9 _ hmem
      have hot := @oth_at A B (H, i / 2 ^ H) j (by rw [← hx3]; exact hlt)
      rw [← hx3] at hot
      obtain ⟨⟨mh, mk⟩, hmm⟩ : ∃ m, M.getD j (0, 0) = m := ⟨_, rfl⟩
      rw [hmm] at HMc0 ww1 ww2 ww3 hin hot
      obtain ⟨_, hm40, hk40⟩ := fit40 hin (by omega)
      simp only at hin ww1 ww3 hm40 hk40 HMc0
      have hin0 := hin
      obtain ⟨sz, hsz⟩ : ∃ sz, 2 ^ mh = sz := ⟨_, rfl⟩
      obtain ⟨lo, hlo⟩ : ∃ lo, mk * sz = lo := ⟨_, rfl⟩
      rw [hsz] at hin ww1 ww3
      have hszp : 0 < sz := by rw [← hsz]; exact Nat.two_pow_pos _
      rw [Nat.add_mul, Nat.one_mul, hlo] at hin ww1
      rw [hlo] at ww3
      have HSt : Hid (∀ W, Calls Tryd.prog 32 #[.agg #[.int .i64 (mh : Int), .int .u64 (mk : Int)]] W fun e w' => e = .returned (.int .u64 (lo : Int)) ∧ Below W.heap.size W w') := fun W => start_any W mh mk hm40 (by rw [hsz, hlo]; omega) lo (by rw [hsz, hlo])
      have HSz : Hid (∀ W, Calls Tryd.prog 33 #[.agg #[.int .i64 (mh : Int), .int .u64 (mk : Int)]] W fun e w' => e = .returned (.int .u64 (sz : Int)) ∧ Below W.heap.size W w') := fun W => size_any W mh mk hm40 sz hsz
      obtain ⟨m0, m1⟩ := HMc0.out wr HI.out.1.bx
      have e80 : IntKind.u64.wrap ((lo : Int) + (sz : Int)) = (lo : Int) + (sz : Int) := by rw [IntKind.wrap_u64]; omega
      have hj1 : (j : Int) < 41 := by omega
      by_cases hjA : j = A.length
      · obtain rfl : mh = H := congrArg Prod.fst (ww2 hjA)
        have hmk : mk = i / 2 ^ mh := congrArg Prod.snd (ww2 hjA)
        have hge : ¬ (i : Int) < (lo : Int) := by
          have : mk * 2 ^ mh ≤ i := by rw [hmk]; exact Nat.div_mul_le_self _ _
          rw [hsz, hlo] at this; omega
        have hnl : ¬ (lo : Int) + (sz : Int) ≤ (i : Int) := by
          have : i < (mk + 1) * 2 ^ mh := by rw [hmk]; exact Nat.lt_mul_of_div_lt (Nat.lt_succ_self _) (Nat.two_pow_pos _)
          rw [hsz, Nat.add_mul, hlo] at this; omega
        obtain rfl := HI.out.2 (by omega)
        obtain ⟨TK, hTK⟩ : ∃ TK, O.take j = TK := ⟨_, rfl⟩
        have hI := HI.out.1
        rw [if_neg (by omega), if_neg (by omega), hTK] at hI
        have HI1 := hide hI
        have HN0 : Hid (O.take (if A.length < j + 1 then j + 1 - 1 else j + 1) = TK ∧ (if A.length < j + 1 then E else []) = E ∧ j = A.length ∧ mh ≤ 40 ∧ i < 80 ∧ E.length = mh ∧ (∀ h, h < mh → (sb (i / 2 ^ h) + 1) * 2 ^ h ≤ n ∧ E.getD h ByteArray.empty = nd c L h (sb (i / 2 ^ h))) ∧ n ≤ 80 ∧ c ≤ 32) := by
          obtain ⟨d1, d2, d3, d4, d5, d6, d7⟩ := HD.out
          refine ⟨by rw [if_pos (by omega)]; exact hTK, by rw [if_pos (by omega)], hjA, hm40, by omega, d5, fun h hh => ⟨?_, ?_⟩, hx6, d7⟩
          · exact hx10 (h, sb (i / 2 ^ h)) (List.mem_append_left _ (List.mem_map.2 ⟨h, List.mem_range.2 hh, rfl⟩))
          · rw [← d2, List.getD_eq_getElem?_getD, List.getElem?_map, bes, List.getElem?_map, List.getElem?_range hh]; rfl
        have HMh : Hid (∀ W, Bx (w.heap.size + 1 + 1) w2 W → W.cell? ⟨g, j * 2, none⟩ = some (.int .i64 (mh : Int))) := fun W hb => (HMc0.out W hb).1
        have hbI := HI1.out.bx
        clear ww1 ww2 ww3 hx1 hx2 hx3 hx4 hx5 hx6 hx7 hx8 hx9 hx10 hmm hin hin0 hot hm40 hk40 hsz hlo hszp hmem HI hI hTK hjA hmk
        go_upto_region 16 with (first
          | (go_at_call 32; with_reducible refine (HSt.out _).mono ?_; rintro e w4 ⟨rfl, hb4⟩; obtain ⟨n0, n1⟩ := HMc0.out w4 (hbI.next hb4))
          | (go_at_call 33; with_reducible refine (HSz.out _).mono ?_; rintro e w5 ⟨rfl, hb5⟩))
        have HP5 : Hid (Pv w2 w5 (w.heap.size + 1 + 1) (.int .i64 1) (.int .i64 k) (.int .u64 0) (.int .u64 (n : Int)) (.slice (some ⟨w.heap.size + 1, 0, none⟩) 1 1) u12 (.slice none 0 0) TK []) := HI1.out.next (bnext hb4 hb5)
        clear hbI HI1 hb4 hb5 m0 m1 n0 n1 HSt HSz HMc0
        have hgn : decide (i < lo) = false := decide_eq_false (by omega)
        go_wp2
        try simp only [hgn, Bool.false_or]
        clear hgn hge hnl e80
        go_loopg [15, 16] mh (fun gh bl hh wx => ∃ (h bq : Nat) (vd : Value), h ≤ mh ∧ gh = mh - h ∧ hh = .int .i64 (h : Int) ∧ bl = .int .u64 (bq : Int) ∧ Hid (i / 2 ^ h = bq ∧ OwnS wx w5.heap.size vd (E.take h) ∧ Six wx (w.heap.size + 1 + 1) (.int .i64 1) (.int .i64 k) (.int .u64 0) (.int .u64 (n : Int)) (.slice (some ⟨w.heap.size + 1, 0, none⟩) 1 1) vd ∧ Bx (w.heap.size + 1 + 1) w5 wx))
        case atStart =>
          go_light
          exact ⟨0, i, _, Nat.zero_le _, rfl, rfl, rfl, by simp, by rw [List.take_zero]; exact owns_nil _ _, HP5.out.six, Bx.refl _ _⟩
        case round =>
          obtain ⟨h, bq, vd, hh, rfl, rfl, rfl, HJ⟩ := hrel
          have cm := HMh.out wr (HP5.out.bx.trans HJ.out.2.2.2)
          by_cases hhl : h < mh
          · have hhz : (h : Int) < (mh : Int) := by omega
            have hhz0 : (0 : Int) ≤ (h : Int) := Int.natCast_nonneg _
            have hh41 : (h : Int) < 41 := by have := HN0.out.2.2.2.1; omega
            obtain ⟨j1, j2, j3, j4⟩ := HJ.out
            obtain ⟨bs, hbs⟩ : ∃ bs, sb bq = bs := ⟨_, rfl⟩
            obtain ⟨f1, f2⟩ := HN0.out.2.2.2.2.2.2.1 h hhl
            rw [j1, hbs] at f1 f2
            obtain ⟨lb, hlb⟩ : ∃ lb, bs * 2 ^ h = lb := ⟨_, rfl⟩
            obtain ⟨y, hy⟩ : ∃ y, nd c L h bs = y := ⟨_, rfl⟩
            rw [hy] at f2
            have hn80 := HN0.out.2.2.2.2.2.2.2.1
            have hbq : bq ≤ 80 := by have := Nat.div_le_self i (2 ^ h); have := HN0.out.2.2.2.2.1; omega
            have hlbn : lb < 80 := by have := f1; rw [Nat.add_mul, hlb] at this; have := Nat.two_pow_pos h; omega
            have HSb : Hid (∀ W, Calls Tryd.prog 32 #[.agg #[.int .i64 (h : Int), .int .u64 (bs : Int)]] W fun e w' => e = .returned (.int .u64 (lb : Int)) ∧ Below W.heap.size W w') := fun W => start_any W h bs (by omega) (by rw [hlb]; omega) lb hlb
            have HTb : Hid (∀ W, Bx (w.heap.size + 1 + 1) w5 W → Calls Tryd.prog 42 #[.int .i64 k, .slice ao len cap, .int .i64 (h : Int), .int .i64 (lb : Int)] W fun e w' => e = .returned (.string y) ∧ Below W.heap.size W w') := fun W hW => by
              rw [← hy]
              exact HTr.out W (HS.out W (HP5.out.bx.trans hW)).2.2.2 h bs lb f1 hlb
            have hwl : IntKind.i64.wrap (lb : Int) = (lb : Int) := by rw [IntKind.wrap_i64]; omega
            have eb : IntKind.u64.wrap ((bq : Int) / 2) = ((bq / 2 : Nat) : Int) := by rw [IntKind.wrap_u64]; omega
            have e17 : IntKind.u64.wrap ((bq : Int) + 1) = ((bq + 1 : Nat) : Int) := by rw [IntKind.wrap_u64]; omega
            have hEl := HN0.out.2.2.2.2.2.1
            have hys : y.size ≤ 9223372036854775807 := by
              have := HD.out.2.2.2.2.2.1 y (by rw [← HD.out.2.2.1]; exact List.mem_append_left _ (by rw [← f2]; exact getD_mem (by omega)))
              exact this
            have HG : Hid (E.take (h + 1) = E.take h ++ [y] ∧ i / 2 ^ (h + 1) = bq / 2 ∧ h < mh ∧ y.size ≤ 9223372036854775807 ∧ (E.take h).length ≤ 41 ∧ Six wr (w.heap.size + 1 + 1) (.int .i64 1) (.int .i64 k) (.int .u64 0) (.int .u64 (n : Int)) (.slice (some ⟨w.heap.size + 1, 0, none⟩) 1 1) vd ∧ OwnS wr w5.heap.size vd (E.take h) ∧ Bx (w.heap.size + 1 + 1) w5 wr ∧ (w.heap.size + 1 + 1) < w5.heap.size) := ⟨by rw [take_succ_getD ByteArray.empty E h (by omega), f2], by rw [← half_next, j1], hhl, hys, by rw [List.length_take]; omega, j3, j2, j4, Nat.lt_of_lt_of_le HQ.out HP5.out.bx.size⟩
            have hsb : bs = if bq % 2 = 1 then bq - 1 else bq + 1 := hbs.symm
            clear j1 j2 j3 j4 hbs f1 f2 hlb hy hn80 hlbn hEl hys HJ hhl HTr
            go_upto_if 87 with (fail)
            go_cut [17] from 83 to 89 (fun y wx => y = .int .u64 (bs : Int) ∧ wr = wx)
            case first =>
              by_cases hodd : bq % 2 = 1
              · have hod : (bq : Int) % 2 = 1 := by omega
                rw [if_pos hodd] at hsb
                have e18 : IntKind.u64.wrap ((bq : Int) - 1) = (bs : Int) := by rw [IntKind.wrap_u64]; omega
                clear hodd hsb
                go_wp2
                go_meet
                case rel =>
                  go_light
                  exact ⟨rfl, rfl⟩
              · have hod : ¬ (bq : Int) % 2 = 1 := by omega
                rw [if_neg hodd] at hsb
                subst hsb
                clear hodd
                go_wp2
                go_meet
                case rel =>
                  go_light
                  exact ⟨by go_num, rfl⟩
            case rest =>
              obtain ⟨rfl, rfl⟩ := hcut
              clear hsb e17
              go_upto_region 21 with (fail)
              go_cut [17] from 74 to 105 (fun y wx => y = .int .u64 (bs : Int) ∧ ∃ v', OwnS wx w5.heap.size v' (E.take (h + 1)) ∧ Six wx (w.heap.size + 1 + 1) (.int .i64 1) (.int .i64 k) (.int .u64 0) (.int .u64 (n : Int)) (.slice (some ⟨w.heap.size + 1, 0, none⟩) 1 1) v' ∧ Bx (w.heap.size + 1 + 1) w5 wx)
              case first =>
                have hdr := (Below.refl wr.heap.size wr).drew
                have HC6 : Hid (∀ W, Below wr.heap.size wr W → Six W (w.heap.size + 1 + 1) (.int .i64 1) (.int .i64 k) (.int .u64 0) (.int .u64 (n : Int)) (.slice (some ⟨w.heap.size + 1, 0, none⟩) 1 1) vd) := fun W hW => HG.out.2.2.2.2.2.1.next hW
                have k5 := (HC6.out _ hdr).cells.2.2.2.2.2
                clear HS HMh cm eb HP5 HN0 HX HD
                go_region_law (first
                  | (refine step_append_S _ (by rfl) _ _ (by rfl) w5.heap.size vd (E.take h) (by rfl) (own_al (own_next HG.out.2.2.2.2.2.2.1 hr7 (Nat.le_refl _)) _) ⟨w7.heap.size, 0, none⟩ w7.heap.size 0 1 [y] (by rfl) (rds_one w7 y HG.out.2.2.2.1) (by have := HG.out.2.2.2.2.1; show _ + 1 ≤ _; omega) (by have := (HG.out.2.2.2.2.2.2.2.1.next hr7).size; rw [World.size_alloc]; omega) ?_; intro v' w8 o1 o2; obtain ⟨xa, xm, xc, rfl⟩ := Cv.own_slice o1; have s8 := (HC6.out _ (bal hr7 (.cells #[.string y] 9))).same (o2.block _ HG.out.2.2.2.2.2.2.2.2); have s85 := s8.cells.2.2.2.2.2; have s8z := s8.fz 5)
                  | (go_simp; go_at_call 32; with_reducible refine (HSb.out _).mono ?_; rintro e w6 ⟨rfl, hb6⟩; have hr6 := bnext hdr hb6; have l5 := (HC6.out _ hr6).cells.2.2.2.2.2)
                  | (go_simp; go_at_call 42; with_reducible refine (HTb.out _ (HG.out.2.2.2.2.2.2.2.1.next hr6)).mono ?_; rintro e w7 ⟨rfl, hb7⟩; have hr7 := bnext hr6 hb7; have p5 := (HC6.out _ hr7).cells.2.2.2.2.2; have pa5 := (HC6.out _ (bal hr7 (.cells #[.string y] 9))).cells.2.2.2.2.2))
                all_goals
                  go_wp2
                  go_simp
                  go_meet
                  case rel =>
                    go_light
                    have hch := (ChT.refl (fun b => b = w.heap.size + 1 + 1) w8).set (w.heap.size + 1 + 1) 5 (.slice xa xm xc) rfl
                    exact ⟨rfl, _, by rw [HG.out.1]; exact keep_row o1 fun g' _ hg' => hch.block g' (by have := HG.out.2.2.2.2.2.2.2.2; show ¬ g' = _; omega), s8.set5 _, (((HG.out.2.2.2.2.2.2.2.1.next hr7).next (bal (Below.refl _ _) (.cells #[.string y] 9))).low o2).put hch⟩
              case rest =>
                obtain ⟨rfl, v', o1, o2, o3⟩ := hcut
                clear HTb HSb cm
                go_wp2
                go_roundg (mh - (h + 1))
                case rel =>
                  go_light
                  exact ⟨h + 1, bq / 2, v', by have := HG.out.2.2.1; omega, rfl, by go_num, by go_num, HG.out.2.1, o1, o2, o3⟩
                case measure => go_light; have := HG.out.2.2.1; omega
          · obtain rfl : h = mh := by omega
            have hhz : ¬ ((h : Int) < (h : Int)) := by omega
            have HZ : Hid (Pv w2 wr (w.heap.size + 1 + 1) (.int .i64 1) (.int .i64 k) (.int .u64 0) (.int .u64 (n : Int)) (.slice (some ⟨w.heap.size + 1, 0, none⟩) 1 1) u12 vd TK E) := by
              obtain ⟨j1, j2, j3, j4⟩ := HJ.out
              have hEh : E.take h = E := List.take_of_length_le (by have := HN0.out.2.2.2.2.2.1; omega)
              rw [hEh] at j2
              exact ⟨own_bx HP5.out.o j4 HQ.out, World.ownsRow.mono j2 HP5.out.bx.size, fun k h1 h2 => by
                have := (World.ownsRow.lt HP5.out.o k h1).2
                have := (World.ownsRow.lt j2 k h2).1
                omega, j3, HP5.out.bx.trans j4⟩
            clear HJ hhl HP5 HMh HTr
            go_wp2
            go_roundg (M.length - (j + 1))
            case rel =>
              go_light
              exact ⟨j + 1, vd, by omega, rfl, by go_num, by rw [HN0.out.1, HN0.out.2.1]; exact HZ.out, fun h => by have := HN0.out.2.2.1; omega⟩
            case measure => go_light; omega
      · obtain ⟨t, ht⟩ : ∃ t, (if A.length < j then j - 1 else j) = t := ⟨_, rfl⟩
        obtain ⟨TK, hTK⟩ : ∃ TK, O.take t = TK := ⟨_, rfl⟩
        obtain ⟨EK, hEK⟩ : ∃ EK, (if A.length < j then E else ([] : List ByteArray)) = EK := ⟨_, rfl⟩
        obtain ⟨y, hy⟩ : ∃ y, nd c L mh mk = y := ⟨_, rfl⟩
        have hI := HI.out
        rw [ht, hTK, hEK] at hI
        have hot := hot hjA
        rw [ht] at hot
        obtain ⟨d1, d2, d3, d4, d5, d6, d7⟩ := HD.out
        have hOt : O[t]? = some y := by rw [← d1, List.getElem?_map, hot, ← hy]; rfl
        have htl : t < O.length := (List.getElem?_eq_some_iff.1 hOt).1
        have hys : y.size ≤ 9223372036854775807 := d6 y (by rw [← d3]; exact List.mem_append_right _ (List.mem_of_getElem? hOt))
        have HN : Hid (O.take (if A.length < j + 1 then j + 1 - 1 else j + 1) = TK ++ [y] ∧ (if A.length < j + 1 then E else []) = EK ∧ TK.length ≤ 41 ∧ y.size ≤ 9223372036854775807 ∧ (j + 1 ≤ A.length → v5 = .slice none 0 0)) := by
          refine ⟨?_, ?_, ?_, hys, fun h => hI.2 (by omega)⟩
          · have : (if A.length < j + 1 then j + 1 - 1 else j + 1) = t + 1 := by rw [← ht]; split <;> split <;> omega
            rw [this, take_succ_getD ByteArray.empty O t htl, hTK, List.getD_eq_getElem?_getD, hOt]; rfl
          · rw [← hEK]
            by_cases h : A.length < j
            · rw [if_pos h, if_pos (by omega)]
            · rw [if_neg h, if_neg (by omega)]
          · rw [← hTK, List.length_take]; omega
        have HTm : Hid (∀ W, Bx (w.heap.size + 1 + 1) w2 W → Calls Tryd.prog 42 #[.int .i64 k, .slice ao len cap, .int .i64 (mh : Int), .int .i64 (lo : Int)] W fun e w' => e = .returned (.string y) ∧ Below W.heap.size W w') := fun W hW => by
          rw [← hy]
          exact HTr.out W (HS.out W hW).2.2.2 mh mk lo hin0 (by rw [hsz, hlo])
        have hwl : IntKind.i64.wrap (lo : Int) = (lo : Int) := by rw [IntKind.wrap_i64]; omega
        have HP := hide hI.1
        have hbI := hI.1.bx
        rcases Nat.lt_or_gt_of_ne hjA with h | h
        · have hge : ¬ (i : Int) < (lo : Int) := by have := ww1 h; omega
          have hnl : (lo : Int) + (sz : Int) ≤ (i : Int) := by have := ww1 h; omega
          clear ww1 ww2 ww3 hx1 hx2 hx3 hx4 hx5 hx6 hx7 hx8 hx9 hx10 hmm hin hin0 hot hm40 hk40 hsz hlo hszp hmem HI hI hTK hEK hjA ht hy d1 d2 d3 d4 d5 d6 d7 hOt htl hys h
          go_wp2_with (first
            | (go_at_call 32; with_reducible refine (HSt.out _).mono ?_; rintro e w4 ⟨rfl, hb4⟩; obtain ⟨n0, n1⟩ := HMc0.out w4 (hbI.next hb4))
            | (go_at_call 33; with_reducible refine (HSz.out _).mono ?_; rintro e w5 ⟨rfl, hb5⟩; have hb45 := bnext hb4 hb5; obtain ⟨p0, p1⟩ := HMc0.out w5 (hbI.next hb45))
            | (go_at_call 42; with_reducible refine (HTm.out _ (hbI.next hb45)).mono ?_; rintro e w6 ⟨rfl, hb6⟩; have hb46 := bnext hb45 hb6)
            | (at_builtin; refine wpList_append_SA _ rfl _ _ rfl w2.heap.size _ TK rfl (own_al (HP.out.next hb46).o _) (some ⟨w6.heap.size, 0, none⟩) w6.heap.size 0 1 1 [y] rfl (rds_one w6 y HN.out.2.2.2.1) (fun h => by cases h) ?c1 ?c2 ?_))
          case c1 => have := HN.out.2.2.1; simp; omega
          case c2 => have := (hbI.next hb46).size; simp; omega
          intro v' w7 o1 hg hf
          have hP7 := ((HP.out.next hb46).next (bal (Below.refl _ _) (.cells #[.string y] 9))).oth HQ.out o1 hg (by rw [World.size_alloc]; exact hf)
          rw [← HN.out.1, ← HN.out.2.1] at hP7
          clear o1 hg hf
          go_wp2
          go_roundg (M.length - (j + 1))
          case rel =>
            go_light
            exact ⟨j + 1, v5, by omega, rfl, by go_num, hP7, HN.out.2.2.2.2⟩
          case measure => go_light; omega
        · have hge : (i : Int) < (lo : Int) := by have := ww3 h; omega
          clear ww1 ww2 ww3 hx1 hx2 hx3 hx4 hx5 hx6 hx7 hx8 hx9 hx10 hmm hin hin0 hot hm40 hk40 hsz hlo hszp hmem HI hI hTK hEK hjA ht hy d1 d2 d3 d4 d5 d6 d7 hOt htl hys h
          go_wp2_with (first
            | (go_at_call 32; with_reducible refine (HSt.out _).mono ?_; rintro e w4 ⟨rfl, hb4⟩; obtain ⟨n0, n1⟩ := HMc0.out w4 (hbI.next hb4))
            | (go_at_call 42; with_reducible refine (HTm.out _ (hbI.next hb4)).mono ?_; rintro e w6 ⟨rfl, hb6⟩; have hb46 := bnext hb4 hb6)
            | (at_builtin; refine wpList_append_SA _ rfl _ _ rfl w2.heap.size _ TK rfl (own_al (HP.out.next hb46).o _) (some ⟨w6.heap.size, 0, none⟩) w6.heap.size 0 1 1 [y] rfl (rds_one w6 y HN.out.2.2.2.1) (fun h => by cases h) ?c1 ?c2 ?_))
          case c1 => have := HN.out.2.2.1; simp; omega
          case c2 => have := (hbI.next hb46).size; simp; omega
          intro v' w7 o1 hg hf
          have hP7 := ((HP.out.next hb46).next (bal (Below.refl _ _) (.cells #[.string y] 9))).oth HQ.out o1 hg (by rw [World.size_alloc]; exact hf)
          rw [← HN.out.1, ← HN.out.2.1] at hP7
          clear o1 hg hf
          go_wp2
          go_roundg (M.length - (j + 1))
          case rel =>
            go_light
            exact ⟨j + 1, v5, by omega, rfl, by go_num, hP7, HN.out.2.2.2.2⟩
          case measure => go_light; omega
    · obtain rfl : j = M.length := by omega
      have hz : ¬ ((M.length : Int) < (M.length : Int)) := by omega
      obtain ⟨d1, d2, d3, d4, d5, d6, d7⟩ := HD.out
      have hP := HI.out.1
      rw [if_pos (by omega), if_pos (by omega), List.take_of_length_le (by omega)] at hP
      obtain ⟨oa, ob, ocp, hov, hrd, hcp, hon⟩ := owns_rds hP.o (fun s hs => d6 s (by rw [← d3]; exact List.mem_append_right _ hs))
      subst hov
      have k5 := hP.six.cells.2.2.2.2.2
      have HF : Hid (OwnS wr w2.heap.size v5 E ∧ RdS wr oa ob 0 O.length O ∧ E.length + O.length ≤ 100 ∧ w2.heap.size ≤ wr.heap.size ∧ Six wr (w.heap.size + 1 + 1) (.int .i64 1) (.int .i64 k) (.int .u64 0) (.int .u64 (n : Int)) (.slice (some ⟨w.heap.size + 1, 0, none⟩) 1 1) v5 ∧ Bx (w.heap.size + 1 + 1) w2 wr) := ⟨hP.dd, hrd, by omega, hP.bx.size, hP.six, hP.bx⟩
      clear d1 d2 d3 d4 d5 d6 d7 hP hrd hcp hx1 hx2 hx3 hx4 hx5 hx6 hx7 hx8 hx9 hx10 HI hlt hj HTr
      go_upto_region 24 with (at_builtin; refine wpList_append_S _ rfl _ _ rfl w2.heap.size _ E rfl HF.out.1 oa ob 0 ocp O rfl HF.out.2.1 hon (by have := HF.out.2.2.1; omega) HF.out.2.2.2.1 ?_; intro v' w8 o1 o2; obtain ⟨xa, xm, xc, rfl⟩ := Cv.own_slice o1; have s8 := HF.out.2.2.2.2.1.same (o2.block _ HQ.out); have s85 := s8.cells.2.2.2.2.2; have s8z := s8.fz 5)
      have HZ : Hid (∃ w9, w8.setCell ⟨(w.heap.size + 1 + 1), 5, none⟩ (.slice xa xm xc) = w9 ∧ Six w9 (w.heap.size + 1 + 1) (.int .i64 1) (.int .i64 k) (.int .u64 0) (.int .u64 (n : Int)) (.slice (some ⟨w.heap.size + 1, 0, none⟩) 1 1) (.slice xa xm xc) ∧ Bx (w.heap.size + 1 + 1) w2 w9 ∧ OwnS w9 w2.heap.size (.slice xa xm xc) D) := by
        have hch := (ChT.refl (fun b => b = (w.heap.size + 1 + 1)) w8).set (w.heap.size + 1 + 1) 5 (.slice xa xm xc) rfl
        refine ⟨_, rfl, s8.set5 _, (HF.out.2.2.2.2.2.low o2).put hch, ?_⟩
        rw [← HD.out.2.2.1]
        exact keep_row o1 fun g' _ hg' => hch.block g' (by have := HQ.out; show ¬ g' = _; omega)
      obtain ⟨w9, hw9, s9, hbx9, ho9⟩ := HZ.out
      rw [hw9]
      obtain ⟨da, db, dc, hv0, hrD, _, _⟩ := owns_rds ho9 HD.out.2.2.2.2.2.1
      obtain ⟨e1, e2, e3⟩ := Value.slice.inj hv0
      obtain rfl := e1.symm
      obtain rfl := e2.symm
      obtain rfl := e3.symm
      obtain ⟨h80, hset, _, hbel⟩ := HS.out w9 hbx9
      clear HZ hw9 s8 s85 s8z o1 o2 HF HS HX k5 hrD
      obtain ⟨k0, k1, k2, k3, k4, k5⟩ := s9.cells
      obtain ⟨l0, l1, l2, l3, l4, l5⟩ := h80.cells
      have f0 := h80.fz
      go_wp2
      have hF6 := h80.put (.int .i64 1) (.int .i64 k) (.int .u64 0) (.int .u64 (n : Int)) (.slice (some ⟨w.heap.size + 1, 0, none⟩) 1 1) (.slice da D.length dc)
      have hch := put6_ch w9 w.heap.size (.int .i64 1) (.int .i64 k) (.int .u64 0) (.int .u64 (n : Int)) (.slice (some ⟨w.heap.size + 1, 0, none⟩) 1 1) (.slice da D.length dc)
      unfold put6 at hF6 hch
      generalize (((((w9.setCell ⟨w.heap.size, 0, none⟩ (.int .i64 1)).setCell ⟨w.heap.size, 1, none⟩ (.int .i64 k)).setCell ⟨w.heap.size, 2, none⟩ (.int .u64 0)).setCell ⟨w.heap.size, 3, none⟩ (.int .u64 (n : Int))).setCell ⟨w.heap.size, 4, none⟩ (.slice (some ⟨w.heap.size + 1, 0, none⟩) 1 1)).setCell ⟨w.heap.size, 5, none⟩ (.slice da D.length dc) = WF at *
      obtain ⟨s0, s1, s2, s3, s4, s5⟩ := hF6.cells
      refine bodyPost_ret (v := .tuple #[.agg #[.int .i64 1, .int .i64 k, .int .u64 0, .int .u64 (n : Int), .slice (some ⟨w.heap.size + 1, 0, none⟩) 1 1, .slice da D.length dc], .int .i64 0]) (by simp [results, Tryd.results20, go_sem, s0, s1, s2, s3, s4, s5]) rfl ?_
      have hq := HQ.out
      have hoF : OwnS WF w2.heap.size (.slice da D.length dc) D := keep_row ho9 fun g' _ hg' => hch.block g' (by show ¬ g' = _; omega)
      obtain ⟨da', db', dc', hv, hrD, _, _⟩ := owns_rds hoF HD.out.2.2.2.2.2.1
      obtain ⟨hv1, _, _⟩ := Value.slice.inj hv
      subst hv1
      refine ⟨w.heap.size + 1, da, ⟨dc, rfl⟩, ⟨rfl, fun _ => rfl, fun t v hv => (World.cell?_of_block (hch.block _ (by show ¬ w.heap.size + 1 = w.heap.size; omega))).trans (hset.rng t v hv)⟩, ⟨db', hrD⟩, hbel.trans (hch.below (by rintro b rfl; exact Nat.le_refl _))⟩
end Go.Proofs.YtgmnolepaidiiaaDoor
