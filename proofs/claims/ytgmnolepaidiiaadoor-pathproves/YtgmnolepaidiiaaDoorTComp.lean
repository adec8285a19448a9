/-
  The walk of PathComplete. Own work.
-/
import Derived.Test.YtgmnolepaidiiaaDoorTLawD
import Derived.Test.YtgmnolepaidiiaaDoorPlanU
import Derived.Deep.CutRange
namespace Go.Proofs.YtgmnolepaidiiaaDoor
open Go.RowKit
attribute [local go_sem ↓] Go.wp_at_zero Go.wp_at_succ
theorem trl_size {c i a H : Nat} (hc : c ≤ 32) {D : List ByteArray} {x : ByteArray} (hs : ∀ s ∈ D, s.size = c) (hx : x.size ≤ 2000) : ∀ s ∈ trl c i a H D x, s.size ≤ 1000000 := by
  have hup : ∀ (E : List ByteArray) (q : Nat) (d : ByteArray), (∀ s ∈ E, s.size = c) → d.size = c → ∀ s ∈ upT c q d E, s.size ≤ 1000000 := by
    intro E
    induction E with
    | nil => intro q d _ _ s hs; cases hs
    | cons y r ih =>
      intro q d hE hd s hs
      rw [upT] at hs
      rcases List.mem_cons.1 hs with rfl | hs
      · have := hE y (by simp)
        unfold stT
        split <;> rw [nodeT_size] <;> omega
      · exact ih _ _ (fun s h => hE s (by simp [h])) (dg_size hc _) s hs
  have hbg : ∀ (P : List ByteArray), (∀ s ∈ P, s.size = c) → ∀ s ∈ bgT c P, s.size ≤ 1000000 := by
    intro P
    induction P with
    | nil => intro _ s hs; cases hs
    | cons p r ih =>
      intro hP s hs
      cases r with
      | nil => cases hs
      | cons q r =>
        rw [bgT, List.mem_append, List.mem_singleton] at hs
        rcases hs with hs | rfl
        · exact ih (fun s h => hP s (by simp at h ⊢; exact .inr h)) s hs
        · have h1 := hP p (by simp)
          have h2 := bagL_size hc (M := 32) (Nat.le_refl _) (q :: r) (fun s h => by rw [hP s (by simp at h ⊢; exact .inr h)]; exact hc)
          rw [bagT_size]; omega
  have hP := pkP_size (i := i) (a := a) (H := H) (x := x) hc hs
  intro s h
  rw [trl, List.mem_append, List.mem_cons, List.mem_append, List.mem_singleton] at h
  rcases h with (rfl | h) | h | rfl
  · rw [leafT_size]; omega
  · exact hup _ _ _ (fun s h => hs s (List.mem_of_mem_take h)) (dg_size hc _) s h
  · exact hbg _ hP s h
  · have h2 := bagL_size hc (M := 32) (Nat.le_refl _) _ (fun s h => by rw [hP s h]; exact hc)
    rw [ByteArray.size_append]
    show 5 + _ ≤ _
    omega
/-- The law's beginning: the list, cut; its forest. -/
theorem list_rd (w : World) (ao : Option Addr) (b off len cap : Nat) (L : List ByteArray) (hr : RdS w ao b off len L) (hm : len ≤ 8796093022208) (T : List ByteArray) (hT : lst L = T) :
    Calls Tryd.prog 13 #[.slice ao len cap] w fun e w' => ∃ al bl cl, e = .returned (.slice al T.length cl) ∧ RdS w' al bl 0 T.length T ∧ Below w.heap.size w w' := by
  refine (list_any w ao b off len cap L hr hm T hT).mono fun e w' ⟨v, e1, e2, e3⟩ => ?_
  obtain ⟨al, bl, cl, rfl, rd, _⟩ := owns_rds e2 (fun s hs => by rw [← hT] at hs; have := lst_size L s hs; omega)
  exact ⟨al, bl, cl, e1, rd, e3⟩
/-- A root in its row. -/
def Rw (w : World) (g n : Nat) (d : ByteArray) : Prop := w.heap[g]? = some (.cells #[.int .u64 (n : Int), .string d] 30 (0, 0))
theorem Rw.rt {w : World} {g n : Nat} {d : ByteArray} (h : Rw w g n d) : Rt w g n d :=
  ⟨by rw [cell_of_row w g 0 _ _ (0, 0) h]; rfl, by rw [cell_of_row w g 1 _ _ (0, 0) h]; rfl, frozen_of_row w g 0 _ _ h, frozen_of_row w g 1 _ _ h⟩
theorem Rw.below {w W : World} {B g n : Nat} {d : ByteArray} (h : Rw w g n d) (hb : Below B w W) (hg : g < B) : Rw W g n d := (hb.block g hg).trans h
theorem Rw.lt {w : World} {g n : Nat} {d : ByteArray} (h : Rw w g n d) : g < w.heap.size := (Array.getElem?_eq_some_iff.1 h).1
theorem Rw.put {w : World} {g n : Nat} {d : ByteArray} (h : Rw w g n d) (n' : Nat) (d' : ByteArray) : Rw ((w.setCell ⟨g, 0, none⟩ (.int .u64 (n' : Int))).setCell ⟨g, 1, none⟩ (.string d')) g n' d' := by
  have h0 := heap_setCell_same w g 0 _ _ (.int .u64 (n' : Int)) h
  exact heap_setCell_same _ g 1 _ _ (.string d') h0
theorem rw_new (w : World) (n : Nat) (d : ByteArray) : Rw (w.alloc (.cells #[.int .u64 (n : Int), .string d] 30)) w.heap.size n d := heap_alloc_new w _
theorem set2_ch (w : World) (g : Nat) (a b : Value) : ChT (fun x => x = g) w ((w.setCell ⟨g, 0, none⟩ a).setCell ⟨g, 1, none⟩ b) := ((ChT.refl (fun x => x = g) w).set g 0 _ rfl).set g 1 _ rfl
set_option maxRecDepth 100000 in
set_option maxHeartbeats 4000000 in
theorem complete_walk (w : World) (ht : Tb w) (hr : Tr w) (k : Int) (ao : Option Addr) (b off len cap : Nat) (L : List ByteArray) (rd : RdS w ao b off len L) (hm : len ≤ 8796093022208) (n : Nat) (_ : n < 18446744073709551616) (other : ByteArray) (ho : other.size ≤ 9223372036854775807) :
    Calls Tryd.prog 4 #[.int .i64 k, .slice ao len cap, .int .u64 (n : Int), .string other] w fun e w' => e = .returned (.bool true) ∧ Below w.heap.size w w' := by
  obtain ⟨K, hK⟩ : ∃ K, stg k = K := ⟨_, rfl⟩
  have hK1 : 1 ≤ K ∧ K ≤ 32 := by rw [← hK]; exact stg_in k
  obtain ⟨T, hT⟩ : ∃ T, lst L = T := ⟨_, rfl⟩
  have hTl : T.length ≤ 80 := by rw [← hT]; exact lst_len L
  have hTs : ∀ s ∈ T, s.size ≤ 2000 := by rw [← hT]; exact lst_size L
  have HFx := fixed_any w ht hr
  have HSt : Hid (∀ W, Calls Tryd.prog 12 #[.int .i64 k] W fun e w' => e = .returned (.int .i64 K) ∧ W = w') := fun W => strength_any W k K hK
  have HLi : Hid (∀ W, Below w.heap.size w W → Calls Tryd.prog 13 #[.slice ao len cap] W fun e w' => ∃ al bl cl, e = .returned (.slice al T.length cl) ∧ RdS w' al bl 0 T.length T ∧ Below W.heap.size W w') := fun W hb => list_rd W ao b off len cap L (rd.next hb (Nat.le_refl _)) hm T hT
  have HWd : Hid (∀ W al bl cl, Below w.heap.size w W → RdS W al bl 0 T.length T → Calls Tryd.prog 14 #[.int .i64 K, .slice al T.length cl] W fun e w' => e = .returned (.pointer (some ⟨W.heap.size + 1, 0, none⟩)) ∧ Frs w' W.heap.size K T ∧ Below W.heap.size W w') := fun W al bl cl hb hr => wood_any W (ht.next hb) K hK1.1 hK1.2 al bl 0 T.length cl T hr hTl hTs
  have HT : Hid (∀ W, Below w.heap.size w W → Tb W ∧ Tr W) := fun W hb => ⟨ht.next hb, hr.next hb⟩
  have HX : Hid (T.length ≤ 80 ∧ (∀ s ∈ T, s.size ≤ 2000) ∧ 1 ≤ K ∧ K ≤ 32) := ⟨hTl, hTs, hK1⟩
  have h80 : (T.length : Int) ≤ 80 := by omega
  clear ht hr rd hm hK hT hTs
  go_enter Tryd.func4, Tryd.ntmps4
  go_upto_region 8 with (first
    | (go_at_call 7; with_reducible refine HFx.mono ?_; rintro e w1 ⟨rfl, hb1⟩)
    | (go_at_call 12; with_reducible refine (HSt.out _).mono ?_; rintro e ws ⟨rfl, rfl⟩)
    | (go_at_call 13; with_reducible refine (HLi.out _ hb1).mono ?_; rintro e w2 ⟨al, bl, cl, rfl, r2, hb2⟩)
    | (go_at_call 14; with_reducible refine (HWd.out _ _ _ _ (bnext hb1 hb2) r2).mono ?_; rintro e w3 ⟨rfl, hF3, hb3⟩))
  have hb03 := bnext (bnext hb1 hb2) hb3
  have HS : Hid (∀ W, Below w3.heap.size w3 W → Frs W w2.heap.size K T ∧ RdS W al bl 0 T.length T ∧ Tb W ∧ Tr W ∧ Below w.heap.size w W) := fun W hW => ⟨hF3.next hW (Nat.le_refl _), r2.next (bnext hb3 hW) (Nat.le_refl _), (HT.out W (bnext hb03 hW)).1, (HT.out W (bnext hb03 hW)).2, bnext hb03 hW⟩
  generalize w2.heap.size = m at *
  clear hF3 r2 hb1 hb2 hb3 HFx HSt HLi HWd HT
  by_cases h0 : T.length = 0
  · have hz : (T.length : Int) = 0 := by omega
    go_wp2
    go_ret
    exact ⟨rfl, hb03⟩
  · have hz : ¬ (T.length : Int) = 0 := by omega
    obtain ⟨r0, hr0⟩ : ∃ r0, n % T.length = r0 := ⟨_, rfl⟩
    have hr1 : r0 < T.length := by rw [← hr0]; exact Nat.mod_lt n (by omega)
    have hmod : (n : Int) % (T.length : Int) = (r0 : Int) := by omega
    obtain ⟨N, hN⟩ : ∃ N, r0 + 1 = N := ⟨_, rfl⟩
    have hN1 : N ≤ T.length := by omega
    have e36 : IntKind.u64.wrap ((r0 : Int) + 1) = (N : Int) := by rw [IntKind.wrap_u64]; omega
    have hN63 : (N : Int) ≤ 80 := by omega
    have hN0 : 1 ≤ N := by omega
    clear hN hr1 hr0
    obtain ⟨rr, hrr⟩ : ∃ rr, rtD (clk K) T N = rr := ⟨_, rfl⟩
    have HFr : Hid (∀ W, Below w3.heap.size w3 W → Calls Tryd.prog 15 #[.pointer (some ⟨m + 1, 0, none⟩), .int .u64 (N : Int)] W fun e w' => e = .returned (.tuple #[.agg #[.int .u64 (N : Int), .string rr], .int .i64 0]) ∧ Below W.heap.size W w') := fun W hb => froot_ok W (HS.out W hb).2.2.1 m K T (HS.out W hb).1 N hN1 rr hrr
    have zr : (rr.size : Int) = K := by
      rw [← hrr, rtD, dg_size (clk_le K)]; exact clk_id ⟨HX.out.2.2.1, HX.out.2.2.2⟩
    have hb33 := Below.refl w3.heap.size w3
    go_upto_if 60 with (go_at_call 15; with_reducible refine (HFr.out _ hb33).mono ?_; rintro e w4 ⟨rfl, hb4⟩)
    obtain ⟨w5, hw5⟩ : ∃ w5, w4.alloc (.cells #[.int .u64 (N : Int), .string rr] 30) = w5 := ⟨_, rfl⟩
    obtain ⟨oy, hoy⟩ : ∃ oy, ct other = oy := ⟨_, rfl⟩
    rw [hw5]
    go_cut [3] from 58 to 62 (fun y wx => y = .string oy ∧ w5 = wx)
    case first =>
      by_cases hbig : 2000 < other.size
      · have hbz : (2000 : Int) < (other.size : Int) := by omega
        have hy : other.extract 0 2000 = oy := by rw [← hoy, ct, if_pos hbig]
        have hbz2 : (2000 : Int) ≤ (other.size : Int) := by omega
        clear hoy hbig hw5
        go_wp2
        go_meet
        case rel =>
          go_light
          exact ⟨rfl, rfl⟩
      · have hbz : ¬ (2000 : Int) < (other.size : Int) := by omega
        obtain rfl : other = oy := by rw [← hoy, ct, if_neg hbig]
        clear hbig hw5
        go_wp2
        go_meet
        case rel =>
          go_light
          exact ⟨rfl, rfl⟩
    case rest =>
      obtain ⟨rfl, rfl⟩ := hcut
      have hoz : oy.size ≤ 2000 := by rw [← hoy]; exact ct_size other
      have hb5 : Below w3.heap.size w3 w5 := by rw [← hw5]; exact bal hb4 _
      have hR5 : Rt w5 w4.heap.size N rr := by rw [← hw5]; exact rt_new w4 N rr 30
      have HS5 : Hid (∀ W, Below w5.heap.size w5 W → Frs W m K T ∧ RdS W al bl 0 T.length T ∧ Tb W ∧ Tr W ∧ Below w.heap.size w W ∧ Rt W w4.heap.size N rr) := fun W hW => by
        obtain ⟨s1, s2, s3, s4, s5⟩ := HS.out W (bnext hb5 hW)
        exact ⟨s1, s2, s3, s4, s5, hR5.below hW (World.block_lt_of_cell? w5 _ hR5.c0)⟩
      have HY : Hid (oy.size ≤ 2000 ∧ rtD (clk K) T N = rr ∧ N ≤ T.length ∧ 1 ≤ N) := ⟨hoz, hrr, hN1, hN0⟩
      generalize w4.heap.size = q11 at *
      clear hw5 hoy hoz hb5 hR5 HS hb4 hb33 HFr hrr hb03 ho hmod e36 hN1 hN0 h0
      go_wp2
      go_loopg [13] N (fun gh x wr => ∃ i : Nat, i ≤ N ∧ gh = N - i ∧ x = .int .u64 (i : Int) ∧ Below w5.heap.size w5 wr)
      case atStart =>
        go_light
        exact ⟨0, Nat.zero_le _, rfl, rfl, Below.refl _ _⟩
      case round =>
        obtain ⟨i, hi, rfl, rfl, hb⟩ := hrel
        by_cases hlt : i < N
        · have hz : (i : Int) < (N : Int) := by omega
          have hz0 : (0 : Int) ≤ (i : Int) := Int.natCast_nonneg _
          obtain ⟨f1, f2, f3, f4, f5, f6⟩ := HS5.out wr hb
          have hT80 := HX.out.1
          obtain ⟨A, H, B, hwy⟩ := wy_ex N i (by have := HY.out.2.2.1; omega) hlt
          obtain ⟨D, hD⟩ : ∃ D, dgP (clk K) T i H A B = D := ⟨_, rfl⟩
          have HPr := prove_rd wr m K T f1 N i H A B hwy HY.out.2.2.1 hlt D hD
          have hsh := hwy.short (by have := HY.out.2.2.1; omega)
          have hDl : D.length = H + (A.length + B.length) := by rw [← hD, dgP_len]
          have hD14 : (D.length : Int) ≤ 14 := by omega
          have hD14n : D.length ≤ 14 := by omega
          obtain ⟨li, hli⟩ : ∃ li, T.getD i ByteArray.empty = li := ⟨_, rfl⟩
          have hiT : (i : Int) < (T.length : Int) := by have := HY.out.2.2.1; omega
          have hiTn : i < T.length := by omega
          have zli : li.size ≤ 2000 := by rw [← hli]; exact HX.out.2.1 _ (getD_mem hiTn)
          have hrt : rtP (clk K) N i A.length H D li = rr := by
            rw [← hD, ← hli, rt_complete hwy (by have := HY.out.2.2.1; omega) HY.out.2.2.1]; exact HY.out.2.1
          obtain ⟨r1, hr1⟩ : ∃ r1, rtP (clk K) N i A.length H D oy = r1 := ⟨_, rfl⟩
          obtain rfl := f2.ptr (by omega)
          have HLc : Hid (∀ W, Below wr.heap.size wr W → W.cell? ⟨bl, i, none⟩ = some (.string li)) := fun W hW => by
            have := ((HS5.out W (bnext hb hW)).2.1).at hiTn
            rw [hli, Nat.zero_add] at this
            exact this
          have HRo : Hid (∀ W bs cs ad bd cd, Below wr.heap.size wr W → RA W K N bs 0 i H A B → RdS W ad bd 0 D.length D → D.length ≤ cd → cd ≤ 9223372036854775807 → (ad = none → cd = 0) → fil K (H + A.length + B.length) D → (Calls Tryd.prog 9 #[.agg #[.int .i64 1, .int .i64 K, .int .u64 0, .int .u64 (N : Int), .slice (some ⟨bs, 0, none⟩) 1 cs, .slice ad D.length cd], .string li] W fun e w' => e = .returned (.tuple #[.agg #[.int .u64 (N : Int), .string rr], .int .i64 0]) ∧ Below W.heap.size W w') ∧ (Calls Tryd.prog 9 #[.agg #[.int .i64 1, .int .i64 K, .int .u64 0, .int .u64 (N : Int), .slice (some ⟨bs, 0, none⟩) 1 cs, .slice ad D.length cd], .string oy] W fun e w' => e = .returned (.tuple #[.agg #[.int .u64 (N : Int), .string r1], .int .i64 0]) ∧ Below W.heap.size W w')) := fun W bs cs ad bd cd hW hA hR h1 h2 h3 hf =>
            ⟨proot_ok W K N bs 0 cs i H A B hA ad bd 0 cd D hR (by omega) li hf (by omega) (HS5.out W (bnext hb hW)).2.2.1 h1 h2 h3 rr hrt, proot_ok W K N bs 0 cs i H A B hA ad bd 0 cd D hR (by omega) oy hf (by have := HY.out.1; omega) (HS5.out W (bnext hb hW)).2.2.1 h1 h2 h3 r1 hr1⟩
          have hsD : ∀ s ∈ D, s.size = clk K := by rw [← hD]; exact dgP_size (clk_le K) T i H A B
          have HTr : Hid (∀ x, x.size ≤ 2000 → ∀ s ∈ trl (clk K) i A.length H D x, s.size ≤ 1000000) := fun x hx => trl_size (clk_le K) hsD hx
          have HCh : Hid (li ≠ oy → Clh (clk K) (trl (clk K) i A.length H D li) (trl (clk K) i A.length H D oy)) := fun hne => trl_part (clk_le K) rfl hsD hsD (by omega) (.inl hne)
          have hTn : ∀ x, (trl (clk K) i A.length H D x).length = D.length + 2 := fun x => trl_len (by omega)
          have HDl := hide hDl
          clear hD hsD hrt hr1 hli hwy hsh f1 f2 f3 f4 f5 f6 hDl
          go_upto_region 20 with (go_at_call 16; with_reducible refine HPr.mono ?_; rintro e w6 ⟨bs, cs, ad, bd, cd, rfl, hA, hR, hcd, hcd63, hnd, hfl, _, _, hb6⟩)
          obtain ⟨w7, hw7⟩ : ∃ w7, w6.alloc (.cells #[.int .i64 1, .int .i64 K, .int .u64 0, .int .u64 (N : Int), .slice (some ⟨bs, 0, none⟩) 1 cs, .slice ad D.length cd] 26) = w7 := ⟨_, rfl⟩
          have hb67 : Below w6.heap.size w6 w7 := by rw [← hw7]; exact bal (Below.refl _ _) _
          have h6 : Six w7 w6.heap.size (.int .i64 1) (.int .i64 K) (.int .u64 0) (.int .u64 (N : Int)) (.slice (some ⟨bs, 0, none⟩) 1 cs) (.slice ad D.length cd) := by rw [← hw7]; exact six_new w6 _ _ _ _ _ _
          have hb7 := bnext hb6 hb67
          have HQ : Hid (∀ W, Below w7.heap.size w7 W → Six W w6.heap.size (.int .i64 1) (.int .i64 K) (.int .u64 0) (.int .u64 (N : Int)) (.slice (some ⟨bs, 0, none⟩) 1 cs) (.slice ad D.length cd) ∧ RA W K N bs 0 i H A B ∧ RdS W ad bd 0 D.length D ∧ Below wr.heap.size wr W ∧ Rt W q11 N rr ∧ Tr W ∧ W.cell? ⟨bl, i, none⟩ = some (.string li)) := fun W hW =>
            ⟨h6.next hW, hA.next (bnext hb67 hW), hR.next (bnext hb67 hW) (Nat.le_refl _), bnext hb7 hW, (HS5.out W (bnext hb (bnext hb7 hW))).2.2.2.2.2, (HS5.out W (bnext hb (bnext hb7 hW))).2.2.2.1, HLc.out W (bnext hb7 hW)⟩
          have HV : Hid (D.length ≤ cd ∧ cd ≤ 9223372036854775807 ∧ (ad = none → cd = 0) ∧ fil K (H + A.length + B.length) D) := ⟨hcd, hcd63, hnd, hfl⟩
          have HAs : Hid (Calls Tryd.prog 17 #[.agg #[.int .i64 1, .int .i64 K, .int .u64 0, .int .u64 (N : Int), .slice (some ⟨bs, 0, none⟩) 1 cs, .slice ad D.length cd], .int .i64 K, .int .u64 (N : Int), .int .u64 (i : Int)] w7 fun e w' => e = .returned (.bool true) ∧ Below w7.heap.size w7 w') :=
            asked_yes w7 K N bs 0 cs i H A B (hA.next hb67) ad bd 0 cd D (hR.next hb67 (Nat.le_refl _)) (by omega) hfl
          have HBB := hide (bnext hb hb7)
          rw [hw7]
          generalize w6.heap.size = q14 at *
          clear hw7 hb67 hb7 hA hR hcd hcd63 hnd hfl HPr hb6 hb
          obtain ⟨e0, e1, e2, e3, e4, e5⟩ := h6.cells
          clear h6
          go_upto_region 22 with (go_at_call 17; with_reducible refine HAs.out.mono ?_; rintro e w8 ⟨rfl, hb8⟩)
          clear e0 e1 e2 e3 e4 e5
          obtain ⟨e0, e1, e2, e3, e4, e5⟩ := (HQ.out w8 hb8).1.cells
          have cli := (HQ.out w8 hb8).2.2.2.2.2.2
          have HRl : Hid (∀ W, Below w8.heap.size w8 W → Calls Tryd.prog 9 #[.agg #[.int .i64 1, .int .i64 K, .int .u64 0, .int .u64 (N : Int), .slice (some ⟨bs, 0, none⟩) 1 cs, .slice ad D.length cd], .string li] W fun e w' => e = .returned (.tuple #[.agg #[.int .u64 (N : Int), .string rr], .int .i64 0]) ∧ Below W.heap.size W w') := fun W hW => by
            obtain ⟨_, x2, x3, x4, _⟩ := HQ.out W (bnext hb8 hW)
            exact (HRo.out W bs cs ad bd cd x4 x2 x3 HV.out.1 HV.out.2.1 HV.out.2.2.1 HV.out.2.2.2).1
          have HRy : Hid (∀ W, Below w8.heap.size w8 W → Calls Tryd.prog 9 #[.agg #[.int .i64 1, .int .i64 K, .int .u64 0, .int .u64 (N : Int), .slice (some ⟨bs, 0, none⟩) 1 cs, .slice ad D.length cd], .string oy] W fun e w' => e = .returned (.tuple #[.agg #[.int .u64 (N : Int), .string r1], .int .i64 0]) ∧ Below W.heap.size W w') := fun W hW => by
            obtain ⟨_, x2, x3, x4, _⟩ := HQ.out W (bnext hb8 hW)
            exact (HRo.out W bs cs ad bd cd x4 x2 x3 HV.out.1 HV.out.2.1 HV.out.2.2.1 HV.out.2.2.2).2
          have HQ8 : Hid (∀ W, Below w8.heap.size w8 W → Six W q14 (.int .i64 1) (.int .i64 K) (.int .u64 0) (.int .u64 (N : Int)) (.slice (some ⟨bs, 0, none⟩) 1 cs) (.slice ad D.length cd) ∧ RA W K N bs 0 i H A B ∧ RdS W ad bd 0 D.length D ∧ Rt W q11 N rr ∧ Tr W ∧ W.cell? ⟨bl, i, none⟩ = some (.string li) ∧ Below w5.heap.size w5 W) := fun W hW => by
            obtain ⟨x1, x2, x3, x4, x5, x6, x7⟩ := HQ.out W (bnext hb8 hW)
            exact ⟨x1, x2, x3, x5, x6, x7, bnext HBB.out (bnext hb8 hW)⟩
          have hd8 := (Below.refl w8.heap.size w8).drew
          have hd8a := (bal (Below.refl w8.heap.size w8) (.cells #[.int .u64 0, .string ⟨#[]⟩] 30)).drew
          have HRx : Hid (∀ W, Below (w8.alloc (.cells #[.int .u64 0, .string ⟨#[]⟩] 30)).drew.heap.size (w8.alloc (.cells #[.int .u64 0, .string ⟨#[]⟩] 30)).drew W → Rw W w8.heap.size 0 ⟨#[]⟩) := fun W hW => (show Rw (w8.alloc (.cells #[.int .u64 0, .string ⟨#[]⟩] 30)).drew w8.heap.size 0 ⟨#[]⟩ from rw_new w8 0 ⟨#[]⟩).below hW (by simp)
          clear HRo HQ HLc HAs hb8 HBB
          go_cut [15, 16] from 91 to 99 (fun e q wx => e = .int .i64 0 ∧ ∃ q16, q = .pointer (some ⟨q16, 0, none⟩) ∧ Rw wx q16 N rr ∧ w8.heap.size ≤ q16 ∧ Below w8.heap.size w8 wx)
          case first =>
            obtain ⟨hq6, _, _, _, _, cli2, _⟩ := HQ8.out _ (bal (Below.refl w8.heap.size w8) (.cells #[.int .u64 0, .string ⟨#[]⟩] 30))
            obtain ⟨g0, g1, g2, g3, g4, g5⟩ := hq6.cells
            clear HRy HQ8 HTr HCh HV hq6
            go_region_with (go_at_call 9; first
              | (with_reducible refine (HRl.out _ hd8).mono ?_; rintro e w9 ⟨rfl, hb9⟩)
              | (with_reducible refine (HRl.out _ hd8a).mono ?_; rintro e w9 ⟨rfl, hb9⟩; have hRz := HRx.out _ hb9; have hRq := hRz.rt; have z0 := hRq.c0; have z1 := hRq.c1; have y0 := hRq.f0; have y1 := hRq.f1))
            all_goals
              go_wp2
              go_meet
              case rel =>
                go_light
                first
                  | exact ⟨rfl, w8.heap.size, rfl, hRz.put N rr, Nat.le_refl _, (bnext hd8a hb9).trans ((set2_ch w9 w8.heap.size _ _).below (by rintro b rfl; exact Nat.le_refl _))⟩
                  | exact ⟨rfl, w9.heap.size, rfl, rw_new w9 N rr, (bnext hd8 hb9).size, bal (bnext hd8 hb9) _⟩
          case rest =>
            obtain ⟨rfl, q16, rfl, hW16, hq16, hb10⟩ := hcut
            clear HRl hd8 hd8a HRx e0 e1 e2 e3 e4 e5 cli
            obtain ⟨x1, x2, x3, x4, x5, x6, x7⟩ := HQ8.out wc hb10
            obtain ⟨e0, e1, e2, e3, e4, e5⟩ := x1.cells
            have k0 := x4.c0
            have k1 := x4.c1
            have j0 := hW16.rt.c0
            have j1 := hW16.rt.c1
            have HW16 := hide (And.intro hW16 hq16)
            have HB10 := hide hb10
            clear x1 x2 x3 x4 x5 x6 x7 hW16 hq16
            go_upto_region 26 with (go_at_call 9; with_reducible refine (HRy.out _ hb10).mono ?_; rintro e w11 ⟨rfl, hb11⟩; have hRz := HW16.out.1.below hb11 HW16.out.1.lt; have hRq := hRz.rt; have z0 := hRq.c0; have z1 := hRq.c1; have y0 := hRq.f0; have y1 := hRq.f1)
            obtain ⟨w12, hw12⟩ : ∃ w12, (w11.setCell ⟨q16, 0, none⟩ (.int .u64 (N : Int))).setCell ⟨q16, 1, none⟩ (.string r1) = w12 := ⟨_, rfl⟩
            have hR12 : Rw w12 q16 N r1 := by rw [← hw12]; exact hRz.put N r1
            have hb12 : Below w8.heap.size w8 w12 := by
              rw [← hw12]
              exact (bnext hb10 hb11).trans ((set2_ch w11 q16 _ _).below (by rintro b rfl; exact HW16.out.2))
            rw [hw12]
            clear hw12 hRz hRq z0 z1 y0 y1 hb11 HRy HW16 hb10 HB10 k0 k1 j0 j1 e0 e1 e2 e3 e4 e5
            obtain ⟨x1, x2, x3, x4, x5, x6, x7⟩ := HQ8.out w12 hb12
            obtain ⟨e0, e1, e2, e3, e4, e5⟩ := x1.cells
            have k0 := x4.c0
            have k1 := x4.c1
            have j0 := hR12.rt.c0
            have j1 := hR12.rt.c1
            have HBF := hide x7
            by_cases hre : r1 = rr
            · subst hre
              by_cases hol : oy = li
              · subst hol
                clear x1 x2 x3 x4 x5 x7 hR12
                go_quiet (fail)
                go_wp2
                go_roundg (N - (i + 1))
                case rel =>
                  go_light
                  exact ⟨i + 1, by omega, rfl, by go_num, below_drewN HBF.out _⟩
                case measure => go_light; omega
              · have hbq := beq_ne hol
                have hok := x2.k1
                obtain ⟨X1, hX1⟩ : ∃ X1, trl (clk K) i A.length H D li = X1 := ⟨_, rfl⟩
                obtain ⟨X2, hX2⟩ : ∃ X2, trl (clk K) i A.length H D oy = X2 := ⟨_, rfl⟩
                have hl1 : X1.length = D.length + 2 := by rw [← hX1]; exact hTn li
                have hl2 : X2.length = D.length + 2 := by rw [← hX2]; exact hTn oy
                have z1 : ∀ s ∈ X1, s.size ≤ 1000000 := by rw [← hX1]; exact HTr.out li zli
                have z2 : ∀ s ∈ X2, s.size ≤ 1000000 := by rw [← hX2]; exact HTr.out oy HY.out.1
                have HZ : Hid ((∀ s ∈ X1, s.size ≤ 9223372036854775807) ∧ ∀ s ∈ X2, s.size ≤ 9223372036854775807) := ⟨fun s hs => by have := z1 s hs; omega, fun s hs => by have := z2 s hs; omega⟩
                have hcl := HCh.out (fun e => hol e.symm)
                rw [hX1, hX2] at hcl
                have HK : Hid (∀ W, Below w12.heap.size w12 W → Six W q14 (.int .i64 1) (.int .i64 K) (.int .u64 0) (.int .u64 (N : Int)) (.slice (some ⟨bs, 0, none⟩) 1 cs) (.slice ad D.length cd) ∧ Rt W q16 N r1 ∧ Rt W q11 N r1 ∧ W.cell? ⟨bl, i, none⟩ = some (.string li)) := fun W hW => by
                  obtain ⟨y1, _, _, y4, _, y6, _⟩ := HQ8.out W (bnext hb12 hW)
                  exact ⟨y1, (hR12.below hW hR12.lt).rt, y4, y6⟩
                have HTl : Hid (∀ W, Below w12.heap.size w12 W → Calls Tryd.prog 19 #[.agg #[.int .i64 1, .int .i64 K, .int .u64 0, .int .u64 (N : Int), .slice (some ⟨bs, 0, none⟩) 1 cs, .slice ad D.length cd], .string li] W fun e w' => ∃ v, e = .returned v ∧ OwnS w' W.heap.size v X1 ∧ Below W.heap.size W w') := fun W hW => by
                  obtain ⟨_, y2, y3, _, y5, _, _⟩ := HQ8.out W (bnext hb12 hW)
                  rw [← hX1]
                  exact ltrail_any W y5 K N bs 0 cs i H A B y2 ad bd 0 cd D y3 HV.out.2.2.2 li zli
                have HTy : Hid (∀ W, Below w12.heap.size w12 W → Calls Tryd.prog 19 #[.agg #[.int .i64 1, .int .i64 K, .int .u64 0, .int .u64 (N : Int), .slice (some ⟨bs, 0, none⟩) 1 cs, .slice ad D.length cd], .string oy] W fun e w' => ∃ v, e = .returned v ∧ OwnS w' W.heap.size v X2 ∧ Below W.heap.size W w') := fun W hW => by
                  obtain ⟨_, y2, y3, _, y5, _, _⟩ := HQ8.out W (bnext hb12 hW)
                  rw [← hX2]
                  exact ltrail_any W y5 K N bs 0 cs i H A B y2 ad bd 0 cd D y3 HV.out.2.2.2 oy HY.out.1
                have HCl : Hid (∀ W ao1 b1 c1 ao2 b2 c2, Below w12.heap.size w12 W → RdS W ao1 b1 0 X1.length X1 → RdS W ao2 b2 0 X2.length X2 → Calls Tryd.prog 18 #[.slice ao1 X1.length c1, .slice ao2 X2.length c2, .int .i64 K] W fun e w' => e = .returned (.bool true) ∧ Below W.heap.size W w') := fun W ao1 b1 c1 ao2 b2 c2 hW h1 h2 => by
                  obtain ⟨_, _, _, _, y5, _, _⟩ := HQ8.out W (bnext hb12 hW)
                  have e12 : X2.length = X1.length := by omega
                  rw [e12] at h2 ⊢
                  exact clash_yes W y5 K hok.1 hok.2 ao1 b1 0 c1 ao2 b2 0 c2 X1 X2 h1 h2 (by omega) z1 z2 hcl
                clear x1 x2 x3 x4 x5 x7 hR12 HQ8 HV HTr HCh hTn hX1 hX2 hl1 hl2 z1 z2 hcl e0 e1 e2 e3 e4 e5 k0 k1 j0 j1 x6 hol hok
                refine wp_region_planG (by kernel_rfl) [113, 114, 115, 116, 117, 118, 119, 120, 121, 122, 123, 124, 125, 126, 127, 128, 129, 130, 131, 132, 133, 134, 135, 136, 137, 138, 139, 140, 141] [.int .i64 0, .bool false, .bool false, .agg #[.int .u64 (N : Int), .string r1], .agg #[.int .u64 (N : Int), .string r1], .bool true, .bool true, .string oy, .slice (some ⟨bl, 0, none⟩) T.length cl, .int .u64 (i : Int), .pointer (some ⟨bl, i, none⟩), .string li, .bool true, .bool true, .bool true, .agg #[.int .i64 1, .int .i64 K, .int .u64 0, .int .u64 (N : Int), .slice (some ⟨bs, 0, none⟩) 1 cs, .slice ad D.length cd], .slice (some ⟨bl, 0, none⟩) T.length cl, .int .u64 (i : Int), .pointer (some ⟨bl, i, none⟩), .string li, undef, .agg #[.int .i64 1, .int .i64 K, .int .u64 0, .int .u64 (N : Int), .slice (some ⟨bs, 0, none⟩) 1 cs, .slice ad D.length cd], .string oy, undef, .int .i64 K, .bool true, .bool false, .bool false, .bool false] [(20, X1), (23, X2)] (by kernel_rfl) rfl ?step ?fin
                case fin =>
                  intro f Wc hB hf
                  have HE := hide (bnext HBF.out hB)
                  rw [show mixG [.int .i64 0, .bool false, .bool false, .agg #[.int .u64 (N : Int), .string r1], .agg #[.int .u64 (N : Int), .string r1], .bool true, .bool true, .string oy, .slice (some ⟨bl, 0, none⟩) T.length cl, .int .u64 (i : Int), .pointer (some ⟨bl, i, none⟩), .string li, .bool true, .bool true, .bool true, .agg #[.int .i64 1, .int .i64 K, .int .u64 0, .int .u64 (N : Int), .slice (some ⟨bs, 0, none⟩) 1 cs, .slice ad D.length cd], .slice (some ⟨bl, 0, none⟩) T.length cl, .int .u64 (i : Int), .pointer (some ⟨bl, i, none⟩), .string li, undef, .agg #[.int .i64 1, .int .i64 K, .int .u64 0, .int .u64 (N : Int), .slice (some ⟨bs, 0, none⟩) 1 cs, .slice ad D.length cd], .string oy, undef, .int .i64 K, .bool true, .bool false, .bool false, .bool false] [(20, X1), (23, X2)] f = [.int .i64 0, .bool false, .bool false, .agg #[.int .u64 (N : Int), .string r1], .agg #[.int .u64 (N : Int), .string r1], .bool true, .bool true, .string oy, .slice (some ⟨bl, 0, none⟩) T.length cl, .int .u64 (i : Int), .pointer (some ⟨bl, i, none⟩), .string li, .bool true, .bool true, .bool true, .agg #[.int .i64 1, .int .i64 K, .int .u64 0, .int .u64 (N : Int), .slice (some ⟨bs, 0, none⟩) 1 cs, .slice ad D.length cd], .slice (some ⟨bl, 0, none⟩) T.length cl, .int .u64 (i : Int), .pointer (some ⟨bl, i, none⟩), .string li, f 20, .agg #[.int .i64 1, .int .i64 K, .int .u64 0, .int .u64 (N : Int), .slice (some ⟨bs, 0, none⟩) 1 cs, .slice ad D.length cd], .string oy, f 23, .int .i64 K, .bool true, .bool false, .bool false, .bool false] from rfl]
                  generalize f 20 = x20
                  generalize f 23 = x23
                  clear hf
                  clear HK hB f HTl HTy HCl HZ
                  simp only [puts]
                  go_simp
                  go_wp2
                  go_roundg (N - (i + 1))
                  case rel =>
                    go_light
                    exact ⟨i + 1, by omega, rfl, by go_num, HE.out⟩
                  case measure => go_light; omega
                case step =>
                  refine ⟨?_, ?_, ?_, ?_, ?_, ?_, ?_, ?_, ?_, ?_, ?_, ?_, ?_, ?_, ?_, ?_, ?_, ?_, ?_, ?_, ?_, ?_, ?_, ?_, ?_, ?_, ?_, ?_, ?_, trivial⟩
                  · intro Ac Wc Kc hB hsm dep hK
                    have t15 : Ac.tmps.getD 15 undef = .int .i64 0 := hsm 15 rfl
                    show Oper.wp _ _ Ac Wc Kc _
                    go_simp
                    exact hK _ _ rfl (Below.refl _ _)
                  · intro Ac Wc Kc hB hsm dep hK
                    have t113 : Ac.tmps.getD 113 undef = .int .i64 0 := dep 0 rfl
                    show Oper.wp _ _ Ac Wc Kc _
                    go_simp
                    exact hK _ _ rfl (Below.refl _ _)
                  · intro Ac Wc Kc hB hsm dep hK
                    have t114 : Ac.tmps.getD 114 undef = .bool false := dep 1 rfl
                    show Oper.wp _ _ Ac Wc Kc _
                    go_simp
                    exact hK _ _ rfl (Below.refl _ _)
                  · intro Ac Wc Kc hB hsm dep hK
                    have t16 : Ac.tmps.getD 16 undef = .pointer (some ⟨q16, 0, none⟩) := hsm 16 rfl
                    refine ⟨false, (show Ac.tmps.getD 115 undef = .bool false from dep 2 rfl), ?_⟩
                    rw [if_pos rfl]
                    have c0 := (HK.out Wc hB).2.1.c0
                    have c1 := (HK.out Wc hB).2.1.c1
                    go_simp
                    exact hK _ _ rfl (Below.refl _ _)
                  · intro Ac Wc Kc hB hsm dep hK
                    have t11 : Ac.tmps.getD 11 undef = .pointer (some ⟨q11, 0, none⟩) := hsm 11 rfl
                    refine ⟨false, (show Ac.tmps.getD 115 undef = .bool false from dep 2 rfl), ?_⟩
                    rw [if_pos rfl]
                    have c0 := (HK.out Wc hB).2.2.1.c0
                    have c1 := (HK.out Wc hB).2.2.1.c1
                    go_simp
                    exact hK _ _ rfl (Below.refl _ _)
                  · intro Ac Wc Kc hB hsm dep hK
                    have t116 : Ac.tmps.getD 116 undef = .agg #[.int .u64 (N : Int), .string r1] := dep 3 rfl
                    have t117 : Ac.tmps.getD 117 undef = .agg #[.int .u64 (N : Int), .string r1] := dep 4 rfl
                    refine ⟨false, (show Ac.tmps.getD 115 undef = .bool false from dep 2 rfl), ?_⟩
                    rw [if_pos rfl]
                    go_simp
                    exact hK _ _ rfl (Below.refl _ _)
                  · intro Ac Wc Kc hB hsm dep hK
                    have t118 : Ac.tmps.getD 118 undef = .bool true := dep 5 rfl
                    refine ⟨false, (show Ac.tmps.getD 115 undef = .bool false from dep 2 rfl), ?_⟩
                    rw [if_pos rfl]
                    go_simp
                    exact hK _ _ rfl (Below.refl _ _)
                  · intro Ac Wc Kc hB hsm dep hK
                    have t3 : Ac.tmps.getD 3 undef = .string oy := hsm 3 rfl
                    refine ⟨true, (show Ac.tmps.getD 119 undef = .bool true from dep 6 rfl), ?_⟩
                    rw [if_pos rfl]
                    go_simp
                    exact hK _ _ rfl (Below.refl _ _)
                  · intro Ac Wc Kc hB hsm dep hK
                    have t9 : Ac.tmps.getD 9 undef = .slice (some ⟨bl, 0, none⟩) T.length cl := hsm 9 rfl
                    refine ⟨true, (show Ac.tmps.getD 119 undef = .bool true from dep 6 rfl), ?_⟩
                    rw [if_pos rfl]
                    go_simp
                    exact hK _ _ rfl (Below.refl _ _)
                  · intro Ac Wc Kc hB hsm dep hK
                    have t13 : Ac.tmps.getD 13 undef = .int .u64 (i : Int) := hsm 13 rfl
                    refine ⟨true, (show Ac.tmps.getD 119 undef = .bool true from dep 6 rfl), ?_⟩
                    rw [if_pos rfl]
                    go_simp
                    exact hK _ _ rfl (Below.refl _ _)
                  · intro Ac Wc Kc hB hsm dep hK
                    have t121 : Ac.tmps.getD 121 undef = .slice (some ⟨bl, 0, none⟩) T.length cl := dep 8 rfl
                    have t122 : Ac.tmps.getD 122 undef = .int .u64 (i : Int) := dep 9 rfl
                    refine ⟨true, (show Ac.tmps.getD 119 undef = .bool true from dep 6 rfl), ?_⟩
                    rw [if_pos rfl]
                    go_simp
                    exact hK _ _ rfl (Below.refl _ _)
                  · intro Ac Wc Kc hB hsm dep hK
                    have t123 : Ac.tmps.getD 123 undef = .pointer (some ⟨bl, i, none⟩) := dep 10 rfl
                    refine ⟨true, (show Ac.tmps.getD 119 undef = .bool true from dep 6 rfl), ?_⟩
                    rw [if_pos rfl]
                    have cl := (HK.out Wc hB).2.2.2
                    go_simp
                    exact hK _ _ rfl (Below.refl _ _)
                  · intro Ac Wc Kc hB hsm dep hK
                    have t120 : Ac.tmps.getD 120 undef = .string oy := dep 7 rfl
                    have t124 : Ac.tmps.getD 124 undef = .string li := dep 11 rfl
                    refine ⟨true, (show Ac.tmps.getD 119 undef = .bool true from dep 6 rfl), ?_⟩
                    rw [if_pos rfl]
                    go_simp
                    exact hK _ _ rfl (Below.refl _ _)
                  · intro Ac Wc Kc hB hsm dep hK
                    have t119 : Ac.tmps.getD 119 undef = .bool true := dep 6 rfl
                    have t125 : Ac.tmps.getD 125 undef = .bool true := dep 12 rfl
                    refine ⟨false, (show Ac.tmps.getD 115 undef = .bool false from dep 2 rfl), ?_⟩
                    rw [if_pos rfl]
                    go_simp
                    exact hK _ _ rfl (Below.refl _ _)
                  · intro Ac Wc Kc hB hsm dep hK
                    have t126 : Ac.tmps.getD 126 undef = .bool true := dep 13 rfl
                    refine ⟨false, (show Ac.tmps.getD 115 undef = .bool false from dep 2 rfl), ?_⟩
                    rw [if_pos rfl]
                    go_simp
                    exact hK _ _ rfl (Below.refl _ _)
                  · intro Ac Wc Kc hB hsm dep hK
                    have t14 : Ac.tmps.getD 14 undef = .pointer (some ⟨q14, 0, none⟩) := hsm 14 rfl
                    refine ⟨true, (show Ac.tmps.getD 127 undef = .bool true from dep 14 rfl), ?_⟩
                    rw [if_pos rfl]
                    obtain ⟨g0, g1, g2, g3, g4, g5⟩ := (HK.out Wc hB).1.cells
                    go_simp
                    exact hK _ _ rfl (Below.refl _ _)
                  · intro Ac Wc Kc hB hsm dep hK
                    have t9 : Ac.tmps.getD 9 undef = .slice (some ⟨bl, 0, none⟩) T.length cl := hsm 9 rfl
                    refine ⟨true, (show Ac.tmps.getD 127 undef = .bool true from dep 14 rfl), ?_⟩
                    rw [if_pos rfl]
                    go_simp
                    exact hK _ _ rfl (Below.refl _ _)
                  · intro Ac Wc Kc hB hsm dep hK
                    have t13 : Ac.tmps.getD 13 undef = .int .u64 (i : Int) := hsm 13 rfl
                    refine ⟨true, (show Ac.tmps.getD 127 undef = .bool true from dep 14 rfl), ?_⟩
                    rw [if_pos rfl]
                    go_simp
                    exact hK _ _ rfl (Below.refl _ _)
                  · intro Ac Wc Kc hB hsm dep hK
                    have t129 : Ac.tmps.getD 129 undef = .slice (some ⟨bl, 0, none⟩) T.length cl := dep 16 rfl
                    have t130 : Ac.tmps.getD 130 undef = .int .u64 (i : Int) := dep 17 rfl
                    refine ⟨true, (show Ac.tmps.getD 127 undef = .bool true from dep 14 rfl), ?_⟩
                    rw [if_pos rfl]
                    go_simp
                    exact hK _ _ rfl (Below.refl _ _)
                  · intro Ac Wc Kc hB hsm dep hK
                    have t131 : Ac.tmps.getD 131 undef = .pointer (some ⟨bl, i, none⟩) := dep 18 rfl
                    refine ⟨true, (show Ac.tmps.getD 127 undef = .bool true from dep 14 rfl), ?_⟩
                    rw [if_pos rfl]
                    have cl := (HK.out Wc hB).2.2.2
                    go_simp
                    exact hK _ _ rfl (Below.refl _ _)
                  · intro Ac Wc Kc hB hsm dep hK
                    have t128 : Ac.tmps.getD 128 undef = .agg #[.int .i64 1, .int .i64 K, .int .u64 0, .int .u64 (N : Int), .slice (some ⟨bs, 0, none⟩) 1 cs, .slice ad D.length cd] := dep 15 rfl
                    have t132 : Ac.tmps.getD 132 undef = .string li := dep 19 rfl
                    refine ⟨true, (show Ac.tmps.getD 127 undef = .bool true from dep 14 rfl), ?_⟩
                    rw [if_pos rfl]
                    go_simp
                    refine (HTl.out Wc hB).mono ?_
                    rintro e w' ⟨v, rfl, ho, hb⟩
                    exact hK _ _ (rdl_own ho HZ.out.1) hb
                  · intro Ac Wc Kc hB hsm dep hK
                    have t14 : Ac.tmps.getD 14 undef = .pointer (some ⟨q14, 0, none⟩) := hsm 14 rfl
                    refine ⟨true, (show Ac.tmps.getD 127 undef = .bool true from dep 14 rfl), ?_⟩
                    rw [if_pos rfl]
                    obtain ⟨g0, g1, g2, g3, g4, g5⟩ := (HK.out Wc hB).1.cells
                    go_simp
                    exact hK _ _ rfl (Below.refl _ _)
                  · intro Ac Wc Kc hB hsm dep hK
                    have t3 : Ac.tmps.getD 3 undef = .string oy := hsm 3 rfl
                    refine ⟨true, (show Ac.tmps.getD 127 undef = .bool true from dep 14 rfl), ?_⟩
                    rw [if_pos rfl]
                    go_simp
                    exact hK _ _ rfl (Below.refl _ _)
                  · intro Ac Wc Kc hB hsm dep hK
                    have t134 : Ac.tmps.getD 134 undef = .agg #[.int .i64 1, .int .i64 K, .int .u64 0, .int .u64 (N : Int), .slice (some ⟨bs, 0, none⟩) 1 cs, .slice ad D.length cd] := dep 21 rfl
                    have t135 : Ac.tmps.getD 135 undef = .string oy := dep 22 rfl
                    refine ⟨true, (show Ac.tmps.getD 127 undef = .bool true from dep 14 rfl), ?_⟩
                    rw [if_pos rfl]
                    go_simp
                    refine (HTy.out Wc hB).mono ?_
                    rintro e w' ⟨v, rfl, ho, hb⟩
                    exact hK _ _ (rdl_own ho HZ.out.2) hb
                  · intro Ac Wc Kc hB hsm dep hK
                    have t0 : Ac.tmps.getD 0 undef = .int .i64 K := hsm 0 rfl
                    refine ⟨true, (show Ac.tmps.getD 127 undef = .bool true from dep 14 rfl), ?_⟩
                    rw [if_pos rfl]
                    go_simp
                    exact hK _ _ rfl (Below.refl _ _)
                  · intro Ac Wc Kc hB hsm dep hK
                    obtain ⟨ao133, b133, c133, t133, r133⟩ := (show RdL Wc (Ac.tmps.getD 133 undef) X1 from dep 20 rfl)
                    obtain ⟨ao136, b136, c136, t136, r136⟩ := (show RdL Wc (Ac.tmps.getD 136 undef) X2 from dep 23 rfl)
                    have t137 : Ac.tmps.getD 137 undef = .int .i64 K := dep 24 rfl
                    refine ⟨true, (show Ac.tmps.getD 127 undef = .bool true from dep 14 rfl), ?_⟩
                    rw [if_pos rfl]
                    go_simp
                    refine (HCl.out Wc _ _ _ _ _ _ hB r133 r136).mono ?_
                    rintro e w' ⟨rfl, hb⟩
                    exact hK _ _ rfl hb
                  · intro Ac Wc Kc hB hsm dep hK
                    have t138 : Ac.tmps.getD 138 undef = .bool true := dep 25 rfl
                    refine ⟨true, (show Ac.tmps.getD 127 undef = .bool true from dep 14 rfl), ?_⟩
                    rw [if_pos rfl]
                    go_simp
                    exact hK _ _ rfl (Below.refl _ _)
                  · intro Ac Wc Kc hB hsm dep hK
                    have t127 : Ac.tmps.getD 127 undef = .bool true := dep 14 rfl
                    have t139 : Ac.tmps.getD 139 undef = .bool false := dep 26 rfl
                    refine ⟨false, (show Ac.tmps.getD 115 undef = .bool false from dep 2 rfl), ?_⟩
                    rw [if_pos rfl]
                    go_simp
                    exact hK _ _ rfl (Below.refl _ _)
                  · intro Ac Wc Kc hB hsm dep hK
                    have t115 : Ac.tmps.getD 115 undef = .bool false := dep 2 rfl
                    have t140 : Ac.tmps.getD 140 undef = .bool false := dep 27 rfl
                    show Oper.wp _ _ Ac Wc Kc _
                    go_simp
                    exact hK _ _ rfl (Below.refl _ _)
            · have hbq := beq_ne hre
              clear x1 x2 x3 x4 x5 x7 hR12 hre
              go_quiet (fail)
              go_wp2
              go_roundg (N - (i + 1))
              case rel =>
                go_light
                exact ⟨i + 1, by omega, rfl, by go_num, below_drewN HBF.out _⟩
              case measure => go_light; omega
        · obtain rfl : i = N := by omega
          have hz : ¬ ((i : Int) < (i : Int)) := by omega
          have HE := hide (HS5.out wr hb).2.2.2.2.1
          clear hlt hb
          go_wp2
          go_ret
          exact ⟨rfl, HE.out⟩
end Go.Proofs.YtgmnolepaidiiaaDoor
