/-
  The reference of peaks: From, Peaks, Root. Own work.
-/
import Derived.Test.YtncndefggegicabDoorKRefA
namespace Go.Proofs.YtncndefggegicabDoor
open Go.RowKit
open Pl (ones)
attribute [local go_sem ↓] Go.wp_at_zero Go.wp_at_succ
/-- From's loop: the peaks of the heights A are laid. -/
structure Fr (w wr : World) (p : Nat) (v : Value) (k : Int) (n : Nat) (A : List Nat) (L : List ByteArray) : Prop where
  blk : wr.heap[p]? = some (.cells #[.int .i64 k, .int .u64 (n : Int), v] 57 (0, 0))
  own : OwnK wr w.heap.size v (A.zip L)
  hp : w.heap.size ≤ p
  below : Below w.heap.size w wr
set_option maxRecDepth 100000 in
set_option maxHeartbeats 1000000 in
theorem reffrom_any (w : World) (k : Int) (n : Nat) (hn64 : n < 18446744073709551616) (ao : Option Addr) (b off cap : Nat) (L : List ByteArray) (hr : RdS w ao b off L.length L) (e0 : Nat) (he : fe k n L = e0) :
    Calls Tryd.prog 20 #[.int .i64 k, .int .u64 (n : Int), .slice ao L.length cap] w fun e w' => MadeR w w' k n L e0 e := by
  have hb := Below.refl w.heap.size w
  by_cases hk : k < 1 ∨ 32 < k
  · obtain rfl : e0 = 70 := by rw [← he, fe, if_pos hk]
    have HC := hide (refnew_no w k hk)
    clear he hk hr hn64
    go_enter Tryd.func20, Tryd.ntmps20
    go_wp2_with (go_at_call 18; with_reducible refine HC.out.mono ?_; rintro e w1 ⟨rfl, rfl⟩)
    go_ret2
    exact ⟨hb, .inl ⟨by decide, rfl⟩⟩
  · have k1 : 1 ≤ k := by omega
    have k2 : k ≤ 32 := by omega
    have HC := hide (refnew_ok w k k1 k2)
    by_cases hn : 1099511627776 < n
    · obtain rfl : e0 = 30 := by rw [← he, fe, if_neg hk, if_pos hn]
      have hn' : decide ((1099511627776 : Int) < (n : Int)) = true := by simp; omega
      clear he hk hr hn64 hn
      go_enter Tryd.func20, Tryd.ntmps20
      go_wp2_with (go_at_call 18; with_reducible refine HC.out.mono ?_; rintro e w1 ⟨rfl, rfl⟩)
      go_ret2
      exact ⟨bal hb _, .inl ⟨by decide, rfl⟩⟩
    · have hn' : decide ((1099511627776 : Int) < (n : Int)) = false := by simp; omega
      obtain ⟨o, ho⟩ : ∃ o, ones 64 n = o := ⟨_, rfl⟩
      have HO : Hid (∀ W, Calls Tryd.prog 34 #[.int .u64 (n : Int)] W fun e w' => e = .returned (.int .i64 (o : Int)) ∧ W = w') := fun W => by
        have := refOnes_any n W (by omega)
        rw [ho] at this
        exact this.mono fun _ _ h => ⟨h.1, h.2.symm⟩
      by_cases hl : L.length = o
      · subst hl
        have HE : Hid ((¬ (∀ s ∈ L, (s.size : Int) = k) → e0 = 90) ∧ ((∀ s ∈ L, (s.size : Int) = k) → e0 = 0)) := by
          refine ⟨fun h => ?_, fun h => ?_⟩
          · rw [← he, fe, if_neg hk, if_neg hn, if_pos (.inr h)]
          · rw [← he, fe, if_neg hk, if_neg hn, if_neg]
            rintro (h1 | h1)
            · exact h1 ho.symm
            · exact h1 h
        have HG : Hid (n ≤ 1099511627776 ∧ L.length = (hts n).length ∧ L.length ≤ 41) := by
          have h1 := hts_ones (n := n) (by omega)
          have h2 := hts_le n
          exact ⟨by omega, by omega, by omega⟩
        have HR : Hid (RdS w ao b off L.length L) := hr
        have HB := hide hb
        have HK := hide (And.intro k1 k2)
        have hn0 : (0 : Int) ≤ (n : Int) := Int.natCast_nonneg _
        have HF0 : Hid (Fr w (w.alloc (.cells #[.int .i64 k, .int .u64 (n : Int), .slice none 0 0] 57)) w.heap.size (.slice none 0 0) k n [] L) :=
          ⟨heap_alloc_new w _, ownK_nil _ _, Nat.le_refl _, bal hb _⟩
        clear he hk hn64 hn ho hr hb k1 k2
        go_enter Tryd.func20, Tryd.ntmps20
        go_wp2_with (first
          | (go_at_call 18; with_reducible refine HC.out.mono ?_; rintro e w1 ⟨rfl, rfl⟩)
          | (go_at_call 34; with_reducible refine (HO.out _).mono ?_; rintro e w1 ⟨rfl, rfl⟩))
        go_loopg [10] 41 (fun g i wr => ∃ (j : Nat) (A : List Nat) (v : Value), j = g ∧ i = .int .i64 ((j : Int) - 1) ∧ j ≤ 41 ∧ Hid (A ++ ol (fun h _ => h) j n = hts n ∧ (∀ s ∈ L.take A.length, (s.size : Int) = k) ∧ Fr w wr w.heap.size v k n A L))
        case atStart =>
          go_light
          exact ⟨41, [], _, rfl, by go_num, Nat.le_refl _, ⟨rfl, (fun s hs => by cases hs), HF0.out⟩⟩
        case round =>
          clear HF0 HC HO
          obtain ⟨j, A, v, hg, rfl, hj, HF⟩ := hrel
          subst hg
          cases j with
          | zero =>
            have hz : ¬ ((0 : Int) ≤ -1) := by decide
            rw [show ((0 : Nat) : Int) - 1 = -1 from rfl]
            have hA : A = hts n := by have := HF.out.1; rwa [ol, List.append_nil] at this
            have hall : ∀ s ∈ L, (s.size : Int) = k := by
              have := HF.out.2.1
              rw [hA, ← HG.out.2.1, List.take_length] at this
              exact this
            have HX : Hid (e0 = 0 ∧ Rf wr w.heap.size v k n L ∧ Below w.heap.size w wr) := by
              obtain ⟨f1, f2, f3, f4⟩ := HF.out.2.2
              rw [hA] at f2
              exact ⟨HE.out.2 hall, ⟨f1, ownK_mono f2 (Nat.zero_le _), HK.out.1, HK.out.2, HG.out.1, HG.out.2.1, fun s hs => by have := hall s hs; have := clk_of HK.out.1 HK.out.2; omega⟩, f4⟩
            clear hA hall HF
            go_wp2
            go_ret2
            exact ⟨HX.out.2.2, .inr ⟨HX.out.1, _, v, rfl, HX.out.2.1, Nat.le_refl _⟩⟩
          | succ j =>
            have e1 : ((j + 1 : Nat) : Int) - 1 = (j : Int) := by omega
            have hz : (0 : Int) ≤ (j : Int) := by omega
            have hz9 : (j : Int) < 64 := by omega
            have e2 : IntKind.u64.wrap (j : Int) = (j : Int) := u64_id _ hz (by omega)
            rw [e1]
            obtain ⟨t, htt⟩ : ∃ t, n / 2 ^ j = t := ⟨_, rfl⟩
            have e3 : (n : Int) / 2 ^ j = (t : Int) := by rw [← htt]; simp
            have htn : t ≤ n := by rw [← htt]; exact Nat.div_le_self _ _
            have e4 : IntKind.u64.wrap (t : Int) = (t : Int) := u64_id _ (by omega) (by have := HG.out.1; omega)
            by_cases hodd : t % 2 = 1
            · have e5 : ((t : Int) % 2 == 1) = true := by have : (t : Int) % 2 = 1 := by omega
                                                          rw [this]; rfl
              have hol : A ++ [j] ++ ol (fun h _ => h) j n = hts n := by rw [← HF.out.1, ol, htt, if_pos hodd, List.append_assoc]
              have hAl : A.length < L.length := by
                have := congrArg List.length hol
                rw [HG.out.2.1, ← this]; simp
              obtain ⟨aK, cKp, rfl⟩ := ownK_slice HF.out.2.2.own
              have hzl : (A.zip L).length = A.length := by rw [List.length_zip]; omega
              rw [hzl] at HF
              obtain ⟨d, hd⟩ : ∃ d, L.getD A.length ByteArray.empty = d := ⟨_, rfl⟩
              have hr2 := HR.out.next HF.out.2.2.below (Nat.le_refl _)
              obtain rfl := hr2.ptr (by omega)
              have cd := hr2.at hAl
              rw [hd] at cd
              have y2 : wr.cell? ⟨w.heap.size, 2, none⟩ = some (.slice aK A.length cKp) := by rw [cell_of_row wr w.heap.size 2 _ _ (0, 0) HF.out.2.2.blk]; rfl
              have i1 : (A.length : Int) < (L.length : Int) := by omega
              have i0 : (0 : Int) ≤ (A.length : Int) := Int.natCast_nonneg _
              have htk : L.take (A.length + 1) = L.take A.length ++ [d] := by rw [List.take_add_one, ← hd, List.getD_eq_getElem?_getD, List.getElem?_eq_getElem hAl]; rfl
              have hzip : (A ++ [j]).zip L = A.zip L ++ [(j, d)] := by
                conv => lhs; rw [show L = L.take A.length ++ L.drop A.length from (List.take_append_drop _ _).symm]
                rw [List.zip_append (by rw [List.length_take]; omega), List.drop_eq_getElem_cons hAl, ← hd, List.getD_eq_getElem?_getD, List.getElem?_eq_getElem hAl]
                have : A.zip (L.take A.length) = A.zip L := by
                  rw [List.zip_eq_zip_take_min (l₁ := A) (l₂ := L), Nat.min_eq_left (by omega), List.take_length]
                rw [this]; rfl
              by_cases hs : (d.size : Int) = k
              · have HX : Hid (A ++ [j] ++ ol (fun h _ => h) j n = hts n ∧ (∀ s ∈ L.take (A ++ [j]).length, (s.size : Int) = k)) := by
                  refine ⟨hol, fun s' hs' => ?_⟩
                  rw [List.length_append, List.length_singleton, htk] at hs'
                  rcases List.mem_append.1 hs' with h | h
                  · exact HF.out.2.1 s' h
                  · rw [List.mem_singleton.1 h]; exact hs
                have HZ : Hid ((A ++ [j]).zip L = A.zip L ++ [(j, d)] ∧ (A.zip L).length ≤ 41) := ⟨hzip, by have := HG.out.2.2; omega⟩
                subst hs
                clear hol hAl hzl hd hr2 htk hzip htt htn
                go_wp2_with (at_builtin; refine wpList_append_K _ rfl _ _ rfl w.heap.size _ (A.zip L) rfl (ownK_next HF.out.2.2.own (bal (Below.refl _ _) _) (Nat.le_refl _)) ⟨wr.heap.size, 0, none⟩ 1 [(j, d)] rfl (news_one wr j d) ?c1 ?c2 ?_)
                case c1 => show (A.zip L).length + 1 ≤ 1048576; have := HZ.out.2; omega
                case c2 => have := HF.out.2.2.below.size; simp; omega
                intro v3 w3 h3 hb3 hq3
                obtain ⟨a3, c3, rfl⟩ := ownK_slice h3
                have hb1 : w3.heap[w.heap.size]? = some (.cells #[.int .i64 (d.size : Int), .int .u64 (n : Int), .slice aK A.length cKp] 57 (0, 0)) := by
                  have hlt : w.heap.size < wr.heap.size := (Array.getElem?_eq_some_iff.1 HF.out.2.2.blk).1
                  rw [hq3 w.heap.size (by first | omega | (simp; omega)) (ownK_ne (ownK_next HF.out.2.2.own (bal (Below.refl _ _) (.cells #[.int .i64 (j : Int), .string d] 63)) (Nat.le_refl _)) (by rw [Below.heap_alloc _ _ _ hlt]; exact HF.out.2.2.blk) (by decide))]
                  rw [Below.heap_alloc _ _ _ hlt]
                  exact HF.out.2.2.blk
                have z2 : w3.cell? ⟨w.heap.size, 2, none⟩ = some (.slice aK A.length cKp) := by rw [cell_of_row w3 w.heap.size 2 _ _ (0, 0) hb1]; rfl
                have f2 : w3.frozen? ⟨w.heap.size, 2, none⟩ = false := frozen_of_row w3 w.heap.size 2 _ _ hb1
                obtain ⟨n3, hn3⟩ : ∃ n3, (A.zip L ++ [(j, d)]).length = n3 := ⟨_, rfl⟩
                rw [hn3] at h3 ⊢
                have HY : Hid (Fr w (w3.setCell ⟨w.heap.size, 2, none⟩ (.slice a3 n3 c3)) w.heap.size (.slice a3 n3 c3) (d.size : Int) n (A ++ [j]) L) := by
                  refine ⟨heap_setCell_same w3 w.heap.size 2 _ 57 _ hb1, ?_, Nat.le_refl _, ((bal HF.out.2.2.below _).trans hb3).setCell (p := ⟨w.heap.size, 2, none⟩) (Nat.le_refl _) _⟩
                  rw [HZ.out.1]
                  obtain ⟨g1, g2⟩ := h3
                  refine ⟨g1, ?_⟩
                  rcases g2 with g2 | ⟨g, cp, cur, hv, hg, hh, r⟩
                  · exact .inl g2
                  · refine .inr ⟨g, cp, cur, hv, hg, ?_, r⟩
                    rw [← hh]
                    refine Below.heap_setCell _ _ _ _ ?_
                    show g ≠ w.heap.size
                    rintro rfl
                    rw [hb1] at hh
                    injection hh with q1
                    injection q1 with _ q2 _
                    exact absurd q2 (by decide)
                clear h3 hb3 hq3 hb1 hn3
                go_wp2
                go_roundg j
                case rel =>
                  go_light
                  exact ⟨j, A ++ [j], _, rfl, by go_num, by omega, ⟨HX.out.1, HX.out.2, HY.out⟩⟩
                case measure => go_light; omega
              · have hE : e0 = 90 := HE.out.1 fun h => hs (h d (by rw [← hd]; exact getD_mem hAl))
                have HE2 := hide hE
                have HBl := hide HF.out.2.2.below
                clear hE hol hAl hzl hd hr2 htk hzip htt htn
                go_wp2
                go_ret2
                refine ⟨HBl.out, .inl ?_⟩
                rw [HE2.out]
                exact ⟨by decide, rfl⟩
            · have e5 : ((t : Int) % 2 == 1) = false := by have : (t : Int) % 2 = 0 := by omega
                                                           rw [this]; rfl
              have HX : Hid (A ++ ol (fun h _ => h) j n = hts n) := by show _ = _; rw [← HF.out.1, ol, htt, if_neg hodd]; rfl
              clear htt htn hodd
              go_wp2
              go_roundg j
              case rel =>
                go_light
                exact ⟨j, A, v, rfl, by go_num, by omega, ⟨HX.out, HF.out.2.1, HF.out.2.2⟩⟩
              case measure => go_light; omega
      · obtain rfl : e0 = 90 := by rw [← he, fe, if_neg hk, if_neg hn, if_pos (.inl (by rw [ho]; exact hl))]
        have hl' : ¬ ((L.length : Int) = (o : Int)) := by omega
        clear he hk hr hn64 hn hl ho
        go_enter Tryd.func20, Tryd.ntmps20
        go_wp2_with (first
          | (go_at_call 18; with_reducible refine HC.out.mono ?_; rintro e w1 ⟨rfl, rfl⟩)
          | (go_at_call 34; with_reducible refine (HO.out _).mono ?_; rintro e w1 ⟨rfl, rfl⟩))
        go_ret2
        exact ⟨bal hb _, .inl ⟨by decide, rfl⟩⟩
end Go.Proofs.YtncndefggegicabDoor
