/-
  The walk of PlainFresh. Own work.
-/
import Derived.Test.YtihcdmnodpknlaaDoorPMem2
import Derived.Test.YtihcdmnodpknlaaDoorPlanH
import Derived.BigRegion
namespace Go.Proofs.YtihcdmnodpknlaaDoor
open Go.RowKit
attribute [local go_sem ↓] Go.wp_at_zero Go.wp_at_succ
/-- A list of lists of texts that can be read. -/
structure RdV (w : World) (ao : Option Addr) (b off len : Nat) (Ls : Nat → List ByteArray) : Prop where
  ptr : 0 < len → ao = some ⟨b, off, none⟩
  at' : ∀ i, i < len → ∃ ai bi oi ni ci, w.cell? ⟨b, off + i, none⟩ = some (.slice ai ni ci) ∧ RdS w ai bi oi ni (Ls i) ∧ (∀ s ∈ Ls i, s.size ≤ 140737488351232) ∧ ni ≤ ci
theorem RdV.next {w W : World} {ao : Option Addr} {b off len : Nat} {Ls : Nat → List ByteArray} (h : RdV w ao b off len Ls) (hb : Below w.heap.size w W) : RdV W ao b off len Ls := by
  refine ⟨h.ptr, fun i hi => ?_⟩
  obtain ⟨ai, bi, oi, ni, ci, h1, h2, h3, h4⟩ := h.at' i hi
  exact ⟨ai, bi, oi, ni, ci, (hb.cell (World.block_lt_of_cell? w _ h1)).trans h1, h2.next hb (Nat.le_refl _), h3, h4⟩
theorem take_min (l : List ByteArray) (n : Nat) (h : l.length = n) : l.take (min n 300) = l.take 300 := by
  by_cases e : 300 ≤ n
  · rw [Nat.min_eq_right e]
  · rw [Nat.min_eq_left (by omega), List.take_of_length_le (by omega), List.take_of_length_le (by omega)]
/-- Each list of peaks twice. -/
def pp (pf : Nat → List ByteArray) : Nat → List (List ByteArray)
  | 0 => []
  | i + 1 => pp pf i ++ [pf i, pf i]
theorem pp_len (pf : Nat → List ByteArray) : ∀ i, (pp pf i).length = 2 * i
  | 0 => rfl
  | i + 1 => by rw [pp, List.length_append, pp_len pf i]; simp; omega
theorem pp_le {pf : Nat → List ByteArray} (h : ∀ i, (pf i).length ≤ 41) : ∀ i k, ((pp pf i).getD k []).length ≤ 41
  | 0, k => by simp [pp]
  | i + 1, k => by
    by_cases hk : k < 2 * i
    · rw [pp, List.getD_eq_getElem?_getD, List.getElem?_append_left (by rw [pp_len]; exact hk), ← List.getD_eq_getElem?_getD]; exact pp_le h i k
    · rw [pp, List.getD_eq_getElem?_getD, List.getElem?_append_right (by rw [pp_len]; omega), pp_len]
      match k - 2 * i with
      | 0 => exact h i
      | 1 => exact h i
      | n + 2 => simp
theorem ownV_len {w : World} {B n cap : Nat} {ao : Option Addr} {l : List Value} (h : OwnV w B (.slice ao n cap) l) : l.length = n := by
  rcases h.2 with ⟨hv, h0⟩ | ⟨g, cp, cur, hv, _⟩
  · obtain ⟨_, e2, _⟩ := Value.slice.inj hv; omega
  · obtain ⟨_, e2, _⟩ := Value.slice.inj hv; exact e2.symm
theorem ownV_form {w : World} {B : Nat} {v : Value} {vs : List Value} (h : OwnV w B v vs) {n : Nat} (hn : vs.length = n) : ∃ ao cap, v = .slice ao n cap ∧ (0 < n → ∃ g, ao = some ⟨g, 0, none⟩) := by
  subst hn
  rcases h.2 with ⟨hv, h0⟩ | ⟨g, cap, cur, hv, _⟩
  · exact ⟨none, 0, by rw [hv, h0], fun h => absurd h (by omega)⟩
  · exact ⟨_, cap, hv, fun _ => ⟨g, rfl⟩⟩
theorem conv_drew (w : World) (k : Nat) : (convert 44 9 (.slice (some ⟨w.heap.size, 0, none⟩) 2 2)).run Tryd.prog (w.alloc (.cells #[.int .u8 (k : Int), .int .u8 109] 5)).drew = .ok (.string (mkT k)) (w.alloc (.cells #[.int .u8 (k : Int), .int .u8 109] 5)).drew :=
  conv_str _ _ [(k : Int), 109] 2 rfl (by rw [World.rangeAt_drew]; exact range_new w (cB [(k : Int), 109]) 5)
set_option maxHeartbeats 8000000 in
set_option maxRecDepth 100000 in
theorem fresh_walk (w : World) (ht : Tb w) (htr : Tr w) (ao : Option Addr) (b off len cap : Nat) (Ls : Nat → List ByteArray) (hrv : RdV w ao b off len Ls) (hmx : len ≤ 8796093022208) (pf : Nat → List ByteArray) (hpf : Hid (∀ i, pks (clk 4) ((Ls i).take 300) 41 = pf i)) :
    Calls Tryd.prog 5 #[.slice ao len cap] w fun e w' => e = .returned (.bool true) ∧ Below w.heap.size w w' := by
  have HA : Hid (∀ W, Below w.heap.size w W → Calls Tryd.prog 7 #[] W fun e w' => e = .returned (.bool true) ∧ Below W.heap.size W w') := fun W hb => alive_any W (ht.next hb)
  obtain ⟨q, hq⟩ : ∃ q, min len 12 = q := ⟨_, rfl⟩
  have HQ : Hid (Tb w ∧ Tr w ∧ RdV w ao b off len Ls ∧ q ≤ len ∧ q ≤ 12 ∧ (q = len ∨ q = 12)) := ⟨ht, htr, hrv, by omega, by omega, by omega⟩
  have lp : ∀ i, (pf i).length ≤ 41 := fun i => by rw [← hpf.out i]; exact pks_len _ _ _
  have zp : ∀ i, ∀ s ∈ pf i, s.size ≤ 9223372036854775807 := fun i s hs => by rw [← hpf.out i] at hs; rw [pks_size (clk_le 4) _ _ s hs]; have := clk_le 4; omega
  have HLP : Hid (∀ i, (pf i).length ≤ 41) := lp
  have HZP : Hid (∀ i, ∀ s ∈ pf i, s.size ≤ 9223372036854775807) := zp
  /- what is known of list i -/
  have HI : Hid (∀ i, i < q → ∃ ai bi oi ni ci mi, (∀ W, Below w.heap.size w W → W.cell? ⟨b, off + i, none⟩ = some (.slice ai ni ci)) ∧ ao = some ⟨b, off, none⟩ ∧ (∀ W, Calls Tryd.prog 8 #[.slice ai ni ci] W fun e w' => e = .returned (.slice ai mi ci) ∧ w' = W) ∧
      (∀ W, Below w.heap.size w W → Calls Tryd.prog 14 #[.int .i64 4, .slice ai mi ci] W fun e w' => ∃ v, e = .returned v ∧ OwnS w' W.heap.size v (pf i) ∧ Below W.heap.size W w') ∧
      (∀ W, Below w.heap.size w W → Calls Tryd.prog 16 #[.int .i64 4, .slice ai mi ci] W fun e w' => ∃ v, e = .returned v ∧ OwnS w' W.heap.size v (pf i) ∧ Below W.heap.size W w')) := fun i hi => by
    obtain ⟨ai, bi, oi, ni, ci, h1, h2, h3, h4⟩ := hrv.at' i (by omega)
    have ht2 := h2.take (n := min ni 300) (by omega)
    rw [take_min _ _ h2.hl] at ht2
    have hs2 : ∀ s ∈ (Ls i).take 300, s.size ≤ 140737488351232 := fun s hs => h3 s (List.mem_of_mem_take hs)
    exact ⟨ai, bi, oi, ni, ci, min ni 300, fun W hb => (hb.cell (World.block_lt_of_cell? w _ h1)).trans h1, hrv.ptr (by omega), fun W => few_any W ai ni ci h4 _ rfl, fun W hb => peaks_any W (ht.next hb) 4 ai bi oi (min ni 300) ci _ (ht2.next hb (Nat.le_refl _)) hs2 (by omega) (pf i) (hpf.out i), fun W hb => rpeaks_any W (htr.next hb) 4 ai bi oi (min ni 300) ci _ (ht2.next hb (Nat.le_refl _)) hs2 (by omega) (by omega) (pf i) (hpf.out i)⟩
  have hlen' : (len : Int) ≤ 8796093022208 := by omega
  have hq12 : (q : Int) ≤ 12 := by omega
  have hb := Below.refl w.heap.size w
  clear ht htr hrv hmx hpf lp zp hq
  go_enter Tryd.func5, Tryd.ntmps5
  go_wp2_with (go_at_call 7; with_reducible refine (HA.out _ hb).mono ?_; rintro e w1 ⟨rfl, hb1⟩; replace hb := bnext hb hb1; clear hb1)
  clear HA
  go_loopg [3, 4] q (fun gg v i0 wr => ∃ (i : Nat) (vs : List Value), i ≤ q ∧ gg = q - i ∧ i0 = .int .i64 (i : Int) ∧ vs.length = 2 * i ∧ P3 w wr vs (pp pf i) v)
  case atStart =>
    go_light
    exact ⟨0, [], Nat.zero_le _, rfl, rfl, rfl, fam_nil _ _, World.ownsRow_nil _ _ _ _, hb⟩
  case round =>
    clear hb
    obtain ⟨i, vs, hiq, rfl, rfl, hvl, hp3⟩ := hrel
    have hi0 : (0 : Int) ≤ (i : Int) := Int.natCast_nonneg _
    have hi12 : (i : Int) ≤ 12 := by omega
    by_cases hlt : i < q
    · have hlt' : (i : Int) < (len : Int) := by have := HQ.out.2.2.2.1; omega
      have hlt2 : (i : Int) < 12 := by omega
      obtain ⟨ai, bi, oi, ni, ci, mi, hcell, rfl, hfew, hpk, hrp⟩ := HI.out i hlt
      have kL := hcell wr hp3.below
      have HP3 : Hid (P3 w wr vs (pp pf i) u3 ∧ vs.length = 2 * i ∧ i + 1 ≤ q) := ⟨hp3, hvl, hlt⟩
      have HFe := hide hfew
      have HPk0 := hide hpk
      have HRp0 := hide hrp
      have HB0 : Hid (Below w.heap.size w wr) := hp3.below
      clear hcell hfew hpk hrp hp3 hvl hlt hiq
      go_upto_region 8 with (go_at_call 8; with_reducible refine (HFe.out _).mono ?_; rintro e w2 ⟨rfl, hw2⟩; subst hw2)
      go_wp2_with (first
        | (go_at_call 14; with_reducible refine (HPk0.out _ HB0.out).mono ?_; rintro e w3 ⟨v1, rfl, o1, hb3⟩; obtain ⟨ao1, b1, c1, hv1, r1, _, _⟩ := owns_rds o1 (HZP.out i); subst hv1; have HB3 := hide (bnext HB0.out hb3))
        | (go_at_call 14; with_reducible refine (HPk0.out _ HB3.out).mono ?_; rintro e w4 ⟨v2, rfl, o2, hb4⟩; obtain ⟨ao2, b2, c2, hv2, r2, _, _⟩ := owns_rds o2 (HZP.out i); subst hv2; have ov := ownB_next HP3.out.1.all (bnext hb3 hb4))
        | (at_builtin; refine wpList_append_V _ rfl _ _ rfl w.heap.size _ vs rfl (World.ownsRow.alloc ov _) _ [.slice ao1 (pf i).length c1, .slice ao2 (pf i).length c2] rfl (rdc_vals w4 #[.slice ao1 (pf i).length c1, .slice ao2 (pf i).length c2] 22) ?c0 ?c1 ?c2 ?_))
      case c0 => intro u hu; simp at hu; rcases hu with rfl | rfl <;> rfl
      case c1 => have h1 := HP3.out.2; have h2 := HQ.out; simp; omega
      case c2 => have h1 := (bnext HB3.out hb4).size; simp; omega
      intro v' w5 q1 q2 _
      have hal : Below w4.heap.size w4 (w4.alloc (.cells #[.slice ao1 (pf i).length c1, .slice ao2 (pf i).length c2] 22)) := bal (Below.refl _ _) _
      have f4 := fam_next (fam_two HP3.out.1.fam HB0.out.size hb3 o1 hb4 o2) hal
      have hp5 : P3 w w5 (vs ++ [.slice ao1 (pf i).length c1, .slice ao2 (pf i).length c2]) (pp pf (i + 1)) v' := ⟨fam_ty f4 (World.ownsRow.alloc ov _) (by decide) q2, q1, ownB_step0 (bnext (bnext HB3.out hb4) hal) (bnext (bnext HB3.out hb4) hal).size (World.ownsRow.alloc ov _) q2⟩
      obtain ⟨n2, hn2⟩ : ∃ n2, 2 * i + 2 = n2 := ⟨_, rfl⟩
      have hl2 : (vs ++ [Value.slice ao1 (pf i).length c1, Value.slice ao2 (pf i).length c2]).length = n2 := by have := HP3.out.2.1; simp; omega
      obtain ⟨aoA, capA, rfl, hsm⟩ := ownV_form q1 hl2
      obtain ⟨gA, rfl⟩ := hsm (by omega)
      obtain ⟨a, ha⟩ : ∃ a, 2 * i = a := ⟨_, rfl⟩
      have ea : IntKind.i64.wrap (2 * (i : Int)) = (a : Int) := by rw [IntKind.wrap_i64]; omega
      have ha0 : (0 : Int) ≤ (a : Int) := Int.natCast_nonneg _
      have ha1 : (a : Int) < (n2 : Int) := by omega
      have hga : (vs ++ [Value.slice ao1 (pf i).length c1, Value.slice ao2 (pf i).length c2]).getD a dv = .slice ao1 (pf i).length c1 := by
        rw [List.getD_eq_getElem?_getD, List.getElem?_append_right (by have := HP3.out.2.1; omega), show a - vs.length = 0 by have := HP3.out.2.1; omega]; rfl
      have HKA : Hid (∀ W, Below w5.heap.size w5 W → W.cell? ⟨gA, a, none⟩ = some (.slice ao1 (pf i).length c1)) := fun W h => by
        have := ownV_cells (ownB_next q1 h) a (by omega)
        rwa [hga] at this
      have hoa : OwnS w5 w.heap.size (.slice ao1 (pf i).length c1) (pf i) := by
        have h1 := hp5.fam.own a (by rw [hl2]; omega)
        rw [hga] at h1
        have h2 : (pp pf (i + 1)).getD a [] = pf i := by
          rw [pp, List.getD_eq_getElem?_getD, List.getElem?_append_right (by rw [pp_len]; omega), pp_len, show a - 2 * i = 0 by omega]; rfl
        rwa [h2] at h1
      have HSm : Hid (∀ W, Below w5.heap.size w5 W → ∀ ao' b' cap', RdS W ao' b' 0 (pf i).length (pf i) → Calls Tryd.prog 13 #[.slice ao1 (pf i).length c1, .slice ao' (pf i).length cap'] W fun e w' => e = .returned (.bool true) ∧ Below W.heap.size W w') := fun W h ao' b' cap' h1 => by
        obtain ⟨ao9, b9, c9, hv9, r9, _, _⟩ := owns_rds (owns_step hoa h) (HZP.out i)
        obtain ⟨rfl, _, rfl⟩ := Value.slice.inj hv9
        exact same_any W _ b9 0 (pf i).length _ (pf i) r9 ao' b' 0 cap' h1 (by have := HLP.out i; omega)
      have HRp : Hid (∀ W, Below w5.heap.size w5 W → Calls Tryd.prog 16 #[.int .i64 4, .slice ai mi ci] W fun e w' => ∃ v, e = .returned v ∧ OwnS w' W.heap.size v (pf i) ∧ Below W.heap.size W w') := fun W h => HRp0.out W (bnext hp5.below h)
      have HZp : Hid (∀ s ∈ pf i, s.size ≤ 9223372036854775807) := HZP.out i
      have HP5 : Hid (P3 w w5 (vs ++ [.slice ao1 (pf i).length c1, .slice ao2 (pf i).length c2]) (pp pf (i + 1)) (.slice (some ⟨gA, 0, none⟩) n2 capA) ∧ (vs ++ [Value.slice ao1 (pf i).length c1, Value.slice ao2 (pf i).length c2]).length = 2 * (i + 1) ∧ i + 1 ≤ q) := ⟨hp5, by rw [hl2]; omega, HP3.out.2.2⟩
      clear o1 o2 hb3 hb4 r1 r2 q1 q2 hal f4 hp5 hl2 hsm ha hga hoa hn2 ov HP3 HRp0 HPk0 HFe HB0 HB3 kL
      go_upto_region 9 with (fail)
      refine wp_region_planG (by kernel_rfl) [39, 40, 41, 42, 43, 44, 45, 46, 47] [.slice (some ⟨gA, 0, none⟩) n2 capA, .int .i64 (i : Int), .int .i64 (a : Int), .pointer (some ⟨gA, a, none⟩), .slice ao1 (pf i).length c1, .slice ai mi ci, undef, .bool true, .bool false] [(6, (pf i))] (by kernel_rfl) rfl ?step ?fin
      case fin =>
        intro f Wc hB hf
        have HP6 := hide (HP5.out.1.next hB)
        rw [show mixG [.slice (some ⟨gA, 0, none⟩) n2 capA, .int .i64 (i : Int), .int .i64 (a : Int), .pointer (some ⟨gA, a, none⟩), .slice ao1 (pf i).length c1, .slice ai mi ci, undef, .bool true, .bool false] [(6, (pf i))] f = [.slice (some ⟨gA, 0, none⟩) n2 capA, .int .i64 (i : Int), .int .i64 (a : Int), .pointer (some ⟨gA, a, none⟩), .slice ao1 (pf i).length c1, .slice ai mi ci, f 6, .bool true, .bool false] from rfl]
        generalize f 6 = x6
        clear hf
        clear HKA HSm HRp HZp hB f
        simp only [puts]
        go_simp
        go_wp2
        go_roundg (q - (i + 1))
        case rel =>
          go_light
          exact ⟨i + 1, _, HP5.out.2.2, rfl, by go_num, HP5.out.2.1, HP6.out⟩
        case measure => go_light; have := HP5.out.2.2; omega
      case step =>
        refine ⟨?_, ?_, ?_, ?_, ?_, ?_, ?_, ?_, ?_, trivial⟩
        · intro Ac Wc K hB hsm dep hK
          have t3 : Ac.tmps.getD 3 undef = .slice (some ⟨gA, 0, none⟩) n2 capA := hsm 3 rfl
          show Oper.wp _ _ Ac Wc K _
          go_simp
          exact hK _ _ rfl (Below.refl _ _)
        · intro Ac Wc K hB hsm dep hK
          have t4 : Ac.tmps.getD 4 undef = .int .i64 (i : Int) := hsm 4 rfl
          show Oper.wp _ _ Ac Wc K _
          go_simp
          exact hK _ _ rfl (Below.refl _ _)
        · intro Ac Wc K hB hsm dep hK
          have t40 : Ac.tmps.getD 40 undef = .int .i64 (i : Int) := dep 1 rfl
          show Oper.wp _ _ Ac Wc K _
          go_simp
          exact hK _ _ rfl (Below.refl _ _)
        · intro Ac Wc K hB hsm dep hK
          have t39 : Ac.tmps.getD 39 undef = .slice (some ⟨gA, 0, none⟩) n2 capA := dep 0 rfl
          have t41 : Ac.tmps.getD 41 undef = .int .i64 (a : Int) := dep 2 rfl
          show Oper.wp _ _ Ac Wc K _
          go_simp
          exact hK _ _ rfl (Below.refl _ _)
        · intro Ac Wc K hB hsm dep hK
          have t42 : Ac.tmps.getD 42 undef = .pointer (some ⟨gA, a, none⟩) := dep 3 rfl
          show Oper.wp _ _ Ac Wc K _
          have kA := HKA.out Wc hB
          go_simp
          exact hK _ _ rfl (Below.refl _ _)
        · intro Ac Wc K hB hsm dep hK
          have t5 : Ac.tmps.getD 5 undef = .slice ai mi ci := hsm 5 rfl
          show Oper.wp _ _ Ac Wc K _
          go_simp
          exact hK _ _ rfl (Below.refl _ _)
        · intro Ac Wc K hB hsm dep hK
          have t44 : Ac.tmps.getD 44 undef = .slice ai mi ci := dep 5 rfl
          show Oper.wp _ _ Ac Wc K _
          go_simp
          refine (HRp.out Wc hB).mono ?_
          rintro e w' ⟨v, rfl, ho, hb⟩
          exact hK _ _ (rdl_own ho HZp.out) hb
        · intro Ac Wc K hB hsm dep hK
          have t43 : Ac.tmps.getD 43 undef = .slice ao1 (pf i).length c1 := dep 4 rfl
          obtain ⟨ao45, b45, c45, t45, r45⟩ := (show RdL Wc (Ac.tmps.getD 45 undef) (pf i) from dep 6 rfl)
          show Oper.wp _ _ Ac Wc K _
          go_simp
          refine (HSm.out Wc hB _ _ _ r45).mono ?_
          rintro e w' ⟨rfl, hb⟩
          exact hK _ _ rfl hb
        · intro Ac Wc K hB hsm dep hK
          have t46 : Ac.tmps.getD 46 undef = .bool true := dep 7 rfl
          show Oper.wp _ _ Ac Wc K _
          go_simp
          exact hK _ _ rfl (Below.refl _ _)
    · obtain rfl : i = q := by omega
      go_upto_region 5 with (fail)
      go_cut [24] from 17 to 23 (fun y wx => y = .bool false ∧ wr = wx)
      case first =>
        rcases HQ.out.2.2.2.2.2 with h | h
        · have h1 : ¬ ((i : Int) < (len : Int)) := by omega
          clear h
          go_wp2
          go_meet
          case rel =>
            go_light
            exact ⟨rfl, rfl⟩
        · by_cases h2 : i < len
          · have h1 : (i : Int) < (len : Int) := by omega
            have h3 : ¬ ((i : Int) < 12) := by omega
            clear h h2
            go_wp2
            go_meet
            case rel =>
              go_light
              exact ⟨rfl, rfl⟩
          · have h1 : ¬ ((i : Int) < (len : Int)) := by omega
            clear h h2
            go_wp2
            go_meet
            case rel =>
              go_light
              exact ⟨rfl, rfl⟩
      case rest =>
        obtain ⟨rfl, rfl⟩ := hcut
        obtain ⟨N, hN⟩ : ∃ N, 2 * i = N := ⟨_, rfl⟩
        rw [hN] at hvl
        obtain ⟨aoA, capA, rfl, hsm⟩ := ownV_form hp3.all hvl
        have HGA : Hid (0 < N → ∃ g, aoA = some ⟨g, 0, none⟩) := hsm
        have hN24 : (N : Int) ≤ 24 := by omega
        have HN : Hid (vs.length = N ∧ N ≤ 24 ∧ (pp pf i).length = N ∧ ∀ k, ((pp pf i).getD k []).length ≤ 41) := ⟨hvl, by omega, by rw [pp_len]; exact hN, pp_le HLP.out i⟩
        have HP : Hid (P3 w wr vs (pp pf i) (.slice aoA N capA)) := hp3
        obtain ⟨Ps, hPs⟩ : ∃ Ps, pp pf i = Ps := ⟨_, rfl⟩
        rw [hPs] at HN HP
        have HW : Hid (i ≤ 12 ∧ i ≤ len ∧ (i = len ∨ i = 12)) := ⟨by have := HQ.out; omega, by have := HQ.out; omega, by have := HQ.out; omega⟩
        clear hvl hp3 hsm hN hPs hlt hiq
        go_wp2
        go_loopg [6, 7] N (fun gg i0 j0 wr => ∃ (k : Nat) (Qs : List (List ByteArray)), k ≤ N ∧ gg = N - k ∧ i0 = .int .i64 (k : Int) ∧ Mk N k Qs Ps ∧ P3 w wr vs Qs (.slice aoA N capA))
        case atStart =>
          go_light
          exact ⟨0, Ps, Nat.zero_le _, rfl, rfl, ⟨HN.out.2.2.1, fun k _ => by rw [if_neg (Nat.not_lt_zero k)]⟩, HP.out⟩
        case round =>
          obtain ⟨k, Qs, hkN, rfl, rfl, hmk, hst⟩ := hrel
          have hk0 : (0 : Int) ≤ (k : Int) := Int.natCast_nonneg _
          have hk24 : (k : Int) ≤ 24 := by omega
          obtain ⟨hvl, hN2, hPl, hP41⟩ := HN.out
          by_cases hkl : k < N
          · have hkl' : (k : Int) < (N : Int) := by omega
            obtain ⟨gA, rfl⟩ := HGA.out (by omega)
            obtain ⟨u, hu⟩ : ∃ u, vs.getD k dv = u := ⟨_, rfl⟩
            have ho0 := hst.fam.own k (by omega)
            rw [hu] at ho0
            have hq0 := hmk.2 k hkl
            rw [if_neg (Nat.lt_irrefl k)] at hq0
            obtain ⟨au, mu, du, rfl⟩ := own_slice ho0
            obtain ⟨R, hR⟩ : ∃ R, Ps.getD k [] = R := ⟨_, rfl⟩
            rw [hq0, hR] at ho0
            have hmu := ownS_len ho0
            have hR5 : R.length ≤ 41 := by rw [← hR]; exact hP41 k
            have hmu5 : (mu : Int) ≤ 41 := by omega
            have HJ : Hid (Mk N k Qs Ps ∧ vs.getD k dv = .slice au mu du ∧ Ps.getD k [] = R ∧ R.length = mu ∧ k + 1 ≤ N ∧ vs.length = N ∧ Qs.getD k [] = R ∧ N ≤ 24) := ⟨hmk, hu, hR, hmu, hkl, hvl, by rw [hq0, hR], hN2⟩
            have HS0 : Hid (P3 w wr vs Qs (.slice (some ⟨gA, 0, none⟩) N capA)) := hst
            clear hmk hst hu ho0 hq0 hR hmu hR5 hvl hkl hkN hN2 hPl hP41
            go_wp2
            go_loopg [7] mu (fun gg j0 wr => ∃ j : Nat, j ≤ mu ∧ gg = mu - j ∧ j0 = .int .i64 (j : Int) ∧ P3 w wr vs (Qs.set k (List.replicate j (mkT k) ++ R.drop j)) (.slice (some ⟨gA, 0, none⟩) N capA))
            case atStart =>
              go_light
              obtain ⟨z1, z2, z3, z4, z5, z6, z7, z8⟩ := HJ.out
              refine ⟨0, Nat.zero_le _, rfl, rfl, ?_⟩
              have e : Qs.set k (List.replicate 0 (mkT k) ++ R.drop 0) = Qs := by
                rw [← z7]; simpa using set_getD_self [] Qs k
              rw [e]; exact HS0.out
            case round =>
              obtain ⟨j, hjm, rfl, rfl, hst⟩ := hrel
              obtain ⟨z1, z2, z3, z4, z5, z6, z7, z8⟩ := HJ.out
              have hj0 : (0 : Int) ≤ (j : Int) := Int.natCast_nonneg _
              have hj5 : (j : Int) ≤ 41 := by omega
              have kA := ownV_cells hst.all k (by omega)
              rw [z2] at kA
              by_cases hjl : j < mu
              · have hjl' : (j : Int) < (mu : Int) := by omega
                have hd : Below wr.heap.size wr (wr.alloc (.cells #[.int .u8 (k : Int), .int .u8 109] 5)) := bal (Below.refl _ _) _
                have hst2 := hst.next hd
                have hol := hst2.fam.own k (by omega)
                rw [z2, getD_set _ _ _ _ _ (by rw [z1.1]; omega), if_pos rfl] at hol
                obtain ⟨g, rfl⟩ := ownS_some hol (by simp; omega)
                obtain ⟨c1, f1⟩ := own_cell hol (j := j) (by simp; omega)
                have kA2 := ownV_cells hst2.all k (by omega)
                rw [z2] at kA2
                have hs2 := (hst2.store k (by omega) g mu du z2 j (mkT k)).next (Below.refl _ _).drew
                rw [getD_set _ _ _ _ _ (by rw [z1.1]; omega), if_pos rfl, List.set_set, mark_set R j _ (by omega)] at hs2
                have HX : Hid (P3 w _ vs (Qs.set k (List.replicate (j + 1) (mkT k) ++ R.drop (j + 1))) (.slice (some ⟨gA, 0, none⟩) N capA) ∧ j + 1 ≤ mu) := ⟨hs2, hjl⟩
                have cv := fun W => conv_drew W k
                have e8 : IntKind.u8.wrap (k : Int) = (k : Int) := by simp [IntKind.wrap, IntKind.signed, IntKind.bits]; omega
                clear hs2 hol hst hst2 hd z1 z2 z3 z4 z5 z6 z7 z8 hjm hjl
                go_upto_region 17 with (fail)
                go_region
                go_wp2
                go_roundg (mu - (j + 1))
                case rel =>
                  go_light
                  exact ⟨j + 1, HX.out.2, rfl, by go_num, HX.out.1⟩
                case measure => go_light; have := HX.out.2; omega
              · obtain rfl : j = mu := by omega
                have hjl' : ¬ (j : Int) < (j : Int) := by omega
                have hdr : R.drop j = [] := List.drop_eq_nil_iff.2 (by omega)
                rw [hdr, List.append_nil] at hst
                have HX : Hid (Mk N (k + 1) (Qs.set k (List.replicate j (mkT k))) Ps ∧ P3 w wr vs (Qs.set k (List.replicate j (mkT k))) (.slice (some ⟨gA, 0, none⟩) N capA) ∧ k + 1 ≤ N) := ⟨mk_next z1 z5 (by rw [z3, z4]), hst, z5⟩
                clear hst z1 z2 z3 z4 z5 z6 z7 z8 hjm hjl hdr HJ HS0
                go_wp2
                go_roundg (N - (k + 1))
                case rel =>
                  go_light
                  exact ⟨k + 1, _, HX.out.2.2, rfl, by go_num, HX.out.1, HX.out.2.1⟩
                case measure => go_light; have := HX.out.2.2; omega
          · obtain rfl : k = N := by omega
            have hkl' : ¬ ((k : Int) < (k : Int)) := by omega
            have HD : Hid (∀ a c, a < k → c < k → a ≠ c → Apart (vs.getD a dv) (vs.getD c dv)) := fun a c ha hc hne => hst.fam.dj a c (by omega) (by omega) hne
            have HP4 : Hid (P4 w wr k vs [] Ps (.slice aoA k capA) (.slice none 0 0) 0) := ⟨fun a ha => by
              have h1 := hst.fam.own a (by omega)
              rw [hmk.2 a ha, if_pos ha] at h1
              exact h1, fun a ha => absurd ha (Nat.not_lt_zero a), fun a ha => absurd ha (Nat.not_lt_zero a), hst.all, World.ownsRow_nil _ _ _ _, by
                cases hA : (Value.slice aoA k capA).ownBlock with
                | none => exact .inl rfl
                | some g => exact .inr (fun h => by cases h), hst.below, rfl⟩
            clear hst hmk hkN hkl hvl hN2 hPl hP41 HP
            go_wp2
            go_loopg [8, 9, 10, 11] k (fun gg v i0 x10 j11 wr => ∃ (a : Nat) (ms : List Value), a ≤ k ∧ gg = k - a ∧ i0 = .int .i64 (a : Int) ∧ P4 w wr k vs ms Ps (.slice aoA k capA) v a)
            case atStart =>
              go_light
              exact ⟨0, [], Nat.zero_le _, rfl, rfl, HP4.out⟩
            case round =>
              clear HP4
              obtain ⟨a, ms, hak, rfl, rfl, hp4⟩ := hrel
              have ha0 : (0 : Int) ≤ (a : Int) := Int.natCast_nonneg _
              have ha24 : (a : Int) ≤ 24 := by omega
              obtain ⟨hvl, hN2, hPl, hP41⟩ := HN.out
              by_cases hlt : a < k
              · have hlt' : (a : Int) < (k : Int) := by omega
                obtain ⟨gA, rfl⟩ := HGA.out (by omega)
                have kA := ownV_cells hp4.all a (by omega)
                have hp5 := hp4.start hlt HD.out
                obtain ⟨u, hu⟩ : ∃ u, vs.getD a dv = u := ⟨_, rfl⟩
                rw [hu] at kA hp5
                obtain ⟨au, mu, du, rfl⟩ := own_slice hp5.X
                have H5 : Hid (P5 w wr k vs ms Ps (.slice (some ⟨gA, 0, none⟩) k capA) u8 a 0 (.slice au mu du) ∧ a < k ∧ (Ps.getD a []).length ≤ 41 ∧ k ≤ 24) := ⟨hp5, hlt, hP41 a, hN2⟩
                have cv := fun W => conv_mark W a
                have e8 : IntKind.u8.wrap (a : Int) = (a : Int) := by simp [IntKind.wrap, IntKind.signed, IntKind.bits]; omega
                clear hp4 hp5 hu hak hlt hvl hN2 hPl hP41
                go_wp2
                go_loopg [10, 11] 20 (fun gg x j0 wr => ∃ t : Nat, t ≤ 20 ∧ gg = 20 - t ∧ j0 = .int .i64 (t : Int) ∧ P5 w wr k vs ms Ps (.slice (some ⟨gA, 0, none⟩) k capA) u8 a t x)
                case atStart =>
                  go_light
                  exact ⟨0, Nat.zero_le _, rfl, rfl, H5.out.1⟩
                case round =>
                  obtain ⟨t, ht6, rfl, rfl, hp⟩ := hrel
                  have ht0 : (0 : Int) ≤ (t : Int) := Int.natCast_nonneg _
                  have ht20 : (t : Int) ≤ 20 := by omega
                  by_cases htl : t < 20
                  · have htl' : (t : Int) < 20 := by omega
                    have hd : Below wr.heap.size wr (wr.alloc (.cells #[.int .u8 (a : Int), .int .u8 109] 5)) := bal (Below.refl _ _) _
                    obtain ⟨W2, hW2⟩ : ∃ W2, wr.alloc (.cells #[.int .u8 (a : Int), .int .u8 109] 5) = W2 := ⟨_, rfl⟩
                    have HX : Hid (P5 w (W2.alloc (.cells #[.string (mkT a)] 9)) k vs ms Ps (.slice (some ⟨gA, 0, none⟩) k capA) u8 a t u10 ∧ t + 1 ≤ 20) := ⟨by rw [← hW2]; exact hp.next (bal hd _), htl⟩
                    have hXo := HX.out.1.X
                    have cva := cv wr
                    rw [hW2] at cva
                    clear hp ht6 htl kA hd
                    go_wp2_with (at_builtin; refine wpList_append_K _ rfl _ _ rfl w.heap.size _ (mkE Ps a t) rfl hXo ⟨W2.heap.size, 0, none⟩ 1 (mkT a) rfl (rdc_vals W2 #[.string (mkT a)] 9) ?c1 ?c2 ?_)
                    case c1 => have h1 := H5.out.2.2; have h2 := HX.out.2; have h3 := mkE_len Ps a t; omega
                    case c2 => exact HX.out.1.p.below.size
                    intro v' w3 r1 r2
                    have hp2 := HX.out.1.app r1 (by
                      rcases r2 with h | ⟨h1, h2⟩
                      · exact .inl h
                      · exact .inr ⟨h1, fun g hg => by rw [World.size_alloc]; exact h2 g hg⟩)
                    clear r1 r2 hXo hW2 cva
                    go_wp2
                    go_roundg (20 - (t + 1))
                    case rel =>
                      go_light
                      exact ⟨t + 1, HX.out.2, rfl, by go_num, hp2⟩
                    case measure => go_light; omega
                  · obtain rfl : t = 20 := by omega
                    have htl' : ¬ ((20 : Nat) : Int) < 20 := by decide
                    obtain ⟨ax, mx, dx, rfl⟩ := own_slice hp.X
                    have HX : Hid (P5 w wr k vs ms Ps (.slice (some ⟨gA, 0, none⟩) k capA) u8 a 20 (.slice ax mx dx)) := hp
                    have hMo := hp.p.more
                    clear hp ht6 htl kA
                    go_wp2_with (at_builtin; refine wpList_append_V _ rfl _ _ rfl w.heap.size _ ms rfl (World.ownsRow.alloc hMo _) _ [.slice ax mx dx] rfl (rdc_vals wr #[.slice ax mx dx] 22) ?c0 ?c1 ?c2 ?_)
                    case c0 => first | rfl | (intro u hu; simp at hu; subst hu; rfl)
                    case c1 => have := HX.out.p.ml; have := H5.out; simp; omega
                    case c2 => have := HX.out.p.below.size; simp; omega
                    intro v2 w2 q1 q2 q3
                    have hp2 := (HX.out.next ((Below.refl _ wr).alloc (Nat.le_refl _) _)).push q1 q2 (by simpa using q3)
                    have HY : Hid (a + 1 ≤ k) := H5.out.2.1
                    clear q1 q2 q3 hMo HX H5
                    go_wp2
                    go_roundg (k - (a + 1))
                    case rel =>
                      go_light
                      exact ⟨a + 1, _, HY.out, rfl, by go_num, hp2⟩
                    case measure => go_light; have := HY.out; omega
              · obtain rfl : a = k := by omega
                have hlt' : ¬ ((a : Int) < (a : Int)) := by omega
                have hml := hp4.ml
                obtain ⟨aoM, capM, rfl, hsm⟩ := ownV_form hp4.more hml
                have HGM : Hid (0 < a → ∃ g, aoM = some ⟨g, 0, none⟩) := hsm
                have H6 : Hid (P4 w wr a vs ms Ps (.slice aoA a capA) (.slice aoM a capM) a) := hp4
                obtain ⟨W0, hW0⟩ : ∃ W0, W0 = wr := ⟨wr, rfl⟩
                subst hW0
                clear hp4 hml hak hlt HD hvl hN2 hPl hP41 hsm
                go_wp2
                go_loopg [12, 13] a (fun gg i0 j0 wx => ∃ c : Nat, c ≤ a ∧ gg = a - c ∧ i0 = .int .i64 (c : Int) ∧ Below W0.heap.size W0 wx)
                case atStart =>
                  go_light
                  exact ⟨0, Nat.zero_le _, rfl, rfl, Below.refl _ _⟩
                case round =>
                  obtain ⟨c, hca, rfl, rfl, hbx⟩ := hrel
                  have hc0 : (0 : Int) ≤ (c : Int) := Int.natCast_nonneg _
                  have hc24 : (c : Int) ≤ 24 := by omega
                  by_cases hlt : c < a
                  · have hlt' : (c : Int) < (a : Int) := by omega
                    obtain ⟨gA, rfl⟩ := HGA.out (by omega)
                    obtain ⟨gM, rfl⟩ := HGM.out (by omega)
                    obtain ⟨hvl, hN2, hPl, hP41⟩ := HN.out
                    have p4 := H6.out
                    have oM := p4.Mm c hlt
                    have oA := p4.A c hlt
                    obtain ⟨aM, mm, dm, eM⟩ := own_slice oM
                    obtain ⟨aV, mv, dvv, eV⟩ := own_slice oA
                    rw [eM] at oM
                    rw [eV] at oA
                    have lM := ownS_len oM
                    have lV := ownS_len oA
                    rw [mkE_len] at lM lV
                    have hL5 := hP41 c
                    have hmm : (mm : Int) ≤ 61 := by omega
                    have HK : Hid (∀ W, Below W0.heap.size W0 W → W.cell? ⟨gM, c, none⟩ = some (.slice aM mm dm) ∧ W.cell? ⟨gA, c, none⟩ = some (.slice aV mv dvv)) := fun W h => by
                      have h1 := ownV_cells (ownB_next p4.more h) c (by rw [p4.ml]; exact hlt)
                      have h2 := ownV_cells (ownB_next p4.all h) c (by omega)
                      rw [eM] at h1
                      rw [eV] at h2
                      exact ⟨h1, h2⟩
                    have HR : Hid (OwnS W0 w.heap.size (.slice aM mm dm) (mkE Ps c 20) ∧ OwnS W0 w.heap.size (.slice aV mv dvv) (mkE Ps c 0) ∧ (Ps.getD c []).length + 20 = mm ∧ (Ps.getD c []).length + 0 = mv ∧ c + 1 ≤ a) := ⟨oM, oA, lM, lV, hlt⟩
                    have kk := HK.out wr hbx
                    have hkM := kk.1
                    have HBX : Hid (Below W0.heap.size W0 wr) := hbx
                    clear p4 oM oA eM eV lM lV hL5 hca hlt hvl hN2 hPl hP41 hbx kk
                    go_wp2
                    go_loopg [13] mm (fun gg j0 wx => ∃ j : Nat, j ≤ mm ∧ gg = mm - j ∧ j0 = .int .i64 (j : Int) ∧ Below W0.heap.size W0 wx)
                    case atStart =>
                      go_light
                      exact ⟨0, Nat.zero_le _, rfl, rfl, HBX.out⟩
                    case round =>
                      clear hkM
                      obtain ⟨j, hjm, rfl, rfl, hbx⟩ := hrel
                      have hj0 : (0 : Int) ≤ (j : Int) := Int.natCast_nonneg _
                      have hj6 : (j : Int) ≤ 61 := by omega
                      obtain ⟨oM, oV, lM, lV, hi1⟩ := HR.out
                      obtain ⟨kM, kA⟩ := HK.out wr hbx
                      by_cases hjl : j < mm
                      · have hjl' : (j : Int) < (mm : Int) := by omega
                        have hd : Below wr.heap.size wr (wr.alloc (.cells #[.int .u8 (c : Int), .int .u8 109] 5)) := bal (Below.refl _ _) _
                        obtain ⟨g5, rfl⟩ := ownS_some oM (by rw [mkE_len]; omega)
                        have t1 := (own_cell (owns_step oM hbx) (j := j) (by rw [mkE_len]; omega)).1
                        have t1' := (own_cell (owns_step oM (bnext hbx hd)) (j := j) (by rw [mkE_len]; omega)).1
                        rw [mkE_get _ _ _ _ (by omega)] at t1 t1'
                        obtain ⟨kM', kA'⟩ := HK.out _ (bnext hbx hd)
                        have cv := fun W => conv_drew W c
                        have e8 : IntKind.u8.wrap (c : Int) = (c : Int) := by simp [IntKind.wrap, IntKind.signed, IntKind.bits]; omega
                        have HX : Hid (Below W0.heap.size W0 (wr.alloc (.cells #[.int .u8 (c : Int), .int .u8 109] 5)).drew ∧ j + 1 ≤ mm) := ⟨(bnext hbx hd).drew, hjl⟩
                        by_cases hjv : j < mv
                        · have hjv' : (j : Int) < (mv : Int) := by omega
                          obtain ⟨g6, rfl⟩ := ownS_some oV (by rw [mkE_len]; omega)
                          have t2 := (own_cell (owns_step oV hbx) (j := j) (by rw [mkE_len]; omega)).1
                          have t2' := (own_cell (owns_step oV (bnext hbx hd)) (j := j) (by rw [mkE_len]; omega)).1
                          rw [mkE_get _ _ _ _ (by omega)] at t2 t2'
                          generalize mkT c = tx at *
                          clear oM oV lM lV hjm hjl hbx hi1 hd hjv
                          go_upto_region 34 with (fail)
                          go_region
                          go_wp2
                          go_roundg (mm - (j + 1))
                          case rel =>
                            go_light
                            exact ⟨j + 1, HX.out.2, rfl, by go_num, HX.out.1⟩
                          case measure => go_light; have := HX.out.2; omega
                        · have hjv' : ¬ ((j : Int) < (mv : Int)) := by omega
                          generalize mkT c = tx at *
                          clear oM oV lM lV hjm hjl hbx hi1 hd hjv
                          go_upto_region 34 with (fail)
                          go_region
                          go_wp2
                          go_roundg (mm - (j + 1))
                          case rel =>
                            go_light
                            exact ⟨j + 1, HX.out.2, rfl, by go_num, HX.out.1⟩
                          case measure => go_light; have := HX.out.2; omega
                      · obtain rfl : j = mm := by omega
                        have hjl' : ¬ (j : Int) < (j : Int) := by omega
                        have HX : Hid (Below W0.heap.size W0 wr ∧ c + 1 ≤ a) := ⟨hbx, hi1⟩
                        clear oM oV lM lV hjm hjl hbx hi1
                        go_wp2
                        go_roundg (a - (c + 1))
                        case rel =>
                          go_light
                          exact ⟨c + 1, HX.out.2, rfl, by go_num, HX.out.1⟩
                        case measure => go_light; have := HX.out.2; omega
                  · obtain rfl : c = a := by omega
                    have hlt' : ¬ ((c : Int) < (c : Int)) := by omega
                    have HF : Hid (Below w.heap.size w wr) := bnext H6.out.below hbx
                    obtain ⟨Q0, hQ0⟩ : ∃ Q0, i = Q0 := ⟨_, rfl⟩
                    have HW2 : Hid (Q0 ≤ 12 ∧ Q0 ≤ len ∧ (Q0 = len ∨ Q0 = 12)) := by rw [← hQ0]; exact HW
                    have HI2 := HI
                    rw [hQ0] at HI2
                    clear hbx hca hlt H6 HGM HGA HN hQ0
                    go_wp2
                    go_loopg [14] Q0 (fun gg i0 wx => ∃ d : Nat, d ≤ Q0 ∧ gg = Q0 - d ∧ i0 = .int .i64 (d : Int) ∧ Below w.heap.size w wx)
                    case atStart =>
                      go_light
                      exact ⟨0, Nat.zero_le _, rfl, rfl, HF.out⟩
                    case round =>
                      clear HF
                      obtain ⟨d, hdq, rfl, rfl, hbd⟩ := hrel
                      have hd0 : (0 : Int) ≤ (d : Int) := Int.natCast_nonneg _
                      have hd12 : (d : Int) ≤ 12 := by have := HW2.out; omega
                      by_cases hdl : d < Q0
                      · have hlt1 : (d : Int) < (len : Int) := by have := HW2.out; omega
                        have hlt2 : (d : Int) < 12 := by have := HW2.out; omega
                        obtain ⟨ai, bi, oi, ni, ci, mi, hcell, rfl, hfew, hpk, hrp⟩ := HI2.out d hdl
                        have HKL : Hid (∀ W, Below wr.heap.size wr W → W.cell? ⟨b, off + d, none⟩ = some (.slice ai ni ci)) := fun W h => hcell W (bnext hbd h)
                        have HFw : Hid (∀ W, Calls Tryd.prog 8 #[.slice ai ni ci] W fun e w' => e = .returned (.slice ai mi ci) ∧ Below W.heap.size W w') := fun W => (hfew W).mono fun e w' h => ⟨h.1, by rw [h.2]; exact Below.refl _ _⟩
                        have HPk : Hid (∀ W, Below wr.heap.size wr W → Calls Tryd.prog 14 #[.int .i64 4, .slice ai mi ci] W fun e w' => ∃ v, e = .returned v ∧ OwnS w' W.heap.size v (pf d) ∧ Below W.heap.size W w') := fun W h => hpk W (bnext hbd h)
                        have HRp : Hid (∀ W, Below wr.heap.size wr W → Calls Tryd.prog 16 #[.int .i64 4, .slice ai mi ci] W fun e w' => ∃ v, e = .returned v ∧ OwnS w' W.heap.size v (pf d) ∧ Below W.heap.size W w') := fun W h => hrp W (bnext hbd h)
                        have HZp : Hid (∀ s ∈ pf d, s.size ≤ 9223372036854775807) := HZP.out d
                        have HSm : Hid (∀ W, Below wr.heap.size wr W → ∀ ao1 b1 c1 ao2 b2 c2, RdS W ao1 b1 0 (pf d).length (pf d) → RdS W ao2 b2 0 (pf d).length (pf d) → Calls Tryd.prog 13 #[.slice ao1 (pf d).length c1, .slice ao2 (pf d).length c2] W fun e w' => e = .returned (.bool true) ∧ Below W.heap.size W w') := fun W _ ao1 b1 c1 ao2 b2 c2 h1 h2 => same_any W ao1 b1 0 (pf d).length c1 (pf d) h1 ao2 b2 0 c2 h2 (by have := HLP.out d; omega)
                        have HBd : Hid (Below w.heap.size w wr ∧ d + 1 ≤ Q0) := ⟨hbd, hdl⟩
                        clear hcell hfew hpk hrp hbd hdl hdq
                        go_upto_region 39 with (fail)
                        refine wp_region_planG (by kernel_rfl) [161, 162, 163, 164, 165, 166, 167, 168, 169, 170, 171, 172, 173, 174] [.slice (some ⟨b, off, none⟩) len cap, .int .i64 (d : Int), .pointer (some ⟨b, off + d, none⟩), .slice ai ni ci, .slice ai mi ci, undef, .slice (some ⟨b, off, none⟩) len cap, .int .i64 (d : Int), .pointer (some ⟨b, off + d, none⟩), .slice ai ni ci, .slice ai mi ci, undef, .bool true, .bool false] [(5, (pf d)), (11, (pf d))] (by kernel_rfl) rfl ?step ?fin
                        case fin =>
                          intro f Wc hB hf
                          have HBe := hide (bnext HBd.out.1 hB)
                          rw [show mixG [.slice (some ⟨b, off, none⟩) len cap, .int .i64 (d : Int), .pointer (some ⟨b, off + d, none⟩), .slice ai ni ci, .slice ai mi ci, undef, .slice (some ⟨b, off, none⟩) len cap, .int .i64 (d : Int), .pointer (some ⟨b, off + d, none⟩), .slice ai ni ci, .slice ai mi ci, undef, .bool true, .bool false] [(5, (pf d)), (11, (pf d))] f = [.slice (some ⟨b, off, none⟩) len cap, .int .i64 (d : Int), .pointer (some ⟨b, off + d, none⟩), .slice ai ni ci, .slice ai mi ci, f 5, .slice (some ⟨b, off, none⟩) len cap, .int .i64 (d : Int), .pointer (some ⟨b, off + d, none⟩), .slice ai ni ci, .slice ai mi ci, f 11, .bool true, .bool false] from rfl]
                          generalize f 5 = x5
                          generalize f 11 = x11
                          clear hf
                          clear HKL HFw HPk HRp HSm HZp hB f
                          simp only [puts]
                          go_simp
                          go_wp2
                          go_roundg (Q0 - (d + 1))
                          case rel =>
                            go_light
                            exact ⟨d + 1, HBd.out.2, rfl, by go_num, HBe.out⟩
                          case measure => go_light; have := HBd.out.2; omega
                        case step =>
                          refine ⟨?_, ?_, ?_, ?_, ?_, ?_, ?_, ?_, ?_, ?_, ?_, ?_, ?_, ?_, trivial⟩
                          · intro Ac Wc K hB hsm dep hK
                            have t0 : Ac.tmps.getD 0 undef = .slice (some ⟨b, off, none⟩) len cap := hsm 0 rfl
                            show Oper.wp _ _ Ac Wc K _
                            go_simp
                            exact hK _ _ rfl (Below.refl _ _)
                          · intro Ac Wc K hB hsm dep hK
                            have t14 : Ac.tmps.getD 14 undef = .int .i64 (d : Int) := hsm 14 rfl
                            show Oper.wp _ _ Ac Wc K _
                            go_simp
                            exact hK _ _ rfl (Below.refl _ _)
                          · intro Ac Wc K hB hsm dep hK
                            have t161 : Ac.tmps.getD 161 undef = .slice (some ⟨b, off, none⟩) len cap := dep 0 rfl
                            have t162 : Ac.tmps.getD 162 undef = .int .i64 (d : Int) := dep 1 rfl
                            show Oper.wp _ _ Ac Wc K _
                            go_simp
                            exact hK _ _ rfl (Below.refl _ _)
                          · intro Ac Wc K hB hsm dep hK
                            have t163 : Ac.tmps.getD 163 undef = .pointer (some ⟨b, off + d, none⟩) := dep 2 rfl
                            show Oper.wp _ _ Ac Wc K _
                            have kL := HKL.out Wc hB
                            go_simp
                            exact hK _ _ rfl (Below.refl _ _)
                          · intro Ac Wc K hB hsm dep hK
                            have t164 : Ac.tmps.getD 164 undef = .slice ai ni ci := dep 3 rfl
                            show Oper.wp _ _ Ac Wc K _
                            go_simp
                            refine (HFw.out Wc).mono ?_
                            rintro e w' ⟨rfl, hb⟩
                            exact hK _ _ rfl hb
                          · intro Ac Wc K hB hsm dep hK
                            have t165 : Ac.tmps.getD 165 undef = .slice ai mi ci := dep 4 rfl
                            show Oper.wp _ _ Ac Wc K _
                            go_simp
                            refine (HPk.out Wc hB).mono ?_
                            rintro e w' ⟨v, rfl, ho, hb⟩
                            exact hK _ _ (rdl_own ho HZp.out) hb
                          · intro Ac Wc K hB hsm dep hK
                            have t0 : Ac.tmps.getD 0 undef = .slice (some ⟨b, off, none⟩) len cap := hsm 0 rfl
                            show Oper.wp _ _ Ac Wc K _
                            go_simp
                            exact hK _ _ rfl (Below.refl _ _)
                          · intro Ac Wc K hB hsm dep hK
                            have t14 : Ac.tmps.getD 14 undef = .int .i64 (d : Int) := hsm 14 rfl
                            show Oper.wp _ _ Ac Wc K _
                            go_simp
                            exact hK _ _ rfl (Below.refl _ _)
                          · intro Ac Wc K hB hsm dep hK
                            have t167 : Ac.tmps.getD 167 undef = .slice (some ⟨b, off, none⟩) len cap := dep 6 rfl
                            have t168 : Ac.tmps.getD 168 undef = .int .i64 (d : Int) := dep 7 rfl
                            show Oper.wp _ _ Ac Wc K _
                            go_simp
                            exact hK _ _ rfl (Below.refl _ _)
                          · intro Ac Wc K hB hsm dep hK
                            have t169 : Ac.tmps.getD 169 undef = .pointer (some ⟨b, off + d, none⟩) := dep 8 rfl
                            show Oper.wp _ _ Ac Wc K _
                            have kL := HKL.out Wc hB
                            go_simp
                            exact hK _ _ rfl (Below.refl _ _)
                          · intro Ac Wc K hB hsm dep hK
                            have t170 : Ac.tmps.getD 170 undef = .slice ai ni ci := dep 9 rfl
                            show Oper.wp _ _ Ac Wc K _
                            go_simp
                            refine (HFw.out Wc).mono ?_
                            rintro e w' ⟨rfl, hb⟩
                            exact hK _ _ rfl hb
                          · intro Ac Wc K hB hsm dep hK
                            have t171 : Ac.tmps.getD 171 undef = .slice ai mi ci := dep 10 rfl
                            show Oper.wp _ _ Ac Wc K _
                            go_simp
                            refine (HRp.out Wc hB).mono ?_
                            rintro e w' ⟨v, rfl, ho, hb⟩
                            exact hK _ _ (rdl_own ho HZp.out) hb
                          · intro Ac Wc K hB hsm dep hK
                            obtain ⟨ao166, b166, c166, t166, r166⟩ := (show RdL Wc (Ac.tmps.getD 166 undef) (pf d) from dep 5 rfl)
                            obtain ⟨ao172, b172, c172, t172, r172⟩ := (show RdL Wc (Ac.tmps.getD 172 undef) (pf d) from dep 11 rfl)
                            show Oper.wp _ _ Ac Wc K _
                            go_simp
                            refine (HSm.out Wc hB _ _ _ _ _ _ r166 r172).mono ?_
                            rintro e w' ⟨rfl, hb⟩
                            exact hK _ _ rfl hb
                          · intro Ac Wc K hB hsm dep hK
                            have t173 : Ac.tmps.getD 173 undef = .bool true := dep 12 rfl
                            show Oper.wp _ _ Ac Wc K _
                            go_simp
                            exact hK _ _ rfl (Below.refl _ _)
                      · obtain rfl : d = Q0 := by omega
                        have HBd : Hid (Below w.heap.size w wr) := hbd
                        have hwd := HW2.out
                        by_cases h2 : d < len
                        · have h1 : (d : Int) < (len : Int) := by omega
                          have h3 : ¬ ((d : Int) < 12) := by omega
                          clear hwd h2 hdl hdq hbd
                          go_wp2
                          go_ret
                          exact ⟨rfl, HBd.out⟩
                        · have h1 : ¬ ((d : Int) < (len : Int)) := by omega
                          clear hwd h2 hdl hdq hbd
                          go_wp2
                          go_ret
                          exact ⟨rfl, HBd.out⟩
theorem fresh_row (w : World) (ht : Tb w) (htr : Tr w) (ao : Option Addr) (b off len cap : Nat) (Ls : Nat → List ByteArray) (hrv : RdV w ao b off len Ls) (hmx : len ≤ 8796093022208) :
    Calls Tryd.prog 5 #[.slice ao len cap] w fun e w' => e = .returned (.bool true) ∧ Below w.heap.size w w' :=
  fresh_walk w ht htr ao b off len cap Ls hrv hmx (fun i => pks (clk 4) ((Ls i).take 300) 41) (fun _ => rfl)
end Go.Proofs.YtihcdmnodpknlaaDoor
