/-
  The walk of ShaPieces. Own work.
-/
import Derived.Test.YthcldaejihdahaaDoorWalkG
namespace Go.Proofs.YthcldaejihdahaaDoor
open Go.RowKit
attribute [local go_sem ↓] Go.wp_at_zero Go.wp_at_succ
theorem Hs.grown {a w : World} {b p : Nat} {st blk : List Int} {n : Nat} (h : Hs a p st blk n) (hg : a.grownBy w (some b)) (hne : p ≠ b) : Hs w p st blk n := by
  have hlt := h.lt
  have hbk : w.heap[p]? = a.heap[p]? := hg.block p hlt (fun e => hne (Option.some.inj e))
  exact ⟨h.stl, h.blkl, range_grown hg hne h.st, range_grown hg hne h.blk, by rw [World.cell?_of_block (w := a) hbk]; exact h.len,
    fun j hj => by rw [World.cell?_of_block (w := a) hbk, World.frozen?_of_block (w := a) hbk]; exact h.there j hj⟩
theorem Hst.grown {a w : World} {b p : Nat} {rs iv t : List Int} (h : Hst a p rs iv t) (hg : a.grownBy w (some b)) (hne : p ≠ b) : Hst w p rs iv t := by
  obtain ⟨st, blk, h1, h2, h3⟩ := h
  exact ⟨st, blk, h1.grown hg hne, h2, h3⟩
theorem tB_append (a b : ByteArray) : tB (a ++ b) = tB a ++ tB b := by simp [tB]
/-- Sum of a hash that stood in W0, asked later. -/
theorem sum_later (W0 : World) (q : Nat) (t : List Int) (W : World) (hh : Hst W0 q RS IV t) (hr : W0.rangeAt 1 0 (cW RS)) (h1 : 1 < W0.heap.size) (hb : Below W0.heap.size W0 W) :
    Calls Tryd.prog 9 #[.pointer (some ⟨q, 0, none⟩)] W fun e w' => e = .returned (.string (shaS RS t)) ∧ Below W0.heap.size W0 w' :=
  (sum_hst W q RS t (hh.later hb hh.lt) RS_len (range_below hb h1 hr)).mono fun _ _ ⟨he, hb'⟩ => ⟨he, hb.trans (hb'.mono hb.size)⟩
theorem of_later (W0 : World) (s : ByteArray) (W : World) (hs : s.size < 4611686018427387904) (hr : W0.rangeAt 1 0 (cW RS)) (h1 : 1 < W0.heap.size) (hb : Below W0.heap.size W0 W) :
    Calls Tryd.prog 10 #[.slice (some ⟨W.heap.size, 0, none⟩) 1 1] (W.alloc (.cells #[.string s] 9)) fun e w' => e = .returned (.string (shaS RS (tB s))) ∧ Below W0.heap.size W0 w' := by
  have e : flat [s] = tB s := by simp [flat]
  refine (of_row _ W.heap.size 1 [s] rfl (by decide) (range_new W [.string s] 9) (World.rangeAt_alloc (range_below hb h1 hr) _) (by rw [e, tB_len]; exact hs)).mono fun e' w' ⟨he, hb'⟩ => ⟨?_, ?_⟩
  · rw [he, e]
  · exact (hb.alloc hb.size _).trans (hb'.mono (by have := hb.size; simp; omega))
set_option maxHeartbeats 4000000 in
set_option maxRecDepth 100000 in
theorem pieces_walk (w : World) (ao : Option Addr) (b off len cap : Nat) (ss : List ByteArray) (hl : ss.length = len) (hao : 0 < len → ao = some ⟨b, off, none⟩) (hs : w.rangeAt b off (ss.map Value.string))
    (hmx : len ≤ 1048576) (hr : w.rangeAt 1 0 (cW RS)) (hlen : (flat ss).length ≤ 1048576) :
    Calls Tryd.prog 3 #[.slice ao len cap] w fun e w' => e = .returned (.bool true) ∧ Below w.heap.size w w' := by
  have h1w : 1 < w.heap.size := range_lt hr (by intro h; have := congrArg List.length h; simp [cW_len, RS_len] at this)
  go_enter Tryd.func3, Tryd.ntmps3
  go_upto_region 3 with (go_at_call 6; refine (fixed_any w hr).mono ?_; rintro e w1 ⟨rfl, hb1⟩)
  go_wp2_with (go_at_call 7; refine (new_obj _).mono ?_; rintro e w' ⟨rfl, rfl⟩)
  have hA : Hst ((w1.alloc newObj).alloc newObj) w1.heap.size RS IV [] := (new_hst w1 RS : Hst (w1.alloc newObj) _ _ _ _).later ((Below.refl (w1.alloc newObj).heap.size (w1.alloc newObj)).alloc (Nat.le_refl _) _) (by simp)
  have hB : Hst ((w1.alloc newObj).alloc newObj) (w1.heap.size + 1) RS IV [] := by
    have : Hst ((w1.alloc newObj).alloc newObj) (w1.alloc newObj).heap.size RS IV [] := new_hst (w1.alloc newObj) RS
    rwa [World.size_alloc] at this
  have hb2 : Below w.heap.size w ((w1.alloc newObj).alloc newObj) := (hb1.alloc hb1.size _).alloc (by have := hb1.size; simp; omega) _
  have hpa : w.heap.size ≤ w1.heap.size := hb1.size
  generalize (w1.alloc newObj).alloc newObj = w2 at *
  generalize w1.heap.size = pa at *
  clear hb1
  go_loopg [5, 6, 7] len (fun g x y i wr => ∃ (k : Nat) (one two : ByteArray), k ≤ len ∧ g = len - k ∧ x = .string one ∧ y = .string two ∧ i = .int .i64 k ∧ Hid (tB one = flat (ss.take k)) ∧ Hid ((tB two).length ≤ (flat (ss.take k)).length) ∧ Hst wr pa RS IV (tB one) ∧ Hst wr (pa + 1) RS IV (tB two) ∧ Below w.heap.size w wr)
  case atStart =>
    go_light
    exact ⟨0, _, _, Nat.zero_le _, rfl, rfl, rfl, rfl, rfl, Nat.le_refl _, hA, hB, hb2⟩
  case round =>
    clear hA hB hb2
    obtain ⟨k, one, two, hk, rfl, rfl, rfl, rfl, H1, H2, hA, hB, hb⟩ := hrel
    have hrr : wr.rangeAt 1 0 (cW RS) := range_below hb h1w hr
    by_cases hlt : k < len
    · obtain rfl := hao (by omega)
      have hk' : k < ss.length := by omega
      have hbl : b < w.heap.size := range_lt hs (by intro h; have := congrArg List.length h; rw [List.length_map, List.length_nil] at this; omega)
      have ck0 : w.cell? ⟨b, off + k, none⟩ = some (.string (ss.getD k ByteArray.empty)) :=
        hs k _ (by simp [List.getElem?_eq_getElem hk', List.getD_eq_getElem?_getD])
      have ck : ∀ W, Below w.heap.size w W → W.cell? ⟨b, off + k, none⟩ = some (.string (ss.getD k ByteArray.empty)) := fun W h => by
        rw [h.cell (p := ⟨b, off + k, none⟩) hbl]; exact ck0
      have hfs := flat_snoc ss k hk'
      have hsz : (flat (ss.take (k + 1))).length ≤ (flat ss).length := flat_take_le _ _
      rw [hfs, List.length_append, tB_len] at hsz
      have hone : one.size = (flat (ss.take k)).length := by rw [← tB_len, H1.out]
      have htwo : two.size ≤ (flat (ss.take k)).length := by rw [← tB_len]; exact H2.out
      have hz : (k : Int) < (len : Int) := by omega
      have HS : Hid (tB (one ++ ss.getD k ByteArray.empty) = flat (ss.take (k + 1))) := by
        show _ = _
        rw [tB_append, H1.out, hfs]
      have HL : Hid ((flat (ss.take (k + 1))).length = (flat (ss.take k)).length + (ss.getD k ByteArray.empty).size) := by
        show _ = _
        rw [hfs, List.length_append, tB_len]
      generalize ss.getD k ByteArray.empty = part at *
      have hw := write_any wr pa RS IV (tB one) part RS_len hrr hA (by rw [tB_len]; omega)
      rw [← tB_append] at hw
      have ck1 := ck wr hb
      have HN : Hid (pa + 1 ≠ pa) := by show _ ≠ _; omega
      have HB : Hid (Hst wr (pa + 1) RS IV (tB two)) := hB
      have Hb : Hid (Below w.heap.size w wr) := hb
      have HZ : Hid (w.heap.size ≤ wr.heap.size) := hb.size
      have HC : Hid (∀ W, Below w.heap.size w W → W.cell? ⟨b, off + k, none⟩ = some (.string part)) := ck
      clear hfs hs hao hl ck hA hB hb
      go_upto_region 12 with (go_at_call 8; refine hw.mono ?_; rintro e w3 ⟨rfl, hA, hg⟩)
      have hb3 : Below w.heap.size w w3 := Hb.out.grown hg HZ.out (fun j hj => by cases hj; exact hpa)
      have hB3 : Hst w3 (pa + 1) RS IV (tB two) := HB.out.grown hg HN.out
      have ck3 := HC.out w3 hb3
      clear hw hrr ck1 HB Hb HZ
      have hsum : one.size + part.size ≤ 1048576 := by omega
      have hns : ¬ (9223372036854775807 < one.size + part.size) := by omega
      have hns2 : ¬ (9223372036854775807 < two.size + part.size) := by omega
      generalize hone' : one ++ part = one' at *
      have hos : one'.size = one.size + part.size := by rw [← hone', ByteArray.size_append]
      have h3 : (0 : Int) ≤ (k : Int) := Int.natCast_nonneg _
      have k63 : (k : Int) ≤ 1048576 := by omega
      go_upto_if 38 with (fail)
      clear hone'
      go_cut [6] from 18 to 72 (fun y wc => ∃ two' : ByteArray, y = .string two' ∧ Hid (two'.size ≤ two.size + part.size) ∧ Hst wc pa RS IV (tB one') ∧ Hst wc (pa + 1) RS IV (tB two') ∧ Below w.heap.size w wc)
      case first =>
        by_cases hm : (k : Int) % 3 = 1
        · have hm' : ((k : Int) % 3 == 1) = true := by rw [hm]; rfl
          have hrr3 : w3.rangeAt 1 0 (cW RS) := range_below hb3 h1w hr
          have hw := write_any w3 (pa + 1) RS IV (tB two) part RS_len hrr3 hB3 (by rw [tB_len]; omega)
          rw [← tB_append] at hw
          have HA : Hid (Hst w3 pa RS IV (tB one')) := hA
          have Hb3 : Hid (Below w.heap.size w w3) := hb3
          have HZ : Hid (w.heap.size ≤ w3.heap.size) := hb3.size
          clear hA hB3 hb3
          go_upto_region 15 with (go_at_call 8; refine hw.mono ?_; rintro e w4 ⟨rfl, hB4, hg4⟩)
          have hb4 : Below w.heap.size w w4 := Hb3.out.grown hg4 HZ.out (fun j hj => by cases hj; omega)
          have hA4 : Hst w4 pa RS IV (tB one') := HA.out.grown hg4 (Ne.symm HN.out)
          have ck4 := HC.out w4 hb4
          clear hw hrr3 ck3
          go_wp2
          go_meet
          case rel =>
            go_light
            exact ⟨_, rfl, by show _ ≤ _; rw [ByteArray.size_append]; exact Nat.le_refl _, hA4, hB4, hb4⟩
        · have hm' : ((k : Int) % 3 == 1) = false := by rw [beq_eq_false_iff_ne]; exact hm
          go_wp2
          go_meet
          case rel =>
            go_light
            exact ⟨two, rfl, by show _ ≤ _; omega, hA, hB3, hb3⟩
      case rest =>
        obtain ⟨two', rfl, H2', hA', hB', hb'⟩ := hcut
        have hrc : wc.rangeAt 1 0 (cW RS) := range_below hb' h1w hr
        have h1c : 1 < wc.heap.size := Nat.lt_of_lt_of_le h1w hb'.size
        have hb0 : Below wc.heap.size wc wc := Below.refl _ _
        have ht' : two'.size < 4611686018427387904 := by have := H2'.out; omega
        have ho' : one'.size < 4611686018427387904 := by omega
        have Hb' : Hid (Below w.heap.size w wc) := hb'
        have HZ' : Hid (w.heap.size ≤ wc.heap.size) := hb'.size
        have HFIN : Hid (tB one' = flat (ss.take (k + 1)) ∧ (tB two').length ≤ (flat (ss.take (k + 1))).length) := by
          refine ⟨HS.out, ?_⟩
          rw [HL.out, tB_len]; have := H2'.out; omega
        clear hA hB3 hb3 ck3 hb'
        go_wp2_with (first | (go_at_call 9; with_reducible refine (sum_later wc _ ?_ _ ?_ hrc h1c ?_).mono ?_; rotate_left; (first | exact hA' | exact hB'); assumption; rintro e w5 ⟨rfl, hbn⟩) | (go_at_call 10; with_reducible refine (of_later wc _ _ ?_ hrc h1c ?_).mono ?_; assumption; assumption; rintro e w5 ⟨rfl, hbn⟩))
        go_roundg (len - (k + 1))
        case rel =>
          go_light
          exact ⟨k + 1, one', two', by omega, rfl, rfl, rfl, by go_num, HFIN.out.1, HFIN.out.2, hA'.later hbn hA'.lt, hB'.later hbn hB'.lt, Hb'.out.trans (hbn.mono HZ'.out)⟩
        case measure => go_light; omega
    · obtain rfl : k = len := by omega
      have hz : ¬ (k : Int) < (k : Int) := by omega
      have e1 := H1.out
      rw [List.take_of_length_le (by omega)] at e1
      have hsl : wr.rangeAt b off (ss.map Value.string) := by
        by_cases h0 : 0 < k
        · exact range_below hb (range_lt hs (by intro h; have := congrArg List.length h; rw [List.length_map, List.length_nil] at this; omega)) hs
        · have : ss = [] := List.length_eq_zero_iff.1 (by omega)
          rw [this]; intro j v hv; cases hv
      have hof := of_any wr ao b off k cap ss hl hao hsl (by omega) RS RS_len hrr (by omega)
      rw [← e1] at hof
      have ht' : two.size < 4611686018427387904 := by
        have h2 := H2.out
        have := flat_take_le ss k
        rw [tB_len] at h2; omega
      have h1c : 1 < wr.heap.size := Nat.lt_of_lt_of_le h1w hb.size
      have Hb' : Hid (Below w.heap.size w wr) := hb
      have HZ' : Hid (w.heap.size ≤ wr.heap.size) := hb.size
      clear hs hsl hao hl e1 hb
      go_wp2_with (first | (go_at_call 9; with_reducible refine (sum_later wr _ ?_ _ ?_ hrr h1c ?_).mono ?_; rotate_left; (first | exact hA | exact hB); assumption; rintro e w5 ⟨rfl, hbn⟩) | (go_at_call 10; with_reducible refine hof.mono ?_; rintro e w5 ⟨rfl, hbn⟩) | (go_at_call 10; with_reducible refine (of_later wr _ _ ?_ hrr h1c ?_).mono ?_; assumption; assumption; rintro e w5 ⟨rfl, hbn⟩))
      go_ret
      exact ⟨rfl, Hb'.out.trans (hbn.mono HZ'.out)⟩
end Go.Proofs.YthcldaejihdahaaDoor
