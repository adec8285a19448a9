/-
  Walks of package hash: lists of texts, Leaf, Node, Bagged, Root. Own work.
-/
import Derived.Test.YtdkcliblbaldhaaDoorHWalkB
namespace Go.Proofs.YtdkcliblbaldhaaDoor
open Go.RowKit
attribute [local go_sem ↓] Go.wp_at_zero Go.wp_at_succ
/-- A list of texts that can be read. -/
structure RdS (w : World) (ao : Option Addr) (b off len : Nat) (ss : List ByteArray) : Prop where
  hl : ss.length = len
  ptr : 0 < len → ao = some ⟨b, off, none⟩
  rng : w.rangeAt b off (ss.map Value.string)
  sz : ∀ s ∈ ss, s.size ≤ 9223372036854775807
theorem RdS.lt {w : World} {ao : Option Addr} {b off len : Nat} {ss : List ByteArray} (h : RdS w ao b off len ss) (h0 : 0 < len) : b < w.heap.size :=
  range_lt h.rng (by intro e; have := congrArg List.length e; rw [List.length_map, List.length_nil, h.hl] at this; omega)
theorem RdS.next {w W : World} {ao : Option Addr} {b off len B : Nat} {ss : List ByteArray} (h : RdS w ao b off len ss) (hb : Below B w W) (hB : w.heap.size ≤ B) : RdS W ao b off len ss := by
  refine ⟨h.hl, h.ptr, ?_, h.sz⟩
  by_cases h0 : 0 < len
  · exact range_below hb (Nat.lt_of_lt_of_le (h.lt h0) hB) h.rng
  · have : ss = [] := List.length_eq_zero_iff.1 (by rw [h.hl]; omega)
    rw [this]; intro j v hv; cases hv
theorem RdS.at {w : World} {ao : Option Addr} {b off len : Nat} {ss : List ByteArray} (h : RdS w ao b off len ss) {k : Nat} (hk : k < len) : w.cell? ⟨b, off + k, none⟩ = some (.string (ss.getD k ByteArray.empty)) :=
  h.rng k _ (by have := h.hl; simp [List.getElem?_eq_getElem (show k < ss.length by omega), List.getD_eq_getElem?_getD])
theorem getD_mem {ss : List ByteArray} {k : Nat} (hk : k < ss.length) : ss.getD k ByteArray.empty ∈ ss := by
  rw [List.getD_eq_getElem?_getD, List.getElem?_eq_getElem hk]; exact List.getElem_mem _
set_option maxRecDepth 100000 in
theorem leaf_any (w : World) (ht : Tb w) (k : Int) (s : ByteArray) (hs : s.size < 2305843009213693952) (r : ByteArray) (hr : dg (clk k) (leafT s) = r) :
    Calls Tryd.prog 28 #[.int .i64 k, .string s] w fun e w' => e = .returned (.string r) ∧ Below w.heap.size w w' := by
  have HL := leaft_any w s hs
  have HO : Hid (∀ W, Below w.heap.size w W → Calls Tryd.prog 20 #[.int .i64 k, .string (leafT s)] W fun e w' => e = .returned (.string r) ∧ Below W.heap.size W w') := fun W hb => hof_any W (ht.next hb) k _ (by rw [leafT_size]; omega) r hr
  clear hr ht hs
  generalize leafT s = t at *
  go_enter Tryd.func28, Tryd.ntmps28
  go_wp2_with (first
    | (go_at_call 58; with_reducible refine HL.mono ?_; rintro e w1 ⟨rfl, hb1⟩)
    | (go_at_call 20; with_reducible refine (HO.out _ hb1).mono ?_; rintro e w2 ⟨rfl, hb2⟩))
  go_ret
  exact ⟨rfl, bnext hb1 hb2⟩
set_option maxRecDepth 100000 in
theorem node_any (w : World) (ht : Tb w) (k : Int) (a b : ByteArray) (hs : a.size < 2305843009213693952) (hs2 : b.size < 2305843009213693952) (r : ByteArray) (hr : dg (clk k) (nodeT a b) = r) :
    Calls Tryd.prog 29 #[.int .i64 k, .string a, .string b] w fun e w' => e = .returned (.string r) ∧ Below w.heap.size w w' := by
  have HL := nodet_any w a b hs hs2
  have HO : Hid (∀ W, Below w.heap.size w W → Calls Tryd.prog 20 #[.int .i64 k, .string (nodeT a b)] W fun e w' => e = .returned (.string r) ∧ Below W.heap.size W w') := fun W hb => hof_any W (ht.next hb) k _ (by rw [nodeT_size]; omega) r hr
  clear hr ht hs hs2
  generalize nodeT a b = t at *
  go_enter Tryd.func29, Tryd.ntmps29
  go_wp2_with (first
    | (go_at_call 59; with_reducible refine HL.mono ?_; rintro e w1 ⟨rfl, hb1⟩)
    | (go_at_call 20; with_reducible refine (HO.out _ hb1).mono ?_; rintro e w2 ⟨rfl, hb2⟩))
  go_ret
  exact ⟨rfl, bnext hb1 hb2⟩
/-- What peaks are bagged to. -/
def bagL (c : Nat) : List ByteArray → ByteArray
  | [] => ByteArray.empty
  | [p] => p
  | p :: q :: r => dg c (bagT p (bagL c (q :: r)))
theorem bagL_size {c : Nat} (hc : c ≤ 32) {M : Nat} (hM : 32 ≤ M) : ∀ (ss : List ByteArray), (∀ s ∈ ss, s.size ≤ M) → (bagL c ss).size ≤ M
  | [], _ => by simp [bagL]
  | [p], h => h p (by simp)
  | p :: q :: r, _ => by rw [bagL, dg_size hc]; omega
theorem bagL_drop (c : Nat) (ss : List ByteArray) (i : Nat) (h : i + 1 < ss.length) : bagL c (ss.drop i) = dg c (bagT (ss.getD i ByteArray.empty) (bagL c (ss.drop (i + 1)))) := by
  rw [List.drop_eq_getElem_cons (by omega), List.drop_eq_getElem_cons h, bagL, List.getD_eq_getElem?_getD, List.getElem?_eq_getElem (by omega)]
  rfl
theorem bagL_last (c : Nat) (ss : List ByteArray) (h : 0 < ss.length) : bagL c (ss.drop (ss.length - 1)) = ss.getD (ss.length - 1) ByteArray.empty := by
  rw [List.drop_eq_getElem_cons (by omega), show ss.length - 1 + 1 = ss.length by omega, List.drop_length, bagL, List.getD_eq_getElem?_getD, List.getElem?_eq_getElem (by omega)]
  rfl
set_option maxRecDepth 100000 in
theorem bagged_any (w : World) (ht : Tb w) (k : Int) (ao : Option Addr) (b off len cap : Nat) (ss : List ByteArray) (hr : RdS w ao b off len ss) (hsz : ∀ s ∈ ss, s.size ≤ 140737488351232) (hmx : len ≤ 8796093022208) (r : ByteArray) (hq : bagL (clk k) ss = r) :
    Calls Tryd.prog 46 #[.int .i64 k, .slice ao len cap] w fun e w' => e = .returned (.string r) ∧ Below w.heap.size w w' := by
  by_cases h0 : len = 0
  · subst h0
    have : ss = [] := List.length_eq_zero_iff.1 hr.hl
    subst this
    subst hq
    go_enter Tryd.func46, Tryd.ntmps46
    go_wp2
    go_ret
    exact ⟨rfl, Below.refl _ _⟩
  · have hlen : 0 < len := by omega
    obtain rfl := hr.ptr hlen
    obtain ⟨m, rfl⟩ : ∃ m, len = m + 1 := ⟨len - 1, by omega⟩
    have hc := clk_le k
    have hne : ¬ ((m : Int) + 1 = 0) := by omega
    have cm := hr.at (k := m) (by omega)
    have HL : Hid (bagL (clk k) (ss.drop m) = ss.getD m ByteArray.empty) := by
      have := bagL_last (clk k) ss (by rw [hr.hl]; omega)
      rw [hr.hl] at this; exact this
    have HSZ : Hid (∀ d, d = bagL (clk k) ss → True) := fun _ _ => trivial
    have HM : Hid (∀ j, j < m + 1 → (ss.getD j ByteArray.empty).size ≤ 140737488351232) := fun j hj => hsz _ (getD_mem (by rw [hr.hl]; exact hj))
    have HD : Hid (∀ j, (bagL (clk k) (ss.drop j)).size ≤ 140737488351232) := fun j => bagL_size hc (by decide) _ (fun s hs => hsz s (List.mem_of_mem_drop hs))
    have HN : Hid (∀ j, j < m → bagL (clk k) (ss.drop j) = dg (clk k) (bagT (ss.getD j ByteArray.empty) (bagL (clk k) (ss.drop (j + 1))))) := fun j hj => bagL_drop _ _ _ (by rw [hr.hl]; omega)
    have HT : Hid (Tb w) := ht
    have HR : Hid (RdS w (some ⟨b, off, none⟩) b off (m + 1) ss) := hr
    have HQ : Hid (bagL (clk k) (ss.drop 0) = r) := hq
    obtain ⟨d0, hd0⟩ : ∃ d0, ss.getD m ByteArray.empty = d0 := ⟨_, rfl⟩
    rw [hd0] at cm
    have HL2 : Hid (bagL (clk k) (ss.drop m) = d0) := by rw [← hd0]; exact HL
    clear hd0 HL ht hr hq hsz HSZ h0 hlen
    go_enter Tryd.func46, Tryd.ntmps46
    go_wp2
    go_loopg [6, 7] m (fun g x i wr => ∃ (j : Nat) (d : ByteArray), j = g ∧ x = .string d ∧ i = .int .i64 ((j : Int) - 1) ∧ j ≤ m ∧ Hid (bagL (clk k) (ss.drop j) = d) ∧ Below w.heap.size w wr)
    case atStart =>
      go_light
      exact ⟨m, d0, rfl, rfl, rfl, Nat.le_refl _, HL2, Below.refl _ _⟩
    case round =>
      obtain ⟨j, d, hg, rfl, rfl, hj, HE, hb⟩ := hrel
      subst hg
      cases j with
      | zero =>
        have hz : ¬ ((0 : Int) ≤ -1) := by decide
        rw [show ((0 : Nat) : Int) - 1 = -1 from rfl]
        have HF : Hid (d = r) := HE.out.symm.trans HQ.out
        clear HE HN HQ HM HD HR HT cm
        obtain rfl := HF.out
        go_wp2
        go_ret
        exact ⟨rfl, hb⟩
      | succ j =>
        have e1 : ((j + 1 : Nat) : Int) - 1 = (j : Int) := by omega
        have hz : (0 : Int) ≤ (j : Int) := by omega
        have hz2 : (j : Int) < (m : Int) + 1 := by omega
        have hjm : j < m := by omega
        have cj := (HR.out.next hb (Nat.le_refl _)).at (k := j) (by omega)
        have z1 := HM.out j (by omega)
        have z2 := HD.out (j + 1)
        have hn := HN.out j hjm
        rw [HE.out] at z2 hn
        generalize ss.getD j ByteArray.empty = p at *
        have HG := fun W => bagt_any W p d (by omega) (by omega) _ rfl
        obtain ⟨t, ht⟩ : ∃ t, bagT p d = t := ⟨_, rfl⟩
        have zt := bagT_size p d
        rw [ht] at zt
        simp only [ht] at HG hn
        obtain ⟨d', hd'⟩ : ∃ d', dg (clk k) t = d' := ⟨_, rfl⟩
        have HO : Hid (∀ W, Below w.heap.size w W → Calls Tryd.prog 20 #[.int .i64 k, .string t] W fun e w' => e = .returned (.string d') ∧ Below W.heap.size W w') := fun W hb => hof_any W (HT.out.next hb) k t (by omega) d' hd'
        have HE2 : Hid (bagL (clk k) (ss.drop j) = d') := hn.trans hd'
        rw [e1]
        clear HE hn hd' ht zt z1 z2 e1 cm HL2
        go_wp2_with (first
          | (go_at_call 47; with_reducible refine (HG _).mono ?_; rintro e w1 ⟨rfl, hb1⟩; replace hb := bnext hb hb1; clear hb1)
          | (go_at_call 20; with_reducible refine (HO.out _ hb).mono ?_; rintro e w2 ⟨rfl, hb2⟩; replace hb := bnext hb hb2; clear hb2))
        go_roundg j
        case rel =>
          go_light
          exact ⟨j, d', rfl, rfl, by go_num, by omega, HE2.out, hb⟩
        case measure => go_light; omega
set_option maxRecDepth 100000 in
theorem root_any (w : World) (ht : Tb w) (k : Int) (n : Nat) (ao : Option Addr) (b off len cap : Nat) (ss : List ByteArray) (hr : RdS w ao b off len ss) (hsz : ∀ s ∈ ss, s.size ≤ 140737488351232) (hmx : len ≤ 8796093022208) (r : ByteArray) (hq : dg (clk k) (rootT n (bagL (clk k) ss)) = r) :
    Calls Tryd.prog 38 #[.int .i64 k, .int .u64 (n : Int), .slice ao len cap] w fun e w' => e = .returned (.string r) ∧ Below w.heap.size w w' := by
  have hz : (bagL (clk k) ss).size ≤ 140737488351232 := bagL_size (clk_le k) (by decide) _ hsz
  obtain ⟨d, hd⟩ : ∃ d, bagL (clk k) ss = d := ⟨_, rfl⟩
  have HBg := bagged_any w ht k ao b off len cap ss hr hsz hmx d hd
  rw [hd] at hq hz
  obtain ⟨t, hrt⟩ : ∃ t, rootT n d = t := ⟨_, rfl⟩
  have HRt := fun W => roott_any W n d (by omega) t hrt
  have zt := rootT_size n d
  rw [hrt] at hq zt
  have HO : Hid (∀ W, Below w.heap.size w W → Calls Tryd.prog 20 #[.int .i64 k, .string t] W fun e w' => e = .returned (.string r) ∧ Below W.heap.size W w') := fun W hb => hof_any W (ht.next hb) k t (by omega) r hq
  have hb := Below.refl w.heap.size w
  clear hq ht hd hrt zt hz hr hsz hmx
  go_enter Tryd.func38, Tryd.ntmps38
  go_wp2_with (first
    | (go_at_call 46; with_reducible refine HBg.mono ?_; rintro e w1 ⟨rfl, hb1⟩; replace hb := bnext hb hb1; clear hb1)
    | (go_at_call 45; with_reducible refine (HRt _).mono ?_; rintro e w1 ⟨rfl, hb1⟩; replace hb := bnext hb hb1; clear hb1)
    | (go_at_call 20; with_reducible refine (HO.out _ hb).mono ?_; rintro e w2 ⟨rfl, hb2⟩; replace hb := bnext hb hb2; clear hb2))
  go_ret
  exact ⟨rfl, hb⟩
end Go.Proofs.YtdkcliblbaldhaaDoor
