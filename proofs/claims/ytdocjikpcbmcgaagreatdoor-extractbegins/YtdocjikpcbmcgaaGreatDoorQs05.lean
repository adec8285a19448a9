/-
  Own work: HWalkC, EPq, PlSpec, PlWalkA, Plan, HList.
-/
import Derived.Test.YtdocjikpcbmcgaaGreatDoorRows
import Derived.Test.YtdocjikpcbmcgaaGreatDoorProg
import Derived.WalkKit
import Derived.WalkSpells
import Derived.Outline
import Derived.KernelRfl
import Derived.Deep.LoopGhost
import Derived.Deep.DrawnRows
import Derived.Deep.Light
import Derived.Laws.Bits64b
import Derived.Handy
import Derived.Below
import Derived.Deep.RegionHeld3
import Derived.Deep.RegionWith
import Derived.BigQuiet
import Derived.Test.YtdocjikpcbmcgaaGreatDoorQs04
namespace Go.Proofs.YtdocjikpcbmcgaaGreatDoor
open Go.RowKit
attribute [local go_sem ↓] Go.wp_at_zero Go.wp_at_succ
structure RdS (w : World) (ao : Option Addr) (b off len : Nat) (ss : List ByteArray) : Prop where
  hl : ss.length = len
  ptr : 0 < len → ao = some ⟨b, off, none⟩
  rng : w.rangeAt b off (ss.map Value.string)
  sz : ∀ s ∈ ss, s.size ≤ 9223372036854775807
theorem RdS.lt {w : World} {ao : Option Addr} {b off len : Nat} {ss : List ByteArray} (h : RdS w ao b off len ss) (h0 : 0 < len) : b < w.heap.size :=
  range_lt h.rng (by intro e; have := congrArg List.length e; rw [List.length_map, List.length_nil, h.hl] at this; omega)
theorem RdS.next {w W : World} {ao : Option Addr} {b off len B : Nat} {ss : List ByteArray} (h : RdS w ao b off len ss) (hb : Below B w W) (hB : w.heap.size ≤ B) : RdS W ao b off len ss := by
  refine ⟨h.hl, h.ptr, ?_, h.sz⟩
  by_cases h0 : 0 < len
  · exact range_below hb (Nat.lt_of_lt_of_le (h.lt h0) hB) h.rng
  · have : ss = [] := List.length_eq_zero_iff.1 (by rw [h.hl]; omega)
    rw [this]; intro j v hv; cases hv
theorem RdS.at {w : World} {ao : Option Addr} {b off len : Nat} {ss : List ByteArray} (h : RdS w ao b off len ss) {k : Nat} (hk : k < len) : w.cell? ⟨b, off + k, none⟩ = some (.string (ss.getD k ByteArray.empty)) :=
  h.rng k _ (by have := h.hl; simp [List.getElem?_eq_getElem (show k < ss.length by omega), List.getD_eq_getElem?_getD])
theorem getD_mem {ss : List ByteArray} {k : Nat} (hk : k < ss.length) : ss.getD k ByteArray.empty ∈ ss := by
  rw [List.getD_eq_getElem?_getD, List.getElem?_eq_getElem hk]; exact List.getElem_mem _
set_option maxRecDepth 100000 in
theorem leaf_any (w : World) (ht : Tb w) (k : Int) (s : ByteArray) (hs : s.size < 2305843009213693952) (r : ByteArray) (hr : dg (clk k) (leafT s) = r) :
    Calls Tryz.prog 116 #[.int .i64 k, .string s] w fun e w' => e = .returned (.string r) ∧ Below w.heap.size w w' := by
  have HL := leaft_any w s hs
  have HO : Hid (∀ W, Below w.heap.size w W → Calls Tryz.prog 126 #[.int .i64 k, .string (leafT s)] W fun e w' => e = .returned (.string r) ∧ Below W.heap.size W w') := fun W hb => hof_any W (ht.next hb) k _ (by rw [leafT_size]; omega) r hr
  clear hr ht hs
  generalize leafT s = t at *
  go_enter Tryz.func116, Tryz.ntmps116
  go_wp2_with (first
    | (go_at_call 164; with_reducible refine HL.mono ?_; rintro e w1 ⟨rfl, hb1⟩)
    | (go_at_call 126; with_reducible refine (HO.out _ hb1).mono ?_; rintro e w2 ⟨rfl, hb2⟩))
  go_ret
  exact ⟨rfl, bnext hb1 hb2⟩
set_option maxRecDepth 100000 in
theorem node_any (w : World) (ht : Tb w) (k : Int) (a b : ByteArray) (hs : a.size < 2305843009213693952) (hs2 : b.size < 2305843009213693952) (r : ByteArray) (hr : dg (clk k) (nodeT a b) = r) :
    Calls Tryz.prog 125 #[.int .i64 k, .string a, .string b] w fun e w' => e = .returned (.string r) ∧ Below w.heap.size w w' := by
  have HL := nodet_any w a b hs hs2
  have HO : Hid (∀ W, Below w.heap.size w W → Calls Tryz.prog 126 #[.int .i64 k, .string (nodeT a b)] W fun e w' => e = .returned (.string r) ∧ Below W.heap.size W w') := fun W hb => hof_any W (ht.next hb) k _ (by rw [nodeT_size]; omega) r hr
  clear hr ht hs hs2
  generalize nodeT a b = t at *
  go_enter Tryz.func125, Tryz.ntmps125
  go_wp2_with (first
    | (go_at_call 128; with_reducible refine HL.mono ?_; rintro e w1 ⟨rfl, hb1⟩)
    | (go_at_call 126; with_reducible refine (HO.out _ hb1).mono ?_; rintro e w2 ⟨rfl, hb2⟩))
  go_ret
  exact ⟨rfl, bnext hb1 hb2⟩
def bagL (c : Nat) : List ByteArray → ByteArray
  | [] => ByteArray.empty
  | [p] => p
  | p :: q :: r => dg c (bagT p (bagL c (q :: r)))
theorem bagL_size {c : Nat} (hc : c ≤ 32) {M : Nat} (hM : 32 ≤ M) : ∀ (ss : List ByteArray), (∀ s ∈ ss, s.size ≤ M) → (bagL c ss).size ≤ M
  | [], _ => by simp [bagL]
  | [p], h => h p (by simp)
  | p :: q :: r, _ => by rw [bagL, dg_size hc]; omega
theorem bagL_drop (c : Nat) (ss : List ByteArray) (i : Nat) (h : i + 1 < ss.length) : bagL c (ss.drop i) = dg c (bagT (ss.getD i ByteArray.empty) (bagL c (ss.drop (i + 1)))) := by
  rw [List.drop_eq_getElem_cons (by omega), List.drop_eq_getElem_cons h, bagL, List.getD_eq_getElem?_getD, List.getElem?_eq_getElem (by omega)]
  rfl
theorem bagL_last (c : Nat) (ss : List ByteArray) (h : 0 < ss.length) : bagL c (ss.drop (ss.length - 1)) = ss.getD (ss.length - 1) ByteArray.empty := by
  rw [List.drop_eq_getElem_cons (by omega), show ss.length - 1 + 1 = ss.length by omega, List.drop_length, bagL, List.getD_eq_getElem?_getD, List.getElem?_eq_getElem (by omega)]
  rfl
set_option maxRecDepth 100000 in
theorem bagged_any (w : World) (ht : Tb w) (k : Int) (ao : Option Addr) (b off len cap : Nat) (ss : List ByteArray) (hr : RdS w ao b off len ss) (hsz : ∀ s ∈ ss, s.size ≤ 140737488351232) (hmx : len ≤ 8796093022208) (r : ByteArray) (hq : bagL (clk k) ss = r) :
    Calls Tryz.prog 72 #[.int .i64 k, .slice ao len cap] w fun e w' => e = .returned (.string r) ∧ Below w.heap.size w w' := by
  by_cases h0 : len = 0
  · subst h0
    have : ss = [] := List.length_eq_zero_iff.1 hr.hl
    subst this
    subst hq
    go_enter Tryz.func72, Tryz.ntmps72
    go_wp2
    go_ret
    exact ⟨rfl, Below.refl _ _⟩
  · have hlen : 0 < len := by omega
    obtain rfl := hr.ptr hlen
    obtain ⟨m, rfl⟩ : ∃ m, len = m + 1 := ⟨len - 1, by omega⟩
    have hc := clk_le k
    have hne : ¬ ((m : Int) + 1 = 0) := by omega
    have cm := hr.at (k := m) (by omega)
    have HL : Hid (bagL (clk k) (ss.drop m) = ss.getD m ByteArray.empty) := by
      have := bagL_last (clk k) ss (by rw [hr.hl]; omega)
      rw [hr.hl] at this; exact this
    have HSZ : Hid (∀ d, d = bagL (clk k) ss → True) := fun _ _ => trivial
    have HM : Hid (∀ j, j < m + 1 → (ss.getD j ByteArray.empty).size ≤ 140737488351232) := fun j hj => hsz _ (getD_mem (by rw [hr.hl]; exact hj))
    have HD : Hid (∀ j, (bagL (clk k) (ss.drop j)).size ≤ 140737488351232) := fun j => bagL_size hc (by decide) _ (fun s hs => hsz s (List.mem_of_mem_drop hs))
    have HN : Hid (∀ j, j < m → bagL (clk k) (ss.drop j) = dg (clk k) (bagT (ss.getD j ByteArray.empty) (bagL (clk k) (ss.drop (j + 1))))) := fun j hj => bagL_drop _ _ _ (by rw [hr.hl]; omega)
    have HT : Hid (Tb w) := ht
    have HR : Hid (RdS w (some ⟨b, off, none⟩) b off (m + 1) ss) := hr
    have HQ : Hid (bagL (clk k) (ss.drop 0) = r) := hq
    obtain ⟨d0, hd0⟩ : ∃ d0, ss.getD m ByteArray.empty = d0 := ⟨_, rfl⟩
    rw [hd0] at cm
    have HL2 : Hid (bagL (clk k) (ss.drop m) = d0) := by rw [← hd0]; exact HL
    clear hd0 HL ht hr hq hsz HSZ h0 hlen
    go_enter Tryz.func72, Tryz.ntmps72
    go_wp2
    go_loopg [6, 7] m (fun g x i wr => ∃ (j : Nat) (d : ByteArray), j = g ∧ x = .string d ∧ i = .int .i64 ((j : Int) - 1) ∧ j ≤ m ∧ Hid (bagL (clk k) (ss.drop j) = d) ∧ Below w.heap.size w wr)
    case atStart =>
      go_light
      exact ⟨m, d0, rfl, rfl, rfl, Nat.le_refl _, HL2, Below.refl _ _⟩
    case round =>
      obtain ⟨j, d, hg, rfl, rfl, hj, HE, hb⟩ := hrel
      subst hg
      cases j with
      | zero =>
        have hz : ¬ ((0 : Int) ≤ -1) := by decide
        rw [show ((0 : Nat) : Int) - 1 = -1 from rfl]
        have HF : Hid (d = r) := HE.out.symm.trans HQ.out
        clear HE HN HQ HM HD HR HT cm
        obtain rfl := HF.out
        go_wp2
        go_ret
        exact ⟨rfl, hb⟩
      | succ j =>
        have e1 : ((j + 1 : Nat) : Int) - 1 = (j : Int) := by omega
        have hz : (0 : Int) ≤ (j : Int) := by omega
        have hz2 : (j : Int) < (m : Int) + 1 := by omega
        have hjm : j < m := by omega
        have cj := (HR.out.next hb (Nat.le_refl _)).at (k := j) (by omega)
        have z1 := HM.out j (by omega)
        have z2 := HD.out (j + 1)
        have hn := HN.out j hjm
        rw [HE.out] at z2 hn
        generalize ss.getD j ByteArray.empty = p at *
        have HG := fun W => bagt_any W p d (by omega) (by omega) _ rfl
        obtain ⟨t, ht⟩ : ∃ t, bagT p d = t := ⟨_, rfl⟩
        have zt := bagT_size p d
        rw [ht] at zt
        simp only [ht] at HG hn
        obtain ⟨d', hd'⟩ : ∃ d', dg (clk k) t = d' := ⟨_, rfl⟩
        have HO : Hid (∀ W, Below w.heap.size w W → Calls Tryz.prog 126 #[.int .i64 k, .string t] W fun e w' => e = .returned (.string d') ∧ Below W.heap.size W w') := fun W hb => hof_any W (HT.out.next hb) k t (by omega) d' hd'
        have HE2 : Hid (bagL (clk k) (ss.drop j) = d') := hn.trans hd'
        rw [e1]
        clear HE hn hd' ht zt z1 z2 e1 cm HL2
        go_wp2_with (first
          | (go_at_call 127; with_reducible refine (HG _).mono ?_; rintro e w1 ⟨rfl, hb1⟩; replace hb := bnext hb hb1; clear hb1)
          | (go_at_call 126; with_reducible refine (HO.out _ hb).mono ?_; rintro e w2 ⟨rfl, hb2⟩; replace hb := bnext hb hb2; clear hb2))
        go_roundg j
        case rel =>
          go_light
          exact ⟨j, d', rfl, rfl, by go_num, by omega, HE2.out, hb⟩
        case measure => go_light; omega
set_option maxRecDepth 100000 in
theorem root_any (w : World) (ht : Tb w) (k : Int) (n : Nat) (ao : Option Addr) (b off len cap : Nat) (ss : List ByteArray) (hr : RdS w ao b off len ss) (hsz : ∀ s ∈ ss, s.size ≤ 140737488351232) (hmx : len ≤ 8796093022208) (r : ByteArray) (hq : dg (clk k) (rootT n (bagL (clk k) ss)) = r) :
    Calls Tryz.prog 81 #[.int .i64 k, .int .u64 (n : Int), .slice ao len cap] w fun e w' => e = .returned (.string r) ∧ Below w.heap.size w w' := by
  have hz : (bagL (clk k) ss).size ≤ 140737488351232 := bagL_size (clk_le k) (by decide) _ hsz
  obtain ⟨d, hd⟩ : ∃ d, bagL (clk k) ss = d := ⟨_, rfl⟩
  have HBg := bagged_any w ht k ao b off len cap ss hr hsz hmx d hd
  rw [hd] at hq hz
  obtain ⟨t, hrt⟩ : ∃ t, rootT n d = t := ⟨_, rfl⟩
  have HRt := fun W => roott_any W n d (by omega) t hrt
  have zt := rootT_size n d
  rw [hrt] at hq zt
  have HO : Hid (∀ W, Below w.heap.size w W → Calls Tryz.prog 126 #[.int .i64 k, .string t] W fun e w' => e = .returned (.string r) ∧ Below W.heap.size W w') := fun W hb => hof_any W (ht.next hb) k t (by omega) r hq
  have hb := Below.refl w.heap.size w
  clear hq ht hd hrt zt hz hr hsz hmx
  go_enter Tryz.func81, Tryz.ntmps81
  go_wp2_with (first
    | (go_at_call 72; with_reducible refine HBg.mono ?_; rintro e w1 ⟨rfl, hb1⟩; replace hb := bnext hb hb1; clear hb1)
    | (go_at_call 71; with_reducible refine (HRt _).mono ?_; rintro e w1 ⟨rfl, hb1⟩; replace hb := bnext hb hb1; clear hb1)
    | (go_at_call 126; with_reducible refine (HO.out _ hb).mono ?_; rintro e w2 ⟨rfl, hb2⟩; replace hb := bnext hb hb2; clear hb2))
  go_ret
  exact ⟨rfl, hb⟩
end Go.Proofs.YtdocjikpcbmcgaaGreatDoor
namespace Go.Proofs.YtdocjikpcbmcgaaGreatDoor
theorem ba_app {a b x y : ByteArray} (hs : a.size = b.size) (h : a ++ x = b ++ y) : a = b ∧ x = y := by
  have h1 := congrArg (fun z : ByteArray => z.data.toList) h
  simp only [ByteArray.data_append, Array.toList_append] at h1
  have hl : a.data.toList.length = b.data.toList.length := by simpa using hs
  obtain ⟨e1, e2⟩ := List.append_inj h1 hl
  exact ⟨ByteArray.ext (Array.toList_inj.1 e1), ByteArray.ext (Array.toList_inj.1 e2)⟩
theorem nodeT_inj {a b x y : ByteArray} (hs : a.size = b.size) (h : nodeT a x = nodeT b y) : a = b ∧ x = y := by
  obtain ⟨h1, h2⟩ := ba_app (by rw [ByteArray.size_append, ByteArray.size_append, hs]) h
  exact ⟨(ba_app rfl h1).2, h2⟩
theorem bagT_inj {a b x y : ByteArray} (hs : a.size = b.size) (h : bagT a x = bagT b y) : a = b ∧ x = y := by
  obtain ⟨h1, h2⟩ := ba_app (by rw [ByteArray.size_append, ByteArray.size_append, hs]) h
  exact ⟨(ba_app rfl h1).2, h2⟩
theorem leafT_inj {x y : ByteArray} (h : leafT x = leafT y) : x = y := (ba_app rfl h).2
theorem rootT_inj {n : Nat} {x y : ByteArray} (h : rootT n x = rootT n y) : x = y := (ba_app rfl h).2
abbrev Pq : Type := Option (ByteArray × ByteArray)
def un (a b : ByteArray) : Pq := if a = b then none else some (a, b)
theorem un_none {a b : ByteArray} (h : un a b = none) : a = b := by
  unfold un at h
  split at h
  · assumption
  · cases h
theorem un_some {a b : ByteArray} {q : ByteArray × ByteArray} (h : un a b = some q) : a ≠ b ∧ q = (a, b) := by
  unfold un at h
  split at h
  · cases h
  · rename_i hn; exact ⟨hn, (Option.some.inj h).symm⟩
theorem un_self (a : ByteArray) : un a a = none := if_pos rfl
theorem or_none {x y : Pq} (h : x.or y = none) : x = none ∧ y = none := by
  cases x with
  | none => exact ⟨rfl, h⟩
  | some q => cases h
theorem or_some {x y : Pq} {q : ByteArray × ByteArray} (h : x.or y = some q) : x = some q ∨ (x = none ∧ y = some q) := by
  cases x with
  | none => exact .inr ⟨rfl, h⟩
  | some p => exact .inl h
def Clx (c : Nat) (q : ByteArray × ByteArray) : Prop := q.1 ≠ q.2 ∧ dg c q.1 = dg c q.2
end Go.Proofs.YtdocjikpcbmcgaaGreatDoor
namespace Go.Proofs.YtdocjikpcbmcgaaGreatDoor.Pl
def ones : Nat → Nat → Nat
  | 0, _ => 0
  | k + 1, n => n % 2 + ones k (n / 2)
theorem div_pow_succ (n k : Nat) : n / 2 ^ (k + 1) = n / 2 ^ k / 2 := by
  rw [Nat.pow_succ, Nat.div_div_eq_div_mul]
theorem ones_le (k n : Nat) : ones k n ≤ k := by
  induction k generalizing n with
  | zero => exact Nat.le_refl _
  | succ k ih => have := ih (n / 2); simp only [ones]; omega
theorem ones_step (k n : Nat) (hk : k < 64) : ones (64 - k) (n / 2 ^ k) = n / 2 ^ k % 2 + ones (64 - (k + 1)) (n / 2 ^ (k + 1)) := by
  rw [show 64 - k = (64 - (k + 1)) + 1 by omega, ones, div_pow_succ]
def pw (h : Nat) : Nat := 2 ^ h
theorem pw_succ (h : Nat) : pw (h + 1) = 2 * pw h := by simp [pw, Nat.pow_succ, Nat.mul_comm]
theorem pw_zero : pw 0 = 1 := rfl
theorem pw_pos (h : Nat) : 0 < pw h := Nat.two_pow_pos h
theorem pw_add (a b : Nat) : pw (a + b) = pw a * pw b := Nat.pow_add 2 a b
theorem pw_le {a b : Nat} (h : a ≤ b) : pw a ≤ pw b := Nat.pow_le_pow_right (by decide) h
theorem ones_more (j k : Nat) (h : k < 2 ^ j) : ones (j + 1) k = ones j k := by
  induction j generalizing k with
  | zero => simp at h; subst h; rfl
  | succ j ih =>
    rw [ones, ih (k / 2) (by rw [Nat.pow_succ] at h; omega)]; rfl
end Go.Proofs.YtdocjikpcbmcgaaGreatDoor.Pl
namespace Go.Proofs.YtdocjikpcbmcgaaGreatDoor.Pl
open Go.RowKit
attribute [local go_sem ↓] Go.wp_at_zero Go.wp_at_succ
theorem bit_eq (n k : Nat) (hn : n < 2 ^ 64) : (bits BinOp.and IntKind.u64 ((n : Int) / 2 ^ k) 1 == 1) = decide (n / 2 ^ k % 2 = 1) := by
  have e : ((n : Int) / 2 ^ k) = ((n / 2 ^ k : Nat) : Int) := by simp
  rw [e]
  have hm : n / 2 ^ k < 18446744073709551616 := Nat.lt_of_le_of_lt (Nat.div_le_self _ _) hn
  revert hm
  generalize n / 2 ^ k = m
  intro hm
  have := bits_and_u64_nat m 1 hm (by decide)
  rw [show (1 : Int) = ((1 : Nat) : Int) from rfl, this, Nat.and_one_is_mod]
  by_cases h : m % 2 = 1
  · simp [h]
  · have : m % 2 = 0 := by omega
    simp [this]
theorem isOne_any (n k : Nat) (w : World) (hn : n < 2 ^ 64) (hk : k < 64) :
    Calls Tryz.prog 130 #[.int .u64 n, .int .i64 k] w fun e w' => e = .returned (.bool (decide (n / 2 ^ k % 2 = 1))) ∧ w' = w := by
  have hk0 : (0 : Int) ≤ (k : Int) := Int.natCast_nonneg _
  go_enter Tryz.func130, Tryz.ntmps130
  go_wp2
  go_ret
  refine ⟨?_, rfl⟩
  rw [← bit_eq n k hn]
  rfl
theorem ones_any (n : Nat) (w : World) (hn : n < 2 ^ 64) :
    Calls Tryz.prog 80 #[.int .u64 n] w fun e w' => e = .returned (.int .i64 (ones 64 n : Nat)) ∧ w' = w := by
  go_enter Tryz.func80, Tryz.ntmps80
  go_wp2
  go_loopg [3, 5] 64 (fun g c i wr => ∃ k m : Nat, k ≤ 64 ∧ g = 64 - k ∧ i = .int .i64 k ∧ c = .int .i64 m ∧ m ≤ k ∧ m + ones (64 - k) (n / 2 ^ k) = ones 64 n ∧ w = wr)
  case atStart =>
    go_light
    exact ⟨0, 0, Nat.zero_le _, rfl, rfl, rfl, Nat.zero_le _, by simp, rfl⟩
  case round =>
    obtain ⟨k, m, hk, rfl, rfl, rfl, hm, hs, rfl⟩ := hrel
    have hk0 : (0 : Int) ≤ (k : Int) := Int.natCast_nonneg _
    have hm0 : (0 : Int) ≤ (m : Int) := Int.natCast_nonneg _
    have hm1 : (m : Int) ≤ 64 := by omega
    by_cases hlt : k < 64
    · have hk8 : (k : Int) < 64 := by omega
      have HS := ones_step k n hlt
      have HC := isOne_any n k w hn hlt
      by_cases hb : n / 2 ^ k % 2 = 1
      · rw [decide_eq_true hb] at HC
        go_wp2_with (go_at_call 130; refine HC.mono ?_; rintro e w' ⟨rfl, rfl⟩)
        go_roundg (64 - (k + 1))
        case rel =>
          go_light
          exact ⟨k + 1, m + 1, by omega, rfl, by go_num, by go_num, by omega, by omega, rfl⟩
        case measure => go_light; omega
      · rw [decide_eq_false hb] at HC
        go_wp2_with (go_at_call 130; refine HC.mono ?_; rintro e w' ⟨rfl, rfl⟩)
        go_roundg (64 - (k + 1))
        case rel =>
          go_light
          exact ⟨k + 1, m, by omega, rfl, by go_num, rfl, by omega, by omega, rfl⟩
        case measure => go_light; omega
    · obtain rfl : k = 64 := by omega
      clear hk hlt
      go_wp2
      go_ret
      refine ⟨?_, rfl⟩
      rw [← hs]
      rfl
end Go.Proofs.YtdocjikpcbmcgaaGreatDoor.Pl
namespace Go.Proofs.YtdocjikpcbmcgaaGreatDoor
open Go.RowKit
def cntU (p : Nat → Bool) : Nat → Nat
  | 0 => 0
  | n + 1 => cntU p n + (if p n then 0 else 1)
theorem cntU_zero {p : Nat → Bool} {n : Nat} (h : cntU p n = 0) : ∀ k, k < n → p k = true := by
  induction n with
  | zero => intro k hk; omega
  | succ n ih =>
    intro k hk
    simp only [cntU] at h
    by_cases hp : p n = true
    · by_cases e : k = n
      · rw [e]; exact hp
      · exact ih (by omega) k (by omega)
    · rw [if_neg hp] at h; omega
theorem cntU_congr {p q : Nat → Bool} {n : Nat} (h : ∀ k, k < n → p k = q k) : cntU p n = cntU q n := by
  induction n with
  | zero => rfl
  | succ n ih => simp only [cntU]; rw [ih (fun k hk => h k (by omega)), h n (by omega)]
theorem cntU_set {p q : Nat → Bool} {i : Nat} (hp : p i = false) (hq : q i = true) (hne : ∀ k, k ≠ i → q k = p k) : ∀ n, i < n → cntU q n + 1 = cntU p n
  | 0, h => by omega
  | n + 1, h => by
    simp only [cntU]
    by_cases e : i = n
    · subst e
      rw [hp, hq, cntU_congr (fun k hk => hne k (by omega))]
      simp
    · have := cntU_set hp hq hne n (by omega)
      rw [hne n (fun h => e h.symm)]; omega
theorem cntU_none (n : Nat) : cntU (fun _ => false) n = n := by
  induction n with
  | zero => rfl
  | succ n ih => simp only [cntU, ih]; rfl
def StepAll (St : Nat → Oper → Prop) : Nat → List Oper → Prop
  | _, [] => True
  | n, o :: r => St n o ∧ StepAll St (n + 1) r
theorem stepAll_at {St : Nat → Oper → Prop} : ∀ {l : List Oper} {n j : Nat} {o : Oper}, StepAll St n l → l[j]? = some o → St (n + j) o
  | _ :: _, n, 0, o, h, e => by simp at e; subst e; exact h.1
  | _ :: r, n, j + 1, o, h, e => by
    have := stepAll_at (l := r) (j := j) h.2 (by simpa using e)
    rw [show n + (j + 1) = n + 1 + j by omega]; exact this
  | [], _, _, _, _, e => by simp at e
theorem any_mem {xs : Array Edge} {p : Edge → Bool} (h : xs.toList.any p = true) : ∃ e, e ∈ xs ∧ p e = true := by
  obtain ⟨e, he, hp⟩ := List.any_eq_true.1 h
  exact ⟨e, by simpa using he, hp⟩
theorem getD_put (a : Act) (d : Nat) (v : Value) (h : d < a.tmps.size) : (a.put (some d) v).tmps.getD d undef = v := by
  simp [Act.put, h]
theorem getD_put_ne (a : Act) (d t : Nat) (v : Value) (h : d ≠ t) : (a.put (some d) v).tmps.getD t undef = a.tmps.getD t undef := by
  simp only [Act.put]
  by_cases ht : t < a.tmps.size
  · simp [Array.getD, ht, h]
  · simp [Array.getD, ht]
def puts (a : Act) : List Nat → List Value → Act
  | t :: sl, v :: vs => puts (a.put (some t) v) sl vs
  | _, _ => a
theorem puts_defers : ∀ (sl : List Nat) (vs : List Value) (a : Act), (puts a sl vs).defers = a.defers
  | [], _, _ => rfl
  | _ :: _, [], _ => rfl
  | t :: sl, v :: vs, a => by rw [puts, puts_defers sl vs]; rfl
theorem puts_size : ∀ (sl : List Nat) (vs : List Value) (a : Act), (puts a sl vs).tmps.size = a.tmps.size
  | [], _, _ => rfl
  | _ :: _, [], _ => rfl
  | t :: sl, v :: vs, a => by rw [puts, puts_size sl vs]; simp [Act.put]
theorem puts_other : ∀ (sl : List Nat) (vs : List Value) (a : Act) (t : Nat), sl.contains t = false → (puts a sl vs).tmps.getD t undef = a.tmps.getD t undef
  | [], _, _, _, _ => rfl
  | _ :: _, [], _, _, _ => rfl
  | u :: sl, v :: vs, a, t, h => by
    simp only [List.contains_cons, Bool.or_eq_false_iff, beq_eq_false_iff_ne] at h
    rw [puts, puts_other sl vs _ t h.2, getD_put_ne _ _ _ _ (fun e => h.1 e.symm)]
end Go.Proofs.YtdocjikpcbmcgaaGreatDoor
namespace Go.Proofs.YtdocjikpcbmcgaaGreatDoor
open Go.RowKit
attribute [local go_sem ↓] Go.wp_at_zero Go.wp_at_succ
theorem Tryz.infoS : (Tryz.prog.info? 9).map (fun i => (i.zero, i.size, i.bytes)) = some (some (.string ByteArray.empty), 1, 16) := by kernel_rfl
theorem rds_one (w : World) (s : ByteArray) (hs : s.size ≤ 9223372036854775807) : RdS (w.alloc (.cells #[.string s] 9)) (some ⟨w.heap.size, 0, none⟩) w.heap.size 0 1 [s] :=
  ⟨rfl, fun _ => rfl, range_new w [.string s] 9, fun x hx => by simp at hx; subst hx; exact hs⟩
def OwnS (w : World) (B : Nat) (v : Value) (ss : List ByteArray) : Prop := w.ownsRow B 9 1 v ss.length (ss.map Value.string)
theorem owns_rds {w : World} {B : Nat} {v : Value} {ss : List ByteArray} (h : OwnS w B v ss) (hs : ∀ s ∈ ss, s.size ≤ 9223372036854775807) : ∃ ao b cap, v = .slice ao ss.length cap ∧ RdS w ao b 0 ss.length ss ∧ ss.length ≤ cap ∧ (ao = none → cap = 0) := by
  obtain ⟨h1, h2⟩ := h
  rcases h2 with ⟨hv, h0⟩ | ⟨g, cap, cur, rfl, hg, hh, hc1, hc, hsz, ht⟩
  · have : ss = [] := List.length_eq_zero_iff.1 h0
    subst this
    exact ⟨none, 0, 0, by rw [hv]; rfl, ⟨rfl, fun h => absurd h (Nat.lt_irrefl 0), (fun j v h => by cases h), hs⟩, Nat.le_refl _, fun _ => rfl⟩
  · refine ⟨some ⟨g, 0, none⟩, g, cap, rfl, ⟨rfl, fun _ => rfl, fun j v hj => ?_, hs⟩, hc1, fun h => by cases h⟩
    rw [Nat.zero_add, cell_of_row w g j cur 9 (0, 0) hh]
    rw [← ht, List.getElem?_take] at hj
    split at hj
    · simpa using hj
    · cases hj
theorem wpList_append_S (w : World) {ops : Array Oper} {rest : List Oper} {o : Oper} {a : Act} {Q : Exit → Act → World → Prop}
    (hg : o.guard = none) (s x : Operand) (hop : o.op = Op.call { callee := Callee.builtin Builtin.append, args := #[s, x], argTypes := #[22, 22] })
    (B : Nat) (v : Value) (L : List ByteArray) (hs : a.eval s = v) (hown : OwnS w B v L) (ao : Option Addr) (b off cap : Nat) (M : List ByteArray) (hx : a.eval x = .slice ao M.length cap) (hr : RdS w ao b off M.length M) (hn : ao = none → cap = 0)
    (hlen : L.length + M.length ≤ 8796093022208) (hB : B ≤ w.heap.size)
    (hK : ∀ v' w', OwnS w' B v' (L ++ M) → Below B w w' → wpList Tryz.prog ops Q rest (a.put o.dst v') w') : wpList Tryz.prog ops Q (o :: rest) a w := by
  obtain ⟨i0, hi, hz0, hz1, hz2⟩ := info_parts Tryz.infoS
  have hlt : ∀ k, v.ownBlock = some k → B ≤ k := by
    obtain ⟨_, h2⟩ := hown
    rcases h2 with ⟨rfl, _⟩ | ⟨g, cp, cur, rfl, hg, _⟩
    · intro k hk; cases hk
    · intro k hk; cases hk; exact hg
  cases ao with
  | none =>
    obtain rfl := hn rfl
    have hM : M = [] := by
      cases M with
      | nil => rfl
      | cons m r => exact absurd (hr.ptr (by simp)) (by simp)
    subst hM
    refine wpList_append_own_none hg s x _ hop B 9 i0 1 Tryz.underlying22 hi _ _ _ hs hown hx (hK _ w ?_ (Below.refl _ _))
    rw [List.append_nil]; exact hown
  | some ad =>
    have hnews : ∀ j u, (M.map Value.string)[j]? = some u → w.cell? (ad.add j) = some u := fun j u hu => by
      have hj : j < M.length := by have := (List.getElem?_eq_some_iff.1 hu).1; rwa [List.length_map] at this
      have := Option.some.inj (hr.ptr (by omega))
      subst this
      rw [Addr.add_mid]; exact hr.rng j u hu
    refine wpList_append_own w hg s x _ hop B 9 i0 (.string ByteArray.empty) 1 16 Tryz.underlying22 hi hz0 hz1 hz2 rfl (by decide) _ _ _ hs hown ad M.length cap (M.map Value.string) hx (by simp) hnews (by intro u hu; obtain ⟨y, _, rfl⟩ := List.mem_map.1 hu; rfl) (by unfold maxLen; omega) (by omega) hB ?_
    intro v' w' h1 h2 _
    refine hK v' w' ?_ ((Below.refl _ _).grown h2 hB hlt)
    rw [OwnS, List.length_append, List.map_append]; exact h1
theorem own_al {w : World} {B : Nat} {v : Value} {l : List ByteArray} (h : OwnS w B v l) (o : Obj) : OwnS (w.alloc o) B v l := by
  obtain ⟨h1, h2⟩ := h
  refine ⟨h1, ?_⟩
  rcases h2 with h2 | ⟨g, cap, cur, rfl, hg, hh, r⟩
  · exact .inl h2
  · exact .inr ⟨g, cap, cur, rfl, hg, by rw [Below.heap_alloc _ _ _ (Array.getElem?_eq_some_iff.1 hh).1]; exact hh, r⟩
theorem own_next {w W : World} {B B' : Nat} {v : Value} {l : List ByteArray} (h : OwnS w B v l) (hb : Below B' w W) (hB : w.heap.size ≤ B') : OwnS W B v l := by
  obtain ⟨h1, h2⟩ := h
  refine ⟨h1, ?_⟩
  rcases h2 with h2 | ⟨g, cap, cur, rfl, hg, hh, r⟩
  · exact .inl h2
  · exact .inr ⟨g, cap, cur, rfl, hg, by rw [hb.block g (Nat.lt_of_lt_of_le (Array.getElem?_eq_some_iff.1 hh).1 hB)]; exact hh, r⟩
theorem own_form {w : World} {B : Nat} {v : Value} {l : List ByteArray} (h : OwnS w B v l) (h0 : 0 < l.length) : ∃ g cap, v = .slice (some ⟨g, 0, none⟩) l.length cap ∧ B ≤ g ∧ l.length ≤ cap ∧ cap ≤ maxLen := by
  obtain ⟨h1, h2⟩ := h
  rcases h2 with ⟨_, h2⟩ | ⟨g, cap, cur, hv, hg, _, hc, hm, _⟩
  · omega
  · exact ⟨g, cap, hv, hg, hc, hm⟩
theorem own_cell {w : World} {B g n cap : Nat} {l : List ByteArray} (h : OwnS w B (.slice (some ⟨g, 0, none⟩) n cap) l) {j : Nat} (hj : j < l.length) : w.cell? ⟨g, j, none⟩ = some (.string (l.getD j ByteArray.empty)) ∧ w.frozen? ⟨g, j, none⟩ = false := by
  obtain ⟨h1, h2⟩ := h
  rcases h2 with ⟨h2, _⟩ | ⟨g', cap', cur, hv, hg, hh, hc, hm, hz, ht⟩
  · cases h2
  · obtain ⟨e1, e2, e3⟩ := Value.slice.inj hv
    cases e1
    refine ⟨?_, frozen_of_row w g j cur 9 hh⟩
    rw [cell_of_row w g j cur 9 (0, 0) hh]
    have : (cur.toList.take (l.length * 1))[j]? = some (.string (l.getD j ByteArray.empty)) := by
      rw [ht]; simp [List.getElem?_eq_getElem hj, List.getD_eq_getElem?_getD]
    rw [List.getElem?_take_of_lt (by omega)] at this
    simpa using this
theorem owns_nil (w : World) (B : Nat) : OwnS w B (.slice none 0 0) [] := ⟨rfl, .inl ⟨rfl, rfl⟩⟩
end Go.Proofs.YtdocjikpcbmcgaaGreatDoor
