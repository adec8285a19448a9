/-
  The statements' own functions: a case's forest, its items. Own work.
-/
import Derived.Test.YtnbejijpmeklaaaDoorBWalkF
import Derived.Test.YtnbejijpmeklaaaDoorHRefB
namespace Go.Proofs.YtnbejijpmeklaaaDoor
open Go.RowKit
open Cv (RdC zl cU)
attribute [local go_sem ↓] Go.wp_at_zero Go.wp_at_succ
/-- The items that are taken. -/
def tk (l : List ByteArray) : List ByteArray := l.filter fun s => decide (s.size ≤ 1048576)
theorem tk_len (l : List ByteArray) : (tk l).length ≤ l.length := List.length_filter_le _ _
theorem tk_size (l : List ByteArray) : ∀ s ∈ tk l, s.size ≤ 1048576 := fun s hs => by
  have := (List.mem_filter.1 hs).2
  simpa using this
theorem tk_yes (l : List ByteArray) (s : ByteArray) (h : s.size ≤ 1048576) : tk (l ++ [s]) = tk l ++ [s] := by simp [tk, h]
theorem tk_no (l : List ByteArray) (s : ByteArray) (h : 1048576 < s.size) : tk (l ++ [s]) = tk l := by simp [tk, h]
theorem tk_self {l : List ByteArray} (h : ∀ s ∈ l, s.size ≤ 1048576) : tk l = l := List.filter_eq_self.2 fun s hs => by simpa using h s hs
theorem take_next {ss : List ByteArray} {j : Nat} (h : j < ss.length) : ss.take (j + 1) = ss.take j ++ [ss.getD j ByteArray.empty] := by
  rw [List.take_add_one, List.getD_eq_getElem?_getD, List.getElem?_eq_getElem h]; rfl
abbrev vC (k : Int) (vl : Value) (n : Nat) (vs : Value) : Value := .agg #[.int .i64 k, vl, .int .u64 (n : Int), vs]
abbrev oC (k : Int) (vl : Value) (n : Nat) (vs : Value) : Obj := .cells #[.int .i64 k, vl, .int .u64 (n : Int), vs] 26
theorem four_cells {w : World} {p : Nat} {a b c d : Value} (h : w.heap[p]? = some (.cells #[a, b, c, d] 26 (0, 0))) : w.cell? ⟨p, 0, none⟩ = some a ∧ w.cell? ⟨p, 1, none⟩ = some b ∧ w.cell? ⟨p, 2, none⟩ = some c ∧ w.cell? ⟨p, 3, none⟩ = some d :=
  ⟨by rw [cell_of_row w p 0 _ _ (0, 0) h]; rfl, by rw [cell_of_row w p 1 _ _ (0, 0) h]; rfl, by rw [cell_of_row w p 2 _ _ (0, 0) h]; rfl, by rw [cell_of_row w p 3 _ _ (0, 0) h]; rfl⟩
set_option maxRecDepth 100000 in
theorem cforest_no (w : World) (k : Int) (hk : k < 1 ∨ 32 < k) (la : Option Addr) (ll lc n : Nat) (sa : Option Addr) (sn sc : Nat) :
    Calls Tryd.prog 9 #[vC k (.slice la ll lc) n (.slice sa sn sc)] w fun e w' => e = .returned (.pointer none) ∧ Below w.heap.size w w' := by
  have hb := bal (Below.refl w.heap.size w) (oC k (.slice la ll lc) n (.slice sa sn sc))
  have HN := fnew_no (w.alloc (oC k (.slice la ll lc) n (.slice sa sn sc))) k hk
  unfold oC at hb HN
  clear hk
  go_enter Tryd.func9, Tryd.ntmps9
  go_wp2_with (go_at_call 24; with_reducible refine HN.mono ?_; rintro e w1 ⟨rfl, hb1⟩)
  go_ret
  exact ⟨rfl, bnext hb hb1⟩
set_option maxRecDepth 100000 in
set_option maxHeartbeats 1000000 in
theorem cforest_ok (w : World) (ht : Tb w) (k : Int) (k1 : 1 ≤ k) (k2 : k ≤ 32) (la : Option Addr) (lb lo ll lc : Nat) (L : List ByteArray) (hr : RdS w la lb lo ll L) (hmx : ll ≤ 8796093022208) (n : Nat) (sa : Option Addr) (sn sc : Nat) (T : List ByteArray) (hT : tk (L.take 300) = T) :
    Calls Tryd.prog 9 #[vC k (.slice la ll lc) n (.slice sa sn sc)] w fun e w' => ∃ m, e = .returned (.pointer (some ⟨m + 1, 0, none⟩)) ∧ Frs w' m k T ∧ Below w.heap.size w w' := by
  obtain rfl := hr.hl
  obtain ⟨o1, ho1⟩ : ∃ o1, oC k (.slice la L.length lc) n (.slice sa sn sc) = o1 := ⟨_, rfl⟩
  have hb := bal (Below.refl w.heap.size w) o1
  have e1 := heap_alloc_new w o1
  have HN := fnew_ok (w.alloc o1) k k1 k2
  have hsz : (w.alloc o1).heap.size = w.heap.size + 1 := World.size_alloc ..
  rw [hsz] at HN
  have HT0 : Hid (∀ W, Below (w.heap.size + 1) (w.alloc o1) W → Tb W ∧ RdS W la lb lo L.length L ∧ W.cell? ⟨w.heap.size, 1, none⟩ = some (.slice la L.length lc) ∧ Below w.heap.size w W) := fun W hW => by
    have hbW : Below w.heap.size w W := hb.trans (hW.mono (Nat.le_succ _))
    rw [← ho1] at e1
    exact ⟨ht.next hbW, hr.next hbW (Nat.le_refl _), (four_cells ((hW.block w.heap.size (Nat.lt_succ_self _)).trans (by rw [← ho1]; exact e1))).2.1, hbW⟩
  have HX := hide hT
  have h63 : (L.length : Int) ≤ 8796093022208 := by omega
  obtain ⟨c0, _, _, _⟩ := four_cells (show (w.alloc o1).heap[w.heap.size]? = _ by rw [e1, ← ho1])
  obtain ⟨W1, hW1⟩ : ∃ W1, w.alloc o1 = W1 := ⟨_, rfl⟩
  rw [hW1] at HN HT0 c0 hb hsz
  rw [← ho1] at hW1
  have HS := hide hsz
  clear ht hr hmx k1 k2 hT e1 ho1 hsz
  go_enter Tryd.func9, Tryd.ntmps9
  go_wp2_with (go_at_call 24; with_reducible refine HN.mono ?_; rintro e w1 ⟨rfl, hF1, hb1⟩)
  have HF1 := hide (And.intro hF1 hb1)
  clear hF1 HN hb1 c0 hW1
  go_loopg [5] (min L.length 300) (fun g i wr => ∃ j : Nat, j ≤ L.length ∧ j ≤ 300 ∧ g = min L.length 300 - j ∧ i = .int .i64 (j : Int) ∧ Hid (Frs wr (w.heap.size + 1) k (tk (L.take j))) ∧ Hid (Below (w.heap.size + 1) W1 wr))
  case atStart =>
    go_light
    exact ⟨0, Nat.zero_le _, Nat.zero_le _, rfl, rfl, HF1.out.1, HF1.out.2⟩
  case round =>
    clear HF1
    obtain ⟨j, hj, hj3, rfl, rfl, HA, HB⟩ := hrel
    obtain ⟨hTb, hrd, c1, hbw⟩ := HT0.out wr HB.out
    by_cases hlt : j < L.length
    · have hz : (j : Int) < (L.length : Int) := by omega
      have hz0 : (0 : Int) ≤ (j : Int) := Int.natCast_nonneg _
      by_cases hl3 : j < 300
      · have hz3 : (j : Int) < 300 := by omega
        obtain rfl := hrd.ptr (by omega)
        have cj := hrd.at hlt
        obtain ⟨x, hx⟩ : ∃ x, L.getD j ByteArray.empty = x := ⟨_, rfl⟩
        have htn := take_next hlt
        rw [hx] at cj htn
        have hL : (tk (L.take j)).length < 65536 := by have := tk_len (L.take j); rw [List.length_take] at this; omega
        obtain ⟨t, hT⟩ : ∃ t, tr 64 ((tk (L.take j)).length + 1) = t := ⟨_, rfl⟩
        have HAp : Hid (Calls Tryd.prog 25 #[.pointer (some ⟨w.heap.size + 1 + 1, 0, none⟩), .string x] wr fun e w' => ∃ v x, e = .returned (.tuple #[v, .int .i64 x]) ∧ Frs w' (w.heap.size + 1) k (tk (L.take (j + 1))) ∧ Below (w.heap.size + 1) W1 w') := by
          by_cases hxs : x.size ≤ 1048576
          · exact (fappend_ok wr hTb (w.heap.size + 1) k (tk (L.take j)) HA.out x hxs hL t hT).mono fun e w' ⟨v, e1, e2, e3, e4⟩ => ⟨v, 0, e1, by rw [htn, tk_yes _ _ hxs]; exact e2, HB.out.trans e4.below⟩
          · exact (fappend_long wr (w.heap.size + 1) x (by omega)).mono fun e w' ⟨e1, e2⟩ => ⟨_, 100, e1, by rw [htn, tk_no _ _ (by omega), e2]; exact HA.out, by rw [e2]; exact HB.out⟩
        clear hx htn hL hT hTb hrd HB HA
        go_wp2_with (go_at_call 25; with_reducible refine HAp.out.mono ?_; rintro e w2 ⟨v, y, rfl, hF2, hb2⟩)
        go_roundg (min L.length 300 - (j + 1))
        case rel =>
          go_light
          exact ⟨j + 1, by omega, by omega, rfl, by go_num, hF2, hb2⟩
        case measure => go_light; omega
      · have hz3 : ¬ (j : Int) < 300 := by omega
        have HY : Hid (Frs wr (w.heap.size + 1) k T ∧ Below w.heap.size w wr) := ⟨by rw [← HX.out, ← show j = 300 by omega]; exact HA.out, hbw⟩
        clear hTb hrd HA HB HX hbw hl3
        go_wp2
        go_ret
        exact ⟨_, rfl, HY.out.1, HY.out.2⟩
    · have hz : ¬ ((j : Int) < (L.length : Int)) := by omega
      have HY : Hid (Frs wr (w.heap.size + 1) k T ∧ Below w.heap.size w wr) := ⟨by
        have e : L.take 300 = L.take j := by rw [List.take_of_length_le (by omega), List.take_of_length_le (by omega)]
        rw [← HX.out, e]; exact HA.out, hbw⟩
      clear hTb hrd HA HB HX hbw hlt
      go_wp2
      go_ret
      exact ⟨_, rfl, HY.out.1, HY.out.2⟩
theorem citems_any (w : World) (k : Int) (la : Option Addr) (ll lc n : Nat) (hc : ll ≤ lc) (sa : Option Addr) (sn sc : Nat) (m : Nat) (hm : min ll 300 = m) :
    Calls Tryd.prog 13 #[vC k (.slice la ll lc) n (.slice sa sn sc)] w fun e w' => e = .returned (.slice la m lc) ∧ Below w.heap.size w w' := by
  have hb := bal (Below.refl w.heap.size w) (oC k (.slice la ll lc) n (.slice sa sn sc))
  unfold oC at hb
  by_cases h : 300 < ll
  · obtain rfl : m = 300 := by omega
    have hz : (300 : Int) < (ll : Int) := by omega
    have hz2 : (300 : Int) ≤ (lc : Int) := by omega
    clear h hm hc
    go_enter Tryd.func13, Tryd.ntmps13
    go_wp2
    go_ret
    exact ⟨rfl, hb⟩
  · obtain rfl : m = ll := by omega
    have hz : ¬ (300 : Int) < (m : Int) := by omega
    clear h hm hc
    go_enter Tryd.func13, Tryd.ntmps13
    go_wp2
    go_ret
    exact ⟨rfl, hb⟩
set_option maxRecDepth 100000 in
set_option maxHeartbeats 1000000 in
theorem cfit_any (w : World) (k : Int) (k1 : 1 ≤ k) (k2 : k ≤ 32) (la : Option Addr) (lb lo ll lc : Nat) (L : List ByteArray) (hr : RdS w la lb lo ll L) (hmx : ll ≤ 8796093022208) (n : Nat) (sa : Option Addr) (sn sc : Nat) (r : Bool) (hq : decide (∀ s ∈ L.take 300, s.size ≤ 1048576) = r) :
    Calls Tryd.prog 10 #[vC k (.slice la ll lc) n (.slice sa sn sc)] w fun e w' => e = .returned (.bool r) ∧ Below w.heap.size w w' := by
  obtain rfl := hr.hl
  obtain ⟨o1, ho1⟩ : ∃ o1, oC k (.slice la L.length lc) n (.slice sa sn sc) = o1 := ⟨_, rfl⟩
  have hb := bal (Below.refl w.heap.size w) o1
  have e1 := heap_alloc_new w o1
  obtain ⟨c0, c1, _, _⟩ := four_cells (show (w.alloc o1).heap[w.heap.size]? = _ by rw [e1, ← ho1])
  have HR := hide (hr.next hb (Nat.le_refl _))
  have HC : Hid (∀ W, Calls Tryd.prog 11 #[.int .i64 k] W fun e w' => e = .returned (.int .i64 0) ∧ W = w') := fun W => by
    have := refcheck_any W k
    rw [show chk k = 0 by rw [chk, if_neg (by omega)]] at this
    exact this.mono fun _ _ h => ⟨h.1, h.2.symm⟩
  have HQ := hide hq
  have h63 : (L.length : Int) ≤ 8796093022208 := by omega
  obtain ⟨W1, hW1⟩ : ∃ W1, w.alloc o1 = W1 := ⟨_, rfl⟩
  rw [hW1] at HR c0 c1 hb
  rw [← ho1] at hW1
  clear hr hmx k1 k2 hq e1 ho1
  go_enter Tryd.func10, Tryd.ntmps10
  go_wp2
  clear hW1
  go_loopg [3] (min L.length 300) (fun g i wr => ∃ j : Nat, j ≤ L.length ∧ j ≤ 300 ∧ g = min L.length 300 - j ∧ i = .int .i64 (j : Int) ∧ Hid (∀ t, t < j → (L.getD t ByteArray.empty).size ≤ 1048576) ∧ W1 = wr)
  case atStart =>
    go_light
    exact ⟨0, Nat.zero_le _, Nat.zero_le _, rfl, rfl, fun t ht => absurd ht (Nat.not_lt_zero _), rfl⟩
  case round =>
    obtain ⟨j, hj, hj3, rfl, rfl, HA, rfl⟩ := hrel
    have fin : ¬ (j < L.length ∧ j < 300) → true = r := fun h => by
      rw [← HQ.out]
      refine (decide_eq_true fun s hs => ?_).symm
      obtain ⟨t, ht, rfl⟩ := List.getElem_of_mem hs
      rw [List.length_take] at ht
      have := HA.out t (by omega)
      rw [List.getD_eq_getElem?_getD, List.getElem?_eq_getElem (by omega)] at this
      rw [List.getElem_take]
      exact this
    by_cases hlt : j < L.length
    · have hz : (j : Int) < (L.length : Int) := by omega
      have hz0 : (0 : Int) ≤ (j : Int) := Int.natCast_nonneg _
      by_cases hl3 : j < 300
      · have hz3 : (j : Int) < 300 := by omega
        obtain rfl := HR.out.ptr (by omega)
        have cj := HR.out.at hlt
        obtain ⟨x, hx⟩ : ∃ x, L.getD j ByteArray.empty = x := ⟨_, rfl⟩
        rw [hx] at cj
        by_cases hxs : x.size ≤ 1048576
        · have hkz : ¬ (1048576 : Int) < (x.size : Int) := by omega
          have HN : Hid (∀ t, t < j + 1 → (L.getD t ByteArray.empty).size ≤ 1048576) := fun t ht => by
            rcases Nat.lt_or_eq_of_le (Nat.le_of_lt_succ ht) with h | rfl
            · exact HA.out t h
            · rw [hx]; exact hxs
          clear hx fin HA hxs
          go_wp2
          go_roundg (min L.length 300 - (j + 1))
          case rel =>
            go_light
            exact ⟨j + 1, by omega, by omega, rfl, by go_num, HN.out, rfl⟩
          case measure => go_light; omega
        · have hkz : (1048576 : Int) < (x.size : Int) := by omega
          obtain rfl : false = r := by
            rw [← HQ.out]
            refine (decide_eq_false fun h => hxs ?_).symm
            rw [← hx]
            refine h _ ?_
            rw [List.getD_eq_getElem?_getD, List.getElem?_eq_getElem hlt]
            exact List.mem_take_iff_getElem.2 ⟨j, by omega, rfl⟩
          clear hx fin HA hxs
          go_wp2
          go_ret
          exact ⟨rfl, hb⟩
      · have hz3 : ¬ (j : Int) < 300 := by omega
        obtain rfl := fin (fun h => hl3 h.2)
        clear fin HA hl3 hlt
        go_wp2_with (go_at_call 11; with_reducible refine (HC.out _).mono ?_; rintro e w1 ⟨rfl, rfl⟩)
        go_ret
        exact ⟨rfl, hb⟩
    · have hz : ¬ ((j : Int) < (L.length : Int)) := by omega
      obtain rfl := fin (fun h => hlt h.1)
      clear fin HA hlt
      go_wp2_with (go_at_call 11; with_reducible refine (HC.out _).mono ?_; rintro e w1 ⟨rfl, rfl⟩)
      go_ret
      exact ⟨rfl, hb⟩
end Go.Proofs.YtnbejijpmeklaaaDoor
