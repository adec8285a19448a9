/-
  The reference's forest: New, Size, Digest, Digests. Own work.
-/
import Derived.Test.YtabdobdopcfllaaDoorFRefA
namespace Go.Proofs.YtabdobdopcfllaaDoor
open Go.RowKit
open Mm (Fam OwnV dv Apart)
attribute [local go_sem ↓] Go.wp_at_zero Go.wp_at_succ
/-- The levels of a list's nodes. -/
def lvl (c : Nat) (L : List ByteArray) (H : Nat) : List (List ByteArray) := (List.range H).map fun h => rowN c L h (L.length / 2 ^ h)
theorem lvl_at (c : Nat) (L : List ByteArray) {H i : Nat} (h : i < H) : (lvl c L H).getD i [] = rowN c L i (L.length / 2 ^ i) := by simp [lvl, List.getD_eq_getElem?_getD, h]
/-- The reference's forest of the items L. -/
structure Rf (w : World) (B q : Nat) (K : Int) (L : List ByteArray) (gA cA : Nat) (vs : List Value) : Prop where
  lv : Lv w B q K gA cA vs (lvl (clk K) L vs.length)
  top : L.length < 2 ^ vs.length
  h1 : 1 ≤ vs.length
  h2 : vs.length ≤ 17
  k1 : 1 ≤ K
  k2 : K ≤ 32
  hn : L.length ≤ 65536
section
variable {w w' : World} {B q gA cA : Nat} {K : Int} {L : List ByteArray} {vs : List Value}
theorem Rf.next (h : Rf w B q K L gA cA vs) (hb : Below w.heap.size w w') : Rf w' B q K L gA cA vs := ⟨h.lv.next hb, h.top, h.h1, h.h2, h.k1, h.k2, h.hn⟩
theorem Rf.same (h : Rf w B q K L gA cA vs) (hs : ∀ b, Foot q gA vs b → w'.heap[b]? = w.heap[b]?) : Rf w' B q K L gA cA vs := ⟨h.lv.same hs, h.top, h.h1, h.h2, h.k1, h.k2, h.hn⟩
/-- A level: its list. -/
theorem Rf.level (h : Rf w B q K L gA cA vs) {i : Nat} (hi : i < vs.length) : ∃ ao c, vs.getD i dv = .slice ao (L.length / 2 ^ i) c ∧ OwnS w B (.slice ao (L.length / 2 ^ i) c) (rowN (clk K) L i (L.length / 2 ^ i)) ∧ w.cell? ⟨gA, i, none⟩ = some (.slice ao (L.length / 2 ^ i) c) := by
  have ho := h.lv.fam.own i hi
  rw [lvl_at _ _ hi] at ho
  obtain ⟨ao, m, c, e⟩ := Mm.own_slice ho
  rw [e] at ho
  have hm := Mm.ownS_len ho
  rw [rowN_len] at hm
  subst hm
  have hc := (h.lv.at hi).1
  rw [e] at hc
  exact ⟨ao, c, e, ho, hc⟩
end
theorem refnew_ok (w : World) (k : Int) (h1 : 1 ≤ k) (h2 : k ≤ 32) :
    Calls Tryd.prog 28 #[.int .i64 k] w fun e w' => e = .returned (.tuple #[.pointer (some ⟨w.heap.size + 1, 0, none⟩), .int .i64 0]) ∧ Rf w' w.heap.size (w.heap.size + 1) k [] w.heap.size 1 [dv] ∧ Below w.heap.size w w' := by
  have e1 : decide (k < 1) = false := decide_eq_false (by omega)
  have e2 : decide (32 < k) = false := decide_eq_false (by omega)
  have HK := hide (And.intro h1 h2)
  clear h1 h2
  go_enter Tryd.func28, Tryd.ntmps28
  go_wp2
  go_ret2
  have hb := bal (bal (Below.refl w.heap.size w) (.cells #[.slice none 0 0] 31)) (.cells #[.int .i64 k, .slice (some ⟨w.heap.size, 0, none⟩) 1 1] 100)
  have hq := heap_alloc_new (w.alloc (.cells #[.slice none 0 0] 31)) (.cells #[.int .i64 k, .slice (some ⟨w.heap.size, 0, none⟩) 1 1] 100)
  have hg : ((w.alloc (.cells #[.slice none 0 0] 31)).alloc (.cells #[.int .i64 k, .slice (some ⟨w.heap.size, 0, none⟩) 1 1] 100)).heap[w.heap.size]? = some (.cells #[.slice none 0 0] 31 (0, 0)) := by
    rw [(MapKept.heap_alloc _ _).2 w.heap.size (by simp)]
    exact heap_alloc_new w _
  rw [World.size_alloc] at hq
  refine ⟨rfl, ⟨⟨hq, ⟨rfl, .inr ⟨w.heap.size, 1, _, rfl, Nat.le_refl _, hg, Nat.le_refl _, by unfold maxLen; omega, rfl, rfl⟩⟩, ⟨rfl, fun i hi => ?_, fun i j hi hj hne => ?_⟩, by omega⟩, by decide, by decide, by decide, HK.out.1, HK.out.2, by decide⟩, hb⟩
  · have : i = 0 := by simpa using hi
    subst this
    exact owns_nil _ _
  · simp at hi hj
    omega
theorem refnew_no (w : World) (k : Int) (hk : k < 1 ∨ 32 < k) :
    Calls Tryd.prog 28 #[.int .i64 k] w fun e w' => e = .returned (.tuple #[.pointer none, .int .i64 70]) ∧ Below w.heap.size w w' := by
  by_cases h1 : k < 1
  · have e1 : decide (k < 1) = true := decide_eq_true h1
    clear hk h1
    go_enter Tryd.func28, Tryd.ntmps28
    go_wp2
    go_ret2
    exact ⟨rfl, Below.refl _ _⟩
  · have e1 : decide (k < 1) = false := decide_eq_false h1
    have e2 : decide (32 < k) = true := decide_eq_true (by omega)
    clear hk h1
    go_enter Tryd.func28, Tryd.ntmps28
    go_wp2
    go_ret2
    exact ⟨rfl, Below.refl _ _⟩
theorem refsize_any (w : World) (B q : Nat) (K : Int) (L : List ByteArray) (gA cA : Nat) (vs : List Value) (h : Rf w B q K L gA cA vs) :
    Calls Tryd.prog 52 #[.pointer (some ⟨q, 0, none⟩)] w fun e w' => e = .returned (.int .u64 (L.length : Int)) ∧ Below w.heap.size w w' := by
  obtain ⟨_, c1, _⟩ := h.lv.cells
  obtain ⟨ao, c, _, _, hc⟩ := h.level (i := 0) h.h1
  rw [Nat.pow_zero, Nat.div_one] at hc
  have hpos : (0 : Int) < (vs.length : Int) := by have := h.h1; omega
  have ew : IntKind.u64.wrap (L.length : Int) = (L.length : Int) := u64_id _ (by omega) (by have := h.hn; omega)
  clear h
  go_enter Tryd.func52, Tryd.ntmps52
  go_wp2
  go_ret
  exact ⟨rfl, Below.refl _ _⟩
set_option maxRecDepth 100000 in
set_option maxHeartbeats 1000000 in
theorem refdigest_any (w : World) (B q : Nat) (K : Int) (L : List ByteArray) (gA cA : Nat) (vs : List Value) (h : Rf w B q K L gA cA vs) (hh : Int) (b : Nat) (hf : Fitb hh b) (s : ByteArray) (ok : Bool) (hs : Hid ((ff (clk K) L hh b).getD ByteArray.empty = s ∧ (ff (clk K) L hh b).isSome = ok)) :
    Calls Tryd.prog 47 #[.pointer (some ⟨q, 0, none⟩), .agg #[.int .i64 hh, .int .u64 (b : Int)]] w fun e w' => e = .returned (.tuple #[.string s, .bool ok]) ∧ Below w.heap.size w w' := by
  by_cases h0 : hh < 0
  · have hno : ff (clk K) L hh b = none := by rw [ff, if_neg (fun x => by omega)]
    have hs2 := hs.out
    rw [hno] at hs2
    obtain ⟨rfl, rfl⟩ := hs2
    have hd : decide (hh < 0) = true := decide_eq_true h0
    clear hs hno h0 hf
    have hb := bal (Below.refl w.heap.size w) (.cells #[.int .i64 hh, .int .u64 (b : Int)] 49)
    go_enter Tryd.func47, Tryd.ntmps47
    go_upto_region 1 with (fail)
    go_quiet (fail)
    go_wp2
    go_ret2
    exact ⟨rfl, below_drewN hb _⟩
  · obtain ⟨i, rfl⟩ : ∃ i : Nat, hh = (i : Int) := ⟨hh.toNat, by omega⟩
    have hb := bal (Below.refl w.heap.size w) (.cells #[.int .i64 (i : Int), .int .u64 (b : Int)] 49)
    have hN := h.next hb
    obtain ⟨_, c1, _⟩ := hN.lv.cells
    have hd : decide ((i : Int) < 0) = false := decide_eq_false (by omega)
    have hi0 : (0 : Int) ≤ (i : Int) := Int.natCast_nonneg _
    have x0 : (w.alloc (.cells #[.int .i64 (i : Int), .int .u64 (b : Int)] 49)).cell? ⟨w.heap.size, 0, none⟩ = some (.int .i64 (i : Int)) := by simp
    have x1 : (w.alloc (.cells #[.int .i64 (i : Int), .int .u64 (b : Int)] 49)).cell? ⟨w.heap.size, 1, none⟩ = some (.int .u64 (b : Int)) := by simp
    by_cases hi : i < vs.length
    · obtain ⟨ao, c, _, ho, hc⟩ := hN.level hi
      have hl : ¬ vs.length ≤ i := by omega
      have hl2 : (i : Int) < (vs.length : Int) := by omega
      obtain ⟨m, hm⟩ : ∃ m, L.length / 2 ^ i = m := ⟨_, rfl⟩
      rw [hm] at ho hc
      have hm9 : m ≤ 65536 := by rw [← hm]; exact Nat.le_trans (Nat.div_le_self _ _) h.hn
      have ew : IntKind.u64.wrap (m : Int) = (m : Int) := u64_id _ (by omega) (by omega)
      by_cases hb2 : b < m
      · have hin := within.1 (show b < L.length / 2 ^ i by rw [hm]; exact hb2)
        have hs2 := hs.out
        rw [ff_nat _ _ _ _ hin] at hs2
        obtain ⟨rfl, rfl⟩ := hs2
        obtain ⟨g, rfl⟩ := Mm.ownS_some ho (by rw [rowN_len]; omega)
        have cc := (own_cell ho (j := b) (by rw [rowN_len]; exact hb2)).1
        rw [rowN_at _ _ _ _ hb2] at cc
        have hd2 : ¬ m ≤ b := by omega
        have hd3 : (b : Int) < (m : Int) := by omega
        have hb0 : (0 : Int) ≤ (b : Int) := Int.natCast_nonneg _
        rw [Option.getD_some, Option.isSome_some]
        clear hs h hN ho hf hin hb2 hi h0 hm
        generalize nd (clk K) L i b = d at *
        go_enter Tryd.func47, Tryd.ntmps47
        go_upto_region 1 with (fail)
        generalize w.alloc (.cells #[.int .i64 (i : Int), .int .u64 (b : Int)] 49) = w1 at *
        go_quiet (fail)
        go_upto_region 3 with (fail)
        go_quiet (fail)
        go_wp2
        go_ret2
        exact ⟨rfl, below_drewN (below_drewN hb _) _⟩
      · have hno : ¬ (b + 1) * 2 ^ i ≤ L.length := fun e => hb2 (by rw [← hm]; exact within.2 e)
        have hs2 := hs.out
        rw [ff_no _ _ _ _ hno] at hs2
        obtain ⟨rfl, rfl⟩ := hs2
        have hd2 : m ≤ b := by omega
        rw [Option.getD_none, Option.isSome_none]
        clear hs h hN ho hf hno hb2 hi h0 hm
        go_enter Tryd.func47, Tryd.ntmps47
        go_upto_region 1 with (fail)
        go_quiet (fail)
        go_wp2
        go_ret2
        exact ⟨rfl, below_drewN hb _⟩
    · have hno : ¬ (b + 1) * 2 ^ i ≤ L.length := fun e => by
        have h2 : 2 ^ vs.length ≤ 2 ^ i := Nat.pow_le_pow_right (by decide) (by omega)
        have h3 : 2 ^ i ≤ (b + 1) * 2 ^ i := Nat.le_mul_of_pos_left _ (by omega)
        have := h.top
        omega
      have hs2 := hs.out
      rw [ff_no _ _ _ _ hno] at hs2
      obtain ⟨rfl, rfl⟩ := hs2
      have hl : vs.length ≤ i := by omega
      rw [Option.getD_none, Option.isSome_none]
      clear hs h hN hf hno hi h0
      go_enter Tryd.func47, Tryd.ntmps47
      go_upto_region 1 with (fail)
      go_quiet (fail)
      go_wp2
      go_ret2
      exact ⟨rfl, below_drewN hb _⟩
set_option maxRecDepth 100000 in
set_option maxHeartbeats 1000000 in
theorem refdigests_any (w : World) (B q : Nat) (K : Int) (L : List ByteArray) (gA cA : Nat) (vs : List Value) (hF : Rf w B q K L gA cA vs) (ao : Option Addr) (g off cap : Nat) (Bs : List (Int × Nat)) (hr : RdB w ao g off Bs.length Bs) (hmx : Bs.length ≤ 8796093021952) :
    Calls Tryd.prog 49 #[.pointer (some ⟨q, 0, none⟩), .slice ao Bs.length cap] w fun e w' => Below w.heap.size w w' ∧ ((dgs (clk K) L Bs = none ∧ e = .returned (.tuple #[.slice none 0 0, .bool false])) ∨ (∃ D, dgs (clk K) L Bs = some D ∧ ∃ v, e = .returned (.tuple #[v, .bool true]) ∧ OwnS w' w.heap.size v D)) := by
  have HF : Hid (∀ W, Below w.heap.size w W → Rf W B q K L gA cA vs ∧ RdB W ao g off Bs.length Bs) := fun W hb => ⟨hF.next hb, hr.below hb⟩
  have HX := hide hmx
  have h63 : (Bs.length : Int) ≤ 9223372036854775807 := by omega
  clear hF hr hmx
  go_enter Tryd.func49, Tryd.ntmps49
  go_wp2
  go_loopg [6, 7] Bs.length (fun g v i wr => ∃ (j : Nat) (A : List ByteArray), j ≤ Bs.length ∧ g = Bs.length - j ∧ i = .int .i64 (j : Int) ∧ A.length = j ∧ Hid (dgs (clk K) L (Bs.take j) = some A) ∧ OwnS wr w.heap.size v A ∧ Below w.heap.size w wr)
  case atStart =>
    go_light
    exact ⟨0, [], Nat.zero_le _, rfl, rfl, rfl, rfl, owns_nil _ _, Below.refl _ _⟩
  case round =>
    obtain ⟨j, A, hj, rfl, rfl, hA, HE, ho, hb⟩ := hrel
    by_cases hlt : j < Bs.length
    · have hz : (j : Int) < (Bs.length : Int) := by omega
      have hz0 : (0 : Int) ≤ (j : Int) := Int.natCast_nonneg _
      obtain rfl := (HF.out wr hb).2.addr (by omega)
      obtain ⟨c0, c1⟩ := (HF.out wr hb).2.cell j hlt
      obtain ⟨⟨h, kk⟩, hx⟩ : ∃ x, Bs.getD j (0, 0) = x := ⟨_, rfl⟩
      rw [hx] at c0 c1
      have hmem : (h, kk) ∈ Bs := by rw [← hx, List.getD_eq_getElem?_getD, List.getElem?_eq_getElem hlt]; exact List.getElem_mem _
      have htk : Bs.take (j + 1) = Bs.take j ++ [(h, kk)] := by
        rw [List.take_add_one, ← hx, List.getD_eq_getElem?_getD, List.getElem?_eq_getElem hlt]; rfl
      have hfit := (HF.out wr hb).2.fit _ hmem
      cases hv : ff (clk K) L h kk with
      | none =>
        have HD : Hid (∀ W, Below w.heap.size w W → Calls Tryd.prog 47 #[.pointer (some ⟨q, 0, none⟩), .agg #[.int .i64 h, .int .u64 (kk : Int)]] W fun e w' => e = .returned (.tuple #[.string ⟨#[]⟩, .bool false]) ∧ Below W.heap.size W w') := fun W hb =>
          refdigest_any W B q K L gA cA vs (HF.out W hb).1 h kk hfit ⟨#[]⟩ false (by show _ ∧ _; rw [hv]; exact ⟨rfl, rfl⟩)
        have HN : Hid (dgs (clk K) L Bs = none) := dgs_none (b := (h, kk)) hv hmem
        clear HE HF hx hmem htk hfit hv ho hlt hA
        go_wp2_with (go_at_call 47; with_reducible refine (HD.out _ hb).mono ?_; rintro e w1 ⟨rfl, hb1⟩)
        go_ret2
        exact ⟨bnext hb hb1, .inl ⟨HN.out, rfl⟩⟩
      | some x =>
        have HD : Hid (∀ W, Below w.heap.size w W → Calls Tryd.prog 47 #[.pointer (some ⟨q, 0, none⟩), .agg #[.int .i64 h, .int .u64 (kk : Int)]] W fun e w' => e = .returned (.tuple #[.string x, .bool true]) ∧ Below W.heap.size W w') := fun W hb =>
          refdigest_any W B q K L gA cA vs (HF.out W hb).1 h kk hfit x true (by show _ ∧ _; rw [hv]; exact ⟨rfl, rfl⟩)
        have HN : Hid (dgs (clk K) L (Bs.take (j + 1)) = some (A ++ [x])) := by rw [htk]; exact dgs_app hv HE.out
        have HZ : Hid (x.size ≤ 9223372036854775807) := by show x.size ≤ _; rw [ff_size (clk_le K) hv]; have := clk_le K; omega
        have HO := hide ho
        have HA := hide hA
        clear HE HF hx hmem htk hfit hv ho hA
        go_wp2_with (first
          | (go_at_call 47; with_reducible refine (HD.out _ hb).mono ?_; rintro e w1 ⟨rfl, hb1⟩)
          | (at_builtin; refine wpList_append_S _ rfl _ _ rfl w.heap.size _ A rfl (own_al (own_next HO.out hb1 (Nat.le_refl _)) _) (some ⟨w1.heap.size, 0, none⟩) w1.heap.size 0 1 [x] rfl (rds_one w1 x HZ.out) (fun h => by cases h) ?c1 ?c2 ?_))
        case c1 => have := HX.out; have := HA.out; simp; omega
        case c2 => have := (bnext hb hb1).size; simp; omega
        intro v2 w3 h3 hb3
        have HY : Hid (OwnS w3 w.heap.size v2 (A ++ [x]) ∧ Below w.heap.size w w3) := ⟨h3, (bal (bnext hb hb1) _).trans hb3⟩
        clear h3 hb3 hb1 hb
        go_wp2
        go_roundg (Bs.length - (j + 1))
        case rel =>
          go_light
          exact ⟨j + 1, A ++ [x], by omega, rfl, by go_num, by have := HA.out; simp; omega, HN, HY.out.1, HY.out.2⟩
        case measure => go_light; omega
    · obtain rfl : j = Bs.length := by omega
      have hz : ¬ ((Bs.length : Int) < (Bs.length : Int)) := by omega
      have HN : Hid (dgs (clk K) L Bs = some A) := by have := HE.out; rwa [List.take_length] at this
      clear HE hlt HF
      go_wp2
      go_ret2
      exact ⟨hb, .inr ⟨A, HN.out, _, rfl, ho⟩⟩
end Go.Proofs.YtabdobdopcfllaaDoor
