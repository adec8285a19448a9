/-
  Own work: FWalkB, FWalkC.
-/
import Derived.Deep.OwnRows
import Derived.Test.YtipcenbndhnnhaaGreatDoorQd11
namespace Go.Proofs.YtipcenbndhnnhaaGreatDoor
open Go.RowKit
attribute [local go_sem ↓] Go.wp_at_zero Go.wp_at_succ
theorem make_S (w : World) (n : Nat) (hn : n ≤ 8796093022208) : (Instr.makeSlice 22 (.int .i64 0) (.int .i64 (n : Int))).run Tryz.prog w = .ok (.slice (some ⟨w.heap.size, 0, none⟩) 0 n) (w.alloc (.cells (madeCells #[.string ByteArray.empty] n) 9)) := by
  obtain ⟨i0, hi, hz0, hz1, hz2⟩ := info_parts Tryz.infoS
  have hr := run_make (P := Tryz.prog) w 22 9 i0 _ Tryz.underlying22 hi hz0 .i64 .i64 0 n (by omega) (by omega) (by rw [hz2]; omega) (by omega)
  simp only [Int.toNat_natCast, hz1, Nat.mul_one] at hr
  exact hr
theorem own_made (w : World) (n : Nat) (hn : n ≤ 8796093022208) : OwnS (w.alloc (.cells (madeCells #[.string ByteArray.empty] n) 9)) w.heap.size (.slice (some ⟨w.heap.size, 0, none⟩) 0 n) [] :=
  ⟨rfl, .inr ⟨w.heap.size, n, _, rfl, Nat.le_refl _, heap_alloc_new w _, Nat.zero_le _, by unfold maxLen; omega, by rw [size_madeCells, Nat.mul_one], rfl⟩⟩
structure RdB (w : World) (ao : Option Addr) (g off n : Nat) (l : List (Int × Nat)) : Prop where
  len : l.length = n
  addr : 0 < n → ao = some ⟨g, off, none⟩
  cell : ∀ j, j < n → w.cell? ⟨g, off + j * 2, none⟩ = some (.int .i64 (l.getD j (0, 0)).1) ∧ w.cell? ⟨g, off + j * 2 + 1, none⟩ = some (.int .u64 ((l.getD j (0, 0)).2 : Nat))
  fit : ∀ b ∈ l, Fitb b.1 b.2
theorem RdB.below {w w' : World} {ao : Option Addr} {g off n : Nat} {l : List (Int × Nat)} (r : RdB w ao g off n l) (h : Below w.heap.size w w') : RdB w' ao g off n l :=
  ⟨r.len, r.addr, fun j hj => ⟨(h.cell (p := ⟨g, off + j * 2, none⟩) (World.block_lt_of_cell? w _ (r.cell j hj).1)).trans (r.cell j hj).1, (h.cell (p := ⟨g, off + j * 2 + 1, none⟩) (World.block_lt_of_cell? w _ (r.cell j hj).2)).trans (r.cell j hj).2⟩, r.fit⟩
theorem own_rdB {w : World} {base : Nat} {v : Value} {l : List (Int × Nat)} (h : Cv.OwnB w base v l) (hf : ∀ b ∈ l, Fitb b.1 b.2) : ∃ ao g n cap, v = .slice ao n cap ∧ RdB w ao g 0 n l ∧ n ≤ maxLen := by
  have h0 := h
  obtain ⟨h1, h2⟩ := h
  rcases h2 with ⟨rfl, h2⟩ | ⟨g, cap, cur, rfl, hg, hh, hc1, hc2, hc3, hc4⟩
  · exact ⟨none, 0, 0, 0, rfl, ⟨h2, fun h => absurd h (by omega), fun j hj => absurd hj (by omega), hf⟩, Nat.zero_le _⟩
  · refine ⟨some ⟨g, 0, none⟩, g, l.length, cap, rfl, ⟨rfl, fun _ => rfl, fun j hj => ?_, hf⟩, by omega⟩
    have hcl := h0.cells (g := g) rfl
    obtain ⟨⟨a, b⟩, hq⟩ : ∃ q, l[j] = q := ⟨_, rfl⟩
    have hget : l[j]? = some (a, b) := by rw [List.getElem?_eq_getElem hj, hq]
    obtain ⟨e1, e2⟩ := Cv.cB_get l j a b hget
    have f1 := hcl _ _ e1
    have f2 := hcl _ _ e2
    rw [Addr.add_mid, Nat.zero_add, Nat.mul_comm] at f1 f2
    rw [List.getD_eq_getElem?_getD, hget, Nat.zero_add]
    exact ⟨f1, f2⟩
def dgs (c : Nat) (L : List ByteArray) : List (Int × Nat) → Option (List ByteArray)
  | [] => some []
  | b :: r => (ff c L b.1 b.2).bind fun x => (dgs c L r).map fun A => x :: A
theorem dgs_app {c : Nat} {L : List ByteArray} {h : Int} {k : Nat} {x : ByteArray} (hx : ff c L h k = some x) : ∀ {B : List (Int × Nat)} {A : List ByteArray}, dgs c L B = some A → dgs c L (B ++ [(h, k)]) = some (A ++ [x])
  | [], A, e => by
    simp [dgs] at e
    subst e
    simp [dgs, hx]
  | b :: r, A, e => by
    rw [dgs] at e
    obtain ⟨y, hy, e⟩ := Option.bind_eq_some_iff.1 e
    obtain ⟨A', hA, rfl⟩ := Option.map_eq_some_iff.1 e
    rw [List.cons_append, dgs, hy, dgs_app hx hA]
    rfl
theorem dgs_none {c : Nat} {L : List ByteArray} {b : Int × Nat} (hb : ff c L b.1 b.2 = none) : ∀ {B : List (Int × Nat)}, b ∈ B → dgs c L B = none
  | [], h => by cases h
  | d :: r, h => by
    rw [dgs]
    rcases List.mem_cons.1 h with rfl | h
    · rw [hb]; rfl
    · rw [dgs_none hb h]
      cases ff c L d.1 d.2 <;> rfl
theorem dgs_all {c : Nat} {L : List ByteArray} : ∀ {B : List (Nat × Nat)}, (∀ b ∈ B, (b.2 + 1) * 2 ^ b.1 ≤ L.length) → dgs c L (Cv.zl B) = some (B.map fun b => nd c L b.1 b.2)
  | [], _ => rfl
  | b :: r, h => by
    show dgs c L (((b.1 : Int), b.2) :: Cv.zl r) = _
    rw [dgs, ff_nat c L b.1 b.2 (h b (by simp)), dgs_all (B := r) (fun d hd => h d (by simp [hd]))]
    rfl
set_option maxRecDepth 100000 in
set_option maxHeartbeats 1000000 in
theorem fdigests_any (w : World) (m : Nat) (k : Int) (L : List ByteArray) (hF : Frs w m k L) (ao : Option Addr) (g off cap : Nat) (B : List (Int × Nat)) (hr : RdB w ao g off B.length B) (hmx : B.length ≤ 8796093021952) :
    Calls Tryz.prog 28 #[.pointer (some ⟨m + 1, 0, none⟩), .slice ao B.length cap] w fun e w' => Below w.heap.size w w' ∧ ((dgs (clk k) L B = none ∧ e = .returned (.tuple #[.slice none 0 0, .bool false])) ∨ (∃ D, dgs (clk k) L B = some D ∧ ∃ v, e = .returned (.tuple #[v, .bool true]) ∧ OwnS w' w.heap.size v D)) := by
  have HM := make_S w B.length (by omega)
  have HF : Hid (∀ W, Below w.heap.size w W → Frs W m k L ∧ RdB W ao g off B.length B) := fun W hb => ⟨hF.next hb (Nat.le_refl _), hr.below hb⟩
  have HX := hide hmx
  have HO : Hid (OwnS (w.alloc (.cells (madeCells #[.string ByteArray.empty] B.length) 9)) w.heap.size (.slice (some ⟨w.heap.size, 0, none⟩) 0 B.length) []) := own_made w _ (by omega)
  have h63 : (B.length : Int) ≤ 9223372036854775807 := by omega
  clear hF hr hmx
  go_enter Tryz.func28, Tryz.ntmps28
  go_wp2
  go_loopg [6, 16] B.length (fun g v i wr => ∃ (j : Nat) (A : List ByteArray), j ≤ B.length ∧ g = B.length - j ∧ i = .int .i64 (j : Int) ∧ A.length = j ∧ Hid (dgs (clk k) L (B.take j) = some A) ∧ OwnS wr w.heap.size v A ∧ Below w.heap.size w wr)
  case atStart =>
    go_light
    exact ⟨0, [], Nat.zero_le _, rfl, rfl, rfl, rfl, HO.out, bal (Below.refl _ _) _⟩
  case round =>
    clear HM HO
    obtain ⟨j, A, hj, rfl, rfl, hA, HE, ho, hb⟩ := hrel
    by_cases hlt : j < B.length
    · have hz : (j : Int) < (B.length : Int) := by omega
      have hz0 : (0 : Int) ≤ (j : Int) := Int.natCast_nonneg _
      obtain rfl := (HF.out wr hb).2.addr (by omega)
      obtain ⟨c0, c1⟩ := (HF.out wr hb).2.cell j hlt
      obtain ⟨⟨h, q⟩, hx⟩ : ∃ x, B.getD j (0, 0) = x := ⟨_, rfl⟩
      rw [hx] at c0 c1
      have hmem : (h, q) ∈ B := by rw [← hx, List.getD_eq_getElem?_getD, List.getElem?_eq_getElem hlt]; exact List.getElem_mem _
      have htk : B.take (j + 1) = B.take j ++ [(h, q)] := by
        rw [List.take_add_one, ← hx, List.getD_eq_getElem?_getD, List.getElem?_eq_getElem hlt]; rfl
      have hfit := (HF.out wr hb).2.fit _ hmem
      cases hv : ff (clk k) L h q with
      | none =>
        have HD : Hid (∀ W, Below w.heap.size w W → Calls Tryz.prog 60 #[.pointer (some ⟨m + 1, 0, none⟩), .agg #[.int .i64 h, .int .u64 (q : Int)]] W fun e w' => e = .returned (.tuple #[.string ⟨#[]⟩, .bool false]) ∧ Below W.heap.size W w') := fun W hb =>
          fdigest_any W m k L (HF.out W hb).1 h q hfit ⟨#[]⟩ false (by show _ ∧ _; rw [hv]; exact ⟨rfl, rfl⟩)
        have HN : Hid (dgs (clk k) L B = none) := dgs_none (b := (h, q)) hv hmem
        clear HE HF hx hmem htk hfit hv ho hlt hA
        go_wp2_with (go_at_call 60; with_reducible refine (HD.out _ (bal hb _)).mono ?_; rintro e w1 ⟨rfl, hb1⟩)
        go_ret2
        exact ⟨bnext (bal hb _) hb1, .inl ⟨HN.out, rfl⟩⟩
      | some x =>
        have HD : Hid (∀ W, Below w.heap.size w W → Calls Tryz.prog 60 #[.pointer (some ⟨m + 1, 0, none⟩), .agg #[.int .i64 h, .int .u64 (q : Int)]] W fun e w' => e = .returned (.tuple #[.string x, .bool true]) ∧ Below W.heap.size W w') := fun W hb =>
          fdigest_any W m k L (HF.out W hb).1 h q hfit x true (by show _ ∧ _; rw [hv]; exact ⟨rfl, rfl⟩)
        have HN : Hid (dgs (clk k) L (B.take (j + 1)) = some (A ++ [x])) := by rw [htk]; exact dgs_app hv HE.out
        have HZ : Hid (x.size ≤ 9223372036854775807) := by show x.size ≤ _; rw [ff_size (clk_le k) hv]; have := clk_le k; omega
        have HO := hide ho
        have HA := hide hA
        clear HE HF hx hmem htk hfit hv ho hA
        go_wp2_with (first
          | (go_at_call 60; with_reducible refine (HD.out _ (bal hb _)).mono ?_; rintro e w1 ⟨rfl, hb1⟩)
          | (at_builtin; refine wpList_append_S _ rfl _ _ rfl w.heap.size _ A rfl (own_al (own_next (own_al HO.out _) hb1 (Nat.le_refl _)) _) (some ⟨w1.heap.size, 0, none⟩) w1.heap.size 0 1 [x] rfl (rds_one w1 x HZ.out) (fun h => by cases h) ?c1 ?c2 ?_))
        case c1 => have := HX.out; have := HA.out; simp; omega
        case c2 => have := (bnext (bal hb _) hb1).size; simp; omega
        intro v2 w3 h3 hb3
        have HY : Hid (OwnS w3 w.heap.size v2 (A ++ [x]) ∧ Below w.heap.size w w3) := ⟨h3, (bal (bnext (bal hb _) hb1) _).trans hb3⟩
        clear h3 hb3 hb1 hb
        go_wp2
        go_roundg (B.length - (j + 1))
        case rel =>
          go_light
          exact ⟨j + 1, A ++ [x], by omega, rfl, by go_num, by have := HA.out; simp; omega, HN, HY.out.1, HY.out.2⟩
        case measure => go_light; omega
    · obtain rfl : j = B.length := by omega
      have hz : ¬ ((B.length : Int) < (B.length : Int)) := by omega
      have HN : Hid (dgs (clk k) L B = some A) := by have := HE.out; rwa [List.take_length] at this
      clear HE hlt HF
      go_wp2
      go_ret2
      exact ⟨hb, .inr ⟨A, HN.out, _, rfl, ho⟩⟩
end Go.Proofs.YtipcenbndhnnhaaGreatDoor
namespace Go.Proofs.YtipcenbndhnnhaaGreatDoor
open Go.RowKit
attribute [local go_sem ↓] Go.wp_at_zero Go.wp_at_succ
theorem u64_id (x : Int) (h0 : 0 ≤ x) (h1 : x < 18446744073709551616) : IntKind.u64.wrap x = x := by
  simp [IntKind.wrap, IntKind.signed, IntKind.bits]; omega
theorem trail_any (n : Nat) (w : World) (hn : n < 2 ^ 64) (t : Nat) (ht : tr 64 n = t) :
    Calls Tryz.prog 50 #[.int .u64 n] w fun e w' => e = .returned (.int .i64 (t : Int)) ∧ w' = w := by
  subst ht
  go_enter Tryz.func50, Tryz.ntmps50
  go_wp2
  go_loopg [4] 64 (fun g i wr => ∃ k : Nat, k ≤ 64 ∧ g = 64 - k ∧ i = .int .i64 k ∧ k + tr (64 - k) (n / 2 ^ k) = tr 64 n ∧ w = wr)
  case atStart =>
    go_light
    exact ⟨0, Nat.zero_le _, rfl, rfl, by simp, rfl⟩
  case round =>
    obtain ⟨k, hk, rfl, rfl, hs, rfl⟩ := hrel
    have hk0 : (0 : Int) ≤ (k : Int) := Int.natCast_nonneg _
    by_cases hlt : k < 64
    · have hk8 : (k : Int) < 64 := by omega
      have HC := Pl.isOne_any n k w hn hlt
      have HS := tr_step k n hlt
      by_cases hb : n / 2 ^ k % 2 = 1
      · rw [if_pos hb] at HS
        rw [decide_eq_true hb] at HC
        go_wp2_with (go_at_call 96; refine HC.mono ?_; rintro e w' ⟨rfl, rfl⟩)
        go_ret
        refine ⟨?_, rfl⟩
        rw [← hs, HS]
        rfl
      · rw [if_neg hb] at HS
        rw [decide_eq_false hb] at HC
        go_wp2_with (go_at_call 96; refine HC.mono ?_; rintro e w' ⟨rfl, rfl⟩)
        go_roundg (64 - (k + 1))
        case rel =>
          go_light
          exact ⟨k + 1, by omega, rfl, by go_num, by omega, rfl⟩
        case measure => go_light; omega
    · obtain rfl : k = 64 := by omega
      clear hk hlt
      go_wp2
      go_ret
      refine ⟨?_, rfl⟩
      rw [← hs]
      rfl
theorem own_one (w : World) (s : ByteArray) : OwnS (w.alloc (.cells #[.string s] 9)) w.heap.size (.slice (some ⟨w.heap.size, 0, none⟩) 1 1) [s] :=
  ⟨rfl, .inr ⟨w.heap.size, 1, #[.string s], rfl, Nat.le_refl _, heap_alloc_new w _, Nat.le_refl _, by unfold maxLen; omega, rfl, rfl⟩⟩
theorem own_mono {w : World} {B B' : Nat} {v : Value} {l : List ByteArray} (h : OwnS w B v l) (hB : B' ≤ B) : OwnS w B' v l := by
  obtain ⟨h1, h2⟩ := h
  refine ⟨h1, ?_⟩
  rcases h2 with h2 | ⟨g, cap, cur, hv, hg, h3⟩
  · exact .inl h2
  · exact .inr ⟨g, cap, cur, hv, by omega, h3⟩
structure Chf (m : Nat) (w w' : World) : Prop where
  below : Below m w w'
  block : ∀ q, q < w.heap.size → q ≠ m → q ≠ m + 1 → w'.heap[q]? = w.heap[q]?
theorem Chf.refl (m : Nat) (w : World) : Chf m w w := ⟨Below.refl _ _, fun _ _ _ _ => rfl⟩
theorem Chf.of {m : Nat} {w w' : World} (h : Below w.heap.size w w') (hm : m < w.heap.size) : Chf m w w' := ⟨h.mono (Nat.le_of_lt hm), fun q hq _ _ => h.block q hq⟩
theorem Chf.trans {m : Nat} {w w1 w2 : World} (h : Chf m w w1) (h2 : Chf m w1 w2) : Chf m w w2 :=
  ⟨h.below.trans h2.below, fun q hq x y => (h2.block q (Nat.lt_of_lt_of_le hq h.below.size) x y).trans (h.block q hq x y)⟩
theorem Chf.size {m : Nat} {w w' : World} (h : Chf m w w') : w.heap.size ≤ w'.heap.size := h.below.size
theorem Chf.next {m : Nat} {w w1 w2 : World} (h : Chf m w w1) (h2 : Below w1.heap.size w1 w2) (hm : m < w.heap.size) : Chf m w w2 := h.trans (Chf.of h2 (Nat.lt_of_lt_of_le hm h.size))
theorem Chf.set {m b : Nat} {w w' : World} (h : Chf m w w') (i : Nat) (v : Value) (hb : b = m + 1 ∨ w.heap.size ≤ b) (hm : m < w.heap.size) : Chf m w (w'.setCell ⟨b, i, none⟩ v) := by
  refine ⟨h.below.setCell (p := ⟨b, i, none⟩) (by show m ≤ b; omega) v, fun q hq x y => ?_⟩
  rw [← h.block q hq x y]
  exact Below.heap_setCell _ _ _ _ (by show q ≠ b; omega)
theorem Chf.put {m : Nat} {w w' : World} (h : Chf m w w') (o : Obj) : Chf m w (ChangeMaps.setBlock w' m o) := by
  refine ⟨⟨h.below.os, h.below.tape, h.below.output, ?_, fun q hq => ?_⟩, fun q hq x _ => ?_⟩
  · simp [ChangeMaps.setBlock, h.below.size]
  · rw [← h.below.block q hq]
    simp [ChangeMaps.setBlock, show ¬ m = q by omega]
  · rw [← h.block q hq x (by assumption)]
    simp [ChangeMaps.setBlock, show ¬ m = q by omega]
theorem set_other {m q : Nat} {w : World} (o : Obj) (h : q ≠ m) : (ChangeMaps.setBlock w m o).heap[q]? = w.heap[q]? := by
  simp [ChangeMaps.setBlock, show ¬ m = q by omega]
theorem Frs.chf {w w' : World} {m m' : Nat} {k k' : Int} {L L' : List ByteArray} (h : Frs w m' k' L') (hF : Frs w m k L) (hc : Chf m w w') (hne : m' ≠ m) : Frs w' m' k' L' := by
  have hl := h.lt
  refine h.same (hc.block m' (by omega) hne ?_) (hc.block (m' + 1) hl ?_ (by omega))
  · rintro rfl
    obtain ⟨es, c, hx, _⟩ := h.mp
    have := hF.blk
    rw [hx] at this
    cases this
  · intro e
    obtain ⟨es, c, hx, _⟩ := hF.mp
    have := h.blk
    rw [e, hx] at this
    cases this
theorem tb_ne {w : World} {m g : Nat} {k x : Int} {L : List ByteArray} (h0 : w.cell? ⟨g, 0, none⟩ = some (.int .u32 x)) (hF : Frs w m k L) : g ≠ m ∧ g ≠ m + 1 := by
  constructor
  · rintro rfl
    obtain ⟨es, c, hm, _⟩ := hF.mp
    simp [World.cell?, hm] at h0
  · rintro rfl
    rw [hF.c0] at h0
    cases h0
theorem Tb.chf {w w' : World} {m : Nat} {k : Int} {L : List ByteArray} (ht : Tb w) (hF : Frs w m k L) (hc : Chf m w w') : Tb w' := by
  have hlt := range_lt ht.rs (cW_ne (by rw [RS_len]; decide))
  obtain ⟨x, h0⟩ : ∃ x, w.cell? ⟨3, 0, none⟩ = some (.int .u32 x) := by
    have hx : 0 < RS.length := by rw [RS_len]; decide
    exact ⟨RS[0], ht.rs 0 _ (by simp [cW, hx])⟩
  obtain ⟨hne, hne2⟩ := tb_ne h0 hF
  refine ⟨fun j u hu => ?_⟩
  rw [← ht.rs j u hu]
  have := hc.block _ hlt hne hne2
  simp only [World.cell?, this]
end Go.Proofs.YtipcenbndhnnhaaGreatDoor
