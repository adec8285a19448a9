/-
  Walks of package forest: Node, Digests, Root. Own work.
-/
import Derived.Test.YtdkcliblbaldhaaDoorFWalkA
import Derived.Test.YtdkcliblbaldhaaDoorPWalkB
import Derived.Deep.OwnRows
namespace Go.Proofs.YtdkcliblbaldhaaDoor
open Go.RowKit
attribute [local go_sem ↓] Go.wp_at_zero Go.wp_at_succ
theorem make_S (w : World) (n : Nat) (hn : n ≤ 8796093022208) : (Instr.makeSlice 22 (.int .i64 0) (.int .i64 (n : Int))).run Tryd.prog w = .ok (.slice (some ⟨w.heap.size, 0, none⟩) 0 n) (w.alloc (.cells (madeCells #[.string ByteArray.empty] n) 9)) := by
  obtain ⟨i0, hi, hz0, hz1, hz2⟩ := info_parts Tryd.infoS
  have hr := run_make (P := Tryd.prog) w 22 9 i0 _ Tryd.underlying22 hi hz0 .i64 .i64 0 n (by omega) (by omega) (by rw [hz2]; omega) (by omega)
  simp only [Int.toNat_natCast, hz1, Nat.mul_one] at hr
  exact hr
theorem own_made (w : World) (n : Nat) (hn : n ≤ 8796093022208) : OwnS (w.alloc (.cells (madeCells #[.string ByteArray.empty] n) 9)) w.heap.size (.slice (some ⟨w.heap.size, 0, none⟩) 0 n) [] :=
  ⟨rfl, .inr ⟨w.heap.size, n, _, rfl, Nat.le_refl _, heap_alloc_new w _, Nat.zero_le _, by unfold maxLen; omega, by rw [size_madeCells, Nat.mul_one], rfl⟩⟩
/-- A list of blocks that can be read. -/
structure RdB (w : World) (ao : Option Addr) (g off n : Nat) (l : List (Int × Nat)) : Prop where
  len : l.length = n
  addr : 0 < n → ao = some ⟨g, off, none⟩
  cell : ∀ j, j < n → w.cell? ⟨g, off + j * 2, none⟩ = some (.int .i64 (l.getD j (0, 0)).1) ∧ w.cell? ⟨g, off + j * 2 + 1, none⟩ = some (.int .u64 ((l.getD j (0, 0)).2 : Nat))
  fit : ∀ b ∈ l, Fitb b.1 b.2
theorem RdB.below {w w' : World} {ao : Option Addr} {g off n : Nat} {l : List (Int × Nat)} (r : RdB w ao g off n l) (h : Below w.heap.size w w') : RdB w' ao g off n l :=
  ⟨r.len, r.addr, fun j hj => ⟨(h.cell (p := ⟨g, off + j * 2, none⟩) (World.block_lt_of_cell? w _ (r.cell j hj).1)).trans (r.cell j hj).1, (h.cell (p := ⟨g, off + j * 2 + 1, none⟩) (World.block_lt_of_cell? w _ (r.cell j hj).2)).trans (r.cell j hj).2⟩, r.fit⟩
theorem own_rdB {w : World} {base : Nat} {v : Value} {l : List (Int × Nat)} (h : Cv.OwnB w base v l) (hf : ∀ b ∈ l, Fitb b.1 b.2) : ∃ ao g n cap, v = .slice ao n cap ∧ RdB w ao g 0 n l ∧ n ≤ maxLen := by
  have h0 := h
  obtain ⟨h1, h2⟩ := h
  rcases h2 with ⟨rfl, h2⟩ | ⟨g, cap, cur, rfl, hg, hh, hc1, hc2, hc3, hc4⟩
  · exact ⟨none, 0, 0, 0, rfl, ⟨h2, fun h => absurd h (by omega), fun j hj => absurd hj (by omega), hf⟩, Nat.zero_le _⟩
  · refine ⟨some ⟨g, 0, none⟩, g, l.length, cap, rfl, ⟨rfl, fun _ => rfl, fun j hj => ?_, hf⟩, by omega⟩
    have hcl := h0.cells (g := g) rfl
    obtain ⟨⟨a, b⟩, hq⟩ : ∃ q, l[j] = q := ⟨_, rfl⟩
    have hget : l[j]? = some (a, b) := by rw [List.getElem?_eq_getElem hj, hq]
    obtain ⟨e1, e2⟩ := Cv.cB_get l j a b hget
    have f1 := hcl _ _ e1
    have f2 := hcl _ _ e2
    rw [Addr.add_mid, Nat.zero_add, Nat.mul_comm] at f1 f2
    rw [List.getD_eq_getElem?_getD, hget, Nat.zero_add]
    exact ⟨f1, f2⟩
/-- The digests of blocks, if all have one. -/
def dgs (c : Nat) (L : List ByteArray) : List (Int × Nat) → Option (List ByteArray)
  | [] => some []
  | b :: r => (ff c L b.1 b.2).bind fun x => (dgs c L r).map fun A => x :: A
theorem dgs_app {c : Nat} {L : List ByteArray} {h : Int} {k : Nat} {x : ByteArray} (hx : ff c L h k = some x) : ∀ {B : List (Int × Nat)} {A : List ByteArray}, dgs c L B = some A → dgs c L (B ++ [(h, k)]) = some (A ++ [x])
  | [], A, e => by
    simp [dgs] at e
    subst e
    simp [dgs, hx]
  | b :: r, A, e => by
    rw [dgs] at e
    obtain ⟨y, hy, e⟩ := Option.bind_eq_some_iff.1 e
    obtain ⟨A', hA, rfl⟩ := Option.map_eq_some_iff.1 e
    rw [List.cons_append, dgs, hy, dgs_app hx hA]
    rfl
theorem dgs_none {c : Nat} {L : List ByteArray} {b : Int × Nat} (hb : ff c L b.1 b.2 = none) : ∀ {B : List (Int × Nat)}, b ∈ B → dgs c L B = none
  | [], h => by cases h
  | d :: r, h => by
    rw [dgs]
    rcases List.mem_cons.1 h with rfl | h
    · rw [hb]; rfl
    · rw [dgs_none hb h]
      cases ff c L d.1 d.2 <;> rfl
theorem dgs_size {c : Nat} (hc : c ≤ 32) {L : List ByteArray} : ∀ {B : List (Int × Nat)} {A : List ByteArray}, dgs c L B = some A → (∀ s ∈ A, s.size = c) ∧ A.length = B.length
  | [], A, e => by
    simp [dgs] at e
    subst e
    simp
  | b :: r, A, e => by
    rw [dgs] at e
    obtain ⟨y, hy, e⟩ := Option.bind_eq_some_iff.1 e
    obtain ⟨A', hA, rfl⟩ := Option.map_eq_some_iff.1 e
    obtain ⟨i1, i2⟩ := dgs_size hc hA
    refine ⟨fun s hs => ?_, by simp [i2]⟩
    rcases List.mem_cons.1 hs with rfl | hs
    · exact ff_size hc hy
    · exact i1 s hs
theorem dgs_all {c : Nat} {L : List ByteArray} : ∀ {B : List (Nat × Nat)}, (∀ b ∈ B, (b.2 + 1) * 2 ^ b.1 ≤ L.length) → dgs c L (Cv.zl B) = some (B.map fun b => nd c L b.1 b.2)
  | [], _ => rfl
  | b :: r, h => by
    show dgs c L (((b.1 : Int), b.2) :: Cv.zl r) = _
    rw [dgs, ff_nat c L b.1 b.2 (h b (by simp)), dgs_all (B := r) (fun d hd => h d (by simp [hd]))]
    rfl
set_option maxRecDepth 100000 in
set_option maxHeartbeats 1000000 in
theorem fdigests_any (w : World) (m : Nat) (k : Int) (L : List ByteArray) (hF : Frs w m k L) (ao : Option Addr) (g off cap : Nat) (B : List (Int × Nat)) (hr : RdB w ao g off B.length B) (hmx : B.length ≤ 8796093021952) :
    Calls Tryd.prog 33 #[.pointer (some ⟨m + 1, 0, none⟩), .slice ao B.length cap] w fun e w' => Below w.heap.size w w' ∧ ((dgs (clk k) L B = none ∧ e = .returned (.tuple #[.slice none 0 0, .bool false])) ∨ (∃ D, dgs (clk k) L B = some D ∧ ∃ v, e = .returned (.tuple #[v, .bool true]) ∧ OwnS w' w.heap.size v D)) := by
  have HM := make_S w B.length (by omega)
  have HF : Hid (∀ W, Below w.heap.size w W → Frs W m k L ∧ RdB W ao g off B.length B) := fun W hb => ⟨hF.next hb (Nat.le_refl _), hr.below hb⟩
  have HX := hide hmx
  have HO : Hid (OwnS (w.alloc (.cells (madeCells #[.string ByteArray.empty] B.length) 9)) w.heap.size (.slice (some ⟨w.heap.size, 0, none⟩) 0 B.length) []) := own_made w _ (by omega)
  have h63 : (B.length : Int) ≤ 9223372036854775807 := by omega
  clear hF hr hmx
  go_enter Tryd.func33, Tryd.ntmps33
  go_wp2
  go_loopg [6, 16] B.length (fun g v i wr => ∃ (j : Nat) (A : List ByteArray), j ≤ B.length ∧ g = B.length - j ∧ i = .int .i64 (j : Int) ∧ A.length = j ∧ Hid (dgs (clk k) L (B.take j) = some A) ∧ OwnS wr w.heap.size v A ∧ Below w.heap.size w wr)
  case atStart =>
    go_light
    exact ⟨0, [], Nat.zero_le _, rfl, rfl, rfl, rfl, HO.out, bal (Below.refl _ _) _⟩
  case round =>
    clear HM HO
    obtain ⟨j, A, hj, rfl, rfl, hA, HE, ho, hb⟩ := hrel
    by_cases hlt : j < B.length
    · have hz : (j : Int) < (B.length : Int) := by omega
      have hz0 : (0 : Int) ≤ (j : Int) := Int.natCast_nonneg _
      obtain rfl := (HF.out wr hb).2.addr (by omega)
      obtain ⟨c0, c1⟩ := (HF.out wr hb).2.cell j hlt
      obtain ⟨⟨h, q⟩, hx⟩ : ∃ x, B.getD j (0, 0) = x := ⟨_, rfl⟩
      rw [hx] at c0 c1
      have hmem : (h, q) ∈ B := by rw [← hx, List.getD_eq_getElem?_getD, List.getElem?_eq_getElem hlt]; exact List.getElem_mem _
      have htk : B.take (j + 1) = B.take j ++ [(h, q)] := by
        rw [List.take_add_one, ← hx, List.getD_eq_getElem?_getD, List.getElem?_eq_getElem hlt]; rfl
      have hfit := (HF.out wr hb).2.fit _ hmem
      cases hv : ff (clk k) L h q with
      | none =>
        have HD : Hid (∀ W, Below w.heap.size w W → Calls Tryd.prog 62 #[.pointer (some ⟨m + 1, 0, none⟩), .agg #[.int .i64 h, .int .u64 (q : Int)]] W fun e w' => e = .returned (.tuple #[.string ⟨#[]⟩, .bool false]) ∧ Below W.heap.size W w') := fun W hb =>
          fdigest_any W m k L (HF.out W hb).1 h q hfit ⟨#[]⟩ false (by show _ ∧ _; rw [hv]; exact ⟨rfl, rfl⟩)
        have HN : Hid (dgs (clk k) L B = none) := dgs_none (b := (h, q)) hv hmem
        clear HE HF hx hmem htk hfit hv ho hlt hA
        go_wp2_with (go_at_call 62; with_reducible refine (HD.out _ (bal hb _)).mono ?_; rintro e w1 ⟨rfl, hb1⟩)
        go_ret2
        exact ⟨bnext (bal hb _) hb1, .inl ⟨HN.out, rfl⟩⟩
      | some x =>
        have HD : Hid (∀ W, Below w.heap.size w W → Calls Tryd.prog 62 #[.pointer (some ⟨m + 1, 0, none⟩), .agg #[.int .i64 h, .int .u64 (q : Int)]] W fun e w' => e = .returned (.tuple #[.string x, .bool true]) ∧ Below W.heap.size W w') := fun W hb =>
          fdigest_any W m k L (HF.out W hb).1 h q hfit x true (by show _ ∧ _; rw [hv]; exact ⟨rfl, rfl⟩)
        have HN : Hid (dgs (clk k) L (B.take (j + 1)) = some (A ++ [x])) := by rw [htk]; exact dgs_app hv HE.out
        have HZ : Hid (x.size ≤ 9223372036854775807) := by show x.size ≤ _; rw [ff_size (clk_le k) hv]; have := clk_le k; omega
        have HO := hide ho
        have HA := hide hA
        clear HE HF hx hmem htk hfit hv ho hA
        go_wp2_with (first
          | (go_at_call 62; with_reducible refine (HD.out _ (bal hb _)).mono ?_; rintro e w1 ⟨rfl, hb1⟩)
          | (at_builtin; refine wpList_append_S _ rfl _ _ rfl w.heap.size _ A rfl (own_al (own_next (own_al HO.out _) hb1 (Nat.le_refl _)) _) (some ⟨w1.heap.size, 0, none⟩) w1.heap.size 0 1 [x] rfl (rds_one w1 x HZ.out) (fun h => by cases h) ?c1 ?c2 ?_))
        case c1 => have := HX.out; have := HA.out; simp; omega
        case c2 => have := (bnext (bal hb _) hb1).size; simp; omega
        intro v2 w3 h3 hb3
        have HY : Hid (OwnS w3 w.heap.size v2 (A ++ [x]) ∧ Below w.heap.size w w3) := ⟨h3, (bal (bnext (bal hb _) hb1) _).trans hb3⟩
        clear h3 hb3 hb1 hb
        go_wp2
        go_roundg (B.length - (j + 1))
        case rel =>
          go_light
          exact ⟨j + 1, A ++ [x], by omega, rfl, by go_num, by have := HA.out; simp; omega, HN, HY.out.1, HY.out.2⟩
        case measure => go_light; omega
    · obtain rfl : j = B.length := by omega
      have hz : ¬ ((B.length : Int) < (B.length : Int)) := by omega
      have HN : Hid (dgs (clk k) L B = some A) := by have := HE.out; rwa [List.take_length] at this
      clear HE hlt HF
      go_wp2
      go_ret2
      exact ⟨hb, .inr ⟨A, HN.out, _, rfl, ho⟩⟩
theorem mount_ok (n : Nat) (hn : n ≤ 65536) : Cv.errR 0 n n = 0 ∧ Cv.covR 0 n n = Cv.cov 0 n := by
  have h : Cv.errR 0 n n = 0 := by rw [Cv.errR, if_neg (by omega), if_neg (by omega), if_neg (by omega)]
  exact ⟨h, by rw [Cv.covR, if_pos h]⟩
theorem small_fit {b : Nat × Nat} {n : Nat} (h : (b.2 + 1) * 2 ^ b.1 ≤ n) (hn : n ≤ 65536) : Fitb (b.1 : Int) b.2 := by
  have hp := Nat.two_pow_pos b.1
  have h1 : 2 ^ b.1 ≤ (b.2 + 1) * 2 ^ b.1 := Nat.le_mul_of_pos_left _ (by omega)
  have h2 : b.2 + 1 ≤ (b.2 + 1) * 2 ^ b.1 := Nat.le_mul_of_pos_right _ hp
  have h3 : b.1 < 2 ^ b.1 := Nat.lt_two_pow_self
  exact ⟨⟨by omega, by omega⟩, by omega⟩
theorem froot_no (w : World) (m : Nat) (k : Int) (L : List ByteArray) (hF : Frs w m k L) (n : Nat) (hn : L.length < n) :
    Calls Tryd.prog 14 #[.pointer (some ⟨m + 1, 0, none⟩), .int .u64 (n : Int)] w fun e w' => e = .returned (.tuple #[.agg #[.int .u64 0, .string ⟨#[]⟩], .int .i64 30]) ∧ Below w.heap.size w w' := by
  have hb := bal (Below.refl w.heap.size w) (.cells #[.int .u64 0, .string ⟨#[]⟩] 37)
  have c1 := hF.c1
  have hlt := hF.lt
  have hn' : (L.length : Int) < (n : Int) := by omega
  clear hF hn
  go_enter Tryd.func14, Tryd.ntmps14
  go_wp2
  refine bodyPost_ret (v := .tuple #[.agg #[.int .u64 0, .string ⟨#[]⟩], .int .i64 30]) (by simp [results, Tryd.results14, go_sem]) rfl ⟨rfl, ?_⟩
  exact hb
set_option maxRecDepth 100000 in
set_option maxHeartbeats 1000000 in
theorem froot_ok (w : World) (ht : Tb w) (m : Nat) (k : Int) (L : List ByteArray) (hF : Frs w m k L) (n : Nat) (hn : n ≤ L.length) (r : ByteArray) (hq : Hid (rtD (clk k) L n = r)) :
    Calls Tryd.prog 14 #[.pointer (some ⟨m + 1, 0, none⟩), .int .u64 (n : Int)] w fun e w' => e = .returned (.tuple #[.agg #[.int .u64 (n : Int), .string r], .int .i64 0]) ∧ Below w.heap.size w w' := by
  have hL := hF.hn
  obtain ⟨e1, e2⟩ := mount_ok n (by omega)
  obtain ⟨p1, p2⟩ := cov_peaks (clk k) L n hn (by omega)
  have hds : dgs (clk k) L (Cv.zl (Cv.cov 0 n)) = some (pks (clk k) (L.take n) 41) := by rw [dgs_all (fun b hb => Nat.le_trans (p2 b hb) hn), p1]
  obtain ⟨P, hP⟩ : ∃ P, pks (clk k) (L.take n) 41 = P := ⟨_, rfl⟩
  rw [hP] at hds
  have zP : ∀ s ∈ P, s.size ≤ 140737488351232 := by rw [← hP]; exact small (clk_le k)
  have lP : P.length ≤ 41 := by rw [← hP]; exact pks_len _ _ _
  have HQ : dg (clk k) (rootT n (bagL (clk k) P)) = r := by rw [← hP]; exact hq.out
  have HM : Hid (∀ W, Calls Tryd.prog 40 #[.int .u64 (n : Int)] W fun x w' => ∃ ao g cap, x = .returned (.tuple #[.slice ao (Cv.zl (Cv.cov 0 n)).length cap, .int .i64 0]) ∧ RdB w' ao g 0 (Cv.zl (Cv.cov 0 n)).length (Cv.zl (Cv.cov 0 n)) ∧ Below W.heap.size W w') := fun W => by
    have := Cv.mountains_any n W
    rw [e1, e2] at this
    refine this.mono ?_
    rintro x w' ⟨v, rfl, ho, hb⟩
    obtain ⟨ao, g, n', cap, rfl, hr, _⟩ := own_rdB ho (fun b hb => by
      obtain ⟨b0, hb0, rfl⟩ := List.mem_map.1 hb
      exact small_fit (p2 b0 hb0) (by omega))
    obtain rfl := hr.len
    exact ⟨ao, g, cap, rfl, hr, hb⟩
  have lC : (Cv.zl (Cv.cov 0 n)).length ≤ 80 := by rw [Cv.zl_len]; exact Cv.cov_len 0 n (Nat.zero_le _) (by omega)
  obtain ⟨C, hC⟩ : ∃ C, Cv.zl (Cv.cov 0 n) = C := ⟨_, rfl⟩
  rw [hC] at HM hds lC
  have HD : Hid (∀ W ao g cap, Below w.heap.size w W → RdB W ao g 0 C.length C → Calls Tryd.prog 33 #[.pointer (some ⟨m + 1, 0, none⟩), .slice ao C.length cap] W fun e w' => Below W.heap.size W w' ∧ ∃ ao' b' cap', e = .returned (.tuple #[.slice ao' P.length cap', .bool true]) ∧ RdS w' ao' b' 0 P.length P) := fun W ao g cap hb hr => by
    refine (fdigests_any W m k L (hF.next hb (Nat.le_refl _)) ao g 0 cap C hr (by omega)).mono ?_
    rintro e w' ⟨hb', ⟨h1, _⟩ | ⟨D, h1, v, rfl, ho⟩⟩
    · rw [hds] at h1; cases h1
    · rw [hds] at h1
      injection h1 with h1
      subst h1
      obtain ⟨ao', b', cap', rfl, hr', _⟩ := owns_rds ho (fun s hs => Nat.le_trans (zP s hs) (by decide))
      exact ⟨hb', ao', b', cap', rfl, hr'⟩
  have HRo : Hid (∀ W, Below w.heap.size w W → ∀ ao' b' cap', RdS W ao' b' 0 P.length P → Calls Tryd.prog 38 #[.int .i64 k, .int .u64 (n : Int), .slice ao' P.length cap'] W fun e w' => e = .returned (.string r) ∧ Below W.heap.size W w') := fun W hb ao' b' cap' hr' => root_any W (ht.next hb) k n ao' b' 0 P.length cap' P hr' zP (by omega) r HQ
  have HF : Hid (∀ W, Below w.heap.size w W → W.cell? ⟨m + 1, 0, none⟩ = some (.int .i64 k)) := fun W hb => (hF.next hb (Nat.le_refl _)).c0
  have c1 : (w.alloc (.cells #[.int .u64 0, .string ⟨#[]⟩] 37)).cell? ⟨m + 1, 1, none⟩ = some (.int .u64 (L.length : Int)) := (hF.next (bal (Below.refl w.heap.size w) _) (Nat.le_refl _)).c1
  have hn' : ¬ (L.length : Int) < (n : Int) := by omega
  have hb := bal (Below.refl w.heap.size w) (.cells #[.int .u64 0, .string ⟨#[]⟩] 37)
  have HN := rt_new w 0 ⟨#[]⟩ 37
  rw [show ((0 : Nat) : Int) = 0 from rfl] at HN
  have HN2 := hide HN
  have HZ : Hid (w.heap.size < (w.alloc (.cells #[.int .u64 0, .string ⟨#[]⟩] 37)).heap.size) := by show _ < _; simp
  clear hq hP hds zP lP HQ hC lC e1 e2 p1 p2 hn hL ht hF HN
  go_enter Tryd.func14, Tryd.ntmps14
  go_wp2_with (first
    | (go_at_call 40; with_reducible refine (HM.out _).mono ?_; rintro e w1 ⟨ao, g, cap, rfl, hr1, hb1⟩)
    | (go_at_call 33; with_reducible refine (HD.out _ _ _ _ (bnext hb hb1) hr1).mono ?_; rintro e w2 ⟨hb2, ao', b', cap', rfl, hr2⟩; have y0 := HF.out _ (bnext (bnext hb hb1) hb2))
    | (go_at_call 38; with_reducible refine (HRo.out _ (bnext (bnext hb hb1) hb2) _ _ _ hr2).mono ?_; rintro e w3 ⟨rfl, hb3⟩; have hR := ((HN2.out.below hb1 HZ.out).below hb2 (Nat.lt_of_lt_of_le HZ.out hb1.size)).below hb3 (Nat.lt_of_lt_of_le HZ.out (Nat.le_trans hb1.size hb2.size)); have k0 := hR.c0; have k1 := hR.c1; have f0 := hR.f0; have f1 := hR.f1))
  have s0 : (w3.setCell ⟨w.heap.size, 0, none⟩ (.int .u64 (n : Int))).cell? ⟨w.heap.size, 0, none⟩ = some (.int .u64 (n : Int)) := World.cell?_setCell_same _ _ _ k0
  have s1 : ((w3.setCell ⟨w.heap.size, 0, none⟩ (.int .u64 (n : Int))).setCell ⟨w.heap.size, 1, none⟩ (.string r)).cell? ⟨w.heap.size, 1, none⟩ = some (.string r) :=
    World.cell?_setCell_same _ _ _ ((World.cell?_setCell_other _ _ _ _ (by simp)).trans k1)
  refine bodyPost_ret (v := .tuple #[.agg #[.int .u64 (n : Int), .string r], .int .i64 0]) (by simp [results, Tryd.results14, go_sem, s0, s1]) rfl ⟨rfl, ?_⟩
  exact ((bnext (bnext (bnext hb hb1) hb2) hb3).setCell (p := ⟨w.heap.size, 0, none⟩) (Nat.le_refl _) _).setCell (p := ⟨w.heap.size, 1, none⟩) (Nat.le_refl _) _
end Go.Proofs.YtdkcliblbaldhaaDoor
