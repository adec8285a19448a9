/-
  Walks of the reference: Mountains, Peaks; the walk of PlaceNumbers. Own work.
-/
import Derived.Test.YtilflepomeoffabRefD
namespace Go.Proofs.Ytilflepomeoffab
open Go.RowKit
attribute [local go_sem ↓] Go.wp_at_zero Go.wp_at_succ
theorem Try.infoB : (Try.prog.info? 25).map (fun i => (i.zero, i.size, i.bytes)) = some (some (.agg #[.int .i64 0, .int .u64 0]), 2, 16) := by kernel_rfl
/-- Blocks as cells. -/
def cB : List (Nat × Nat) → List Value
  | [] => []
  | b :: r => .int .i64 (b.1 : Int) :: .int .u64 (b.2 : Int) :: cB r
theorem cB_len (l : List (Nat × Nat)) : (cB l).length = l.length * 2 := by
  induction l with
  | nil => rfl
  | cons b r ih => simp [cB, ih]; omega
theorem cB_snoc (l : List (Nat × Nat)) (h k : Nat) : cB (l ++ [(h, k)]) = cB l ++ [.int .i64 (h : Int), .int .u64 (k : Int)] := by
  induction l with
  | nil => rfl
  | cons b r ih => simp [cB, ih]
theorem cB_get (l : List (Nat × Nat)) (j : Nat) (h k : Nat) (hj : l[j]? = some (h, k)) : (cB l)[2 * j]? = some (.int .i64 (h : Int)) ∧ (cB l)[2 * j + 1]? = some (.int .u64 (k : Int)) := by
  induction l generalizing j with
  | nil => simp at hj
  | cons b r ih =>
    cases j with
    | zero => simp at hj; subst hj; exact ⟨rfl, rfl⟩
    | succ j =>
      have := ih j (by simpa using hj)
      rw [show 2 * (j + 1) = 2 * j + 1 + 1 by omega]
      simpa [cB] using this
/-- A list of blocks of one's own. -/
abbrev OwnB (w : World) (base : Nat) (v : Value) (l : List (Nat × Nat)) : Prop := w.ownsRow base 25 2 v l.length (cB l)
theorem ownB_step {B : Nat} {w wr w1 : World} {v v' : Value} {l : List (Nat × Nat)} {h k : Nat} {o : Obj} (hB : Below B w wr) (hs : B ≤ wr.heap.size) (hown : OwnB wr B v l)
    (hown' : w1.ownsRow B 25 2 v' (l.length + 1) (cB l ++ [.int .i64 (h : Int), .int .u64 (k : Int)])) (hg : (wr.alloc o).grownBy w1 v.ownBlock) : OwnB w1 B v' (l ++ [(h, k)]) ∧ Below B w w1 ∧ B ≤ w1.heap.size := by
  have h1 := hg.size
  rw [World.size_alloc] at h1
  refine ⟨?_, (hB.alloc hs o).grown hg (by simp; omega) (fun j hj => (hown.lt j hj).1), by omega⟩
  rw [OwnB, cB_snoc, List.length_append]
  exact hown'
theorem mount_eq (n j : Nat) (hb : n / pw j % 2 = 1) : n / pw (j + 1) * pw (j + 1) / pw j = n / pw j - 1 := by
  rw [pw_succ, ← Nat.mul_assoc, Nat.mul_div_cancel _ (pw_pos j), Nat.mul_comm 2, ← Nat.div_div_eq_div_mul]
  revert hb; generalize n / pw j = q; intro hb
  omega
theorem mount_step (n j : Nat) (hb : n / pw j % 2 = 1) : n / pw (j + 1) * pw (j + 1) + pw j = n / pw j * pw j := by
  have e : n / pw (j + 1) = n / pw j / 2 := div_half n j
  rw [e, pw_succ]
  revert hb; generalize n / pw j = q; intro hb
  have e2 : q / 2 * (2 * pw j) = (2 * (q / 2)) * pw j := by rw [← Nat.mul_assoc, Nat.mul_comm (q / 2)]
  have e3 : q = 2 * (q / 2) + 1 := by omega
  rw [e2]
  conv => rhs; rw [e3, Nat.add_mul, Nat.one_mul]
theorem mount_none (n j : Nat) (hb : ¬ n / pw j % 2 = 1) : n / pw (j + 1) * pw (j + 1) = n / pw j * pw j := by
  have e : n / pw (j + 1) = n / pw j / 2 := div_half n j
  rw [e, pw_succ]
  revert hb; generalize n / pw j = q; intro hb
  have e2 : q / 2 * (2 * pw j) = (2 * (q / 2)) * pw j := by rw [← Nat.mul_assoc, Nat.mul_comm (q / 2)]
  rw [e2, show 2 * (q / 2) = q by omega]
theorem mount_no (n : Nat) (w : World) (hn : 2 ^ 40 < n) :
    Calls Try.prog 32 #[.int .u64 n] w fun e w' => ∃ v, e = .returned v ∧ OwnB w' w.heap.size v [] ∧ Below w.heap.size w w' := by
  have ht : decide ((1099511627776 : Int) < (n : Int)) = true := decide_eq_true (by omega)
  clear hn
  go_enter Try.func32, Try.ntmps32
  go_wp2
  go_ret
  exact ⟨_, rfl, World.ownsRow_nil _ _ _ _, Below.refl _ _⟩
theorem mount_yes (n : Nat) (w : World) (hn : n ≤ 2 ^ 40) :
    Calls Try.prog 32 #[.int .u64 n] w fun e w' => ∃ v, e = .returned v ∧ OwnB w' w.heap.size v (mt 41 n) ∧ Below w.heap.size w w' := by
  obtain ⟨i0, hi, hz0, hz1, hz2⟩ := info_parts Try.infoB
  have ht : decide ((1099511627776 : Int) < (n : Int)) = false := decide_eq_false (by omega)
  have HNn : Hid (n ≤ 2 ^ 40) := hn
  clear hn
  go_enter Try.func32, Try.ntmps32
  go_wp2
  go_loopg [3, 4, 5] 41 (fun g v f h wr => ∃ d fl : Nat, d ≤ 41 ∧ g = 41 - d ∧ h = .int .i64 (40 - (d : Int)) ∧ f = .int .u64 (fl : Int) ∧ fl = n / pw (41 - d) * pw (41 - d) ∧ OwnB wr w.heap.size v (mt d n) ∧ Below w.heap.size w wr)
  case atStart =>
    go_light
    have hn := HNn.out
    have h41 : n / pw 41 = 0 := Nat.div_eq_of_lt (by have : pw 41 = 2 ^ 41 := rfl
                                                     omega)
    exact ⟨0, 0, Nat.zero_le _, rfl, rfl, rfl, by rw [Nat.sub_zero, h41, Nat.zero_mul], World.ownsRow_nil _ _ _ _, Below.refl _ _⟩
  case round =>
    obtain ⟨d, fl, hd, rfl, rfl, rfl, hf, hown, hb⟩ := hrel
    have hn := HNn.out
    by_cases hlt : d < 41
    · obtain ⟨j, hj⟩ : ∃ j : Nat, 40 - d = j := ⟨_, rfl⟩
      have ej : (40 - (d : Int)) = (j : Int) := by omega
      have hj0 : (0 : Int) ≤ (j : Int) := Int.natCast_nonneg _
      have hj1 : (j : Int) < 64 := by omega
      have hj2 : ¬ (j : Int) < 0 := by omega
      have ew : IntKind.u64.wrap (j : Int) = (j : Int) := by rw [IntKind.wrap_u64]; omega
      have hd41 : 41 - d = j + 1 := by omega
      have hd42 : 41 - (d + 1) = j := by omega
      rw [hd41] at hf
      obtain ⟨q, hq⟩ : ∃ q, n / pw j = q := ⟨_, rfl⟩
      have eq : (n : Int) / 2 ^ j = (q : Int) := by rw [← hq]; simp [pw]
      have hml : (mt d n).length ≤ 41 := by rw [mt_len]; have := pk_len d n; omega
      have hsz := hb.size
      have hjj : (j : Int) - 1 = 40 - ((d + 1 : Nat) : Int) := by omega
      rw [ej]
      by_cases hbo : q % 2 = 1
      · have hbit : ((q : Int) % 2 == 1) = true := by have : (q : Int) % 2 = 1 := by omega
                                                      rw [this]; rfl
        have g1 := mount_eq n j (by rw [hq]; exact hbo)
        have g2 := mount_step n j (by rw [hq]; exact hbo)
        have g3 := mt_one d n (by rw [hj, hq]; exact hbo)
        rw [hj, hq] at g3
        rw [hq, ← hf] at g1 g2
        have g4 : q * pw j ≤ n := by rw [← hq]; exact Nat.div_mul_le_self _ _
        obtain ⟨r, hr⟩ : ∃ r, q - 1 = r := ⟨_, rfl⟩
        rw [hr] at g1 g3
        have er : (fl : Int) / 2 ^ j = (r : Int) := by rw [← g1]; simp [pw]
        obtain ⟨f2, hf2⟩ : ∃ f2, q * pw j = f2 := ⟨_, rfl⟩
        rw [hf2] at g2 g4
        obtain ⟨u, hu⟩ : ∃ u, pw j = u := ⟨_, rfl⟩
        rw [hu] at g2
        have e2 : ((2 : Int) ^ j) = (u : Int) := by rw [← hu]; simp [pw]
        have eu : IntKind.u64.wrap ((2 : Int) ^ j) = (u : Int) := by rw [e2, IntKind.wrap_u64]; omega
        have ef : IntKind.u64.wrap ((fl : Int) + (u : Int)) = (f2 : Int) := by rw [IntKind.wrap_u64]; omega
        have HX : Hid (f2 = n / pw j * pw j ∧ mt (d + 1) n = mt d n ++ [(j, r)] ∧ 41 - (d + 1) = j ∧ (j : Int) - 1 = 40 - ((d + 1 : Nat) : Int)) := ⟨by rw [hq, hf2], g3, hd42, hjj⟩
        have HB : Hid (Below w.heap.size w wr ∧ (mt d n).length ≤ 41 ∧ w.heap.size ≤ wr.heap.size) := ⟨hb, hml, hsz⟩
        clear hn g1 g2 g3 g4 hr hf2 hu hf hd41 hd42 hj ej hbo hq e2 hml hsz hb hjj
        go_wp2_with (at_builtin; refine wpList_append_own _ rfl _ _ 48 rfl w.heap.size 25 i0 (.agg #[.int .i64 0, .int .u64 0]) 2 16 Try.underlying48 hi hz0 hz1 hz2 rfl (by decide) _ _ _ rfl (hown.alloc _) ⟨wr.heap.size, 0, none⟩ 1 1 [.int .i64 (j : Int), .int .u64 (r : Int)] rfl rfl ?c1 ?c2 ?c3 ?c4 ?c5 ?_)
        case c2 => exact ⟨rfl, rfl⟩
        case c3 => have := HB.out.2.1; unfold maxLen; omega
        case c4 => have := HB.out.2.1; omega
        case c5 => have := HB.out.2.2; simp; omega
        · intro v' w1 hown' hgrow _
          have R := ownB_step HB.out.1 HB.out.2.2 hown hown' hgrow
          clear hown' hgrow hown
          go_wp2
          go_roundg (41 - (d + 1))
          case rel =>
            go_light
            obtain ⟨x1, x2, x3, x4⟩ := HX.out
            refine ⟨d + 1, f2, by omega, rfl, by rw [x4], rfl, by rw [x3]; exact x1, by rw [x2]; exact R.1, R.2.1⟩
          case measure => go_light; omega
      · have hbit : ((q : Int) % 2 == 1) = false := by have : (q : Int) % 2 = 0 := by omega
                                                       rw [this]; rfl
        have g2 := mount_none n j (by rw [hq]; exact hbo)
        have g3 := mt_none d n (by rw [hj, hq]; exact hbo)
        rw [← hf] at g2
        have HX : Hid (fl = n / pw j * pw j ∧ mt (d + 1) n = mt d n ∧ 41 - (d + 1) = j ∧ (j : Int) - 1 = 40 - ((d + 1 : Nat) : Int)) := ⟨g2, g3, hd42, hjj⟩
        have HB : Hid (Below w.heap.size w wr) := hb
        clear hn g2 g3 hf hd41 hd42 hj ej hbo hq hml hsz hb hjj
        go_wp2
        go_roundg (41 - (d + 1))
        case rel =>
          go_light
          obtain ⟨x1, x2, x3, x4⟩ := HX.out
          refine ⟨d + 1, fl, by omega, rfl, by rw [x4], rfl, by rw [x3]; exact x1, by rw [x2]; exact hown, HB.out⟩
        case measure => go_light; omega
    · obtain rfl : d = 41 := by omega
      have HB : Hid (Below w.heap.size w wr) := hb
      have HO : Hid (OwnB wr w.heap.size u3 (mt 41 n)) := hown
      clear hd hlt hf hb hown hn
      go_wp2
      go_ret
      exact ⟨_, rfl, HO.out, HB.out⟩
theorem mount_any (n : Nat) (w : World) : ∃ L, (∀ b ∈ L, b.1 ≤ 40 ∧ b.2 < pw (40 - b.1)) ∧ L.map (fun b => at' b.1 b.2) = pks n ∧ L.length ≤ 41 ∧
    Calls Try.prog 32 #[.int .u64 n] w fun e w' => ∃ v, e = .returned v ∧ OwnB w' w.heap.size v L ∧ Below w.heap.size w w' := by
  by_cases h : n ≤ 2 ^ 40
  · refine ⟨mt 41 n, mt_may 41 n (Nat.le_refl _) h, ?_, ?_, mount_yes n w h⟩
    · rw [pks, if_pos h]; exact mt_pk 41 n
    · rw [mt_len]; exact pk_len 41 n
  · refine ⟨[], (fun b hb => by cases hb), ?_, Nat.zero_le _, mount_no n w (by omega)⟩
    rw [pks, if_neg h]; rfl
theorem ownB_shape {w : World} {B : Nat} {v : Value} {l : List (Nat × Nat)} (h : OwnB w B v l) : ∃ ao g n cap, v = .slice ao n cap ∧ l.length = n ∧ (0 < n → ao = some ⟨g, 0, none⟩) ∧
    ∀ (j a b : Nat), l[j]? = some (a, b) → w.cell? ⟨g, 2 * j, none⟩ = some (.int .i64 (a : Int)) ∧ w.cell? ⟨g, 2 * j + 1, none⟩ = some (.int .u64 (b : Int)) := by
  have h0 := h
  obtain ⟨h1, h2⟩ := h
  rcases h2 with ⟨rfl, h2⟩ | ⟨g, cap, cur, rfl, hg, hh, hc⟩
  · refine ⟨none, 0, 0, 0, rfl, h2, fun h => absurd h (by omega), fun j a b hj => ?_⟩
    have := (List.getElem?_eq_some_iff.1 hj).1
    omega
  · refine ⟨some ⟨g, 0, none⟩, g, l.length, cap, rfl, rfl, fun _ => rfl, fun j a b hj => ?_⟩
    have hcl := h0.cells (g := g) rfl
    obtain ⟨e1, e2⟩ := cB_get l j a b hj
    have f1 := hcl _ _ e1
    have f2 := hcl _ _ e2
    rw [Addr.add_mid, Nat.zero_add] at f1 f2
    exact ⟨f1, f2⟩
theorem two_cells {w w' : World} {g j : Nat} {a b : Value} (hb : Below w.heap.size w w') (h : w.cell? ⟨g, 2 * j, none⟩ = some a ∧ w.cell? ⟨g, 2 * j + 1, none⟩ = some b) : w'.cell? ⟨g, 2 * j, none⟩ = some a ∧ w'.cell? ⟨g, 2 * j + 1, none⟩ = some b :=
  ⟨(hb.cell (p := ⟨g, 2 * j, none⟩) (World.block_lt_of_cell? w _ h.1)).trans h.1, (hb.cell (p := ⟨g, 2 * j + 1, none⟩) (World.block_lt_of_cell? w _ h.2)).trans h.2⟩
theorem own_nextE {w w' : World} {B : Nat} {v : Value} {l : List Nat} (h : Own w B v l) (hb : Below w.heap.size w w') : Own w' B v l := by
  obtain ⟨h1, h2⟩ := h
  refine ⟨h1, ?_⟩
  rcases h2 with h2 | ⟨g, cap, cur, hv, hg, hh, h3⟩
  · exact .inl h2
  · exact .inr ⟨g, cap, cur, hv, hg, (hb.block g (by have := (Array.getElem?_eq_some_iff.1 hh).1; exact this)).trans hh, h3⟩
theorem own_monoE {w : World} {B B' : Nat} {v : Value} {l : List Nat} (h : Own w B v l) (hB : B' ≤ B) : Own w B' v l := by
  obtain ⟨h1, h2⟩ := h
  refine ⟨h1, ?_⟩
  rcases h2 with h2 | ⟨g, cap, cur, hv, hg, h3⟩
  · exact .inl h2
  · exact .inr ⟨g, cap, cur, hv, by omega, h3⟩
theorem rpeaks_any (n : Nat) (w : World) :
    Calls Try.prog 22 #[.int .u64 n] w fun e w' => ∃ v, e = .returned v ∧ Own w' w.heap.size v (pks n) ∧ Below w.heap.size w w' := by
  obtain ⟨i0, hi, hz0, hz1, hz2⟩ := info_parts Try.infoU
  obtain ⟨L, hL1, hL2, hL3, HM⟩ := mount_any n w
  have HLL : Hid ((∀ b ∈ L, b.1 ≤ 40 ∧ b.2 < pw (40 - b.1)) ∧ L.map (fun b => at' b.1 b.2) = pks n ∧ L.length ≤ 41) := ⟨hL1, hL2, hL3⟩
  clear hL1 hL2 hL3
  go_enter Try.func22, Try.ntmps22
  go_upto_region 3 with ((go_at_call 32; with_reducible refine HM.mono ?_; rintro e w1 ⟨v, rfl, ho, hb⟩))
  obtain ⟨ao, gm, m, cap, rfl, hm, hao, hcell⟩ := ownB_shape ho
  have HMB : Hid (Below w.heap.size w w1 ∧ L.length = m ∧ (0 < m → ao = some ⟨gm, 0, none⟩) ∧ ∀ (j a b : Nat), L[j]? = some (a, b) → w1.cell? ⟨gm, 2 * j, none⟩ = some (.int .i64 (a : Int)) ∧ w1.cell? ⟨gm, 2 * j + 1, none⟩ = some (.int .u64 (b : Int))) := ⟨hb, hm, hao, hcell⟩
  clear ho hb hm hao hcell HM
  go_wp2
  go_loopg [3, 5] m (fun g v i wr => ∃ k : Nat, k ≤ m ∧ g = m - k ∧ i = .int .i64 (k : Int) ∧ Own wr w1.heap.size v ((L.take k).map (fun b => at' b.1 b.2)) ∧ Below w1.heap.size w1 wr)
  case atStart =>
    go_light
    exact ⟨0, Nat.zero_le _, rfl, rfl, World.ownsRow_nil _ _ _ _, Below.refl _ _⟩
  case round =>
    obtain ⟨k, hk, rfl, rfl, hown, hb1⟩ := hrel
    obtain ⟨y1, y2, y3, y4⟩ := HMB.out
    obtain ⟨z1, z2, z3⟩ := HLL.out
    have hk0 : (0 : Int) ≤ (k : Int) := Int.natCast_nonneg _
    by_cases hlt : k < m
    · obtain rfl := y3 (by omega)
      have hk' : k < L.length := by omega
      obtain ⟨h, q, hq⟩ : ∃ h q, L[k] = (h, q) := ⟨_, _, rfl⟩
      have hget : L[k]? = some (h, q) := by rw [List.getElem?_eq_getElem hk', hq]
      obtain ⟨c0, c1⟩ := two_cells hb1 (y4 k h q hget)
      rw [Nat.mul_comm 2 k] at c0 c1
      have hmem := z1 (h, q) (by rw [← hq]; exact List.getElem_mem hk')
      have HO := fun w' => rof_yes h q w' hmem.1 hmem.2
      have htk : (L.take (k + 1)).map (fun b => at' b.1 b.2) = (L.take k).map (fun b => at' b.1 b.2) ++ [at' h q] := by
        rw [List.take_succ_eq_append_getElem hk', List.map_append, hq]; rfl
      have hlen : ((L.take k).map (fun b => at' b.1 b.2)).length ≤ 41 := by rw [List.length_map, List.length_take]; omega
      generalize (L.take k).map (fun b => at' b.1 b.2) = pre at *
      have hd : (k : Int) < (m : Int) := by omega
      have hk6 : (k : Int) < 64 := by omega
      obtain ⟨x, hx⟩ : ∃ x, at' h q = x := ⟨_, rfl⟩
      rw [hx] at htk
      simp only [hx] at HO
      have HX : Hid ((L.take (k + 1)).map (fun b => at' b.1 b.2) = pre ++ [x] ∧ Below w1.heap.size w1 wr ∧ pre.length ≤ 41 ∧ k + 1 ≤ m) := ⟨htk, hb1, hlen, by omega⟩
      have HO' : ∀ w', Calls Try.prog 19 #[.agg #[.int .i64 (h : Int), .int .u64 (q : Int)]] w' fun e w'' => e = .returned (.tuple #[.int .u64 (x : Int), .bool true]) ∧ Below w'.heap.size w' w'' := HO
      clear y1 y2 y3 y4 z1 z2 z3 hk hlt hk' hq hget hmem HO htk hlen hx hb1 HMB HLL
      go_upto_region 7 with ((go_at_call 19; with_reducible refine (HO' _).mono ?_; rintro e w2 ⟨rfl, hb2⟩))
      have o2 := own_nextE hown hb2
      have B2 : Hid (Below w1.heap.size w1 w2 ∧ w1.heap.size ≤ w2.heap.size) := ⟨bnext HX.out.2.1 hb2, (bnext HX.out.2.1 hb2).size⟩
      clear hown hb2 c0 c1 HO'
      go_wp2_with (at_builtin; refine wpList_append_own _ rfl _ _ 35 rfl w1.heap.size 22 i0 (.int .u64 0) 1 8 Try.underlying35 hi hz0 hz1 hz2 rfl (by decide) _ _ _ rfl (o2.alloc _) ⟨w2.heap.size, 0, none⟩ 1 1 [.int .u64 (x : Int)] rfl rfl ?c1 ?c2 ?c3 ?c4 ?c5 ?_)
      case c1 =>
        intro j u hj
        match j, hj with
        | 0, hj => simp at hj; subst hj; simp [Addr.add]
      case c2 => intro u hu; simp at hu; subst hu; rfl
      case c3 => have := HX.out.2.2.1; unfold maxLen; omega
      case c4 => have := HX.out.2.2.1; omega
      case c5 => have := B2.out.2; simp; omega
      · intro v' w3 hown' hgrow _
        have R := own_step B2.out.1 B2.out.2 o2 hown' hgrow
        clear hown' hgrow o2
        go_wp2
        go_roundg (m - (k + 1))
        case rel =>
          go_light
          obtain ⟨x1, x2, x3, x4⟩ := HX.out
          refine ⟨k + 1, x4, rfl, by go_num, by rw [x1]; exact R.1, R.2.1⟩
        case measure => go_light; have := HX.out.2.2.2; omega
    · obtain rfl : k = m := by omega
      have hd : ¬ (k : Int) < (k : Int) := by omega
      have e : L.take k = L := List.take_of_length_le (by omega)
      rw [e, z2] at hown
      have HO : Hid (Own wr w.heap.size u3 (pks n)) := own_monoE hown y1.size
      have HB : Hid (Below w.heap.size w wr) := bnext y1 hb1
      clear y1 y2 y3 y4 z1 z2 z3 hk hlt e hown hb1 HMB HLL
      go_wp2
      go_ret
      exact ⟨_, rfl, HO.out, HB.out⟩
/-- Nodes, Leaf and Of: program and reference answer alike. -/
theorem nodes_both (n : Nat) : ∃ (x : Nat) (u : Bool),
    (∀ w, Calls Try.prog 14 #[.int .u64 n] w fun e w' => e = .returned (.tuple #[.int .u64 (x : Int), .bool u]) ∧ w = w') ∧
    (∀ w, Calls Try.prog 15 #[.int .u64 n] w fun e w' => e = .returned (.tuple #[.int .u64 (x : Int), .bool u]) ∧ w = w') := by
  by_cases h : n ≤ 2 ^ 40
  · exact ⟨N n, true, fun w => (nodes_yes n w h).mono fun _ _ h => ⟨h.1, h.2.symm⟩, fun w => rnodesN_yes n w h⟩
  · exact ⟨0, false, fun w => (nodes_no n w (by omega)).mono fun _ _ h => ⟨h.1, h.2.symm⟩, fun w => rnodesN_no n w (by omega)⟩
theorem leaf_both (n : Nat) : ∃ (x : Nat) (u : Bool),
    (∀ w, Calls Try.prog 16 #[.int .u64 n] w fun e w' => e = .returned (.tuple #[.int .u64 (x : Int), .bool u]) ∧ w = w') ∧
    (∀ w, Calls Try.prog 17 #[.int .u64 n] w fun e w' => e = .returned (.tuple #[.int .u64 (x : Int), .bool u]) ∧ Below w.heap.size w w') := by
  by_cases h : n < 2 ^ 40
  · exact ⟨N n, true, fun w => (leaf_yes n w h).mono fun _ _ h => ⟨h.1, h.2.symm⟩, fun w => rleaf_yes n w h⟩
  · exact ⟨0, false, fun w => (leaf_no n w (by omega)).mono fun _ _ h => ⟨h.1, h.2.symm⟩, fun w => rleaf_no n w (by omega)⟩
theorem of_both (h : Int) (k : Nat) : ∃ (x : Nat) (u : Bool),
    (∀ w, Calls Try.prog 18 #[.agg #[.int .i64 h, .int .u64 (k : Int)]] w fun e w' => e = .returned (.tuple #[.int .u64 (x : Int), .bool u]) ∧ Below w.heap.size w w') ∧
    (∀ w, Calls Try.prog 19 #[.agg #[.int .i64 h, .int .u64 (k : Int)]] w fun e w' => e = .returned (.tuple #[.int .u64 (x : Int), .bool u]) ∧ Below w.heap.size w w') := by
  by_cases hm : May h k
  · obtain ⟨m1, m2, m3⟩ := hm
    obtain ⟨j, rfl⟩ : ∃ j : Nat, h = (j : Int) := ⟨h.toNat, by omega⟩
    have m3' : k < pw (40 - j) := by simpa using m3
    exact ⟨at' j k, true, fun w => of_yes j k w (by omega) m3', fun w => rof_yes j k w (by omega) m3'⟩
  · exact ⟨0, false, fun w => of_no h k w hm, fun w => rof_no h k w hm⟩
set_option maxHeartbeats 2000000 in
set_option maxRecDepth 100000 in
theorem numbers_walk (n : Nat) (h : Int) (k : Nat) (w : World) :
    Calls Try.prog 4 #[.int .u64 n, bz h k] w fun e w' => e = .returned (.bool true) ∧ Below w.heap.size w w' := by
  have HA := fun w' => alive_any w'
  obtain ⟨x1, u1, N1, N2⟩ := nodes_both n
  obtain ⟨x2, u2, L1, L2⟩ := leaf_both n
  obtain ⟨x3, u3, O1, O2⟩ := of_both h k
  have P1 := fun w' => peaks_any n w'
  have P2 := fun w' => rpeaks_any n w'
  generalize pks n = L at *
  go_enter Try.func4, Try.ntmps4
  go_upto_region 7 with (first
    | (go_at_call 5; with_reducible refine (HA _).mono ?_; rintro e w1 ⟨rfl, hb1⟩)
    | (go_at_call 14; with_reducible refine (N1 _).mono ?_; rintro e w2 ⟨rfl, rfl⟩)
    | (go_at_call 15; with_reducible refine (N2 _).mono ?_; rintro e w2 ⟨rfl, rfl⟩)
    | (go_at_call 16; with_reducible refine (L1 _).mono ?_; rintro e w2 ⟨rfl, rfl⟩)
    | (go_at_call 17; with_reducible refine (L2 _).mono ?_; rintro e w3 ⟨rfl, hb3⟩))
  have HK := ((Kp.new w h k 25).next hb1).next hb3
  obtain ⟨c0, c1⟩ := HK.two.at0
  clear HA N1 N2 L1 L2 hb1 hb3
  go_upto_region 9 with (first
    | (go_at_call 18; with_reducible refine (O1 _).mono ?_; rintro e w4 ⟨rfl, hb⟩; replace HK := HK.next hb; clear hb c0 c1; obtain ⟨c0, c1⟩ := HK.two.at0)
    | (go_at_call 19; with_reducible refine (O2 _).mono ?_; rintro e w5 ⟨rfl, hb⟩; replace HK := HK.next hb; clear hb c0 c1))
  clear O1 O2
  go_wp2_with (first
    | (go_at_call 21; with_reducible refine (P1 _).mono ?_; rintro e w6 ⟨v6, rfl, o6, hb6⟩)
    | (go_at_call 22; with_reducible refine (P2 _).mono ?_; rintro e w7 ⟨v7, rfl, o7, hb7⟩)
    | (go_at_call 20; refine (same_own _ _ _ _ _ _ _ (own_nextE o6 hb7) o7).mono ?_; rintro e w8 ⟨rfl, hb8⟩))
  go_ret
  exact ⟨by simp, bnext (bnext (bnext HK.below hb6) hb7) hb8⟩
theorem numbers_row (a h k : Int) (w0 : (Lit.int .u64 a).wf = true) (w1 : (Lit.int .u64 k).wf = true) (w : World) :
    Calls Try.prog 4 #[.int .u64 a, .agg #[.int .i64 h, .int .u64 k]] w fun e w' => e = .returned (.bool true) ∧ Below w.heap.size w w' := by
  obtain ⟨p, rfl, _⟩ := u64_nat w0
  obtain ⟨m, rfl, _⟩ := u64_nat w1
  exact numbers_walk p h m w
end Go.Proofs.Ytilflepomeoffab
