/-
  Own work: PRefC, PRefD.
-/
import Derived.Test.YtdocjikpcbmcgaaGreatDoorQs42
namespace Go.Proofs.YtdocjikpcbmcgaaGreatDoor
open Go.RowKit
attribute [local go_sem ↓] Go.wp_at_zero Go.wp_at_succ
def gen {α : Type} (f : Nat → α) (n : Nat) : Nat → List α
  | 0 => []
  | h + 1 => (if n / 2 ^ h % 2 = 1 then [f h] else []) ++ gen f n h
theorem gen_pks (c : Nat) (L : List ByteArray) : ∀ h, gen (fun s => nd c L s (L.length / 2 ^ s - 1)) L.length h = pks c L h
  | 0 => rfl
  | h + 1 => by rw [gen, pks, gen_pks c L h]
theorem gen_map {α β : Type} (g : α → β) (f : Nat → α) (n : Nat) : ∀ h, (gen f n h).map g = gen (fun s => g (f s)) n h
  | 0 => rfl
  | h + 1 => by
    rw [gen, gen, List.map_append, gen_map g f n h]
    by_cases e : n / 2 ^ h % 2 = 1
    · rw [if_pos e, if_pos e]; rfl
    · rw [if_neg e, if_neg e]; rfl
theorem gen_none {α : Type} {f : Nat → α} {n h : Nat} (e : n / 2 ^ h % 2 ≠ 1) : gen f n (h + 1) = gen f n h := by rw [gen, if_neg e]; rfl
theorem gen_one {α : Type} {f : Nat → α} {n h : Nat} (e : n / 2 ^ h % 2 = 1) : gen f n (h + 1) = f h :: gen f n h := by rw [gen, if_pos e]; rfl
theorem gen_skip {α : Type} {f : Nat → α} {n s : Nat} : ∀ d, n % 2 ^ (s + d) < 2 ^ s → gen f n (s + d) = gen f n s
  | 0, _ => rfl
  | d + 1, h => by
    have hs : 2 ^ s ≤ 2 ^ (s + d) := Nat.pow_le_pow_right (by decide) (by omega)
    have h2 : n % 2 ^ (s + (d + 1)) / 2 ^ (s + d) % 2 ≠ 1 := below_two (by omega)
    rw [bit_mod (by omega)] at h2
    rw [show s + (d + 1) = s + d + 1 by omega, gen_none h2]
    refine gen_skip d ?_
    have : n % 2 ^ (s + d) = n % 2 ^ (s + (d + 1)) % 2 ^ (s + d) := by
      rw [show s + (d + 1) = (s + d) + 1 by omega, Nat.pow_succ, Nat.mod_mul_right_mod]
    rw [this, Nat.mod_eq_of_lt (Nat.lt_of_lt_of_le h hs)]
    exact h
theorem gen_next {α : Type} {f : Nat → α} {n g s : Nat} (h1 : 2 ^ s ≤ n % 2 ^ g) (h2 : n % 2 ^ g < 2 ^ (s + 1)) : gen f n g = f s :: gen f n s := by
  obtain ⟨hsg, e2, e1, _⟩ := top_bit h1 h2
  obtain ⟨d, rfl⟩ : ∃ d, g = s + 1 + d := ⟨g - s - 1, by omega⟩
  rw [gen_skip d (by rw [e1, ← e1]; exact h2), gen_one e2]
theorem gen_zero {α : Type} {f : Nat → α} {n g : Nat} (h : n % 2 ^ g = 0) : gen f n g = [] := by
  have := gen_skip (f := f) (n := n) (s := 0) g (by rw [Nat.zero_add, h]; decide)
  rw [Nat.zero_add] at this
  rw [this, gen]
theorem gen_len {α : Type} (f : Nat → α) (n : Nat) : ∀ h, (gen f n h).length ≤ h
  | 0 => Nat.le_refl _
  | h + 1 => by
    have := gen_len f n h
    by_cases e : n / 2 ^ h % 2 = 1
    · rw [gen_one e, List.length_cons]; omega
    · rw [gen_none e]; omega
theorem gen_mem {n : Nat} : ∀ h s, s ∈ gen id n h → s < h ∧ n / 2 ^ s % 2 = 1
  | 0, s, hs => by cases hs
  | h + 1, s, hs => by
    by_cases e : n / 2 ^ h % 2 = 1
    · rw [gen_one e] at hs
      rcases List.mem_cons.1 hs with rfl | hs
      · exact ⟨Nat.lt_succ_self _, e⟩
      · have := gen_mem h s hs; exact ⟨by omega, this.2⟩
    · rw [gen_none e] at hs
      have := gen_mem h s hs; exact ⟨by omega, this.2⟩
def cP : List (Nat × Nat) → List Value
  | [] => []
  | p :: r => .int .i64 (p.1 : Int) :: .int .i64 (p.2 : Int) :: cP r
theorem cP_app (l m : List (Nat × Nat)) : cP (l ++ m) = cP l ++ cP m := by
  induction l with
  | nil => rfl
  | cons b r ih => simp [cP, ih]
theorem cP_get (l : List (Nat × Nat)) (j : Nat) (hj : j < l.length) : (cP l)[j * 2]? = some (.int .i64 ((l.getD j (0, 0)).1 : Int)) ∧ (cP l)[j * 2 + 1]? = some (.int .i64 ((l.getD j (0, 0)).2 : Int)) := by
  induction l generalizing j with
  | nil => simp at hj
  | cons b r ih =>
    cases j with
    | zero => exact ⟨rfl, rfl⟩
    | succ j =>
      have := ih j (by simpa using hj)
      rw [show (j + 1) * 2 = j * 2 + 1 + 1 by omega]
      simpa [cP] using this
theorem Tryz.infoP : (Tryz.prog.info? 101).map (fun i => (i.zero, i.size, i.bytes)) = some (some (.agg #[.int .i64 0, .int .i64 0]), 2, 16) := by kernel_rfl
def OwnP (w : World) (B : Nat) (v : Value) (l : List (Nat × Nat)) : Prop := w.ownsRow B 101 2 v l.length (cP l)
theorem ownP_next {w W : World} {B : Nat} {v : Value} {l : List (Nat × Nat)} (h : OwnP w B v l) (hb : Below w.heap.size w W) : OwnP W B v l := by
  obtain ⟨h1, h2⟩ := h
  refine ⟨h1, ?_⟩
  rcases h2 with h2 | ⟨g, cap, cur, rfl, hg, hh, r⟩
  · exact .inl h2
  · exact .inr ⟨g, cap, cur, rfl, hg, by rw [hb.block g (Array.getElem?_eq_some_iff.1 hh).1]; exact hh, r⟩
theorem ownP_nil (w : World) (B : Nat) : OwnP w B (.slice none 0 0) [] := ⟨rfl, .inl ⟨rfl, rfl⟩⟩
theorem ownP_cell {w : World} {B g n cap : Nat} {l : List (Nat × Nat)} (h : OwnP w B (.slice (some ⟨g, 0, none⟩) n cap) l) {j : Nat} (hj : j < l.length) : w.cell? ⟨g, j * 2, none⟩ = some (.int .i64 ((l.getD j (0, 0)).1 : Int)) ∧ w.cell? ⟨g, j * 2 + 1, none⟩ = some (.int .i64 ((l.getD j (0, 0)).2 : Int)) := by
  obtain ⟨k1, k2⟩ := cP_get l j hj
  have h1 := World.ownsRow.cells h (g := g) rfl _ _ k1
  have h2 := World.ownsRow.cells h (g := g) rfl _ _ k2
  rw [Addr.add_mid, Nat.zero_add] at h1 h2
  exact ⟨h1, h2⟩
theorem wpList_append_P (w : World) {ops : Array Oper} {rest : List Oper} {o : Oper} {a : Act} {Q : Exit → Act → World → Prop}
    (hg : o.guard = none) (s x : Operand) (hop : o.op = Op.call { callee := Callee.builtin Builtin.append, args := #[s, x], argTypes := #[99, 99] })
    (B : Nat) (v : Value) (L : List (Nat × Nat)) (w0 : World) (p q : Nat) (hw : w = w0.alloc (.cells #[.int .i64 (p : Int), .int .i64 (q : Int)] 101)) (hs : a.eval s = v) (hown : OwnP w B v L) (hx : a.eval x = .slice (some ⟨w0.heap.size, 0, none⟩) 1 1)
    (hlen : L.length + 1 ≤ 1048576) (hB : B ≤ w.heap.size)
    (hK : ∀ v' w', OwnP w' B v' (L ++ [(p, q)]) → Below B w w' → wpList Tryz.prog ops Q rest (a.put o.dst v') w') : wpList Tryz.prog ops Q (o :: rest) a w := by
  obtain ⟨i0, hi, hz0, hz1, hz2⟩ := info_parts Tryz.infoP
  have hlt : ∀ k, v.ownBlock = some k → B ≤ k := by
    obtain ⟨_, h2⟩ := hown
    rcases h2 with ⟨rfl, _⟩ | ⟨g, cp, cur, rfl, hg, _⟩
    · intro k hk; cases hk
    · intro k hk; cases hk; exact hg
  have hnews : ∀ j u, ([.int .i64 (p : Int), .int .i64 (q : Int)] : List Value)[j]? = some u → w.cell? ((⟨w0.heap.size, 0, none⟩ : Addr).add j) = some u := by
    subst hw
    exact World.news_of_block (cs := #[.int .i64 (p : Int), .int .i64 (q : Int)]) (t := 101) (fr := (0, 0)) (heap_alloc_new w0 _)
  refine wpList_append_own w hg s x _ hop B 101 i0 (.agg #[.int .i64 0, .int .i64 0]) 2 16 Tryz.underlying99 hi hz0 hz1 hz2 rfl (by decide) _ _ _ hs hown ⟨w0.heap.size, 0, none⟩ 1 1 [.int .i64 (p : Int), .int .i64 (q : Int)] hx rfl hnews (by intro u hu; simp at hu; rcases hu with rfl | rfl <;> rfl) (by unfold maxLen; omega) (by omega) hB ?_
  intro v' w' h1 h2 _
  refine hK v' w' ?_ ((Below.refl _ _).grown h2 hB hlt)
  rw [OwnP, List.length_append, cP_app]; exact h1
def mtP (n s : Nat) : Nat × Nat := ((n / 2 ^ s - 1) * 2 ^ s, 2 ^ s)
set_option maxRecDepth 100000 in
set_option maxHeartbeats 1000000 in
theorem mountains_any (w : World) (n : Nat) (hn : n ≤ 1099511627776) (P : List (Nat × Nat)) (hP : Hid (gen (mtP n) n 41 = P)) :
    Calls Tryz.prog 54 #[.int .i64 (n : Int)] w fun e w' => ∃ v, e = .returned v ∧ OwnP w' w.heap.size v P ∧ Below w.heap.size w w' := by
  have hb := Below.refl w.heap.size w
  have HS : Hid ([] ++ gen (mtP n) n 41 = P) := by rw [List.nil_append]; exact hP
  have HPl : Hid (P.length ≤ 41) := by show _ ≤ _; rw [← hP.out]; exact gen_len _ _ _
  have HN : Hid (n ≤ 1099511627776) := hn
  have hn' : (n : Int) ≤ 1099511627776 := by omega
  clear hn hP
  go_enter Tryz.func54, Tryz.ntmps54
  go_wp2
  go_loopg [3, 4] n (fun gg v a wr => ∃ (g t : Nat) (A : List (Nat × Nat)), t ≤ n ∧ gg = n - t ∧ a = .int .i64 (t : Int) ∧ Hid (t + n % 2 ^ g = n ∧ A ++ gen (mtP n) n g = P) ∧ OwnP wr w.heap.size v A ∧ Below w.heap.size w wr)
  case atStart =>
    go_light
    exact ⟨41, 0, [], Nat.zero_le _, rfl, rfl, ⟨by have := HN.out; omega, HS.out⟩, ownP_nil _ _, hb⟩
  case round =>
    clear hb HS
    obtain ⟨g, t, A, htn, rfl, rfl, HE, ho, hb⟩ := hrel
    have ht0 : (0 : Int) ≤ (t : Int) := Int.natCast_nonneg _
    by_cases hlt : t < n
    · have hlt' : (t : Int) < (n : Int) := by omega
      have HX : Hid (OwnP wr w.heap.size u3 A ∧ Below w.heap.size w wr ∧ t < n) := ⟨ho, hb, hlt⟩
      obtain ⟨m, hm⟩ : ∃ m, n - t = m := ⟨_, rfl⟩
      have em : IntKind.i64.wrap ((n : Int) - (t : Int)) = (m : Int) := by rw [IntKind.wrap_i64]; omega
      have HMn : Hid (t + m = n) := by show _ = _; omega
      clear ho hb htn hlt hm
      go_wp2
      go_loopg [5] 64 (fun gg zv wx => ∃ (h z : Nat), h ≤ 64 ∧ gg = 64 - h ∧ zv = .int .i64 (z : Int) ∧ Hid (2 ^ h = z ∧ z ≤ m) ∧ wr = wx)
      case atStart =>
        go_light
        exact ⟨0, 1, by omega, rfl, rfl, ⟨rfl, by have := HX.out.2.2; have := HMn.out; omega⟩, rfl⟩
      case round =>
        obtain ⟨h, z, hh64, rfl, rfl, HH, rfl⟩ := hrel
        have hz := HH.out
        have hmm := HMn.out
        have hnn := HN.out
        have hh40 : h ≤ 40 := by
          apply Nat.le_of_not_lt
          intro h9
          have := Nat.pow_le_pow_right (n := 2) (by decide) (show 41 ≤ h from h9)
          omega
        obtain ⟨q, hq⟩ : ∃ q, 2 * z = q := ⟨_, rfl⟩
        have e1 : IntKind.i64.wrap (2 * (z : Int)) = (q : Int) := by rw [IntKind.wrap_i64]; omega
        by_cases hgo : q ≤ m
        · have hgo' : (q : Int) ≤ (m : Int) := by omega
          have HY : Hid (2 ^ (h + 1) = q ∧ q ≤ m ∧ h ≤ 40) := ⟨by rw [Nat.pow_succ, hz.1]; omega, hgo, hh40⟩
          clear HH hq hgo hh64 hh40 hz hmm hnn
          go_wp2
          go_roundg (64 - (h + 1))
          case rel =>
            go_light
            exact ⟨h + 1, q, by have := HY.out.2.2; omega, rfl, rfl, ⟨HY.out.1, HY.out.2.1⟩, rfl⟩
          case measure => go_light; have := HY.out.2.2; omega
        · have hgo' : ¬ ((q : Int) ≤ (m : Int)) := by omega
          have hE := HE.out
          have hg1 : 2 ^ h ≤ n % 2 ^ g := by omega
          have hg2 : n % 2 ^ g < 2 ^ (h + 1) := by rw [Nat.pow_succ]; omega
          obtain ⟨hsg, hbit, hm1, hm2⟩ := top_bit hg1 hg2
          obtain ⟨hat, hge⟩ := mount_at hbit
          have hat2 : (n / 2 ^ h - 1) * 2 ^ h = t := by omega
          have e7 : IntKind.i64.wrap ((t : Int) + (z : Int)) = (t : Int) + (z : Int) := by rw [IntKind.wrap_i64]; omega
          have HNx : Hid (t + z ≤ n ∧ t + z + n % 2 ^ h = n ∧ A ++ [(t, z)] ++ gen (mtP n) n h = P ∧ 1 ≤ z) := by
            refine ⟨by omega, by omega, ?_, ?_⟩
            · have h3 := gen_next (f := mtP n) hg1 hg2
              rw [mtP, hat2, hz.1] at h3
              rw [← hE.2, h3]; simp
            · rw [← hz.1]; exact Nat.two_pow_pos h
          clear hgo hg1 hg2 hsg hbit hm1 hm2 hat hge hat2 hE HE HH hz hmm hnn hh40 hh64 hq
          go_wp2_with (at_builtin; refine wpList_append_P _ rfl _ _ rfl w.heap.size _ A wr t z rfl rfl (ownP_next HX.out.1 (bal (Below.refl _ _) _)) rfl ?c1 ?c2 ?_)
          case c1 =>
            have h1 := congrArg List.length HNx.out.2.2.1
            have h2 := HPl.out
            simp at h1
            omega
          case c2 => have := HX.out.2.1.size; simp; omega
          intro v2 w6 h6 hb6
          have HY : Hid (OwnP w6 w.heap.size v2 (A ++ [(t, z)]) ∧ Below w.heap.size w w6) := ⟨h6, (bal HX.out.2.1 _).trans hb6⟩
          clear h6 hb6
          go_wp2
          go_roundg (n - (t + z))
          case rel =>
            go_light
            obtain ⟨k1, k2, k3, k4⟩ := HNx.out
            exact ⟨h, t + z, A ++ [(t, z)], k1, rfl, by go_num, ⟨k2, k3⟩, HY.out.1, HY.out.2⟩
          case measure => go_light; obtain ⟨k1, k2, k3, k4⟩ := HNx.out; have := HX.out.2.2; omega
    · obtain rfl : t = n := by omega
      have hlt' : ¬ ((t : Int) < (t : Int)) := by omega
      have HA : Hid (A = P) := by
        obtain ⟨k1, k2⟩ := HE.out
        rw [gen_zero (by omega), List.append_nil] at k2
        exact k2
      clear HE
      go_wp2
      go_ret
      exact ⟨_, rfl, by rw [← HA.out]; exact ho, hb⟩
end Go.Proofs.YtdocjikpcbmcgaaGreatDoor
namespace Go.Proofs.YtdocjikpcbmcgaaGreatDoor
open Go.RowKit
attribute [local go_sem ↓] Go.wp_at_zero Go.wp_at_succ
theorem take_snoc {α : Type} (d : α) (l : List α) (i : Nat) (h : i < l.length) : l.take i ++ [l.getD i d] = l.take (i + 1) := by
  rw [List.take_succ_eq_append_getElem h, List.getD_eq_getElem?_getD, List.getElem?_eq_getElem h]; rfl
theorem map_getD {α β : Type} (f : α → β) (d : α) (e : β) (l : List α) (i : Nat) (h : i < l.length) : (l.map f).getD i e = f (l.getD i d) := by
  simp [List.getD_eq_getElem?_getD, List.getElem?_eq_getElem h]
set_option maxRecDepth 100000 in
set_option maxHeartbeats 2000000 in
theorem rpeaks_any (w : World) (ht : Tr w) (k : Int) (ao : Option Addr) (b off len cap : Nat) (L : List ByteArray) (hr : RdS w ao b off len L) (hsz : ∀ s ∈ L, s.size ≤ 140737488351232) (hmx : len ≤ 1099511627776) (hc : len ≤ cap) (P : List ByteArray) (hP : Hid (pks (clk k) L 41 = P)) :
    Calls Tryz.prog 22 #[.int .i64 k, .slice ao len cap] w fun e w' => ∃ v, e = .returned v ∧ OwnS w' w.heap.size v P ∧ Below w.heap.size w w' := by
  obtain ⟨Hs, hHs⟩ : ∃ Hs, Hid (gen id len 41 = Hs) := ⟨_, rfl⟩
  obtain ⟨M, hM⟩ : ∃ M, Hid (gen (mtP len) len 41 = M) := ⟨_, rfl⟩
  have HMt := fun W => mountains_any W len hmx M hM
  have hLl := hr.hl
  have eM : M = Hs.map (mtP len) := by
    have h1 := gen_map (mtP len) id len 41
    rw [hHs.out] at h1
    rw [h1]; exact hM.out.symm
  have eP : P = Hs.map (fun s => nd (clk k) L s (len / 2 ^ s - 1)) := by
    have h1 := gen_map (fun s => nd (clk k) L s (len / 2 ^ s - 1)) id len 41
    have h2 := gen_pks (clk k) L 41
    rw [hHs.out] at h1
    rw [hLl] at h2
    rw [h1]; exact hP.out.symm.trans h2.symm
  have lH : Hs.length ≤ 41 := by rw [← hHs.out]; exact gen_len _ _ _
  have lM : M.length = Hs.length := by rw [eM]; simp
  have lP : P.length = Hs.length := by rw [eP]; simp
  have HT : Hid (Tr w ∧ RdS w ao b off len L ∧ (∀ s ∈ L, s.size ≤ 140737488351232) ∧ len ≤ 1099511627776 ∧ len ≤ cap) := ⟨ht, hr, hsz, hmx, hc⟩
  have HV : Hid (∀ i, i < Hs.length → ∃ s t z i', s ≤ 40 ∧ 2 ^ s = z ∧ M.getD i (0, 0) = (t, z) ∧ t + z ≤ len ∧ t = i' * 2 ^ s ∧ P.getD i ByteArray.empty = nd (clk k) L s i') := fun i hi => by
    obtain ⟨s, hs⟩ : ∃ s, Hs.getD i 0 = s := ⟨_, rfl⟩
    have hmem : s ∈ gen id len 41 := by
      rw [hHs.out, ← hs, List.getD_eq_getElem?_getD, List.getElem?_eq_getElem hi]; exact List.getElem_mem _
    obtain ⟨hs41, hbit⟩ := gen_mem 41 s hmem
    obtain ⟨hat, hge⟩ := mount_at hbit
    refine ⟨s, (len / 2 ^ s - 1) * 2 ^ s, 2 ^ s, len / 2 ^ s - 1, by omega, rfl, ?_, ?_, rfl, ?_⟩
    · rw [eM, map_getD _ 0 _ _ _ hi, hs, mtP]
    · have h5 := Nat.div_mul_le_self len (2 ^ s)
      rw [Nat.sub_mul, Nat.one_mul]
      have : 1 * 2 ^ s ≤ len / 2 ^ s * 2 ^ s := Nat.mul_le_mul_right _ hge
      omega
    · rw [eP, map_getD _ 0 _ _ _ hi, hs]
  have HSz : Hid (∀ s ∈ P, s.size ≤ 9223372036854775807) := fun s hs => by rw [← hP.out] at hs; rw [pks_size (clk_le k) _ _ s hs]; have := clk_le k; omega
  have hb := Below.refl w.heap.size w
  have HL : Hid (Hs.length ≤ 41 ∧ M.length = Hs.length ∧ P.length = Hs.length) := ⟨lH, lM, lP⟩
  clear ht hr hsz hmx hc hP hHs hM hLl eM eP lH lM lP
  go_enter Tryz.func22, Tryz.ntmps22
  go_wp2_with (go_at_call 54; with_reducible refine (HMt _).mono ?_; rintro e w1 ⟨vM, rfl, hoM, hb1⟩)
  clear HMt
  obtain ⟨q, hq⟩ : ∃ q, Hs.length = q := ⟨_, rfl⟩
  obtain ⟨aoM, cM, hvM, hoM2⟩ : ∃ aoM cM, vM = .slice aoM q cM ∧ (0 < q → ∃ g, aoM = some ⟨g, 0, none⟩ ∧ OwnP w1 w.heap.size (.slice (some ⟨g, 0, none⟩) q cM) M) := by
    have hl := HL.out.2.1
    rcases hoM.2 with ⟨hv, h0⟩ | ⟨g, cp, cur, hv, _⟩
    · refine ⟨none, 0, ?_, fun h => ?_⟩
      · rw [hv, show q = 0 by omega]
      · omega
    · refine ⟨some ⟨g, 0, none⟩, cp, ?_, fun _ => ⟨g, rfl, ?_⟩⟩
      · rw [hv, hl, hq]
      · have := hoM; rw [hv, hl, hq] at this; exact this
  subst hvM
  rw [hq] at HL HV
  have HO : Hid (0 < q → ∃ g, aoM = some ⟨g, 0, none⟩ ∧ OwnP w1 w.heap.size (.slice (some ⟨g, 0, none⟩) q cM) M) := hoM2
  have HB1 : Hid (Below w.heap.size w w1) := hb1
  have hq41 : (q : Int) ≤ 41 := by have := HL.out.1; omega
  clear hoM hoM2 hb1 hq
  go_loopg [6, 7] q (fun gg v i0 wr => ∃ i : Nat, i ≤ q ∧ gg = q - i ∧ i0 = .int .i64 (i : Int) ∧ OwnS wr w1.heap.size v (P.take i) ∧ Below w1.heap.size w1 wr)
  case atStart =>
    go_light
    exact ⟨0, Nat.zero_le _, rfl, rfl, owns_nil _ _, Below.refl _ _⟩
  case round =>
    obtain ⟨i, hi, rfl, rfl, ho, hb2⟩ := hrel
    have hi0 : (0 : Int) ≤ (i : Int) := Int.natCast_nonneg _
    by_cases hlt : i < q
    · have hlt' : (i : Int) < (q : Int) := by omega
      obtain ⟨g, rfl, hoM⟩ := HO.out (by omega)
      obtain ⟨s, t, z, i', hs40, hz, hM, htz, hti, hPi⟩ := HV.out i hlt
      obtain ⟨t1, t2, t3, t4, t5⟩ := HT.out
      have hz0 : 0 < z := by rw [← hz]; exact Nat.two_pow_pos s
      obtain rfl := t2.ptr (by omega)
      obtain ⟨x, hx⟩ : ∃ x, P.getD i ByteArray.empty = x := ⟨_, rfl⟩
      rw [hx] at hPi
      have HTr : Hid (∀ W, Below w1.heap.size w1 W → Calls Tryz.prog 55 #[.int .i64 k, .slice (some ⟨b, off + t, none⟩) z (cap - t)] W fun e w' => e = .returned (.string x) ∧ Below W.heap.size W w') := fun W hb => by
        refine rtree_any W (t1.next (bnext HB1.out hb)) k _ b (off + t) (cap - t) s z hs40 hz ((L.drop t).take z) ((t2.next (bnext HB1.out hb) (Nat.le_refl _)).cut t z (by omega)) (fun y hy => t3 y (List.mem_of_mem_drop (List.mem_of_mem_take hy))) x ?_
        show _ = _
        rw [hti, ← hz, nd_cut]; exact hPi.symm
      have hlM := HL.out
      have HK0 : Hid (∀ W, Below w1.heap.size w1 W → W.cell? ⟨g, i * 2, none⟩ = some (.int .i64 (t : Int)) ∧ W.cell? ⟨g, i * 2 + 1, none⟩ = some (.int .i64 (z : Int))) := fun W h => by
        have := ownP_cell (ownP_next hoM h) (j := i) (by omega)
        rw [hM] at this
        exact this
      have HY : Hid (OwnS wr w1.heap.size u6 (P.take i) ∧ Below w1.heap.size w1 wr ∧ P.take i ++ [x] = P.take (i + 1) ∧ i + 1 ≤ q ∧ q ≤ 41 ∧ (P.take i).length = i) := ⟨ho, hb2, by rw [← hx]; exact take_snoc _ _ _ (by omega), hlt, by omega, by rw [List.length_take]; omega⟩
      obtain ⟨y, hy⟩ : ∃ y, t + z = y := ⟨_, rfl⟩
      have e1 : IntKind.i64.wrap ((t : Int) + (z : Int)) = (y : Int) := by rw [IntKind.wrap_i64]; omega
      have s0 : (0 : Int) ≤ (t : Int) := Int.natCast_nonneg _
      have s1 : (t : Int) ≤ (y : Int) := by omega
      have s2 : (y : Int) ≤ (cap : Int) := by omega
      have s3 : ¬ (cap = t) := by omega
      have s4 : y - t = z := by omega
      have hd : Below w1.heap.size w1 wr.drew := (hb2).drew
      obtain ⟨i0, hi0', hz0', hz1, hz2⟩ := info_parts Tryz.infoS
      have HO2 : Hid (∀ W, Below wr.drew.heap.size wr.drew W → (W.alloc (.cells #[.string x] 9)).ownsRow w1.heap.size 9 1 u6 i ((P.take i).map Value.string)) := fun W h => by
        have := own_al (own_next HY.out.1 (bnext ((Below.refl _ _).drew) h) (Nat.le_refl _)) (.cells #[.string x] 9)
        rw [OwnS, HY.out.2.2.2.2.2] at this; exact this
      have HM1 : Hid (i + 1 ≤ maxLen ∧ (i + 1) * 16 ≤ 140737488355328) := by have := HY.out; refine ⟨?_, ?_⟩; unfold maxLen; omega; omega
      have HS0 : Hid (∀ W, Below wr.drew.heap.size wr.drew W → w1.heap.size ≤ (W.alloc (.cells #[.string x] 9)).heap.size) := fun W h => by have := (bnext hd h).size; simp; omega
      have HG : Hid (∀ w2 w3, Below wr.drew.heap.size wr.drew w2 → (w2.alloc (.cells #[.string x] 9)).grownBy w3 u6.ownBlock → Below w1.heap.size w1 w3) := fun w2 w3 h1 h2 => (bal (bnext hd h1) _).grown h2 (by have := (bnext hd h1).size; simp; omega) (fun q hq => (HY.out.1.lt q hq).1)
      have HK : Hid (∀ W, Below wr.drew.heap.size wr.drew W → W.cell? ⟨g, i * 2, none⟩ = some (.int .i64 (t : Int)) ∧ W.cell? ⟨g, i * 2 + 1, none⟩ = some (.int .i64 (z : Int))) := fun W h => HK0.out W (bnext hd h)
      have HK3 : Hid (∀ w2 w3, Below wr.drew.heap.size wr.drew w2 → (w2.alloc (.cells #[.string x] 9)).grownBy w3 u6.ownBlock → w3.cell? ⟨g, i * 2, none⟩ = some (.int .i64 (t : Int)) ∧ w3.cell? ⟨g, i * 2 + 1, none⟩ = some (.int .i64 (z : Int))) := fun w2 w3 h1 h2 => HK0.out w3 (HG.out w2 w3 h1 h2)
      have kk := HK0.out wr.drew hd
      have HD : Hid (Below w1.heap.size w1 wr.drew) := hd
      clear ho hb2 hoM hs40 hz hM htz hti hPi t1 t2 t3 t4 t5 hz0 hx hlM hi hlt hd hy
      go_upto_region 6 with (fail)
      go_region_held3 (fun w' => w'.cell? ⟨g, i * 2, none⟩ = some (.int .i64 (t : Int)) ∧ w'.cell? ⟨g, i * 2 + 1, none⟩ = some (.int .i64 (z : Int))) (first | assumption | (exact HK3.out _ _ hb2 hgrow) | (exact HK.out _ hb2) | (exact HK.out _ (bal hb2 _))) (first
        | (go_at_call 55; with_reducible refine (HTr.out _ HD.out).mono ?_; rintro e w2 ⟨rfl, hb2⟩)
        | (refine step_append_lies _ (by rfl) _ _ _ (by rfl) w1.heap.size 9 i0 _ 1 16 Tryz.underlying22 hi0' hz0' hz1 hz2 rfl (by omega) u6 i ((P.take i).map Value.string) (by rfl) (HO2.out _ hb2) ⟨w2.heap.size, 0, none⟩ 1 1 [.string x] (by rfl) (by rfl) (World.news_of_block (cs := #[.string x]) (t := 9) (fr := (0, 0)) (heap_alloc_new w2 _)) (by simp [Value.oneCell']) (by omega) HM1.out.1 HM1.out.2 (HS0.out _ hb2) (w2.heap.size + 1) (by simp) ?_; intro gg cap_1 w3 hown3 hgrow hat hlt3))
      have HZ : Hid (OwnS w3 w1.heap.size (.slice (some ⟨gg, 0, none⟩) (i + 1) cap_1) (P.take (i + 1)) ∧ Below w1.heap.size w1 w3) := ⟨by
        obtain ⟨y1, y2, y3, y4, y5, y6⟩ := HY.out
        rw [OwnS, ← y3, List.length_append, y6, List.map_append]; exact hown3, HG.out _ _ hb2 hgrow⟩
      clear hown3 hgrow hat hlt3 HG HK3 HK HK0 HTr HO2 HS0 kk
      go_wp2
      go_roundg (q - (i + 1))
      case rel =>
        go_light
        exact ⟨i + 1, HY.out.2.2.2.1, rfl, by go_num, HZ.out.1, HZ.out.2⟩
      case measure => go_light; have := HY.out.2.2.2.1; omega
    · obtain rfl : i = q := by omega
      have hlt' : ¬ ((i : Int) < (i : Int)) := by omega
      have HZ : Hid (OwnS wr w.heap.size u6 P ∧ Below w.heap.size w wr) := ⟨by
        rw [List.take_of_length_le (by have := HL.out; omega)] at ho
        exact World.ownsRow.mono ho HB1.out.size, bnext HB1.out hb2⟩
      clear ho hb2 hi hlt HO HV
      go_wp2
      go_ret
      exact ⟨_, rfl, HZ.out.1, HZ.out.2⟩
set_option maxRecDepth 100000 in
theorem rroot_bad (w : World) (k : Int) (hk : k < 1 ∨ 32 < k) (ao : Option Addr) (len cap n : Nat) :
    Calls Tryz.prog 9 #[.int .i64 k, .slice ao len cap, .int .u64 (n : Int)] w fun e w' => e = .returned (.tuple #[.agg #[.int .u64 0, .string ⟨#[]⟩], .int .i64 70]) ∧ Below w.heap.size w w' := by
  have HC := fun W => refcheck_any W k
  rw [chk_no hk] at HC
  have hb := Below.refl w.heap.size w
  clear hk
  go_enter Tryz.func9, Tryz.ntmps9
  go_wp2_with (go_at_call 20; with_reducible refine (HC _).mono ?_; rintro e w1 ⟨rfl, rfl⟩)
  refine bodyPost_ret (v := .tuple #[.agg #[.int .u64 0, .string ⟨#[]⟩], .int .i64 70]) (by simp [results, Tryz.results9, go_sem]) rfl ⟨rfl, ?_⟩
  exact bal hb _
set_option maxRecDepth 100000 in
theorem rroot_ok (w : World) (ht : Tr w) (k : Int) (h1 : 1 ≤ k) (h2 : k ≤ 32) (ao : Option Addr) (b off len cap : Nat) (L : List ByteArray) (hr : RdS w ao b off len L) (hsz : ∀ s ∈ L, s.size ≤ 140737488351232) (hmx : len ≤ 1099511627776) (hc : len ≤ cap) (n : Nat) (hn : n ≤ len) (r : ByteArray) (hq : Hid (rtD (clk k) L n = r)) :
    Calls Tryz.prog 9 #[.int .i64 k, .slice ao len cap, .int .u64 (n : Int)] w fun e w' => e = .returned (.tuple #[.agg #[.int .u64 (n : Int), .string r], .int .i64 0]) ∧ Below w.heap.size w w' := by
  have HC := fun W => refcheck_any W k
  rw [chk_ok h1 h2] at HC
  have e0 : IntKind.u64.wrap (len : Int) = (len : Int) := wrap_u _ (by omega) (by omega)
  have hn' : ¬ ((len : Int) < (n : Int)) := by omega
  have hn2 : (n : Int) ≤ (cap : Int) := by omega
  obtain ⟨P, hP⟩ : ∃ P, Hid (pks (clk k) (L.take n) 41 = P) := ⟨_, rfl⟩
  have HPk : Hid (∀ W, Below w.heap.size w W → Calls Tryz.prog 22 #[.int .i64 k, .slice ao n cap] W fun e w' => ∃ v, e = .returned v ∧ OwnS w' W.heap.size v P ∧ Below W.heap.size W w') := fun W hb => rpeaks_any W (ht.next hb) k ao b off n cap (L.take n) ((hr.next hb (Nat.le_refl _)).take hn) (fun s hs => hsz s (List.mem_of_mem_take hs)) (by omega) (by omega) P hP
  have zP : ∀ s ∈ P, s.size ≤ 140737488351232 := by rw [← hP.out]; exact small (clk_le k)
  have lP : P.length ≤ 41 := by rw [← hP.out]; exact pks_len _ _ _
  have HQ : Hid (dg (clk k) (rootT n (bagL (clk k) P)) = r) := by rw [← hP.out]; exact hq
  have HRo : Hid (∀ W, Below w.heap.size w W → ∀ ao' b' cap', RdS W ao' b' 0 P.length P → Calls Tryz.prog 21 #[.int .i64 k, .int .u64 (n : Int), .slice ao' P.length cap'] W fun e w' => e = .returned (.string r) ∧ Below W.heap.size W w') := fun W hb ao' b' cap' hr' => refroot_any W (ht.next hb) k n (by omega) ao' b' 0 P.length cap' P hr' zP (by omega) r HQ.out
  have HZ : Hid (∀ s ∈ P, s.size ≤ 9223372036854775807) := fun s hs => Nat.le_trans (zP s hs) (by decide)
  have hb := Below.refl w.heap.size w
  have HN := rt_new w 0 ⟨#[]⟩ 30
  rw [show ((0 : Nat) : Int) = 0 from rfl] at HN
  have HN2 := hide HN
  clear h1 h2 hn hmx hc hr hsz ht hq hP zP lP HQ HN
  go_enter Tryz.func9, Tryz.ntmps9
  go_wp2_with (first
    | (go_at_call 20; with_reducible refine (HC _).mono ?_; rintro e w1 ⟨rfl, rfl⟩)
    | (go_at_call 22; with_reducible refine (HPk.out _ (bal hb _)).mono ?_; rintro e w2 ⟨v, rfl, ho, hb2⟩; obtain ⟨ao', b', cap', rfl, hr', _, _⟩ := owns_rds ho HZ.out)
    | (go_at_call 21; with_reducible refine (HRo.out _ (bnext (bal hb _) hb2) _ _ _ hr').mono ?_; rintro e w3 ⟨rfl, hb3⟩; have hR := (HN2.out.below hb2 (by simp)).below hb3 (by have := hb2.size; simp at this; omega); have k0 := hR.c0; have k1 := hR.c1; have f0 := hR.f0; have f1 := hR.f1))
  have s0 : (w3.setCell ⟨w.heap.size, 0, none⟩ (.int .u64 (n : Int))).cell? ⟨w.heap.size, 0, none⟩ = some (.int .u64 (n : Int)) := World.cell?_setCell_same _ _ _ k0
  have s1 : ((w3.setCell ⟨w.heap.size, 0, none⟩ (.int .u64 (n : Int))).setCell ⟨w.heap.size, 1, none⟩ (.string r)).cell? ⟨w.heap.size, 1, none⟩ = some (.string r) :=
    World.cell?_setCell_same _ _ _ ((World.cell?_setCell_other _ _ _ _ (by simp)).trans k1)
  refine bodyPost_ret (v := .tuple #[.agg #[.int .u64 (n : Int), .string r], .int .i64 0]) (by simp [results, Tryz.results9, go_sem, s0, s1]) rfl ⟨rfl, ?_⟩
  exact ((bnext (bnext (bal hb _) hb2) hb3).setCell (p := ⟨w.heap.size, 0, none⟩) (Nat.le_refl _) _).setCell (p := ⟨w.heap.size, 1, none⟩) (Nat.le_refl _) _
end Go.Proofs.YtdocjikpcbmcgaaGreatDoor
