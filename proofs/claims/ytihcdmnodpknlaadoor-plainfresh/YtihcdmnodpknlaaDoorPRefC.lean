/-
  The reference's walks: Mountains. Own work.
-/
import Derived.Test.YtihcdmnodpknlaaDoorPRefB
namespace Go.Proofs.YtihcdmnodpknlaaDoor
open Go.RowKit
attribute [local go_sem ↓] Go.wp_at_zero Go.wp_at_succ
/-- What stands for each one of n's, from the height h down. -/
def gen {α : Type} (f : Nat → α) (n : Nat) : Nat → List α
  | 0 => []
  | h + 1 => (if n / 2 ^ h % 2 = 1 then [f h] else []) ++ gen f n h
theorem gen_pks (c : Nat) (L : List ByteArray) : ∀ h, gen (fun s => nd c L s (L.length / 2 ^ s - 1)) L.length h = pks c L h
  | 0 => rfl
  | h + 1 => by rw [gen, pks, gen_pks c L h]
theorem gen_map {α β : Type} (g : α → β) (f : Nat → α) (n : Nat) : ∀ h, (gen f n h).map g = gen (fun s => g (f s)) n h
  | 0 => rfl
  | h + 1 => by
    rw [gen, gen, List.map_append, gen_map g f n h]
    by_cases e : n / 2 ^ h % 2 = 1
    · rw [if_pos e, if_pos e]; rfl
    · rw [if_neg e, if_neg e]; rfl
theorem gen_none {α : Type} {f : Nat → α} {n h : Nat} (e : n / 2 ^ h % 2 ≠ 1) : gen f n (h + 1) = gen f n h := by rw [gen, if_neg e]; rfl
theorem gen_one {α : Type} {f : Nat → α} {n h : Nat} (e : n / 2 ^ h % 2 = 1) : gen f n (h + 1) = f h :: gen f n h := by rw [gen, if_pos e]; rfl
theorem gen_skip {α : Type} {f : Nat → α} {n s : Nat} : ∀ d, n % 2 ^ (s + d) < 2 ^ s → gen f n (s + d) = gen f n s
  | 0, _ => rfl
  | d + 1, h => by
    have hs : 2 ^ s ≤ 2 ^ (s + d) := Nat.pow_le_pow_right (by decide) (by omega)
    have h2 : n % 2 ^ (s + (d + 1)) / 2 ^ (s + d) % 2 ≠ 1 := below_two (by omega)
    rw [bit_mod (by omega)] at h2
    rw [show s + (d + 1) = s + d + 1 by omega, gen_none h2]
    refine gen_skip d ?_
    have : n % 2 ^ (s + d) = n % 2 ^ (s + (d + 1)) % 2 ^ (s + d) := by
      rw [show s + (d + 1) = (s + d) + 1 by omega, Nat.pow_succ, Nat.mod_mul_right_mod]
    rw [this, Nat.mod_eq_of_lt (Nat.lt_of_lt_of_le h hs)]
    exact h
theorem gen_next {α : Type} {f : Nat → α} {n g s : Nat} (h1 : 2 ^ s ≤ n % 2 ^ g) (h2 : n % 2 ^ g < 2 ^ (s + 1)) : gen f n g = f s :: gen f n s := by
  obtain ⟨hsg, e2, e1, _⟩ := top_bit h1 h2
  obtain ⟨d, rfl⟩ : ∃ d, g = s + 1 + d := ⟨g - s - 1, by omega⟩
  rw [gen_skip d (by rw [e1, ← e1]; exact h2), gen_one e2]
theorem gen_zero {α : Type} {f : Nat → α} {n g : Nat} (h : n % 2 ^ g = 0) : gen f n g = [] := by
  have := gen_skip (f := f) (n := n) (s := 0) g (by rw [Nat.zero_add, h]; decide)
  rw [Nat.zero_add] at this
  rw [this, gen]
theorem gen_len {α : Type} (f : Nat → α) (n : Nat) : ∀ h, (gen f n h).length ≤ h
  | 0 => Nat.le_refl _
  | h + 1 => by
    have := gen_len f n h
    by_cases e : n / 2 ^ h % 2 = 1
    · rw [gen_one e, List.length_cons]; omega
    · rw [gen_none e]; omega
theorem gen_mem {n : Nat} : ∀ h s, s ∈ gen id n h → s < h ∧ n / 2 ^ s % 2 = 1
  | 0, s, hs => by cases hs
  | h + 1, s, hs => by
    by_cases e : n / 2 ^ h % 2 = 1
    · rw [gen_one e] at hs
      rcases List.mem_cons.1 hs with rfl | hs
      · exact ⟨Nat.lt_succ_self _, e⟩
      · have := gen_mem h s hs; exact ⟨by omega, this.2⟩
    · rw [gen_none e] at hs
      have := gen_mem h s hs; exact ⟨by omega, this.2⟩
/-- Pairs of numbers as cells. -/
def cP : List (Nat × Nat) → List Value
  | [] => []
  | p :: r => .int .i64 (p.1 : Int) :: .int .i64 (p.2 : Int) :: cP r
theorem cP_len (l : List (Nat × Nat)) : (cP l).length = l.length * 2 := by
  induction l with
  | nil => rfl
  | cons b r ih => simp [cP, ih]; omega
theorem cP_app (l m : List (Nat × Nat)) : cP (l ++ m) = cP l ++ cP m := by
  induction l with
  | nil => rfl
  | cons b r ih => simp [cP, ih]
theorem cP_get (l : List (Nat × Nat)) (j : Nat) (hj : j < l.length) : (cP l)[j * 2]? = some (.int .i64 ((l.getD j (0, 0)).1 : Int)) ∧ (cP l)[j * 2 + 1]? = some (.int .i64 ((l.getD j (0, 0)).2 : Int)) := by
  induction l generalizing j with
  | nil => simp at hj
  | cons b r ih =>
    cases j with
    | zero => exact ⟨rfl, rfl⟩
    | succ j =>
      have := ih j (by simpa using hj)
      rw [show (j + 1) * 2 = j * 2 + 1 + 1 by omega]
      simpa [cP] using this
theorem Tryd.infoP : (Tryd.prog.info? 56).map (fun i => (i.zero, i.size, i.bytes)) = some (some (.agg #[.int .i64 0, .int .i64 0]), 2, 16) := by kernel_rfl
/-- A list of pairs of one's own. -/
def OwnP (w : World) (B : Nat) (v : Value) (l : List (Nat × Nat)) : Prop := w.ownsRow B 56 2 v l.length (cP l)
theorem ownP_next {w W : World} {B : Nat} {v : Value} {l : List (Nat × Nat)} (h : OwnP w B v l) (hb : Below w.heap.size w W) : OwnP W B v l := by
  obtain ⟨h1, h2⟩ := h
  refine ⟨h1, ?_⟩
  rcases h2 with h2 | ⟨g, cap, cur, rfl, hg, hh, r⟩
  · exact .inl h2
  · exact .inr ⟨g, cap, cur, rfl, hg, by rw [hb.block g (Array.getElem?_eq_some_iff.1 hh).1]; exact hh, r⟩
theorem ownP_nil (w : World) (B : Nat) : OwnP w B (.slice none 0 0) [] := ⟨rfl, .inl ⟨rfl, rfl⟩⟩
theorem ownP_form {w : World} {B : Nat} {v : Value} {l : List (Nat × Nat)} (h : OwnP w B v l) (h0 : 0 < l.length) : ∃ g cap, v = .slice (some ⟨g, 0, none⟩) l.length cap ∧ B ≤ g ∧ l.length ≤ cap := by
  obtain ⟨h1, h2⟩ := h
  rcases h2 with ⟨_, h2⟩ | ⟨g, cap, cur, hv, hg, _, hc, hm, _⟩
  · omega
  · exact ⟨g, cap, hv, hg, hc⟩
theorem ownP_cell {w : World} {B g n cap : Nat} {l : List (Nat × Nat)} (h : OwnP w B (.slice (some ⟨g, 0, none⟩) n cap) l) {j : Nat} (hj : j < l.length) : w.cell? ⟨g, j * 2, none⟩ = some (.int .i64 ((l.getD j (0, 0)).1 : Int)) ∧ w.cell? ⟨g, j * 2 + 1, none⟩ = some (.int .i64 ((l.getD j (0, 0)).2 : Int)) := by
  obtain ⟨k1, k2⟩ := cP_get l j hj
  have h1 := World.ownsRow.cells h (g := g) rfl _ _ k1
  have h2 := World.ownsRow.cells h (g := g) rfl _ _ k2
  rw [Addr.add_mid, Nat.zero_add] at h1 h2
  exact ⟨h1, h2⟩
theorem wpList_append_P (w : World) {ops : Array Oper} {rest : List Oper} {o : Oper} {a : Act} {Q : Exit → Act → World → Prop}
    (hg : o.guard = none) (s x : Operand) (hop : o.op = Op.call { callee := Callee.builtin Builtin.append, args := #[s, x], argTypes := #[54, 54] })
    (B : Nat) (v : Value) (L : List (Nat × Nat)) (w0 : World) (p q : Nat) (hw : w = w0.alloc (.cells #[.int .i64 (p : Int), .int .i64 (q : Int)] 56)) (hs : a.eval s = v) (hown : OwnP w B v L) (hx : a.eval x = .slice (some ⟨w0.heap.size, 0, none⟩) 1 1)
    (hlen : L.length + 1 ≤ 1048576) (hB : B ≤ w.heap.size)
    (hK : ∀ v' w', OwnP w' B v' (L ++ [(p, q)]) → Below B w w' → wpList Tryd.prog ops Q rest (a.put o.dst v') w') : wpList Tryd.prog ops Q (o :: rest) a w := by
  obtain ⟨i0, hi, hz0, hz1, hz2⟩ := info_parts Tryd.infoP
  have hlt : ∀ k, v.ownBlock = some k → B ≤ k := by
    obtain ⟨_, h2⟩ := hown
    rcases h2 with ⟨rfl, _⟩ | ⟨g, cp, cur, rfl, hg, _⟩
    · intro k hk; cases hk
    · intro k hk; cases hk; exact hg
  have hnews : ∀ j u, ([.int .i64 (p : Int), .int .i64 (q : Int)] : List Value)[j]? = some u → w.cell? ((⟨w0.heap.size, 0, none⟩ : Addr).add j) = some u := by
    subst hw
    exact World.news_of_block (cs := #[.int .i64 (p : Int), .int .i64 (q : Int)]) (t := 56) (fr := (0, 0)) (heap_alloc_new w0 _)
  refine wpList_append_own w hg s x _ hop B 56 i0 (.agg #[.int .i64 0, .int .i64 0]) 2 16 Tryd.underlying54 hi hz0 hz1 hz2 rfl (by decide) _ _ _ hs hown ⟨w0.heap.size, 0, none⟩ 1 1 [.int .i64 (p : Int), .int .i64 (q : Int)] hx rfl hnews (by intro u hu; simp at hu; rcases hu with rfl | rfl <;> rfl) (by unfold maxLen; omega) (by omega) hB ?_
  intro v' w' h1 h2 _
  refine hK v' w' ?_ ((Below.refl _ _).grown h2 hB hlt)
  rw [OwnP, List.length_append, cP_app]; exact h1
/-- The mountains. -/
def mtP (n s : Nat) : Nat × Nat := ((n / 2 ^ s - 1) * 2 ^ s, 2 ^ s)
set_option maxRecDepth 100000 in
set_option maxHeartbeats 1000000 in
theorem mountains_any (w : World) (n : Nat) (hn : n ≤ 1099511627776) (P : List (Nat × Nat)) (hP : Hid (gen (mtP n) n 41 = P)) :
    Calls Tryd.prog 29 #[.int .i64 (n : Int)] w fun e w' => ∃ v, e = .returned v ∧ OwnP w' w.heap.size v P ∧ Below w.heap.size w w' := by
  have hb := Below.refl w.heap.size w
  have HS : Hid ([] ++ gen (mtP n) n 41 = P) := by rw [List.nil_append]; exact hP
  have HPl : Hid (P.length ≤ 41) := by show _ ≤ _; rw [← hP.out]; exact gen_len _ _ _
  have HN : Hid (n ≤ 1099511627776) := hn
  have hn' : (n : Int) ≤ 1099511627776 := by omega
  clear hn hP
  go_enter Tryd.func29, Tryd.ntmps29
  go_wp2
  go_loopg [3, 4] n (fun gg v a wr => ∃ (g t : Nat) (A : List (Nat × Nat)), t ≤ n ∧ gg = n - t ∧ a = .int .i64 (t : Int) ∧ Hid (t + n % 2 ^ g = n ∧ A ++ gen (mtP n) n g = P) ∧ OwnP wr w.heap.size v A ∧ Below w.heap.size w wr)
  case atStart =>
    go_light
    exact ⟨41, 0, [], Nat.zero_le _, rfl, rfl, ⟨by have := HN.out; omega, HS.out⟩, ownP_nil _ _, hb⟩
  case round =>
    clear hb HS
    obtain ⟨g, t, A, htn, rfl, rfl, HE, ho, hb⟩ := hrel
    have ht0 : (0 : Int) ≤ (t : Int) := Int.natCast_nonneg _
    by_cases hlt : t < n
    · have hlt' : (t : Int) < (n : Int) := by omega
      have HX : Hid (OwnP wr w.heap.size u3 A ∧ Below w.heap.size w wr ∧ t < n) := ⟨ho, hb, hlt⟩
      obtain ⟨m, hm⟩ : ∃ m, n - t = m := ⟨_, rfl⟩
      have em : IntKind.i64.wrap ((n : Int) - (t : Int)) = (m : Int) := by rw [IntKind.wrap_i64]; omega
      have HMn : Hid (t + m = n) := by show _ = _; omega
      clear ho hb htn hlt hm
      go_wp2
      go_loopg [5] 64 (fun gg zv wx => ∃ (h z : Nat), h ≤ 64 ∧ gg = 64 - h ∧ zv = .int .i64 (z : Int) ∧ Hid (2 ^ h = z ∧ z ≤ m) ∧ wr = wx)
      case atStart =>
        go_light
        exact ⟨0, 1, by omega, rfl, rfl, ⟨rfl, by have := HX.out.2.2; have := HMn.out; omega⟩, rfl⟩
      case round =>
        obtain ⟨h, z, hh64, rfl, rfl, HH, rfl⟩ := hrel
        have hz := HH.out
        have hmm := HMn.out
        have hnn := HN.out
        have hh40 : h ≤ 40 := by
          apply Nat.le_of_not_lt
          intro h9
          have := Nat.pow_le_pow_right (n := 2) (by decide) (show 41 ≤ h from h9)
          omega
        obtain ⟨q, hq⟩ : ∃ q, 2 * z = q := ⟨_, rfl⟩
        have e1 : IntKind.i64.wrap (2 * (z : Int)) = (q : Int) := by rw [IntKind.wrap_i64]; omega
        by_cases hgo : q ≤ m
        · have hgo' : (q : Int) ≤ (m : Int) := by omega
          have HY : Hid (2 ^ (h + 1) = q ∧ q ≤ m ∧ h ≤ 40) := ⟨by rw [Nat.pow_succ, hz.1]; omega, hgo, hh40⟩
          clear HH hq hgo hh64 hh40 hz hmm hnn
          go_wp2
          go_roundg (64 - (h + 1))
          case rel =>
            go_light
            exact ⟨h + 1, q, by have := HY.out.2.2; omega, rfl, rfl, ⟨HY.out.1, HY.out.2.1⟩, rfl⟩
          case measure => go_light; have := HY.out.2.2; omega
        · have hgo' : ¬ ((q : Int) ≤ (m : Int)) := by omega
          have hE := HE.out
          have hg1 : 2 ^ h ≤ n % 2 ^ g := by omega
          have hg2 : n % 2 ^ g < 2 ^ (h + 1) := by rw [Nat.pow_succ]; omega
          obtain ⟨hsg, hbit, hm1, hm2⟩ := top_bit hg1 hg2
          obtain ⟨hat, hge⟩ := mount_at hbit
          have hat2 : (n / 2 ^ h - 1) * 2 ^ h = t := by omega
          have e7 : IntKind.i64.wrap ((t : Int) + (z : Int)) = (t : Int) + (z : Int) := by rw [IntKind.wrap_i64]; omega
          have HNx : Hid (t + z ≤ n ∧ t + z + n % 2 ^ h = n ∧ A ++ [(t, z)] ++ gen (mtP n) n h = P ∧ 1 ≤ z) := by
            refine ⟨by omega, by omega, ?_, ?_⟩
            · have h3 := gen_next (f := mtP n) hg1 hg2
              rw [mtP, hat2, hz.1] at h3
              rw [← hE.2, h3]; simp
            · rw [← hz.1]; exact Nat.two_pow_pos h
          clear hgo hg1 hg2 hsg hbit hm1 hm2 hat hge hat2 hE HE HH hz hmm hnn hh40 hh64 hq
          go_wp2_with (at_builtin; refine wpList_append_P _ rfl _ _ rfl w.heap.size _ A wr t z rfl rfl (ownP_next HX.out.1 (bal (Below.refl _ _) _)) rfl ?c1 ?c2 ?_)
          case c1 =>
            have h1 := congrArg List.length HNx.out.2.2.1
            have h2 := HPl.out
            simp at h1
            omega
          case c2 => have := HX.out.2.1.size; simp; omega
          intro v2 w6 h6 hb6
          have HY : Hid (OwnP w6 w.heap.size v2 (A ++ [(t, z)]) ∧ Below w.heap.size w w6) := ⟨h6, (bal HX.out.2.1 _).trans hb6⟩
          clear h6 hb6
          go_wp2
          go_roundg (n - (t + z))
          case rel =>
            go_light
            obtain ⟨k1, k2, k3, k4⟩ := HNx.out
            exact ⟨h, t + z, A ++ [(t, z)], k1, rfl, by go_num, ⟨k2, k3⟩, HY.out.1, HY.out.2⟩
          case measure => go_light; obtain ⟨k1, k2, k3, k4⟩ := HNx.out; have := HX.out.2.2; omega
    · obtain rfl : t = n := by omega
      have hlt' : ¬ ((t : Int) < (t : Int)) := by omega
      have HA : Hid (A = P) := by
        obtain ⟨k1, k2⟩ := HE.out
        rw [gen_zero (by omega), List.append_nil] at k2
        exact k2
      clear HE
      go_wp2
      go_ret
      exact ⟨_, rfl, by rw [← HA.out]; exact ho, hb⟩
end Go.Proofs.YtihcdmnodpknlaaDoor
