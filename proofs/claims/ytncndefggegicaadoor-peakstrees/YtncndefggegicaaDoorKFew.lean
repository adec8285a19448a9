/-
  Walks of peaks' laws over plain lists: few, trail; a list's peaks by its ones. Own work.
-/
import Derived.Test.YtncndefggegicaaDoorKAlive
import Derived.Test.YtncndefggegicaaDoorPWalkB
import Derived.Test.YtncndefggegicaaDoorPlWalkC
namespace Go.Proofs.YtncndefggegicaaDoor
open Go.RowKit
attribute [local go_sem ↓] Go.wp_at_zero Go.wp_at_succ
/-- An item cut to 200 bytes. -/
def cut (s : ByteArray) : ByteArray := if 200 < s.size then s.extract 0 200 else s
theorem cut_size (s : ByteArray) : (cut s).size ≤ 200 := by
  unfold cut
  split
  · rw [ByteArray.size_extract]; omega
  · omega
def fewL (L : List ByteArray) (n : Nat) : List ByteArray := (L.take n).map cut
theorem fewL_size {L : List ByteArray} {n : Nat} : ∀ s ∈ fewL L n, s.size ≤ 200 := fun s hs => by
  obtain ⟨x, _, rfl⟩ := List.mem_map.1 hs
  exact cut_size x
theorem fewL_len (L : List ByteArray) (n : Nat) : (fewL L n).length = min n L.length := by simp [fewL]
theorem fewL_succ {L : List ByteArray} {j : Nat} (h : j < L.length) : fewL L (j + 1) = fewL L j ++ [cut (L.getD j ByteArray.empty)] := by
  rw [fewL, fewL, List.take_add_one, List.getElem?_eq_getElem h, List.map_append, List.getD_eq_getElem?_getD, List.getElem?_eq_getElem h]
  rfl
set_option maxRecDepth 100000 in
theorem few_any (w : World) (ao : Option Addr) (b off cap : Nat) (L : List ByteArray) (hr : RdS w ao b off L.length L) (hmx : L.length ≤ 8796093022208) (n : Nat) (hn : n ≤ 100) (M : List ByteArray) (hM : Hid (fewL L n = M)) :
    Calls Tryd.prog 20 #[.slice ao L.length cap, .int .i64 (n : Int)] w fun e w' => ∃ v, e = .returned v ∧ OwnS w' w.heap.size v M ∧ Below w.heap.size w w' := by
  have HR : Hid (RdS w ao b off L.length L ∧ n ≤ 100 ∧ L.length ≤ 8796093022208) := ⟨hr, hn, hmx⟩
  have hb := Below.refl w.heap.size w
  clear hr hmx hn
  go_enter Tryd.func20, Tryd.ntmps20
  go_wp2
  go_loopg [5, 6] n (fun g v i wr => ∃ j : Nat, j ≤ L.length ∧ j ≤ n ∧ g = n - j ∧ i = .int .i64 (j : Int) ∧ OwnS wr w.heap.size v (fewL L j) ∧ Below w.heap.size w wr)
  case atStart =>
    go_light
    exact ⟨0, Nat.zero_le _, Nat.zero_le _, rfl, rfl, owns_nil w _, hb⟩
  case round =>
    clear hb
    obtain ⟨j, hj, hj2, rfl, rfl, ho, hb⟩ := hrel
    by_cases hlt : j < L.length
    · have hz : (j : Int) < (L.length : Int) := by omega
      by_cases hlt2 : j < n
      · have hz2 : (j : Int) < (n : Int) := by omega
        have hz9 : (j : Int) < 100 := by have := HR.out.2.1; omega
        have hr1 := HR.out.1.next hb (Nat.le_refl _)
        obtain rfl := hr1.ptr (by omega)
        have cj := hr1.at hlt
        obtain ⟨x, hx⟩ : ∃ x, L.getD j ByteArray.empty = x := ⟨_, rfl⟩
        rw [hx] at cj
        obtain ⟨y, hy⟩ : ∃ y, cut x = y := ⟨_, rfl⟩
        have HE : Hid (fewL L (j + 1) = fewL L j ++ [y] ∧ y.size ≤ 9223372036854775807 ∧ (fewL L j).length ≤ 100) := ⟨by rw [fewL_succ hlt, hx, hy], by rw [← hy]; have := cut_size x; omega, by rw [fewL_len]; have := HR.out.2.1; omega⟩
        have HO : Hid (OwnS wr w.heap.size _ (fewL L j)) := ho
        have HB := hide hb
        have hy2 := hy
        unfold cut at hy2
        by_cases h200 : 200 < x.size
        · rw [if_pos h200] at hy2
          have h201 : (200 : Int) < (x.size : Int) := by omega
          have h202 : (200 : Int) ≤ (x.size : Int) := by omega
          clear hy hx hr1 ho hb h200
          go_wp2_with (at_builtin; refine wpList_append_S _ rfl _ _ rfl w.heap.size _ (fewL L j) rfl (own_al HO.out _) (some ⟨wr.heap.size, 0, none⟩) wr.heap.size 0 1 [y] rfl (rds_one wr y HE.out.2.1) (fun h => by cases h) ?c1 ?c2 ?_)
          case c1 => have := HE.out.2.2; simp; omega
          case c2 => have := HB.out.size; simp; omega
          intro v3 w3 h3 hb3
          have HX : Hid (OwnS w3 w.heap.size v3 (fewL L (j + 1)) ∧ Below w.heap.size w w3) := ⟨by rw [HE.out.1]; exact h3, (bal HB.out _).trans hb3⟩
          clear h3 hb3
          go_wp2
          go_roundg (n - (j + 1))
          case rel =>
            go_light
            exact ⟨j + 1, by omega, by omega, rfl, by go_num, HX.out.1, HX.out.2⟩
          case measure => go_light; omega
        · rw [if_neg h200] at hy2
          have h201 : ¬ ((200 : Int) < (x.size : Int)) := by omega
          subst hy2
          clear hy hx hr1 ho hb h200
          go_wp2_with (at_builtin; refine wpList_append_S _ rfl _ _ rfl w.heap.size _ (fewL L j) rfl (own_al HO.out _) (some ⟨wr.heap.size, 0, none⟩) wr.heap.size 0 1 [x] rfl (rds_one wr x HE.out.2.1) (fun h => by cases h) ?c1 ?c2 ?_)
          case c1 => have := HE.out.2.2; simp; omega
          case c2 => have := HB.out.size; simp; omega
          intro v3 w3 h3 hb3
          have HX : Hid (OwnS w3 w.heap.size v3 (fewL L (j + 1)) ∧ Below w.heap.size w w3) := ⟨by rw [HE.out.1]; exact h3, (bal HB.out _).trans hb3⟩
          clear h3 hb3
          go_wp2
          go_roundg (n - (j + 1))
          case rel =>
            go_light
            exact ⟨j + 1, by omega, by omega, rfl, by go_num, HX.out.1, HX.out.2⟩
          case measure => go_light; omega
      · have hz2 : ¬ ((j : Int) < (n : Int)) := by omega
        have HE : Hid (fewL L j = M) := by show _ = _; rw [← hM.out]; congr 1; omega
        clear HR
        go_wp2
        go_ret
        exact ⟨_, rfl, by rw [← HE.out]; exact ho, hb⟩
    · have hz : ¬ ((j : Int) < (L.length : Int)) := by omega
      have HE : Hid (fewL L j = M) := by show _ = _; rw [← hM.out, fewL, fewL, List.take_of_length_le (by omega), List.take_of_length_le (by omega)]
      clear HR
      go_wp2
      go_ret
      exact ⟨_, rfl, by rw [← HE.out]; exact ho, hb⟩
/-- The law's trail: the ones at the end. -/
theorem ktrl_at (k n : Nat) (hk : k < 64) (h : n / 2 ^ k % 2 = 1) : Pl.trl (64 - k) (n / 2 ^ k) = Pl.trl (64 - (k + 1)) (n / 2 ^ (k + 1)) + 1 := by
  rw [show 64 - k = (64 - (k + 1)) + 1 by omega, Pl.trl_step _ _ h, Pl.div_pow_succ]
theorem ktrl_end (k n : Nat) (h : ¬ n / 2 ^ k % 2 = 1) : Pl.trl (64 - k) (n / 2 ^ k) = 0 := by
  cases h64 : 64 - k with
  | zero => rfl
  | succ f => exact Pl.trl_none _ _ h
theorem ltrail_any (n : Nat) (w : World) (hn : n < 2 ^ 64) (r : Nat) (hr : Pl.trl 64 n = r) :
    Calls Tryd.prog 24 #[.int .u64 n] w fun e w' => e = .returned (.int .i64 (r : Int)) ∧ w = w' := by
  subst hr
  go_enter Tryd.func24, Tryd.ntmps24
  go_wp2
  go_loopg [0, 3] 64 (fun g a c wr => ∃ k m : Nat, k ≤ 64 ∧ g = 64 - k ∧ a = .int .u64 (m : Int) ∧ c = .int .i64 (k : Int) ∧ n / 2 ^ k = m ∧ k + Pl.trl (64 - k) (n / 2 ^ k) = Pl.trl 64 n ∧ w = wr)
  case atStart =>
    go_light
    exact ⟨0, n, Nat.zero_le _, rfl, rfl, rfl, by simp, by simp, rfl⟩
  case round =>
    obtain ⟨k, m, hk, rfl, rfl, rfl, hm, hs, rfl⟩ := hrel
    have hmb : m < 2 ^ 64 := by rw [← hm]; exact Nat.lt_of_le_of_lt (Nat.div_le_self _ _) hn
    by_cases hb : m % 2 = 1
    · have hk64 : k < 64 := by
        by_cases h64 : k < 64
        · exact h64
        · have : k = 64 := by omega
          subst this
          have : n / 2 ^ 64 = 0 := Nat.div_eq_of_lt hn
          omega
      have HS := ktrl_at k n hk64 (by rw [hm]; exact hb)
      have hd : ((m : Int) % 2 == 1) = true := by have : (m : Int) % 2 = 1 := by omega
                                                  rw [this]; rfl
      have hk1 : (k : Int) < 64 := by omega
      have HX : Hid (n / 2 ^ (k + 1) = m / 2 ∧ (k + 1) + Pl.trl (64 - (k + 1)) (n / 2 ^ (k + 1)) = Pl.trl 64 n) := ⟨by rw [Pl.div_pow_succ, hm], by omega⟩
      obtain ⟨k2, hk2⟩ : ∃ k2 : Nat, k + 1 = k2 := ⟨_, rfl⟩
      have ek : IntKind.i64.wrap ((k : Int) + 1) = (k2 : Int) := by rw [IntKind.wrap_i64]; omega
      obtain ⟨m2, hm2⟩ : ∃ m2 : Nat, m / 2 = m2 := ⟨_, rfl⟩
      have em : (m : Int) / 2 = (m2 : Int) := by omega
      have em2 : IntKind.u64.wrap (m2 : Int) = (m2 : Int) := by rw [IntKind.wrap_u64]; omega
      rw [hm2, hk2] at HX
      clear HS hs hm hb hmb hm2 hk
      go_wp2
      go_roundg (64 - k2)
      case rel =>
        go_light
        exact ⟨k2, m2, by omega, rfl, rfl, rfl, HX.out.1, HX.out.2, rfl⟩
      case measure => go_light; omega
    · have HS := ktrl_end k n (by rw [hm]; exact hb)
      have hd : ((m : Int) % 2 == 1) = false := by have : (m : Int) % 2 = 0 := by omega
                                                   rw [this]; rfl
      have HX : Hid (k = Pl.trl 64 n) := (by omega : k = Pl.trl 64 n)
      clear HS hs hm hb hmb
      go_wp2
      go_ret
      exact ⟨by rw [← HX.out]; rfl, rfl⟩
theorem trl_le' (f n : Nat) : Pl.trl f n ≤ f := by
  induction f generalizing n with
  | zero => exact Nat.le_refl _
  | succ f ih =>
    by_cases h : n % 2 = 1
    · rw [Pl.trl_step _ _ h]; have := ih (n / 2); omega
    · rw [Pl.trl_none _ _ h]; omega
theorem trl_more : ∀ (f n d : Nat), n < 2 ^ f → Pl.trl (f + d) n = Pl.trl f n
  | 0, n, d, h => by
    obtain rfl : n = 0 := by simpa using h
    cases d with
    | zero => rfl
    | succ d => rw [Nat.zero_add, Pl.trl_none _ _ (by decide)]; rfl
  | f + 1, n, d, h => by
    rw [show f + 1 + d = (f + d) + 1 by omega]
    by_cases ho : n % 2 = 1
    · rw [Pl.trl_step _ _ ho, Pl.trl_step _ _ ho, trl_more f (n / 2) d (by rw [Nat.pow_succ] at h; omega)]
    · rw [Pl.trl_none _ _ ho, Pl.trl_none _ _ ho]
/-- Ones at the end: so many at least. -/
theorem trl_ones : ∀ (f n j : Nat), j ≤ Pl.trl f n → n % 2 ^ j = 2 ^ j - 1
  | _, n, 0, _ => by simp [Nat.mod_one]
  | 0, n, j + 1, h => by simp [Pl.trl] at h
  | f + 1, n, j + 1, h => by
    by_cases ho : n % 2 = 1
    · rw [Pl.trl_step _ _ ho] at h
      have := trl_ones f (n / 2) j (by omega)
      rw [mod_two, this, Nat.pow_succ]
      have := Nat.two_pow_pos j
      omega
    · rw [Pl.trl_none _ _ ho] at h
      omega
/-- A list's peaks by its length's ones: of its first m items. -/
def gN (c : Nat) (L : List ByteArray) (h x : Nat) : ByteArray := nd c L h (x - 1)
theorem nd_take (c : Nat) (L : List ByteArray) (m h i : Nat) (hm : m ≤ L.length) (hi : (i + 1) * 2 ^ h ≤ m) : nd c (L.take m) h i = nd c L h i := by
  refine nd_alike h i i fun t ht => ?_
  have hlt : i * 2 ^ h + t < m := by rw [Nat.add_mul] at hi; omega
  have := getD_first L [] m (i * 2 ^ h + t) hm hlt
  rwa [List.append_nil] at this
theorem pks_ol (c : Nat) (L : List ByteArray) (m : Nat) (hm : m ≤ L.length) : ∀ F, pks c (L.take m) F = ol (gN c L) F m
  | 0 => rfl
  | F + 1 => by
    have hl : (L.take m).length = m := by rw [List.length_take]; omega
    rw [pks, ol, pks_ol c L m hm F, hl]
    by_cases e : m / 2 ^ F % 2 = 1
    · rw [if_pos e, if_pos e, gN, nd_take c L m F _ hm]
      have h1 : 1 ≤ m / 2 ^ F := by generalize m / 2 ^ F = x at *; omega
      rw [show m / 2 ^ F - 1 + 1 = m / 2 ^ F by omega]
      exact Nat.div_mul_le_self _ _
    · rw [if_neg e, if_neg e]
theorem gN_node (c : Nat) (L : List ByteArray) (h t : Nat) (ho : t % 2 = 1) : dg c (nodeT (gN c L h t) (gN c L h (t + 1))) = gN c L (h + 1) (t / 2 + 1) := by
  obtain ⟨q, rfl⟩ : ∃ q, t = 2 * q + 1 := ⟨t / 2, by omega⟩
  rw [gN, gN, gN, show (2 * q + 1) / 2 + 1 - 1 = q by omega, nd, show 2 * q + 1 - 1 = 2 * q by omega, show 2 * q + 1 + 1 - 1 = 2 * q + 1 by omega]
/-- A whole tree that comes behind a list's peaks: the list's peaks. -/
theorem mk_list (c : Nat) (L : List ByteArray) (h t m : Nat) (hm : m = 2 ^ h * t) (hh : h ≤ 40) (hl : m + 2 ^ h ≤ 1099511627776) :
    mk c m (ol (gN c L) 41 m) h (nd c L h t) = ((List.range (Pl.trl (40 - h) t + 1)).map (fun j => nd c L (h + j) (t / 2 ^ j)), ol (gN c L) 41 (m + 2 ^ h)) := by
  have ht : t < 2 ^ (40 - h) := by
    have h1 : 2 ^ h * (t + 1) ≤ 2 ^ h * 2 ^ (40 - h) := by
      rw [← Nat.pow_add, show h + (40 - h) = 40 by omega, Nat.mul_add, Nat.mul_one, ← hm]; exact hl
    exact Nat.le_of_mul_le_mul_left h1 (Nat.two_pow_pos h)
  have e0 : nd c L h t = gN c L h (t + 1) := by rw [gN, Nat.add_sub_cancel]
  have a := carry_new c 41 (gN c L) (m + 2 ^ h) (fun h t _ ho => gN_node c L h t ho) (40 - h) h t (by omega) ht (by omega)
  have b := carry_ol c 41 (gN c L) (m + 2 ^ h) (fun h t _ ho => gN_node c L h t ho) (40 - h) h t (by omega) ht (by omega)
  rw [← hm] at a b
  rw [mk, show m / 2 ^ h = t by rw [hm]; exact (pow_num h t).2, e0]
  refine Prod.ext ?_ b
  rw [a]
  refine List.map_congr_left fun j _ => ?_
  rw [gN, Nat.add_sub_cancel]
end Go.Proofs.YtncndefggegicaaDoor
