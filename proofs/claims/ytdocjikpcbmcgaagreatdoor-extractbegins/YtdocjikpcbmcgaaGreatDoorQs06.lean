/-
  Own work: PSpec, PWalkA, PWalkB.
-/
import Derived.BigQuiet
import Derived.Test.YtdocjikpcbmcgaaGreatDoorQs05
namespace Go.Proofs.YtdocjikpcbmcgaaGreatDoor
open Go.RowKit
def nd (c : Nat) (L : List ByteArray) : Nat → Nat → ByteArray
  | 0, i => dg c (leafT (L.getD i ByteArray.empty))
  | h + 1, i => dg c (nodeT (nd c L h (2 * i)) (nd c L h (2 * i + 1)))
theorem nd_size {c : Nat} (hc : c ≤ 32) (L : List ByteArray) (h i : Nat) : (nd c L h i).size = c := by
  cases h with
  | zero => rw [nd, dg_size hc]
  | succ h => rw [nd, dg_size hc]
theorem nd_alike {c : Nat} {L M : List ByteArray} : ∀ (h i j : Nat), (∀ t, t < 2 ^ h → L.getD (i * 2 ^ h + t) ByteArray.empty = M.getD (j * 2 ^ h + t) ByteArray.empty) → nd c L h i = nd c M h j
  | 0, i, j, e => by
    have := e 0 (by decide)
    simp only [Nat.pow_zero, Nat.mul_one, Nat.add_zero] at this
    rw [nd, nd, this]
  | h + 1, i, j, e => by
    have p : 2 ^ (h + 1) = 2 * 2 ^ h := by rw [Nat.pow_succ]; omega
    rw [nd, nd, nd_alike h (2 * i) (2 * j), nd_alike h (2 * i + 1) (2 * j + 1)]
    · intro t ht
      have := e (2 ^ h + t) (by omega)
      rw [p] at this
      rw [show (2 * i + 1) * 2 ^ h + t = i * (2 * 2 ^ h) + (2 ^ h + t) by rw [Nat.add_mul, Nat.mul_assoc, Nat.mul_left_comm]; omega, show (2 * j + 1) * 2 ^ h + t = j * (2 * 2 ^ h) + (2 ^ h + t) by rw [Nat.add_mul, Nat.mul_assoc, Nat.mul_left_comm]; omega]
      exact this
    · intro t ht
      have := e t (by omega)
      rw [p] at this
      rw [show 2 * i * 2 ^ h + t = i * (2 * 2 ^ h) + t by rw [Nat.mul_assoc, Nat.mul_left_comm], show 2 * j * 2 ^ h + t = j * (2 * 2 ^ h) + t by rw [Nat.mul_assoc, Nat.mul_left_comm]]
      exact this
theorem getD_cut (L : List ByteArray) (a n t : Nat) (h : t < n) : ((L.drop a).take n).getD t ByteArray.empty = L.getD (a + t) ByteArray.empty := by
  rw [List.getD_eq_getElem?_getD, List.getD_eq_getElem?_getD, List.getElem?_take_of_lt h, List.getElem?_drop]
theorem nd_cut (c : Nat) (L : List ByteArray) (h i : Nat) : nd c ((L.drop (i * 2 ^ h)).take (2 ^ h)) h 0 = nd c L h i :=
  nd_alike h 0 i fun t ht => by rw [Nat.zero_mul, Nat.zero_add, getD_cut _ _ _ _ ht]
def pks (c : Nat) (L : List ByteArray) : Nat → List ByteArray
  | 0 => []
  | h + 1 => (if L.length / 2 ^ h % 2 = 1 then [nd c L h (L.length / 2 ^ h - 1)] else []) ++ pks c L h
theorem pks_one {c : Nat} {L : List ByteArray} {h : Nat} (e : L.length / 2 ^ h % 2 = 1) : pks c L (h + 1) = nd c L h (L.length / 2 ^ h - 1) :: pks c L h := by rw [pks, if_pos e]; rfl
theorem pks_none {c : Nat} {L : List ByteArray} {h : Nat} (e : L.length / 2 ^ h % 2 ≠ 1) : pks c L (h + 1) = pks c L h := by rw [pks, if_neg e]; rfl
theorem pks_len (c : Nat) (L : List ByteArray) : ∀ h, (pks c L h).length ≤ h
  | 0 => Nat.le_refl _
  | h + 1 => by
    have := pks_len c L h
    by_cases e : L.length / 2 ^ h % 2 = 1
    · rw [pks_one e, List.length_cons]; omega
    · rw [pks_none e]; omega
theorem pks_size {c : Nat} (hc : c ≤ 32) (L : List ByteArray) : ∀ h, ∀ s ∈ pks c L h, s.size = c
  | 0 => by intro s hs; cases hs
  | h + 1 => by
    intro s hs
    have := pks_size hc L h
    by_cases e : L.length / 2 ^ h % 2 = 1
    · rw [pks_one e] at hs
      rcases List.mem_cons.1 hs with rfl | hs
      · exact nd_size hc _ _ _
      · exact this s hs
    · rw [pks_none e] at hs
      exact this s hs
theorem below_two {n h : Nat} (e : n < 2 ^ h) : n / 2 ^ h % 2 ≠ 1 := by rw [Nat.div_eq_of_lt e]; decide
theorem bit_mod {n g s : Nat} (h : s < g) : n % 2 ^ g / 2 ^ s % 2 = n / 2 ^ s % 2 := by
  obtain ⟨d, rfl⟩ : ∃ d, g = s + (d + 1) := ⟨g - s - 1, by omega⟩
  rw [Nat.pow_add, Nat.mod_mul_right_div_self, Nat.pow_succ, Nat.mul_comm, Nat.mod_mul_right_mod]
theorem top_bit {n g s : Nat} (h1 : 2 ^ s ≤ n % 2 ^ g) (h2 : n % 2 ^ g < 2 ^ (s + 1)) : s < g ∧ n / 2 ^ s % 2 = 1 ∧ n % 2 ^ g = n % 2 ^ (s + 1) ∧ n % 2 ^ (s + 1) = 2 ^ s + n % 2 ^ s := by
  have hsg : s < g := by
    apply Nat.lt_of_not_le
    intro hle
    have := Nat.pow_le_pow_right (n := 2) (by decide) hle
    have := Nat.mod_lt n (Nat.two_pow_pos g)
    omega
  have e1 : n % 2 ^ g = n % 2 ^ (s + 1) := by
    have := Nat.mod_mod_of_dvd n (Nat.pow_dvd_pow 2 (show s + 1 ≤ g by omega))
    rw [← this, Nat.mod_eq_of_lt h2]
  rw [e1] at h1 h2
  have e2 : n / 2 ^ s % 2 = 1 := by
    rw [← bit_mod (show s < s + 1 by omega)]
    have : n % 2 ^ (s + 1) / 2 ^ s = 1 := by
      have hp : 2 ^ (s + 1) = 2 ^ s * 2 := Nat.pow_succ ..
      rw [Nat.div_eq_iff (Nat.two_pow_pos s)]
      generalize n % 2 ^ (s + 1) = m at *
      omega
    rw [this]
  refine ⟨hsg, e2, e1, ?_⟩
  rw [Nat.pow_succ, Nat.mod_mul, e2]
  omega
theorem mount_at {n s : Nat} (e : n / 2 ^ s % 2 = 1) : (n / 2 ^ s - 1) * 2 ^ s = n - n % 2 ^ (s + 1) ∧ 1 ≤ n / 2 ^ s := by
  have h1 : 1 ≤ n / 2 ^ s := by
    generalize n / 2 ^ s = x at *
    omega
  refine ⟨?_, h1⟩
  have := Nat.div_add_mod n (2 ^ s)
  rw [Nat.pow_succ, Nat.mod_mul, e, Nat.sub_mul, Nat.mul_comm (n / 2 ^ s)]
  omega
theorem within {n h k : Nat} : k < n / 2 ^ h ↔ (k + 1) * 2 ^ h ≤ n := by
  rw [Nat.lt_iff_add_one_le, Nat.le_div_iff_mul_le (Nat.two_pow_pos h)]
def rowN (c : Nat) (L : List ByteArray) (h m : Nat) : List ByteArray := (List.range m).map (nd c L h)
theorem rowN_len (c : Nat) (L : List ByteArray) (h m : Nat) : (rowN c L h m).length = m := by simp [rowN]
theorem rowN_at (c : Nat) (L : List ByteArray) (h m : Nat) {j : Nat} (hj : j < m) : (rowN c L h m).getD j ByteArray.empty = nd c L h j := by
  simp [rowN, List.getD_eq_getElem?_getD, hj]
theorem rowN_more (c : Nat) (L : List ByteArray) (h m : Nat) : rowN c L h m ++ [nd c L h m] = rowN c L h (m + 1) := by
  simp [rowN, List.range_succ]
end Go.Proofs.YtdocjikpcbmcgaaGreatDoor
namespace Go.Proofs.YtdocjikpcbmcgaaGreatDoor
open Go.RowKit
attribute [local go_sem ↓] Go.wp_at_zero Go.wp_at_succ
theorem wrap_u (x : Int) (h0 : 0 ≤ x) (h1 : x < 18446744073709551616) : IntKind.u64.wrap x = x := by
  simp [IntKind.wrap, IntKind.signed, IntKind.bits]; omega
set_option maxRecDepth 100000 in
theorem blocks_any (w : World) (ao : Option Addr) (len cap h : Nat) (hh : h ≤ 40) (hm : len ≤ 8796093022208) (m : Nat) (hq : len / 2 ^ h = m) :
    Calls Tryz.prog 68 #[.slice ao len cap, .int .i64 (h : Int)] w fun e w' => e = .returned (.int .u64 (m : Int)) ∧ w' = w := by
  have h0 : (0 : Int) ≤ (h : Int) := by omega
  have h1 : (h : Int) < 64 := by omega
  have e0 : IntKind.u64.wrap (len : Int) = (len : Int) := wrap_u _ (by omega) (by omega)
  have e1 : (len : Int) / 2 ^ h = (m : Int) := by rw [← hq]; simp
  clear hm hh hq
  go_enter Tryz.func68, Tryz.ntmps68
  go_wp2
  go_ret
  exact ⟨rfl, rfl⟩
set_option maxRecDepth 100000 in
theorem pnode_any (k : Int) (ao : Option Addr) (b off len cap : Nat) (L : List ByteArray) (hsz : ∀ s ∈ L, s.size ≤ 140737488351232) (hmx : len ≤ 8796093022208) : ∀ h : Nat, h ≤ 40 → ∀ (i : Nat) (w : World) (r : ByteArray), Tb w → RdS w ao b off len L → (i + 1) * 2 ^ h ≤ len → nd (clk k) L h i = r →
    Calls Tryz.prog 69 #[.int .i64 k, .slice ao len cap, .agg #[.int .i64 (h : Int), .int .u64 (i : Int)]] w fun e w' => e = .returned (.string r) ∧ Below w.heap.size w w' := by
  intro h
  induction h with
  | zero =>
    intro _ i w r ht hr hw hq
    rw [Nat.pow_zero, Nat.mul_one] at hw
    have hi : (i : Int) < (len : Int) := by omega
    have hi0 : (0 : Int) ≤ (i : Int) := by omega
    obtain rfl := hr.ptr (by omega)
    have HL : Hid (∀ W, Below w.heap.size w W → Calls Tryz.prog 116 #[.int .i64 k, .string (L.getD i ByteArray.empty)] W fun e w' => e = .returned (.string r) ∧ Below W.heap.size W w') := fun W hb => leaf_any W (ht.next hb) k _ (Nat.lt_of_le_of_lt (hsz _ (getD_mem (by rw [hr.hl]; omega))) (by decide)) r hq
    have hb := Below.refl w.heap.size w
    have ci := fun o => ((hr.next (bal hb o) (Nat.le_refl _)).at (k := i) (by omega))
    generalize L.getD i ByteArray.empty = s at *
    rw [show ((0 : Nat) : Int) = 0 from rfl]
    clear hq ht hr hw hmx hsz
    go_enter Tryz.func69, Tryz.ntmps69
    go_wp2_with (go_at_call 116; with_reducible refine (HL.out _ (bal hb _)).mono ?_; rintro e w1 ⟨rfl, hb1⟩)
    go_ret
    exact ⟨rfl, bnext (bal hb _) hb1⟩
  | succ h ih =>
    intro hh i w r ht hr hw hq
    have hp : 2 ^ (h + 1) = 2 * 2 ^ h := by rw [Nat.pow_succ]; omega
    have h1 : (2 * i + 1 + 1) * 2 ^ h ≤ len := by
      rw [hp] at hw
      rw [show 2 * i + 1 + 1 = (i + 1) * 2 by omega, Nat.mul_assoc]; exact hw
    have h2 : (2 * i + 1) * 2 ^ h ≤ len := Nat.le_trans (Nat.mul_le_mul_right _ (by omega)) h1
    have hi : i < len := by
      have := Nat.two_pow_pos (h + 1)
      have : (i + 1) * 1 ≤ (i + 1) * 2 ^ (h + 1) := Nat.mul_le_mul_left _ this
      omega
    obtain ⟨x, hx⟩ : ∃ x, nd (clk k) L h (2 * i) = x := ⟨_, rfl⟩
    obtain ⟨y, hy⟩ : ∃ y, nd (clk k) L h (2 * i + 1) = y := ⟨_, rfl⟩
    have zx := nd_size (clk_le k) L h (2 * i)
    have zy := nd_size (clk_le k) L h (2 * i + 1)
    have hc := clk_le k
    rw [nd, hx, hy] at hq
    rw [hx] at zx
    rw [hy] at zy
    obtain ⟨j, hj⟩ : ∃ j, 2 * i = j := ⟨_, rfl⟩
    have e1 : IntKind.u64.wrap (2 * (i : Int)) = (j : Int) := by rw [wrap_u _ (by omega) (by omega)]; omega
    have e2 : IntKind.u64.wrap ((j : Int) + 1) = ((j : Int) + 1) := wrap_u _ (by omega) (by omega)
    have e3 : IntKind.i64.wrap (h : Int) = (h : Int) := by simp [IntKind.wrap, IntKind.signed, IntKind.bits]; omega
    rw [hj] at h1 h2 hx hy
    have H1 : Hid (∀ W, Below w.heap.size w W → Calls Tryz.prog 69 #[.int .i64 k, .slice ao len cap, .agg #[.int .i64 (h : Int), .int .u64 (j : Int)]] W fun e w' => e = .returned (.string x) ∧ Below W.heap.size W w') := fun W hb => ih (by omega) j W x (ht.next hb) (hr.next hb (Nat.le_refl _)) h2 hx
    have H2 : Hid (∀ W, Below w.heap.size w W → Calls Tryz.prog 69 #[.int .i64 k, .slice ao len cap, .agg #[.int .i64 (h : Int), .int .u64 ((j : Int) + 1)]] W fun e w' => e = .returned (.string y) ∧ Below W.heap.size W w') := fun W hb => by
      have := ih (by omega) (j + 1) W y (ht.next hb) (hr.next hb (Nat.le_refl _)) h1 hy
      rwa [show ((j + 1 : Nat) : Int) = (j : Int) + 1 from rfl] at this
    have H3 : Hid (∀ W, Below w.heap.size w W → Calls Tryz.prog 125 #[.int .i64 k, .string x, .string y] W fun e w' => e = .returned (.string r) ∧ Below W.heap.size W w') := fun W hb => node_any W (ht.next hb) k x y (by omega) (by omega) r hq
    have hb := Below.refl w.heap.size w
    have hne : ¬ ((h : Int) + 1 = 0) := by omega
    rw [show ((h + 1 : Nat) : Int) = (h : Int) + 1 from rfl]
    clear ih hh hw hq hp h1 h2 hi hx hy zx zy hc hj ht hr hmx hsz
    go_enter Tryz.func69, Tryz.ntmps69
    go_wp2_with (first
      | (go_at_call 69; with_reducible refine (H1.out _ (bal hb _)).mono ?_; rintro e w1 ⟨rfl, hb1⟩; have c0 := hb1.cell (p := ⟨w.heap.size, 0, none⟩) (by simp); have c1 := hb1.cell (p := ⟨w.heap.size, 1, none⟩) (by simp); rw [World.cell?_alloc_new] at c0 c1; replace hb := bnext (bal hb _) hb1; clear hb1)
      | (go_at_call 69; with_reducible refine (H2.out _ hb).mono ?_; rintro e w2 ⟨rfl, hb2⟩; clear c0 c1; replace hb := bnext hb hb2; clear hb2)
      | (go_at_call 125; with_reducible refine (H3.out _ hb).mono ?_; rintro e w3 ⟨rfl, hb3⟩; replace hb := bnext hb hb3; clear hb3))
    go_ret
    exact ⟨rfl, hb⟩
set_option maxRecDepth 100000 in
theorem tree_yes (w : World) (ht : Tb w) (k : Int) (ao : Option Addr) (b off len cap : Nat) (L : List ByteArray) (hr : RdS w ao b off len L) (hsz : ∀ s ∈ L, s.size ≤ 140737488351232) (hmx : len ≤ 8796093022208) (h i : Nat) (hh : h ≤ 40) (hi : (i + 1) * 2 ^ h ≤ len) (r : ByteArray) (hq : nd (clk k) L h i = r) :
    Calls Tryz.prog 215 #[.int .i64 k, .slice ao len cap, .agg #[.int .i64 (h : Int), .int .u64 (i : Int)]] w fun e w' => e = .returned (.tuple #[.string r, .bool true]) ∧ Below w.heap.size w w' := by
  obtain ⟨m, hm⟩ : ∃ m, len / 2 ^ h = m := ⟨_, rfl⟩
  have hlt := within.2 hi
  rw [hm] at hlt
  have HB := fun W => blocks_any W ao len cap h hh hmx m hm
  have HN : Hid (∀ W, Below w.heap.size w W → Calls Tryz.prog 69 #[.int .i64 k, .slice ao len cap, .agg #[.int .i64 (h : Int), .int .u64 (i : Int)]] W fun e w' => e = .returned (.string r) ∧ Below W.heap.size W w') := fun W hb => pnode_any k ao b off len cap L hsz hmx h hh i W r (ht.next hb) (hr.next hb (Nat.le_refl _)) hi hq
  have hb := Below.refl w.heap.size w
  have t1 : ¬ ((h : Int) < 0) := by omega
  have t2 : ¬ ((40 : Int) < (h : Int)) := by omega
  have t3 : ¬ ((m : Int) ≤ (i : Int)) := by omega
  clear hm hlt hi hh hq hr ht hsz hmx
  go_enter Tryz.func215, Tryz.ntmps215
  go_wp2
  go_quiet ((go_at_call 68; refine Calls.quiet_of_same (HB _)))
  go_wp2_with (go_at_call 69; with_reducible refine (HN.out _ (below_drewN (bal hb _) _)).mono ?_; rintro e w1 ⟨rfl, hb1⟩)
  go_ret2
  exact ⟨rfl, bnext (below_drewN (bal hb _) _) hb1⟩
end Go.Proofs.YtdocjikpcbmcgaaGreatDoor
namespace Go.Proofs.YtdocjikpcbmcgaaGreatDoor
open Go.RowKit
attribute [local go_sem ↓] Go.wp_at_zero Go.wp_at_succ
theorem RdS.take {w : World} {ao : Option Addr} {b off len : Nat} {ss : List ByteArray} (h : RdS w ao b off len ss) {n : Nat} (hn : n ≤ len) : RdS w ao b off n (ss.take n) := by
  refine ⟨by rw [List.length_take, h.hl]; omega, fun h0 => h.ptr (by omega), fun j v hv => ?_, fun s hs => h.sz s (List.mem_of_mem_take hs)⟩
  rw [List.map_take, List.getElem?_take] at hv
  split at hv
  · exact h.rng j v hv
  · cases hv
theorem small {c : Nat} (hc : c ≤ 32) {L : List ByteArray} {h : Nat} : ∀ s ∈ pks c L h, s.size ≤ 140737488351232 := fun s hs => by rw [pks_size hc L h s hs]; omega
set_option maxRecDepth 100000 in
theorem peaks_at (w : World) (ht : Tb w) (k : Int) (ao : Option Addr) (b off len cap : Nat) (L : List ByteArray) (hr : RdS w ao b off len L) (hsz : ∀ s ∈ L, s.size ≤ 140737488351232) (hmx : len ≤ 8796093022208) (P : List ByteArray) (q : Nat) (hq : q = 41) (hP : Hid (pks (clk k) L q = P)) :
    Calls Tryz.prog 33 #[.int .i64 k, .slice ao len cap] w fun e w' => ∃ v, e = .returned v ∧ OwnS w' w.heap.size v P ∧ Below w.heap.size w w' := by
  have HT : Hid (Tb w ∧ RdS w ao b off len L ∧ (∀ s ∈ L, s.size ≤ 140737488351232) ∧ len ≤ 8796093022208) := ⟨ht, hr, hsz, hmx⟩
  have hb := Below.refl w.heap.size w
  have HS : Hid ([] ++ pks (clk k) L 41 = P) := by rw [← hq]; exact hP
  have hPl : P.length ≤ 41 := by rw [← hP.out, ← hq]; exact pks_len (clk k) L q
  have HPl := hide hPl
  clear ht hr hsz hmx hq hP hPl
  go_enter Tryz.func33, Tryz.ntmps33
  go_wp2
  go_loopg [5, 6] 41 (fun g v i wr => ∃ (j : Nat) (A : List ByteArray), j = g ∧ i = .int .i64 ((j : Int) - 1) ∧ j ≤ 41 ∧ A.length ≤ 41 ∧ Hid (A ++ pks (clk k) L j = P) ∧ OwnS wr w.heap.size v A ∧ Below w.heap.size w wr)
  case atStart =>
    go_light
    exact ⟨41, [], rfl, by go_num, Nat.le_refl _, by simp, HS.out, owns_nil w _, hb⟩
  case round =>
    clear hb
    obtain ⟨j, A, hg, rfl, hj, hA, HE, ho, hb⟩ := hrel
    subst hg
    cases j with
    | zero =>
      have hz : ¬ ((0 : Int) ≤ -1) := by decide
      rw [show ((0 : Nat) : Int) - 1 = -1 from rfl]
      have HF : Hid (A = P) := by
        have := HE.out
        rw [pks, List.append_nil] at this
        exact this
      clear HE HT
      go_wp2
      go_ret
      exact ⟨_, rfl, by rw [← HF.out]; exact ho, hb⟩
    | succ j =>
      have e1 : ((j + 1 : Nat) : Int) - 1 = (j : Int) := by omega
      have hz : (0 : Int) ≤ (j : Int) := by omega
      rw [e1]
      obtain ⟨m, hm⟩ : ∃ m, len / 2 ^ j = m := ⟨_, rfl⟩
      have hml : m ≤ len := by rw [← hm]; exact Nat.div_le_self _ _
      have HBk : Hid (∀ W, Calls Tryz.prog 68 #[.slice ao len cap, .int .i64 (j : Int)] W fun e w' => e = .returned (.int .u64 (m : Int)) ∧ w' = W) := fun W => blocks_any W ao len cap j (by omega) HT.out.2.2.2 m hm
      have HO : Hid (OwnS wr w.heap.size _ A) := ho
      have hL := HT.out.2.1.hl
      by_cases hodd : m % 2 = 1
      · obtain ⟨x, hx⟩ : ∃ x, nd (clk k) L j (m - 1) = x := ⟨_, rfl⟩
        have HE2 : Hid ((A ++ [x]) ++ pks (clk k) L j = P) := by
          show _ = _
          rw [← HE.out, pks_one (by rw [hL, hm]; exact hodd), hL, hm, hx]; simp
        have zx : x.size ≤ 9223372036854775807 := by rw [← hx, nd_size (clk_le k)]; have := clk_le k; omega
        have hlen2 : A.length + 1 ≤ 41 := by
          have := congrArg List.length HE2.out
          have h41 := HPl.out
          simp at *
          omega
        obtain ⟨p, rfl⟩ : ∃ p, m = p + 1 := ⟨m - 1, by omega⟩
        rw [Nat.add_sub_cancel] at hx
        have HN : Hid (∀ W, Below w.heap.size w W → Calls Tryz.prog 69 #[.int .i64 k, .slice ao len cap, .agg #[.int .i64 (j : Int), .int .u64 (p : Int)]] W fun e w' => e = .returned (.string x) ∧ Below W.heap.size W w') := fun W hb => by
          obtain ⟨t1, t2, t3, t4⟩ := HT.out
          exact pnode_any k ao b off len cap L t3 t4 j (by omega) p W x (t1.next hb) (t2.next hb (Nat.le_refl _)) (within.1 (by omega)) hx
        have hp : IntKind.u64.wrap (p : Int) = (p : Int) := wrap_u _ (by omega) (by have := HT.out.2.2.2; omega)
        have ho2 : ((p : Int) + 1) % 2 = 1 := by omega
        have HB0 : Hid (Below w.heap.size w wr) := hb
        have HL2 : Hid (A.length + 1 ≤ 41) := hlen2
        have HZ : Hid (x.size ≤ 9223372036854775807) := zx
        clear HE hx hm hml hodd zx hL ho hlen2 hA
        go_wp2_with (first
          | (go_at_call 68; with_reducible refine (HBk.out _).mono ?_; rintro e w1 ⟨rfl, rfl⟩)
          | (go_at_call 69; with_reducible refine (HN.out _ hb).mono ?_; rintro e w2 ⟨rfl, hb2⟩)
          | (at_builtin; refine wpList_append_S _ rfl _ _ rfl w.heap.size _ A rfl (own_al (own_next HO.out hb2 (Nat.le_refl _)) _) (some ⟨w2.heap.size, 0, none⟩) w2.heap.size 0 1 [x] rfl (rds_one w2 x HZ.out) (fun h => by cases h) ?c1 ?c2 ?_))
        case c1 => have := HL2.out; simp; omega
        case c2 => have := (bnext hb hb2).size; simp; omega
        intro v2 w3 h3 hb3
        have HX : Hid (OwnS w3 w.heap.size v2 (A ++ [x]) ∧ Below w.heap.size w w3) := ⟨h3, (bal (bnext hb hb2) _).trans hb3⟩
        clear h3 hb3 hb2
        go_wp2
        go_roundg j
        case rel =>
          go_light
          exact ⟨j, A ++ [x], rfl, by go_num, by omega, by have := HL2.out; simp; omega, HE2, HX.out.1, HX.out.2⟩
        case measure => go_light; omega
      · have ho2 : ¬ ((m : Int) % 2 = 1) := by omega
        have HE2 : Hid (A ++ pks (clk k) L j = P) := by
          show _ = _
          rw [← HE.out, pks_none (by rw [hL, hm]; exact hodd)]
        clear HE hm hml hodd hL ho
        go_wp2_with (go_at_call 68; with_reducible refine (HBk.out _).mono ?_; rintro e w1 ⟨rfl, rfl⟩)
        go_roundg j
        case rel =>
          go_light
          exact ⟨j, A, rfl, by go_num, by omega, hA, HE2, HO.out, hb⟩
        case measure => go_light; omega
theorem peaks_any (w : World) (ht : Tb w) (k : Int) (ao : Option Addr) (b off len cap : Nat) (L : List ByteArray) (hr : RdS w ao b off len L) (hsz : ∀ s ∈ L, s.size ≤ 140737488351232) (hmx : len ≤ 8796093022208) (P : List ByteArray) (hP : Hid (pks (clk k) L 41 = P)) :
    Calls Tryz.prog 33 #[.int .i64 k, .slice ao len cap] w fun e w' => ∃ v, e = .returned v ∧ OwnS w' w.heap.size v P ∧ Below w.heap.size w w' := peaks_at w ht k ao b off len cap L hr hsz hmx P 41 rfl hP
theorem chk_ok {k : Int} (h1 : 1 ≤ k) (h2 : k ≤ 32) : chk k = 0 := by rw [chk, if_neg (by omega)]
theorem chk_no {k : Int} (h : k < 1 ∨ 32 < k) : chk k = 70 := by rw [chk, if_pos h]
structure Rt (w : World) (g n : Nat) (d : ByteArray) : Prop where
  c0 : w.cell? ⟨g, 0, none⟩ = some (.int .u64 (n : Int))
  c1 : w.cell? ⟨g, 1, none⟩ = some (.string d)
  f0 : w.frozen? ⟨g, 0, none⟩ = false
  f1 : w.frozen? ⟨g, 1, none⟩ = false
theorem Rt.below {w w' : World} {B g n : Nat} {d : ByteArray} (t : Rt w g n d) (hb : Below B w w') (hg : g < B) : Rt w' g n d :=
  ⟨(hb.cell (p := ⟨g, 0, none⟩) hg).trans t.c0, (hb.cell (p := ⟨g, 1, none⟩) hg).trans t.c1, (hb.frozen (p := ⟨g, 0, none⟩) hg).trans t.f0, (hb.frozen (p := ⟨g, 1, none⟩) hg).trans t.f1⟩
theorem rt_new (w : World) (n : Nat) (d : ByteArray) (t : Nat) : Rt (w.alloc (.cells #[.int .u64 (n : Int), .string d] t)) w.heap.size n d := by
  refine ⟨?_, ?_, ?_, ?_⟩ <;> simp
set_option maxRecDepth 100000 in
theorem proot_bad (w : World) (k : Int) (hk : k < 1 ∨ 32 < k) (ao : Option Addr) (len cap n : Nat) :
    Calls Tryz.prog 56 #[.int .i64 k, .slice ao len cap, .int .u64 (n : Int)] w fun e w' => e = .returned (.tuple #[.agg #[.int .u64 0, .string ⟨#[]⟩], .int .i64 70]) ∧ Below w.heap.size w w' := by
  have HC := fun W => check_any W k
  rw [chk_no hk] at HC
  have hb := Below.refl w.heap.size w
  clear hk
  go_enter Tryz.func56, Tryz.ntmps56
  go_wp2_with (go_at_call 61; with_reducible refine (HC _).mono ?_; rintro e w1 ⟨rfl, rfl⟩)
  refine bodyPost_ret (v := .tuple #[.agg #[.int .u64 0, .string ⟨#[]⟩], .int .i64 70]) (by simp [results, Tryz.results56, go_sem]) rfl ⟨rfl, ?_⟩
  exact bal hb _
def rtD (c : Nat) (L : List ByteArray) (n : Nat) : ByteArray := dg c (rootT n (bagL c (pks c (L.take n) 41)))
set_option maxRecDepth 100000 in
theorem proot_ok (w : World) (ht : Tb w) (k : Int) (h1 : 1 ≤ k) (h2 : k ≤ 32) (ao : Option Addr) (b off len cap : Nat) (L : List ByteArray) (hr : RdS w ao b off len L) (hsz : ∀ s ∈ L, s.size ≤ 140737488351232) (hmx : len ≤ 8796093022208) (hc : len ≤ cap) (n : Nat) (hn : n ≤ len) (r : ByteArray) (hq : Hid (rtD (clk k) L n = r)) :
    Calls Tryz.prog 56 #[.int .i64 k, .slice ao len cap, .int .u64 (n : Int)] w fun e w' => e = .returned (.tuple #[.agg #[.int .u64 (n : Int), .string r], .int .i64 0]) ∧ Below w.heap.size w w' := by
  have HC := fun W => check_any W k
  rw [chk_ok h1 h2] at HC
  have e0 : IntKind.u64.wrap (len : Int) = (len : Int) := wrap_u _ (by omega) (by omega)
  have hn' : ¬ ((len : Int) < (n : Int)) := by omega
  have hn2 : (n : Int) ≤ (cap : Int) := by omega
  obtain ⟨P, hP⟩ : ∃ P, Hid (pks (clk k) (L.take n) 41 = P) := ⟨_, rfl⟩
  have HPk : Hid (∀ W, Below w.heap.size w W → Calls Tryz.prog 33 #[.int .i64 k, .slice ao n cap] W fun e w' => ∃ v, e = .returned v ∧ OwnS w' W.heap.size v P ∧ Below W.heap.size W w') := fun W hb => peaks_any W (ht.next hb) k ao b off n cap (L.take n) ((hr.next hb (Nat.le_refl _)).take hn) (fun s hs => hsz s (List.mem_of_mem_take hs)) (by omega) P hP
  have zP : ∀ s ∈ P, s.size ≤ 140737488351232 := by rw [← hP.out]; exact small (clk_le k)
  have lP : P.length ≤ 41 := by rw [← hP.out]; exact pks_len _ _ _
  have HQ : Hid (dg (clk k) (rootT n (bagL (clk k) P)) = r) := by rw [← hP.out]; exact hq
  have HRo : Hid (∀ W, Below w.heap.size w W → ∀ ao' b' cap', RdS W ao' b' 0 P.length P → Calls Tryz.prog 81 #[.int .i64 k, .int .u64 (n : Int), .slice ao' P.length cap'] W fun e w' => e = .returned (.string r) ∧ Below W.heap.size W w') := fun W hb ao' b' cap' hr' => root_any W (ht.next hb) k n ao' b' 0 P.length cap' P hr' zP (by omega) r HQ.out
  have HZ : Hid (∀ s ∈ P, s.size ≤ 9223372036854775807) := fun s hs => Nat.le_trans (zP s hs) (by decide)
  have hb := Below.refl w.heap.size w
  have HN := rt_new w 0 ⟨#[]⟩ 30
  rw [show ((0 : Nat) : Int) = 0 from rfl] at HN
  have HN2 := hide HN
  clear h1 h2 hn hmx hc hr hsz ht hq hP zP lP HQ HN
  go_enter Tryz.func56, Tryz.ntmps56
  go_wp2_with (first
    | (go_at_call 61; with_reducible refine (HC _).mono ?_; rintro e w1 ⟨rfl, rfl⟩)
    | (go_at_call 33; with_reducible refine (HPk.out _ (bal hb _)).mono ?_; rintro e w2 ⟨v, rfl, ho, hb2⟩; obtain ⟨ao', b', cap', rfl, hr', _, _⟩ := owns_rds ho HZ.out)
    | (go_at_call 81; with_reducible refine (HRo.out _ (bnext (bal hb _) hb2) _ _ _ hr').mono ?_; rintro e w3 ⟨rfl, hb3⟩; have hR := (HN2.out.below hb2 (by simp)).below hb3 (by have := hb2.size; simp at this; omega); have k0 := hR.c0; have k1 := hR.c1; have f0 := hR.f0; have f1 := hR.f1))
  have s0 : (w3.setCell ⟨w.heap.size, 0, none⟩ (.int .u64 (n : Int))).cell? ⟨w.heap.size, 0, none⟩ = some (.int .u64 (n : Int)) := World.cell?_setCell_same _ _ _ k0
  have s1 : ((w3.setCell ⟨w.heap.size, 0, none⟩ (.int .u64 (n : Int))).setCell ⟨w.heap.size, 1, none⟩ (.string r)).cell? ⟨w.heap.size, 1, none⟩ = some (.string r) :=
    World.cell?_setCell_same _ _ _ ((World.cell?_setCell_other _ _ _ _ (by simp)).trans k1)
  refine bodyPost_ret (v := .tuple #[.agg #[.int .u64 (n : Int), .string r], .int .i64 0]) (by simp [results, Tryz.results56, go_sem, s0, s1]) rfl ⟨rfl, ?_⟩
  exact ((bnext (bnext (bal hb _) hb2) hb3).setCell (p := ⟨w.heap.size, 0, none⟩) (Nat.le_refl _) _).setCell (p := ⟨w.heap.size, 1, none⟩) (Nat.le_refl _) _
end Go.Proofs.YtdocjikpcbmcgaaGreatDoor
