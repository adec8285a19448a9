/-
  Walks of path's laws: strength, list, wood. Own work.
-/
import Derived.Test.YtgmnolepaidiiaaDoorTWalkE
import Derived.Test.YtgmnolepaidiiaaDoorFWalkD
namespace Go.Proofs.YtgmnolepaidiiaaDoor
open Go.RowKit
attribute [local go_sem ↓] Go.wp_at_zero Go.wp_at_succ
/-- A strength out of any number. -/
def stg (k : Int) : Int := Int.tmod (Int.tmod k 32 + 32) 32 + 1
theorem stg_in (k : Int) : 1 ≤ stg k ∧ stg k ≤ 32 := by
  unfold stg
  have h1 := Int.tmod_lt_of_pos k (show (0 : Int) < 32 by decide)
  have h2 : -32 < Int.tmod k 32 := by
    have := Int.lt_tmod_of_pos k (show (0 : Int) < 32 by decide)
    omega
  have h3 : 0 ≤ Int.tmod k 32 + 32 := by omega
  rw [Int.tmod_eq_emod_of_nonneg h3]
  omega
theorem strength_any (w : World) (k K : Int) (hK : stg k = K) : Calls Tryd.prog 12 #[.int .i64 k] w fun e w' => e = .returned (.int .i64 K) ∧ w = w' := by
  have hK2 := hK
  unfold stg at hK2
  have h1 := Int.tmod_lt_of_pos k (show (0 : Int) < 32 by decide)
  have h2 : -32 < Int.tmod k 32 := by
    have := Int.lt_tmod_of_pos k (show (0 : Int) < 32 by decide)
    omega
  obtain ⟨m, hm⟩ : ∃ m, Int.tmod k 32 = m := ⟨_, rfl⟩
  rw [hm] at hK2 h1 h2
  obtain ⟨t, ht⟩ : ∃ t, Int.tmod (m + 32) 32 = t := ⟨_, rfl⟩
  rw [ht] at hK2
  have ht2 : 0 ≤ t ∧ t < 32 := by rw [← ht, Int.tmod_eq_emod_of_nonneg (by omega)]; omega
  have e1 : IntKind.i64.wrap m = m := by rw [IntKind.wrap_i64]; omega
  have e2 : IntKind.i64.wrap (m + 32) = m + 32 := by rw [IntKind.wrap_i64]; omega
  have e3 : IntKind.i64.wrap t = t := by rw [IntKind.wrap_i64]; omega
  have e4 : IntKind.i64.wrap (t + 1) = K := by rw [IntKind.wrap_i64]; omega
  clear hK hK2 h1 h2 ht2
  go_enter Tryd.func12, Tryd.ntmps12
  go_wp2
  go_ret
  exact ⟨rfl, rfl⟩
/-- An item, cut. -/
def ct (x : ByteArray) : ByteArray := if 2000 < x.size then x.extract 0 2000 else x
theorem ct_size (x : ByteArray) : (ct x).size ≤ 2000 := by
  unfold ct
  split
  · rw [ByteArray.size_extract]; omega
  · omega
def lst (L : List ByteArray) : List ByteArray := (L.take 80).map ct
theorem lst_len (L : List ByteArray) : (lst L).length ≤ 80 := by rw [lst, List.length_map, List.length_take]; omega
theorem lst_size (L : List ByteArray) : ∀ s ∈ lst L, s.size ≤ 2000 := fun s hs => by
  obtain ⟨x, _, rfl⟩ := List.mem_map.1 hs
  exact ct_size x
set_option maxRecDepth 100000 in
set_option maxHeartbeats 1000000 in
theorem list_any (w : World) (ao : Option Addr) (b off len cap : Nat) (L : List ByteArray) (hr : RdS w ao b off len L) (hm : len ≤ 8796093022208) (T : List ByteArray) (hT : lst L = T) :
    Calls Tryd.prog 13 #[.slice ao len cap] w fun e w' => ∃ v, e = .returned v ∧ OwnS w' w.heap.size v T ∧ Below w.heap.size w w' := by
  obtain rfl := hr.hl
  have HR : Hid (∀ W, Below w.heap.size w W → RdS W ao b off L.length L) := fun W hb => hr.next hb (Nat.le_refl _)
  have HX : Hid (L.length ≤ 8796093022208 ∧ lst L = T) := ⟨hm, hT⟩
  have h63 : (L.length : Int) ≤ 8796093022208 := by omega
  clear hr hm hT
  go_enter Tryd.func13, Tryd.ntmps13
  go_wp2
  go_loopg [3, 4] 80 (fun g v i wr => ∃ j : Nat, j ≤ L.length ∧ j ≤ 80 ∧ g = 80 - j ∧ i = .int .i64 (j : Int) ∧ Hid (OwnS wr w.heap.size v ((L.take j).map ct)) ∧ Below w.heap.size w wr)
  case atStart =>
    go_light
    exact ⟨0, Nat.zero_le _, Nat.zero_le _, rfl, rfl, owns_nil _ _, Below.refl _ _⟩
  case round =>
    obtain ⟨j, hj, hj8, rfl, rfl, HO, hb⟩ := hrel
    by_cases hlt : j < L.length
    · have hz : (j : Int) < (L.length : Int) := by omega
      have hz0 : (0 : Int) ≤ (j : Int) := Int.natCast_nonneg _
      by_cases h80 : j < 80
      · have hz2 : (j : Int) < 80 := by omega
        have hrd := HR.out wr hb
        obtain rfl := hrd.ptr (by omega)
        have cj := hrd.at hlt
        obtain ⟨x, hx⟩ : ∃ x, L.getD j ByteArray.empty = x := ⟨_, rfl⟩
        rw [hx] at cj
        have htn : (L.take (j + 1)).map ct = (L.take j).map ct ++ [ct x] := by rw [take_succ_getD ByteArray.empty L j hlt, hx, List.map_append]; rfl
        have hlen : ((L.take j).map ct).length = j := by rw [List.length_map, List.length_take]; omega
        have zc := ct_size x
        have zx : x.size ≤ 9223372036854775807 := by rw [← hx]; exact hrd.sz _ (getD_mem hlt)
        have HN : Hid (∀ y, y = ct x → ∀ (W : World) (v : Value), OwnS W w.heap.size v ((L.take j).map ct ++ [y]) → OwnS W w.heap.size v ((L.take (j + 1)).map ct)) := fun y hy W v h => by rw [htn, ← hy]; exact h
        obtain ⟨A, hA⟩ : ∃ A, (L.take j).map ct = A := ⟨_, rfl⟩
        rw [hA] at HO hlen HN
        have HB := hide hb
        clear htn hrd hA hb
        by_cases hbig : 2000 < x.size
        · have hbz : (2000 : Int) < (x.size : Int) := by omega
          have hy : x.extract 0 2000 = ct x := by rw [ct, if_pos hbig]
          obtain ⟨y, hye⟩ : ∃ y, x.extract 0 2000 = y := ⟨_, rfl⟩
          rw [hye] at hy
          have zy : y.size ≤ 9223372036854775807 := by rw [hy]; omega
          have HG : Hid (y = ct x ∧ A.length = j ∧ y.size ≤ 9223372036854775807) := ⟨hy, hlen, zy⟩
          have e200 : (2000 : Int) ≤ (x.size : Int) := by omega
          clear hy hlen zy zc hx hbig zx
          go_wp2_with (at_builtin; refine wpList_append_S _ rfl _ _ rfl w.heap.size _ A rfl (own_al HO.out _) (some ⟨wr.heap.size, 0, none⟩) wr.heap.size 0 1 [y] rfl (rds_one wr y HG.out.2.2) (fun h => by cases h) ?c1 ?c2 ?_)
          case c1 => have := HG.out.2.1; simp; omega
          case c2 => have := HB.out.size; simp; omega
          intro v' w2 h1 h2
          have HY : Hid (OwnS w2 w.heap.size v' ((L.take (j + 1)).map ct) ∧ Below w.heap.size w w2) := ⟨HN.out y HG.out.1 _ _ h1, (bal HB.out _).trans h2⟩
          clear h1 h2 HN HO
          go_wp2
          go_roundg (80 - (j + 1))
          case rel =>
            go_light
            exact ⟨j + 1, by omega, by omega, rfl, by go_num, HY.out.1, HY.out.2⟩
          case measure => go_light; omega
        · have hbz : ¬ (2000 : Int) < (x.size : Int) := by omega
          have HG : Hid (x = ct x ∧ A.length = j ∧ x.size ≤ 9223372036854775807) := ⟨by rw [ct, if_neg hbig], hlen, zx⟩
          clear hlen zc hx hbig zx
          go_wp2_with (at_builtin; refine wpList_append_S _ rfl _ _ rfl w.heap.size _ A rfl (own_al HO.out _) (some ⟨wr.heap.size, 0, none⟩) wr.heap.size 0 1 [x] rfl (rds_one wr x HG.out.2.2) (fun h => by cases h) ?c1 ?c2 ?_)
          case c1 => have := HG.out.2.1; simp; omega
          case c2 => have := HB.out.size; simp; omega
          intro v' w2 h1 h2
          have HY : Hid (OwnS w2 w.heap.size v' ((L.take (j + 1)).map ct) ∧ Below w.heap.size w w2) := ⟨HN.out x HG.out.1 _ _ h1, (bal HB.out _).trans h2⟩
          clear h1 h2 HN HO
          go_wp2
          go_roundg (80 - (j + 1))
          case rel =>
            go_light
            exact ⟨j + 1, by omega, by omega, rfl, by go_num, HY.out.1, HY.out.2⟩
          case measure => go_light; omega
      · obtain rfl : j = 80 := by omega
        have hz2 : ¬ ((80 : Nat) : Int) < 80 := by omega
        have hF : lst L = T := HX.out.2
        have HF : Hid (OwnS wr w.heap.size u3 T) := by rw [← hF]; exact HO.out
        clear HO hF
        go_wp2
        go_ret
        exact ⟨_, rfl, HF.out, hb⟩
    · obtain rfl : j = L.length := by omega
      have hz : ¬ ((L.length : Int) < (L.length : Int)) := by omega
      have HF : Hid (OwnS wr w.heap.size u3 T) := by
        rw [← HX.out.2, lst]
        have := HO.out
        rw [List.take_length] at this
        rw [List.take_of_length_le hj8]
        exact this
      clear HO hlt
      go_wp2
      go_ret
      exact ⟨_, rfl, HF.out, hb⟩
set_option maxRecDepth 100000 in
set_option maxHeartbeats 1000000 in
theorem wood_any (w : World) (ht : Tb w) (k : Int) (k1 : 1 ≤ k) (k2 : k ≤ 32) (ao : Option Addr) (b off len cap : Nat) (L : List ByteArray) (hr : RdS w ao b off len L) (hmx : len ≤ 80) (hs : ∀ s ∈ L, s.size ≤ 2000) :
    Calls Tryd.prog 14 #[.int .i64 k, .slice ao len cap] w fun e w' => e = .returned (.pointer (some ⟨w.heap.size + 1, 0, none⟩)) ∧ Frs w' w.heap.size k L ∧ Below w.heap.size w w' := by
  obtain rfl := hr.hl
  have HN := fnew_ok w k k1 k2
  have HT0 : Hid (∀ W, Below w.heap.size w W → Tb W) := fun W hb => ht.next hb
  have HR : Hid (∀ W, Below w.heap.size w W → RdS W ao b off L.length L) := fun W hb => hr.next hb (Nat.le_refl _)
  have HX := hide (And.intro hmx hs)
  have h63 : (L.length : Int) ≤ 80 := by omega
  clear ht hr hmx hs k1 k2
  go_enter Tryd.func14, Tryd.ntmps14
  go_wp2_with (go_at_call 35; with_reducible refine HN.mono ?_; rintro e w1 ⟨rfl, hF1, hb1⟩)
  have HF1 := hide hF1
  clear hF1 HN
  go_loopg [6, 7] L.length (fun g e i wr => ∃ j : Nat, j ≤ L.length ∧ g = L.length - j ∧ e = .int .i64 0 ∧ i = .int .i64 (j : Int) ∧ Hid (Frs wr w.heap.size k (L.take j)) ∧ Below w.heap.size w wr)
  case atStart =>
    go_light
    exact ⟨0, Nat.zero_le _, rfl, rfl, rfl, HF1, hb1⟩
  case round =>
    clear hb1 HF1
    obtain ⟨j, hj, rfl, rfl, rfl, HA, hb⟩ := hrel
    by_cases hlt : j < L.length
    · have hz : (j : Int) < (L.length : Int) := by omega
      have hz0 : (0 : Int) ≤ (j : Int) := Int.natCast_nonneg _
      obtain rfl := (HR.out wr hb).ptr (by omega)
      have cj := (HR.out wr hb).at hlt
      obtain ⟨x, hx⟩ : ∃ x, L.getD j ByteArray.empty = x := ⟨_, rfl⟩
      have htn := take_succ_getD ByteArray.empty L j hlt
      have zx := HX.out.2 _ (getD_mem hlt)
      rw [hx] at cj htn zx
      have hL : (L.take j).length < 65536 := by have := HX.out.1; rw [List.length_take]; omega
      obtain ⟨t, hT⟩ : ∃ t, tr 64 ((L.take j).length + 1) = t := ⟨_, rfl⟩
      have HAp : Hid (Calls Tryd.prog 36 #[.pointer (some ⟨w.heap.size + 1, 0, none⟩), .string x] wr fun e w' => ∃ v, e = .returned (.tuple #[v, .int .i64 0]) ∧ Frs w' w.heap.size k (L.take (j + 1)) ∧ Below w.heap.size w w') :=
        (fappend_ok wr (HT0.out wr hb) w.heap.size k (L.take j) HA.out x (by omega) hL t hT).mono fun e w' ⟨v, e1, e2, e3, e4⟩ => ⟨v, e1, by rw [htn]; exact e2, hb.trans e4.below⟩
      clear hx htn zx hL hT hb
      go_wp2_with (go_at_call 36; with_reducible refine HAp.out.mono ?_; rintro e w2 ⟨v, rfl, hF2, hb2⟩)
      go_roundg (L.length - (j + 1))
      case rel =>
        go_light
        exact ⟨j + 1, by omega, rfl, rfl, by go_num, hF2, hb2⟩
      case measure => go_light; omega
    · obtain rfl : j = L.length := by omega
      have hz : ¬ ((L.length : Int) < (L.length : Int)) := by omega
      rw [List.take_length] at HA
      clear hlt
      go_wp2
      go_ret
      exact ⟨rfl, HA.out, hb⟩
end Go.Proofs.YtgmnolepaidiiaaDoor
