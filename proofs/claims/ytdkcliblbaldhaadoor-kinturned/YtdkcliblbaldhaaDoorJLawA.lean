/-
  Walks of kin's laws: num, strength, few, grown, same. Own work.
-/
import Derived.Test.YtdkcliblbaldhaaDoorJWalkA
import Derived.Test.YtdkcliblbaldhaaDoorFWalkD
namespace Go.Proofs.YtdkcliblbaldhaaDoor
open Go.RowKit
attribute [local go_sem ↓] Go.wp_at_zero Go.wp_at_succ
theorem num_id (x : Int) (w : World) : Calls Tryd.prog 16 #[.int .i64 x] w fun e w' => e = .returned (.int .i64 x) ∧ w = w' := by
  go_enter Tryd.func16, Tryd.ntmps16
  go_wp2
  go_ret
  exact ⟨rfl, rfl⟩
/-- A strength out of any number. -/
def stg (k : Int) : Int := IntKind.u64.wrap k % 32 + 1
theorem stg_in (k : Int) : 1 ≤ stg k ∧ stg k ≤ 32 := by
  unfold stg
  have h1 := Int.emod_nonneg (IntKind.u64.wrap k) (show (32 : Int) ≠ 0 by decide)
  have h2 := Int.emod_lt_of_pos (IntKind.u64.wrap k) (show (0 : Int) < 32 by decide)
  omega
theorem strength_any (w : World) (k K : Int) (hK : stg k = K) : Calls Tryd.prog 9 #[.int .i64 k] w fun e w' => e = .returned (.int .i64 K) ∧ w = w' := by
  have hK2 := hK
  unfold stg at hK2
  obtain ⟨m, hm⟩ : ∃ m, IntKind.u64.wrap k % 32 = m := ⟨_, rfl⟩
  have h0 : 0 ≤ m := by rw [← hm]; exact Int.emod_nonneg _ (by decide)
  have h1 : m < 32 := by rw [← hm]; exact Int.emod_lt_of_pos _ (by decide)
  have hn : 0 ≤ IntKind.u64.wrap k := by rw [IntKind.wrap_u64]; omega
  have e1 : Int.tmod (IntKind.u64.wrap k) 32 = m := by rw [Int.tmod_eq_emod_of_nonneg hn]; exact hm
  have e2 : IntKind.u64.wrap m = m := u64_id _ h0 (by omega)
  have e3 : IntKind.i64.wrap m = m := by rw [IntKind.wrap_i64]; omega
  have e4 : IntKind.i64.wrap (m + 1) = K := by rw [IntKind.wrap_i64]; omega
  clear hK hK2
  go_enter Tryd.func9, Tryd.ntmps9
  go_wp2
  go_ret
  exact ⟨rfl, rfl⟩
set_option maxRecDepth 100000 in
theorem same_any (w : World) (ao : Option Addr) (b off len cap : Nat) (ss : List ByteArray) (hr : RdS w ao b off len ss) (ao' : Option Addr) (b' off' cap' : Nat) (hr' : RdS w ao' b' off' len ss) (hmx : len ≤ 8796093022208) :
    Calls Tryd.prog 22 #[.slice ao len cap, .slice ao' len cap'] w fun e w' => e = .returned (.bool true) ∧ Below w.heap.size w w' := by
  obtain rfl := hr.hl
  have HR1 : Hid (∀ W, Below w.heap.size w W → RdS W ao b off ss.length ss) := fun W h => hr.next h (Nat.le_refl _)
  have HR2 : Hid (∀ W, Below w.heap.size w W → RdS W ao' b' off' ss.length ss) := fun W h => hr'.next h (Nat.le_refl _)
  have hb := Below.refl w.heap.size w
  clear hr hr'
  go_enter Tryd.func22, Tryd.ntmps22
  go_wp2
  go_loopg [5] ss.length (fun gk i wr => ∃ j : Nat, j ≤ ss.length ∧ gk = ss.length - j ∧ i = .int .i64 (j : Int) ∧ Below w.heap.size w wr)
  case atStart =>
    go_light
    exact ⟨0, Nat.zero_le _, rfl, rfl, hb⟩
  case round =>
    clear hb
    obtain ⟨j, hj, rfl, rfl, hb⟩ := hrel
    by_cases hlt : j < ss.length
    · have hz : (j : Int) < (ss.length : Int) := by omega
      have r1 := HR1.out wr hb
      have r2 := HR2.out wr hb
      obtain rfl := r1.ptr (by omega)
      obtain rfl := r2.ptr (by omega)
      have k1 := r1.at hlt
      have k2 := r2.at hlt
      generalize ss.getD j ByteArray.empty = p at *
      have HB := hide hb
      clear hb r1 r2 HR1 HR2
      go_upto_region 6 with (fail)
      go_region
      go_wp2
      go_roundg (ss.length - (j + 1))
      case rel =>
        go_light
        exact ⟨j + 1, by omega, rfl, by go_num, HB.out.drew⟩
      case measure => go_light; omega
    · obtain rfl : j = ss.length := by omega
      have hz : ¬ ((ss.length : Int) < (ss.length : Int)) := by omega
      clear HR1 HR2
      go_wp2
      go_ret
      exact ⟨rfl, hb⟩
/-- An item, cut. -/
def ct (x : ByteArray) : ByteArray := if 100 < x.size then x.extract 0 100 else x
theorem ct_size (x : ByteArray) : (ct x).size ≤ 100 := by
  unfold ct
  split
  · rw [ByteArray.size_extract]; omega
  · omega
def lst (L : List ByteArray) : List ByteArray := (L.take 70).map ct
theorem lst_len (L : List ByteArray) : (lst L).length ≤ 70 := by rw [lst, List.length_map, List.length_take]; omega
theorem lst_size (L : List ByteArray) : ∀ s ∈ lst L, s.size ≤ 100 := fun s hs => by
  obtain ⟨x, _, rfl⟩ := List.mem_map.1 hs
  exact ct_size x
set_option maxRecDepth 100000 in
set_option maxHeartbeats 1000000 in
theorem few_any (w : World) (ao : Option Addr) (b off len cap : Nat) (L : List ByteArray) (hr : RdS w ao b off len L) (hm : len ≤ 8796093022208) (T : List ByteArray) (hT : lst L = T) :
    Calls Tryd.prog 10 #[.slice ao len cap] w fun e w' => ∃ v, e = .returned v ∧ OwnS w' w.heap.size v T ∧ Below w.heap.size w w' := by
  obtain rfl := hr.hl
  have HR : Hid (∀ W, Below w.heap.size w W → RdS W ao b off L.length L) := fun W hb => hr.next hb (Nat.le_refl _)
  have HX : Hid (L.length ≤ 8796093022208 ∧ lst L = T) := ⟨hm, hT⟩
  have h63 : (L.length : Int) ≤ 8796093022208 := by omega
  clear hr hm hT
  go_enter Tryd.func10, Tryd.ntmps10
  go_wp2
  go_loopg [3, 4] 70 (fun g v i wr => ∃ j : Nat, j ≤ L.length ∧ j ≤ 70 ∧ g = 70 - j ∧ i = .int .i64 (j : Int) ∧ Hid (OwnS wr w.heap.size v ((L.take j).map ct)) ∧ Below w.heap.size w wr)
  case atStart =>
    go_light
    exact ⟨0, Nat.zero_le _, Nat.zero_le _, rfl, rfl, owns_nil _ _, Below.refl _ _⟩
  case round =>
    obtain ⟨j, hj, hj8, rfl, rfl, HO, hb⟩ := hrel
    by_cases hlt : j < L.length
    · have hz : (j : Int) < (L.length : Int) := by omega
      have hz0 : (0 : Int) ≤ (j : Int) := Int.natCast_nonneg _
      by_cases h70 : j < 70
      · have hz2 : (j : Int) < 70 := by omega
        have hrd := HR.out wr hb
        obtain rfl := hrd.ptr (by omega)
        have cj := hrd.at hlt
        obtain ⟨x, hx⟩ : ∃ x, L.getD j ByteArray.empty = x := ⟨_, rfl⟩
        rw [hx] at cj
        have htn : (L.take (j + 1)).map ct = (L.take j).map ct ++ [ct x] := by rw [take_succ_getD ByteArray.empty L j hlt, hx, List.map_append]; rfl
        have hlen : ((L.take j).map ct).length = j := by rw [List.length_map, List.length_take]; omega
        have zc := ct_size x
        have zx : x.size ≤ 9223372036854775807 := by rw [← hx]; exact hrd.sz _ (getD_mem hlt)
        have HN : Hid (∀ y, y = ct x → ∀ (W : World) (v : Value), OwnS W w.heap.size v ((L.take j).map ct ++ [y]) → OwnS W w.heap.size v ((L.take (j + 1)).map ct)) := fun y hy W v h => by rw [htn, ← hy]; exact h
        obtain ⟨A, hA⟩ : ∃ A, (L.take j).map ct = A := ⟨_, rfl⟩
        rw [hA] at HO hlen HN
        have HB := hide hb
        clear htn hrd hA hb
        by_cases hbig : 100 < x.size
        · have hbz : (100 : Int) < (x.size : Int) := by omega
          have hy : x.extract 0 100 = ct x := by rw [ct, if_pos hbig]
          obtain ⟨y, hye⟩ : ∃ y, x.extract 0 100 = y := ⟨_, rfl⟩
          rw [hye] at hy
          have zy : y.size ≤ 9223372036854775807 := by rw [hy]; omega
          have HG : Hid (y = ct x ∧ A.length = j ∧ y.size ≤ 9223372036854775807) := ⟨hy, hlen, zy⟩
          have e200 : (100 : Int) ≤ (x.size : Int) := by omega
          clear hy hlen zy zc hx hbig zx
          go_wp2_with (at_builtin; refine wpList_append_S _ rfl _ _ rfl w.heap.size _ A rfl (own_al HO.out _) (some ⟨wr.heap.size, 0, none⟩) wr.heap.size 0 1 [y] rfl (rds_one wr y HG.out.2.2) (fun h => by cases h) ?c1 ?c2 ?_)
          case c1 => have := HG.out.2.1; simp; omega
          case c2 => have := HB.out.size; simp; omega
          intro v' w2 h1 h2
          have HY : Hid (OwnS w2 w.heap.size v' ((L.take (j + 1)).map ct) ∧ Below w.heap.size w w2) := ⟨HN.out y HG.out.1 _ _ h1, (bal HB.out _).trans h2⟩
          clear h1 h2 HN HO
          go_wp2
          go_roundg (70 - (j + 1))
          case rel =>
            go_light
            exact ⟨j + 1, by omega, by omega, rfl, by go_num, HY.out.1, HY.out.2⟩
          case measure => go_light; omega
        · have hbz : ¬ (100 : Int) < (x.size : Int) := by omega
          have HG : Hid (x = ct x ∧ A.length = j ∧ x.size ≤ 9223372036854775807) := ⟨by rw [ct, if_neg hbig], hlen, zx⟩
          clear hlen zc hx hbig zx
          go_wp2_with (at_builtin; refine wpList_append_S _ rfl _ _ rfl w.heap.size _ A rfl (own_al HO.out _) (some ⟨wr.heap.size, 0, none⟩) wr.heap.size 0 1 [x] rfl (rds_one wr x HG.out.2.2) (fun h => by cases h) ?c1 ?c2 ?_)
          case c1 => have := HG.out.2.1; simp; omega
          case c2 => have := HB.out.size; simp; omega
          intro v' w2 h1 h2
          have HY : Hid (OwnS w2 w.heap.size v' ((L.take (j + 1)).map ct) ∧ Below w.heap.size w w2) := ⟨HN.out x HG.out.1 _ _ h1, (bal HB.out _).trans h2⟩
          clear h1 h2 HN HO
          go_wp2
          go_roundg (70 - (j + 1))
          case rel =>
            go_light
            exact ⟨j + 1, by omega, by omega, rfl, by go_num, HY.out.1, HY.out.2⟩
          case measure => go_light; omega
      · obtain rfl : j = 70 := by omega
        have hz2 : ¬ ((70 : Nat) : Int) < 70 := by omega
        have hF : lst L = T := HX.out.2
        have HF : Hid (OwnS wr w.heap.size u3 T) := by rw [← hF]; exact HO.out
        clear HO hF
        go_wp2
        go_ret
        exact ⟨_, rfl, HF.out, hb⟩
    · obtain rfl : j = L.length := by omega
      have hz : ¬ ((L.length : Int) < (L.length : Int)) := by omega
      have HF : Hid (OwnS wr w.heap.size u3 T) := by
        rw [← HX.out.2, lst]
        have := HO.out
        rw [List.take_length] at this
        rw [List.take_of_length_le hj8]
        exact this
      clear HO hlt
      go_wp2
      go_ret
      exact ⟨_, rfl, HF.out, hb⟩
set_option maxRecDepth 100000 in
set_option maxHeartbeats 1000000 in
theorem grown_any (w : World) (ht : Tb w) (k : Int) (k1 : 1 ≤ k) (k2 : k ≤ 32) (ao : Option Addr) (b off len cap : Nat) (L : List ByteArray) (hr : RdS w ao b off len L) (hmx : len ≤ 70) (hs : ∀ s ∈ L, s.size ≤ 100) :
    Calls Tryd.prog 11 #[.int .i64 k, .slice ao len cap] w fun e w' => e = .returned (.pointer (some ⟨w.heap.size + 1, 0, none⟩)) ∧ Frs w' w.heap.size k L ∧ Below w.heap.size w w' := by
  obtain rfl := hr.hl
  have HN := fnew_ok w k k1 k2
  have HT0 : Hid (∀ W, Below w.heap.size w W → Tb W) := fun W hb => ht.next hb
  have HR : Hid (∀ W, Below w.heap.size w W → RdS W ao b off L.length L) := fun W hb => hr.next hb (Nat.le_refl _)
  have HX := hide (And.intro hmx hs)
  have h63 : (L.length : Int) ≤ 70 := by omega
  clear ht hr hmx hs k1 k2
  go_enter Tryd.func11, Tryd.ntmps11
  go_wp2_with (first
    | (go_at_call 30; with_reducible refine HN.mono ?_; rintro e w1 ⟨rfl, hF1, hb1⟩)
    | (go_at_call 16; with_reducible refine (num_id _ _).mono ?_; rintro e wn ⟨rfl, rfl⟩))
  have HF1 := hide hF1
  clear hF1 HN
  go_loopg [6, 7] L.length (fun g e i wr => ∃ j : Nat, j ≤ L.length ∧ g = L.length - j ∧ e = .int .i64 0 ∧ i = .int .i64 (j : Int) ∧ Hid (Frs wr w.heap.size k (L.take j)) ∧ Below w.heap.size w wr)
  case atStart =>
    go_light
    exact ⟨0, Nat.zero_le _, rfl, rfl, rfl, HF1, hb1⟩
  case round =>
    clear hb1 HF1
    obtain ⟨j, hj, rfl, rfl, rfl, HA, hb⟩ := hrel
    by_cases hlt : j < L.length
    · have hz : (j : Int) < (L.length : Int) := by omega
      have hz0 : (0 : Int) ≤ (j : Int) := Int.natCast_nonneg _
      obtain rfl := (HR.out wr hb).ptr (by omega)
      have cj := (HR.out wr hb).at hlt
      obtain ⟨x, hx⟩ : ∃ x, L.getD j ByteArray.empty = x := ⟨_, rfl⟩
      have htn := take_succ_getD ByteArray.empty L j hlt
      have zx := HX.out.2 _ (getD_mem hlt)
      rw [hx] at cj htn zx
      have hL : (L.take j).length < 65536 := by have := HX.out.1; rw [List.length_take]; omega
      obtain ⟨t, hT⟩ : ∃ t, tr 64 ((L.take j).length + 1) = t := ⟨_, rfl⟩
      have HAp : Hid (Calls Tryd.prog 31 #[.pointer (some ⟨w.heap.size + 1, 0, none⟩), .string x] wr fun e w' => ∃ v, e = .returned (.tuple #[v, .int .i64 0]) ∧ Frs w' w.heap.size k (L.take (j + 1)) ∧ Below w.heap.size w w') :=
        (fappend_ok wr (HT0.out wr hb) w.heap.size k (L.take j) HA.out x (by omega) hL t hT).mono fun e w' ⟨v, e1, e2, e3, e4⟩ => ⟨v, e1, by rw [htn]; exact e2, hb.trans e4.below⟩
      clear hx htn zx hL hT hb
      go_wp2_with (first
        | (go_at_call 31; with_reducible refine HAp.out.mono ?_; rintro e w2 ⟨v, rfl, hF2, hb2⟩)
        | (go_at_call 16; with_reducible refine (num_id _ _).mono ?_; rintro e wn ⟨rfl, rfl⟩))
      go_roundg (L.length - (j + 1))
      case rel =>
        go_light
        exact ⟨j + 1, by omega, rfl, rfl, by go_num, hF2, hb2⟩
      case measure => go_light; omega
    · obtain rfl : j = L.length := by omega
      have hz : ¬ ((L.length : Int) < (L.length : Int)) := by omega
      rw [List.take_length] at HA
      clear hlt
      go_wp2
      go_ret
      exact ⟨rfl, HA.out, hb⟩
end Go.Proofs.YtdkcliblbaldhaaDoor
