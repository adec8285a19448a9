/-
  Walks of forest's laws: strength, few, same, grown. Own work.
-/
import Derived.Test.YtabdobdopcfllaaDoorFAlive
namespace Go.Proofs.YtabdobdopcfllaaDoor
open Go.RowKit
attribute [local go_sem ↓] Go.wp_at_zero Go.wp_at_succ
theorem num_id (x : Int) (w : World) : Calls Tryd.prog 11 #[.int .i64 x] w fun e w' => e = .returned (.int .i64 x) ∧ w = w' := by
  go_enter Tryd.func11, Tryd.ntmps11
  go_wp2
  go_ret
  exact ⟨rfl, rfl⟩
/-- A strength out of any number. -/
def stg (k : Int) : Int := IntKind.u64.wrap k % 32 + 1
theorem stg_in (k : Int) : 1 ≤ stg k ∧ stg k ≤ 32 := by
  unfold stg
  have h1 := Int.emod_nonneg (IntKind.u64.wrap k) (show (32 : Int) ≠ 0 by decide)
  have h2 := Int.emod_lt_of_pos (IntKind.u64.wrap k) (show (0 : Int) < 32 by decide)
  omega
theorem strength_any (w : World) (k K : Int) (hK : stg k = K) : Calls Tryd.prog 9 #[.int .i64 k] w fun e w' => e = .returned (.int .i64 K) ∧ w = w' := by
  have hK2 := hK
  unfold stg at hK2
  obtain ⟨m, hm⟩ : ∃ m, IntKind.u64.wrap k % 32 = m := ⟨_, rfl⟩
  have h0 : 0 ≤ m := by rw [← hm]; exact Int.emod_nonneg _ (by decide)
  have h1 : m < 32 := by rw [← hm]; exact Int.emod_lt_of_pos _ (by decide)
  have hn : 0 ≤ IntKind.u64.wrap k := by rw [IntKind.wrap_u64]; omega
  have e1 : Int.tmod (IntKind.u64.wrap k) 32 = m := by rw [Int.tmod_eq_emod_of_nonneg hn]; exact hm
  have e2 : IntKind.u64.wrap m = m := u64_id _ h0 (by omega)
  have e3 : IntKind.i64.wrap m = m := by rw [IntKind.wrap_i64]; omega
  have e4 : IntKind.i64.wrap (m + 1) = K := by rw [IntKind.wrap_i64]; omega
  clear hK hK2
  go_enter Tryd.func9, Tryd.ntmps9
  go_wp2
  go_ret
  exact ⟨rfl, rfl⟩
set_option maxRecDepth 100000 in
theorem few_any (w : World) (ao : Option Addr) (len cap : Nat) (hc : len ≤ cap) (m : Nat) (hm : min len 70 = m) :
    Calls Tryd.prog 15 #[.slice ao len cap] w fun e w' => e = .returned (.slice ao m cap) ∧ w = w' := by
  by_cases h : 70 < len
  · have h1 : (70 : Int) < (len : Int) := by omega
    have h2 : (70 : Int) ≤ (cap : Int) := by omega
    obtain rfl : m = 70 := by omega
    clear hm hc h
    go_enter Tryd.func15, Tryd.ntmps15
    go_wp2
    go_ret
    exact ⟨rfl, rfl⟩
  · have h1 : ¬ ((70 : Int) < (len : Int)) := by omega
    obtain rfl : m = len := by omega
    clear hm hc h
    go_enter Tryd.func15, Tryd.ntmps15
    go_wp2
    go_ret
    exact ⟨rfl, rfl⟩
set_option maxRecDepth 100000 in
theorem same_any (w : World) (ao : Option Addr) (b off len cap : Nat) (ss : List ByteArray) (hr : RdS w ao b off len ss) (ao' : Option Addr) (b' off' cap' : Nat) (hr' : RdS w ao' b' off' len ss) (hmx : len ≤ 8796093022208) :
    Calls Tryd.prog 24 #[.slice ao len cap, .slice ao' len cap'] w fun e w' => e = .returned (.bool true) ∧ Below w.heap.size w w' := by
  obtain rfl := hr.hl
  have HR1 : Hid (∀ W, Below w.heap.size w W → RdS W ao b off ss.length ss) := fun W h => hr.next h (Nat.le_refl _)
  have HR2 : Hid (∀ W, Below w.heap.size w W → RdS W ao' b' off' ss.length ss) := fun W h => hr'.next h (Nat.le_refl _)
  have hb := Below.refl w.heap.size w
  clear hr hr'
  go_enter Tryd.func24, Tryd.ntmps24
  go_wp2
  go_loopg [5] ss.length (fun gk i wr => ∃ j : Nat, j ≤ ss.length ∧ gk = ss.length - j ∧ i = .int .i64 (j : Int) ∧ Below w.heap.size w wr)
  case atStart =>
    go_light
    exact ⟨0, Nat.zero_le _, rfl, rfl, hb⟩
  case round =>
    clear hb
    obtain ⟨j, hj, rfl, rfl, hb⟩ := hrel
    by_cases hlt : j < ss.length
    · have hz : (j : Int) < (ss.length : Int) := by omega
      have r1 := HR1.out wr hb
      have r2 := HR2.out wr hb
      obtain rfl := r1.ptr (by omega)
      obtain rfl := r2.ptr (by omega)
      have k1 := r1.at hlt
      have k2 := r2.at hlt
      generalize ss.getD j ByteArray.empty = p at *
      have HB := hide hb
      clear hb r1 r2 HR1 HR2
      go_upto_region 6 with (fail)
      go_region
      go_wp2
      go_roundg (ss.length - (j + 1))
      case rel =>
        go_light
        exact ⟨j + 1, by omega, rfl, by go_num, HB.out.drew⟩
      case measure => go_light; omega
    · obtain rfl : j = ss.length := by omega
      have hz : ¬ ((ss.length : Int) < (ss.length : Int)) := by omega
      clear HR1 HR2
      go_wp2
      go_ret
      exact ⟨rfl, hb⟩
/-- The items that are taken. -/
def tk (l : List ByteArray) : List ByteArray := l.filter fun s => decide (s.size ≤ 1048576)
theorem tk_len (l : List ByteArray) : (tk l).length ≤ l.length := List.length_filter_le _ _
theorem tk_size (l : List ByteArray) : ∀ s ∈ tk l, s.size ≤ 1048576 := fun s hs => by
  have := (List.mem_filter.1 hs).2
  simpa using this
theorem tk_yes (l : List ByteArray) (s : ByteArray) (h : s.size ≤ 1048576) : tk (l ++ [s]) = tk l ++ [s] := by simp [tk, h]
theorem tk_no (l : List ByteArray) (s : ByteArray) (h : 1048576 < s.size) : tk (l ++ [s]) = tk l := by simp [tk, h]
theorem tk_self {l : List ByteArray} (h : ∀ s ∈ l, s.size ≤ 1048576) : tk l = l := List.filter_eq_self.2 fun s hs => by simpa using h s hs
theorem take_next {ss : List ByteArray} {j : Nat} (h : j < ss.length) : ss.take (j + 1) = ss.take j ++ [ss.getD j ByteArray.empty] := by
  rw [List.take_add_one, List.getD_eq_getElem?_getD, List.getElem?_eq_getElem h]; rfl
set_option maxRecDepth 100000 in
set_option maxHeartbeats 2000000 in
theorem grown_any (w : World) (ht : Tb w) (k : Int) (k1 : 1 ≤ k) (k2 : k ≤ 32) (ao : Option Addr) (b off len cap : Nat) (ss : List ByteArray) (hr : RdS w ao b off len ss) (hmx : len ≤ 65535) (T : List ByteArray) (hT : tk ss = T) :
    Calls Tryd.prog 22 #[.int .i64 k, .slice ao len cap] w fun e w' => ∃ v, e = .returned (.tuple #[.pointer (some ⟨w.heap.size + 1, 0, none⟩), v, .bool true]) ∧ OwnS w' w.heap.size v T ∧ Frs w' w.heap.size k T ∧ Below w.heap.size w w' := by
  obtain rfl := hr.hl
  have HN := fnew_ok w k k1 k2
  have HT0 : Hid (∀ W, Below w.heap.size w W → Tb W) := fun W hb => ht.next hb
  have HR : Hid (∀ W, Below w.heap.size w W → RdS W ao b off ss.length ss) := fun W hb => hr.next hb (Nat.le_refl _)
  have HX := hide (And.intro hmx hT)
  have h63 : (ss.length : Int) ≤ 65535 := by omega
  clear ht hr hmx hT k1 k2
  go_enter Tryd.func22, Tryd.ntmps22
  go_wp2_with (first
    | (go_at_call 10; with_reducible refine HN.mono ?_; rintro e w1 ⟨rfl, hF1, hb1⟩)
    | (go_at_call 11; with_reducible refine (num_any _ 0).mono ?_; rintro e wn ⟨rfl, hbn⟩; replace hF1 := hF1.next hbn (Nat.le_refl _); replace hb1 := bnext hb1 hbn; clear hbn))
  have HF1 := hide hF1
  clear hF1 HN
  go_loopg [9, 10] ss.length (fun g v i wr => ∃ j : Nat, j ≤ ss.length ∧ g = ss.length - j ∧ i = .int .i64 (j : Int) ∧ Hid (Frs wr w.heap.size k (tk (ss.take j)) ∧ OwnS wr (w.heap.size + 2) v (tk (ss.take j))) ∧ Below w.heap.size w wr)
  case atStart =>
    go_light
    exact ⟨0, Nat.zero_le _, rfl, rfl, ⟨HF1.out, owns_nil _ _⟩, hb1⟩
  case round =>
    clear hb1 HF1
    obtain ⟨j, hj, rfl, rfl, HA, hb⟩ := hrel
    by_cases hlt : j < ss.length
    · have hz : (j : Int) < (ss.length : Int) := by omega
      have hz0 : (0 : Int) ≤ (j : Int) := Int.natCast_nonneg _
      obtain rfl := (HR.out wr hb).ptr (by omega)
      have cj := (HR.out wr hb).at hlt
      obtain ⟨x, hx⟩ : ∃ x, ss.getD j ByteArray.empty = x := ⟨_, rfl⟩
      have HC : Hid (∀ W, Below w.heap.size w W → W.cell? ⟨b, off + j, none⟩ = some (.string x)) := fun W h => by rw [← hx]; exact (HR.out W h).at hlt
      have htn := take_next hlt
      have zx := (HR.out wr hb).sz _ (getD_mem hlt)
      rw [hx] at cj htn zx
      have HB := hide hb
      by_cases hs : x.size ≤ 1048576
      · have htk := tk_yes (ss.take j) x hs
        rw [← htn] at htk
        have hL : (tk (ss.take j)).length < 65536 := by have h1 := tk_len (ss.take j); have := HX.out.1; rw [List.length_take] at h1; omega
        obtain ⟨t, hT⟩ : ∃ t, tr 64 ((tk (ss.take j)).length + 1) = t := ⟨_, rfl⟩
        have ht16 : t ≤ 16 := by rw [← hT]; exact tr_small (by omega) (by omega)
        obtain ⟨T', hT'⟩ : ∃ T', tk (ss.take j) = T' := ⟨_, rfl⟩
        rw [hT'] at htk hL hT HA
        have HAp : Hid (Calls Tryd.prog 12 #[.pointer (some ⟨w.heap.size + 1, 0, none⟩), .string x] wr fun e w' => ∃ g' c', e = .returned (.tuple #[.slice (some ⟨g', 0, none⟩) (t + 1) c', .int .i64 0]) ∧ Frs w' w.heap.size k (T' ++ [x]) ∧ Chf w.heap.size wr w') :=
          (fappend_ok wr (HT0.out wr hb) w.heap.size k T' HA.out.1 x hs hL t hT).mono fun e w' ⟨v, e1, e2, e3, e4⟩ => by
            obtain ⟨g', c', rfl, _⟩ := own_form e3 (by rw [nw_len]; omega)
            rw [nw_len] at e1
            exact ⟨g', c', e1, e2, e4⟩
        have HS : Hid (∀ W, Frs W w.heap.size k (T' ++ [x]) → Calls Tryd.prog 13 #[.pointer (some ⟨w.heap.size + 1, 0, none⟩)] W fun e w' => e = .returned (.int .u64 ((T'.length + 1 : Nat) : Int)) ∧ W = w') := fun W h => by
          have := fsize_any W _ k _ h
          rw [List.length_append, List.length_singleton] at this
          exact this.mono fun _ _ h => ⟨h.1, h.2.symm⟩
        have HTr : Hid (∀ W, Calls Tryd.prog 32 #[.int .u64 ((T'.length + 1 : Nat) : Int)] W fun e w' => e = .returned (.int .i64 (t : Int)) ∧ W = w') := fun W => (trail_any (T'.length + 1) W (by omega) t hT).mono fun _ _ h => ⟨h.1, h.2.symm⟩
        have HG : Hid (tk (ss.take (j + 1)) = T' ++ [x] ∧ T'.length < 65536 ∧ x.size ≤ 9223372036854775807) := ⟨htk, hL, zx⟩
        have hs1 : decide ((1048576 : Int) < (x.size : Int)) = false := decide_eq_false (by omega)
        have ht17 : (t : Int) ≤ 16 := by omega
        have hq : ((t + 1 : Nat) : Int) = 1 + (t : Int) := by omega
        obtain ⟨n1, hn1⟩ : ∃ n1, t + 1 = n1 := ⟨_, rfl⟩
        obtain ⟨n2, hn2⟩ : ∃ n2, T'.length + 1 = n2 := ⟨_, rfl⟩
        rw [hn1] at HAp hq
        rw [hn2] at HS HTr
        clear hx htn zx hT' hL hT htk hs ht16 hn1 hb
        go_wp2_with (first
          | (go_at_call 12; with_reducible refine HAp.out.mono ?_; rintro e w2 ⟨g', c', rfl, hF2, hc2⟩; have hb2 := HB.out.trans hc2.below; have cj2 := HC.out w2 hb2)
          | (go_at_call 11; with_reducible refine (num_any _ 0).mono ?_; rintro e w3 ⟨rfl, hb3⟩; replace hF2 := hF2.next hb3 (Nat.le_refl _); have cj3 := HC.out w3 (bnext hb2 hb3))
          | (go_at_call 13; with_reducible refine (HS.out _ hF2).mono ?_; rintro e w4 ⟨rfl, rfl⟩)
          | (go_at_call 32; with_reducible refine (HTr.out _).mono ?_; rintro e w5 ⟨rfl, rfl⟩)
          | (at_builtin; refine wpList_append_S _ rfl _ _ rfl (w.heap.size + 2) _ T' rfl (own_al (own_next (row_chf HA.out.2 HA.out.1 hc2 (by decide)) hb3 (Nat.le_refl _)) _) (some ⟨w3.heap.size, 0, none⟩) w3.heap.size 0 1 [x] rfl (rds_one w3 x HG.out.2.2) (fun h => by cases h) ?c1 ?c2 ?_))
        case c1 => have := HG.out.2.1; simp; omega
        case c2 => have := hF2.lt; simp; omega
        intro v6 w6 h6 hb6
        have HY : Hid (OwnS w6 (w.heap.size + 2) v6 (T' ++ [x]) ∧ Frs w6 w.heap.size k (T' ++ [x]) ∧ Below w.heap.size w w6) := by
          have hlt2 := hF2.lt
          have hbb : Below (w.heap.size + 2) w3 w6 := ((Below.refl _ _).alloc (by omega) _).trans hb6
          exact ⟨h6, hF2.same (hbb.block _ (by omega)) (hbb.block _ (by omega)), (bnext hb2 hb3).trans (hbb.mono (by omega))⟩
        clear h6 hb6 hF2 hb3 hb2 cj2 cj3 hc2
        go_wp2
        go_roundg (ss.length - (j + 1))
        case rel =>
          go_light
          exact ⟨j + 1, by omega, rfl, by go_num, by rw [HG.out.1]; exact ⟨HY.out.2.1, HY.out.1⟩, HY.out.2.2⟩
        case measure => go_light; omega
      · have htk := tk_no (ss.take j) x (by omega)
        rw [← htn] at htk
        have HAp : Hid (∀ W, Calls Tryd.prog 12 #[.pointer (some ⟨w.heap.size + 1, 0, none⟩), .string x] W fun e w' => e = .returned (.tuple #[.slice none 0 0, .int .i64 100]) ∧ W = w') := fun W =>
          (fappend_long W w.heap.size x (by omega)).mono fun _ _ h => ⟨h.1, h.2.symm⟩
        have HG : Hid (tk (ss.take (j + 1)) = tk (ss.take j)) := htk
        have hs1 : decide ((1048576 : Int) < (x.size : Int)) = true := decide_eq_true (by omega)
        clear hx htn zx htk hs hb
        go_wp2_with (first
          | (go_at_call 12; with_reducible refine (HAp.out _).mono ?_; rintro e w2 ⟨rfl, rfl⟩)
          | (go_at_call 11; with_reducible refine (num_any _ 100).mono ?_; rintro e w3 ⟨rfl, hb3⟩))
        go_roundg (ss.length - (j + 1))
        case rel =>
          go_light
          exact ⟨j + 1, by omega, rfl, by go_num, by rw [HG.out]; exact ⟨HA.out.1.next hb3 (Nat.le_refl _), own_next HA.out.2 hb3 (Nat.le_refl _)⟩, bnext HB.out hb3⟩
        case measure => go_light; omega
    · obtain rfl : j = ss.length := by omega
      have hz : ¬ ((ss.length : Int) < (ss.length : Int)) := by omega
      have hE : tk (ss.take ss.length) = T := by rw [List.take_length]; exact HX.out.2
      have hTl : T.length ≤ 65535 := by rw [← HX.out.2]; exact Nat.le_trans (tk_len _) HX.out.1
      rw [hE] at HA
      have hw : IntKind.u64.wrap (T.length : Int) = (T.length : Int) := u64_id _ (by omega) (by omega)
      have HS : Hid (Calls Tryd.prog 13 #[.pointer (some ⟨w.heap.size + 1, 0, none⟩)] wr fun e w' => e = .returned (.int .u64 (T.length : Int)) ∧ wr = w') := (fsize_any wr _ k _ HA.out.1).mono fun _ _ h => ⟨h.1, h.2.symm⟩
      obtain ⟨ao', c', hv⟩ : ∃ ao c, u9 = .slice ao T.length c := by
        rcases HA.out.2.2 with ⟨h2, h3⟩ | ⟨g, c, cur, h2, _⟩
        · exact ⟨none, 0, by rw [h2, h3]⟩
        · exact ⟨_, c, h2⟩
      subst hv
      clear hE hTl hlt
      go_wp2_with (go_at_call 13; with_reducible refine HS.out.mono ?_; rintro e w2 ⟨rfl, rfl⟩)
      refine bodyPost_ret (v := .tuple #[.pointer (some ⟨w.heap.size + 1, 0, none⟩), .slice ao' T.length c', .bool true]) (by simp [results, Tryd.results22, go_sem]) rfl ?_
      exact ⟨_, rfl, own_mono HA.out.2 (by omega), HA.out.1, hb⟩
end Go.Proofs.YtabdobdopcfllaaDoor
