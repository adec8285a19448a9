/-
  FDig, FLst. Own work.
-/
import Derived.Test.YthfnpagangjpbabGreatZ30
import Derived.Test.YthfnpagangjpbabGreatZ18
import Derived.Test.YthfnpagangjpbabGreatZ21
/-
  The laws' trail and digests. Own work.
-/
namespace Go.Proofs.YthfnpagangjpbabGreat
open Go.RowKit
open Rc
attribute [local go_sem ↓] Go.wp_at_zero Go.wp_at_succ
/-- The law's trail: the ones at the end. -/
theorem ktrl_at (k n : Nat) (hk : k < 64) (h : n / 2 ^ k % 2 = 1) : Pl.trl (64 - k) (n / 2 ^ k) = Pl.trl (64 - (k + 1)) (n / 2 ^ (k + 1)) + 1 := by
  rw [show 64 - k = (64 - (k + 1)) + 1 by omega, Pl.trl_step _ _ h, Pl.div_pow_succ]
theorem ktrl_end (k n : Nat) (h : ¬ n / 2 ^ k % 2 = 1) : Pl.trl (64 - k) (n / 2 ^ k) = 0 := by
  cases h64 : 64 - k with
  | zero => rfl
  | succ f => exact Pl.trl_none _ _ h
theorem ltrail_any (n : Nat) (w : World) (hn : n < 2 ^ 64) (r : Nat) (hr : Pl.trl 64 n = r) :
    Calls Tryz.prog 126 #[.int .u64 n] w fun e w' => e = .returned (.int .i64 (r : Int)) ∧ w = w' := by
  subst hr
  go_enter Tryz.func126, Tryz.ntmps126
  go_wp2
  go_loopg [0, 3] 64 (fun g a c wr => ∃ k m : Nat, k ≤ 64 ∧ g = 64 - k ∧ a = .int .u64 (m : Int) ∧ c = .int .i64 (k : Int) ∧ n / 2 ^ k = m ∧ k + Pl.trl (64 - k) (n / 2 ^ k) = Pl.trl 64 n ∧ w = wr)
  case atStart =>
    go_light
    exact ⟨0, n, Nat.zero_le _, rfl, rfl, rfl, by simp, by simp, rfl⟩
  case round =>
    obtain ⟨k, m, hk, rfl, rfl, rfl, hm, hs, rfl⟩ := hrel
    have hmb : m < 2 ^ 64 := by rw [← hm]; exact Nat.lt_of_le_of_lt (Nat.div_le_self _ _) hn
    by_cases hb : m % 2 = 1
    · have hk64 : k < 64 := by
        by_cases h64 : k < 64
        · exact h64
        · have : k = 64 := by omega
          subst this
          have : n / 2 ^ 64 = 0 := Nat.div_eq_of_lt hn
          omega
      have HS := ktrl_at k n hk64 (by rw [hm]; exact hb)
      have hd : ((m : Int) % 2 == 1) = true := by have : (m : Int) % 2 = 1 := by omega
                                                  rw [this]; rfl
      have hk1 : (k : Int) < 64 := by omega
      have HX : Hid (n / 2 ^ (k + 1) = m / 2 ∧ (k + 1) + Pl.trl (64 - (k + 1)) (n / 2 ^ (k + 1)) = Pl.trl 64 n) := ⟨by rw [Pl.div_pow_succ, hm], by omega⟩
      obtain ⟨k2, hk2⟩ : ∃ k2 : Nat, k + 1 = k2 := ⟨_, rfl⟩
      have ek : IntKind.i64.wrap ((k : Int) + 1) = (k2 : Int) := by rw [IntKind.wrap_i64]; omega
      obtain ⟨m2, hm2⟩ : ∃ m2 : Nat, m / 2 = m2 := ⟨_, rfl⟩
      have em : (m : Int) / 2 = (m2 : Int) := by omega
      have em2 : IntKind.u64.wrap (m2 : Int) = (m2 : Int) := by rw [IntKind.wrap_u64]; omega
      rw [hm2, hk2] at HX
      clear HS hs hm hb hmb hm2 hk
      go_wp2
      go_roundg (64 - k2)
      case rel =>
        go_light
        exact ⟨k2, m2, by omega, rfl, rfl, rfl, HX.out.1, HX.out.2, rfl⟩
      case measure => go_light; omega
    · have HS := ktrl_end k n (by rw [hm]; exact hb)
      have hd : ((m : Int) % 2 == 1) = false := by have : (m : Int) % 2 = 0 := by omega
                                                   rw [this]; rfl
      have HX : Hid (k = Pl.trl 64 n) := (by omega : k = Pl.trl 64 n)
      clear HS hs hm hb hmb
      go_wp2
      go_ret
      exact ⟨by rw [← HX.out]; rfl, rfl⟩
theorem ktrl_spec (f n : Nat) (h : n < 2 ^ f) : n % Pl.pw (Pl.trl f n) = Pl.pw (Pl.trl f n) - 1 ∧ ¬ n / Pl.pw (Pl.trl f n) % 2 = 1 := by
  induction f generalizing n with
  | zero =>
    have : n = 0 := by simp at h; omega
    subst this
    simp [Pl.trl, Pl.pw]
  | succ f ih =>
    by_cases ho : n % 2 = 1
    · rw [Pl.trl_step f n ho]
      obtain ⟨i1, i2⟩ := ih (n / 2) (by rw [Nat.pow_succ] at h; omega)
      have hp := Pl.pw_pos (Pl.trl f (n / 2))
      rw [Pl.pw_succ]
      refine ⟨?_, ?_⟩
      · rw [Nat.mod_mul, ho, i1]; omega
      · rw [← Nat.div_div_eq_div_mul]; exact i2
    · rw [Pl.trl_none f n ho]
      refine ⟨by simp [Pl.pw]; omega, by simp [Pl.pw]; omega⟩
theorem nn_next (n : Nat) (h : n ≤ 65536) : nn (n + 1) = nn n + (1 + Pl.trl 64 n) := by
  obtain ⟨h1, h2⟩ := ktrl_spec 64 n (by omega)
  unfold nn
  rw [Pl.new_N _ n h1 h2 (by omega)]
  omega
/-- A digest of nothing. -/
def dg1 (k n i : Nat) : List UInt8 := (List.range k).map fun j => UInt8.ofNat (n + (7 * i + j))
/-- digests of nothing. -/
def dg0 (k n : Nat) : List ByteArray := (List.range (1 + Pl.trl 64 n)).map fun i => tx (dg1 k n i)
theorem dg1_len (k n i : Nat) : (dg1 k n i).length = k := by simp [dg1]
theorem dg0_len (k n : Nat) : (dg0 k n).length = 1 + Pl.trl 64 n := by simp [dg0]
theorem dg0_sz (k n : Nat) : ∀ d ∈ dg0 k n, d.size = k := fun d hd => by
  obtain ⟨i, _, rfl⟩ := List.mem_map.1 hd
  rw [tx_size, dg1_len]
theorem dg0_ok {k n : Nat} (h : n ≤ 65536) (x : List UInt8) (hx : x.length ≤ 1048576) : OkI k n (x, dg0 k n) := ⟨hx, by show (dg0 k n).length = _; rw [dg0_len, nn_next n h]; omega, dg0_sz k n⟩
theorem dg0_take (k n i : Nat) (hi : i < 1 + Pl.trl 64 n) : (dg0 k n).take (i + 1) = (dg0 k n).take i ++ [tx (dg1 k n i)] := by
  have hl : i < (dg0 k n).length := by rw [dg0_len]; exact hi
  rw [List.take_succ_eq_append_getElem hl]
  congr 2
  simp [dg0]
/-- A row as it is filled. -/
def rwJ (k n i j : Nat) : List UInt8 := (dg1 k n i).take j ++ zer (k - j)
theorem rwJ_len (k n i j : Nat) (h : j ≤ k) : (rwJ k n i j).length = k := by rw [rwJ, List.length_append, List.length_take, dg1_len, zer_len]; omega
theorem rwJ_set (k n i j : Nat) (h : j < k) : (rwJ k n i j).set j (UInt8.ofNat (n + (7 * i + j))) = rwJ k n i (j + 1) := by
  have hl : ((dg1 k n i).take j).length = j := by rw [List.length_take, dg1_len]; omega
  have hj : j < (dg1 k n i).length := by rw [dg1_len]; exact h
  have e : (dg1 k n i)[j] = UInt8.ofNat (n + (7 * i + j)) := by simp [dg1]
  rw [rwJ, rwJ, List.set_append_right _ _ (by omega), hl, Nat.sub_self, show k - j = (k - (j + 1)) + 1 by omega, zer, List.replicate_succ, List.set_cons_zero, List.take_succ_eq_append_getElem hj, e, List.append_assoc]
  rfl
theorem u8_sum (n i j : Nat) : IntKind.u8.wrap (((n % 256 : Nat) : Int) + (((7 * i + j) % 256 : Nat) : Int)) = (((UInt8.ofNat (n + (7 * i + j))).toNat : Nat) : Int) := by
  rw [IntKind.wrap_u8]
  have : (UInt8.ofNat (n + (7 * i + j))).toNat = (n + (7 * i + j)) % 256 := by simp
  rw [this]
  omega
set_option maxRecDepth 100000 in
set_option maxHeartbeats 1000000 in
theorem digests0_any (w : World) (n k : Nat) (hn : n ≤ 65536) (hk : k ≤ 32) :
    Calls Tryz.prog 90 #[.int .u64 (n : Int), .int .i64 (k : Int), .slice none 0 0] w fun e w' => ∃ va vc, e = .returned (.slice va (1 + Pl.trl 64 n) vc) ∧ OwnS w' w.heap.size (.slice va (1 + Pl.trl 64 n) vc) (dg0 k n) ∧ Below w.heap.size w w' := by
  have HT := hide (fun W => ltrail_any n W (by omega) _ rfl)
  have h41 : Pl.trl 64 n ≤ 64 := by
    have hh : ∀ f n, Pl.trl f n ≤ f := fun f => by
      induction f with
      | zero => intro n; exact Nat.le_refl _
      | succ f ih => intro n; have := ih (n / 2); simp only [Pl.trl]; split <;> omega
    exact hh 64 n
  have hdl := dg0_len k n
  generalize Pl.trl 64 n = t at *
  obtain ⟨m, hm⟩ : ∃ m, 1 + t = m := ⟨_, rfl⟩
  have em : IntKind.i64.wrap (1 + (t : Int)) = (m : Int) := by rw [IntKind.wrap_i64]; omega
  rw [hm] at hdl ⊢
  have HD : Hid (∀ i, i < m → (dg0 k n).take (i + 1) = (dg0 k n).take i ++ [tx (dg1 k n i)]) := fun i hi => by
    have hl : i < (dg0 k n).length := by rw [hdl]; exact hi
    rw [List.take_succ_eq_append_getElem hl]
    congr 2
    simp [dg0]
  have hm65 : m ≤ 65 := by omega
  clear hm h41
  go_enter Tryz.func90, Tryz.ntmps90
  go_wp2_with (go_at_call 126; (with_reducible refine (HT.out _).mono ?_); rintro e w1 ⟨rfl, rfl⟩)
  go_loopg [7, 9] m (fun g v x wr => ∃ i : Nat, i ≤ m ∧ g = m - i ∧ x = .int .i64 (i : Int) ∧ Hid (OwnS wr w.heap.size v ((dg0 k n).take i)) ∧ Hid (Below w.heap.size w wr))
  case atStart =>
    go_light
    exact ⟨0, Nat.zero_le _, rfl, rfl, owns_nil _ _, Below.refl _ _⟩
  case round =>
    obtain ⟨i, hi, rfl, rfl, HO, HB⟩ := hrel
    have hln : ((dg0 k n).take i).length = i := by rw [List.length_take, hdl]; omega
    obtain ⟨va, vc, hv⟩ := own_slice HO.out
    rw [hln] at hv
    subst hv
    by_cases hlt : i < m
    · have hz : (i : Int) < (m : Int) := by omega
      have HM := make_bytes k (by omega) wr
      obtain ⟨w2, hw2⟩ : ∃ W, wr.alloc (.cells (Array.replicate k (Value.int .u8 0)) 5) = W := ⟨_, rfl⟩
      have HY : Hid (Byt w2 wr.heap.size (rwJ k n i 0) ∧ Below wr.heap.size wr w2 ∧ wr.heap.size < w2.heap.size) := by
        rw [← hw2]
        refine ⟨?_, bal (Below.refl _ _) _, by rw [al_size]; omega⟩
        have := byt_made wr k
        rw [rwJ, List.take_zero, List.nil_append, Nat.sub_zero]
        exact this
      rw [hw2] at HM
      obtain ⟨g, hg⟩ : ∃ g, wr.heap.size = g := ⟨_, rfl⟩
      have HG := hide hg
      rw [hg] at HM HY
      have HOw : Hid (∀ W, Below wr.heap.size wr W → OwnS W w.heap.size (.slice va i vc) ((dg0 k n).take i) ∧ Below w.heap.size w W) := fun W hW => ⟨own_next HO.out hW (Nat.le_refl _), bnext HB.out hW⟩
      clear hw2 hg HO HB
      go_wp2
      generalize wr = wo at *
      clear wr
      go_loopg [11] k (fun g' y wz => ∃ j : Nat, j ≤ k ∧ g' = k - j ∧ y = .int .i64 (j : Int) ∧ Hid (Byt wz g (rwJ k n i j)) ∧ Hid (Below g wo wz) ∧ Hid (g < wz.heap.size))
      case atStart =>
        go_light
        exact ⟨0, Nat.zero_le _, rfl, rfl, HY.out.1, HY.out.2.1, HY.out.2.2⟩
      case round =>
        clear HY
        obtain ⟨j, hj, rfl, rfl, HJ, HJ2, HJ3⟩ := hrel
        by_cases hjl : j < k
        · have hz2 : (j : Int) < (k : Int) := by omega
          have hrl := rwJ_len k n i j hj
          have c1 := HJ.out.at (j := j) (by omega)
          have f1 := HJ.out.free (j := j) (by omega)
          have e1 : IntKind.u8.wrap (n : Int) = ((n % 256 : Nat) : Int) := by rw [IntKind.wrap_u8]; omega
          have e2 : IntKind.i64.wrap (7 * (i : Int)) = 7 * (i : Int) := by rw [IntKind.wrap_i64]; omega
          have e3 : IntKind.i64.wrap (7 * (i : Int) + (j : Int)) = 7 * (i : Int) + (j : Int) := by rw [IntKind.wrap_i64]; omega
          have e4 : IntKind.u8.wrap (7 * (i : Int) + (j : Int)) = (((7 * i + j) % 256 : Nat) : Int) := by rw [IntKind.wrap_u8]; omega
          have e5 := u8_sum n i j
          obtain ⟨bb, hbb⟩ : ∃ b : UInt8, UInt8.ofNat (n + (7 * i + j)) = b := ⟨_, rfl⟩
          rw [hbb] at e5
          have e6 : IntKind.i64.wrap ((j : Int) + 1) = (j : Int) + 1 := by rw [IntKind.wrap_i64]; omega
          have HJn : Hid (Byt (wr.setCell ⟨g, j, none⟩ (.int .u8 ((bb.toNat : Nat) : Int))) g (rwJ k n i (j + 1)) ∧ Below g wo (wr.setCell ⟨g, j, none⟩ (.int .u8 ((bb.toNat : Nat) : Int))) ∧ g < (wr.setCell ⟨g, j, none⟩ (.int .u8 ((bb.toNat : Nat) : Int))).heap.size) := by
            refine ⟨?_, HJ2.out.setCell (Nat.le_refl _) _, by simpa using HJ3.out⟩
            have := HJ.out.set j bb _ rfl
            rw [← hbb, rwJ_set k n i j hjl] at this
            rw [← hbb]; exact this
          generalize n % 256 = n8 at *
          generalize (7 * i + j) % 256 = j8 at *
          generalize (bb.toNat : Nat) = bn at *
          clear HJ HJ2 HJ3 hbb hrl HOw HD HM HT
          go_wp2
          go_roundg (k - (j + 1))
          case rel =>
            go_light
            exact ⟨j + 1, by omega, rfl, by go_num, HJn.out.1, HJn.out.2.1, HJn.out.2.2⟩
          case measure => go_light; omega
        · have hz2 : ¬ (j : Int) < (k : Int) := by omega
          obtain rfl : j = k := by omega
          have hrj : rwJ j n i j = dg1 j n i := by
            rw [rwJ, Nat.sub_self, List.take_of_length_le (by rw [dg1_len]; exact Nat.le_refl _)]
            exact List.append_nil _
          have hcv : (convert 111 9 (.slice (some ⟨g, 0, none⟩) j j)).run Tryz.prog wr = .ok (.string (tx (dg1 j n i))) wr := HJ.out.conv (k := 0) (n := j) (by rw [rwJ_len j n i j hj]; omega) 0 (fun _ => rfl) j _ (by
            rw [List.drop_zero, hrj, List.take_of_length_le (by rw [dg1_len]; exact Nat.le_refl _)]; rfl)
          clear hrj
          have hts : (tx (dg1 j n i)).size ≤ 9223372036854775807 := by rw [tx_size, dg1_len]; omega
          have ew : IntKind.i64.wrap ((i : Int) + 1) = (i : Int) + 1 := by rw [IntKind.wrap_i64]; omega
          have HO2 := hide (HOw.out wr (by rw [HG.out]; exact HJ2.out))
          have HD2 := hide (HD.out i hlt)
          generalize tx (dg1 j n i) = td at *
          clear HJ HJ2 HJ3 HOw HD HM HT
          go_wp2_with (at_builtin; refine wpList_append_S _ rfl _ _ rfl w.heap.size _ ((dg0 j n).take i) rfl (own_al HO2.out.1 _) (some ⟨wr.heap.size, 0, none⟩) wr.heap.size 0 1 [td] rfl (rds_one wr td hts) (fun h => by cases h) (by rw [hln]; show i + 1 ≤ _; omega) (by have := HO2.out.2.size; rw [al_size]; omega) ?_)
          intro v5 w5 h5 u5
          rw [← HD2.out] at h5
          have HZ : Hid (OwnS w5 w.heap.size v5 ((dg0 j n).take (i + 1)) ∧ Below w.heap.size w w5) := ⟨h5, (bal HO2.out.2 _).trans u5⟩
          clear h5 u5 HD2 HO2
          go_wp2
          go_roundg (m - (i + 1))
          case rel =>
            go_light
            exact ⟨i + 1, by omega, rfl, by go_num, HZ.out.1, HZ.out.2⟩
          case measure => go_light; omega
    · have hz : ¬ (i : Int) < (m : Int) := by omega
      obtain rfl : i = m := by omega
      have HZ : Hid (OwnS wr w.heap.size (.slice va i vc) (dg0 k n) ∧ Below w.heap.size w wr) := by
        have := HO.out
        rw [List.take_of_length_le (by omega)] at this
        exact ⟨this, HB.out⟩
      clear HO HB
      go_wp2
      go_ret
      exact ⟨va, vc, rfl, HZ.out⟩
end Go.Proofs.YthfnpagangjpbabGreat
/-
  The laws' strength and list. Own work.
-/
namespace Go.Proofs.YthfnpagangjpbabGreat
open Go.RowKit
open Rc
attribute [local go_sem ↓] Go.wp_at_zero Go.wp_at_succ
/-- A strength out of any number. -/
def str (k : Int) : Nat := 1 + ((k % 18446744073709551616).toNat) % 32
theorem str_ok (k : Int) : 1 ≤ str k ∧ str k ≤ 32 := by unfold str; omega
/-- A text of at most 500 bytes. -/
def cut5 (s : ByteArray) : ByteArray := if 500 < s.size then s.extract 0 500 else s
theorem cut5_sz (s : ByteArray) : (cut5 s).size ≤ 500 := by
  unfold cut5
  split
  · rw [ByteArray.size_extract]; omega
  · omega
/-- The law's list. -/
def lsL (ss : List ByteArray) : List ByteArray := (ss.take 12).map cut5
theorem lsL_len (ss : List ByteArray) : (lsL ss).length = min 12 ss.length := by simp [lsL]
theorem lsL_sz (ss : List ByteArray) : ∀ x ∈ lsL ss, x.size ≤ 500 := fun x hx => by
  obtain ⟨y, _, rfl⟩ := List.mem_map.1 hx
  exact cut5_sz y
def lsK (ss : List ByteArray) (i : Nat) : List ByteArray := (ss.take i).map cut5
theorem lsL_take (ss : List ByteArray) (i : Nat) (hi : i < ss.length) : lsK ss (i + 1) = lsK ss i ++ [cut5 (ss.getD i ByteArray.empty)] := by
  unfold lsK
  rw [List.take_succ_eq_append_getElem hi, List.map_append, List.getD_eq_getElem?_getD, List.getElem?_eq_getElem hi]
  rfl
end Go.Proofs.YthfnpagangjpbabGreat
