/-
  The walk of CrcBack. Own work.
-/
import Derived.Test.YtplopgkoikeohaaRWalkC
import Derived.Laws.IdiomStrings
namespace Go.Proofs.Ytplopgkoikeohaa
open Go.RowKit
attribute [local go_sem ↓] Go.wp_at_zero Go.wp_at_succ
theorem bk_hi (c : BitVec 32) : ((c.toNat : Int) / 2147483648 == 1) = c.getLsbD 31 := by
  have h := c.isLt
  have e : c.getLsbD 31 = decide (c.toNat / 2 ^ 31 % 2 = 1) := by
    show c.toNat.testBit 31 = _
    rw [Nat.testBit_eq_decide_div_mod_eq]
  rw [e]
  have h2 : c.toNat / 2147483648 < 2 := by omega
  by_cases h1 : c.toNat / 2147483648 = 1
  · have : (c.toNat : Int) / 2147483648 = 1 := by omega
    rw [this, decide_eq_true (by omega)]; rfl
  · have : (c.toNat : Int) / 2147483648 = 0 := by omega
    rw [this, decide_eq_false (by omega)]; rfl
theorem shl32 (c : BitVec 32) : (c.toNat : Int) * 2 % 4294967296 = ((c <<< 1).toNat : Int) := by
  rw [BitVec.toNat_shiftLeft, Nat.shiftLeft_eq]
  omega
theorem or32 (a b : BitVec 32) : bits .or .u32 (a.toNat : Int) (b.toNat : Int) = ((a ||| b).toNat : Int) := by
  rw [u32_or_nat _ _ a.isLt b.isLt, BitVec.toNat_or]
theorem xorPL (c : BitVec 32) : bits .xor .u32 (c.toNat : Int) 2197175160 = ((c ^^^ PL).toNat : Int) := by
  rw [show (2197175160 : Int) = (PL.toNat : Int) from rfl, xor32]
theorem bk_step (c : BitVec 32) (m : Nat) (hm : m = c.toNat) : ∃ x y z v : Nat, bits .xor .u32 (m : Int) 2197175160 = (x : Int) ∧ (x : Int) * 2 % 4294967296 = (y : Int) ∧ bits .or .u32 (y : Int) 1 = (z : Int) ∧ (m : Int) * 2 % 4294967296 = (v : Int) ∧
    ((m : Int) / 2147483648 == 1) = c.getLsbD 31 ∧ (bk c).toNat = if c.getLsbD 31 then z else v := by
  subst hm
  refine ⟨(c ^^^ PL).toNat, ((c ^^^ PL) <<< 1).toNat, (((c ^^^ PL) <<< 1) ||| 1#32).toNat, (c <<< 1).toNat, xorPL c, shl32 _, or32 _ 1#32, shl32 c, bk_hi c, ?_⟩
  unfold bk
  split <;> rfl
theorem byte_of (n : Nat) : (n : Int) % 256 = ((UInt8.ofNat n).toNat : Int) := by
  rw [UInt8.toNat_ofNat']
  omega
theorem conv4 (W : World) (c : BitVec 32) (C : Nat) (hC : C = c.toNat) : (convert 28 9 (.slice (some ⟨W.heap.size, 0, none⟩) 4 4)).run Try.prog (W.alloc (.cells #[.int .u8 ((C : Int) % 256), .int .u8 ((C : Int) / 256 % 256), .int .u8 ((C : Int) / 65536 % 256), .int .u8 ((C : Int) / 16777216 % 256)] 5))
    = .ok (.string ⟨(four c).toArray⟩) (W.alloc (.cells #[.int .u8 ((C : Int) % 256), .int .u8 ((C : Int) / 256 % 256), .int .u8 ((C : Int) / 65536 % 256), .int .u8 ((C : Int) / 16777216 % 256)] 5)) := by
  subst hC
  have e1 : (c.toNat : Int) / 256 % 256 = ((UInt8.ofNat (c.toNat / 256)).toNat : Int) := by rw [← byte_of]; omega
  have e2 : (c.toNat : Int) / 65536 % 256 = ((UInt8.ofNat (c.toNat / 65536)).toNat : Int) := by rw [← byte_of]; omega
  have e3 : (c.toNat : Int) / 16777216 % 256 = ((UInt8.ofNat (c.toNat / 16777216)).toNat : Int) := by rw [← byte_of]; omega
  rw [byte_of, e1, e2, e3]
  refine run_convert_bytes_back _ 28 9 5 ⟨W.heap.size, 0, none⟩ 4 (four c) Try.underlying28 Try.underlying5 Try.underlying9 fun j hj => ?_
  rw [Addr.add_mid, Nat.zero_add, World.cell?_alloc_new]
  match j, hj with
  | 0, _ => rfl
  | 1, _ => rfl
  | 2, _ => rfl
  | 3, _ => rfl
set_option maxRecDepth 100000 in
set_option maxHeartbeats 2000000 in
theorem back_walk (w : World) (s : ByteArray) (hs : s.size ≤ 140737488351232) (want other : BitVec 32) :
    Calls Try.prog 6 #[.string s, .int .u32 (want.toNat : Int), .int .u32 (other.toNat : Int)] w fun e w' => e = .returned (.bool true) ∧ Below w.heap.size w w' := by
  obtain ⟨c, hc⟩ : ∃ c, c = bkN 32 (~~~ want) ^^^ run (~~~ 0#32) s.data.toList := ⟨_, rfl⟩
  obtain ⟨X, hX⟩ : ∃ X, X = (mor 0#32 s.data.toList).toNat := ⟨_, rfl⟩
  obtain ⟨C, hC⟩ : ∃ C, C = c.toNat := ⟨_, rfl⟩
  obtain ⟨O, hO⟩ : ∃ O, O = other.toNat := ⟨_, rfl⟩
  obtain ⟨Wn, hWn⟩ : ∃ Wn, Wn = want.toNat := ⟨_, rfl⟩
  obtain ⟨U, hU⟩ : ∃ U, U = (mor 0#32 (s.data.toList ++ four other)).toNat := ⟨_, rfl⟩
  have h1 := fun W => of_row W 1 [s] X (by rw [hX, sumL, flat_one]) rfl (by decide) (by intro s hs; simp at hs; subst hs; omega)
  have key : ∀ x : BitVec 32, mor 0#32 (s.data.toList ++ four x) = ~~~ (stN 32 (run (~~~ 0#32) s.data.toList ^^^ x)) := fun x => by rw [mor, run_append, run_four]
  have hcw : mor 0#32 (s.data.toList ++ four c) = want := by
    rw [key, hc, BitVec.xor_comm (bkN _ _), ← BitVec.xor_assoc, BitVec.xor_self, BitVec.zero_xor, stN_bkN, BitVec.not_not]
  have h4 := fun W => of_row W 2 [s, ⟨(four c).toArray⟩] (Wn : Int) (by rw [hWn, ← hcw, sumL]; simp [flat]) rfl (by decide) (by intro s hs; simp at hs; rcases hs with rfl | rfl; omega; (show 4 ≤ _; decide))
  have h4' := fun W => of_row W 2 [s, ⟨(four other).toArray⟩] (U : Int) (by rw [hU, sumL]; simp [flat]) rfl (by decide) (by intro s hs; simp at hs; rcases hs with rfl | rfl; omega; (show 4 ≤ _; decide))
  have hUW : ((U : Int) == (Wn : Int)) = ((O : Int) == (C : Int)) := by
    have : U = Wn ↔ O = C := by
      rw [hU, hWn, hO, hC, BitVec.toNat_inj, BitVec.toNat_inj]
      refine ⟨fun h => ?_, fun h => by rw [h, hcw]⟩
      rw [← hcw, key, key] at h
      have := stN_inj (not_inj h)
      have h2 := congrArg (fun x => run (~~~ 0#32) s.data.toList ^^^ x) this
      simpa [← BitVec.xor_assoc] using h2
    by_cases h : U = Wn
    · have h' := this.1 h
      rw [h, h']; simp
    · have h' : ¬ O = C := fun e => h (this.2 e)
      have e1 : ((U : Int) == (Wn : Int)) = false := by simp; omega
      have e2 : ((O : Int) == (C : Int)) = false := by simp; omega
      rw [e1, e2]
  have HC0 : Hid (∀ m : Nat, m = (bkN 32 (~~~ want)).toNat → ∃ z : Nat, bits .xor .u32 (m : Int) (X : Int) = (z : Int) ∧ bits .xor .u32 (z : Int) 4294967295 = (C : Int)) := fun m hm => by
    refine ⟨(bkN 32 (~~~ want) ^^^ mor 0#32 s.data.toList).toNat, by rw [hm, hX, xor32], ?_⟩
    rw [not32', hC, hc, mor]
    congr 2
    apply BitVec.eq_of_getLsbD_eq
    intro i hi
    simp only [BitVec.getLsbD_xor, BitVec.getLsbD_not, hi, decide_true, Bool.true_and]
    cases (bkN 32 (~~~ want)).getLsbD i <;> cases (run (~~~ 0#32) s.data.toList).getLsbD i <;> rfl
  have v4 := fun W => conv4 W c C hC
  have v4' := fun (W : World) o => conv4 (W.alloc o) other O hO
  have hsz : ∀ (W : World) o, (W.alloc o).heap.size = W.heap.size + 1 := fun W o => by simp
  simp only [hsz] at v4'
  clear hsz
  have e00 := not32' want
  rw [← hWn] at e00
  have H0 : Hid ((~~~ want).toNat = (bkN 0 (~~~ want)).toNat) := rfl
  rw [← hWn, ← hO]
  simp only [List.map_cons, List.map_nil] at h1 h4 h4'
  generalize (~~~ want).toNat = x0 at e00 H0
  generalize (⟨(four c).toArray⟩ : ByteArray) = f1 at h4 v4
  generalize (⟨(four other).toArray⟩ : ByteArray) = f2 at h4' v4'
  clear hX hC hO hWn hU key hcw
  go_enter Try.func6, Try.ntmps6
  go_wp2_with (go_at_call 9; with_reducible refine (alive_any _).mono ?_; rintro e w1 ⟨rfl, hb1⟩)
  go_loopg [7, 8] 32 (fun g x i wr => w1 = wr ∧ ∃ (k m : Nat), k ≤ 32 ∧ g = 32 - k ∧ x = .int .u32 (m : Int) ∧ i = .int .i64 k ∧ Hid (m = (bkN k (~~~ want)).toNat))
  case atStart =>
    go_light
    exact ⟨rfl, 0, x0, Nat.zero_le _, rfl, rfl, rfl, H0⟩
  case round =>
    obtain ⟨rfl, k, m, hk, rfl, rfl, rfl, HM⟩ := hrel
    by_cases hlt : k < 32
    · have hz : (k : Int) < 32 := by omega
      obtain ⟨x, y, z, v, e1, e2, e3, e4, e5, e6⟩ := bk_step _ m HM.out
      clear h1 h4 h4' v4 v4' HC0
      cases hb : (bkN k (~~~ want)).getLsbD 31 with
      | true =>
        rw [hb] at e5 e6
        have HY : Hid (z = (bkN (k + 1) (~~~ want)).toNat) := by
          show _ = _
          rw [bkN, e6, if_pos rfl]
        clear e6 hb HM
        go_wp2
        go_roundg (32 - (k + 1))
        case rel =>
          go_light
          exact ⟨rfl, k + 1, z, by omega, rfl, rfl, by go_num, HY.out⟩
        case measure => go_light; omega
      | false =>
        rw [hb] at e5 e6
        have HY : Hid (v = (bkN (k + 1) (~~~ want)).toNat) := by
          show _ = _
          rw [bkN, e6, if_neg (by decide)]
        clear e6 hb HM
        go_wp2
        go_roundg (32 - (k + 1))
        case rel =>
          go_light
          exact ⟨rfl, k + 1, v, by omega, rfl, by rw [e4], by go_num, HY.out⟩
        case measure => go_light; omega
    · obtain rfl : k = 32 := by omega
      obtain ⟨z, e1, e2⟩ := HC0.out m HM.out
      have hB := hb1
      clear HM HC0 hb1
      go_upto_region 13 with (go_at_call 10; with_reducible refine (h1 _).mono ?_; rintro e w2 ⟨rfl, hb⟩; replace hB := bnext hB hb; clear hb)
      replace hB := bal (bal hB (.cells #[.int .u8 ((C : Int) % 256), .int .u8 ((C : Int) / 256 % 256), .int .u8 ((C : Int) / 65536 % 256), .int .u8 ((C : Int) / 16777216 % 256)] 5)) (.cells #[.int .u8 ((O : Int) % 256), .int .u8 ((O : Int) / 256 % 256), .int .u8 ((O : Int) / 65536 % 256), .int .u8 ((O : Int) / 16777216 % 256)] 5)
      clear v4 v4' h1 e1 e2 e00
      generalize (w2.alloc (.cells #[.int .u8 ((C : Int) % 256), .int .u8 ((C : Int) / 256 % 256), .int .u8 ((C : Int) / 65536 % 256), .int .u8 ((C : Int) / 16777216 % 256)] 5)).alloc (.cells #[.int .u8 ((O : Int) % 256), .int .u8 ((O : Int) / 256 % 256), .int .u8 ((O : Int) / 65536 % 256), .int .u8 ((O : Int) / 16777216 % 256)] 5) = w3 at *
      go_wp2_with (go_at_call 10; (first | (with_reducible refine (h4 _).mono ?_) | (with_reducible refine (h4' _).mono ?_)); rintro e w4 ⟨rfl, hb⟩; replace hB := bnext hB hb; clear hb)
      go_ret
      exact ⟨rfl, hB⟩
end Go.Proofs.Ytplopgkoikeohaa
