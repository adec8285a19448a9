/-
  Walks of package codec: numbers. Own work.
-/
import Derived.Test.YtelglfmppmdmoaaEWalkB
namespace Go.Proofs.Ytelglfmppmdmoaa
open Go.RowKit
open Cv (Chain)
attribute [local go_sem ↓] Go.wp_at_zero Go.wp_at_succ
theorem undrew {X w1 : World} (h : Below X.drew.heap.size X.drew w1) : Below X.heap.size X w1 := ⟨h.os, h.tape, h.output, h.size, h.block⟩
theorem redrew {B : Nat} {X w1 : World} (h : Below B X w1) : Below B X w1.drew := ⟨h.os, h.tape, h.output, h.size, h.block⟩
set_option maxRecDepth 100000 in
set_option maxHeartbeats 4000000 in
theorem numbers_any (w : World) (a b old size : Nat) (sa : Option Addr) (sb so sc : Nat) (S : List Nat) (D : List ByteArray) (d : Value) (c : Nat) (rs : RdU w sa sb so S.length S) (ho : CntOk a b old size S c) :
    Calls Try.prog 29 #[pv6 a b old size (.slice sa S.length sc) d] w fun e w' => e = .returned (.string ⟨(hd ⟨a, b, old, size, S, D⟩).toArray⟩) ∧ Below w.heap.size w w' := by
  obtain ⟨W, hW, h6, hbw, hz2⟩ := box6 w (.int .i64 (a : Int)) (.int .i64 (b : Int)) (.int .u64 (old : Int)) (.int .u64 (size : Int)) (.slice sa S.length sc) d
  obtain ⟨e0, e1, e2, e3, e4, e5⟩ := h6.cells
  have i1 := ho.kd1
  have i2 := ho.kd3
  have i3 := ho.k1
  have i4 := ho.k32
  have i5 := ho.hsz
  have i6 := ho.hold
  have i7 := ho.len
  have ha : a < 256 := by omega
  have hb : b < 256 := by omega
  have HN := fun W' => num_any W' size (by omega)
  have ea : IntKind.u8.wrap (a : Int) = (a : Int) := by rw [IntKind.wrap_u8]; omega
  have eb : IntKind.u8.wrap (b : Int) = (b : Int) := by rw [IntKind.wrap_u8]; omega
  have ht := fun W' => two_bytes W' a b ha hb
  have ht1 := fun (W' : World) => two_at (W := (W'.alloc (.cells #[.int .u8 (a : Int), .int .u8 (b : Int)] 5)).drew) ha hb (heap_alloc_new W' _)
  have HA : Hid (∀ w1, Below (W.alloc (.cells #[.int .u8 (a : Int), .int .u8 (b : Int)] 5)).heap.size (W.alloc (.cells #[.int .u8 (a : Int), .int .u8 (b : Int)] 5)) w1 → (convert 38 9 (.slice (some ⟨W.heap.size, 0, none⟩) 2 2)).run Try.prog w1 = .ok (.string ⟨[UInt8.ofNat a, UInt8.ofNat b].toArray⟩) w1) := fun w1 hb1 => two_at ha hb ((hb1.block _ (by simp)).trans (heap_alloc_new W _))
  have HX : Hid (∀ w1, Below W.heap.size W w1 → Six w1 w.heap.size (.int .i64 (a : Int)) (.int .i64 (b : Int)) (.int .u64 (old : Int)) (.int .u64 (size : Int)) (.slice sa S.length sc) d) := fun w1 h => h6.next h
  have hne : ¬ w.heap.size = W.heap.size := by omega
  obtain ⟨n0, n1, n2, n3, n4, n5⟩ := (h6.next (bal (Below.refl _ _) (.cells #[.int .u8 (a : Int), .int .u8 (b : Int)] 5))).cells
  have hnl := num_len (n := size) (by omega)
  have HRS : Hid (∀ F, Below W.heap.size W F → RdU F sa sb so S.length S ∧ Below w.heap.size w F) := fun F hF => ⟨rs.next (bnext hbw hF), bnext hbw hF⟩
  have HO := hide ho
  obtain ⟨t1, ht1e⟩ : ∃ t1, (⟨[UInt8.ofNat a, UInt8.ofNat b].toArray⟩ : ByteArray) = t1 := ⟨_, rfl⟩
  obtain ⟨t2, ht2e⟩ : ∃ t2, (⟨(num size).toArray⟩ : ByteArray) = t2 := ⟨_, rfl⟩
  have hs1 : (t1.size : Int) ≤ 2 := by rw [← ht1e]; simp [ByteArray.size]
  have hs2 : (t2.size : Int) ≤ 10 := by rw [← ht2e]; simp [ByteArray.size]; omega
  have HT : Hid (∀ l, l = mid ⟨a, b, old, size, S, D⟩ → t1 ++ t2 ++ (⟨l.toArray⟩ : ByteArray) = ⟨(hd ⟨a, b, old, size, S, D⟩).toArray⟩) := fun l hl => by
    rw [← ht1e, ← ht2e, str_add, str_add, hl]
    simp [hd]
  rw [ht1e] at HA
  simp only [ht1e] at ht ht1
  simp only [ht2e] at HN
  have HI : Hid ((a = 1 ∨ a = 2 ∨ a = 3) ∧ size ≤ 1099511627776 ∧ old ≤ size) := ⟨by omega, i5, i6⟩
  clear h6 hbw ha hb hz2 hnl ht1e ht2e ho rs i1 i2 i3 i4 i5 i6 i7
  go_enter Try.func29, Try.ntmps29
  go_upto_region 1 with (fail)
  try rw [hW]
  clear hW
  rename_i K hK
  have HKK : Hid (∀ F g, Below W.heap.size W F → K { tmps := #[pv6 (a : Int) (b : Int) old size (.slice sa S.length sc) d, .pointer (some ⟨w.heap.size, 0, none⟩), .string ⟨#[]⟩, .string (t1 ++ t2), .pointer (some ⟨w.heap.size, 0, none⟩), .int .i64 (a : Int), .int .u8 (a : Int), .pointer (some ⟨w.heap.size, 1, none⟩), .int .i64 (b : Int), .int .u8 (b : Int), .slice (some ⟨g, 0, none⟩) 2 2, .string t1, .pointer (some ⟨w.heap.size, 3, none⟩), .int .u64 (size : Int), .string t2, .string (t1 ++ t2), undef, undef, undef, undef, undef, undef, undef, undef, undef, undef, undef, undef, undef, undef, undef, undef, undef, undef, undef, undef, undef, undef, undef], defers := [] } F) := by
    intro F g hF
    refine hK _ _ ?_
    obtain ⟨k0, k1, k2, k3, k4, k5⟩ := (HX.out _ hF).cells
    obtain ⟨RF, BF⟩ := HRS.out _ hF
    have HB := hide BF
    clear n0 n1 n2 n3 n4 n5 e0 e1 e2 e3 e4 e5 ht ht1 HA HN hF hK hne
    rcases HI.out.1 with h | h | h
    · have hb1 : ((a : Int) == 1) = true := beq_iff_eq.2 (by omega)
      obtain ⟨hl, ho⟩ := HO.out.one (by omega)
      obtain rfl := RF.ptr (by omega)
      have hc := RF.at (j := 0) (by omega)
      rw [Nat.add_zero] at hc
      have h0 : (0 : Int) < (S.length : Int) := by omega
      have h0' : 0 < S.length := by omega
      have hlt := (chain_at HO.out.chain 0 (by omega)).2
      have HM := fun W' => num_any W' (S.getD 0 0) (by have := HI.out; omega)
      have hnl := num_len (n := S.getD 0 0) (by have := HI.out; omega)
      have HT2 : Hid (t1 ++ t2 ++ (⟨(num (S.getD 0 0)).toArray⟩ : ByteArray) = ⟨(hd ⟨a, b, old, size, S, D⟩).toArray⟩) := HT.out _ (by rw [mid, if_pos (show (a : Int) = 1 by omega)])
      generalize S.getD 0 0 = i at *
      obtain ⟨t3, ht3⟩ : ∃ t3, (⟨(num i).toArray⟩ : ByteArray) = t3 := ⟨_, rfl⟩
      have hs3 : (t3.size : Int) ≤ 10 := by rw [← ht3]; simp [ByteArray.size]; omega
      simp only [ht3] at HM
      rw [ht3] at HT2
      clear h hl ho hlt hnl ht3 RF BF
      go_wp2_with (go_at_call 52; with_reducible refine (HM _).mono ?_; rintro x w3 ⟨rfl, hb3⟩)
      go_ret
      exact ⟨by rw [← HT2.out]; rfl, bnext HB.out hb3⟩
    · have hb1 : ((a : Int) == 1) = false := beq_false_of_ne (by omega)
      have hb2 : ((a : Int) == 2) = true := beq_iff_eq.2 (by omega)
      have HM := laid_any F sa sb so sc S size RF HO.out.chain HI.out.2.1
      have hll := laidL_le HO.out.chain (by have := HI.out; omega)
      have hln := HO.out.len
      have hnl := num_len (n := S.length) (by have := HI.out; omega)
      have HT2 : Hid (t1 ++ t2 ++ (⟨(num S.length ++ laidL 0 S).toArray⟩ : ByteArray) = ⟨(hd ⟨a, b, old, size, S, D⟩).toArray⟩) := HT.out _ (by rw [mid, if_neg (show ¬ (a : Int) = 1 by omega), if_pos (show (a : Int) = 2 by omega)])
      obtain ⟨t3, ht3⟩ : ∃ t3, (⟨(num S.length ++ laidL 0 S).toArray⟩ : ByteArray) = t3 := ⟨_, rfl⟩
      have hs3 : (t3.size : Int) ≤ 35184372088832 := by rw [← ht3]; have := HI.out; simp [ByteArray.size]; omega
      rw [ht3] at HT2 HM
      clear h hll hln hnl ht3 RF BF
      go_wp2_with (go_at_call 53; with_reducible refine HM.mono ?_; rintro x w3 ⟨rfl, hb3⟩)
      go_ret
      exact ⟨by rw [← HT2.out]; rfl, bnext HB.out hb3⟩
    · have hb1 : ((a : Int) == 1) = false := beq_false_of_ne (by omega)
      have hb2 : ((a : Int) == 2) = false := beq_false_of_ne (by omega)
      have HM := fun W' => num_any W' old (by have := HI.out; omega)
      have hnl := num_len (n := old) (by have := HI.out; omega)
      have HT2 : Hid (t1 ++ t2 ++ (⟨(num old).toArray⟩ : ByteArray) = ⟨(hd ⟨a, b, old, size, S, D⟩).toArray⟩) := HT.out _ (by rw [mid, if_neg (show ¬ (a : Int) = 1 by omega), if_neg (show ¬ (a : Int) = 2 by omega)])
      obtain ⟨t3, ht3⟩ : ∃ t3, (⟨(num old).toArray⟩ : ByteArray) = t3 := ⟨_, rfl⟩
      have hs3 : (t3.size : Int) ≤ 10 := by rw [← ht3]; simp [ByteArray.size]; omega
      simp only [ht3] at HM
      rw [ht3] at HT2
      clear h hnl ht3 RF BF
      go_wp2_with (go_at_call 52; with_reducible refine (HM _).mono ?_; rintro x w3 ⟨rfl, hb3⟩)
      go_ret
      exact ⟨by rw [← HT2.out]; rfl, bnext HB.out hb3⟩
  clear hK HT HI HO HRS
  go_region_with (go_at_call 52; (with_reducible refine (HN _).mono ?_); rintro x w1 ⟨rfl, hb1⟩; (have hb2 : Below W.heap.size W w1 := by first | exact hb1 | exact undrew hb1 | exact bnext (bal (Below.refl _ _) _) hb1 | exact bnext (bal (Below.refl _ _) _) (undrew hb1)); (obtain ⟨k0, k1, k2, k3, k4, k5⟩ := (HX.out _ hb2).cells); (first | (have hcv := HA.out _ (undrew hb1)) | (have hcv := HA.out _ hb1) | skip))
  all_goals exact HKK.out _ _ (by first | exact hb2 | exact redrew hb2 | exact bal hb2 _ | exact redrew (bal hb2 _) | exact bal (redrew hb2) _ | exact redrew (redrew hb2) | exact redrew (bal (redrew hb2) _))
end Go.Proofs.Ytelglfmppmdmoaa
