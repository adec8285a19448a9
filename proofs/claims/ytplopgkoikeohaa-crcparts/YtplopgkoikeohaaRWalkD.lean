/-
  The walk of CrcParts. Own work.
-/
import Derived.Test.YtplopgkoikeohaaRPlan
namespace Go.Proofs.Ytplopgkoikeohaa
open Go.RowKit
attribute [local go_sem ↓] Go.wp_at_zero Go.wp_at_succ
theorem szs_big {a : ByteArray} {l : List ByteArray} (h : a.size ≤ 9223372036854775807) (hl : ∀ s ∈ l, s.size ≤ 9223372036854775807) : ∀ s ∈ a :: l, s.size ≤ 9223372036854775807 := fun s hs => by
  rcases List.mem_cons.1 hs with rfl | hs
  · exact h
  · exact hl s hs
theorem sum_flat (ss : List ByteArray) (l : List UInt8) (h : flat ss = l) : ((sumL ss).toNat : Int) = ((mor 0#32 l).toNat : Int) := by rw [sumL, h]
set_option maxRecDepth 100000 in
set_option maxHeartbeats 4000000 in
theorem parts_walk (w : World) (a b : ByteArray) (ha : a.size ≤ 140737488351232) (hb : b.size ≤ 140737488351232) (c : BitVec 32) :
    Calls Try.prog 3 #[.string a, .string b, .int .u32 (c.toNat : Int)] w fun e w' => e = .returned (.bool true) ∧ Below w.heap.size w w' := by
  obtain ⟨ab, eab⟩ : ∃ s, a ++ b = s := ⟨_, rfl⟩
  obtain ⟨n, hn⟩ : ∃ n, n = a.size / 2 := ⟨_, rfl⟩
  obtain ⟨al, eal⟩ : ∃ s, a.extract 0 n = s := ⟨_, rfl⟩
  obtain ⟨ar, ear⟩ : ∃ s, a.extract n a.size = s := ⟨_, rfl⟩
  have hab : ab.data.toList = a.data.toList ++ b.data.toList := by rw [← eab]; simp
  have habs : ab.size = a.size + b.size := by rw [← eab]; simp
  have zs : ∀ (s : ByteArray), s.data.toList.length = s.size := fun s => by simp
  have hll : al.data.toList = a.data.toList.take n := by rw [← eal]; simp [ByteArray.data_extract]
  have hlr : ar.data.toList = a.data.toList.drop n := by
    rw [← ear, ByteArray.data_extract, Array.toList_extract]
    show List.take (a.size - n) (List.drop n a.data.toList) = _
    exact List.take_of_length_le (by rw [List.length_drop, zs]; omega)
  have za : a.size ≤ 9223372036854775807 := by omega
  have zb : b.size ≤ 9223372036854775807 := by omega
  have zab : ab.size ≤ 9223372036854775807 := by omega
  have zal : al.size ≤ 9223372036854775807 := by rw [← zs, hll, List.length_take, zs]; omega
  have zar : ar.size ≤ 9223372036854775807 := by rw [← zs, hlr, List.length_drop, zs]; omega
  have z0 : (⟨#[]⟩ : ByteArray).size ≤ 9223372036854775807 := by decide
  obtain ⟨X, hX⟩ : ∃ X, X = (mor 0#32 (a.data.toList ++ b.data.toList)).toNat := ⟨_, rfl⟩
  obtain ⟨Y, hY⟩ : ∃ Y, Y = (mor 0#32 a.data.toList).toNat := ⟨_, rfl⟩
  obtain ⟨Z, hZ⟩ : ∃ Z, Z = (mor c a.data.toList).toNat := ⟨_, rfl⟩
  obtain ⟨V, hV⟩ : ∃ V, V = (mor c (a.data.toList ++ b.data.toList)).toNat := ⟨_, rfl⟩
  have q2 : ((sumL [a, b]).toNat : Int) = (X : Int) := by rw [hX]; exact sum_flat _ _ (by simp [flat])
  have qj : ((sumL [ab]).toNat : Int) = (X : Int) := by rw [hX]; exact sum_flat _ _ (by rw [flat_one, hab])
  have q1 : ((sumL [a]).toNat : Int) = (Y : Int) := by rw [hY]; exact sum_flat _ _ (flat_one a)
  have q4 : ((sumL [al, ⟨#[]⟩, ar, b]).toNat : Int) = (X : Int) := by
    rw [hX]
    refine sum_flat _ _ ?_
    simp only [flat, List.flatMap_cons, List.flatMap_nil, hll, hlr, List.append_nil]
    rw [List.nil_append, ← List.append_assoc, List.take_append_drop]
  have m1 := fun W => more_m W _ Y hY b zb
  simp only [← mor_append, ← hX] at m1
  have m2 := fun W => more_m W c c.toNat rfl a za
  simp only [← hZ] at m2
  have m3 := fun W => more_m W _ Z hZ b zb
  simp only [← mor_append, ← hV] at m3
  have m4 := fun W => more_m W c c.toNat rfl ab zab
  simp only [hab, ← hV] at m4
  have m5 := fun W => more_m W 0#32 0 rfl a za
  simp only [← hY, show ((0 : Nat) : Int) = 0 from rfl] at m5
  have m6 := fun W => more_m W c c.toNat rfl ⟨#[]⟩ (by decide)
  simp only [mor_nil] at m6
  have hns : ¬ (9223372036854775807 < a.size + b.size) := by omega
  have en : (a.size : Int) / 2 = (n : Int) := by omega
  have nle : n ≤ a.size := by omega
  have hB := Below.refl w.heap.size w
  clear hX hY hZ hV hab habs hll hlr zs hn
  generalize c.toNat = C at *
  go_enter Try.func3, Try.ntmps3
  go_wp2_with (go_at_call 9; with_reducible refine (alive_any _).mono ?_; rintro e w1 ⟨rfl, hb1⟩; replace hB := bnext hB hb1; clear hb1)
  have HB0 : Hid (Below w.heap.size w w1) := hB
  clear hB
  refine wp_region_plan (by kernel_rfl) [13, 14, 15, 16, 17, 18, 19, 20, 21, 22, 23, 24, 25, 26, 27, 28, 29, 30, 31, 32, 33, 34, 35, 36, 37, 38, 39, 40, 41, 42, 43, 44, 45, 46, 47, 48, 49, 50, 51, 52, 53, 54, 55, 56, 57, 58, 59, 60, 61, 62, 63, 64, 65, 66, 67, 68, 69, 70, 71, 72, 73, 74, 75, 76, 77, 78, 6] (by kernel_rfl) (plan [.string a, .string b, undef, .int .u32 (X : Int), .string a, .string b, .string ab, undef, .int .u32 (X : Int), .bool true, .bool true, .string a, .string b, undef, .int .u32 (X : Int), .string a, undef, .int .u32 (Y : Int), .string b, .int .u32 (X : Int), .bool true, .bool true, .bool true, .string a, .int .i64 (n : Int), .string al, .string a, .int .i64 (n : Int), .string ar, .string b, undef, .int .u32 (X : Int), .string a, .string b, .string ab, undef, .int .u32 (X : Int), .bool true, .bool true, .bool true, .int .u32 (C : Int), .string a, .int .u32 (Z : Int), .string b, .int .u32 (V : Int), .int .u32 (C : Int), .string a, .string b, .string ab, .int .u32 (V : Int), .bool true, .bool true, .bool true, .string a, .int .u32 (Y : Int), .string a, undef, .int .u32 (Y : Int), .bool true, .bool true, .bool true, .int .u32 (C : Int), .int .u32 (C : Int), .int .u32 (C : Int), .bool true, .bool true, .bool true] [(2, [a, b]), (7, [ab]), (13, [a, b]), (16, [a]), (30, [al, ⟨#[]⟩, ar, b]), (35, [ab]), (56, [a])]) (plan_mono _ _) ?step ?fin
  case fin =>
    intro A w2 hB2 hde hsm hΦ
    have h6 : A.tmps.getD 6 undef = .bool true := hΦ 66 (by decide)
    have hr : (results Try.f3 A.tmps).run Try.prog w2 = .ok (.bool true) w2 := by rw [← h6]; exact results_tmp rfl _ _ _
    have HF : Hid (A.defers = [] ∧ Below w.heap.size w w2 ∧ (results Try.f3 A.tmps).run Try.prog w2 = .ok (.bool true) w2) := ⟨hde, bnext HB0.out hB2, hr⟩
    clear hr hde hsm hΦ h6 hB2
    go_wp2
    exact bodyPost_ret HF.out.2.2 HF.out.1 ⟨rfl, HF.out.2.1⟩
  case step =>
    refine ⟨?_, ?_, ?_, ?_, ?_, ?_, ?_, ?_, ?_, ?_, ?_, ?_, ?_, ?_, ?_, ?_, ?_, ?_, ?_, ?_, ?_, ?_, ?_, ?_, ?_, ?_, ?_, ?_, ?_, ?_, ?_, ?_, ?_, ?_, ?_, ?_, ?_, ?_, ?_, ?_, ?_, ?_, ?_, ?_, ?_, ?_, ?_, ?_, ?_, ?_, ?_, ?_, ?_, ?_, ?_, ?_, ?_, ?_, ?_, ?_, ?_, ?_, ?_, ?_, ?_, ?_, ?_, trivial⟩
    · intro A w K hB hsm dep hK
      have t0 : A.tmps.getD 0 undef = .string a := hsm 0 rfl
      show Oper.wp _ _ A w K _
      go_simp
      exact hK _ _ rfl (Below.refl _ _)
    · intro A w K hB hsm dep hK
      have t1 : A.tmps.getD 1 undef = .string b := hsm 1 rfl
      show Oper.wp _ _ A w K _
      go_simp
      exact hK _ _ rfl (Below.refl _ _)
    · intro A w K hB hsm dep hK
      have t13 : A.tmps.getD 13 undef = .string a := dep 0 rfl
      have u13 : A.tmps[13]?.getD undef = .string a := by rw [← Array.getD_eq_getD_getElem?]; exact t13
      have t14 : A.tmps.getD 14 undef = .string b := dep 1 rfl
      have u14 : A.tmps[14]?.getD undef = .string b := by rw [← Array.getD_eq_getD_getElem?]; exact t14
      show Oper.wp _ _ A w K _
      go_simp
      exact hK _ _ (rdp_new w 2 [a, b] rfl (szs_big za (szs_big zb szs_nil))) ((Below.refl _ _).alloc (Nat.le_refl _) _)
    · intro A w K hB hsm dep hK
      obtain ⟨g15, t15, r15⟩ := (show RdP w (A.tmps.getD 15 undef) [a, b] from dep 2 rfl)
      show Oper.wp _ _ A w K _
      go_simp
      refine (of_rds w g15 2 [a, b] (X : Int) q2 r15 (by decide)).mono ?_
      rintro e w' ⟨rfl, hb⟩
      exact hK _ _ rfl hb
    · intro A w K hB hsm dep hK
      have t0 : A.tmps.getD 0 undef = .string a := hsm 0 rfl
      show Oper.wp _ _ A w K _
      go_simp
      exact hK _ _ rfl (Below.refl _ _)
    · intro A w K hB hsm dep hK
      have t1 : A.tmps.getD 1 undef = .string b := hsm 1 rfl
      show Oper.wp _ _ A w K _
      go_simp
      exact hK _ _ rfl (Below.refl _ _)
    · intro A w K hB hsm dep hK
      have t17 : A.tmps.getD 17 undef = .string a := dep 4 rfl
      have t18 : A.tmps.getD 18 undef = .string b := dep 5 rfl
      show Oper.wp _ _ A w K _
      go_simp
      exact hK _ _ rfl (Below.refl _ _)
    · intro A w K hB hsm dep hK
      have t19 : A.tmps.getD 19 undef = .string ab := dep 6 rfl
      have u19 : A.tmps[19]?.getD undef = .string ab := by rw [← Array.getD_eq_getD_getElem?]; exact t19
      show Oper.wp _ _ A w K _
      go_simp
      exact hK _ _ (rdp_new w 1 [ab] rfl (szs_big zab szs_nil)) ((Below.refl _ _).alloc (Nat.le_refl _) _)
    · intro A w K hB hsm dep hK
      obtain ⟨g20, t20, r20⟩ := (show RdP w (A.tmps.getD 20 undef) [ab] from dep 7 rfl)
      show Oper.wp _ _ A w K _
      go_simp
      refine (of_rds w g20 1 [ab] (X : Int) qj r20 (by decide)).mono ?_
      rintro e w' ⟨rfl, hb⟩
      exact hK _ _ rfl hb
    · intro A w K hB hsm dep hK
      have t16 : A.tmps.getD 16 undef = .int .u32 (X : Int) := dep 3 rfl
      have t21 : A.tmps.getD 21 undef = .int .u32 (X : Int) := dep 8 rfl
      show Oper.wp _ _ A w K _
      go_simp
      exact hK _ _ rfl (Below.refl _ _)
    · intro A w K hB hsm dep hK
      have t22 : A.tmps.getD 22 undef = .bool true := dep 9 rfl
      show Oper.wp _ _ A w K _
      go_simp
      exact hK _ _ rfl (Below.refl _ _)
    · intro A w K hB hsm dep hK
      have t0 : A.tmps.getD 0 undef = .string a := hsm 0 rfl
      refine ⟨true, (show A.tmps.getD 23 undef = .bool true from dep 10 rfl), ?_⟩
      rw [if_pos rfl]
      go_simp
      exact hK _ _ rfl (Below.refl _ _)
    · intro A w K hB hsm dep hK
      have t1 : A.tmps.getD 1 undef = .string b := hsm 1 rfl
      refine ⟨true, (show A.tmps.getD 23 undef = .bool true from dep 10 rfl), ?_⟩
      rw [if_pos rfl]
      go_simp
      exact hK _ _ rfl (Below.refl _ _)
    · intro A w K hB hsm dep hK
      have t24 : A.tmps.getD 24 undef = .string a := dep 11 rfl
      have u24 : A.tmps[24]?.getD undef = .string a := by rw [← Array.getD_eq_getD_getElem?]; exact t24
      have t25 : A.tmps.getD 25 undef = .string b := dep 12 rfl
      have u25 : A.tmps[25]?.getD undef = .string b := by rw [← Array.getD_eq_getD_getElem?]; exact t25
      refine ⟨true, (show A.tmps.getD 23 undef = .bool true from dep 10 rfl), ?_⟩
      rw [if_pos rfl]
      go_simp
      exact hK _ _ (rdp_new w 2 [a, b] rfl (szs_big za (szs_big zb szs_nil))) ((Below.refl _ _).alloc (Nat.le_refl _) _)
    · intro A w K hB hsm dep hK
      obtain ⟨g26, t26, r26⟩ := (show RdP w (A.tmps.getD 26 undef) [a, b] from dep 13 rfl)
      refine ⟨true, (show A.tmps.getD 23 undef = .bool true from dep 10 rfl), ?_⟩
      rw [if_pos rfl]
      go_simp
      refine (of_rds w g26 2 [a, b] (X : Int) q2 r26 (by decide)).mono ?_
      rintro e w' ⟨rfl, hb⟩
      exact hK _ _ rfl hb
    · intro A w K hB hsm dep hK
      have t0 : A.tmps.getD 0 undef = .string a := hsm 0 rfl
      refine ⟨true, (show A.tmps.getD 23 undef = .bool true from dep 10 rfl), ?_⟩
      rw [if_pos rfl]
      go_simp
      exact hK _ _ rfl (Below.refl _ _)
    · intro A w K hB hsm dep hK
      have t28 : A.tmps.getD 28 undef = .string a := dep 15 rfl
      have u28 : A.tmps[28]?.getD undef = .string a := by rw [← Array.getD_eq_getD_getElem?]; exact t28
      refine ⟨true, (show A.tmps.getD 23 undef = .bool true from dep 10 rfl), ?_⟩
      rw [if_pos rfl]
      go_simp
      exact hK _ _ (rdp_new w 1 [a] rfl (szs_big za szs_nil)) ((Below.refl _ _).alloc (Nat.le_refl _) _)
    · intro A w K hB hsm dep hK
      obtain ⟨g29, t29, r29⟩ := (show RdP w (A.tmps.getD 29 undef) [a] from dep 16 rfl)
      refine ⟨true, (show A.tmps.getD 23 undef = .bool true from dep 10 rfl), ?_⟩
      rw [if_pos rfl]
      go_simp
      refine (of_rds w g29 1 [a] (Y : Int) q1 r29 (by decide)).mono ?_
      rintro e w' ⟨rfl, hb⟩
      exact hK _ _ rfl hb
    · intro A w K hB hsm dep hK
      have t1 : A.tmps.getD 1 undef = .string b := hsm 1 rfl
      refine ⟨true, (show A.tmps.getD 23 undef = .bool true from dep 10 rfl), ?_⟩
      rw [if_pos rfl]
      go_simp
      exact hK _ _ rfl (Below.refl _ _)
    · intro A w K hB hsm dep hK
      have t30 : A.tmps.getD 30 undef = .int .u32 (Y : Int) := dep 17 rfl
      have t31 : A.tmps.getD 31 undef = .string b := dep 18 rfl
      refine ⟨true, (show A.tmps.getD 23 undef = .bool true from dep 10 rfl), ?_⟩
      rw [if_pos rfl]
      go_simp
      refine (m1 w).mono ?_
      rintro e w' ⟨rfl, hb⟩
      exact hK _ _ rfl hb
    · intro A w K hB hsm dep hK
      have t27 : A.tmps.getD 27 undef = .int .u32 (X : Int) := dep 14 rfl
      have t32 : A.tmps.getD 32 undef = .int .u32 (X : Int) := dep 19 rfl
      refine ⟨true, (show A.tmps.getD 23 undef = .bool true from dep 10 rfl), ?_⟩
      rw [if_pos rfl]
      go_simp
      exact hK _ _ rfl (Below.refl _ _)
    · intro A w K hB hsm dep hK
      have t23 : A.tmps.getD 23 undef = .bool true := dep 10 rfl
      have t33 : A.tmps.getD 33 undef = .bool true := dep 20 rfl
      show Oper.wp _ _ A w K _
      go_simp
      exact hK _ _ rfl (Below.refl _ _)
    · intro A w K hB hsm dep hK
      have t34 : A.tmps.getD 34 undef = .bool true := dep 21 rfl
      show Oper.wp _ _ A w K _
      go_simp
      exact hK _ _ rfl (Below.refl _ _)
    · intro A w K hB hsm dep hK
      have t0 : A.tmps.getD 0 undef = .string a := hsm 0 rfl
      refine ⟨true, (show A.tmps.getD 35 undef = .bool true from dep 22 rfl), ?_⟩
      rw [if_pos rfl]
      go_simp
      exact hK _ _ rfl (Below.refl _ _)
    · intro A w K hB hsm dep hK
      have t7 : A.tmps.getD 7 undef = .int .i64 (n : Int) := hsm 7 rfl
      refine ⟨true, (show A.tmps.getD 35 undef = .bool true from dep 22 rfl), ?_⟩
      rw [if_pos rfl]
      go_simp
      exact hK _ _ rfl (Below.refl _ _)
    · intro A w K hB hsm dep hK
      have t36 : A.tmps.getD 36 undef = .string a := dep 23 rfl
      have t37 : A.tmps.getD 37 undef = .int .i64 (n : Int) := dep 24 rfl
      refine ⟨true, (show A.tmps.getD 35 undef = .bool true from dep 22 rfl), ?_⟩
      rw [if_pos rfl]
      go_simp
      exact hK _ _ rfl (Below.refl _ _)
    · intro A w K hB hsm dep hK
      have t0 : A.tmps.getD 0 undef = .string a := hsm 0 rfl
      refine ⟨true, (show A.tmps.getD 35 undef = .bool true from dep 22 rfl), ?_⟩
      rw [if_pos rfl]
      go_simp
      exact hK _ _ rfl (Below.refl _ _)
    · intro A w K hB hsm dep hK
      have t7 : A.tmps.getD 7 undef = .int .i64 (n : Int) := hsm 7 rfl
      refine ⟨true, (show A.tmps.getD 35 undef = .bool true from dep 22 rfl), ?_⟩
      rw [if_pos rfl]
      go_simp
      exact hK _ _ rfl (Below.refl _ _)
    · intro A w K hB hsm dep hK
      have t39 : A.tmps.getD 39 undef = .string a := dep 26 rfl
      have t40 : A.tmps.getD 40 undef = .int .i64 (n : Int) := dep 27 rfl
      refine ⟨true, (show A.tmps.getD 35 undef = .bool true from dep 22 rfl), ?_⟩
      rw [if_pos rfl]
      go_simp
      exact hK _ _ rfl (Below.refl _ _)
    · intro A w K hB hsm dep hK
      have t1 : A.tmps.getD 1 undef = .string b := hsm 1 rfl
      refine ⟨true, (show A.tmps.getD 35 undef = .bool true from dep 22 rfl), ?_⟩
      rw [if_pos rfl]
      go_simp
      exact hK _ _ rfl (Below.refl _ _)
    · intro A w K hB hsm dep hK
      have t38 : A.tmps.getD 38 undef = .string al := dep 25 rfl
      have u38 : A.tmps[38]?.getD undef = .string al := by rw [← Array.getD_eq_getD_getElem?]; exact t38
      have t41 : A.tmps.getD 41 undef = .string ar := dep 28 rfl
      have u41 : A.tmps[41]?.getD undef = .string ar := by rw [← Array.getD_eq_getD_getElem?]; exact t41
      have t42 : A.tmps.getD 42 undef = .string b := dep 29 rfl
      have u42 : A.tmps[42]?.getD undef = .string b := by rw [← Array.getD_eq_getD_getElem?]; exact t42
      refine ⟨true, (show A.tmps.getD 35 undef = .bool true from dep 22 rfl), ?_⟩
      rw [if_pos rfl]
      go_simp
      exact hK _ _ (rdp_new w 4 [al, ⟨#[]⟩, ar, b] rfl (szs_big zal (szs_big z0 (szs_big zar (szs_big zb szs_nil))))) ((Below.refl _ _).alloc (Nat.le_refl _) _)
    · intro A w K hB hsm dep hK
      obtain ⟨g43, t43, r43⟩ := (show RdP w (A.tmps.getD 43 undef) [al, ⟨#[]⟩, ar, b] from dep 30 rfl)
      refine ⟨true, (show A.tmps.getD 35 undef = .bool true from dep 22 rfl), ?_⟩
      rw [if_pos rfl]
      go_simp
      refine (of_rds w g43 4 [al, ⟨#[]⟩, ar, b] (X : Int) q4 r43 (by decide)).mono ?_
      rintro e w' ⟨rfl, hb⟩
      exact hK _ _ rfl hb
    · intro A w K hB hsm dep hK
      have t0 : A.tmps.getD 0 undef = .string a := hsm 0 rfl
      refine ⟨true, (show A.tmps.getD 35 undef = .bool true from dep 22 rfl), ?_⟩
      rw [if_pos rfl]
      go_simp
      exact hK _ _ rfl (Below.refl _ _)
    · intro A w K hB hsm dep hK
      have t1 : A.tmps.getD 1 undef = .string b := hsm 1 rfl
      refine ⟨true, (show A.tmps.getD 35 undef = .bool true from dep 22 rfl), ?_⟩
      rw [if_pos rfl]
      go_simp
      exact hK _ _ rfl (Below.refl _ _)
    · intro A w K hB hsm dep hK
      have t45 : A.tmps.getD 45 undef = .string a := dep 32 rfl
      have t46 : A.tmps.getD 46 undef = .string b := dep 33 rfl
      refine ⟨true, (show A.tmps.getD 35 undef = .bool true from dep 22 rfl), ?_⟩
      rw [if_pos rfl]
      go_simp
      exact hK _ _ rfl (Below.refl _ _)
    · intro A w K hB hsm dep hK
      have t47 : A.tmps.getD 47 undef = .string ab := dep 34 rfl
      have u47 : A.tmps[47]?.getD undef = .string ab := by rw [← Array.getD_eq_getD_getElem?]; exact t47
      refine ⟨true, (show A.tmps.getD 35 undef = .bool true from dep 22 rfl), ?_⟩
      rw [if_pos rfl]
      go_simp
      exact hK _ _ (rdp_new w 1 [ab] rfl (szs_big zab szs_nil)) ((Below.refl _ _).alloc (Nat.le_refl _) _)
    · intro A w K hB hsm dep hK
      obtain ⟨g48, t48, r48⟩ := (show RdP w (A.tmps.getD 48 undef) [ab] from dep 35 rfl)
      refine ⟨true, (show A.tmps.getD 35 undef = .bool true from dep 22 rfl), ?_⟩
      rw [if_pos rfl]
      go_simp
      refine (of_rds w g48 1 [ab] (X : Int) qj r48 (by decide)).mono ?_
      rintro e w' ⟨rfl, hb⟩
      exact hK _ _ rfl hb
    · intro A w K hB hsm dep hK
      have t44 : A.tmps.getD 44 undef = .int .u32 (X : Int) := dep 31 rfl
      have t49 : A.tmps.getD 49 undef = .int .u32 (X : Int) := dep 36 rfl
      refine ⟨true, (show A.tmps.getD 35 undef = .bool true from dep 22 rfl), ?_⟩
      rw [if_pos rfl]
      go_simp
      exact hK _ _ rfl (Below.refl _ _)
    · intro A w K hB hsm dep hK
      have t35 : A.tmps.getD 35 undef = .bool true := dep 22 rfl
      have t50 : A.tmps.getD 50 undef = .bool true := dep 37 rfl
      show Oper.wp _ _ A w K _
      go_simp
      exact hK _ _ rfl (Below.refl _ _)
    · intro A w K hB hsm dep hK
      have t51 : A.tmps.getD 51 undef = .bool true := dep 38 rfl
      show Oper.wp _ _ A w K _
      go_simp
      exact hK _ _ rfl (Below.refl _ _)
    · intro A w K hB hsm dep hK
      have t2 : A.tmps.getD 2 undef = .int .u32 (C : Int) := hsm 2 rfl
      refine ⟨true, (show A.tmps.getD 52 undef = .bool true from dep 39 rfl), ?_⟩
      rw [if_pos rfl]
      go_simp
      exact hK _ _ rfl (Below.refl _ _)
    · intro A w K hB hsm dep hK
      have t0 : A.tmps.getD 0 undef = .string a := hsm 0 rfl
      refine ⟨true, (show A.tmps.getD 52 undef = .bool true from dep 39 rfl), ?_⟩
      rw [if_pos rfl]
      go_simp
      exact hK _ _ rfl (Below.refl _ _)
    · intro A w K hB hsm dep hK
      have t53 : A.tmps.getD 53 undef = .int .u32 (C : Int) := dep 40 rfl
      have t54 : A.tmps.getD 54 undef = .string a := dep 41 rfl
      refine ⟨true, (show A.tmps.getD 52 undef = .bool true from dep 39 rfl), ?_⟩
      rw [if_pos rfl]
      go_simp
      refine (m2 w).mono ?_
      rintro e w' ⟨rfl, hb⟩
      exact hK _ _ rfl hb
    · intro A w K hB hsm dep hK
      have t1 : A.tmps.getD 1 undef = .string b := hsm 1 rfl
      refine ⟨true, (show A.tmps.getD 52 undef = .bool true from dep 39 rfl), ?_⟩
      rw [if_pos rfl]
      go_simp
      exact hK _ _ rfl (Below.refl _ _)
    · intro A w K hB hsm dep hK
      have t55 : A.tmps.getD 55 undef = .int .u32 (Z : Int) := dep 42 rfl
      have t56 : A.tmps.getD 56 undef = .string b := dep 43 rfl
      refine ⟨true, (show A.tmps.getD 52 undef = .bool true from dep 39 rfl), ?_⟩
      rw [if_pos rfl]
      go_simp
      refine (m3 w).mono ?_
      rintro e w' ⟨rfl, hb⟩
      exact hK _ _ rfl hb
    · intro A w K hB hsm dep hK
      have t2 : A.tmps.getD 2 undef = .int .u32 (C : Int) := hsm 2 rfl
      refine ⟨true, (show A.tmps.getD 52 undef = .bool true from dep 39 rfl), ?_⟩
      rw [if_pos rfl]
      go_simp
      exact hK _ _ rfl (Below.refl _ _)
    · intro A w K hB hsm dep hK
      have t0 : A.tmps.getD 0 undef = .string a := hsm 0 rfl
      refine ⟨true, (show A.tmps.getD 52 undef = .bool true from dep 39 rfl), ?_⟩
      rw [if_pos rfl]
      go_simp
      exact hK _ _ rfl (Below.refl _ _)
    · intro A w K hB hsm dep hK
      have t1 : A.tmps.getD 1 undef = .string b := hsm 1 rfl
      refine ⟨true, (show A.tmps.getD 52 undef = .bool true from dep 39 rfl), ?_⟩
      rw [if_pos rfl]
      go_simp
      exact hK _ _ rfl (Below.refl _ _)
    · intro A w K hB hsm dep hK
      have t59 : A.tmps.getD 59 undef = .string a := dep 46 rfl
      have t60 : A.tmps.getD 60 undef = .string b := dep 47 rfl
      refine ⟨true, (show A.tmps.getD 52 undef = .bool true from dep 39 rfl), ?_⟩
      rw [if_pos rfl]
      go_simp
      exact hK _ _ rfl (Below.refl _ _)
    · intro A w K hB hsm dep hK
      have t58 : A.tmps.getD 58 undef = .int .u32 (C : Int) := dep 45 rfl
      have t61 : A.tmps.getD 61 undef = .string ab := dep 48 rfl
      refine ⟨true, (show A.tmps.getD 52 undef = .bool true from dep 39 rfl), ?_⟩
      rw [if_pos rfl]
      go_simp
      refine (m4 w).mono ?_
      rintro e w' ⟨rfl, hb⟩
      exact hK _ _ rfl hb
    · intro A w K hB hsm dep hK
      have t57 : A.tmps.getD 57 undef = .int .u32 (V : Int) := dep 44 rfl
      have t62 : A.tmps.getD 62 undef = .int .u32 (V : Int) := dep 49 rfl
      refine ⟨true, (show A.tmps.getD 52 undef = .bool true from dep 39 rfl), ?_⟩
      rw [if_pos rfl]
      go_simp
      exact hK _ _ rfl (Below.refl _ _)
    · intro A w K hB hsm dep hK
      have t52 : A.tmps.getD 52 undef = .bool true := dep 39 rfl
      have t63 : A.tmps.getD 63 undef = .bool true := dep 50 rfl
      show Oper.wp _ _ A w K _
      go_simp
      exact hK _ _ rfl (Below.refl _ _)
    · intro A w K hB hsm dep hK
      have t64 : A.tmps.getD 64 undef = .bool true := dep 51 rfl
      show Oper.wp _ _ A w K _
      go_simp
      exact hK _ _ rfl (Below.refl _ _)
    · intro A w K hB hsm dep hK
      have t0 : A.tmps.getD 0 undef = .string a := hsm 0 rfl
      refine ⟨true, (show A.tmps.getD 65 undef = .bool true from dep 52 rfl), ?_⟩
      rw [if_pos rfl]
      go_simp
      exact hK _ _ rfl (Below.refl _ _)
    · intro A w K hB hsm dep hK
      have t66 : A.tmps.getD 66 undef = .string a := dep 53 rfl
      refine ⟨true, (show A.tmps.getD 65 undef = .bool true from dep 52 rfl), ?_⟩
      rw [if_pos rfl]
      go_simp
      refine (m5 w).mono ?_
      rintro e w' ⟨rfl, hb⟩
      exact hK _ _ rfl hb
    · intro A w K hB hsm dep hK
      have t0 : A.tmps.getD 0 undef = .string a := hsm 0 rfl
      refine ⟨true, (show A.tmps.getD 65 undef = .bool true from dep 52 rfl), ?_⟩
      rw [if_pos rfl]
      go_simp
      exact hK _ _ rfl (Below.refl _ _)
    · intro A w K hB hsm dep hK
      have t68 : A.tmps.getD 68 undef = .string a := dep 55 rfl
      have u68 : A.tmps[68]?.getD undef = .string a := by rw [← Array.getD_eq_getD_getElem?]; exact t68
      refine ⟨true, (show A.tmps.getD 65 undef = .bool true from dep 52 rfl), ?_⟩
      rw [if_pos rfl]
      go_simp
      exact hK _ _ (rdp_new w 1 [a] rfl (szs_big za szs_nil)) ((Below.refl _ _).alloc (Nat.le_refl _) _)
    · intro A w K hB hsm dep hK
      obtain ⟨g69, t69, r69⟩ := (show RdP w (A.tmps.getD 69 undef) [a] from dep 56 rfl)
      refine ⟨true, (show A.tmps.getD 65 undef = .bool true from dep 52 rfl), ?_⟩
      rw [if_pos rfl]
      go_simp
      refine (of_rds w g69 1 [a] (Y : Int) q1 r69 (by decide)).mono ?_
      rintro e w' ⟨rfl, hb⟩
      exact hK _ _ rfl hb
    · intro A w K hB hsm dep hK
      have t67 : A.tmps.getD 67 undef = .int .u32 (Y : Int) := dep 54 rfl
      have t70 : A.tmps.getD 70 undef = .int .u32 (Y : Int) := dep 57 rfl
      refine ⟨true, (show A.tmps.getD 65 undef = .bool true from dep 52 rfl), ?_⟩
      rw [if_pos rfl]
      go_simp
      exact hK _ _ rfl (Below.refl _ _)
    · intro A w K hB hsm dep hK
      have t65 : A.tmps.getD 65 undef = .bool true := dep 52 rfl
      have t71 : A.tmps.getD 71 undef = .bool true := dep 58 rfl
      show Oper.wp _ _ A w K _
      go_simp
      exact hK _ _ rfl (Below.refl _ _)
    · intro A w K hB hsm dep hK
      have t72 : A.tmps.getD 72 undef = .bool true := dep 59 rfl
      show Oper.wp _ _ A w K _
      go_simp
      exact hK _ _ rfl (Below.refl _ _)
    · intro A w K hB hsm dep hK
      have t2 : A.tmps.getD 2 undef = .int .u32 (C : Int) := hsm 2 rfl
      refine ⟨true, (show A.tmps.getD 73 undef = .bool true from dep 60 rfl), ?_⟩
      rw [if_pos rfl]
      go_simp
      exact hK _ _ rfl (Below.refl _ _)
    · intro A w K hB hsm dep hK
      have t74 : A.tmps.getD 74 undef = .int .u32 (C : Int) := dep 61 rfl
      refine ⟨true, (show A.tmps.getD 73 undef = .bool true from dep 60 rfl), ?_⟩
      rw [if_pos rfl]
      go_simp
      refine (m6 w).mono ?_
      rintro e w' ⟨rfl, hb⟩
      exact hK _ _ rfl hb
    · intro A w K hB hsm dep hK
      have t2 : A.tmps.getD 2 undef = .int .u32 (C : Int) := hsm 2 rfl
      refine ⟨true, (show A.tmps.getD 73 undef = .bool true from dep 60 rfl), ?_⟩
      rw [if_pos rfl]
      go_simp
      exact hK _ _ rfl (Below.refl _ _)
    · intro A w K hB hsm dep hK
      have t75 : A.tmps.getD 75 undef = .int .u32 (C : Int) := dep 62 rfl
      have t76 : A.tmps.getD 76 undef = .int .u32 (C : Int) := dep 63 rfl
      refine ⟨true, (show A.tmps.getD 73 undef = .bool true from dep 60 rfl), ?_⟩
      rw [if_pos rfl]
      go_simp
      exact hK _ _ rfl (Below.refl _ _)
    · intro A w K hB hsm dep hK
      have t73 : A.tmps.getD 73 undef = .bool true := dep 60 rfl
      have t77 : A.tmps.getD 77 undef = .bool true := dep 64 rfl
      show Oper.wp _ _ A w K _
      go_simp
      exact hK _ _ rfl (Below.refl _ _)
    · intro A w K hB hsm dep hK
      have t78 : A.tmps.getD 78 undef = .bool true := dep 65 rfl
      show Oper.wp _ _ A w K _
      go_simp
      exact hK _ _ rfl (Below.refl _ _)
end Go.Proofs.Ytplopgkoikeohaa
