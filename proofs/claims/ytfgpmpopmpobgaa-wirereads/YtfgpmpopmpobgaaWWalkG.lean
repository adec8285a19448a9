/-
  The walk of WireBack. Own work.
-/
import Derived.Test.YtfgpmpopmpobgaaWWalkF
import Derived.Test.YtfgpmpopmpobgaaPlan
namespace Go.Proofs.Ytfgpmpopmpobgaa
open Go.RowKit
attribute [local go_sem ↓] Go.wp_at_zero Go.wp_at_succ
/-- A list of numbers that can be read. -/
structure Rd (w : World) (ao : Option Addr) (b off n : Nat) (l : List Nat) : Prop where
  len : l.length = n
  addr : 0 < n → ao = some ⟨b, off, none⟩
  cell : ∀ j, j < n → w.cell? ⟨b, off + j, none⟩ = some (.int .u64 (l.getD j 0 : Nat))
theorem Rd.below {w w' : World} {ao : Option Addr} {b off n : Nat} {l : List Nat} (r : Rd w ao b off n l) (h : Below w.heap.size w w') : Rd w' ao b off n l :=
  ⟨r.len, r.addr, fun j hj => (h.cell (p := ⟨b, off + j, none⟩) (World.block_lt_of_cell? w _ (r.cell j hj))).trans (r.cell j hj)⟩
/-- Numbers, one behind the other. -/
def row (l : List Nat) : List UInt8 := l.flatMap num
theorem row_snoc (l : List Nat) (k : Nat) (hk : k < l.length) : row (l.take (k + 1)) = row (l.take k) ++ num (l.getD k 0) := by
  have e : l.getD k 0 = l[k] := by rw [List.getD_eq_getElem?_getD, List.getElem?_eq_getElem hk]; rfl
  unfold row
  rw [List.take_succ_eq_append_getElem hk, List.flatMap_append, e]
  simp
theorem row_drop (l : List Nat) (k : Nat) (hk : k < l.length) : row (l.drop k) = num (l.getD k 0) ++ row (l.drop (k + 1)) := by
  have e : l.getD k 0 = l[k] := by rw [List.getD_eq_getElem?_getD, List.getElem?_eq_getElem hk]; rfl
  unfold row
  rw [List.drop_eq_getElem_cons hk, List.flatMap_cons, e]
theorem row_len (l : List Nat) (hl : ∀ x ∈ l, x < 18446744073709551616) : (row l).length ≤ 10 * l.length := by
  induction l with
  | nil => exact Nat.le_refl _
  | cons x r ih =>
    have h1 := num_len (n := x) (hl x (by simp))
    have h2 := ih (fun y hy => hl y (by simp [hy]))
    unfold row at *
    rw [List.flatMap_cons, List.length_append, List.length_cons]
    omega
theorem size_list (s : ByteArray) : s.size = s.data.toList.length := (Array.length_toList (xs := s.data)).symm
theorem rest_list (s : ByteArray) (k : Nat) : (s.extract k s.size).data.toList = s.data.toList.drop k := by
  rw [ByteArray.data_extract, Array.toList_extract, List.extract_eq_take_drop]
  rw [List.take_of_length_le]
  rw [List.length_drop, ← size_list]
  exact Nat.le_refl _
theorem nb_row {R : ByteArray} {l : List Nat} {k : Nat} {T : List UInt8} (hk : k < l.length) (hl : ∀ x ∈ l, x < 18446744073709551616) (h : R.data.toList = row (l.drop k) ++ T) :
    ∃ R', nb R 0 = (l.getD k 0, 0, R') ∧ R'.data.toList = row (l.drop (k + 1)) ++ T := by
  have e : l.getD k 0 = l[k] := by rw [List.getD_eq_getElem?_getD, List.getElem?_eq_getElem hk]; rfl
  have hx : l.getD k 0 < 18446744073709551616 := by rw [e]; exact hl _ (List.getElem_mem _)
  rw [row_drop l k hk, List.append_assoc] at h
  have hs := scan_num (row (l.drop (k + 1)) ++ T) (l.getD k 0) 0 0 (by decide) (by simpa using hx) (by omega) (.inl rfl)
  rw [← h, Nat.pow_zero, Nat.mul_one, Nat.zero_add, Nat.zero_add] at hs
  refine ⟨_, nb_of hs, ?_⟩
  rw [rest_list, h, List.drop_left]
theorem ba_ext {a b : ByteArray} (h : a.data.toList = b.data.toList) : a = b := by
  obtain ⟨⟨l⟩⟩ := a
  obtain ⟨⟨m⟩⟩ := b
  simp only at h
  rw [h]
/-- What is read of any bytes. -/
theorem nb_cases (T : ByteArray) : (∃ e, nb T 0 = (0, e, ByteArray.empty) ∧ (e = 60 ∨ e = 61)) ∨
    ∃ n k, nb T 0 = (n, 0, T.extract k T.size) ∧ 1 ≤ k ∧ k ≤ 10 ∧ k ≤ T.size ∧ n < 18446744073709551616 ∧ T.extract 0 k = txt (num n) := by
  rcases scan_err T.data.toList 0 0 with h | h | h
  · obtain ⟨⟨n, e, k⟩, hsc⟩ : ∃ r, scan T.data.toList 0 0 = r := ⟨_, rfl⟩
    rw [hsc] at h
    simp only at h
    subst h
    obtain ⟨m, h1, h2, h3, h4, h5, _, h7⟩ := scan_back _ 0 0 n k (by decide) (by omega) hsc
    rw [Nat.pow_zero, Nat.mul_one, Nat.zero_add] at h1
    subst h1
    refine .inr ⟨n, k, nb_of hsc, by omega, h4, by rw [size_list]; omega, h7, ba_ext ?_⟩
    rw [cut_list, txt_list, h2]
    rfl
  · exact .inl ⟨60, nb_err h (by decide), .inl rfl⟩
  · exact .inl ⟨61, nb_err h (by decide), .inr rfl⟩
set_option maxRecDepth 100000 in
set_option maxHeartbeats 2000000 in
theorem back_walk (w : World) (ao : Option Addr) (b off len cap : Nat) (l : List Nat) (hr : Rd w ao b off len l) (hl : ∀ x ∈ l, x < 18446744073709551616) (hlen : len ≤ 17592186044416) (T : ByteArray) (hT : T.size ≤ 140737488351232) :
    Calls Try.prog 3 #[.slice ao len cap, .string T] w fun e w' => e = .returned (.bool true) ∧ Below w.heap.size w w' := by
  have H0 := fixed_any
  have hB := Below.refl w.heap.size w
  have HL := hide hl
  clear hl
  go_enter Try.func3, Try.ntmps3
  go_upto_region 5 with (go_at_call 6; with_reducible refine (H0 _).mono ?_; rintro e w' ⟨rfl, hb⟩; replace hB := bnext hB hb; clear hb)
  go_loopg [5, 6] len (fun g x i wr => ∃ (k : Nat) (X : ByteArray), k ≤ len ∧ len - k = g ∧ x = .string X ∧ i = .int .i64 k ∧ X.size ≤ 10 * k ∧ Hid (X.data.toList = row (l.take k)) ∧ Below w.heap.size w wr)
  case atStart =>
    go_light
    exact ⟨0, _, by omega, rfl, rfl, rfl, Nat.le_refl _, by show _ = _; rw [List.take_zero]; rfl, hB⟩
  case round =>
    clear hB
    obtain ⟨k, X, hk, rfl, rfl, rfl, hX, HX, hB⟩ := hrel
    by_cases hlt : k < len
    · have hz : (k : Int) < (len : Int) := by omega
      have hr' := hr.below hB
      obtain rfl := hr'.addr (by omega)
      have ck := hr'.cell k hlt
      obtain ⟨n, hn⟩ : ∃ n, n = l.getD k 0 := ⟨_, rfl⟩
      have hn64 : n < 18446744073709551616 := by
        have hl' : k < l.length := by rw [hr.len]; exact hlt
        rw [hn, List.getD_eq_getElem?_getD, List.getElem?_eq_getElem hl']
        exact HL.out _ (List.getElem_mem _)
      rw [← hn] at ck
      have H1 := fun W => num_any W n hn64
      obtain ⟨Y, hY⟩ : ∃ Y, Y = txt (num n) := ⟨_, rfl⟩
      simp only [show (⟨(num n).toArray⟩ : ByteArray) = Y from hY.symm] at H1
      have hYs : Y.size ≤ 10 := by rw [hY, txt_size]; exact num_len hn64
      have HZ : Hid ((X ++ Y).data.toList = row (l.take (k + 1))) := by
        show _ = _
        rw [row_snoc l k (by rw [hr.len]; exact hlt), ← hn, ← HX.out, ← txt_list (num n), ← hY]
        simp [ByteArray.data_append]
      have HS : Hid ((X ++ Y).size ≤ 10 * (k + 1)) := by
        show _ ≤ _
        rw [ByteArray.size_append]; omega
      have hcat : ¬ (9223372036854775807 : Int) < ((X.size + Y.size : Nat) : Int) := by omega
      clear hY hn HX
      go_wp2_with (go_at_call 7; with_reducible refine (H1 _).mono ?_; rintro e w2 ⟨rfl, hb⟩; replace hB := bnext hB hb; clear hb)
      go_roundg (len - (k + 1))
      case rel =>
        go_light
        exact ⟨k + 1, _, by omega, rfl, rfl, by go_num, HS.out, HZ.out, hB⟩
      case measure => go_light; omega
    · have hkl : k = len := by omega
      subst hkl
      have hz : ¬ (k : Int) < (k : Int) := by omega
      have hcat : ¬ (9223372036854775807 : Int) < ((X.size + T.size : Nat) : Int) := by omega
      have hXl : X.data.toList = row l := by rw [HX.out, List.take_of_length_le (by rw [hr.len]; exact Nat.le_refl _)]
      have HR : Hid ((X ++ T).data.toList = row l ++ T.data.toList) := by
        show _ = _
        rw [← hXl]; simp [ByteArray.data_append]
      clear HX hXl
      obtain ⟨w1, hw1⟩ : ∃ w1, w1 = wr := ⟨_, rfl⟩
      subst hw1
      have H2 := st_first w1 w1.heap.size rfl (X ++ T)
      obtain ⟨p, hp⟩ : ∃ p, p = w1.heap.size := ⟨_, rfl⟩
      rw [← hp] at H2
      have HP := hide hp
      clear hp
      go_upto_region 12 with (go_at_call 8; with_reducible refine H2.mono ?_; rintro e w2 ⟨rfl, hS⟩)
      have HW : Hid (∀ W R e, St w1 W p R e → Below w.heap.size w W) := fun W R e h => bnext hB (HP.out ▸ h.below)
      have HQ : Hid (∀ W R e, St w1 W p R e → Rd W ao b off k l) := fun W R e h => hr.below (HW.out W R e h)
      have HM : Hid (l.length = k) := hr.len
      clear H2 H0 hB hr hX HP
      go_loopg [8] k (fun g i wr2 => ∃ (j : Nat) (R : ByteArray), j ≤ k ∧ k - j = g ∧ i = .int .i64 j ∧ St w1 wr2 p R 0 ∧ Hid (R.data.toList = row (l.drop j) ++ T.data.toList))
      case atStart =>
        go_light
        exact ⟨0, _, by omega, rfl, rfl, hS, HR.out⟩
      case round =>
        clear hS HR
        obtain ⟨j, R, hj, rfl, rfl, hS, HR⟩ := hrel
        have hRs : R.size ≤ 9223372036854775807 := by
          have h1 := congrArg List.length HR.out
          rw [List.length_append, ← size_list, ← size_list] at h1
          have h2 := row_len (l.drop j) (fun x hx => HL.out x (List.mem_of_mem_drop hx))
          have h3 := HM.out
          rw [List.length_drop] at h2
          omega
        by_cases hjk : j < k
        · have hz2 : (j : Int) < (k : Int) := by omega
          obtain ⟨R', hnb, hR'⟩ := nb_row (l := l) (k := j) (T := T.data.toList) (by rw [HM.out]; exact hjk) HL.out HR.out
          have H3 := st_rnum hS hRs _ 0 R' hnb _ 0 rfl rfl
          have HQ' : Hid (∀ W, St w1 W p R' 0 → W.cell? ⟨b, off + j, none⟩ = some (.int .u64 (l.getD j 0 : Nat))) := fun W h => (HQ.out W R' 0 h).cell j hjk
          obtain rfl := (HQ.out _ _ _ hS).addr (by omega)
          generalize l.getD j 0 = n at *
          have HR' := hide hR'
          clear hR' hnb HR hS
          go_upto_region 15 with (go_at_call 9; with_reducible refine H3.mono ?_; rintro e w3 ⟨rfl, hS⟩)
          have ck := HQ'.out _ hS
          clear H3 HQ'
          go_wp2
          go_roundg (k - (j + 1))
          case rel =>
            go_light
            exact ⟨j + 1, R', by omega, rfl, by go_num, hS, HR'.out⟩
          case measure => go_light; omega
        · have hjk' : j = k := by omega
          subst hjk'
          have hz2 : ¬ (j : Int) < (j : Int) := by omega
          have hRT : R = T := ba_ext (by rw [HR.out, List.drop_eq_nil_of_le (by rw [HM.out]; exact Nat.le_refl _)]; rfl)
          subst hRT
          clear HR
          have H4 := fun W (h : St w1 W p R 0) => st_left h (R.size : Int) rfl
          rcases nb_cases R with ⟨e, hnb, he⟩ | ⟨n, m, hnb, h1, h10, hm, hn, hx⟩
          · have H3 := fun W (h : St w1 W p R 0) => st_rnum h hRs 0 e ByteArray.empty hnb 0 e rfl rfl
            have H5 := fun W (h : St w1 W p ByteArray.empty e) => st_left h 0 rfl
            clear hnb
            rcases he with rfl | rfl
            · go_wp2_with (first
                | (go_at_call 10; with_reducible refine (H4 _ hS).mono ?_; clear hS; rintro e w3 ⟨rfl, hS⟩)
                | (go_at_call 9; with_reducible refine (H3 _ hS).mono ?_; clear hS; rintro e w3 ⟨rfl, hS⟩)
                | (go_at_call 10; with_reducible refine (H5 _ hS).mono ?_; clear hS; rintro e w3 ⟨rfl, hS⟩))
              go_ret
              exact ⟨rfl, HW.out _ _ _ hS⟩
            · go_wp2_with (first
                | (go_at_call 10; with_reducible refine (H4 _ hS).mono ?_; clear hS; rintro e w3 ⟨rfl, hS⟩)
                | (go_at_call 9; with_reducible refine (H3 _ hS).mono ?_; clear hS; rintro e w3 ⟨rfl, hS⟩)
                | (go_at_call 10; with_reducible refine (H5 _ hS).mono ?_; clear hS; rintro e w3 ⟨rfl, hS⟩))
              go_ret
              exact ⟨rfl, HW.out _ _ _ hS⟩
          · have H3 := fun W (h : St w1 W p R 0) => st_rnum h hRs n 0 (R.extract m R.size) hnb n 0 rfl rfl
            obtain ⟨q, hq⟩ : ∃ q, q = R.size - m := ⟨_, rfl⟩
            have H5 := fun W (h : St w1 W p (R.extract m R.size) 0) => st_left h (q : Int) (by rw [hq, ByteArray.size_extract]; simp)
            have eq : (R.size : Int) - (q : Int) = (m : Int) := by omega
            obtain ⟨Y, hY⟩ : ∃ Y, Y = txt (num n) := ⟨_, rfl⟩
            have H1 := fun W => num_any W n hn
            simp only [show (⟨(num n).toArray⟩ : ByteArray) = Y from hY.symm] at H1
            rw [← hY] at hx
            have g1 : (1 : Int) ≤ (m : Int) := by omega
            have g2 : (m : Int) ≤ 10 := by omega
            have g3 : (m : Int) ≤ (R.size : Int) := by omega
            clear hnb hq hY
            go_upto_region 23 with (first
              | (go_at_call 10; with_reducible refine (H4 _ hS).mono ?_; clear hS; rintro e w3 ⟨rfl, hS⟩)
              | (go_at_call 9; with_reducible refine (H3 _ hS).mono ?_; clear hS; rintro e w3 ⟨rfl, hS⟩)
              | (go_at_call 10; with_reducible refine (H5 _ hS).mono ?_; clear hS; rintro e w3 ⟨rfl, hS⟩))
            have hB := HW.out _ _ _ hS
            clear hS HW HQ
            refine wp_region_plan (by kernel_rfl) [88, 89, 90, 91, 92, 93, 94, 95, 96, 97, 98, 99, 100, 101, 4] (by kernel_rfl) (planV [.int .i64 (m : Int), .bool true, .bool true, .int .i64 (m : Int), .bool true, .bool true, .bool true, .string R, .int .i64 (m : Int), .string Y, .int .u64 (n : Int), .string Y, .bool true, .bool true, .bool true]) (planV_mono _) ?step ?fin
            case fin =>
              intro A w2 hB2 hde _ hsm hΦ
              have h4 : A.tmps.getD 4 undef = .bool true := hΦ 14 (by decide)
              have hr : (results Try.f3 A.tmps).run Try.prog w2 = .ok (.bool true) w2 := by rw [← h4]; exact results_tmp rfl _ _ _
              have HF : Hid (A.defers = [] ∧ Below w.heap.size w w2 ∧ (results Try.f3 A.tmps).run Try.prog w2 = .ok (.bool true) w2) := ⟨hde, bnext hB hB2, hr⟩
              clear hr hde hsm hΦ h4 hB2
              go_wp2
              exact bodyPost_ret HF.out.2.2 HF.out.1 ⟨rfl, HF.out.2.1⟩
            case step =>
              refine ⟨?_, ?_, ?_, ?_, ?_, ?_, ?_, ?_, ?_, ?_, ?_, ?_, ?_, ?_, ?_, trivial⟩
              · intro a w K hB hsm dep hK
                have t13 : a.tmps.getD 13 undef = .int .i64 (m : Int) := hsm 13 rfl
                show Oper.wp _ _ a w K _
                go_simp
                exact hK _ _ rfl (Below.refl _ _)
              · intro a w K hB hsm dep hK
                have t88 : a.tmps.getD 88 undef = .int .i64 (m : Int) := dep 0 rfl
                show Oper.wp _ _ a w K _
                go_simp
                exact hK _ _ rfl (Below.refl _ _)
              · intro a w K hB hsm dep hK
                have t89 : a.tmps.getD 89 undef = .bool true := dep 1 rfl
                show Oper.wp _ _ a w K _
                go_simp
                exact hK _ _ rfl (Below.refl _ _)
              · intro a w K hB hsm dep hK
                have t13 : a.tmps.getD 13 undef = .int .i64 (m : Int) := hsm 13 rfl
                refine ⟨true, (show a.tmps.getD 90 undef = .bool true from dep 2 rfl), ?_⟩
                rw [if_pos rfl]
                go_simp
                exact hK _ _ rfl (Below.refl _ _)
              · intro a w K hB hsm dep hK
                have t91 : a.tmps.getD 91 undef = .int .i64 (m : Int) := dep 3 rfl
                refine ⟨true, (show a.tmps.getD 90 undef = .bool true from dep 2 rfl), ?_⟩
                rw [if_pos rfl]
                go_simp
                exact hK _ _ rfl (Below.refl _ _)
              · intro a w K hB hsm dep hK
                have t90 : a.tmps.getD 90 undef = .bool true := dep 2 rfl
                have t92 : a.tmps.getD 92 undef = .bool true := dep 4 rfl
                show Oper.wp _ _ a w K _
                go_simp
                exact hK _ _ rfl (Below.refl _ _)
              · intro a w K hB hsm dep hK
                have t93 : a.tmps.getD 93 undef = .bool true := dep 5 rfl
                show Oper.wp _ _ a w K _
                go_simp
                exact hK _ _ rfl (Below.refl _ _)
              · intro a w K hB hsm dep hK
                have t1 : a.tmps.getD 1 undef = .string R := hsm 1 rfl
                refine ⟨true, (show a.tmps.getD 94 undef = .bool true from dep 6 rfl), ?_⟩
                rw [if_pos rfl]
                go_simp
                exact hK _ _ rfl (Below.refl _ _)
              · intro a w K hB hsm dep hK
                have t13 : a.tmps.getD 13 undef = .int .i64 (m : Int) := hsm 13 rfl
                refine ⟨true, (show a.tmps.getD 94 undef = .bool true from dep 6 rfl), ?_⟩
                rw [if_pos rfl]
                go_simp
                exact hK _ _ rfl (Below.refl _ _)
              · intro a w K hB hsm dep hK
                have t95 : a.tmps.getD 95 undef = .string R := dep 7 rfl
                have t96 : a.tmps.getD 96 undef = .int .i64 (m : Int) := dep 8 rfl
                refine ⟨true, (show a.tmps.getD 94 undef = .bool true from dep 6 rfl), ?_⟩
                rw [if_pos rfl]
                go_simp
                exact hK _ _ rfl (Below.refl _ _)
              · intro a w K hB hsm dep hK
                have t11 : a.tmps.getD 11 undef = .int .u64 (n : Int) := hsm 11 rfl
                refine ⟨true, (show a.tmps.getD 94 undef = .bool true from dep 6 rfl), ?_⟩
                rw [if_pos rfl]
                go_simp
                exact hK _ _ rfl (Below.refl _ _)
              · intro a w K hB hsm dep hK
                have t98 : a.tmps.getD 98 undef = .int .u64 (n : Int) := dep 10 rfl
                refine ⟨true, (show a.tmps.getD 94 undef = .bool true from dep 6 rfl), ?_⟩
                rw [if_pos rfl]
                go_simp
                refine (H1 w).mono ?_
                rintro e w' ⟨rfl, hb⟩
                exact hK _ _ rfl hb
              · intro a w K hB hsm dep hK
                have t97 : a.tmps.getD 97 undef = .string Y := dep 9 rfl
                have t99 : a.tmps.getD 99 undef = .string Y := dep 11 rfl
                refine ⟨true, (show a.tmps.getD 94 undef = .bool true from dep 6 rfl), ?_⟩
                rw [if_pos rfl]
                go_simp
                exact hK _ _ rfl (Below.refl _ _)
              · intro a w K hB hsm dep hK
                have t94 : a.tmps.getD 94 undef = .bool true := dep 6 rfl
                have t100 : a.tmps.getD 100 undef = .bool true := dep 12 rfl
                show Oper.wp _ _ a w K _
                go_simp
                exact hK _ _ rfl (Below.refl _ _)
              · intro a w K hB hsm dep hK
                have t101 : a.tmps.getD 101 undef = .bool true := dep 13 rfl
                show Oper.wp _ _ a w K _
                go_simp
                exact hK _ _ rfl (Below.refl _ _)
end Go.Proofs.Ytfgpmpopmpobgaa
