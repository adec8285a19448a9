/-
  The walk of CoverFresh. Own work.
-/
import Derived.Test.YtghmodbgfbgclaaCMem3
namespace Go.Proofs.Ytghmodbgfbgclaa
open Go.RowKit
attribute [local go_sem ↓] Go.wp_at_zero Go.wp_at_succ
set_option maxHeartbeats 8000000 in
set_option maxRecDepth 100000 in
theorem fresh_walk (a b : Nat) (w : World) (ao : Option Addr) (bb off m cap : Nat) (l : List Nat) (r : Rd w ao bb off m l) (hm : m ≤ maxLen) (hc : m ≤ cap) (hn : ao = none → cap = 0) :
    Calls Try.prog 3 #[.int .u64 (a : Int), .int .u64 (b : Int), .slice ao m cap] w fun e w' => e = .returned (.bool true) ∧ Below w.heap.size w w' := by
  have HA := fun w' => alive_any w'
  obtain ⟨n0, hn0⟩ : ∃ n0, a % (1099511627775 + 1) = n0 := ⟨_, rfl⟩
  obtain ⟨n, hnn⟩ : ∃ n, n0 + 1 = n := ⟨_, rfl⟩
  have W1 : ∀ w', Calls Try.prog 9 #[.int .u64 (a : Int), .int .u64 1099511627775] w' fun x w'' => x = .returned (.int .u64 (n0 : Int)) ∧ w' = w'' := fun w' => by
    have := within_any a 1099511627775 w' (by decide); rw [hn0] at this; exact this
  have en : IntKind.u64.wrap ((n0 : Int) + 1) = (n : Int) := by rw [IntKind.wrap_u64]; omega
  have W2 := fun w' => within_any b n w' (by omega)
  obtain ⟨hi, hhi⟩ : ∃ hi, b % (n + 1) = hi := ⟨_, rfl⟩
  rw [hhi] at W2
  have hin : hi ≤ n := by have := Nat.mod_lt b (show 0 < n + 1 by omega); omega
  have HF := fun w' (hb : Below w.heap.size w w') => few_any w' ao bb off m cap l (r.below hb) hm hc
  have HNN : Hid ((ao = none → cap = 0) ∧ n ≤ 2 ^ 40 ∧ 0 < n ∧ hi ≤ n) := ⟨hn, by omega, by omega, hin⟩
  clear r hm hc hn hn0 hnn hhi hin
  go_enter Try.func3, Try.ntmps3
  go_upto_region 5 with (first
    | (go_at_call 8; with_reducible refine (HA _).mono ?_; rintro e w1 ⟨rfl, hb1⟩)
    | (go_at_call 9; with_reducible refine (W1 _).mono ?_; rintro e w2 ⟨rfl, rfl⟩)
    | (go_at_call 9; with_reducible refine (W2 _).mono ?_; rintro e w2 ⟨rfl, rfl⟩))
  have HF2 := HF (w1.alloc (.cells #[.int .u64 (b : Int)] 22)) (bal hb1 _)
  clear HA W1 W2 HF
  go_wp2_with (first
    | (go_at_call 11; with_reducible refine HF2.mono ?_; rintro e w2 ⟨k, rfl, hk1, hk2, hk3, rk, rfl⟩)
    | (at_builtin; refine wpList_append_U _ rfl _ _ rfl w1.heap.size _ [b] rfl (own_one w1 w1.heap.size b (Nat.le_refl _)) _ (l.take k) rfl (rd_rdc rk HNN.out.1) ?c1 ?c2 ?_))
  case c1 => simp; omega
  case c2 => simp
  intro v2 w2 r1 r2 _
  have hb2 : Below w1.heap.size w1 w2 := ((Below.refl _ w1).alloc (Nat.le_refl _) _).grown r2 (by simp) (fun j hj => by cases hj; exact Nat.le_refl _)
  have hlen := rk.len
  obtain ⟨ao2, b2, m2, cap2, rfl, rr, _, _⟩ := own_rd r1
  have hm2 : m2 = k + 1 := by
    have h9 : ([b] ++ l.take k).length = m2 := rr.len
    rw [List.length_append, hlen] at h9
    simp only [List.length_cons, List.length_nil] at h9; omega
  obtain ⟨hnn, n40, n0p, hin⟩ := HNN.out
  have HRI := rising_any n w2 ao2 b2 0 m2 cap2 _ rr (by omega) n0p n40
  have HM2 : Hid (0 < m2) := by show 0 < m2; omega
  clear rr r1 r2 rk hlen hm2 hnn n40 n0p hk1 hk2 hk3 HF2 hin
  go_upto_region 6 with ((go_at_call 10; with_reducible refine HRI.mono ?_; rintro e w3 ⟨v3, S, rfl, o3, hch, hs60, hne, hb3⟩))
  have hS := hne HM2.out
  obtain ⟨hnn, n40, n0p, hin⟩ := HNN.out
  have he := chain_inc hch hS n40
  obtain ⟨aS, pS, capS, rfl⟩ := own_slice o3
  have HCM := fun w' => mountains_ok n w' n40
  have HCG : ∀ w', Calls Try.prog 13 #[.int .u64 0, .int .u64 (hi : Int), .int .u64 (n : Int)] w' fun x w'' => ∃ v, x = .returned (.tuple #[v, .int .i64 0]) ∧ OwnB w'' w'.heap.size v (zl (cov 0 hi)) ∧ Below w'.heap.size w' w'' := fun w' => range_ok 0 hi n w' n40 hin (Nat.zero_le _)
  have HCZ : ∀ w', Fr w w' (.slice aS pS capS) S → Calls Try.prog 14 #[.int .u64 (n : Int), .slice aS pS capS] w' fun x w'' => ∃ v, x = .returned (.tuple #[v, .int .i64 0]) ∧ OwnB w'' w'.heap.size v (zl (rst 0 n S)) ∧ Below w'.heap.size w' w'' := fun w' hw => by
    obtain ⟨b', r'⟩ := own_rd2 hw.set
    exact rest_ok n w' aS b' 0 pS capS S r' (by have := r'.len; omega) he
  have HLn : Hid ((zl (cov 0 n)).length ≤ 80 ∧ (zl (cov 0 hi)).length ≤ 80 ∧ (zl (rst 0 n S)).length ≤ 5000) := ⟨by rw [zl_len]; exact cov_len _ _ (Nat.zero_le _) n40, by rw [zl_len]; exact cov_len _ _ (Nat.zero_le _) (by omega), by rw [zl_len]; have := rst_len n n40 S 0 hch; omega⟩
  have HFr : Hid (Fr w w3 (.slice aS pS capS) S) := ⟨o3.mono (by have := (bnext hb1 hb2).size; omega), bnext (bnext hb1 hb2) hb3⟩
  generalize zl (cov 0 n) = M at *
  generalize zl (cov 0 hi) = G at *
  generalize zl (rst 0 n S) = Z at *
  clear HRI hne he HM2 hb1 hb2 hb3 o3 hch hs60 hS n40 n0p hin hnn
  go_wp2
  go_loopg [10, 12, 13, 14, 15, 16, 17, 18] 2 (fun gg v i x13 x14 x15 x16 x17 x18 wr => ∃ (t : Nat) (vs : List Value), t ≤ 2 ∧ gg = 2 - t ∧ i = .int .i64 (t : Int) ∧ OwnV wr w.heap.size v vs ∧ vs.length = 3 * t ∧ Fam wr w.heap.size vs (rp M G Z t) ∧ Fr w wr (.slice aS pS capS) S)
  case atStart =>
    go_light
    exact ⟨0, [], Nat.zero_le _, rfl, rfl, World.ownsRow_nil _ _ _ _, rfl, fam_nil _ _, HFr.out⟩
  case round =>
    obtain ⟨t, vs, ht, rfl, rfl, hown, hvl, hfam, hfr⟩ := hrel
    have ht0 : (0 : Int) ≤ (t : Int) := Int.natCast_nonneg _
    by_cases hlt : t < 2
    · have hlt' : (t : Int) < 2 := by omega
      go_upto_region 13 with (first
        | (go_at_call 12; with_reducible refine (HCM _).mono ?_; rintro e x1 ⟨u1, rfl, p1, hc1⟩)
        | (go_at_call 13; with_reducible refine (HCG _).mono ?_; rintro e x2 ⟨u2, rfl, p2, hc2⟩)
        | (go_at_call 14; with_reducible refine (HCZ _ ((hfr.next hc1).next hc2)).mono ?_; rintro e x3 ⟨u3, rfl, p3, hc3⟩))
      have f3 := fam_three hfam hfr.size hc1 p1 hc2 p2 hc3 p3
      have fr3 := ((hfr.next hc1).next hc2).next hc3
      have ov3 := ownB_next hown (bnext (bnext hc1 hc2) hc3)
      obtain ⟨a1, m1, d1, rfl⟩ := own_slice p1
      obtain ⟨a2, m2', d2, rfl⟩ := own_slice p2
      obtain ⟨a3, m3, d3, rfl⟩ := own_slice p3
      have HX : Hid (Fam x3 w.heap.size (vs ++ [.slice a1 m1 d1, .slice a2 m2' d2, .slice a3 m3 d3]) (rp M G Z (t + 1)) ∧ Fr w x3 (.slice aS pS capS) S ∧ vs.length = 3 * t ∧ t + 1 ≤ 2) := ⟨f3, fr3, hvl, hlt⟩
      clear p1 p2 p3 hc1 hc2 hc3 hown hfam hfr f3 fr3 hvl ht
      go_wp2_with (at_builtin; refine wpList_append_V _ rfl _ _ rfl w.heap.size _ vs rfl (World.ownsRow.alloc ov3 _) _ [.slice a1 m1 d1, .slice a2 m2' d2, .slice a3 m3 d3] rfl (rdc_vals x3 #[.slice a1 m1 d1, .slice a2 m2' d2, .slice a3 m3 d3] 29) ?c0 ?c1 ?c2 ?_)
      case c0 => intro u hu; simp at hu; rcases hu with rfl | rfl | rfl <;> rfl
      case c1 => have := HX.out.2.2; simp; omega
      case c2 => have := HX.out.2.1.size; simp; omega
      intro v' w4 r1 r2 _
      have fx := fam_ty (fam_next HX.out.1 ((Below.refl _ x3).alloc (Nat.le_refl _) _)) (World.ownsRow.alloc ov3 _) (by decide) r2
      have frx := (HX.out.2.1.next ((Below.refl _ x3).alloc (Nat.le_refl _) _)).grow (World.ownsRow.alloc ov3 _) (by decide) r2
      clear r2 ov3
      go_wp2
      go_roundg (2 - (t + 1))
      case rel =>
        go_light
        exact ⟨t + 1, _, HX.out.2.2.2, rfl, by go_num, r1, by have := HX.out.2.2.1; simp; omega, fx, frx⟩
      case measure => go_light; omega
    · obtain rfl : t = 2 := by omega
      have hlt' : ¬ ((2 : Nat) : Int) < 2 := by decide
      obtain ⟨gA, capA, rfl, _⟩ := ownV_cell hown (i := 0) (by omega)
      have hvl6 : vs.length = 6 := hvl
      rw [hvl6] at hown ⊢
      have HP : Hid (OwnV wr w.heap.size (.slice (some ⟨gA, 0, none⟩) 6 capA) vs ∧ Fam wr w.heap.size vs (rp M G Z 2) ∧ Fr w wr (.slice aS pS capS) S) := ⟨hown, hfam, hfr⟩
      have HVL : Hid (vs.length = 6) := hvl
      clear hown hfam hfr hvl hvl6 ht hlt HFr
      go_wp2
      go_loopg [19, 20] 6 (fun gg v i0 wr => ∃ (i : Nat) (us : List Value), i ≤ 6 ∧ gg = 6 - i ∧ i0 = .int .i64 (i : Int) ∧ OwnV wr w.heap.size v us ∧ us.length = i ∧ v.ownBlock ≠ some gA ∧ Fam wr w.heap.size (vs ++ us) (rp M G Z 2 ++ (rp M G Z 2).take i) ∧ OwnV wr w.heap.size (.slice (some ⟨gA, 0, none⟩) 6 capA) vs ∧ Fr w wr (.slice aS pS capS) S)
      case atStart =>
        go_light
        obtain ⟨y1, y2, y3⟩ := HP.out
        exact ⟨0, [], Nat.zero_le _, rfl, rfl, World.ownsRow_nil _ _ _ _, rfl, (fun h => by cases h), by simpa using y2, y1, y3⟩
      case round =>
        obtain ⟨i, us, hi6, rfl, rfl, how, hul, hga, hfam, hoa, hfr⟩ := hrel
        have hi0 : (0 : Int) ≤ (i : Int) := Int.natCast_nonneg _
        have hi6' : (i : Int) ≤ 6 := by omega
        have hvl := HVL.out
        by_cases hlt : i < 6
        · have hlt' : (i : Int) < 6 := by omega
          have hci : wr.cell? ⟨gA, i, none⟩ = some (vs.getD i dv) := by
            obtain ⟨g', c', e', h'⟩ := ownV_cell hoa (i := i) (by omega)
            obtain ⟨e1, _, _⟩ := Value.slice.inj e'
            cases e1; exact h'
          have hoi := hfam.own i (by simp; omega)
          rw [getD_left _ _ _ _ (by omega), getD_left _ _ _ _ (by rw [rp_len]; omega)] at hoi
          have hLi : ((rp M G Z 2).getD i []).length ≤ 5000 := rp_le HLn.out i hlt
          have hper : (rp M G Z 2).getD i [] = (rp M G Z 2).getD (i % 3) [] := rp_per M G Z i hlt
          obtain ⟨u, hu⟩ : ∃ u, vs.getD i dv = u := ⟨_, rfl⟩
          rw [hu] at hci hoi
          have htk : (rp M G Z 2).take (i + 1) = (rp M G Z 2).take i ++ [(rp M G Z 2).getD i []] := take_getD_succ _ _ _ (by rw [rp_len]; omega)
          generalize hLL : (rp M G Z 2).getD i [] = L at *
          obtain ⟨au, mu, du, rfl⟩ := own_slice hoi
          have HX : Hid (Fam wr w.heap.size (vs ++ us) (rp M G Z 2 ++ (rp M G Z 2).take i) ∧ Fr w wr (.slice aS pS capS) S ∧ us.length = i ∧ i + 1 ≤ 6 ∧ L.length ≤ 5000) := ⟨hfam, hfr, hul, hlt, hLi⟩
          have HPer : Hid (L = (rp M G Z 2).getD (i % 3) [] ∧ (rp M G Z 2).take (i + 1) = (rp M G Z 2).take i ++ [L] ∧ (rp M G Z 2).getD i [] = L ∧ vs.getD i dv = .slice au mu du) := ⟨hper, htk, hLL, hu⟩
          clear hfam hfr hul hLi hi6 hper htk hLL hu
          go_wp2_with (at_builtin; refine wpList_append_B _ rfl _ _ rfl wr.heap.size (.slice none 0 0) [] rfl (World.ownsRow_nil _ _ _ _) _ L rfl (rdc_own hoi) ?c1 ?c2 ?_)
          case c1 => have := HX.out.2.2.2.2; simp; omega
          case c2 => exact Nat.le_refl _
          intro v1 w1 r1 r2 _
          have hb1 : Below wr.heap.size wr w1 := (Below.refl _ _).grown r2 (Nat.le_refl _) (fun j hj => by cases hj)
          have f1 := fam_new HX.out.1 HX.out.2.1.size hb1 r1
          have fr1 := HX.out.2.1.next hb1
          have how1 := ownB_next how hb1
          have hoa1 := ownB_next hoa hb1
          obtain ⟨a1, m1, d1, rfl⟩ := own_slice r1
          have hgl : gA < w1.heap.size := (hoa1.lt gA rfl).2
          clear r2 how hoa hb1 r1 hoi hci
          go_wp2_with (at_builtin; refine wpList_append_V _ rfl _ _ rfl w.heap.size _ us rfl (World.ownsRow.alloc how1 _) _ [.slice a1 m1 d1] rfl (rdc_vals w1 #[.slice a1 m1 d1] 29) ?c0 ?c1 ?c2 ?_)
          case c0 => intro u hu; simp at hu; subst hu; rfl
          case c1 => have := HX.out.2.2; simp; omega
          case c2 => have := fr1.size; simp; omega
          intro v2 w2 q1 q2 q3
          have f2 := fam_ty (fam_next f1 ((Below.refl _ w1).alloc (Nat.le_refl _) _)) (World.ownsRow.alloc how1 _) (by decide) q2
          have fr2 := (fr1.next ((Below.refl _ w1).alloc (Nat.le_refl _) _)).grow (World.ownsRow.alloc how1 _) (by decide) q2
          have hoa2 := (World.ownsRow.alloc hoa1 _).kept q2 (.inr (fun e => hga (by rw [← e]; rfl)))
          have hga2 : v2.ownBlock ≠ some gA := fun e => by
            rcases q3 with h | h
            · exact hga (by rw [← h]; exact e)
            · have := h gA e; omega
          clear q2 q3 how1 hoa1 f1 fr1 hgl
          have hu6 : i < (us ++ [Value.slice a1 m1 d1]).length := by have := HX.out.2.2.1; simp; omega
          obtain ⟨gW, capW, rfl, _⟩ := ownV_cell q1 (i := 0) (by omega)
          obtain ⟨r3, hr3⟩ : ∃ r3, i % 3 = r3 := ⟨_, rfl⟩
          have er3 : (i : Int).tmod 3 = (r3 : Int) := by rw [← hr3]; rfl
          have er4 : IntKind.i64.wrap (r3 : Int) = (r3 : Int) := by rw [IntKind.wrap_i64]; omega
          have hr30 : (0 : Int) ≤ (r3 : Int) := Int.natCast_nonneg _
          have hr5 : r3 < (us ++ [Value.slice a1 m1 d1]).length := by omega
          have k1 : w2.cell? ⟨gA, i, none⟩ = some (.slice au mu du) := by
            obtain ⟨g', c', e', h'⟩ := ownV_cell hoa2 (i := i) (by omega)
            obtain ⟨e1, _, _⟩ := Value.slice.inj e'
            cases e1; rw [← HPer.out.2.2.2]; exact h'
          have k2 : w2.cell? ⟨gW, r3, none⟩ = some ((us ++ [Value.slice a1 m1 d1]).getD r3 dv) := by
            obtain ⟨g', c', e', h'⟩ := ownV_cell q1 (i := r3) hr5
            obtain ⟨e1, _, _⟩ := Value.slice.inj e'
            cases e1; exact h'
          obtain ⟨hper, htk, hLL, hu⟩ := HPer.out
          rw [List.append_assoc, List.append_assoc, ← htk] at f2
          have o1 := fam_left f2 (by rw [hvl, rp_len]) i (by omega)
          have o2 := fam_right f2 (by rw [hvl, rp_len]) r3 hr5
          rw [hu, hLL] at o1
          rw [getD_taken _ _ _ _ (by omega), ← hr3, ← hper] at o2
          rw [hr3] at o2
          have hdr : Below w2.heap.size w2 w2.drew := ⟨rfl, rfl, rfl, Nat.le_refl _, fun _ _ => rfl⟩
          have SS1 := same_own w2.drew _ _ _ _ _ _ (ownB_next o1 hdr) (ownB_next o2 hdr)
          rw [decide_eq_true rfl] at SS1
          generalize (us ++ [Value.slice a1 m1 d1]).getD r3 dv = u2 at *
          have HY : Hid (Fam w2 w.heap.size (vs ++ (us ++ [.slice a1 m1 d1])) (rp M G Z 2 ++ (rp M G Z 2).take (i + 1)) ∧ Fr w w2 (.slice aS pS capS) S ∧ OwnV w2 w.heap.size (.slice (some ⟨gA, 0, none⟩) 6 capA) vs ∧ OwnV w2 w.heap.size (.slice (some ⟨gW, 0, none⟩) (us ++ [Value.slice a1 m1 d1]).length capW) (us ++ [.slice a1 m1 d1]) ∧ (us ++ [Value.slice a1 m1 d1]).length = i + 1 ∧ gW ≠ gA ∧ i + 1 ≤ 6) := ⟨f2, fr2, hoa2, q1, by have := HX.out.2.2.1; simp; omega, fun e => hga2 (by rw [e]; rfl), hlt⟩
          have hul2 := HY.out.2.2.2.2.1
          rw [hul2] at hr5 hu6 ⊢
          have hr6 : (r3 : Int) < ((i + 1 : Nat) : Int) := by omega
          have hr7 : (r3 : Int) < (i : Int) + 1 := by omega
          clear f2 fr2 hoa2 q1 hga2 hga o1 o2 hr3 HX htk hper hLL hu hul2 hlt HPer
          go_upto_region 19 with fail
          go_region_with (go_at_call 15; with_reducible refine SS1.mono ?_; rintro e x7 ⟨rfl, hb7⟩)
          all_goals
            have b7 := bnext hdr hb7
            go_wp2
            go_roundg (6 - (i + 1))
            case rel =>
              go_light
              obtain ⟨y1, y2, y3, y4, y5, y6, y7⟩ := HY.out
              refine ⟨i + 1, _, y7, rfl, by go_num, ?_, y5, (fun e => y6 (by cases e; rfl)), fam_next y1 b7, ownB_next y3 b7, y2.next b7⟩
              rw [← y5]; exact ownB_next y4 b7
            case measure => go_light; omega
        · obtain rfl : i = 6 := by omega
          have hlt' : ¬ ((6 : Nat) : Int) < 6 := by decide
          obtain ⟨gW, capW, rfl, _⟩ := ownV_cell how (i := 0) (by omega)
          rw [hul] at how ⊢
          have HQ : Hid (St w wr vs us (rp M G Z 2) (rp M G Z 2) (.slice (some ⟨gA, 0, none⟩) 6 capA) (.slice (some ⟨gW, 0, none⟩) 6 capW) (.slice aS pS capS) S ∧ us.length = 6) := ⟨⟨hfam, hoa, how, hfr, by rw [hvl, rp_len]⟩, hul⟩
          clear how hul hga hfam hoa hfr hi6 hvl hlt HP
          go_wp2
          go_loopg [21, 22] 6 (fun gg i0 j0 wr => ∃ (i : Nat) (Qs : List (List (Int × Nat))), i ≤ 6 ∧ gg = 6 - i ∧ i0 = .int .i64 (i : Int) ∧ Mk i Qs (rp M G Z 2) ∧ St w wr vs us Qs (rp M G Z 2) (.slice (some ⟨gA, 0, none⟩) 6 capA) (.slice (some ⟨gW, 0, none⟩) 6 capW) (.slice aS pS capS) S)
          case atStart =>
            go_light
            exact ⟨0, _, Nat.zero_le _, rfl, rfl, ⟨rfl, fun k _ => by rw [if_neg (Nat.not_lt_zero k)]⟩, HQ.out.1⟩
          case round =>
            obtain ⟨i, Qs, hi6, rfl, rfl, hmk, hst⟩ := hrel
            have hi0 : (0 : Int) ≤ (i : Int) := Int.natCast_nonneg _
            have hi6' : (i : Int) ≤ 6 := by omega
            have hvl := HVL.out
            by_cases hlt : i < 6
            · have hlt' : (i : Int) < 6 := by omega
              have em : IntKind.i64.wrap (-1 - (i : Int)) = -1 - (i : Int) := by rw [IntKind.wrap_i64]; omega
              obtain ⟨u, hu⟩ : ∃ u, vs.getD i dv = u := ⟨_, rfl⟩
              have ho0 := hst.list hvl i hlt
              rw [hu] at ho0
              have hq0 := hmk.2 i hlt
              rw [if_neg (Nat.lt_irrefl i)] at hq0
              obtain ⟨au, mu, du, rfl⟩ := own_slice ho0
              obtain ⟨R, hR⟩ : ∃ R, (rp M G Z 2).getD i [] = R := ⟨_, rfl⟩
              rw [hq0, hR] at ho0
              have hmu := ownB_len ho0
              have hR5 : R.length ≤ 5000 := by rw [← hR]; exact rp_le HLn.out i hlt
              have hmu5 : (mu : Int) ≤ 5000 := by omega
              have HI : Hid (Mk i Qs (rp M G Z 2) ∧ vs.getD i dv = .slice au mu du ∧ (rp M G Z 2).getD i [] = R ∧ R.length = mu ∧ i + 1 ≤ 6 ∧ vs.length = 6 ∧ Qs.getD i [] = R) := ⟨hmk, hu, hR, hmu, hlt, hvl, by rw [hq0, hR]⟩
              have HS0 : Hid (St w wr vs us Qs (rp M G Z 2) (.slice (some ⟨gA, 0, none⟩) 6 capA) (.slice (some ⟨gW, 0, none⟩) 6 capW) (.slice aS pS capS) S) := hst
              clear hmk hst hu ho0 hq0 hR hmu hR5 hi6 hvl hlt
              go_wp2
              go_loopg [22] mu (fun gg j0 wr => ∃ j : Nat, j ≤ mu ∧ gg = mu - j ∧ j0 = .int .i64 (j : Int) ∧ St w wr vs us (Qs.set i (List.replicate j (-1 - (i : Int), 0) ++ R.drop j)) (rp M G Z 2) (.slice (some ⟨gA, 0, none⟩) 6 capA) (.slice (some ⟨gW, 0, none⟩) 6 capW) (.slice aS pS capS) S)
              case atStart =>
                go_light
                obtain ⟨z1, z2, z3, z4, z5, z6, z7⟩ := HI.out
                refine ⟨0, Nat.zero_le _, rfl, rfl, ?_⟩
                have e : Qs.set i (List.replicate 0 (-1 - (i : Int), 0) ++ R.drop 0) = Qs := by
                  rw [← z7]; simpa using set_getD_self [] Qs i
                rw [e]; exact HS0.out
              case round =>
                obtain ⟨j, hjm, rfl, rfl, hst⟩ := hrel
                obtain ⟨z1, z2, z3, z4, z5, z6, z7⟩ := HI.out
                have hj0 : (0 : Int) ≤ (j : Int) := Int.natCast_nonneg _
                have hj5 : (j : Int) ≤ 5000 := by omega
                have kA := hst.cell_all z6 i (by omega)
                rw [z2] at kA
                by_cases hjl : j < mu
                · have hjl' : (j : Int) < (mu : Int) := by omega
                  have hol := hst.list z6 i (by omega)
                  rw [z2, getD_set _ _ _ _ _ (by rw [z1.1]; omega), if_pos rfl] at hol
                  obtain ⟨g, rfl⟩ := ownB_some hol (by simp; omega)
                  obtain ⟨⟨c1, f1⟩, ⟨c2, f2⟩⟩ := two_free (j := j) hol (by simp; omega)
                  have hs2 := hst.store z6 i (by omega) g mu du z2 j (-1 - (i : Int))
                  rw [getD_set _ _ _ _ _ (by rw [z1.1]; omega), if_pos rfl, List.set_set, mark_set R j _ (by omega)] at hs2
                  have HX : Hid (St w _ vs us (Qs.set i (List.replicate (j + 1) (-1 - (i : Int), 0) ++ R.drop (j + 1))) (rp M G Z 2) (.slice (some ⟨gA, 0, none⟩) 6 capA) (.slice (some ⟨gW, 0, none⟩) 6 capW) (.slice aS pS capS) S ∧ j + 1 ≤ mu) := ⟨hs2, hjl⟩
                  clear hs2 hol hst z1 z2 z3 z4 z5 z6 z7 hjm hjl
                  go_wp2
                  go_roundg (mu - (j + 1))
                  case rel =>
                    go_light
                    exact ⟨j + 1, HX.out.2, rfl, by go_num, HX.out.1⟩
                  case measure => go_light; have := HX.out.2; omega
                · obtain rfl : j = mu := by omega
                  have hjl' : ¬ (j : Int) < (j : Int) := by omega
                  have hdr : R.drop j = [] := List.drop_eq_nil_iff.2 (by omega)
                  rw [hdr, List.append_nil] at hst
                  have HX : Hid (Mk (i + 1) (Qs.set i (List.replicate j (-1 - (i : Int), 0))) (rp M G Z 2) ∧ St w wr vs us (Qs.set i (List.replicate j (-1 - (i : Int), 0))) (rp M G Z 2) (.slice (some ⟨gA, 0, none⟩) 6 capA) (.slice (some ⟨gW, 0, none⟩) 6 capW) (.slice aS pS capS) S ∧ i + 1 ≤ 6) := ⟨mk_next z1 z5 (by rw [z3, z4]), hst, z5⟩
                  clear hst z1 z2 z3 z4 z5 z6 z7 hjm hjl hdr HI HS0
                  go_wp2
                  go_roundg (6 - (i + 1))
                  case rel =>
                    go_light
                    exact ⟨i + 1, _, HX.out.2.2, rfl, by go_num, HX.out.1, HX.out.2.1⟩
                  case measure => go_light; omega
            · obtain rfl : i = 6 := by omega
              have hlt' : ¬ ((6 : Nat) : Int) < 6 := by decide
              have hul := HQ.out.2
              have dVV : ∀ k j, k < 6 → j < 6 → k ≠ j → Apart (vs.getD k dv) (vs.getD j dv) := fun k j hk hj hne => by
                have := hst.fam.dj k j (by simp; omega) (by simp; omega) hne
                rwa [getD_left _ _ _ _ (by omega), getD_left _ _ _ _ (by omega)] at this
              have dUV : ∀ k j, k < 6 → j < 6 → Apart (us.getD k dv) (vs.getD j dv) := fun k j hk hj => by
                have := hst.fam.dj (vs.length + k) j (by simp; omega) (by simp; omega) (by omega)
                rwa [getD_right, getD_left _ _ _ _ (by omega)] at this
              have HD : Hid ((∀ k j, k < 6 → j < 6 → k ≠ j → Apart (vs.getD k dv) (vs.getD j dv)) ∧ (∀ k j, k < 6 → j < 6 → Apart (us.getD k dv) (vs.getD j dv))) := ⟨dVV, dUV⟩
              have HP4 : Hid (P4 w wr vs us [] (rp M G Z 2) (.slice (some ⟨gA, 0, none⟩) 6 capA) (.slice (some ⟨gW, 0, none⟩) 6 capW) (.slice none 0 0) (.slice aS pS capS) S 0) := ⟨fun k hk => by
                have := hst.list hvl k hk
                rw [hmk.2 k hk, if_pos hk] at this
                exact this, fun k hk => fam_right hst.fam hst.ql.symm k (by omega), fun k hk => absurd hk (Nat.not_lt_zero k), fun k hk => absurd hk (Nat.not_lt_zero k), hst.all, hst.was, World.ownsRow_nil _ _ _ _, .inr (fun h => by cases h), .inr (fun h => by cases h), hst.fr, rfl⟩
              clear dVV dUV hst hmk hi6 hlt hvl hul HQ
              generalize hLs : rp M G Z 2 = Ls at *
              have HLs : Hid (rp M G Z 2 = Ls) := hLs
              clear hLs
              go_wp2
              go_loopg [11, 23, 24, 25] 6 (fun gg v i0 x24 j25 wr => ∃ (i : Nat) (ms : List Value), i ≤ 6 ∧ gg = 6 - i ∧ i0 = .int .i64 (i : Int) ∧ P4 w wr vs us ms Ls (.slice (some ⟨gA, 0, none⟩) 6 capA) (.slice (some ⟨gW, 0, none⟩) 6 capW) v (.slice aS pS capS) S i)
              case atStart =>
                go_light
                exact ⟨0, [], Nat.zero_le _, rfl, rfl, HP4.out⟩
              case round =>
                obtain ⟨i, ms, hi6, rfl, rfl, hp4⟩ := hrel
                have hi0 : (0 : Int) ≤ (i : Int) := Int.natCast_nonneg _
                have hi6' : (i : Int) ≤ 6 := by omega
                by_cases hlt : i < 6
                · have hlt' : (i : Int) < 6 := by omega
                  have em : IntKind.i64.wrap (-1 - (i : Int)) = -1 - (i : Int) := by rw [IntKind.wrap_i64]; omega
                  have kA : wr.cell? ⟨gA, i, none⟩ = some (vs.getD i dv) := by
                    obtain ⟨g', c', e', h'⟩ := ownV_cell hp4.all (i := i) (by rw [HVL.out]; exact hlt)
                    obtain ⟨e1, _, _⟩ := Value.slice.inj e'
                    cases e1; exact h'
                  have hp5 := hp4.start hlt HD.out.1 HD.out.2
                  obtain ⟨u, hu⟩ : ∃ u, vs.getD i dv = u := ⟨_, rfl⟩
                  rw [hu] at kA hp5
                  obtain ⟨au, mu, du, rfl⟩ := own_slice hp5.X
                  have hL5 : (Ls.getD i []).length ≤ 5000 := by rw [← HLs.out]; exact rp_le HLn.out i hlt
                  have H5 : Hid (P5 w wr vs us ms Ls (.slice (some ⟨gA, 0, none⟩) 6 capA) (.slice (some ⟨gW, 0, none⟩) 6 capW) u11 (.slice aS pS capS) S i 0 (.slice au mu du) ∧ i < 6 ∧ (Ls.getD i []).length ≤ 5000) := ⟨hp5, hlt, hL5⟩
                  clear hp4 hp5 hu hi6 hlt hL5
                  go_wp2
                  go_loopg [24, 25] 60 (fun gg x j0 wr => ∃ t : Nat, t ≤ 60 ∧ gg = 60 - t ∧ j0 = .int .i64 (t : Int) ∧ P5 w wr vs us ms Ls (.slice (some ⟨gA, 0, none⟩) 6 capA) (.slice (some ⟨gW, 0, none⟩) 6 capW) u11 (.slice aS pS capS) S i t x)
                  case atStart =>
                    go_light
                    exact ⟨0, Nat.zero_le _, rfl, rfl, H5.out.1⟩
                  case round =>
                    obtain ⟨t, ht6, rfl, rfl, hp⟩ := hrel
                    have ht0 : (0 : Int) ≤ (t : Int) := Int.natCast_nonneg _
                    have ht60 : (t : Int) ≤ 60 := by omega
                    by_cases htl : t < 60
                    · have htl' : (t : Int) < 60 := by omega
                      have HX : Hid (P5 w wr vs us ms Ls (.slice (some ⟨gA, 0, none⟩) 6 capA) (.slice (some ⟨gW, 0, none⟩) 6 capW) u11 (.slice aS pS capS) S i t u24 ∧ t + 1 ≤ 60) := ⟨hp, htl⟩
                      have hXo := hp.X
                      clear hp ht6 htl kA
                      go_wp2_with (at_builtin; refine wpList_append_K _ rfl _ _ rfl w.heap.size _ (mk6 Ls i t) rfl (World.ownsRow.alloc hXo _) ⟨wr.heap.size, 0, none⟩ 1 (-1 - (i : Int), 0) rfl (rdc_block wr (-1 - (i : Int)) 0 37) ?c1 ?c2 ?_)
                      case c1 => have h1 := H5.out.2.2; have h2 := HX.out.2; have h3 := mk6_len Ls i t; omega
                      case c2 => have := HX.out.1.p.fr.size; simp; omega
                      intro v' w1 r1 r2
                      have hp2 := (HX.out.1.next ((Below.refl _ wr).alloc (Nat.le_refl _) _)).app H5.out.2.1 r1 (by
                        rcases r2 with h | ⟨h1, h2⟩
                        · exact .inl h
                        · exact .inr ⟨h1, fun g hg => by rw [World.size_alloc]; exact h2 g hg⟩)
                      clear r1 r2 hXo
                      go_wp2
                      go_roundg (60 - (t + 1))
                      case rel =>
                        go_light
                        exact ⟨t + 1, HX.out.2, rfl, by go_num, hp2⟩
                      case measure => go_light; omega
                    · obtain rfl : t = 60 := by omega
                      have htl' : ¬ ((60 : Nat) : Int) < 60 := by decide
                      obtain ⟨ax, mx, dx, rfl⟩ := own_slice hp.X
                      have HX : Hid (P5 w wr vs us ms Ls (.slice (some ⟨gA, 0, none⟩) 6 capA) (.slice (some ⟨gW, 0, none⟩) 6 capW) u11 (.slice aS pS capS) S i 60 (.slice ax mx dx)) := hp
                      have hMo := hp.p.more
                      clear hp ht6 htl kA
                      go_wp2_with (at_builtin; refine wpList_append_V _ rfl _ _ rfl w.heap.size _ ms rfl (World.ownsRow.alloc hMo _) _ [.slice ax mx dx] rfl (rdc_vals wr #[.slice ax mx dx] 29) ?c0 ?c1 ?c2 ?_)
                      case c0 => first | rfl | (intro u hu; simp at hu; subst hu; rfl)
                      case c1 => have := HX.out.p.ml; have := H5.out.2.1; simp; omega
                      case c2 => have := HX.out.p.fr.size; simp; omega
                      intro v2 w2 q1 q2 q3
                      have hp2 := (HX.out.next ((Below.refl _ wr).alloc (Nat.le_refl _) _)).push q1 q2 (by simpa using q3)
                      have HY : Hid (i + 1 ≤ 6) := H5.out.2.1
                      clear q1 q2 q3 hMo HX H5
                      go_wp2
                      go_roundg (6 - (i + 1))
                      case rel =>
                        go_light
                        exact ⟨i + 1, _, HY.out, rfl, by go_num, hp2⟩
                      case measure => go_light; have := HY.out; omega
                · obtain rfl : i = 6 := by omega
                  have hlt' : ¬ ((6 : Nat) : Int) < 6 := by decide
                  have hml := hp4.ml
                  obtain ⟨gM, capM, hvM, _⟩ := ownV_cell hp4.more (i := 0) (by omega)
                  subst hvM
                  rw [hml] at hp4 ⊢
                  have H6 : Hid (P4 w wr vs us ms Ls (.slice (some ⟨gA, 0, none⟩) 6 capA) (.slice (some ⟨gW, 0, none⟩) 6 capW) (.slice (some ⟨gM, 0, none⟩) 6 capM) (.slice aS pS capS) S 6) := hp4
                  clear hp4 hml hi6 hlt HD HP4
                  go_wp2
                  go_loopg [26, 27] 6 (fun gg i0 j0 wx => ∃ i : Nat, i ≤ 6 ∧ gg = 6 - i ∧ i0 = .int .i64 (i : Int) ∧ wr = wx)
                  case atStart =>
                    go_light
                    exact ⟨0, Nat.zero_le _, rfl, rfl, rfl⟩
                  case round =>
                    obtain ⟨i, hi6, rfl, rfl, rfl⟩ := hrel
                    have hi0 : (0 : Int) ≤ (i : Int) := Int.natCast_nonneg _
                    have hi6' : (i : Int) ≤ 6 := by omega
                    by_cases hlt : i < 6
                    · have hlt' : (i : Int) < 6 := by omega
                      have em : IntKind.i64.wrap (-1 - (i : Int)) = -1 - (i : Int) := by rw [IntKind.wrap_i64]; omega
                      have p4 := H6.out
                      have kM := ownV_cells p4.more i (by rw [p4.ml]; exact hlt)
                      have kA := ownV_cells p4.all i (by rw [HVL.out]; exact hlt)
                      have oM := p4.Mm i hlt
                      have oA := p4.A i hlt
                      obtain ⟨aM, g5, mm, dm, eM, rM, _⟩ := own_rdB oM
                      obtain ⟨aV, g6, mv, dvv, eV, rV, _⟩ := own_rdB oA
                      rw [eM] at kM
                      rw [eV] at kA
                      have lM := rM.len
                      have lV := rV.len
                      rw [mk6_len] at lM lV
                      have hL5 : (Ls.getD i []).length ≤ 5000 := by rw [← HLs.out]; exact rp_le HLn.out i hlt
                      have hmm : (mm : Int) ≤ 6000 := by omega
                      have HR : Hid (RdB wr aM g5 mm (mk6 Ls i 60) ∧ RdB wr aV g6 mv (mk6 Ls i 0) ∧ (Ls.getD i []).length + 60 = mm ∧ (Ls.getD i []).length + 0 = mv ∧ i + 1 ≤ 6) := ⟨rM, rV, lM, lV, hlt⟩
                      clear p4 oM oA eM eV rM rV lM lV hL5 hi6 hlt
                      go_wp2
                      go_loopg [27] mm (fun gg j0 wx => ∃ j : Nat, j ≤ mm ∧ gg = mm - j ∧ j0 = .int .i64 (j : Int) ∧ wr = wx)
                      case atStart =>
                        go_light
                        exact ⟨0, Nat.zero_le _, rfl, rfl, rfl⟩
                      case round =>
                        obtain ⟨j, hjm, rfl, rfl, rfl⟩ := hrel
                        have hj0 : (0 : Int) ≤ (j : Int) := Int.natCast_nonneg _
                        have hj6 : (j : Int) ≤ 6000 := by omega
                        obtain ⟨rM, rV, lM, lV, hi1⟩ := HR.out
                        by_cases hjl : j < mm
                        · have hjl' : (j : Int) < (mm : Int) := by omega
                          obtain rfl := rM.addr (by omega)
                          obtain ⟨c1, c2⟩ := rM.cell j hjl
                          rw [mk6_get _ _ _ _ (by omega)] at c1 c2
                          have c2' : wr.cell? ⟨g5, j * 2 + 1, none⟩ = some (.int .u64 0) := c2
                          dsimp only at c1
                          by_cases hjv : j < mv
                          · have hjv' : (j : Int) < (mv : Int) := by omega
                            obtain rfl := rV.addr (by omega)
                            obtain ⟨c3, c4⟩ := rV.cell j hjv
                            rw [mk6_get _ _ _ _ (by omega)] at c3 c4
                            have c4' : wr.cell? ⟨g6, j * 2 + 1, none⟩ = some (.int .u64 0) := c4
                            dsimp only at c3
                            clear c2 c4 rM rV lM lV hi1 hjm
                            go_wp2
                            go_roundg (mm - (j + 1))
                            case rel =>
                              go_light
                              exact ⟨j + 1, hjl, rfl, by go_num, rfl⟩
                            case measure => go_light; omega
                          · have hjv' : ¬ (j : Int) < (mv : Int) := by omega
                            clear c2 rM rV lM lV hi1 hjm
                            go_wp2
                            go_roundg (mm - (j + 1))
                            case rel =>
                              go_light
                              exact ⟨j + 1, hjl, rfl, by go_num, rfl⟩
                            case measure => go_light; omega
                        · obtain rfl : j = mm := by omega
                          have hjl' : ¬ (j : Int) < (j : Int) := by omega
                          clear rM rV lM lV hjm hjl
                          go_wp2
                          go_roundg (6 - (i + 1))
                          case rel =>
                            go_light
                            exact ⟨i + 1, hi1, rfl, by go_num, rfl⟩
                          case measure => go_light; omega
                    · obtain rfl : i = 6 := by omega
                      have hlt' : ¬ ((6 : Nat) : Int) < 6 := by decide
                      have p4 := H6.out
                      have HU := HLs.out
                      have o0 : OwnB wr w.heap.size (us.getD 0 dv) M := by have := p4.U 0 (by decide); rw [← HU] at this; exact this
                      have o1 : OwnB wr w.heap.size (us.getD 1 dv) G := by have := p4.U 1 (by decide); rw [← HU] at this; exact this
                      have o2 : OwnB wr w.heap.size (us.getD 2 dv) Z := by have := p4.U 2 (by decide); rw [← HU] at this; exact this
                      have hfr := p4.fr
                      have hwas := p4.was
                      have hul : us.length = 6 := by
                        have h9 := p4.was
                        rcases h9.2 with ⟨h2, _⟩ | ⟨g, cp, cur, hv, _⟩
                        · cases h2
                        · obtain ⟨_, e2, _⟩ := Value.slice.inj hv
                          exact e2.symm
                      have HBB : Hid (OwnB wr w.heap.size (us.getD 0 dv) M ∧ OwnB wr w.heap.size (us.getD 1 dv) G ∧ OwnB wr w.heap.size (us.getD 2 dv) Z ∧ OwnV wr w.heap.size (.slice (some ⟨gW, 0, none⟩) 6 capW) us ∧ us.length = 6 ∧ Fr w wr (.slice aS pS capS) S) := ⟨o0, o1, o2, hwas, hul, hfr⟩
                      clear p4 HU o0 o1 o2 hwas hul hi6 hlt H6 HLs HLn
                      go_upto_region 48 with (first
                        | (go_at_call 12; with_reducible refine (HCM _).mono ?_; rintro e x1 ⟨u1, rfl, p1, hc1⟩)
                        | (go_at_call 13; with_reducible refine (HCG _).mono ?_; rintro e x2 ⟨u2, rfl, p2, hc2⟩)
                        | (go_at_call 14; with_reducible refine (HCZ _ ((hfr.next hc1).next hc2)).mono ?_; rintro e x3 ⟨u3, rfl, p3, hc3⟩))
                      have b13 := bnext (bnext hc1 hc2) hc3
                      obtain ⟨o0, o1, o2, hwas, hul, _⟩ := HBB.out
                      have k0 := ownV_cells (ownB_next hwas b13) 0 (by omega)
                      have k1 := ownV_cells (ownB_next hwas b13) 1 (by omega)
                      have k2 := ownV_cells (ownB_next hwas b13) 2 (by omega)
                      have S1 := same_own x3 u1 (us.getD 0 dv) _ _ _ _ (ownB_next (ownB_next p1 hc2) hc3) (ownB_next o0 b13)
                      have S2 := fun W (hW : Below x3.heap.size x3 W) => same_own W u2 (us.getD 1 dv) _ _ _ _ (ownB_next (ownB_next p2 hc3) hW) (ownB_next (ownB_next o1 b13) hW)
                      have S3 := fun W (hW : Below x3.heap.size x3 W) => same_own W u3 (us.getD 2 dv) _ _ _ _ (ownB_next p3 hW) (ownB_next (ownB_next o2 b13) hW)
                      rw [decide_eq_true rfl] at S1 S2 S3
                      have KB : Hid (Below w.heap.size w x3) := bnext hfr.below b13
                      have KW1 := fun W (hW : Below x3.heap.size x3 W) => ownV_cells (ownB_next (ownB_next hwas b13) hW) 1 (by omega)
                      have KW2 := fun W (hW : Below x3.heap.size x3 W) => ownV_cells (ownB_next (ownB_next hwas b13) hW) 2 (by omega)
                      generalize us.getD 0 dv = z0 at *
                      generalize us.getD 1 dv = z1 at *
                      generalize us.getD 2 dv = z2 at *
                      clear HBB o0 o1 o2 hwas hul p1 p2 p3 hc1 hc2 hc3 b13 HCM HCG HCZ hfr
                      go_wp2_with (first
                        | (go_at_call 15; with_reducible refine S1.mono ?_; rintro e y1 ⟨rfl, d1⟩; have k1' := KW1 _ d1)
                        | (go_at_call 15; with_reducible refine (S2 _ d1).mono ?_; rintro e y2 ⟨rfl, d2⟩; have k2' := KW2 _ (bnext d1 d2))
                        | (go_at_call 15; with_reducible refine (S3 _ (bnext d1 d2)).mono ?_; rintro e y3 ⟨rfl, d3⟩))
                      go_ret
                      exact ⟨rfl, bnext KB.out (bnext (bnext d1 d2) d3)⟩
theorem fresh_lawrow (a b : Int) (w0 : (Lit.int .u64 a).wf = true) (w1 : (Lit.int .u64 b).wf = true) (w : World) (ao : Option Addr) (bb off m cap : Nat) (l : List Nat) (r : Rd w ao bb off m l) (hm : m ≤ maxLen) (hc : m ≤ cap) (hn : ao = none → cap = 0) :
    Calls Try.prog 3 #[.int .u64 a, .int .u64 b, .slice ao m cap] w fun e w' => e = .returned (.bool true) ∧ Below w.heap.size w w' := by
  obtain ⟨p, rfl, _⟩ := u64_nat w0
  obtain ⟨q, rfl, _⟩ := u64_nat w1
  exact fresh_walk p q w ao bb off m cap l r hm hc hn
end Go.Proofs.Ytghmodbgfbgclaa
