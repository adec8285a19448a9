/-
  The walk of CrcLinear. Own work.
-/
import Derived.Test.YtplopgkoikeohaaRPlan
import Derived.Test.YtplopgkoikeohaaRWalkG
import Derived.Deep.AppendLies
import Derived.Deep.CutRange
import Derived.Laws.BytesArg
namespace Go.Proofs.Ytplopgkoikeohaa
open Go.RowKit
attribute [local go_sem ↓] Go.wp_at_zero Go.wp_at_succ
/-- A row of bytes of one's own. -/
def OwnY (w : World) (B : Nat) (v : Value) (l : List UInt8) : Prop := w.ownsRow B 5 1 v l.length (cY l)
theorem owny_next {w W : World} {B B' : Nat} {v : Value} {l : List UInt8} (h : OwnY w B v l) (hb : Below B' w W) (hB : w.heap.size ≤ B') : OwnY W B v l := by
  obtain ⟨h1, h2⟩ := h
  refine ⟨h1, ?_⟩
  rcases h2 with h2 | ⟨g, cap, cur, rfl, hg, hh, r⟩
  · exact .inl h2
  · exact .inr ⟨g, cap, cur, rfl, hg, by rw [hb.block g (Nat.lt_of_lt_of_le (Array.getElem?_eq_some_iff.1 hh).1 hB)]; exact hh, r⟩
theorem owny_conv {w : World} {B : Nat} {v : Value} {l : List UInt8} (h : OwnY w B v l) : (convert 28 9 v).run Try.prog w = .ok (.string ⟨l.toArray⟩) w := by
  have hc := fun g => h.cells (g := g)
  obtain ⟨h1, h2⟩ := h
  rcases h2 with ⟨rfl, h0⟩ | ⟨g, cap, cur, rfl, hg, hh, r⟩
  · have : l = [] := List.length_eq_zero_iff.1 h0
    subst this
    exact run_convert_bytes_nil w 28 5 Try.underlying28 Try.underlying5 0 0 9 Try.underlying9
  · refine run_convert_bytes_back _ 28 9 5 ⟨g, 0, none⟩ cap l Try.underlying28 Try.underlying5 Try.underlying9 fun j hj => ?_
    exact hc g rfl j _ (by simp [cY, List.getElem?_eq_getElem hj])
theorem owny_own {w : World} {B : Nat} {v : Value} {l : List UInt8} (h : OwnY w B v l) : ∀ k, v.ownBlock = some k → B ≤ k := by
  obtain ⟨_, h2⟩ := h
  rcases h2 with ⟨rfl, _⟩ | ⟨g, cp, cur, rfl, hg, _⟩
  · intro k hk; cases hk
  · intro k hk; cases hk; exact hg
theorem Try.infoY : (Try.prog.info? 5).map (fun i => (i.zero, i.size, i.bytes)) = some (some (.int .u8 0), 1, 1) := by kernel_rfl
theorem extract_list (s : ByteArray) (n : Nat) : (s.extract 0 n).data.toList = s.data.toList.take n := by
  simp [ByteArray.data_extract]
set_option maxRecDepth 100000 in
set_option maxHeartbeats 4000000 in
theorem linear_walk (w : World) (x y z : ByteArray) (hx : x.size ≤ 140737488351232) (_hy : y.size ≤ 140737488351232) (_hz : z.size ≤ 140737488351232) :
    Calls Try.prog 5 #[.string x, .string y, .string z] w fun e w' => e = .returned (.bool true) ∧ Below w.heap.size w w' := by
  obtain ⟨n2, hn2⟩ : ∃ n2, n2 = min x.size y.size := ⟨_, rfl⟩
  obtain ⟨n, hn⟩ : ∃ n, n = min n2 z.size := ⟨_, rfl⟩
  have nx : n ≤ x.size := by omega
  have ny : n ≤ y.size := by omega
  have nz : n ≤ z.size := by omega
  have HN2 : Hid (n2 = min x.size y.size) := hn2
  have HN3 : Hid (n = min n2 z.size) := hn
  clear hn hn2
  have hB := Below.refl w.heap.size w
  go_enter Try.func5, Try.ntmps5
  go_upto_if 17 with (go_at_call 9; with_reducible refine (alive_any _).mono ?_; rintro e w1 ⟨rfl, hb⟩; replace hB := bnext hB hb; clear hb)
  go_cut [7, 17] from 18 to 19 (fun u _ wx => u = .int .i64 (n2 : Int) ∧ w1 = wx)
  case first =>
    by_cases h : y.size < x.size
    · have h1 : (y.size : Int) < (x.size : Int) := by omega
      have HN : Hid (n2 = y.size) := by show _ = _; have h2 := HN2.out; have h3 := HN3.out; omega
      clear nx ny nz
      go_wp2
      go_meet
      case rel =>
        go_light
        exact ⟨by rw [HN.out], rfl⟩
    · have h1 : ¬ (y.size : Int) < (x.size : Int) := by omega
      have HN : Hid (n2 = x.size) := by show _ = _; have h2 := HN2.out; have h3 := HN3.out; omega
      clear nx ny nz
      go_wp2
      go_meet
      case rel =>
        go_light
        exact ⟨by rw [HN.out], rfl⟩
  case rest =>
  obtain ⟨rfl, rfl⟩ := hcut
  go_upto_if 23 with (fail)
  go_cut [7, 23] from 24 to 25 (fun u _ wx => u = .int .i64 (n : Int) ∧ w1 = wx)
  case first =>
    by_cases h : z.size < n2
    · have h1 : (z.size : Int) < (n2 : Int) := by omega
      have HN : Hid (n = z.size) := by show _ = _; have h2 := HN2.out; have h3 := HN3.out; omega
      clear nx ny nz
      go_wp2
      go_meet
      case rel =>
        go_light
        exact ⟨by rw [HN.out], rfl⟩
    · have h1 : ¬ (z.size : Int) < (n2 : Int) := by omega
      have HN : Hid (n = n2) := by show _ = _; have h2 := HN2.out; have h3 := HN3.out; omega
      clear nx ny nz
      go_wp2
      go_meet
      case rel =>
        go_light
        exact ⟨by rw [HN.out], rfl⟩
  case rest =>
  obtain ⟨rfl, rfl⟩ := hcut
  clear HN2 HN3
  go_wp2
  go_loopg [8, 9] n (fun G u i wr => ∃ (k : Nat) (v : Value) (l : List UInt8), k ≤ n ∧ G = n - k ∧ v = u ∧ i = .int .i64 k ∧ Hid (OwnY wr w.heap.size v l) ∧ l.length = k ∧ Hid (∀ i, i < k → l.getD i 0 = x.data.toList.getD i 0 ^^^ y.data.toList.getD i 0 ^^^ z.data.toList.getD i 0) ∧ Below w.heap.size w wr)
  case atStart =>
    go_light
    exact ⟨0, .slice none 0 0, [], Nat.zero_le _, rfl, rfl, rfl, ⟨rfl, .inl ⟨rfl, rfl⟩⟩, rfl, (fun i hi => absurd hi (Nat.not_lt_zero i)), hB⟩
  case round =>
    clear hB
    obtain ⟨k, v, l, hk, rfl, rfl, rfl, HO, hl, HE, hB⟩ := hrel
    by_cases hlt : k < n
    · have h1 : (k : Int) < (n : Int) := by omega
      have kx : k < x.size := by omega
      have ky : k < y.size := by omega
      have kz : k < z.size := by omega
      have kx' : (k : Int) < (x.size : Int) := by omega
      have ky' : (k : Int) < (y.size : Int) := by omega
      have kz' : (k : Int) < (z.size : Int) := by omega
      have k0 : (0 : Int) ≤ (k : Int) := Int.natCast_nonneg _
      obtain ⟨p, hp⟩ : ∃ p : Int, bits .xor .u8 (x[k].toNat : Int) (y[k].toNat : Int) = p := ⟨_, rfl⟩
      obtain ⟨q, hq⟩ : ∃ q : Int, bits .xor .u8 p (z[k].toNat : Int) = q := ⟨_, rfl⟩
      have HQ : Hid (q = ((x[k] ^^^ y[k] ^^^ z[k]).toNat : Int)) := by
        show _ = _
        rw [← hq, ← hp, xor8, xor8]
      have hown : wr.ownsRow w.heap.size 5 1 v k (cY l) := by have := HO.out; rw [OwnY, hl] at this; exact this
      have HV := owny_own HO.out
      have HBz : Hid (w.heap.size ≤ wr.heap.size) := hB.size
      obtain ⟨i0, hi0, hz0, hz1, hz2⟩ := info_parts Try.infoY
      have HB' : Hid (∀ w', World.grownBy ((wr.alloc (.cells #[.int .u8 q] 5)).drew) w' v.ownBlock → Below w.heap.size w w') := fun w' hg => (below_drewN (bal hB _) 1).grown hg (Nat.le_trans hB.size (by simp)) HV
      have HL : Hid (∀ w' g cap, w'.ownsRow w.heap.size 5 1 (.slice (some ⟨g, 0, none⟩) (k + 1) cap) (k + 1) (cY l ++ [.int .u8 q]) → OwnY w' w.heap.size (.slice (some ⟨g, 0, none⟩) (k + 1) cap) (l ++ [x[k] ^^^ y[k] ^^^ z[k]])) := fun w' g cap h => by
        rw [OwnY, List.length_append, hl]
        rw [HQ.out] at h
        have e : cY (l ++ [x[k] ^^^ y[k] ^^^ z[k]]) = cY l ++ [.int .u8 ((x[k] ^^^ y[k] ^^^ z[k]).toNat : Int)] := by simp [cY]
        rw [e]; exact h
      have HE' : Hid (∀ i, i < k + 1 → (l ++ [x[k] ^^^ y[k] ^^^ z[k]]).getD i 0 = x.data.toList.getD i 0 ^^^ y.data.toList.getD i 0 ^^^ z.data.toList.getD i 0) := fun i hi => by
        by_cases e : i < k
        · rw [← HE.out i e, List.getD_eq_getElem?_getD, List.getElem?_append_left (by omega), ← List.getD_eq_getElem?_getD]
        · obtain rfl : i = k := by omega
          have gx : ∀ (s : ByteArray) (h : i < s.size), s.data.toList.getD i 0 = s[i] := fun s h => by
            rw [List.getD_eq_getElem?_getD, List.getElem?_eq_getElem (by simpa using h)]; rfl
          rw [gx x kx, gx y ky, gx z kz, List.getD_eq_getElem?_getD, List.getElem?_append_right (by omega), hl, Nat.sub_self]
          rfl
      have hm1 : k + 1 ≤ maxLen := by unfold maxLen; omega
      have hm2 : (k + 1) * 1 ≤ 140737488355328 := by omega
      have HM1 : Hid (k + 1 ≤ maxLen) := hm1
      have HM2 : Hid ((k + 1) * 1 ≤ 140737488355328) := hm2
      clear hm1 hm2 HO HE hB HV
      go_wp2
      go_region_held3 (fun _ => True) (trivial)
        ((refine step_append_lies _ (by rfl) _ _ _ (by rfl) w.heap.size 5 i0 _ 1 1 Try.underlying28 hi0 hz0 hz1 hz2 rfl (by omega) v k (cY l) (by rfl) ((hown.alloc _).drew)
            ⟨wr.heap.size, 0, none⟩ 1 1 [.int .u8 q] (by rfl) (by rfl) (World.news_of_block (cs := #[.int .u8 q]) (t := 5) (fr := (0, 0)) (heap_alloc_new wr _)) (by simp [Value.oneCell'])
            (by omega) HM1.out HM2.out (by have := HBz.out; simp; omega) (wr.heap.size + 1) (by simp) ?_; intro gg cap w2 hown2 hgrow hat hlt2))
      all_goals
       go_wp2
       go_roundg (n - (k + 1))
       case rel =>
        go_light
        exact ⟨k + 1, _, _, by omega, rfl, rfl, by go_num, HL.out _ _ _ hown2, by simp [hl], HE', HB'.out _ hgrow⟩
       case measure => go_light; omega
    · obtain rfl : k = n := by omega
      have h1 : ¬ (k : Int) < (k : Int) := by omega
      obtain ⟨xn, exn⟩ : ∃ s, x.extract 0 k = s := ⟨_, rfl⟩
      obtain ⟨yn, eyn⟩ : ∃ s, y.extract 0 k = s := ⟨_, rfl⟩
      obtain ⟨zn, ezn⟩ : ∃ s, z.extract 0 k = s := ⟨_, rfl⟩
      obtain ⟨t, ht⟩ : ∃ t : ByteArray, t = ⟨l.toArray⟩ := ⟨_, rfl⟩
      have tn : t.size ≤ 140737488351232 := by rw [ht]; show l.toArray.size ≤ _; rw [List.size_toArray, hl]; omega
      have lx : xn.data.toList = x.data.toList.take k := by rw [← exn, extract_list]
      have ly : yn.data.toList = y.data.toList.take k := by rw [← eyn, extract_list]
      have lz : zn.data.toList = z.data.toList.take k := by rw [← ezn, extract_list]
      have zs : ∀ (s : ByteArray), s.data.toList.length = s.size := fun s => by simp
      have sx : xn.size = k := by rw [← zs, lx, List.length_take, zs]; omega
      have sy : yn.size = k := by rw [← zs, ly, List.length_take, zs]; omega
      have sz : zn.size = k := by rw [← zs, lz, List.length_take, zs]; omega
      obtain ⟨X, hX⟩ : ∃ X, X = (mor 0#32 l).toNat := ⟨_, rfl⟩
      obtain ⟨A, hA⟩ : ∃ A, A = (mor 0#32 xn.data.toList).toNat := ⟨_, rfl⟩
      obtain ⟨B, hBB⟩ : ∃ B, B = (mor 0#32 yn.data.toList).toNat := ⟨_, rfl⟩
      obtain ⟨C, hC⟩ : ∃ C, C = (mor 0#32 zn.data.toList).toNat := ⟨_, rfl⟩
      obtain ⟨AB, hAB⟩ : ∃ AB, AB = (mor 0#32 xn.data.toList ^^^ mor 0#32 yn.data.toList).toNat := ⟨_, rfl⟩
      have eAB : bits .xor .u32 (A : Int) (B : Int) = (AB : Int) := by rw [hA, hBB, hAB, xor32]
      have eX : bits .xor .u32 (AB : Int) (C : Int) = (X : Int) := by
        rw [hAB, hC, hX, xor32]
        have tk : ∀ (s : List UInt8) i, i < k → (s.take k).getD i 0 = s.getD i 0 := fun s i hi => by
          rw [List.getD_eq_getElem?_getD, List.getElem?_take_of_lt hi, ← List.getD_eq_getElem?_getD]
        have := run_three (~~~ 0#32) xn.data.toList yn.data.toList zn.data.toList l k (by rw [zs, sx]) (by rw [zs, sy]) (by rw [zs, sz]) hl (fun i hi => by rw [lx, ly, lz, tk _ i hi, tk _ i hi, tk _ i hi]; exact HE.out i hi)
        simp only [mor]
        rw [this, not_three]
      have qX : ((sumL [t]).toNat : Int) = (X : Int) := by rw [hX, sumL, flat_one, ht]
      have qA : ((sumL [xn]).toNat : Int) = (A : Int) := by rw [hA, sumL, flat_one]
      have qB : ((sumL [yn]).toNat : Int) = (B : Int) := by rw [hBB, sumL, flat_one]
      have qC : ((sumL [zn]).toNat : Int) = (C : Int) := by rw [hC, sumL, flat_one]
      have HK : Hid (∀ W, Below wr.heap.size wr W → (convert 28 9 v).run Try.prog W = .ok (.string t) W) := fun W hW => by
        rw [ht]; exact owny_conv (owny_next HO.out hW (Nat.le_refl _))
      have sx' : xn.size ≤ 140737488351232 := by omega
      have sy' : yn.size ≤ 140737488351232 := by omega
      have sz' : zn.size ≤ 140737488351232 := by omega
      have HB0 : Hid (Below w.heap.size w wr) := hB
      clear HE hAB hA hBB hC hX ht hl HO lx ly lz zs sx sy sz hB
      go_wp2
      refine wp_region_plan (by kernel_rfl) [45, 46, 47, 48, 49, 50, 51, 52, 53, 54, 55, 56, 57, 58, 59, 60, 61, 62, 63, 64, 65, 66, 6] (by kernel_rfl) (plan [v, .string t, undef, .int .u32 (X : Int), .string x, .int .i64 (k : Int), .string xn, undef, .int .u32 (A : Int), .string y, .int .i64 (k : Int), .string yn, undef, .int .u32 (B : Int), .int .u32 (AB : Int), .string z, .int .i64 (k : Int), .string zn, undef, .int .u32 (C : Int), .int .u32 (X : Int), .bool true, .bool true] [(2, [t]), (7, [xn]), (12, [yn]), (18, [zn])]) (plan_mono _ _) ?step ?fin
      case fin =>
        intro a w2 hB2 hde hsm hΦ
        have h6 : a.tmps.getD 6 undef = .bool true := hΦ 22 (by decide)
        have hr : (results Try.f5 a.tmps).run Try.prog w2 = .ok (.bool true) w2 := by rw [← h6]; exact results_tmp rfl _ _ _
        have HF : Hid (a.defers = [] ∧ Below w.heap.size w w2 ∧ (results Try.f5 a.tmps).run Try.prog w2 = .ok (.bool true) w2) := ⟨hde, bnext HB0.out hB2, hr⟩
        clear hr hde hsm hΦ h6 hB2
        go_wp2
        exact bodyPost_ret HF.out.2.2 HF.out.1 ⟨rfl, HF.out.2.1⟩
      case step =>
        refine ⟨?_, ?_, ?_, ?_, ?_, ?_, ?_, ?_, ?_, ?_, ?_, ?_, ?_, ?_, ?_, ?_, ?_, ?_, ?_, ?_, ?_, ?_, ?_, trivial⟩
        · intro a w K hB hsm dep hK
          have t8 : a.tmps.getD 8 undef = v := hsm 8 rfl
          show Oper.wp _ _ a w K _
          go_simp
          exact hK _ _ rfl (Below.refl _ _)
        · intro a w K hB hsm dep hK
          have t45 : a.tmps.getD 45 undef = v := dep 0 rfl
          show Oper.wp _ _ a w K _
          have kc := HK.out w hB
          go_simp
          exact hK _ _ rfl (Below.refl _ _)
        · intro a w K hB hsm dep hK
          have t46 : a.tmps.getD 46 undef = .string t := dep 1 rfl
          have u46 : a.tmps[46]?.getD undef = .string t := by rw [← Array.getD_eq_getD_getElem?]; exact t46
          show Oper.wp _ _ a w K _
          go_simp
          exact hK _ _ (rdp_new w 1 [t] rfl (szs_cons tn szs_nil)) ((Below.refl _ _).alloc (Nat.le_refl _) _)
        · intro a w K hB hsm dep hK
          obtain ⟨g47, t47, r47⟩ := (show RdP w (a.tmps.getD 47 undef) [t] from dep 2 rfl)
          show Oper.wp _ _ a w K _
          go_simp
          refine (of_rds w g47 1 [t] (X : Int) qX r47 (by decide)).mono ?_
          rintro e w' ⟨rfl, hb⟩
          exact hK _ _ rfl hb
        · intro a w K hB hsm dep hK
          have t0 : a.tmps.getD 0 undef = .string x := hsm 0 rfl
          show Oper.wp _ _ a w K _
          go_simp
          exact hK _ _ rfl (Below.refl _ _)
        · intro a w K hB hsm dep hK
          have t7 : a.tmps.getD 7 undef = .int .i64 (k : Int) := hsm 7 rfl
          show Oper.wp _ _ a w K _
          go_simp
          exact hK _ _ rfl (Below.refl _ _)
        · intro a w K hB hsm dep hK
          have t49 : a.tmps.getD 49 undef = .string x := dep 4 rfl
          have t50 : a.tmps.getD 50 undef = .int .i64 (k : Int) := dep 5 rfl
          show Oper.wp _ _ a w K _
          go_simp
          exact hK _ _ rfl (Below.refl _ _)
        · intro a w K hB hsm dep hK
          have t51 : a.tmps.getD 51 undef = .string xn := dep 6 rfl
          have u51 : a.tmps[51]?.getD undef = .string xn := by rw [← Array.getD_eq_getD_getElem?]; exact t51
          show Oper.wp _ _ a w K _
          go_simp
          exact hK _ _ (rdp_new w 1 [xn] rfl (szs_cons sx' szs_nil)) ((Below.refl _ _).alloc (Nat.le_refl _) _)
        · intro a w K hB hsm dep hK
          obtain ⟨g52, t52, r52⟩ := (show RdP w (a.tmps.getD 52 undef) [xn] from dep 7 rfl)
          show Oper.wp _ _ a w K _
          go_simp
          refine (of_rds w g52 1 [xn] (A : Int) qA r52 (by decide)).mono ?_
          rintro e w' ⟨rfl, hb⟩
          exact hK _ _ rfl hb
        · intro a w K hB hsm dep hK
          have t1 : a.tmps.getD 1 undef = .string y := hsm 1 rfl
          show Oper.wp _ _ a w K _
          go_simp
          exact hK _ _ rfl (Below.refl _ _)
        · intro a w K hB hsm dep hK
          have t7 : a.tmps.getD 7 undef = .int .i64 (k : Int) := hsm 7 rfl
          show Oper.wp _ _ a w K _
          go_simp
          exact hK _ _ rfl (Below.refl _ _)
        · intro a w K hB hsm dep hK
          have t54 : a.tmps.getD 54 undef = .string y := dep 9 rfl
          have t55 : a.tmps.getD 55 undef = .int .i64 (k : Int) := dep 10 rfl
          show Oper.wp _ _ a w K _
          go_simp
          exact hK _ _ rfl (Below.refl _ _)
        · intro a w K hB hsm dep hK
          have t56 : a.tmps.getD 56 undef = .string yn := dep 11 rfl
          have u56 : a.tmps[56]?.getD undef = .string yn := by rw [← Array.getD_eq_getD_getElem?]; exact t56
          show Oper.wp _ _ a w K _
          go_simp
          exact hK _ _ (rdp_new w 1 [yn] rfl (szs_cons sy' szs_nil)) ((Below.refl _ _).alloc (Nat.le_refl _) _)
        · intro a w K hB hsm dep hK
          obtain ⟨g57, t57, r57⟩ := (show RdP w (a.tmps.getD 57 undef) [yn] from dep 12 rfl)
          show Oper.wp _ _ a w K _
          go_simp
          refine (of_rds w g57 1 [yn] (B : Int) qB r57 (by decide)).mono ?_
          rintro e w' ⟨rfl, hb⟩
          exact hK _ _ rfl hb
        · intro a w K hB hsm dep hK
          have t53 : a.tmps.getD 53 undef = .int .u32 (A : Int) := dep 8 rfl
          have t58 : a.tmps.getD 58 undef = .int .u32 (B : Int) := dep 13 rfl
          show Oper.wp _ _ a w K _
          go_simp
          exact hK _ _ rfl (Below.refl _ _)
        · intro a w K hB hsm dep hK
          have t2 : a.tmps.getD 2 undef = .string z := hsm 2 rfl
          show Oper.wp _ _ a w K _
          go_simp
          exact hK _ _ rfl (Below.refl _ _)
        · intro a w K hB hsm dep hK
          have t7 : a.tmps.getD 7 undef = .int .i64 (k : Int) := hsm 7 rfl
          show Oper.wp _ _ a w K _
          go_simp
          exact hK _ _ rfl (Below.refl _ _)
        · intro a w K hB hsm dep hK
          have t60 : a.tmps.getD 60 undef = .string z := dep 15 rfl
          have t61 : a.tmps.getD 61 undef = .int .i64 (k : Int) := dep 16 rfl
          show Oper.wp _ _ a w K _
          go_simp
          exact hK _ _ rfl (Below.refl _ _)
        · intro a w K hB hsm dep hK
          have t62 : a.tmps.getD 62 undef = .string zn := dep 17 rfl
          have u62 : a.tmps[62]?.getD undef = .string zn := by rw [← Array.getD_eq_getD_getElem?]; exact t62
          show Oper.wp _ _ a w K _
          go_simp
          exact hK _ _ (rdp_new w 1 [zn] rfl (szs_cons sz' szs_nil)) ((Below.refl _ _).alloc (Nat.le_refl _) _)
        · intro a w K hB hsm dep hK
          obtain ⟨g63, t63, r63⟩ := (show RdP w (a.tmps.getD 63 undef) [zn] from dep 18 rfl)
          show Oper.wp _ _ a w K _
          go_simp
          refine (of_rds w g63 1 [zn] (C : Int) qC r63 (by decide)).mono ?_
          rintro e w' ⟨rfl, hb⟩
          exact hK _ _ rfl hb
        · intro a w K hB hsm dep hK
          have t59 : a.tmps.getD 59 undef = .int .u32 (AB : Int) := dep 14 rfl
          have t64 : a.tmps.getD 64 undef = .int .u32 (C : Int) := dep 19 rfl
          show Oper.wp _ _ a w K _
          go_simp
          exact hK _ _ rfl (Below.refl _ _)
        · intro a w K hB hsm dep hK
          have t48 : a.tmps.getD 48 undef = .int .u32 (X : Int) := dep 3 rfl
          have t65 : a.tmps.getD 65 undef = .int .u32 (X : Int) := dep 20 rfl
          show Oper.wp _ _ a w K _
          go_simp
          exact hK _ _ rfl (Below.refl _ _)
        · intro a w K hB hsm dep hK
          have t66 : a.tmps.getD 66 undef = .bool true := dep 21 rfl
          show Oper.wp _ _ a w K _
          go_simp
          exact hK _ _ rfl (Below.refl _ _)
end Go.Proofs.Ytplopgkoikeohaa
