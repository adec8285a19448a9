/-
  Walks of the reference: Set, without, Rest. Own work.
-/
import Derived.Test.YtnbejijpmeklaaaDoorCvRefC
namespace Go.Proofs.YtnbejijpmeklaaaDoor.Cv
open Pl
open Go.RowKit
attribute [local go_sem ↓] Go.wp_at_zero Go.wp_at_succ
theorem own_rd {w : World} {base : Nat} {v : Value} {l : List Nat} (h : Own w base v l) : ∃ ao b n cap, v = .slice ao n cap ∧ Rd w ao b 0 n l ∧ n ≤ maxLen ∧ n ≤ cap := by
  obtain ⟨h1, h2⟩ := h
  rcases h2 with ⟨rfl, h2⟩ | ⟨g, cap, cur, rfl, hg, hh, hc1, hc2, hc3, hc4⟩
  · exact ⟨none, 0, 0, 0, rfl, ⟨h2, fun h => absurd h (by omega), fun j hj => absurd hj (by omega)⟩, Nat.zero_le _, Nat.le_refl _⟩
  · have hcl := World.ownsRow.cells (w := w) (base := base) (e := 23) (size := 1) (v := .slice (some ⟨g, 0, none⟩) l.length cap) (n := l.length) (xs := cU l) ⟨h1, .inr ⟨g, cap, cur, rfl, hg, hh, hc1, hc2, hc3, hc4⟩⟩ (g := g) rfl
    refine ⟨some ⟨g, 0, none⟩, g, l.length, cap, rfl, ⟨rfl, fun _ => rfl, fun j hj => ?_⟩, by omega, hc1⟩
    have := hcl j (.int .u64 (l.getD j 0 : Nat)) (by simp [cU, List.getD_eq_getElem?_getD, List.getElem?_eq_getElem hj])
    rw [Addr.add_mid] at this
    exact this
def errT (n : Nat) (l : List Nat) : Nat := if incB l = false then 40 else if n ≤ l.getD (l.length - 1) 0 then 31 else 0
theorem errS_T {n : Nat} {l : List Nat} (h : ¬ 2 ^ 40 < n) : errS n l = errT n l := by rw [errS, if_neg h, errT]
theorem rset_any (m : Nat) (w : World) (ao : Option Addr) (b off n cap : Nat) (l : List Nat) (r : Rd w ao b off n l) (hn : n ≤ maxLen) :
    Calls Tryd.prog 64 #[.int .u64 (m : Int), .slice ao n cap] w fun e w' => e = .returned (.int .i64 (errT m l : Nat)) ∧ Below w.heap.size w w' := by
  have hn' : (n : Int) ≤ 9223372036854775807 := by unfold maxLen at hn; omega
  by_cases hz : n = 0
  · have he : errT m l = 40 := by
      rw [errT, if_pos]
      cases hB : incB l with
      | false => rfl
      | true => have := ((incB_iff l).1 hB).1; have := r.len; omega
    rw [he]
    have hz' : (n : Int) = 0 := by omega
    clear r hn he
    subst hz
    go_enter Tryd.func64, Tryd.ntmps64
    go_wp2
    go_ret
    exact ⟨rfl, Below.refl _ _⟩
  · have hz' : ¬ (n : Int) = 0 := by omega
    have HR : Hid (Rd w ao b off n l) := r
    clear hn r
    go_enter Tryd.func64, Tryd.ntmps64
    go_wp2
    go_loopg [5] n (fun g i wr => ∃ k : Nat, k ≤ n ∧ 1 ≤ k ∧ g = n + 1 - k ∧ i = .int .i64 (k : Int) ∧ (∀ j, j + 1 < k → l.getD j 0 < l.getD (j + 1) 0) ∧ Below w.heap.size w wr)
    case atStart =>
      go_light
      exact ⟨1, by omega, Nat.le_refl _, by omega, rfl, fun j hj => absurd hj (by omega), Below.refl _ _⟩
    case round =>
      obtain ⟨k, hk, hk1, rfl, rfl, he, hb⟩ := hrel
      have hk0 : (0 : Int) ≤ (k : Int) := Int.natCast_nonneg _
      have r1 := HR.out.below hb
      obtain rfl := r1.addr (by omega)
      by_cases hlt : k < n
      · obtain ⟨i, rfl⟩ : ∃ i, k = i + 1 := ⟨k - 1, by omega⟩
        have c1 := r1.cell (i + 1) hlt
        have c2 := r1.cell i (by omega)
        have hz : ((i + 1 : Nat) : Int) < (n : Int) := by omega
        have ei : (((i + 1 : Nat) : Int) - 1) = (i : Int) := by omega
        have ec : ((i + 1 : Nat) : Int) = (i : Int) + 1 := by omega
        have hz2 : (i : Int) + 1 < (n : Int) := by omega
        have hz3 : (i : Int) < (n : Int) := by omega
        have hi0 : (0 : Int) ≤ (i : Int) := Int.natCast_nonneg _
        have hi1 : (0 : Int) ≤ (i : Int) + 1 := by omega
        have HB : Hid (Below w.heap.size w wr) := hb
        have HE : Hid (∀ j, j + 1 < i + 1 → l.getD j 0 < l.getD (j + 1) 0) := he
        have HI : Hid (¬ l.getD i 0 < l.getD (i + 1) 0 → errT m l = 40) := fun hno => by
          rw [errT, if_pos]
          cases hB : incB l with
          | false => rfl
          | true => exact absurd (((incB_iff l).1 hB).2 i (by have := HR.out.len; omega)) hno
        obtain ⟨x, hx⟩ : ∃ x, l.getD (i + 1) 0 = x := ⟨_, rfl⟩
        obtain ⟨y, hy⟩ : ∃ y, l.getD i 0 = y := ⟨_, rfl⟩
        rw [hx] at c1
        rw [hy] at c2
        rw [hx, hy] at HI
        have HX : Hid (l.getD (i + 1) 0 = x ∧ l.getD i 0 = y) := ⟨hx, hy⟩
        have hlt2 : i + 1 < n := hlt
        clear hx hy r1 hb he hk hlt
        by_cases hxy : x ≤ y
        · have HN : Hid (errT m l = 40) := HI.out (by omega)
          go_wp2
          go_quiet (fail)
          go_wp2
          go_ret
          exact ⟨by rw [HN.out]; rfl, below_drewN HB.out _⟩
        · go_wp2
          go_quiet (fail)
          go_wp2
          go_roundg (n + 1 - (i + 1 + 1))
          case rel =>
            go_light
            refine ⟨i + 1 + 1, by omega, by omega, rfl, by go_num, fun j hj => ?_, below_drewN HB.out _⟩
            by_cases hjk : j = i
            · subst hjk; rw [HX.out.1, HX.out.2]; omega
            · exact HE.out j (by omega)
          case measure => go_light; omega
      · obtain rfl : k = n := by omega
        have hz : ¬ (k : Int) < (k : Int) := by omega
        have hl := HR.out.len
        have hinc : incB l = true := (incB_iff l).2 ⟨by omega, fun i hi => he i (by omega)⟩
        obtain ⟨j, rfl⟩ : ∃ j, k = j + 1 := ⟨k - 1, by omega⟩
        have hc := r1.cell j (by omega)
        have e1 : (((j + 1 : Nat) : Int) - 1) = (j : Int) := by omega
        have e2 : ((j + 1 : Nat) : Int) = (j : Int) + 1 := by omega
        have hz1 : (j : Int) < (j : Int) + 1 := by omega
        have hj0 : (0 : Int) ≤ (j : Int) := Int.natCast_nonneg _
        have hlast : l.getD (l.length - 1) 0 = l.getD j 0 := by rw [hl]; rfl
        obtain ⟨x, hx⟩ : ∃ x, l.getD j 0 = x := ⟨_, rfl⟩
        rw [hx] at hc hlast
        have HB : Hid (Below w.heap.size w wr) := hb
        by_cases h4 : m ≤ x
        · have HN : Hid (errT m l = 31) := by show _ = _; rw [errT, if_neg (by rw [hinc]; decide), if_pos (by rw [hlast]; exact h4)]
          have h4' : (m : Int) ≤ (x : Int) := by omega
          clear he hb hk hl hinc hx hlast r1
          go_wp2
          go_ret
          exact ⟨by rw [HN.out]; rfl, HB.out⟩
        · have HN : Hid (errT m l = 0) := by show _ = _; rw [errT, if_neg (by rw [hinc]; decide), if_neg (by rw [hlast]; exact h4)]
          have h4' : ¬ (m : Int) ≤ (x : Int) := by omega
          clear he hb hk hl hinc hx hlast r1
          go_wp2
          go_ret
          exact ⟨by rw [HN.out]; rfl, HB.out⟩
theorem tno_here {H K : Nat} {S : List Nat} (h : (S.filter (inb H K)).length = 0) : tno H K S = [(H, K)] := by
  cases H with
  | zero => rw [tno, if_pos h]
  | succ H => rw [tno, if_pos h]
theorem filter_yes {p : Nat → Bool} (S : List Nat) (k : Nat) (h : k < S.length) (hp : p (S.getD k 0) = true) : (S.take (k + 1)).filter p = (S.take k).filter p ++ [S.getD k 0] := by
  rw [List.take_succ_eq_append_getElem h, List.filter_append]
  rw [List.getD_eq_getElem?_getD, List.getElem?_eq_getElem h] at hp ⊢
  simp at hp
  simp [hp]
theorem filter_no {p : Nat → Bool} (S : List Nat) (k : Nat) (h : k < S.length) (hp : p (S.getD k 0) = false) : (S.take (k + 1)).filter p = (S.take k).filter p := by
  rw [List.take_succ_eq_append_getElem h, List.filter_append]
  rw [List.getD_eq_getElem?_getD, List.getElem?_eq_getElem h] at hp
  simp at hp
  simp [hp]
theorem filter_len {p : Nat → Bool} (S : List Nat) (k : Nat) : ((S.take k).filter p).length ≤ k := by
  have h1 := List.length_filter_le p (S.take k)
  have h2 := List.length_take_le k S
  omega
/-- What without answers. -/
abbrev Wo (h K : Nat) (S : List Nat) : Prop := ∀ (w : World) (ao : Option Addr) (b off m cap : Nat), Rd w ao b off m S → m ≤ 5000 →
  Calls Tryd.prog 66 #[bv h K, .slice ao m cap] w fun e w' => ∃ v, e = .returned v ∧ OwnB w' w.heap.size v (zl (tno h K S)) ∧ Below w.heap.size w w'
set_option maxHeartbeats 4000000 in
theorem rwithout_step (h K : Nat) (S : List Nat) (hh : h ≤ 40) (hK : K < pw (40 - h)) (HI : ∀ g q M, h = g + 1 → q < pw (40 - g) → Wo g q M) : Wo h K S := by
  intro w ao b off m cap r hm
  have HS := fun w' => rspan_any h K w' hh hK
  obtain ⟨x, hx⟩ : ∃ x, K * pw h = x := ⟨_, rfl⟩
  obtain ⟨y, hy⟩ : ∃ y, (K + 1) * pw h = y := ⟨_, rfl⟩
  rw [hx, hy] at HS
  have T := two_new w (h : Int) K 45
  have hm' : (m : Int) ≤ 5000 := by omega
  have HP : Hid (h ≤ 40 ∧ K < pw (40 - h) ∧ (∀ g q M, h = g + 1 → q < pw (40 - g) → Wo g q M) ∧ (∀ i, inb h K i = true ↔ x ≤ i ∧ i < y)) := ⟨hh, hK, HI, fun i => by rw [inb_iff, hx, hy]⟩
  have HR : Hid (Rd w ao b off m S) := r
  clear hh hK HI r hm hx hy
  go_enter Tryd.func66, Tryd.ntmps66
  go_upto_region 2 with ((go_at_call 86; with_reducible refine (HS _).mono ?_; rintro e w1 ⟨rfl, hb1⟩))
  have HT : Hid (Two w1 w.heap.size (h : Int) K ∧ Below w.heap.size w w1) := ⟨T.below hb1, below_new hb1⟩
  clear T hb1 HS
  go_wp2
  go_loopg [7, 8] m (fun gg v i wr => ∃ k : Nat, k ≤ m ∧ gg = m - k ∧ i = .int .i64 (k : Int) ∧ Own wr w1.heap.size v ((S.take k).filter (inb h K)) ∧ Below w1.heap.size w1 wr)
  case atStart =>
    go_light
    exact ⟨0, Nat.zero_le _, rfl, rfl, World.ownsRow_nil _ _ _ _, Below.refl _ _⟩
  case round =>
    obtain ⟨k, hk, rfl, rfl, hown, hb⟩ := hrel
    have hk0 : (0 : Int) ≤ (k : Int) := Int.natCast_nonneg _
    have hk5 : (k : Int) ≤ 5000 := by omega
    obtain ⟨ht, hbw⟩ := HT.out
    have r' := (HR.out.below hbw).below hb
    have hsl := HR.out.len
    have hinb := HP.out.2.2.2
    by_cases hlt : k < m
    · have hlt' : (k : Int) < (m : Int) := by omega
      obtain rfl := r'.addr (by omega)
      have c1 := r'.cell k hlt
      have fy := filter_yes (p := inb h K) S k (by omega)
      have fn := filter_no (p := inb h K) S k (by omega)
      have hfl := filter_len (p := inb h K) S k
      obtain ⟨s, hs⟩ : ∃ s, S.getD k 0 = s := ⟨_, rfl⟩
      rw [hs] at c1 fy fn
      by_cases hin : x ≤ s ∧ s < y
      · obtain ⟨g1, g2⟩ := hin
        have g1' : (x : Int) ≤ (s : Int) := by omega
        have g2' : (s : Int) < (y : Int) := by omega
        have hf := fy ((hinb s).2 ⟨g1, g2⟩)
        generalize (S.take k).filter (inb h K) = P at *
        have HX : Hid ((S.take (k + 1)).filter (inb h K) = P ++ [s] ∧ Below w1.heap.size w1 wr ∧ P.length ≤ k ∧ k + 1 ≤ m) := ⟨hf, hb, hfl, hlt⟩
        clear fy fn hf hfl hs hinb hsl r' ht hbw hb hlt hk
        go_wp2_with (at_builtin; refine wpList_append_U _ rfl _ _ rfl w1.heap.size _ P rfl (hown.alloc _) _ [s] rfl (rdc_num wr s 23) ?c1 ?c2 ?_)
        case c1 => have := HX.out.2.2.1; simp; omega
        case c2 => have := HX.out.2.1.size; simp; omega
        intro v' w2 r1 r2 _
        have R := ownB_step HX.out.2.1 HX.out.2.1.size hown r2
        clear r2 hown
        go_wp2
        go_roundg (m - (k + 1))
        case rel =>
          go_light
          refine ⟨k + 1, HX.out.2.2.2, rfl, by go_num, ?_, R.1⟩
          rw [HX.out.1]; exact r1
        case measure => go_light; have := HX.out.2.2.2; omega
      · have hf := fn (by
          cases hB : inb h K s with
          | false => rfl
          | true => exact absurd ((hinb s).1 hB) hin)
        have HX : Hid ((S.take (k + 1)).filter (inb h K) = (S.take k).filter (inb h K) ∧ Below w1.heap.size w1 wr ∧ k + 1 ≤ m) := ⟨hf, hb, hlt⟩
        clear fy fn hf hfl hs hinb hsl r' ht hbw hb hlt hk
        by_cases g1 : x ≤ s
        · have g1' : (x : Int) ≤ (s : Int) := by omega
          have g2' : ¬ (s : Int) < (y : Int) := by omega
          have g2 : ¬ s < y := by omega
          go_wp2
          go_roundg (m - (k + 1))
          case rel =>
            go_light
            refine ⟨k + 1, HX.out.2.2, rfl, by go_num, ?_, HX.out.2.1⟩
            rw [HX.out.1]; exact hown
          case measure => go_light; have := HX.out.2.2; omega
        · have g1' : ¬ (x : Int) ≤ (s : Int) := by omega
          go_wp2
          go_roundg (m - (k + 1))
          case rel =>
            go_light
            refine ⟨k + 1, HX.out.2.2, rfl, by go_num, ?_, HX.out.2.1⟩
            rw [HX.out.1]; exact hown
          case measure => go_light; have := HX.out.2.2; omega
    · obtain rfl : k = m := by omega
      have hlt' : ¬ (k : Int) < (k : Int) := by omega
      rw [List.take_of_length_le (by omega)] at hown
      have hfl := List.length_filter_le (inb h K) S
      obtain ⟨t0, t1⟩ := ht.below hb
      have HB : Hid (Below w.heap.size w wr) := bnext hbw hb
      have HTW : Hid (Two wr w.heap.size (h : Int) K) := ⟨t0, t1⟩
      obtain ⟨ao7, b7, n7, cap7, rfl, r7, _, _⟩ := own_rd hown
      obtain ⟨hh, hK, HI, _⟩ := HP.out
      have hhh : (h : Int) ≤ 40 := by omega
      have hh0 : (0 : Int) ≤ (h : Int) := Int.natCast_nonneg _
      by_cases hz : n7 = 0
      · subst hz
        have HF : Hid (tno h K S = [(h, K)]) := tno_here r7.len
        clear HI hK hh HP HR r7 hown hfl hbw hb ht r' hsl hinb hlt hk HT hk5
        go_wp2
        go_ret
        rw [HF.out]
        exact ⟨_, rfl, own_lit wr w.heap.size _ [((h : Int), K)] rfl HB.out.size (by simp), bal HB.out _⟩
      · have hz' : ¬ (n7 : Int) = 0 := by omega
        by_cases h0 : h = 0
        · subst h0
          have HF : Hid (tno 0 K S = []) := by show _ = _; rw [tno, if_neg (by rw [r7.len]; exact hz)]
          clear HI hK hh HP HR r7 hown hfl hbw hb ht r' hsl hinb hlt hk HT hk5
          go_wp2
          go_ret
          rw [HF.out]
          exact ⟨_, rfl, World.ownsRow_nil _ _ _ _, HB.out⟩
        · have h0' : ¬ (h : Int) = 0 := by omega
          obtain ⟨g, hg⟩ : ∃ g, h = g + 1 := ⟨h - 1, by omega⟩
          subst hg
          have HF : Hid (tno (g + 1) K S = tno g (2 * K) (S.filter (inb (g + 1) K)) ++ tno g (2 * K + 1) (S.filter (inb (g + 1) K))) := by show _ = _; rw [tno, if_neg (by rw [r7.len]; exact hz)]
          have hKK := may_two (h := g) (k := K) (by omega) hK
          have hbig := may_big hK
          have l1 := tno_len g (2 * K) (S.filter (inb (g + 1) K))
          have l2 := tno_len g (2 * K + 1) (S.filter (inb (g + 1) K))
          have hp40 : pw g ≤ pw 40 := pw_le (by omega)
          have e40 : pw 40 = 2 ^ 40 := rfl
          have hn7 : n7 ≤ 5000 := by have := r7.len; omega
          have I1 := fun w' (hw : Below wr.heap.size wr w') => HI g (2 * K) (S.filter (inb (g + 1) K)) rfl (by omega) w' ao7 b7 0 n7 cap7 (r7.below hw) hn7
          have I2 := fun w' (hw : Below wr.heap.size wr w') => HI g (2 * K + 1) (S.filter (inb (g + 1) K)) rfl hKK w' ao7 b7 0 n7 cap7 (r7.below hw) hn7
          have HZ : Hid ((zl (tno g (2 * K) (S.filter (inb (g + 1) K)))).length + (zl (tno g (2 * K + 1) (S.filter (inb (g + 1) K)))).length ≤ 2199023255552) := by
            show _ ≤ _
            rw [zl_len, zl_len]; omega
          obtain ⟨p, hp⟩ : ∃ p, 2 * K = p := ⟨_, rfl⟩
          obtain ⟨q, hq⟩ : ∃ q, p + 1 = q := ⟨_, rfl⟩
          rw [hp] at I1 I2 HZ HF
          rw [hq] at I2 HZ HF
          have eh : IntKind.i64.wrap (((g + 1 : Nat) : Int) - 1) = (g : Int) := by rw [IntKind.wrap_i64]; omega
          have eg : (((g + 1 : Nat) : Int) - 1) = (g : Int) := by omega
          have eg2 : IntKind.i64.wrap (g : Int) = (g : Int) := by rw [IntKind.wrap_i64]; omega
          have ep : IntKind.u64.wrap (2 * (K : Int)) = (p : Int) := by rw [IntKind.wrap_u64]; omega
          have eq : IntKind.u64.wrap ((p : Int) + 1) = (q : Int) := by rw [IntKind.wrap_u64]; omega
          generalize S.filter (inb (g + 1) K) = F at *
          have b0 := Below.refl wr.heap.size wr
          clear HI hK hh HP HR r7 hown hfl hbw hb ht r' hsl hinb hlt hk HT hk5 hp hq l1 l2 hp40 e40 hKK hbig
          go_upto_region 14 with (first
            | (go_at_call 66; with_reducible refine (I1 _ b0).mono ?_; rintro e w2 ⟨v2, rfl, o2, hb2⟩; clear t0 t1; obtain ⟨t0, t1⟩ := HTW.out.below hb2)
            | (go_at_call 66; with_reducible refine (I2 _ hb2).mono ?_; rintro e w3 ⟨v3, rfl, o3, hb3⟩))
          have o23 := (ownB_next o2 hb3).mono (base' := w.heap.size) HB.out.size
          have hb := bnext (bnext HB.out hb2) hb3
          clear o2 hb2 hb3 I1 I2 t0 t1 HTW HB b0
          go_wp2_with (at_builtin; refine wpList_append_M _ rfl _ _ rfl w.heap.size v2 (zl (tno g p F)) rfl o23 v3 (zl (tno g q F)) rfl (rdc_own o3) HZ.out hb.size ?_)
          intro v' w4 r1 r2
          have R := ownB_step0 hb hb.size o23 r2
          go_wp2
          go_ret
          rw [HF.out, zl_app]
          exact ⟨_, rfl, r1, R.1⟩
theorem rwithout_any : ∀ (h K : Nat) (S : List Nat), h ≤ 40 → K < pw (40 - h) → Wo h K S := by
  intro h
  induction h with
  | zero => intro K S hh hK; exact rwithout_step 0 K S hh hK (fun g q M hg => by omega)
  | succ h ih =>
    intro K S hh hK
    exact rwithout_step (h + 1) K S hh hK (fun g q M hg hq => by
      obtain rfl : g = h := by omega
      exact ih q M (by omega) hq)
end Go.Proofs.YtnbejijpmeklaaaDoor.Cv
