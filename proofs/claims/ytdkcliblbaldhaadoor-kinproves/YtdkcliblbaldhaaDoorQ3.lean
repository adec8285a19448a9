/-
  JProvA, JProv, JRow, JProvR in one text. Own work.
-/
import Derived.Test.YtdkcliblbaldhaaDoorJRefB
import Derived.Test.YtdkcliblbaldhaaDoorJComp
import Derived.Test.YtdkcliblbaldhaaDoorFRefD
import Derived.Test.YtdkcliblbaldhaaDoorJRoots
import Derived.Test.YtdkcliblbaldhaaDoorJMem
import Derived.OpenShut
/-
  The reference's Of and Prove; both Proves answer alike. Own work.
-/
namespace Go.Proofs.YtdkcliblbaldhaaDoor
open Go.RowKit
open Cv (zl cU cov)
attribute [local go_sem ↓] Go.wp_at_zero Go.wp_at_succ
theorem chs_below {w w' : World} {B q gA : Nat} {vs : List Value} (h : ChS (Foot q gA vs) w w') (hf : ∀ b, Foot q gA vs b → B ≤ b) (hB : B ≤ w.heap.size) : Below B w w' :=
  ⟨h.os, h.tape, h.output, h.size, fun b hb => h.block b (by omega) fun hF => by have := hf b hF; omega⟩
set_option maxRecDepth 100000 in
set_option maxHeartbeats 1000000 in
theorem refof10_any (w : World) (ht : Tr w) (K : Int) (k1 : 1 ≤ K) (k2 : K ≤ 32) (ao : Option Addr) (b off cap : Nat) (L : List ByteArray) (hr : RdS w ao b off L.length L) (hmx : L.length ≤ 70) (hs : ∀ s ∈ L, s.size ≤ 100) :
    Calls Tryd.prog 55 #[.int .i64 K, .slice ao L.length cap] w fun e w' => ∃ gA cA vs, e = .returned (.pointer (some ⟨w.heap.size + 1, 0, none⟩)) ∧ Rf w' w.heap.size (w.heap.size + 1) K L gA cA vs ∧ Below w.heap.size w w' := by
  have HN := refnew_ok w K k1 k2
  have HT0 : Hid (∀ W, Below w.heap.size w W → Tr W) := fun W hb => ht.next hb
  have HR : Hid (∀ W, Below w.heap.size w W → RdS W ao b off L.length L) := fun W hb => hr.next hb (Nat.le_refl _)
  have HX := hide (And.intro hmx hs)
  have h63 : (L.length : Int) ≤ 70 := by omega
  clear ht hr hmx hs k1 k2
  go_enter Tryd.func55, Tryd.ntmps55
  go_wp2_with (go_at_call 77; with_reducible refine HN.mono ?_; rintro e w1 ⟨rfl, hF1, hb1⟩)
  have HF1 := hide hF1
  clear hF1 HN
  go_loopg [7] L.length (fun g i wr => ∃ j : Nat, j ≤ L.length ∧ g = L.length - j ∧ i = .int .i64 (j : Int) ∧ Hid (∃ gA cA vs, Rf wr w.heap.size (w.heap.size + 1) K (L.take j) gA cA vs) ∧ Below w.heap.size w wr)
  case atStart =>
    go_light
    exact ⟨0, Nat.zero_le _, rfl, rfl, ⟨_, _, _, HF1.out⟩, hb1⟩
  case round =>
    clear hb1 HF1
    obtain ⟨j, hj, rfl, rfl, HA, hb⟩ := hrel
    by_cases hlt : j < L.length
    · have hz : (j : Int) < (L.length : Int) := by omega
      have hz0 : (0 : Int) ≤ (j : Int) := Int.natCast_nonneg _
      obtain rfl := (HR.out wr hb).ptr (by omega)
      have cj := (HR.out wr hb).at hlt
      obtain ⟨x, hx⟩ : ∃ x, L.getD j ByteArray.empty = x := ⟨_, rfl⟩
      have htn := take_succ_getD ByteArray.empty L j hlt
      have zx := HX.out.2 _ (getD_mem hlt)
      rw [hx] at cj htn zx
      have hL : (L.take j).length < 65536 := by have := HX.out.1; rw [List.length_take]; omega
      obtain ⟨t, hT⟩ : ∃ t, tr 64 ((L.take j).length + 1) = t := ⟨_, rfl⟩
      obtain ⟨gA, cA, vs, hF⟩ := HA.out
      have HAp : Hid (Calls Tryd.prog 78 #[.pointer (some ⟨w.heap.size + 1, 0, none⟩), .string x] wr fun e w' => ∃ v, e = .returned (.tuple #[v, .int .i64 0]) ∧ (∃ gA cA vs, Rf w' w.heap.size (w.heap.size + 1) K (L.take (j + 1)) gA cA vs) ∧ Below w.heap.size w w') :=
        (refappend_ok wr (HT0.out wr hb) w.heap.size (w.heap.size + 1) K (L.take j) gA cA vs hF (fun W hf hc => HT0.out W (hb.trans (chs_below hc hf hb.size))) x (by omega) hL t hT).mono fun e w' ⟨v, gA', cA', vs', e1, e2, _, e4, _⟩ => ⟨v, e1, ⟨gA', cA', vs', by rw [htn]; exact e2⟩, hb.trans (chs_below e4 (fun b hb' => (hF.lv.foot hb').1) hb.size)⟩
      clear hx htn zx hL hT hb hF HA
      go_wp2_with (go_at_call 78; with_reducible refine HAp.out.mono ?_; rintro e w2 ⟨v, rfl, hF2, hb2⟩)
      go_roundg (L.length - (j + 1))
      case rel =>
        go_light
        exact ⟨j + 1, by omega, rfl, by go_num, hF2, hb2⟩
      case measure => go_light; omega
    · obtain rfl : j = L.length := by omega
      have hz : ¬ ((L.length : Int) < (L.length : Int)) := by omega
      rw [List.take_length] at HA
      obtain ⟨gA, cA, vs, hF⟩ := HA.out
      have HF := hide hF
      clear hlt HA hF
      go_wp2
      go_ret
      exact ⟨rfl, ⟨gA, cA, vs, HF.out⟩, hb⟩
/-- What Prove answers. -/
structure PV where
  kd : Int
  k : Int
  old : Nat
  size : Nat
  D : List ByteArray
  er : Nat
/-- What a Prove gives. -/
def PvE (p : PV) (B : Nat) (w0 : World) (e : Ending) (w' : World) : Prop := ∃ ad bd cd, e = .returned (.tuple #[.agg #[.int .i64 p.kd, .int .i64 p.k, .int .u64 (p.old : Int), .int .u64 (p.size : Int), .slice none 0 0, .slice ad p.D.length cd], .int .i64 (p.er : Int)]) ∧ RdS w' ad bd 0 p.D.length p.D ∧ p.D.length ≤ cd ∧ Below B w0 w'
theorem rds_none (w : World) : RdS w none 0 0 0 [] := ⟨rfl, fun h => absurd h (Nat.lt_irrefl 0), (fun j v h => by cases h), (fun s h => by cases h)⟩
set_option maxRecDepth 100000 in
set_option maxHeartbeats 1000000 in
theorem rkprove_any (w : World) (ht : Tr w) (K : Int) (k1 : 1 ≤ K) (k2 : K ≤ 32) (ao : Option Addr) (b off cap : Nat) (L : List ByteArray) (hr : RdS w ao b off L.length L) (hmx : L.length ≤ 70) (hs : ∀ s ∈ L, s.size ≤ 100) (m n : Nat) (p : PV) (hp : (L.length < n ∧ p = ⟨0, 0, 0, 0, [], 30⟩) ∨ (¬ L.length < n ∧ n < m ∧ p = ⟨0, 0, 0, 0, [], 41⟩) ∨ (¬ L.length < n ∧ ¬ n < m ∧ p = ⟨3, K, m, n, dgKn (clk K) L m n, 0⟩)) :
    Calls Tryd.prog 27 #[.int .i64 K, .slice ao L.length cap, .int .u64 (m : Int), .int .u64 (n : Int)] w (PvE p w.heap.size w) := by
  obtain ⟨o0, ho0⟩ : ∃ o0, zP = o0 := ⟨_, rfl⟩
  have hb := bal (Below.refl w.heap.size w) o0
  have HOf : Calls Tryd.prog 55 #[.int .i64 K, .slice ao L.length cap] (w.alloc o0) fun e w' => ∃ gA cA vs, e = .returned (.pointer (some ⟨w.heap.size + 1 + 1, 0, none⟩)) ∧ Rf w' (w.heap.size + 1) (w.heap.size + 1 + 1) K L gA cA vs ∧ Below (w.alloc o0).heap.size (w.alloc o0) w' := by
    have := refof10_any (w.alloc o0) (ht.next hb) K k1 k2 ao b off cap L (hr.next hb (Nat.le_refl _)) hmx hs
    rw [World.size_alloc] at this
    rw [World.size_alloc]
    exact this
  have h6 : Six (w.alloc o0) w.heap.size (.int .i64 0) (.int .i64 0) (.int .u64 0) (.int .u64 0) (.slice none 0 0) (.slice none 0 0) := by rw [← ho0]; exact six_new w _ _ _ _ _ _
  have HP : Hid (∀ W, Below (w.alloc o0).heap.size (w.alloc o0) W → Six W w.heap.size (.int .i64 0) (.int .i64 0) (.int .u64 0) (.int .u64 0) (.slice none 0 0) (.slice none 0 0) ∧ Below w.heap.size w W) := fun W hW => ⟨h6.next hW, bnext hb hW⟩
  rw [← ho0] at HOf HP
  unfold zP at HOf HP
  clear ht hr hs k1 k2 hb h6 ho0
  rcases hp with ⟨h1, rfl⟩ | ⟨h1, h2, rfl⟩ | ⟨h1, h2, rfl⟩
  · have z1 : (L.length : Int) < (n : Int) := by omega
    clear h1 hmx
    go_enter Tryd.func27, Tryd.ntmps27
    go_wp2_with (first
      | (go_at_call 55; with_reducible refine HOf.mono ?_; rintro e w1 ⟨gA, cA, vs, rfl, hF1, hb1⟩)
      | (go_at_call 56; with_reducible refine (refsize_any _ _ _ K L gA cA vs hF1).mono ?_; rintro e w2 ⟨rfl, hb2⟩; have h6 := (HP.out _ (bnext hb1 hb2)).1; obtain ⟨k0, k1, k2, k3, k4, k5⟩ := h6.cells; have f0 := h6.fz))
    have hF6 := h6.put (.int .i64 0) (.int .i64 0) (.int .u64 0) (.int .u64 0) (.slice none 0 0) (.slice none 0 0)
    have hch := put6_ch w2 w.heap.size (.int .i64 0) (.int .i64 0) (.int .u64 0) (.int .u64 0) (.slice none 0 0) (.slice none 0 0)
    unfold put6 at hF6 hch
    obtain ⟨s0, s1, s2, s3, s4, s5⟩ := hF6.cells
    refine bodyPost_ret (v := .tuple #[noP, .int .i64 30]) (by simp [results, Tryd.results27, go_sem, s0, s1, s2, s3, s4, s5]) rfl ?_
    exact ⟨none, 0, 0, rfl, rds_none _, Nat.le_refl _, (HP.out _ (bnext hb1 hb2)).2.trans (hch.below (by rintro b rfl; exact Nat.le_refl _))⟩
  · have z1 : ¬ (L.length : Int) < (n : Int) := by omega
    have z2 : (n : Int) < (m : Int) := by omega
    clear h1 h2 hmx
    go_enter Tryd.func27, Tryd.ntmps27
    go_wp2_with (first
      | (go_at_call 55; with_reducible refine HOf.mono ?_; rintro e w1 ⟨gA, cA, vs, rfl, hF1, hb1⟩)
      | (go_at_call 56; with_reducible refine (refsize_any _ _ _ K L gA cA vs hF1).mono ?_; rintro e w2 ⟨rfl, hb2⟩; have h6 := (HP.out _ (bnext hb1 hb2)).1; obtain ⟨k0, k1, k2, k3, k4, k5⟩ := h6.cells; have f0 := h6.fz))
    have hF6 := h6.put (.int .i64 0) (.int .i64 0) (.int .u64 0) (.int .u64 0) (.slice none 0 0) (.slice none 0 0)
    have hch := put6_ch w2 w.heap.size (.int .i64 0) (.int .i64 0) (.int .u64 0) (.int .u64 0) (.slice none 0 0) (.slice none 0 0)
    unfold put6 at hF6 hch
    obtain ⟨s0, s1, s2, s3, s4, s5⟩ := hF6.cells
    refine bodyPost_ret (v := .tuple #[noP, .int .i64 41]) (by simp [results, Tryd.results27, go_sem, s0, s1, s2, s3, s4, s5]) rfl ?_
    exact ⟨none, 0, 0, rfl, rds_none _, Nat.le_refl _, (HP.out _ (bnext hb1 hb2)).2.trans (hch.below (by rintro b rfl; exact Nat.le_refl _))⟩
  · have z1 : ¬ (L.length : Int) < (n : Int) := by omega
    have z2 : ¬ (n : Int) < (m : Int) := by omega
    have h40 : n ≤ 2 ^ 40 := by omega
    have hmn : m ≤ n := by omega
    have hin := kb_in hmn h40
    obtain ⟨C, hC⟩ : ∃ C, zl (kb m n) = C := ⟨_, rfl⟩
    have hlC : C.length ≤ 1000000 := by rw [← hC, Cv.zl_len]; have := kb_len hmn h40; omega
    obtain ⟨D, hD⟩ : ∃ D, dgKn (clk K) L m n = D := ⟨_, rfl⟩
    have HBk : Hid (∀ W, Calls Tryd.prog 51 #[.int .u64 (m : Int), .int .u64 (n : Int)] W fun e w' => ∃ ao g cap, e = .returned (.slice ao C.length cap) ∧ RdB w' ao g 0 C.length C ∧ Below W.heap.size W w') := fun W => by
      refine (rblocks_any W m n hmn h40).mono fun e w' ⟨v, e1, e2, e3⟩ => ?_
      rw [hC] at e2
      obtain ⟨ao, g, n', cap, rfl, hr', _⟩ := own_rdB e2 (fun x hx => by
        rw [← hC] at hx
        obtain ⟨b0, hb0, rfl⟩ := List.mem_map.1 hx
        exact (fit40 (hin b0 hb0) h40).1)
      obtain rfl := hr'.len
      exact ⟨ao, g, cap, e1, hr', e3⟩
    have hds : dgs (clk K) L C = some D := by rw [← hC, dgs_all (fun b hb => Nat.le_trans (hin b hb) (by omega)), ← hD]; rfl
    have HD : Hid (∀ W B q gA cA vs ao g cap, Rf W B q K L gA cA vs → RdB W ao g 0 C.length C → Calls Tryd.prog 57 #[.pointer (some ⟨q, 0, none⟩), .slice ao C.length cap] W fun e w' => Below W.heap.size W w' ∧ ∃ ad bd cd, e = .returned (.tuple #[.slice ad D.length cd, .bool true]) ∧ RdS w' ad bd 0 D.length D ∧ D.length ≤ cd ∧ OwnS w' W.heap.size (.slice ad D.length cd) D) := fun W B q gA cA vs ao g cap hF hr => by
      refine (refdigests_any W B q K L gA cA vs hF ao g 0 cap C hr (by omega)).mono ?_
      rintro e w' ⟨hb', ⟨h1, _⟩ | ⟨D', h1, v, rfl, ho⟩⟩
      · rw [hds] at h1; cases h1
      · rw [hds] at h1
        injection h1 with h1
        subst h1
        obtain ⟨ad, bd, cd, rfl, r3, hcd, hnd⟩ := owns_rds ho (fun s hs => by rw [← hD] at hs; rw [dgKn_size (clk_le K) _ _ _ s hs]; have := clk_le K; omega)
        exact ⟨hb', ad, bd, cd, rfl, r3, hcd, ho⟩
    clear h1 h2 hmx h40 hmn hin hC hlC hds
    rw [hD]
    clear hD
    go_enter Tryd.func27, Tryd.ntmps27
    go_upto_region 7 with (first
      | (go_at_call 55; with_reducible refine HOf.mono ?_; rintro e w1 ⟨gA, cA, vs, rfl, hF1, hb1⟩)
      | (go_at_call 56; with_reducible refine (refsize_any _ _ _ K L gA cA vs hF1).mono ?_; rintro e w2 ⟨rfl, hb2⟩)
      | (go_at_call 51; with_reducible refine (HBk.out _).mono ?_; rintro e w3 ⟨ab, gb, cb, rfl, hB3, hb3⟩)
      | (go_at_call 57; with_reducible refine (HD.out _ _ _ _ _ _ _ _ _ ((hF1.next hb2).next hb3) hB3).mono ?_; rintro e w4 ⟨hb4, ad, bd, cd, rfl, hR4, hcd, hO4⟩))
    have hF4 := ((hF1.next hb2).next hb3).next hb4
    obtain ⟨c0, _⟩ := hF4.lv.cells
    have hbx := bnext (bnext (bnext hb1 hb2) hb3) hb4
    have h6 := (HP.out _ hbx).1
    obtain ⟨k0, k1, k2, k3, k4, k5⟩ := h6.cells
    have f0 := h6.fz
    have hF6 := h6.put (.int .i64 3) (.int .i64 K) (.int .u64 (m : Int)) (.int .u64 (n : Int)) (.slice none 0 0) (.slice ad D.length cd)
    have hch := put6_ch w4 w.heap.size (.int .i64 3) (.int .i64 K) (.int .u64 (m : Int)) (.int .u64 (n : Int)) (.slice none 0 0) (.slice ad D.length cd)
    have hsz := (bnext (bnext hb1 hb2) hb3).size
    rw [World.size_alloc] at hsz
    unfold put6 at hF6 hch
    obtain ⟨s0, s1, s2, s3, s4, s5⟩ := hF6.cells
    go_wp2
    refine bodyPost_ret (v := .tuple #[.agg #[.int .i64 3, .int .i64 K, .int .u64 (m : Int), .int .u64 (n : Int), .slice none 0 0, .slice ad D.length cd], .int .i64 0]) (by simp [results, Tryd.results27, go_sem, s0, s1, s2, s3, s4, s5]) rfl ?_
    have hO5 := keep_row hO4 fun g _ hg => hch.block g (by show ¬ _ = _; omega)
    obtain ⟨ad', bd', cd', e1, r5, hcd5, _⟩ := owns_rds hO5 hR4.sz
    obtain ⟨rfl, _, rfl⟩ := Value.slice.inj e1
    exact ⟨ad, bd', cd, rfl, r5, hcd5, (HP.out _ hbx).2.trans (hch.below (by rintro b rfl; exact Nat.le_refl _))⟩
/-- Both Proves answer alike. -/
theorem pboth (K : Int) (k1 : 1 ≤ K) (k2 : K ≤ 32) (L : List ByteArray) (hL : L.length ≤ 70) (hs : ∀ s ∈ L, s.size ≤ 100) (m n : Nat) : ∃ p : PV,
    (∀ W f, Frs W f K L → Calls Tryd.prog 12 #[.pointer (some ⟨f + 1, 0, none⟩), .int .u64 (m : Int), .int .u64 (n : Int)] W (PvE p W.heap.size W)) ∧
    (∀ W av bv cv, Tr W → RdS W av bv 0 L.length L → Calls Tryd.prog 27 #[.int .i64 K, .slice av L.length cv, .int .u64 (m : Int), .int .u64 (n : Int)] W (PvE p W.heap.size W)) ∧ p.D.length ≤ 1000 := by
  by_cases h1 : L.length < n
  · exact ⟨⟨0, 0, 0, 0, [], 30⟩, fun W f hF => (kprove_size W f K L hF m n h1).mono fun e w' ⟨e1, e2⟩ => ⟨none, 0, 0, e1, rds_none _, Nat.le_refl _, e2⟩, fun W av bv cv hT hR => rkprove_any W hT K k1 k2 av bv 0 cv L hR hL hs m n _ (.inl ⟨h1, rfl⟩), Nat.zero_le _⟩
  · by_cases h2 : n < m
    · exact ⟨⟨0, 0, 0, 0, [], 41⟩, fun W f hF => (kprove_order W f K L hF m n h1 h2).mono fun e w' ⟨e1, e2⟩ => ⟨none, 0, 0, e1, rds_none _, Nat.le_refl _, e2⟩, fun W av bv cv hT hR => rkprove_any W hT K k1 k2 av bv 0 cv L hR hL hs m n _ (.inr (.inl ⟨h1, h2, rfl⟩)), Nat.zero_le _⟩
    · refine ⟨⟨3, K, m, n, dgKn (clk K) L m n, 0⟩, fun W f hF => (kprove_rd W f K L hF (by omega) m n (by omega) (by omega) _ rfl).mono fun e w' ⟨ad, bd, cd, e1, e2, e3, _, _, e4⟩ => ⟨ad, bd, cd, e1, e2, e3, e4⟩, fun W av bv cv hT hR => rkprove_any W hT K k1 k2 av bv 0 cv L hR hL hs m n _ (.inr (.inr ⟨h1, h2, rfl⟩)), ?_⟩
      show (dgKn (clk K) L m n).length ≤ 1000
      rw [dgKn_len]
      have := kb_len (m := m) (n := n) (by omega) (by omega)
      omega
end Go.Proofs.YtdkcliblbaldhaaDoor
/-
  KinProves: of every list and any two sizes. Own work.
-/
namespace Go.Proofs.YtdkcliblbaldhaaDoor
open Go.RowKit
open Cv (cU)
attribute [local go_sem ↓] Go.wp_at_zero Go.wp_at_succ
theorem rdu_none (w : World) : RdU w none 0 0 0 [] := ⟨rfl, fun h => absurd h (Nat.lt_irrefl 0), (fun j v h => by cases h)⟩
theorem rdu_none' (w : World) : RdU w none 0 0 ([] : List Nat).length [] := rdu_none w
set_option maxRecDepth 100000 in
set_option maxHeartbeats 4000000 in
theorem proves_walk (w : World) (ht : Tb w) (htr : Tr w) (k : Int) (ao : Option Addr) (b off len cap : Nat) (L : List ByteArray) (rd : RdS w ao b off len L) (hm : len ≤ 8796093022208) (m n : Nat) :
    Calls Tryd.prog 7 #[.int .i64 k, .slice ao len cap, .agg #[.int .u64 (m : Int), .int .u64 (n : Int)]] w fun e w' => e = .returned (.bool true) ∧ Below w.heap.size w w' := by
  have hb := bal (Below.refl w.heap.size w) (.cells #[.int .u64 (m : Int), .int .u64 (n : Int)] 60)
  have hx : (w.alloc (.cells #[.int .u64 (m : Int), .int .u64 (n : Int)] 60)).heap[w.heap.size]? = some (.cells #[.int .u64 (m : Int), .int .u64 (n : Int)] 60 (0, 0)) := heap_alloc_new w _
  obtain ⟨W0, hW0⟩ : ∃ W0, w.alloc (.cells #[.int .u64 (m : Int), .int .u64 (n : Int)] 60) = W0 := ⟨_, rfl⟩
  rw [hW0] at hb hx
  have HA := alive_any W0 (ht.next hb)
  obtain ⟨K, hK⟩ : ∃ K, stg k = K := ⟨_, rfl⟩
  have hK1 := stg_in k
  rw [hK] at hK1
  have HSg : Hid (∀ W, Calls Tryd.prog 9 #[.int .i64 k] W fun e w' => e = .returned (.int .i64 K) ∧ W = w') := fun W => strength_any W k K hK
  obtain ⟨T, hT⟩ : ∃ T, lst L = T := ⟨_, rfl⟩
  have hTl : T.length ≤ 70 := by rw [← hT]; exact lst_len L
  have hTs : ∀ s ∈ T, s.size ≤ 100 := by rw [← hT]; exact lst_size L
  have HFw : Hid (∀ W, Below w.heap.size w W → Calls Tryd.prog 10 #[.slice ao len cap] W fun e w' => ∃ av bv cv, e = .returned (.slice av T.length cv) ∧ RdS w' av bv 0 T.length T ∧ Below W.heap.size W w') := fun W hb => (few_any W ao b off len cap L (rd.next hb (Nat.le_refl _)) hm T hT).mono fun e w' ⟨v, e1, e2, e3⟩ => by
    obtain ⟨av, bv, cv, rfl, r, _, _⟩ := owns_rds e2 (fun s hs => by have := hTs s hs; omega)
    exact ⟨av, bv, cv, e1, r, e3⟩
  have HGr : Hid (∀ W av bv cv, Below w.heap.size w W → RdS W av bv 0 T.length T → Calls Tryd.prog 11 #[.int .i64 K, .slice av T.length cv] W fun e w' => e = .returned (.pointer (some ⟨W.heap.size + 1, 0, none⟩)) ∧ Frs w' W.heap.size K T ∧ Below W.heap.size W w') := fun W av bv cv hb hr => grown_any W (ht.next hb) K hK1.1 hK1.2 av bv 0 T.length cv T hr hTl hTs
  have HT : Hid (∀ W, Below w.heap.size w W → Tb W ∧ Tr W) := fun W hb => ⟨ht.next hb, htr.next hb⟩
  have HC : Hid (∀ W, Below W0.heap.size W0 W → W.cell? ⟨w.heap.size, 0, none⟩ = some (.int .u64 (m : Int)) ∧ W.cell? ⟨w.heap.size, 1, none⟩ = some (.int .u64 (n : Int)) ∧ Below w.heap.size w W) := fun W hW => by
    have h := (hW.block w.heap.size (Array.getElem?_eq_some_iff.1 hx).1).trans hx
    exact ⟨by rw [cell_of_row W w.heap.size 0 _ _ (0, 0) h]; rfl, by rw [cell_of_row W w.heap.size 1 _ _ (0, 0) h]; rfl, bnext hb hW⟩
  obtain ⟨⟨kd, k', old, size, D, er⟩, hP1, hP2, hDl⟩ := pboth K hK1.1 hK1.2 T hTl hTs m n
  unfold PvE at hP1 hP2
  dsimp only at hP1 hP2 hDl
  have HP1 := hide hP1
  have HP2 := hide hP2
  obtain ⟨n1, d1, n2, d2, er2, hR1, hR2⟩ := kboth kd k' old size 0 D (by omega)
  unfold vP at hR1 hR2
  have HR1 := hide hR1
  have HR2 := hide hR2
  have HSm : Hid (∀ W da db dc ea eb ec, RdS W da db 0 D.length D → RdS W ea eb 0 D.length D → Calls Tryd.prog 21 #[.agg #[.int .i64 kd, .int .i64 k', .int .u64 (old : Int), .int .u64 (size : Int), .slice none 0 0, .slice da D.length dc], .agg #[.int .i64 kd, .int .i64 k', .int .u64 (old : Int), .int .u64 (size : Int), .slice none 0 0, .slice ea D.length ec]] W fun e w' => e = .returned (.bool true) ∧ Below W.heap.size W w') := fun W da db dc ea eb ec h1 h2 => same_yes W kd k' old size none 0 0 0 none 0 0 0 [] (rdu_none' W) (rdu_none' W) (by decide) da db 0 dc ea eb 0 ec D h1 h2 (by omega)
  clear ht htr rd hm hK hK1 hT hTl hTs hb hx hP1 hP2 hR1 hR2 hDl
  go_enter Tryd.func7, Tryd.ntmps7
  go_upto_region 8 with (first
    | (go_at_call 8; with_reducible refine HA.mono ?_; rintro e w1 ⟨rfl, hb1⟩)
    | (go_at_call 9; with_reducible refine (HSg.out _).mono ?_; rintro e w2 ⟨rfl, rfl⟩)
    | (go_at_call 10; with_reducible refine (HFw.out _ (HC.out _ hb1).2.2).mono ?_; rintro e w3 ⟨av, bv, cv, rfl, hR3, hb3⟩)
    | (go_at_call 11; with_reducible refine (HGr.out _ _ _ _ (HC.out _ (bnext hb1 hb3)).2.2 hR3).mono ?_; rintro e w4 ⟨rfl, hF4, hb4⟩))
  have hb04 := bnext (bnext hb1 hb3) hb4
  have hR4 := hR3.next hb4 (Nat.le_refl _)
  have HX4 : Hid (∀ W, Below w4.heap.size w4 W → W.cell? ⟨w.heap.size, 0, none⟩ = some (.int .u64 (m : Int)) ∧ W.cell? ⟨w.heap.size, 1, none⟩ = some (.int .u64 (n : Int)) ∧ Below w.heap.size w W ∧ RdS W av bv 0 T.length T) := fun W hW => by
    obtain ⟨c1, c2, c3⟩ := HC.out W (bnext hb04 hW)
    exact ⟨c1, c2, c3, hR4.next hW (Nat.le_refl _)⟩
  have HF4 := hide hF4
  generalize w3.heap.size = fm at *
  have hbr := Below.refl w4.heap.size w4
  obtain ⟨c0, c1, _, _⟩ := HX4.out w4 hbr
  clear HA HSg HFw HGr hF4 hb4 hR3 hb3 hb1 hR4 HC hb04
  go_upto_region 9 with (go_at_call 12; with_reducible refine (HP1.out _ _ HF4.out).mono ?_; rintro e w5 ⟨ad, bd, cd, rfl, hR5, hcd, hb5⟩)
  have y5 := six_new w5 (.int .i64 kd) (.int .i64 k') (.int .u64 (old : Int)) (.int .u64 (size : Int)) (.slice none 0 0) (.slice ad D.length cd)
  have t6 := bal (Below.refl w5.heap.size w5) (.cells #[.int .i64 kd, .int .i64 k', .int .u64 (old : Int), .int .u64 (size : Int), .slice none 0 0, .slice ad D.length cd] 32)
  obtain ⟨w6, hw6⟩ : ∃ w6, w5.alloc (.cells #[.int .i64 kd, .int .i64 k', .int .u64 (old : Int), .int .u64 (size : Int), .slice none 0 0, .slice ad D.length cd] 32) = w6 := ⟨_, rfl⟩
  rw [hw6] at y5 t6 ⊢
  have hb6 := bnext hb5 t6
  have hR6 := hR5.next t6 (Nat.le_refl _)
  obtain ⟨c0, c1, hbw6, hRT6⟩ := HX4.out w6 hb6
  generalize w5.heap.size = q5 at *
  clear hw6 t6 hb5 hR5 HF4 HP1
  go_upto_region 10 with (go_at_call 27; with_reducible refine (HP2.out _ _ _ _ (HT.out _ hbw6).2 hRT6).mono ?_; rintro e w7 ⟨ae, be, ce, rfl, hR7, hce, hb7⟩)
  have y7 := six_new w7 (.int .i64 kd) (.int .i64 k') (.int .u64 (old : Int)) (.int .u64 (size : Int)) (.slice none 0 0) (.slice ae D.length ce)
  have t8 := bal (Below.refl w7.heap.size w7) (.cells #[.int .i64 kd, .int .i64 k', .int .u64 (old : Int), .int .u64 (size : Int), .slice none 0 0, .slice ae D.length ce] 32)
  obtain ⟨w8, hw8⟩ : ∃ w8, w7.alloc (.cells #[.int .i64 kd, .int .i64 k', .int .u64 (old : Int), .int .u64 (size : Int), .slice none 0 0, .slice ae D.length ce] 32) = w8 := ⟨_, rfl⟩
  rw [hw8] at y7 t8 ⊢
  have hb8 := bnext hb7 t8
  have HX8 : Hid (∀ W, Below w8.heap.size w8 W → Six W q5 (.int .i64 kd) (.int .i64 k') (.int .u64 (old : Int)) (.int .u64 (size : Int)) (.slice none 0 0) (.slice ad D.length cd) ∧ Six W w7.heap.size (.int .i64 kd) (.int .i64 k') (.int .u64 (old : Int)) (.int .u64 (size : Int)) (.slice none 0 0) (.slice ae D.length ce) ∧ RdS W ad bd 0 D.length D ∧ RdS W ae be 0 D.length D ∧ Below w.heap.size w W) := fun W hW => ⟨(y5.next hb8).next hW, y7.next hW, (hR6.next hb8 (Nat.le_refl _)).next hW (Nat.le_refl _), (hR7.next t8 (Nat.le_refl _)).next hW (Nat.le_refl _), bnext (bnext hbw6 hb8) hW⟩
  generalize w7.heap.size = q7 at *
  have hbs := Below.refl w8.heap.size w8
  have hX8 := HX8.out w8 hbs
  obtain ⟨e0, e1, e2, e3, e4, e5⟩ := hX8.1.cells
  obtain ⟨f0, f1, f2, f3, f4, f5⟩ := hX8.2.1.cells
  clear hw8 t8 hb7 hR7 HX4 HP2 hb8 y5 y7 hR6 hRT6 hb6 c0 c1 hbw6
  go_upto_region 12 with (first
    | (go_at_call 16; with_reducible refine (num_id _ _).mono ?_; rintro e wn ⟨rfl, rfl⟩)
    | (go_at_call 21; with_reducible refine (HSm.out _ _ _ _ _ _ _ hX8.2.2.1 hX8.2.2.2.1).mono ?_; rintro e w9 ⟨rfl, hb9⟩))
  have hX9 := HX8.out w9 hb9
  obtain ⟨e0, e1, e2, e3, e4, e5⟩ := hX9.1.cells
  clear f0 f1 f2 f3 f4 f5 HSm
  go_upto_region 13 with (go_at_call 13; with_reducible refine (HR1.out _ _ _ _ bd 0 _ (HT.out _ hX9.2.2.2.2).1 hX9.2.2.1 hcd).mono ?_; rintro e w10 ⟨rfl, hb10⟩)
  have t11 := bal (bal hb10 (.cells #[.int .u64 (n1 : Int), .string d1] 37)) (.cells #[.int .u64 (n2 : Int), .string d2] 37)
  have y1 := (rh_new w10 n1 d1).next (bal (Below.refl _ _) (.cells #[.int .u64 (n2 : Int), .string d2] 37))
  have y2 := rh_new (w10.alloc (.cells #[.int .u64 (n1 : Int), .string d1] 37)) n2 d2
  rw [World.size_alloc] at y2
  obtain ⟨w11, hw11⟩ : ∃ w11, (w10.alloc (.cells #[.int .u64 (n1 : Int), .string d1] 37)).alloc (.cells #[.int .u64 (n2 : Int), .string d2] 37) = w11 := ⟨_, rfl⟩
  rw [hw11] at y1 y2 t11 ⊢
  have hX11 := HX8.out w11 (bnext hb9 t11)
  obtain ⟨f0, f1, f2, f3, f4, f5⟩ := hX11.2.1.cells
  clear hw11 hb10 e0 e1 e2 e3 e4 e5 hX9 hX8
  go_upto_region 14 with (go_at_call 25; with_reducible refine (HR2.out _ _ _ _ be 0 _ (HT.out _ hX11.2.2.2.2).2 hX11.2.2.2.1 hce).mono ?_; rintro e w12 ⟨rfl, hb12⟩)
  have t13 := bal (bal hb12 (.cells #[.int .u64 (n1 : Int), .string d1] 37)) (.cells #[.int .u64 (n2 : Int), .string d2] 37)
  have y3 := (rh_new w12 n1 d1).next (bal (Below.refl _ _) (.cells #[.int .u64 (n2 : Int), .string d2] 37))
  have y4 := rh_new (w12.alloc (.cells #[.int .u64 (n1 : Int), .string d1] 37)) n2 d2
  rw [World.size_alloc] at y4
  obtain ⟨w13, hw13⟩ : ∃ w13, (w12.alloc (.cells #[.int .u64 (n1 : Int), .string d1] 37)).alloc (.cells #[.int .u64 (n2 : Int), .string d2] 37) = w13 := ⟨_, rfl⟩
  rw [hw13] at y3 y4 t13 ⊢
  have y1 := y1.next t13
  have y2 := y2.next t13
  have hbF := (HX8.out w13 (bnext (bnext hb9 t11) t13)).2.2.2.2
  generalize w10.heap.size = q10 at *
  generalize w12.heap.size = q12 at *
  obtain ⟨a1, a2⟩ := y1.cells
  obtain ⟨a3, a4⟩ := y2.cells
  obtain ⟨a5, a6⟩ := y3.cells
  obtain ⟨a7, a8⟩ := y4.cells
  clear y1 y2 y3 y4 t13 t11 hb12 hw13 hX11 HX8 f0 f1 f2 f3 f4 f5 HR1 HR2
  go_wp2_with (go_at_call 16; with_reducible refine (num_id _ _).mono ?_; rintro e wn ⟨rfl, rfl⟩)
  go_ret
  exact ⟨rfl, hbF⟩
end Go.Proofs.YtdkcliblbaldhaaDoor
/-
  Numbers that are read (off path's texts). Own work.
-/
namespace Go.Proofs.YtdkcliblbaldhaaDoor
open Go.RowKit
theorem u64_nat {a : Int} (wf : (Lit.int .u64 a).wf = true) : ∃ n : Nat, a = (n : Int) ∧ n < 18446744073709551616 := by
  have := bounds_u64 wf
  exact ⟨a.toNat, by omega, by omega⟩
end Go.Proofs.YtdkcliblbaldhaaDoor
/-
  KinProves, as its row asks. Own work.
-/
namespace Go.Proofs.YtdkcliblbaldhaaDoor
open Go.RowKit
theorem proves_row (w : World) (ht : Tb w) (htr : Tr w) (k : Int) (ao : Option Addr) (b off len cap : Nat) (L : List ByteArray) (rd : RdS w ao b off len L) (hm : len ≤ 8796093021952) (a c : Int) (wa : (Lit.int .u64 a).wf = true) (wc : (Lit.int .u64 c).wf = true) :
    Calls Tryd.prog 7 #[.int .i64 k, .slice ao len cap, .agg #[.int .u64 a, .int .u64 c]] w fun e w' => e = .returned (.bool true) ∧ Below w.heap.size w w' := by
  obtain ⟨m, rfl, _⟩ := u64_nat wa
  obtain ⟨n, rfl, _⟩ := u64_nat wc
  exact proves_walk w ht htr k ao b off len cap L rd (by omega) m n
end Go.Proofs.YtdkcliblbaldhaaDoor
