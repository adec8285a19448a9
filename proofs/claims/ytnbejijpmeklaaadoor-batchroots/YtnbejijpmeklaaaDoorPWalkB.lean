/-
  Walks of package plain: Peaks, Root. Own work.
-/
import Derived.Test.YtnbejijpmeklaaaDoorPWalkA
namespace Go.Proofs.YtnbejijpmeklaaaDoor
open Go.RowKit
attribute [local go_sem ↓] Go.wp_at_zero Go.wp_at_succ
theorem RdS.take {w : World} {ao : Option Addr} {b off len : Nat} {ss : List ByteArray} (h : RdS w ao b off len ss) {n : Nat} (hn : n ≤ len) : RdS w ao b off n (ss.take n) := by
  refine ⟨by rw [List.length_take, h.hl]; omega, fun h0 => h.ptr (by omega), fun j v hv => ?_, fun s hs => h.sz s (List.mem_of_mem_take hs)⟩
  rw [List.map_take, List.getElem?_take] at hv
  split at hv
  · exact h.rng j v hv
  · cases hv
theorem small {c : Nat} (hc : c ≤ 32) {L : List ByteArray} {h : Nat} : ∀ s ∈ pks c L h, s.size ≤ 140737488351232 := fun s hs => by rw [pks_size hc L h s hs]; omega
set_option maxRecDepth 100000 in
theorem peaks_at (w : World) (ht : Tb w) (k : Int) (ao : Option Addr) (b off len cap : Nat) (L : List ByteArray) (hr : RdS w ao b off len L) (hsz : ∀ s ∈ L, s.size ≤ 140737488351232) (hmx : len ≤ 8796093022208) (P : List ByteArray) (q : Nat) (hq : q = 41) (hP : Hid (pks (clk k) L q = P)) :
    Calls Tryd.prog 39 #[.int .i64 k, .slice ao len cap] w fun e w' => ∃ v, e = .returned v ∧ OwnS w' w.heap.size v P ∧ Below w.heap.size w w' := by
  have HT : Hid (Tb w ∧ RdS w ao b off len L ∧ (∀ s ∈ L, s.size ≤ 140737488351232) ∧ len ≤ 8796093022208) := ⟨ht, hr, hsz, hmx⟩
  have hb := Below.refl w.heap.size w
  have HS : Hid ([] ++ pks (clk k) L 41 = P) := by rw [← hq]; exact hP
  have hPl : P.length ≤ 41 := by rw [← hP.out, ← hq]; exact pks_len (clk k) L q
  have HPl := hide hPl
  clear ht hr hsz hmx hq hP hPl
  go_enter Tryd.func39, Tryd.ntmps39
  go_wp2
  go_loopg [5, 6] 41 (fun g v i wr => ∃ (j : Nat) (A : List ByteArray), j = g ∧ i = .int .i64 ((j : Int) - 1) ∧ j ≤ 41 ∧ A.length ≤ 41 ∧ Hid (A ++ pks (clk k) L j = P) ∧ OwnS wr w.heap.size v A ∧ Below w.heap.size w wr)
  case atStart =>
    go_light
    exact ⟨41, [], rfl, by go_num, Nat.le_refl _, by simp, HS.out, owns_nil w _, hb⟩
  case round =>
    clear hb
    obtain ⟨j, A, hg, rfl, hj, hA, HE, ho, hb⟩ := hrel
    subst hg
    cases j with
    | zero =>
      have hz : ¬ ((0 : Int) ≤ -1) := by decide
      rw [show ((0 : Nat) : Int) - 1 = -1 from rfl]
      have HF : Hid (A = P) := by
        have := HE.out
        rw [pks, List.append_nil] at this
        exact this
      clear HE HT
      go_wp2
      go_ret
      exact ⟨_, rfl, by rw [← HF.out]; exact ho, hb⟩
    | succ j =>
      have e1 : ((j + 1 : Nat) : Int) - 1 = (j : Int) := by omega
      have hz : (0 : Int) ≤ (j : Int) := by omega
      rw [e1]
      obtain ⟨m, hm⟩ : ∃ m, len / 2 ^ j = m := ⟨_, rfl⟩
      have hml : m ≤ len := by rw [← hm]; exact Nat.div_le_self _ _
      have HBk : Hid (∀ W, Calls Tryd.prog 40 #[.slice ao len cap, .int .i64 (j : Int)] W fun e w' => e = .returned (.int .u64 (m : Int)) ∧ w' = W) := fun W => blocks_any W ao len cap j (by omega) HT.out.2.2.2 m hm
      have HO : Hid (OwnS wr w.heap.size _ A) := ho
      have hL := HT.out.2.1.hl
      by_cases hodd : m % 2 = 1
      · obtain ⟨x, hx⟩ : ∃ x, nd (clk k) L j (m - 1) = x := ⟨_, rfl⟩
        have HE2 : Hid ((A ++ [x]) ++ pks (clk k) L j = P) := by
          show _ = _
          rw [← HE.out, pks_one (by rw [hL, hm]; exact hodd), hL, hm, hx]; simp
        have zx : x.size ≤ 9223372036854775807 := by rw [← hx, nd_size (clk_le k)]; have := clk_le k; omega
        have hlen2 : A.length + 1 ≤ 41 := by
          have := congrArg List.length HE2.out
          have h41 := HPl.out
          simp at *
          omega
        obtain ⟨p, rfl⟩ : ∃ p, m = p + 1 := ⟨m - 1, by omega⟩
        rw [Nat.add_sub_cancel] at hx
        have HN : Hid (∀ W, Below w.heap.size w W → Calls Tryd.prog 41 #[.int .i64 k, .slice ao len cap, .agg #[.int .i64 (j : Int), .int .u64 (p : Int)]] W fun e w' => e = .returned (.string x) ∧ Below W.heap.size W w') := fun W hb => by
          obtain ⟨t1, t2, t3, t4⟩ := HT.out
          exact pnode_any k ao b off len cap L t3 t4 j (by omega) p W x (t1.next hb) (t2.next hb (Nat.le_refl _)) (within.1 (by omega)) hx
        have hp : IntKind.u64.wrap (p : Int) = (p : Int) := wrap_u _ (by omega) (by have := HT.out.2.2.2; omega)
        have ho2 : ((p : Int) + 1) % 2 = 1 := by omega
        have HB0 : Hid (Below w.heap.size w wr) := hb
        have HL2 : Hid (A.length + 1 ≤ 41) := hlen2
        have HZ : Hid (x.size ≤ 9223372036854775807) := zx
        clear HE hx hm hml hodd zx hL ho hlen2 hA
        go_wp2_with (first
          | (go_at_call 40; with_reducible refine (HBk.out _).mono ?_; rintro e w1 ⟨rfl, rfl⟩)
          | (go_at_call 41; with_reducible refine (HN.out _ hb).mono ?_; rintro e w2 ⟨rfl, hb2⟩)
          | (at_builtin; refine wpList_append_S _ rfl _ _ rfl w.heap.size _ A rfl (own_al (own_next HO.out hb2 (Nat.le_refl _)) _) (some ⟨w2.heap.size, 0, none⟩) w2.heap.size 0 1 [x] rfl (rds_one w2 x HZ.out) (fun h => by cases h) ?c1 ?c2 ?_))
        case c1 => have := HL2.out; simp; omega
        case c2 => have := (bnext hb hb2).size; simp; omega
        intro v2 w3 h3 hb3
        have HX : Hid (OwnS w3 w.heap.size v2 (A ++ [x]) ∧ Below w.heap.size w w3) := ⟨h3, (bal (bnext hb hb2) _).trans hb3⟩
        clear h3 hb3 hb2
        go_wp2
        go_roundg j
        case rel =>
          go_light
          exact ⟨j, A ++ [x], rfl, by go_num, by omega, by have := HL2.out; simp; omega, HE2, HX.out.1, HX.out.2⟩
        case measure => go_light; omega
      · have ho2 : ¬ ((m : Int) % 2 = 1) := by omega
        have HE2 : Hid (A ++ pks (clk k) L j = P) := by
          show _ = _
          rw [← HE.out, pks_none (by rw [hL, hm]; exact hodd)]
        clear HE hm hml hodd hL ho
        go_wp2_with (go_at_call 40; with_reducible refine (HBk.out _).mono ?_; rintro e w1 ⟨rfl, rfl⟩)
        go_roundg j
        case rel =>
          go_light
          exact ⟨j, A, rfl, by go_num, by omega, hA, HE2, HO.out, hb⟩
        case measure => go_light; omega
theorem peaks_any (w : World) (ht : Tb w) (k : Int) (ao : Option Addr) (b off len cap : Nat) (L : List ByteArray) (hr : RdS w ao b off len L) (hsz : ∀ s ∈ L, s.size ≤ 140737488351232) (hmx : len ≤ 8796093022208) (P : List ByteArray) (hP : Hid (pks (clk k) L 41 = P)) :
    Calls Tryd.prog 39 #[.int .i64 k, .slice ao len cap] w fun e w' => ∃ v, e = .returned v ∧ OwnS w' w.heap.size v P ∧ Below w.heap.size w w' := peaks_at w ht k ao b off len cap L hr hsz hmx P 41 rfl hP
theorem chk_ok {k : Int} (h1 : 1 ≤ k) (h2 : k ≤ 32) : chk k = 0 := by rw [chk, if_neg (by omega)]
theorem chk_no {k : Int} (h : k < 1 ∨ 32 < k) : chk k = 70 := by rw [chk, if_pos h]
/-- A root lies in two cells. -/
structure Rt (w : World) (g n : Nat) (d : ByteArray) : Prop where
  c0 : w.cell? ⟨g, 0, none⟩ = some (.int .u64 (n : Int))
  c1 : w.cell? ⟨g, 1, none⟩ = some (.string d)
  f0 : w.frozen? ⟨g, 0, none⟩ = false
  f1 : w.frozen? ⟨g, 1, none⟩ = false
theorem Rt.below {w w' : World} {B g n : Nat} {d : ByteArray} (t : Rt w g n d) (hb : Below B w w') (hg : g < B) : Rt w' g n d :=
  ⟨(hb.cell (p := ⟨g, 0, none⟩) hg).trans t.c0, (hb.cell (p := ⟨g, 1, none⟩) hg).trans t.c1, (hb.frozen (p := ⟨g, 0, none⟩) hg).trans t.f0, (hb.frozen (p := ⟨g, 1, none⟩) hg).trans t.f1⟩
theorem rt_new (w : World) (n : Nat) (d : ByteArray) (t : Nat) : Rt (w.alloc (.cells #[.int .u64 (n : Int), .string d] t)) w.heap.size n d := by
  refine ⟨?_, ?_, ?_, ?_⟩ <;> simp
set_option maxRecDepth 100000 in
theorem proot_bad (w : World) (k : Int) (hk : k < 1 ∨ 32 < k) (ao : Option Addr) (len cap n : Nat) :
    Calls Tryd.prog 15 #[.int .i64 k, .slice ao len cap, .int .u64 (n : Int)] w fun e w' => e = .returned (.tuple #[.agg #[.int .u64 0, .string ⟨#[]⟩], .int .i64 70]) ∧ Below w.heap.size w w' := by
  have HC := fun W => check_any W k
  rw [chk_no hk] at HC
  have hb := Below.refl w.heap.size w
  clear hk
  go_enter Tryd.func15, Tryd.ntmps15
  go_wp2_with (go_at_call 38; with_reducible refine (HC _).mono ?_; rintro e w1 ⟨rfl, rfl⟩)
  refine bodyPost_ret (v := .tuple #[.agg #[.int .u64 0, .string ⟨#[]⟩], .int .i64 70]) (by simp [results, Tryd.results15, go_sem]) rfl ⟨rfl, ?_⟩
  exact bal hb _
set_option maxRecDepth 100000 in
theorem proot_size (w : World) (k : Int) (h1 : 1 ≤ k) (h2 : k ≤ 32) (ao : Option Addr) (len cap n : Nat) (hn : len < n) (hmx : len ≤ 8796093022208) :
    Calls Tryd.prog 15 #[.int .i64 k, .slice ao len cap, .int .u64 (n : Int)] w fun e w' => e = .returned (.tuple #[.agg #[.int .u64 0, .string ⟨#[]⟩], .int .i64 30]) ∧ Below w.heap.size w w' := by
  have HC := fun W => check_any W k
  rw [chk_ok h1 h2] at HC
  have e0 : IntKind.u64.wrap (len : Int) = (len : Int) := wrap_u _ (by omega) (by omega)
  have hn' : (len : Int) < (n : Int) := by omega
  have hb := Below.refl w.heap.size w
  clear h1 h2 hn hmx
  go_enter Tryd.func15, Tryd.ntmps15
  go_wp2_with (go_at_call 38; with_reducible refine (HC _).mono ?_; rintro e w1 ⟨rfl, rfl⟩)
  refine bodyPost_ret (v := .tuple #[.agg #[.int .u64 0, .string ⟨#[]⟩], .int .i64 30]) (by simp [results, Tryd.results15, go_sem]) rfl ⟨rfl, ?_⟩
  exact bal hb _
/-- The digest of the root of the first n. -/
def rtD (c : Nat) (L : List ByteArray) (n : Nat) : ByteArray := dg c (rootT n (bagL c (pks c (L.take n) 41)))
set_option maxRecDepth 100000 in
theorem proot_ok (w : World) (ht : Tb w) (k : Int) (h1 : 1 ≤ k) (h2 : k ≤ 32) (ao : Option Addr) (b off len cap : Nat) (L : List ByteArray) (hr : RdS w ao b off len L) (hsz : ∀ s ∈ L, s.size ≤ 140737488351232) (hmx : len ≤ 8796093022208) (hc : len ≤ cap) (n : Nat) (hn : n ≤ len) (r : ByteArray) (hq : Hid (rtD (clk k) L n = r)) :
    Calls Tryd.prog 15 #[.int .i64 k, .slice ao len cap, .int .u64 (n : Int)] w fun e w' => e = .returned (.tuple #[.agg #[.int .u64 (n : Int), .string r], .int .i64 0]) ∧ Below w.heap.size w w' := by
  have HC := fun W => check_any W k
  rw [chk_ok h1 h2] at HC
  have e0 : IntKind.u64.wrap (len : Int) = (len : Int) := wrap_u _ (by omega) (by omega)
  have hn' : ¬ ((len : Int) < (n : Int)) := by omega
  have hn2 : (n : Int) ≤ (cap : Int) := by omega
  obtain ⟨P, hP⟩ : ∃ P, Hid (pks (clk k) (L.take n) 41 = P) := ⟨_, rfl⟩
  have HPk : Hid (∀ W, Below w.heap.size w W → Calls Tryd.prog 39 #[.int .i64 k, .slice ao n cap] W fun e w' => ∃ v, e = .returned v ∧ OwnS w' W.heap.size v P ∧ Below W.heap.size W w') := fun W hb => peaks_any W (ht.next hb) k ao b off n cap (L.take n) ((hr.next hb (Nat.le_refl _)).take hn) (fun s hs => hsz s (List.mem_of_mem_take hs)) (by omega) P hP
  have zP : ∀ s ∈ P, s.size ≤ 140737488351232 := by rw [← hP.out]; exact small (clk_le k)
  have lP : P.length ≤ 41 := by rw [← hP.out]; exact pks_len _ _ _
  have HQ : Hid (dg (clk k) (rootT n (bagL (clk k) P)) = r) := by rw [← hP.out]; exact hq
  have HRo : Hid (∀ W, Below w.heap.size w W → ∀ ao' b' cap', RdS W ao' b' 0 P.length P → Calls Tryd.prog 37 #[.int .i64 k, .int .u64 (n : Int), .slice ao' P.length cap'] W fun e w' => e = .returned (.string r) ∧ Below W.heap.size W w') := fun W hb ao' b' cap' hr' => root_any W (ht.next hb) k n ao' b' 0 P.length cap' P hr' zP (by omega) r HQ.out
  have HZ : Hid (∀ s ∈ P, s.size ≤ 9223372036854775807) := fun s hs => Nat.le_trans (zP s hs) (by decide)
  have hb := Below.refl w.heap.size w
  have HN := rt_new w 0 ⟨#[]⟩ 38
  rw [show ((0 : Nat) : Int) = 0 from rfl] at HN
  have HN2 := hide HN
  clear h1 h2 hn hmx hc hr hsz ht hq hP zP lP HQ HN
  go_enter Tryd.func15, Tryd.ntmps15
  go_wp2_with (first
    | (go_at_call 38; with_reducible refine (HC _).mono ?_; rintro e w1 ⟨rfl, rfl⟩)
    | (go_at_call 39; with_reducible refine (HPk.out _ (bal hb _)).mono ?_; rintro e w2 ⟨v, rfl, ho, hb2⟩; obtain ⟨ao', b', cap', rfl, hr', _, _⟩ := owns_rds ho HZ.out)
    | (go_at_call 37; with_reducible refine (HRo.out _ (bnext (bal hb _) hb2) _ _ _ hr').mono ?_; rintro e w3 ⟨rfl, hb3⟩; have hR := (HN2.out.below hb2 (by simp)).below hb3 (by have := hb2.size; simp at this; omega); have k0 := hR.c0; have k1 := hR.c1; have f0 := hR.f0; have f1 := hR.f1))
  have s0 : (w3.setCell ⟨w.heap.size, 0, none⟩ (.int .u64 (n : Int))).cell? ⟨w.heap.size, 0, none⟩ = some (.int .u64 (n : Int)) := World.cell?_setCell_same _ _ _ k0
  have s1 : ((w3.setCell ⟨w.heap.size, 0, none⟩ (.int .u64 (n : Int))).setCell ⟨w.heap.size, 1, none⟩ (.string r)).cell? ⟨w.heap.size, 1, none⟩ = some (.string r) :=
    World.cell?_setCell_same _ _ _ ((World.cell?_setCell_other _ _ _ _ (by simp)).trans k1)
  refine bodyPost_ret (v := .tuple #[.agg #[.int .u64 (n : Int), .string r], .int .i64 0]) (by simp [results, Tryd.results15, go_sem, s0, s1]) rfl ⟨rfl, ?_⟩
  exact ((bnext (bnext (bal hb _) hb2) hb3).setCell (p := ⟨w.heap.size, 0, none⟩) (Nat.le_refl _) _).setCell (p := ⟨w.heap.size, 1, none⟩) (Nat.le_refl _) _
end Go.Proofs.YtnbejijpmeklaaaDoor
