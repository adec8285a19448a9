/-
  The walk of WireReads. Own work.
-/
import Derived.Test.YtfgpmpopmpobgaaWWalkH
import Derived.Test.YtfgpmpopmpobgaaPlan2
namespace Go.Proofs.Ytfgpmpopmpobgaa
open Go.RowKit
attribute [local go_sem ↓] Go.wp_at_zero Go.wp_at_succ
/-- A script that can be read. -/
structure Sc (w : World) (ao : Option Addr) (b off n : Nat) (l : List (Int × Int)) : Prop where
  addr : 0 < n → ao = some ⟨b, off, none⟩
  c0 : ∀ j, j < n → w.cell? ⟨b, off + j * 2, none⟩ = some (.int .i64 (l.getD j (0, 0)).1)
  c1 : ∀ j, j < n → w.cell? ⟨b, off + j * 2 + 1, none⟩ = some (.int .i64 (l.getD j (0, 0)).2)
theorem Sc.below {w w' : World} {ao : Option Addr} {b off n : Nat} {l : List (Int × Int)} (r : Sc w ao b off n l) (h : Below w.heap.size w w') : Sc w' ao b off n l :=
  ⟨r.addr, fun j hj => (h.cell (p := ⟨b, off + j * 2, none⟩) (World.block_lt_of_cell? w _ (r.c0 j hj))).trans (r.c0 j hj), fun j hj => (h.cell (p := ⟨b, off + j * 2 + 1, none⟩) (World.block_lt_of_cell? w _ (r.c1 j hj))).trans (r.c1 j hj)⟩
theorem sta_start {w w1 : World} (hb : Below w.heap.size w w1) (A B : ByteArray) :
    Sta w ((((w1.alloc (.cells #[.string A, .int .i64 0] 51)).alloc (.cells #[.string B, .int .i64 0] 51)).alloc (.cells #[.pointer (some ⟨w1.heap.size, 0, none⟩), .pointer (some ⟨w1.heap.size + 1, 0, none⟩)] 35)).alloc (.cells #[.string A, .int .i64 0, .int .i64 0, .string B, .int .i64 0, .int .i64 0] 38))
      (fun k => w1.heap.size + k) (w1.heap.size + 1 + 1) (w1.heap.size + 1 + 1 + 1) (fun k => if k = 0 then A else B) (fun k => if k = 0 then A else B) (fun _ => 0) (fun _ => 0) := by
  have eW : ∀ (W : World) (o : Obj), (W.alloc o).heap.size = W.heap.size + 1 := fun W o => World.size_alloc W o
  obtain ⟨W1, h1⟩ : ∃ W1, W1 = w1.alloc (.cells #[.string A, .int .i64 0] 51) := ⟨_, rfl⟩
  obtain ⟨W2, h2⟩ : ∃ W2, W2 = W1.alloc (.cells #[.string B, .int .i64 0] 51) := ⟨_, rfl⟩
  obtain ⟨W3, h3⟩ : ∃ W3, W3 = W2.alloc (.cells #[.pointer (some ⟨w1.heap.size, 0, none⟩), .pointer (some ⟨w1.heap.size + 1, 0, none⟩)] 35) := ⟨_, rfl⟩
  obtain ⟨W4, h4⟩ : ∃ W4, W4 = W3.alloc (.cells #[.string A, .int .i64 0, .int .i64 0, .string B, .int .i64 0, .int .i64 0] 38) := ⟨_, rfl⟩
  have s1 : W1.heap.size = w1.heap.size + 1 := by rw [h1, eW]
  have s2 : W2.heap.size = w1.heap.size + 1 + 1 := by rw [h2, eW, s1]
  have s3 : W3.heap.size = w1.heap.size + 1 + 1 + 1 := by rw [h3, eW, s2]
  have b2 : Below W1.heap.size W1 W2 := by rw [h2]; exact bal (Below.refl _ _) _
  have b3 : Below W2.heap.size W2 W3 := by rw [h3]; exact bal (Below.refl _ _) _
  have b4 : Below W3.heap.size W3 W4 := by rw [h4]; exact bal (Below.refl _ _) _
  have r0 : Rdr W4 w1.heap.size A 0 := ((((h1 ▸ rdr_new w1 A _ : Rdr W1 w1.heap.size A 0).next b2 (by omega)).next b3 (by omega)).next b4 (by omega))
  have r1 : Rdr W4 W1.heap.size B 0 := (((h2 ▸ rdr_new W1 B _ : Rdr W2 W1.heap.size B 0).next b3 (by omega)).next b4 (by omega))
  have p0 : W3.cell? ⟨W2.heap.size, 0, none⟩ = some (.pointer (some ⟨w1.heap.size, 0, none⟩)) := by rw [h3]; simp
  have p1 : W3.cell? ⟨W2.heap.size, 1, none⟩ = some (.pointer (some ⟨w1.heap.size + 1, 0, none⟩)) := by rw [h3]; simp
  have t0 : Thr W4 W3.heap.size 0 A 0 0 := by rw [h4]; refine ⟨?_, ?_, ?_, ?_, ?_, ?_⟩ <;> simp
  have t1 : Thr W4 W3.heap.size 3 B 0 0 := by rw [h4]; refine ⟨?_, ?_, ?_, ?_, ?_, ?_⟩ <;> simp
  have hb4 : Below w.heap.size w W4 := by rw [h4, h3, h2, h1]; exact bal (bal (bal (bal hb _) _) _) _
  rw [← h1, ← h2, ← h3, ← h4]
  rw [s1] at r1
  rw [s3] at t0 t1
  refine ⟨hb4, fun k hk => ?_, fun k hk => ?_, fun k hk => ?_, fun k hk => ?_⟩
  · obtain rfl | rfl : k = 0 ∨ k = 1 := by omega
    · exact r0
    · exact r1
  · rw [← s2, b4.cell (p := ⟨W2.heap.size, k, none⟩) (by show W2.heap.size < _; omega)]
    obtain rfl | rfl : k = 0 ∨ k = 1 := by omega
    · exact p0
    · exact p1
  · obtain rfl | rfl : k = 0 ∨ k = 1 := by omega
    · exact t0
    · exact t1
  · exact cor_new _
theorem lie_start {w w1 : World} (hb : Below w.heap.size w w1) : Lie w (fun k => w1.heap.size + k) (w1.heap.size + 1 + 1) (w1.heap.size + 1 + 1 + 1) := by
  have := hb.size
  exact ⟨fun j k h => by have : w1.heap.size + j = w1.heap.size + k := h; omega, fun k => by show _ ≤ _ + k; omega, by omega, by omega, fun k hk => by show _ + k ≠ _; omega, fun k hk => by show _ + k ≠ _; omega, by omega⟩
theorem two_mod (i : Nat) : ∃ k : Nat, (i : Int).tmod 2 = (k : Int) ∧ k < 2 := by
  refine ⟨i % 2, ?_, by omega⟩
  rw [Int.tmod_eq_emod_of_nonneg (by omega)]
  omega
/-- Behind a Reader's own call. -/
theorem Sta.mid {w wr w1 : World} {P : Nat → Nat} {g h : Nat} {T s : Nat → ByteArray} {e a : Nat → Nat} (L : Lie w P g h) (S : Sta w wr P g h T s e a) {k : Nat} (hk : k < 2) (hc : Ch (P k) wr w1) :
    Thr w1 h (k * 3) (T k) (a k) (e k) :=
  (S.row k hk).of_block (hc.block h (World.block_lt_of_cell? _ _ (S.row 0 (by omega)).c0) (L.ph k hk).symm)
theorem Ch.undrew {p : Nat} {w w' : World} (h : Ch p w.drew w') : Ch p w w' := ⟨⟨h.below.os, h.below.tape, h.below.output, h.below.size, h.below.block⟩, h.block⟩
theorem below_undrew {w w' : World} (h : Below w.drew.heap.size w.drew w') : Below w.heap.size w w' := ⟨h.os, h.tape, h.output, h.size, h.block⟩
theorem Thr.later {w w' : World} {g o a e : Nat} {T : ByteArray} (t : Thr w g o T a e) (hb : Below w.heap.size w w') : Thr w' g o T a e :=
  t.of_block (hb.block g (World.block_lt_of_cell? _ _ t.c0))
set_option maxRecDepth 100000 in
set_option maxHeartbeats 4000000 in
theorem reads_walk (w : World) (n : Nat) (hn : n < 18446744073709551616) (A B : ByteArray) (hA : A.size ≤ 140737488351232) (hB : B.size ≤ 140737488351232) (ao : Option Addr) (b off len cap : Nat) (l : List (Int × Int)) (hr : Sc w ao b off len l) (hlen : len ≤ 9223372036854775807) :
    Calls Try.prog 5 #[.int .u64 (n : Int), .string A, .string B, .slice ao len cap] w fun e w' => e = .returned (.bool true) ∧ Below w.heap.size w w' := by
  have H0 := fixed_any
  have H1 := fun W => num_any W n hn
  have H2 := fun W => refnum_any W n hn
  generalize (⟨(num n).toArray⟩ : ByteArray) = X at H1 H2
  have hb0 := Below.refl w.heap.size w
  go_enter Try.func5, Try.ntmps5
  go_upto_region 3 with (first
    | (go_at_call 6; with_reducible refine (H0 _).mono ?_; rintro e w' ⟨rfl, hb⟩; replace hb0 := bnext hb0 hb; clear hb)
    | (go_at_call 7; with_reducible refine (H1 _).mono ?_; rintro e w' ⟨rfl, hb⟩; replace hb0 := bnext hb0 hb; clear hb)
    | (go_at_call 11; with_reducible refine (H2 _).mono ?_; rintro e w1 ⟨rfl, hb⟩; replace hb0 := bnext hb0 hb; clear hb))
  clear H0 H1 H2
  have H3 := new_any
  go_upto_region 8 with (go_at_call 8; with_reducible refine (H3 _ _).mono ?_; rintro e w2 ⟨rfl, rfl⟩)
  have hS := sta_start hb0 A B
  have hL := lie_start hb0
  have hT : ∀ k, ((fun k : Nat => if k = 0 then A else B) k).size ≤ 140737488351232 := fun k => by show (if k = 0 then A else B).size ≤ _; split <;> assumption
  generalize (fun k => w1.heap.size + k) = P at hS hL
  generalize (fun k : Nat => if k = 0 then A else B) = T at hS hT
  clear H3
  go_loopg [11] len (fun gg i wr => ∃ (j : Nat) (s : Nat → ByteArray) (e a : Nat → Nat), j ≤ len ∧ len - j = gg ∧ i = .int .i64 j ∧ Sta w wr P (w1.heap.size + 1 + 1) (w1.heap.size + 1 + 1 + 1) T s e a)
  case atStart =>
    go_light
    exact ⟨0, _, _, _, by omega, rfl, rfl, hS⟩
  case round =>
    clear hS
    obtain ⟨j, s, e, a, hj, rfl, rfl, S⟩ := hrel
    by_cases hlt : j < len
    · have hz : (j : Int) < (len : Int) := by omega
      obtain ⟨k, ek, hk⟩ := two_mod j
      have k0 : (0 : Int) ≤ (k : Int) := by omega
      have k2 : (k : Int) < 2 := by omega
      have hr' := hr.below S.below
      obtain rfl := hr'.addr (by omega)
      have q0 := hr'.c0 j hlt
      have q1 := hr'.c1 j hlt
      obtain ⟨op, hop⟩ : ∃ op, op = (l.getD j (0, 0)).1 := ⟨_, rfl⟩
      obtain ⟨nn, hnn⟩ : ∃ nn, nn = (l.getD j (0, 0)).2 := ⟨_, rfl⟩
      rw [← hop] at q0
      rw [← hnn] at q1
      clear hop hnn
      have cp := S.ptr k hk
      obtain ⟨p, hp⟩ : ∃ p, p = P k := ⟨_, rfl⟩
      rw [← hp] at cp
      have HP := hide hp
      clear hp
      have hcor := S.cor k hk
      have hsz : (s k).size ≤ 9223372036854775807 := by
        have h1 := hcor.size
        have h2 := hT k
        split at h1 <;> omega
      by_cases h0 : op = 0
      · subst h0
        obtain ⟨c1, c2, c3⟩ := hcor.num
        have H9 := rnum_any wr p (e k) (s k) (HP.out ▸ S.rd k hk) hsz
        have H12 := fun W => refrnum_any W (T k) (a k) (e k) hcor.le (by have := hT k; omega)
        rw [c1, c2] at H9
        rw [c2] at c3
        generalize (nb (s k) (e k)).2.2 = s' at H9 c3
        generalize (rnb (T k) (a k) (e k)).2.2 = N at H9 H12
        generalize (rnb (T k) (a k) (e k)).2.1 = E at H9 H12 c3
        generalize (rnb (T k) (a k) (e k)).1 = a' at H12 c3
        clear c1 c2
        go_upto_region 16 with (go_at_call 9; with_reducible refine H9.mono ?_; rintro x w2 ⟨rfl, R2, C2⟩)
        have m := S.mid hL hk (HP.out ▸ C2)
        have m0 := m.c0
        have m1 := m.c1
        have m2 := m.c2
        go_upto_region 19 with (go_at_call 12; with_reducible refine (H12 _).mono ?_; rintro x w3 ⟨rfl, B3⟩; have mm := m.later B3; have n0 := mm.c0; have n1 := mm.c1; have n2 := mm.c2; have n3 := mm.f0; have n4 := mm.f1; have n5 := mm.f2)
        have S' := S.step hL hk (HP.out ▸ R2) (HP.out ▸ C2) B3 c3
        unfold set3 at S'
        generalize (((w3.setCell ⟨w1.heap.size + 1 + 1 + 1, k * 3, none⟩ (.string (T k))).setCell ⟨w1.heap.size + 1 + 1 + 1, k * 3 + 1, none⟩ (.int .i64 (a' : Int))).setCell ⟨w1.heap.size + 1 + 1 + 1, k * 3 + 2, none⟩ (.int .i64 (E : Int))) = W at S' ⊢
        clear H9 H12 R2 C2 m m0 m1 m2 mm n0 n1 n2 n3 n4 n5 B3 c3 S
        have L1 := S'.cor k hk
        have L2 := S'.rd k hk
        simp only [upd, if_true] at L1 L2
        obtain ⟨L, hL0⟩ : ∃ L, L = s'.size := ⟨_, rfl⟩
        have HL1 : Hid (∀ Wc, Below W.heap.size W Wc → Calls Try.prog 10 #[.pointer (some ⟨p, 0, none⟩)] Wc fun x w' => x = .returned (.int .i64 (L : Int)) ∧ Below Wc.heap.size Wc w') := fun Wc h => by
          refine (left_any Wc p E s' (HP.out ▸ L2.next h L2.lt)).mono ?_
          rintro x w' ⟨rfl, rfl⟩
          exact ⟨by rw [hL0], Below.refl _ _⟩
        have HL2 : Hid (∀ Wc, Calls Try.prog 15 #[rv (T k) a' E] Wc fun x w' => x = .returned (.int .i64 (L : Int)) ∧ Below Wc.heap.size Wc w') := fun Wc => refleft_any Wc (T k) a' E L L1.le (by rw [hL0]; exact L1.size) (by have := hT k; omega)
        have HC1 : Hid (∀ Wc, Below W.heap.size W Wc → Wc.cell? ⟨w1.heap.size + 1 + 1, k, none⟩ = some (.pointer (some ⟨p, 0, none⟩))) := fun Wc h => HP.out ▸ (S'.later h).ptr k hk
        have HC2 : Hid (∀ Wc, Below W.heap.size W Wc → Thr Wc (w1.heap.size + 1 + 1 + 1) (k * 3) (T k) a' E) := fun Wc h => by have := (S'.later h).row k hk; simp only [upd, if_true] at this; exact this
        have HN : Hid (∀ Wc, Below W.heap.size W Wc → Sta w Wc P (w1.heap.size + 1 + 1) (w1.heap.size + 1 + 1 + 1) T (upd s k s') (upd e k E) (upd a k a')) := fun Wc h => S'.later h
        clear L1 L2 S' hL0 hcor hsz hr hL cp q0 q1 hr' HP hT
        refine wp_region_planV (by kernel_rfl) [104, 105, 106, 107, 108, 109, 110, 111, 112, 113, 114, 115, 116, 117, 118, 119, 120, 121, 122, 123, 124, 125, 126, 127] [.int .u64 (N : Int), .int .u64 (N : Int), .bool false, .bool false, .string ⟨#[]⟩, .string ⟨#[]⟩, .bool false, .bool false, .bool false, .int .i64 (E : Int), .int .i64 (E : Int), .bool false, .bool false, .bool false, .int .i64 (k : Int), .pointer (some ⟨w1.heap.size + 1 + 1, k, none⟩), .pointer (some ⟨p, 0, none⟩), .int .i64 (L : Int), .int .i64 (k : Int), .pointer (some ⟨w1.heap.size + 1 + 1 + 1, k * 3, none⟩), rv (T k) a' E, .int .i64 (L : Int), .bool false, .bool false] (by kernel_rfl) rfl ?step ?fin
        case fin =>
          intro Wc hB
          have S2 := HN.out Wc hB
          clear HL1 HL2 HC1 HC2 HN hB
          simp only [puts]
          go_simp
          go_wp2
          go_roundg (len - (j + 1))
          case rel =>
            go_light
            exact ⟨j + 1, _, _, _, by omega, rfl, by go_num, S2⟩
          case measure => go_light; omega
        case step =>
          clear HN
          refine ⟨?_, ?_, ?_, ?_, ?_, ?_, ?_, ?_, ?_, ?_, ?_, ?_, ?_, ?_, ?_, ?_, ?_, ?_, ?_, ?_, ?_, ?_, ?_, ?_, trivial⟩
          · intro Ac Wc K hB hsm dep hK
            have t13 : Ac.tmps.getD 13 undef = .int .u64 (N : Int) := hsm 13 rfl
            show Oper.wp _ _ Ac Wc K _
            go_simp
            exact hK _ _ rfl (Below.refl _ _)
          · intro Ac Wc K hB hsm dep hK
            have t14 : Ac.tmps.getD 14 undef = .int .u64 (N : Int) := hsm 14 rfl
            show Oper.wp _ _ Ac Wc K _
            go_simp
            exact hK _ _ rfl (Below.refl _ _)
          · intro Ac Wc K hB hsm dep hK
            have t104 : Ac.tmps.getD 104 undef = .int .u64 (N : Int) := dep 0 rfl
            have t105 : Ac.tmps.getD 105 undef = .int .u64 (N : Int) := dep 1 rfl
            show Oper.wp _ _ Ac Wc K _
            go_simp
            exact hK _ _ rfl (Below.refl _ _)
          · intro Ac Wc K hB hsm dep hK
            have t106 : Ac.tmps.getD 106 undef = .bool false := dep 2 rfl
            show Oper.wp _ _ Ac Wc K _
            go_simp
            exact hK _ _ rfl (Below.refl _ _)
          · intro Ac Wc K hB hsm dep hK
            have t15 : Ac.tmps.getD 15 undef = .string ⟨#[]⟩ := hsm 15 rfl
            refine ⟨false, (show Ac.tmps.getD 107 undef = .bool false from dep 3 rfl), ?_⟩
            rw [if_pos rfl]
            go_simp
            exact hK _ _ rfl (Below.refl _ _)
          · intro Ac Wc K hB hsm dep hK
            have t16 : Ac.tmps.getD 16 undef = .string ⟨#[]⟩ := hsm 16 rfl
            refine ⟨false, (show Ac.tmps.getD 107 undef = .bool false from dep 3 rfl), ?_⟩
            rw [if_pos rfl]
            go_simp
            exact hK _ _ rfl (Below.refl _ _)
          · intro Ac Wc K hB hsm dep hK
            have t108 : Ac.tmps.getD 108 undef = .string ⟨#[]⟩ := dep 4 rfl
            have t109 : Ac.tmps.getD 109 undef = .string ⟨#[]⟩ := dep 5 rfl
            refine ⟨false, (show Ac.tmps.getD 107 undef = .bool false from dep 3 rfl), ?_⟩
            rw [if_pos rfl]
            go_simp
            exact hK _ _ rfl (Below.refl _ _)
          · intro Ac Wc K hB hsm dep hK
            have t107 : Ac.tmps.getD 107 undef = .bool false := dep 3 rfl
            have t110 : Ac.tmps.getD 110 undef = .bool false := dep 6 rfl
            show Oper.wp _ _ Ac Wc K _
            go_simp
            exact hK _ _ rfl (Below.refl _ _)
          · intro Ac Wc K hB hsm dep hK
            have t111 : Ac.tmps.getD 111 undef = .bool false := dep 7 rfl
            show Oper.wp _ _ Ac Wc K _
            go_simp
            exact hK _ _ rfl (Below.refl _ _)
          · intro Ac Wc K hB hsm dep hK
            have t17 : Ac.tmps.getD 17 undef = .int .i64 (E : Int) := hsm 17 rfl
            refine ⟨false, (show Ac.tmps.getD 112 undef = .bool false from dep 8 rfl), ?_⟩
            rw [if_pos rfl]
            go_simp
            exact hK _ _ rfl (Below.refl _ _)
          · intro Ac Wc K hB hsm dep hK
            have t18 : Ac.tmps.getD 18 undef = .int .i64 (E : Int) := hsm 18 rfl
            refine ⟨false, (show Ac.tmps.getD 112 undef = .bool false from dep 8 rfl), ?_⟩
            rw [if_pos rfl]
            go_simp
            exact hK _ _ rfl (Below.refl _ _)
          · intro Ac Wc K hB hsm dep hK
            have t113 : Ac.tmps.getD 113 undef = .int .i64 (E : Int) := dep 9 rfl
            have t114 : Ac.tmps.getD 114 undef = .int .i64 (E : Int) := dep 10 rfl
            refine ⟨false, (show Ac.tmps.getD 112 undef = .bool false from dep 8 rfl), ?_⟩
            rw [if_pos rfl]
            go_simp
            exact hK _ _ rfl (Below.refl _ _)
          · intro Ac Wc K hB hsm dep hK
            have t112 : Ac.tmps.getD 112 undef = .bool false := dep 8 rfl
            have t115 : Ac.tmps.getD 115 undef = .bool false := dep 11 rfl
            show Oper.wp _ _ Ac Wc K _
            go_simp
            exact hK _ _ rfl (Below.refl _ _)
          · intro Ac Wc K hB hsm dep hK
            have t116 : Ac.tmps.getD 116 undef = .bool false := dep 12 rfl
            show Oper.wp _ _ Ac Wc K _
            go_simp
            exact hK _ _ rfl (Below.refl _ _)
          · intro Ac Wc K hB hsm dep hK
            have t12 : Ac.tmps.getD 12 undef = .int .i64 (k : Int) := hsm 12 rfl
            refine ⟨false, (show Ac.tmps.getD 117 undef = .bool false from dep 13 rfl), ?_⟩
            rw [if_pos rfl]
            go_simp
            exact hK _ _ rfl (Below.refl _ _)
          · intro Ac Wc K hB hsm dep hK
            have t9 : Ac.tmps.getD 9 undef = .pointer (some ⟨w1.heap.size + 1 + 1, 0, none⟩) := hsm 9 rfl
            have t118 : Ac.tmps.getD 118 undef = .int .i64 (k : Int) := dep 14 rfl
            refine ⟨false, (show Ac.tmps.getD 117 undef = .bool false from dep 13 rfl), ?_⟩
            rw [if_pos rfl]
            go_simp
            exact hK _ _ rfl (Below.refl _ _)
          · intro Ac Wc K hB hsm dep hK
            have t119 : Ac.tmps.getD 119 undef = .pointer (some ⟨w1.heap.size + 1 + 1, k, none⟩) := dep 15 rfl
            refine ⟨false, (show Ac.tmps.getD 117 undef = .bool false from dep 13 rfl), ?_⟩
            rw [if_pos rfl]
            have cq := HC1.out Wc hB
            go_simp
            exact hK _ _ rfl (Below.refl _ _)
          · intro Ac Wc K hB hsm dep hK
            have t120 : Ac.tmps.getD 120 undef = .pointer (some ⟨p, 0, none⟩) := dep 16 rfl
            refine ⟨false, (show Ac.tmps.getD 117 undef = .bool false from dep 13 rfl), ?_⟩
            rw [if_pos rfl]
            go_simp
            refine (HL1.out Wc hB).mono ?_
            rintro e w' ⟨rfl, hb⟩
            exact hK _ _ rfl hb
          · intro Ac Wc K hB hsm dep hK
            have t12 : Ac.tmps.getD 12 undef = .int .i64 (k : Int) := hsm 12 rfl
            refine ⟨false, (show Ac.tmps.getD 117 undef = .bool false from dep 13 rfl), ?_⟩
            rw [if_pos rfl]
            go_simp
            exact hK _ _ rfl (Below.refl _ _)
          · intro Ac Wc K hB hsm dep hK
            have t10 : Ac.tmps.getD 10 undef = .pointer (some ⟨w1.heap.size + 1 + 1 + 1, 0, none⟩) := hsm 10 rfl
            have t122 : Ac.tmps.getD 122 undef = .int .i64 (k : Int) := dep 18 rfl
            refine ⟨false, (show Ac.tmps.getD 117 undef = .bool false from dep 13 rfl), ?_⟩
            rw [if_pos rfl]
            go_simp
            exact hK _ _ rfl (Below.refl _ _)
          · intro Ac Wc K hB hsm dep hK
            have t123 : Ac.tmps.getD 123 undef = .pointer (some ⟨w1.heap.size + 1 + 1 + 1, k * 3, none⟩) := dep 19 rfl
            refine ⟨false, (show Ac.tmps.getD 117 undef = .bool false from dep 13 rfl), ?_⟩
            rw [if_pos rfl]
            have tq := HC2.out Wc hB
            have tq0 := tq.c0
            have tq1 := tq.c1
            have tq2 := tq.c2
            go_simp
            exact hK _ _ rfl (Below.refl _ _)
          · intro Ac Wc K hB hsm dep hK
            have t124 : Ac.tmps.getD 124 undef = rv (T k) a' E := dep 20 rfl
            refine ⟨false, (show Ac.tmps.getD 117 undef = .bool false from dep 13 rfl), ?_⟩
            rw [if_pos rfl]
            go_simp
            refine (HL2.out Wc).mono ?_
            rintro e w' ⟨rfl, hb⟩
            exact hK _ _ rfl hb
          · intro Ac Wc K hB hsm dep hK
            have t121 : Ac.tmps.getD 121 undef = .int .i64 (L : Int) := dep 17 rfl
            have t125 : Ac.tmps.getD 125 undef = .int .i64 (L : Int) := dep 21 rfl
            refine ⟨false, (show Ac.tmps.getD 117 undef = .bool false from dep 13 rfl), ?_⟩
            rw [if_pos rfl]
            go_simp
            exact hK _ _ rfl (Below.refl _ _)
          · intro Ac Wc K hB hsm dep hK
            have t117 : Ac.tmps.getD 117 undef = .bool false := dep 13 rfl
            have t126 : Ac.tmps.getD 126 undef = .bool false := dep 22 rfl
            show Oper.wp _ _ Ac Wc K _
            go_simp
            exact hK _ _ rfl (Below.refl _ _)
      · obtain ⟨c1, c2, c3⟩ := hcor.take nn
        have hR : Rdr wr p (s k) (e k) := HP.out ▸ S.rd k hk
        have H13 := fun W (h : Rdr W p (s k) (e k)) => take_any W p (e k) (s k) nn h
        have H14 := fun W => reftake_any W (T k) (a k) (e k) nn hcor.le (by have := hT k; omega)
        rw [c1, c2] at H13
        rw [c2] at c3
        generalize (tk (s k) (e k) nn).2.2 = s' at H13 c3
        generalize (rtk (T k) (a k) (e k) nn).2.2 = Y at H13 H14
        generalize (rtk (T k) (a k) (e k) nn).2.1 = E at H13 H14 c3
        generalize (rtk (T k) (a k) (e k) nn).1 = a' at H14 c3
        clear c1 c2
        have hbp : b ≠ p := by
          have h1 : b < w.heap.size := World.block_lt_of_cell? w _ (hr.c1 j hlt)
          have h2 := hL.np k
          rw [← HP.out] at h2
          omega
        have hgp : w1.heap.size + 1 + 1 ≠ p := by rw [HP.out]; exact (hL.pg k hk).symm
        have HK : Hid (∀ W W', Ch p W W' → W.cell? ⟨w1.heap.size + 1 + 1, k, none⟩ = some (.pointer (some ⟨p, 0, none⟩)) ∧ W.cell? ⟨b, off + j * 2 + 1, none⟩ = some (.int .i64 nn) → W'.cell? ⟨w1.heap.size + 1 + 1, k, none⟩ = some (.pointer (some ⟨p, 0, none⟩)) ∧ W'.cell? ⟨b, off + j * 2 + 1, none⟩ = some (.int .i64 nn)) := fun W W' hc h =>
          ⟨(cell_of_block (hc.block _ (World.block_lt_of_cell? _ _ h.1) hgp)).1.trans h.1, (cell_of_block (hc.block _ (World.block_lt_of_cell? _ _ h.2) hbp)).1.trans h.2⟩
        go_upto_region 17 with (fail)
        go_region_held3 (fun w' => w'.cell? ⟨w1.heap.size + 1 + 1, k, none⟩ = some (.pointer (some ⟨p, 0, none⟩)) ∧ w'.cell? ⟨b, off + j * 2 + 1, none⟩ = some (.int .i64 nn)) (first | exact ⟨cp, q1⟩ | exact HK.out wr.drew _ C2 ⟨cp, q1⟩)
          (first | (go_at_call 13; with_reducible refine (H13 wr.drew (hR.of_block rfl)).mono ?_; rintro x w2 ⟨rfl, R2, C2⟩))
        have C3 := C2.undrew
        have m := S.mid hL hk (HP.out ▸ C3)
        have m0 := m.c0
        have m1 := m.c1
        have m2 := m.c2
        have q2 := (HK.out wr.drew _ C2 ⟨cp, q1⟩).2
        have hbh : b ≠ w1.heap.size + 1 + 1 + 1 := by
          have h1 : b < w.heap.size := World.block_lt_of_cell? w _ (hr.c1 j hlt)
          have h2 := hL.nh
          omega
        have HK2 : Hid (∀ W, Below w2.heap.size w2 W → W.cell? ⟨b, off + j * 2 + 1, none⟩ = some (.int .i64 nn)) := fun W h => (cell_of_block (h.block b (World.block_lt_of_cell? _ _ q2))).1.trans q2
        have HK3 : Hid (∀ W, Below w2.heap.size w2 W → (set3 W (w1.heap.size + 1 + 1 + 1) (k * 3) (T k) a' E).cell? ⟨b, off + j * 2 + 1, none⟩ = some (.int .i64 nn)) := fun W h => (cell_of_block (set3_block _ _ _ _ _ _ _ hbh)).1.trans (HK2.out W h)
        clear H13 HK hR hbp hgp hbh
        go_simp
        go_upto_region 18 with (fail)
        have HS8 : Hid (∀ (L : Nat → Bool) W, ((L 15 = false → Below w2.heap.size w2 W) ∧ (L 15 = true → ∃ w3, Below w2.heap.size w2 w3 ∧ W = set3 w3 (w1.heap.size + 1 + 1 + 1) (k * 3) (T k) a' E)) → W.cell? ⟨b, off + j * 2 + 1, none⟩ = some (.int .i64 nn)) := fun L W h => by
          cases hc : L 15 with
          | false => exact HK2.out W (h.1 hc)
          | true =>
            obtain ⟨w3, h3, rfl⟩ := h.2 hc
            exact HK3.out w3 h3
        clear HK2 HK3
        refine wp_region_planI (by kernel_rfl) [90, 91, 92, 93, 94, 95, 96, 97, 98, 99, 89, 100, 101, 102, 103, 1015, 16, 18] [15] [.int .i64 (k : Int), .int .i64 (k : Int), .pointer (some ⟨w1.heap.size + 1 + 1 + 1, k * 3, none⟩), rv (T k) (a k) (e k), .slice (some ⟨b, off, none⟩) len cap, .int .i64 (j : Int), .pointer (some ⟨b, off + j * 2, none⟩), .pointer (some ⟨b, off + j * 2 + 1, none⟩), .int .i64 nn, .tuple #[rv (T k) a' E, .string Y, .int .i64 (E : Int)], .tuple #[rv (T k) a' E, .string Y, .int .i64 (E : Int)], rv (T k) a' E, .string Y, .int .i64 (E : Int), .pointer (some ⟨w1.heap.size + 1 + 1 + 1, k * 3, none⟩), undef, .string Y, .int .i64 (E : Int)] (by kernel_rfl) rfl (fun j hj => by simp at hj; subst hj; rfl) (fun L W => (L 15 = false → Below w2.heap.size w2 W) ∧ (L 15 = true → ∃ w3, Below w2.heap.size w2 w3 ∧ W = set3 w3 (w1.heap.size + 1 + 1 + 1) (k * 3) (T k) a' E)) (fun W _ hb => ⟨fun _ => hb, fun h => by cases h⟩) ?step ?fin
        case step =>
          refine ⟨?_, ?_, ?_, ?_, ?_, ?_, ?_, ?_, ?_, ?_, ?_, ?_, ?_, ?_, ?_, ?_, ?_, ?_, trivial⟩
          · intro L Ac Wc K hI hj hcl hsm dep hK
            have t12 : Ac.tmps.getD 12 undef = .int .i64 (k : Int) := hsm 12 rfl
            show Oper.wp _ _ Ac Wc K _
            go_simp
            exact hK _ _ (.inr rfl) hI
          · intro L Ac Wc K hI hj hcl hsm dep hK
            have t12 : Ac.tmps.getD 12 undef = .int .i64 (k : Int) := hsm 12 rfl
            show Oper.wp _ _ Ac Wc K _
            go_simp
            exact hK _ _ (.inr rfl) hI
          · intro L Ac Wc K hI hj hcl hsm dep hK
            have t10 : Ac.tmps.getD 10 undef = .pointer (some ⟨w1.heap.size + 1 + 1 + 1, 0, none⟩) := hsm 10 rfl
            have t91 : Ac.tmps.getD 91 undef = .int .i64 (k : Int) := dep 1 rfl
            show Oper.wp _ _ Ac Wc K _
            go_simp
            exact hK _ _ (.inr rfl) hI
          · intro L Ac Wc K hI hj hcl hsm dep hK
            have t92 : Ac.tmps.getD 92 undef = .pointer (some ⟨w1.heap.size + 1 + 1 + 1, k * 3, none⟩) := dep 2 rfl
            show Oper.wp _ _ Ac Wc K _
            have hL15 : L 15 = false := by
              cases h : L 15 with
              | false => rfl
              | true => rw [hcl 9 3 (hcl 10 9 (hcl 11 10 (hcl 15 11 h rfl) rfl) rfl) rfl] at hj; cases hj
            have tq := m.later (hI.1 hL15)
            have tq0 := tq.c0
            have tq1 := tq.c1
            have tq2 := tq.c2
            go_simp
            exact hK _ _ (.inr rfl) hI
          · intro L Ac Wc K hI hj hcl hsm dep hK
            have t3 : Ac.tmps.getD 3 undef = .slice (some ⟨b, off, none⟩) len cap := hsm 3 rfl
            show Oper.wp _ _ Ac Wc K _
            go_simp
            exact hK _ _ (.inr rfl) hI
          · intro L Ac Wc K hI hj hcl hsm dep hK
            have t11 : Ac.tmps.getD 11 undef = .int .i64 (j : Int) := hsm 11 rfl
            show Oper.wp _ _ Ac Wc K _
            go_simp
            exact hK _ _ (.inr rfl) hI
          · intro L Ac Wc K hI hj hcl hsm dep hK
            have t94 : Ac.tmps.getD 94 undef = .slice (some ⟨b, off, none⟩) len cap := dep 4 rfl
            have t95 : Ac.tmps.getD 95 undef = .int .i64 (j : Int) := dep 5 rfl
            show Oper.wp _ _ Ac Wc K _
            go_simp
            exact hK _ _ (.inr rfl) hI
          · intro L Ac Wc K hI hj hcl hsm dep hK
            have t96 : Ac.tmps.getD 96 undef = .pointer (some ⟨b, off + j * 2, none⟩) := dep 6 rfl
            show Oper.wp _ _ Ac Wc K _
            go_simp
            exact hK _ _ (.inr rfl) hI
          · intro L Ac Wc K hI hj hcl hsm dep hK
            have t97 : Ac.tmps.getD 97 undef = .pointer (some ⟨b, off + j * 2 + 1, none⟩) := dep 7 rfl
            show Oper.wp _ _ Ac Wc K _
            have cq := HS8.out L Wc hI
            go_simp
            exact hK _ _ (.inr rfl) hI
          · intro L Ac Wc K hI hj hcl hsm dep hK
            have t93 : Ac.tmps.getD 93 undef = rv (T k) (a k) (e k) := dep 3 rfl
            have t98 : Ac.tmps.getD 98 undef = .int .i64 nn := dep 8 rfl
            show Oper.wp _ _ Ac Wc K _
            have hL15 : L 15 = false := by
              cases h : L 15 with
              | false => rfl
              | true => rw [hcl 10 9 (hcl 11 10 (hcl 15 11 h rfl) rfl) rfl] at hj; cases hj
            go_simp
            refine (H14 Wc).mono ?_
            rintro x w' ⟨rfl, hb⟩
            exact hK _ _ (.inr rfl) ⟨fun _ => bnext (hI.1 hL15) hb, fun h => by rw [show L 15 = true from h] at hL15; cases hL15⟩
          · intro L Ac Wc K hI hj hcl hsm dep hK
            have t99 : Ac.tmps.getD 99 undef = .tuple #[rv (T k) a' E, .string Y, .int .i64 (E : Int)] := dep 9 rfl
            show Oper.wp _ _ Ac Wc K _
            go_simp
            exact hK _ _ (.inr rfl) hI
          · intro L Ac Wc K hI hj hcl hsm dep hK
            have t89 : Ac.tmps.getD 89 undef = .tuple #[rv (T k) a' E, .string Y, .int .i64 (E : Int)] := dep 10 rfl
            show Oper.wp _ _ Ac Wc K _
            go_simp
            exact hK _ _ (.inr rfl) hI
          · intro L Ac Wc K hI hj hcl hsm dep hK
            have t89 : Ac.tmps.getD 89 undef = .tuple #[rv (T k) a' E, .string Y, .int .i64 (E : Int)] := dep 10 rfl
            show Oper.wp _ _ Ac Wc K _
            go_simp
            exact hK _ _ (.inr rfl) hI
          · intro L Ac Wc K hI hj hcl hsm dep hK
            have t89 : Ac.tmps.getD 89 undef = .tuple #[rv (T k) a' E, .string Y, .int .i64 (E : Int)] := dep 10 rfl
            show Oper.wp _ _ Ac Wc K _
            go_simp
            exact hK _ _ (.inr rfl) hI
          · intro L Ac Wc K hI hj hcl hsm dep hK
            have t10 : Ac.tmps.getD 10 undef = .pointer (some ⟨w1.heap.size + 1 + 1 + 1, 0, none⟩) := hsm 10 rfl
            have t90 : Ac.tmps.getD 90 undef = .int .i64 (k : Int) := dep 0 rfl
            show Oper.wp _ _ Ac Wc K _
            go_simp
            exact hK _ _ (.inr rfl) hI
          · intro L Ac Wc K hI hj hcl hsm dep hK
            have t100 : Ac.tmps.getD 100 undef = rv (T k) a' E := dep 11 rfl
            have t103 : Ac.tmps.getD 103 undef = .pointer (some ⟨w1.heap.size + 1 + 1 + 1, k * 3, none⟩) := dep 14 rfl
            show Oper.wp _ _ Ac Wc K _
            have hB := hI.1 hj
            have tq := m.later hB
            have tq0 := tq.c0
            have tq1 := tq.c1
            have tq2 := tq.c2
            have tq3 := tq.f0
            have tq4 := tq.f1
            have tq5 := tq.f2
            go_simp
            exact hK undef _ (.inl rfl) ⟨(fun h => by cases h), fun _ => ⟨Wc, hB, rfl⟩⟩
          · intro L Ac Wc K hI hj hcl hsm dep hK
            have t101 : Ac.tmps.getD 101 undef = .string Y := dep 12 rfl
            show Oper.wp _ _ Ac Wc K _
            go_simp
            exact hK _ _ (.inr rfl) hI
          · intro L Ac Wc K hI hj hcl hsm dep hK
            have t102 : Ac.tmps.getD 102 undef = .int .i64 (E : Int) := dep 13 rfl
            show Oper.wp _ _ Ac Wc K _
            go_simp
            exact hK _ _ (.inr rfl) hI
        case fin =>
          intro L W0 hall hI
          obtain ⟨w3, B3, rfl⟩ := hI.2 (hall 15 (by decide))
          have S' := S.step hL hk (HP.out ▸ R2) (HP.out ▸ C3) B3 c3
          generalize set3 w3 (w1.heap.size + 1 + 1 + 1) (k * 3) (T k) a' E = W at S' ⊢
          clear H14 HS8 hI R2 C2 C3 m m0 m1 m2 B3 c3 S q2 hall
          simp only [puts]
          go_simp
          go_upto_region 19 with (fail)
          have L1 := S'.cor k hk
          have L2 := S'.rd k hk
          simp only [upd, if_true] at L1 L2
          obtain ⟨L, hL0⟩ : ∃ L, L = s'.size := ⟨_, rfl⟩
          have HL1 : Hid (∀ Wc, Below W.heap.size W Wc → Calls Try.prog 10 #[.pointer (some ⟨p, 0, none⟩)] Wc fun x w' => x = .returned (.int .i64 (L : Int)) ∧ Below Wc.heap.size Wc w') := fun Wc h => by
            refine (left_any Wc p E s' (HP.out ▸ L2.next h L2.lt)).mono ?_
            rintro x w' ⟨rfl, rfl⟩
            exact ⟨by rw [hL0], Below.refl _ _⟩
          have HL2 : Hid (∀ Wc, Calls Try.prog 15 #[rv (T k) a' E] Wc fun x w' => x = .returned (.int .i64 (L : Int)) ∧ Below Wc.heap.size Wc w') := fun Wc => refleft_any Wc (T k) a' E L L1.le (by rw [hL0]; exact L1.size) (by have := hT k; omega)
          have HC1 : Hid (∀ Wc, Below W.heap.size W Wc → Wc.cell? ⟨w1.heap.size + 1 + 1, k, none⟩ = some (.pointer (some ⟨p, 0, none⟩))) := fun Wc h => HP.out ▸ (S'.later h).ptr k hk
          have HC2 : Hid (∀ Wc, Below W.heap.size W Wc → Thr Wc (w1.heap.size + 1 + 1 + 1) (k * 3) (T k) a' E) := fun Wc h => by have := (S'.later h).row k hk; simp only [upd, if_true] at this; exact this
          have HN : Hid (∀ Wc, Below W.heap.size W Wc → Sta w Wc P (w1.heap.size + 1 + 1) (w1.heap.size + 1 + 1 + 1) T (upd s k s') (upd e k E) (upd a k a')) := fun Wc h => S'.later h
          clear L1 L2 S' hL0 hcor hsz hr hL cp q0 q1 hr' HP hT
          refine wp_region_planV (by kernel_rfl) [104, 105, 106, 107, 108, 109, 110, 111, 112, 113, 114, 115, 116, 117, 118, 119, 120, 121, 122, 123, 124, 125, 126, 127] [.int .u64 0, .int .u64 0, .bool false, .bool false, .string Y, .string Y, .bool false, .bool false, .bool false, .int .i64 (E : Int), .int .i64 (E : Int), .bool false, .bool false, .bool false, .int .i64 (k : Int), .pointer (some ⟨w1.heap.size + 1 + 1, k, none⟩), .pointer (some ⟨p, 0, none⟩), .int .i64 (L : Int), .int .i64 (k : Int), .pointer (some ⟨w1.heap.size + 1 + 1 + 1, k * 3, none⟩), rv (T k) a' E, .int .i64 (L : Int), .bool false, .bool false] (by kernel_rfl) rfl ?step ?fin
          case fin =>
            intro Wc hB
            have S2 := HN.out Wc hB
            clear HL1 HL2 HC1 HC2 HN hB
            simp only [puts]
            go_simp
            go_wp2
            go_roundg (len - (j + 1))
            case rel =>
              go_light
              exact ⟨j + 1, _, _, _, by omega, rfl, by go_num, S2⟩
            case measure => go_light; omega
          case step =>
            clear HN
            refine ⟨?_, ?_, ?_, ?_, ?_, ?_, ?_, ?_, ?_, ?_, ?_, ?_, ?_, ?_, ?_, ?_, ?_, ?_, ?_, ?_, ?_, ?_, ?_, ?_, trivial⟩
            · intro Ac Wc K hB hsm dep hK
              have t13 : Ac.tmps.getD 13 undef = .int .u64 0 := hsm 13 rfl
              show Oper.wp _ _ Ac Wc K _
              go_simp
              exact hK _ _ rfl (Below.refl _ _)
            · intro Ac Wc K hB hsm dep hK
              have t14 : Ac.tmps.getD 14 undef = .int .u64 0 := hsm 14 rfl
              show Oper.wp _ _ Ac Wc K _
              go_simp
              exact hK _ _ rfl (Below.refl _ _)
            · intro Ac Wc K hB hsm dep hK
              have t104 : Ac.tmps.getD 104 undef = .int .u64 0 := dep 0 rfl
              have t105 : Ac.tmps.getD 105 undef = .int .u64 0 := dep 1 rfl
              show Oper.wp _ _ Ac Wc K _
              go_simp
              exact hK _ _ rfl (Below.refl _ _)
            · intro Ac Wc K hB hsm dep hK
              have t106 : Ac.tmps.getD 106 undef = .bool false := dep 2 rfl
              show Oper.wp _ _ Ac Wc K _
              go_simp
              exact hK _ _ rfl (Below.refl _ _)
            · intro Ac Wc K hB hsm dep hK
              have t15 : Ac.tmps.getD 15 undef = .string Y := hsm 15 rfl
              refine ⟨false, (show Ac.tmps.getD 107 undef = .bool false from dep 3 rfl), ?_⟩
              rw [if_pos rfl]
              go_simp
              exact hK _ _ rfl (Below.refl _ _)
            · intro Ac Wc K hB hsm dep hK
              have t16 : Ac.tmps.getD 16 undef = .string Y := hsm 16 rfl
              refine ⟨false, (show Ac.tmps.getD 107 undef = .bool false from dep 3 rfl), ?_⟩
              rw [if_pos rfl]
              go_simp
              exact hK _ _ rfl (Below.refl _ _)
            · intro Ac Wc K hB hsm dep hK
              have t108 : Ac.tmps.getD 108 undef = .string Y := dep 4 rfl
              have t109 : Ac.tmps.getD 109 undef = .string Y := dep 5 rfl
              refine ⟨false, (show Ac.tmps.getD 107 undef = .bool false from dep 3 rfl), ?_⟩
              rw [if_pos rfl]
              go_simp
              exact hK _ _ rfl (Below.refl _ _)
            · intro Ac Wc K hB hsm dep hK
              have t107 : Ac.tmps.getD 107 undef = .bool false := dep 3 rfl
              have t110 : Ac.tmps.getD 110 undef = .bool false := dep 6 rfl
              show Oper.wp _ _ Ac Wc K _
              go_simp
              exact hK _ _ rfl (Below.refl _ _)
            · intro Ac Wc K hB hsm dep hK
              have t111 : Ac.tmps.getD 111 undef = .bool false := dep 7 rfl
              show Oper.wp _ _ Ac Wc K _
              go_simp
              exact hK _ _ rfl (Below.refl _ _)
            · intro Ac Wc K hB hsm dep hK
              have t17 : Ac.tmps.getD 17 undef = .int .i64 (E : Int) := hsm 17 rfl
              refine ⟨false, (show Ac.tmps.getD 112 undef = .bool false from dep 8 rfl), ?_⟩
              rw [if_pos rfl]
              go_simp
              exact hK _ _ rfl (Below.refl _ _)
            · intro Ac Wc K hB hsm dep hK
              have t18 : Ac.tmps.getD 18 undef = .int .i64 (E : Int) := hsm 18 rfl
              refine ⟨false, (show Ac.tmps.getD 112 undef = .bool false from dep 8 rfl), ?_⟩
              rw [if_pos rfl]
              go_simp
              exact hK _ _ rfl (Below.refl _ _)
            · intro Ac Wc K hB hsm dep hK
              have t113 : Ac.tmps.getD 113 undef = .int .i64 (E : Int) := dep 9 rfl
              have t114 : Ac.tmps.getD 114 undef = .int .i64 (E : Int) := dep 10 rfl
              refine ⟨false, (show Ac.tmps.getD 112 undef = .bool false from dep 8 rfl), ?_⟩
              rw [if_pos rfl]
              go_simp
              exact hK _ _ rfl (Below.refl _ _)
            · intro Ac Wc K hB hsm dep hK
              have t112 : Ac.tmps.getD 112 undef = .bool false := dep 8 rfl
              have t115 : Ac.tmps.getD 115 undef = .bool false := dep 11 rfl
              show Oper.wp _ _ Ac Wc K _
              go_simp
              exact hK _ _ rfl (Below.refl _ _)
            · intro Ac Wc K hB hsm dep hK
              have t116 : Ac.tmps.getD 116 undef = .bool false := dep 12 rfl
              show Oper.wp _ _ Ac Wc K _
              go_simp
              exact hK _ _ rfl (Below.refl _ _)
            · intro Ac Wc K hB hsm dep hK
              have t12 : Ac.tmps.getD 12 undef = .int .i64 (k : Int) := hsm 12 rfl
              refine ⟨false, (show Ac.tmps.getD 117 undef = .bool false from dep 13 rfl), ?_⟩
              rw [if_pos rfl]
              go_simp
              exact hK _ _ rfl (Below.refl _ _)
            · intro Ac Wc K hB hsm dep hK
              have t9 : Ac.tmps.getD 9 undef = .pointer (some ⟨w1.heap.size + 1 + 1, 0, none⟩) := hsm 9 rfl
              have t118 : Ac.tmps.getD 118 undef = .int .i64 (k : Int) := dep 14 rfl
              refine ⟨false, (show Ac.tmps.getD 117 undef = .bool false from dep 13 rfl), ?_⟩
              rw [if_pos rfl]
              go_simp
              exact hK _ _ rfl (Below.refl _ _)
            · intro Ac Wc K hB hsm dep hK
              have t119 : Ac.tmps.getD 119 undef = .pointer (some ⟨w1.heap.size + 1 + 1, k, none⟩) := dep 15 rfl
              refine ⟨false, (show Ac.tmps.getD 117 undef = .bool false from dep 13 rfl), ?_⟩
              rw [if_pos rfl]
              have cq := HC1.out Wc hB
              go_simp
              exact hK _ _ rfl (Below.refl _ _)
            · intro Ac Wc K hB hsm dep hK
              have t120 : Ac.tmps.getD 120 undef = .pointer (some ⟨p, 0, none⟩) := dep 16 rfl
              refine ⟨false, (show Ac.tmps.getD 117 undef = .bool false from dep 13 rfl), ?_⟩
              rw [if_pos rfl]
              go_simp
              refine (HL1.out Wc hB).mono ?_
              rintro e w' ⟨rfl, hb⟩
              exact hK _ _ rfl hb
            · intro Ac Wc K hB hsm dep hK
              have t12 : Ac.tmps.getD 12 undef = .int .i64 (k : Int) := hsm 12 rfl
              refine ⟨false, (show Ac.tmps.getD 117 undef = .bool false from dep 13 rfl), ?_⟩
              rw [if_pos rfl]
              go_simp
              exact hK _ _ rfl (Below.refl _ _)
            · intro Ac Wc K hB hsm dep hK
              have t10 : Ac.tmps.getD 10 undef = .pointer (some ⟨w1.heap.size + 1 + 1 + 1, 0, none⟩) := hsm 10 rfl
              have t122 : Ac.tmps.getD 122 undef = .int .i64 (k : Int) := dep 18 rfl
              refine ⟨false, (show Ac.tmps.getD 117 undef = .bool false from dep 13 rfl), ?_⟩
              rw [if_pos rfl]
              go_simp
              exact hK _ _ rfl (Below.refl _ _)
            · intro Ac Wc K hB hsm dep hK
              have t123 : Ac.tmps.getD 123 undef = .pointer (some ⟨w1.heap.size + 1 + 1 + 1, k * 3, none⟩) := dep 19 rfl
              refine ⟨false, (show Ac.tmps.getD 117 undef = .bool false from dep 13 rfl), ?_⟩
              rw [if_pos rfl]
              have tq := HC2.out Wc hB
              have tq0 := tq.c0
              have tq1 := tq.c1
              have tq2 := tq.c2
              go_simp
              exact hK _ _ rfl (Below.refl _ _)
            · intro Ac Wc K hB hsm dep hK
              have t124 : Ac.tmps.getD 124 undef = rv (T k) a' E := dep 20 rfl
              refine ⟨false, (show Ac.tmps.getD 117 undef = .bool false from dep 13 rfl), ?_⟩
              rw [if_pos rfl]
              go_simp
              refine (HL2.out Wc).mono ?_
              rintro e w' ⟨rfl, hb⟩
              exact hK _ _ rfl hb
            · intro Ac Wc K hB hsm dep hK
              have t121 : Ac.tmps.getD 121 undef = .int .i64 (L : Int) := dep 17 rfl
              have t125 : Ac.tmps.getD 125 undef = .int .i64 (L : Int) := dep 21 rfl
              refine ⟨false, (show Ac.tmps.getD 117 undef = .bool false from dep 13 rfl), ?_⟩
              rw [if_pos rfl]
              go_simp
              exact hK _ _ rfl (Below.refl _ _)
            · intro Ac Wc K hB hsm dep hK
              have t117 : Ac.tmps.getD 117 undef = .bool false := dep 13 rfl
              have t126 : Ac.tmps.getD 126 undef = .bool false := dep 22 rfl
              show Oper.wp _ _ Ac Wc K _
              go_simp
              exact hK _ _ rfl (Below.refl _ _)
    · have hz : ¬ (j : Int) < (len : Int) := by omega
      go_wp2
      go_ret
      exact ⟨rfl, S.below⟩
end Go.Proofs.Ytfgpmpopmpobgaa
