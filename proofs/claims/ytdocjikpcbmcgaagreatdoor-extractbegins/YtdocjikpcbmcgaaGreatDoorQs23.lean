/-
  Own work: BWalkE.
-/
import Derived.Test.YtdocjikpcbmcgaaGreatDoorQs22
namespace Go.Proofs.YtdocjikpcbmcgaaGreatDoor
open Go.RowKit
open Cv (RdC zl cU tno)
open Pl (pw)
attribute [local go_sem ↓] Go.wp_at_zero Go.wp_at_succ
theorem own_block {w : World} {B T s n : Nat} {y : Value} {cs : List Value} (h : w.ownsRow B T s y n cs) {g : Nat} (hg : y.ownBlock = some g) : B ≤ g ∧ ∃ cur, w.heap[g]? = some (.cells cur T (0, 0)) := by
  obtain ⟨_, h2⟩ := h
  rcases h2 with ⟨rfl, _⟩ | ⟨g', cap, cur, rfl, hb, hh, _⟩
  · cases hg
  · cases hg
    exact ⟨hb, cur, hh⟩
theorem rdc_string {w : World} {ao : Option Addr} {b off len cap : Nat} {l : List ByteArray} (h : RdS w ao b off len l) (hn : ao = none → cap = 0) : RdC w (.slice ao len cap) len (l.map Value.string) := by
  refine ⟨ao, cap, rfl, fun e => ⟨?_, hn e⟩, fun ad ha j c hj => ?_⟩
  · rcases Nat.eq_zero_or_pos len with h0 | h0
    · exact h0
    · have := h.ptr h0; rw [e] at this; cases this
  · have hj' : j < len := by have := (List.getElem?_eq_some_iff.1 hj).1; rw [List.length_map, h.hl] at this; exact this
    have := h.ptr (by omega)
    rw [ha] at this
    cases this
    rw [Addr.add_mid]
    exact h.rng j c hj
theorem wpList_append_SA (w : World) {ops : Array Oper} {rest : List Oper} {o : Oper} {a : Act} {Q : Exit → Act → World → Prop}
    (hg : o.guard = none) (s x : Operand) (hop : o.op = Op.call { callee := Callee.builtin Builtin.append, args := #[s, x], argTypes := #[22, 22] })
    (B : Nat) (v : Value) (L : List ByteArray) (hs : a.eval s = v) (hown : OwnS w B v L) (ao : Option Addr) (b off len cap : Nat) (M : List ByteArray) (hx : a.eval x = .slice ao len cap) (hr : RdS w ao b off len M) (hn : ao = none → cap = 0)
    (hlen : L.length + M.length ≤ 1048576) (hB : B ≤ w.heap.size)
    (hK : ∀ v' w', OwnS w' B v' (L ++ M) → w.grownBy w' v.ownBlock → (v'.ownBlock = v.ownBlock ∨ ∀ g, v'.ownBlock = some g → w.heap.size ≤ g) → wpList Tryz.prog ops Q rest (a.put o.dst v') w') : wpList Tryz.prog ops Q (o :: rest) a w := by
  obtain ⟨i0, hi, hz0, hz1, hz2⟩ := info_parts Tryz.infoS
  have hl := hr.hl
  refine Cv.wpList_append_ap w hg s x _ hop B 9 i0 (.string ByteArray.empty) 1 16 Tryz.underlying22 hi hz0 hz1 hz2 rfl (by decide) v L.length (L.map Value.string) hs hown (.slice ao len cap) len (M.map Value.string) hx (rdc_string hr hn) (by rw [List.length_map, hl, Nat.mul_one]) (by intro u hu; obtain ⟨y, _, rfl⟩ := List.mem_map.1 hu; rfl) (by unfold maxLen; omega) (by omega) hB ?_
  intro v' w' h
  refine hK v' w' ?_ h.grown h.fresh
  rw [OwnS, List.length_append, List.map_append, hl]
  exact h.own
theorem own_ty {w : World} {B T s n q : Nat} {y : Value} {xs : List Value} {cs : Array Value} {T' : Nat} {fr : Nat × Nat} (h : w.ownsRow B T s y n xs) (hq : w.heap[q]? = some (.cells cs T' fr)) (hT : T ≠ T') : ∀ g, y.ownBlock = some g → g ≠ q := fun g hg e => by
  subst e
  obtain ⟨_, cur, hc⟩ := own_block h hg
  rw [hq] at hc
  injection hc with hc
  injection hc with _ h2 _
  exact hT h2.symm
structure Lw (w2 wr : World) (p q : Nat) (K : Int) (vs : Value) (S : List Nat) (X D P : List ByteArray) : Prop where
  ow : OwnS wr w2.heap.size vs P
  gc : ∃ a n c a' n' c', Gc wr p (.slice a n c) (.slice a' n' c') ∧ Gv wr w2.heap.size (.agg #[.slice a n c, .slice a' n' c']) S X
  rw : Rw wr w2.heap.size q K D
  hp : w2.heap.size ≤ p
  hq : w2.heap.size ≤ q
  below : Below w2.heap.size w2 wr
section
variable {w2 wr W : World} {p q : Nat} {K : Int} {vs : Value} {S : List Nat} {X D P : List ByteArray}
theorem Lw.next (h : Lw w2 wr p q K vs S X D P) (hb : Below wr.heap.size wr W) : Lw w2 W p q K vs S X D P := by
  obtain ⟨a, n, c, a', n', c', g1, g2⟩ := h.gc
  exact ⟨own_next h.ow hb (Nat.le_refl _), ⟨a, n, c, a', n', c', g1.next hb, g2.next hb⟩, h.rw.next hb, h.hp, h.hq, bnext h.below hb⟩
theorem Rw.ty {RB : Nat} (h : Rw wr RB q K D) : ∃ cs, wr.heap[q]? = some (.cells cs 162 (0, 0)) := by
  obtain ⟨_, _, _, _, h1, _⟩ := h.ex
  exact ⟨_, h1⟩
theorem Rw.low {RB : Nat} (h : Rw wr RB q K D) (hq : W.heap[q]? = wr.heap[q]?) (hb : Below RB wr W) : Rw W RB q K D := by
  obtain ⟨da, db, dO, dc, h1, h2, h3, h4, h5⟩ := h.ex
  refine ⟨da, db, dO, dc, hq.trans h1, ?_, h3, h4, h5⟩
  by_cases h0 : 0 < D.length
  · exact h2.same (hb.block db (h5 h0))
  · exact ⟨h2.hl, h2.ptr, fun j v hv => absurd (List.getElem?_eq_some_iff.1 hv).1 (by rw [List.length_map]; omega), h2.sz⟩
theorem gc_rw {RB : Nat} {a b : Value} (h : Rw wr RB q K D) (g : Gc wr p a b) : p ≠ q := fun e => by
  subst e
  obtain ⟨cs, h1⟩ := h.ty
  rw [g] at h1
  cases h1
theorem Lw.node {D' : List ByteArray} (h : Lw w2 wr p q K vs S X D P) (hx : Bx q wr W) (hr : Rw W w2.heap.size q K D') : Lw w2 W p q K vs S X D' P := by
  obtain ⟨a, n, c, a', n', c', g1, g2⟩ := h.gc
  obtain ⟨cs, h1⟩ := h.rw.ty
  refine ⟨keep_row h.ow fun g hg _ => hx.block g (World.ownsRow.lt h.ow g hg).2 (own_ty h.ow h1 (by decide) g hg), ⟨a, n, c, a', n', c', (hx.block p g1.lt (gc_rw h.rw g1)).trans g1, g2.bx h.rw hx⟩, hr, h.hp, h.hq, h.below.trans (hx.below h.hq h.below.size)⟩
theorem Lw.app {vs' : Value} {P' : List ByteArray} (h : Lw w2 wr p q K vs S X D P) (ho : OwnS W w2.heap.size vs' P') (hg : wr.grownBy W vs.ownBlock) : Lw w2 W p q K vs' S X D P' ∧ (∀ p2 a b, Gc wr p2 a b → Gc W p2 a b) ∧ Below w2.heap.size wr W := by
  obtain ⟨a, n, c, a', n', c', g1, g2⟩ := h.gc
  obtain ⟨cs, h1⟩ := h.rw.ty
  have hlo : ∀ g, vs.ownBlock = some g → w2.heap.size ≤ g := fun g hg => (World.ownsRow.lt h.ow g hg).1
  have hb : Below w2.heap.size wr W := (Below.refl _ _).grown hg h.below.size hlo
  have gcs : ∀ p2 a b, Gc wr p2 a b → Gc W p2 a b := fun p2 a b g => (hg.block p2 g.lt (fun e => own_ty h.ow g (by decide) p2 e.symm rfl)).trans g
  have hq2 : W.heap[q]? = wr.heap[q]? := hg.block q h.rw.lt (fun e => own_ty h.ow h1 (by decide) q e.symm rfl)
  exact ⟨⟨ho, ⟨a, n, c, a', n', c', gcs _ _ _ g1, g2.low hb⟩, h.rw.low hq2 hb, h.hp, h.hq, h.below.trans hb⟩, gcs, hb⟩
theorem Lw.cut {S' : List Nat} {X' : List ByteArray} {a a' : Option Addr} {n c n' c' : Nat} (h : Lw w2 wr p q K vs S X D P) (g : Gv wr w2.heap.size (.agg #[.slice a n c, .slice a' n' c']) S' X') : Lw w2 (put2 wr p (.slice a n c) (.slice a' n' c')) p q K vs S' X' D P := by
  obtain ⟨_, _, _, _, _, _, g1, _⟩ := h.gc
  have hc := put2_ch wr p (.slice a n c) (.slice a' n' c')
  have hb : Below w2.heap.size wr (put2 wr p (.slice a n c) (.slice a' n' c')) := hc.below (by rintro b rfl; exact h.hp)
  exact ⟨keep_row h.ow fun g hg _ => hc.block g (own_ty h.ow g1 (by decide) g hg), ⟨_, _, _, _, _, _, g1.put _ _, g.low hb⟩, h.rw.low (hc.block q (Ne.symm (gc_rw h.rw g1))) hb, h.hp, h.hq, h.below.trans hb⟩
end
theorem lw_start {w3 w4 : World} {k : Int} {vs : Value} {sa da xa : Option Addr} {sb so sc db dO dc xb xo xc : Nat} {S : List Nat} {X D : List ByteArray} (hb : Below w3.heap.size w3 w4) (ho : OwnS w4 w3.heap.size vs []) (r1 : RdU w3 sa sb so X.length S) (r2 : RdS w3 xa xb xo X.length X) (r3 : RdS w3 da db dO D.length D) (hc : X.length ≤ sc ∧ (sa = none → sc = 0) ∧ D.length ≤ dc ∧ (da = none → dc = 0) ∧ X.length ≤ xc ∧ (xa = none → xc = 0) ∧ (∀ s ∈ X, s.size ≤ 1048576) ∧ S.length = X.length) :
    Lw w3 ((w4.alloc (.cells #[.slice sa X.length sc, .slice xa X.length xc] 160)).alloc (.cells #[.int .i64 k, .slice da D.length dc] 162)).drew w4.heap.size (w4.heap.size + 1) k vs S X D [] ∧ Lw w3 ((w4.alloc (.cells #[.int .i64 k, .slice da D.length dc] 162)).alloc (.cells #[.slice sa X.length sc, .slice xa X.length xc] 160)).drew (w4.heap.size + 1) w4.heap.size k vs S X D [] := by
  obtain ⟨a1, a2, a3, a4, a5, a6, _, a8⟩ := hc
  have hz := hb.size
  have key : ∀ W, Below w4.heap.size w4 W → (OwnS W w3.heap.size vs [] ∧ Gv W w3.heap.size (.agg #[.slice sa X.length sc, .slice xa X.length xc]) S X ∧ RdS W da db dO D.length D ∧ Below w3.heap.size w3 W) := fun W hW => by
    have hbW := bnext hb hW
    refine ⟨own_next ho hW (Nat.le_refl _), ⟨sa, sb, so, sc, xa, xb, xo, xc, by rw [a8], by rw [a8]; exact r1.next hbW, r2.next hbW (Nat.le_refl _), by omega, a5, a2, a6, fun h => ?_, fun h => ?_⟩, r3.next hbW (Nat.le_refl _), hbW⟩
    · exact r1.lt (by omega)
    · exact r2.lt h
  constructor
  · obtain ⟨e1, e2⟩ := two_boxes w4 (.cells #[.slice sa X.length sc, .slice xa X.length xc] 160) (.cells #[.int .i64 k, .slice da D.length dc] 162)
    obtain ⟨k1, k2, k3, k4⟩ := key _ (bal (bal (Below.refl w4.heap.size w4) (.cells #[.slice sa X.length sc, .slice xa X.length xc] 160)) (.cells #[.int .i64 k, .slice da D.length dc] 162)).drew
    exact ⟨k1, ⟨_, _, _, _, _, _, e1, k2⟩, ⟨da, db, dO, dc, e2, k3, a3, a4, fun h => r3.lt h⟩, hz, by omega, k4⟩
  · obtain ⟨e1, e2⟩ := two_boxes w4 (.cells #[.int .i64 k, .slice da D.length dc] 162) (.cells #[.slice sa X.length sc, .slice xa X.length xc] 160)
    obtain ⟨k1, k2, k3, k4⟩ := key _ (bal (bal (Below.refl w4.heap.size w4) (.cells #[.int .i64 k, .slice da D.length dc] 162)) (.cells #[.slice sa X.length sc, .slice xa X.length xc] 160)).drew
    exact ⟨k1, ⟨_, _, _, _, _, _, e2, k2⟩, ⟨da, db, dO, dc, e1, k3, a3, a4, fun h => r3.lt h⟩, by omega, hz, k4⟩
structure PF (c n : Nat) (M : List (Nat × Nat)) (S : List Nat) (X D R : List ByteArray) : Prop where
  pb : pB c M S X D = R
  row : ∃ p, Cv.Row n p M ∧ Fr p n S
  asc : Asc S
  len : X.length = S.length
  dig : (fB M S).length ≤ D.length
  hX : ∀ s ∈ X, s.size ≤ 1048576
  hD : ∀ s ∈ D, s.size = c
  hm : S.length ≤ 8796093022208
theorem PF.step {c n : Nat} {m : Nat × Nat} {M : List (Nat × Nat)} {S : List Nat} {X D R : List ByteArray} (h : PF c n (m :: M) S X D R) {t : Nat} (ht : bl S ((m.2 + 1) * pw m.1) = t) :
    t ≤ S.length ∧ In m.1 m.2 (S.take t) ∧ (tno m.1 m.2 (S.take t)).length ≤ D.length ∧ ∃ R', R = vB c m.1 m.2 (S.take t) (X.take t) D :: R' ∧ PF c n M (S.drop t) (X.drop t) (D.drop (tno m.1 m.2 (S.take t)).length) R' := by
  obtain ⟨p, hr, hf⟩ := h.row
  have hd := h.dig
  have hpb := h.pb
  rw [fB, ht, List.length_append] at hd
  rw [pB, ht] at hpb
  have l1 := fr_low h.asc hf hr.1
  have l2 : Fr ((m.2 + 1) * pw m.1) n (S.drop (bl S ((m.2 + 1) * pw m.1))) := fr_high h.asc hf
  rw [ht] at l1 l2
  have hl := h.len
  have hm := h.hm
  refine ⟨by rw [← ht]; exact bl_le _ _, l1, by omega, _, hpb.symm, ⟨rfl, ⟨_, hr.2.2.2, l2⟩, asc_drop h.asc _, by rw [List.length_drop, List.length_drop, hl], by rw [List.length_drop]; omega, fun s hs => h.hX s ((List.drop_sublist _ _).subset hs), fun s hs => h.hD s ((List.drop_sublist _ _).subset hs), by rw [List.length_drop]; omega⟩⟩
theorem pf_start {k : Int} {size : Nat} {S : List Nat} {X D : List ByteArray} (hl : S.length = X.length) (hns : X.length ≤ 8796093022208) (hok : okB 2 k 0 size S D) (hsz : ∀ s ∈ X, s.size ≤ 1048576) : size ≤ 2 ^ 40 ∧ PF (clk k) size (Cv.dnL 41 0 size) S X D (pB (clk k) (Cv.dnL 41 0 size) S X D) := by
  obtain ⟨⟨_, hk, _⟩, he, hf⟩ := hok
  obtain ⟨h40, _, _, hc⟩ := Cv.errS_ok he
  have hrow : Cv.Row size 0 (Cv.dnL 41 0 size) := by rw [← Cv.cov_zero size h40]; exact Cv.cov_row 0 size (Nat.zero_le _) h40
  have ha := chain_asc hc
  have hfr : Fr 0 size S := fun i hi => Cv.chain_mem hc i hi
  have hck : (clk k : Int) = k := clk_of hk.1 hk.2
  refine ⟨h40, rfl, ⟨0, hrow, hfr⟩, ha, hl.symm, ?_, hsz, fun s hs => by have := hf.2 s hs; omega, by omega⟩
  rw [fB_flat hrow ha hfr, ← Cv.rest_ref size S h40 hc, hf.1, Cv.rstS, if_pos he]
  exact Nat.le_refl _
set_option maxRecDepth 100000 in
set_option maxHeartbeats 8000000 in
theorem broot_ok (w : World) (ht : Tb w) (k : Int) (size : Nat) (sa : Option Addr) (sb so sc : Nat) (S : List Nat) (X : List ByteArray) (hs : RdU w sa sb so X.length S) (hns : X.length ≤ 8796093022208) (hsc : X.length ≤ sc) (hsn : sa = none → sc = 0) (da : Option Addr) (db dO dc : Nat) (D : List ByteArray) (hr : RdS w da db dO D.length D) (hm : D.length ≤ 8796093022208) (hdc : D.length ≤ dc) (hdn : da = none → dc = 0) (xa : Option Addr) (xb xo xc : Nat) (hx : RdS w xa xb xo X.length X) (hxc : X.length ≤ xc) (hxn : xa = none → xc = 0) (hok : okB 2 k 0 size S D) (hsz : ∀ s ∈ X, s.size ≤ 1048576) (r : ByteArray) (hq : dg (clk k) (rootT size (bagL (clk k) (pB (clk k) (Cv.dnL 41 0 size) S X D))) = r) :
    Calls Tryz.prog 64 #[vP 2 k 0 size (.slice sa X.length sc) (.slice da D.length dc), .slice xa X.length xc] w fun e w' => e = .returned (.tuple #[.agg #[.int .u64 (size : Int), .string r], .int .i64 0]) ∧ Below w.heap.size w w' := by
  obtain ⟨h40, hpf⟩ := pf_start hs.hl hns hok hsz
  obtain ⟨M, hM⟩ : ∃ M, Cv.dnL 41 0 size = M := ⟨_, rfl⟩
  rw [hM] at hpf hq
  obtain ⟨P, hP⟩ : ∃ P, pB (clk k) M S X D = P := ⟨_, rfl⟩
  rw [hP] at hpf hq
  have hMin : ∀ b ∈ M, (b.2 + 1) * 2 ^ b.1 ≤ size := by rw [← hM]; exact dn_in size h40
  have hMl : M.length ≤ 41 := by rw [← hM]; exact Cv.dn_len 41 0 size
  have hPl : P.length = M.length := by rw [← hP]; exact pB_len _ _ _ _ _
  have hPs : ∀ s ∈ P, s.size = clk k := by rw [← hP]; exact pB_size (clk_le k) M S X D hpf.hD hpf.dig
  have HI : Hid (∀ W, Calls Tryz.prog 118 #[vP 2 k 0 size (.slice sa X.length sc) (.slice da D.length dc)] W fun e w' => e = .returned (.bool true) ∧ Below W.heap.size W w') := fun W => isb_core W 2 k 0 size sa X.length sc da D.length dc true (decide_eq_true hok.1)
  have HF : Hid (∀ W, Below w.heap.size w W → Calls Tryz.prog 119 #[vP 2 k 0 size (.slice sa X.length sc) (.slice da D.length dc)] W fun e w' => e = .returned (.bool true) ∧ Below W.heap.size W w') := fun W hb => bfilled_core W 2 k 0 size sa sb so X.length sc S (hs.next hb) hns da db dO dc D (hr.next hb (Nat.le_refl _)) hm _ rfl _ rfl true (decide_eq_true hok.2)
  have HX : Hid (∀ W, Below w.heap.size w W → RdS W xa xb xo X.length X ∧ RdU W sa sb so X.length S ∧ RdS W da db dO D.length D ∧ Tb W) := fun W hb => ⟨hx.next hb (Nat.le_refl _), hs.next hb, hr.next hb (Nat.le_refl _), ht.next hb⟩
  have HM : Hid (∀ W, Calls Tryz.prog 75 #[.int .u64 (size : Int)] W fun e w' => ∃ ao g cap, e = .returned (.tuple #[.slice ao M.length cap, .int .i64 0]) ∧ RdB w' ao g 0 M.length (zl M) ∧ Below W.heap.size W w') := fun W => by
    have h := Cv.mountains_any size W
    rw [(mount40 size h40).1, (mount40 size h40).2, hM] at h
    refine h.mono fun e w' ⟨v, e1, e2, e3⟩ => ?_
    obtain ⟨ao, g, n', cap, rfl, hr', _⟩ := own_rdB e2 (fun b hb => by
      obtain ⟨b0, hb0, rfl⟩ := List.mem_map.1 hb
      exact (fit40 (hMin b0 hb0) h40).1)
    have hl := hr'.len
    rw [Cv.zl_len] at hl
    subst hl
    exact ⟨ao, g, cap, e1, hr', e3⟩
  have HC : Hid (X.length ≤ sc ∧ (sa = none → sc = 0) ∧ D.length ≤ dc ∧ (da = none → dc = 0) ∧ X.length ≤ xc ∧ (xa = none → xc = 0) ∧ (∀ s ∈ X, s.size ≤ 1048576) ∧ S.length = X.length) := ⟨hsc, hsn, hdc, hdn, hxc, hxn, hsz, hs.hl⟩
  have HP : Hid (PF (clk k) size M S X D P ∧ (∀ b ∈ M, (b.2 + 1) * 2 ^ b.1 ≤ size) ∧ P.length = M.length ∧ (∀ s ∈ P, s.size = clk k) ∧ size ≤ 2 ^ 40 ∧ M.length ≤ 41 ∧ dg (clk k) (rootT size (bagL (clk k) P)) = r) := ⟨hpf, hMin, hPl, hPs, h40, hMl, hq⟩
  obtain ⟨W0, hW0⟩ : ∃ W0, (w.alloc (.cells #[.int .i64 2, .int .i64 k, .int .u64 ((0 : Nat) : Int), .int .u64 (size : Int), .slice sa X.length sc, .slice da D.length dc] 55)).alloc (.cells #[.int .u64 0, .string ⟨#[]⟩] 30) = W0 := ⟨_, rfl⟩
  obtain ⟨hb, h6, hRt, hz⟩ := root_start hW0
  rw [show ((0 : Nat) : Int) = 0 from rfl] at hW0 h6
  obtain ⟨c0, c1, c2, c3, c4, c5⟩ := h6.cells
  have HR := hide (And.intro hRt hz)
  have H6 := hide h6
  have hn5 : (X.length : Int) ≤ 8796093022208 := by omega
  have hm5 : (M.length : Int) ≤ 41 := by omega
  clear hs hr hm hok h6 hRt hz hx hsz hpf hMin hPl hPs h40 hq hM hP hsc hsn hdc hdn hxc hxn ht hns
  unfold vP at HI HF
  rw [show ((0 : Nat) : Int) = 0 from rfl] at HI HF
  unfold vP
  rw [show ((0 : Nat) : Int) = 0 from rfl]
  go_enter Tryz.func64, Tryz.ntmps64
  go_upto_region 3 with (first
    | (go_at_call 118; with_reducible refine (HI.out _).mono ?_; rintro e w1 ⟨rfl, hb1⟩; obtain ⟨d0, d1, d2, d3, d4, d5⟩ := (H6.out.next hb1).cells)
    | (go_at_call 119; with_reducible refine (HF.out _ (bnext hb hb1)).mono ?_; rintro e w2 ⟨rfl, hb2⟩; obtain ⟨g0, g1, g2, g3, g4, g5⟩ := (H6.out.next (bnext hb1 hb2)).cells))
  have hbw := bnext (bnext hb hb1) hb2
  have HR2 := hide (And.intro (HR.out.1.below (bnext hb1 hb2) (by rw [HR.out.2]; omega)) (H6.out.next (bnext hb1 hb2)))
  clear hb hb1 hb2 c0 c1 c2 c3 c4 c5 d0 d1 d2 d3 d4 d5 HI HF HR H6 hW0
  go_wp2
  go_loopg [36] X.length (fun g i wr => ∃ j : Nat, j ≤ X.length ∧ g = X.length - j ∧ i = .int .i64 (j : Int) ∧ w2 = wr)
  case atStart =>
    go_light
    exact ⟨0, Nat.zero_le _, rfl, rfl, rfl⟩
  case round =>
    obtain ⟨j, hj, rfl, rfl, rfl⟩ := hrel
    by_cases hlt : j < X.length
    · have hz : (j : Int) < (X.length : Int) := by omega
      have hz0 : (0 : Int) ≤ (j : Int) := Int.natCast_nonneg _
      have hrd := (HX.out w2 hbw).1
      obtain rfl := hrd.ptr (by omega)
      have cj := hrd.at hlt
      obtain ⟨d, hd⟩ : ∃ d, X.getD j ByteArray.empty = d := ⟨_, rfl⟩
      rw [hd] at cj
      have hk := HC.out.2.2.2.2.2.2.1 _ (getD_mem hlt)
      rw [hd] at hk
      have hkz : ¬ (1048576 : Int) < (d.size : Int) := by omega
      clear hd hrd hk
      go_wp2
      go_roundg (X.length - (j + 1))
      case rel =>
        go_light
        exact ⟨j + 1, by omega, rfl, by go_num, rfl⟩
      case measure => go_light; omega
    · obtain rfl : j = X.length := by omega
      have hz : ¬ ((X.length : Int) < (X.length : Int)) := by omega
      clear hlt hj
      go_upto_region 10 with (go_at_call 75; with_reducible refine (HM.out _).mono ?_; rintro e w3 ⟨ao, gM, capM, rfl, hrB, hb3⟩)
      have HMk := make_S w3 M.length (by omega)
      have HO : Hid (OwnS (w3.alloc (.cells (madeCells #[.string ByteArray.empty] M.length) 9)) w3.heap.size (.slice (some ⟨w3.heap.size, 0, none⟩) 0 M.length) []) := own_made w3 _ (by omega)
      go_upto_region 11 with (fail)
      have hb4 := bal (Below.refl w3.heap.size w3) (.cells (madeCells #[.string ByteArray.empty] M.length) 9)
      generalize w3.alloc (.cells (madeCells #[.string ByteArray.empty] M.length) 9) = w4 at *
      have h63 := HR2.out.2.next (bnext hb3 hb4)
      obtain ⟨k0, k1, k2, k3, k4, k5⟩ := h63.cells
      have hl4 : w.heap.size < w4.heap.size := h63.lt
      have hl5 : w.heap.size ≤ w4.heap.size := Nat.le_of_lt hl4
      have hl6 : w.heap.size < w4.heap.size + 1 := Nat.lt_succ_of_lt hl4
      have hbw3 := bnext hbw hb3
      have HB := hide (And.intro hrB (And.intro hbw3 (And.intro hb4 (And.intro (HR2.out.1.below hb3 (World.block_lt_of_cell? w2 _ HR2.out.1.c0)) (HR2.out.2.next hb3)))))
      clear HM hrB hb3 hb4 h63 hbw3 hbw g0 g1 g2 g3 g4 g5 HMk hz
      go_cut [11, 12] from 54 to 62 (fun x y wx => ∃ p q, x = .pointer (some ⟨p, 0, none⟩) ∧ y = .pointer (some ⟨q, 0, none⟩) ∧ Lw w3 wx p q k (.slice (some ⟨w3.heap.size, 0, none⟩) 0 M.length) S X D [])
      case first =>
        go_region
        all_goals
          go_wp2
          go_meet
          case rel =>
            go_light
            have hst := lw_start (k := k) HB.out.2.2.1 HO.out (HX.out w3 HB.out.2.1).2.1 (HX.out w3 HB.out.2.1).1 (HX.out w3 HB.out.2.1).2.2.1 HC.out
            first
              | with_reducible exact ⟨_, _, rfl, rfl, hst.1⟩
              | with_reducible exact ⟨_, _, rfl, rfl, hst.2⟩
      case rest =>
        obtain ⟨p, q, rfl, rfl, hL⟩ := hcut
        have HL := hide hL
        clear hL HO k0 k1 k2 k3 k4 k5 hl4 hl5 hl6
        go_wp2
        go_loopg [10, 65] M.length (fun g vs i wr => ∃ (j : Nat) (S' : List Nat) (X' D' : List ByteArray), j ≤ M.length ∧ g = M.length - j ∧ i = .int .i64 (j : Int) ∧ Hid (PF (clk k) size (M.drop j) S' X' D' (P.drop j)) ∧ Hid (Lw w3 wr p q k vs S' X' D' (P.take j)))
        case atStart =>
          go_light
          exact ⟨0, S, X, D, Nat.zero_le _, rfl, rfl, HP.out.1, HL.out⟩
        case round =>
          clear HL
          obtain ⟨j, S', X', D', hj, rfl, rfl, HPj, HLj⟩ := hrel
          by_cases hlt : j < M.length
          · have hz : (j : Int) < (M.length : Int) := by omega
            have hz0 : (0 : Int) ≤ (j : Int) := Int.natCast_nonneg _
            have hrd := HB.out.1.below HLj.out.below
            obtain rfl := hrd.addr (by omega)
            obtain ⟨c0, c1⟩ := hrd.cell j hlt
            obtain ⟨⟨mh, mk⟩, hx⟩ : ∃ x, M.getD j (0, 0) = x := ⟨_, rfl⟩
            rw [Cv.zl_getD, hx] at c0 c1
            rw [Nat.zero_add] at c0 c1
            have hdr : M.drop j = (mh, mk) :: M.drop (j + 1) := by rw [← hx]; exact Cv.drop_at (0, 0) M j hlt
            have hmem : (mh, mk) ∈ M := by rw [← hx, List.getD_eq_getElem?_getD, List.getElem?_eq_getElem hlt]; exact List.getElem_mem _
            have hend : (mk + 1) * pw mh ≤ 2 ^ 40 := Nat.le_trans (HP.out.2.1 _ hmem) HP.out.2.2.2.2.1
            have hmh : mh ≤ 40 := (fit40 (b := (mh, mk)) hend (Nat.le_refl _)).2.1
            obtain ⟨t, htt⟩ : ∃ t, bl S' ((mk + 1) * pw mh) = t := ⟨_, rfl⟩
            have hPF := HPj.out
            rw [hdr] at hPF
            obtain ⟨t1, t2, t3, R', hR', hPF'⟩ := hPF.step (m := (mh, mk)) htt
            obtain ⟨ga, gn, gc, ga', gn', gc', hgc, hgv⟩ := HLj.out.gc
            obtain ⟨o3, ho3⟩ : ∃ o3, Obj.cells #[.int .i64 (mh : Int), .int .u64 (mk : Int)] 83 (0, 0) = o3 := ⟨_, rfl⟩
            have e3 := heap_alloc_new wr o3
            have hb2 := bal (Below.refl wr.heap.size wr) o3
            obtain ⟨V, hV⟩ : ∃ V, wr.alloc o3 = V := ⟨_, rfl⟩
            rw [hV] at e3 hb2
            rw [← ho3] at e3 hV
            have hgcV := hgc.next hb2
            obtain ⟨g0, g1, _⟩ := hgcV.cells
            have d0 : V.cell? ⟨wr.heap.size, 0, none⟩ = some (.int .i64 (mh : Int)) := by rw [cell_of_row _ _ 0 _ _ (0, 0) e3]; rfl
            have d1 : V.cell? ⟨wr.heap.size, 1, none⟩ = some (.int .u64 (mk : Int)) := by rw [cell_of_row _ _ 1 _ _ (0, 0) e3]; rfl
            obtain ⟨pp, hpp⟩ : ∃ pp, (mk + 1) * pw mh = pp := ⟨_, rfl⟩
            have HE : Hid (∀ Z, Calls Tryz.prog 121 #[.agg #[.int .i64 (mh : Int), .int .u64 (mk : Int)]] Z fun e w' => e = .returned (.int .u64 (pp : Int)) ∧ Below Z.heap.size Z w') := fun Z => end_any Z mh mk hmh hend pp hpp
            have HCt : Hid (∀ Z, Below V.heap.size V Z → Calls Tryz.prog 120 #[.agg #[.slice ga gn gc, .slice ga' gn' gc'], .int .u64 (pp : Int)] Z fun e w' => ∃ v1 v2, e = .returned (.tuple #[v1, v2]) ∧ Gv w' w3.heap.size v1 (S'.take t) (X'.take t) ∧ Gv w' w3.heap.size v2 (S'.drop t) (X'.drop t) ∧ Below Z.heap.size Z w') := fun Z hZ => cut_any Z _ S' X' (hgv.next (bnext hb2 hZ)) hPF.len hPF.asc (by have := hPF.hm; omega) pp t (by rw [← hpp]; exact htt)
            have HV := hide hb2
            have HK : Hid (∀ Z, Below V.heap.size V Z → Z.cell? ⟨p, 0, none⟩ = some (.slice ga gn gc) ∧ Z.cell? ⟨p, 1, none⟩ = some (.slice ga' gn' gc') ∧ Z.cell? ⟨wr.heap.size, 0, none⟩ = some (.int .i64 (mh : Int)) ∧ Z.cell? ⟨wr.heap.size, 1, none⟩ = some (.int .u64 (mk : Int))) := fun Z hZ =>
              ⟨(hZ.cell (p := ⟨p, 0, none⟩) (World.block_lt_of_cell? V _ g0)).trans g0, (hZ.cell (p := ⟨p, 1, none⟩) (World.block_lt_of_cell? V _ g1)).trans g1, (hZ.cell (p := ⟨wr.heap.size, 0, none⟩) (World.block_lt_of_cell? V _ d0)).trans d0, (hZ.cell (p := ⟨wr.heap.size, 1, none⟩) (World.block_lt_of_cell? V _ d1)).trans d1⟩
            have hLV := HLj.out.next hb2
            have HLV := hide hLV
            have HPV := hide (And.intro hPF (And.intro t1 (And.intro t2 (And.intro t3 (And.intro hR' (And.intro hPF' (And.intro hmh hend)))))))
            clear hx hdr hmem hrd hpp hPF t1 t2 t3 hR' hPF' hend hmh htt hgc hgv hb2 hgcV hLV ho3 e3 HPj
            go_upto_region 15 with (fail)
            clear hV HLj c0 c1
            go_cut [15, 16] from 69 to 75 (fun x y wx => ∃ p1 p2 a1 b1 a2 b2, x = .pointer (some ⟨p1, 0, none⟩) ∧ y = .pointer (some ⟨p2, 0, none⟩) ∧ Fi w3.heap.size V.heap.size V wx p1 p2 a1 b1 a2 b2 (S'.take t) (S'.drop t) (X'.take t) (X'.drop t))
            case first =>
              go_region_held3 (fun Z => Z.cell? ⟨p, 0, none⟩ = some (.slice ga gn gc) ∧ Z.cell? ⟨p, 1, none⟩ = some (.slice ga' gn' gc') ∧ Z.cell? ⟨wr.heap.size, 0, none⟩ = some (.int .i64 (mh : Int)) ∧ Z.cell? ⟨wr.heap.size, 1, none⟩ = some (.int .u64 (mk : Int)))
                (exact HK.out _ (by repeat (first | exact Below.refl _ _ | refine Below.drew ?_ | refine bal ?_ _ | refine bnext ?_ hbc | refine bnext ?_ hbe | refine below_put ?_ (by omega)))) (first
                | (go_at_call 121; with_reducible refine (HE.out _).mono ?_; rintro e we ⟨rfl, hbe⟩
                   have s1 := hbe.size
                   try simp only [World.size_alloc, World.drew] at s1
                   first | (have y1 := (gc_twod V).1.next hbe; have y2 := (gc_twod V).2.next hbe) | (have y1 := (gc_newd V).next hbe) | skip)
                | (go_at_call 120; with_reducible refine (HCt.out _ (by repeat (first | exact Below.refl _ _ | refine Below.drew ?_ | refine bal ?_ _ | refine bnext ?_ hbe))).mono ?_; rintro e wc ⟨v1, v2, rfl, q1, q2, hbc⟩
                   obtain ⟨sa1, sn1, sc1, xa1, xn1, xc1, rfl⟩ := q1.form
                   obtain ⟨sa2, sn2, sc2, xa2, xn2, xc2, rfl⟩ := q2.form
                   have s2 := hbc.size
                   try simp only [World.size_alloc] at s2
                   first | (have x1 := y1.next hbc; have x2 := y2.next hbc) | (have x1 := y1.next hbc) | (have x1 := y1.next (bnext (bal (Below.refl _ _) _) hbc); have x2 := (gc_new we).next hbc) | (have x1 := (gc_two we).1.next hbc; have x2 := (gc_two we).2.next hbc) | (have x1 := (gc_new we).next hbc) | skip
                   try have v1 := x1.lt
                   try have v2 := x2.lt
                   try have u1 := Nat.ne_of_lt x1.lt
                   try have u2 := Nat.ne_of_lt x2.lt
                   try have u3 := Nat.ne_of_lt y1.lt
                   try have u4 := Ne.symm u3
                   try have u5 := Ne.symm u1
                   try have u6 := Ne.symm u2
                   try obtain ⟨k0, k1, kf⟩ := x1.cells
                   try obtain ⟨m0, m1, mf⟩ := x2.cells))
              all_goals have hVc : Below V.heap.size V wc := by repeat (first | exact Below.refl _ _ | refine Below.drew ?_ | refine bal ?_ _ | refine bnext ?_ hbc | refine bnext ?_ hbe)
              all_goals
                go_wp2
                go_meet
                case rel =>
                  go_light
                  first
                    | with_reducible exact ⟨_, _, _, _, _, _, rfl, rfl, fin_a q1 q2 hVc hVc.size⟩
                    | with_reducible exact ⟨_, _, _, _, _, _, rfl, rfl, (fin_a q2 q1 hVc hVc.size).swap⟩
                    | with_reducible exact ⟨_, _, _, _, _, _, rfl, rfl, fin_b q1 q2 hVc hVc.size x1 (by omega)⟩
                    | with_reducible exact ⟨_, _, _, _, _, _, rfl, rfl, (fin_b q2 q1 hVc hVc.size x1 (by omega)).swap⟩
                    | with_reducible exact ⟨_, _, _, _, _, _, rfl, rfl, fin_c q1 q2 hVc x1 x2 (by omega) (by omega) (by omega)⟩
                    | with_reducible exact ⟨_, _, _, _, _, _, rfl, rfl, fin_c q1 q2 hVc x2 x1 (by omega) (by omega) (by omega)⟩
            case rest =>
              obtain ⟨p1, p2, a1, b1, a2, b2, rfl, rfl, F1, F2, F3, F4, F5⟩ := hcut
              obtain ⟨i0, i1, i2, i3⟩ := HK.out wc F5
              obtain ⟨k0, k1, _⟩ := F1.cells
              have hLc := HLV.out.next F5
              have hT := (HX.out wc (bnext HB.out.2.1 hLc.below)).2.2.2
              obtain ⟨hPF, t1, t2, t3, hR', hPF', hmh, hend⟩ := HPV.out
              have hl1 : (S'.take t).length ≤ 8796093022208 := by have := hPF.hm; rw [List.length_take]; omega
              have HN := bnode_any q k mh mk hmh hend (S'.take t) (X'.take t) D' wc (.agg #[a1, b1]) hT hLc.rw F3 (by rw [List.length_take, List.length_take, hPF.len]) (asc_take hPF.asc _) t2 t3 (fun s hs => hPF.hX s ((List.take_sublist _ _).subset hs)) hPF.hD (by omega)
              obtain ⟨x5, hx5⟩ : ∃ x, vB (clk k) mh mk (S'.take t) (X'.take t) D' = x := ⟨_, rfl⟩
              obtain ⟨D5, hD5⟩ : ∃ E, D'.drop (tno mh mk (S'.take t)).length = E := ⟨_, rfl⟩
              simp only [] at hR' hPF'
              rw [hx5] at HN hR'
              rw [hD5] at HN hPF'
              have e1 : P.drop (j + 1) = R' := by
                have := congrArg (List.drop 1) hR'
                rwa [List.drop_drop, List.drop_one, List.tail_cons] at this
              have e0 : P[j]? = some x5 := by
                have := congrArg (fun l => l[0]?) hR'
                simpa using this
              have e2 : P.take (j + 1) = P.take j ++ [x5] := by rw [List.take_add_one, e0]; rfl
              have HZ : Hid (x5.size ≤ 9223372036854775807) := by
                show x5.size ≤ _
                have := HP.out.2.2.2.1 x5 (List.mem_of_getElem? e0)
                have := clk_le k
                omega
              have HW : Hid (PF (clk k) size (M.drop (j + 1)) (S'.drop t) (X'.drop t) D5 (P.drop (j + 1)) ∧ P.take (j + 1) = P.take j ++ [x5]) := ⟨by rw [e1]; exact hPF', e2⟩
              obtain ⟨sa2, sn2, sc2, xa2, xn2, xc2, hv2⟩ := F4.form
              obtain ⟨rfl, rfl⟩ : a2 = .slice sa2 sn2 sc2 ∧ b2 = .slice xa2 xn2 xc2 := by
                injection hv2 with hv2
                have := congrArg Array.toList hv2
                simpa using this
              have HLc := hide hLc
              have HF2 := hide (And.intro F2 F4)
              have HJ : Hid ((P.take j).length ≤ 41) := by show _ ≤ _; rw [List.length_take]; omega
              clear g0 g1 d0 d1 hT hPF t1 t2 t3 hR' hPF' hmh hend hl1 hx5 hD5 e0 e1 e2 hv2 hLc F1 F2 F3 F4 HPV HK HE HCt
              go_wp2_with (first
                | (go_at_call 122; with_reducible refine HN.mono ?_; rintro e w5 ⟨rfl, hr5, hx5⟩)
                | (at_builtin; refine wpList_append_SA _ rfl _ _ rfl w3.heap.size _ (P.take j) rfl (own_al (HLc.out.node hx5 hr5).ow _) (some ⟨w5.heap.size, 0, none⟩) w5.heap.size 0 1 1 [x5] rfl (rds_one w5 x5 HZ.out) (fun h => by cases h) ?c1 ?c2 ?_))
              case c1 => have := HJ.out; simp only [List.length_singleton]; omega
              case c2 => have := (bal (HLc.out.node hx5 hr5).below (.cells #[.string x5] 9)).size; exact this
              intro vs' w6 o6 gr6 _
              have hbx := bal (Below.refl w5.heap.size w5) (.cells #[.string x5] 9)
              obtain ⟨L6, gcs, hb6⟩ := ((HLc.out.node hx5 hr5).next hbx).app o6 gr6
              have G2 : Gc w5 p2 (.slice sa2 sn2 sc2) (.slice xa2 xn2 xc2) := (hx5.block p2 HF2.out.1.lt (gc_rw HLc.out.rw HF2.out.1)).trans HF2.out.1
              have G2 := gcs _ _ _ (G2.next hbx)
              have hG := ((HF2.out.2.bx HLc.out.rw hx5).next hbx).low hb6
              obtain ⟨m0, m1, _⟩ := G2.cells
              obtain ⟨_, _, _, _, _, _, gp, _⟩ := L6.gc
              obtain ⟨n0, n1, nf⟩ := gp.cells
              have HL7 := hide (L6.cut hG)
              clear i0 i1 i2 i3 k0 k1 HN hr5 hx5 o6 gr6 hbx L6 gcs hb6 G2 hG gp HLc HF2
              go_wp2
              go_roundg (M.length - (j + 1))
              case rel =>
                go_light
                exact ⟨j + 1, _, _, _, by omega, rfl, by go_num, HW.out.1, by show Lw _ _ _ _ _ _ _ _ _ _; rw [HW.out.2]; exact HL7.out⟩
              case measure => go_light; omega
          · obtain rfl : j = M.length := by omega
            have hz : ¬ ((M.length : Int) < (M.length : Int)) := by omega
            have hL := HLj.out
            rw [List.take_of_length_le (by rw [HP.out.2.2.1]; exact Nat.le_refl _)] at hL
            obtain ⟨aP, bP, cP, rfl, rP, _, _⟩ := owns_rds hL.ow (fun s hs => by have := HP.out.2.2.2.1 s hs; have := clk_le k; omega)
            have hbr := bnext HB.out.2.1 hL.below
            have h6 := HB.out.2.2.2.2.next hL.below
            have hRt := HB.out.2.2.2.1.below hL.below (World.block_lt_of_cell? w3 _ HB.out.2.2.2.1.c0)
            have HRo : Hid (∀ Z, Below wr.heap.size wr Z → Calls Tryz.prog 81 #[.int .i64 k, .int .u64 (size : Int), .slice aP P.length cP] Z fun e w' => e = .returned (.string r) ∧ Below Z.heap.size Z w') := fun Z hZ => root_any Z (HX.out Z (bnext hbr hZ)).2.2.2 k size aP bP 0 P.length cP P (rP.next hZ (Nat.le_refl _)) (fun s hs => by have := HP.out.2.2.2.1 s hs; have := clk_le k; omega) (by have := HP.out.2.2.1; have := HP.out.2.2.2.2.2.1; omega) r HP.out.2.2.2.2.2.2
            have HK : Hid (∀ Z, Below (w.heap.size + 1) wr Z → Z.cell? ⟨w.heap.size, 1, none⟩ = some (.int .i64 k) ∧ Z.cell? ⟨w.heap.size, 3, none⟩ = some (.int .u64 (size : Int))) := fun Z hZ => by
              obtain ⟨_, c1, _, c3, _, _⟩ := (h6.same (hZ.block w.heap.size (Nat.lt_succ_self _))).cells
              exact ⟨c1, c3⟩
            have hle : w.heap.size + 1 ≤ wr.heap.size := h6.lt
            have HRr := hide (And.intro hRt (And.intro hbr hle))
            obtain ⟨_, c1, _, c3, _, _⟩ := h6.cells
            have hls : w.heap.size + 1 < wr.heap.size := World.block_lt_of_cell? wr _ hRt.c0
            clear hL rP hlt HLj h6 hRt hbr HPj
            go_upto_region 19 with (fail)
            go_region_held3 (fun Z => Z.cell? ⟨w.heap.size, 1, none⟩ = some (.int .i64 k) ∧ Z.cell? ⟨w.heap.size, 3, none⟩ = some (.int .u64 (size : Int)))
              (exact HK.out _ (by repeat (first | exact Below.refl _ _ | refine Below.drew ?_ | refine Below.trans ?_ (hbR.mono (by first | omega | (simp; omega))) | refine below_put ?_ (by omega)))) (first
              | (go_at_call 81; with_reducible refine (HRo.out _ (by first | exact Below.refl _ _ | exact (Below.refl _ _).drew)).mono ?_; rintro e wR ⟨rfl, hbR⟩
                 have hR := (HRr.out.1.drew).below hbR (by simp; omega)
                 have k0 := hR.c0
                 have k1 := hR.c1
                 have f0 := hR.f0
                 have f1 := hR.f1))
            all_goals go_wp2
            all_goals obtain ⟨s0, s1, hch⟩ := rt_put hR (size : Int) r
            all_goals refine bodyPost_ret (v := .tuple #[.agg #[.int .u64 (size : Int), .string r], .int .i64 0]) (by simp [results, Tryz.results64, go_sem, s0, s1]) rfl ⟨rfl, ?_⟩
            all_goals exact (bnext HRr.out.2.1.drew hbR).trans (hch.below (by rintro b rfl; omega))
end Go.Proofs.YtdocjikpcbmcgaaGreatDoor
