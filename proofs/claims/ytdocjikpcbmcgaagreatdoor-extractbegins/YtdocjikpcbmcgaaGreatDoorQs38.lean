/-
  Own work: EApp, EWkG.
-/
import Derived.Test.YtdocjikpcbmcgaaGreatDoorQs37
namespace Go.Proofs.YtdocjikpcbmcgaaGreatDoor
open Go.RowKit
theorem step_apF (w : World) {ops : Array Oper} {o : Oper} {a : Act} {K : Act → World → Prop} {Q : Exit → Act → World → Prop} {E : Prop} (hgd : o.guard = none)
    (s x : Operand) (hop : o.op = Op.call { callee := Callee.builtin Builtin.append, args := #[s, x], argTypes := #[22, 22] })
    (B : Nat) (v : Value) (P : List ByteArray) (hs : a.eval s = v) (hown : OwnS w B v P) (g : Nat) (d : ByteArray) (hx : a.eval x = .slice (some ⟨g, 0, none⟩) 1 1) (hc : w.cell? ⟨g, 0, none⟩ = some (.string d)) (hl : P.length ≤ 1000) (hB : B ≤ w.heap.size)
    (hK : ∀ v' w', OwnS w' B v' (P ++ [d]) → w.grownBy w' v.ownBlock → (v'.ownBlock = v.ownBlock ∨ ∀ b, v'.ownBlock = some b → w.heap.size ≤ b) → K (a.put o.dst v') w') : if Region.wanted o (yielded ops a.tmps) = true then Oper.wp Tryz.prog o a w K Q else E := by
  have hw : Region.wanted o (yielded ops a.tmps) = true := by simp [Region.wanted, hgd]
  rw [if_pos hw]
  obtain ⟨i0, hi, hz0, hz1, hz2⟩ := info_parts Tryz.infoS
  have hcells : ∀ j c, [Value.string d][j]? = some c → w.cell? ((⟨g, 0, none⟩ : Addr).add j) = some c := fun j c hj => by
    match j, hj with
    | 0, hj => simp at hj; subst hj; simpa [Addr.add] using hc
  have h1c : ∀ u ∈ [Value.string d], u.oneCell' = true := by intro u hu; simp at hu; subst hu; rfl
  have key : ∃ v' w', (Builtin.append_ #[22, 22] o.type #[v, .slice (some ⟨g, 0, none⟩) 1 1]).run Tryz.prog w = .ok v' w' ∧ w'.ownsRow B 9 1 v' (P.length + 1) (P.map Value.string ++ [.string d]) ∧ w.grownBy w' v.ownBlock ∧ (v'.ownBlock = v.ownBlock ∨ ∀ b, v'.ownBlock = some b → w.heap.size ≤ b) := by
    have hown0 := hown
    obtain ⟨g1, g2⟩ := hown
    rcases g2 with ⟨rfl, h0⟩ | ⟨q, cp, cur, rfl, hgb, hh, hc'⟩
    · have hP : P = [] := List.length_eq_zero_iff.1 h0
      subst hP
      obtain ⟨v', w', hrun, r1, r2, _⟩ := run_append_own (P := Tryz.prog) w w.heap.size 22 o.type 9 i0 (.string ByteArray.empty) 1 16 Tryz.underlying22 hi hz0 hz1 hz2 rfl (by decide) _ 0 [] (World.ownsRow_nil _ _ _ _) ⟨g, 0, none⟩ 1 1 [.string d] rfl hcells h1c (by unfold maxLen; omega) (by omega) (Nat.le_refl _)
      exact ⟨v', w', hrun, r1.mono hB, r2, .inr fun k hk => (r1.lt k hk).1⟩
    · by_cases hfit : P.length + 1 ≤ cp
      · obtain ⟨w', hrun, r1, r2⟩ := run_append_fits (P := Tryz.prog) w B 22 o.type 9 i0 1 Tryz.underlying22 hi hz1 q P.length cp _ hown0 ⟨g, 0, none⟩ 1 1 [.string d] rfl hcells h1c hfit
        exact ⟨_, w', hrun, r1, r2, .inl rfl⟩
      · obtain ⟨v', w', hrun, r1, r2⟩ := run_append_arg_grows (P := Tryz.prog) w 22 o.type 9 i0 (.string ByteArray.empty) 1 16 Tryz.underlying22 hi hz0 hz1 hz2 rfl (by decide) ⟨q, 0, none⟩ P.length cp _ g1 (hown0.cells rfl) ⟨g, 0, none⟩ 1 1 [.string d] rfl hcells (by omega) (by unfold maxLen; omega) (by omega)
        exact ⟨v', w', hrun, r1.mono hB, ⟨r2.os, r2.tape, r2.output, r2.size, fun k hk _ => r2.block k hk (by simp)⟩, .inr fun k hk => (r1.lt k hk).1⟩
  obtain ⟨v', w', hrun, r1, r2, r3⟩ := key
  unfold Oper.wp
  simp [execOp, hop, resolve, invoke, builtin, hs, hx, hrun, Result.andThen]
  refine hK v' w' ?_ r2 r3
  rw [OwnS, List.map_append, List.length_append]
  exact r1
def Apt (v u : Value) : Prop := ∀ g, v.ownBlock = some g → u.ownBlock = some g → False
structure Pr (B : Nat) (wr : World) (v u : Value) (P Q : List ByteArray) : Prop where
  ov : OwnS wr B v P
  ou : OwnS wr B u Q
  ap : Apt v u
section
variable {B : Nat} {w w' : World} {v u v' : Value} {P Q P' : List ByteArray}
theorem Pr.next (h : Pr B w v u P Q) (hb : Below w.heap.size w w') : Pr B w' v u P Q := ⟨own_next h.ov hb (Nat.le_refl _), own_next h.ou hb (Nat.le_refl _), h.ap⟩
theorem Pr.swap (h : Pr B w v u P Q) : Pr B w u v Q P := ⟨h.ou, h.ov, fun g h1 h2 => h.ap g h2 h1⟩
theorem Pr.app (h : Pr B w v u P Q) (o : OwnS w' B v' P') (g : w.grownBy w' v.ownBlock) (f : v'.ownBlock = v.ownBlock ∨ ∀ b, v'.ownBlock = some b → w.heap.size ≤ b) : Pr B w' v' u P' Q := by
  refine ⟨o, keep_row h.ou fun b hb _ => g.block b (World.ownsRow.lt h.ou b hb).2 fun e => h.ap b e.symm hb, fun b h1 h2 => ?_⟩
  rcases f with f | f
  · exact h.ap b (f.symm.trans h1) h2
  · have := f b h1
    have := (World.ownsRow.lt h.ou b h2).2
    omega
theorem pr_nil (B : Nat) (w : World) : Pr B w (.slice none 0 0) (.slice none 0 0) [] [] := ⟨World.ownsRow_nil _ _ _ _, World.ownsRow_nil _ _ _ _, fun g h _ => by cases h⟩
end
end Go.Proofs.YtdocjikpcbmcgaaGreatDoor
namespace Go.Proofs.YtdocjikpcbmcgaaGreatDoor
open Go.RowKit
open Cv (zl)
attribute [local go_sem ↓] Go.wp_at_zero Go.wp_at_succ
theorem mount_any (n : Nat) (h40 : n ≤ 2 ^ 40) (M : List (Nat × Nat)) (hM : Cv.dnL 41 0 n = M) (W : World) : Calls Tryz.prog 75 #[.int .u64 (n : Int)] W fun e w' => ∃ ao g cap, e = .returned (.tuple #[.slice ao M.length cap, .int .i64 0]) ∧ RdB w' ao g 0 M.length (zl M) ∧ Below W.heap.size W w' := by
  have hMin : ∀ b ∈ M, (b.2 + 1) * 2 ^ b.1 ≤ n := by rw [← hM]; exact dn_in n h40
  have h := Cv.mountains_any n W
  rw [(mount40 n h40).1, (mount40 n h40).2, hM] at h
  refine h.mono fun e w' ⟨v, e1, e2, e3⟩ => ?_
  obtain ⟨ao, g, n', cap, rfl, hr', _⟩ := own_rdB e2 (fun b hb => by
    obtain ⟨b0, hb0, rfl⟩ := List.mem_map.1 hb
    exact (fit40 (hMin b0 hb0) h40).1)
  have hl := hr'.len
  rw [Cv.zl_len] at hl
  subst hl
  exact ⟨ao, g, cap, e1, hr', e3⟩
theorem fm_drop (F : Nat → Nat → Pq) (B : List (Nat × Nat)) {j : Nat} (hj : j < B.length) : fm F (B.drop j) = (F (B.getD j (0, 0)).1 (B.getD j (0, 0)).2).or (fm F (B.drop (j + 1))) := by
  rw [List.drop_eq_getElem_cons hj, fm, List.getD_eq_getElem?_getD, List.getElem?_eq_getElem hj]
  rfl
theorem map_take_more (f : Nat × Nat → ByteArray) (B : List (Nat × Nat)) {j : Nat} (hj : j < B.length) : (B.take (j + 1)).map f = (B.take j).map f ++ [f (B.getD j (0, 0))] := by
  rw [List.take_succ_eq_append_getElem hj, List.map_append, List.getD_eq_getElem?_getD, List.getElem?_eq_getElem hj]
  rfl
theorem cn1 (w : World) (d : ByteArray) (T : Nat) : (w.alloc (.cells #[.string d] T)).cell? ⟨w.heap.size, 0, none⟩ = some (.string d) := cell_of_one (heap_alloc_new w _)
theorem cn2 (w : World) (d : ByteArray) (T : Nat) (o : Obj) : ((w.alloc (.cells #[.string d] T)).alloc o).cell? ⟨w.heap.size, 0, none⟩ = some (.string d) :=
  cell_of_one (((bal (Below.refl _ (w.alloc (.cells #[.string d] T))) o).block w.heap.size (by rw [World.size_alloc]; omega)).trans (heap_alloc_new w _))
theorem cn3 (w : World) (d : ByteArray) (T : Nat) (o : Obj) : ((w.alloc o).alloc (.cells #[.string d] T)).cell? ⟨w.heap.size + 1, 0, none⟩ = some (.string d) := by
  have := cn1 (w.alloc o) d T
  rwa [World.size_alloc] at this
theorem gcell {W w' : World} {ob : Option Nat} {g N : Nat} {c : Value} (h6 : W.grownBy w' ob) (ho : ∀ b, ob = some b → b < N) (hN : N ≤ g) (h : W.cell? ⟨g, 0, none⟩ = some c) : w'.cell? ⟨g, 0, none⟩ = some c :=
  (World.cell?_of_block (a := ⟨g, 0, none⟩) (h6.block g (World.block_lt_of_cell? W _ h) fun e => by have := ho g e.symm; omega)).trans h
theorem gblock {W w' : World} {ob : Option Nat} {g N : Nat} {c : Obj} (h6 : W.grownBy w' ob) (ho : ∀ b, ob = some b → b < N) (hN : N ≤ g) (h : W.heap[g]? = some c) : w'.heap[g]? = some c :=
  (h6.block g (Array.getElem?_eq_some_iff.1 h).1 fun e => by have := ho g e.symm; omega).trans h
theorem gblock' {W w' : World} {ob : Option Nat} {g N : Nat} {c : Obj} (h6 : W.grownBy w' ob) (ho : ∀ b, ob = some b → N ≤ b) (hN : g < N) (h : W.heap[g]? = some c) : w'.heap[g]? = some c :=
  (h6.block g (Array.getElem?_eq_some_iff.1 h).1 fun e => by have := ho g e.symm; omega).trans h
structure Aw (N g5 gz : Nat) (F V : World) (v u : Value) (P Q : List ByteArray) (Z : Pq) (x y : ByteArray) (q : Pq) : Prop where
  pr : Pr (N + 1) V v u P Q
  p3 : P3 V N Z
  s5 : S5 V g5 x y q
  be : Below (N + 1) F V
  sz : N + 1 ≤ V.heap.size
section
variable {N g5 gz : Nat} {F V W : World} {v u v' : Value} {P Q P' : List ByteArray} {Z : Pq} {x y : ByteArray} {q : Pq}
theorem Aw.next (h : Aw N g5 gz F V v u P Q Z x y q) (hb : Below V.heap.size V W) : Aw N g5 gz F W v u P Q Z x y q := ⟨h.pr.next hb, h.p3.next hb, h.s5.next hb, h.be.trans (hb.mono h.sz), Nat.le_trans h.sz hb.size⟩
theorem Aw.swap (h : Aw N g5 gz F V v u P Q Z x y q) : Aw N g5 gz F V u v Q P Z x y q := ⟨h.pr.swap, h.p3, h.s5, h.be, h.sz⟩
theorem Aw.app (h : Aw N g5 gz F V v u P Q Z x y q) (o : OwnS W (N + 1) v' P') (g : V.grownBy W v.ownBlock) (f : v'.ownBlock = v.ownBlock ∨ ∀ b, v'.ownBlock = some b → V.heap.size ≤ b) (lo : ∀ b, v.ownBlock = some b → N + 1 ≤ b ∧ b < gz) (hg : gz ≤ g5) : Aw N g5 gz F W v' u P' Q Z x y q := by
  have hb : Below (N + 1) V W := (Below.refl _ _).grown g h.sz fun b hb => (lo b hb).1
  exact ⟨h.pr.app o g f, gblock' g (fun b hb => (lo b hb).1) (by omega) h.p3, gblock g (fun b hb => (lo b hb).2) hg h.s5, h.be.trans hb, Nat.le_trans h.sz hb.size⟩
theorem Aw.seen (h : Aw N g5 gz F V v u P Q Z x y q) : V.cell? ⟨g5, 0, none⟩ = some (.string x) ∧ V.cell? ⟨g5, 1, none⟩ = some (.string y) := ⟨h.s5.cells.1, h.s5.cells.2.1⟩
end
set_option maxRecDepth 100000 in
set_option maxHeartbeats 4000000 in
theorem all_any (w : World) (ht : Tb w) (k : Int) (v1 : Value) (T2 : Nat) (v2 : Value) (n : Nat) (h40 : n ≤ 2 ^ 40) (M : List (Nat × Nat)) (hM : Cv.dnL 41 0 n = M) (X Y : Nat × Nat → ByteArray) (hX : ∀ b, (X b).size ≤ 32) (hY : ∀ b, (Y b).size ≤ 32) (F : Nat → Nat → Pq)
    (HBk : ∀ W b, Below w.heap.size w W → b ∈ M → Calls Tryz.prog 76 #[wkV k v1 T2 v2, bkV b.1 b.2] W fun e w' => e = .returned (snV (X b) (Y b) (F b.1 b.2)) ∧ Below W.heap.size W w')
    (T : Pq) (hT : (tp (clk k) n (M.map X) (M.map Y)).or (fm F M) = T) :
    Calls Tryz.prog 35 #[wkV k v1 T2 v2, .int .u64 (n : Int)] w fun e w' => e = .returned (pv T) ∧ Below w.heap.size w w' := by
  have HMt : Hid (∀ W, Calls Tryz.prog 75 #[.int .u64 (n : Int)] W fun e w' => ∃ ao g cap, e = .returned (.tuple #[.slice ao M.length cap, .int .i64 0]) ∧ RdB w' ao g 0 M.length (zl M) ∧ Below W.heap.size W w') := fun W => mount_any n h40 M hM W
  have hMl : M.length ≤ 41 := by rw [← hM]; exact Cv.dn_len 41 0 n
  have HBk' := hide HBk
  clear HBk
  have hb0 := bal (bal (Below.refl w.heap.size w) (.cells #[.int .i64 k, .iface 69 v1, .iface T2 v2] 73)) (.cells #[.string ⟨#[]⟩, .string ⟨#[]⟩, .bool false] 59)
  have hz : (M.length : Int) ≤ 41 := by omega
  have HT := hide hT
  clear hM h40 hT
  go_enter Tryz.func35, Tryz.ntmps35
  go_upto_region 4 with (go_at_call 75; with_reducible refine (HMt.out _).mono ?_; rintro e w2 ⟨ao, gM, capM, rfl, hrB, hb2⟩)
  obtain ⟨F0, hFe, h30, hb30⟩ := p3_nil w2
  try rw [hFe]
  clear hFe
  have HV : Hid (∀ W, Below w2.heap.size w2 W → (W.cell? ⟨w.heap.size, 0, none⟩ = some (.int .i64 k) ∧ W.cell? ⟨w.heap.size, 1, none⟩ = some (.iface 69 v1) ∧ W.cell? ⟨w.heap.size, 2, none⟩ = some (.iface T2 v2)) ∧ P3 W (w.heap.size + 1) none ∧ RdB W ao gM 0 M.length (zl M) ∧ Below w.heap.size w W) := fun W hb => by
    obtain ⟨Z, hZ⟩ : ∃ Z, (w.alloc (.cells #[.int .i64 k, .iface 69 v1, .iface T2 v2] 73)).alloc (.cells #[.string ⟨#[]⟩, .string ⟨#[]⟩, .bool false] 59) = Z := ⟨_, rfl⟩
    have hzz : Z.heap.size = w.heap.size + 2 := by rw [← hZ, World.size_alloc, World.size_alloc]
    have q1 : Z.heap[w.heap.size]? = some (.cells #[.int .i64 k, .iface 69 v1, .iface T2 v2] 73 (0, 0)) := by
      rw [← hZ]
      exact ((bal (Below.refl _ (w.alloc (.cells #[.int .i64 k, .iface 69 v1, .iface T2 v2] 73))) _).block _ (by rw [World.size_alloc]; omega)).trans (heap_alloc_new w _)
    have q2 : P3 Z (w.heap.size + 1) none := by
      have := heap_alloc_new (w.alloc (.cells #[.int .i64 k, .iface 69 v1, .iface T2 v2] 73)) (.cells #[.string ⟨#[]⟩, .string ⟨#[]⟩, .bool false] 59)
      rw [World.size_alloc, hZ] at this
      exact this
    rw [hZ] at hb0 hb2
    have hbZ := bnext hb2 hb
    have q3 : W.heap[w.heap.size]? = _ := (hbZ.block w.heap.size (by omega)).trans q1
    exact ⟨⟨by rw [cell_of_row W w.heap.size 0 _ _ (0, 0) q3]; rfl, by rw [cell_of_row W w.heap.size 1 _ _ (0, 0) q3]; rfl, by rw [cell_of_row W w.heap.size 2 _ _ (0, 0) q3]; rfl⟩, q2.next hbZ, hrB.below hb, bnext (bnext hb0 hb2) hb⟩
  have H30 := hide (And.intro h30 hb30)
  have hz5 : w.heap.size + 1 < w2.heap.size := (HV.out w2 (Below.refl _ _)).2.1.lt
  have HE0 : Hid ((none : Pq).or (fm F (M.drop 0)) = fm F M) := rfl
  clear hb0 hb2 hrB h30 hb30 HMt
  go_wp2
  go_loopg [7, 8, 21] M.length (fun g v u i wr => ∃ (j : Nat) (Z : Pq), g = M.length - j ∧ j ≤ M.length ∧ i = .int .i64 (j : Int) ∧ Hid (Z.or (fm F (M.drop j)) = fm F M) ∧ Hid (P3 wr w2.heap.size Z) ∧ Hid (Pr (w2.heap.size + 1) wr v u ((M.take j).map X) ((M.take j).map Y)) ∧ Hid (Below w2.heap.size w2 wr))
  case atStart =>
    go_light
    exact ⟨0, none, rfl, Nat.zero_le _, rfl, HE0, H30.out.1, pr_nil _ _, H30.out.2⟩
  case round =>
    clear H30 HE0
    obtain ⟨j, Z, rfl, hj, rfl, HE, H3, HPr, HBw⟩ := hrel
    by_cases hlt : j < M.length
    · have z0 : (0 : Int) ≤ (j : Int) := Int.natCast_nonneg _
      have z1 : (j : Int) < (M.length : Int) := by omega
      obtain ⟨⟨c0, c1, c2⟩, _, hrd, hbw⟩ := HV.out wr HBw.out
      obtain rfl := hrd.addr (by omega)
      obtain ⟨b, hbb⟩ : ∃ b, M.getD j (0, 0) = b := ⟨_, rfl⟩
      have hbm : b ∈ M := by rw [← hbb, List.getD_eq_getElem?_getD, List.getElem?_eq_getElem hlt]; exact List.getElem_mem _
      obtain ⟨k0, k1⟩ := hrd.cell j hlt
      have hzl : (zl M).getD j (0, 0) = ((b.1 : Int), b.2) := by
        rw [← hbb, List.getD_eq_getElem?_getD, List.getD_eq_getElem?_getD, zl, List.getElem?_map, List.getElem?_eq_getElem hlt]; rfl
      rw [hzl] at k0 k1
      simp only at k0 k1
      rw [Nat.zero_add] at k0 k1
      obtain ⟨x, hx⟩ : ∃ x, X b = x := ⟨_, rfl⟩
      obtain ⟨y, hy⟩ : ∃ y, Y b = y := ⟨_, rfl⟩
      obtain ⟨q, hq⟩ : ∃ q, F b.1 b.2 = q := ⟨_, rfl⟩
      obtain ⟨Z', hZ'⟩ : ∃ Z', Z.or q = Z' := ⟨_, rfl⟩
      have HOr : Hid (∀ W, Calls Tryz.prog 73 #[pv Z, pv q] W fun e w' => e = .returned (pv Z') ∧ Below W.heap.size W w') := fun W => or_is W Z q Z' hZ'
      have HN : Hid (Z'.or (fm F (M.drop (j + 1))) = fm F M ∧ (M.take (j + 1)).map X = (M.take j).map X ++ [x] ∧ (M.take (j + 1)).map Y = (M.take j).map Y ++ [y] ∧ ((M.take j).map X).length ≤ 1000 ∧ ((M.take j).map Y).length ≤ 1000) := by
        refine ⟨?_, by rw [map_take_more X M hlt, hbb, hx], by rw [map_take_more Y M hlt, hbb, hy], by rw [List.length_map, List.length_take]; omega, by rw [List.length_map, List.length_take]; omega⟩
        have := HE.out
        rw [fm_drop F M hlt, hbb, hq] at this
        rw [← this, ← hZ']
        cases Z <;> rfl
      have HB1 : Hid (∀ W, Below w.heap.size w W → Calls Tryz.prog 76 #[wkV k v1 T2 v2, bkV b.1 b.2] W fun e w' => e = .returned (snV x y q) ∧ Below W.heap.size W w') := fun W hb => by
        have := HBk'.out W b hb hbm
        rw [hx, hy, hq] at this; exact this
      obtain ⟨bh, bk⟩ := b
      simp only at k0 k1
      clear hrd hzl hbb hbm hx hy hq hZ' HE
      go_upto_region 7 with (fail)
      obtain ⟨W1, hW1⟩ : ∃ W1, wr.alloc (.cells #[.int .i64 (bh : Int), .int .u64 (bk : Int)] 83) = W1 := ⟨_, rfl⟩
      have hb1 : Below wr.heap.size wr W1 := by rw [← hW1]; exact bal (Below.refl _ _) _
      have t1 : W1.heap[wr.heap.size]? = some (.cells #[.int .i64 (bh : Int), .int .u64 (bk : Int)] 83 (0, 0)) := by rw [← hW1]; exact heap_alloc_new wr _
      have d0 : W1.cell? ⟨wr.heap.size, 0, none⟩ = some (.int .i64 (bh : Int)) := by rw [cell_of_row W1 wr.heap.size 0 _ _ (0, 0) t1]; rfl
      have d1 : W1.cell? ⟨wr.heap.size, 1, none⟩ = some (.int .u64 (bk : Int)) := by rw [cell_of_row W1 wr.heap.size 1 _ _ (0, 0) t1]; rfl
      try rw [hW1]
      obtain ⟨⟨c0', c1', c2'⟩, _, _, hbw1⟩ := HV.out W1 (bnext HBw.out hb1)
      clear hW1 t1 c0 c1 c2 k0 k1
      go_upto_region 8 with (go_at_call 76; with_reducible refine (HB1.out _ hbw1).mono ?_; rintro e w4 ⟨rfl, hb4⟩)
      obtain ⟨F5, hFe, s5, hb5, hsz5⟩ := s5_box w4 x y q
      try rw [hFe]
      clear hFe
      have hbR := bnext (bnext hb1 hb4) hb5
      have hPr := HPr.out.next hbR
      have h3 := H3.out.next hbR
      have hlw : wr.heap.size ≤ w4.heap.size := Nat.le_trans hb1.size hb4.size
      have hl2 : w2.heap.size < wr.heap.size := H3.out.lt
      obtain ⟨e0, e1, e2, e3, e4⟩ := s5.cells
      -- the lists lie ahead of what is seen
      have lo1 : ∀ g, u7.ownBlock = some g → w2.heap.size + 1 ≤ g ∧ g < wr.heap.size := fun g hg => World.ownsRow.lt HPr.out.ov g hg
      have lo2 : ∀ g, u8.ownBlock = some g → w2.heap.size + 1 ≤ g ∧ g < wr.heap.size := fun g hg => World.ownsRow.lt HPr.out.ou g hg
      have HS : Hid (∀ V, Below F5.heap.size F5 V → V.cell? ⟨w4.heap.size, 0, none⟩ = some (.string x) ∧ V.cell? ⟨w4.heap.size, 1, none⟩ = some (.string y)) := fun V hb => ⟨(s5.next hb).cells.1, (s5.next hb).cells.2.1⟩
      have HQ := hide (And.intro hPr (And.intro h3 (And.intro s5 (And.intro lo1 lo2))))
      clear hPr h3 s5 lo1 lo2 c0' c1' c2' d0 d1 hb1 hb4 hb5 hbw1 hbw
      go_cut [7, 8] from 28 to 37 (fun v u wx => Hid (Aw w2.heap.size w4.heap.size wr.heap.size F5 wx v u ((M.take j).map X ++ [x]) ((M.take j).map Y ++ [y]) Z x y q))
      case first =>
        have HP : Hid (∀ V, Below F5.heap.size F5 V → Aw w2.heap.size w4.heap.size wr.heap.size F5 V u7 u8 ((M.take j).map X) ((M.take j).map Y) Z x y q) := fun V hb => ⟨HQ.out.1.next hb, HQ.out.2.1.next hb, HQ.out.2.2.1.next hb, hb.mono (by have := HQ.out.2.1.lt; omega), by have := HQ.out.2.1.lt; have := hb.size; omega⟩
        have lo1 := hide HQ.out.2.2.2.1
        have lo2 := hide HQ.out.2.2.2.2
        have HL := hide (And.intro hl2 (And.intro hlw (show w4.heap.size < F5.heap.size by omega)))
        clear HQ hl2 hlw hsz5 e0 e1 e2 e3 e4
        have HN4 := hide HN.out.2.2.2
        obtain ⟨e0, e1⟩ := HS.out F5 (Below.refl _ _)
        go_region_held3 (fun V => V.cell? ⟨w4.heap.size, 0, none⟩ = some (.string x) ∧ V.cell? ⟨w4.heap.size, 1, none⟩ = some (.string y))
          (first | with_reducible exact hp7.out.seen | with_reducible exact (hp6.out.next (by repeat (first | with_reducible exact Below.refl _ _ | refine Below.drew ?_ | refine bal ?_ _))).seen | with_reducible exact HS.out _ (by repeat (first | with_reducible exact Below.refl _ _ | refine Below.drew ?_ | refine bal ?_ _)))
          (first
            | (refine step_apF _ (by rfl) _ _ (by rfl) (w2.heap.size + 1) u8 ((M.take j).map Y) (by rfl) (hp6.out.next (by repeat (first | with_reducible exact Below.refl _ _ | refine Below.drew ?_ | refine bal ?_ _))).swap.pr.ov _ y (by rfl) (by first | exact cn1 _ _ _ | exact gcell g6 (fun b hb => (lo1.out b hb).2) (by have := HL.out; omega) (by first | exact cn1 _ _ _ | exact cn2 _ _ _ _ | exact cn3 _ _ _ _)) HN4.out.2 (hp6.out.next (by repeat (first | with_reducible exact Below.refl _ _ | refine Below.drew ?_ | refine bal ?_ _))).sz ?_
               intro v7 w7 o7 g7 f7
               have hp7 := hide ((hp6.out.next (by repeat (first | with_reducible exact Below.refl _ _ | refine Below.drew ?_ | refine bal ?_ _))).swap.app o7 g7 f7 lo2.out HL.out.2.1))
            | (refine step_apF _ (by rfl) _ _ (by rfl) (w2.heap.size + 1) u7 ((M.take j).map X) (by rfl) (HP.out _ (by repeat (first | with_reducible exact Below.refl _ _ | refine Below.drew ?_ | refine bal ?_ _))).pr.ov _ x (by rfl) (by first | exact cn1 _ _ _ | exact cn2 _ _ _ _ | exact cn3 _ _ _ _) HN4.out.1 (HP.out _ (by repeat (first | with_reducible exact Below.refl _ _ | refine Below.drew ?_ | refine bal ?_ _))).sz ?_
               intro v6 w6 o6 g6 f6
               have hp6 := hide ((HP.out _ (by repeat (first | with_reducible exact Below.refl _ _ | refine Below.drew ?_ | refine bal ?_ _))).app o6 g6 f6 lo1.out HL.out.2.1)))
        all_goals
          go_wp2
          go_meet
          case rel =>
            go_light
            exact hp7.out.swap
      case rest =>
        have hA := hcut.out
        obtain ⟨f0, f1, f2⟩ := hA.p3.cells
        obtain ⟨_, _, g2, g3, g4⟩ := hA.s5.cells
        have HA := hide hA
        have HQx := hide (And.intro hl2 (And.intro hlw hbR))
        clear hA hcut HQ HS e0 e1 e2 e3 e4 hsz5
        go_upto_region 10 with (go_at_call 73; with_reducible refine (HOr.out _).mono ?_; rintro e w8 ⟨rfl, hb8⟩; have hA8 := HA.out.next hb8; obtain ⟨h0, h1, h2⟩ := hA8.p3.cells; have hf := hA8.p3.fz)
        have hp := hA8.p3.put Z'
        have hch := putP_ch w8 w2.heap.size Z'
        obtain ⟨W9, hW9⟩ : ∃ W9, putP w8 w2.heap.size Z' = W9 := ⟨_, rfl⟩
        rw [hW9] at hp hch
        unfold putP at hW9
        try rw [hW9]
        have HF : Hid (P3 W9 w2.heap.size Z' ∧ Pr (w2.heap.size + 1) W9 u7 u8 ((M.take (j + 1)).map X) ((M.take (j + 1)).map Y) ∧ Below w2.heap.size w2 W9) := by
          refine ⟨hp, ?_, ?_⟩
          · rw [HN.out.2.1, HN.out.2.2.1]
            exact ⟨keep_row hA8.pr.ov fun b hb1 hb2 => hch.block b (by have := (World.ownsRow.lt hA8.pr.ov b hb1).1; omega), keep_row hA8.pr.ou fun b hb1 hb2 => hch.block b (by have := (World.ownsRow.lt hA8.pr.ou b hb1).1; omega), hA8.pr.ap⟩
          · have b1 : Below w2.heap.size w2 F5 := bnext HBw.out HQx.out.2.2
            have b2 : Below w2.heap.size F5 w8 := hA8.be.mono (by omega)
            exact (b1.trans b2).trans (hch.below (by rintro b rfl; exact Nat.le_refl _))
        have HN1 := hide HN.out.1
        clear hW9 hp hch hA8 h0 h1 h2 hf f0 f1 f2 g2 g3 g4 hl2 hlw hbR
        go_wp2
        go_roundg (M.length - (j + 1))
        case rel =>
          go_light
          exact ⟨j + 1, Z', rfl, by omega, by go_num, HN1, HF.out.1, HF.out.2.1, HF.out.2.2⟩
        case measure => go_light; omega
    · obtain rfl : j = M.length := by omega
      have hz1 : ¬ (M.length : Int) < (M.length : Int) := by omega
      obtain ⟨⟨c0, c1, c2⟩, hR, _, hbw⟩ := HV.out wr HBw.out
      have hE := HE.out
      rw [List.drop_length, fm] at hE
      have hZf : Z = fm F M := by rw [← hE]; cases Z <;> rfl
      have hPr := HPr.out
      rw [List.take_length] at hPr
      obtain ⟨pa, pb, pc, hv7, hp, hpc, hpn⟩ := owns_rds hPr.ov (fun s hs => by obtain ⟨b, _, rfl⟩ := List.mem_map.1 hs; have := hX b; omega)
      obtain ⟨qa, qb, qc, hv8, hq, hqc, hqn⟩ := owns_rds hPr.ou (fun s hs => by obtain ⟨b, _, rfl⟩ := List.mem_map.1 hs; have := hY b; omega)
      have lX : (M.map X).length = M.length := List.length_map ..
      have lY : (M.map Y).length = M.length := List.length_map ..
      rw [lX] at hv7 hp hpc
      rw [lY] at hv8 hq hqc
      subst hv7 hv8
      obtain ⟨A, hA⟩ : ∃ A, tp (clk k) n (M.map X) (M.map Y) = A := ⟨_, rfl⟩
      have HA : Hid (∀ W, Below wr.heap.size wr W → Calls Tryz.prog 34 #[.int .i64 k, .int .u64 (n : Int), .slice pa M.length pc, .slice qa M.length qc] W fun e w' => e = .returned (pv A) ∧ Below W.heap.size W w') := fun W hb => by
        have := aboveall_any W (ht.next (bnext hbw hb)) k n pa pb 0 pc (M.map X) (by rw [lX]; exact hp.next hb (Nat.le_refl _)) (by omega) hpn qa qb 0 qc (M.map Y) (by rw [lX]; exact hq.next hb (Nat.le_refl _)) (by omega) hqn (by omega) (fun s hs => by obtain ⟨b, _, rfl⟩ := List.mem_map.1 hs; exact hX b) (fun s hs => by obtain ⟨b, _, rfl⟩ := List.mem_map.1 hs; exact hY b) A hA
        rwa [lX] at this
      have HO : Hid (∀ W, Calls Tryz.prog 73 #[pv A, pv Z] W fun e w' => e = .returned (pv T) ∧ Below W.heap.size W w') := fun W => or_is W A Z T (by rw [hZf, ← hA]; exact HT.out)
      have HK : Hid (∀ W, Below wr.heap.size wr W → (W.cell? ⟨w.heap.size, 0, none⟩ = some (.int .i64 k) ∧ W.cell? ⟨w2.heap.size, 0, none⟩ = some (.string (pA Z)) ∧ W.cell? ⟨w2.heap.size, 1, none⟩ = some (.string (pB' Z)) ∧ W.cell? ⟨w2.heap.size, 2, none⟩ = some (.bool Z.isSome)) ∧ P3 W (w.heap.size + 1) none) := fun W hb => ⟨⟨(HV.out W (bnext HBw.out hb)).1.1, (H3.out.next hb).cells⟩, hR.next hb⟩
      obtain ⟨⟨k0, k1, k2, k3⟩, hR0⟩ := HK.out wr (Below.refl _ _)
      have hc9 := (Below.refl wr.heap.size wr).drew
      clear hX hY lX lY hp hq hpc hqc hpn hqn hPr hZf hE hA HE HPr HBk' hR hR0 HT HV HBw hlt hj
      go_upto_region 11 with (fail)
      go_region_with (first
        | (go_at_call 34; with_reducible refine (HA.out _ hc9).mono ?_; rintro e w8 ⟨rfl, hb8⟩; replace hc9 := bnext hc9 hb8; obtain ⟨⟨k0, k1, k2, k3⟩, hR0⟩ := HK.out _ hc9)
        | (go_at_call 73; with_reducible refine (HO.out _).mono ?_; rintro e w9 ⟨rfl, hb9⟩; replace hc9 := bnext hc9 hb9; obtain ⟨_, hR9⟩ := HK.out _ hc9; obtain ⟨r0, r1, r2⟩ := hR9.cells; have rf := hR9.fz; simp only [pA, pB', Option.isSome_none] at r0 r1 r2))
      all_goals
        have hp := hR9.put T
        have hch := putP_ch w9 (w.heap.size + 1) T
        obtain ⟨d0, d1, d2⟩ := hp.cells
        go_wp2
        refine bodyPost_ret (v := pv T) (by simp [results, Tryz.results35, go_sem, d0, d1, d2]) rfl ⟨rfl, ?_⟩
        exact (bnext hbw hc9).trans (hch.below (by rintro b rfl; omega))
end Go.Proofs.YtdocjikpcbmcgaaGreatDoor
