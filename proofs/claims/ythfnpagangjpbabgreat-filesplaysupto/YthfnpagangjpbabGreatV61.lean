/-
  Own work: FHa, FGp.
-/
import Derived.Test.YthfnpagangjpbabGreatV55
namespace Go.Proofs.YthfnpagangjpbabGreat
open Rc
abbrev LF0 := List (List UInt8 × List UInt8)
def mx (f : FV) : Nat := max f.now.length f.syn.length
def wt : List (List UInt8 × FV) → Nat
  | [] => 0
  | (_, f) :: r => mx f + wt r
theorem mx_fz : mx fz = 0 := rfl
theorem mx_gone {f : FV} (h : f.gone = true) : mx f = 0 := by rw [gone_iff.1 h]; rfl
theorem wt_put : ∀ {L : List (List UInt8 × FV)} (_ : Ord L) (s : List UInt8) (f : FV), wt (fput L s f) + mx (fget L s) = wt L + mx f
  | [], _, s, f => by
    rw [fput, fget]
    split
    · rename_i h; rw [mx_gone h]; rfl
    · simp [wt, mx_fz]
  | (t, g) :: r, h, s, f => by
    rw [fput, fget]
    by_cases e : t = s
    · rw [if_pos e, if_pos e]
      split
      · rename_i hg; rw [mx_gone hg]; simp only [wt]; omega
      · simp only [wt]; omega
    · rw [if_neg e, if_neg e]
      by_cases e2 : s < t
      · rw [if_pos e2]
        have hn : fget r s = fz := by
          apply fget_none
          intro hm
          obtain ⟨p, hp, hps⟩ := List.mem_map.1 hm
          have h3 := (List.pairwise_cons.1 h.1).1 p hp
          have h4 : t < s := by rw [← hps]; exact h3
          exact List.lt_irrefl _ (List.lt_trans h4 e2)
        rw [hn]
        split
        · rename_i hg; rw [mx_gone hg]; rfl
        · simp only [wt, mx_fz]; omega
      · rw [if_neg e2]
        have := wt_put (ord_tail h) s f
        simp only [wt]
        omega
theorem stay_mx (ks : List Bool) (f : FV) (i : Nat) : (stay ks f i).1.length ≤ mx f := by
  rw [stay_len]
  unfold slen mx
  split
  · exact Nat.le_max_right _ _
  · split
    · exact Nat.le_max_left _ _
    · exact Nat.le_max_right _ _
theorem byt_aft (ks : List Bool) : ∀ (L : List (List UInt8 × FV)) (i : Nat), byt (aft ks L i) ≤ wt L
  | [], _ => Nat.le_refl _
  | (s, f) :: r, i => by
    have ih := byt_aft ks r (stay ks f i).2
    have h1 := stay_mx ks f i
    simp only [aft]
    split
    · simp only [wt]; omega
    · simp only [wt, byt]; omega
theorem byt_tell : ∀ (L : List (List UInt8 × FV)), byt (tell L) ≤ wt L
  | [] => Nat.le_refl _
  | (s, f) :: r => by
    have ih := byt_tell r
    have h1 : f.now.length ≤ mx f := Nat.le_max_left _ _
    rw [tell]
    split
    · simp only [wt]; omega
    · simp only [wt, byt]; omega
theorem wt_allS : ∀ l : LF0, wt (allS l) = byt l
  | [] => rfl
  | x :: r => by
    have ih := wt_allS r
    have h1 : mx (⟨x.2, x.2⟩ : FV) = x.2.length := Nat.max_self _
    show mx ⟨x.2, x.2⟩ + wt (allS r) = x.2.length + byt r
    rw [ih, h1]
theorem sor_ordA {F : LF0} (h : Sor F) : Ord (allS F) := by
  refine ⟨List.pairwise_map.2 h.1, fun p hp => ?_⟩
  obtain ⟨y, hy, rfl⟩ := List.mem_map.1 hp
  cases hg : (⟨y.2, y.2⟩ : FV).gone
  · rfl
  · exact absurd (congrArg FV.now (gone_iff.1 hg)) (h.2 y hy)
theorem byt_memA : ∀ (F : LF0) (x : List UInt8 × List UInt8), x ∈ F → x.2.length ≤ byt F
  | [], _, h => by cases h
  | y :: r, x, h => by
    simp only [byt]
    rcases List.mem_cons.1 h with rfl | h
    · omega
    · have := byt_memA r x h; omega
theorem sor_can {F : LF0} (h : Sor F) (hb : byt F ≤ 268435456) : canL F := by
  refine ⟨?_, fun x hx => Nat.le_trans (byt_memA F x hx) hb⟩
  unfold nms
  rw [List.nodup_iff_pairwise_ne, List.pairwise_map]
  exact h.1.imp fun {a b} hlt e => by rw [e] at hlt; exact List.lt_irrefl _ hlt
theorem tell_sorA : ∀ {L : List (List UInt8 × FV)}, L.Pairwise (fun a b => a.1 < b.1) → Sor (tell L) ∧ ∀ y ∈ tell L, ∃ g, (y.1, g) ∈ L
  | [], _ => ⟨⟨.nil, by simp [tell]⟩, by simp [tell]⟩
  | (s, f) :: r, h => by
    obtain ⟨h1, h2⟩ := List.pairwise_cons.1 h
    obtain ⟨i1, i2⟩ := tell_sorA h2
    rw [tell]
    split
    · exact ⟨i1, fun y hy => by obtain ⟨g, hg⟩ := i2 y hy; exact ⟨g, List.mem_cons_of_mem _ hg⟩⟩
    · rename_i hn
      refine ⟨⟨List.pairwise_cons.2 ⟨fun y hy => ?_, i1.1⟩, fun y hy => ?_⟩, fun y hy => ?_⟩
      · obtain ⟨g, hg⟩ := i2 y hy
        exact h1 _ hg
      · rcases List.mem_cons.1 hy with rfl | hy
        · exact hn
        · exact i1.2 y hy
      · rcases List.mem_cons.1 hy with rfl | hy
        · exact ⟨f, by simp⟩
        · obtain ⟨g, hg⟩ := i2 y hy; exact ⟨g, List.mem_cons_of_mem _ hg⟩
theorem byt_setA (s t t' : List UInt8) (ht : t'.length = t.length) : ∀ (F : LF0) (i : Nat), F[i]? = some (s, t) → byt (F.set i (s, t')) = byt F
  | [], i, h => by simp at h
  | (a, b) :: r, 0, h => by
    simp only [List.getElem?_cons_zero, Option.some.injEq, Prod.mk.injEq] at h
    obtain ⟨rfl, rfl⟩ := h
    show t'.length + byt r = b.length + byt r
    rw [ht]
  | (a, b) :: r, i + 1, h => by
    have := byt_setA s t t' ht r i (by simpa using h)
    show b.length + byt (r.set i (s, t')) = b.length + byt r
    rw [this]
theorem nms_setA (s t t' : List UInt8) : ∀ (F : LF0) (i : Nat), F[i]? = some (s, t) → (F.set i (s, t')).map (·.1) = F.map (·.1)
  | [], i, h => by simp at h
  | (a, b) :: r, 0, h => by
    simp only [List.getElem?_cons_zero, Option.some.injEq, Prod.mk.injEq] at h
    obtain ⟨rfl, rfl⟩ := h
    rfl
  | (a, b) :: r, i + 1, h => by
    have := nms_setA s t t' r i (by simpa using h)
    show a :: (r.set i (s, t')).map (·.1) = a :: r.map (·.1)
    rw [this]
theorem sor_setA {F : LF0} (h : Sor F) (s t t' : List UInt8) (ht : t'.length = t.length) (i : Nat) (hi : F[i]? = some (s, t)) : Sor (F.set i (s, t')) := by
  refine ⟨?_, fun x hx => ?_⟩
  · have h1 := List.pairwise_map.2 h.1
    rw [← nms_setA s t t' F i hi] at h1
    exact List.pairwise_map.1 h1
  · rcases List.mem_or_eq_of_mem_set hx with e | e
    · exact h.2 x e
    · subst e
      intro e
      have := h.2 _ (List.mem_of_getElem? hi)
      simp only at e this
      rw [e] at ht
      exact this (List.length_eq_zero_iff.1 ht.symm)
def Wt (D : DV) (c : Nat) : Prop := Ord D.L ∧ wt D.L ≤ c
theorem Wt.mono {D : DV} {c d : Nat} (h : Wt D c) (hd : c ≤ d) : Wt D d := ⟨h.1, Nat.le_trans h.2 hd⟩
theorem Wt.down {D : DV} {c : Nat} (h : Wt D c) (ks : List Bool) : Wt (downD D ks) c := by
  have hs := aft_sor ks D.L 0 h.1.1
  refine ⟨?_, ?_⟩
  · show Ord (layL _)
    rw [lay_sor _ hs]
    exact sor_ordA hs
  · show wt (layL _) ≤ c
    rw [lay_sor _ hs, wt_allS]
    exact Nat.le_trans (byt_aft ks D.L 0) h.2
theorem Wt.act {D : DV} {c a : Nat} (h : Wt D c) (s : List UInt8) (f : FV) (hf : mx f ≤ mx (fget D.L s) + a) : Wt (actD D s f).1 (c + a) := by
  obtain ⟨e1, _⟩ := metD_L { D with acts := D.acts + 1 }
  have q1 : Wt (metD { D with acts := D.acts + 1 }).1 (c + a) := ⟨by rw [e1]; exact h.1, by rw [e1]; have := h.2; show wt D.L ≤ _; omega⟩
  have q2 : Wt (dput (metD { D with acts := D.acts + 1 }).1 s f) (c + a) := by
    have hp := wt_put h.1 s f
    have := h.2
    refine ⟨?_, ?_⟩
    · show Ord (fput _ s f)
      rw [e1]
      exact ord_fput h.1 s f
    · show wt (fput _ s f) ≤ _
      rw [e1]
      show wt (fput D.L s f) ≤ _
      omega
  unfold actD
  simp only
  split
  · exact q1
  · split
    · exact q1
    · split
      · exact q1.down _
      · split
        · exact q2
        · split
          · exact q2.down _
          · exact q2
theorem Wt.write {D : DV} {c : Nat} (h : Wt D c) (s : List UInt8) (off : Int) (t : List UInt8) : Wt (wrD D s off t).1 (c + t.length) := by
  unfold wrD
  split
  · exact h.mono (by omega)
  · split
    · exact h.mono (by omega)
    · split
      · exact h.mono (by omega)
      · rename_i h1 _
        refine h.act s _ ?_
        unfold mx
        rw [wr_len _ _ _ (by omega)]
        simp only
        omega
theorem Wt.cut {D : DV} {c : Nat} (h : Wt D c) (s : List UInt8) (off : Int) : Wt (cutD D s off).1 c := by
  unfold cutD
  split
  · exact h
  · split
    · exact h
    · refine h.act (a := 0) s _ ?_
      unfold mx
      rw [List.length_take]
      simp only
      omega
theorem Wt.sync {D : DV} {c : Nat} (h : Wt D c) (s : List UInt8) : Wt (synD D s).1 c := by
  unfold synD
  split
  · exact h
  · refine h.act (a := 0) s _ ?_
    unfold mx
    simp only
    omega
theorem Wt.cutI {D : DV} {c : Nat} (h : Wt D c) (s : List UInt8) (n : Nat) : Wt (cutI s n D).1 c := by
  unfold Go.Proofs.YthfnpagangjpbabGreat.cutI
  split
  · exact h
  · exact h.cut s _
theorem Wt.run {c : Nat} : ∀ (l : List (DV → DV × Int)) (D : DV), (∀ f ∈ l, ∀ D, Wt D c → Wt (f D).1 c) → Wt D c → Wt (runA l D).1 c
  | [], D, _, h => h
  | f :: l, D, hf, h => by
    have h1 := hf f (by simp) D h
    rw [runA]
    split
    · exact Wt.run l _ (fun g hg => hf g (by simp [hg])) h1
    · exact h1
theorem Wt.opn {D : DV} {c : Nat} (h : Wt D c) (k : Int) : Wt (opnD D k).1 c := by
  unfold opnD
  split
  · exact h
  · split
    · exact h
    · split
      · exact h
      · rename_i st _
        have hr : Wt (runA (stl st.1) D).1 c := Wt.run _ D (fun f hf D h => by
          unfold stl at hf
          simp only [List.mem_cons, List.not_mem_nil, or_false] at hf
          rcases hf with rfl | rfl | rfl | rfl | rfl | rfl
          · exact h.cutI _ _
          · exact h.cutI _ _
          · exact h.cutI _ _
          · exact h.sync _
          · exact h.sync _
          · exact h.sync _) h
        split
        · exact hr
        · exact hr
theorem Wt.six {D : DV} {c : Nat} (h : Wt D c) (S : SV) (pl jn mk : List UInt8) : Wt (runA (six S pl jn mk) D).1 (c + pl.length + jn.length + mk.length) := by
  have one : ∀ (f : DV → DV × Int) (l : List (DV → DV × Int)) (D : DV) (c d : Nat), Wt (f D).1 d → d ≤ c → (∀ D', Wt D' d → Wt (runA l D').1 c) → Wt (runA (f :: l) D).1 c := fun f l D c d h1 h2 h3 => by
    rw [runA]
    split
    · exact h3 _ h1
    · exact h1.mono h2
  unfold Go.Proofs.YthfnpagangjpbabGreat.six
  refine one _ _ _ _ (c + pl.length) (h.write _ _ _) (by omega) fun D1 h1 => ?_
  refine one _ _ _ _ (c + pl.length + jn.length) (h1.write _ _ _) (by omega) fun D2 h2 => ?_
  refine one _ _ _ _ _ (h2.sync _) (by omega) fun D3 h3 => ?_
  refine one _ _ _ _ _ (h3.sync _) (by omega) fun D4 h4 => ?_
  refine one _ _ _ _ (c + pl.length + jn.length + mk.length) (h4.write _ _ _) (by omega) fun D5 h5 => ?_
  refine one _ _ _ _ _ (h5.sync _) (by omega) fun D6 h6 => ?_
  exact h6
theorem Wt.lay {D : DV} {c : Nat} (h : Wt D c) (a k : Int) (ks : List Bool) : Wt (layD D a k ks) c := by
  unfold layD
  (repeat' split) <;> exact h
theorem wt_open {F : LF0} (h : Sor F) (N : Nat) {c : Nat} (hb : byt F ≤ c) : Wt (openD N F) c := by
  refine ⟨?_, ?_⟩
  · show Ord (layL _)
    rw [lay_sor _ h]
    exact sor_ordA h
  · show wt (layL _) ≤ c
    rw [lay_sor _ h, wt_allS]
    exact hb
theorem wt_new (N : Nat) : Wt (newD N) 0 := ⟨ord_nil, Nat.le_refl _⟩
end Go.Proofs.YthfnpagangjpbabGreat
namespace Go.Proofs.YthfnpagangjpbabGreat
open Go.RowKit
open Rc
section
variable {w w1 W : World} {q r n : Nat} {T : Nat → Prop} {D : DV} {S : SV}
theorem RSm.cells (h : RSm w W q r T D S n) : ∃ ma mcap, (W.cell? ⟨q, 0, none⟩ = some (.pointer (some ⟨r, 0, none⟩)) ∧ W.cell? ⟨q, 1, none⟩ = some (.int .i64 (S.k : Int)) ∧ W.cell? ⟨q, 2, none⟩ = some (.slice ma S.ends.length mcap) ∧ W.cell? ⟨q, 3, none⟩ = some (.bool S.lame)) ∧ W.frozen? ⟨q, 2, none⟩ = false ∧ W.frozen? ⟨q, 3, none⟩ = false := by
  obtain ⟨V, T', h1, ⟨S0, v, l, d1, d2, d3, d4, d5⟩, h3, h4⟩ := h
  obtain ⟨ao, b, cap, rfl, hc, _⟩ := ownK_rd d2.own
  have hk := d2.blk
  rw [len_ends d2.it] at hk
  exact ⟨ao, cap, four_at hk, frozen_of_row W q 2 _ _ hk, frozen_of_row W q 3 _ _ hk⟩
theorem RSm.back {w0 : World} (hb : Below w0.heap.size w0 w) (h : RSm w W q r T D S n) : RSm w0 W q r T D S n := RSm.after (T1 := T) (fun _ hx => .inl hx) (Upo.of hb) h
theorem RSm.limp (h : RSm w W q r T D S n) : RSm w (W.setCell ⟨q, 3, none⟩ (.bool true)) q r T D { S with lame := true } n := by
  obtain ⟨V, T', h1, ⟨S0, v, l, d1, d2, d3, d4, d5⟩, h3, h4⟩ := h
  have oth : ∀ x, x ≠ q → (W.setCell ⟨q, 3, none⟩ (.bool true)).heap[x]? = W.heap[x]? := fun x hx => Below.heap_setCell _ _ _ _ hx
  exact ⟨V, T', h1, ⟨S0, v, l, d1.same (fun x hx => oth x fun e => d3 (e ▸ hx)), ⟨heap_setCell_same W q 3 _ _ _ d2.blk, row_keep d2.own (fun g hg => oth g (d4 g hg).1), d2.it, d2.ch, d2.k1, d2.k2, d2.few, d2.low⟩, d3, d4, d5⟩, h3, h4.set _ _ _ (h3 q ((d5 q).2 (.inr (.inl rfl))))⟩
theorem WentK.block {v v' : Value} (h : WentK w W v v') (b : Nat) (hb : b < w.heap.size) (hv : v.ownBlock ≠ some b) : W.heap[b]? = w.heap[b]? := by
  rcases h with ⟨g, n, cap, rfl, rfl, h⟩ | ⟨h, _⟩
  · exact h.block b hb hv.symm
  · exact h.block b hb (by simp)
theorem WentK.own {v v' : Value} (h : WentK w W v v') (b : Nat) (hb : v'.ownBlock = some b) : v.ownBlock = some b ∨ w.heap.size ≤ b := by
  rcases h with ⟨g, n, cap, rfl, rfl, h⟩ | ⟨_, h⟩
  · exact .inl hb
  · exact .inr (h b hb)
theorem WentK.size {v v' : Value} (h : WentK w W v v') : w.heap.size ≤ W.heap.size := by
  rcases h with ⟨g, n, cap, rfl, rfl, h⟩ | ⟨h, _⟩ <;> exact h.size
theorem RSm.push (h : RSm w W q r T D S n) (m : MV) (hm : m.items ≤ 268435456) (hf : S.ends.length < 65536) (W1 : World) (hal : Below W.heap.size W W1) (hnew : W1.heap[W.heap.size]? = some (.cells #[.int .i64 m.k, .int .u64 (m.size : Int), .int .u64 (m.items : Int), .int .u64 (m.nodes : Int), .int .u32 (m.chain.toNat : Int)] 85 (0, 0))) :
    ∃ ma mcap va vc w7, (W.cell? ⟨q, 2, none⟩ = some (.slice ma S.ends.length mcap) ∧ W1.cell? ⟨q, 2, none⟩ = some (.slice ma S.ends.length mcap)) ∧ (Builtin.append_ #[72, 72] 72 #[.slice ma S.ends.length mcap, .slice (some ⟨W.heap.size, 0, none⟩) 1 1]).run Tryz.prog W1 = .ok (.slice va (S.ends.length + 1) vc) w7 ∧ w7.frozen? ⟨q, 2, none⟩ = false ∧ w7.cell? ⟨q, 2, none⟩ = some (.slice ma S.ends.length mcap) ∧
      RSm w (w7.setCell ⟨q, 2, none⟩ (.slice va (S.ends.length + 1) vc)) q r T D { S with ends := S.ends ++ [m.items], chain := m.chain } n := by
  obtain ⟨V, T', h1, ⟨S0, v, l, d1, d2, d3, d4, d5⟩, h3, h4⟩ := h
  have hq := d2.lt
  have hk := d2.blk
  have hln := len_ends d2.it
  obtain ⟨v7, w7, hrn, o7, g7⟩ := run_app_K W1 72 0 v l (ownK_next d2.own hal) ⟨W.heap.size, 0, none⟩ 1 m (fun j u hu => by
    rw [Addr.add_mid, Nat.zero_add, cell_of_row W1 _ j _ _ (0, 0) hnew]
    simpa [cK] using hu) (by omega) (Nat.zero_le _)
  obtain ⟨va, vb, vc, hv7, _, _⟩ := ownK_rd o7
  rw [List.length_append, hln] at hv7
  subst hv7
  have hq7 : w7.heap[q]? = W.heap[q]? := (g7.block q (Nat.lt_of_lt_of_le hq hal.size) (fun e => (d4 q e).1 rfl)).trans (hal.block q hq)
  have hk7 := hq7.trans hk
  have s7 := g7.size
  have s1 := hal.size
  obtain ⟨ao, b, cap, rfl, _, _⟩ := ownK_rd d2.own
  rw [hln] at hk hk7 hrn
  have oth : ∀ x, x ≠ q → (w7.setCell ⟨q, 2, none⟩ (.slice va (S.ends.length + 1) vc)).heap[x]? = w7.heap[x]? := fun x hx => Below.heap_setCell _ _ _ _ hx
  have old : ∀ x, S0 x → (w7.setCell ⟨q, 2, none⟩ (.slice va (S.ends.length + 1) vc)).heap[x]? = W.heap[x]? := fun x hx => by
    have hl := d1.lt hx
    rw [oth x (fun e => d3 (e ▸ hx)), g7.block x (by omega) (fun e => (d4 x e).2 hx)]
    exact hal.block x hl
  have new7 : ∀ g, (Value.slice va (S.ends.length + 1) vc).ownBlock = some g → g ≠ q ∧ ¬ S0 g ∧ (T' g ∨ W.heap.size ≤ g) := fun g hg => by
    rcases g7.own g hg with e | e
    · exact ⟨(d4 g e).1, (d4 g e).2, .inl ((d5 g).2 (.inr (.inr e)))⟩
    · exact ⟨by omega, fun hs => by have := d1.lt hs; omega, .inr (by omega)⟩
  refine ⟨ao, cap, va, vc, w7, ⟨(four_at hk).2.2.1, (four_at ((hal.block q hq).trans hk)).2.2.1⟩, hrn, frozen_of_row w7 q 2 _ _ hk7, (four_at hk7).2.2.1, V, fun x => S0 x ∨ x = q ∨ (Value.slice va (S.ends.length + 1) vc).ownBlock = some x, h1, ⟨S0, _, l ++ [m], d1.same old, ⟨heap_setCell_same w7 q 2 _ _ _ hk7, row_keep o7 (fun g hg => oth g (new7 g hg).1), ?_, ?_, d2.k1, d2.k2, ?_, ?_⟩, d3, fun g hg => ⟨(new7 g hg).1, (new7 g hg).2.1⟩, fun _ => Iff.rfl⟩, fun x hx => ?_, ?_⟩
  · rw [List.map_append, d2.it]; rfl
  · exact lastC_snoc l m
  · show (S.ends ++ [m.items]).length ≤ _
    rw [List.length_append]; simp only [List.length_cons, List.length_nil]; omega
  · intro e he
    rcases List.mem_append.1 he with e2 | e2
    · exact d2.low e e2
    · rw [List.mem_singleton.1 e2]; exact hm
  · have hu := h4.size
    rcases hx with e | rfl | e
    · exact h3 x ((d5 x).2 (.inl e))
    · exact h3 x ((d5 x).2 (.inr (.inl rfl)))
    · rcases (new7 x e).2.2 with e2 | e2
      · exact h3 x e2
      · exact .inr (by omega)
  · have hu1 : Upo T' W w7 := ⟨(g7.below (B := 0) (ownK_next d2.own hal) (Nat.zero_le _)).os.trans hal.os, (g7.below (B := 0) (ownK_next d2.own hal) (Nat.zero_le _)).tape.trans hal.tape, (g7.below (B := 0) (ownK_next d2.own hal) (Nat.zero_le _)).output.trans hal.output, by omega, fun b hb hn => (g7.block b (by omega) (fun e => hn ((d5 b).2 (.inr (.inr e))))).trans (hal.block b hb)⟩
    have hu2 : Upo T w w7 := h4.trans hu1 (fun b hb ht => (h3 b ht).elim id (fun e => by omega))
    exact hu2.set _ _ _ (h3 q ((d5 q).2 (.inr (.inl rfl))))
end
end Go.Proofs.YthfnpagangjpbabGreat
