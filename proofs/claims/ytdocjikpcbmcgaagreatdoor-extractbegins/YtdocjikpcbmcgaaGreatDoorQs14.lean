/-
  Own work: BWalkB.
-/
import Derived.Test.YtdocjikpcbmcgaaGreatDoorQs13
namespace Go.Proofs.YtdocjikpcbmcgaaGreatDoor
open Go.RowKit
open Cv (RdC zl cU tno)
open Pl (pw)
attribute [local go_sem ↓] Go.wp_at_zero Go.wp_at_succ
variable {GB RB : Nat}
structure Rw (w : World) (RB q : Nat) (K : Int) (D : List ByteArray) : Prop where
  ex : ∃ da db dO dc, w.heap[q]? = some (.cells #[.int .i64 K, .slice da D.length dc] 162 (0, 0)) ∧ RdS w da db dO D.length D ∧ D.length ≤ dc ∧ (da = none → dc = 0) ∧ (0 < D.length → db < RB)
section
variable {w W : World} {q : Nat} {K : Int} {D : List ByteArray}
theorem Rw.lt (h : Rw w RB q K D) : q < w.heap.size := by
  obtain ⟨da, db, dO, dc, h1, _⟩ := h.ex
  exact (Array.getElem?_eq_some_iff.1 h1).1
theorem Rw.next (h : Rw w RB q K D) (hb : Below w.heap.size w W) : Rw W RB q K D := by
  have hl := h.lt
  obtain ⟨da, db, dO, dc, h1, h2, h3, h4⟩ := h.ex
  exact ⟨da, db, dO, dc, (hb.block q hl).trans h1, h2.next hb (Nat.le_refl _), h3, h4⟩
theorem Rw.cell (h : Rw w RB q K D) {j : Nat} {u : Value} (hc : w.cell? ⟨q, j, none⟩ = some u) : u = .int .i64 K ∨ ∃ a n c, u = .slice a n c := by
  obtain ⟨da, db, dO, dc, h1, _⟩ := h.ex
  rw [cell_of_row w q j _ _ (0, 0) h1] at hc
  match j, hc with
  | 0, hc => exact .inl (by simpa using hc.symm)
  | 1, hc => exact .inr ⟨da, _, dc, by simpa using hc.symm⟩
  | j + 2, hc => simp at hc
theorem bx_cell (hb : Bx q w W) {b j : Nat} {u : Value} (hc : w.cell? ⟨b, j, none⟩ = some u) (hne : b ≠ q) : W.cell? ⟨b, j, none⟩ = some u :=
  (World.cell?_of_block (a := ⟨b, j, none⟩) (hb.block b (World.block_lt_of_cell? w _ hc) hne)).trans hc
theorem RdU.bx {ao : Option Addr} {b off len : Nat} {l : List Nat} (r : RdU w ao b off len l) (h : Rw w RB q K D) (hb : Bx q w W) : RdU W ao b off len l :=
  ⟨r.hl, r.ptr, fun j v hv => by
    have hc := r.rng j v hv
    refine bx_cell hb hc fun e => ?_
    subst e
    obtain ⟨x, _, hx⟩ := List.mem_map.1 (List.mem_of_getElem? hv)
    rcases h.cell hc with e | ⟨a, n, c, e⟩
    · rw [← hx] at e; cases e
    · rw [← hx] at e; cases e⟩
theorem RdS.bx {ao : Option Addr} {b off len : Nat} {l : List ByteArray} (r : RdS w ao b off len l) (h : Rw w RB q K D) (hb : Bx q w W) : RdS W ao b off len l := by
  refine ⟨r.hl, r.ptr, fun j v hv => ?_, r.sz⟩
  have hc := r.rng j v hv
  refine bx_cell hb hc fun e => ?_
  subst e
  obtain ⟨x, _, hx⟩ := List.mem_map.1 (List.mem_of_getElem? hv)
  rcases h.cell hc with e | ⟨a, n, c, e⟩
  · rw [← hx] at e; cases e
  · rw [← hx] at e; cases e
theorem Gv.bx {v : Value} {S : List Nat} {X : List ByteArray} (g : Gv w GB v S X) (h : Rw w RB q K D) (hb : Bx q w W) : Gv W GB v S X := by
  obtain ⟨sa, sb, so, sc, xa, xb, xo, xc, e, r1, r2, h1, h2, h3, h4⟩ := g.ex
  exact ⟨sa, sb, so, sc, xa, xb, xo, xc, e, r1.bx h hb, r2.bx h hb, h1, h2, h3, h4⟩
theorem Tb.bx (ht : Tb w) (h : Rw w RB q K D) (hb : Bx q w W) : Tb W :=
  ⟨fun j u hu => by
    have hc := ht.rs j u hu
    refine bx_cell hb hc fun e => ?_
    rw [e] at hc
    obtain ⟨x, _, hx⟩ := List.mem_map.1 (List.mem_of_getElem? hu)
    rcases h.cell hc with e | ⟨a, n, c, e⟩
    · rw [← hx] at e; cases e
    · rw [← hx] at e; cases e⟩
end
theorem Rw.take {w : World} {q : Nat} {K : Int} {D : List ByteArray} (h : Rw w RB q K D) (h0 : 0 < D.length) : ∃ db dO dc, w.cell? ⟨q, 0, none⟩ = some (.int .i64 K) ∧ w.cell? ⟨q, 1, none⟩ = some (.slice (some ⟨db, dO, none⟩) D.length dc) ∧ w.frozen? ⟨q, 1, none⟩ = false ∧ w.cell? ⟨db, dO, none⟩ = some (.string (D.getD 0 ByteArray.empty)) ∧ D.length ≤ dc ∧ ∀ ax, (if dc = 1 then some ⟨db, dO, none⟩ else some (Addr.add ⟨db, dO, none⟩ 1)) = ax → Rw (w.setCell ⟨q, 1, none⟩ (.slice ax (D.length - 1) (dc - 1))) RB q K (D.drop 1) := by
  obtain ⟨da, db, dO, dc, h1, h2, h3, h4, h5⟩ := h.ex
  obtain rfl := h2.ptr h0
  have c0 : w.cell? ⟨db, dO + 0, none⟩ = some (.string (D.getD 0 ByteArray.empty)) := h2.rng 0 _ (by simp [List.getD_eq_getElem?_getD, h0])
  refine ⟨db, dO, dc, by rw [cell_of_row w q 0 _ _ (0, 0) h1]; rfl, by rw [cell_of_row w q 1 _ _ (0, 0) h1]; rfl, frozen_of_row w q 1 _ _ h1, c0, h3, fun ax hax => ?_⟩
  have hd := rds_drop h2 (H := 1) h3 (by omega) h4 (ax := ax) (by rw [← hax]; rfl)
  have hl : (D.drop 1).length = D.length - 1 := List.length_drop
  have hne : db ≠ q := fun e => by
    subst e
    rcases h.cell c0 with e | ⟨a, n, c, e⟩ <;> cases e
  refine ⟨ax, db, dO + 1, dc - 1, ?_, ?_, by omega, hd.2, fun _ => h5 h0⟩
  · rw [hl]; exact heap_setCell_same w q 1 _ _ _ h1
  · exact hd.1.same (((ChT.refl (fun b => b = q) w).set q 1 _ rfl).block db hne)
theorem two_boxes (w : World) (o1 o2 : Obj) : ((w.alloc o1).alloc o2).heap[w.heap.size]? = some o1 ∧ ((w.alloc o1).alloc o2).heap[w.heap.size + 1]? = some o2 := by
  have e2 := heap_alloc_new (w.alloc o1) o2
  rw [World.size_alloc] at e2
  exact ⟨by rw [Cv.heap_al o2 (by rw [World.size_alloc]; omega)]; exact heap_alloc_new w o1, e2⟩
set_option maxRecDepth 100000 in
theorem bnode_nil (w : World) (q : Nat) (K : Int) (D : List ByteArray) (hr : Rw w RB q K D) (h0 : 0 < D.length) (h k : Nat) (sa xa : Option Addr) (sc xn xc : Nat) (d : ByteArray) (hd : D.getD 0 ByteArray.empty = d) (E : List ByteArray) (hE : D.drop 1 = E) :
    Calls Tryz.prog 122 #[.pointer (some ⟨q, 0, none⟩), .agg #[.int .i64 (h : Int), .int .u64 (k : Int)], .agg #[.slice sa 0 sc, .slice xa xn xc]] w fun e w' => e = .returned (.string d) ∧ Rw w' RB q K E ∧ Bx q w w' := by
  obtain ⟨o1, ho1⟩ : ∃ o1, Obj.cells #[.int .i64 (h : Int), .int .u64 (k : Int)] 83 (0, 0) = o1 := ⟨_, rfl⟩
  obtain ⟨o2, ho2⟩ : ∃ o2, Obj.cells #[.slice sa 0 sc, .slice xa xn xc] 160 (0, 0) = o2 := ⟨_, rfl⟩
  have hb := bal (bal (Below.refl w.heap.size w) o1) o2
  obtain ⟨e1, e2⟩ := two_boxes w o1 o2
  have hq := hr.lt
  obtain ⟨W, hW⟩ : ∃ W, (w.alloc o1).alloc o2 = W := ⟨_, rfl⟩
  rw [hW] at hb e1 e2
  rw [← ho1] at e1 hW
  rw [← ho2] at e2 hW
  clear ho1 ho2 o1 o2
  obtain ⟨db, dO, dc, c0, c1, f1, c2, h1, HT⟩ := (hr.next hb).take h0
  rw [hd] at c2
  have g0 : W.cell? ⟨w.heap.size + 1, 0, none⟩ = some (.slice sa 0 sc) := by rw [cell_of_row _ _ 0 _ _ (0, 0) e2]; rfl
  have HQ := hide (And.intro HT (And.intro hb hE))
  have n1 : (1 : Int) ≤ (D.length : Int) := by omega
  have n2 : (0 : Int) < (D.length : Int) := by omega
  have n3 : (1 : Int) ≤ (dc : Int) := by omega
  clear hr HT hd hb hE e1 e2
  by_cases hdc : dc = 1
  · subst hdc
    go_enter Tryz.func122, Tryz.ntmps122
    go_wp2
    go_ret
    exact ⟨rfl, by have := HQ.out.1 _ (if_pos trivial); rw [← HQ.out.2.2]; rwa [show D.length - 1 = 0 by omega] at this, ((Bx.refl q w).next HQ.out.2.1).put ((ChT.refl _ W).set q 1 _ rfl)⟩
  · go_enter Tryz.func122, Tryz.ntmps122
    go_wp2
    go_ret
    exact ⟨rfl, by rw [← HQ.out.2.2]; exact HQ.out.1 _ (if_neg hdc), ((Bx.refl q w).next HQ.out.2.1).put ((ChT.refl _ W).set q 1 _ rfl)⟩
set_option maxRecDepth 100000 in
theorem bnode_leaf (w : World) (ht : Tb w) (q : Nat) (K : Int) (D : List ByteArray) (hr : Rw w RB q K D) (k : Nat) (sa : Option Addr) (n sc xb xo xn xc : Nat) (h0 : 0 < n) (hx0 : 0 < xn) (x : ByteArray) (hx : w.cell? ⟨xb, xo, none⟩ = some (.string x)) (hs : x.size < 2305843009213693952) (d : ByteArray) (hd : dg (clk K) (leafT x) = d) :
    Calls Tryz.prog 122 #[.pointer (some ⟨q, 0, none⟩), .agg #[.int .i64 0, .int .u64 (k : Int)], .agg #[.slice sa n sc, .slice (some ⟨xb, xo, none⟩) xn xc]] w fun e w' => e = .returned (.string d) ∧ Rw w' RB q K D ∧ Bx q w w' := by
  obtain ⟨o1, ho1⟩ : ∃ o1, Obj.cells #[.int .i64 0, .int .u64 (k : Int)] 83 (0, 0) = o1 := ⟨_, rfl⟩
  obtain ⟨o2, ho2⟩ : ∃ o2, Obj.cells #[.slice sa n sc, .slice (some ⟨xb, xo, none⟩) xn xc] 160 (0, 0) = o2 := ⟨_, rfl⟩
  have hb := bal (bal (Below.refl w.heap.size w) o1) o2
  obtain ⟨e1, e2⟩ := two_boxes w o1 o2
  obtain ⟨W, hW⟩ : ∃ W, (w.alloc o1).alloc o2 = W := ⟨_, rfl⟩
  rw [hW] at hb e1 e2
  rw [← ho1] at e1 hW
  rw [← ho2] at e2 hW
  clear ho1 ho2 o1 o2
  have hR := hr.next hb
  obtain ⟨da, db, dO, dc, h1, h2, h3, h4⟩ := hR.ex
  have c0 : W.cell? ⟨q, 0, none⟩ = some (.int .i64 K) := by rw [cell_of_row W q 0 _ _ (0, 0) h1]; rfl
  have g0 : W.cell? ⟨w.heap.size + 1, 0, none⟩ = some (.slice sa n sc) := by rw [cell_of_row _ _ 0 _ _ (0, 0) e2]; rfl
  have g1 : W.cell? ⟨w.heap.size + 1, 1, none⟩ = some (.slice (some ⟨xb, xo, none⟩) xn xc) := by rw [cell_of_row _ _ 1 _ _ (0, 0) e2]; rfl
  have g2 : W.cell? ⟨w.heap.size, 0, none⟩ = some (.int .i64 0) := by rw [cell_of_row _ _ 0 _ _ (0, 0) e1]; rfl
  have g3 : W.cell? ⟨xb, xo, none⟩ = some (.string x) := (hb.cell (p := ⟨xb, xo, none⟩) (World.block_lt_of_cell? w _ hx)).trans hx
  have HL := leaf_any W.drew (ht.next hb.drew) K x hs d hd
  have HQ := hide (And.intro hR hb)
  have n0 : ¬ (n : Int) = 0 := by omega
  have n1 : (0 : Int) < (xn : Int) := by omega
  clear hr hd hb e1 e2 h1 h2 h3 h4 hR ht hx hs h0 hx0
  go_enter Tryz.func122, Tryz.ntmps122
  go_wp2
  go_region_with (go_at_call 116; with_reducible refine HL.mono ?_; rintro e w1 ⟨rfl, hb1⟩)
  all_goals go_wp2
  all_goals go_ret
  all_goals exact ⟨rfl, HQ.out.1.next (bnext (Below.refl _ W).drew hb1), (Bx.refl q w).next (bnext HQ.out.2.drew hb1)⟩
def Gc (w : World) (p : Nat) (a b : Value) : Prop := w.heap[p]? = some (.cells #[a, b] 160 (0, 0))
section
variable {w W : World} {p : Nat} {a b : Value}
theorem Gc.lt (h : Gc w p a b) : p < w.heap.size := (Array.getElem?_eq_some_iff.1 h).1
theorem Gc.next (h : Gc w p a b) (hb : Below w.heap.size w W) : Gc W p a b := (hb.block p h.lt).trans h
theorem Gc.cells (h : Gc w p a b) : w.cell? ⟨p, 0, none⟩ = some a ∧ w.cell? ⟨p, 1, none⟩ = some b ∧ ∀ j, w.frozen? ⟨p, j, none⟩ = false :=
  ⟨by rw [cell_of_row w p 0 _ _ (0, 0) h]; rfl, by rw [cell_of_row w p 1 _ _ (0, 0) h]; rfl, fun j => frozen_of_row w p j _ _ h⟩
theorem Gc.put (h : Gc w p a b) (a' b' : Value) : Gc ((w.setCell ⟨p, 0, none⟩ a').setCell ⟨p, 1, none⟩ b') p a' b' := heap_setCell_same _ p 1 _ _ b' (heap_setCell_same w p 0 _ _ a' h)
end
theorem below_put {B : Nat} {a Z : World} (h : Below B a Z) {p i : Nat} {v : Value} (hp : B ≤ p) : Below B a (Z.setCell ⟨p, i, none⟩ v) :=
  h.trans (((ChT.refl (fun b => b = p) Z).set p i v rfl).below (by rintro b rfl; exact hp))
abbrev oz : Obj := .cells #[.slice none 0 0, .slice none 0 0] 160
theorem gc_new (V : World) : Gc (V.alloc oz) V.heap.size (.slice none 0 0) (.slice none 0 0) := heap_alloc_new V _
theorem gc_newd (V : World) : Gc (V.alloc oz).drew V.heap.size (.slice none 0 0) (.slice none 0 0) := heap_alloc_new V _
theorem gc_two (V : World) : Gc ((V.alloc oz).alloc oz) V.heap.size (.slice none 0 0) (.slice none 0 0) ∧ Gc ((V.alloc oz).alloc oz) (V.heap.size + 1) (.slice none 0 0) (.slice none 0 0) := two_boxes V oz oz
theorem gc_twod (V : World) : Gc ((V.alloc oz).alloc oz).drew V.heap.size (.slice none 0 0) (.slice none 0 0) ∧ Gc ((V.alloc oz).alloc oz).drew (V.heap.size + 1) (.slice none 0 0) (.slice none 0 0) := two_boxes V oz oz
theorem Gv.form {w : World} {v : Value} {S : List Nat} {X : List ByteArray} (h : Gv w GB v S X) : ∃ sa n sc xa m xc, v = .agg #[.slice sa n sc, .slice xa m xc] := by
  obtain ⟨sa, sb, so, sc, xa, xb, xo, xc, e, _⟩ := h.ex
  exact ⟨sa, _, sc, xa, _, xc, e⟩
theorem Gc.other {w W : World} {p : Nat} {a a' : Option Addr} {n n' c c' : Nat} (h : Gc w p (.slice a n c) (.slice a' n' c')) (hb : ChT (fun b => b = p) w W) {b j : Nat} {u : Value} (hc : w.cell? ⟨b, j, none⟩ = some u) (hu : ∀ a n c, u ≠ .slice a n c) : W.cell? ⟨b, j, none⟩ = some u := by
  refine (World.cell?_of_block (a := ⟨b, j, none⟩) (hb.block b fun e => ?_)).trans hc
  subst e
  rw [cell_of_row w b j _ _ (0, 0) h] at hc
  match j, hc with
  | 0, hc => exact hu a n c (by simpa using hc.symm)
  | 1, hc => exact hu a' n' c' (by simpa using hc.symm)
  | j + 2, hc => simp at hc
theorem Gv.put {w W : World} {p : Nat} {a a' : Option Addr} {n n' c c' : Nat} {v : Value} {S : List Nat} {X : List ByteArray} (g : Gv w GB v S X) (h : Gc w p (.slice a n c) (.slice a' n' c')) (hb : ChT (fun b => b = p) w W) : Gv W GB v S X := by
  obtain ⟨sa, sb, so, sc, xa, xb, xo, xc, e, r1, r2, h1, h2, h3, h4⟩ := g.ex
  refine ⟨sa, sb, so, sc, xa, xb, xo, xc, e, ⟨r1.hl, r1.ptr, fun j u hu => h.other hb (r1.rng j u hu) fun a n c ee => ?_⟩, ⟨r2.hl, r2.ptr, fun j u hu => h.other hb (r2.rng j u hu) fun a n c ee => ?_, r2.sz⟩, h1, h2, h3, h4⟩
  · obtain ⟨x, _, hx⟩ := List.mem_map.1 (List.mem_of_getElem? hu)
    rw [← hx] at ee; cases ee
  · obtain ⟨x, _, hx⟩ := List.mem_map.1 (List.mem_of_getElem? hu)
    rw [← hx] at ee; cases ee
abbrev put2 (w : World) (p : Nat) (a b : Value) : World := (w.setCell ⟨p, 0, none⟩ a).setCell ⟨p, 1, none⟩ b
theorem put2_ch (w : World) (p : Nat) (a b : Value) : ChT (fun b => b = p) w (put2 w p a b) := ((ChT.refl (fun b => b = p) w).set p 0 a rfl).set p 1 b rfl
def Fi (GB B : Nat) (V W : World) (p1 p2 : Nat) (a1 b1 a2 b2 : Value) (S1 S2 : List Nat) (X1 X2 : List ByteArray) : Prop := Gc W p1 a1 b1 ∧ Gc W p2 a2 b2 ∧ Gv W GB (.agg #[a1, b1]) S1 X1 ∧ Gv W GB (.agg #[a2, b2]) S2 X2 ∧ Below B V W
section
variable {B : Nat} {V wc : World} {a1 b1 a2 b2 : Value} {S1 S2 : List Nat} {X1 X2 : List ByteArray} (q1 : Gv wc GB (.agg #[a1, b1]) S1 X1) (q2 : Gv wc GB (.agg #[a2, b2]) S2 X2) (hb : Below B V wc) (hB : B ≤ wc.heap.size)
theorem Fi.swap {W : World} {p1 p2 : Nat} (h : Fi GB B V W p1 p2 a1 b1 a2 b2 S1 S2 X1 X2) : Fi GB B V W p2 p1 a2 b2 a1 b1 S2 S1 X2 X1 := ⟨h.2.1, h.1, h.2.2.2.1, h.2.2.1, h.2.2.2.2⟩
include q1 q2 hb hB in
theorem fin_a : Fi GB B V ((wc.alloc (.cells #[a1, b1] 160)).alloc (.cells #[a2, b2] 160)) wc.heap.size (wc.heap.size + 1) a1 b1 a2 b2 S1 S2 X1 X2 := by
  have h := two_boxes wc (.cells #[a1, b1] 160) (.cells #[a2, b2] 160)
  have hb2 := bal (bal (Below.refl wc.heap.size wc) (.cells #[a1, b1] 160)) (.cells #[a2, b2] 160)
  exact ⟨h.1, h.2, q1.next hb2, q2.next hb2, hb.trans (hb2.mono hB)⟩
include q1 q2 hb hB in
theorem fin_b {p : Nat} {a a' : Option Addr} {n n' c c' : Nat} (x : Gc wc p (.slice a n c) (.slice a' n' c')) (hp : B ≤ p) : Fi GB B V ((put2 wc p a1 b1).alloc (.cells #[a2, b2] 160)) p wc.heap.size a1 b1 a2 b2 S1 S2 X1 X2 := by
  have hc := put2_ch wc p a1 b1
  have hb2 := bal (Below.refl _ (put2 wc p a1 b1)) (.cells #[a2, b2] 160)
  have h2 := heap_alloc_new (put2 wc p a1 b1) (.cells #[a2, b2] 160)
  rw [hc.size] at h2
  exact ⟨(x.put a1 b1).next hb2, h2, (q1.put x hc).next hb2, (q2.put x hc).next hb2, (hb.trans (hc.below (B := B) (by rintro b rfl; exact hp))).trans (hb2.mono (by rw [hc.size]; exact hB))⟩
include q1 q2 hb in
theorem fin_c {p1 p2 : Nat} {a a' : Option Addr} {n n' c c' : Nat} {d d' : Option Addr} {m m' e e' : Nat} (x1 : Gc wc p1 (.slice a n c) (.slice a' n' c')) (x2 : Gc wc p2 (.slice d m e) (.slice d' m' e')) (hp1 : B ≤ p1) (hp2 : B ≤ p2) (hne : p1 ≠ p2) : Fi GB B V (put2 (put2 wc p1 a1 b1) p2 a2 b2) p1 p2 a1 b1 a2 b2 S1 S2 X1 X2 := by
  have hc := put2_ch wc p1 a1 b1
  have y2 : Gc (put2 wc p1 a1 b1) p2 (.slice d m e) (.slice d' m' e') := (hc.block p2 (Ne.symm hne)).trans x2
  have hd := put2_ch (put2 wc p1 a1 b1) p2 a2 b2
  exact ⟨(hd.block p1 hne).trans (x1.put a1 b1), y2.put a2 b2, (q1.put x1 hc).put y2 hd, (q2.put x1 hc).put y2 hd, (hb.trans (hc.below (B := B) (by rintro b rfl; exact hp1))).trans (hd.below (B := B) (by rintro b rfl; exact hp2))⟩
end
set_option maxRecDepth 100000 in
set_option maxHeartbeats 8000000 in
theorem bnode_two (w : World) (ht : Tb w) (q : Nat) (K : Int) (D : List ByteArray) (hr : Rw w RB q K D) (h k : Nat) (hh : h + 1 ≤ 40) (hk : (k + 1) * pw (h + 1) ≤ 2 ^ 40) (va vx : Value) (S : List Nat) (X : List ByteArray) (hg : Gv w GB (.agg #[va, vx]) S X) (hX : X.length = S.length) (hp : Asc S) (h0 : S ≠ []) (hm : S.length ≤ 8796093022208) (t : Nat) (htt : bl S ((2 * k + 1) * pw h) = t) (c1 c2 : ByteArray) (s1 : c1.size ≤ 32) (s2 : c2.size ≤ 32) (D1 D2 : List ByteArray)
    (HI1 : ∀ W v, Tb W → Rw W RB q K D → Gv W GB v (S.take t) (X.take t) → Calls Tryz.prog 122 #[.pointer (some ⟨q, 0, none⟩), .agg #[.int .i64 (h : Int), .int .u64 ((2 * k : Nat) : Int)], v] W fun e w' => e = .returned (.string c1) ∧ Rw w' RB q K D1 ∧ Bx q W w')
    (HI2 : ∀ W v, Tb W → Rw W RB q K D1 → Gv W GB v (S.drop t) (X.drop t) → Calls Tryz.prog 122 #[.pointer (some ⟨q, 0, none⟩), .agg #[.int .i64 (h : Int), .int .u64 ((2 * k + 1 : Nat) : Int)], v] W fun e w' => e = .returned (.string c2) ∧ Rw w' RB q K D2 ∧ Bx q W w')
    (d : ByteArray) (hd : dg (clk K) (nodeT c1 c2) = d) :
    Calls Tryz.prog 122 #[.pointer (some ⟨q, 0, none⟩), .agg #[.int .i64 ((h + 1 : Nat) : Int), .int .u64 (k : Int)], .agg #[va, vx]] w fun e w' => e = .returned (.string d) ∧ Rw w' RB q K D2 ∧ Bx q w w' := by
  obtain ⟨o1, ho1⟩ : ∃ o1, Obj.cells #[.int .i64 ((h + 1 : Nat) : Int), .int .u64 (k : Int)] 83 (0, 0) = o1 := ⟨_, rfl⟩
  obtain ⟨o2, ho2⟩ : ∃ o2, Obj.cells #[va, vx] 160 (0, 0) = o2 := ⟨_, rfl⟩
  have hb := bal (bal (Below.refl w.heap.size w) o1) o2
  obtain ⟨e1, e2⟩ := two_boxes w o1 o2
  obtain ⟨W, hW⟩ : ∃ W, (w.alloc o1).alloc o2 = W := ⟨_, rfl⟩
  have hWs : W.heap.size = w.heap.size + 1 + 1 := by rw [← hW]; simp
  rw [hW] at hb e1 e2
  rw [← ho1] at e1 hW
  rw [← ho2] at e2 hW
  clear ho1 ho2 o1 o2
  obtain ⟨sa, sb, so, sc, xa, xb, xo, xc, hv, r1, r2, l1, l2, n1, n2, _⟩ := hg.ex
  obtain ⟨rfl, rfl⟩ : va = .slice sa S.length sc ∧ vx = .slice xa X.length xc := by
    injection hv with hv
    have := congrArg Array.toList hv
    simpa using this
  obtain ⟨n, hn⟩ : ∃ n, S.length = n := ⟨_, rfl⟩
  have hn0 : 0 < n := by rw [← hn]; exact List.length_pos_iff.2 h0
  have hG := hg.next hb
  have hR := hr.next hb
  have hT := ht.next hb
  have g0 : W.cell? ⟨w.heap.size + 1, 0, none⟩ = some (.slice sa S.length sc) := by rw [cell_of_row _ _ 0 _ _ (0, 0) e2]; rfl
  have g1 : W.cell? ⟨w.heap.size + 1, 1, none⟩ = some (.slice xa X.length xc) := by rw [cell_of_row _ _ 1 _ _ (0, 0) e2]; rfl
  have b0 : W.cell? ⟨w.heap.size, 0, none⟩ = some (.int .i64 ((h : Int) + 1)) := by rw [cell_of_row _ _ 0 _ _ (0, 0) e1]; rfl
  have b1 : W.cell? ⟨w.heap.size, 1, none⟩ = some (.int .u64 (k : Int)) := by rw [cell_of_row _ _ 1 _ _ (0, 0) e1]; rfl
  rw [hn] at g0
  rw [hX, hn] at g1
  have hkk : k < 2 ^ 40 := by
    have := Nat.le_mul_of_pos_right (k + 1) (Pl.pw_pos (h + 1)); omega
  have x1 : IntKind.u64.wrap (2 * (k : Int)) = 2 * (k : Int) := by rw [IntKind.wrap_u64]; omega
  have x2 : IntKind.u64.wrap (2 * (k : Int) + 1) = 2 * (k : Int) + 1 := by rw [IntKind.wrap_u64]; omega
  have z1 : ((n : Int) == 0) = false := beq_false_of_ne (by omega)
  have z2 : ((h : Int) + 1 == 0) = false := beq_false_of_ne (by omega)
  have HQ := hide (And.intro hR (And.intro hb (And.intro hT hG)))
  have HW := hide hr.lt
  rw [hX, hn] at HQ hG hW
  clear hr hb e1 e2 hR ht hT hg r1 r2 hv hkk
  rw [hX, hn]
  rw [show ((h + 1 : Nat) : Int) = (h : Int) + 1 by omega] at *
  go_enter Tryz.func122, Tryz.ntmps122
  go_upto_region 9 with (fail)
  obtain ⟨o3, ho3⟩ : ∃ o3, Obj.cells #[.int .i64 (h : Int), .int .u64 (2 * (k : Int))] 83 (0, 0) = o3 := ⟨_, rfl⟩
  obtain ⟨o4, ho4⟩ : ∃ o4, Obj.cells #[.int .i64 (h : Int), .int .u64 (2 * (k : Int) + 1)] 83 (0, 0) = o4 := ⟨_, rfl⟩
  obtain ⟨e3, e4⟩ := two_boxes W o3 o4
  have hb2 := bal (bal (Below.refl W.heap.size W) o3) o4
  obtain ⟨V, hV⟩ : ∃ V, (W.alloc o3).alloc o4 = V := ⟨_, rfl⟩
  rw [hV] at e3 e4 hb2
  rw [← ho3] at e3 hV
  rw [← ho4] at e4 hV
  rw [hV]
  rw [hWs] at e3 e4
  clear hV hW
  have g0 := (hb2.cell (p := ⟨w.heap.size + 1, 0, none⟩) (World.block_lt_of_cell? W _ g0)).trans g0
  have g1 := (hb2.cell (p := ⟨w.heap.size + 1, 1, none⟩) (World.block_lt_of_cell? W _ g1)).trans g1
  have d0 : V.cell? ⟨w.heap.size + 1 + 1, 0, none⟩ = some (.int .i64 (h : Int)) := by rw [cell_of_row _ _ 0 _ _ (0, 0) e3]; rfl
  have d1 : V.cell? ⟨w.heap.size + 1 + 1, 1, none⟩ = some (.int .u64 (2 * (k : Int))) := by rw [cell_of_row _ _ 1 _ _ (0, 0) e3]; rfl
  have f0 : V.cell? ⟨w.heap.size + 1 + 1 + 1, 0, none⟩ = some (.int .i64 (h : Int)) := by rw [cell_of_row _ _ 0 _ _ (0, 0) e4]; rfl
  have f1 : V.cell? ⟨w.heap.size + 1 + 1 + 1, 1, none⟩ = some (.int .u64 (2 * (k : Int) + 1)) := by rw [cell_of_row _ _ 1 _ _ (0, 0) e4]; rfl
  obtain ⟨pp, hpp⟩ : ∃ pp, (2 * k + 1) * pw h = pp := ⟨_, rfl⟩
  have hpl : (2 * k + 1) * pw h ≤ 2 ^ 40 := by
    have := Cv.half_hi h k
    have := Nat.mul_le_mul_right (pw h) (show 2 * k + 1 ≤ 2 * k + 1 + 1 by omega)
    omega
  have HE : Hid (∀ Z, Calls Tryz.prog 121 #[.agg #[.int .i64 (h : Int), .int .u64 (2 * (k : Int))]] Z fun e w' => e = .returned (.int .u64 (pp : Int)) ∧ Below Z.heap.size Z w') := fun Z => by
    have := end_any Z h (2 * k) (by omega) hpl pp hpp
    rwa [show ((2 * k : Nat) : Int) = 2 * (k : Int) by omega] at this
  have HCt : Hid (∀ Z, Below V.heap.size V Z → Calls Tryz.prog 120 #[.agg #[.slice sa n sc, .slice xa n xc], .int .u64 (pp : Int)] Z fun e w' => ∃ v1 v2, e = .returned (.tuple #[v1, v2]) ∧ Gv w' GB v1 (S.take t) (X.take t) ∧ Gv w' GB v2 (S.drop t) (X.drop t) ∧ Below Z.heap.size Z w') := fun Z hZ => cut_any Z _ S X (HQ.out.2.2.2.next (bnext hb2 hZ)) hX hp hm pp t (by rw [← hpp]; exact htt)
  have HV := hide hb2
  have HK : Hid (∀ Z, Below V.heap.size V Z → Z.cell? ⟨w.heap.size + 1, 0, none⟩ = some (.slice sa n sc) ∧ Z.cell? ⟨w.heap.size + 1, 1, none⟩ = some (.slice xa n xc) ∧ Z.cell? ⟨w.heap.size + 1 + 1, 0, none⟩ = some (.int .i64 (h : Int)) ∧ Z.cell? ⟨w.heap.size + 1 + 1, 1, none⟩ = some (.int .u64 (2 * (k : Int)))) := fun Z hZ =>
    ⟨(hZ.cell (p := ⟨w.heap.size + 1, 0, none⟩) (World.block_lt_of_cell? V _ g0)).trans g0, (hZ.cell (p := ⟨w.heap.size + 1, 1, none⟩) (World.block_lt_of_cell? V _ g1)).trans g1, (hZ.cell (p := ⟨w.heap.size + 1 + 1, 0, none⟩) (World.block_lt_of_cell? V _ d0)).trans d0, (hZ.cell (p := ⟨w.heap.size + 1 + 1, 1, none⟩) (World.block_lt_of_cell? V _ d1)).trans d1⟩
  have y0 : w.heap.size + 1 < V.heap.size := World.block_lt_of_cell? V _ g0
  have y1 : w.heap.size + 1 + 1 < V.heap.size := World.block_lt_of_cell? V _ d0
  have y2 : w.heap.size + 1 + 1 + 1 < V.heap.size := World.block_lt_of_cell? V _ f0
  have y3 : w.heap.size < V.heap.size := by omega
  have HS := hide (And.intro y0 (And.intro y1 (And.intro y2 HW.out)))
  have HI := hide (And.intro HI1 HI2)
  have HJ : Hid (∀ Z, Below V.heap.size V Z → Z.cell? ⟨w.heap.size + 1 + 1 + 1, 0, none⟩ = some (.int .i64 (h : Int)) ∧ Z.cell? ⟨w.heap.size + 1 + 1 + 1, 1, none⟩ = some (.int .u64 (2 * (k : Int) + 1))) := fun Z hZ =>
    ⟨(hZ.cell (p := ⟨w.heap.size + 1 + 1 + 1, 0, none⟩) (World.block_lt_of_cell? V _ f0)).trans f0, (hZ.cell (p := ⟨w.heap.size + 1 + 1 + 1, 1, none⟩) (World.block_lt_of_cell? V _ f1)).trans f1⟩
  have HD := hide hd
  clear hpl hpp hb2 e3 e4 HI1 HI2 hd
  go_cut [10, 11] from 60 to 66 (fun x y wx => ∃ p1 p2 a1 b1 a2 b2, x = .pointer (some ⟨p1, 0, none⟩) ∧ y = .pointer (some ⟨p2, 0, none⟩) ∧ Fi GB V.heap.size V wx p1 p2 a1 b1 a2 b2 (S.take t) (S.drop t) (X.take t) (X.drop t))
  case first =>
    go_region_held3 (fun Z => Z.cell? ⟨w.heap.size + 1, 0, none⟩ = some (.slice sa n sc) ∧ Z.cell? ⟨w.heap.size + 1, 1, none⟩ = some (.slice xa n xc) ∧ Z.cell? ⟨w.heap.size + 1 + 1, 0, none⟩ = some (.int .i64 (h : Int)) ∧ Z.cell? ⟨w.heap.size + 1 + 1, 1, none⟩ = some (.int .u64 (2 * (k : Int))))
      (exact HK.out _ (by repeat (first | exact Below.refl _ _ | refine Below.drew ?_ | refine bal ?_ _ | refine bnext ?_ hbc | refine bnext ?_ hbe | refine below_put ?_ (by omega)))) (first
      | (go_at_call 121; with_reducible refine (HE.out _).mono ?_; rintro e we ⟨rfl, hbe⟩
         have s1 := hbe.size
         try simp only [World.size_alloc, World.drew] at s1
         first | (have y1 := (gc_twod V).1.next hbe; have y2 := (gc_twod V).2.next hbe) | (have y1 := (gc_newd V).next hbe) | skip)
      | (go_at_call 120; with_reducible refine (HCt.out _ (by repeat (first | exact Below.refl _ _ | refine Below.drew ?_ | refine bal ?_ _ | refine bnext ?_ hbe))).mono ?_; rintro e wc ⟨v1, v2, rfl, q1, q2, hbc⟩
         obtain ⟨sa1, sn1, sc1, xa1, xn1, xc1, rfl⟩ := q1.form
         obtain ⟨sa2, sn2, sc2, xa2, xn2, xc2, rfl⟩ := q2.form
         have s2 := hbc.size
         try simp only [World.size_alloc] at s2
         first | (have x1 := y1.next hbc; have x2 := y2.next hbc) | (have x1 := y1.next hbc) | (have x1 := y1.next (bnext (bal (Below.refl _ _) _) hbc); have x2 := (gc_new we).next hbc) | (have x1 := (gc_two we).1.next hbc; have x2 := (gc_two we).2.next hbc) | (have x1 := (gc_new we).next hbc) | skip
         try have v1 := x1.lt
         try have v2 := x2.lt
         try have u1 := Nat.ne_of_lt x1.lt
         try have u2 := Nat.ne_of_lt x2.lt
         try have u3 := Nat.ne_of_lt y1.lt
         try have u4 := Ne.symm u3
         try have u5 := Ne.symm u1
         try have u6 := Ne.symm u2
         try obtain ⟨k0, k1, kf⟩ := x1.cells
         try obtain ⟨m0, m1, mf⟩ := x2.cells))
    all_goals have hVc : Below V.heap.size V wc := by repeat (first | exact Below.refl _ _ | refine Below.drew ?_ | refine bal ?_ _ | refine bnext ?_ hbc | refine bnext ?_ hbe)
    all_goals
      go_wp2
      go_meet
      case rel =>
        go_light
        first
          | with_reducible exact ⟨_, _, _, _, _, _, rfl, rfl, fin_a q1 q2 hVc hVc.size⟩
          | with_reducible exact ⟨_, _, _, _, _, _, rfl, rfl, (fin_a q2 q1 hVc hVc.size).swap⟩
          | with_reducible exact ⟨_, _, _, _, _, _, rfl, rfl, fin_b q1 q2 hVc hVc.size x1 (by omega)⟩
          | with_reducible exact ⟨_, _, _, _, _, _, rfl, rfl, (fin_b q2 q1 hVc hVc.size x1 (by omega)).swap⟩
          | with_reducible exact ⟨_, _, _, _, _, _, rfl, rfl, fin_c q1 q2 hVc x1 x2 (by omega) (by omega) (by omega)⟩
          | with_reducible exact ⟨_, _, _, _, _, _, rfl, rfl, fin_c q1 q2 hVc x2 x1 (by omega) (by omega) (by omega)⟩
  case rest =>
    obtain ⟨p1, p2, a1, b1, a2, b2, rfl, rfl, F1, F2, F3, F4, F5⟩ := hcut
    obtain ⟨i0, i1, i2, i3⟩ := HK.out wc F5
    obtain ⟨j0, j1⟩ := HJ.out wc F5
    obtain ⟨k0, k1, _⟩ := F1.cells
    obtain ⟨m0, m1, _⟩ := F2.cells
    have hVc := bnext HV.out F5
    have hR := HQ.out.1.next hVc
    have hT := HQ.out.2.2.1.next hVc
    have hq : q < w.heap.size := HS.out.2.2.2
    have hp2 : p2 ≠ q := fun e => by
      subst e
      obtain ⟨da, db, dO, dc, h1, _⟩ := hR.ex
      rw [F2] at h1
      cases h1
    have H1 := HI.out.1 wc _ hT hR F3
    have HR := hide (And.intro hR (And.intro hT (And.intro F4 (And.intro hq (And.intro hp2 (bnext HQ.out.2.1 hVc))))))
    rw [show ((2 * k : Nat) : Int) = 2 * (k : Int) by omega] at H1
    have HM := hide (And.intro m0 (And.intro m1 (And.intro j0 j1)))
    clear g0 g1 d0 d1 f0 f1 hT hR hq hp2 F1 F2 F3 F4 m0 m1 j0 j1 y0 y1 y2 y3
    go_upto_region 11 with (go_at_call 122; with_reducible refine H1.mono ?_; rintro e w1 ⟨rfl, hR1, hx1⟩)
    have m0 := bx_cell hx1 HM.out.1 HR.out.2.2.2.2.1
    have m1 := bx_cell hx1 HM.out.2.1 HR.out.2.2.2.2.1
    have j0 := bx_cell hx1 HM.out.2.2.1 (by have := HR.out.2.2.2.1; omega)
    have j1 := bx_cell hx1 HM.out.2.2.2 (by have := HR.out.2.2.2.1; omega)
    have H2 := HI.out.2 w1 _ (HR.out.2.1.bx HR.out.1 hx1) hR1 (HR.out.2.2.1.bx HR.out.1 hx1)
    rw [show ((2 * k + 1 : Nat) : Int) = 2 * (k : Int) + 1 by omega] at H2
    have HT1 := hide (HR.out.2.1.bx HR.out.1 hx1)
    have HX1 := hide (And.intro hR1 (((Bx.refl q w).next HR.out.2.2.2.2.2).trans hx1))
    clear i0 i1 i2 i3 k0 k1 hx1 hR1 H1
    go_upto_region 12 with (go_at_call 122; with_reducible refine H2.mono ?_; rintro e w2 ⟨rfl, hR2, hx2⟩)
    have H3 := node_any w2 (HT1.out.bx HX1.out.1 hx2) K c1 c2 (by omega) (by omega) d HD.out
    obtain ⟨da, db, dO, dc, h1, _⟩ := hR2.ex
    have z0 : w2.cell? ⟨q, 0, none⟩ = some (.int .i64 K) := by rw [cell_of_row w2 q 0 _ _ (0, 0) h1]; rfl
    have HX2 := hide (And.intro hR2 (HX1.out.2.trans hx2))
    clear m0 m1 j0 j1 h1 hx2 hR2 H2 HT1
    go_wp2_with (go_at_call 125; with_reducible refine H3.mono ?_; rintro e w3 ⟨rfl, hb3⟩)
    go_ret
    exact ⟨rfl, HX2.out.1.next hb3, HX2.out.2.next hb3⟩
end Go.Proofs.YtdocjikpcbmcgaaGreatDoor
