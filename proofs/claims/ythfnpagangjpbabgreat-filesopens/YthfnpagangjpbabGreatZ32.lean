/-
  FHas, FMade, FLaw. Own work.
-/
import Derived.Test.YthfnpagangjpbabGreatZ30
import Derived.Test.YthfnpagangjpbabGreatZ31
/-
  The laws' has. Own work.
-/
namespace Go.Proofs.YthfnpagangjpbabGreat
open Go.RowKit
open Rc
attribute [local go_sem ↓] Go.wp_at_zero Go.wp_at_succ
/-- A list's items with their nodes. -/
def itA (k : Nat) (l : List ByteArray) : List It := l.mapIdx fun i s => (s.data.toList, dg0 k i)
theorem itA_len (k : Nat) (l : List ByteArray) : (itA k l).length = l.length := by simp [itA]
theorem itA_at (k : Nat) (l : List ByteArray) (i : Nat) (s : ByteArray) (h : l[i]? = some s) : (itA k l)[i]? = some (s.data.toList, dg0 k i) := by
  unfold itA
  rw [List.getElem?_mapIdx, h]; rfl
theorem itA_snoc (k : Nat) (l : List ByteArray) (s : ByteArray) : itA k (l ++ [s]) = itA k l ++ [(s.data.toList, dg0 k l.length)] := by simp [itA]
theorem itA_take (k : Nat) (l : List ByteArray) (j : Nat) : itA k (l.take j) = (itA k l).take j := by
  apply List.ext_getElem?
  intro i
  unfold itA
  rw [List.getElem?_mapIdx, List.getElem?_take, List.getElem?_take, List.getElem?_mapIdx]
  split <;> rfl
theorem itA_ok {k : Nat} {l : List ByteArray} (h1 : 1 ≤ k) (h2 : k ≤ 32) (hl : l.length ≤ 65536) (hs : ∀ s ∈ l, s.size ≤ 1048576) : OkA k (itA k l) :=
  ⟨h1, h2, by rw [itA_len]; exact hl, fun i x hx => by
    unfold itA at hx
    rw [List.getElem?_mapIdx] at hx
    obtain ⟨s, hs', rfl⟩ := Option.map_eq_some_iff.1 hx
    have hi := (List.getElem?_eq_some_iff.1 hs').1
    exact dg0_ok (by omega) _ (by rw [size_list]; exact hs s (List.mem_of_getElem? hs'))⟩
/-- A store and its disk have these. -/
structure HasA (k : Nat) (l : List ByteArray) (D : DV) (S : SV) : Prop where
  ok : OkA k (itA k l)
  kk : S.k = k
  ends : S.ends = (bA k (itA k l)).ends
  down : D.down = false
  a : (bA k (itA k l)).a <+: (fget D.L nmI).now
  b : (bA k (itA k l)).b <+: (fget D.L nmN).now
theorem hasA_ext {k : Nat} {l : List ByteArray} {D : DV} (h : OkA k (itA k l)) (hd : D.down = false) (he : Ext k (itA k l) D.L) : HasA k l D (sA k (itA k l)) := ⟨h, rfl, rfl, hd, by rw [he.i]; exact List.prefix_rfl, by rw [he.n]; exact List.prefix_rfl⟩
end Go.Proofs.YthfnpagangjpbabGreat
/-
  The laws' made. Own work.
-/
namespace Go.Proofs.YthfnpagangjpbabGreat
open Go.RowKit
open Rc
attribute [local go_sem ↓] Go.wp_at_zero Go.wp_at_succ
/-- A store since w over a disk of before. -/
def MdS (w wr : World) (q p : Nat) (S0 : Nat → Prop) (D : DV) (S : SV) : Prop := ∃ T, Sk wr q p T D S ∧ (∀ y, T y → S0 y ∨ w.heap.size ≤ y) ∧ Upo S0 w wr
theorem MdS.next {w wr W : World} {q p : Nat} {S0 : Nat → Prop} {D : DV} {S : SV} (h : MdS w wr q p S0 D S) (hb : Below wr.heap.size wr W) : MdS w W q p S0 D S := by
  obtain ⟨T, h1, h2, h3⟩ := h
  exact ⟨T, h1.next hb, h2, h3.next hb⟩
theorem MdS.skm {w wr W : World} {q p : Nat} {S0 T : Nat → Prop} {D : DV} {S : SV} (h2 : ∀ y, T y → S0 y ∨ w.heap.size ≤ y) (h3 : Upo S0 w wr) (h : SkM wr W q p T D S) : MdS w W q p S0 D S := by
  obtain ⟨T', g1, g2, g3⟩ := h
  refine ⟨T', g1, fun y hy => ?_, h3.trans g3 (fun y hy ht => (h2 y ht).elim id (fun e => by omega))⟩
  rcases g2 y hy with e | e
  · exact h2 y e
  · exact .inr (Nat.le_trans h3.size e)
theorem MdS.cell {w wr : World} {q p : Nat} {S0 : Nat → Prop} {D : DV} {S : SV} (h : MdS w wr q p S0 D S) {b i : Nat} {v : Value} (hc : w.cell? ⟨b, i, none⟩ = some v) (hb : ¬ S0 b) : wr.cell? ⟨b, i, none⟩ = some v := by
  obtain ⟨T, h1, h2, h3⟩ := h
  exact (World.cell?_of_block (a := ⟨b, i, none⟩) (h3.block b (World.block_lt_of_cell? _ _ hc) hb)).trans hc
theorem MdS.rds {w wr : World} {q p : Nat} {S0 : Nat → Prop} {D : DV} {S : SV} (h : MdS w wr q p S0 D S) {la : Option Addr} {lb lo len : Nat} {l : List ByteArray} (hr : RdS w la lb lo len l) (hb : 0 < len → ¬ S0 lb) : RdS wr la lb lo len l :=
  ⟨hr.hl, hr.ptr, fun j v hv => h.cell (hr.rng j v hv) (hb (by have := (List.getElem?_eq_some_iff.1 hv).1; rw [List.length_map] at this; have := hr.hl; omega)), hr.sz⟩
/-- Few and short. -/
structure Sml (l : List ByteArray) : Prop where
  few : l.length ≤ 13
  sz : ∀ s ∈ l, s.size ≤ 500
theorem Sml.take {l : List ByteArray} (h : Sml l) (j : Nat) : Sml (l.take j) := ⟨by have := h.few; rw [List.length_take]; omega, fun s hs => h.sz s (List.mem_of_mem_take hs)⟩
theorem lsL_sml (ss : List ByteArray) : Sml (lsL ss) := ⟨by rw [lsL_len]; omega, lsL_sz ss⟩
theorem Sml.ok {l : List ByteArray} (h : Sml l) {k : Nat} (h1 : 1 ≤ k) (h2 : k ≤ 32) : OkA k (itA k l) := itA_ok h1 h2 (by have := h.few; omega) (fun s hs => by have := h.sz s hs; omega)
theorem sml_a {k : Nat} (l : List ByteArray) : (∀ s ∈ l, s.size ≤ 500) → (bA k (itA k l)).a.length ≤ 508 * l.length := by
  refine rev_ind (P := fun l => (∀ s ∈ l, s.size ≤ 500) → (bA k (itA k l)).a.length ≤ 508 * l.length) (fun _ => Nat.le_refl _) (fun l s ih h => ?_) l
  have h1 := ih fun x hx => h x (List.mem_append_left _ hx)
  have h2 := h s (by simp)
  rw [itA_snoc, bA_snoc]
  show ((bA k (itA k l)).a ++ pay s.data.toList).length ≤ _
  rw [List.length_append, pay_len, size_list, List.length_append]
  simp only [List.length_cons, List.length_nil]
  omega
theorem Sml.fits {l : List ByteArray} (h : Sml l) {k : Nat} (h1 : 1 ≤ k) (h2 : k ≤ 32) : (bA k (itA k l)).a.length + (bA k (itA k l)).b.length + (bA k (itA k l)).m.length ≤ 10000 := by
  have l1 := (h.ok h1 h2).lens
  have a := sml_a (k := k) l h.sz
  have n := nn_le l.length
  have f := h.few
  have b := l1.b
  have m := l1.m
  rw [itA_len] at b m
  omega
theorem new_ext (k R : Nat) : Ext k [] (newD R).L ∧ Qt R (newD R) := ⟨⟨rfl, rfl, rfl, fun _ _ _ _ => rfl⟩, rfl, rfl, ord_nil, rfl⟩
/-- Room for the laws' acts. -/
theorem qt_rm {R : Nat} {D : DV} (h : Qt R D) (he : Oth D.L) (hR : R ≤ 268435456) (ha : D.acts ≤ 1000000) : Rm 7 D := ⟨by omega, by have := (tot_three h.ord he).2; omega, by have := h.tot; omega⟩
/-- What made comes to. -/
def MdQ (w : World) (p : Nat) (S0 : Nat → Prop) (k : Nat) (l : List ByteArray) (R n : Nat) (e : Ending) (w' : World) : Prop := ∃ q D', e = .returned (.pointer (some ⟨q, 0, none⟩)) ∧ MdS w w' q p S0 D' (sA k (itA k l)) ∧ Qt R D' ∧ Ext k (itA k l) D'.L ∧ D'.acts = n
end Go.Proofs.YthfnpagangjpbabGreat
/-
  Disks and stores that were made since w; what the laws' alive comes to. Own work.
-/
namespace Go.Proofs.YthfnpagangjpbabGreat
open Go.RowKit
open Rc
/-- A store that was made since w. -/
abbrev Ms (w W : World) (q p : Nat) (D : DV) (S : SV) : Prop := MdS w W q p (fun _ => False) D S
section
variable {w W W' : World} {q p : Nat} {D D' : DV} {S S' : SV}
theorem Ms.below (h : Ms w W q p D S) : Below w.heap.size w W := by
  obtain ⟨T, _, _, h3⟩ := h
  exact h3.below (Nat.le_refl _) (fun _ q => q.elim)
theorem Ms.nw (h : Ms w W q p D S) : Nw w W p D := by
  have hb := h.below
  obtain ⟨T, ⟨S0, v, d1, d2, d3, d4, d5⟩, h2, h3⟩ := h
  exact ⟨S0, d1, fun x hx => (h2 x ((d5 x).2 (.inl hx))).elim (fun q => q.elim) id, hb⟩
theorem MdS.base {w1 : World} {S0 : Nat → Prop} (hb : Below w.heap.size w w1) (hS : ∀ x, S0 x → w.heap.size ≤ x) (h : MdS w1 W q p S0 D S) : Ms w W q p D S := by
  obtain ⟨T, h1, h2, h3⟩ := h
  refine ⟨T, h1, fun x hx => .inr ((h2 x hx).elim (hS x) (fun e => Nat.le_trans hb.size e)), ?_⟩
  exact (Upo.of hb).trans h3 (fun x hx hs => by have := hS x hs; omega)
theorem Ms.add (h : Ms w W q p D S) (hrm : Rm 7 D) (s : ByteArray) (hs : s.size ≤ 9223372036854775807) (ao : Option Addr) (b off len cap : Nat) (ds : List ByteArray) (hr : RdS W ao b off len ds) (hmx : len ≤ 9223372036854775807) (r : Int) (hR : addD D S s.data.toList ds = (D', S', r)) :
    Calls Tryz.prog 22 #[.pointer (some ⟨q, 0, none⟩), .string s, .slice ao len cap] W fun e w' => e = .returned (.int .i64 r) ∧ Ms w w' q p D' S' := by
  obtain ⟨T, h1, h2, h3⟩ := h
  exact (add_any W h1 hrm s hs ao b off len cap ds hr hmx D' S' r hR).mono fun e w' z => ⟨z.1, MdS.skm h2 h3 z.2⟩
theorem Ms.item (h : Ms w W q p D S) (i : Nat) (hi : i < 18446744073709551616) (t : ByteArray) (r : Int) (x : List UInt8) (he : itmD D S i = (x, r)) (ht : tx x = t) :
    Calls Tryz.prog 10 #[.pointer (some ⟨q, 0, none⟩), .int .u64 (i : Int)] W fun e w' => e = .returned (.tuple #[.string t, .int .i64 r]) ∧ Ms w w' q p D S := by
  have hh := h
  obtain ⟨T, h1, _⟩ := h
  exact (item_any W h1 i hi t r (by rw [he]; exact ht) (by rw [he])).mono fun e w' z => ⟨z.1, hh.next z.2⟩
theorem Ms.node (h : Ms w W q p D S) (i : Nat) (hi : i < 18446744073709551616) (t : ByteArray) (r : Int) (x : List UInt8) (he : nodD D S i = (x, r)) (ht : tx x = t) :
    Calls Tryz.prog 12 #[.pointer (some ⟨q, 0, none⟩), .int .u64 (i : Int)] W fun e w' => e = .returned (.tuple #[.string t, .int .i64 r]) ∧ Ms w w' q p D S := by
  have hh := h
  obtain ⟨T, h1, _⟩ := h
  exact (fnode_any W h1 i hi t r (by rw [he]; exact ht) (by rw [he])).mono fun e w' z => ⟨z.1, hh.next z.2⟩
theorem Ms.size (h : Ms w W q p D S) (n : Nat) (hn : S.ends.length = n) : Calls Tryz.prog 14 #[.pointer (some ⟨q, 0, none⟩)] W fun e w' => e = .returned (.int .u64 (n : Int)) ∧ w' = W := by
  obtain ⟨T, h1, _⟩ := h
  rw [← hn]; exact fsize_any W h1
theorem Ms.lame (h : Ms w W q p D S) (b : Bool) (hb : S.lame = b) : Calls Tryz.prog 15 #[.pointer (some ⟨q, 0, none⟩)] W fun e w' => e = .returned (.bool b) ∧ w' = W := by
  obtain ⟨T, h1, _⟩ := h
  rw [← hb]; exact flame_any W h1
theorem Nw.open1 (h : Nw w W p D) (hrm : Rm 7 D) (k : Int) (he : opnD D k = (D', some S, 0)) :
    Calls Tryz.prog 20 #[.pointer (some ⟨p, 0, none⟩), .int .i64 k] W fun e w' => ∃ q, e = .returned (.tuple #[.pointer (some ⟨q, 0, none⟩), .int .i64 0]) ∧ Ms w w' q p D' S := by
  obtain ⟨S0, h1, h2, h3⟩ := h
  exact (fopen_any W h1 hrm k _ he).mono fun e w' z => by
    obtain ⟨q, T, z1, z2, z3, _, z4⟩ := z
    exact ⟨q, z1, MdS.base h3 h2 ⟨T, z2, z3, z4⟩⟩
theorem Nw.open0 (h : Nw w W p D) (hrm : Rm 7 D) (k r : Int) (he : opnD D k = (D', none, r)) :
    Calls Tryz.prog 20 #[.pointer (some ⟨p, 0, none⟩), .int .i64 k] W fun e w' => e = .returned (.tuple #[.pointer none, .int .i64 r]) ∧ Nw w w' p D' := by
  obtain ⟨S0, h1, h2, h3⟩ := h
  exact (fopen_any W h1 hrm k _ he).mono fun e w' z => ⟨z.1, Nw.mvd h3 h2 z.2⟩
end
/-- Another strength: broken. -/
theorem tk_other {k k' : Nat} {A : List It} (h : OkA k A) (h0 : A ≠ []) (hk : k ≠ k') {I N t : List UInt8} (ht : t.length < 64 ∨ t = zer 64) : tkAll k' I N ((bA k A).m ++ t) = none := by
  obtain ⟨x, r, rfl⟩ := List.exists_cons_of_ne_nil h0
  have ho := h.take 1
  have hp := (bA_take k (x :: r) 1).2.2
  have e1 : (x :: r).take 1 = [] ++ [x] := by simp
  rw [e1] at ho hp
  have hr := rowM_at ho (hp.trans (List.prefix_append _ t))
  have hc := cntM_good h ht
  rw [tkAll, hc]
  refine tkA_none (j := 1) ?_ _ (by simp)
  rw [tkA, tkA]
  simp only
  rw [show (0 : Nat) = ([] : List It).length from rfl, hr]
  unfold tkN
  rw [rmrk_mrk _ ho.mvok]
  simp only
  split
  · rfl
  · split
    · rfl
    · rw [if_neg]
      intro e
      have := congrArg MV.k e
      have e2 : ((k : Nat) : Int) = ((k' : Nat) : Int) := this
      omega
def al1 : It := ([97], [tx [97, 97]])
def al2 : It := ([98], [tx [98, 98], tx [97, 98]])
theorem al1_ok : OkA 2 ([] ++ [al1]) := (okA_nil (by decide) (by decide)).add (by decide) ⟨by decide, by decide, by decide⟩
theorem al2_ok : OkA 2 (([] ++ [al1]) ++ [al2]) := al1_ok.add (by decide) ⟨by decide, by decide, by decide⟩
theorem al1_fit : (bA 2 ([] ++ [al1])).a.length + (bA 2 ([] ++ [al1])).b.length + (bA 2 ([] ++ [al1])).m.length ≤ 100000 := by
  have l := al1_ok.lens
  have h2 := l.b
  have h3 := l.m
  have h1 : (bA 2 ([] ++ [al1])).a.length = 9 := by
    rw [bA_snoc]
    show (([] : List UInt8) ++ pay [97]).length = _
    rw [List.length_append, pay_len]; rfl
  have h4 : nn ([] ++ [al1]).length = 1 := by decide
  have h5 : ([] ++ [al1]).length = 1 := rfl
  rw [h4] at h2
  rw [h5] at h3
  omega
theorem al2_fit : (bA 2 (([] ++ [al1]) ++ [al2])).a.length + (bA 2 (([] ++ [al1]) ++ [al2])).b.length + (bA 2 (([] ++ [al1]) ++ [al2])).m.length ≤ 100000 := by
  have l := al2_ok.lens
  have h2 := l.b
  have h3 := l.m
  have h1 : (bA 2 (([] ++ [al1]) ++ [al2])).a.length = 18 := by
    rw [bA_snoc, bA_snoc]
    show ((([] : List UInt8) ++ pay [97]) ++ pay [98]).length = _
    rw [List.length_append, List.length_append, pay_len, pay_len]; rfl
  have h4 : nn (([] ++ [al1]) ++ [al2]).length = 3 := by decide
  have h5 : (([] ++ [al1]) ++ [al2]).length = 2 := rfl
  rw [h4] at h2
  rw [h5] at h3
  omega
/-- What alive comes to. -/
structure AlD (D1 D2 D4 D5 : DV) : Prop where
  o1 : opnD (newD 100000) 2 = (D1, some (sA 2 []), 0)
  a1 : D1.acts = 3
  p1 : addD D1 (sA 2 []) [97] [tx [97, 97]] = (D2, sA 2 ([] ++ [al1]), 0)
  p2 : addD D2 (sA 2 ([] ++ [al1])) [98] [tx [98, 98]] = (D2, sA 2 ([] ++ [al1]), 192)
  p3 : addD D2 (sA 2 ([] ++ [al1])) [98] [tx [98, 98], tx [97, 98]] = (D4, sA 2 (([] ++ [al1]) ++ [al2]), 0)
  i1 : itmD D4 (sA 2 (([] ++ [al1]) ++ [al2])) 1 = ([98], 0)
  n2 : nodD D4 (sA 2 (([] ++ [al1]) ++ [al2])) 2 = ([97, 98], 0)
  i2 : itmD D4 (sA 2 (([] ++ [al1]) ++ [al2])) 2 = ([], 31)
  sz : (sA 2 (([] ++ [al1]) ++ [al2])).ends.length = 2
  o3 : opnD D4 3 = (D4, none, 190)
  o0 : opnD D4 0 = (D4, none, 70)
  o2 : opnD D4 2 = (D5, some (sA 2 (([] ++ [al1]) ++ [al2])), 0)
  r0 : Rm 7 (newD 100000)
  r1 : Rm 7 D1
  r2 : Rm 7 D2
  r4 : Rm 7 D4
theorem al_data : ∃ D1 D2 D4 D5, AlD D1 D2 D4 D5 := by
  obtain ⟨e0, q0⟩ := new_ext 2 100000
  obtain ⟨D1, j1, o1, q1, x1, a1, _, z1⟩ := open_ok (okA_nil (k := 2) (by decide) (by decide)) q0 e0.beh
  obtain ⟨_, rfl⟩ := z1 e0
  obtain ⟨D2, p1, q2, x2, a2⟩ := add_ok al1_ok q1 x1 al1_fit (by decide)
  obtain ⟨D4, p3, q4, x4, a4⟩ := add_ok al2_ok q2 x2 al2_fit (by decide)
  obtain ⟨D5, j5, o5, q5, x5, a5, _, _⟩ := open_ok al2_ok q4 x4.beh
  have hlen : (sA 2 (([] ++ [al1]) ++ [al2])).ends.length = 2 := al2_ok.lens.ends
  have hl1 : (sA 2 ([] ++ [al1])).ends.length = 1 := al1_ok.lens.ends
  have ha1 : D1.acts = 3 := a1
  have hn2 : nodD D4 (sA 2 (([] ++ [al1]) ++ [al2])) (nn 1 + 1) = ([97, 98], 0) := node_ok al2_ok rfl rfl q4.down (by rw [x4.n]; exact List.prefix_rfl) 1 1 al2 (tx [97, 98]) rfl rfl
  refine ⟨D1, D2, D4, D5, ⟨o1, ha1, p1, ?_, p3, ?_, hn2, ?_, hlen, ?_, ?_, o5, qt_rm q0 e0.oth (by decide) (by decide), qt_rm q1 x1.oth (by decide) (by omega), qt_rm q2 x2.oth (by decide) (by omega), qt_rm q4 x4.oth (by decide) (by omega)⟩⟩
  · have hr : refD (sA 2 ([] ++ [al1])) [98] [tx [98, 98]] = 192 := by
      have hx : nxt (sA 2 ([] ++ [al1])) [tx [98, 98]] = false := by
        unfold nxt
        rw [hl1]
        decide
      unfold refD
      rw [if_neg (show ¬ (sA 2 ([] ++ [al1])).lame = true from Bool.false_ne_true), if_neg (by decide), if_neg (by rw [hl1]; decide), if_pos hx]
    unfold addD
    rw [hr, if_pos (by decide)]
  · exact item_ok al2_ok rfl q4.down (by rw [x4.i]; exact List.prefix_rfl) 1 al2 rfl
  · exact item_no _ (by rw [hlen]; exact Nat.le_refl _)
  · unfold opnD
    rw [if_neg (by decide), if_neg (by rw [q4.down]; exact Bool.false_ne_true)]
    have e := tk_other (k' := 3) al2_ok (by decide) (by decide) (I := now D4 nmI) (N := now D4 nmN) (t := []) (.inl (by decide))
    have em : now D4 nmM = (bA 2 (([] ++ [al1]) ++ [al2])).m ++ [] := by rw [List.append_nil]; show (fget D4.L nmM).now = _; rw [x4.m]
    rw [em]
    rw [show (3 : Int).toNat = 3 from rfl, e]
  · unfold opnD
    rw [if_pos (by decide)]
end Go.Proofs.YthfnpagangjpbabGreat
