/-
  FilesStorms: what its parts come to. Own work.
-/
import Derived.Test.YthfnpagangjpbaaGreatYFStS
import Derived.Test.YthfnpagangjpbaaGreatZ16
namespace Go.Proofs.YthfnpagangjpbaaGreat
open Go.RowKit
open Rc
/-- The list, or one item more. -/
def Nx (L : List ByteArray) (m m' : Nat) : Prop := (m' = m ∨ m' = m + 1) ∧ m' ≤ L.length
/-- How a disk stands behind m items. -/
def Sg (k : Nat) (L : List ByteArray) (m : Nat) (M : LL) : Prop := m ≤ L.length ∧ Ord M ∧ ∃ X, (∀ x, X = some x → ∃ s, L[m]? = some s ∧ x = (s.data.toList, dg0 k m)) ∧ SmX k (itA k (L.take m)) X ∧ Gd k (itA k (L.take m)) X M
theorem ge_nx {k : Nat} {L : List ByteArray} {m : Nat} {X : Option It} {B : List It} (hm : m ≤ L.length) (hX : ∀ x, X = some x → ∃ s, L[m]? = some s ∧ x = (s.data.toList, dg0 k m)) (hB : Ge (itA k (L.take m)) X B) : ∃ m', Nx L m m' ∧ B = itA k (L.take m') := by
  rcases hB with rfl | ⟨x, e, rfl⟩
  · exact ⟨m, ⟨.inl rfl, hm⟩, rfl⟩
  · obtain ⟨s, hs, rfl⟩ := hX x e
    exact ⟨m + 1, ⟨.inr rfl, (List.getElem?_eq_some_iff.1 hs).1⟩, (itA_next hs).symm⟩
theorem gd_of {k : Nat} {A B : List It} {X : Option It} {M : LL} (hB : Ge A X B) (hw : Wk k B M) : Gd k A X M := by
  rcases hB with rfl | ⟨x, e, rfl⟩
  · exact .inl hw
  · exact .inr ⟨x, e, .inl hw⟩
/-- Files that a disk is opened over. -/
structure Fo (k : Nat) (L : List ByteArray) (m : Nat) (F : List (List UInt8 × List UInt8)) : Prop where
  sor : Sor F
  fz : Fz 1048576 F
  sg : Sg k L m (layL F)
  wk : ∃ m', Nx L m m' ∧ Wk k (itA k (L.take m')) (layL F)
theorem fo_of {k : Nat} {L : List ByteArray} {m : Nat} {X : Option It} {B : List It} {F : List (List UInt8 × List UInt8)} (hm : m ≤ L.length) (hX : ∀ x, X = some x → ∃ s, L[m]? = some s ∧ x = (s.data.toList, dg0 k m)) (hS : SmX k (itA k (L.take m)) X) (hB : Ge (itA k (L.take m)) X B) (hs : Sor F) (hw : Wk k B (layL F)) : Fo k L m F := by
  obtain ⟨m', h1, rfl⟩ := ge_nx hm hX hB
  exact ⟨hs, fz_of (hB.smk hS) hs hw (by decide) (by decide), ⟨hm, sor_ord hs, X, hX, hS, gd_of hB hw⟩, m', h1, hw⟩
theorem Sg.told {k : Nat} {L : List ByteArray} {m : Nat} {M : LL} (h : Sg k L m M) : Fo k L m (tell M) := by
  obtain ⟨hm, ho, X, hX, hS, hg⟩ := h
  obtain ⟨B, hB, hw⟩ := hg.told hS ho
  exact fo_of hm hX hS hB (tell_sor ho.1).1 hw
theorem Sg.fall {k : Nat} {L : List ByteArray} {m : Nat} {M : LL} (h : Sg k L m M) (ks : List Bool) : Fo k L m (aft ks M 0) := by
  obtain ⟨hm, ho, X, hX, hS, hg⟩ := h
  obtain ⟨B, hB, hw⟩ := hg.fallen hS ks ho
  exact fo_of hm hX hS hB (aft_sor ks M 0 ho.1) hw
theorem Sg.oth {k : Nat} {L : List ByteArray} {m : Nat} {M : LL} (h : Sg k L m M) : Oth M := by
  obtain ⟨hm, ho, X, hX, hS, hg⟩ := h
  exact hg.pre.2.2
/-- How an Open ends. -/
def Oe (k : Nat) (L : List ByteArray) (m : Nat) (D' : DV) (o : Option SV) (e : Int) : Prop :=
  (∃ m', Nx L m m' ∧ o = some (sA k (itA k (L.take m'))) ∧ e = 0 ∧ Qf 1048576 D' ∧ Ext k (itA k (L.take m')) D'.L ∧ Smk k (itA k (L.take m'))) ∨
  (o = none ∧ e ≠ 0 ∧ Sg k L m D'.L ∧ (D'.down = false ∨ D'.down = true))
theorem Sg.opn {k : Nat} {L : List ByteArray} {m : Nat} {D : DV} (h : Sg k L m D.L) (hq : Qf 1048576 D) : ∃ D' o e, opnD D (k : Int) = (D', o, e) ∧ D'.acts ≤ D.acts + 6 ∧ Oe k L m D' o e := by
  obtain ⟨hm, ho, X, hX, hS, hg⟩ := h
  obtain ⟨D', o, e, h1, h2⟩ := open_f hS hq hg
  refine ⟨D', o, e, h1, h2.acts, ?_⟩
  rcases h2.out with ⟨B, hB, g1, g2, g3, g4⟩ | ⟨g1, g2, g3, g4, g5, g6, g7⟩
  · obtain ⟨m', q1, rfl⟩ := ge_nx hm hX hB
    exact .inl ⟨m', q1, g1, g2, g3, g4, hB.smk hS⟩
  · refine .inr ⟨g1, g2, ⟨hm, g5, X, hX, hS, g6⟩, ?_⟩
    cases D'.down
    · exact .inl rfl
    · exact .inr rfl
theorem ext_sg {k : Nat} {L : List ByteArray} {M : LL} (h : Smk k (itA k L)) (ho : Ord M) (he : Ext k (itA k L) M) : Sg k L L.length M :=
  ⟨Nat.le_refl _, ho, none, (fun x hx => by cases hx), by rw [List.take_length]; exact ⟨h, (fun x hx => by cases hx)⟩, by rw [List.take_length]; exact .inl (h.wk he)⟩
/-- A fate lies: nothing else changes. -/
theorem lay_f {R : Nat} {D : DV} (h : Qf R D) (a k : Int) (ks : List Bool) (ha : 1 ≤ a) (hk : 1 ≤ k ∧ k ≤ 5) : Qf R (layD D a k ks) ∧ (layD D a k ks).L = D.L ∧ (layD D a k ks).acts = D.acts := by
  unfold layD
  rw [if_neg (by rw [h.down]; exact Bool.false_ne_true), if_pos ⟨ha, hk⟩]
  exact ⟨⟨h.down, h.ord, h.tot⟩, rfl, rfl⟩
theorem lame_add {D : DV} {S : SV} (x : List UInt8) (ds : List ByteArray) : addD D { S with lame := true } x ds = (D, { S with lame := true }, 191) := by
  have hr : refD { S with lame := true } x ds = 191 := by
    unfold refD
    rw [if_pos rfl]
  unfold addD
  rw [hr, if_pos (by decide)]
section
variable {w W W' : World} {q p : Nat} {D D' : DV} {S S' : SV}
theorem Mvd.lay1 (h : Mvd w W p NoB D) (a k : Int) (ha : a ≤ 9223372036854775807) (ao : Option Addr) (b o c : Nat) (ks : List Bool) (hk : RdL W ao b o ks) (hkl : ks.length ≤ 140737488355328) (hne : 0 < ks.length → b < w.heap.size) :
    Calls Tryz.prog 27 #[.pointer (some ⟨p, 0, none⟩), .agg #[.int .i64 a, .int .i64 k, .slice ao ks.length c]] W fun e w' => e = .returned (.tuple #[]) ∧ Mvd w w' p NoB (layD D a k ks) := by
  obtain ⟨S1, h1, h2, h3⟩ := h
  exact (h1.lay a k ha ao b o c ks hk hkl (fun h0 hs => (h2 b hs).elim id (fun e => by have := hne h0; omega))).mono fun e w' z => ⟨z.1, mvd_join h2 h3 z.2⟩
theorem MdS.lay1 (h : MdS w W q p NoB D S) (a k : Int) (ha : a ≤ 9223372036854775807) (ao : Option Addr) (b o c : Nat) (ks : List Bool) (hk : RdL W ao b o ks) (hkl : ks.length ≤ 140737488355328) (hne : 0 < ks.length → b < w.heap.size) :
    Calls Tryz.prog 27 #[.pointer (some ⟨p, 0, none⟩), .agg #[.int .i64 a, .int .i64 k, .slice ao ks.length c]] W fun e w' => e = .returned (.tuple #[]) ∧ MdS w w' q p NoB (layD D a k ks) S := by
  obtain ⟨T, ⟨S1, v, d1, d2, d3, d4, d5⟩, h2, h3⟩ := h
  exact (d1.lay a k ha ao b o c ks hk hkl (fun h0 hs => (h2 b ((d5 b).2 (.inl hs))).elim id (fun e => by have := hne h0; omega))).mono fun e w' z => ⟨z.1, MdS.skm h2 h3 (sk_mvd d2 d3 d4 d5 z.2)⟩
theorem Mvd.base (hb : Below w.heap.size w W) (h : Mvd W W' p NoB D) : Mvd w W' p NoB D := by
  obtain ⟨S1, h1, h2, h3⟩ := h
  exact ⟨S1, h1, fun x hx => .inr ((h2 x hx).elim (fun q => q.elim) (fun e => Nat.le_trans hb.size e)), (Upo.of hb).trans h3 (fun _ _ q => q.elim)⟩
end
/-- The box of nine. -/
theorem nine_box (w : World) (v0 v1 v2 v3 v4 v5 v6 v7 v8 : Value) (ty : Nat) (W : World) (h : Below (w.alloc (.cells #[v0, v1, v2, v3, v4, v5, v6, v7, v8] ty)).heap.size (w.alloc (.cells #[v0, v1, v2, v3, v4, v5, v6, v7, v8] ty)) W) :
    W.cell? ⟨w.heap.size, 0, none⟩ = some v0 ∧ W.cell? ⟨w.heap.size, 1, none⟩ = some v1 ∧ W.cell? ⟨w.heap.size, 2, none⟩ = some v2 ∧ W.cell? ⟨w.heap.size, 3, none⟩ = some v3 ∧ W.cell? ⟨w.heap.size, 4, none⟩ = some v4 ∧ W.cell? ⟨w.heap.size, 5, none⟩ = some v5 ∧ W.cell? ⟨w.heap.size, 6, none⟩ = some v6 ∧ W.cell? ⟨w.heap.size, 7, none⟩ = some v7 ∧ W.cell? ⟨w.heap.size, 8, none⟩ = some v8 := by
  have hr := range_below h (by rw [al_size]; exact Nat.lt_succ_self _) (range_new w [v0, v1, v2, v3, v4, v5, v6, v7, v8] ty)
  exact ⟨hr 0 _ rfl, hr 1 _ rfl, hr 2 _ rfl, hr 3 _ rfl, hr 4 _ rfl, hr 5 _ rfl, hr 6 _ rfl, hr 7 _ rfl, hr 8 _ rfl⟩
theorem uint_ofS (x : Int) : ∃ u : Nat, u < 18446744073709551616 ∧ IntKind.u64.wrap x = (u : Int) := by
  refine ⟨(x % 18446744073709551616).toNat, by omega, ?_⟩
  show x % 18446744073709551616 = _
  omega
end Go.Proofs.YthfnpagangjpbaaGreat
