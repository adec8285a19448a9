/-
  Disks and stores over a ground that others stand on. Own work.
-/
import Derived.Test.YthfnpagangjpbaaGreatZ33
import Derived.Test.YthfnpagangjpbaaGreatZ15
namespace Go.Proofs.YthfnpagangjpbaaGreat
open Go.RowKit
open Rc
section
variable {w W W' : World} {q p : Nat} {S0 : Nat → Prop} {D D' : DV} {S S' : SV}
theorem MdS.mvd (h : MdS w W q p S0 D S) : Mvd w W p S0 D := by
  obtain ⟨T, ⟨S1, v, d1, d2, d3, d4, d5⟩, h2, h3⟩ := h
  exact ⟨S1, d1, fun x hx => h2 x ((d5 x).2 (.inl hx)), h3⟩
theorem Mvd.then (h : Mvd w W p S0 D) (hb : Below W.heap.size W W') : Mvd w W' p S0 D := by
  obtain ⟨S1, h1, h2, h3⟩ := h
  exact ⟨S1, h1.next hb, h2, h3.next hb⟩
theorem mvd_join {S1 : Nat → Prop} (h2 : ∀ x, S1 x → S0 x ∨ w.heap.size ≤ x) (h3 : Upo S0 w W) (h : Mvd W W' p S1 D') : Mvd w W' p S0 D' := by
  obtain ⟨S2, g1, g2, g3⟩ := h
  refine ⟨S2, g1, fun x hx => ?_, h3.trans g3 (fun x hx ht => (h2 x ht).elim id (fun e => by omega))⟩
  rcases g2 x hx with e | e
  · exact h2 x e
  · exact .inr (Nat.le_trans h3.size e)
theorem Mvd.keep (h : Mvd w W p S0 D) {b : Nat} (hb : b < w.heap.size) (hs : ¬ S0 b) : W.heap[b]? = w.heap[b]? := by
  obtain ⟨S1, _, _, h3⟩ := h
  exact h3.block b hb hs
theorem Mvd.rds (h : Mvd w W p S0 D) {la : Option Addr} {lb lo len : Nat} {l : List ByteArray} (hr : RdS w la lb lo len l) (hb : 0 < len → ¬ S0 lb) : RdS W la lb lo len l :=
  ⟨hr.hl, hr.ptr, fun j v hv => (World.cell?_of_block (a := ⟨lb, lo + j, none⟩) (h.keep (World.block_lt_of_cell? _ _ (hr.rng j v hv)) (hb (by have := (List.getElem?_eq_some_iff.1 hv).1; rw [List.length_map] at this; have := hr.hl; omega)))).trans (hr.rng j v hv), hr.sz⟩
theorem MdS.add1 (h : MdS w W q p S0 D S) (hrm : Rm 7 D) (s : ByteArray) (hs : s.size ≤ 9223372036854775807) (ao : Option Addr) (b off len cap : Nat) (ds : List ByteArray) (hr : RdS W ao b off len ds) (hmx : len ≤ 9223372036854775807) (r : Int) (hR : addD D S s.data.toList ds = (D', S', r)) :
    Calls Tryz.prog 15 #[.pointer (some ⟨q, 0, none⟩), .string s, .slice ao len cap] W fun e w' => e = .returned (.int .i64 r) ∧ MdS w w' q p S0 D' S' := by
  obtain ⟨T, h1, h2, h3⟩ := h
  exact (add_any W h1 hrm s hs ao b off len cap ds hr hmx D' S' r hR).mono fun e w' z => ⟨z.1, MdS.skm h2 h3 z.2⟩
theorem MdS.size1 (h : MdS w W q p S0 D S) (n : Nat) (hn : S.ends.length = n) : Calls Tryz.prog 20 #[.pointer (some ⟨q, 0, none⟩)] W fun e w' => e = .returned (.int .u64 (n : Int)) ∧ w' = W := by
  obtain ⟨T, h1, _⟩ := h
  rw [← hn]; exact fsize_any W h1
theorem MdS.lame1 (h : MdS w W q p S0 D S) (b : Bool) (hb : S.lame = b) : Calls Tryz.prog 19 #[.pointer (some ⟨q, 0, none⟩)] W fun e w' => e = .returned (.bool b) ∧ w' = W := by
  obtain ⟨T, h1, _⟩ := h
  rw [← hb]; exact flame_any W h1
theorem MdS.has1 (h : MdS w W q p S0 D S) (k : Nat) (l : List ByteArray) (hh : HasA k l D S) (la : Option Addr) (lb lo len lc : Nat) (hr : RdS W la lb lo len l) :
    Calls Tryz.prog 16 #[.pointer (some ⟨q, 0, none⟩), .int .i64 (k : Int), .slice la len lc] W fun e w' => e = .returned (.bool true) ∧ MdS w w' q p S0 D S ∧ Below W.heap.size W w' := by
  have h2 := h
  obtain ⟨T, h1, _⟩ := h
  exact (has_any W h1 k l hh la lb lo len lc hr).mono fun e w' z => ⟨z.1, h2.next z.2, z.2⟩
theorem Mvd.open1 (h : Mvd w W p S0 D) (hrm : Rm 7 D) (k : Int) (he : opnD D k = (D', some S, 0)) :
    Calls Tryz.prog 13 #[.pointer (some ⟨p, 0, none⟩), .int .i64 k] W fun e w' => ∃ q, e = .returned (.tuple #[.pointer (some ⟨q, 0, none⟩), .int .i64 0]) ∧ MdS w w' q p S0 D' S := by
  obtain ⟨S1, h1, h2, h3⟩ := h
  exact (fopen_any W h1 hrm k _ he).mono fun e w' z => by
    obtain ⟨q, T, z1, z2, z3, _, z4⟩ := z
    exact ⟨q, z1, T, z2, fun y hy => (z3 y hy).elim (h2 y) (fun e => .inr (Nat.le_trans h3.size e)), h3.trans z4 (fun x hx ht => (h2 x ht).elim id (fun e => by omega))⟩
theorem Mvd.open0 (h : Mvd w W p S0 D) (hrm : Rm 7 D) (k r : Int) (he : opnD D k = (D', none, r)) :
    Calls Tryz.prog 13 #[.pointer (some ⟨p, 0, none⟩), .int .i64 k] W fun e w' => e = .returned (.tuple #[.pointer none, .int .i64 r]) ∧ Mvd w w' p S0 D' := by
  obtain ⟨S1, h1, h2, h3⟩ := h
  exact (fopen_any W h1 hrm k _ he).mono fun e w' z => ⟨z.1, mvd_join h2 h3 z.2⟩
theorem Mvd.made1 (h : Mvd w W p S0 D) (R : Nat) (hq : Qt R D) (k : Nat) (k1 : 1 ≤ k) (k2 : k ≤ 32) (he : Ext k [] D.L) (hR : 10000 ≤ R) (hR2 : R ≤ 268435456) (ha : D.acts ≤ 1000) (la : Option Addr) (lb lo len lc : Nat) (l : List ByteArray) (hr : RdS w la lb lo len l) (hb : 0 < len → ¬ S0 lb) (hs : Sml l) :
    Calls Tryz.prog 17 #[.pointer (some ⟨p, 0, none⟩), .int .i64 (k : Int), .slice la len lc] W fun e w' => ∃ q D', e = .returned (.pointer (some ⟨q, 0, none⟩)) ∧ MdS w w' q p S0 D' (sA k (itA k l)) ∧ Qt R D' ∧ Ext k (itA k l) D'.L ∧ D'.acts = D.acts + 3 + 6 * len := by
  have hrW := h.rds hr hb
  obtain ⟨S1, h1, h2, h3⟩ := h
  refine (made_any W h1 R hq k k1 k2 he hR hR2 ha la lb lo len lc l hrW (fun h0 hs => ?_) hs).mono fun e w' z => ?_
  · have hlt := hr.lt h0
    exact (h2 lb hs).elim (hb h0) (fun e => by omega)
  · obtain ⟨q, D', z1, ⟨T, g1, g2, g3⟩, z3, z4, z5⟩ := z
    exact ⟨q, D', z1, ⟨T, g1, fun y hy => (g2 y hy).elim (h2 y) (fun e => .inr (Nat.le_trans h3.size e)), h3.trans g3 (fun x hx ht => (h2 x ht).elim id (fun e => by omega))⟩, z3, z4, z5⟩
theorem Mvd.acts1 (h : Mvd w W p S0 D) (n : Nat) (hn : D.acts = n) : Calls Tryz.prog 18 #[.pointer (some ⟨p, 0, none⟩)] W fun e w' => e = .returned (.int .i64 (n : Int)) ∧ w' = W := by
  obtain ⟨S1, h1, _⟩ := h
  rw [← hn]; exact h1.acts
theorem Mvd.down1 (h : Mvd w W p S0 D) (b : Bool) (hb : D.down = b) : Calls Tryz.prog 29 #[.pointer (some ⟨p, 0, none⟩)] W fun e w' => e = .returned (.bool b) ∧ w' = W := by
  obtain ⟨S1, h1, _⟩ := h
  rw [← hb]; exact h1.down
theorem Mvd.size1 (h : Mvd w W p S0 D) (s : ByteArray) (hs : s.size ≤ maxLen) (n : Nat) (hn : sizD D s.data.toList = n) : Calls Tryz.prog 25 #[.pointer (some ⟨p, 0, none⟩), .string s] W fun e w' => e = .returned (.int .i64 (n : Int)) ∧ w' = W := by
  obtain ⟨S1, h1, _⟩ := h
  rw [← hn]; exact h1.size s hs
theorem Mvd.write1 (h : Mvd w W p S0 D) (hr : Rmy D) (nm dt : ByteArray) (hs : nm.size ≤ maxLen) (off : Int) (ho1 : -9223372036854775808 ≤ off) (ho2 : off ≤ 9223372036854775807) (ht : dt.size ≤ 140737488355328) (r : Int) (he : wrD D nm.data.toList off dt.data.toList = (D', r)) :
    Calls Tryz.prog 24 #[.pointer (some ⟨p, 0, none⟩), .string nm, .int .i64 off, .string dt] W fun e w' => e = .returned (.int .i64 r) ∧ Mvd w w' p S0 D' := by
  obtain ⟨S1, h1, h2, h3⟩ := h
  have := h1.write nm dt hs off ho1 ho2 ht hr.1 hr.2.1 (h1.rmy hr _)
  rw [he] at this
  exact this.mono fun e w' z => ⟨z.1, mvd_join h2 h3 z.2⟩
/-- Files: a list of one's own. -/
theorem Mvd.files1 (h : Mvd w W p S0 D) (l : List (List UInt8 × List UInt8)) (he : tell D.L = l) :
    Calls Tryz.prog 21 #[.pointer (some ⟨p, 0, none⟩)] W fun e w' => ∃ ao b c, e = .returned (.slice ao l.length c) ∧ RdF w' ao b 0 l ∧ Below W.heap.size W w' := by
  obtain ⟨S1, h1, _⟩ := h
  rw [← he]
  refine h1.files.mono fun e w' z => ?_
  obtain ⟨v, q1, q2, q3⟩ := z
  obtain ⟨ao, b, c, rfl, q4, _⟩ := ownF_rd q2
  exact ⟨ao, b, c, q1, q4, q3⟩
theorem Mvd.after1 (h : Mvd w W p S0 D) (ao : Option Addr) (b o c : Nat) (ks : List Bool) (hk : RdL W ao b o ks) (hkl : ks.length ≤ 9223372036854775807) (l : List (List UInt8 × List UInt8)) (he : aft ks D.L 0 = l) :
    Calls Tryz.prog 23 #[.pointer (some ⟨p, 0, none⟩), .slice ao ks.length c] W fun e w' => ∃ ao b c, e = .returned (.slice ao l.length c) ∧ RdF w' ao b 0 l ∧ Below W.heap.size W w' := by
  obtain ⟨S1, h1, _⟩ := h
  rw [← he]
  refine (h1.after ao b o c ks hk hkl).mono fun e w' z => ?_
  obtain ⟨v, q1, q2, q3⟩ := z
  obtain ⟨ao, b, c, rfl, q4, _⟩ := ownF_rd q2
  exact ⟨ao, b, c, q1, q4, q3⟩
end
/-- What is synced is told, and stays. -/
theorem all_syn {L : List (List UInt8 × FV)} (h1 : ∀ x ∈ L, x.2.now = x.2.syn) (h2 : ∀ x ∈ L, x.2.gone = false) : L = allS (tell L) ∧ ∀ x ∈ tell L, x.2 ≠ [] := by
  induction L with
  | nil => exact ⟨rfl, by simp [tell]⟩
  | cons y r ih =>
    obtain ⟨s, f⟩ := y
    obtain ⟨i1, i2⟩ := ih (fun x hx => h1 x (List.mem_cons_of_mem _ hx)) (fun x hx => h2 x (List.mem_cons_of_mem _ hx))
    have e1 : f.now = f.syn := h1 (s, f) (by simp)
    have e2 : f.gone = false := h2 (s, f) (by simp)
    have e3 : f.now ≠ [] := fun e => by
      have : f.gone = true := gone_len.2 ⟨by rw [e]; rfl, by rw [← e1, e]; rfl⟩
      rw [this] at e2; cases e2
    rw [tell, if_neg e3]
    refine ⟨?_, fun x hx => ?_⟩
    · show (s, f) :: r = (s, ⟨f.now, f.now⟩) :: allS (tell r)
      rw [← i1]
      congr 2
      cases f
      simp only at e1
      rw [e1]
    · rcases List.mem_cons.1 hx with rfl | hx
      · exact e3
      · exact i2 x hx
theorem Ext.all {k : Nat} {A : List It} {L : List (List UInt8 × FV)} (ho : Ord L) (h : Ext k A L) : L = allS (tell L) ∧ ∀ x ∈ tell L, x.2 ≠ [] := by
  refine all_syn (fun x hx => ?_) ho.2
  have e := fget_mem ho (s := x.1) (f := x.2) hx
  by_cases h1 : x.1 = nmI
  · rw [h1, h.i] at e; rw [← e]
  · by_cases h2 : x.1 = nmN
    · rw [h2, h.n] at e; rw [← e]
    · by_cases h3 : x.1 = nmM
      · rw [h3, h.m] at e; rw [← e]
      · rw [h.oth _ h1 h2 h3] at e; rw [← e]; rfl
theorem Ext.aft {k : Nat} {A : List It} {L : List (List UInt8 × FV)} (ho : Ord L) (h : Ext k A L) (ks : List Bool) : aft ks L 0 = tell L := by
  obtain ⟨e1, e2⟩ := h.all ho
  have := aft_all ks (tell L) 0 e2
  rw [← e1] at this
  exact this
theorem tell_le : ∀ L : List (List UInt8 × FV), (tell L).length ≤ L.length
  | [] => Nat.le_refl _
  | (s, f) :: r => by rw [tell]; have := tell_le r; split <;> simp <;> omega
end Go.Proofs.YthfnpagangjpbaaGreat
