/-
  The laws' act. Own work.
-/
import Derived.Test.YtmhedhhbdpdafaaDLawA
namespace Go.Proofs.Ytmhedhhbdpdafaa
open Go.RowKit
/-- An Op. -/
structure OpV where
  kind : Int
  which : Int
  name : ByteArray
  data : ByteArray
  at_ : Int
  n : Int
  ka : Option Addr
  kc : Nat
  kb : Nat
  ko : Nat
  keep : List Bool
/-- Its value. -/
def OpV.val (o : OpV) : Value := .agg #[.int .i64 o.kind, .int .i64 o.which, .string o.name, .string o.data, .int .i64 o.at_, .int .i64 o.n, .slice o.ka o.keep.length o.kc]
/-- Its cells. -/
def OpV.cells (o : OpV) : Array Value := #[.int .i64 o.kind, .int .i64 o.which, .string o.name, .string o.data, .int .i64 o.at_, .int .i64 o.n, .slice o.ka o.keep.length o.kc]
/-- act. -/
def actO (D : DV) (kind : Int) (s : List UInt8) (x : Int) (t : List UInt8) : DV × Int :=
  if kind = 1 then wrD D s x (t.take 300) else if kind = 2 then cutD D s x else synD D s
section
variable {p : Nat} {S : Nat → Prop} {D : DV}
theorem Mvd.next {w w1 w' : World} {D' : DV} (hb : Below w.heap.size w w1) (h : Mvd w1 w' p S D') : Mvd w w' p S D' := by
  obtain ⟨S', h1, h2, h3⟩ := h
  exact ⟨S', h1, fun x hx => (h2 x hx).imp id (fun q => Nat.le_trans hb.size q), (Upo.of hb).trans h3 (fun _ _ q => q)⟩
set_option maxRecDepth 100000 in
set_option maxHeartbeats 1000000 in
theorem lact_any (w : World) (h : Dsk w p S D) (kind which x n : Int) (nm dt : ByteArray) (ka : Option Addr) (kn kc : Nat) (hs : nm.size ≤ maxLen) (ho1 : -9223372036854775808 ≤ x) (ho2 : x ≤ 9223372036854775807) (hac : D.acts + 1 ≤ 4611686018427387904) (hcnt : D.L.length < 1099511627776) (hfr : D.down = false → D.free + (fget D.L nm.data.toList).now.length ≤ 9223372036854775807) :
    Calls Try.prog 23 #[.pointer (some ⟨p, 0, none⟩), .agg #[.int .i64 kind, .int .i64 which, .string nm, .string dt, .int .i64 x, .int .i64 n, .slice ka kn kc]] w fun e w' => e = .returned (.int .i64 (actO D kind nm.data.toList x dt.data.toList).2) ∧ Mvd w w' p S (actO D kind nm.data.toList x dt.data.toList).1 := by
  obtain ⟨w1, hw1⟩ : ∃ W, w.alloc (.cells #[.int .i64 kind, .int .i64 which, .string nm, .string dt, .int .i64 x, .int .i64 n, .slice ka kn kc] 30) = W := ⟨_, rfl⟩
  have HW : Hid (w.alloc (.cells #[.int .i64 kind, .int .i64 which, .string nm, .string dt, .int .i64 x, .int .i64 n, .slice ka kn kc] 30) = w1) := hw1
  have hb : Below w.heap.size w w1 := by rw [← hw1]; exact bal (Below.refl _ _) _
  have k1 : w1.heap[w.heap.size]? = some (.cells #[.int .i64 kind, .int .i64 which, .string nm, .string dt, .int .i64 x, .int .i64 n, .slice ka kn kc] 30 (0, 0)) := by rw [← hw1]; exact new1 _ _
  have d0 : w1.cell? ⟨w.heap.size, 0, none⟩ = some (.int .i64 kind) := by rw [cell_of_row w1 _ 0 _ _ (0, 0) k1]; rfl
  have d2 : w1.cell? ⟨w.heap.size, 2, none⟩ = some (.string nm) := by rw [cell_of_row w1 _ 2 _ _ (0, 0) k1]; rfl
  have d3 : w1.cell? ⟨w.heap.size, 3, none⟩ = some (.string dt) := by rw [cell_of_row w1 _ 3 _ _ (0, 0) k1]; rfl
  have d4 : w1.cell? ⟨w.heap.size, 4, none⟩ = some (.int .i64 x) := by rw [cell_of_row w1 _ 4 _ _ (0, 0) k1]; rfl
  obtain ⟨t3, ht3⟩ : ∃ t : ByteArray, (⟨(dt.data.toList.take 300).toArray⟩ : ByteArray) = t := ⟨_, rfl⟩
  have e3 : t3.data.toList = dt.data.toList.take 300 := by rw [← ht3]
  have z3 : t3.size ≤ 300 := by rw [← size_list, e3, List.length_take]; omega
  have hE : actO D kind nm.data.toList x dt.data.toList = if kind = 1 then wrD D nm.data.toList x t3.data.toList else if kind = 2 then cutD D nm.data.toList x else synD D nm.data.toList := by rw [actO, e3]
  have HE := hide hE
  have HS : Hid (∀ W, Calls Try.prog 12 #[.string dt, .int .i64 300] W fun e w' => e = .returned (.string t3) ∧ w' = W) := fun W => by
    have := short_any W dt 300 (by omega)
    rw [ht3] at this
    exact this
  have HWr : Hid (∀ W, Below w1.heap.size w1 W → Calls Try.prog 13 #[.pointer (some ⟨p, 0, none⟩), .string nm, .int .i64 x, .string t3] W fun e w' => e = .returned (.int .i64 (wrD D nm.data.toList x t3.data.toList).2) ∧ Mvd w w' p S (wrD D nm.data.toList x t3.data.toList).1 ∧ w'.cell? ⟨w.heap.size, 2, none⟩ = some (.string nm) ∧ w'.cell? ⟨w.heap.size, 3, none⟩ = some (.string dt) ∧ w'.cell? ⟨w.heap.size, 4, none⟩ = some (.int .i64 x)) := fun W hW =>
    ((h.next (bnext hb hW)).write nm t3 hs x ho1 ho2 (by omega) hac hcnt hfr).mono fun e w' q => by
      have hlt := (Array.getElem?_eq_some_iff.1 k1).1
      obtain ⟨S', q1, q2, q3⟩ := q.2
      have kk := (q3.block w.heap.size (by have := hW.size; omega) (fun e => by have := h.lt e; omega)).trans ((hW.block w.heap.size hlt).trans k1)
      refine ⟨q.1, q.2.next (bnext hb hW), ?_, ?_, ?_⟩
      · rw [cell_of_row w' _ 2 _ _ (0, 0) kk]; rfl
      · rw [cell_of_row w' _ 3 _ _ (0, 0) kk]; rfl
      · rw [cell_of_row w' _ 4 _ _ (0, 0) kk]; rfl
  have HCt : Hid (Calls Try.prog 14 #[.pointer (some ⟨p, 0, none⟩), .string nm, .int .i64 x] w1 fun e w' => e = .returned (.int .i64 (cutD D nm.data.toList x).2) ∧ Mvd w w' p S (cutD D nm.data.toList x).1) :=
    ((h.next hb).cut nm hs x ho1 ho2 hac hcnt hfr).mono fun e w' q => ⟨q.1, q.2.next hb⟩
  have HSy : Hid (Calls Try.prog 15 #[.pointer (some ⟨p, 0, none⟩), .string nm] w1 fun e w' => e = .returned (.int .i64 (synD D nm.data.toList).2) ∧ Mvd w w' p S (synD D nm.data.toList).1) :=
    ((h.next hb).sync nm hs hac hcnt hfr).mono fun e w' q => ⟨q.1, q.2.next hb⟩
  clear h hs hac hcnt hfr hw1 hb k1 e3 z3 hE ht3
  go_enter Try.func23, Try.ntmps23
  go_upto_region 1 with (fail)
  rw [HW.out]
  by_cases k1 : kind = 1
  · subst k1
    have HE2 : Hid (actO D 1 nm.data.toList x dt.data.toList = wrD D nm.data.toList x t3.data.toList) := HE.out.trans (if_pos rfl)
    have HW1 := hide (HWr.out w1.drew (below_drewN (Below.refl _ _) 1))
    clear HE HCt HSy HWr
    go_upto_region 3 with (fail)
    go_region_held3 (fun Z => Z.cell? ⟨w.heap.size, 2, none⟩ = some (.string nm) ∧ Z.cell? ⟨w.heap.size, 3, none⟩ = some (.string dt) ∧ Z.cell? ⟨w.heap.size, 4, none⟩ = some (.int .i64 x)) (first | assumption | (exact ⟨d2, d3, d4⟩) | (exact hc3)) (first
      | (go_at_call 12; (with_reducible refine (HS.out _).mono ?_); rintro e w2 ⟨rfl, rfl⟩)
      | (go_at_call 13; (with_reducible refine HW1.out.mono ?_); rintro e w3 ⟨rfl, hm, hc3⟩))
    go_wp2
    go_ret
    rw [HE2.out]
    exact ⟨rfl, hm⟩
  by_cases k2 : kind = 2
  · subst k2
    have HE2 : Hid (actO D 2 nm.data.toList x dt.data.toList = cutD D nm.data.toList x) := HE.out
    clear HE HWr HSy HS
    go_wp2_with (go_at_call 14; (with_reducible refine HCt.out.mono ?_); rintro e w3 ⟨rfl, hm⟩)
    go_ret
    rw [HE2.out]
    exact ⟨rfl, hm⟩
  · have HE2 : Hid (actO D kind nm.data.toList x dt.data.toList = synD D nm.data.toList) := HE.out.trans ((if_neg k1).trans (if_neg k2))
    have k1' : (kind == 1) = false := by simpa using k1
    have k2' : (kind == 2) = false := by simpa using k2
    clear HE HWr HCt HS
    go_wp2_with (go_at_call 15; (with_reducible refine HSy.out.mono ?_); rintro e w3 ⟨rfl, hm⟩)
    go_ret
    rw [HE2.out]
    exact ⟨rfl, hm⟩
end
end Go.Proofs.Ytmhedhhbdpdafaa
