/-
  Own work: FGl, FGw.
-/
import Derived.Test.YthfnpagangjpbabGreatV34
import Derived.Test.YthfnpagangjpbabGreatV52
import Derived.Test.YthfnpagangjpbabGreatV56
namespace Go.Proofs.YthfnpagangjpbabGreat
open Go.RowKit
open Rc
attribute [local go_sem ↓] Go.wp_at_zero Go.wp_at_succ
def Bdk (w0 w : World) (bx : Nat) (k : Int) (p r : Nat) (D : DV) (sv qv : Value) (n : Nat) : Prop := ∃ V T U, w.heap[bx]? = some (.cells #[.int .i64 k, .pointer (some ⟨p, 0, none⟩), .pointer (some ⟨r, 0, none⟩), sv, qv] 37 (0, 0)) ∧ Dsk w p T D ∧ Rsk w r U V ∧ (∀ x, T x → ¬ U x) ∧ ¬ T bx ∧ ¬ U bx ∧ (∀ x, T x → w0.heap.size ≤ x) ∧ (∀ x, U x → w0.heap.size ≤ x) ∧ w0.heap.size ≤ bx ∧ Below w0.heap.size w0 w ∧ Bd D V n
def pts (o : Option Nat) : Value := .pointer (o.map fun q => ⟨q, 0, none⟩)
def Sts (w : World) (p r : Nat) (T U : Nat → Prop) (D : DV) (V : RV) (so : Option (Nat × Nat × SV)) : Prop := match so with
  | none => Dsk w p T D ∧ Rsk w r U V
  | some z => Sk w z.1 p T D z.2.2 ∧ RSk w z.2.1 r U V z.2.2
def Bth (w0 w : World) (bx : Nat) (k : Int) (p r : Nat) (D : DV) (so : Option (Nat × Nat × SV)) (n : Nat) : Prop := ∃ V T U, w.heap[bx]? = some (.cells #[.int .i64 k, .pointer (some ⟨p, 0, none⟩), .pointer (some ⟨r, 0, none⟩), pts (so.map (·.1)), pts (so.map (·.2.1))] 37 (0, 0)) ∧ Sts w p r T U D V so ∧ (∀ x, T x → ¬ U x) ∧ ¬ T bx ∧ ¬ U bx ∧ (∀ x, T x → w0.heap.size ≤ x) ∧ (∀ x, U x → w0.heap.size ≤ x) ∧ w0.heap.size ≤ bx ∧ Below w0.heap.size w0 w ∧ Bd D V n
theorem Mvd.up {w W : World} {p : Nat} {S : Nat → Prop} {D : DV} (h : Mvd w W p S D) : Upo S w W := by
  obtain ⟨_, _, _, h⟩ := h
  exact h
section
variable {w0 w w1 w2 W : World} {bx p r n m : Nat} {k : Int} {D D' : DV} {V : RV} {sv qv : Value} {T U T' U' : Nat → Prop} {so : Option (Nat × Nat × SV)}
theorem Sts.same (h : Sts w p r T U D V so) (hT : ∀ x, T x → W.heap[x]? = w.heap[x]?) (hU : ∀ x, U x → W.heap[x]? = w.heap[x]?) : Sts W p r T U D V so := by
  cases so with
  | none => exact ⟨h.1.same hT, h.2.same hU⟩
  | some z => exact ⟨h.1.same hT, h.2.same hU⟩
theorem Sts.lt (h : Sts w p r T U D V so) : (∀ x, T x → x < w.heap.size) ∧ (∀ x, U x → x < w.heap.size) := by
  cases so with
  | none => exact ⟨fun x hx => h.1.lt hx, fun x hx => h.2.lt hx⟩
  | some z => exact ⟨fun x hx => h.1.lt hx, fun x hx => h.2.lt hx⟩
theorem Bth.next (h : Bth w0 w bx k p r D so n) (hb : Below w.heap.size w W) : Bth w0 W bx k p r D so n := by
  obtain ⟨V, T, U, h1, h2, h3, h4, h5, h6, h7, h8, h9, hA⟩ := h
  have hl := h2.lt
  exact ⟨V, T, U, (hb.block bx (Array.getElem?_eq_some_iff.1 h1).1).trans h1, h2.same (fun x hx => hb.block x (hl.1 x hx)) (fun x hx => hb.block x (hl.2 x hx)), h3, h4, h5, h6, h7, h8, bnext h9 hb, hA⟩
theorem Bth.dk (h : Bth w0 w bx k p r D so n) : Bdk w0 w bx k p r D (pts (so.map (·.1))) (pts (so.map (·.2.1))) n := by
  obtain ⟨V, T, U, h1, h2, h3, h4, h5, h6, h7, h8, h9, hA⟩ := h
  cases so with
  | none => exact ⟨V, T, U, h1, h2.1, h2.2, h3, h4, h5, h6, h7, h8, h9, hA⟩
  | some z =>
    obtain ⟨S0, v, d1, d2, d3, d4, d5⟩ := h2.1
    obtain ⟨U0, g1, g2⟩ := h2.2.disk
    exact ⟨V, S0, U0, h1, d1, g1, fun x hx hu => h3 x ((d5 x).2 (.inl hx)) (g2 x hu), fun q => h4 ((d5 bx).2 (.inl q)), fun q => h5 (g2 bx q), fun x hx => h6 x ((d5 x).2 (.inl hx)), fun x hx => h7 x (g2 x hx), h8, h9, hA⟩
theorem Bth.alike (h : Bth w0 w bx k p r D so n) (W : World) (hW : Below w.heap.size w W) : Calls Tryz.prog 19 #[.pointer (some ⟨bx, 0, none⟩)] W fun e w' => e = .returned (.bool true) ∧ Below W.heap.size W w' := by
  obtain ⟨V, T, U, h1, h2, h3, h4, h5, h6, h7, h8, h9, _, hA⟩ := (h.next hW).dk
  exact alike_any W k _ _ h1 h2 h3 hA
theorem bth_of (hB : w.heap[bx]? = some (.cells #[.int .i64 k, .pointer (some ⟨p, 0, none⟩), .pointer (some ⟨r, 0, none⟩), sv, qv] 37 (0, 0))) (h3 : ∀ x, T x → ¬ U x) (h4 : ¬ T bx) (h5 : ¬ U bx) (h6 : ∀ x, T x → w0.heap.size ≤ x) (h7 : ∀ x, U x → w0.heap.size ≤ x) (h8 : w0.heap.size ≤ bx) (h9 : Below w0.heap.size w0 w) (lU : ∀ x, U x → x < w.heap.size)
    (a2 : ∀ x, T' x → T x ∨ w.heap.size ≤ x) (a3 : Upo T w w1) (lT : ∀ x, T' x → x < w1.heap.size) (b2 : ∀ x, U' x → U x ∨ w1.heap.size ≤ x) (b3 : Upo U w1 w2) :
    w2.heap[bx]? = some (.cells #[.int .i64 k, .pointer (some ⟨p, 0, none⟩), .pointer (some ⟨r, 0, none⟩), sv, qv] 37 (0, 0)) ∧ (∀ x, T' x → ¬ U' x) ∧ ¬ T' bx ∧ ¬ U' bx ∧ (∀ x, T' x → w0.heap.size ≤ x) ∧ (∀ x, U' x → w0.heap.size ≤ x) ∧ Below w0.heap.size w0 w2 ∧ (∀ x, T' x → w2.heap[x]? = w1.heap[x]?) := by
  have hl := (Array.getElem?_eq_some_iff.1 hB).1
  have s1 := a3.size
  have s0 := h9.size
  have tu : ∀ x, T' x → ¬ U x := fun x hx hu => by
    rcases a2 x hx with e | e
    · exact h3 x e hu
    · have := lU x hu; omega
  refine ⟨(b3.block bx (by omega) h5).trans ((a3.block bx hl h4).trans hB), fun x hx hu => ?_, fun q => ?_, fun q => ?_, fun x hx => ?_, fun x hx => ?_, (h9.trans (a3.below s0 h6)).trans (b3.below (Nat.le_trans s0 s1) h7), fun x hx => b3.block x (lT x hx) (tu x hx)⟩
  · rcases b2 x hu with e | e
    · exact tu x hx e
    · have := lT x hx; omega
  · rcases a2 bx q with e | e
    · exact h4 e
    · omega
  · rcases b2 bx q with e | e
    · exact h5 e
    · omega
  · rcases a2 x hx with e | e
    · exact h6 x e
    · omega
  · rcases b2 x hx with e | e
    · exact h7 x e
    · omega
theorem bth_set {a c : Option Nat} (hB : w2.heap[bx]? = some (.cells #[.int .i64 k, .pointer (some ⟨p, 0, none⟩), .pointer (some ⟨r, 0, none⟩), sv, qv] 37 (0, 0))) (hS : Sts w2 p r T U D V so) (hd : ∀ x, T x → ¬ U x) (h4 : ¬ T bx) (h5 : ¬ U bx) (h6 : ∀ x, T x → w0.heap.size ≤ x) (h7 : ∀ x, U x → w0.heap.size ≤ x) (h8 : w0.heap.size ≤ bx) (h9 : Below w0.heap.size w0 w2) (hb : Bd D V n) (ha : so.map (·.1) = a) (hc : so.map (·.2.1) = c) :
    Bth w0 ((w2.setCell ⟨bx, 3, none⟩ (pts a)).setCell ⟨bx, 4, none⟩ (pts c)) bx k p r D so n := by
  have oth : ∀ x, x ≠ bx → ((w2.setCell ⟨bx, 3, none⟩ (pts a)).setCell ⟨bx, 4, none⟩ (pts c)).heap[x]? = w2.heap[x]? := fun x hx => (Below.heap_setCell _ _ _ _ hx).trans (Below.heap_setCell _ _ _ _ hx)
  refine ⟨V, T, U, ?_, hS.same (fun x hx => oth x fun e => h4 (e ▸ hx)) (fun x hx => oth x fun e => h5 (e ▸ hx)), hd, h4, h5, h6, h7, h8, (h9.setCell h8 _).setCell h8 _, hb⟩
  rw [ha, hc]
  exact heap_setCell_same _ bx 4 _ _ _ (heap_setCell_same w2 bx 3 _ _ _ hB)
def OnQ (w0 : World) (bx : Nat) (k : Int) (p r : Nat) (x : DV × Option SV × Int) (n : Nat) (e : Ending) (w' : World) : Prop := e = .returned (.bool true) ∧ ∃ so, Bth w0 w' bx k p r x.1 so n ∧ so.map (·.2.2) = x.2.1
set_option maxRecDepth 100000 in
set_option maxHeartbeats 4000000 in
theorem opens_any (h : Bdk w0 w bx k p r D sv qv n) (hn : n + 6 ≤ 2097152) (k' : Int) (kk : Int) (hkk : (if k' = 0 then k else k') = kk) (x : DV × Option SV × Int) (hx : opnD D kk = x) :
    Calls Tryz.prog 8 #[.pointer (some ⟨bx, 0, none⟩), .int .i64 k'] w (OnQ w0 bx k p r x (n + 6)) := by
  obtain ⟨V, T, U, h1, h2, h3, h4, h5, h6, h7, h8, h9, h10, hb⟩ := h
  have lU : ∀ x, U x → x < w.heap.size := fun x hx => h3.lt hx
  have HP : Hid (Calls Tryz.prog 20 #[.pointer (some ⟨p, 0, none⟩), .int .i64 kk] w (OpQ w p T x)) := fopen_any w h2 hb.rm kk x hx
  have HR : Hid (∀ w1, Upo T w w1 → Calls Tryz.prog 26 #[.pointer (some ⟨r, 0, none⟩), .int .i64 kk] w1 (RopQ w1 r U x (n + 6))) := fun w1 hu => ropen19_any (h3.keep hu fun y hy q => h4 y q hy) hb hn kk x hx
  have HC : Hid (∀ w1, Upo T w w1 → w1.cell? ⟨bx, 2, none⟩ = some (.pointer (some ⟨r, 0, none⟩))) := fun w1 hu => by
    obtain ⟨_, _, z2, _, _⟩ := five_at ((hu.block bx (Array.getElem?_eq_some_iff.1 h1).1 h5).trans h1)
    exact z2
  obtain ⟨c0, c1, c2, c3, c4⟩ := five_at h1
  obtain ⟨D', so', ex⟩ := x
  cases so' with
  | none =>
    have HP2 : Hid (Calls Tryz.prog 20 #[.pointer (some ⟨p, 0, none⟩), .int .i64 kk] w fun e w' => e = .returned (.tuple #[.pointer none, .int .i64 ex]) ∧ Mvd w w' p T D') := HP.out
    have HR2 : Hid (∀ w1, Upo T w w1 → Calls Tryz.prog 26 #[.pointer (some ⟨r, 0, none⟩), .int .i64 kk] w1 fun e w' => e = .returned (.tuple #[.pointer none, .int .i64 ex]) ∧ RDm w1 w' r U D' (n + 6)) := HR.out
    have HZ : Hid (∀ w1 w2, Mvd w w1 p T D' → RDm w1 w2 r U D' (n + 6) → w2.frozen? ⟨bx, 3, none⟩ = false ∧ (w2.setCell ⟨bx, 3, none⟩ (.pointer none)).frozen? ⟨bx, 4, none⟩ = false ∧ Bth w0 ((w2.setCell ⟨bx, 3, none⟩ (.pointer none)).setCell ⟨bx, 4, none⟩ (.pointer none)) bx k p r D' none (n + 6) ∧ w2.cell? ⟨bx, 3, none⟩ = some sv ∧ (w2.setCell ⟨bx, 3, none⟩ (.pointer none)).cell? ⟨bx, 4, none⟩ = some qv) := fun w1 w2 hm hr => by
      obtain ⟨T', a1, a2, a3⟩ := hm
      obtain ⟨V', g1, U', b1, b2, b3⟩ := hr
      obtain ⟨f1, f2, f3, f4, f5, f6, f7, f8⟩ := bth_of h1 h4 h5 h6 h7 h8 h9 h10 lU a2 a3 (fun x hx => a1.lt hx) b2 b3
      have hset := heap_setCell_same w2 bx 3 _ _ (Value.pointer none) f1
      exact ⟨frozen_of_row _ bx 3 _ _ f1, frozen_of_row _ bx 4 _ _ hset, bth_set (a := none) (c := none) f1 ⟨a1.same f8, b1⟩ f2 f3 f4 f5 f6 h9 f7 g1 rfl rfl, (five_at f1).2.2.2.1, by rw [cell_of_row _ bx 4 _ _ (0, 0) hset]; rfl⟩
    have HA : Hid (∀ W, Bth w0 W bx k p r D' none (n + 6) → Calls Tryz.prog 19 #[.pointer (some ⟨bx, 0, none⟩)] W fun e w' => e = .returned (.bool true) ∧ Bth w0 w' bx k p r D' none (n + 6)) := fun W hW => (hW.alike W (Below.refl _ _)).mono fun e w' z => ⟨z.1, hW.next z.2⟩
    clear hx HP HR h1 h2 h3 h4 h5 h6 h7 h8 h9 h10 hb lU c2 c3 c4
    by_cases h0 : k' = 0
    · rw [if_pos h0] at hkk
      subst h0 hkk
      go_enter Tryz.func8, Tryz.ntmps8
      go_upto_region 5 with (first
        | (go_at_call 20; (with_reducible refine HP2.out.mono ?_); rintro e w1 ⟨rfl, t1⟩; have y2 := HC.out _ t1.up)
        | (go_at_call 26; (with_reducible refine (HR2.out _ t1.up).mono ?_); rintro e w2 ⟨rfl, t2⟩))
      obtain ⟨f3, f4, t3, x3, x4⟩ := HZ.out _ _ t1 t2
      go_wp2_with (go_at_call 19; (with_reducible refine (HA.out _ t3).mono ?_); rintro e w5 ⟨rfl, t5⟩)
      go_ret
      exact ⟨rfl, none, t5, rfl⟩
    · rw [if_neg h0] at hkk
      subst hkk
      have hb0 : (k' == 0) = false := by simpa using h0
      clear h0
      go_enter Tryz.func8, Tryz.ntmps8
      go_upto_region 5 with (first
        | (go_at_call 20; (with_reducible refine HP2.out.mono ?_); rintro e w1 ⟨rfl, t1⟩; have y2 := HC.out _ t1.up)
        | (go_at_call 26; (with_reducible refine (HR2.out _ t1.up).mono ?_); rintro e w2 ⟨rfl, t2⟩))
      obtain ⟨f3, f4, t3, x3, x4⟩ := HZ.out _ _ t1 t2
      go_wp2_with (go_at_call 19; (with_reducible refine (HA.out _ t3).mono ?_); rintro e w5 ⟨rfl, t5⟩)
      go_ret
      exact ⟨rfl, none, t5, rfl⟩
  | some S =>
    have HP2 : Hid (Calls Tryz.prog 20 #[.pointer (some ⟨p, 0, none⟩), .int .i64 kk] w fun e w' => ∃ q T', e = .returned (.tuple #[.pointer (some ⟨q, 0, none⟩), .int .i64 ex]) ∧ Sk w' q p T' D' S ∧ (∀ y, T' y → T y ∨ w.heap.size ≤ y) ∧ Upo T w w') := HP.out.mono fun e w' z => by
      obtain ⟨q, T', z1, z2, z3, _, z4⟩ := z
      exact ⟨q, T', z1, z2, z3, z4⟩
    have HR2 : Hid (∀ w1, Upo T w w1 → Calls Tryz.prog 26 #[.pointer (some ⟨r, 0, none⟩), .int .i64 kk] w1 fun e w' => ∃ q, e = .returned (.tuple #[.pointer (some ⟨q, 0, none⟩), .int .i64 ex]) ∧ RSm w1 w' q r U D' S (n + 6)) := fun w1 hu => (HR.out w1 hu).mono fun e w' z => by
      obtain ⟨q, z1, _, z2⟩ := z
      exact ⟨q, z1, z2⟩
    have HZ : Hid (∀ w1 w2 q c T', Sk w1 q p T' D' S → (∀ y, T' y → T y ∨ w.heap.size ≤ y) → Upo T w w1 → RSm w1 w2 c r U D' S (n + 6) → w2.frozen? ⟨bx, 3, none⟩ = false ∧ (w2.setCell ⟨bx, 3, none⟩ (.pointer (some ⟨q, 0, none⟩))).frozen? ⟨bx, 4, none⟩ = false ∧ Bth w0 ((w2.setCell ⟨bx, 3, none⟩ (.pointer (some ⟨q, 0, none⟩))).setCell ⟨bx, 4, none⟩ (.pointer (some ⟨c, 0, none⟩))) bx k p r D' (some (q, c, S)) (n + 6) ∧ w2.cell? ⟨bx, 3, none⟩ = some sv ∧ (w2.setCell ⟨bx, 3, none⟩ (.pointer (some ⟨q, 0, none⟩))).cell? ⟨bx, 4, none⟩ = some qv) := fun w1 w2 q c T' a1 a2 a3 hr => by
      obtain ⟨V', U', g1, b1, b2, b3⟩ := hr
      obtain ⟨f1, f2, f3, f4, f5, f6, f7, f8⟩ := bth_of h1 h4 h5 h6 h7 h8 h9 h10 lU a2 a3 (fun x hx => a1.lt hx) b2 b3
      have hset := heap_setCell_same w2 bx 3 _ _ (Value.pointer (some ⟨q, 0, none⟩)) f1
      exact ⟨frozen_of_row _ bx 3 _ _ f1, frozen_of_row _ bx 4 _ _ hset, bth_set (so := some (q, c, S)) (a := some q) (c := some c) f1 ⟨a1.same f8, b1⟩ f2 f3 f4 f5 f6 h9 f7 g1 rfl rfl, (five_at f1).2.2.2.1, by rw [cell_of_row _ bx 4 _ _ (0, 0) hset]; rfl⟩
    have HA : Hid (∀ W q c, Bth w0 W bx k p r D' (some (q, c, S)) (n + 6) → Calls Tryz.prog 19 #[.pointer (some ⟨bx, 0, none⟩)] W fun e w' => e = .returned (.bool true) ∧ Bth w0 w' bx k p r D' (some (q, c, S)) (n + 6)) := fun W q c hW => (hW.alike W (Below.refl _ _)).mono fun e w' z => ⟨z.1, hW.next z.2⟩
    clear hx HP HR h1 h2 h3 h4 h5 h6 h7 h8 h9 h10 hb lU c2 c3 c4
    by_cases h0 : k' = 0
    · rw [if_pos h0] at hkk
      subst h0 hkk
      go_enter Tryz.func8, Tryz.ntmps8
      go_upto_region 5 with (first
        | (go_at_call 20; (with_reducible refine HP2.out.mono ?_); rintro e w1 ⟨q, T', rfl, a1, a2, a3⟩; have y2 := HC.out _ a3)
        | (go_at_call 26; (with_reducible refine (HR2.out _ a3).mono ?_); rintro e w2 ⟨c, rfl, t2⟩))
      obtain ⟨f3, f4, t3, x3, x4⟩ := HZ.out _ _ _ _ _ a1 a2 a3 t2
      go_wp2_with (go_at_call 19; (with_reducible refine (HA.out _ _ _ t3).mono ?_); rintro e w5 ⟨rfl, t5⟩)
      go_ret
      exact ⟨rfl, some (q, c, S), t5, rfl⟩
    · rw [if_neg h0] at hkk
      subst hkk
      have hb0 : (k' == 0) = false := by simpa using h0
      clear h0
      go_enter Tryz.func8, Tryz.ntmps8
      go_upto_region 5 with (first
        | (go_at_call 20; (with_reducible refine HP2.out.mono ?_); rintro e w1 ⟨q, T', rfl, a1, a2, a3⟩; have y2 := HC.out _ a3)
        | (go_at_call 26; (with_reducible refine (HR2.out _ a3).mono ?_); rintro e w2 ⟨c, rfl, t2⟩))
      obtain ⟨f3, f4, t3, x3, x4⟩ := HZ.out _ _ _ _ _ a1 a2 a3 t2
      go_wp2_with (go_at_call 19; (with_reducible refine (HA.out _ _ _ t3).mono ?_); rintro e w5 ⟨rfl, t5⟩)
      go_ret
      exact ⟨rfl, some (q, c, S), t5, rfl⟩
end
end Go.Proofs.YthfnpagangjpbabGreat
namespace Go.Proofs.YthfnpagangjpbabGreat
open Go.RowKit
open Rc
attribute [local go_sem ↓] Go.wp_at_zero Go.wp_at_succ
attribute [local go_sem ↓] exec_appR
abbrev LF := List (List UInt8 × List UInt8)
section
variable {w0 w : World} {bx p r n : Nat} {k : Int} {D : DV} {a c : Nat} {S : SV}
theorem Bth.cells (h : Bth w0 w bx k p r D (some (a, c, S)) n) (W : World) (hW : Below w.heap.size w W) : W.cell? ⟨bx, 3, none⟩ = some (.pointer (some ⟨a, 0, none⟩)) ∧ W.cell? ⟨bx, 4, none⟩ = some (.pointer (some ⟨c, 0, none⟩)) := by
  obtain ⟨V, T, U, h1, _⟩ := h.next hW
  obtain ⟨_, _, _, z3, z4⟩ := five_at h1
  exact ⟨z3, z4⟩
theorem Bth.item (h : Bth w0 w bx k p r D (some (a, c, S)) n) (W : World) (hW : Below w.heap.size w W) (i : Nat) (hi : i < 18446744073709551616) (t : ByteArray) (e : Int) (ht : tx (itmD D S i).1 = t) (he : (itmD D S i).2 = e) :
    (Calls Tryz.prog 10 #[.pointer (some ⟨a, 0, none⟩), .int .u64 (i : Int)] W fun e' w' => e' = .returned (.tuple #[.string t, .int .i64 e]) ∧ Below W.heap.size W w') ∧ Calls Tryz.prog 11 #[.pointer (some ⟨c, 0, none⟩), .int .u64 (i : Int)] W fun e' w' => e' = .returned (.tuple #[.string t, .int .i64 e]) ∧ Below W.heap.size W w' := by
  obtain ⟨V, T, U, h1, h2, h3, h4, h5, h6, h7, h8, h9, hA⟩ := h.next hW
  exact ⟨item_any W h2.1 i hi t e ht he, ritem_any h2.2 hA i hi t e ht he⟩
theorem Bth.node (h : Bth w0 w bx k p r D (some (a, c, S)) n) (W : World) (hW : Below w.heap.size w W) (i : Nat) (hi : i < 18446744073709551616) (t : ByteArray) (e : Int) (ht : tx (nodD D S i).1 = t) (he : (nodD D S i).2 = e) :
    (Calls Tryz.prog 12 #[.pointer (some ⟨a, 0, none⟩), .int .u64 (i : Int)] W fun e' w' => e' = .returned (.tuple #[.string t, .int .i64 e]) ∧ Below W.heap.size W w') ∧ Calls Tryz.prog 13 #[.pointer (some ⟨c, 0, none⟩), .int .u64 (i : Int)] W fun e' w' => e' = .returned (.tuple #[.string t, .int .i64 e]) ∧ Below W.heap.size W w' := by
  obtain ⟨V, T, U, h1, h2, h3, h4, h5, h6, h7, h8, h9, hA⟩ := h.next hW
  exact ⟨fnode_any W h2.1 i hi t e ht he, rnode19_any h2.2 hA i hi t e ht he⟩
theorem Bth.sizes (h : Bth w0 w bx k p r D (some (a, c, S)) n) (W : World) (hW : Below w.heap.size w W) :
    (Calls Tryz.prog 14 #[.pointer (some ⟨a, 0, none⟩)] W fun e' w' => e' = .returned (.int .u64 (S.ends.length : Int)) ∧ w' = W) ∧ (Calls Tryz.prog 9 #[.pointer (some ⟨c, 0, none⟩)] W fun e' w' => e' = .returned (.int .u64 (S.ends.length : Int)) ∧ w' = W) ∧ (Calls Tryz.prog 15 #[.pointer (some ⟨a, 0, none⟩)] W fun e' w' => e' = .returned (.bool S.lame) ∧ w' = W) ∧ (Calls Tryz.prog 43 #[.pointer (some ⟨c, 0, none⟩)] W fun e' w' => e' = .returned (.bool S.lame) ∧ w' = W) ∧ S.ends.length ≤ 65536 := by
  obtain ⟨V, T, U, h1, h2, h3, h4, h5, h6, h7, h8, h9, hA⟩ := h.next hW
  exact ⟨fsize_any W h2.1, rsize19_any h2.2 W (Below.refl _ _), flame_any W h2.1, rlame19_any h2.2 W (Below.refl _ _), h2.1.small.2.2.1⟩
end
end Go.Proofs.YthfnpagangjpbabGreat
