/-
  Calls out of a script: a script in memory, does. Own work.
-/
import Derived.Test.YtncndefggegicaaDoorKAlive
namespace Go.Proofs.YtncndefggegicaaDoor
open Go.RowKit
attribute [local go_sem ↓] Go.wp_at_zero Go.wp_at_succ
/-- One call of a script. -/
structure OpV where
  kind : Int
  which : Int
  h : Int
  s : ByteArray
  r : Bool
instance : Inhabited OpV := ⟨⟨0, 0, 0, ByteArray.empty, false⟩⟩
/-- A script that can be read. -/
structure RdO (w : World) (ao : Option Addr) (b off len : Nat) (l : Nat → OpV) : Prop where
  ptr : 0 < len → ao = some ⟨b, off, none⟩
  cell : ∀ j, j < len → w.cell? ⟨b, off + (j * 5 + 0), none⟩ = some (.int .i64 (l j).kind) ∧ w.cell? ⟨b, off + (j * 5 + 1), none⟩ = some (.int .i64 (l j).which) ∧ w.cell? ⟨b, off + (j * 5 + 2), none⟩ = some (.int .i64 (l j).h) ∧ w.cell? ⟨b, off + (j * 5 + 3), none⟩ = some (.string (l j).s) ∧ w.cell? ⟨b, off + (j * 5 + 4), none⟩ = some (.bool (l j).r) ∧ (l j).s.size ≤ 140737488351232
theorem RdO.next {w W : World} {ao : Option Addr} {b off len : Nat} {l : Nat → OpV} (h : RdO w ao b off len l) (hb : Below w.heap.size w W) : RdO W ao b off len l := by
  refine ⟨h.ptr, fun j hj => ?_⟩
  obtain ⟨h0, h1, h2, h3, h4, h5⟩ := h.cell j hj
  have hlt : b < w.heap.size := World.block_lt_of_cell? _ _ h0
  exact ⟨(hb.cell (p := ⟨b, _, none⟩) hlt).trans h0, (hb.cell (p := ⟨b, _, none⟩) hlt).trans h1, (hb.cell (p := ⟨b, _, none⟩) hlt).trans h2, (hb.cell (p := ⟨b, _, none⟩) hlt).trans h3, (hb.cell (p := ⟨b, _, none⟩) hlt).trans h4, h5⟩
/-- A call's five cells, its place as a letter. -/
theorem RdO.five {w : World} {ao : Option Addr} {b off len : Nat} {l : Nat → OpV} (h : RdO w ao b off len l) {j : Nat} (hj : j < len) {a : Nat} (ha : off + j * 5 = a) :
    w.cell? ⟨b, a, none⟩ = some (.int .i64 (l j).kind) ∧ w.cell? ⟨b, a + 1, none⟩ = some (.int .i64 (l j).which) ∧ w.cell? ⟨b, a + 2, none⟩ = some (.int .i64 (l j).h) ∧ w.cell? ⟨b, a + 3, none⟩ = some (.string (l j).s) ∧ w.cell? ⟨b, a + 4, none⟩ = some (.bool (l j).r) := by
  obtain ⟨h0, h1, h2, h3, h4, _⟩ := h.cell j hj
  subst ha
  exact ⟨h0, h1, h2, h3, h4⟩
/-- The height and the text that a call brings. -/
def opH (o : OpV) : Int := if Int.tmod o.kind 2 = 0 then o.h else 0
def opS (o : OpV) (K : Int) : ByteArray := if o.r = true then padS o.s K.toNat else o.s
def opA (K : Int) (n : Nat) (P : List ByteArray) (o : OpV) : List ByteArray := if Int.tmod o.kind 2 = 0 then [] else an K n P (opH o) (opS o K)
theorem opS_size (o : OpV) {K : Int} (k2 : K ≤ 32) (h : o.s.size ≤ 140737488351232) : (opS o K).size ≤ 140737488351232 := by
  unfold opS
  split
  · rw [padS_size]; omega
  · exact h
theorem an_size {K : Int} {n : Nat} {P : List ByteArray} (h : Int) (s : ByteArray) (k1 : 1 ≤ K) (k2 : K ≤ 32) (hP : ∀ x ∈ P, x.size = clk K) : (∀ x ∈ an K n P h s, x.size ≤ 140737488351232) ∧ (an K n P h s).length ≤ 1000 := by
  unfold an
  split
  · rename_i e
    have hc := clk_of k1 k2
    have hs : s.size = clk K := by have := (er_ok e).1; omega
    refine ⟨fun x hx => ?_, ?_⟩
    · rw [(carry_size (clk_le K) _ _ _ _ hP hs).1 x hx]; have := clk_le K; omega
    · have := (carry_made (clk K) (40 - h.toNat) (n / 2 ^ h.toNat) P s).1
      rw [mk]; omega
  · exact ⟨(fun x hx => by cases hx), by simp⟩
theorem opA_size {K : Int} {n : Nat} {P : List ByteArray} (o : OpV) (k1 : 1 ≤ K) (k2 : K ≤ 32) (hP : ∀ x ∈ P, x.size = clk K) : (∀ x ∈ opA K n P o, x.size ≤ 140737488351232) ∧ (opA K n P o).length ≤ 1000 := by
  unfold opA
  split
  · exact ⟨(fun x hx => by cases hx), by simp⟩
  · exact an_size _ _ k1 k2 hP
set_option maxRecDepth 100000 in
set_option maxHeartbeats 1000000 in
theorem does_any (w : World) (ht : Tb w) (p : Nat) (v : Value) (K : Int) (n : Nat) (P : List ByteArray) (hr : Rg w p v K n P) (o : OpV) (ho : o.s.size ≤ 140737488351232) (e0 n' : Nat) (P' A : List ByteArray)
    (he : Hid (er K n (opH o) (opS o K) = e0 ∧ nxN K n (opH o) (opS o K) = n' ∧ nxP K n P (opH o) (opS o K) = P' ∧ opA K n P o = A)) :
    Calls Tryd.prog 19 #[.pointer (some ⟨p, 0, none⟩), .agg #[.int .i64 o.kind, .int .i64 o.which, .int .i64 o.h, .string o.s, .bool o.r], .int .i64 K] w fun e w' => ∃ vm v', e = .returned (.tuple #[vm, .int .i64 (e0 : Int)]) ∧ Did w w' p v K n' P' vm A v' := by
  obtain ⟨kd, wh, h, s, r⟩ := o
  obtain ⟨q1, q2, q3, q4⟩ := he.out
  obtain ⟨d, hd⟩ : ∃ d, opS ⟨kd, wh, h, s, r⟩ K = d := ⟨_, rfl⟩
  rw [hd] at q1 q2 q3
  have hR := hide hr
  have hkk : (K.toNat : Int) = K := Int.toNat_of_nonneg (by have := hr.k1; omega)
  have HD : Hid (∀ W, Calls Tryd.prog 11 #[.string s, .int .i64 K] W fun e w' => e = .returned (.string (padS s K.toNat)) ∧ Below W.heap.size W w') := fun W => by
    have := digest_any W s ho K.toNat (by have := hr.k2; omega) _ rfl
    rw [hkk] at this
    exact this
  have lift : Hid (∀ {W W' : World} {vm v' : Value} {B : List ByteArray}, Below w.heap.size w W → Did W W' p v K n' P' vm B v' → Did w W' p v K n' P' vm B v') := fun {W W'} {vm v'} {B} hb hD =>
    ⟨hD.rg, own_mono hD.own hb.size, (Ch.of hb hR.out.lt).trans hD.ch, hD.new.imp id (fun f g hg => Nat.le_trans hb.size (f g hg)), hD.apart⟩
  have hb0 := Below.refl w.heap.size w
  by_cases hkd : Int.tmod kd 2 = 0
  · have e1 : opH ⟨kd, wh, h, s, r⟩ = h := by simp only [opH, if_pos hkd]
    have e2 : opA K n P ⟨kd, wh, h, s, r⟩ = [] := by simp only [opA, if_pos hkd]
    rw [e1] at q1 q2 q3
    rw [e2] at q4
    subst q4
    obtain ⟨A1, hA1⟩ : ∃ A1, an K n P h d = A1 := ⟨_, rfl⟩
    have HJ : Hid (∀ W, Below w.heap.size w W → Calls Tryd.prog 22 #[.pointer (some ⟨p, 0, none⟩), .int .i64 h, .string d] W fun e w' => ∃ vm v', e = .returned (.int .i64 (e0 : Int)) ∧ Did W w' p v K n' P' vm A1 v') := fun W hb =>
      join_any W (ht.next hb) p v K n P (hr.next hb (Nat.le_refl _)) h d e0 n' P' A1 ⟨q1, q2, q3, hA1⟩
    have hz : (Int.tmod kd 2 == 0) = true := by rw [hkd]; rfl
    cases r with
    | false =>
      have e3 : s = d := by rw [← hd]; simp [opS]
      subst e3
      clear he q1 q2 q3 hd e1 e2 hA1 HD ht hr hkk ho hkd
      go_enter Tryd.func19, Tryd.ntmps19
      go_wp2_with (go_at_call 22; with_reducible refine (HJ.out _ (bal hb0 _)).mono ?_; rintro e w1 ⟨vm, v', rfl, hD⟩)
      go_ret2
      have h2 := lift.out (bal hb0 _) hD
      exact ⟨_, v', rfl, ⟨h2.rg, owns_nil _ _, h2.ch, h2.new, fun g hg _ => by cases hg⟩⟩
    | true =>
      have e3 : padS s K.toNat = d := by rw [← hd]; simp [opS]
      rw [e3] at HD
      clear he q1 q2 q3 hd e1 e2 e3 hA1 ht hr hkk ho hkd
      go_enter Tryd.func19, Tryd.ntmps19
      go_wp2_with (first
        | (go_at_call 11; with_reducible refine (HD.out _).mono ?_; rintro e w1 ⟨rfl, hb1⟩; have c0 := hb1.cell (p := ⟨w.heap.size, 0, none⟩) (by simp); have c2 := hb1.cell (p := ⟨w.heap.size, 2, none⟩) (by simp); rw [World.cell?_alloc_new] at c0 c2; replace hb0 := bnext (bal hb0 _) hb1; clear hb1)
        | (go_at_call 22; with_reducible refine (HJ.out _ hb0).mono ?_; rintro e w2 ⟨vm, v', rfl, hD⟩))
      go_ret2
      have h2 := lift.out hb0 hD
      exact ⟨_, v', rfl, ⟨h2.rg, owns_nil _ _, h2.ch, h2.new, fun g hg _ => by cases hg⟩⟩
  · have e1 : opH ⟨kd, wh, h, s, r⟩ = 0 := by simp only [opH, if_neg hkd]
    have e2 : opA K n P ⟨kd, wh, h, s, r⟩ = an K n P 0 d := by simp only [opA, if_neg hkd, e1, hd]
    rw [e1] at q1 q2 q3
    rw [e2] at q4
    have HJ : Hid (∀ W, Below w.heap.size w W → Calls Tryd.prog 15 #[.pointer (some ⟨p, 0, none⟩), .string d] W fun e w' => ∃ vm v', e = .returned (.tuple #[vm, .int .i64 (e0 : Int)]) ∧ Did W w' p v K n' P' vm A v') := fun W hb =>
      add_any W (ht.next hb) p v K n P (hr.next hb (Nat.le_refl _)) d e0 n' P' A ⟨q1, q2, q3, q4⟩
    have hz : (Int.tmod kd 2 == 0) = false := by simpa using hkd
    cases r with
    | false =>
      have e3 : s = d := by rw [← hd]; simp [opS]
      subst e3
      clear he q1 q2 q3 q4 hd e1 e2 HD ht hr hkk ho hkd
      go_enter Tryd.func19, Tryd.ntmps19
      go_wp2_with (go_at_call 15; with_reducible refine (HJ.out _ (bal hb0 _)).mono ?_; rintro e w1 ⟨vm, v', rfl, hD⟩)
      go_ret2
      exact ⟨_, v', rfl, lift.out (bal hb0 _) hD⟩
    | true =>
      have e3 : padS s K.toNat = d := by rw [← hd]; simp [opS]
      rw [e3] at HD
      clear he q1 q2 q3 q4 hd e1 e2 e3 ht hr hkk ho hkd
      go_enter Tryd.func19, Tryd.ntmps19
      go_wp2_with (first
        | (go_at_call 11; with_reducible refine (HD.out _).mono ?_; rintro e w1 ⟨rfl, hb1⟩; have c0 := hb1.cell (p := ⟨w.heap.size, 0, none⟩) (by simp); have c2 := hb1.cell (p := ⟨w.heap.size, 2, none⟩) (by simp); rw [World.cell?_alloc_new] at c0 c2; replace hb0 := bnext (bal hb0 _) hb1; clear hb1)
        | (go_at_call 15; with_reducible refine (HJ.out _ hb0).mono ?_; rintro e w2 ⟨vm, v', rfl, hD⟩))
      go_ret2
      exact ⟨_, v', rfl, lift.out hb0 hD⟩
end Go.Proofs.YtncndefggegicaaDoor
