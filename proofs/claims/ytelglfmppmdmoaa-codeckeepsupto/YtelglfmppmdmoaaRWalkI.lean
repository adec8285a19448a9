/-
  Walks of the reference of codec: what read's walk needs. Own work.
-/
import Derived.Test.YtelglfmppmdmoaaCoRead
namespace Go.Proofs.Ytelglfmppmdmoaa
open Go.RowKit
attribute [local go_sem ↓] Go.wp_at_zero Go.wp_at_succ
/-- A reader that lies somewhere. -/
def Tri (w : World) (s : Nat) (T : ByteArray) (a e : Nat) : Prop := w.heap[s]? = some (.cells #[.string T, .int .i64 (a : Int), .int .i64 (e : Int)] 89 (0, 0))
theorem Tri.cells {w : World} {s a e : Nat} {T : ByteArray} (h : Tri w s T a e) : w.cell? ⟨s, 0, none⟩ = some (.string T) ∧ w.cell? ⟨s, 1, none⟩ = some (.int .i64 (a : Int)) ∧ w.cell? ⟨s, 2, none⟩ = some (.int .i64 (e : Int)) :=
  ⟨by rw [cell_of_row w s 0 _ _ (0, 0) h]; rfl, by rw [cell_of_row w s 1 _ _ (0, 0) h]; rfl, by rw [cell_of_row w s 2 _ _ (0, 0) h]; rfl⟩
theorem Tri.fz {w : World} {s a e : Nat} {T : ByteArray} (h : Tri w s T a e) (j : Nat) : w.frozen? ⟨s, j, none⟩ = false := frozen_of_row w s j _ _ h
theorem Tri.lt {w : World} {s a e : Nat} {T : ByteArray} (h : Tri w s T a e) : s < w.heap.size := (Array.getElem?_eq_some_iff.1 h).1
theorem Tri.same {w W : World} {s a e : Nat} {T : ByteArray} (h : Tri w s T a e) (hb : W.heap[s]? = w.heap[s]?) : Tri W s T a e := hb.trans h
theorem Tri.next {w W : World} {s a e : Nat} {T : ByteArray} (h : Tri w s T a e) (hb : Below w.heap.size w W) : Tri W s T a e := h.same (hb.block s h.lt)
theorem tri_new (w : World) (T : ByteArray) (a e : Nat) : Tri (w.alloc (.cells #[.string T, .int .i64 (a : Int), .int .i64 (e : Int)] 89)) w.heap.size T a e := heap_alloc_new w _
/-- A reader is stored. -/
def put3 (w : World) (s : Nat) (T : ByteArray) (a e : Nat) : World := ((w.setCell ⟨s, 0, none⟩ (.string T)).setCell ⟨s, 1, none⟩ (.int .i64 (a : Int))).setCell ⟨s, 2, none⟩ (.int .i64 (e : Int))
theorem Tri.put {w : World} {s a e : Nat} {T : ByteArray} (h : Tri w s T a e) (T' : ByteArray) (a' e' : Nat) : Tri (put3 w s T' a' e') s T' a' e' := by
  have h1 := heap_setCell_same w s 0 _ _ (.string T') h
  have h2 := heap_setCell_same _ s 1 _ _ (.int .i64 (a' : Int)) h1
  exact heap_setCell_same _ s 2 _ _ (.int .i64 (e' : Int)) h2
theorem put3_ch (w : World) (s : Nat) (T : ByteArray) (a e : Nat) : ChT (fun x => x = s) w (put3 w s T a e) :=
  (((ChT.refl (fun x => x = s) w).set s 0 (.string T) rfl).set s 1 (.int .i64 (a : Int)) rfl).set s 2 (.int .i64 (e : Int)) rfl
/-- Where read stands: the answer's place, the proof that it fills, the reader. -/
structure RS (w wr : World) (T : ByteArray) (a e : Nat) (kd k : Int) (old size : Nat) (sv dv : Value) : Prop where
  res : Six wr w.heap.size (.int .i64 0) (.int .i64 0) (.int .u64 0) (.int .u64 0) (.slice none 0 0) (.slice none 0 0)
  pr : Six wr (w.heap.size + 1) (.int .i64 kd) (.int .i64 k) (.int .u64 (old : Int)) (.int .u64 (size : Int)) sv dv
  rd : Tri wr (w.heap.size + 2) T a e
  below : Below w.heap.size w wr
section
variable {w wr W : World} {T : ByteArray} {a e : Nat} {kd k : Int} {old size : Nat} {sv dv : Value}
theorem RS.next (h : RS w wr T a e kd k old size sv dv) (hb : Below wr.heap.size wr W) : RS w W T a e kd k old size sv dv :=
  ⟨h.res.next hb, h.pr.next hb, h.rd.next hb, bnext h.below hb⟩
/-- The reader is put anew. -/
theorem RS.put (h : RS w wr T a e kd k old size sv dv) (a' e' : Nat) : RS w (put3 wr (w.heap.size + 2) T a' e') T a' e' kd k old size sv dv := by
  have hc := put3_ch wr (w.heap.size + 2) T a' e'
  exact ⟨h.res.same (hc.block _ (by show ¬ _ = _; omega)), h.pr.same (hc.block _ (by show ¬ _ = _; omega)), h.rd.put T a' e', h.below.trans (hc.below (by rintro b rfl; omega))⟩
theorem RS.keep (h : RS w wr T a e kd k old size sv dv) {kd' k' : Int} {old' size' : Nat} {sv' dv' : Value} (hp : Six W (w.heap.size + 1) (.int .i64 kd') (.int .i64 k') (.int .u64 (old' : Int)) (.int .u64 (size' : Int)) sv' dv') (hc : ChT (fun x => x = w.heap.size + 1) wr W) : RS w W T a e kd' k' old' size' sv' dv' :=
  ⟨h.res.same (hc.block _ (by show ¬ _ = _; omega)), hp, h.rd.same (hc.block _ (by show ¬ _ = _; omega)), h.below.trans (hc.below (by rintro b rfl; omega))⟩
theorem RS.putOld (h : RS w wr T a e kd k old size sv dv) (n : Nat) : RS w (wr.setCell ⟨w.heap.size + 1, 2, none⟩ (.int .u64 (n : Int))) T a e kd k n size sv dv :=
  h.keep (h.pr.set2 _) ((ChT.refl (fun x => x = w.heap.size + 1) wr).set _ _ _ rfl)
theorem RS.putSize (h : RS w wr T a e kd k old size sv dv) (n : Nat) : RS w (wr.setCell ⟨w.heap.size + 1, 3, none⟩ (.int .u64 (n : Int))) T a e kd k old n sv dv :=
  h.keep (h.pr.set3 _) ((ChT.refl (fun x => x = w.heap.size + 1) wr).set _ _ _ rfl)
theorem RS.putSet (h : RS w wr T a e kd k old size sv dv) (v : Value) : RS w (wr.setCell ⟨w.heap.size + 1, 4, none⟩ v) T a e kd k old size v dv :=
  h.keep (h.pr.set4 _) ((ChT.refl (fun x => x = w.heap.size + 1) wr).set _ _ _ rfl)
theorem RS.putDig (h : RS w wr T a e kd k old size sv dv) (v : Value) : RS w (wr.setCell ⟨w.heap.size + 1, 5, none⟩ v) T a e kd k old size sv v :=
  h.keep (h.pr.set5 _) ((ChT.refl (fun x => x = w.heap.size + 1) wr).set _ _ _ rfl)
end
/-- What read is held to. -/
def RdQ (w : World) (s : ByteArray) (e : Ending) (w' : World) : Prop :=
  (∃ (kd k old size : Int) (sa : Option Addr) (sl sc : Nat) (da : Option Addr) (dl dc : Nat), e = .returned (.tuple #[.agg #[.int .i64 kd, .int .i64 k, .int .u64 old, .int .u64 size, .slice sa sl sc, .slice da dl dc], .bool false]) ∧ dec s.data.toList = none ∧ Below w.heap.size w w') ∨
  (∃ Q sa sb sc da db dc, e = .returned (.tuple #[pvP Q sa sc da dc, .bool true]) ∧ RdP w' sa sb 0 sc da db 0 dc Q ∧ (Cv.Own w' w.heap.size (.slice sa Q.S.length sc) Q.S ∧ OwnS w' w.heap.size (.slice da Q.D.length dc) Q.D) ∧ (∀ P, dec s.data.toList = some P → Q = P) ∧ Below w.heap.size w w')
/-- The bytes of a proof behind the first two. -/
theorem dec_bytes {s : ByteArray} {P : PV} (h : dec s.data.toList = some P) : ∃ b0 b1 : UInt8, s.data.toList = b0 :: b1 :: (num P.size ++ ((if P.kd = 3 then num P.old else if P.kd = 2 then num P.S.length else []) ++ (laidL 0 P.S ++ flat P.D))) ∧ P.kd = b0.toNat ∧ P.k = b1.toNat ∧ Well P := by
  obtain ⟨hw, he, _⟩ := enc_dec h
  have ho := cnt_ok hw.1
  rw [enc_pre ho] at he
  have h1 := ho.kd1
  have h3 := ho.kd3
  have k1 := ho.k1
  have k3 := ho.k32
  refine ⟨UInt8.ofNat P.kd.toNat, UInt8.ofNat P.k.toNat, ?_, ?_, ?_, hw⟩
  · rw [← he, pre]; simp [List.append_assoc]
  · rw [ofNat_toNat (by omega)]; omega
  · rw [ofNat_toNat (by omega)]; omega
end Go.Proofs.Ytelglfmppmdmoaa
