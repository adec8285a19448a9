/-
  A disk as three texts. Own work.
-/
import Derived.Test.YtmhedhhbdpdafaaDTwo
namespace Go.Proofs.Ytmhedhhbdpdafaa
open Go.RowKit
/-- The names. -/
def nmK : Nat → List UInt8
  | 0 => [97]
  | 1 => [98]
  | _ => []
def updV {α : Type} (f : Nat → α) (k : Nat) (g : α) : Nat → α := fun i => if i = k then g else f i
/-- A disk without a fate whose files are those three. -/
structure Tx (D : DV) (room acts : Nat) (f : Nat → FV) : Prop where
  down : D.down = false
  fk : D.fk = 0
  ord : Ord D.L
  get : ∀ s, fget D.L s = if s = [97] then f 0 else if s = [98] then f 1 else if s = [] then f 2 else fz
  free : D.free + ((f 0).now.length + (f 1).now.length + (f 2).now.length) = room
  acts : D.acts = acts
theorem tx_new (r : Nat) : Tx (newD r) r 0 (fun _ => fz) := ⟨rfl, rfl, ord_nil, fun s => by
  show fz = _
  split
  · rfl
  · split
    · rfl
    · split <;> rfl, by simp [newD, fz], rfl⟩
theorem tot3 {L : List (List UInt8 × FV)} (ho : Ord L) {f : Nat → FV} (hg : ∀ s, fget L s = if s = [97] then f 0 else if s = [98] then f 1 else if s = [] then f 2 else fz) : L = fput (fput (fput [] [] (f 2)) [97] (f 0)) [98] (f 1) := by
  have o1 := ord_fput ord_nil [] (f 2)
  have o2 := ord_fput o1 [97] (f 0)
  have o3 := ord_fput o2 [98] (f 1)
  refine ord_ext ho o3 fun s => ?_
  rw [hg, fget_fput o2, fget_fput o1, fget_fput ord_nil]
  by_cases e1 : s = [97]
  · subst e1; simp
  · by_cases e2 : s = [98]
    · subst e2; simp
    · by_cases e3 : s = []
      · subst e3; simp
      · simp only [if_neg e1, if_neg e2, if_neg e3]; rfl
section
variable {D : DV} {room acts k : Nat} {f : Nat → FV}
theorem Tx.at (h : Tx D room acts f) (hk : k < 3) : fget D.L (nmK k) = f k := by
  rw [h.get]
  match k, hk with
  | 0, _ => rfl
  | 1, _ => rfl
  | 2, _ => rfl
theorem Tx.cnt (h : Tx D room acts f) : D.L.length ≤ 3 := by
  rw [tot3 h.ord h.get]
  have h1 := len_put (L := []) [] (f 2)
  have h2 := len_put (L := fput [] [] (f 2)) [97] (f 0)
  have h3 := len_put (L := fput (fput [] [] (f 2)) [97] (f 0)) [98] (f 1)
  simp only [List.length_nil] at h1
  omega
theorem Tx.roomy (h : Tx D room acts f) (hr : room ≤ 4000) (ha : acts ≤ 1000) : Roomy D := ⟨by have := h.acts; omega, by have := h.cnt; omega, by have := h.free; omega⟩
theorem Tx.put (h : Tx D room acts f) (hk : k < 3) (g : FV) (hg : g.now.length ≤ D.free + (f k).now.length) : Tx (dput { D with acts := D.acts + 1 } (nmK k) g) room (acts + 1) (updV f k g) := by
  refine ⟨h.down, h.fk, ord_fput h.ord _ _, fun s => ?_, ?_, by show D.acts + 1 = _; rw [h.acts]⟩
  · show fget (fput D.L (nmK k) g) s = _
    rw [fget_fput h.ord, h.get]
    match k, hk with
    | 0, _ => by_cases e1 : s = [97] <;> simp [nmK, updV, e1]
    | 1, _ =>
      by_cases e1 : s = [98]
      · simp [nmK, updV, e1]
      · simp [nmK, updV, e1]
    | 2, _ =>
      by_cases e1 : s = []
      · simp [nmK, updV, e1]
      · simp [nmK, updV, e1]
  · show D.free + (fget D.L (nmK k)).now.length - g.now.length + _ = room
    rw [h.at hk]
    have := h.free
    match k, hk with
    | 0, _ => simp only [updV]; simp; omega
    | 1, _ => simp only [updV]; simp; omega
    | 2, _ => simp only [updV]; simp; omega
theorem Tx.wr (h : Tx D room acts f) (hk : k < 3) (off : Nat) (ho : off ≤ (f k).now.length) (t : List UInt8) (hroom : room ≤ 4000) (ht : t.length ≤ 300) (hfit : off + t.length ≤ D.free + (f k).now.length) :
    wrD D (nmK k) (off : Int) t = (dput { D with acts := D.acts + 1 } (nmK k) ⟨wr (f k).now off t, (f k).syn⟩, 0) ∧ Tx (dput { D with acts := D.acts + 1 } (nmK k) ⟨wr (f k).now off t, (f k).syn⟩) room (acts + 1) (updV f k ⟨wr (f k).now off t, (f k).syn⟩) := by
  have hle : (f k).now.length ≤ room := by
    have := h.free
    match k, hk with
    | 0, _ => omega
    | 1, _ => omega
    | 2, _ => omega
  refine ⟨?_, h.put hk _ ?_⟩
  · unfold wrD
    rw [if_neg (by simp [h.down]), h.at hk, if_neg (by omega), if_neg (by omega), actD_plain h.fk]
    rfl
  · show (Go.Proofs.Ytmhedhhbdpdafaa.wr (f k).now off t).length ≤ _
    rw [wr_len _ _ _ ho]
    omega
theorem Tx.full (h : Tx D room acts f) (hk : k < 3) (off : Nat) (ho : off ≤ (f k).now.length) (t : List UInt8) (hroom : room ≤ 4000) (ht : t.length ≤ 300) (hfit : ¬ off + t.length ≤ D.free + (f k).now.length) :
    wrD D (nmK k) (off : Int) t = (D, 172) := by
  have hle : (f k).now.length ≤ room := by
    have := h.free
    match k, hk with
    | 0, _ => omega
    | 1, _ => omega
    | 2, _ => omega
  unfold wrD
  rw [if_neg (by simp [h.down]), h.at hk, if_neg (by omega), if_pos (by omega)]
theorem Tx.wr_no (h : Tx D room acts f) (hk : k < 3) (off : Int) (ho : off < 0 ∨ ((f k).now.length : Int) < off) (t : List UInt8) : wrD D (nmK k) off t = (D, 173) := by
  unfold wrD
  rw [if_neg (by simp [h.down]), h.at hk, if_pos (by omega)]
theorem Tx.cut_no (h : Tx D room acts f) (hk : k < 3) (off : Int) (ho : ((f k).now.length : Int) < off) : cutD D (nmK k) off = (D, 173) := by
  unfold cutD
  rw [if_neg (by simp [h.down]), h.at hk, if_pos (by omega)]
theorem Tx.cut (h : Tx D room acts f) (hk : k < 3) (off : Nat) (ho : off ≤ (f k).now.length) :
    cutD D (nmK k) (off : Int) = (dput { D with acts := D.acts + 1 } (nmK k) ⟨(f k).now.take off, (f k).syn⟩, 0) ∧ Tx (dput { D with acts := D.acts + 1 } (nmK k) ⟨(f k).now.take off, (f k).syn⟩) room (acts + 1) (updV f k ⟨(f k).now.take off, (f k).syn⟩) := by
  refine ⟨?_, h.put hk _ ?_⟩
  · unfold cutD
    rw [if_neg (by simp [h.down]), h.at hk, if_neg (by omega), actD_plain h.fk]
    rfl
  · show ((f k).now.take off).length ≤ _
    rw [List.length_take]
    omega
theorem Tx.syn (h : Tx D room acts f) (hk : k < 3) :
    synD D (nmK k) = (dput { D with acts := D.acts + 1 } (nmK k) ⟨(f k).now, (f k).now⟩, 0) ∧ Tx (dput { D with acts := D.acts + 1 } (nmK k) ⟨(f k).now, (f k).now⟩) room (acts + 1) (updV f k ⟨(f k).now, (f k).now⟩) := by
  refine ⟨?_, h.put hk _ (Nat.le_add_left _ _)⟩
  unfold synD
  rw [if_neg (by simp [h.down]), h.at hk, actD_plain h.fk]
theorem Tx.rd (h : Tx D room acts f) (hk : k < 3) : rdD D (nmK k) 0 ((f k).now.length : Int) = ((f k).now, 0) := by
  unfold rdD
  rw [if_neg (by simp [h.down]), h.at hk, if_neg (by omega)]
  simp
theorem Tx.rd_no (h : Tx D room acts f) (hk : k < 3) : rdD D (nmK k) 1 ((f k).now.length : Int) = ([], 173) := by
  unfold rdD
  rw [if_neg (by simp [h.down]), h.at hk, if_pos (by omega)]
theorem Tx.sz (h : Tx D room acts f) (hk : k < 3) : sizD D (nmK k) = (f k).now.length := by
  unfold sizD
  rw [if_neg (by simp [h.down]), h.at hk]
/-- What Files tells. -/
theorem Tx.tell (h : Tx D room acts f) : tell D.L = (if (f 2).now = [] then [] else [([], (f 2).now)]) ++ (if (f 0).now = [] then [] else [([97], (f 0).now)]) ++ (if (f 1).now = [] then [] else [([98], (f 1).now)]) := by
  have hL := tot3 h.ord h.get
  have gi : ∀ g : FV, g.gone = true → g.now = [] := fun g hg => by rw [gone_iff.1 hg]; rfl
  rw [hL]
  have b1 : ¬ (([] : List UInt8) = [97]) := by simp
  have b2 : ¬ (([97] : List UInt8) < []) := by simp
  have b3 : ¬ (([] : List UInt8) = [98]) := by simp
  have b4 : ¬ (([98] : List UInt8) < []) := by simp
  have b5 : ¬ (([97] : List UInt8) = [98]) := by simp
  have b6 : ¬ (([98] : List UInt8) < [97]) := by decide
  cases h2 : (f 2).gone <;> cases h0 : (f 0).gone <;> cases h1 : (f 1).gone <;> simp only [fput, h2, h0, h1, if_true, if_false, b1, b2, b3, b4, b5, b6, Go.Proofs.Ytmhedhhbdpdafaa.tell, Bool.false_eq_true] <;> (try rw [gi _ h2]) <;> (try rw [gi _ h0]) <;> (try rw [gi _ h1]) <;> (repeat' split) <;> first | rfl | (rename_i q; exact absurd rfl q)
end
end Go.Proofs.Ytmhedhhbdpdafaa
