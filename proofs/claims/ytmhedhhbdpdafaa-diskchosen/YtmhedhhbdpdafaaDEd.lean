/-
  A disk of one file, and what stays of it. Own work.
-/
import Derived.Test.YtmhedhhbdpdafaaDFile
namespace Go.Proofs.Ytmhedhhbdpdafaa
open Go.RowKit
/-- How many sectors below s are unlike. -/
def unl (f : FV) : Nat → Nat
  | 0 => 0
  | s + 1 => unl f s + (if sec f.now s = sec f.syn s then 0 else 1)
theorem sgo_cnt (keep : List Bool) (f : FV) (i s : Nat) : (sgo keep f i s).2 = i + unl f s := by
  induction s with
  | zero => rfl
  | succ s ih =>
    simp only [sgo, unl]
    split
    · simp only [ih]; omega
    · simp only [ih]; omega
/-- Is sector s taken as it is? -/
def tk (keep : List Bool) (f : FV) (i s : Nat) : Bool := !decide (sec f.now s = sec f.syn s) && ch keep (i + unl f s)
theorem sec_at (l : List UInt8) (s r : Nat) (hr : r < 64) : (sec l s).getD r 0 = l.getD (64 * s + r) 0 := by
  simp [sec, List.getD_eq_getElem?_getD, hr]
theorem sec_same {a b : List UInt8} {s : Nat} (h : sec a s = sec b s) (r : Nat) (hr : r < 64) : a.getD (64 * s + r) 0 = b.getD (64 * s + r) 0 := by
  rw [← sec_at a s r hr, h, sec_at b s r hr]
theorem sec_ext {a b : List UInt8} {s : Nat} (h : ∀ r, r < 64 → a.getD (64 * s + r) 0 = b.getD (64 * s + r) 0) : sec a s = sec b s := by
  unfold sec
  exact List.map_congr_left fun r hr => h r (List.mem_range.1 hr)
theorem sgo_at (keep : List Bool) (f : FV) (i : Nat) : ∀ (n s r : Nat), s < n → r < 64 → (sgo keep f i n).1.getD (64 * s + r) 0 = (if tk keep f i s then f.now else f.syn).getD (64 * s + r) 0
  | 0, s, r, h, _ => by omega
  | n + 1, s, r, h, hr => by
    have hl := sgo_len keep f i n
    have hc := sgo_cnt keep f i n
    have happ : ∀ X : List UInt8, ((sgo keep f i n).1 ++ X).getD (64 * s + r) 0 = if s < n then (sgo keep f i n).1.getD (64 * s + r) 0 else X.getD (64 * s + r - 64 * n) 0 := fun X => by
      simp only [List.getD_eq_getElem?_getD]
      split
      · rw [List.getElem?_append_left (by omega)]
      · rw [List.getElem?_append_right (by omega), hl]
    have ih := sgo_at keep f i n s r
    simp only [sgo]
    by_cases e : s < n
    · have := ih e hr
      split
      · rw [happ, if_pos e, this]
      · rw [happ, if_pos e, this]
    · obtain rfl : s = n := by omega
      have hz : 64 * s + r - 64 * s = r := by omega
      split
      · rename_i he
        rw [happ, if_neg e, hz, sec_at _ _ _ hr]
        simp [tk, he]
      · rename_i he
        simp only
        rw [happ, if_neg e, hz, hc]
        cases hch : ch keep (i + unl f s)
        · simp only [tk, hch, Bool.and_false, if_false, Bool.false_eq_true]
          exact sec_at _ _ _ hr
        · simp only [tk, hch, he, decide_false, Bool.not_false, Bool.and_true, if_true]
          exact sec_at _ _ _ hr
theorem list_ext {a b : List UInt8} (hl : a.length = b.length) (h : ∀ j, j < a.length → a.getD j 0 = b.getD j 0) : a = b := by
  apply List.ext_getElem hl
  intro j h1 h2
  have := h j h1
  simpa [List.getD_eq_getElem?_getD, List.getElem?_eq_getElem h1, List.getElem?_eq_getElem h2] using this
theorem slen_le (keep : List Bool) (f : FV) (i : Nat) : (slen keep f i).1 ≤ max f.now.length f.syn.length := by
  unfold slen
  split
  · exact Nat.le_max_right _ _
  · split
    · exact Nat.le_max_left _ _
    · exact Nat.le_max_right _ _
theorem stay_at (keep : List Bool) (f : FV) (i j : Nat) (hj : j < (slen keep f i).1) : (stay keep f i).1.getD j 0 = (if tk keep f (slen keep f i).2 (j / 64) then f.now else f.syn).getD j 0 := by
  have h1 := slen_le keep f i
  have h2 : j / 64 < nsec f := by unfold nsec; omega
  have h3 := sgo_at keep f (slen keep f i).2 (nsec f) (j / 64) (j % 64) h2 (Nat.mod_lt _ (by omega))
  rw [show 64 * (j / 64) + j % 64 = j from Nat.div_add_mod j 64] at h3
  rw [← h3]
  simp only [stay, List.getD_eq_getElem?_getD, List.getElem?_take, hj, if_true]
/-- What stays is x. -/
theorem stay_is {keep : List Bool} {f : FV} {i : Nat} {x : List UInt8} (hl : x.length = (slen keep f i).1) (h : ∀ j, j < x.length → (if tk keep f (slen keep f i).2 (j / 64) then f.now else f.syn).getD j 0 = x.getD j 0) : (stay keep f i).1 = x := by
  have hl2 := stay_len keep f i
  refine list_ext (by rw [hl2, hl]) fun j hj => ?_
  rw [stay_at keep f i j (by omega), h j (by omega)]
theorem sec_at' {a b : List UInt8} {j : Nat} (h : sec a (j / 64) = sec b (j / 64)) : a.getD j 0 = b.getD j 0 := by
  have := sec_same h (j % 64) (Nat.mod_lt _ (by omega))
  rwa [show 64 * (j / 64) + j % 64 = j from Nat.div_add_mod j 64] at this
theorem ch_true (c : Nat) : ch [true] c = true := by
  unfold ch
  have : c % [true].length = 0 := Nat.mod_one c
  rw [this]; rfl
theorem ch_false (c : Nat) : ch [false, false] c = false := by
  unfold ch
  have h : c % [false, false].length < 2 := Nat.mod_lt _ (by simp)
  generalize c % [false, false].length = k at h
  match k, h with
  | 0, _ => rfl
  | 1, _ => rfl
theorem ch_nil (c : Nat) : ch [] c = false := by simp [ch]
theorem stay_true (f : FV) : (stay [true] f 0).1 = f.now := by
  refine stay_is ?_ fun j hj => ?_
  · unfold slen
    split
    · assumption
    · rw [if_pos (ch_true 0)]
  · split
    · rfl
    · rename_i h
      simp only [tk, ch_true, Bool.and_true, Bool.not_eq_true', decide_eq_false_iff_not, Decidable.not_not] at h
      exact (sec_at' h).symm
theorem stay_no {keep : List Bool} (hk : ∀ c, ch keep c = false) (f : FV) : (stay keep f 0).1 = f.syn := by
  refine stay_is ?_ fun j hj => ?_
  · unfold slen
    split
    · rfl
    · rw [if_neg (by simp [hk 0])]
  · rw [if_neg (by simp [tk, hk])]
theorem stay_same (keep : List Bool) (x : List UInt8) : (stay keep ⟨x, x⟩ 0).1 = x := by
  refine stay_is ?_ fun j hj => ?_
  · unfold slen
    rw [if_pos rfl]
  · split <;> rfl
/-- Each sector is the one or the other. -/
theorem stay_sec (keep : List Bool) (f : FV) (s : Nat) : (∀ j, 64 * s ≤ j → j < 64 * s + 64 → j < (stay keep f 0).1.length → (stay keep f 0).1.getD j 0 = f.now.getD j 0) ∨ (∀ j, 64 * s ≤ j → j < 64 * s + 64 → j < (stay keep f 0).1.length → (stay keep f 0).1.getD j 0 = f.syn.getD j 0) := by
  have hl2 := stay_len keep f 0
  cases ht : tk keep f (slen keep f 0).2 s
  · right
    intro j h1 h2 h3
    have : j / 64 = s := by omega
    rw [stay_at keep f 0 j (by omega), this, ht]
    rfl
  · left
    intro j h1 h2 h3
    have : j / 64 = s := by omega
    rw [stay_at keep f 0 j (by omega), this, ht]
    rfl
theorem stay_lens (keep : List Bool) (f : FV) : (stay keep f 0).1.length = f.now.length ∨ (stay keep f 0).1.length = f.syn.length := by
  rw [stay_len]
  unfold slen
  split
  · exact .inr rfl
  · split
    · exact .inl rfl
    · exact .inr rfl
/-- One file. -/
def one (s x : List UInt8) : List (List UInt8 × List UInt8) := if x = [] then [] else [(s, x)]
theorem tell_one (s : List UInt8) (f : FV) : tell (fput [] s f) = one s f.now := by
  unfold one
  rw [fput]
  split
  · rename_i h
    rw [gone_iff.1 h]; rfl
  · rw [tell, tell]
theorem aft_one (ks : List Bool) (s : List UInt8) (f : FV) : aft ks (fput [] s f) 0 = one s (stay ks f 0).1 := by
  unfold one
  rw [fput]
  split
  · rename_i h
    rw [gone_iff.1 h]
    have h0 : (stay ks fz 0).1 = [] := by
      rw [← List.length_eq_zero_iff, stay_len]
      rfl
    rw [if_pos h0]; rfl
  · simp only [aft]
theorem put_again (s : List UInt8) (f g : FV) : fput (fput [] s f) s g = fput [] s g := by
  refine ord_ext (ord_fput (ord_fput ord_nil s f) s g) (ord_fput ord_nil s g) fun t => ?_
  rw [fget_fput (ord_fput ord_nil s f), fget_fput ord_nil, fget_fput ord_nil]
  split <;> rfl
theorem lay_one (s x : List UInt8) : layL [(s, x)] = fput [] s ⟨x, x⟩ := by
  have := layL_snoc [] (s, x)
  rw [List.nil_append] at this
  rw [this]
  split
  · rename_i h
    simp only at h
    rw [h]; rfl
  · rfl
/-- A disk that has the file f alone. -/
structure Ed (D : DV) (now was : List UInt8) (j : Nat) : Prop where
  down : D.down = false
  fk : D.fk = 0
  L : D.L = fput [] [102] ⟨now, was⟩
  free : D.free + now.length = 1048576
  acts : D.acts ≤ j
  sz : now.length ≤ 1500 + 400 * j
section
variable {D : DV} {now was : List UInt8} {j : Nat}
theorem ed_open (x : List UInt8) (hx : x.length ≤ 1500) : Ed (openD 1048576 [([102], x)]) x x 0 := ⟨rfl, rfl, lay_one _ _, by show 1048576 - (x.length + 0) + _ = _; omega, Nat.le_refl _, by omega⟩
theorem Ed.get (h : Ed D now was j) : fget D.L [102] = ⟨now, was⟩ := by rw [h.L, fget_fput ord_nil, if_pos rfl]
theorem Ed.cnt (h : Ed D now was j) : D.L.length ≤ 1 := by rw [h.L]; exact len_put (L := []) _ _
theorem Ed.roomy (h : Ed D now was j) (hj : j ≤ 100) : Roomy D := ⟨by have := h.acts; omega, by have := h.cnt; omega, by have := h.free; omega⟩
theorem Ed.put (h : Ed D now was j) (g w2 : List UInt8) (hg : g.length ≤ D.free + now.length) (hz : g.length ≤ 1500 + 400 * (j + 1)) : Ed (dput { D with acts := D.acts + 1 } [102] ⟨g, w2⟩) g w2 (j + 1) := by
  refine ⟨h.down, h.fk, ?_, ?_, by show D.acts + 1 ≤ _; have := h.acts; omega, hz⟩
  · show fput D.L [102] _ = _
    rw [h.L, put_again]
  · show D.free + (fget D.L [102]).now.length - g.length + g.length = _
    rw [h.get]
    have := h.free
    simp only
    omega
theorem Ed.wr (h : Ed D now was j) (hj : j ≤ 20) (off : Nat) (ho : off ≤ now.length) (t : List UInt8) (ht : t.length ≤ 400) : ∃ D', wrD D [102] (off : Int) t = (D', 0) ∧ Ed D' (wr now off t) was (j + 1) := by
  have hs := h.sz
  have hf := h.free
  have hln := wr_len now off t ho
  refine ⟨_, ?_, h.put (Go.Proofs.Ytmhedhhbdpdafaa.wr now off t) was (by omega) (by omega)⟩
  unfold wrD
  rw [if_neg (by simp [h.down]), h.get, if_neg (by simp only; omega), if_neg (by simp only; omega), actD_plain h.fk]
  rfl
theorem Ed.cut (h : Ed D now was j) (off : Nat) (ho : off ≤ now.length) : ∃ D', cutD D [102] (off : Int) = (D', 0) ∧ Ed D' (now.take off) was (j + 1) := by
  have hs := h.sz
  have hf := h.free
  have hln : (now.take off).length ≤ now.length := by rw [List.length_take]; omega
  refine ⟨_, ?_, h.put (now.take off) was (by omega) (by omega)⟩
  unfold cutD
  rw [if_neg (by simp [h.down]), h.get, if_neg (by simp only; omega), actD_plain h.fk]
  rfl
theorem Ed.syn (h : Ed D now was j) : ∃ D', synD D [102] = (D', 0) ∧ Ed D' now now (j + 1) := by
  have hs := h.sz
  refine ⟨_, ?_, h.put now now (by omega) (by omega)⟩
  unfold synD
  rw [if_neg (by simp [h.down]), h.get, actD_plain h.fk]
theorem Ed.siz (h : Ed D now was j) : sizD D [102] = now.length := by
  unfold sizD
  rw [if_neg (by simp [h.down]), h.get]
theorem Ed.tell (h : Ed D now was j) : tell D.L = one [102] now := by rw [h.L, tell_one]
theorem Ed.aft (h : Ed D now was j) (ks : List Bool) : aft ks D.L 0 = one [102] (stay ks ⟨now, was⟩ 0).1 := by rw [h.L, aft_one]
end
end Go.Proofs.Ytmhedhhbdpdafaa
