/-
  What a disk is: files by their names, what stays of them, the choices. Own work.
-/
import Derived.Test.YtmhedhhbdpdafabProg
namespace Go.Proofs.Ytmhedhhbdpdafab
/-- A file: its bytes, the synced ones. -/
structure FV where
  now : List UInt8
  syn : List UInt8
/-- None. -/
def fz : FV := ⟨[], []⟩
instance : Inhabited FV := ⟨fz⟩
/-- It is as one that is not there. -/
def FV.gone (f : FV) : Bool := f.now.isEmpty && f.syn.isEmpty
theorem gone_iff {f : FV} : f.gone = true ↔ f = fz := by
  obtain ⟨a, b⟩ := f
  simp [FV.gone, fz, List.isEmpty_iff]
theorem gone_len {f : FV} : f.gone = true ↔ f.now.length = 0 ∧ f.syn.length = 0 := by
  obtain ⟨a, b⟩ := f
  simp [FV.gone, List.isEmpty_iff]
/-- The file of a name. -/
def fget : List (List UInt8 × FV) → List UInt8 → FV
  | [], _ => fz
  | (t, f) :: r, s => if t = s then f else fget r s
/-- A file in its place; one that is gone: none. -/
def fput : List (List UInt8 × FV) → List UInt8 → FV → List (List UInt8 × FV)
  | [], s, f => if f.gone then [] else [(s, f)]
  | (t, g) :: r, s, f => if t = s then (if f.gone then r else (s, f) :: r) else if s < t then (if f.gone then (t, g) :: r else (s, f) :: (t, g) :: r) else (t, g) :: fput r s f
/-- By their names, rising; each has something. -/
def Ord (L : List (List UInt8 × FV)) : Prop := L.Pairwise (fun a b => a.1 < b.1) ∧ ∀ p ∈ L, p.2.gone = false
theorem ord_nil : Ord [] := ⟨.nil, by simp⟩
theorem lt_of {s t : List UInt8} (h1 : ¬ t = s) (h2 : ¬ s < t) : t < s := by
  rcases Decidable.em (t < s) with h | h
  · exact h
  · exact absurd (List.le_antisymm (List.not_lt.1 h2) (List.not_lt.1 h)) h1
theorem fget_none {L : List (List UInt8 × FV)} {s : List UInt8} (h : s ∉ L.map (·.1)) : fget L s = fz := by
  induction L with
  | nil => rfl
  | cons p r ih =>
    obtain ⟨t, g⟩ := p
    simp only [List.map_cons, List.mem_cons, not_or] at h
    rw [fget, if_neg (fun e => h.1 e.symm)]
    exact ih h.2
theorem fget_mem {L : List (List UInt8 × FV)} (ho : Ord L) {s : List UInt8} {f : FV} (h : (s, f) ∈ L) : fget L s = f := by
  induction L with
  | nil => simp at h
  | cons p r ih =>
    obtain ⟨t, g⟩ := p
    obtain ⟨h1, h2⟩ := ho
    obtain ⟨h3, h4⟩ := List.pairwise_cons.1 h1
    rw [fget]
    rcases List.mem_cons.1 h with e | e
    · injection e with e1 e2
      rw [if_pos e1.symm, e2]
    · have := h3 _ e
      rw [if_neg (fun q => by simp only [q] at this; exact absurd this (List.lt_irrefl _))]
      exact ih ⟨h4, fun p hp => h2 p (List.mem_cons_of_mem _ hp)⟩ e
theorem fget_in {L : List (List UInt8 × FV)} {s : List UInt8} (h : s ∈ L.map (·.1)) : (s, fget L s) ∈ L := by
  induction L with
  | nil => simp at h
  | cons p r ih =>
    obtain ⟨t, g⟩ := p
    rw [fget]
    by_cases e : t = s
    · rw [if_pos e, e]; simp
    · rw [if_neg e]
      simp only [List.map_cons, List.mem_cons] at h
      rcases h with h | h
      · exact absurd h.symm e
      · exact List.mem_cons_of_mem _ (ih h)
theorem fget_gone {L : List (List UInt8 × FV)} (ho : Ord L) {s : List UInt8} : (fget L s).gone = true ↔ s ∉ L.map (·.1) := by
  constructor
  · intro h hs
    have := ho.2 _ (fget_in hs)
    rw [h] at this; cases this
  · intro h
    rw [fget_none h]; rfl
/-- Whose names there are behind it. -/
theorem fput_mem {L : List (List UInt8 × FV)} {s : List UInt8} {f : FV} {p : List UInt8 × FV} (h : p ∈ fput L s f) : p ∈ L ∨ (p = (s, f) ∧ f.gone = false) := by
  induction L with
  | nil =>
    rw [fput] at h
    split at h
    · simp at h
    · rename_i hg
      exact .inr ⟨by simpa using h, by simpa using hg⟩
  | cons q r ih =>
    obtain ⟨t, g⟩ := q
    rw [fput] at h
    split at h
    · split at h
      · exact .inl (List.mem_cons_of_mem _ h)
      · rename_i hg
        rcases List.mem_cons.1 h with h | h
        · exact .inr ⟨h, by simpa using hg⟩
        · exact .inl (List.mem_cons_of_mem _ h)
    · split at h
      · split at h
        · exact .inl h
        · rename_i hg
          rcases List.mem_cons.1 h with h | h
          · exact .inr ⟨h, by simpa using hg⟩
          · exact .inl h
      · rcases List.mem_cons.1 h with h | h
        · exact .inl (by rw [h]; simp)
        · rcases ih h with h | h
          · exact .inl (List.mem_cons_of_mem _ h)
          · exact .inr h
theorem ord_fput {L : List (List UInt8 × FV)} (ho : Ord L) (s : List UInt8) (f : FV) : Ord (fput L s f) := by
  refine ⟨?_, fun p hp => ?_⟩
  · induction L with
    | nil => rw [fput]; split <;> simp
    | cons q r ih =>
      obtain ⟨t, g⟩ := q
      obtain ⟨h1, h2⟩ := ho
      obtain ⟨h3, h4⟩ := List.pairwise_cons.1 h1
      have hr : Ord r := ⟨h4, fun p hp => h2 p (List.mem_cons_of_mem _ hp)⟩
      rw [fput]
      split
      · rename_i e
        split
        · exact h4
        · exact List.pairwise_cons.2 ⟨fun p hp => by have := h3 p hp; rw [e] at this; exact this, h4⟩
      · rename_i e
        split
        · rename_i hlt
          split
          · exact h1
          · exact List.pairwise_cons.2 ⟨fun p hp => by
              rcases List.mem_cons.1 hp with rfl | hp
              · exact hlt
              · exact List.lt_trans hlt (h3 p hp), h1⟩
        · rename_i hlt
          refine List.pairwise_cons.2 ⟨fun p hp => ?_, ih hr⟩
          rcases fput_mem hp with hp | ⟨rfl, _⟩
          · exact h3 p hp
          · exact lt_of e hlt
  · rcases fput_mem hp with hp | ⟨rfl, hg⟩
    · exact ho.2 p hp
    · exact hg
theorem fget_fput {L : List (List UInt8 × FV)} (ho : Ord L) (s : List UInt8) (f : FV) (t : List UInt8) : fget (fput L s f) t = if t = s then f else fget L t := by
  induction L with
  | nil =>
    rw [fput]
    split
    · rename_i hg
      rw [gone_iff.1 hg]
      simp [fget]
    · simp only [fget]
      by_cases e : t = s
      · rw [if_pos e, if_pos e.symm]
      · rw [if_neg e, if_neg (fun q => e q.symm)]
  | cons q r ih =>
    obtain ⟨u, g⟩ := q
    obtain ⟨h1, h2⟩ := ho
    obtain ⟨h3, h4⟩ := List.pairwise_cons.1 h1
    have hr : Ord r := ⟨h4, fun p hp => h2 p (List.mem_cons_of_mem _ hp)⟩
    have low : ∀ {x : List UInt8}, ¬ u < x → x ∉ r.map (·.1) := fun {x} hx hm => by
      obtain ⟨p, hp, rfl⟩ := List.mem_map.1 hm
      exact hx (h3 p hp)
    rw [fput]
    split
    · rename_i e
      subst e
      split
      · rename_i hg
        rw [gone_iff.1 hg]
        by_cases e : t = u
        · rw [if_pos e, fget_none (by rw [e]; exact low (List.lt_irrefl _))]
        · rw [if_neg e, fget, if_neg (fun q => e q.symm)]
      · simp only [fget]
        by_cases e : t = u
        · rw [if_pos e, if_pos e.symm]
        · rw [if_neg e, if_neg (fun q => e q.symm)]; simp only [if_neg (fun q : u = t => e q.symm)]
    · rename_i e
      split
      · rename_i hlt
        have hno : s ∉ ((u, g) :: r).map (·.1) := by
          simp only [List.map_cons, List.mem_cons, not_or]
          exact ⟨fun q => e q.symm, low (fun h => absurd (List.lt_trans hlt h) (List.lt_irrefl _))⟩
        split
        · rename_i hg
          rw [gone_iff.1 hg]
          by_cases e : t = s
          · rw [if_pos e, e, fget_none hno]
          · rw [if_neg e]
        · rw [fget]
          by_cases e : t = s
          · rw [if_pos e, if_pos e.symm]
          · rw [if_neg e, if_neg (fun q => e q.symm)]
      · rw [fget, ih hr, fget]
        by_cases e2 : u = t
        · rw [if_pos e2, if_neg (fun q => e (e2.trans q)), if_pos e2]
        · rw [if_neg e2, if_neg e2]
/-- Two lists of files that tell the same are one. -/
theorem ord_ext {L M : List (List UInt8 × FV)} (hL : Ord L) (hM : Ord M) (h : ∀ s, fget L s = fget M s) : L = M := by
  have side : ∀ {A B : List (List UInt8 × FV)}, Ord A → Ord B → (∀ s, fget A s = fget B s) → ∀ p ∈ A, p ∈ B := fun {A B} hA hB hh p hp => by
    obtain ⟨s, f⟩ := p
    have e := fget_mem hA hp
    have hin : s ∈ B.map (·.1) := by
      rcases Decidable.em (s ∈ B.map (·.1)) with h | h
      · exact h
      · have := (fget_gone hB).2 h
        rw [← hh, e] at this
        have q := hA.2 _ hp
        simp only [this] at q; cases q
    have := fget_in hin
    rw [← hh, e] at this
    exact this
  have nd : ∀ {A : List (List UInt8 × FV)}, Ord A → A.Nodup := fun {A} hA => hA.1.imp fun {a b} hlt e => by rw [e] at hlt; exact List.lt_irrefl _ hlt
  refine List.Perm.eq_of_pairwise (le := fun a b => a.1 < b.1) (fun a b _ _ h1 h2 => absurd (List.lt_trans h1 h2) (List.lt_irrefl _)) hL.1 hM.1 ((List.perm_ext_iff_of_nodup (nd hL) (nd hM)).2 fun p => ⟨side hL hM h p, side hM hL (fun s => (h s).symm) p⟩)
/-- Choice number i. -/
def ch (keep : List Bool) (i : Nat) : Bool := keep.getD (i % keep.length) false
/-- A sector of a row, zeros behind its end. -/
def sec (l : List UInt8) (s : Nat) : List UInt8 := (List.range 64).map fun j => l.getD (64 * s + j) 0
theorem sec_len (l : List UInt8) (s : Nat) : (sec l s).length = 64 := by simp [sec]
/-- The first sectors that stay, and how many choices were taken. -/
def sgo (keep : List Bool) (f : FV) (i : Nat) : Nat → List UInt8 × Nat
  | 0 => ([], i)
  | s + 1 => let r := sgo keep f i s
    if sec f.now s = sec f.syn s then (r.1 ++ sec f.syn s, r.2) else (r.1 ++ (if ch keep r.2 then sec f.now s else sec f.syn s), r.2 + 1)
theorem sgo_len (keep : List Bool) (f : FV) (i s : Nat) : (sgo keep f i s).1.length = 64 * s := by
  induction s with
  | zero => rfl
  | succ s ih =>
    simp only [sgo]
    split
    · simp only [List.length_append, ih, sec_len]; omega
    · simp only [List.length_append, ih]
      split <;> simp only [sec_len] <;> omega
/-- How many sectors there are. -/
def nsec (f : FV) : Nat := (max f.now.length f.syn.length + 63) / 64
/-- The length that stays, and the choices behind it. -/
def slen (keep : List Bool) (f : FV) (i : Nat) : Nat × Nat :=
  if f.now.length = f.syn.length then (f.syn.length, i) else (if ch keep i then f.now.length else f.syn.length, i + 1)
/-- What stays of a file. -/
def stay (keep : List Bool) (f : FV) (i : Nat) : List UInt8 × Nat :=
  let n := slen keep f i
  let r := sgo keep f n.2 (nsec f)
  (r.1.take n.1, r.2)
theorem stay_len (keep : List Bool) (f : FV) (i : Nat) : (stay keep f i).1.length = (slen keep f i).1 := by
  simp only [stay, List.length_take, sgo_len, nsec]
  have : (slen keep f i).1 ≤ max f.now.length f.syn.length := by
    unfold slen
    split
    · exact Nat.le_max_right _ _
    · split
      · exact Nat.le_max_left _ _
      · exact Nat.le_max_right _ _
  omega
/-- What stays of all, by keep; those without bytes are not told. -/
def aft (keep : List Bool) : List (List UInt8 × FV) → Nat → List (List UInt8 × List UInt8)
  | [], _ => []
  | (s, f) :: r, i => let x := stay keep f i
    if x.1 = [] then aft keep r x.2 else (s, x.1) :: aft keep r x.2
/-- Those that have bytes. -/
def tell : List (List UInt8 × FV) → List (List UInt8 × List UInt8)
  | [] => []
  | (s, f) :: r => if f.now = [] then tell r else (s, f.now) :: tell r
end Go.Proofs.Ytmhedhhbdpdafab
