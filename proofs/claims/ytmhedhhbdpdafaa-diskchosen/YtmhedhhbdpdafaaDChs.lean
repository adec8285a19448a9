/-
  DiskChosen: which choice is whose. Own work.
-/
import Derived.Test.YtmhedhhbdpdafaaDSec
namespace Go.Proofs.Ytmhedhhbdpdafaa
open Go.RowKit
/-- Is there a choice of the length? -/
def e0 (f : FV) : Nat := if f.now.length = f.syn.length then 0 else 1
/-- What may be lost: -1 for the length, a sector's number. -/
def los (f : FV) : Nat → List Int
  | 0 => if f.now.length = f.syn.length then [] else [-1]
  | s + 1 => los f s ++ (if sec f.now s = sec f.syn s then [] else [(s : Int)])
theorem los_len (f : FV) (n : Nat) : (los f n).length = e0 f + unl f n := by
  induction n with
  | zero =>
    unfold los e0 unl
    split <;> rfl
  | succ n ih =>
    rw [los, List.length_append, ih, unl]
    split
    · simp
    · simp; omega
theorem app_at (l m : List Int) (k : Nat) : (l ++ m).getD k 0 = if k < l.length then l.getD k 0 else m.getD (k - l.length) 0 := by
  simp only [List.getD_eq_getElem?_getD]
  split
  · rw [List.getElem?_append_left (by assumption)]
  · rw [List.getElem?_append_right (by omega)]
theorem los_at (f : FV) : ∀ (n k : Nat), k < (los f n).length → (k = 0 ∧ e0 f = 1 ∧ (los f n).getD k 0 = -1) ∨ ∃ s, s < n ∧ sec f.now s ≠ sec f.syn s ∧ k = e0 f + unl f s ∧ (los f n).getD k 0 = (s : Int)
  | 0, k, h => by
    left
    by_cases e : f.now.length = f.syn.length
    · simp [los, e] at h
    · simp only [los, e0, if_neg e] at h ⊢
      have : k = 0 := by simpa using h
      subst this
      exact ⟨rfl, trivial, rfl⟩
  | n + 1, k, h => by
    have hl := los_len f n
    by_cases hk : k < (los f n).length
    · rcases los_at f n k hk with ⟨h1, h2, h3⟩ | ⟨s, h1, h2, h3, h4⟩
      · left
        refine ⟨h1, h2, ?_⟩
        rw [los, app_at, if_pos hk, h3]
      · right
        refine ⟨s, by omega, h2, h3, ?_⟩
        rw [los, app_at, if_pos hk, h4]
    · by_cases e : sec f.now n = sec f.syn n
      · rw [los, if_pos e, List.append_nil] at h
        exact absurd h hk
      · rw [los, if_neg e] at h
        simp only [List.length_append, List.length_singleton] at h
        right
        refine ⟨n, by omega, e, by omega, ?_⟩
        rw [los, if_neg e, app_at, if_neg hk, show k - (los f n).length = 0 by omega]
        rfl
theorem unl_mono (f : FV) {s n : Nat} (h : s ≤ n) : unl f s ≤ unl f n := by
  induction n with
  | zero => rw [show s = 0 by omega]; exact Nat.le_refl _
  | succ n ih =>
    by_cases e : s = n + 1
    · rw [e]; exact Nat.le_refl _
    · have := ih (by omega)
      rw [unl]
      omega
theorem unl_lt (f : FV) {s n : Nat} (h : s < n) (hs : sec f.now s ≠ sec f.syn s) : unl f s < unl f n := by
  have := unl_mono f (Nat.succ_le_of_lt h)
  rw [Nat.succ_eq_add_one, unl, if_neg hs] at this
  omega
/-- One true choice. -/
def hot (n k : Nat) : List Bool := (List.replicate n false).set k true
theorem hot_len (n k : Nat) : (hot n k).length = n := by simp [hot]
theorem ch_hot {n k c : Nat} (_hk : k < n) (hc : c < n) : ch (hot n k) c = decide (c = k) := by
  unfold ch
  rw [hot_len, Nat.mod_eq_of_lt hc]
  unfold hot
  simp only [List.getD_eq_getElem?_getD, List.getElem?_set, List.length_replicate, List.getElem?_replicate]
  by_cases e : k = c
  · subst e
    simp [hc]
  · rw [if_neg e, if_pos hc]
    have e' : ¬ c = k := fun q => e q.symm
    simp [e']
theorem slen_hot (f : FV) {k : Nat} (hk : k < (los f (nsec f)).length) : slen (hot (los f (nsec f)).length k) f 0 = (if (los f (nsec f)).getD k 0 = -1 then f.now.length else f.syn.length, e0 f) := by
  have hat := los_at f (nsec f) k hk
  unfold slen
  by_cases e : f.now.length = f.syn.length
  · rw [if_pos e]
    have h0 : e0 f = 0 := by unfold e0; rw [if_pos e]
    rw [h0, e]
    split <;> rfl
  · rw [if_neg e]
    have h0 : e0 f = 1 := by unfold e0; rw [if_neg e]
    rw [h0, ch_hot hk (by rw [los_len]; omega)]
    have hiff : (los f (nsec f)).getD k 0 = -1 ↔ 0 = k := by
      rcases hat with ⟨h1, _, h3⟩ | ⟨s, _, _, h3, h4⟩
      · exact ⟨fun _ => h1.symm, fun _ => h3⟩
      · rw [h4]
        exact ⟨fun h => by omega, fun h => by omega⟩
    by_cases q : 0 = k
    · rw [if_pos (hiff.2 q), if_pos (by simpa using q)]
    · rw [if_neg (fun h => q (hiff.1 h)), if_neg (by simpa using q)]
theorem tk_hot (f : FV) {k s : Nat} (hk : k < (los f (nsec f)).length) (hs : s < nsec f) : tk (hot (los f (nsec f)).length k) f (e0 f) s = decide ((los f (nsec f)).getD k 0 = (s : Int)) := by
  have hat := los_at f (nsec f) k hk
  have hl := los_len f (nsec f)
  unfold tk
  by_cases e : sec f.now s = sec f.syn s
  · have : ¬ (los f (nsec f)).getD k 0 = (s : Int) := by
      rcases hat with ⟨_, _, h3⟩ | ⟨t, _, h2, _, h4⟩
      · rw [h3]; omega
      · rw [h4]
        intro q
        obtain rfl : t = s := by omega
        exact h2 e
    rw [decide_eq_false this, decide_eq_true e]
    rfl
  · have hlt := unl_lt f hs e
    rw [ch_hot hk (by omega)]
    have hiff : (los f (nsec f)).getD k 0 = (s : Int) ↔ e0 f + unl f s = k := by
      rcases hat with ⟨h1, h2, h3⟩ | ⟨t, h1, h2, h3, h4⟩
      · rw [h3]
        exact ⟨fun h => by omega, fun h => by omega⟩
      · rw [h4]
        constructor
        · intro q
          obtain rfl : t = s := by omega
          omega
        · intro q
          have : t = s := by
            rcases Nat.lt_trichotomy t s with c | c | c
            · have := unl_lt f c h2; omega
            · exact c
            · have := unl_lt f c e; omega
          rw [this]
    simp only [e, decide_false, Bool.not_false, Bool.true_and]
    rw [decide_eq_decide]
    exact hiff.symm
/-- A byte that is wanted. -/
def wb (f : FV) (x : Int) (j : Nat) : UInt8 := if x = ((j / 64 : Nat) : Int) then f.now.getD j 0 else f.syn.getD j 0
/-- How many. -/
def wn (f : FV) (x : Int) : Nat := if x = -1 then f.now.length else f.syn.length
theorem stay_hot (f : FV) {k : Nat} (hk : k < (los f (nsec f)).length) : (stay (hot (los f (nsec f)).length k) f 0).1 = (List.range (wn f ((los f (nsec f)).getD k 0))).map (wb f ((los f (nsec f)).getD k 0)) := by
  have hs := slen_hot f hk
  have hle := slen_le (hot (los f (nsec f)).length k) f 0
  refine stay_is ?_ fun j hj => ?_
  · rw [hs]
    simp [wn]
  · rw [hs] at hle
    simp only at hle
    have hj' : j < wn f ((los f (nsec f)).getD k 0) := by simpa using hj
    have hsec : j / 64 < nsec f := by unfold nsec; unfold wn at hj'; omega
    rw [hs]
    simp only
    rw [tk_hot f hk hsec]
    have e : ((List.range (wn f ((los f (nsec f)).getD k 0))).map (wb f ((los f (nsec f)).getD k 0))).getD j 0 = wb f ((los f (nsec f)).getD k 0) j := by
      generalize (los f (nsec f)).getD k 0 = xx at hj' ⊢
      simp [List.getD_eq_getElem?_getD, hj']
    rw [e]
    unfold wb
    by_cases q : (los f (nsec f)).getD k 0 = ((j / 64 : Nat) : Int)
    · rw [if_pos (by simpa using q), if_pos q]
    · rw [if_neg (by simpa using q), if_neg q]
/-- Nothing may be lost. -/
theorem stay_none (f : FV) (h : los f (nsec f) = []) (keep : List Bool) : (stay keep f 0).1 = f.now := by
  have hl := los_len f (nsec f)
  rw [h] at hl
  simp only [List.length_nil] at hl
  have he : f.now.length = f.syn.length := by
    by_cases q : f.now.length = f.syn.length
    · exact q
    · unfold e0 at hl; rw [if_neg q] at hl; omega
  refine stay_is ?_ fun j hj => ?_
  · unfold slen
    rw [if_pos he]
    exact he
  · have hsec : j / 64 < nsec f := by unfold nsec; omega
    have ha : sec f.now (j / 64) = sec f.syn (j / 64) := by
      by_cases q : sec f.now (j / 64) = sec f.syn (j / 64)
      · exact q
      · have := unl_lt f hsec q; omega
    rw [if_neg (by simp [tk, ha])]
    exact (sec_at' ha).symm
/-- The 64 bytes of a sector. -/
theorem pa_sec (x y : List UInt8) (s : Nat) : pa x y s 64 = decide (sec x s = sec y s) := by
  rw [Bool.eq_iff_iff, decide_eq_true_iff]
  have back : ∀ {i : Nat}, pa x y s i = true → ∀ r, r < i → x.getD (64 * s + r) 0 = y.getD (64 * s + r) 0 := by
    intro i
    induction i with
    | zero => intro _ r hr; omega
    | succ i ih =>
      intro h r hr
      rw [pa, Bool.and_eq_true, decide_eq_true_iff] at h
      by_cases q : r = i
      · rw [q]; exact h.2
      · exact ih h.1 r (by omega)
  exact ⟨fun h => sec_ext (back h), fun h => pa_true fun r hr => sec_same h r hr⟩
end Go.Proofs.Ytmhedhhbdpdafaa
