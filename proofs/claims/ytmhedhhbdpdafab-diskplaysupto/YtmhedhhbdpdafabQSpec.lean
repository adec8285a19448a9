/-
  The document's disk as data: its list holds files without bytes too. Own work.
-/
import Derived.Test.YtmhedhhbdpdafabGCa
import Derived.Test.YtmhedhhbdpdafabGAl
import Derived.Test.YtmhedhhbdpdafabDFt
namespace Go.Proofs.Ytmhedhhbdpdafab
/-- By their names, rising. -/
def srt (L : List (List UInt8 × FV)) : Prop := L.Pairwise (fun a b => a.1 < b.1)
/-- A file in its place. -/
def rput : List (List UInt8 × FV) → List UInt8 → FV → List (List UInt8 × FV)
  | [], s, f => [(s, f)]
  | (t, g) :: r, s, f => if t = s then (s, f) :: r else if s < t then (s, f) :: (t, g) :: r else (t, g) :: rput r s f
/-- Those that are there. -/
def filt (L : List (List UInt8 × FV)) : List (List UInt8 × FV) := L.filter (fun p => !p.2.gone)
theorem srt_tail {p : List UInt8 × FV} {r : List (List UInt8 × FV)} (h : srt (p :: r)) : srt r ∧ ∀ q ∈ r, p.1 < q.1 := ⟨(List.pairwise_cons.1 h).2, (List.pairwise_cons.1 h).1⟩
theorem rput_mem {L : List (List UInt8 × FV)} {s : List UInt8} {f : FV} {p : List UInt8 × FV} (h : p ∈ rput L s f) : p ∈ L ∨ p = (s, f) := by
  induction L with
  | nil => exact .inr (by simpa [rput] using h)
  | cons q r ih =>
    obtain ⟨t, g⟩ := q
    rw [rput] at h
    split at h
    · rcases List.mem_cons.1 h with h | h
      · exact .inr h
      · exact .inl (List.mem_cons_of_mem _ h)
    · split at h
      · rcases List.mem_cons.1 h with h | h
        · exact .inr h
        · exact .inl h
      · rcases List.mem_cons.1 h with h | h
        · exact .inl (by rw [h]; simp)
        · rcases ih h with h | h
          · exact .inl (List.mem_cons_of_mem _ h)
          · exact .inr h
theorem srt_rput {L : List (List UInt8 × FV)} (h : srt L) (s : List UInt8) (f : FV) : srt (rput L s f) := by
  induction L with
  | nil => simp [rput, srt]
  | cons q r ih =>
    obtain ⟨t, g⟩ := q
    obtain ⟨h1, h2⟩ := srt_tail h
    rw [rput]
    split
    · rename_i e
      exact List.pairwise_cons.2 ⟨fun p hp => by have := h2 p hp; rw [← e]; exact this, h1⟩
    · rename_i e
      split
      · rename_i hlt
        exact List.pairwise_cons.2 ⟨fun p hp => by
          rcases List.mem_cons.1 hp with rfl | hp
          · exact hlt
          · exact List.lt_trans hlt (h2 p hp), h⟩
      · rename_i hlt
        refine List.pairwise_cons.2 ⟨fun p hp => ?_, ih h1⟩
        rcases rput_mem hp with hp | rfl
        · exact h2 p hp
        · exact lt_of e hlt
theorem filt_cons (t : List UInt8) (g : FV) (r : List (List UInt8 × FV)) : filt ((t, g) :: r) = if g.gone then filt r else (t, g) :: filt r := by
  unfold filt
  rw [List.filter_cons]
  cases g.gone <;> rfl
theorem filt_mem {L : List (List UInt8 × FV)} {p : List UInt8 × FV} (h : p ∈ filt L) : p ∈ L ∧ p.2.gone = false := by
  have := List.mem_filter.1 h
  exact ⟨this.1, by simpa using this.2⟩
theorem ord_filt {L : List (List UInt8 × FV)} (h : srt L) : Ord (filt L) := ⟨h.sublist List.filter_sublist, fun _ hp => (filt_mem hp).2⟩
theorem fget_filt : ∀ {L : List (List UInt8 × FV)} (_ : srt L) (s : List UInt8), fget (filt L) s = fget L s
  | [], _, _ => rfl
  | (t, g) :: r, h, s => by
    obtain ⟨h1, h2⟩ := srt_tail h
    have ih := fget_filt h1 s
    rw [filt_cons]
    by_cases e : t = s
    · rw [fget, if_pos e]
      split
      · rename_i hg
        rw [gone_iff.1 hg]
        exact fget_none (fun hm => by
          obtain ⟨p, hp, hps⟩ := List.mem_map.1 hm
          have := h2 p (filt_mem hp).1
          rw [hps, ← e] at this
          exact List.lt_irrefl _ this)
      · rw [fget, if_pos e]
    · rw [fget, if_neg e]
      split
      · exact ih
      · rw [fget, if_neg e]; exact ih
theorem filt_rput : ∀ {L : List (List UInt8 × FV)} (_ : srt L) (s : List UInt8) (f : FV), filt (rput L s f) = fput (filt L) s f
  | [], _, s, f => by
    rw [rput, filt_cons, show filt [] = [] from rfl, fput]
  | (t, g) :: r, h, s, f => by
    obtain ⟨h1, h2⟩ := srt_tail h
    have ih := filt_rput h1 s f
    have low : ∀ {q : List UInt8}, ¬ q = t → q < t → ∀ r' : List (List UInt8 × FV), (∀ p ∈ r', t < p.1) → fput r' q f = if f.gone then r' else (q, f) :: r' := fun {q} hne hlt r' hr' => by
      cases r' with
      | nil => rw [fput]
      | cons p r'' =>
        obtain ⟨u, k⟩ := p
        have hu := hr' (u, k) (by simp)
        have hqu : q < u := List.lt_trans hlt hu
        rw [fput, if_neg (fun e => by rw [e] at hqu; exact List.lt_irrefl _ hqu), if_pos hqu]
    rw [rput, filt_cons]
    by_cases e : t = s
    · rw [if_pos e, filt_cons]
      subst e
      split
      · rename_i hf
        split
        · rename_i hg
          have hno : fput (filt r) t f = filt r := by
            rcases hr : filt r with _ | ⟨⟨u, k⟩, r'⟩
            · rw [fput, if_pos hf]
            · have hu := h2 (u, k) (filt_mem (L := r) (by rw [hr]; simp)).1
              rw [fput, if_neg (fun e => by rw [e] at hu; exact List.lt_irrefl _ hu), if_pos hu, if_pos hf]
          rw [hno]
        · rw [fput, if_pos rfl, if_pos hf]
      · rename_i hf
        split
        · have hno : fput (filt r) t f = (t, f) :: filt r := by
            rcases hr : filt r with _ | ⟨⟨u, k⟩, r'⟩
            · rw [fput, if_neg hf]
            · have hu := h2 (u, k) (filt_mem (L := r) (by rw [hr]; simp)).1
              rw [fput, if_neg (fun e => by rw [e] at hu; exact List.lt_irrefl _ hu), if_pos hu, if_neg hf]
          rw [hno]
        · rw [fput, if_pos rfl, if_neg hf]
    · rw [if_neg e]
      by_cases hlt : s < t
      · rw [if_pos hlt, filt_cons, filt_cons]
        by_cases hg : g.gone = true
        · rw [if_pos hg, low (fun q => e q.symm) hlt (filt r) (fun p hp => h2 p (filt_mem hp).1)]
        · rw [if_neg hg, fput, if_neg e, if_pos hlt]
      · rw [if_neg hlt, filt_cons]
        by_cases hg : g.gone = true
        · rw [if_pos hg, if_pos hg]; exact ih
        · rw [if_neg hg, if_neg hg, fput, if_neg e, if_neg hlt, ih]
theorem tot_filt : ∀ L : List (List UInt8 × FV), tot (filt L) = tot L
  | [] => rfl
  | (t, g) :: r => by
    rw [filt_cons]
    split
    · rename_i hg
      rw [tot_filt r, tot, (gone_len.1 hg).1, Nat.zero_add]
    · rw [tot, tot, tot_filt r]
theorem tell_filt : ∀ L : List (List UInt8 × FV), tell (filt L) = tell L
  | [] => rfl
  | (t, g) :: r => by
    rw [filt_cons]
    split
    · rename_i hg
      rw [tell_filt r, tell, if_pos (by rw [gone_iff.1 hg]; rfl)]
    · rw [tell, tell, tell_filt r]
theorem stay_fz (ks : List Bool) (i : Nat) : stay ks fz i = ([], i) := rfl
theorem aft_filt (ks : List Bool) : ∀ (L : List (List UInt8 × FV)) (i : Nat), aft ks (filt L) i = aft ks L i
  | [], _ => rfl
  | (t, g) :: r, i => by
    rw [filt_cons]
    split
    · rename_i hg
      rw [aft_filt ks r i, aft, gone_iff.1 hg]
      simp only [stay_fz, if_true]
    · rw [aft, aft]
      simp only [aft_filt ks r]
theorem filt_all {l : List (List UInt8 × List UInt8)} (h : ∀ x ∈ l, x.2 ≠ []) : filt (allS l) = allS l := by
  unfold filt
  rw [List.filter_eq_self]
  intro p hp
  obtain ⟨x, hx, rfl⟩ := List.mem_map.1 hp
  have := h x hx
  cases hq : (⟨x.2, x.2⟩ : FV).gone
  · rfl
  · exact absurd (List.length_eq_zero_iff.1 (gone_len.1 hq).1) this
/-- The document's disk. -/
structure RV where
  room : Nat
  L : List (List UInt8 × FV)
  cnt : Nat
  fk : Int
  ks : List Bool
  left : Nat
  out : Bool
/-- An act of the document's disk. -/
def ract (V : RV) (s : List UInt8) (f : FV) : RV × Int :=
  let k : Int := if V.left = 1 then V.fk else 0
  let V2 : RV := { V with cnt := V.cnt + 1, left := V.left - 1 }
  let V3 : RV := if k = 0 ∨ k = 3 ∨ k = 5 then { V2 with L := rput V2.L s f } else V2
  if k = 1 ∨ k = 3 then (V3, 171) else if k = 2 then (V3, 172) else if k = 4 ∨ k = 5 then ({ V3 with L := allS (aft V.ks V3.L 0), out := true }, 170) else (V3, 0)
/-- Both are one. -/
structure Sim (D : DV) (V : RV) : Prop where
  L : D.L = filt V.L
  srt : srt V.L
  acts : D.acts = V.cnt
  down : D.down = V.out
  room : V.out = false → D.free + tot V.L = V.room
  gone : V.out = true → ∃ l : List (List UInt8 × List UInt8), V.L = allS l ∧ ∀ x ∈ l, x.2 ≠ []
  fate : (V.left = 0 ∧ D.fk = 0) ∨ (0 < V.left ∧ D.fk = V.fk ∧ D.fa = (V.left : Int) ∧ D.ks = V.ks ∧ 1 ≤ V.fk ∧ V.fk ≤ 5)
/-- Putting a file. -/
theorem Sim.put {D : DV} {V : RV} (h : Sim D V) (ho : V.out = false) (s : List UInt8) (f : FV) (hf : f.now.length ≤ D.free + (fget D.L s).now.length) : Sim (dput D s f) { V with L := rput V.L s f } := by
  refine ⟨?_, srt_rput h.srt s f, h.acts, h.down, fun _ => ?_, fun q => absurd (show V.out = true from q) (by rw [ho]; decide), h.fate⟩
  · show fput D.L s f = filt (rput V.L s f)
    rw [filt_rput h.srt, h.L]
  · show D.free + (fget D.L s).now.length - f.now.length + tot (rput V.L s f) = V.room
    have e1 := tot_put (ord_filt h.srt) s f
    rw [← filt_rput h.srt, tot_filt, tot_filt] at e1
    have e2 := h.room ho
    rw [h.L] at hf ⊢
    omega
theorem Sim.goes {D : DV} {V : RV} (h : Sim D V) (ks : List Bool) : Sim (downD D ks) { V with L := allS (aft ks V.L 0), out := true } := by
  have hs := aft_sor ks V.L 0 h.srt
  refine ⟨?_, ?_, h.acts, rfl, fun ho => (by cases ho), fun _ => ⟨_, rfl, hs.2⟩, h.fate⟩
  · show layL (aft ks D.L 0) = filt (allS (aft ks V.L 0))
    rw [h.L, aft_filt, lay_sor _ hs, filt_all hs.2]
  · show (allS (aft ks V.L 0)).Pairwise _
    unfold allS
    rw [List.pairwise_map]
    exact hs.1
theorem Sim.act {D : DV} {V : RV} (h : Sim D V) (ho : V.out = false) (s : List UInt8) (f : FV) (hf : f.now.length ≤ D.free + (fget D.L s).now.length) : (actD D s f).2 = (ract V s f).2 ∧ Sim (actD D s f).1 (ract V s f).1 := by
  have base : ∀ (fa fk : Int) (ks : List Bool) (l : Nat), ((l = 0 ∧ fk = 0) ∨ (0 < l ∧ fk = V.fk ∧ fa = (l : Int) ∧ ks = V.ks ∧ 1 ≤ V.fk ∧ V.fk ≤ 5)) → Sim { D with acts := D.acts + 1, fa := fa, fk := fk, ks := ks } { V with cnt := V.cnt + 1, left := l } := fun fa fk ks l hl =>
    ⟨h.L, h.srt, by show D.acts + 1 = V.cnt + 1; rw [h.acts], h.down, h.room, h.gone, hl⟩
  rcases h.fate with ⟨f1, f2⟩ | ⟨f1, f2, f3, f4, f5, f6⟩
  · have em : metD { D with acts := D.acts + 1 } = ({ D with acts := D.acts + 1 }, 0, []) := by
      unfold metD
      rw [if_pos (show D.fk = 0 from f2)]
    have ea : actD D s f = (dput { D with acts := D.acts + 1 } s f, 0) := by
      unfold actD
      rw [em]
      rfl
    have er : ract V s f = ({ V with cnt := V.cnt + 1, left := V.left - 1, L := rput V.L s f }, 0) := by
      unfold ract
      rw [if_neg (show ¬ V.left = 1 by omega)]
      rfl
    rw [ea, er]
    refine ⟨rfl, ?_⟩
    exact (base D.fa D.fk D.ks (V.left - 1) (.inl ⟨by omega, f2⟩)).put ho s f hf
  · by_cases hl : V.left = 1
    · have em : metD { D with acts := D.acts + 1 } = ({ D with acts := D.acts + 1, fa := 0, fk := 0, ks := [] }, V.fk, V.ks) := by
        unfold metD
        rw [if_neg (show ¬ D.fk = 0 by omega), if_neg (show ¬ 1 < D.fa by omega)]
        simp only [f2, f4]
      have b := base 0 0 [] (V.left - 1) (.inl ⟨by omega, rfl⟩)
      have hk : V.fk = 1 ∨ V.fk = 2 ∨ V.fk = 3 ∨ V.fk = 4 ∨ V.fk = 5 := by omega
      clear base
      obtain ⟨rm, L0, c0, fk0, ks0, lf0, ot0⟩ := V
      simp only at hl hk em b ho
      unfold actD ract
      rw [em, if_pos hl]
      rcases hk with hk | hk | hk | hk | hk <;> subst hk
      · exact ⟨rfl, b⟩
      · exact ⟨rfl, b⟩
      · exact ⟨rfl, b.put ho s f hf⟩
      · exact ⟨rfl, b.goes ks0⟩
      · exact ⟨rfl, (b.put ho s f hf).goes ks0⟩
    · have em : metD { D with acts := D.acts + 1 } = ({ D with acts := D.acts + 1, fa := D.fa - 1 }, 0, []) := by
        unfold metD
        rw [if_neg (show ¬ D.fk = 0 by omega), if_pos (show 1 < D.fa by omega)]
      have ea : actD D s f = (dput { D with acts := D.acts + 1, fa := D.fa - 1 } s f, 0) := by
        unfold actD
        rw [em]
        rfl
      have er : ract V s f = ({ V with cnt := V.cnt + 1, left := V.left - 1, L := rput V.L s f }, 0) := by
        unfold ract
        rw [if_neg hl]
        rfl
      rw [ea, er]
      exact ⟨rfl, (base (D.fa - 1) D.fk D.ks (V.left - 1) (.inr ⟨by omega, f2, by omega, f4, f5, f6⟩)).put ho s f hf⟩
/-- Write, Cut, Sync, Lay of the document's disk. -/
def rwr (V : RV) (s : List UInt8) (off : Int) (t : List UInt8) : RV × Int :=
  if V.out then (V, 170) else
  if off < 0 ∨ ((fget V.L s).now.length : Int) < off ∨ 268435456 - off < (t.length : Int) then (V, 173) else
  if 0 < off + (t.length : Int) - ((fget V.L s).now.length : Int) ∧ (V.room : Int) < (tot V.L : Int) + (off + (t.length : Int) - ((fget V.L s).now.length : Int)) then (V, 172) else
  ract V s ⟨wr (fget V.L s).now off.toNat t, (fget V.L s).syn⟩
def rcut (V : RV) (s : List UInt8) (off : Int) : RV × Int :=
  if V.out then (V, 170) else if off < 0 ∨ ((fget V.L s).now.length : Int) < off then (V, 173) else ract V s ⟨(fget V.L s).now.take off.toNat, (fget V.L s).syn⟩
def rsyn (V : RV) (s : List UInt8) : RV × Int := if V.out then (V, 170) else ract V s ⟨(fget V.L s).now, (fget V.L s).now⟩
def rlay (V : RV) (a k : Int) (ks : List Bool) : RV := if V.out then V else if 1 ≤ k ∧ k ≤ 5 ∧ 1 ≤ a then { V with fk := k, ks := ks, left := a.toNat } else { V with fk := 0, ks := [], left := 0 }
theorem Sim.get {D : DV} {V : RV} (h : Sim D V) (s : List UInt8) : fget D.L s = fget V.L s := by rw [h.L, fget_filt h.srt]
theorem Sim.write {D : DV} {V : RV} (h : Sim D V) (s : List UInt8) (off : Int) (t : List UInt8) : (wrD D s off t).2 = (rwr V s off t).2 ∧ Sim (wrD D s off t).1 (rwr V s off t).1 := by
  unfold wrD rwr
  rw [h.down, h.get]
  split
  · exact ⟨rfl, h⟩
  · rename_i ho
    have hr := h.room (by simpa using ho)
    split
    · exact ⟨rfl, h⟩
    · rename_i hp
      have e : ((D.free : Int) < off + (t.length : Int) - ((fget V.L s).now.length : Int)) ↔ (0 < off + (t.length : Int) - ((fget V.L s).now.length : Int) ∧ (V.room : Int) < (tot V.L : Int) + (off + (t.length : Int) - ((fget V.L s).now.length : Int))) := by omega
      by_cases hc : (D.free : Int) < off + (t.length : Int) - ((fget V.L s).now.length : Int)
      · rw [if_pos hc, if_pos (e.1 hc)]
        exact ⟨rfl, h⟩
      · rw [if_neg hc, if_neg (fun q => hc (e.2 q))]
        refine h.act (by simpa using ho) s _ ?_
        rw [h.get]
        show (wr (fget V.L s).now off.toNat t).length ≤ _
        rw [wr_len _ _ _ (by omega)]
        omega
theorem Sim.cut {D : DV} {V : RV} (h : Sim D V) (s : List UInt8) (off : Int) : (cutD D s off).2 = (rcut V s off).2 ∧ Sim (cutD D s off).1 (rcut V s off).1 := by
  unfold cutD rcut
  rw [h.down, h.get]
  split
  · exact ⟨rfl, h⟩
  · rename_i ho
    split
    · exact ⟨rfl, h⟩
    · refine h.act (by simpa using ho) s _ ?_
      rw [h.get]
      show ((fget V.L s).now.take off.toNat).length ≤ _
      rw [List.length_take]
      omega
theorem Sim.sync {D : DV} {V : RV} (h : Sim D V) (s : List UInt8) : (synD D s).2 = (rsyn V s).2 ∧ Sim (synD D s).1 (rsyn V s).1 := by
  unfold synD rsyn
  rw [h.down, h.get]
  split
  · exact ⟨rfl, h⟩
  · rename_i ho
    refine h.act (by simpa using ho) s _ ?_
    rw [h.get]
    show (fget V.L s).now.length ≤ _
    omega
theorem Sim.lay {D : DV} {V : RV} (h : Sim D V) (a k : Int) (ks : List Bool) : Sim (layD D a k ks) (rlay V a k ks) := by
  unfold layD rlay
  rw [h.down]
  split
  · exact h
  · by_cases hc : 1 ≤ k ∧ k ≤ 5 ∧ 1 ≤ a
    · rw [if_pos hc, if_pos ⟨hc.2.2, hc.1, hc.2.1⟩]
      refine ⟨h.L, h.srt, h.acts, rfl, h.room, h.gone, .inr ⟨?_, rfl, ?_, rfl, hc.1, hc.2.1⟩⟩
      · show 0 < a.toNat; omega
      · show a = ((a.toNat : Nat) : Int); omega
    · rw [if_neg hc, if_neg (fun q => hc ⟨q.2.1, q.2.2, q.1⟩)]
      exact ⟨h.L, h.srt, h.acts, rfl, h.room, h.gone, .inl ⟨rfl, rfl⟩⟩
/-- What the document's After tells. -/
def raf (V : RV) (ks : List Bool) : List (List UInt8 × List UInt8) := if V.out then tell V.L else aft ks V.L 0
theorem Sim.aft {D : DV} {V : RV} (h : Sim D V) (ks : List Bool) : aft ks D.L 0 = raf V ks := by
  unfold raf
  rw [h.L, aft_filt]
  split
  · rename_i ho
    obtain ⟨l, hl, hne⟩ := h.gone ho
    rw [hl, aft_all ks l 0 hne, tell_all l hne]
  · rfl
theorem Sim.tell {D : DV} {V : RV} (h : Sim D V) : tell D.L = tell V.L := by rw [h.L, tell_filt]
end Go.Proofs.Ytmhedhhbdpdafab
