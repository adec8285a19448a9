/-
  Own work: QSpec, QMem, QUse.
-/
import Derived.Test.YthfnpagangjpbabGreatV40
namespace Go.Proofs.YthfnpagangjpbabGreat
def srt (L : List (List UInt8 × FV)) : Prop := L.Pairwise (fun a b => a.1 < b.1)
def rput : List (List UInt8 × FV) → List UInt8 → FV → List (List UInt8 × FV)
  | [], s, f => [(s, f)]
  | (t, g) :: r, s, f => if t = s then (s, f) :: r else if s < t then (s, f) :: (t, g) :: r else (t, g) :: rput r s f
def filt (L : List (List UInt8 × FV)) : List (List UInt8 × FV) := L.filter (fun p => !p.2.gone)
theorem srt_tail {p : List UInt8 × FV} {r : List (List UInt8 × FV)} (h : srt (p :: r)) : srt r ∧ ∀ q ∈ r, p.1 < q.1 := ⟨(List.pairwise_cons.1 h).2, (List.pairwise_cons.1 h).1⟩
theorem rput_mem {L : List (List UInt8 × FV)} {s : List UInt8} {f : FV} {p : List UInt8 × FV} (h : p ∈ rput L s f) : p ∈ L ∨ p = (s, f) := by
  induction L with
  | nil => exact .inr (by simpa [rput] using h)
  | cons q r ih =>
    obtain ⟨t, g⟩ := q
    rw [rput] at h
    split at h
    · rcases List.mem_cons.1 h with h | h
      · exact .inr h
      · exact .inl (List.mem_cons_of_mem _ h)
    · split at h
      · rcases List.mem_cons.1 h with h | h
        · exact .inr h
        · exact .inl h
      · rcases List.mem_cons.1 h with h | h
        · exact .inl (by rw [h]; simp)
        · rcases ih h with h | h
          · exact .inl (List.mem_cons_of_mem _ h)
          · exact .inr h
theorem srt_rput {L : List (List UInt8 × FV)} (h : srt L) (s : List UInt8) (f : FV) : srt (rput L s f) := by
  induction L with
  | nil => simp [rput, srt]
  | cons q r ih =>
    obtain ⟨t, g⟩ := q
    obtain ⟨h1, h2⟩ := srt_tail h
    rw [rput]
    split
    · rename_i e
      exact List.pairwise_cons.2 ⟨fun p hp => by have := h2 p hp; rw [← e]; exact this, h1⟩
    · rename_i e
      split
      · rename_i hlt
        exact List.pairwise_cons.2 ⟨fun p hp => by
          rcases List.mem_cons.1 hp with rfl | hp
          · exact hlt
          · exact List.lt_trans hlt (h2 p hp), h⟩
      · rename_i hlt
        refine List.pairwise_cons.2 ⟨fun p hp => ?_, ih h1⟩
        rcases rput_mem hp with hp | rfl
        · exact h2 p hp
        · exact lt_of e hlt
theorem filt_cons (t : List UInt8) (g : FV) (r : List (List UInt8 × FV)) : filt ((t, g) :: r) = if g.gone then filt r else (t, g) :: filt r := by
  unfold filt
  rw [List.filter_cons]
  cases g.gone <;> rfl
theorem filt_mem {L : List (List UInt8 × FV)} {p : List UInt8 × FV} (h : p ∈ filt L) : p ∈ L ∧ p.2.gone = false := by
  have := List.mem_filter.1 h
  exact ⟨this.1, by simpa using this.2⟩
theorem ord_filt {L : List (List UInt8 × FV)} (h : srt L) : Ord (filt L) := ⟨h.sublist List.filter_sublist, fun _ hp => (filt_mem hp).2⟩
theorem fget_filt : ∀ {L : List (List UInt8 × FV)} (_ : srt L) (s : List UInt8), fget (filt L) s = fget L s
  | [], _, _ => rfl
  | (t, g) :: r, h, s => by
    obtain ⟨h1, h2⟩ := srt_tail h
    have ih := fget_filt h1 s
    rw [filt_cons]
    by_cases e : t = s
    · rw [fget, if_pos e]
      split
      · rename_i hg
        rw [gone_iff.1 hg]
        exact fget_none (fun hm => by
          obtain ⟨p, hp, hps⟩ := List.mem_map.1 hm
          have := h2 p (filt_mem hp).1
          rw [hps, ← e] at this
          exact List.lt_irrefl _ this)
      · rw [fget, if_pos e]
    · rw [fget, if_neg e]
      split
      · exact ih
      · rw [fget, if_neg e]; exact ih
theorem filt_rput : ∀ {L : List (List UInt8 × FV)} (_ : srt L) (s : List UInt8) (f : FV), filt (rput L s f) = fput (filt L) s f
  | [], _, s, f => by
    rw [rput, filt_cons, show filt [] = [] from rfl, fput]
  | (t, g) :: r, h, s, f => by
    obtain ⟨h1, h2⟩ := srt_tail h
    have ih := filt_rput h1 s f
    have low : ∀ {q : List UInt8}, ¬ q = t → q < t → ∀ r' : List (List UInt8 × FV), (∀ p ∈ r', t < p.1) → fput r' q f = if f.gone then r' else (q, f) :: r' := fun {q} hne hlt r' hr' => by
      cases r' with
      | nil => rw [fput]
      | cons p r'' =>
        obtain ⟨u, k⟩ := p
        have hu := hr' (u, k) (by simp)
        have hqu : q < u := List.lt_trans hlt hu
        rw [fput, if_neg (fun e => by rw [e] at hqu; exact List.lt_irrefl _ hqu), if_pos hqu]
    rw [rput, filt_cons]
    by_cases e : t = s
    · rw [if_pos e, filt_cons]
      subst e
      split
      · rename_i hf
        split
        · rename_i hg
          have hno : fput (filt r) t f = filt r := by
            rcases hr : filt r with _ | ⟨⟨u, k⟩, r'⟩
            · rw [fput, if_pos hf]
            · have hu := h2 (u, k) (filt_mem (L := r) (by rw [hr]; simp)).1
              rw [fput, if_neg (fun e => by rw [e] at hu; exact List.lt_irrefl _ hu), if_pos hu, if_pos hf]
          rw [hno]
        · rw [fput, if_pos rfl, if_pos hf]
      · rename_i hf
        split
        · have hno : fput (filt r) t f = (t, f) :: filt r := by
            rcases hr : filt r with _ | ⟨⟨u, k⟩, r'⟩
            · rw [fput, if_neg hf]
            · have hu := h2 (u, k) (filt_mem (L := r) (by rw [hr]; simp)).1
              rw [fput, if_neg (fun e => by rw [e] at hu; exact List.lt_irrefl _ hu), if_pos hu, if_neg hf]
          rw [hno]
        · rw [fput, if_pos rfl, if_neg hf]
    · rw [if_neg e]
      by_cases hlt : s < t
      · rw [if_pos hlt, filt_cons, filt_cons]
        by_cases hg : g.gone = true
        · rw [if_pos hg, low (fun q => e q.symm) hlt (filt r) (fun p hp => h2 p (filt_mem hp).1)]
        · rw [if_neg hg, fput, if_neg e, if_pos hlt]
      · rw [if_neg hlt, filt_cons]
        by_cases hg : g.gone = true
        · rw [if_pos hg, if_pos hg]; exact ih
        · rw [if_neg hg, if_neg hg, fput, if_neg e, if_neg hlt, ih]
theorem tot_filt : ∀ L : List (List UInt8 × FV), tot (filt L) = tot L
  | [] => rfl
  | (t, g) :: r => by
    rw [filt_cons]
    split
    · rename_i hg
      rw [tot_filt r, tot, (gone_len.1 hg).1, Nat.zero_add]
    · rw [tot, tot, tot_filt r]
theorem tell_filt : ∀ L : List (List UInt8 × FV), tell (filt L) = tell L
  | [] => rfl
  | (t, g) :: r => by
    rw [filt_cons]
    split
    · rename_i hg
      rw [tell_filt r, tell, if_pos (by rw [gone_iff.1 hg]; rfl)]
    · rw [tell, tell, tell_filt r]
theorem stay_fz (ks : List Bool) (i : Nat) : stay ks fz i = ([], i) := rfl
theorem aft_filt (ks : List Bool) : ∀ (L : List (List UInt8 × FV)) (i : Nat), aft ks (filt L) i = aft ks L i
  | [], _ => rfl
  | (t, g) :: r, i => by
    rw [filt_cons]
    split
    · rename_i hg
      rw [aft_filt ks r i, aft, gone_iff.1 hg]
      simp only [stay_fz, if_true]
    · rw [aft, aft]
      simp only [aft_filt ks r]
theorem filt_all {l : List (List UInt8 × List UInt8)} (h : ∀ x ∈ l, x.2 ≠ []) : filt (allS l) = allS l := by
  unfold filt
  rw [List.filter_eq_self]
  intro p hp
  obtain ⟨x, hx, rfl⟩ := List.mem_map.1 hp
  have := h x hx
  cases hq : (⟨x.2, x.2⟩ : FV).gone
  · rfl
  · exact absurd (List.length_eq_zero_iff.1 (gone_len.1 hq).1) this
structure RV where
  room : Nat
  L : List (List UInt8 × FV)
  cnt : Nat
  fk : Int
  ks : List Bool
  left : Nat
  out : Bool
def ract (V : RV) (s : List UInt8) (f : FV) : RV × Int :=
  let k : Int := if V.left = 1 then V.fk else 0
  let V2 : RV := { V with cnt := V.cnt + 1, left := V.left - 1 }
  let V3 : RV := if k = 0 ∨ k = 3 ∨ k = 5 then { V2 with L := rput V2.L s f } else V2
  if k = 1 ∨ k = 3 then (V3, 171) else if k = 2 then (V3, 172) else if k = 4 ∨ k = 5 then ({ V3 with L := allS (aft V.ks V3.L 0), out := true }, 170) else (V3, 0)
structure Sim (D : DV) (V : RV) : Prop where
  L : D.L = filt V.L
  srt : srt V.L
  acts : D.acts = V.cnt
  down : D.down = V.out
  room : V.out = false → D.free + tot V.L = V.room
  gone : V.out = true → ∃ l : List (List UInt8 × List UInt8), V.L = allS l ∧ ∀ x ∈ l, x.2 ≠ []
  fate : (V.left = 0 ∧ D.fk = 0) ∨ (0 < V.left ∧ D.fk = V.fk ∧ D.fa = (V.left : Int) ∧ D.ks = V.ks ∧ 1 ≤ V.fk ∧ V.fk ≤ 5)
theorem Sim.put {D : DV} {V : RV} (h : Sim D V) (ho : V.out = false) (s : List UInt8) (f : FV) (hf : f.now.length ≤ D.free + (fget D.L s).now.length) : Sim (dput D s f) { V with L := rput V.L s f } := by
  refine ⟨?_, srt_rput h.srt s f, h.acts, h.down, fun _ => ?_, fun q => absurd (show V.out = true from q) (by rw [ho]; decide), h.fate⟩
  · show fput D.L s f = filt (rput V.L s f)
    rw [filt_rput h.srt, h.L]
  · show D.free + (fget D.L s).now.length - f.now.length + tot (rput V.L s f) = V.room
    have e1 := tot_put (ord_filt h.srt) s f
    rw [← filt_rput h.srt, tot_filt, tot_filt] at e1
    have e2 := h.room ho
    rw [h.L] at hf ⊢
    omega
theorem Sim.goes {D : DV} {V : RV} (h : Sim D V) (ks : List Bool) : Sim (downD D ks) { V with L := allS (aft ks V.L 0), out := true } := by
  have hs := aft_sor ks V.L 0 h.srt
  refine ⟨?_, ?_, h.acts, rfl, fun ho => (by cases ho), fun _ => ⟨_, rfl, hs.2⟩, h.fate⟩
  · show layL (aft ks D.L 0) = filt (allS (aft ks V.L 0))
    rw [h.L, aft_filt, lay_sor _ hs, filt_all hs.2]
  · show (allS (aft ks V.L 0)).Pairwise _
    unfold allS
    rw [List.pairwise_map]
    exact hs.1
theorem Sim.act {D : DV} {V : RV} (h : Sim D V) (ho : V.out = false) (s : List UInt8) (f : FV) (hf : f.now.length ≤ D.free + (fget D.L s).now.length) : (actD D s f).2 = (ract V s f).2 ∧ Sim (actD D s f).1 (ract V s f).1 := by
  have base : ∀ (fa fk : Int) (ks : List Bool) (l : Nat), ((l = 0 ∧ fk = 0) ∨ (0 < l ∧ fk = V.fk ∧ fa = (l : Int) ∧ ks = V.ks ∧ 1 ≤ V.fk ∧ V.fk ≤ 5)) → Sim { D with acts := D.acts + 1, fa := fa, fk := fk, ks := ks } { V with cnt := V.cnt + 1, left := l } := fun fa fk ks l hl =>
    ⟨h.L, h.srt, by show D.acts + 1 = V.cnt + 1; rw [h.acts], h.down, h.room, h.gone, hl⟩
  rcases h.fate with ⟨f1, f2⟩ | ⟨f1, f2, f3, f4, f5, f6⟩
  · have em : metD { D with acts := D.acts + 1 } = ({ D with acts := D.acts + 1 }, 0, []) := by
      unfold metD
      rw [if_pos (show D.fk = 0 from f2)]
    have ea : actD D s f = (dput { D with acts := D.acts + 1 } s f, 0) := by
      unfold actD
      rw [em]
      rfl
    have er : ract V s f = ({ V with cnt := V.cnt + 1, left := V.left - 1, L := rput V.L s f }, 0) := by
      unfold ract
      rw [if_neg (show ¬ V.left = 1 by omega)]
      rfl
    rw [ea, er]
    refine ⟨rfl, ?_⟩
    exact (base D.fa D.fk D.ks (V.left - 1) (.inl ⟨by omega, f2⟩)).put ho s f hf
  · by_cases hl : V.left = 1
    · have em : metD { D with acts := D.acts + 1 } = ({ D with acts := D.acts + 1, fa := 0, fk := 0, ks := [] }, V.fk, V.ks) := by
        unfold metD
        rw [if_neg (show ¬ D.fk = 0 by omega), if_neg (show ¬ 1 < D.fa by omega)]
        simp only [f2, f4]
      have b := base 0 0 [] (V.left - 1) (.inl ⟨by omega, rfl⟩)
      have hk : V.fk = 1 ∨ V.fk = 2 ∨ V.fk = 3 ∨ V.fk = 4 ∨ V.fk = 5 := by omega
      clear base
      obtain ⟨rm, L0, c0, fk0, ks0, lf0, ot0⟩ := V
      simp only at hl hk em b ho
      unfold actD ract
      rw [em, if_pos hl]
      rcases hk with hk | hk | hk | hk | hk <;> subst hk
      · exact ⟨rfl, b⟩
      · exact ⟨rfl, b⟩
      · exact ⟨rfl, b.put ho s f hf⟩
      · exact ⟨rfl, b.goes ks0⟩
      · exact ⟨rfl, (b.put ho s f hf).goes ks0⟩
    · have em : metD { D with acts := D.acts + 1 } = ({ D with acts := D.acts + 1, fa := D.fa - 1 }, 0, []) := by
        unfold metD
        rw [if_neg (show ¬ D.fk = 0 by omega), if_pos (show 1 < D.fa by omega)]
      have ea : actD D s f = (dput { D with acts := D.acts + 1, fa := D.fa - 1 } s f, 0) := by
        unfold actD
        rw [em]
        rfl
      have er : ract V s f = ({ V with cnt := V.cnt + 1, left := V.left - 1, L := rput V.L s f }, 0) := by
        unfold ract
        rw [if_neg hl]
        rfl
      rw [ea, er]
      exact ⟨rfl, (base (D.fa - 1) D.fk D.ks (V.left - 1) (.inr ⟨by omega, f2, by omega, f4, f5, f6⟩)).put ho s f hf⟩
def rwr (V : RV) (s : List UInt8) (off : Int) (t : List UInt8) : RV × Int :=
  if V.out then (V, 170) else
  if off < 0 ∨ ((fget V.L s).now.length : Int) < off ∨ 268435456 - off < (t.length : Int) then (V, 173) else
  if 0 < off + (t.length : Int) - ((fget V.L s).now.length : Int) ∧ (V.room : Int) < (tot V.L : Int) + (off + (t.length : Int) - ((fget V.L s).now.length : Int)) then (V, 172) else
  ract V s ⟨wr (fget V.L s).now off.toNat t, (fget V.L s).syn⟩
def rcut (V : RV) (s : List UInt8) (off : Int) : RV × Int :=
  if V.out then (V, 170) else if off < 0 ∨ ((fget V.L s).now.length : Int) < off then (V, 173) else ract V s ⟨(fget V.L s).now.take off.toNat, (fget V.L s).syn⟩
def rsyn (V : RV) (s : List UInt8) : RV × Int := if V.out then (V, 170) else ract V s ⟨(fget V.L s).now, (fget V.L s).now⟩
def rlay (V : RV) (a k : Int) (ks : List Bool) : RV := if V.out then V else if 1 ≤ k ∧ k ≤ 5 ∧ 1 ≤ a then { V with fk := k, ks := ks, left := a.toNat } else { V with fk := 0, ks := [], left := 0 }
theorem Sim.get {D : DV} {V : RV} (h : Sim D V) (s : List UInt8) : fget D.L s = fget V.L s := by rw [h.L, fget_filt h.srt]
theorem Sim.write {D : DV} {V : RV} (h : Sim D V) (s : List UInt8) (off : Int) (t : List UInt8) : (wrD D s off t).2 = (rwr V s off t).2 ∧ Sim (wrD D s off t).1 (rwr V s off t).1 := by
  unfold wrD rwr
  rw [h.down, h.get]
  split
  · exact ⟨rfl, h⟩
  · rename_i ho
    have hr := h.room (by simpa using ho)
    split
    · exact ⟨rfl, h⟩
    · rename_i hp
      have e : ((D.free : Int) < off + (t.length : Int) - ((fget V.L s).now.length : Int)) ↔ (0 < off + (t.length : Int) - ((fget V.L s).now.length : Int) ∧ (V.room : Int) < (tot V.L : Int) + (off + (t.length : Int) - ((fget V.L s).now.length : Int))) := by omega
      by_cases hc : (D.free : Int) < off + (t.length : Int) - ((fget V.L s).now.length : Int)
      · rw [if_pos hc, if_pos (e.1 hc)]
        exact ⟨rfl, h⟩
      · rw [if_neg hc, if_neg (fun q => hc (e.2 q))]
        refine h.act (by simpa using ho) s _ ?_
        rw [h.get]
        show (wr (fget V.L s).now off.toNat t).length ≤ _
        rw [wr_len _ _ _ (by omega)]
        omega
theorem Sim.cut {D : DV} {V : RV} (h : Sim D V) (s : List UInt8) (off : Int) : (cutD D s off).2 = (rcut V s off).2 ∧ Sim (cutD D s off).1 (rcut V s off).1 := by
  unfold cutD rcut
  rw [h.down, h.get]
  split
  · exact ⟨rfl, h⟩
  · rename_i ho
    split
    · exact ⟨rfl, h⟩
    · refine h.act (by simpa using ho) s _ ?_
      rw [h.get]
      show ((fget V.L s).now.take off.toNat).length ≤ _
      rw [List.length_take]
      omega
theorem Sim.sync {D : DV} {V : RV} (h : Sim D V) (s : List UInt8) : (synD D s).2 = (rsyn V s).2 ∧ Sim (synD D s).1 (rsyn V s).1 := by
  unfold synD rsyn
  rw [h.down, h.get]
  split
  · exact ⟨rfl, h⟩
  · rename_i ho
    refine h.act (by simpa using ho) s _ ?_
    rw [h.get]
    show (fget V.L s).now.length ≤ _
    omega
theorem Sim.lay {D : DV} {V : RV} (h : Sim D V) (a k : Int) (ks : List Bool) : Sim (layD D a k ks) (rlay V a k ks) := by
  unfold layD rlay
  rw [h.down]
  split
  · exact h
  · by_cases hc : 1 ≤ k ∧ k ≤ 5 ∧ 1 ≤ a
    · rw [if_pos hc, if_pos ⟨hc.2.2, hc.1, hc.2.1⟩]
      refine ⟨h.L, h.srt, h.acts, rfl, h.room, h.gone, .inr ⟨?_, rfl, ?_, rfl, hc.1, hc.2.1⟩⟩
      · show 0 < a.toNat; omega
      · show a = ((a.toNat : Nat) : Int); omega
    · rw [if_neg hc, if_neg (fun q => hc ⟨q.2.1, q.2.2, q.1⟩)]
      exact ⟨h.L, h.srt, h.acts, rfl, h.room, h.gone, .inl ⟨rfl, rfl⟩⟩
def raf (V : RV) (ks : List Bool) : List (List UInt8 × List UInt8) := if V.out then tell V.L else aft ks V.L 0
theorem Sim.aft {D : DV} {V : RV} (h : Sim D V) (ks : List Bool) : aft ks D.L 0 = raf V ks := by
  unfold raf
  rw [h.L, aft_filt]
  split
  · rename_i ho
    obtain ⟨l, hl, hne⟩ := h.gone ho
    rw [hl, aft_all ks l 0 hne, tell_all l hne]
  · rfl
theorem Sim.tell {D : DV} {V : RV} (h : Sim D V) : tell D.L = tell V.L := by rw [h.L, tell_filt]
end Go.Proofs.YthfnpagangjpbabGreat
namespace Go.Proofs.YthfnpagangjpbabGreat
open Go.RowKit
theorem toList_loop (bs : ByteArray) : ∀ (n i : Nat) (r : List UInt8), bs.size - i = n → ByteArray.toList.loop bs i r = r.reverse ++ bs.data.toList.drop i := by
  intro n
  induction n with
  | zero =>
    intro i r h
    rw [ByteArray.toList.loop, if_neg (by omega)]
    rw [List.drop_eq_nil_of_le (by simp; exact (by omega : bs.size ≤ i)), List.append_nil]
  | succ n ih =>
    intro i r h
    have hi : i < bs.size := by omega
    rw [ByteArray.toList.loop, if_pos hi, ih (i + 1) _ (by omega)]
    have hl : i < bs.data.toList.length := by simp; exact hi
    rw [List.drop_eq_getElem_cons hl, List.reverse_cons, List.append_assoc]
    have : bs.get! i = bs.data.toList[i] := by
      show bs.data[i]! = _
      have hi2 : i < bs.data.size := hi
      rw [getElem!_pos bs.data i hi2]
      simp
    rw [this]; rfl
theorem toList_eq (bs : ByteArray) : bs.toList = bs.data.toList := by
  rw [ByteArray.toList, toList_loop bs bs.size 0 [] rfl]; rfl
theorem beq_ne {x y : ByteArray} (h : x ≠ y) : (x.toList == y.toList) = false := by
  rw [toList_eq, toList_eq]
  simp only [beq_eq_false_iff_ne, ne_eq]
  intro e
  exact h (ByteArray.ext (Array.toList_inj.1 e))
def cR (L : List (List UInt8 × FV)) : List Value := L.flatMap fun p => [Value.string ⟨p.1.toArray⟩, Value.string ⟨p.2.now.toArray⟩, Value.string ⟨p.2.syn.toArray⟩]
theorem cR_app (l k : List (List UInt8 × FV)) : cR (l ++ k) = cR l ++ cR k := by simp [cR]
abbrev f0 : List UInt8 × FV := ([], fz)
theorem cR_at : ∀ (l : List (List UInt8 × FV)) (j : Nat), j < l.length → (cR l)[j * 3]? = some (.string ⟨(l.getD j f0).1.toArray⟩) ∧ (cR l)[j * 3 + 1]? = some (.string ⟨(l.getD j f0).2.now.toArray⟩) ∧ (cR l)[j * 3 + 2]? = some (.string ⟨(l.getD j f0).2.syn.toArray⟩)
  | [], j, h => by simp at h
  | x :: r, 0, _ => ⟨rfl, rfl, rfl⟩
  | x :: r, j + 1, h => by
    have := cR_at r j (by simpa using h)
    rw [show (j + 1) * 3 = j * 3 + 3 by omega]
    exact this
theorem Tryz.infoR : (Tryz.prog.info? 59).map (fun i => (i.zero, i.size, i.bytes)) = some (some (.agg #[.string ⟨#[]⟩, .string ⟨#[]⟩, .string ⟨#[]⟩]), 3, 48) := by kernel_rfl
def OwnR (w : World) (B : Nat) (v : Value) (L : List (List UInt8 × FV)) : Prop := w.ownsRow B 59 3 v L.length (cR L)
structure RdR (w : World) (ao : Option Addr) (b : Nat) (l : List (List UInt8 × FV)) : Prop where
  ptr : 0 < l.length → ao = some ⟨b, 0, none⟩
  c0 : ∀ j, j < l.length → w.cell? ⟨b, j * 3, none⟩ = some (.string ⟨(l.getD j f0).1.toArray⟩)
  c1 : ∀ j, j < l.length → w.cell? ⟨b, j * 3 + 1, none⟩ = some (.string ⟨(l.getD j f0).2.now.toArray⟩)
  c2 : ∀ j, j < l.length → w.cell? ⟨b, j * 3 + 2, none⟩ = some (.string ⟨(l.getD j f0).2.syn.toArray⟩)
theorem RdR.lt {w : World} {ao : Option Addr} {b : Nat} {l : List (List UInt8 × FV)} (h : RdR w ao b l) (h0 : 0 < l.length) : b < w.heap.size := World.block_lt_of_cell? w _ (h.c0 0 h0)
theorem RdR.same {w W : World} {ao : Option Addr} {b : Nat} {l : List (List UInt8 × FV)} (h : RdR w ao b l) (hb : 0 < l.length → W.heap[b]? = w.heap[b]?) : RdR W ao b l :=
  ⟨h.ptr, fun j hj => (World.cell?_of_block (a := ⟨b, j * 3, none⟩) (hb (by omega))).trans (h.c0 j hj), fun j hj => (World.cell?_of_block (a := ⟨b, j * 3 + 1, none⟩) (hb (by omega))).trans (h.c1 j hj), fun j hj => (World.cell?_of_block (a := ⟨b, j * 3 + 2, none⟩) (hb (by omega))).trans (h.c2 j hj)⟩
theorem RdR.next {w W : World} {ao : Option Addr} {b : Nat} {l : List (List UInt8 × FV)} (h : RdR w ao b l) (hb : Below w.heap.size w W) : RdR W ao b l := h.same fun h0 => hb.block b (h.lt h0)
theorem ownR_rd {w : World} {B : Nat} {v : Value} {l : List (List UInt8 × FV)} (h : OwnR w B v l) : ∃ ao b cap, v = .slice ao l.length cap ∧ RdR w ao b l ∧ (0 < l.length → B ≤ b ∧ v.ownBlock = some b) := by
  rcases h.2 with ⟨e1, e2⟩ | ⟨g, cap, cur, e1, e2, hb, h1, h2, h3, h4⟩
  · refine ⟨none, 0, 0, by rw [e1, e2], ⟨fun h0 => ?_, fun j hj => ?_, fun j hj => ?_, fun j hj => ?_⟩, fun h0 => ?_⟩ <;> omega
  · have at' : ∀ i, i < l.length * 3 → w.cell? ⟨g, i, none⟩ = (cR l)[i]? := fun i hi => by
      rw [cell_of_row w g i cur _ (0, 0) hb]
      have := congrArg (fun x => x[i]?) h4
      simp only [List.getElem?_take, if_pos hi] at this
      rw [Array.getElem?_toList] at this
      exact this
    refine ⟨some ⟨g, 0, none⟩, g, cap, e1, ⟨fun _ => rfl, fun j hj => ?_, fun j hj => ?_, fun j hj => ?_⟩, fun _ => ⟨e2, by rw [e1]; rfl⟩⟩
    · rw [at' _ (by omega)]; exact (cR_at l j hj).1
    · rw [at' _ (by omega)]; exact (cR_at l j hj).2.1
    · rw [at' _ (by omega)]; exact (cR_at l j hj).2.2
theorem ownR_ty {w : World} {B : Nat} {v : Value} {l : List (List UInt8 × FV)} (h : OwnR w B v l) {g : Nat} (hg : v.ownBlock = some g) : Ty w g 59 := by
  rcases h.2 with ⟨e1, _⟩ | ⟨g', cap, cur, e1, _, hb, _⟩
  · rw [e1] at hg; cases hg
  · rw [e1] at hg; cases hg
    exact ⟨_, _, hb⟩
structure Rk (w : World) (p : Nat) (lv : Value) (ka : Option Addr) (kb ko kc : Nat) (V : RV) : Prop where
  blk : w.heap[p]? = some (.cells #[.int .i64 (V.room : Int), lv, .int .i64 (V.cnt : Int), .int .i64 0, .int .i64 V.fk, .slice ka V.ks.length kc, .int .i64 (V.left : Int), .bool V.out] 64 (0, 0))
  own : OwnR w 0 lv V.L
  kp : RdL w ka kb ko V.ks
  kt : 0 < V.ks.length → Ty w kb 4
  kl : V.ks.length ≤ 140737488355328
  rm : V.room ≤ 9223372036854775807
  ct : V.cnt ≤ 4611686018427387904
  lf : V.left ≤ 9223372036854775807
  srt : srt V.L
  nm : ∀ p ∈ V.L, p.1.length ≤ maxLen
  sz : ∀ p ∈ V.L, p.2.now.length ≤ 268435456 ∧ p.2.syn.length ≤ 268435456
  cn : V.L.length ≤ 1099511627776
def RFoot (p : Nat) (lv : Value) (kb : Nat) (V : RV) (x : Nat) : Prop := x = p ∨ lv.ownBlock = some x ∨ (0 < V.ks.length ∧ x = kb)
section
variable {w W : World} {p : Nat} {lv : Value} {ka : Option Addr} {kb ko kc : Nat} {V : RV}
theorem Rk.lt (h : Rk w p lv ka kb ko kc V) {x : Nat} (hx : RFoot p lv kb V x) : x < w.heap.size := by
  rcases hx with rfl | hx | ⟨h0, rfl⟩
  · exact (Array.getElem?_eq_some_iff.1 h.blk).1
  · exact (h.own.lt x hx).2
  · exact (h.kt h0).lt
theorem Rk.same (h : Rk w p lv ka kb ko kc V) (hb : ∀ x, RFoot p lv kb V x → W.heap[x]? = w.heap[x]?) : Rk W p lv ka kb ko kc V :=
  ⟨(hb p (.inl rfl)).trans h.blk, row_keep h.own (fun g hg => hb g (.inr (.inl hg))), h.kp.same (fun h0 => hb kb (.inr (.inr ⟨h0, rfl⟩))), fun h0 => (h.kt h0).same (hb kb (.inr (.inr ⟨h0, rfl⟩))), h.kl, h.rm, h.ct, h.lf, h.srt, h.nm, h.sz, h.cn⟩
theorem Rk.next (h : Rk w p lv ka kb ko kc V) (hb : Below w.heap.size w W) : Rk W p lv ka kb ko kc V := h.same fun x hx => hb.block x (h.lt hx)
theorem Rk.cells (h : Rk w p lv ka kb ko kc V) : w.cell? ⟨p, 0, none⟩ = some (.int .i64 (V.room : Int)) ∧ w.cell? ⟨p, 1, none⟩ = some lv ∧ w.cell? ⟨p, 2, none⟩ = some (.int .i64 (V.cnt : Int)) ∧ w.cell? ⟨p, 3, none⟩ = some (.int .i64 0) ∧ w.cell? ⟨p, 4, none⟩ = some (.int .i64 V.fk) ∧ w.cell? ⟨p, 5, none⟩ = some (.slice ka V.ks.length kc) ∧ w.cell? ⟨p, 6, none⟩ = some (.int .i64 (V.left : Int)) ∧ w.cell? ⟨p, 7, none⟩ = some (.bool V.out) :=
  ⟨by rw [cell_of_row w p 0 _ _ (0, 0) h.blk]; rfl, by rw [cell_of_row w p 1 _ _ (0, 0) h.blk]; rfl, by rw [cell_of_row w p 2 _ _ (0, 0) h.blk]; rfl, by rw [cell_of_row w p 3 _ _ (0, 0) h.blk]; rfl, by rw [cell_of_row w p 4 _ _ (0, 0) h.blk]; rfl, by rw [cell_of_row w p 5 _ _ (0, 0) h.blk]; rfl, by rw [cell_of_row w p 6 _ _ (0, 0) h.blk]; rfl, by rw [cell_of_row w p 7 _ _ (0, 0) h.blk]; rfl⟩
theorem Rk.frz (h : Rk w p lv ka kb ko kc V) (j : Nat) : w.frozen? ⟨p, j, none⟩ = false := frozen_of_row w p j _ _ h.blk
theorem Rk.pl (h : Rk w p lv ka kb ko kc V) {g : Nat} (hg : lv.ownBlock = some g) : g ≠ p := (ownR_ty h.own hg).ne ⟨_, _, h.blk⟩ (by decide)
theorem Rk.pk (h : Rk w p lv ka kb ko kc V) (h0 : 0 < V.ks.length) : kb ≠ p := (h.kt h0).ne ⟨_, _, h.blk⟩ (by decide)
end
set_option maxRecDepth 100000 in
set_option maxHeartbeats 2000000 in
theorem rget_any (w : World) {p : Nat} {lv : Value} {ka : Option Addr} {kb ko kc : Nat} {V : RV} (h : Rk w p lv ka kb ko kc V) (s : ByteArray) (nb sb : ByteArray) (hnb : (⟨(fget V.L s.data.toList).now.toArray⟩ : ByteArray) = nb) (hsb : (⟨(fget V.L s.data.toList).syn.toArray⟩ : ByteArray) = sb) :
    Calls Tryz.prog 79 #[.pointer (some ⟨p, 0, none⟩), .string s] w fun e w' => e = .returned (.agg #[.string s, .string nb, .string sb]) ∧ Below w.heap.size w w' := by
  obtain ⟨ao, b, cap, hv, rd, _⟩ := ownR_rd h.own
  obtain ⟨n, hn⟩ : ∃ n, V.L.length = n := ⟨_, rfl⟩
  rw [hn] at hv
  subst hv
  obtain ⟨w1, hw1⟩ : ∃ W, w.alloc (.cells #[.string ⟨#[]⟩, .string ⟨#[]⟩, .string ⟨#[]⟩] 59) = W := ⟨_, rfl⟩
  have HW1 := hide hw1
  have u1 : Below w.heap.size w w1 := by rw [← hw1]; exact bal (Below.refl _ _) _
  have k1 : w1.heap[w.heap.size]? = some (.cells #[.string ⟨#[]⟩, .string ⟨#[]⟩, .string ⟨#[]⟩] 59 (0, 0)) := by rw [← hw1]; exact new1 _ _
  have h1 := h.next u1
  obtain ⟨_, c1, _⟩ := h1.cells
  have r1 := rd.next u1
  obtain ⟨d0, d1, d2⟩ := three_at k1
  have fz' := fun i => frozen_of_row w1 w.heap.size i _ _ k1
  have HH : Hid (V.L.length = n ∧ n ≤ 1099511627776 ∧ (⟨(fget V.L s.data.toList).now.toArray⟩ : ByteArray) = nb ∧ (⟨(fget V.L s.data.toList).syn.toArray⟩ : ByteArray) = sb ∧ RdR w1 ao b V.L ∧ Below w.heap.size w w1 ∧ w1.heap[w.heap.size]? = some (.cells #[.string ⟨#[]⟩, .string ⟨#[]⟩, .string ⟨#[]⟩] 59 (0, 0))) := ⟨hn, by rw [← hn]; exact h.cn, hnb, hsb, r1, u1, k1⟩
  clear hw1 u1 h h1 rd r1 hn hnb hsb k1
  go_enter Tryz.func79, Tryz.ntmps79
  go_upto_region 1 with (fail)
  rw [HW1.out]
  go_wp2
  go_loopg [5] n (fun g y wr => ∃ j : Nat, j ≤ n ∧ g = n - j ∧ y = .int .i64 (j : Int) ∧ wr = w1 ∧ Hid (fget V.L s.data.toList = fget (V.L.drop j) s.data.toList))
  case atStart => exact ⟨0, Nat.zero_le _, rfl, rfl, rfl, rfl⟩
  case round =>
    obtain ⟨j, hj, rfl, rfl, hwr, HF⟩ := hrel
    rw [hwr]
    clear hwr wr
    by_cases hlt : j < n
    · obtain ⟨q1, q2, q3, q4, q5, q6, q7⟩ := HH.out
      obtain ⟨⟨t, f⟩, hx⟩ : ∃ x, V.L.getD j f0 = x := ⟨_, rfl⟩
      have e0 := q5.c0 j (by omega)
      have e1 := q5.c1 j (by omega)
      have e2 := q5.c2 j (by omega)
      rw [hx] at e0 e1 e2
      have hdr : V.L.drop j = (t, f) :: V.L.drop (j + 1) := by
        rw [List.drop_eq_getElem_cons (by omega), ← hx, List.getD_eq_getElem?_getD, List.getElem?_eq_getElem (by omega)]; rfl
      have ea := q5.ptr (by omega)
      subst ea
      obtain ⟨tb, htb⟩ : ∃ a : ByteArray, ⟨t.toArray⟩ = a := ⟨_, rfl⟩
      have htl : tb.data.toList = t := by rw [← htb]
      simp only at e0 e1 e2
      rw [htb] at e0
      have hi1 : (0 : Int) ≤ (j : Int) := by omega
      have hi2 : (j : Int) < (n : Int) := by omega
      have hw : IntKind.i64.wrap ((j : Int) + 1) = (j : Int) + 1 := by rw [IntKind.wrap_i64]; omega
      have HG : Hid (fget V.L s.data.toList = if t = s.data.toList then f else fget (V.L.drop (j + 1)) s.data.toList) := by rw [HF.out, hdr]; rfl
      by_cases hts : tb = s
      · subst hts
        have hf : fget V.L tb.data.toList = f := by rw [HG.out, if_pos htl.symm]
        rw [hf] at q3 q4
        rw [q3] at e1
        rw [q4] at e2
        have HB := hide (And.intro q6 q7)
        clear q1 q2 q3 q4 q5 q6 q7 hx hdr htb htl HF HG hf HW1 HH hlt
        have hs3 := three_at (set3_at HB.out.2 (.string tb) (.string nb) (.string sb))
        obtain ⟨s0, s1, s2⟩ := hs3
        repeat go_step
        refine bodyPost_ret (v := .agg #[.string tb, .string nb, .string sb]) (by simp [results, Tryz.results79, go_sem, s0, s1, s2]) rfl ⟨rfl, ?_⟩
        exact ((HB.out.1.setCell (Nat.le_refl _) _).setCell (Nat.le_refl _) _).setCell (Nat.le_refl _) _
      · have hne : ¬ t = s.data.toList := fun e => hts (ba_ext (by rw [htl, e]))
        have hbe := beq_ne hts
        clear q1 q2 q3 q4 q5 q6 q7 hx hdr htb htl HF
        go_wp2
        go_roundg (n - (j + 1))
        case rel =>
          go_light
          exact ⟨j + 1, by omega, rfl, by go_num, rfl, HG.out.trans (if_neg hne)⟩
        case measure => go_light; omega
    · obtain rfl : j = n := by omega
      have hz : ¬ ((j : Int) < (j : Int)) := by omega
      obtain ⟨q1, q2, q3, q4, q5, q6, q7⟩ := HH.out
      have hf : fget V.L s.data.toList = fz := by rw [HF.out, List.drop_of_length_le (by omega)]; rfl
      rw [hf] at q3 q4
      have HB := hide (And.intro q6 q7)
      have HE : Hid ((⟨#[]⟩ : ByteArray) = nb ∧ (⟨#[]⟩ : ByteArray) = sb) := ⟨q3, q4⟩
      clear q1 q2 q3 q4 q5 q6 q7 hf HF HH HW1 hlt
      obtain ⟨s0, s1, s2⟩ := three_at (set3_at HB.out.2 (.string s) (.string ⟨#[]⟩) (.string ⟨#[]⟩))
      repeat go_step
      refine bodyPost_ret (v := .agg #[.string s, .string ⟨#[]⟩, .string ⟨#[]⟩]) (by simp [results, Tryz.results79, go_sem, s0, s1, s2]) rfl ⟨?_, ?_⟩
      · rw [← HE.out.1, ← HE.out.2]
      · exact ((HB.out.1.setCell (Nat.le_refl _) _).setCell (Nat.le_refl _) _).setCell (Nat.le_refl _) _
end Go.Proofs.YthfnpagangjpbabGreat
namespace Go.Proofs.YthfnpagangjpbabGreat
open Go.RowKit
theorem tot_app (l k : List (List UInt8 × FV)) : tot (l ++ k) = tot l + tot k := by
  induction l with
  | nil => simp [tot]
  | cons x r ih => obtain ⟨t, f⟩ := x; simp only [List.cons_append, tot, ih]; omega
theorem tot_take (l : List (List UInt8 × FV)) (j : Nat) : tot (l.take j) ≤ tot l := by
  have := tot_app (l.take j) (l.drop j)
  rw [List.take_append_drop] at this
  omega
set_option maxRecDepth 100000 in
set_option maxHeartbeats 2000000 in
theorem rused_any (w : World) {p : Nat} {lv : Value} {ka : Option Addr} {kb ko kc : Nat} {V : RV} (h : Rk w p lv ka kb ko kc V) (ht : tot V.L ≤ 4611686018427387904) :
    Calls Tryz.prog 147 #[.pointer (some ⟨p, 0, none⟩)] w fun e w' => e = .returned (.int .i64 (tot V.L : Int)) ∧ w' = w := by
  obtain ⟨ao, b, cap, hv, rd, _⟩ := ownR_rd h.own
  obtain ⟨n, hn⟩ : ∃ n, V.L.length = n := ⟨_, rfl⟩
  rw [hn] at hv
  subst hv
  obtain ⟨_, c1, _⟩ := h.cells
  have HH : Hid (V.L.length = n ∧ n ≤ 1099511627776 ∧ RdR w ao b V.L ∧ tot V.L ≤ 4611686018427387904) := ⟨hn, by rw [← hn]; exact h.cn, rd, ht⟩
  clear h rd hn ht
  go_enter Tryz.func147, Tryz.ntmps147
  go_wp2
  go_loopg [3, 4] n (fun g x y wr => ∃ j : Nat, j ≤ n ∧ g = n - j ∧ y = .int .i64 (j : Int) ∧ x = .int .i64 (tot (V.L.take j) : Int) ∧ wr = w)
  case atStart => exact ⟨0, Nat.zero_le _, rfl, rfl, rfl, rfl⟩
  case round =>
    obtain ⟨j, hj, rfl, rfl, rfl, hwr⟩ := hrel
    rw [hwr]
    clear hwr wr
    by_cases hlt : j < n
    · obtain ⟨q1, q2, q3, q4⟩ := HH.out
      obtain ⟨⟨t, f⟩, hx⟩ : ∃ x, V.L.getD j f0 = x := ⟨_, rfl⟩
      have e1 := q3.c1 j (by omega)
      rw [hx] at e1
      have htk : V.L.take (j + 1) = V.L.take j ++ [(t, f)] := by rw [← hx]; exact take_snoc _ _ _ (by omega)
      have htt := tot_app (V.L.take j) [(t, f)]
      rw [← htk] at htt
      have hle := tot_take V.L (j + 1)
      have ea := q3.ptr (by omega)
      subst ea
      obtain ⟨nb, hnb⟩ : ∃ a : ByteArray, ⟨f.now.toArray⟩ = a := ⟨_, rfl⟩
      have hsz : nb.size = f.now.length := by rw [← size_list, ← hnb]
      simp only at e1
      rw [hnb] at e1
      obtain ⟨u, hu⟩ : ∃ u, tot (V.L.take j) = u := ⟨_, rfl⟩
      obtain ⟨u2, hu2⟩ : ∃ u, tot (V.L.take (j + 1)) = u := ⟨_, rfl⟩
      simp only [tot] at htt
      have hi1 : (0 : Int) ≤ (j : Int) := by omega
      have hi2 : (j : Int) < (n : Int) := by omega
      have hw : IntKind.i64.wrap ((j : Int) + 1) = (j : Int) + 1 := by rw [IntKind.wrap_i64]; omega
      have hw2 : IntKind.i64.wrap ((u : Int) + (nb.size : Int)) = (u2 : Int) := by rw [IntKind.wrap_i64]; omega
      have HU := hide hu2
      rw [hu]
      clear q1 q2 q3 q4 hx htk htt hle hnb hsz hu hu2
      go_wp2
      go_roundg (n - (j + 1))
      case rel =>
        go_light
        exact ⟨j + 1, by omega, rfl, by go_num, by rw [HU.out], rfl⟩
      case measure => go_light; omega
    · obtain rfl : j = n := by omega
      have hz : ¬ ((j : Int) < (j : Int)) := by omega
      have htk : V.L.take j = V.L := List.take_of_length_le (by have := HH.out.1; omega)
      rw [htk]
      clear htk hlt
      go_wp2
      go_ret
      exact ⟨rfl, rfl⟩
def pst (s : List UInt8) (f : FV) : List (List UInt8 × FV) × Bool → List UInt8 × FV → List (List UInt8 × FV) × Bool := fun a x =>
  let a1 := if !a.2 && !(decide (x.1 < s)) then (a.1 ++ [(s, f)], true) else a
  (if x.1 = s then a1.1 else a1.1 ++ [x], a1.2)
def pgo (s : List UInt8) (f : FV) (L : List (List UInt8 × FV)) : List (List UInt8 × FV) × Bool := L.foldl (pst s f) ([], false)
def pend (s : List UInt8) (f : FV) (a : List (List UInt8 × FV) × Bool) : List (List UInt8 × FV) := if a.2 then a.1 else a.1 ++ [(s, f)]
theorem pgo_snoc (s : List UInt8) (f : FV) (L : List (List UInt8 × FV)) (x : List UInt8 × FV) : pgo s f (L ++ [x]) = pst s f (pgo s f L) x := by simp [pgo]
theorem pgo_done (s : List UInt8) (f : FV) : ∀ (L : List (List UInt8 × FV)) (a : List (List UInt8 × FV)), (∀ p ∈ L, s < p.1) → L.foldl (pst s f) (a, true) = (a ++ L, true)
  | [], a, _ => by simp
  | x :: r, a, h => by
    have hx := h x (by simp)
    have hne : ¬ x.1 = s := fun e => by rw [e] at hx; exact List.lt_irrefl _ hx
    rw [List.foldl_cons]
    have e : pst s f (a, true) x = (a ++ [x], true) := by simp [pst, hne]
    rw [e, pgo_done s f r _ (fun p hp => h p (List.mem_cons_of_mem _ hp)), List.append_assoc]
    rfl
theorem pgo_put (s : List UInt8) (f : FV) : ∀ (L : List (List UInt8 × FV)) (a : List (List UInt8 × FV)), srt L → pend s f (L.foldl (pst s f) (a, false)) = a ++ rput L s f
  | [], a, _ => by simp [pend, rput]
  | (t, g) :: r, a, h => by
    obtain ⟨h1, h2⟩ := srt_tail h
    rw [List.foldl_cons, rput]
    by_cases e : t = s
    · have e1 : pst s f (a, false) (t, g) = (a ++ [(s, f)], true) := by simp [pst, e, List.lt_irrefl]
      rw [e1, if_pos e, pgo_done s f r _ (fun p hp => by rw [← e]; exact h2 p hp)]
      simp [pend]
    · rw [if_neg e]
      by_cases hlt : s < t
      · have hn : ¬ t < s := fun q => List.lt_irrefl _ (List.lt_trans q hlt)
        have e1 : pst s f (a, false) (t, g) = (a ++ [(s, f)] ++ [(t, g)], true) := by simp [pst, e, hn]
        rw [e1, if_pos hlt, pgo_done s f r _ (fun p hp => List.lt_trans hlt (h2 p hp))]
        simp [pend]
      · have hts : t < s := lt_of e hlt
        have e1 : pst s f (a, false) (t, g) = (a ++ [(t, g)], false) := by simp [pst, e, hts]
        rw [e1, if_neg hlt, pgo_put s f r _ h1]
        simp
theorem pgo_len (s : List UInt8) (f : FV) (L : List (List UInt8 × FV)) : (pgo s f L).1.length ≤ 2 * L.length := by
  suffices h : ∀ (L : List (List UInt8 × FV)) (a : List (List UInt8 × FV) × Bool), (L.foldl (pst s f) a).1.length ≤ a.1.length + 2 * L.length from by simpa [pgo] using h L ([], false)
  intro L
  induction L with
  | nil => intro a; simp
  | cons x r ih =>
    intro a
    rw [List.foldl_cons]
    have := ih (pst s f a x)
    have hs : (pst s f a x).1.length ≤ a.1.length + 2 := by
      unfold pst
      simp only
      split <;> split <;> simp
    simp only [List.length_cons]
    omega
end Go.Proofs.YthfnpagangjpbabGreat
