/-
  Acts that a fate may meet: what an Add and an Open leave. Own work.
-/
import Derived.Test.YthfnpagangjpbaaGreatYFStP
namespace Go.Proofs.YthfnpagangjpbaaGreat
open Rc
abbrev LL := List (List UInt8 × FV)
/-- A disk with power; R bytes in all. -/
structure Qf (R : Nat) (D : DV) : Prop where
  down : D.down = false
  ord : Ord D.L
  tot : D.free + tot D.L = R
theorem Qt.qf {R : Nat} {D : DV} (h : Qt R D) : Qf R D := ⟨h.down, h.ord, h.tot⟩
theorem Qf.qt {R : Nat} {D : DV} (h : Qf R D) (hk : D.fk = 0) : Qt R D := ⟨h.down, hk, h.ord, h.tot⟩
/-- What an act leaves. -/
def Af (R : Nat) (D : DV) (M : LL) (x : DV × Int) : Prop :=
  x.1.acts = D.acts + 1 ∧ (D.fk = 0 → x.1.fk = 0) ∧ ((x.2 = 0 ∧ Qf R x.1 ∧ x.1.L = M) ∨
    (x.2 ≠ 0 ∧ D.fk ≠ 0 ∧ ((Qf R x.1 ∧ (x.1.L = D.L ∨ x.1.L = M)) ∨ (x.1.down = true ∧ x.1.free ≤ R ∧ ∃ ks, x.1.L = layL (aft ks D.L 0) ∨ x.1.L = layL (aft ks M 0)))))
theorem act_f {R : Nat} {D : DV} (h : Qf R D) (s : List UInt8) (f : FV) (hf : f.now.length ≤ D.free + (fget D.L s).now.length) : Af R D (fput D.L s f) (actD D s f) := by
  have ht := tot_put h.ord s f
  have hT := h.tot
  have hR : D.free + (fget D.L s).now.length - f.now.length + tot (fput D.L s f) = R := by omega
  by_cases h0 : D.fk = 0
  · rw [actD_plain h0]
    exact ⟨rfl, fun _ => h0, .inl ⟨rfl, ⟨h.down, ord_fput h.ord s f, hR⟩, rfl⟩⟩
  · by_cases h1 : 1 < D.fa
    · have e : metD { D with acts := D.acts + 1 } = ({ D with acts := D.acts + 1, fa := D.fa - 1 }, 0, []) := by
        unfold metD
        rw [if_neg (show ¬ D.fk = 0 from h0), if_pos (show 1 < D.fa from h1)]
      have e2 : actD D s f = (dput { D with acts := D.acts + 1, fa := D.fa - 1 } s f, 0) := by unfold actD; rw [e]; rfl
      rw [e2]
      exact ⟨rfl, fun q => absurd q h0, .inl ⟨rfl, ⟨h.down, ord_fput h.ord s f, hR⟩, rfl⟩⟩
    · have e : metD { D with acts := D.acts + 1 } = ({ D with acts := D.acts + 1, fa := 0, fk := 0, ks := [] }, D.fk, D.ks) := by
        unfold metD
        rw [if_neg (show ¬ D.fk = 0 from h0), if_neg (show ¬ 1 < D.fa from h1)]
      have q1 : Qf R { D with acts := D.acts + 1, fa := 0, fk := 0, ks := [] } := ⟨h.down, h.ord, h.tot⟩
      have q2 : Qf R (dput { D with acts := D.acts + 1, fa := 0, fk := 0, ks := [] } s f) := ⟨h.down, ord_fput h.ord s f, hR⟩
      unfold actD
      rw [e]
      simp only
      split
      · exact ⟨rfl, fun _ => rfl, .inr ⟨(by decide : (171 : Int) ≠ 0), h0, .inl ⟨q1, .inl rfl⟩⟩⟩
      · split
        · exact ⟨rfl, fun _ => rfl, .inr ⟨(by decide : (172 : Int) ≠ 0), h0, .inl ⟨q1, .inl rfl⟩⟩⟩
        · split
          · exact ⟨rfl, fun _ => rfl, .inr ⟨(by decide : (170 : Int) ≠ 0), h0, .inr ⟨rfl, by show D.free ≤ R; omega, D.ks, .inl rfl⟩⟩⟩
          · split
            · exact ⟨rfl, fun _ => rfl, .inr ⟨(by decide : (171 : Int) ≠ 0), h0, .inl ⟨q2, .inr rfl⟩⟩⟩
            · split
              · exact ⟨rfl, fun _ => rfl, .inr ⟨(by decide : (170 : Int) ≠ 0), h0, .inr ⟨rfl, by show D.free + (fget D.L s).now.length - f.now.length ≤ R; omega, D.ks, .inr rfl⟩⟩⟩
              · exact ⟨rfl, fun _ => rfl, .inl ⟨rfl, q2, rfl⟩⟩
/-- One act, from P to Q. -/
def Stp (R : Nat) (P Q : LL → Prop) (f : DV → DV × Int) : Prop := ∀ D, Qf R D → P D.L → (∃ s g, f D = actD D s g ∧ g.now.length ≤ D.free + (fget D.L s).now.length ∧ Q (fput D.L s g)) ∨ (f D = (D, 0) ∧ Q D.L)
/-- Acts in a row; whatever is between keeps I. -/
inductive Chn (R : Nat) (I : LL → Prop) : List (DV → DV × Int) → (LL → Prop) → (LL → Prop) → Prop
  | nil (P : LL → Prop) : (∀ L, P L → I L) → Chn R I [] P P
  | cons (P P' Q : LL → Prop) (f : DV → DV × Int) (r : List (DV → DV × Int)) : (∀ L, P L → I L) → Stp R P P' f → Chn R I r P' Q → Chn R I (f :: r) P Q
theorem Chn.first {R : Nat} {I P Q : LL → Prop} {r : List (DV → DV × Int)} (h : Chn R I r P Q) : ∀ L, P L → I L := by
  cases h with
  | nil _ h => exact h
  | cons _ _ _ _ _ h _ _ => exact h
/-- What acts in a row leave. -/
structure Run (R n : Nat) (I Q : LL → Prop) (D : DV) (x : DV × Int) : Prop where
  acts : x.1.acts ≤ D.acts + n
  fk : D.fk = 0 → x.1.fk = 0
  out : (x.2 = 0 ∧ Qf R x.1 ∧ Q x.1.L) ∨ (x.2 ≠ 0 ∧ D.fk ≠ 0 ∧ x.1.free ≤ R ∧ Ord x.1.L ∧ I x.1.L ∧ (Qf R x.1 ∨ x.1.down = true))
theorem run_chn {R : Nat} {I : LL → Prop} (hI : ∀ L ks, Ord L → I L → I (layL (aft ks L 0))) : ∀ (r : List (DV → DV × Int)) (P Q : LL → Prop), Chn R I r P Q → ∀ D, Qf R D → P D.L → Run R r.length I Q D (runA r D)
  | [], _, _, .nil P h0, D, hq, hp => ⟨Nat.le_refl _, fun h => h, .inl ⟨rfl, hq, hp⟩⟩
  | f :: r, _, _, .cons P P' Q _ _ h0 hs hc, D, hq, hp => by
    have hfr : ∀ X : DV, Qf R X → X.free ≤ R := fun X h => by have := h.tot; omega
    rcases hs D hq hp with ⟨s, g, e, hf, hp'⟩ | ⟨e, hp'⟩
    · obtain ⟨a1, a2, a3⟩ := act_f hq s g hf
      rw [← e] at a1 a2 a3
      rw [runA]
      rcases a3 with ⟨b1, b2, b3⟩ | ⟨b1, b2, b3⟩
      · rw [if_pos b1]
        have ih := run_chn hI r P' Q hc (f D).1 b2 (by rw [b3]; exact hp')
        refine ⟨by have := ih.acts; simp only [List.length_cons]; omega, fun h => ih.fk (a2 h), ?_⟩
        rcases ih.out with h | ⟨h1, h2, h3⟩
        · exact .inl h
        · exact .inr ⟨h1, fun h => h2 (a2 h), h3⟩
      · rw [if_neg b1]
        refine ⟨by rw [a1]; simp only [List.length_cons]; omega, a2, .inr ⟨b1, b2, ?_⟩⟩
        have hom := ord_fput hq.ord s g
        rcases b3 with ⟨c1, c2⟩ | ⟨c1, c2, ks, c3⟩
        · refine ⟨hfr _ c1, c1.ord, ?_, .inl c1⟩
          rcases c2 with c2 | c2
          · rw [c2]; exact h0 _ hp
          · rw [c2]; exact hc.first _ hp'
        · rcases c3 with c3 | c3
          · exact ⟨c2, by rw [c3]; exact sor_ord (aft_sor ks _ 0 hq.ord.1), by rw [c3]; exact hI _ _ hq.ord (h0 _ hp), .inr c1⟩
          · exact ⟨c2, by rw [c3]; exact sor_ord (aft_sor ks _ 0 hom.1), by rw [c3]; exact hI _ _ hom (hc.first _ hp'), .inr c1⟩
    · rw [runA, e, if_pos rfl]
      have ih := run_chn hI r P' Q hc D hq hp'
      exact ⟨by have := ih.acts; simp only [List.length_cons]; omega, ih.fk, ih.out⟩
/-- The six contents. -/
structure Cn (ia is na ns ma ms : List UInt8) (L : LL) : Prop where
  i : fget L nmI = ⟨ia, is⟩
  n : fget L nmN = ⟨na, ns⟩
  m : fget L nmM = ⟨ma, ms⟩
  oth : Oth L
section
variable {ia is na ns ma ms : List UInt8} {L : LL}
theorem Cn.putI (h : Cn ia is na ns ma ms L) (ho : Ord L) (x y : List UInt8) : Cn x y na ns ma ms (fput L nmI ⟨x, y⟩) :=
  ⟨by rw [fget_fput ho, if_pos rfl], by rw [fget_fput ho, if_neg ne_IN.symm, h.n], by rw [fget_fput ho, if_neg ne_IM.symm, h.m], fun s h1 h2 h3 => by rw [fget_fput ho, if_neg h1]; exact h.oth s h1 h2 h3⟩
theorem Cn.putN (h : Cn ia is na ns ma ms L) (ho : Ord L) (x y : List UInt8) : Cn ia is x y ma ms (fput L nmN ⟨x, y⟩) :=
  ⟨by rw [fget_fput ho, if_neg ne_IN, h.i], by rw [fget_fput ho, if_pos rfl], by rw [fget_fput ho, if_neg ne_NM.symm, h.m], fun s h1 h2 h3 => by rw [fget_fput ho, if_neg h2]; exact h.oth s h1 h2 h3⟩
theorem Cn.putM (h : Cn ia is na ns ma ms L) (ho : Ord L) (x y : List UInt8) : Cn ia is na ns x y (fput L nmM ⟨x, y⟩) :=
  ⟨by rw [fget_fput ho, if_neg ne_IM, h.i], by rw [fget_fput ho, if_neg ne_NM, h.n], by rw [fget_fput ho, if_pos rfl], fun s h1 h2 h3 => by rw [fget_fput ho, if_neg h3]; exact h.oth s h1 h2 h3⟩
theorem Cn.tot (h : Cn ia is na ns ma ms L) (ho : Ord L) : tot L = ia.length + na.length + ma.length := by
  have := (tot_three ho h.oth).1
  rwa [h.i, h.n, h.m] at this
/-- What a fall leaves of them. -/
theorem Cn.fall (h : Cn ia is na ns ma ms L) (ho : Ord L) (ks : List Bool) : ∃ x y z j1 j2 j3, Cn x x y y z z (layL (aft ks L 0)) ∧ x = (stay ks ⟨ia, is⟩ j1).1 ∧ y = (stay ks ⟨na, ns⟩ j2).1 ∧ z = (stay ks ⟨ma, ms⟩ j3).1 := by
  obtain ⟨j1, e1⟩ := lay_aft ho ks nmI
  obtain ⟨j2, e2⟩ := lay_aft ho ks nmN
  obtain ⟨j3, e3⟩ := lay_aft ho ks nmM
  rw [h.i] at e1
  rw [h.n] at e2
  rw [h.m] at e3
  refine ⟨_, _, _, j1, j2, j3, ⟨e1, e2, e3, fun s h1 h2 h3 => ?_⟩, rfl, rfl, rfl⟩
  obtain ⟨j, e⟩ := lay_aft ho ks s
  rw [e, h.oth s h1 h2 h3, stay_fz]; rfl
theorem Cn.told (h : Cn ia is na ns ma ms L) (ho : Ord L) : Cn ia ia na na ma ma (layL (tell L)) :=
  ⟨by rw [lay_tell ho, h.i], by rw [lay_tell ho, h.n], by rw [lay_tell ho, h.m], fun s h1 h2 h3 => by rw [lay_tell ho, h.oth s h1 h2 h3]; rfl⟩
end
theorem Ext.cn {k : Nat} {A : List It} {L : LL} (h : Ext k A L) : Cn (bA k A).a (bA k A).a (bA k A).b (bA k A).b (bA k A).m (bA k A).m L := ⟨h.i, h.n, h.m, h.oth⟩
theorem Cn.ext {k : Nat} {A : List It} {L : LL} (h : Cn (bA k A).a (bA k A).a (bA k A).b (bA k A).b (bA k A).m (bA k A).m L) : Ext k A L := ⟨h.i, h.n, h.m, h.oth⟩
/-- One that begins so. -/
def Fi (p y : List UInt8) : Prop := p <+: y ∧ y.length ≤ 20000
/-- Markers, and perhaps a sector of none. -/
def Mi (m y : List UInt8) : Prop := y = m ∨ y = m ++ zer 64
/-- A list's files, with more behind. -/
def Wk (k : Nat) (A : List It) (L : LL) : Prop := ∃ ia is na ns ma ms, Cn ia is na ns ma ms L ∧ (Fi (bA k A).a ia ∧ Fi (bA k A).a is) ∧ (Fi (bA k A).b na ∧ Fi (bA k A).b ns) ∧ Mi (bA k A).m ma ∧ Mi (bA k A).m ms
/-- Small. -/
structure Smk (k : Nat) (A : List It) : Prop where
  ok : OkA k A
  sz : (bA k A).a.length + (bA k A).b.length + (bA k A).m.length ≤ 10000
theorem fi_refl {p : List UInt8} (h : p.length ≤ 20000) : Fi p p := ⟨List.prefix_rfl, h⟩
theorem fi_stay {p x y : List UInt8} (h1 : Fi p x) (h2 : Fi p y) (ks : List Bool) (j : Nat) : Fi p (stay ks ⟨x, y⟩ j).1 := by
  refine ⟨stay_pre ks ⟨x, y⟩ j h1.1 h2.1, ?_⟩
  rcases stay_lenS ks ⟨x, y⟩ j with h | h
  · rw [h]; exact h1.2
  · rw [h]; exact h2.2
theorem mi_tail {m y : List UInt8} (h : Mi m y) : ∃ t, y = m ++ t ∧ (t = [] ∨ t = zer 64) := by
  rcases h with rfl | rfl
  · exact ⟨[], by rw [List.append_nil], .inl rfl⟩
  · exact ⟨zer 64, rfl, .inr rfl⟩
theorem sec_tail {m t : List UInt8} {n : Nat} (hm : m.length = 64 * n) (h : t = [] ∨ t = zer 64) : sec (m ++ t) n = zer 64 := by
  rcases h with rfl | rfl
  · rw [List.append_nil]; exact sec_out m n hm
  · exact sec_end m _ n hm (zer_len 64)
theorem mi_stay {m x y : List UInt8} {n : Nat} (hm : m.length = 64 * n) (h1 : Mi m x) (h2 : Mi m y) (ks : List Bool) (j : Nat) : Mi m (stay ks ⟨x, y⟩ j).1 := by
  obtain ⟨t, rfl, ht⟩ := mi_tail h1
  obtain ⟨u, rfl, hu⟩ := mi_tail h2
  have lt : t = [] ∨ t.length = 64 := ht.imp id (fun e => by rw [e, zer_len])
  have lu : u = [] ∨ u.length = 64 := hu.imp id (fun e => by rw [e, zer_len])
  have := stay_mark ks m t u n j hm lt lu
  rw [sec_tail hm ht, sec_tail hm hu] at this
  rcases this with h | h | h
  · exact .inl h
  · exact .inr h
  · exact .inr h
theorem Wk.fall {k : Nat} {A : List It} {L : LL} (h : OkA k A) (hw : Wk k A L) (ho : Ord L) (ks : List Bool) : Wk k A (layL (aft ks L 0)) := by
  obtain ⟨ia, is, na, ns, ma, ms, c, ⟨i1, i2⟩, ⟨n1, n2⟩, m1, m2⟩ := hw
  obtain ⟨x, y, z, j1, j2, j3, c', rfl, rfl, rfl⟩ := c.fall ho ks
  have a := fi_stay i1 i2 ks j1
  have b := fi_stay n1 n2 ks j2
  have d := mi_stay h.lens.m m1 m2 ks j3
  exact ⟨_, _, _, _, _, _, c', ⟨a, a⟩, ⟨b, b⟩, d, d⟩
theorem Wk.told {k : Nat} {A : List It} {L : LL} (hw : Wk k A L) (ho : Ord L) : Wk k A (layL (tell L)) := by
  obtain ⟨ia, is, na, ns, ma, ms, c, ⟨i1, i2⟩, ⟨n1, n2⟩, m1, m2⟩ := hw
  exact ⟨_, _, _, _, _, _, c.told ho, ⟨i1, i1⟩, ⟨n1, n1⟩, m1, m1⟩
theorem Wk.beh {k : Nat} {A : List It} {L : LL} (hw : Wk k A L) : Beh k A L := by
  obtain ⟨ia, is, na, ns, ma, ms, c, ⟨i1, i2⟩, ⟨n1, n2⟩, m1, m2⟩ := hw
  refine ⟨by rw [c.i]; exact i1.1, by rw [c.n]; exact n1.1, ?_, c.oth⟩
  obtain ⟨t, e, ht⟩ := mi_tail m1
  exact ⟨t, by rw [c.m]; exact e, ht.imp (fun e => by rw [e]; decide) id⟩
theorem Smk.wk {k : Nat} {A : List It} {L : LL} (h : Smk k A) (he : Ext k A L) : Wk k A L := by
  have := h.sz
  exact ⟨_, _, _, _, _, _, he.cn, ⟨fi_refl (by omega), fi_refl (by omega)⟩, ⟨fi_refl (by omega), fi_refl (by omega)⟩, .inl rfl, .inl rfl⟩
/-- A marker that is not synced. -/
def Un (k : Nat) (A : List It) (x : It) (L : LL) : Prop := Cn (bA k (A ++ [x])).a (bA k (A ++ [x])).a (bA k (A ++ [x])).b (bA k (A ++ [x])).b (bA k (A ++ [x])).m (bA k A).m L
theorem bm_snoc (k : Nat) (A : List It) (x : It) : (bA k (A ++ [x])).m = (bA k A).m ++ mrk ((bA k A).mk' k x) := by rw [bA_snoc]; rfl
theorem Un.fall {k : Nat} {A : List It} {x : It} {L : LL} (h : Smk k (A ++ [x])) (hu : Un k A x L) (ho : Ord L) (ks : List Bool) : Wk k A (layL (aft ks L 0)) ∨ Wk k (A ++ [x]) (layL (aft ks L 0)) := by
  obtain ⟨a, b, c, j1, j2, j3, c', e1, e2, e3⟩ := Cn.fall hu ho ks
  rw [stay_sync] at e1 e2
  subst e1 e2
  have hp := bA_pre k A [x]
  have hs := h.sz
  have l := h.ok.init.lens
  have l2 := h.ok.lens
  have hml : (mrk ((bA k A).mk' k x)).length = 64 := by
    have := l2.m
    rw [bm_snoc, List.length_append, l.m, List.length_append] at this
    simp only [List.length_cons, List.length_nil] at this
    omega
  have key := stay_mark ks (bA k A).m (mrk ((bA k A).mk' k x)) [] A.length j3 l.m (.inr hml) (.inl rfl)
  rw [sec_end _ _ _ l.m hml, List.append_nil, sec_out _ _ l.m, ← bm_snoc, ← e3] at key
  have fa : Fi (bA k A).a (bA k (A ++ [x])).a := ⟨hp.1, by omega⟩
  have fb : Fi (bA k A).b (bA k (A ++ [x])).b := ⟨hp.2.1, by omega⟩
  have ga : Fi (bA k (A ++ [x])).a (bA k (A ++ [x])).a := fi_refl (by omega)
  have gb : Fi (bA k (A ++ [x])).b (bA k (A ++ [x])).b := fi_refl (by omega)
  rcases key with e | e | e
  · exact .inl ⟨_, _, _, _, _, _, c', ⟨fa, fa⟩, ⟨fb, fb⟩, .inl e, .inl e⟩
  · exact .inr ⟨_, _, _, _, _, _, c', ⟨ga, ga⟩, ⟨gb, gb⟩, .inl e, .inl e⟩
  · exact .inl ⟨_, _, _, _, _, _, c', ⟨fa, fa⟩, ⟨fb, fb⟩, .inr e, .inr e⟩
/-- The list, or it and the item under way. -/
def Gd (k : Nat) (A : List It) (X : Option It) (L : LL) : Prop := Wk k A L ∨ ∃ x, X = some x ∧ (Wk k (A ++ [x]) L ∨ Un k A x L)
/-- All that may be is small. -/
structure SmX (k : Nat) (A : List It) (X : Option It) : Prop where
  a : Smk k A
  x : ∀ x, X = some x → Smk k (A ++ [x])
theorem Gd.fall {k : Nat} {A : List It} {X : Option It} (h : SmX k A X) {L : LL} {ks : List Bool} (ho : Ord L) (hg : Gd k A X L) : Gd k A X (layL (aft ks L 0)) := by
  rcases hg with hw | ⟨x, rfl, hw | hu⟩
  · exact .inl (hw.fall h.a.ok ho ks)
  · exact .inr ⟨x, rfl, .inl (hw.fall (h.x x rfl).ok ho ks)⟩
  · rcases hu.fall (h.x x rfl) ho ks with e | e
    · exact .inl e
    · exact .inr ⟨x, rfl, .inl e⟩
/-- Behind a fall, or as it is told, it is one of the two lists. -/
def Ge (A : List It) (X : Option It) (B : List It) : Prop := B = A ∨ ∃ x, X = some x ∧ B = A ++ [x]
theorem Ge.smk {k : Nat} {A B : List It} {X : Option It} (h : SmX k A X) (hb : Ge A X B) : Smk k B := by
  rcases hb with rfl | ⟨x, e, rfl⟩
  · exact h.a
  · exact h.x x e
theorem Gd.fallen {k : Nat} {A : List It} {X : Option It} (h : SmX k A X) {L : LL} (ks : List Bool) (ho : Ord L) (hg : Gd k A X L) : ∃ B, Ge A X B ∧ Wk k B (layL (aft ks L 0)) := by
  rcases hg with hw | ⟨x, rfl, hw | hu⟩
  · exact ⟨A, .inl rfl, hw.fall h.a.ok ho ks⟩
  · exact ⟨_, .inr ⟨x, rfl, rfl⟩, hw.fall (h.x x rfl).ok ho ks⟩
  · rcases hu.fall (h.x x rfl) ho ks with e | e
    · exact ⟨A, .inl rfl, e⟩
    · exact ⟨_, .inr ⟨x, rfl, rfl⟩, e⟩
theorem Un.told {k : Nat} {A : List It} {x : It} {L : LL} (h : Smk k (A ++ [x])) (hu : Un k A x L) (ho : Ord L) : Wk k (A ++ [x]) (layL (tell L)) := h.wk (Cn.ext (Cn.told hu ho))
theorem Gd.told {k : Nat} {A : List It} {X : Option It} (h : SmX k A X) {L : LL} (ho : Ord L) (hg : Gd k A X L) : ∃ B, Ge A X B ∧ Wk k B (layL (tell L)) := by
  rcases hg with hw | ⟨x, rfl, hw | hu⟩
  · exact ⟨A, .inl rfl, hw.told ho⟩
  · exact ⟨_, .inr ⟨x, rfl, rfl⟩, hw.told ho⟩
  · exact ⟨_, .inr ⟨x, rfl, rfl⟩, hu.told (h.x x rfl) ho⟩
/-- What it begins with. -/
theorem Gd.pre {k : Nat} {A : List It} {X : Option It} {L : LL} (hg : Gd k A X L) : (bA k A).a <+: (fget L nmI).now ∧ (bA k A).b <+: (fget L nmN).now ∧ Oth L := by
  rcases hg with hw | ⟨x, rfl, hw | hu⟩
  · exact ⟨hw.beh.i, hw.beh.n, hw.beh.oth⟩
  · have hp := bA_pre k A [x]
    exact ⟨hp.1.trans hw.beh.i, hp.2.1.trans hw.beh.n, hw.beh.oth⟩
  · have hp := bA_pre k A [x]
    exact ⟨by rw [hu.i]; exact hp.1, by rw [hu.n]; exact hp.2.1, hu.oth⟩
end Go.Proofs.YthfnpagangjpbaaGreat
