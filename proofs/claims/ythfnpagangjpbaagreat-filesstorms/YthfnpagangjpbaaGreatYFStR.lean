/-
  Add and Open, whatever fate meets them. Own work.
-/
import Derived.Test.YthfnpagangjpbaaGreatYFStQ
namespace Go.Proofs.YthfnpagangjpbaaGreat
open Rc
section
variable {R : Nat} {ia is na ns ma ms : List UInt8}
theorem wr_is {D : DV} (h : Qf R D) (s t now syn : List UInt8) (hn : fget D.L s = ⟨now, syn⟩) (h1 : now.length + t.length ≤ 268435456) (h2 : t.length ≤ D.free) : wrD D s (now.length : Int) t = actD D s ⟨now ++ t, syn⟩ := by
  unfold wrD
  rw [hn, if_neg (by rw [h.down]; exact Bool.false_ne_true), if_neg (by simp only; omega), if_neg (by simp only; omega), Int.toNat_natCast]
  simp only [wr_end]
theorem syn_is {D : DV} (h : Qf R D) (s now syn : List UInt8) (hn : fget D.L s = ⟨now, syn⟩) : synD D s = actD D s ⟨now, now⟩ := by
  unfold synD
  rw [hn, if_neg (by rw [h.down]; exact Bool.false_ne_true)]
theorem cut_is {D : DV} (h : Qf R D) (s P now syn : List UInt8) (hn : fget D.L s = ⟨now, syn⟩) (hP : P <+: now) (n : Nat) (hl : P.length = n) : (cutI s n D = (D, 0) ∧ now = P) ∨ cutI s n D = actD D s ⟨P, syn⟩ := by
  have hs : sizD D s = now.length := by unfold sizD; rw [h.down, hn]; rfl
  have hle := hP.length_le
  unfold cutI
  rw [hs]
  by_cases he : now.length ≤ n
  · rw [if_pos he]
    exact .inl ⟨rfl, (List.IsPrefix.eq_of_length hP (by omega)).symm⟩
  · rw [if_neg he]
    unfold cutD
    rw [hn, if_neg (by rw [h.down]; exact Bool.false_ne_true), if_neg (by simp only; omega), Int.toNat_natCast, ← hl]
    simp only [← List.prefix_iff_eq_take.1 hP]
    exact .inr trivial
theorem stp_wrI (t : List UInt8) (h1 : ia.length + t.length ≤ 268435456) (h2 : ia.length + na.length + ma.length + t.length ≤ R) : Stp R (Cn ia is na ns ma ms) (Cn (ia ++ t) is na ns ma ms) (fun D => wrD D nmI (ia.length : Int) t) := fun D hq c => by
  have ht := c.tot hq.ord
  have hT := hq.tot
  exact .inl ⟨nmI, ⟨ia ++ t, is⟩, wr_is hq nmI t ia is c.i h1 (by omega), by rw [c.i]; simp only [List.length_append]; omega, c.putI hq.ord _ _⟩
theorem stp_wrN (t : List UInt8) (h1 : na.length + t.length ≤ 268435456) (h2 : ia.length + na.length + ma.length + t.length ≤ R) : Stp R (Cn ia is na ns ma ms) (Cn ia is (na ++ t) ns ma ms) (fun D => wrD D nmN (na.length : Int) t) := fun D hq c => by
  have ht := c.tot hq.ord
  have hT := hq.tot
  exact .inl ⟨nmN, ⟨na ++ t, ns⟩, wr_is hq nmN t na ns c.n h1 (by omega), by rw [c.n]; simp only [List.length_append]; omega, c.putN hq.ord _ _⟩
theorem stp_wrM (t : List UInt8) (h1 : ma.length + t.length ≤ 268435456) (h2 : ia.length + na.length + ma.length + t.length ≤ R) : Stp R (Cn ia is na ns ma ms) (Cn ia is na ns (ma ++ t) ms) (fun D => wrD D nmM (ma.length : Int) t) := fun D hq c => by
  have ht := c.tot hq.ord
  have hT := hq.tot
  exact .inl ⟨nmM, ⟨ma ++ t, ms⟩, wr_is hq nmM t ma ms c.m h1 (by omega), by rw [c.m]; simp only [List.length_append]; omega, c.putM hq.ord _ _⟩
theorem stp_syI : Stp R (Cn ia is na ns ma ms) (Cn ia ia na ns ma ms) (fun D => synD D nmI) := fun D hq c => .inl ⟨nmI, ⟨ia, ia⟩, syn_is hq nmI ia is c.i, by rw [c.i]; exact Nat.le_add_left _ _, c.putI hq.ord _ _⟩
theorem stp_syN : Stp R (Cn ia is na ns ma ms) (Cn ia is na na ma ms) (fun D => synD D nmN) := fun D hq c => .inl ⟨nmN, ⟨na, na⟩, syn_is hq nmN na ns c.n, by rw [c.n]; exact Nat.le_add_left _ _, c.putN hq.ord _ _⟩
theorem stp_syM : Stp R (Cn ia is na ns ma ms) (Cn ia is na ns ma ma) (fun D => synD D nmM) := fun D hq c => .inl ⟨nmM, ⟨ma, ma⟩, syn_is hq nmM ma ms c.m, by rw [c.m]; exact Nat.le_add_left _ _, c.putM hq.ord _ _⟩
theorem stp_cuI (P : List UInt8) (hP : P <+: ia) (n : Nat) (hl : P.length = n) : Stp R (Cn ia is na ns ma ms) (Cn P is na ns ma ms) (cutI nmI n) := fun D hq c => by
  rcases cut_is hq nmI P ia is c.i hP n hl with ⟨e1, rfl⟩ | e
  · exact .inr ⟨e1, c⟩
  · exact .inl ⟨nmI, _, e, by rw [c.i]; have := hP.length_le; simp only; omega, c.putI hq.ord _ _⟩
theorem stp_cuN (P : List UInt8) (hP : P <+: na) (n : Nat) (hl : P.length = n) : Stp R (Cn ia is na ns ma ms) (Cn ia is P ns ma ms) (cutI nmN n) := fun D hq c => by
  rcases cut_is hq nmN P na ns c.n hP n hl with ⟨e1, rfl⟩ | e
  · exact .inr ⟨e1, c⟩
  · exact .inl ⟨nmN, _, e, by rw [c.n]; have := hP.length_le; simp only; omega, c.putN hq.ord _ _⟩
theorem stp_cuM (P : List UInt8) (hP : P <+: ma) (n : Nat) (hl : P.length = n) : Stp R (Cn ia is na ns ma ms) (Cn ia is na ns P ms) (cutI nmM n) := fun D hq c => by
  rcases cut_is hq nmM P ma ms c.m hP n hl with ⟨e1, rfl⟩ | e
  · exact .inr ⟨e1, c⟩
  · exact .inl ⟨nmM, _, e, by rw [c.m]; have := hP.length_le; simp only; omega, c.putM hq.ord _ _⟩
end
/-- What an Add comes to. -/
structure AdF (R k : Nat) (A : List It) (x : It) (D D' : DV) (S' : SV) (e : Int) : Prop where
  acts : D'.acts ≤ D.acts + 6
  fk : D.fk = 0 → D'.fk = 0
  out : (e = 0 ∧ S' = sA k (A ++ [x]) ∧ Qf R D' ∧ Ext k (A ++ [x]) D'.L) ∨ (e ≠ 0 ∧ D.fk ≠ 0 ∧ S' = { sA k A with lame := true } ∧ D'.free ≤ R ∧ Ord D'.L ∧ Gd k A (some x) D'.L ∧ (Qf R D' ∨ D'.down = true))
theorem smx_some {k : Nat} {A : List It} {x : It} (h : Smk k (A ++ [x])) : SmX k A (some x) := by
  have hp := bA_pre k A [x]
  have h1 := hp.1.length_le
  have h2 := hp.2.1.length_le
  have h3 := hp.2.2.length_le
  have hs := h.sz
  exact ⟨⟨h.ok.init, by omega⟩, fun y hy => by cases hy; exact h⟩
theorem add_f {k R : Nat} {A : List It} {x : It} {D : DV} (h : Smk k (A ++ [x])) (hq : Qf R D) (he : Ext k A D.L) (hR : 10000 ≤ R) (hz : R ≤ 268435456) : ∃ D' S' e, addD D (sA k A) x.1 x.2 = (D', S', e) ∧ AdF R k A x D D' S' e := by
  have hX := smx_some h
  have hs := h.sz
  have hs0 := hX.a.sz
  have l := h.ok.init.lens
  have hx := h.ok.last
  have hf := h.ok.few
  simp only [List.length_append, List.length_cons, List.length_nil, Nat.zero_add] at hf
  have ea : (bA k (A ++ [x])).a = (bA k A).a ++ pay x.1 := by rw [bA_snoc]; rfl
  have eb : (bA k (A ++ [x])).b = (bA k A).b ++ flat (recs (nn A.length) x.2) := by rw [bA_snoc, ← l.ends]; rfl
  have em : (bA k (A ++ [x])).m = (bA k A).m ++ mrk ((bA k A).mk' k x) := bm_snoc k A x
  have eal : (bA k (A ++ [x])).a.length = (bA k A).a.length + (pay x.1).length := by rw [ea, List.length_append]
  have ebl : (bA k (A ++ [x])).b.length = (bA k A).b.length + (flat (recs (nn A.length) x.2)).length := by rw [eb, List.length_append]
  have eml : (bA k (A ++ [x])).m.length = (bA k A).m.length + (mrk ((bA k A).mk' k x)).length := by rw [em, List.length_append]
  have e0 : addA (sA k A) x.1 x.2 = [fun D => wrD D nmI ((bA k A).a.length : Int) (pay x.1), fun D => wrD D nmN ((bA k A).b.length : Int) (flat (recs (nn A.length) x.2)), fun D => synD D nmI, fun D => synD D nmN, fun D => wrD D nmM ((bA k A).m.length : Int) (mrk ((bA k A).mk' k x)), fun D => synD D nmM] := by
    show six (sA k A) (pay x.1) (flat (recs (nn (bA k A).ends.length) x.2)) (mrk ((bA k A).mk' k x)) = _
    unfold six
    have e1 : ((lst (sA k A).ends : Nat) : Int) = ((bA k A).a.length : Int) := by show ((lst (bA k A).ends : Nat) : Int) = _; rw [l.lst]
    have e2 : ((nn (sA k A).ends.length * 40 : Nat) : Int) = ((bA k A).b.length : Int) := by show ((nn (bA k A).ends.length * 40 : Nat) : Int) = _; rw [l.ends, l.b, Nat.mul_comm]
    have e3 : (((sA k A).ends.length * 64 : Nat) : Int) = ((bA k A).m.length : Int) := by show (((bA k A).ends.length * 64 : Nat) : Int) = _; rw [l.ends, l.m, Nat.mul_comm]
    rw [e1, e2, e3, l.ends]
  have fa : Fi (bA k A).a (bA k A).a := fi_refl (by omega)
  have fb : Fi (bA k A).b (bA k A).b := fi_refl (by omega)
  have ga : Fi (bA k A).a ((bA k A).a ++ pay x.1) := ⟨List.prefix_append _ _, by rw [← ea]; omega⟩
  have gb : Fi (bA k A).b ((bA k A).b ++ flat (recs (nn A.length) x.2)) := ⟨List.prefix_append _ _, by rw [← eb]; omega⟩
  have fm : Mi (bA k A).m (bA k A).m := .inl rfl
  have hc : Chn R (Gd k A (some x)) (addA (sA k A) x.1 x.2) (Cn (bA k A).a (bA k A).a (bA k A).b (bA k A).b (bA k A).m (bA k A).m) (Ext k (A ++ [x])) := by
    rw [e0]
    refine .cons _ _ _ _ _ (fun L c => .inl ⟨_, _, _, _, _, _, c, ⟨fa, fa⟩, ⟨fb, fb⟩, fm, fm⟩) (stp_wrI _ (by omega) (by omega)) ?_
    refine .cons _ _ _ _ _ (fun L c => .inl ⟨_, _, _, _, _, _, c, ⟨ga, fa⟩, ⟨fb, fb⟩, fm, fm⟩) (stp_wrN _ (by omega) (by rw [List.length_append]; omega)) ?_
    refine .cons _ _ _ _ _ (fun L c => .inl ⟨_, _, _, _, _, _, c, ⟨ga, fa⟩, ⟨gb, fb⟩, fm, fm⟩) stp_syI ?_
    refine .cons _ _ _ _ _ (fun L c => .inl ⟨_, _, _, _, _, _, c, ⟨ga, ga⟩, ⟨gb, fb⟩, fm, fm⟩) stp_syN ?_
    refine .cons _ _ _ _ _ (fun L c => .inl ⟨_, _, _, _, _, _, c, ⟨ga, ga⟩, ⟨gb, gb⟩, fm, fm⟩) (stp_wrM _ (by omega) (by rw [List.length_append, List.length_append]; omega)) ?_
    refine .cons _ (Ext k (A ++ [x])) _ _ _ (fun L c => .inr ⟨x, rfl, .inr (by unfold Un; rw [ea, eb, em]; exact c)⟩) (fun D hq c => ?_) (.nil _ fun L c => .inr ⟨x, rfl, .inl (h.wk c)⟩)
    rcases stp_syM (R := R) D hq c with ⟨s, g, q1, q2, q3⟩ | ⟨q1, q3⟩
    · exact .inl ⟨s, g, q1, q2, Cn.ext (by rw [ea, eb, em]; exact q3)⟩
    · exact .inr ⟨q1, Cn.ext (by rw [ea, eb, em]; exact q3)⟩
  have hrun := run_chn (R := R) (fun L ks ho hg => Gd.fall hX ho hg) _ _ _ hc D hq he.cn
  have hr : refD (sA k A) x.1 x.2 = 0 := by
    have hnx : nxt (sA k A) x.2 = true := (nxt_iff _ _).2 ⟨by show _ = nn ((bA k A).ends.length + 1) - nn (bA k A).ends.length; rw [l.ends]; exact hx.cnt, hx.sz⟩
    unfold refD
    rw [if_neg (show ¬ (sA k A).lame = true from Bool.false_ne_true), if_neg (by have := hx.len; omega), if_neg (by show ¬ 65536 ≤ (bA k A).ends.length; rw [l.ends]; omega), if_neg (by rw [hnx]; simp), if_neg (by show ¬ _ < lst (bA k A).ends + _; have := pay_len x.1; rw [l.lst]; omega)]
  have hlen : (addA (sA k A) x.1 x.2).length = 6 := by rw [e0]; rfl
  rw [hlen] at hrun
  unfold addD
  rw [hr, if_neg (show ¬ ((0 : Int) ≠ 0) from fun h => h rfl)]
  rcases hrun.out with ⟨o1, o2, o3⟩ | ⟨o1, o2, o3, o4, o5, o6⟩
  · rw [if_pos o1]
    refine ⟨_, _, _, rfl, hrun.acts, hrun.fk, .inl ⟨rfl, ?_, o2, o3⟩⟩
    show (⟨k, (bA k A).ends ++ [((bA k A).mk' k x).items], ((bA k A).mk' k x).chain, false⟩ : SV) = _
    unfold sA
    rw [bA_snoc]; rfl
  · rw [if_neg o1]
    exact ⟨_, _, _, rfl, hrun.acts, hrun.fk, .inr ⟨o1, o2, rfl, o3, o4, o5, o6⟩⟩
/-- What an Open comes to. -/
structure OpF (R k : Nat) (A : List It) (X : Option It) (D D' : DV) (o : Option SV) (e : Int) : Prop where
  acts : D'.acts ≤ D.acts + 6
  fk : D.fk = 0 → D'.fk = 0
  out : (∃ B, Ge A X B ∧ o = some (sA k B) ∧ e = 0 ∧ Qf R D' ∧ Ext k B D'.L) ∨ (o = none ∧ e ≠ 0 ∧ D.fk ≠ 0 ∧ D'.free ≤ R ∧ Ord D'.L ∧ Gd k A X D'.L ∧ (Qf R D' ∨ D'.down = true))
theorem chn_wk {k R : Nat} {B : List It} (h : Smk k B) : Chn R (Wk k B) (stl (bA k B).ends) (Wk k B) (Ext k B) := by
  have l := h.ok.lens
  have hs := h.sz
  have fa : Fi (bA k B).a (bA k B).a := fi_refl (by omega)
  have fb : Fi (bA k B).b (bA k B).b := fi_refl (by omega)
  have fm : Mi (bA k B).m (bA k B).m := .inl rfl
  have mp : ∀ y, Mi (bA k B).m y → (bA k B).m <+: y := fun y hy => by
    obtain ⟨t, e, _⟩ := mi_tail hy
    rw [e]; exact List.prefix_append _ _
  unfold stl
  refine .cons _ (fun L => ∃ is na ns ma ms, Cn (bA k B).a is na ns ma ms L ∧ Fi (bA k B).a is ∧ (Fi (bA k B).b na ∧ Fi (bA k B).b ns) ∧ Mi (bA k B).m ma ∧ Mi (bA k B).m ms) _ _ _ (fun L c => c) (fun D hq c => ?_) ?_
  · obtain ⟨ia, is, na, ns, ma, ms, c, ⟨i1, i2⟩, n1, m1, m2⟩ := c
    exact (stp_cuI (R := R) _ i1.1 _ l.lst.symm D hq c).imp (fun ⟨s, g, q1, q2, q3⟩ => ⟨s, g, q1, q2, _, _, _, _, _, q3, i2, n1, m1, m2⟩) (fun ⟨q1, q3⟩ => ⟨q1, _, _, _, _, _, q3, i2, n1, m1, m2⟩)
  refine .cons _ (fun L => ∃ is ns ma ms, Cn (bA k B).a is (bA k B).b ns ma ms L ∧ Fi (bA k B).a is ∧ Fi (bA k B).b ns ∧ Mi (bA k B).m ma ∧ Mi (bA k B).m ms) _ _ _ (fun L ⟨_, _, _, _, _, c, i2, n1, m1, m2⟩ => ⟨_, _, _, _, _, _, c, ⟨fa, i2⟩, n1, m1, m2⟩) (fun D hq c => ?_) ?_
  · obtain ⟨is, na, ns, ma, ms, c, i2, ⟨n1, n2⟩, m1, m2⟩ := c
    exact (stp_cuN (R := R) _ n1.1 _ (by rw [l.b, l.ends, Nat.mul_comm]) D hq c).imp (fun ⟨s, g, q1, q2, q3⟩ => ⟨s, g, q1, q2, _, _, _, _, q3, i2, n2, m1, m2⟩) (fun ⟨q1, q3⟩ => ⟨q1, _, _, _, _, q3, i2, n2, m1, m2⟩)
  refine .cons _ (fun L => ∃ is ns ms, Cn (bA k B).a is (bA k B).b ns (bA k B).m ms L ∧ Fi (bA k B).a is ∧ Fi (bA k B).b ns ∧ Mi (bA k B).m ms) _ _ _ (fun L ⟨_, _, _, _, c, i2, n2, m1, m2⟩ => ⟨_, _, _, _, _, _, c, ⟨fa, i2⟩, ⟨fb, n2⟩, m1, m2⟩) (fun D hq c => ?_) ?_
  · obtain ⟨is, ns, ma, ms, c, i2, n2, m1, m2⟩ := c
    exact (stp_cuM (R := R) _ (mp _ m1) _ (by rw [l.m, l.ends, Nat.mul_comm]) D hq c).imp (fun ⟨s, g, q1, q2, q3⟩ => ⟨s, g, q1, q2, _, _, _, q3, i2, n2, m2⟩) (fun ⟨q1, q3⟩ => ⟨q1, _, _, _, q3, i2, n2, m2⟩)
  refine .cons _ (fun L => ∃ ns ms, Cn (bA k B).a (bA k B).a (bA k B).b ns (bA k B).m ms L ∧ Fi (bA k B).b ns ∧ Mi (bA k B).m ms) _ _ _ (fun L ⟨_, _, _, c, i2, n2, m2⟩ => ⟨_, _, _, _, _, _, c, ⟨fa, i2⟩, ⟨fb, n2⟩, fm, m2⟩) (fun D hq c => ?_) ?_
  · obtain ⟨is, ns, ms, c, i2, n2, m2⟩ := c
    exact (stp_syI (R := R) D hq c).imp (fun ⟨s, g, q1, q2, q3⟩ => ⟨s, g, q1, q2, _, _, q3, n2, m2⟩) (fun ⟨q1, q3⟩ => ⟨q1, _, _, q3, n2, m2⟩)
  refine .cons _ (fun L => ∃ ms, Cn (bA k B).a (bA k B).a (bA k B).b (bA k B).b (bA k B).m ms L ∧ Mi (bA k B).m ms) _ _ _ (fun L ⟨_, _, c, n2, m2⟩ => ⟨_, _, _, _, _, _, c, ⟨fa, fa⟩, ⟨fb, n2⟩, fm, m2⟩) (fun D hq c => ?_) ?_
  · obtain ⟨ns, ms, c, n2, m2⟩ := c
    exact (stp_syN (R := R) D hq c).imp (fun ⟨s, g, q1, q2, q3⟩ => ⟨s, g, q1, q2, _, q3, m2⟩) (fun ⟨q1, q3⟩ => ⟨q1, _, q3, m2⟩)
  refine .cons _ (Ext k B) _ _ _ (fun L ⟨_, c, m2⟩ => ⟨_, _, _, _, _, _, c, ⟨fa, fa⟩, ⟨fb, fb⟩, fm, m2⟩) (fun D hq c => ?_) (.nil _ fun L c => h.wk c)
  obtain ⟨ms, c, m2⟩ := c
  exact (stp_syM (R := R) D hq c).imp (fun ⟨s, g, q1, q2, q3⟩ => ⟨s, g, q1, q2, Cn.ext q3⟩) (fun ⟨q1, q3⟩ => ⟨q1, Cn.ext q3⟩)
theorem chn_un {k R : Nat} {A : List It} {x : It} (h : Smk k (A ++ [x])) : Chn R (Gd k A (some x)) (stl (bA k (A ++ [x])).ends) (Un k A x) (Ext k (A ++ [x])) := by
  have l := h.ok.lens
  have hi : ∀ L, Un k A x L → Gd k A (some x) L := fun L c => .inr ⟨x, rfl, .inr c⟩
  unfold stl
  refine .cons _ (Un k A x) _ _ _ hi (stp_cuI _ List.prefix_rfl _ l.lst.symm) ?_
  refine .cons _ (Un k A x) _ _ _ hi (stp_cuN _ List.prefix_rfl _ (by rw [l.b, l.ends, Nat.mul_comm])) ?_
  refine .cons _ (Un k A x) _ _ _ hi (stp_cuM _ List.prefix_rfl _ (by rw [l.m, l.ends, Nat.mul_comm])) ?_
  refine .cons _ (Un k A x) _ _ _ hi stp_syI ?_
  refine .cons _ (Un k A x) _ _ _ hi stp_syN ?_
  refine .cons _ (Ext k (A ++ [x])) _ _ _ hi (fun D hq c => ?_) (.nil _ fun L c => .inr ⟨x, rfl, .inl (h.wk c)⟩)
  exact (stp_syM (R := R) D hq c).imp (fun ⟨s, g, q1, q2, q3⟩ => ⟨s, g, q1, q2, Cn.ext q3⟩) (fun ⟨q1, q3⟩ => ⟨q1, Cn.ext q3⟩)
theorem Un.beh {k : Nat} {A : List It} {x : It} {L : LL} (hu : Un k A x L) : Beh k (A ++ [x]) L :=
  ⟨by rw [hu.i]; exact List.prefix_rfl, by rw [hu.n]; exact List.prefix_rfl, ⟨[], by rw [hu.m, List.append_nil], .inl (by decide)⟩, hu.oth⟩
theorem open_f {k R : Nat} {A : List It} {X : Option It} {D : DV} (h : SmX k A X) (hq : Qf R D) (hg : Gd k A X D.L) : ∃ D' o e, opnD D (k : Int) = (D', o, e) ∧ OpF R k A X D D' o e := by
  have k1 := h.a.ok.k1
  have k2 := h.a.ok.k2
  have key : ∃ B, Ge A X B ∧ Beh k B D.L ∧ Run R 6 (Gd k A X) (Ext k B) D (runA (stl (bA k B).ends) D) := by
    have hw : ∀ B, Ge A X B → Wk k B D.L → Run R 6 (Gd k A X) (Ext k B) D (runA (stl (bA k B).ends) D) := fun B hb w => by
      have hB := hb.smk h
      have r := run_chn (R := R) (fun L ks ho hg => Wk.fall hB.ok hg ho ks) _ _ _ (chn_wk hB) D hq w
      refine ⟨r.acts, r.fk, r.out.imp id fun ⟨o1, o2, o3, o4, o5, o6⟩ => ⟨o1, o2, o3, o4, ?_, o6⟩⟩
      rcases hb with rfl | ⟨x, e, rfl⟩
      · exact .inl o5
      · exact .inr ⟨x, e, .inl o5⟩
    rcases hg with w | ⟨x, rfl, w | u⟩
    · exact ⟨A, .inl rfl, w.beh, hw A (.inl rfl) w⟩
    · exact ⟨_, .inr ⟨x, rfl, rfl⟩, w.beh, hw _ (.inr ⟨x, rfl, rfl⟩) w⟩
    · exact ⟨_, .inr ⟨x, rfl, rfl⟩, u.beh, run_chn (R := R) (fun L ks ho hg => Gd.fall h ho hg) _ _ _ (chn_un (h.x x rfl)) D hq u⟩
  obtain ⟨B, hB, hb, r⟩ := key
  have hr := hb.read (hB.smk h).ok
  unfold opnD
  rw [if_neg (fun q => q ⟨by omega, by omega⟩), if_neg (by rw [hq.down]; exact Bool.false_ne_true), Int.toNat_natCast, hr]
  simp only
  rcases r.out with ⟨o1, o2, o3⟩ | ⟨o1, o2, o3⟩
  · rw [if_pos o1]
    exact ⟨_, _, _, rfl, r.acts, r.fk, .inl ⟨B, hB, rfl, rfl, o2, o3⟩⟩
  · rw [if_neg o1]
    exact ⟨_, _, _, rfl, r.acts, r.fk, .inr ⟨rfl, o1, o2, o3⟩⟩
/-- Files that a disk can be opened over. -/
structure Fz (R : Nat) (F : List (List UInt8 × List UInt8)) : Prop where
  can : canL F
  nm : ∀ x ∈ F, x.1.length ≤ maxLen
  len : F.length ≤ 3
  byt : byt F ≤ R
  qf : Qf R (openD R F)
theorem fz_of {k R : Nat} {B : List It} {F : List (List UInt8 × List UInt8)} (hB : Smk k B) (hs : Sor F) (hw : Wk k B (layL F)) (hR : 100000 ≤ R) (hz : R ≤ 268435456) : Fz R F := by
  obtain ⟨ia, is, na, ns, ma, ms, c, ⟨i1, i2⟩, ⟨n1, n2⟩, m1, m2⟩ := hw
  have ho := sor_ord hs
  have hsz := hB.sz
  have ht := c.tot ho
  have hl3 := (tot_three ho c.oth).2
  have hml : ma.length ≤ 10064 := by
    rcases m1 with rfl | rfl
    · omega
    · rw [List.length_append, zer_len]; omega
  have hi := i1.2
  have hn := n1.2
  have hby : byt F ≤ 60000 := by
    rw [lay_sor _ hs, tot_allS] at ht
    omega
  have hll : (layL F).length = F.length := by rw [lay_sor _ hs]; simp [allS]
  refine ⟨⟨?_, fun x hx => ?_⟩, fun x hx => ?_, by omega, by omega, ⟨rfl, ho, ?_⟩⟩
  · have h2 : (F.map (·.1)).Pairwise (· < ·) := List.pairwise_map.2 hs.1
    exact h2.imp fun hlt q => by rw [q] at hlt; exact List.lt_irrefl _ hlt
  · have := byt_mem _ x hx; omega
  · have e : fget (layL F) x.1 = ⟨x.2, x.2⟩ := fget_mem ho (by rw [lay_sor _ hs]; exact List.mem_map.2 ⟨x, hx, rfl⟩)
    have h5 : x.1 = nmI ∨ x.1 = nmN ∨ x.1 = nmM := by
      by_cases h1 : x.1 = nmI
      · exact .inl h1
      · by_cases h2 : x.1 = nmN
        · exact .inr (.inl h2)
        · by_cases h3 : x.1 = nmM
          · exact .inr (.inr h3)
          · rw [c.oth x.1 h1 h2 h3] at e
            exact absurd (congrArg FV.now e).symm (hs.2 x hx)
    rcases h5 with e | e | e
    · rw [e]; decide
    · rw [e]; decide
    · rw [e]; decide
  · show R - byt F + tot (layL F) = R
    rw [lay_sor _ hs, tot_allS]; omega
end Go.Proofs.YthfnpagangjpbaaGreat
