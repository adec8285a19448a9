/- Own work. -/
import Derived.Test.YtoblgjledefdbaaGreatDoorQa43
namespace Go.Proofs.YtoblgjledefdbaaGreatDoor.St
open Rc
section
variable {R:Nat} {ia is na ns ma ms:List UInt8}
theorem wr_is {D:DV} (h:Qf R D) (s t now syn:List UInt8) (hn:fget D.L s=⟨now,syn⟩) (h1:now.length+t.length≤268435456) (h2:t.length≤D.free):wrD D s (now.length:Int) t=actD D s ⟨now++t,syn⟩:=by
 unfold wrD
 rw [hn,if_neg (by rw [h.down]; exact Bool.false_ne_true),if_neg (by simp only; omega),if_neg (by simp only; omega),Int.toNat_natCast]
 simp only [wr_end]
theorem syn_is {D:DV} (h:Qf R D) (s now syn:List UInt8) (hn:fget D.L s=⟨now,syn⟩):synD D s=actD D s ⟨now,now⟩:=by
 unfold synD
 rw [hn,if_neg (by rw [h.down]; exact Bool.false_ne_true)]
theorem stp_wrI (t:List UInt8) (h1:ia.length+t.length≤268435456) (h2:ia.length+na.length+ma.length+t.length≤R):Stp R (Cn ia is na ns ma ms) (Cn (ia++t) is na ns ma ms) (fun D=>wrD D nmI (ia.length:Int) t):=fun D hq c=>by
 have ht:=c.tot hq.ord
 have hT:=hq.tot
 exact .inl ⟨nmI,⟨ia++t,is⟩,wr_is hq nmI t ia is c.i h1 (by omega),by rw [c.i]; simp only [List.length_append]; omega,c.putI hq.ord _ _⟩
theorem stp_wrN (t:List UInt8) (h1:na.length+t.length≤268435456) (h2:ia.length+na.length+ma.length+t.length≤R):Stp R (Cn ia is na ns ma ms) (Cn ia is (na++t) ns ma ms) (fun D=>wrD D nmN (na.length:Int) t):=fun D hq c=>by
 have ht:=c.tot hq.ord
 have hT:=hq.tot
 exact .inl ⟨nmN,⟨na++t,ns⟩,wr_is hq nmN t na ns c.n h1 (by omega),by rw [c.n]; simp only [List.length_append]; omega,c.putN hq.ord _ _⟩
theorem stp_wrM (t:List UInt8) (h1:ma.length+t.length≤268435456) (h2:ia.length+na.length+ma.length+t.length≤R):Stp R (Cn ia is na ns ma ms) (Cn ia is na ns (ma++t) ms) (fun D=>wrD D nmM (ma.length:Int) t):=fun D hq c=>by
 have ht:=c.tot hq.ord
 have hT:=hq.tot
 exact .inl ⟨nmM,⟨ma++t,ms⟩,wr_is hq nmM t ma ms c.m h1 (by omega),by rw [c.m]; simp only [List.length_append]; omega,c.putM hq.ord _ _⟩
theorem stp_syI:Stp R (Cn ia is na ns ma ms) (Cn ia ia na ns ma ms) (fun D=>synD D nmI):=fun D hq c => .inl ⟨nmI,⟨ia,ia⟩,syn_is hq nmI ia is c.i,by rw [c.i]; exact Nat.le_add_left _ _,c.putI hq.ord _ _⟩
theorem stp_syN:Stp R (Cn ia is na ns ma ms) (Cn ia is na na ma ms) (fun D=>synD D nmN):=fun D hq c => .inl ⟨nmN,⟨na,na⟩,syn_is hq nmN na ns c.n,by rw [c.n]; exact Nat.le_add_left _ _,c.putN hq.ord _ _⟩
theorem stp_syM:Stp R (Cn ia is na ns ma ms) (Cn ia is na ns ma ma) (fun D=>synD D nmM):=fun D hq c => .inl ⟨nmM,⟨ma,ma⟩,syn_is hq nmM ma ms c.m,by rw [c.m]; exact Nat.le_add_left _ _,c.putM hq.ord _ _⟩
end
structure AdF (R k:Nat) (A:List It) (x:It) (D D':DV) (S':SV) (e:Int):Prop where
 acts:D'.acts≤D.acts+6
 fk:D.fk=0→D'.fk=0
 out:(e=0∧S'=sA k (A++[x])∧Qf R D'∧Ext k (A++[x]) D'.L)∨(e≠0∧D.fk≠0∧S' = { sA k A with lame:=true } ∧ D'.free≤R∧Ord D'.L∧Gd k A (some x) D'.L∧(Qf R D'∨D'.down=true))
theorem smx_some {k:Nat} {A:List It} {x:It} (h:Smk k (A++[x])):SmX k A (some x):=by
 have hp:=bA_pre k A [x]
 have h1:=hp.1.length_le
 have h2:=hp.2.1.length_le
 have h3:=hp.2.2.length_le
 have hs:=h.sz
 exact ⟨⟨h.ok.init,by omega⟩,fun y hy=>by cases hy; exact h⟩
theorem add_f {k R:Nat} {A:List It} {x:It} {D:DV} (h:Smk k (A++[x])) (hq:Qf R D) (he:Ext k A D.L) (hR:300000≤R) (hz:R≤268435456) : ∃ D' S' e,addD D (sA k A) x.1 x.2=(D',S',e)∧AdF R k A x D D' S' e:=by
 have hX:=smx_some h
 have hs:=h.sz
 have hs0:=hX.a.sz
 have l:=h.ok.init.lens
 have hx:=h.ok.last
 have hf:=h.ok.few
 simp only [List.length_append,List.length_cons,List.length_nil,Nat.zero_add] at hf
 have ea:(bA k (A++[x])).a=(bA k A).a++pay x.1:=by rw [bA_snoc]; rfl
 have eb:(bA k (A++[x])).b=(bA k A).b++Rc.flat (recs (nn A.length) x.2):=by rw [bA_snoc,← l.ends]; rfl
 have em:(bA k (A++[x])).m=(bA k A).m++mrk ((bA k A).mk' k x):=bm_snoc k A x
 have eal:(bA k (A++[x])).a.length=(bA k A).a.length+(pay x.1).length:=by rw [ea,List.length_append]
 have ebl:(bA k (A++[x])).b.length=(bA k A).b.length+(Rc.flat (recs (nn A.length) x.2)).length:=by rw [eb,List.length_append]
 have eml:(bA k (A++[x])).m.length=(bA k A).m.length+(mrk ((bA k A).mk' k x)).length:=by rw [em,List.length_append]
 have e0:addA (sA k A) x.1 x.2=[fun D=>wrD D nmI ((bA k A).a.length:Int) (pay x.1),fun D=>wrD D nmN ((bA k A).b.length:Int) (Rc.flat (recs (nn A.length) x.2)),fun D=>synD D nmI,fun D=>synD D nmN,fun D=>wrD D nmM ((bA k A).m.length:Int) (mrk ((bA k A).mk' k x)),fun D=>synD D nmM]:=by
  show six (sA k A) (pay x.1) (Rc.flat (recs (nn (bA k A).ends.length) x.2)) (mrk ((bA k A).mk' k x))=_
  unfold six
  have e1:((lst (sA k A).ends:Nat):Int)=((bA k A).a.length:Int):=by show ((lst (bA k A).ends:Nat):Int)=_; rw [l.lst]
  have e2:((nn (sA k A).ends.length * 40:Nat):Int)=((bA k A).b.length:Int):=by show ((nn (bA k A).ends.length * 40:Nat):Int)=_; rw [l.ends,l.b,Nat.mul_comm]
  have e3:(((sA k A).ends.length * 64:Nat):Int)=((bA k A).m.length:Int):=by show (((bA k A).ends.length * 64:Nat):Int)=_; rw [l.ends,l.m,Nat.mul_comm]
  rw [e1,e2,e3,l.ends]
 have fa:Fi (bA k A).a (bA k A).a:=fi_refl (by omega)
 have fb:Fi (bA k A).b (bA k A).b:=fi_refl (by omega)
 have ga:Fi (bA k A).a ((bA k A).a++pay x.1):=⟨List.prefix_append _ _,by rw [← ea]; omega⟩
 have gb:Fi (bA k A).b ((bA k A).b++Rc.flat (recs (nn A.length) x.2)):=⟨List.prefix_append _ _,by rw [← eb]; omega⟩
 have fm:Mi (bA k A).m (bA k A).m := .inl rfl
 have hc:Chn R (Gd k A (some x)) (addA (sA k A) x.1 x.2) (Cn (bA k A).a (bA k A).a (bA k A).b (bA k A).b (bA k A).m (bA k A).m) (Ext k (A++[x])):=by
  rw [e0]
  refine .cons _ _ _ _ _ (fun L c => .inl ⟨_,_,_,_,_,_,c,⟨fa,fa⟩,⟨fb,fb⟩,fm,fm⟩) (stp_wrI _ (by omega) (by omega)) ?_
  refine .cons _ _ _ _ _ (fun L c => .inl ⟨_,_,_,_,_,_,c,⟨ga,fa⟩,⟨fb,fb⟩,fm,fm⟩) (stp_wrN _ (by omega) (by rw [List.length_append]; omega)) ?_
  refine .cons _ _ _ _ _ (fun L c => .inl ⟨_,_,_,_,_,_,c,⟨ga,fa⟩,⟨gb,fb⟩,fm,fm⟩) stp_syI ?_
  refine .cons _ _ _ _ _ (fun L c => .inl ⟨_,_,_,_,_,_,c,⟨ga,ga⟩,⟨gb,fb⟩,fm,fm⟩) stp_syN ?_
  refine .cons _ _ _ _ _ (fun L c => .inl ⟨_,_,_,_,_,_,c,⟨ga,ga⟩,⟨gb,gb⟩,fm,fm⟩) (stp_wrM _ (by omega) (by rw [List.length_append,List.length_append]; omega)) ?_
  refine .cons _ (Ext k (A++[x])) _ _ _ (fun L c => .inr ⟨x,rfl,.inr (by unfold Un; rw [ea,eb,em]; exact c)⟩) (fun D hq c => ?_) (.nil _ fun L c => .inr ⟨x,rfl,.inl (h.wk c)⟩)
  rcases stp_syM (R:=R) D hq c with ⟨s,g,q1,q2,q3⟩ | ⟨q1,q3⟩
  ·exact .inl ⟨s,g,q1,q2,Cn.ext (by rw [ea,eb,em]; exact q3)⟩
  ·exact .inr ⟨q1,Cn.ext (by rw [ea,eb,em]; exact q3)⟩
 have hrun:=run_chn (R:=R) (fun L ks ho hg=>Gd.fall hX ho hg) _ _ _ hc D hq he.cn
 have hr:refD (sA k A) x.1 x.2=0:=by
  have hnx:nxt (sA k A) x.2=true:=(nxt_iff _ _).2 ⟨by show _=nn ((bA k A).ends.length+1) - nn (bA k A).ends.length; rw [l.ends]; exact hx.cnt,hx.sz⟩
  unfold refD
  rw [if_neg (show ¬ (sA k A).lame=true from Bool.false_ne_true),if_neg (by have:=hx.len; omega),if_neg (by show ¬ 65536≤(bA k A).ends.length; rw [l.ends]; omega),if_neg (by rw [hnx]; simp),if_neg (by show ¬ _<lst (bA k A).ends+_; have:=pay_len x.1; rw [l.lst]; omega)]
 have hlen:(addA (sA k A) x.1 x.2).length=6:=by rw [e0]; rfl
 rw [hlen] at hrun
 unfold addD
 rw [hr,if_neg (show ¬ ((0:Int)≠0) from fun h=>h rfl)]
 rcases hrun.out with ⟨o1,o2,o3⟩ | ⟨o1,o2,o3,o4,o5,o6⟩
 ·rw [if_pos o1]
  refine ⟨_,_,_,rfl,hrun.acts,hrun.fk,.inl ⟨rfl,?_,o2,o3⟩⟩
  show (⟨k,(bA k A).ends++[((bA k A).mk' k x).items],((bA k A).mk' k x).chain,false⟩:SV)=_
  unfold sA
  rw [bA_snoc]; rfl
 ·rw [if_neg o1]
  exact ⟨_,_,_,rfl,hrun.acts,hrun.fk,.inr ⟨o1,o2,rfl,o3,o4,o5,o6⟩⟩
theorem add_chn {k R:Nat} {A:List It} {x:It} (h:Smk k (A++[x])) (hR:300000≤R) (hz:R≤268435456):refD (sA k A) x.1 x.2=0∧Chn R (Gd k A (some x)) (addA (sA k A) x.1 x.2) (Cn (bA k A).a (bA k A).a (bA k A).b (bA k A).b (bA k A).m (bA k A).m) (Ext k (A++[x])):=by
 have hX:=smx_some h
 have hs:=h.sz
 have hs0:=hX.a.sz
 have l:=h.ok.init.lens
 have hx:=h.ok.last
 have hf:=h.ok.few
 simp only [List.length_append,List.length_cons,List.length_nil,Nat.zero_add] at hf
 have ea:(bA k (A++[x])).a=(bA k A).a++pay x.1:=by rw [bA_snoc]; rfl
 have eb:(bA k (A++[x])).b=(bA k A).b++Rc.flat (recs (nn A.length) x.2):=by rw [bA_snoc,← l.ends]; rfl
 have em:(bA k (A++[x])).m=(bA k A).m++mrk ((bA k A).mk' k x):=bm_snoc k A x
 have eal:(bA k (A++[x])).a.length=(bA k A).a.length+(pay x.1).length:=by rw [ea,List.length_append]
 have ebl:(bA k (A++[x])).b.length=(bA k A).b.length+(Rc.flat (recs (nn A.length) x.2)).length:=by rw [eb,List.length_append]
 have eml:(bA k (A++[x])).m.length=(bA k A).m.length+(mrk ((bA k A).mk' k x)).length:=by rw [em,List.length_append]
 have e0:addA (sA k A) x.1 x.2=[fun D=>wrD D nmI ((bA k A).a.length:Int) (pay x.1),fun D=>wrD D nmN ((bA k A).b.length:Int) (Rc.flat (recs (nn A.length) x.2)),fun D=>synD D nmI,fun D=>synD D nmN,fun D=>wrD D nmM ((bA k A).m.length:Int) (mrk ((bA k A).mk' k x)),fun D=>synD D nmM]:=by
  show six (sA k A) (pay x.1) (Rc.flat (recs (nn (bA k A).ends.length) x.2)) (mrk ((bA k A).mk' k x))=_
  unfold six
  have e1:((lst (sA k A).ends:Nat):Int)=((bA k A).a.length:Int):=by show ((lst (bA k A).ends:Nat):Int)=_; rw [l.lst]
  have e2:((nn (sA k A).ends.length * 40:Nat):Int)=((bA k A).b.length:Int):=by show ((nn (bA k A).ends.length * 40:Nat):Int)=_; rw [l.ends,l.b,Nat.mul_comm]
  have e3:(((sA k A).ends.length * 64:Nat):Int)=((bA k A).m.length:Int):=by show (((bA k A).ends.length * 64:Nat):Int)=_; rw [l.ends,l.m,Nat.mul_comm]
  rw [e1,e2,e3,l.ends]
 have fa:Fi (bA k A).a (bA k A).a:=fi_refl (by omega)
 have fb:Fi (bA k A).b (bA k A).b:=fi_refl (by omega)
 have ga:Fi (bA k A).a ((bA k A).a++pay x.1):=⟨List.prefix_append _ _,by rw [← ea]; omega⟩
 have gb:Fi (bA k A).b ((bA k A).b++Rc.flat (recs (nn A.length) x.2)):=⟨List.prefix_append _ _,by rw [← eb]; omega⟩
 have fm:Mi (bA k A).m (bA k A).m := .inl rfl
 have hc:Chn R (Gd k A (some x)) (addA (sA k A) x.1 x.2) (Cn (bA k A).a (bA k A).a (bA k A).b (bA k A).b (bA k A).m (bA k A).m) (Ext k (A++[x])):=by
  rw [e0]
  refine .cons _ _ _ _ _ (fun L c => .inl ⟨_,_,_,_,_,_,c,⟨fa,fa⟩,⟨fb,fb⟩,fm,fm⟩) (stp_wrI _ (by omega) (by omega)) ?_
  refine .cons _ _ _ _ _ (fun L c => .inl ⟨_,_,_,_,_,_,c,⟨ga,fa⟩,⟨fb,fb⟩,fm,fm⟩) (stp_wrN _ (by omega) (by rw [List.length_append]; omega)) ?_
  refine .cons _ _ _ _ _ (fun L c => .inl ⟨_,_,_,_,_,_,c,⟨ga,fa⟩,⟨gb,fb⟩,fm,fm⟩) stp_syI ?_
  refine .cons _ _ _ _ _ (fun L c => .inl ⟨_,_,_,_,_,_,c,⟨ga,ga⟩,⟨gb,fb⟩,fm,fm⟩) stp_syN ?_
  refine .cons _ _ _ _ _ (fun L c => .inl ⟨_,_,_,_,_,_,c,⟨ga,ga⟩,⟨gb,gb⟩,fm,fm⟩) (stp_wrM _ (by omega) (by rw [List.length_append,List.length_append]; omega)) ?_
  refine .cons _ (Ext k (A++[x])) _ _ _ (fun L c => .inr ⟨x,rfl,.inr (by unfold Un; rw [ea,eb,em]; exact c)⟩) (fun D hq c => ?_) (.nil _ fun L c => .inr ⟨x,rfl,.inl (h.wk c)⟩)
  rcases stp_syM (R:=R) D hq c with ⟨s,g,q1,q2,q3⟩ | ⟨q1,q3⟩
  ·exact .inl ⟨s,g,q1,q2,Cn.ext (by rw [ea,eb,em]; exact q3)⟩
  ·exact .inr ⟨q1,Cn.ext (by rw [ea,eb,em]; exact q3)⟩
 have hr:refD (sA k A) x.1 x.2=0:=by
  have hnx:nxt (sA k A) x.2=true:=(nxt_iff _ _).2 ⟨by show _=nn ((bA k A).ends.length+1) - nn (bA k A).ends.length; rw [l.ends]; exact hx.cnt,hx.sz⟩
  unfold refD
  rw [if_neg (show ¬ (sA k A).lame=true from Bool.false_ne_true),if_neg (by have:=hx.len; omega),if_neg (by show ¬ 65536≤(bA k A).ends.length; rw [l.ends]; omega),if_neg (by rw [hnx]; simp),if_neg (by show ¬ _<lst (bA k A).ends+_; have:=pay_len x.1; rw [l.lst]; omega)]
 exact ⟨hr,hc⟩
structure Hs (D:DV):Prop where
 k1:1≤D.fk
 k3:D.fk≤3
 a1:1≤D.fa
theorem act_hs {D:DV} (h:Hs D) (s:List UInt8) (f:FV):((actD D s f).2=0∧Hs (actD D s f).1∧(actD D s f).1.fa+1=D.fa)∨(((actD D s f).2=171∨(actD D s f).2=172)∧(actD D s f).1.down=D.down):=by
 have h1:=h.k1
 have h3:=h.k3
 have h0 : ¬ D.fk=0:=by omega
 by_cases ha:1<D.fa
 ·have e:metD { D with acts:=D.acts+1 } = ({ D with acts:=D.acts+1,fa:=D.fa - 1 },0,[]):=by
   unfold metD
   rw [if_neg (show ¬ D.fk=0 from h0),if_pos (show 1<D.fa from ha)]
  have e2:actD D s f=(dput { D with acts:=D.acts+1,fa:=D.fa - 1 } s f,0):=by unfold actD; rw [e]; rfl
  rw [e2]
  exact .inl ⟨rfl,⟨h1,h3,show 1≤D.fa - 1 by omega⟩,show D.fa - 1+1=D.fa by omega⟩
 ·have e:metD { D with acts:=D.acts+1 } = ({ D with acts:=D.acts+1,fa:=0,fk:=0,ks:=[] },D.fk,D.ks):=by
   unfold metD
   rw [if_neg (show ¬ D.fk=0 from h0),if_neg (show ¬ 1<D.fa from ha)]
  right
  unfold actD
  rw [e]
  simp only
  rcases (show D.fk=1∨D.fk=2∨D.fk=3 by omega) with q | q | q
  ·rw [q]; exact ⟨.inl rfl,rfl⟩
  ·rw [q]; exact ⟨.inr rfl,rfl⟩
  ·rw [q]; exact ⟨.inl rfl,rfl⟩
theorem act_acts (D:DV) (s:List UInt8) (f:FV):(actD D s f).1.acts=D.acts+1:=by
 have e:=(metD_L { D with acts:=D.acts+1 }).2.2.2.1
 unfold actD
 simp only
 split
 ·exact e
 ·split
  ·exact e
  ·split
   ·exact e
   ·split
    ·exact e
    ·split <;> exact e
theorem add_acts (S:SV) (x:List UInt8) (ds:List ByteArray) : ∀ f∈addA S x ds,∀ D,(f D).2=0→(f D).1.acts=D.acts+1:=by
 have hw : ∀ s o t D,(wrD D s o t).2=0→(wrD D s o t).1.acts=D.acts+1:=fun s o t D h=>by
  unfold wrD at h ⊢
  split at h
  ·cases h
  ·rename_i h1
   rw [if_neg h1]
   split at h
   ·cases h
   ·rename_i h2
    rw [if_neg h2]
    split at h
    ·cases h
    ·rename_i h3
     rw [if_neg h3]
     exact act_acts _ _ _
 have hs : ∀ s D,(synD D s).2=0→(synD D s).1.acts=D.acts+1:=fun s D h=>by
  unfold synD at h ⊢
  split at h
  ·cases h
  ·rename_i h1
   rw [if_neg h1]
   exact act_acts _ _ _
 intro f hf
 unfold addA six at hf
 simp only [List.mem_cons,List.not_mem_nil,or_false] at hf
 rcases hf with rfl | rfl | rfl | rfl | rfl | rfl
 ·exact hw _ _ _
 ·exact hw _ _ _
 ·exact hs _
 ·exact hs _
 ·exact hw _ _ _
 ·exact hs _
theorem run_acts : ∀ (fs:List (DV→DV×Int)),(∀ f∈fs,∀ D,(f D).2=0→(f D).1.acts=D.acts+1) → ∀ D,(runA fs D).2=0→(runA fs D).1.acts=D.acts+fs.length
 | [],_,_,_=>rfl
 | f::r,h,D,h0=>by
  unfold runA at h0 ⊢
  by_cases e:(f D).2=0
  ·rw [if_pos e] at h0 ⊢
   rw [run_acts r (fun g hg=>h g (List.mem_cons_of_mem _ hg)) _ h0,h f (by simp) D e,List.length_cons]; omega
  ·rw [if_neg e] at h0; exact absurd h0 e
theorem run_hit {R:Nat} {I:LL→Prop} : ∀ (fs:List (DV→DV×Int)) (P Q:LL→Prop),Chn R I fs P Q → ∀ D,Qf R D→P D.L→Hs D →
  ((runA fs D).2=0∧(runA fs D).1.fa+((runA fs D).1.acts:Int)=D.fa+(D.acts:Int)∧1≤(runA fs D).1.fa)∨(((runA fs D).2=171∨(runA fs D).2=172)∧(runA fs D).1.down=false)
 | [],_,_,.nil P h0,D,hq,hp,hs => .inl ⟨rfl,rfl,hs.a1⟩
 | f::r,_,_,.cons P P' Q _ _ h0 hst hc,D,hq,hp,hs=>by
  rcases hst D hq hp with ⟨s,g,e,hf,hp'⟩ | ⟨e,hp'⟩
  ·have ha:=act_f hq s g hf
   have hh:=act_hs hs s g
   have hn:=act_acts D s g
   rw [← e] at ha hh hn
   rw [runA]
   rcases hh with ⟨b1,b2,b3⟩ | ⟨b1,b2⟩
   ·rw [if_pos b1]
    obtain ⟨_,_,ha⟩:=ha
    rcases ha with ⟨_,c2,c3⟩ | ⟨c1,_⟩
    ·have ih:=run_hit r P' Q hc (f D).1 c2 (by rw [c3]; exact hp') b2
     rcases ih with ⟨d1,d2,d3⟩ | d
     ·exact .inl ⟨d1,by rw [d2,hn]; omega,d3⟩
     ·exact .inr d
    ·exact absurd b1 c1
   ·rw [if_neg (by rcases b1 with q | q <;> rw [q] <;> decide)]
    exact .inr ⟨b1,by rw [b2]; exact hq.down⟩
  ·rw [runA,e,if_pos rfl]
   exact run_hit r P' Q hc D hq hp' hs
theorem lay_f {R:Nat} {D:DV} (h:Qf R D) (a k:Int) (ks:List Bool) (ha:1≤a) (hk:1≤k∧k≤5):Qf R (layD D a k ks)∧(layD D a k ks).L=D.L∧(layD D a k ks).acts=D.acts∧(layD D a k ks).fa=a∧(layD D a k ks).fk=k:=by
 unfold layD
 rw [if_neg (by rw [h.down]; exact Bool.false_ne_true),if_pos ⟨ha,hk⟩]
 exact ⟨⟨h.down,h.ord,h.tot⟩,rfl,rfl,rfl,rfl⟩
theorem lame_add {D:DV} {S:SV} (x:List UInt8) (ds:List ByteArray):addD D { S with lame:=true } x ds=(D,{ S with lame:=true },191):=by
 have hr:refD { S with lame:=true } x ds=191:=by
  unfold refD
  rw [if_pos rfl]
 unfold addD
 rw [hr,if_pos (by decide)]
theorem rm_of {R:Nat} {D:DV} (ha:D.acts≤1000000) (ho:Ord D.L) (he:Oth D.L) (hf:D.free≤R) (hR:R≤268435456):Rm 7 D:=⟨by omega,by have:=(tot_three ho he).2; omega,by omega⟩
theorem add_hit {k R:Nat} {A:List It} {x:It} {D:DV} (h:Smk k (A++[x])) (hq:Qf R D) (he:Ext k A D.L) (hR:300000≤R) (hz:R≤268435456) (hs:Hs D) (h6:D.fa≤6) :
  ∃ D' e,addD D (sA k A) x.1 x.2=(D',{ sA k A with lame:=true },e)∧(e=171∨e=172)∧D'.down=false∧D'.free≤R∧Ord D'.L∧Gd k A (some x) D'.L∧D'.acts≤D.acts+6:=by
 obtain ⟨hr,hc⟩:=add_chn h hR hz
 obtain ⟨D',S',e,ha,hA⟩:=add_f h hq he hR hz
 have hh:=run_hit _ _ _ hc D hq he.cn hs
 have hn:=run_acts _ (add_acts (sA k A) x.1 x.2) D
 have hlen:(addA (sA k A) x.1 x.2).length=6:=rfl
 unfold addD at ha
 rw [hr,if_neg (show ¬ ((0:Int)≠0) from fun h=>h rfl)] at ha
 rcases hh with ⟨b1,b2,b3⟩ | ⟨b1,b2⟩
 ·have:=hn b1
  rw [hlen] at this
  omega
 ·have b0 : ¬ (runA (addA (sA k A) x.1 x.2) D).2=0:=by rcases b1 with q | q <;> rw [q] <;> decide
  rw [if_neg b0] at ha
  obtain ⟨e1,e2,e3⟩:(runA (addA (sA k A) x.1 x.2) D).1=D'∧({ sA k A with lame:=true } : SV)=S'∧(runA (addA (sA k A) x.1 x.2) D).2=e:=by
   injection ha with g1 g2
   injection g2 with g2 g3
   exact ⟨g1,g2,g3⟩
  rcases hA.out with ⟨o1,_⟩ | ⟨_,_,_,o4,o5,o6,_⟩
  ·rw [o1] at e3; exact absurd e3 b0
  ·refine ⟨D',e,?_,by rw [← e3]; exact b1,by rw [← e1]; exact b2,o4,o5,o6,hA.acts⟩
   unfold addD
   rw [hr,if_neg (show ¬ ((0:Int)≠0) from fun h=>h rfl),if_neg b0,e1,e3]
end Go.Proofs.YtoblgjledefdbaaGreatDoor.St
namespace Go.Proofs.YtoblgjledefdbaaGreatDoor
structure Fit (k R c:Nat) (L:List ByteArray):Prop where
 k1:1≤k
 k2:k≤32
 c1:c≤1048576
 few:L.length≤65536
 sz : ∀ s∈L,s.size≤c
 room:(c+152) * L.length≤R
 top:R≤268435456
theorem Fit.init {k R c:Nat} {L:List ByteArray} {x:ByteArray} (h:Fit k R c (L++[x])):Fit k R c L :=
 ⟨h.k1,h.k2,h.c1,by have:=h.few; simp at this; omega,fun s hs=>h.sz s (List.mem_append_left _ hs),by have:=h.room; rw [List.length_append,Nat.mul_add] at this; omega,h.top⟩
theorem Fit.szs {k R c:Nat} {L:List ByteArray} (h:Fit k R c L) : ∀ s∈L,s.size≤1048576:=fun s hs=>Nat.le_trans (h.sz s hs) h.c1
theorem Fit.has {k R c:Nat} {L:List ByteArray} {D:St.DV} (h:Fit k R c L) (hd:D.down=false) (he:St.Ext k (itL k L) D.L):Has k L D:=has_ext h.k1 h.k2 h.few h.szs hd he
theorem sA_len {k R c:Nat} {L:List ByteArray} (h:Fit k R c L):(St.sA k (itL k L)).ends.length=L.length:=by
 show (St.bA k (itL k L)).ends.length=_
 rw [(itL_ok h.k1 h.k2 h.few h.szs).lens.ends,itL_len]
theorem Fit.one {k R c:Nat} {L:List ByteArray} {x:ByteArray} {D:St.DV} (h:Fit k R c (L++[x])) (hq:St.Qt R D) (he:St.Ext k (itL k L) D.L) :
  ∃ D',aD D (St.sA k (itL k L)) L x=(D',St.sA k (itL k (L++[x])),L++[x],0)∧St.Qt R D'∧St.Ext k (itL k (L++[x])) D'.L∧D'.acts=D.acts+6 :=
 a_qt h.k1 h.k2 (by have:=h.few; simp at this; omega) h.szs hq he (Nat.le_trans (itL_fits h.k1 h.k2 h.c1 h.few h.sz) h.room) h.top
theorem ap_qt {k R c:Nat} : ∀ (xs L:List ByteArray) (D:St.DV),Fit k R c (L++xs)→St.Qt R D→St.Ext k (itL k L) D.L→D.acts+6 * xs.length≤1000000 →
  ∃ D',apD D (St.sA k (itL k L)) L xs=(D',St.sA k (itL k (L++xs)),L++xs,xs.length,0)∧St.Qt R D'∧St.Ext k (itL k (L++xs)) D'.L∧D'.acts=D.acts+6 * xs.length∧RmA D (St.sA k (itL k L)) L xs
 | [],L,D,_,hq,he,_=>⟨D,by rw [List.append_nil]; rfl,hq,by rw [List.append_nil]; exact he,rfl,trivial⟩
 | x::xs,L,D,hf,hq,he,ha=>by
  rw [show L++x::xs=L++[x]++xs by simp] at hf ⊢
  have hf1:Fit k R c (L++[x]):=⟨hf.k1,hf.k2,hf.c1,by have:=hf.few; rw [List.length_append] at this; omega,fun s hs=>hf.sz s (List.mem_append_left _ hs),Nat.le_trans (Nat.mul_le_mul_left _ (by simp)) hf.room,hf.top⟩
  simp only [List.length_cons] at ha
  obtain ⟨D1,y1,y2,y3,y4⟩:=hf1.one hq he
  obtain ⟨D2,z1,z2,z3,z4,z5⟩:=ap_qt xs (L++[x]) D1 hf y2 y3 (by omega)
  refine ⟨D2,?_,z2,z3,by rw [z4,y4,List.length_cons]; omega,?_⟩
  ·rw [apD,y1]
   simp only [if_true]
   rw [z1]; rfl
  ·rw [RmA,y1]
   exact ⟨St.qt_rm hq he.oth (hf.top) (by omega),fun _=>z5⟩
theorem lo_new {k R:Nat} (k1:1≤k) (k2:k≤32) : ∃ D',loD (St.newD R) (k:Int)=(D',some (St.sA k (itL k []),[]),0)∧St.Qt R D'∧St.Ext k (itL k []) D'.L∧D'.acts≤6:=by
 obtain ⟨e1,q1⟩:=St.new_ext k R
 obtain ⟨D',j,y1,y2,y3,y4,y5,_⟩:=St.open_ok (St.okA_nil k1 k2) q1 e1.beh
 refine ⟨D',?_,y2,y3,by rw [y4]; show 0+3+j≤6; omega⟩
 exact lo_of (L:=[]) (has_ext k1 k2 (by simp) (fun s hs=>by cases hs) y2.down y3) y1
theorem rm_new {R:Nat} (k:Nat) (hR:R≤268435456):St.Rm 7 (St.newD R):=by
 obtain ⟨e1,q1⟩:=St.new_ext k R
 exact St.qt_rm q1 e1.oth hR (show (0:Nat)≤1000000 by decide)
end Go.Proofs.YtoblgjledefdbaaGreatDoor
namespace Go.Proofs.YtoblgjledefdbaaGreatDoor
open Go.RowKit
attribute [local go_sem ↓] Go.wp_at_zero Go.wp_at_succ
theorem rds_two2 (w:World) (s t:ByteArray) (hs:s.size≤9223372036854775807) (ht:t.size≤9223372036854775807):RdS (w.alloc (.cells #[.string s,.string t] 9)) (some ⟨w.heap.size,0,none⟩) w.heap.size 0 2 [s,t] :=
 ⟨rfl,fun _=>rfl,range_new w [.string s,.string t] 9,fun x hx=>by
  simp only [List.mem_cons,List.not_mem_nil,or_false] at hx
  rcases hx with rfl | rfl
  ·exact hs
  ·exact ht⟩
theorem rdu_one2 (w:World) (n:Nat):RdU (w.alloc (.cells #[.int .u64 (n:Int)] 48)) (some ⟨w.heap.size,0,none⟩) w.heap.size 0 1 [n] :=
 ⟨rfl,fun _=>rfl,range_new w [.int .u64 (n:Int)] 48⟩
theorem bytes_ne (a:UInt8) (l:List UInt8):(⟨(a::l).toArray⟩:ByteArray).toList.isEmpty=false:=by
 rw [bytes_eq]; rfl
set_option maxRecDepth 100000 in
set_option maxHeartbeats 4000000 in
theorem lalive_any (w:World) (ht:Tb w):Calls Tryz.prog 9 #[] w fun e w'=>e = .returned (.bool true)∧Below w.heap.size w w':=by
 obtain ⟨D1,o1,o2,o3,o4⟩:=lo_new (k:=8) (R:=10000) (by decide) (by decide)
 obtain ⟨ca,hca⟩ : ∃ ca:ByteArray,ca=⟨#[97]⟩:=⟨_,rfl⟩
 obtain ⟨cb,hcb⟩ : ∃ cb:ByteArray,cb=⟨#[98]⟩:=⟨_,rfl⟩
 have za:ca.size=1:=by rw [hca]; rfl
 have zb:cb.size=1:=by rw [hcb]; rfl
 have hfit:Fit 8 10000 1 ([]++[ca,cb]):=⟨by decide,by decide,by decide,(show (2:Nat)≤65536 by decide),fun s hs=>by
  simp only [List.nil_append,List.mem_cons,List.not_mem_nil,or_false] at hs
  rcases hs with rfl | rfl <;> omega,(show (1+152) * 2≤10000 by decide),by decide⟩
 obtain ⟨D2,a1,a2,a3,a4,a5⟩:=ap_qt [ca,cb] [] D1 hfit o2 o3 (by simp only [List.length_cons,List.length_nil]; omega)
 simp only [List.nil_append] at a1 a3 hfit
 have hs0:(St.sA 8 (itL 8 [])).ends.length=([]:List ByteArray).length:=rfl
 have hs2:=sA_len hfit
 have hg:gtD D2 (St.sA 8 (itL 8 [ca,cb])) [ca,cb] 1=(cb,0):=(hfit.has a2.down a3).get rfl rfl
 have HN:Hid (Calls Tryz.prog 10 #[.int .i64 10000] w fun e w' => ∃ p,e = .returned (.pointer (some ⟨p,0,none⟩))∧Dw w w' p (St.newD 10000)):=new_dw w 10000 (by decide)
 have HO:Hid (∀ W p,Dw w W p (St.newD 10000)→Calls Tryz.prog 11 #[.pointer (some ⟨p,0,none⟩),.int .i64 8] W fun e w' => ∃ a,e = .returned (.tuple #[.pointer (some ⟨a,0,none⟩),.int .i64 0])∧Nl w w' a p D1 (St.sA 8 (itL 8 [])) []):=fun W p h=>(h.open ht (rm_new 8 (by decide)) 8 o1).mono fun e w' z=>by
  obtain ⟨a,z1,z2,_⟩:=z
  exact ⟨a,z1,z2⟩
 have HA:Hid (∀ W a p,Nl w W a p D1 (St.sA 8 (itL 8 [])) []→Calls Tryz.prog 14 #[.pointer (some ⟨a,0,none⟩),.slice (some ⟨W.heap.size,0,none⟩) 2 2] (W.alloc (.cells #[.string ⟨#[97]⟩,.string ⟨#[98]⟩] 9)) fun e w'=>e = .returned (.tuple #[.int .i64 2,.int .i64 0])∧Nl w w' a p D2 (St.sA 8 (itL 8 [ca,cb])) [ca,cb]):=fun W a p h=>by
  rw [← hca,← hcb]
  exact h.append ht hs0 (bal (Below.refl _ _) _) _ W.heap.size 2 2 [ca,cb] (rds_two2 W ca cb (by omega) (by omega)) (by decide) (fun _ => .inr (Nat.le_refl _)) a5 2 0 a1
 have HG:Hid (∀ W a p,Nl w W a p D2 (St.sA 8 (itL 8 [ca,cb])) [ca,cb]→Calls Tryz.prog 39 #[.pointer (some ⟨a,0,none⟩),.int .u64 1] W fun e w'=>e = .returned (.tuple #[.string ⟨#[98]⟩,.int .i64 0])∧Nl w w' a p D2 (St.sA 8 (itL 8 [ca,cb])) [ca,cb]):=fun W a p h=>(h.get ht hs2 1 (by decide) cb 0 hg).mono fun e w' z=>⟨by rw [← hcb]; exact z.1,h.next z.2⟩
 have HB:Hid (∀ W a p,Nl w W a p D2 (St.sA 8 (itL 8 [ca,cb])) [ca,cb]→Calls Tryz.prog 38 #[.pointer (some ⟨a,0,none⟩),.int .u64 2,.slice (some ⟨W.heap.size,0,none⟩) 1 1] (W.alloc (.cells #[.int .u64 0] 48)) fun e w' => ∃ t:ByteArray,e = .returned (.tuple #[.string t,.int .i64 0])∧t.toList.isEmpty=false∧Below w.heap.size w w'):=fun W a p h =>
  (h.batch ht (show (2:Nat)≤5000 by decide) 2 (Nat.le_refl 2) (bal (Below.refl _ _) _) _ W.heap.size 0 1 1 [0] (rdu_one2 W 0) (fun _ => .inr (Nat.le_refl _)) (by decide)).mono fun e w' z=>⟨_,z.1,bytes_ne _ _,bnext h.below (bnext (bal (Below.refl _ _) _) z.2)⟩
 have HZ:Hid (∀ W,Below w.heap.size w W→Calls Tryz.prog 33 #[.pointer none] W fun e w'=>e = .returned (.tuple #[.int .u64 0,.int .i64 200])∧Below w.heap.size w w'):=fun W hW=>(lsize_nil W).mono fun e w' z=>⟨z.1,bnext hW z.2⟩
 clear o1 o2 o3 o4 za zb hfit a1 a2 a3 a4 a5 hs0 hs2 hg hca hcb ht
 go_enter Tryz.func9,Tryz.ntmps9
 go_upto_region 9 with (first
  | (go_at_call 10; (with_reducible refine HN.out.mono ?_); rintro e w1 ⟨p,rfl,t1⟩)
  | (go_at_call 11; (with_reducible refine (HO.out _ _ t1).mono ?_); rintro e w2 ⟨a,rfl,t2⟩)
  | (go_at_call 14; (with_reducible refine (HA.out _ _ _ t2).mono ?_); rintro e w3 ⟨rfl,t3⟩)
  | (go_at_call 39; (with_reducible refine (HG.out _ _ _ t3).mono ?_); rintro e w4 ⟨rfl,t4⟩)
  | (go_at_call 38; (with_reducible refine (HB.out _ _ _ t4).mono ?_); rintro e w5 ⟨t,rfl,ht5,t5⟩)
  | (go_at_call 33; (with_reducible refine (HZ.out _ t5).mono ?_); rintro e w6 ⟨rfl,t6⟩))
 clear HN HO HA HG HB HZ t1 t2 t3 t4 t5
 go_wp2
 go_ret
 exact ⟨rfl,t6⟩
end Go.Proofs.YtoblgjledefdbaaGreatDoor
namespace Go.Proofs.YtoblgjledefdbaaGreatDoor
open Go.RowKit
section
variable {w W W1:World} {a p:Nat} {D D':St.DV} {S S':St.SV} {L L' K:List ByteArray} {v:Value}
def Jn (w W:World) (a p:Nat) (D:St.DV) (S:St.SV) (L:List ByteArray) (v:Value) (K:List ByteArray):Prop :=
 ∃ U,Lg W 0 a p U D S L∧(∀ b,U b→w.heap.size≤b)∧Below w.heap.size w W∧OwnS W w.heap.size v K ∧ ∀ g,v.ownBlock=some g → ¬ U g
theorem Jn.nl (h:Jn w W a p D S L v K):Nl w W a p D S L:=by obtain ⟨U,h1,h2,h3,_⟩:=h; exact ⟨U,h1,h2,h3⟩
theorem Nl.jn (h:Nl w W a p D S L):Jn w W a p D S L (.slice none 0 0) []:=by obtain ⟨U,h1,h2,h3⟩:=h; exact ⟨U,h1,h2,h3,owns_nil _ _,fun g hg=>by cases hg⟩
theorem Jn.own (h:Jn w W a p D S L v K):OwnS W w.heap.size v K:=by obtain ⟨U,_,_,_,h4,_⟩:=h; exact h4
theorem Jn.next (h:Jn w W a p D S L v K) (hb:Below W.heap.size W W1):Jn w W1 a p D S L v K:=by
 obtain ⟨U,h1,h2,h3,h4,h5⟩:=h
 exact ⟨U,h1.next hb,h2,bnext h3 hb,own_next h4 hb (Nat.le_refl _),h5⟩
theorem Jn.lay (h:Jn w W a p D S L v K) (ht:Tb w) (k1 k2:Int) (hk:k1≤9223372036854775807) :
  Calls Tryz.prog 12 #[.pointer (some ⟨p,0,none⟩),.agg #[.int .i64 k1,.int .i64 k2,.slice none 0 0]] W fun e w'=>e = .returned (.tuple #[])∧Jn w w' a p (St.layD D k1 k2 []) S L v K:=by
 have hT:=(ht.next h.nl.below).lt
 obtain ⟨U,⟨q,m,r,vr,vs,T,h1,hU,hn⟩,h2,h3,h4,h5⟩:=h
 obtain ⟨S0,u,d1,d2,d3,d4,d5⟩:=h1.sk
 refine (d1.lay k1 k2 hk none 0 0 0 [] (St.rdl_nil _ _ _ _) (by decide) (fun h0=>absurd h0 (by decide))).mono fun e w' z=>⟨z.1,?_⟩
 obtain ⟨T',t1,t2,t3⟩:=h1.add (St.sk_mvd d2 d3 d4 d5 z.2) rfl
 refine ⟨fun y=>T' y∨Lef a m r vr vs y,⟨q,m,r,vr,vs,T',t1,fun _=>Iff.rfl,fun e => ?_⟩,fun y hy => ?_,h3.trans (t3.below h3.size fun b hb=>h2 b ((hU b).2 (.inl hb))),St.row_keep h4 fun g hg=>t3.block g (own_lt h4 hg) fun e=>h5 g hg ((hU g).2 (.inl e)),fun g hg e => ?_⟩
 ·rcases e with e | e
  ·rcases t2 _ e with e | e
   ·exact hn ((hU _).2 (.inl e))
   ·omega
  ·exact hn ((hU _).2 (.inr e))
 ·rcases hy with e | e
  ·exact (t2 y e).elim (fun e=>h2 y ((hU y).2 (.inl e))) (fun e=>Nat.le_trans h3.size e)
  ·exact h2 y ((hU y).2 (.inr e))
 ·rcases e with e | e
  ·rcases t2 _ e with e | e
   ·exact h5 g hg ((hU g).2 (.inl e))
   ·have:=own_lt h4 hg; omega
  ·exact h5 g hg ((hU g).2 (.inr e))
theorem Jn.append (h:Jn w W a p D S L v K) (ht:Tb w) (he:S.ends.length=L.length) (hb:Below W.heap.size W W1) (ao:Option Addr) (b len cap:Nat) (xs:List ByteArray) (hr:RdS W1 ao b 0 len xs) (hlen:len≤1000000) (n3:0<len→b<w.heap.size∨W.heap.size≤b) (hR:RmA D S L xs) (n:Nat) (e0:Int) (hA:apD D S L xs=(D',S',L',n,e0)) :
  Calls Tryz.prog 14 #[.pointer (some ⟨a,0,none⟩),.slice ao len cap] W1 fun e w'=>e = .returned (.tuple #[.int .i64 (n:Int),.int .i64 e0])∧Jn w w' a p D' S' L' v K:=by
 obtain ⟨U,y1,y2,y3,y4,y5⟩:=h
 have hb3:=bnext y3 hb
 refine (lappend_any W1 (ht.next hb3) (y1.next hb) he ao b len cap xs hr (by omega) (fun h0 hu => ?_) hR n e0 hA).mono fun e w' z=>⟨z.1,?_⟩
 ·have:=y1.lt hu
  have:=y2 b hu
  rcases n3 h0 with e | e <;> omega
 ·obtain ⟨U',z1,z2,z3⟩:=z.2
  have y6:=own_next y4 hb (Nat.le_refl _)
  refine ⟨U',z1,fun c hc=>(z2 c hc).elim (y2 c) (fun e=>Nat.le_trans hb3.size e),hb3.trans (z3.below hb3.size y2),St.row_keep y6 fun g hg=>z3.block g (own_lt y6 hg) (y5 g hg),fun g hg hu => ?_⟩
  rcases z2 g hu with e | e
  ·exact y5 g hg e
  ·have:=own_lt y6 hg; omega
theorem Jn.app (h:Jn w W a p D S L v K) (hb:Below W.heap.size W W1) (ty:Nat) (ad:Addr) (mc:Nat) (x:ByteArray) (hr : ∀ j u,[Value.string x][j]? = some u→W1.cell? (ad.add j)=some u) (hlen:K.length+1≤1048576) :
  ∃ v' w',(Builtin.append_ #[22,22] ty #[v,.slice (some ad) 1 mc]).run Tryz.prog W1 = .ok v' w'∧Jn w w' a p D S L v' (K++[x]):=by
 obtain ⟨U,y1,y2,y3,y4,y5⟩:=h.next hb
 obtain ⟨v',w5,hap,o5,g5⟩:=run_app_L W1 ty w.heap.size v K y4 ad mc x hr hlen y3.size
 refine ⟨v',w5,hap,?_⟩
 have t5:St.Upo (fun b=>v.ownBlock=some b) W1 w5:=by
  rcases g5 with ⟨g,n,c,e1,e2,g3⟩ | ⟨g3,_⟩
  ·rw [e1]; exact St.Upo.grown g3 (fun b hb=>by cases hb; rfl)
  ·exact St.Upo.grown g3 (fun b hb=>by cases hb)
 have hv5 : ∀ b,v'.ownBlock=some b→v.ownBlock=some b∨W1.heap.size≤b:=fun b hb=>by
  rcases g5 with ⟨g',n,c,e1,e2,g3⟩ | ⟨_,g3⟩
  ·rw [e1]; rw [e2] at hb; exact .inl hb
  ·exact .inr (g3 b hb)
 refine ⟨U,y1.same fun x hx=>t5.block x (y1.lt hx) fun e=>y5 x e hx,y2,y3.trans (t5.below y3.size fun b hb=>(World.ownsRow.lt y4 b hb).1),o5,fun g hg hu => ?_⟩
 rcases hv5 g hg with e | e
 ·exact y5 g e hu
 ·have:=y1.lt hu; omega
end
section
variable {k c R:Nat} {L:List ByteArray} {x:ByteArray} {D D':St.DV}
theorem gd_has (hf:Fit k R c L) {X:St.It} (hd:D'.down=false) (hg:St.Gd k (itL k L) (some X) D'.L):Has k L D'∧St.Oth D'.L:=by
 rcases hg with ⟨ia,is,na,ns,ma,ms,c1,⟨⟨p1,_⟩,_⟩,⟨⟨p2,_⟩,_⟩,_⟩ | ⟨Y,_,hg⟩
 ·exact ⟨⟨hf.k1,hf.k2,hf.few,hf.szs,hd,by rw [c1.i]; exact p1,by rw [c1.n]; exact p2⟩,c1.oth⟩
 ·have hp:=St.bA_pre k (itL k L) [Y]
  rcases hg with ⟨ia,is,na,ns,ma,ms,c1,⟨⟨p1,_⟩,_⟩,⟨⟨p2,_⟩,_⟩,_⟩ | c1
  ·exact ⟨⟨hf.k1,hf.k2,hf.few,hf.szs,hd,by rw [c1.i]; exact hp.1.trans p1,by rw [c1.n]; exact hp.2.1.trans p2⟩,c1.oth⟩
  ·exact ⟨⟨hf.k1,hf.k2,hf.few,hf.szs,hd,by rw [c1.i]; exact hp.1,by rw [c1.n]; exact hp.2.1⟩,c1.oth⟩
theorem hit_one (hf:Fit k R c (L++[x])) (hf6:L.length<65536) (hR:300000≤R) (hsm:(c+152) * (L.length+1)≤300000) (hq:St.Qt R D) (he:St.Ext k (itL k L) D.L) (ha:D.acts≤999990) (fa fk:Int) (a1:1≤fa) (a6:fa≤6) (k1:1≤fk) (k3:fk≤3) :
  ∃ D' e,apD (St.layD D fa fk []) (St.sA k (itL k L)) L [x]=(D',{ St.sA k (itL k L) with lame:=true },L,0,e)∧(e=171∨e=172)∧Has k L D'∧RmA (St.layD D fa fk []) (St.sA k (itL k L)) L [x]∧St.Rm 7 D':=by
 have hX:=hf.init
 obtain ⟨q1,q2,q3,q4,q5⟩:=St.lay_f hq.qf fa fk [] a1 ⟨k1,by omega⟩
 have hs:St.Smk k (itL k L++[(x.data.toList,mdL k L x)]):=by
  rw [← itL_snoc]
  exact ⟨itL_ok hf.k1 hf.k2 hf.few hf.szs,Nat.le_trans (itL_fits hf.k1 hf.k2 hf.c1 hf.few hf.sz) (by rw [List.length_append]; exact hsm)⟩
 obtain ⟨D',e,y1,y2,y3,y4,y5,y6,y7⟩:=St.add_hit hs q1 (by rw [q2]; exact he) hR hf.top ⟨by rw [q5]; exact k1,by rw [q5]; exact k3,by rw [q4]; exact a1⟩ (by rw [q4]; exact a6)
 obtain ⟨hh,ho⟩:=gd_has hX y3 y6
 have e0 : ¬ e=0:=by rcases y2 with q | q <;> rw [q] <;> decide
 have hA:=a_of (L:=L) (hf.szs x (by simp)) (by rw [sA_len hX]; exact hf6) rfl y1
 rw [if_neg e0] at hA
 have hrm:St.Rm 7 (St.layD D fa fk []):=St.rm_of (by rw [q3]; omega) q1.ord (by rw [q2]; exact he.oth) (by have:=q1.tot; omega) hf.top
 refine ⟨D',e,?_,y2,hh,?_,St.rm_of (by rw [q3] at y7; omega) y5 ho y4 hf.top⟩
 ·rw [apD,hA]; simp only [if_neg e0]
 ·rw [RmA,hA]; exact ⟨hrm,fun h=>absurd h e0⟩
theorem lame_one (hf:Fit k R c L) (hf6:L.length<65536) (hx:x.size≤1048576) (hr:St.Rm 7 D):apD D { St.sA k (itL k L) with lame:=true } L [x]=(D,{ St.sA k (itL k L) with lame:=true },L,0,191)∧RmA D { St.sA k (itL k L) with lame:=true } L [x]:=by
 have hA:=a_of (L:=L) (k:=k) hx (by show (St.sA k (itL k L)).ends.length<_; rw [sA_len hf]; exact hf6) rfl (St.lame_add (D:=D) (S:=St.sA k (itL k L)) x.data.toList (mdL k L x))
 rw [if_neg (by decide)] at hA
 constructor
 ·rw [apD,hA]; rfl
 ·rw [RmA,hA]; exact ⟨hr,fun h=>absurd (show (191:Int)=0 from h) (by decide)⟩
end
end Go.Proofs.YtoblgjledefdbaaGreatDoor
