/- Own work. -/
import Derived.Test.YtoblgjledefdbaaGreatDoorQf40
namespace Go.Proofs.YtoblgjledefdbaaGreatDoor.St
open Rc
abbrev LL:=List (List UInt8×FV)
structure Qf (R:Nat) (D:DV):Prop where
 down:D.down=false
 ord:Ord D.L
 tot:D.free+tot D.L=R
theorem Qt.qf {R:Nat} {D:DV} (h:Qt R D):Qf R D:=⟨h.down,h.ord,h.tot⟩
theorem Qf.qt {R:Nat} {D:DV} (h:Qf R D) (hk:D.fk=0):Qt R D:=⟨h.down,hk,h.ord,h.tot⟩
def Af (R:Nat) (D:DV) (M:LL) (x:DV×Int):Prop :=
 x.1.acts=D.acts+1∧(D.fk=0→x.1.fk=0)∧((x.2=0∧Qf R x.1∧x.1.L=M) ∨
  (x.2≠0∧D.fk≠0∧((Qf R x.1∧(x.1.L=D.L∨x.1.L=M))∨(x.1.down=true∧x.1.free≤R ∧ ∃ ks,x.1.L=layL (aft ks D.L 0)∨x.1.L=layL (aft ks M 0)))))
theorem act_f {R:Nat} {D:DV} (h:Qf R D) (s:List UInt8) (f:FV) (hf:f.now.length≤D.free+(fget D.L s).now.length):Af R D (fput D.L s f) (actD D s f):=by
 have ht:=tot_put h.ord s f
 have hT:=h.tot
 have hR:D.free+(fget D.L s).now.length - f.now.length+tot (fput D.L s f)=R:=by omega
 by_cases h0:D.fk=0
 ·rw [actD_plain h0]
  exact ⟨rfl,fun _=>h0,.inl ⟨rfl,⟨h.down,ord_fput h.ord s f,hR⟩,rfl⟩⟩
 ·by_cases h1:1<D.fa
  ·have e:metD { D with acts:=D.acts+1 } = ({ D with acts:=D.acts+1,fa:=D.fa - 1 },0,[]):=by
    unfold metD
    rw [if_neg (show ¬ D.fk=0 from h0),if_pos (show 1<D.fa from h1)]
   have e2:actD D s f=(dput { D with acts:=D.acts+1,fa:=D.fa - 1 } s f,0):=by unfold actD; rw [e]; rfl
   rw [e2]
   exact ⟨rfl,fun q=>absurd q h0,.inl ⟨rfl,⟨h.down,ord_fput h.ord s f,hR⟩,rfl⟩⟩
  ·have e:metD { D with acts:=D.acts+1 } = ({ D with acts:=D.acts+1,fa:=0,fk:=0,ks:=[] },D.fk,D.ks):=by
    unfold metD
    rw [if_neg (show ¬ D.fk=0 from h0),if_neg (show ¬ 1<D.fa from h1)]
   have q1:Qf R { D with acts:=D.acts+1,fa:=0,fk:=0,ks:=[] } := ⟨h.down,h.ord,h.tot⟩
   have q2:Qf R (dput { D with acts:=D.acts+1,fa:=0,fk:=0,ks:=[] } s f):=⟨h.down,ord_fput h.ord s f,hR⟩
   unfold actD
   rw [e]
   simp only
   split
   ·exact ⟨rfl,fun _=>rfl,.inr ⟨(by decide:(171:Int)≠0),h0,.inl ⟨q1,.inl rfl⟩⟩⟩
   ·split
    ·exact ⟨rfl,fun _=>rfl,.inr ⟨(by decide:(172:Int)≠0),h0,.inl ⟨q1,.inl rfl⟩⟩⟩
    ·split
     ·exact ⟨rfl,fun _=>rfl,.inr ⟨(by decide:(170:Int)≠0),h0,.inr ⟨rfl,by show D.free≤R; omega,D.ks,.inl rfl⟩⟩⟩
     ·split
      ·exact ⟨rfl,fun _=>rfl,.inr ⟨(by decide:(171:Int)≠0),h0,.inl ⟨q2,.inr rfl⟩⟩⟩
      ·split
       ·exact ⟨rfl,fun _=>rfl,.inr ⟨(by decide:(170:Int)≠0),h0,.inr ⟨rfl,by show D.free+(fget D.L s).now.length - f.now.length≤R; omega,D.ks,.inr rfl⟩⟩⟩
       ·exact ⟨rfl,fun _=>rfl,.inl ⟨rfl,q2,rfl⟩⟩
def Stp (R:Nat) (P Q:LL→Prop) (f:DV→DV×Int):Prop := ∀ D,Qf R D→P D.L→(∃ s g,f D=actD D s g∧g.now.length≤D.free+(fget D.L s).now.length∧Q (fput D.L s g))∨(f D=(D,0)∧Q D.L)
inductive Chn (R:Nat) (I:LL→Prop):List (DV→DV×Int)→(LL→Prop)→(LL→Prop)→Prop
 | nil (P:LL→Prop):(∀ L,P L→I L)→Chn R I [] P P
 | cons (P P' Q:LL→Prop) (f:DV→DV×Int) (r:List (DV→DV×Int)):(∀ L,P L→I L)→Stp R P P' f→Chn R I r P' Q→Chn R I (f::r) P Q
theorem Chn.first {R:Nat} {I P Q:LL→Prop} {r:List (DV→DV×Int)} (h:Chn R I r P Q) : ∀ L,P L→I L:=by
 cases h with
 | nil _ h=>exact h
 | cons _ _ _ _ _ h _ _=>exact h
structure Run (R n:Nat) (I Q:LL→Prop) (D:DV) (x:DV×Int):Prop where
 acts:x.1.acts≤D.acts+n
 fk:D.fk=0→x.1.fk=0
 out:(x.2=0∧Qf R x.1∧Q x.1.L)∨(x.2≠0∧D.fk≠0∧x.1.free≤R∧Ord x.1.L∧I x.1.L∧(Qf R x.1∨x.1.down=true))
theorem run_chn {R:Nat} {I:LL→Prop} (hI : ∀ L ks,Ord L→I L→I (layL (aft ks L 0))) : ∀ (r:List (DV→DV×Int)) (P Q:LL→Prop),Chn R I r P Q → ∀ D,Qf R D→P D.L→Run R r.length I Q D (runA r D)
 | [],_,_,.nil P h0,D,hq,hp=>⟨Nat.le_refl _,fun h=>h,.inl ⟨rfl,hq,hp⟩⟩
 | f::r,_,_,.cons P P' Q _ _ h0 hs hc,D,hq,hp=>by
  have hfr : ∀ X:DV,Qf R X→X.free≤R:=fun X h=>by have:=h.tot; omega
  rcases hs D hq hp with ⟨s,g,e,hf,hp'⟩ | ⟨e,hp'⟩
  ·obtain ⟨a1,a2,a3⟩:=act_f hq s g hf
   rw [← e] at a1 a2 a3
   rw [runA]
   rcases a3 with ⟨b1,b2,b3⟩ | ⟨b1,b2,b3⟩
   ·rw [if_pos b1]
    have ih:=run_chn hI r P' Q hc (f D).1 b2 (by rw [b3]; exact hp')
    refine ⟨by have:=ih.acts; simp only [List.length_cons]; omega,fun h=>ih.fk (a2 h),?_⟩
    rcases ih.out with h | ⟨h1,h2,h3⟩
    ·exact .inl h
    ·exact .inr ⟨h1,fun h=>h2 (a2 h),h3⟩
   ·rw [if_neg b1]
    refine ⟨by rw [a1]; simp only [List.length_cons]; omega,a2,.inr ⟨b1,b2,?_⟩⟩
    have hom:=ord_fput hq.ord s g
    rcases b3 with ⟨c1,c2⟩ | ⟨c1,c2,ks,c3⟩
    ·refine ⟨hfr _ c1,c1.ord,?_,.inl c1⟩
     rcases c2 with c2 | c2
     ·rw [c2]; exact h0 _ hp
     ·rw [c2]; exact hc.first _ hp'
    ·rcases c3 with c3 | c3
     ·exact ⟨c2,by rw [c3]; exact sor_ord (aft_sor ks _ 0 hq.ord.1),by rw [c3]; exact hI _ _ hq.ord (h0 _ hp),.inr c1⟩
     ·exact ⟨c2,by rw [c3]; exact sor_ord (aft_sor ks _ 0 hom.1),by rw [c3]; exact hI _ _ hom (hc.first _ hp'),.inr c1⟩
  ·rw [runA,e,if_pos rfl]
   have ih:=run_chn hI r P' Q hc D hq hp'
   exact ⟨by have:=ih.acts; simp only [List.length_cons]; omega,ih.fk,ih.out⟩
structure Cn (ia is na ns ma ms:List UInt8) (L:LL):Prop where
 i:fget L nmI=⟨ia,is⟩
 n:fget L nmN=⟨na,ns⟩
 m:fget L nmM=⟨ma,ms⟩
 oth:Oth L
section
variable {ia is na ns ma ms:List UInt8} {L:LL}
theorem Cn.putI (h:Cn ia is na ns ma ms L) (ho:Ord L) (x y:List UInt8):Cn x y na ns ma ms (fput L nmI ⟨x,y⟩) :=
 ⟨by rw [fget_fput ho,if_pos rfl],by rw [fget_fput ho,if_neg ne_IN.symm,h.n],by rw [fget_fput ho,if_neg ne_IM.symm,h.m],fun s h1 h2 h3=>by rw [fget_fput ho,if_neg h1]; exact h.oth s h1 h2 h3⟩
theorem Cn.putN (h:Cn ia is na ns ma ms L) (ho:Ord L) (x y:List UInt8):Cn ia is x y ma ms (fput L nmN ⟨x,y⟩) :=
 ⟨by rw [fget_fput ho,if_neg ne_IN,h.i],by rw [fget_fput ho,if_pos rfl],by rw [fget_fput ho,if_neg ne_NM.symm,h.m],fun s h1 h2 h3=>by rw [fget_fput ho,if_neg h2]; exact h.oth s h1 h2 h3⟩
theorem Cn.putM (h:Cn ia is na ns ma ms L) (ho:Ord L) (x y:List UInt8):Cn ia is na ns x y (fput L nmM ⟨x,y⟩) :=
 ⟨by rw [fget_fput ho,if_neg ne_IM,h.i],by rw [fget_fput ho,if_neg ne_NM,h.n],by rw [fget_fput ho,if_pos rfl],fun s h1 h2 h3=>by rw [fget_fput ho,if_neg h3]; exact h.oth s h1 h2 h3⟩
theorem Cn.tot (h:Cn ia is na ns ma ms L) (ho:Ord L):tot L=ia.length+na.length+ma.length:=by
 have:=(tot_three ho h.oth).1
 rwa [h.i,h.n,h.m] at this
theorem Cn.fall (h:Cn ia is na ns ma ms L) (ho:Ord L) (ks:List Bool) : ∃ x y z j1 j2 j3,Cn x x y y z z (layL (aft ks L 0))∧x=(stay ks ⟨ia,is⟩ j1).1∧y=(stay ks ⟨na,ns⟩ j2).1∧z=(stay ks ⟨ma,ms⟩ j3).1:=by
 obtain ⟨j1,e1⟩:=lay_aft ho ks nmI
 obtain ⟨j2,e2⟩:=lay_aft ho ks nmN
 obtain ⟨j3,e3⟩:=lay_aft ho ks nmM
 rw [h.i] at e1
 rw [h.n] at e2
 rw [h.m] at e3
 refine ⟨_,_,_,j1,j2,j3,⟨e1,e2,e3,fun s h1 h2 h3 => ?_⟩,rfl,rfl,rfl⟩
 obtain ⟨j,e⟩:=lay_aft ho ks s
 rw [e,h.oth s h1 h2 h3,stay_fz]; rfl
end
theorem Ext.cn {k:Nat} {A:List It} {L:LL} (h:Ext k A L):Cn (bA k A).a (bA k A).a (bA k A).b (bA k A).b (bA k A).m (bA k A).m L:=⟨h.i,h.n,h.m,h.oth⟩
theorem Cn.ext {k:Nat} {A:List It} {L:LL} (h:Cn (bA k A).a (bA k A).a (bA k A).b (bA k A).b (bA k A).m (bA k A).m L):Ext k A L:=⟨h.i,h.n,h.m,h.oth⟩
def Fi (p y:List UInt8):Prop:=p <+: y∧y.length≤600000
def Mi (m y:List UInt8):Prop:=y=m∨y=m++zer 64
def Wk (k:Nat) (A:List It) (L:LL):Prop := ∃ ia is na ns ma ms,Cn ia is na ns ma ms L∧(Fi (bA k A).a ia∧Fi (bA k A).a is)∧(Fi (bA k A).b na∧Fi (bA k A).b ns)∧Mi (bA k A).m ma∧Mi (bA k A).m ms
structure Smk (k:Nat) (A:List It):Prop where
 ok:OkA k A
 sz:(bA k A).a.length+(bA k A).b.length+(bA k A).m.length≤300000
theorem fi_refl {p:List UInt8} (h:p.length≤600000):Fi p p:=⟨List.prefix_rfl,h⟩
theorem fi_stay {p x y:List UInt8} (h1:Fi p x) (h2:Fi p y) (ks:List Bool) (j:Nat):Fi p (stay ks ⟨x,y⟩ j).1:=by
 refine ⟨stay_pre ks ⟨x,y⟩ j h1.1 h2.1,?_⟩
 rcases stay_lenS ks ⟨x,y⟩ j with h | h
 ·rw [h]; exact h1.2
 ·rw [h]; exact h2.2
theorem mi_tail {m y:List UInt8} (h:Mi m y) : ∃ t,y=m++t∧(t=[]∨t=zer 64):=by
 rcases h with rfl | rfl
 ·exact ⟨[],by rw [List.append_nil],.inl rfl⟩
 ·exact ⟨zer 64,rfl,.inr rfl⟩
theorem sec_tail {m t:List UInt8} {n:Nat} (hm:m.length=64 * n) (h:t=[]∨t=zer 64):sec (m++t) n=zer 64:=by
 rcases h with rfl | rfl
 ·rw [List.append_nil]; exact sec_out m n hm
 ·exact sec_end m _ n hm (zer_len 64)
theorem mi_stay {m x y:List UInt8} {n:Nat} (hm:m.length=64 * n) (h1:Mi m x) (h2:Mi m y) (ks:List Bool) (j:Nat):Mi m (stay ks ⟨x,y⟩ j).1:=by
 obtain ⟨t,rfl,ht⟩:=mi_tail h1
 obtain ⟨u,rfl,hu⟩:=mi_tail h2
 have lt:t=[]∨t.length=64:=ht.imp id (fun e=>by rw [e,zer_len])
 have lu:u=[]∨u.length=64:=hu.imp id (fun e=>by rw [e,zer_len])
 have:=stay_mark ks m t u n j hm lt lu
 rw [sec_tail hm ht,sec_tail hm hu] at this
 rcases this with h | h | h
 ·exact .inl h
 ·exact .inr h
 ·exact .inr h
theorem Wk.fall {k:Nat} {A:List It} {L:LL} (h:OkA k A) (hw:Wk k A L) (ho:Ord L) (ks:List Bool):Wk k A (layL (aft ks L 0)):=by
 obtain ⟨ia,is,na,ns,ma,ms,c,⟨i1,i2⟩,⟨n1,n2⟩,m1,m2⟩:=hw
 obtain ⟨x,y,z,j1,j2,j3,c',rfl,rfl,rfl⟩:=c.fall ho ks
 have a:=fi_stay i1 i2 ks j1
 have b:=fi_stay n1 n2 ks j2
 have d:=mi_stay h.lens.m m1 m2 ks j3
 exact ⟨_,_,_,_,_,_,c',⟨a,a⟩,⟨b,b⟩,d,d⟩
theorem Wk.beh {k:Nat} {A:List It} {L:LL} (hw:Wk k A L):Beh k A L:=by
 obtain ⟨ia,is,na,ns,ma,ms,c,⟨i1,i2⟩,⟨n1,n2⟩,m1,m2⟩:=hw
 refine ⟨by rw [c.i]; exact i1.1,by rw [c.n]; exact n1.1,?_,c.oth⟩
 obtain ⟨t,e,ht⟩:=mi_tail m1
 exact ⟨t,by rw [c.m]; exact e,ht.imp (fun e=>by rw [e]; decide) id⟩
theorem Smk.wk {k:Nat} {A:List It} {L:LL} (h:Smk k A) (he:Ext k A L):Wk k A L:=by
 have:=h.sz
 exact ⟨_,_,_,_,_,_,he.cn,⟨fi_refl (by omega),fi_refl (by omega)⟩,⟨fi_refl (by omega),fi_refl (by omega)⟩,.inl rfl,.inl rfl⟩
def Un (k:Nat) (A:List It) (x:It) (L:LL):Prop:=Cn (bA k (A++[x])).a (bA k (A++[x])).a (bA k (A++[x])).b (bA k (A++[x])).b (bA k (A++[x])).m (bA k A).m L
theorem bm_snoc (k:Nat) (A:List It) (x:It):(bA k (A++[x])).m=(bA k A).m++mrk ((bA k A).mk' k x):=by rw [bA_snoc]; rfl
theorem Un.fall {k:Nat} {A:List It} {x:It} {L:LL} (h:Smk k (A++[x])) (hu:Un k A x L) (ho:Ord L) (ks:List Bool):Wk k A (layL (aft ks L 0))∨Wk k (A++[x]) (layL (aft ks L 0)):=by
 obtain ⟨a,b,c,j1,j2,j3,c',e1,e2,e3⟩:=Cn.fall hu ho ks
 rw [stay_sync] at e1 e2
 subst e1 e2
 have hp:=bA_pre k A [x]
 have hs:=h.sz
 have l:=h.ok.init.lens
 have l2:=h.ok.lens
 have hml:(mrk ((bA k A).mk' k x)).length=64:=by
  have:=l2.m
  rw [bm_snoc,List.length_append,l.m,List.length_append] at this
  simp only [List.length_cons,List.length_nil] at this
  omega
 have key:=stay_mark ks (bA k A).m (mrk ((bA k A).mk' k x)) [] A.length j3 l.m (.inr hml) (.inl rfl)
 rw [sec_end _ _ _ l.m hml,List.append_nil,sec_out _ _ l.m,← bm_snoc,← e3] at key
 have fa:Fi (bA k A).a (bA k (A++[x])).a:=⟨hp.1,by omega⟩
 have fb:Fi (bA k A).b (bA k (A++[x])).b:=⟨hp.2.1,by omega⟩
 have ga:Fi (bA k (A++[x])).a (bA k (A++[x])).a:=fi_refl (by omega)
 have gb:Fi (bA k (A++[x])).b (bA k (A++[x])).b:=fi_refl (by omega)
 rcases key with e | e | e
 ·exact .inl ⟨_,_,_,_,_,_,c',⟨fa,fa⟩,⟨fb,fb⟩,.inl e,.inl e⟩
 ·exact .inr ⟨_,_,_,_,_,_,c',⟨ga,ga⟩,⟨gb,gb⟩,.inl e,.inl e⟩
 ·exact .inl ⟨_,_,_,_,_,_,c',⟨fa,fa⟩,⟨fb,fb⟩,.inr e,.inr e⟩
def Gd (k:Nat) (A:List It) (X:Option It) (L:LL):Prop:=Wk k A L ∨ ∃ x,X=some x∧(Wk k (A++[x]) L∨Un k A x L)
structure SmX (k:Nat) (A:List It) (X:Option It):Prop where
 a:Smk k A
 x : ∀ x,X=some x→Smk k (A++[x])
theorem Gd.fall {k:Nat} {A:List It} {X:Option It} (h:SmX k A X) {L:LL} {ks:List Bool} (ho:Ord L) (hg:Gd k A X L):Gd k A X (layL (aft ks L 0)):=by
 rcases hg with hw | ⟨x,rfl,hw | hu⟩
 ·exact .inl (hw.fall h.a.ok ho ks)
 ·exact .inr ⟨x,rfl,.inl (hw.fall (h.x x rfl).ok ho ks)⟩
 ·rcases hu.fall (h.x x rfl) ho ks with e | e
  ·exact .inl e
  ·exact .inr ⟨x,rfl,.inl e⟩
def Ge (A:List It) (X:Option It) (B:List It):Prop:=B=A ∨ ∃ x,X=some x∧B=A++[x]
theorem Ge.smk {k:Nat} {A B:List It} {X:Option It} (h:SmX k A X) (hb:Ge A X B):Smk k B:=by
 rcases hb with rfl | ⟨x,e,rfl⟩
 ·exact h.a
 ·exact h.x x e
theorem Gd.fallen {k:Nat} {A:List It} {X:Option It} (h:SmX k A X) {L:LL} (ks:List Bool) (ho:Ord L) (hg:Gd k A X L) : ∃ B,Ge A X B∧Wk k B (layL (aft ks L 0)):=by
 rcases hg with hw | ⟨x,rfl,hw | hu⟩
 ·exact ⟨A,.inl rfl,hw.fall h.a.ok ho ks⟩
 ·exact ⟨_,.inr ⟨x,rfl,rfl⟩,hw.fall (h.x x rfl).ok ho ks⟩
 ·rcases hu.fall (h.x x rfl) ho ks with e | e
  ·exact ⟨A,.inl rfl,e⟩
  ·exact ⟨_,.inr ⟨x,rfl,rfl⟩,e⟩
theorem Gd.pre {k:Nat} {A:List It} {X:Option It} {L:LL} (hg:Gd k A X L):(bA k A).a <+: (fget L nmI).now∧(bA k A).b <+: (fget L nmN).now∧Oth L:=by
 rcases hg with hw | ⟨x,rfl,hw | hu⟩
 ·exact ⟨hw.beh.i,hw.beh.n,hw.beh.oth⟩
 ·have hp:=bA_pre k A [x]
  exact ⟨hp.1.trans hw.beh.i,hp.2.1.trans hw.beh.n,hw.beh.oth⟩
 ·have hp:=bA_pre k A [x]
  exact ⟨by rw [hu.i]; exact hp.1,by rw [hu.n]; exact hp.2.1,hu.oth⟩
section
variable {R:Nat} {ia is na ns ma ms:List UInt8}
theorem wr_is {D:DV} (h:Qf R D) (s t now syn:List UInt8) (hn:fget D.L s=⟨now,syn⟩) (h1:now.length+t.length≤268435456) (h2:t.length≤D.free):wrD D s (now.length:Int) t=actD D s ⟨now++t,syn⟩:=by
 unfold wrD
 rw [hn,if_neg (by rw [h.down]; exact Bool.false_ne_true),if_neg (by simp only; omega),if_neg (by simp only; omega),Int.toNat_natCast]
 simp only [wr_end]
theorem syn_is {D:DV} (h:Qf R D) (s now syn:List UInt8) (hn:fget D.L s=⟨now,syn⟩):synD D s=actD D s ⟨now,now⟩:=by
 unfold synD
 rw [hn,if_neg (by rw [h.down]; exact Bool.false_ne_true)]
theorem cut_is {D:DV} (h:Qf R D) (s P now syn:List UInt8) (hn:fget D.L s=⟨now,syn⟩) (hP:P <+: now) (n:Nat) (hl:P.length=n):(cutI s n D=(D,0)∧now=P)∨cutI s n D=actD D s ⟨P,syn⟩:=by
 have hs:sizD D s=now.length:=by unfold sizD; rw [h.down,hn]; rfl
 have hle:=hP.length_le
 unfold cutI
 rw [hs]
 by_cases he:now.length≤n
 ·rw [if_pos he]
  exact .inl ⟨rfl,(List.IsPrefix.eq_of_length hP (by omega)).symm⟩
 ·rw [if_neg he]
  unfold cutD
  rw [hn,if_neg (by rw [h.down]; exact Bool.false_ne_true),if_neg (by simp only; omega),Int.toNat_natCast,← hl]
  simp only [← List.prefix_iff_eq_take.1 hP]
  exact .inr trivial
theorem stp_wrI (t:List UInt8) (h1:ia.length+t.length≤268435456) (h2:ia.length+na.length+ma.length+t.length≤R):Stp R (Cn ia is na ns ma ms) (Cn (ia++t) is na ns ma ms) (fun D=>wrD D nmI (ia.length:Int) t):=fun D hq c=>by
 have ht:=c.tot hq.ord
 have hT:=hq.tot
 exact .inl ⟨nmI,⟨ia++t,is⟩,wr_is hq nmI t ia is c.i h1 (by omega),by rw [c.i]; simp only [List.length_append]; omega,c.putI hq.ord _ _⟩
theorem stp_wrN (t:List UInt8) (h1:na.length+t.length≤268435456) (h2:ia.length+na.length+ma.length+t.length≤R):Stp R (Cn ia is na ns ma ms) (Cn ia is (na++t) ns ma ms) (fun D=>wrD D nmN (na.length:Int) t):=fun D hq c=>by
 have ht:=c.tot hq.ord
 have hT:=hq.tot
 exact .inl ⟨nmN,⟨na++t,ns⟩,wr_is hq nmN t na ns c.n h1 (by omega),by rw [c.n]; simp only [List.length_append]; omega,c.putN hq.ord _ _⟩
theorem stp_wrM (t:List UInt8) (h1:ma.length+t.length≤268435456) (h2:ia.length+na.length+ma.length+t.length≤R):Stp R (Cn ia is na ns ma ms) (Cn ia is na ns (ma++t) ms) (fun D=>wrD D nmM (ma.length:Int) t):=fun D hq c=>by
 have ht:=c.tot hq.ord
 have hT:=hq.tot
 exact .inl ⟨nmM,⟨ma++t,ms⟩,wr_is hq nmM t ma ms c.m h1 (by omega),by rw [c.m]; simp only [List.length_append]; omega,c.putM hq.ord _ _⟩
theorem stp_syI:Stp R (Cn ia is na ns ma ms) (Cn ia ia na ns ma ms) (fun D=>synD D nmI):=fun D hq c => .inl ⟨nmI,⟨ia,ia⟩,syn_is hq nmI ia is c.i,by rw [c.i]; exact Nat.le_add_left _ _,c.putI hq.ord _ _⟩
theorem stp_syN:Stp R (Cn ia is na ns ma ms) (Cn ia is na na ma ms) (fun D=>synD D nmN):=fun D hq c => .inl ⟨nmN,⟨na,na⟩,syn_is hq nmN na ns c.n,by rw [c.n]; exact Nat.le_add_left _ _,c.putN hq.ord _ _⟩
theorem stp_syM:Stp R (Cn ia is na ns ma ms) (Cn ia is na ns ma ma) (fun D=>synD D nmM):=fun D hq c => .inl ⟨nmM,⟨ma,ma⟩,syn_is hq nmM ma ms c.m,by rw [c.m]; exact Nat.le_add_left _ _,c.putM hq.ord _ _⟩
theorem stp_cuI (P:List UInt8) (hP:P <+: ia) (n:Nat) (hl:P.length=n):Stp R (Cn ia is na ns ma ms) (Cn P is na ns ma ms) (cutI nmI n):=fun D hq c=>by
 rcases cut_is hq nmI P ia is c.i hP n hl with ⟨e1,rfl⟩ | e
 ·exact .inr ⟨e1,c⟩
 ·exact .inl ⟨nmI,_,e,by rw [c.i]; have:=hP.length_le; simp only; omega,c.putI hq.ord _ _⟩
theorem stp_cuN (P:List UInt8) (hP:P <+: na) (n:Nat) (hl:P.length=n):Stp R (Cn ia is na ns ma ms) (Cn ia is P ns ma ms) (cutI nmN n):=fun D hq c=>by
 rcases cut_is hq nmN P na ns c.n hP n hl with ⟨e1,rfl⟩ | e
 ·exact .inr ⟨e1,c⟩
 ·exact .inl ⟨nmN,_,e,by rw [c.n]; have:=hP.length_le; simp only; omega,c.putN hq.ord _ _⟩
theorem stp_cuM (P:List UInt8) (hP:P <+: ma) (n:Nat) (hl:P.length=n):Stp R (Cn ia is na ns ma ms) (Cn ia is na ns P ms) (cutI nmM n):=fun D hq c=>by
 rcases cut_is hq nmM P ma ms c.m hP n hl with ⟨e1,rfl⟩ | e
 ·exact .inr ⟨e1,c⟩
 ·exact .inl ⟨nmM,_,e,by rw [c.m]; have:=hP.length_le; simp only; omega,c.putM hq.ord _ _⟩
end
structure AdF (R k:Nat) (A:List It) (x:It) (D D':DV) (S':SV) (e:Int):Prop where
 acts:D'.acts≤D.acts+6
 fk:D.fk=0→D'.fk=0
 out:(e=0∧S'=sA k (A++[x])∧Qf R D'∧Ext k (A++[x]) D'.L)∨(e≠0∧D.fk≠0∧S' = { sA k A with lame:=true } ∧ D'.free≤R∧Ord D'.L∧Gd k A (some x) D'.L∧(Qf R D'∨D'.down=true))
theorem smx_some {k:Nat} {A:List It} {x:It} (h:Smk k (A++[x])):SmX k A (some x):=by
 have hp:=bA_pre k A [x]
 have h1:=hp.1.length_le
 have h2:=hp.2.1.length_le
 have h3:=hp.2.2.length_le
 have hs:=h.sz
 exact ⟨⟨h.ok.init,by omega⟩,fun y hy=>by cases hy; exact h⟩
theorem add_f {k R:Nat} {A:List It} {x:It} {D:DV} (h:Smk k (A++[x])) (hq:Qf R D) (he:Ext k A D.L) (hR:300000≤R) (hz:R≤268435456) : ∃ D' S' e,addD D (sA k A) x.1 x.2=(D',S',e)∧AdF R k A x D D' S' e:=by
 have hX:=smx_some h
 have hs:=h.sz
 have hs0:=hX.a.sz
 have l:=h.ok.init.lens
 have hx:=h.ok.last
 have hf:=h.ok.few
 simp only [List.length_append,List.length_cons,List.length_nil,Nat.zero_add] at hf
 have ea:(bA k (A++[x])).a=(bA k A).a++pay x.1:=by rw [bA_snoc]; rfl
 have eb:(bA k (A++[x])).b=(bA k A).b++Rc.flat (recs (nn A.length) x.2):=by rw [bA_snoc,← l.ends]; rfl
 have em:(bA k (A++[x])).m=(bA k A).m++mrk ((bA k A).mk' k x):=bm_snoc k A x
 have eal:(bA k (A++[x])).a.length=(bA k A).a.length+(pay x.1).length:=by rw [ea,List.length_append]
 have ebl:(bA k (A++[x])).b.length=(bA k A).b.length+(Rc.flat (recs (nn A.length) x.2)).length:=by rw [eb,List.length_append]
 have eml:(bA k (A++[x])).m.length=(bA k A).m.length+(mrk ((bA k A).mk' k x)).length:=by rw [em,List.length_append]
 have e0:addA (sA k A) x.1 x.2=[fun D=>wrD D nmI ((bA k A).a.length:Int) (pay x.1),fun D=>wrD D nmN ((bA k A).b.length:Int) (Rc.flat (recs (nn A.length) x.2)),fun D=>synD D nmI,fun D=>synD D nmN,fun D=>wrD D nmM ((bA k A).m.length:Int) (mrk ((bA k A).mk' k x)),fun D=>synD D nmM]:=by
  show six (sA k A) (pay x.1) (Rc.flat (recs (nn (bA k A).ends.length) x.2)) (mrk ((bA k A).mk' k x))=_
  unfold six
  have e1:((lst (sA k A).ends:Nat):Int)=((bA k A).a.length:Int):=by show ((lst (bA k A).ends:Nat):Int)=_; rw [l.lst]
  have e2:((nn (sA k A).ends.length * 40:Nat):Int)=((bA k A).b.length:Int):=by show ((nn (bA k A).ends.length * 40:Nat):Int)=_; rw [l.ends,l.b,Nat.mul_comm]
  have e3:(((sA k A).ends.length * 64:Nat):Int)=((bA k A).m.length:Int):=by show (((bA k A).ends.length * 64:Nat):Int)=_; rw [l.ends,l.m,Nat.mul_comm]
  rw [e1,e2,e3,l.ends]
 have fa:Fi (bA k A).a (bA k A).a:=fi_refl (by omega)
 have fb:Fi (bA k A).b (bA k A).b:=fi_refl (by omega)
 have ga:Fi (bA k A).a ((bA k A).a++pay x.1):=⟨List.prefix_append _ _,by rw [← ea]; omega⟩
 have gb:Fi (bA k A).b ((bA k A).b++Rc.flat (recs (nn A.length) x.2)):=⟨List.prefix_append _ _,by rw [← eb]; omega⟩
 have fm:Mi (bA k A).m (bA k A).m := .inl rfl
 have hc:Chn R (Gd k A (some x)) (addA (sA k A) x.1 x.2) (Cn (bA k A).a (bA k A).a (bA k A).b (bA k A).b (bA k A).m (bA k A).m) (Ext k (A++[x])):=by
  rw [e0]
  refine .cons _ _ _ _ _ (fun L c => .inl ⟨_,_,_,_,_,_,c,⟨fa,fa⟩,⟨fb,fb⟩,fm,fm⟩) (stp_wrI _ (by omega) (by omega)) ?_
  refine .cons _ _ _ _ _ (fun L c => .inl ⟨_,_,_,_,_,_,c,⟨ga,fa⟩,⟨fb,fb⟩,fm,fm⟩) (stp_wrN _ (by omega) (by rw [List.length_append]; omega)) ?_
  refine .cons _ _ _ _ _ (fun L c => .inl ⟨_,_,_,_,_,_,c,⟨ga,fa⟩,⟨gb,fb⟩,fm,fm⟩) stp_syI ?_
  refine .cons _ _ _ _ _ (fun L c => .inl ⟨_,_,_,_,_,_,c,⟨ga,ga⟩,⟨gb,fb⟩,fm,fm⟩) stp_syN ?_
  refine .cons _ _ _ _ _ (fun L c => .inl ⟨_,_,_,_,_,_,c,⟨ga,ga⟩,⟨gb,gb⟩,fm,fm⟩) (stp_wrM _ (by omega) (by rw [List.length_append,List.length_append]; omega)) ?_
  refine .cons _ (Ext k (A++[x])) _ _ _ (fun L c => .inr ⟨x,rfl,.inr (by unfold Un; rw [ea,eb,em]; exact c)⟩) (fun D hq c => ?_) (.nil _ fun L c => .inr ⟨x,rfl,.inl (h.wk c)⟩)
  rcases stp_syM (R:=R) D hq c with ⟨s,g,q1,q2,q3⟩ | ⟨q1,q3⟩
  ·exact .inl ⟨s,g,q1,q2,Cn.ext (by rw [ea,eb,em]; exact q3)⟩
  ·exact .inr ⟨q1,Cn.ext (by rw [ea,eb,em]; exact q3)⟩
 have hrun:=run_chn (R:=R) (fun L ks ho hg=>Gd.fall hX ho hg) _ _ _ hc D hq he.cn
 have hr:refD (sA k A) x.1 x.2=0:=by
  have hnx:nxt (sA k A) x.2=true:=(nxt_iff _ _).2 ⟨by show _=nn ((bA k A).ends.length+1) - nn (bA k A).ends.length; rw [l.ends]; exact hx.cnt,hx.sz⟩
  unfold refD
  rw [if_neg (show ¬ (sA k A).lame=true from Bool.false_ne_true),if_neg (by have:=hx.len; omega),if_neg (by show ¬ 65536≤(bA k A).ends.length; rw [l.ends]; omega),if_neg (by rw [hnx]; simp),if_neg (by show ¬ _<lst (bA k A).ends+_; have:=pay_len x.1; rw [l.lst]; omega)]
 have hlen:(addA (sA k A) x.1 x.2).length=6:=by rw [e0]; rfl
 rw [hlen] at hrun
 unfold addD
 rw [hr,if_neg (show ¬ ((0:Int)≠0) from fun h=>h rfl)]
 rcases hrun.out with ⟨o1,o2,o3⟩ | ⟨o1,o2,o3,o4,o5,o6⟩
 ·rw [if_pos o1]
  refine ⟨_,_,_,rfl,hrun.acts,hrun.fk,.inl ⟨rfl,?_,o2,o3⟩⟩
  show (⟨k,(bA k A).ends++[((bA k A).mk' k x).items],((bA k A).mk' k x).chain,false⟩:SV)=_
  unfold sA
  rw [bA_snoc]; rfl
 ·rw [if_neg o1]
  exact ⟨_,_,_,rfl,hrun.acts,hrun.fk,.inr ⟨o1,o2,rfl,o3,o4,o5,o6⟩⟩
structure OpF (R k:Nat) (A:List It) (X:Option It) (D D':DV) (o:Option SV) (e:Int):Prop where
 acts:D'.acts≤D.acts+6
 fk:D.fk=0→D'.fk=0
 out:(∃ B,Ge A X B∧o=some (sA k B)∧e=0∧Qf R D'∧Ext k B D'.L)∨(o=none∧e≠0∧D.fk≠0∧D'.free≤R∧Ord D'.L∧Gd k A X D'.L∧(Qf R D'∨D'.down=true))
theorem chn_wk {k R:Nat} {B:List It} (h:Smk k B):Chn R (Wk k B) (stl (bA k B).ends) (Wk k B) (Ext k B):=by
 have l:=h.ok.lens
 have hs:=h.sz
 have fa:Fi (bA k B).a (bA k B).a:=fi_refl (by omega)
 have fb:Fi (bA k B).b (bA k B).b:=fi_refl (by omega)
 have fm:Mi (bA k B).m (bA k B).m := .inl rfl
 have mp : ∀ y,Mi (bA k B).m y→(bA k B).m <+: y:=fun y hy=>by
  obtain ⟨t,e,_⟩:=mi_tail hy
  rw [e]; exact List.prefix_append _ _
 unfold stl
 refine .cons _ (fun L => ∃ is na ns ma ms,Cn (bA k B).a is na ns ma ms L∧Fi (bA k B).a is∧(Fi (bA k B).b na∧Fi (bA k B).b ns)∧Mi (bA k B).m ma∧Mi (bA k B).m ms) _ _ _ (fun L c=>c) (fun D hq c => ?_) ?_
 ·obtain ⟨ia,is,na,ns,ma,ms,c,⟨i1,i2⟩,n1,m1,m2⟩:=c
  exact (stp_cuI (R:=R) _ i1.1 _ l.lst.symm D hq c).imp (fun ⟨s,g,q1,q2,q3⟩=>⟨s,g,q1,q2,_,_,_,_,_,q3,i2,n1,m1,m2⟩) (fun ⟨q1,q3⟩=>⟨q1,_,_,_,_,_,q3,i2,n1,m1,m2⟩)
 refine .cons _ (fun L => ∃ is ns ma ms,Cn (bA k B).a is (bA k B).b ns ma ms L∧Fi (bA k B).a is∧Fi (bA k B).b ns∧Mi (bA k B).m ma∧Mi (bA k B).m ms) _ _ _ (fun L ⟨_,_,_,_,_,c,i2,n1,m1,m2⟩=>⟨_,_,_,_,_,_,c,⟨fa,i2⟩,n1,m1,m2⟩) (fun D hq c => ?_) ?_
 ·obtain ⟨is,na,ns,ma,ms,c,i2,⟨n1,n2⟩,m1,m2⟩:=c
  exact (stp_cuN (R:=R) _ n1.1 _ (by rw [l.b,l.ends,Nat.mul_comm]) D hq c).imp (fun ⟨s,g,q1,q2,q3⟩=>⟨s,g,q1,q2,_,_,_,_,q3,i2,n2,m1,m2⟩) (fun ⟨q1,q3⟩=>⟨q1,_,_,_,_,q3,i2,n2,m1,m2⟩)
 refine .cons _ (fun L => ∃ is ns ms,Cn (bA k B).a is (bA k B).b ns (bA k B).m ms L∧Fi (bA k B).a is∧Fi (bA k B).b ns∧Mi (bA k B).m ms) _ _ _ (fun L ⟨_,_,_,_,c,i2,n2,m1,m2⟩=>⟨_,_,_,_,_,_,c,⟨fa,i2⟩,⟨fb,n2⟩,m1,m2⟩) (fun D hq c => ?_) ?_
 ·obtain ⟨is,ns,ma,ms,c,i2,n2,m1,m2⟩:=c
  exact (stp_cuM (R:=R) _ (mp _ m1) _ (by rw [l.m,l.ends,Nat.mul_comm]) D hq c).imp (fun ⟨s,g,q1,q2,q3⟩=>⟨s,g,q1,q2,_,_,_,q3,i2,n2,m2⟩) (fun ⟨q1,q3⟩=>⟨q1,_,_,_,q3,i2,n2,m2⟩)
 refine .cons _ (fun L => ∃ ns ms,Cn (bA k B).a (bA k B).a (bA k B).b ns (bA k B).m ms L∧Fi (bA k B).b ns∧Mi (bA k B).m ms) _ _ _ (fun L ⟨_,_,_,c,i2,n2,m2⟩=>⟨_,_,_,_,_,_,c,⟨fa,i2⟩,⟨fb,n2⟩,fm,m2⟩) (fun D hq c => ?_) ?_
 ·obtain ⟨is,ns,ms,c,i2,n2,m2⟩:=c
  exact (stp_syI (R:=R) D hq c).imp (fun ⟨s,g,q1,q2,q3⟩=>⟨s,g,q1,q2,_,_,q3,n2,m2⟩) (fun ⟨q1,q3⟩=>⟨q1,_,_,q3,n2,m2⟩)
 refine .cons _ (fun L => ∃ ms,Cn (bA k B).a (bA k B).a (bA k B).b (bA k B).b (bA k B).m ms L∧Mi (bA k B).m ms) _ _ _ (fun L ⟨_,_,c,n2,m2⟩=>⟨_,_,_,_,_,_,c,⟨fa,fa⟩,⟨fb,n2⟩,fm,m2⟩) (fun D hq c => ?_) ?_
 ·obtain ⟨ns,ms,c,n2,m2⟩:=c
  exact (stp_syN (R:=R) D hq c).imp (fun ⟨s,g,q1,q2,q3⟩=>⟨s,g,q1,q2,_,q3,m2⟩) (fun ⟨q1,q3⟩=>⟨q1,_,q3,m2⟩)
 refine .cons _ (Ext k B) _ _ _ (fun L ⟨_,c,m2⟩=>⟨_,_,_,_,_,_,c,⟨fa,fa⟩,⟨fb,fb⟩,fm,m2⟩) (fun D hq c => ?_) (.nil _ fun L c=>h.wk c)
 obtain ⟨ms,c,m2⟩:=c
 exact (stp_syM (R:=R) D hq c).imp (fun ⟨s,g,q1,q2,q3⟩=>⟨s,g,q1,q2,Cn.ext q3⟩) (fun ⟨q1,q3⟩=>⟨q1,Cn.ext q3⟩)
theorem chn_un {k R:Nat} {A:List It} {x:It} (h:Smk k (A++[x])):Chn R (Gd k A (some x)) (stl (bA k (A++[x])).ends) (Un k A x) (Ext k (A++[x])):=by
 have l:=h.ok.lens
 have hi : ∀ L,Un k A x L→Gd k A (some x) L:=fun L c => .inr ⟨x,rfl,.inr c⟩
 unfold stl
 refine .cons _ (Un k A x) _ _ _ hi (stp_cuI _ List.prefix_rfl _ l.lst.symm) ?_
 refine .cons _ (Un k A x) _ _ _ hi (stp_cuN _ List.prefix_rfl _ (by rw [l.b,l.ends,Nat.mul_comm])) ?_
 refine .cons _ (Un k A x) _ _ _ hi (stp_cuM _ List.prefix_rfl _ (by rw [l.m,l.ends,Nat.mul_comm])) ?_
 refine .cons _ (Un k A x) _ _ _ hi stp_syI ?_
 refine .cons _ (Un k A x) _ _ _ hi stp_syN ?_
 refine .cons _ (Ext k (A++[x])) _ _ _ hi (fun D hq c => ?_) (.nil _ fun L c => .inr ⟨x,rfl,.inl (h.wk c)⟩)
 exact (stp_syM (R:=R) D hq c).imp (fun ⟨s,g,q1,q2,q3⟩=>⟨s,g,q1,q2,Cn.ext q3⟩) (fun ⟨q1,q3⟩=>⟨q1,Cn.ext q3⟩)
theorem Un.beh {k:Nat} {A:List It} {x:It} {L:LL} (hu:Un k A x L):Beh k (A++[x]) L :=
 ⟨by rw [hu.i]; exact List.prefix_rfl,by rw [hu.n]; exact List.prefix_rfl,⟨[],by rw [hu.m,List.append_nil],.inl (by decide)⟩,hu.oth⟩
theorem open_f {k R:Nat} {A:List It} {X:Option It} {D:DV} (h:SmX k A X) (hq:Qf R D) (hg:Gd k A X D.L) : ∃ D' o e,opnD D (k:Int)=(D',o,e)∧OpF R k A X D D' o e:=by
 have k1:=h.a.ok.k1
 have k2:=h.a.ok.k2
 have key : ∃ B,Ge A X B∧Beh k B D.L∧Run R 6 (Gd k A X) (Ext k B) D (runA (stl (bA k B).ends) D):=by
  have hw : ∀ B,Ge A X B→Wk k B D.L→Run R 6 (Gd k A X) (Ext k B) D (runA (stl (bA k B).ends) D):=fun B hb w=>by
   have hB:=hb.smk h
   have r:=run_chn (R:=R) (fun L ks ho hg=>Wk.fall hB.ok hg ho ks) _ _ _ (chn_wk hB) D hq w
   refine ⟨r.acts,r.fk,r.out.imp id fun ⟨o1,o2,o3,o4,o5,o6⟩=>⟨o1,o2,o3,o4,?_,o6⟩⟩
   rcases hb with rfl | ⟨x,e,rfl⟩
   ·exact .inl o5
   ·exact .inr ⟨x,e,.inl o5⟩
  rcases hg with w | ⟨x,rfl,w | u⟩
  ·exact ⟨A,.inl rfl,w.beh,hw A (.inl rfl) w⟩
  ·exact ⟨_,.inr ⟨x,rfl,rfl⟩,w.beh,hw _ (.inr ⟨x,rfl,rfl⟩) w⟩
  ·exact ⟨_,.inr ⟨x,rfl,rfl⟩,u.beh,run_chn (R:=R) (fun L ks ho hg=>Gd.fall h ho hg) _ _ _ (chn_un (h.x x rfl)) D hq u⟩
 obtain ⟨B,hB,hb,r⟩:=key
 have hr:=hb.read (hB.smk h).ok
 unfold opnD
 rw [if_neg (fun q=>q ⟨by omega,by omega⟩),if_neg (by rw [hq.down]; exact Bool.false_ne_true),Int.toNat_natCast,hr]
 simp only
 rcases r.out with ⟨o1,o2,o3⟩ | ⟨o1,o2,o3⟩
 ·rw [if_pos o1]
  exact ⟨_,_,_,rfl,r.acts,r.fk,.inl ⟨B,hB,rfl,rfl,o2,o3⟩⟩
 ·rw [if_neg o1]
  exact ⟨_,_,_,rfl,r.acts,r.fk,.inr ⟨rfl,o1,o2,o3⟩⟩
structure Fz (R:Nat) (F:List (List UInt8×List UInt8)):Prop where
 can:canL F
 nm : ∀ x∈F,x.1.length≤maxLen
 len:F.length≤3
 byt:byt F≤R
 qf:Qf R (openD R F)
theorem fz_of {k R:Nat} {B:List It} {F:List (List UInt8×List UInt8)} (hB:Smk k B) (hs:Sor F) (hw:Wk k B (layL F)) (hR:3000000≤R) (hz:R≤268435456):Fz R F:=by
 obtain ⟨ia,is,na,ns,ma,ms,c,⟨i1,i2⟩,⟨n1,n2⟩,m1,m2⟩:=hw
 have ho:=sor_ord hs
 have hsz:=hB.sz
 have ht:=c.tot ho
 have hl3:=(tot_three ho c.oth).2
 have hml:ma.length≤300064:=by
  rcases m1 with rfl | rfl
  ·omega
  ·rw [List.length_append,zer_len]; omega
 have hi:=i1.2
 have hn:=n1.2
 have hby:byt F≤1800000:=by
  rw [lay_sor _ hs,tot_allS] at ht
  omega
 have hll:(layL F).length=F.length:=by rw [lay_sor _ hs]; simp [allS]
 refine ⟨⟨?_,fun x hx => ?_⟩,fun x hx => ?_,by omega,by omega,⟨rfl,ho,?_⟩⟩
 ·have h2:(F.map (·.1)).Pairwise (· < ·):=List.pairwise_map.2 hs.1
  exact h2.imp fun hlt q=>by rw [q] at hlt; exact List.lt_irrefl _ hlt
 ·have:=byt_mem _ x hx; omega
 ·have e:fget (layL F) x.1=⟨x.2,x.2⟩:=fget_mem ho (by rw [lay_sor _ hs]; exact List.mem_map.2 ⟨x,hx,rfl⟩)
  have h5:x.1=nmI∨x.1=nmN∨x.1=nmM:=by
   by_cases h1:x.1=nmI
   ·exact .inl h1
   ·by_cases h2:x.1=nmN
    ·exact .inr (.inl h2)
    ·by_cases h3:x.1=nmM
     ·exact .inr (.inr h3)
     ·rw [c.oth x.1 h1 h2 h3] at e
      exact absurd (congrArg FV.now e).symm (hs.2 x hx)
  rcases h5 with e | e | e
  ·rw [e]; decide
  ·rw [e]; decide
  ·rw [e]; decide
 ·show R - byt F+tot (layL F)=R
  rw [lay_sor _ hs,tot_allS]; omega
theorem lay_f {R:Nat} {D:DV} (h:Qf R D) (a k:Int) (ks:List Bool) (ha:1≤a) (hk:1≤k∧k≤5):Qf R (layD D a k ks)∧(layD D a k ks).L=D.L∧(layD D a k ks).acts=D.acts∧(layD D a k ks).fa=a∧(layD D a k ks).fk=k:=by
 unfold layD
 rw [if_neg (by rw [h.down]; exact Bool.false_ne_true),if_pos ⟨ha,hk⟩]
 exact ⟨⟨h.down,h.ord,h.tot⟩,rfl,rfl,rfl,rfl⟩
theorem rm_of {R:Nat} {D:DV} (ha:D.acts≤1000000) (ho:Ord D.L) (he:Oth D.L) (hf:D.free≤R) (hR:R≤268435456):Rm 7 D:=⟨by omega,by have:=(tot_three ho he).2; omega,by omega⟩
end Go.Proofs.YtoblgjledefdbaaGreatDoor.St
namespace Go.Proofs.YtoblgjledefdbaaGreatDoor
structure Fit (k R c:Nat) (L:List ByteArray):Prop where
 k1:1≤k
 k2:k≤32
 c1:c≤1048576
 few:L.length≤65536
 sz : ∀ s∈L,s.size≤c
 room:(c+152) * L.length≤R
 top:R≤268435456
theorem Fit.init {k R c:Nat} {L:List ByteArray} {x:ByteArray} (h:Fit k R c (L++[x])):Fit k R c L :=
 ⟨h.k1,h.k2,h.c1,by have:=h.few; simp at this; omega,fun s hs=>h.sz s (List.mem_append_left _ hs),by have:=h.room; rw [List.length_append,Nat.mul_add] at this; omega,h.top⟩
theorem Fit.szs {k R c:Nat} {L:List ByteArray} (h:Fit k R c L) : ∀ s∈L,s.size≤1048576:=fun s hs=>Nat.le_trans (h.sz s hs) h.c1
theorem Fit.has {k R c:Nat} {L:List ByteArray} {D:St.DV} (h:Fit k R c L) (hd:D.down=false) (he:St.Ext k (itL k L) D.L):Has k L D:=has_ext h.k1 h.k2 h.few h.szs hd he
theorem sA_len {k R c:Nat} {L:List ByteArray} (h:Fit k R c L):(St.sA k (itL k L)).ends.length=L.length:=by
 show (St.bA k (itL k L)).ends.length=_
 rw [(itL_ok h.k1 h.k2 h.few h.szs).lens.ends,itL_len]
theorem Fit.one {k R c:Nat} {L:List ByteArray} {x:ByteArray} {D:St.DV} (h:Fit k R c (L++[x])) (hq:St.Qt R D) (he:St.Ext k (itL k L) D.L) :
  ∃ D',aD D (St.sA k (itL k L)) L x=(D',St.sA k (itL k (L++[x])),L++[x],0)∧St.Qt R D'∧St.Ext k (itL k (L++[x])) D'.L∧D'.acts=D.acts+6 :=
 a_qt h.k1 h.k2 (by have:=h.few; simp at this; omega) h.szs hq he (Nat.le_trans (itL_fits h.k1 h.k2 h.c1 h.few h.sz) h.room) h.top
theorem ap_qt {k R c:Nat} : ∀ (xs L:List ByteArray) (D:St.DV),Fit k R c (L++xs)→St.Qt R D→St.Ext k (itL k L) D.L→D.acts+6 * xs.length≤1000000 →
  ∃ D',apD D (St.sA k (itL k L)) L xs=(D',St.sA k (itL k (L++xs)),L++xs,xs.length,0)∧St.Qt R D'∧St.Ext k (itL k (L++xs)) D'.L∧D'.acts=D.acts+6 * xs.length∧RmA D (St.sA k (itL k L)) L xs
 | [],L,D,_,hq,he,_=>⟨D,by rw [List.append_nil]; rfl,hq,by rw [List.append_nil]; exact he,rfl,trivial⟩
 | x::xs,L,D,hf,hq,he,ha=>by
  rw [show L++x::xs=L++[x]++xs by simp] at hf ⊢
  have hf1:Fit k R c (L++[x]):=⟨hf.k1,hf.k2,hf.c1,by have:=hf.few; rw [List.length_append] at this; omega,fun s hs=>hf.sz s (List.mem_append_left _ hs),Nat.le_trans (Nat.mul_le_mul_left _ (by simp)) hf.room,hf.top⟩
  simp only [List.length_cons] at ha
  obtain ⟨D1,y1,y2,y3,y4⟩:=hf1.one hq he
  obtain ⟨D2,z1,z2,z3,z4,z5⟩:=ap_qt xs (L++[x]) D1 hf y2 y3 (by omega)
  refine ⟨D2,?_,z2,z3,by rw [z4,y4,List.length_cons]; omega,?_⟩
  ·rw [apD,y1]
   simp only [if_true]
   rw [z1]; rfl
  ·rw [RmA,y1]
   exact ⟨St.qt_rm hq he.oth (hf.top) (by omega),fun _=>z5⟩
theorem lo_new {k R:Nat} (k1:1≤k) (k2:k≤32) : ∃ D',loD (St.newD R) (k:Int)=(D',some (St.sA k (itL k []),[]),0)∧St.Qt R D'∧St.Ext k (itL k []) D'.L∧D'.acts≤6:=by
 obtain ⟨e1,q1⟩:=St.new_ext k R
 obtain ⟨D',j,y1,y2,y3,y4,y5,_⟩:=St.open_ok (St.okA_nil k1 k2) q1 e1.beh
 refine ⟨D',?_,y2,y3,by rw [y4]; show 0+3+j≤6; omega⟩
 exact lo_of (L:=[]) (has_ext k1 k2 (by simp) (fun s hs=>by cases hs) y2.down y3) y1
theorem rm_new {R:Nat} (k:Nat) (hR:R≤268435456):St.Rm 7 (St.newD R):=by
 obtain ⟨e1,q1⟩:=St.new_ext k R
 exact St.qt_rm q1 e1.oth hR (show (0:Nat)≤1000000 by decide)
end Go.Proofs.YtoblgjledefdbaaGreatDoor
