/- Own work. -/
import Derived.Test.YtoblgjledefdbaaGreatDoorQt14
set_option maxRecDepth 100000
set_option maxHeartbeats 4000000
namespace Go.Proofs.YtoblgjledefdbaaGreatDoor
open Go.RowKit
attribute [local go_sem ↓] Go.wp_at_zero Go.wp_at_succ
open Go.Proofs.Tryz
namespace St
open Rc
section
variable {R:Nat} {ia is na ns ma ms:List UInt8}
variable{D:DV}
theorem Qmp(h:Qf R D)(s t now syn:List UInt8)(hn:Qe D.L s=⟨now,syn⟩)(h1:now.length+t.length<=268435456)(h2:t.length<=D.free):wrD D s (now.length:Int) t=Yw D s ⟨now++t,syn⟩:=by
 unfold wrD;rw[hn,Le (by rw[h.down];exact L5),Le (by simp only;omega),Le (by simp only;omega),LP]
 simp only[Qmo]
theorem QgY(h:Qf R D)(s now syn:List UInt8)(hn:Qe D.L s=⟨now,syn⟩):QP D s=Yw D s ⟨now,now⟩:=by
 unfold QP;rw[hn,Le (by rw[h.down];exact L5)]
theorem Qgj(h:Qf R D)(s P now syn:List UInt8)(hn:Qe D.L s=⟨now,syn⟩)(hP:P <+: now)(n:Nat)(hl:P.length=n):(cutI s n D=(D,0)∧now=P)∨cutI s n D=Yw D s ⟨P,syn⟩:=by
 have hs:Jy D s=now.length:=by unfold Jy;rw[h.down,hn];rfl
 have xA:=hP.length_le;unfold cutI;rw[hs]
 by_cases he:now.length<=n
 ·rw[Lf he];exact .inl ⟨rfl,(IZ hP (by omega)).symm⟩
 ·rw[Le he];unfold Jq;rw[hn,Le (by rw[h.down];exact L5),Le (by simp only;omega),LP,<-hl]
  simp only[<-List.prefix_iff_eq_take.1 hP];exact .inr trivial
theorem Qom(t:List UInt8)(h1:ia.length+t.length<=268435456)(h2:ia.length+na.length+ma.length+t.length<=R):Stp R (Cn ia is na ns ma ms) (Cn (ia++t) is na ns ma ms) (fun D=>wrD D nmI (ia.length:Int) t):=fun D hq c=>by
 have ht:=c.tot hq.ord;have hT:=hq.tot;exact .inl ⟨nmI,⟨ia++t,is⟩,Qmp hq nmI t ia is c.i h1 (by omega),by rw[c.i];simp only[List.length_append];omega,c.putI hq.ord _ _⟩
theorem Qoo(t:List UInt8)(h1:na.length+t.length<=268435456)(h2:ia.length+na.length+ma.length+t.length<=R):Stp R (Cn ia is na ns ma ms) (Cn ia is (na++t) ns ma ms) (fun D=>wrD D nmN (na.length:Int) t):=fun D hq c=>by
 have ht:=c.tot hq.ord;have hT:=hq.tot;exact .inl ⟨nmN,⟨na++t,ns⟩,Qmp hq nmN t na ns c.n h1 (by omega),by rw[c.n];simp only[List.length_append];omega,c.putN hq.ord _ _⟩
theorem Qon(t:List UInt8)(h1:ma.length+t.length<=268435456)(h2:ia.length+na.length+ma.length+t.length<=R):Stp R (Cn ia is na ns ma ms) (Cn ia is na ns (ma++t) ms) (fun D=>wrD D nmM (ma.length:Int) t):=fun D hq c=>by
 have ht:=c.tot hq.ord;have hT:=hq.tot;exact .inl ⟨nmM,⟨ma++t,ms⟩,Qmp hq nmM t ma ms c.m h1 (by omega),by rw[c.m];simp only[List.length_append];omega,c.putM hq.ord _ _⟩
theorem QeC:Stp R (Cn ia is na ns ma ms) (Cn ia ia na ns ma ms) (fun D=>QP D nmI):=fun D hq c=> .inl ⟨nmI,⟨ia,ia⟩,QgY hq nmI ia is c.i,by rw[c.i];exact Wp _ _,c.putI hq.ord _ _⟩
theorem QeE:Stp R (Cn ia is na ns ma ms) (Cn ia is na na ma ms) (fun D=>QP D nmN):=fun D hq c=> .inl ⟨nmN,⟨na,na⟩,QgY hq nmN na ns c.n,by rw[c.n];exact Wp _ _,c.putN hq.ord _ _⟩
theorem QeD:Stp R (Cn ia is na ns ma ms) (Cn ia is na ns ma ma) (fun D=>QP D nmM):=fun D hq c=> .inl ⟨nmM,⟨ma,ma⟩,QgY hq nmM ma ms c.m,by rw[c.m];exact Wp _ _,c.putM hq.ord _ _⟩
theorem Qh3(P:List UInt8)(hP:P <+: ia)(n:Nat)(hl:P.length=n):Stp R (Cn ia is na ns ma ms) (Cn P is na ns ma ms) (cutI nmI n):=fun D hq c=>by
 rcases Qgj hq nmI P ia is c.i hP n hl with ⟨e1,rfl⟩|e
 ·exact .inr ⟨e1,c⟩
 ·exact .inl ⟨nmI,_,e,by rw[c.i];have:=hP.length_le;simp only;omega,c.putI hq.ord _ _⟩
theorem Qh5(P:List UInt8)(hP:P <+: na)(n:Nat)(hl:P.length=n):Stp R (Cn ia is na ns ma ms) (Cn ia is P ns ma ms) (cutI nmN n):=fun D hq c=>by
 rcases Qgj hq nmN P na ns c.n hP n hl with ⟨e1,rfl⟩|e
 ·exact .inr ⟨e1,c⟩
 ·exact .inl ⟨nmN,_,e,by rw[c.n];have:=hP.length_le;simp only;omega,c.putN hq.ord _ _⟩
theorem Qh4(P:List UInt8)(hP:P <+: ma)(n:Nat)(hl:P.length=n):Stp R (Cn ia is na ns ma ms) (Cn ia is na ns P ms) (cutI nmM n):=fun D hq c=>by
 rcases Qgj hq nmM P ma ms c.m hP n hl with ⟨e1,rfl⟩|e
 ·exact .inr ⟨e1,c⟩
 ·exact .inl ⟨nmM,_,e,by rw[c.m];have:=hP.length_le;simp only;omega,c.putM hq.ord _ _⟩
end
structure AdF(R k:Nat)(A:List It)(x:It)(D D':DV)(S':SV)(e:Int):Prop where
 acts:D'.acts<=D.acts+6
 fk:D.fk=0->D'.fk=0
 out:(e=0∧S'=sA k (A++[x])∧Qf R D'∧Ext k (A++[x]) D'.L)∨(e≠0∧D.fk≠0∧S' = { sA k A with lame:=true } ∧ D'.free<=R∧Ord D'.L∧Gd k A (some x) D'.L∧(Qf R D'∨D'.down=true))
variable{A:List It}{x:It}
theorem QlZ{k:Nat}(h:Smk k (A++[x])):SmX k A (some x):=by
 have hp:=QbJ k A [x];have h1:=hp.1.length_le;have h2:=hp.2.1.length_le;have h3:=hp.2.2.length_le;have hs:=h.sz;exact⟨⟨h.ok.init,by omega⟩,fun y hy=>by cases hy;exact h⟩
theorem Qql{k R:Nat}{D:DV}(h:Smk k (A++[x]))(hq:Qf R D)(he:Ext k A D.L)(hR:300000<=R)(hz:R<=268435456):∃D' S' e,Uy D (sA k A) x.1 x.2=(D',S',e)∧AdF R k A x D D' S' e:=by
 have hX:=QlZ h;have hs:=h.sz;have xG:=hX.a.sz;have l:=h.ok.init.lens;have hx:=h.ok.last;have hf:=h.ok.few;simp only[List.length_append,List.length_cons,List.length_nil,Nat.zero_add] at hf;have ea:(bA k (A++[x])).a=(bA k A).a++pay x.1:=by rw[QT];rfl
 have eb:(bA k (A++[x])).b=(bA k A).b++Rc.Qj (QV (nn A.length) x.2):=by rw[QT,<-l.ends];rfl
 have em:(bA k (A++[x])).m=(bA k A).m++mrk ((bA k A).mk' k x):=QdE k A x;have xD:(bA k (A++[x])).a.length=(bA k A).a.length+(pay x.1).length:=by rw[ea,Lc]
 have xE:(bA k (A++[x])).b.length=(bA k A).b.length+(Rc.Qj (QV (nn A.length) x.2)).length:=by rw[eb,Lc]
 have xF:(bA k (A++[x])).m.length=(bA k A).m.length+(mrk ((bA k A).mk' k x)).length:=by rw[em,Lc]
 have e0:addA (sA k A) x.1 x.2=[fun D=>wrD D nmI ((bA k A).a.length:Int) (pay x.1),fun D=>wrD D nmN ((bA k A).b.length:Int) (Rc.Qj (QV (nn A.length) x.2)),fun D=>QP D nmI,fun D=>QP D nmN,fun D=>wrD D nmM ((bA k A).m.length:Int) (mrk ((bA k A).mk' k x)),fun D=>QP D nmM]:=by
  show six (sA k A) (pay x.1) (Rc.Qj (QV (nn (bA k A).ends.length) x.2)) (mrk ((bA k A).mk' k x))=_
  unfold six;have e1:((lst (sA k A).ends:Nat):Int)=((bA k A).a.length:Int):=by show((lst (bA k A).ends:Nat):Int)=_;rw[l.lst]
  have e2:((nn (sA k A).ends.length*40:Nat):Int)=((bA k A).b.length:Int):=by show((nn (bA k A).ends.length*40:Nat):Int)=_;rw[l.ends,l.b,LF]
  have e3:(((sA k A).ends.length*64:Nat):Int)=((bA k A).m.length:Int):=by show(((bA k A).ends.length*64:Nat):Int)=_;rw[l.ends,l.m,LF]
  rw[e1,e2,e3,l.ends]
 have fa:Fi (bA k A).a (bA k A).a:=Y7 (by omega)
 have fb:Fi (bA k A).b (bA k A).b:=Y7 (by omega)
 have ga:Fi (bA k A).a ((bA k A).a++pay x.1):=⟨Nk _ _,by rw[<-ea];omega⟩
 have gb:Fi (bA k A).b ((bA k A).b++Rc.Qj (QV (nn A.length) x.2)):=⟨Nk _ _,by rw[<-eb];omega⟩
 have fm:Mi (bA k A).m (bA k A).m := .inl rfl;have hc:Chn R (Gd k A (some x)) (addA (sA k A) x.1 x.2) (Cn (bA k A).a (bA k A).a (bA k A).b (bA k A).b (bA k A).m (bA k A).m) (Ext k (A++[x])):=by
  rw[e0];refine .cons _ _ _ _ _ (fun L c=> .inl ⟨_,_,_,_,_,_,c,⟨fa,fa⟩,⟨fb,fb⟩,fm,fm⟩) (Qom _ (by omega) (by omega)) ?_
  refine .cons _ _ _ _ _ (fun L c=> .inl ⟨_,_,_,_,_,_,c,⟨ga,fa⟩,⟨fb,fb⟩,fm,fm⟩) (Qoo _ (by omega) (by rw[Lc];omega)) ?_
  refine .cons _ _ _ _ _ (fun L c=> .inl ⟨_,_,_,_,_,_,c,⟨ga,fa⟩,⟨gb,fb⟩,fm,fm⟩) QeC ?_
  refine .cons _ _ _ _ _ (fun L c=> .inl ⟨_,_,_,_,_,_,c,⟨ga,ga⟩,⟨gb,fb⟩,fm,fm⟩) QeE ?_
  refine .cons _ _ _ _ _ (fun L c=> .inl ⟨_,_,_,_,_,_,c,⟨ga,ga⟩,⟨gb,gb⟩,fm,fm⟩) (Qon _ (by omega) (by rw[Lc,Lc];omega)) ?_
  refine .cons _ (Ext k (A++[x])) _ _ _ (fun L c=> .inr ⟨x,rfl,.inr (by unfold Un;rw[ea,eb,em];exact c)⟩) (fun D hq c=> ?_) (.nil _ fun L c=> .inr ⟨x,rfl,.inl (h.wk c)⟩)
  rcases QeD (R:=R) D hq c with ⟨s,g,q1,q2,q3⟩|⟨q1,q3⟩
  ·exact .inl ⟨s,g,q1,q2,Cn.ext (by rw[ea,eb,em];exact q3)⟩
  ·exact .inr ⟨q1,Cn.ext (by rw[ea,eb,em];exact q3)⟩
 have xA:=Qax (R:=R) (fun L ks ho hg=>Gd.fall hX ho hg) _ _ _ hc D hq he.cn
 have hr:refD (sA k A) x.1 x.2=0:=by
  have xC:nxt (sA k A) x.2=true:=(Qbz _ _).2 ⟨by show _=nn ((bA k A).ends.length+1)-nn (bA k A).ends.length;rw[l.ends];exact hx.cnt,hx.sz⟩
  unfold refD;rw[Le (show ¬(sA k A).lame=true from L5),Le (by have:=hx.len;omega),Le (by show ¬65536<=(bA k A).ends.length;rw[l.ends];omega),Le (by rw[xC];simp),Le (by show ¬_<lst (bA k A).ends+_;have:=pay_len x.1;rw[l.lst];omega)]
 have xB:(addA (sA k A) x.1 x.2).length=6:=by rw[e0];rfl
 rw[xB] at xA;unfold Uy;rw[hr,Le (show ¬((0:Int)≠0) from fun h=>h rfl)]
 rcases xA.out with ⟨o1,o2,o3⟩|⟨o1,o2,o3,o4,o5,o6⟩
 ·rw[Lf o1];refine⟨_,_,_,rfl,xA.acts,xA.fk,.inl ⟨rfl,?_,o2,o3⟩⟩
  show(⟨k,(bA k A).ends++[((bA k A).mk' k x).items],((bA k A).mk' k x).chain,false⟩:SV)=_
  unfold sA;rw[QT];rfl
 ·rw[Le o1];exact⟨_,_,_,rfl,xA.acts,xA.fk,.inr ⟨o1,o2,rfl,o3,o4,o5,o6⟩⟩
structure OpF(R k:Nat)(A:List It)(X:Option It)(D D':DV)(o:Option SV)(e:Int):Prop where
 acts:D'.acts<=D.acts+6
 fk:D.fk=0->D'.fk=0
 out:(∃B,Ge A X B∧o=some (sA k B)∧e=0∧Qf R D'∧Ext k B D'.L)∨(o=none∧e≠0∧D.fk≠0∧D'.free<=R∧Ord D'.L∧Gd k A X D'.L∧(Qf R D'∨D'.down=true))
variable{R k:Nat}
theorem Qpg{B:List It}(h:Smk k B):Chn R (Wk k B) (stl (bA k B).ends) (Wk k B) (Ext k B):=by
 have l:=h.ok.lens;have hs:=h.sz;have fa:Fi (bA k B).a (bA k B).a:=Y7 (by omega)
 have fb:Fi (bA k B).b (bA k B).b:=Y7 (by omega)
 have fm:Mi (bA k B).m (bA k B).m := .inl rfl;have mp:∀y,Mi (bA k B).m y->(bA k B).m <+: y:=fun y hy=>by
  obtain⟨t,e,_⟩:=Qbx hy;rw[e];exact Nk _ _
 unfold stl;refine .cons _ (fun L=> ∃is na ns ma ms,Cn (bA k B).a is na ns ma ms L∧Fi (bA k B).a is∧(Fi (bA k B).b na∧Fi (bA k B).b ns)∧Mi (bA k B).m ma∧Mi (bA k B).m ms) _ _ _ (fun L c=>c) (fun D hq c=> ?_) ?_
 ·obtain⟨ia,is,na,ns,ma,ms,c,⟨i1,i2⟩,n1,m1,m2⟩:=c;exact(Qh3 (R:=R) _ i1.1 _ l.lst.symm D hq c).imp (fun⟨s,g,q1,q2,q3⟩=>⟨s,g,q1,q2,_,_,_,_,_,q3,i2,n1,m1,m2⟩) (fun⟨q1,q3⟩=>⟨q1,_,_,_,_,_,q3,i2,n1,m1,m2⟩)
 refine .cons _ (fun L=> ∃is ns ma ms,Cn (bA k B).a is (bA k B).b ns ma ms L∧Fi (bA k B).a is∧Fi (bA k B).b ns∧Mi (bA k B).m ma∧Mi (bA k B).m ms) _ _ _ (fun L ⟨_,_,_,_,_,c,i2,n1,m1,m2⟩=>⟨_,_,_,_,_,_,c,⟨fa,i2⟩,n1,m1,m2⟩) (fun D hq c=> ?_) ?_
 ·obtain⟨is,na,ns,ma,ms,c,i2,⟨n1,n2⟩,m1,m2⟩:=c;exact(Qh5 (R:=R) _ n1.1 _ (by rw[l.b,l.ends,LF]) D hq c).imp (fun⟨s,g,q1,q2,q3⟩=>⟨s,g,q1,q2,_,_,_,_,q3,i2,n2,m1,m2⟩) (fun⟨q1,q3⟩=>⟨q1,_,_,_,_,q3,i2,n2,m1,m2⟩)
 refine .cons _ (fun L=> ∃is ns ms,Cn (bA k B).a is (bA k B).b ns (bA k B).m ms L∧Fi (bA k B).a is∧Fi (bA k B).b ns∧Mi (bA k B).m ms) _ _ _ (fun L ⟨_,_,_,_,c,i2,n2,m1,m2⟩=>⟨_,_,_,_,_,_,c,⟨fa,i2⟩,⟨fb,n2⟩,m1,m2⟩) (fun D hq c=> ?_) ?_
 ·obtain⟨is,ns,ma,ms,c,i2,n2,m1,m2⟩:=c;exact(Qh4 (R:=R) _ (mp _ m1) _ (by rw[l.m,l.ends,LF]) D hq c).imp (fun⟨s,g,q1,q2,q3⟩=>⟨s,g,q1,q2,_,_,_,q3,i2,n2,m2⟩) (fun⟨q1,q3⟩=>⟨q1,_,_,_,q3,i2,n2,m2⟩)
 refine .cons _ (fun L=> ∃ns ms,Cn (bA k B).a (bA k B).a (bA k B).b ns (bA k B).m ms L∧Fi (bA k B).b ns∧Mi (bA k B).m ms) _ _ _ (fun L ⟨_,_,_,c,i2,n2,m2⟩=>⟨_,_,_,_,_,_,c,⟨fa,i2⟩,⟨fb,n2⟩,fm,m2⟩) (fun D hq c=> ?_) ?_
 ·obtain⟨is,ns,ms,c,i2,n2,m2⟩:=c;exact(QeC (R:=R) D hq c).imp (fun⟨s,g,q1,q2,q3⟩=>⟨s,g,q1,q2,_,_,q3,n2,m2⟩) (fun⟨q1,q3⟩=>⟨q1,_,_,q3,n2,m2⟩)
 refine .cons _ (fun L=> ∃ms,Cn (bA k B).a (bA k B).a (bA k B).b (bA k B).b (bA k B).m ms L∧Mi (bA k B).m ms) _ _ _ (fun L ⟨_,_,c,n2,m2⟩=>⟨_,_,_,_,_,_,c,⟨fa,fa⟩,⟨fb,n2⟩,fm,m2⟩) (fun D hq c=> ?_) ?_
 ·obtain⟨ns,ms,c,n2,m2⟩:=c;exact(QeE (R:=R) D hq c).imp (fun⟨s,g,q1,q2,q3⟩=>⟨s,g,q1,q2,_,q3,m2⟩) (fun⟨q1,q3⟩=>⟨q1,_,q3,m2⟩)
 refine .cons _ (Ext k B) _ _ _ (fun L ⟨_,c,m2⟩=>⟨_,_,_,_,_,_,c,⟨fa,fa⟩,⟨fb,fb⟩,fm,m2⟩) (fun D hq c=> ?_) (.nil _ fun L c=>h.wk c)
 obtain⟨ms,c,m2⟩:=c;exact(QeD (R:=R) D hq c).imp (fun⟨s,g,q1,q2,q3⟩=>⟨s,g,q1,q2,Cn.ext q3⟩) (fun⟨q1,q3⟩=>⟨q1,Cn.ext q3⟩)
theorem Qpf(h:Smk k (A++[x])):Chn R (Gd k A (some x)) (stl (bA k (A++[x])).ends) (Un k A x) (Ext k (A++[x])):=by
 have l:=h.ok.lens;have hi:∀L,Un k A x L->Gd k A (some x) L:=fun L c=> .inr ⟨x,rfl,.inr c⟩
 unfold stl;refine .cons _ (Un k A x) _ _ _ hi (Qh3 _ Ny _ l.lst.symm) ?_
 refine .cons _ (Un k A x) _ _ _ hi (Qh5 _ Ny _ (by rw[l.b,l.ends,LF])) ?_
 refine .cons _ (Un k A x) _ _ _ hi (Qh4 _ Ny _ (by rw[l.m,l.ends,LF])) ?_
 refine .cons _ (Un k A x) _ _ _ hi QeC ?_
 refine .cons _ (Un k A x) _ _ _ hi QeE ?_
 refine .cons _ (Ext k (A++[x])) _ _ _ hi (fun D hq c=> ?_) (.nil _ fun L c=> .inr ⟨x,rfl,.inl (h.wk c)⟩)
 exact(QeD (R:=R) D hq c).imp (fun⟨s,g,q1,q2,q3⟩=>⟨s,g,q1,q2,Cn.ext q3⟩) (fun⟨q1,q3⟩=>⟨q1,Cn.ext q3⟩)
theorem Un.beh{L:LL}(hu:Un k A x L):Beh k (A++[x]) L :=
 ⟨by rw[hu.i];exact Ny,by rw[hu.n];exact Ny,⟨[],by rw[hu.m,LU],.inl (by decide)⟩,hu.oth⟩
theorem QpO{X:Option It}{D:DV}(h:SmX k A X)(hq:Qf R D)(hg:Gd k A X D.L):∃D' o e,YQ D (k:Int)=(D',o,e)∧OpF R k A X D D' o e:=by
 have k1:=h.a.ok.k1;have k2:=h.a.ok.k2;have xA:∃B,Ge A X B∧Beh k B D.L∧Run R 6 (Gd k A X) (Ext k B) D (Qx (stl (bA k B).ends) D):=by
  have hw:∀B,Ge A X B->Wk k B D.L->Run R 6 (Gd k A X) (Ext k B) D (Qx (stl (bA k B).ends) D):=fun B hb w=>by
   have hB:=hb.smk h;have r:=Qax (R:=R) (fun L ks ho hg=>Wk.fall hB.ok hg ho ks) _ _ _ (Qpg hB) D hq w
   refine⟨r.acts,r.fk,r.out.imp id fun⟨o1,o2,o3,o4,o5,o6⟩=>⟨o1,o2,o3,o4,?_,o6⟩⟩
   rcases hb with rfl|⟨x,e,rfl⟩
   ·exact .inl o5
   ·exact .inr ⟨x,e,.inl o5⟩
  rcases hg with w|⟨x,rfl,w|u⟩
  ·exact⟨A,.inl rfl,w.beh,hw A (.inl rfl) w⟩
  ·exact⟨_,.inr ⟨x,rfl,rfl⟩,w.beh,hw _ (.inr ⟨x,rfl,rfl⟩) w⟩
  ·exact⟨_,.inr ⟨x,rfl,rfl⟩,u.beh,Qax (R:=R) (fun L ks ho hg=>Gd.fall h ho hg) _ _ _ (Qpf (h.x x rfl)) D hq u⟩
 obtain⟨B,hB,hb,r⟩:=xA;have hr:=hb.read (hB.smk h).ok;unfold YQ;rw[Le (fun q=>q ⟨by omega,by omega⟩),Le (by rw[hq.down];exact L5),LP,hr]
 simp only
 rcases r.out with ⟨o1,o2,o3⟩|⟨o1,o2,o3⟩
 ·rw[Lf o1];exact⟨_,_,_,rfl,r.acts,r.fk,.inl ⟨B,hB,rfl,rfl,o2,o3⟩⟩
 ·rw[Le o1];exact⟨_,_,_,rfl,r.acts,r.fk,.inr ⟨rfl,o1,o2,o3⟩⟩
structure Fz(R:Nat)(F:List (List UInt8×List UInt8)):Prop where
 can:canL F
 nm:∀x∈F,x.1.length<=maxLen
 len:F.length<=3
 byt:byt F<=R
 qf:Qf R (Qar R F)
theorem Qqs{B:List It}{F:List (List UInt8×List UInt8)}(hB:Smk k B)(hs:Sor F)(hw:Wk k B (QM F))(hR:3000000<=R)(hz:R<=268435456):Fz R F:=by
 obtain⟨ia,is,na,ns,ma,ms,c,⟨i1,i2⟩,⟨n1,n2⟩,m1,m2⟩:=hw;have ho:=QbF hs;have xE:=hB.sz;have ht:=c.tot ho;have xB:=(Y3 ho c.oth).2;have xD:ma.length<=300064:=by
  rcases m1 with rfl|rfl
  ·omega
  ·rw[Lc,Qw];omega
 have hi:=i1.2;have hn:=n1.2;have xA:byt F<=1800000:=by
  rw[Ob _ hs,QfY] at ht;omega
 have xC:(QM F).length=F.length:=by rw[Ob _ hs];simp[allS]
 refine⟨⟨?_,fun x hx=> ?_⟩,fun x hx=> ?_,by omega,by omega,⟨rfl,ho,?_⟩⟩
 ·have h2:(F.map (·.1)).Pairwise (· < ·):=List.pairwise_map.2 hs.1;exact h2.imp fun hlt q=>by rw[q] at hlt;exact NB _ hlt
 ·have:=Qhg _ x hx;omega
 ·have e:Qe (QM F) x.1=⟨x.2,x.2⟩:=Qac ho (by rw[Ob _ hs];exact List.mem_map.2 ⟨x,hx,rfl⟩)
  have h5:x.1=nmI∨x.1=nmN∨x.1=nmM:=by
   by_cases h1:x.1=nmI
   ·exact .inl h1
   ·by_cases h2:x.1=nmN
    ·exact .inr (.inl h2)
    ·by_cases h3:x.1=nmM
     ·exact .inr (.inr h3)
     ·rw[c.oth x.1 h1 h2 h3] at e;exact absurd (Lv FV.now e).symm (hs.2 x hx)
  rcases h5 with e|e|e
  ·rw[e];decide
  ·rw[e];decide
  ·rw[e];decide
 ·show R-byt F+tot (QM F)=R
  rw[Ob _ hs,QfY];omega
theorem QqA{D:DV}(h:Qf R D)(a k:Int)(ks:List Bool)(ha:1<=a)(hk:1<=k∧k<=5):Qf R (YM D a k ks)∧(YM D a k ks).L=D.L∧(YM D a k ks).acts=D.acts∧(YM D a k ks).fa=a∧(YM D a k ks).fk=k:=by
 unfold YM;rw[Le (by rw[h.down];exact L5),Lf ⟨ha,hk⟩]
 exact⟨⟨h.down,h.ord,h.tot⟩,rfl,rfl,rfl,rfl⟩
theorem QoW{D:DV}(ha:D.acts<=1000000)(ho:Ord D.L)(he:Oth D.L)(hf:D.free<=R)(hR:R<=268435456):Rm 7 D:=⟨by omega,by have:=(Y3 ho he).2;omega,by omega⟩
end St
structure Fit(k R c:Nat)(L:LB):Prop where
 k1:1<=k
 k2:k<=32
 c1:c<=1048576
 few:L.length<=65536
 sz:∀s∈L,s.size<=c
 room:(c+152)*L.length<=R
 top:R<=268435456
variable{R c k:Nat}{L:LB}{x:BA}{D:St.DV}
theorem Fit.init(h:Fit k R c (L++[x])):Fit k R c L :=
 ⟨h.k1,h.k2,h.c1,by have:=h.few;simp at this;omega,fun s hs=>h.sz s (Ir _ hs),by have:=h.room;rw[Lc,NV] at this;omega,h.top⟩
theorem Fit.szs(h:Fit k R c L):∀s∈L,s.size<=1048576:=fun s hs=>Lr (h.sz s hs) h.c1
theorem Fit.has(h:Fit k R c L)(hd:D.down=false)(he:St.Ext k (itL k L) D.L):Has k L D:=Qht h.k1 h.k2 h.few h.szs hd he
theorem JW(h:Fit k R c L):(St.sA k (itL k L)).ends.length=L.length:=by
 show(St.bA k (itL k L)).ends.length=_
 rw[(QaT h.k1 h.k2 h.few h.szs).lens.ends,Oa]
theorem Fit.one(h:Fit k R c (L++[x]))(hq:St.Qt R D)(he:St.Ext k (itL k L) D.L) :
  ∃D',aD D (St.sA k (itL k L)) L x=(D',St.sA k (itL k (L++[x])),L++[x],0)∧St.Qt R D'∧St.Ext k (itL k (L++[x])) D'.L∧D'.acts=D.acts+6 :=
 a_qt h.k1 h.k2 (by have:=h.few;simp at this;omega) h.szs hq he (Lr (Qe7 h.k1 h.k2 h.c1 h.few h.sz) h.room) h.top
theorem QoI : ∀(xs L:LB) (D:St.DV),Fit k R c (L++xs)->St.Qt R D->St.Ext k (itL k L) D.L->D.acts+6*xs.length<=1000000 ->
  ∃D',apD D (St.sA k (itL k L)) L xs=(D',St.sA k (itL k (L++xs)),L++xs,xs.length,0)∧St.Qt R D'∧St.Ext k (itL k (L++xs)) D'.L∧D'.acts=D.acts+6*xs.length∧RmA D (St.sA k (itL k L)) L xs
 | [],L,D,_,hq,he,_=>⟨D,by rw[LU];rfl,hq,by rw[LU];exact he,rfl,trivial⟩
 | x::xs,L,D,hf,hq,he,ha=>by
  rw[show L++x::xs=L++[x]++xs by simp] at hf ⊢
  have hf1:Fit k R c (L++[x]):=⟨hf.k1,hf.k2,hf.c1,by have:=hf.few;rw[Lc] at this;omega,fun s hs=>hf.sz s (Ir _ hs),Lr (Nat.mul_le_mul_left _ (by simp)) hf.room,hf.top⟩
  simp only[List.length_cons] at ha;obtain⟨D1,y1,y2,y3,y4⟩:=hf1.one hq he;obtain⟨D2,z1,z2,z3,z4,z5⟩:=QoI xs (L++[x]) D1 hf y2 y3 (by omega)
  refine⟨D2,?_,z2,z3,by rw[z4,y4,LG];omega,?_⟩
  ·rw[apD,y1];simp only[if_true];rw[z1];rfl
  ·rw[RmA,y1];exact⟨St.QoU hq he.oth (hf.top) (by omega),fun _=>z5⟩
theorem QkT(k1:1<=k)(k2:k<=32):∃D',loD (St.UR R) (k:Int)=(D',some (St.sA k (itL k []),[]),0)∧St.Qt R D'∧St.Ext k (itL k []) D'.L∧D'.acts<=6:=by
 obtain⟨e1,q1⟩:=St.QhD k R;obtain⟨D',j,y1,y2,y3,y4,y5,_⟩:=St.QnH (St.QnF k1 k2) q1 e1.beh;refine⟨D',?_,y2,y3,by rw[y4];show 0+3+j<=6;omega⟩
 exact QoP (L:=[]) (Qht k1 k2 (by simp) (fun s hs=>by cases hs) y2.down y3) y1
theorem QlF(k:Nat)(hR:R<=268435456):St.Rm 7 (St.UR R):=by
 obtain⟨e1,q1⟩:=St.QhD k R;exact St.QoU q1 e1.oth hR (show(0:Nat)<=1000000 by decide)
section
variable {w W W1:World} {a p:Nat} {D D':St.DV} {S S':St.SV} {L L' K:LB} {v:Value}
def Jl(w W:World)(a p:Nat)(D:St.DV)(S:St.SV)(L:LB)(v:Value)(K:LB):Prop :=
 ∃U,Lg W 0 a p U D S L∧(∀b,U b->w.heap.size<=b)∧Bl w W∧Qh W w.heap.size v K ∧ ∀g,v.ownBlock=some g -> ¬U g
theorem Jl.nl(h:Jl w W a p D S L v K):Nl w W a p D S L:=by obtain⟨U,h1,h2,h3,_⟩:=h;exact⟨U,h1,h2,h3⟩
theorem Nl.jn(h:Nl w W a p D S L):Jl w W a p D S L (.slice none 0 0) []:=by obtain⟨U,h1,h2,h3⟩:=h;exact⟨U,h1,h2,h3,Ug _ _,fun g hg=>by cases hg⟩
theorem Jl.own(h:Jl w W a p D S L v K):Qh W w.heap.size v K:=by obtain⟨U,_,_,_,h4,_⟩:=h;exact h4
theorem Jl.next(h:Jl w W a p D S L v K)(hb:Bl W W1):Jl w W1 a p D S L v K:=by
 obtain⟨U,h1,h2,h3,h4,h5⟩:=h;exact⟨U,h1.next hb,h2,Qa h3 hb,QB h4 hb (La _),h5⟩
theorem Jl.append(h:Jl w W a p D S L v K)(ht:Tb w)(he:S.ends.length=L.length)(hb:Bl W W1)(ao:OA)(b len cap:Nat)(xs:LB)(hr:RdS W1 ao b 0 len xs)(hlen:len<=1000000)(n3:0<len->b<w.heap.size∨W.heap.size<=b)(hR:RmA D S L xs)(n:Nat)(e0:Int)(hA:apD D S L xs=(D',S',L',n,e0)) :
  Calls prog 14 #[Pq a,.slice ao len cap] W1 fun e w'=>e= .returned (.tuple #[.int .i64 n,.int .i64 e0])∧Jl w w' a p D' S' L' v K:=by
 obtain⟨U,y1,y2,y3,y4,y5⟩:=h;have xA:=Qa y3 hb;refine(Qbg W1 (ht.next xA) (y1.next hb) he ao b len cap xs hr (by omega) (fun h0 hu=> ?_) hR n e0 hA).mono fun e w' z=>⟨z.1,?_⟩
 ·have:=y1.lt hu;have:=y2 b hu
  rcases n3 h0 with e|e <;> omega
 ·obtain⟨U',z1,z2,z3⟩:=z.2;have y6:=QB y4 hb (La _);refine⟨U',z1,fun c hc=>(z2 c hc).elim (y2 c) (fun e=>Lr xA.size e),xA.trans (z3.below xA.size y2),St.Qy y6 fun g hg=>z3.block g (JR y6 hg) (y5 g hg),fun g hg hu=> ?_⟩
  rcases z2 g hu with e|e
  ·exact y5 g hg e
  ·have:=JR y6 hg;omega
theorem Jl.app(h:Jl w W a p D S L v K)(hb:Bl W W1)(ty:Nat)(ad:Addr)(mc:Nat)(x:BA)(hr:∀j u,[Value.string x][j]? = some u->W1.cell? (ad.add j)=some u)(hlen:K.length+1<=1048576) :
  ∃v' w',(Builtin.append_ #[22,22] ty #[v,.slice (some ad) 1 mc]).run prog W1= .ok v' w'∧Jl w w' a p D S L v' (K++[x]):=by
 obtain⟨U,y1,y2,y3,y4,y5⟩:=h.next hb;obtain⟨v',w5,xA,o5,g5⟩:=Qdk W1 ty w.heap.size v K y4 ad mc x hr hlen y3.size;refine⟨v',w5,xA,?_⟩
 have t5:St.Upo (fun b=>v.ownBlock=some b) W1 w5:=by
  rcases g5 with ⟨g,n,c,e1,e2,g3⟩|⟨g3,_⟩
  ·rw[e1];exact St.Upo.grown g3 (fun b hb=>by cases hb;rfl)
  ·exact St.Upo.grown g3 (fun b hb=>by cases hb)
 have xB:∀b,v'.ownBlock=some b->v.ownBlock=some b∨W1.heap.size<=b:=fun b hb=>by
  rcases g5 with ⟨g',n,c,e1,e2,g3⟩|⟨_,g3⟩
  ·rw[e1];rw[e2] at hb;exact .inl hb
  ·exact .inr (g3 b hb)
 refine⟨U,y1.same fun x hx=>t5.block x (y1.lt hx) fun e=>y5 x e hx,y2,y3.trans (t5.below y3.size fun b hb=>(LO y4 b hb).1),o5,fun g hg hu=> ?_⟩
 rcases xB g hg with e|e
 ·exact y5 g e hu
 ·have:=y1.lt hu;omega
end
section
variable {k c R:Nat} {L:LB} {x:BA} {D D':St.DV}
end
section
attribute [local go_sem ↓] St.UY
theorem Tryz.infoT:(prog.info? 50).map (fun i=>(i.zero,i.size,i.bytes))=some (some (.agg #[.int .u64 0,.string ByteArray.empty]),2,24):=by kernel_rfl
def cT:List (Nat×BA)->List Value
 | []=>[]
 | c::l=> .int .u64 c.1 :: .string c.2::cT l
theorem QjX:∀l,(cT l).length=l.length*2
 | []=>rfl
 | _::l=>by rw[cT,LG,LG,QjX l,LG];omega
theorem QjW:∀l m,cT (l++m)=cT l++cT m
 | [],_=>rfl
 | c::l,m=>by rw[NW,cT,QjW l m,cT];rfl
theorem QoK:∀l j,j<l.length->(cT l)[j*2]? = some (.int .u64 ((l.getD j (0,ByteArray.empty)).1:Int))∧(cT l)[j*2+1]? = some (.string (l.getD j (0,ByteArray.empty)).2)
 | [],j,h=>absurd h (N6 j)
 | c::l,0,_=>⟨rfl,rfl⟩
 | c::l,j+1,h=>by
  have:=QoK l j (by simpa using h)
  rw[cT,show(j+1)*2=j*2+1+1 by omega,Ie,Ie,Ie,Ie,List.getD_cons_succ]
  exact this
theorem QjY(l:List (Nat×BA)):∀u∈cT l,u.oneCell'=true:=by
 induction l with
 | nil=>intro u hu;cases hu
 | cons c l ih=>
  intro u hu;rw[cT] at hu;simp only[List.mem_cons] at hu
  rcases hu with rfl|rfl|hu
  ·rfl
  ·rfl
  ·exact ih u hu
def OwnT(w:World)(B:Nat)(v:Value)(l:List (Nat×BA)):Prop:=w.ownsRow B 50 2 v l.length (cT l)
variable{W w:World}{B:Nat}{v:Value}{l:List (Nat×BA)}
theorem Qlh(w:World)(B:Nat):OwnT w B (.slice none 0 0) []:=⟨rfl,.inl ⟨rfl,rfl⟩⟩
theorem Yz(h:OwnT w B v l){x:Nat}(hx:v.ownBlock=some x):x<w.heap.size:=(LO h x hx).2
theorem Je(h:OwnT w B v l)(hb:Bl w W):OwnT W B v l:=St.Qy h fun g hg=>hb.block g (Yz h hg)
theorem Qed(h:OwnT w B v l):∃ao b cap,v= .slice ao l.length cap∧l.length<=cap∧(0<l.length->ao=Zp b) ∧ ∀j,j<l.length->w.cell? ⟨b,j*2,none⟩=some (.int .u64 ((l.getD j (0,ByteArray.empty)).1:Int))∧w.cell? ⟨b,j*2+1,none⟩=some (.string (l.getD j (0,ByteArray.empty)).2):=by
 have h0:w.ownsRow B 50 2 v l.length (cT l):=h
 rcases h0.2 with ⟨hv,h2⟩|⟨g,cap,cur,rfl,hg,hh,hc1,hc2,hc3,hc4⟩
 ·have:l=[]:=List.length_eq_zero_iff.1 h2;subst this;exact⟨none,0,0,by rw[hv];rfl,La _,fun h=>absurd h (Nz 0),fun j hj=>absurd hj (N6 j)⟩
 ·refine⟨Zp g,g,cap,rfl,hc1,fun _=>rfl,fun j hj=> ?_⟩
  obtain⟨q1,q2⟩:=QoK l j hj;have e1:=h0.cells (g:=g) rfl _ _ q1;have e2:=h0.cells (g:=g) rfl _ _ q2;rw[Addr.add_mid,Ll] at e1 e2;exact⟨e1,e2⟩
theorem Qjh(w:World)(ty B:Nat)(v:Value)(L:List (Nat×BA))(hown:OwnT w B v L)(ad:Addr)(mc:Nat)(c:Nat×BA)(hr:∀j u,(cT [c])[j]? = some u->w.cell? (ad.add j)=some u)
  (hlen:L.length+1<=1048576) (hB:B<=w.heap.size) :
  ∃v' w',(Builtin.append_ #[75,75] ty #[v,.slice (some ad) 1 mc]).run prog w= .ok v' w'∧OwnT w' B v' (L++[c])∧St.QjA w w' v v':=by
 obtain⟨i0,hi,xE,xD,xF⟩:=info_parts Tryz.infoT;have xC:∀ {w':World} {v':Value} {n:Nat},n=L.length+1->w'.ownsRow B 50 2 v' n (cT L++cT [c])->OwnT w' B v' (L++[c]):=fun hn h=>by
  rw[OwnT,QjW,Lc,LG,NZ,Ll,<-hn];exact h
 have xG:=QjX L;have xA:=hown
 rcases hown.2 with ⟨rfl,h0⟩|⟨g,cp,cur,rfl,hgb,hh,hc⟩
 ·have hL:L=[]:=List.length_eq_zero_iff.1 h0;subst hL;obtain⟨v',w',xB,r1,r2,_⟩:=run_append_own (P:=prog) w w.heap.size 75 ty 50 i0 (.agg #[.int .u64 0,.string ByteArray.empty]) 2 24 underlying75 hi xE xD xF rfl (by decide) _ 0 [] (Np _ _ _ _) ad 1 mc (cT [c]) rfl hr (QjY [c]) (by decide) (by decide) (La _)
  exact⟨v',w',xB,xC (n:=0+1) rfl (World.ownsRow.mono r1 hB),.inr ⟨r2,fun k hk=>(LO r1 k hk).1⟩⟩
 ·by_cases hfit:L.length+1<=cp
  ·obtain⟨w',xB,r1,r2⟩:=run_append_fits (P:=prog) w B 75 ty 50 i0 2 underlying75 hi xD g L.length cp (cT L) xA ad 1 mc (cT [c]) rfl hr (QjY [c]) hfit;exact⟨_,w',xB,xC rfl r1,.inl ⟨g,L.length,cp,rfl,rfl,r2⟩⟩
  ·obtain⟨v',w',xB,r1,r2⟩:=run_append_arg_grows (P:=prog) w 75 ty 50 i0 (.agg #[.int .u64 0,.string ByteArray.empty]) 2 24 underlying75 hi xE xD xF rfl (by decide) ⟨g,0,none⟩ L.length cp (cT L) xA.1 (Ib xA rfl) ad 1 mc (cT [c]) rfl hr (by omega) (by unfold maxLen;omega) (by omega)
   exact⟨v',w',xB,xC rfl (World.ownsRow.mono r1 hB),.inr ⟨r2,fun k hk=>(LO r1 k hk).1⟩⟩
def Jw(w W:World)(a p:Nat)(D:St.DV)(S:St.SV)(L:LB)(v:Value)(K:List (Nat×BA)):Prop :=
 ∃U,Lg W 0 a p U D S L∧(∀b,U b->w.heap.size<=b)∧Bl w W∧OwnT W w.heap.size v K ∧ ∀g,v.ownBlock=some g -> ¬U g
def Jdw(w W:World)(p:Nat)(D:St.DV)(v:Value)(K:List (Nat×BA)):Prop :=
 ∃Sd,St.Dsk W p Sd D∧(∀b,Sd b->w.heap.size<=b)∧Bl w W∧OwnT W w.heap.size v K ∧ ∀g,v.ownBlock=some g -> ¬Sd g
section
variable {w W W1:World} {a p:Nat} {D D':St.DV} {S S':St.SV} {L L':LB} {K:List (Nat×BA)} {v:Value}
theorem Jw.nl(h:Jw w W a p D S L v K):Nl w W a p D S L:=by obtain⟨U,h1,h2,h3,_⟩:=h;exact⟨U,h1,h2,h3⟩
theorem Nl.jw(h:Nl w W a p D S L):Jw w W a p D S L (.slice none 0 0) []:=by obtain⟨U,h1,h2,h3⟩:=h;exact⟨U,h1,h2,h3,Qlh _ _,fun g hg=>by cases hg⟩
theorem Jw.own(h:Jw w W a p D S L v K):OwnT W w.heap.size v K:=by obtain⟨U,_,_,_,h4,_⟩:=h;exact h4
theorem Jw.next(h:Jw w W a p D S L v K)(hb:Bl W W1):Jw w W1 a p D S L v K:=by
 obtain⟨U,h1,h2,h3,h4,h5⟩:=h;exact⟨U,h1.next hb,h2,Qa h3 hb,Je h4 hb,h5⟩
theorem Jw.lay2(h:Jw w W a p D S L v K)(ht:Tb w)(k1 k2:Int)(hk:k1<=9223372036854775807)(ao:OA)(b o c:Nat)(ks:List Bool)(hr:St.RdL W ao b o ks)(hkl:ks.length<=140737488355328)(hne:0<ks.length->b<w.heap.size) :
  Calls prog 12 #[Pq p,.agg #[.int .i64 k1,.int .i64 k2,.slice ao ks.length c]] W fun e w'=>e= .returned (.tuple #[])∧Jw w w' a p (St.YM D k1 k2 ks) S L v K:=by
 have hT:=(ht.next h.nl.below).lt;obtain⟨U,⟨q,m,r,vr,vs,T,h1,hU,hn⟩,h2,h3,h4,h5⟩:=h;obtain⟨S0,u,d1,d2,d3,d4,d5⟩:=h1.sk;refine(d1.lay k1 k2 hk ao b o c ks hr hkl (fun h0 hs=>by have:=h2 b ((hU b).2 (.inl ((d5 b).2 (.inl hs))));have:=hne h0;omega)).mono fun e w' z=>⟨z.1,?_⟩
 obtain⟨T',t1,t2,t3⟩:=h1.add (St.Qa9 d2 d3 d4 d5 z.2) rfl;refine⟨fun y=>T' y∨Lef a m r vr vs y,⟨q,m,r,vr,vs,T',t1,fun _=>Iff.rfl,fun e=> ?_⟩,fun y hy=> ?_,h3.trans (t3.below h3.size fun b hb=>h2 b ((hU b).2 (.inl hb))),St.Qy h4 fun g hg=>t3.block g (Yz h4 hg) fun e=>h5 g hg ((hU g).2 (.inl e)),fun g hg e=> ?_⟩
 ·rcases e with e|e
  ·rcases t2 _ e with e|e
   ·exact hn ((hU _).2 (.inl e))
   ·omega
  ·exact hn ((hU _).2 (.inr e))
 ·rcases hy with e|e
  ·exact(t2 y e).elim (fun e=>h2 y ((hU y).2 (.inl e))) (fun e=>Lr h3.size e)
  ·exact h2 y ((hU y).2 (.inr e))
 ·rcases e with e|e
  ·rcases t2 _ e with e|e
   ·exact h5 g hg ((hU g).2 (.inl e))
   ·have:=Yz h4 hg;omega
  ·exact h5 g hg ((hU g).2 (.inr e))
theorem Jw.append(h:Jw w W a p D S L v K)(ht:Tb w)(he:S.ends.length=L.length)(hb:Bl W W1)(ao:OA)(b len cap:Nat)(xs:LB)(hr:RdS W1 ao b 0 len xs)(hlen:len<=1000000)(n3:0<len->b<w.heap.size∨W.heap.size<=b)(hR:RmA D S L xs)(n:Nat)(e0:Int)(hA:apD D S L xs=(D',S',L',n,e0)) :
  Calls prog 14 #[Pq a,.slice ao len cap] W1 fun e w'=>e= .returned (.tuple #[.int .i64 n,.int .i64 e0])∧Jw w w' a p D' S' L' v K:=by
 obtain⟨U,y1,y2,y3,y4,y5⟩:=h;have xA:=Qa y3 hb;refine(Qbg W1 (ht.next xA) (y1.next hb) he ao b len cap xs hr (by omega) (fun h0 hu=> ?_) hR n e0 hA).mono fun e w' z=>⟨z.1,?_⟩
 ·have:=y1.lt hu;have:=y2 b hu
  rcases n3 h0 with e|e <;> omega
 ·obtain⟨U',z1,z2,z3⟩:=z.2;have y6:=Je y4 hb;refine⟨U',z1,fun c hc=>(z2 c hc).elim (y2 c) (fun e=>Lr xA.size e),xA.trans (z3.below xA.size y2),St.Qy y6 fun g hg=>z3.block g (Yz y6 hg) (y5 g hg),fun g hg hu=> ?_⟩
  rcases z2 g hu with e|e
  ·exact y5 g hg e
  ·have:=Yz y6 hg;omega
theorem Jw.app(h:Jw w W a p D S L v K)(hb:Bl W W1)(ty:Nat)(ad:Addr)(mc:Nat)(x:Nat×BA)(hr:∀j u,(cT [x])[j]? = some u->W1.cell? (ad.add j)=some u)(hlen:K.length+1<=1048576) :
  ∃v' w',(Builtin.append_ #[75,75] ty #[v,.slice (some ad) 1 mc]).run prog W1= .ok v' w'∧Jw w w' a p D S L v' (K++[x]):=by
 obtain⟨U,y1,y2,y3,y4,y5⟩:=h.next hb;obtain⟨v',w5,xA,o5,g5⟩:=Qjh W1 ty w.heap.size v K y4 ad mc x hr hlen y3.size;refine⟨v',w5,xA,?_⟩
 have t5:St.Upo (fun b=>v.ownBlock=some b) W1 w5:=by
  rcases g5 with ⟨g,n,c,e1,e2,g3⟩|⟨g3,_⟩
  ·rw[e1];exact St.Upo.grown g3 (fun b hb=>by cases hb;rfl)
  ·exact St.Upo.grown g3 (fun b hb=>by cases hb)
 have xB:∀b,v'.ownBlock=some b->v.ownBlock=some b∨W1.heap.size<=b:=fun b hb=>by
  rcases g5 with ⟨g',n,c,e1,e2,g3⟩|⟨_,g3⟩
  ·rw[e1];rw[e2] at hb;exact .inl hb
  ·exact .inr (g3 b hb)
 refine⟨U,y1.same fun x hx=>t5.block x (y1.lt hx) fun e=>y5 x e hx,y2,y3.trans (t5.below y3.size fun b hb=>(LO y4 b hb).1),o5,fun g hg hu=> ?_⟩
 rcases xB g hg with e|e
 ·exact y5 g e hu
 ·have:=y1.lt hu;omega
theorem Jdw.dw(h:Jdw w W p D v K):Dw w W p D:=by obtain⟨U,h1,h2,h3,_⟩:=h;exact⟨U,h1,h2,h3⟩
theorem Jdw.below(h:Jdw w W p D v K):Bl w W:=h.dw.below
theorem Jw.jdw(h:Jw w W a p D S L v K):Jdw w W p D v K:=by
 obtain⟨U,⟨q,m,r,vr,vs,T,h1,hU,_⟩,h2,h3,h4,h5⟩:=h;obtain⟨Sd,u,d1,d2,d3,d4,d5⟩:=h1.sk;exact⟨Sd,d1,fun b hb=>h2 b ((hU b).2 (.inl ((d5 b).2 (.inl hb)))),h3,h4,fun g hg hs=>h5 g hg ((hU g).2 (.inl ((d5 g).2 (.inl hs))))⟩
theorem Jdw.next(h:Jdw w W p D v K)(hb:Bl W W1):Jdw w W1 p D v K:=by
 obtain⟨U,h1,h2,h3,h4,h5⟩:=h;exact⟨U,h1.next hb,h2,Qa h3 hb,Je h4 hb,h5⟩
theorem Jdw.lay(h:Jdw w W p D v K)(k1 k2:Int)(hk:k1<=9223372036854775807)(ao:OA)(b o c:Nat)(ks:List Bool)(hr:St.RdL W ao b o ks)(hkl:ks.length<=140737488355328)(hne:0<ks.length->b<w.heap.size) :
  Calls prog 12 #[Pq p,.agg #[.int .i64 k1,.int .i64 k2,.slice ao ks.length c]] W fun e w'=>e= .returned (.tuple #[])∧Jdw w w' p (St.YM D k1 k2 ks) v K:=by
 obtain⟨Sd,h1,h2,h3,h4,h5⟩:=h;refine(h1.lay k1 k2 hk ao b o c ks hr hkl (fun h0 hs=>by have:=h2 b hs;have:=hne h0;omega)).mono fun e w' z=>⟨z.1,?_⟩
 obtain⟨S1,z1,z2,z3⟩:=z.2;refine⟨S1,z1,fun b hb=>(z2 b hb).elim (h2 b) (fun e=>Lr h3.size e),h3.trans (z3.below h3.size h2),St.Qy h4 fun g hg=>z3.block g (Yz h4 hg) (h5 g hg),fun g hg e=> ?_⟩
 rcases z2 g e with e|e
 ·exact h5 g hg e
 ·have:=Yz h4 hg;omega
theorem Jdw.open(ht:Tb w)(h:Jdw w W p D v K)(hrm:St.Rm 7 D)(k:Int)(hl:loD D k=(D',some (S',L'),0)) :
  Calls prog 11 #[Pq p,.int .i64 k] W fun e w'=> ∃a,e= .returned (.tuple #[Pq a,.int .i64 0])∧Jw w w' a p D' S' L' v K∧S'.ends.length=L'.length:=by
 obtain⟨Sd,h1,h2,h3,h4,h5⟩:=h;refine(QaW W (ht.next h3) h1 hrm (fun e=>by have:=ht.lt;have:=h2 _ e;omega) k).mono fun e w' z=> ?_
 rw[hl] at z;obtain⟨a,U,z1,z2,z3,z4,z5,z6⟩:=z;refine⟨a,z1,⟨U,z2,fun b hb=>(z3 b hb).elim (h2 b) (fun e=>Lr h3.size e),h3.trans (z5.below h3.size h2),St.Qy h4 fun g hg=>z5.block g (Yz h4 hg) (h5 g hg),fun g hg e=> ?_⟩,z6⟩
 rcases z3 g e with e|e
 ·exact h5 g hg e
 ·have:=Yz h4 hg;omega
theorem Jdw.open_no(ht:Tb w)(h:Jdw w W p D v K)(hrm:St.Rm 7 D)(k:Int)(e0:Int)(hl:loD D k=(D',none,e0)) :
  Calls prog 11 #[Pq p,.int .i64 k] W fun e w'=>e= .returned (.tuple #[.pointer none,.int .i64 e0])∧Jdw w w' p D' v K:=by
 obtain⟨Sd,h1,h2,h3,h4,h5⟩:=h;refine(QaW W (ht.next h3) h1 hrm (fun e=>by have:=ht.lt;have:=h2 _ e;omega) k).mono fun e w' z=> ?_
 rw[hl] at z;obtain⟨z1,S1,y1,z2,z3⟩:=z;refine⟨z1,S1,y1,fun b hb=>(z2 b hb).elim (h2 b) (fun e=>Lr h3.size e),h3.trans (z3.below h3.size h2),St.Qy h4 fun g hg=>z3.block g (Yz h4 hg) (h5 g hg),fun g hg e=> ?_⟩
 rcases z2 g e with e|e
 ·exact h5 g hg e
 ·have:=Yz h4 hg;omega
theorem Jdw.down(h:Jdw w W p D v K)(b:Bool)(hb:D.down=b):Re 15 #[Pq p] W (.bool b):=by
 obtain⟨S1,h1,_⟩:=h;rw[<-hb];exact h1.down
theorem Jdw.after(h:Jdw w W p D v K)(ao:OA)(b o c:Nat)(ks:List Bool)(hk:St.RdL W ao b o ks)(hkl:ks.length<=9223372036854775807)(l:List (List UInt8×List UInt8))(he:St.aft ks D.L 0=l) :
  Calls prog 17 #[Pq p,.slice ao ks.length c] W fun e w'=> ∃ao b c,e= .returned (.slice ao l.length c)∧St.RdF w' ao b 0 l∧Jdw w w' p D v K:=by
 obtain⟨S1,h1,h2,h3,h4,h5⟩:=h;rw[<-he];refine(h1.after ao b o c ks hk hkl).mono fun e w' z=> ?_
 obtain⟨u,q1,q2,q3⟩:=z;obtain⟨ao,b,c,rfl,q4,_,q5⟩:=St.QhH q2;exact⟨ao,b,c,q1,q4,S1,h1.next q3,h2,Qa h3 q3,Je h4 q3,h5⟩
theorem Jdw.reopen(h:Jdw w W p D v K)(R:Nat)(hR:R<=9223372036854775807)(fa:OA)(fb fc:Nat)(F:List (List UInt8×List UInt8))(hf:St.RdF W fa fb 0 F)(hz:St.Fz R F) :
  Calls prog 16 #[.int .i64 R,.slice fa F.length fc] W fun e w'=> ∃p,e= .returned (.tuple #[Pq p,.int .i64 0])∧Jdw w w' p (St.Qar R F) v K:=by
 obtain⟨S0,h1,h2,h3,h4,h5⟩:=h;refine(St.Qla W R hR fa fb 0 fc F hf hz.nm (by have:=hz.len;omega) hz.can hz.byt).mono fun e w' z=> ?_
 obtain⟨p,S1,z1,z2,z3,z4⟩:=z;exact⟨p,z1,S1,z2,fun b hb=>Lr h3.size (z3 b hb),Qa h3 z4,Je h4 z4,fun g hg e=>by have:=z3 g e;have:=Yz h4 hg;omega⟩
end
end
def itX(K:LB)(x:BA)(u:Bool):Option St.It:=if u then some (x.data.toList,mdL 4 K x) else none
structure Fs(K:LB)(x:BA)(u:Bool)(n:Nat)(D:St.DV):Prop where
 len:K.length<=40
 sz:∀s∈K,s.size<=3000
 sx:x.size<=3000
 ord:St.Ord D.L
 gd:St.Gd 4 (itL 4 K) (itX K x u) D.L
 fr:D.free<=134217728
 acts:D.acts<=n
 st:St.Qf 134217728 D∨D.down=true
section
variable {K:LB} {x:BA} {u:Bool} {n:Nat} {D D':St.DV}
theorem OO(h1:K.length<=50)(h2:∀s∈K,s.size<=3000):Fit 4 134217728 3000 K :=
 ⟨by decide,by decide,by decide,by omega,h2,by omega,by decide⟩
theorem QdY(h1:K.length<=50)(h2:∀s∈K,s.size<=3000):St.Smk 4 (itL 4 K):=by
 have hf:=OO h1 h2;exact⟨QaT hf.k1 hf.k2 hf.few hf.szs,Lr (Qe7 hf.k1 hf.k2 hf.c1 hf.few hf.sz) (by omega)⟩
theorem Qaj(h2:∀s∈K,s.size<=3000)(hx:x.size<=3000):∀s∈K++[x],s.size<=3000:=fun s hs=>by
 rcases List.mem_append.1 hs with e|e
 ·exact h2 s e
 ·rw[Ij] at e;subst e;exact hx
theorem Fs.smx(h:Fs K x u n D):St.SmX 4 (itL 4 K) (itX K x u):=by
 refine⟨QdY (by have:=h.len;omega) h.sz,fun y hy=> ?_⟩
 unfold itX at hy
 split at hy
 ·cases hy;rw[<-UA];exact QdY (by rw[Lc];have:=h.len;simp;omega) (Qaj h.sz h.sx)
 ·cases hy
theorem Fs.rm(h:Fs K x u n D)(hn:n<=1000000):St.Rm 7 D:=St.QoW (by have:=h.acts;omega) h.ord h.gd.pre.2.2 h.fr (by decide)
def Fq0(K:LB)(x:BA)(u:Bool)(K2:LB):Prop:=K2=K∨(u=true∧K2=K++[x])
theorem Qqt{B:List St.It}(h:St.Ge (itL 4 K) (itX K x u) B):∃K2,Fq0 K x u K2∧B=itL 4 K2:=by
 rcases h with rfl|⟨y,hy,rfl⟩
 ·exact⟨K,.inl rfl,rfl⟩
 ·unfold itX at hy
  split at hy
  ·cases hy;exact⟨K++[x],.inr ⟨by assumption,rfl⟩,by rw[UA]⟩
  ·cases hy
theorem Fq0.ok{K2:LB}(h:Fq0 K x u K2)(h1:K.length<=40)(h2:∀s∈K,s.size<=3000)(hx:x.size<=3000):K2.length<=41∧K2.length<=K.length+1 ∧ ∀s∈K2,s.size<=3000:=by
 rcases h with rfl|⟨_,rfl⟩
 ·exact⟨by omega,by omega,h2⟩
 ·exact⟨by rw[Lc];simp;omega,by rw[Lc];simp,Qaj h2 hx⟩
theorem Fs.fall(h:Fs K x u n D)(ks:List Bool):St.Fz 134217728 (St.aft ks D.L 0)∧Fs K x u 0 (St.Qar 134217728 (St.aft ks D.L 0)):=by
 have hS:=St.O0 ks D.L 0 h.ord.1;obtain⟨B,hB,hw⟩:=h.gd.fallen h.smx ks h.ord;have hz:=St.Qqs (R:=134217728) (hB.smk h.smx) hS hw (by decide) (by decide)
 refine⟨hz,h.len,h.sz,h.sx,St.QbF hS,?_,by have:=hz.qf.tot;omega,La _,.inl hz.qf⟩
 rcases hB with rfl|⟨y,hy,rfl⟩
 ·exact .inl hw
 ·exact .inr ⟨y,hy,.inl hw⟩
theorem Fs.lay(h:Fs K x u n D)(hq:St.Qf 134217728 D)(a k:Int)(ks:List Bool):Fs K x u n (St.YM D a k ks)∧St.Qf 134217728 (St.YM D a k ks):=by
 have e:(St.YM D a k ks).L=D.L∧(St.YM D a k ks).free=D.free∧(St.YM D a k ks).acts=D.acts∧(St.YM D a k ks).down=D.down:=by
  unfold St.YM
  split
  ·exact⟨rfl,rfl,rfl,rfl⟩
  ·split <;> exact⟨rfl,rfl,rfl,rfl⟩
 obtain⟨e1,e2,e3,e4⟩:=e;have xA:St.Qf 134217728 (St.YM D a k ks):=⟨by rw[e4];exact hq.down,by rw[e1];exact hq.ord,by rw[e1,e2];exact hq.tot⟩
 exact⟨⟨h.len,h.sz,h.sx,xA.ord,by rw[e1];exact h.gd,by rw[e2];exact h.fr,by rw[e3];exact h.acts,.inl xA⟩,xA⟩
theorem Fs.opn(h:Fs K x u n D)(hq:St.Qf 134217728 D):∃D',((∃K2,Fq0 K x u K2∧loD D 4=(D',some (St.sA 4 (itL 4 K2),K2),0)∧St.Qf 134217728 D'∧St.Ext 4 (itL 4 K2) D'.L)∨(D.fk≠0 ∧ ∃e,e≠0∧loD D 4=(D',none,e)))∧Fs K x u (n+6) D'∧(D.fk=0->D'.fk=0):=by
 obtain⟨D',o,e,h1,h2⟩:=St.QpO h.smx hq h.gd;have ha:=h2.acts;have hn:=h.acts;refine⟨D',?_⟩
 rcases h2.out with ⟨B,hB,g1,g2,g3,g4⟩|⟨g1,g2,g3,g4,g5,g6,g7⟩
 ·have xA:=hB.smk h.smx;have xC:St.Gd 4 (itL 4 K) (itX K x u) D'.L:=by
   rcases hB with rfl|⟨y,hy,rfl⟩
   ·exact .inl (xA.wk g4)
   ·exact .inr ⟨y,hy,.inl (xA.wk g4)⟩
  obtain⟨K2,hK,rfl⟩:=Qqt hB;obtain⟨k1,_,k2⟩:=hK.ok h.len h.sz h.sx;subst g1 g2;exact⟨.inl ⟨K2,hK,QoP ((OO (by omega) k2).has g3.down g4) h1,g3,g4⟩,⟨h.len,h.sz,h.sx,g3.ord,xC,by have:=g3.tot;omega,by omega,.inl g3⟩,h2.fk⟩
 ·subst g1;refine⟨.inr ⟨g3,e,g2,?_⟩,⟨h.len,h.sz,h.sx,g5,g6,g4,by omega,g7⟩,h2.fk⟩
  have xB:St.YQ D 4=(D',none,e):=h1;unfold loD;rw[xB]
theorem Qpq(h1:K.length<=39)(h2:∀s∈K,s.size<=3000)(hx:x.size<=3000)(hq:St.Qf 134217728 D)(he:St.Ext 4 (itL 4 K) D.L)(ha:D.acts<=n)(hn:n<=1000000) :
  ∃D',RmA D (St.sA 4 (itL 4 K)) K [x]∧(D.fk=0->D'.fk=0)∧((apD D (St.sA 4 (itL 4 K)) K [x]=(D',St.sA 4 (itL 4 (K++[x])),K++[x],1,0)∧St.Qf 134217728 D'∧St.Ext 4 (itL 4 (K++[x])) D'.L∧D'.acts<=n+6)∨(∃e,e≠0∧D.fk≠0∧apD D (St.sA 4 (itL 4 K)) K [x]=(D',{ St.sA 4 (itL 4 K) with lame:=true },K,0,e)∧Fs K x true (n+6) D')):=by
 have hl:(K++[x]).length=K.length+1:=by simp
 have hf:=OO (K:=K++[x]) (by omega) (Qaj h2 hx)
 have hs:=QdY (K:=K++[x]) (by omega) (Qaj h2 hx)
 rw[UA] at hs;obtain⟨D',S',e,y1,y2⟩:=St.Qql hs hq he (by decide) (by decide)
 have hA:=a_of (L:=K) (hf.szs x (by simp)) (by rw[JW hf.init];omega) rfl y1
 have xA:=y2.acts;have xB:St.Rm 7 D:=St.QoW (R:=134217728) (by omega) hq.ord he.oth (by have:=hq.tot;omega) (by decide)
 refine⟨D',by rw[RmA,hA];exact⟨xB,fun _=>trivial⟩,y2.fk,?_⟩
 rcases y2.out with ⟨rfl,rfl,o3,o4⟩|⟨o1,oz,rfl,o4,o5,o6,o7⟩
 ·refine .inl ⟨?_,o3,by rw[UA];exact o4,by omega⟩
  rw[apD,hA];simp only[if_true,apD];rw[UA]
 ·rw[Le o1] at hA;refine .inr ⟨e,o1,oz,?_,by omega,h2,hx,o5,by unfold itX;rw[Lf rfl];exact o6,o4,by omega,o7⟩
  rw[apD,hA];simp only[if_neg o1]
theorem Fs.mono{m:Nat}(h:Fs K x u n D)(hn:n<=m):Fs K x u m D:=⟨h.len,h.sz,h.sx,h.ord,h.gd,h.fr,Lr h.acts hn,h.st⟩
theorem QoM(h1:K.length<=40)(h2:∀s∈K,s.size<=3000)(hx:x.size<=3000)(hq:St.Qf 134217728 D)(he:St.Ext 4 (itL 4 K) D.L)(ha:D.acts<=n):Fs K x false n D :=
 ⟨h1,h2,hx,hq.ord,.inl ((QdY (by omega) h2).wk he),by have:=hq.tot;omega,ha,.inl hq⟩
end
theorem Qdn{w:World}{p:Nat}{s:BA}(hr:Rdr w p s 0)(hs:s.size<=9223372036854775807)(h:s.data.toList=[]) :
  Calls prog 314 #[Pq p] w fun e w'=>e=pnc∧Ch p w w':=by
 refine(Qcy w p s hr hs).mono ?_
 rintro e w' (⟨n,s',g1,_⟩|⟨_,g2,g3⟩)
 ·rw[h] at g1;cases g1
 ·exact⟨g2,g3⟩
theorem Qdo{w:World}{p:Nat}{s:BA}{b:UInt8}{r:List UInt8}(hr:Rdr w p s 0)(hs:s.size<=9223372036854775807)(h:s.data.toList=b::r) :
  Calls prog 314 #[Pq p] w fun e w'=> ∃s',s'.data.toList=r∧e= .returned (.int .i64 b.toNat)∧Rdr w' p s' 0∧Ch p w w'∧s'.size<=s.size:=by
 refine(Qcy w p s hr hs).mono ?_
 rintro e w' (⟨n',s',g1,g2⟩|⟨g1,_⟩)
 ·rw[h] at g1;cases g1;exact⟨s',rfl,g2⟩
 ·rw[h] at g1;cases g1
section
variable {w W:World} {s:Nat} {a b c d e f:Value}
theorem Six.set0(h:Six w s a b c d e f)(x:Value):Six (w.setCell ⟨s,0,none⟩ x) s x b c d e f:=Lm w s 0 _ _ x h
theorem Six.set1(h:Six w s a b c d e f)(x:Value):Six (w.setCell ⟨s,1,none⟩ x) s a x c d e f:=Lm w s 1 _ _ x h
theorem Six.set2(h:Six w s a b c d e f)(x:Value):Six (w.setCell ⟨s,2,none⟩ x) s a b x d e f:=Lm w s 2 _ _ x h
theorem Six.set3(h:Six w s a b c d e f)(x:Value):Six (w.setCell ⟨s,3,none⟩ x) s a b c x e f:=Lm w s 3 _ _ x h
theorem Six.set4(h:Six w s a b c d e f)(x:Value):Six (w.setCell ⟨s,4,none⟩ x) s a b c d x f:=Lm w s 4 _ _ x h
theorem Six.set5(h:Six w s a b c d e f)(x:Value):Six (w.setCell ⟨s,5,none⟩ x) s a b c d e x:=Lm w s 5 _ _ x h
end
structure PS(w:World)(p:Nat)(wr:World)(s:BA)(a b c d e f:Value):Prop where
 rd:Rdr wr p s 0
 ch:Ch p w wr
 res:Six wr w.heap.size (.int .i64 0) (.int .i64 0) (.int .u64 0) (.int .u64 0) (.slice none 0 0) (.slice none 0 0)
 six:Six wr (w.heap.size+1) a b c d e f
section
variable {w wr w1:World} {p:Nat} {s s':BA} {a b c d e f:Value}
theorem PS.read(h:PS w p wr s a b c d e f)(hp:p<w.heap.size)(hr:Rdr w1 p s' 0)(hc:Ch p wr w1):PS w p w1 s' a b c d e f :=
 ⟨hr,h.ch.trans hc,h.res.same (hc.block _ h.res.lt (by omega)),h.six.same (hc.block _ h.six.lt (by omega))⟩
theorem PS.more(h:PS w p wr s a b c d e f)(hp:p<w.heap.size)(hb:Bl wr w1):PS w p w1 s a b c d e f :=
 ⟨h.rd.next hb h.rd.lt,h.ch.low (hb.mono h.ch.below.size) hp,h.res.next hb,h.six.next hb⟩
theorem PS.set(h:PS w p wr s a b c d e f)(hp:p<w.heap.size)(i:Nat)(v:Value){a' b' c' d' e' f':Value}(h6:Six (wr.setCell ⟨w.heap.size+1,i,none⟩ v) (w.heap.size+1) a' b' c' d' e' f'):PS w p (wr.setCell ⟨w.heap.size+1,i,none⟩ v) s a' b' c' d' e' f':=by
 have hb:Below (w.heap.size+1) wr (wr.setCell ⟨w.heap.size+1,i,none⟩ v):=(Lb _ _).setCell (p:=⟨w.heap.size+1,i,none⟩) (La _) v;exact⟨h.rd.next hb (by omega),h.ch.low (hb.mono (by omega)) hp,h.res.same (hb.block _ (by omega)),h6⟩
end
variable{B e k0 n old q:Nat}{a b d v y:Value}{l r:List UInt8}{S:List Nat}
theorem Qlx(w:World)(p:Nat)(s:BA)(hr:Rdr w p s 0)(o:Obj)(ho:o= .cells #[.int .i64 0,.int .i64 0,.int .u64 0,.int .u64 0,.slice none 0 0,.slice none 0 0] 138) :
  PS w p ((w.alloc o).alloc o) s (.int .i64 0) (.int .i64 0) (.int .u64 0) (.int .u64 0) (.slice none 0 0) (.slice none 0 0):=by
 subst ho;have hb:=bal (bal (Lb w.heap.size w) (.cells #[.int .i64 0,.int .i64 0,.int .u64 0,.int .u64 0,.slice none 0 0,.slice none 0 0] 138)) (.cells #[.int .i64 0,.int .i64 0,.int .u64 0,.int .u64 0,.slice none 0 0,.slice none 0 0] 138);refine⟨hr.next hb hr.lt,(Ch.refl p w).low hb hr.lt,(UO w _ _ _ _ _ _).next (bal (Lb _ _) _),?_⟩
 have:=UO (w.alloc (.cells #[.int .i64 0,.int .i64 0,.int .u64 0,.int .u64 0,.slice none 0 0,.slice none 0 0] 138)) (.int .i64 0) (.int .i64 0) (.int .u64 0) (.int .u64 0) (.slice none 0 0) (.slice none 0 0)
 rwa [Ng] at this
theorem Qlk(w:World)(i:Nat):Cv.Own (w.alloc (.cells #[.int .u64 i] 48)) w.heap.size (.slice (Zp w.heap.size) 1 1) [i] :=
 ⟨rfl,.inr ⟨w.heap.size,1,_,rfl,La _,LC w _,La _,by decide,rfl,rfl⟩⟩
theorem Qfp{w:World}{l:List Nat}(h:Cv.Own w B v l):∃ao b c,v= .slice ao l.length c∧RdU w ao b 0 l.length l∧(ao=none->c=0):=by
 rcases h.2 with ⟨rfl,h0⟩|⟨g,cap,cur,rfl,hg,_⟩
 ·have:l=[]:=List.length_eq_zero_iff.1 h0;subst this;exact⟨none,0,0,rfl,⟨rfl,fun h=>absurd h (Nz 0),fun j v h=>by cases h⟩,fun _=>rfl⟩
 ·have:=QnN (l':=[]) (by rw[LU];exact h)
  exact⟨_,g,cap,rfl,this,fun h=>by cases h⟩
def decM(k0 k1 size:Nat)(l:List UInt8):Option PV:=match UQ k0 size l with|none=>none|some (old,S,l2)=>O7 k0 k1 size old S l2
theorem QmP{k1:Nat}(h:nmb l=none):decA k0 k1 l=none:=by rw[decA,h]
theorem Qkg{k1 size:Nat}(h:nmb l=some (size,r)):decA k0 k1 l=decM k0 k1 size r:=by rw[decA,h];rfl
theorem QdJ{k1 size:Nat}(h:UQ k0 size l=none):decM k0 k1 size l=none:=by rw[decM,h]
theorem JH{k1 size:Nat}(h:UQ k0 size l=some (old,S,r)):decM k0 k1 size l=O7 k0 k1 size old S r:=by rw[decM,h]
theorem Qkh{k1 size:Nat}(h:∀o S r,UQ k0 size l=some (o,S,r)->2^40<size):decM k0 k1 size l=none:=by
 cases hm:UQ k0 size l with
 | none=>exact QdJ hm
 | some a=>
  obtain⟨o,S,r⟩:=a;rw[JH hm,O7,Qhj (by have:=h o S r hm;omega)]
theorem Qbs{k1 size:Nat}(h:cnt k0 k1 old size S=none):O7 k0 k1 size old S l=none:=by rw[O7,h]
theorem QbT{k1 size:Nat}(h:cnt k0 k1 old size S=some c)(hl:¬c*k1=l.length):O7 k0 k1 size old S l=none:=by rw[O7,h];simp only;rw[Le hl]
theorem QbU{k1 size:Nat}(h:cnt k0 k1 old size S=some c)(hl:c*k1=l.length):O7 k0 k1 size old S l=some ⟨k0,k1,old,size,S,Yr c k1 l⟩:=by rw[O7,h];simp only;rw[Lf hl]
theorem Qff{size:Nat}(h:k0=1):UQ k0 size l=match nmb l with|none=>none|some (i,r)=>some (0,[i],r):=by rw[UQ,Lf h];cases nmb l <;> rfl
theorem Qdc{size:Nat}(h:k0=2):UQ k0 size l=UQ 2 size l:=by rw[h]
theorem Qcf{size:Nat}(h:k0=3):UQ k0 size l=match nmb l with|none=>none|some (o,r)=>some (o,[],r):=by rw[UQ,Le (by omega),Le (by omega),Lf h];cases nmb l <;> rfl
theorem QgE{size:Nat}(h1:k0≠1)(h2:k0≠2)(h3:k0≠3):UQ k0 size l=some (0,[],l):=by rw[UQ,Le h1,Le h2,Le h3]
theorem YP{w:World}{size:Nat}{xs:List Value}{c x:Value}(h:w.ownsRow B e size v n xs)(h6:Six w q a b c d x y)(he:e≠138):∀g,v.ownBlock=some g->g≠q:=by
 rintro g hg rfl
 rcases h.2 with ⟨rfl,_⟩|⟨g',cap,cur,rfl,_,hh,_⟩
 ·cases hg
 ·cases hg;rw[Six,hh] at h6;injection h6 with h6
  injection h6 with _ e2 _
  exact he e2
structure TlC(w:World)(p:Nat)(s0:BA)(k0 k1 size:Nat)(W:World)(s:BA)(old:Nat)(SL:List Nat)(ao:OA)(bb cp:Nat):Prop where
 ps:PS w p W s (.int .i64 k0) (.int .i64 k1) (.int .u64 old) (.int .u64 size) (.slice ao SL.length cp) (.slice none 0 0)
 own:Cv.Own W w.heap.size (.slice ao SL.length cp) SL
 rd:RdU W ao bb 0 SL.length SL
 dc:dec s0.data.toList=O7 k0 k1 size old SL s.data.toList
 len:size<=2^40->SL.length<=17592186044416
 old64:old<18446744073709551616
 sz:s.size<=281474976710656
variable{W W' w:World}{bb cp i p:Nat}{s s0:BA}{SL l:List Nat}
theorem TlC.more{k1 size:Nat}{ao:OA}(h:TlC w p s0 k0 k1 size W s old SL ao bb cp)(hp:p<w.heap.size)(hb:Bl W W'):TlC w p s0 k0 k1 size W' s old SL ao bb cp :=
 ⟨h.ps.more hp hb,Qr h.own (fun g hg _=>hb.block g (h.own.lt g hg).2),h.rd.next hb,h.dc,h.len,h.old64,h.sz⟩
theorem Qmc{k1 size:Nat}{sv:Value}(ps:PS w p W s (.int .i64 k0) (.int .i64 k1) (.int .u64 old) (.int .u64 size) sv (.slice none 0 0))(own:Cv.Own W w.heap.size sv SL)(dc:dec s0.data.toList=O7 k0 k1 size old SL s.data.toList)(len:size<=2^40->SL.length<=17592186044416)(old64:old<18446744073709551616)(sz:s.size<=281474976710656):∃ao bb cp,TlC w p s0 k0 k1 size W s old SL ao bb cp:=by
 obtain⟨ao,bb,cp,rfl,hr,_⟩:=Qfp own;exact⟨ao,bb,cp,ps,own,hr,dc,len,old64,sz⟩
theorem JT{wr:World}{c e f x:Value}(h:Cv.Own wr B v l)(h6:Six wr q a b c d e f):Cv.Own (wr.setCell ⟨q,i,none⟩ x) B v l :=
 Qr h fun g hg _=>Below.heap_setCell _ _ _ _ (YP h h6 (by decide) g hg)
def PrQ(w:World)(p:Nat)(s:BA)(e:Ending)(w':World):Prop :=
 (∃P sv dv,dec s.data.toList=some P∧e= .returned (pv6 P.kd P.k P.old P.size sv dv)∧Cv.Own w' w.heap.size sv P.S∧Qh w' w.heap.size dv P.D∧Ch p w w') ∨
  (dec s.data.toList=none∧pan e∧Ch p w w')
theorem Y0{e:Ending}{w':World}(h:dec s.data.toList=none)(he:pan e)(hc:Ch p w w'):PrQ w p s e w' := .inr ⟨h,he,hc⟩
theorem Qi4(w:World)(p:Nat)(s:BA)(hr:Rdr w p s 0)(hs:s.size<=281474976710656) :
  Calls prog 222 #[Pq p] w (PrQ w p s):=by
 have hp:=hr.lt;have HP:Hid (p<w.heap.size∧s.size<=281474976710656):=⟨hp,hs⟩;have P0:=Qlx w p s hr _ rfl;obtain⟨W0,yG⟩:=Ze ((w.alloc (.cells #[.int .i64 0,.int .i64 0,.int .u64 0,.int .u64 0,.slice none 0 0,.slice none 0 0] 138)).alloc (.cells #[.int .i64 0,.int .i64 0,.int .u64 0,.int .u64 0,.slice none 0 0,.slice none 0 0] 138));rw[yG] at P0;have f0:=P0.six.fz;obtain⟨e0,e1,e2,e3,e4,e5⟩:=P0.six.cells;have P1:PS w p (Yl W0 (w.heap.size+1) (.int .i64 0) (.int .i64 0) (.int .u64 0) (.int .u64 0) (.slice none 0 0) (.slice none 0 0)) s (.int .i64 0) (.int .i64 0) (.int .u64 0) (.int .u64 0) (.slice none 0 0) (.slice none 0 0):=by
  have C1:=Ua W0 (w.heap.size+1) (.int .i64 0) (.int .i64 0) (.int .u64 0) (.int .u64 0) (.slice none 0 0) (.slice none 0 0);have hb:Below (w.heap.size+1) W0 (Yl W0 (w.heap.size+1) (.int .i64 0) (.int .i64 0) (.int .u64 0) (.int .u64 0) (.slice none 0 0) (.slice none 0 0)):=C1.below (fun b hb=>by omega)
  exact⟨P0.rd.next hb (by omega),P0.ch.low (hb.mono (by omega)) hp,P0.res.same (C1.block _ (by show ¬_=_;omega)),P0.six.put (.int .i64 0) (.int .i64 0) (.int .u64 0) (.int .u64 0) (.slice none 0 0) (.slice none 0 0)⟩
 clear hr hs hp;obtain⟨W1,xY⟩:=Ze (Yl W0 (w.heap.size+1) (.int .i64 0) (.int .i64 0) (.int .u64 0) (.int .u64 0) (.slice none 0 0) (.slice none 0 0));rw[xY] at P1;unfold Yl at xY
 go_enter func222,ntmps222
 go_upto_region 2 with (fail)
 try rw[xY]
 clear xY yG P0 f0 e0 e1 e2 e3 e4 e5;have xR:=QU P1;clear P1
 rcases hl0:s.data.toList with _|⟨b0,r0⟩
 ·have HN:=Qdn xR.out.rd (by have:=HP.out.2;omega) hl0
  have HE:Hid (∀w',Ch p W1 w'->PrQ w p s pnc w'):=fun w' hc=>Y0 (by rw[hl0];rfl) Q0 (xR.out.ch.trans hc)
  go_wp2_with (go_at_call 314;with_reducible refine HN.mono ?_;rintro x w1 ⟨rfl,hc⟩)
  exact⟨rfl,HE.out _ hc⟩
 have HN:=Qdo xR.out.rd (by have:=HP.out.2;omega) hl0
 go_upto_region 3 with (go_at_call 314;with_reducible refine HN.mono ?_;rintro x w1 ⟨s1,yF,rfl,q1,q2,q3⟩;(have P2:=xR.out.read HP.out.1 q1 q2);(have f0:=P2.six.fz);(obtain⟨e0,e1,e2,e3,e4,e5⟩:=P2.six.cells))
 have yN:s1.size<=281474976710656:=by have:=HP.out.2;omega
 have P3:=P2.set HP.out.1 0 _ (P2.six.set0 (.int .i64 b0.toNat));clear q1 q2 q3 HN xR f0 e0 e1 e2 e3 e4 e5 P2;obtain⟨W3,yB⟩:=Ze (w1.setCell ⟨w.heap.size+1,0,none⟩ (.int .i64 b0.toNat))
 try rw[yB]
 rw[yB] at P3;clear yB;obtain⟨k0,xZ⟩:=Ze b0.toNat;have yI:k0<256:=by rw[<-xZ];exact b0.toNat_lt
 rw[xZ] at P3 ⊢;have xS:=QU P3;clear P3
 rcases hl2:s1.data.toList with _|⟨b1,r1⟩
 ·have HN:=Qdn xS.out.rd (by omega) hl2
  have HE:Hid (∀w',Ch p W3 w'->PrQ w p s pnc w'):=fun w' hc=>Y0 (by rw[hl0,<-yF,hl2];rfl) Q0 (xS.out.ch.trans hc)
  go_wp2_with (go_at_call 314;with_reducible refine HN.mono ?_;rintro x w1 ⟨rfl,hc⟩)
  exact⟨rfl,HE.out _ hc⟩
 have HN:=Qdo xS.out.rd (by omega) hl2
 go_upto_region 4 with (go_at_call 314;with_reducible refine HN.mono ?_;rintro x w4 ⟨s2,yK,rfl,q1,q2,q3⟩;(have P4:=xS.out.read HP.out.1 q1 q2);(have f0:=P4.six.fz);(obtain⟨e0,e1,e2,e3,e4,e5⟩:=P4.six.cells))
 have yO:s2.size<=281474976710656:=by omega
 have P5:=P4.set HP.out.1 1 _ (P4.six.set1 (.int .i64 b1.toNat));clear q1 q2 q3 HN xS f0 e0 e1 e2 e3 e4 e5 P4 yN;obtain⟨W5,yC⟩:=Ze (w4.setCell ⟨w.heap.size+1,1,none⟩ (.int .i64 b1.toNat))
 try rw[yC]
 rw[yC] at P5;clear yC;obtain⟨k1,yA⟩:=Ze b1.toNat;have yJ:k1<256:=by rw[<-yA];exact b1.toNat_lt
 have HD:Hid (dec s.data.toList=decA k0 k1 s2.data.toList):=by rw[hl0,<-yF,hl2,yK,<-xZ,<-yA];rfl
 rw[yA] at P5 ⊢;have xT:=QU P5;clear P5 hl0 yF hl2 yK xZ yA;clear b0 b1 r0 r1 s1 w1 w4 W0 W1 W3
 rcases hn:nmb s2.data.toList with _|⟨size,l1⟩
 ·have HN:=U9 xT.out.rd (by omega) hn
  have HE:Hid (∀w',Ch p W5 w'->PrQ w p s pnc w'):=fun w' hc=>Y0 (by rw[HD.out,QmP hn]) Q0 (xT.out.ch.trans hc)
  go_wp2_with (go_at_call 315;with_reducible refine HN.mono ?_;rintro x w1 ⟨rfl,hc⟩)
  exact⟨rfl,HE.out _ hc⟩
 have HN:=Ja xT.out.rd (by omega) hn
 have xW:=Qd6 hn;rw[Qkg hn] at HD;clear hn
 go_upto_region 5 with (go_at_call 315;with_reducible refine HN.mono ?_;rintro x w4 ⟨s3,rfl,rfl,q1,q2,q3⟩;(have P6:=xT.out.read HP.out.1 q1 q2);(have f0:=P6.six.fz);(obtain⟨e0,e1,e2,e3,e4,e5⟩:=P6.six.cells))
 have yL:s3.size<=281474976710656:=by omega
 have P7:=P6.set HP.out.1 3 _ (P6.six.set3 (.int .u64 size));clear q1 q2 q3 HN xT f0 e0 e1 e2 e3 e4 e5 P6 yO;obtain⟨W7,yD⟩:=Ze (w4.setCell ⟨w.heap.size+1,3,none⟩ (.int .u64 size))
 try rw[yD]
 rw[yD] at P7;clear yD;clear w4 W5 s2;have xG:=QU P7;have HZ:Hid (k0<256∧k1<256∧size<18446744073709551616∧s3.size<=281474976710656):=⟨yI,yJ,xW,yL⟩;clear P7 yI yJ xW yL
 by_cases h1:k0=1
 ·have yE:((k0:Int) == 1)=true:=beq_iff_eq.2 (by omega)
  have HK:Hid (k0=1):=h1;clear h1;obtain⟨e0,e1,e2,e3,e4,e5⟩:=xG.out.six.cells
  rcases hn:nmb s3.data.toList with _|⟨i,l2⟩
  ·have HN:=U9 xG.out.rd (by have:=HZ.out;omega) hn
   have HE:Hid (∀w',Ch p W7 w'->PrQ w p s pnc w'):=fun w' hc=>Y0 (by rw[HD.out,QdJ (by rw[Qff HK.out,hn])]) Q0 (xG.out.ch.trans hc)
   go_wp2_with (go_at_call 315;with_reducible refine HN.mono ?_;rintro x w1 ⟨rfl,hc⟩)
   exact⟨rfl,HE.out _ hc⟩
  have HN:=Ja xG.out.rd (by have:=HZ.out;omega) hn
  rw[JH (by rw[Qff HK.out,hn])] at HD
  clear hn
  go_upto_region 12 with (go_at_call 315;with_reducible refine HN.mono ?_;rintro x w4 ⟨s4,rfl,rfl,q1,q2,q3⟩;(have P8:=(xG.out.read HP.out.1 q1 q2).more HP.out.1 (bal (Lb _ _) (.cells #[.int .u64 i] 48)));(have f0:=P8.six.fz);(obtain⟨e0,e1,e2,e3,e4,e5⟩:=P8.six.cells))
  have P9:=P8.set HP.out.1 4 _ (P8.six.set4 (.slice (Zp w4.heap.size) 1 1));have O9:Cv.Own ((w4.alloc (.cells #[.int .u64 i] 48)).setCell ⟨w.heap.size+1,4,none⟩ (.slice (Zp w4.heap.size) 1 1)) w.heap.size (.slice (Zp w4.heap.size) 1 1) [i]:=JT ((Qlk w4 i).mono (Lr xG.out.ch.below.size q2.below.size)) P8.six;have T9:=Qmc (old:=0) P9 O9 HD.out (fun _=>by simp) (by decide) (by have:=HZ.out;omega)
  clear P8 P9 O9 q1 q2 q3 HN xG HD f0 e0 e1 e2 e3 e4 e5;obtain⟨W9,xN⟩:=Ze ((w4.alloc (.cells #[.int .u64 i] 48)).setCell ⟨w.heap.size+1,4,none⟩ (.slice (Zp w4.heap.size) 1 1))
  try rw[xN]
  rw[xN] at T9;clear xN;obtain⟨ao,bb,cp,T9⟩:=T9;generalize [i]=SL at T9;obtain⟨old,xO⟩:∃old:Nat,0=old:=⟨_,rfl⟩;rw[xO] at T9;clear xO;have HT:=QU T9;have HC:=Yq W9 k0 k1 old size ao bb 0 cp SL (.slice none 0 0) T9.old64 HZ.out.2.2.1 T9.rd T9.len;obtain⟨e0,e1,e2,e3,e4,e5⟩:=T9.ps.six.cells;clear T9
  rcases hc:cnt k0 k1 old size SL with _|c
  ·rw[hc] at HC;simp only[cV] at HC;have HE:Hid (∀w',Ch p w w'->PrQ w p s pnc w'):=fun w' hc'=>Y0 (by rw[HT.out.dc,Qbs hc]) Q0 hc'
   clear hc
   go_wp2_with (first
    | (go_at_call 310;with_reducible refine HC.mono ?_;rintro x w1 ⟨rfl,hb⟩;(have xJ:=HT.out.more HP.out.1 hb))
    | (go_at_call 317;refine(Y9 _ _ rfl).mono ?_;rintro x w3 ⟨rfl,rfl⟩))
   exact⟨rfl,HE.out _ xJ.ps.ch⟩
  rw[hc] at HC;simp only[cV] at HC;have xD:Hid (cnt k0 k1 old size SL=some c):=hc;clear hc
  go_upto_region 14 with (first
   | (go_at_call 310;with_reducible refine HC.mono ?_;rintro x w1 ⟨rfl,hb⟩;(have xJ:=HT.out.more HP.out.1 hb);(have xA:=QU xJ);clear xJ hb)
   | (go_at_call 317;refine(Yx _ _ rfl).mono ?_;rintro x w3 ⟨rfl,rfl⟩))
  clear HT HC e0 e1 e2 e3 e4 e5;obtain⟨e0,e1,e2,e3,e4,e5⟩:=xA.out.ps.six.cells
  by_cases hl:c*k1=s4.data.toList.length
  ·have HG:=OL w3 p c k1 s4 xA.out.ps.rd xA.out.sz (Q7 xD.out).hc (by have:=(Q7 xD.out).k32;omega) hl
   have HL:Hid (c*k1=s4.data.toList.length):=hl;clear hl
   go_upto_region 15 with (go_at_call 318;with_reducible refine HG.mono ?_;rintro x w5 ⟨g,rfl,o5,c5,t5,r5⟩;(have xE:=xA.out.ps.read HP.out.1 r5 c5);(have f0:=xE.six.fz);(obtain⟨e0,e1,e2,e3,e4,e5⟩:=xE.six.cells))
   have xP:Cv.Own w5 w.heap.size (.slice ao SL.length cp) SL:=Qr xA.out.own fun b hb _=>c5.block b (xA.out.own.lt b hb).2 (by have:=(xA.out.own.lt b hb).1;have:=HP.out.1;omega)
   have xI:=JT (i:=5) (x := .slice (Zp g) c c) xP xE.six;have xL:Qh w5 w.heap.size (.slice (Zp g) c c) (Yr c k1 s4.data.toList):=o5.mono xA.out.ps.ch.below.size;have xH:Qh (w5.setCell ⟨w.heap.size+1,5,none⟩ (.slice (Zp g) c c)) w.heap.size (.slice (Zp g) c c) (Yr c k1 s4.data.toList):=Qr xL fun b hb _=>Below.heap_setCell _ _ _ _ (YP xL xE.six (by decide) b hb)
   have xB:=xE.set HP.out.1 5 _ (xE.six.set5 (.slice (Zp g) c c));have xM:Hid (dec s.data.toList=some ⟨k0,k1,old,size,SL,Yr c k1 s4.data.toList⟩):=xA.out.dc.trans (QbU xD.out HL.out);clear xA HG o5 c5 r5 xE xP xL f0 e0 e1 e2 e3 e4 e5 HL xD;obtain⟨xK,xF⟩:=Ze (w5.setCell ⟨w.heap.size+1,5,none⟩ (.slice (Zp g) c c))
   try rw[xF]
   rw[xF] at xI xH xB;clear xF;obtain⟨e0,e1,e2,e3,e4,e5⟩:=xB.six.cells;obtain⟨m0,m1,m2,m3,m4,m5⟩:=xB.res.cells;have f0:=xB.res.fz;have xQ:=xB.res.put (.int .i64 k0) (.int .i64 k1) (.int .u64 old) (.int .u64 size) (.slice ao SL.length cp) (.slice (Zp g) c c);have xC:=Ua xK w.heap.size (.int .i64 k0) (.int .i64 k1) (.int .u64 old) (.int .u64 size) (.slice ao SL.length cp) (.slice (Zp g) c c);have HF:Hid (Cv.Own (Yl xK w.heap.size (.int .i64 k0) (.int .i64 k1) (.int .u64 old) (.int .u64 size) (.slice ao SL.length cp) (.slice (Zp g) c c)) w.heap.size (.slice ao SL.length cp) SL∧Qh (Yl xK w.heap.size (.int .i64 k0) (.int .i64 k1) (.int .u64 old) (.int .u64 size) (.slice ao SL.length cp) (.slice (Zp g) c c)) w.heap.size (.slice (Zp g) c c) (Yr c k1 s4.data.toList)∧Ch p w (Yl xK w.heap.size (.int .i64 k0) (.int .i64 k1) (.int .u64 old) (.int .u64 size) (.slice ao SL.length cp) (.slice (Zp g) c c))):=by
    refine⟨Qr xI fun b hb _=>xC.block b (YP xI xB.res (by decide) b hb),Qr xH fun b hb _=>xC.block b (YP xH xB.res (by decide) b hb),xB.ch.low (xC.below (by rintro b rfl;exact La _)) HP.out.1⟩
   unfold Yl at xQ HF;clear xC xI xH xB;go_wp2;obtain⟨s0,s1,s2,s3,xX,s5⟩:=xQ.cells;refine LD (v:=pv6 k0 k1 old size (.slice ao SL.length cp) (.slice (Zp g) c c)) (by simp[results,results222,go_sem,s0,s1,s2,s3,xX,s5]) rfl ?_
   exact .inl ⟨_,_,_,xM.out,rfl,HF.out.1,HF.out.2.1,HF.out.2.2⟩
  ·have HG:=OK w3 p c k1 s4 xA.out.ps.rd xA.out.sz (Q7 xD.out).hc (by have:=(Q7 xD.out).k32;omega) hl
   have HE:Hid (PrQ w p s pnc w3):=Y0 (by rw[xA.out.dc,QbT xD.out hl]) Q0 xA.out.ps.ch
   go_wp2_with (go_at_call 318;with_reducible refine HG.mono ?_;rintro x w5 ⟨rfl,rfl⟩)
   exact⟨rfl,HE.out⟩
 by_cases h2:k0=2
 ·have yE:((k0:Int) == 1)=false:=beq_false_of_ne (by omega)
  have yH:((k0:Int) == 2)=true:=beq_iff_eq.2 (by omega)
  have HK:Hid (k0=2):=h2;clear h1 h2;obtain⟨e0,e1,e2,e3,e4,e5⟩:=xG.out.six.cells;have HN:=Qoc W7 p size s3 xG.out.rd HZ.out.2.2.2 HZ.out.2.2.1;have HE:Hid (∀w' e,Ch p W7 w'->(∀o S r,UQ 2 size s3.data.toList=some (o,S,r)->2^40<size)->pan e->PrQ w p s e w'):=fun w' e hc hm he=>Y0 (by rw[HD.out,Qkh (by rw[Qdc HK.out];exact hm)]) he (xG.out.ch.trans hc)
  go_upto_region 12 with (go_at_call 316;((with_reducible refine HN.mono ?_);rintro x w4 hq;rcases hq with ⟨SL,s4,g,c2,hm,rfl,o4,q1,q2,q3⟩|⟨hm,⟨u,v,rfl⟩,q2⟩;rotate_left;(exact⟨rfl,HE.out _ _ q2 hm ⟨u,v,rfl⟩⟩);(have P8:=xG.out.read HP.out.1 q1 q2);(have f0:=P8.six.fz);(obtain⟨e0,e1,e2,e3,e4,e5⟩:=P8.six.cells)))
  rw[JH (by rw[Qdc HK.out];exact hm)] at HD
  have P9:=P8.set HP.out.1 4 _ (P8.six.set4 (.slice (Zp g) SL.length c2));have O9:Cv.Own (w4.setCell ⟨w.heap.size+1,4,none⟩ (.slice (Zp g) SL.length c2)) w.heap.size (.slice (Zp g) SL.length c2) SL:=JT (o4.mono xG.out.ch.below.size) P8.six;have xU:size<=2^40->SL.length<=17592186044416:=fun hz=>by
   rw[U6] at hm
   split at hm
   ·cases hm
   ·split at hm
    ·split at hm
     ·cases hm
     ·rename_i hs
      cases hm;obtain⟨z1,z2,z3⟩:=Qa5 _ _ _ _ _ (Ln _) hs;have:=UV z3;omega
    ·cases hm
  have T9:=Qmc (old:=0) P9 O9 HD.out xU (by decide) (by have:=HZ.out;omega)
  clear P8 P9 O9 o4 hm xU q1 q2 q3 HN xG HD HE f0 e0 e1 e2 e3 e4 e5;obtain⟨W9,xN⟩:=Ze (w4.setCell ⟨w.heap.size+1,4,none⟩ (.slice (Zp g) SL.length c2))
  try rw[xN]
  rw[xN] at T9;clear xN;obtain⟨ao,bb,cp,T9⟩:=T9;obtain⟨old,xO⟩:∃old:Nat,0=old:=⟨_,rfl⟩;rw[xO] at T9;clear xO;have HT:=QU T9;have HC:=Yq W9 k0 k1 old size ao bb 0 cp SL (.slice none 0 0) T9.old64 HZ.out.2.2.1 T9.rd T9.len;obtain⟨e0,e1,e2,e3,e4,e5⟩:=T9.ps.six.cells;clear T9
  rcases hc:cnt k0 k1 old size SL with _|c
  ·rw[hc] at HC;simp only[cV] at HC;have HE:Hid (∀w',Ch p w w'->PrQ w p s pnc w'):=fun w' hc'=>Y0 (by rw[HT.out.dc,Qbs hc]) Q0 hc'
   clear hc
   go_wp2_with (first
    | (go_at_call 310;with_reducible refine HC.mono ?_;rintro x w1 ⟨rfl,hb⟩;(have xJ:=HT.out.more HP.out.1 hb))
    | (go_at_call 317;refine(Y9 _ _ rfl).mono ?_;rintro x w3 ⟨rfl,rfl⟩))
   exact⟨rfl,HE.out _ xJ.ps.ch⟩
  rw[hc] at HC;simp only[cV] at HC;have xD:Hid (cnt k0 k1 old size SL=some c):=hc;clear hc
  go_upto_region 14 with (first
   | (go_at_call 310;with_reducible refine HC.mono ?_;rintro x w1 ⟨rfl,hb⟩;(have xJ:=HT.out.more HP.out.1 hb);(have xA:=QU xJ);clear xJ hb)
   | (go_at_call 317;refine(Yx _ _ rfl).mono ?_;rintro x w3 ⟨rfl,rfl⟩))
  clear HT HC e0 e1 e2 e3 e4 e5;obtain⟨e0,e1,e2,e3,e4,e5⟩:=xA.out.ps.six.cells
  by_cases hl:c*k1=s4.data.toList.length
  ·have HG:=OL w3 p c k1 s4 xA.out.ps.rd xA.out.sz (Q7 xD.out).hc (by have:=(Q7 xD.out).k32;omega) hl
   have HL:Hid (c*k1=s4.data.toList.length):=hl;clear hl
   go_upto_region 15 with (go_at_call 318;with_reducible refine HG.mono ?_;rintro x w5 ⟨g,rfl,o5,c5,t5,r5⟩;(have xE:=xA.out.ps.read HP.out.1 r5 c5);(have f0:=xE.six.fz);(obtain⟨e0,e1,e2,e3,e4,e5⟩:=xE.six.cells))
   have xP:Cv.Own w5 w.heap.size (.slice ao SL.length cp) SL:=Qr xA.out.own fun b hb _=>c5.block b (xA.out.own.lt b hb).2 (by have:=(xA.out.own.lt b hb).1;have:=HP.out.1;omega)
   have xI:=JT (i:=5) (x := .slice (Zp g) c c) xP xE.six;have xL:Qh w5 w.heap.size (.slice (Zp g) c c) (Yr c k1 s4.data.toList):=o5.mono xA.out.ps.ch.below.size;have xH:Qh (w5.setCell ⟨w.heap.size+1,5,none⟩ (.slice (Zp g) c c)) w.heap.size (.slice (Zp g) c c) (Yr c k1 s4.data.toList):=Qr xL fun b hb _=>Below.heap_setCell _ _ _ _ (YP xL xE.six (by decide) b hb)
   have xB:=xE.set HP.out.1 5 _ (xE.six.set5 (.slice (Zp g) c c));have xM:Hid (dec s.data.toList=some ⟨k0,k1,old,size,SL,Yr c k1 s4.data.toList⟩):=xA.out.dc.trans (QbU xD.out HL.out);clear xA HG o5 c5 r5 xE xP xL f0 e0 e1 e2 e3 e4 e5 HL xD;obtain⟨xK,xF⟩:=Ze (w5.setCell ⟨w.heap.size+1,5,none⟩ (.slice (Zp g) c c))
   try rw[xF]
   rw[xF] at xI xH xB;clear xF;obtain⟨e0,e1,e2,e3,e4,e5⟩:=xB.six.cells;obtain⟨m0,m1,m2,m3,m4,m5⟩:=xB.res.cells;have f0:=xB.res.fz;have xQ:=xB.res.put (.int .i64 k0) (.int .i64 k1) (.int .u64 old) (.int .u64 size) (.slice ao SL.length cp) (.slice (Zp g) c c);have xC:=Ua xK w.heap.size (.int .i64 k0) (.int .i64 k1) (.int .u64 old) (.int .u64 size) (.slice ao SL.length cp) (.slice (Zp g) c c);have HF:Hid (Cv.Own (Yl xK w.heap.size (.int .i64 k0) (.int .i64 k1) (.int .u64 old) (.int .u64 size) (.slice ao SL.length cp) (.slice (Zp g) c c)) w.heap.size (.slice ao SL.length cp) SL∧Qh (Yl xK w.heap.size (.int .i64 k0) (.int .i64 k1) (.int .u64 old) (.int .u64 size) (.slice ao SL.length cp) (.slice (Zp g) c c)) w.heap.size (.slice (Zp g) c c) (Yr c k1 s4.data.toList)∧Ch p w (Yl xK w.heap.size (.int .i64 k0) (.int .i64 k1) (.int .u64 old) (.int .u64 size) (.slice ao SL.length cp) (.slice (Zp g) c c))):=by
    refine⟨Qr xI fun b hb _=>xC.block b (YP xI xB.res (by decide) b hb),Qr xH fun b hb _=>xC.block b (YP xH xB.res (by decide) b hb),xB.ch.low (xC.below (by rintro b rfl;exact La _)) HP.out.1⟩
   unfold Yl at xQ HF;clear xC xI xH xB;go_wp2;obtain⟨s0,s1,s2,s3,xX,s5⟩:=xQ.cells;refine LD (v:=pv6 k0 k1 old size (.slice ao SL.length cp) (.slice (Zp g) c c)) (by simp[results,results222,go_sem,s0,s1,s2,s3,xX,s5]) rfl ?_
   exact .inl ⟨_,_,_,xM.out,rfl,HF.out.1,HF.out.2.1,HF.out.2.2⟩
  ·have HG:=OK w3 p c k1 s4 xA.out.ps.rd xA.out.sz (Q7 xD.out).hc (by have:=(Q7 xD.out).k32;omega) hl
   have HE:Hid (PrQ w p s pnc w3):=Y0 (by rw[xA.out.dc,QbT xD.out hl]) Q0 xA.out.ps.ch
   go_wp2_with (go_at_call 318;with_reducible refine HG.mono ?_;rintro x w5 ⟨rfl,rfl⟩)
   exact⟨rfl,HE.out⟩
 by_cases h3:k0=3
 ·have yE:((k0:Int) == 1)=false:=beq_false_of_ne (by omega)
  have yH:((k0:Int) == 2)=false:=beq_false_of_ne (by omega)
  have yM:((k0:Int) == 3)=true:=beq_iff_eq.2 (by omega)
  have HK:Hid (k0=3):=h3;clear h1 h2 h3;obtain⟨e0,e1,e2,e3,e4,e5⟩:=xG.out.six.cells
  rcases hn:nmb s3.data.toList with _|⟨old,l2⟩
  ·have HN:=U9 xG.out.rd (by have:=HZ.out;omega) hn
   have HE:Hid (∀w',Ch p W7 w'->PrQ w p s pnc w'):=fun w' hc=>Y0 (by rw[HD.out,QdJ (by rw[Qcf HK.out,hn])]) Q0 (xG.out.ch.trans hc)
   go_wp2_with (go_at_call 315;with_reducible refine HN.mono ?_;rintro x w1 ⟨rfl,hc⟩)
   exact⟨rfl,HE.out _ hc⟩
  have HN:=Ja xG.out.rd (by have:=HZ.out;omega) hn
  have xV:=Qd6 hn;rw[JH (by rw[Qcf HK.out,hn])] at HD
  clear hn
  go_upto_region 12 with (go_at_call 315;with_reducible refine HN.mono ?_;rintro x w4 ⟨s4,rfl,rfl,q1,q2,q3⟩;(have P8:=xG.out.read HP.out.1 q1 q2);(have f0:=P8.six.fz);(obtain⟨e0,e1,e2,e3,e4,e5⟩:=P8.six.cells))
  have P9:=P8.set HP.out.1 2 _ (P8.six.set2 (.int .u64 old));have T9:=Qmc P9 (Np _ _ _ _) HD.out (fun _=>by simp) xV (by have:=HZ.out;omega)
  clear P8 P9 q1 q2 q3 HN xG HD f0 e0 e1 e2 e3 e4 e5 xV;obtain⟨W9,xN⟩:=Ze (w4.setCell ⟨w.heap.size+1,2,none⟩ (.int .u64 old))
  try rw[xN]
  rw[xN] at T9;clear xN;obtain⟨ao,bb,cp,T9⟩:=T9;obtain⟨SL,xU⟩:∃SL:List Nat,[]=SL:=⟨_,rfl⟩;rw[xU] at T9;clear xU;have HT:=QU T9;have HC:=Yq W9 k0 k1 old size ao bb 0 cp SL (.slice none 0 0) T9.old64 HZ.out.2.2.1 T9.rd T9.len;obtain⟨e0,e1,e2,e3,e4,e5⟩:=T9.ps.six.cells;clear T9
  rcases hc:cnt k0 k1 old size SL with _|c
  ·rw[hc] at HC;simp only[cV] at HC;have HE:Hid (∀w',Ch p w w'->PrQ w p s pnc w'):=fun w' hc'=>Y0 (by rw[HT.out.dc,Qbs hc]) Q0 hc'
   clear hc
   go_wp2_with (first
    | (go_at_call 310;with_reducible refine HC.mono ?_;rintro x w1 ⟨rfl,hb⟩;(have xJ:=HT.out.more HP.out.1 hb))
    | (go_at_call 317;refine(Y9 _ _ rfl).mono ?_;rintro x w3 ⟨rfl,rfl⟩))
   exact⟨rfl,HE.out _ xJ.ps.ch⟩
  rw[hc] at HC;simp only[cV] at HC;have xD:Hid (cnt k0 k1 old size SL=some c):=hc;clear hc
  go_upto_region 14 with (first
   | (go_at_call 310;with_reducible refine HC.mono ?_;rintro x w1 ⟨rfl,hb⟩;(have xJ:=HT.out.more HP.out.1 hb);(have xA:=QU xJ);clear xJ hb)
   | (go_at_call 317;refine(Yx _ _ rfl).mono ?_;rintro x w3 ⟨rfl,rfl⟩))
  clear HT HC e0 e1 e2 e3 e4 e5;obtain⟨e0,e1,e2,e3,e4,e5⟩:=xA.out.ps.six.cells
  by_cases hl:c*k1=s4.data.toList.length
  ·have HG:=OL w3 p c k1 s4 xA.out.ps.rd xA.out.sz (Q7 xD.out).hc (by have:=(Q7 xD.out).k32;omega) hl
   have HL:Hid (c*k1=s4.data.toList.length):=hl;clear hl
   go_upto_region 15 with (go_at_call 318;with_reducible refine HG.mono ?_;rintro x w5 ⟨g,rfl,o5,c5,t5,r5⟩;(have xE:=xA.out.ps.read HP.out.1 r5 c5);(have f0:=xE.six.fz);(obtain⟨e0,e1,e2,e3,e4,e5⟩:=xE.six.cells))
   have xP:Cv.Own w5 w.heap.size (.slice ao SL.length cp) SL:=Qr xA.out.own fun b hb _=>c5.block b (xA.out.own.lt b hb).2 (by have:=(xA.out.own.lt b hb).1;have:=HP.out.1;omega)
   have xI:=JT (i:=5) (x := .slice (Zp g) c c) xP xE.six;have xL:Qh w5 w.heap.size (.slice (Zp g) c c) (Yr c k1 s4.data.toList):=o5.mono xA.out.ps.ch.below.size;have xH:Qh (w5.setCell ⟨w.heap.size+1,5,none⟩ (.slice (Zp g) c c)) w.heap.size (.slice (Zp g) c c) (Yr c k1 s4.data.toList):=Qr xL fun b hb _=>Below.heap_setCell _ _ _ _ (YP xL xE.six (by decide) b hb)
   have xB:=xE.set HP.out.1 5 _ (xE.six.set5 (.slice (Zp g) c c));have xM:Hid (dec s.data.toList=some ⟨k0,k1,old,size,SL,Yr c k1 s4.data.toList⟩):=xA.out.dc.trans (QbU xD.out HL.out);clear xA HG o5 c5 r5 xE xP xL f0 e0 e1 e2 e3 e4 e5 HL xD;obtain⟨xK,xF⟩:=Ze (w5.setCell ⟨w.heap.size+1,5,none⟩ (.slice (Zp g) c c))
   try rw[xF]
   rw[xF] at xI xH xB;clear xF;obtain⟨e0,e1,e2,e3,e4,e5⟩:=xB.six.cells;obtain⟨m0,m1,m2,m3,m4,m5⟩:=xB.res.cells;have f0:=xB.res.fz;have xQ:=xB.res.put (.int .i64 k0) (.int .i64 k1) (.int .u64 old) (.int .u64 size) (.slice ao SL.length cp) (.slice (Zp g) c c);have xC:=Ua xK w.heap.size (.int .i64 k0) (.int .i64 k1) (.int .u64 old) (.int .u64 size) (.slice ao SL.length cp) (.slice (Zp g) c c);have HF:Hid (Cv.Own (Yl xK w.heap.size (.int .i64 k0) (.int .i64 k1) (.int .u64 old) (.int .u64 size) (.slice ao SL.length cp) (.slice (Zp g) c c)) w.heap.size (.slice ao SL.length cp) SL∧Qh (Yl xK w.heap.size (.int .i64 k0) (.int .i64 k1) (.int .u64 old) (.int .u64 size) (.slice ao SL.length cp) (.slice (Zp g) c c)) w.heap.size (.slice (Zp g) c c) (Yr c k1 s4.data.toList)∧Ch p w (Yl xK w.heap.size (.int .i64 k0) (.int .i64 k1) (.int .u64 old) (.int .u64 size) (.slice ao SL.length cp) (.slice (Zp g) c c))):=by
    refine⟨Qr xI fun b hb _=>xC.block b (YP xI xB.res (by decide) b hb),Qr xH fun b hb _=>xC.block b (YP xH xB.res (by decide) b hb),xB.ch.low (xC.below (by rintro b rfl;exact La _)) HP.out.1⟩
   unfold Yl at xQ HF;clear xC xI xH xB;go_wp2;obtain⟨s0,s1,s2,s3,xX,s5⟩:=xQ.cells;refine LD (v:=pv6 k0 k1 old size (.slice ao SL.length cp) (.slice (Zp g) c c)) (by simp[results,results222,go_sem,s0,s1,s2,s3,xX,s5]) rfl ?_
   exact .inl ⟨_,_,_,xM.out,rfl,HF.out.1,HF.out.2.1,HF.out.2.2⟩
  ·have HG:=OK w3 p c k1 s4 xA.out.ps.rd xA.out.sz (Q7 xD.out).hc (by have:=(Q7 xD.out).k32;omega) hl
   have HE:Hid (PrQ w p s pnc w3):=Y0 (by rw[xA.out.dc,QbT xD.out hl]) Q0 xA.out.ps.ch
   go_wp2_with (go_at_call 318;with_reducible refine HG.mono ?_;rintro x w5 ⟨rfl,rfl⟩)
   exact⟨rfl,HE.out⟩
 have yE:((k0:Int) == 1)=false:=beq_false_of_ne (by omega)
 have yH:((k0:Int) == 2)=false:=beq_false_of_ne (by omega)
 have yM:((k0:Int) == 3)=false:=beq_false_of_ne (by omega)
 obtain⟨e0,e1,e2,e3,e4,e5⟩:=xG.out.six.cells;rw[JH (QgE h1 h2 h3)] at HD;have HC:Zr 310 #[.agg #[.int .i64 k0,.int .i64 k1,.int .u64 0,.int .u64 size,.slice none 0 0,.slice none 0 0]] W7 (.tuple #[.int .u64 0,.int .i64 150]):=by
  have:=Yq W7 k0 k1 0 size none 0 0 0 [] (.slice none 0 0) (by decide) HZ.out.2.2.1 ⟨rfl,fun h=>absurd h (Nz 0),fun j v h=>by cases h⟩ (fun _=>by simp)
  rw[QaP (by omega) (by omega) (by omega)] at this
  exact this
 have HE:Hid (∀w',Bl W7 w'->PrQ w p s pnc w'):=fun w' hb=>Y0 (by rw[HD.out,Qbs (QaP (by omega) (by omega) (by omega))]) Q0 (xG.out.more HP.out.1 hb).ch
 clear h1 h2 h3 xG
 go_wp2_with (first
  | (go_at_call 310;with_reducible refine HC.mono ?_;rintro x w1 ⟨rfl,hb⟩)
  | (go_at_call 317;refine(Y9 _ _ rfl).mono ?_;rintro x w3 ⟨rfl,rfl⟩))
 exact⟨rfl,HE.out _ hb⟩
def Er(w:World)(b:Nat)(e:Int):Prop:=w.heap[b]? = some (.cells #[.int .i64 e] 28 (0,0))
variable{b:Nat}{e:Int}
theorem Er.cell(h:Er w b e):w.cell? ⟨b,0,none⟩=some (.int .i64 e):=by rw[cell_of_row w b 0 _ _ (0,0) h];rfl
theorem Er.fz(h:Er w b e):w.frozen? ⟨b,0,none⟩=false:=frozen_of_row w b 0 _ _ h
theorem Er.same(h:Er w b e)(hb:W.heap[b]? = w.heap[b]?):Er W b e:=hb.trans h
theorem Er.set(h:Er w b e)(e':Int):Er (w.setCell ⟨b,0,none⟩ (.int .i64 e')) b e':=Lm w b 0 _ _ (.int .i64 e') h
theorem Qbj(a b:Nat)(u:TypeId)(pv:Value)(older:List PanicEntry)(w:World){x0 x1 x2 x3 x4 x5:Value}(h6:Six w a x0 x1 x2 x3 x4 x5)(he:Er w b e)(hne:a≠b) :
  CallsD prog 221 #[Pq a,Pq b] (.panicking ({ v := .iface u pv,recovered:=false } :: older)) w fun e u' w'=>
   e= .returned (.tuple #[])∧u'= .panicking ({ v := .iface u pv,recovered:=true } :: older)∧w'=(Yl w a (.int .i64 0) (.int .i64 0) (.int .u64 0) (.int .u64 0) (.slice none 0 0) (.slice none 0 0)).setCell ⟨b,0,none⟩ (.int .i64 140):=by
 obtain⟨c0,c1,c2,c3,c4,c5⟩:=h6.cells;have f0:=h6.fz;have g0:=he.cell;have g1:=he.fz;have xA:¬b=a:=fun h=>hne h.symm
 refine callsD_of_wpS func221 rfl fun c₀ cs hu=> ?_
 apply wpS_seq
 apply wpS_region
 simp[wpOpsS,go_sem,recoverD,hu,ntmps221,Exit.thenS];refine wpS_cond (t:=true) (by simp[Act.eval,Array.replicate]) ?_
 simp only[if_true];refine wpS_of_wp ?_
 have ht:(#[Pq a,Pq b]++((Array.replicate 3 undef).setIfInBounds 0 (Value.iface u pv)).setIfInBounds 1 (Value.bool true):Array Value)=#[Pq a,Pq b,Value.iface u pv,Value.bool true,undef]:=rfl;rw[ht];have k6:=h6.put (.int .i64 0) (.int .i64 0) (.int .u64 0) (.int .u64 0) (.slice none 0 0) (.slice none 0 0);have kc:=Ua w a (.int .i64 0) (.int .i64 0) (.int .u64 0) (.int .u64 0) (.slice none 0 0) (.slice none 0 0);have ke:=he.same (kc.block b (by show ¬_=_;exact xA))
 have k0:=ke.cell;have k1:=ke.fz;unfold Yl at k0 k1 ⊢;clear k6 kc ke h6 he;go_wp2;simp[bodyPostS,results,results221]
theorem Qgf(a b:Nat)(w:World) :
  CallsD prog 221 #[Pq a,Pq b] .returning w fun e u' w'=>e= .returned (.tuple #[])∧u'= .returning∧w'=w:=by
 refine callsD_of_wpS func221 rfl fun c₀ cs hu=> ?_
 apply wpS_seq
 apply wpS_region
 simp[wpOpsS,go_sem,recoverD,hu,ntmps221,Exit.thenS];refine wpS_cond (t:=false) (by simp[Act.eval,Array.replicate]) ?_
 simp only[Bool.false_eq_true,if_false];refine wpS_of_wp (wp_skip ?_)
 cases c₀
 simp_all [bodyPostS,results,results221]
def DecQ(w:World)(s:BA)(e:Ending)(w':World):Prop :=
 (∃P sv dv,dec s.data.toList=some P∧e= .returned (.tuple #[pv6 P.kd P.k P.old P.size sv dv,.int .i64 0])∧Cv.Own w' w.heap.size sv P.S∧Qh w' w.heap.size dv P.D∧Bl w w') ∨
  (dec s.data.toList=none∧e= .returned (.tuple #[noP,.int .i64 140])∧Bl w w')
structure D2(w W:World):Prop where
 six:Six W w.heap.size (.int .i64 0) (.int .i64 0) (.int .u64 0) (.int .u64 0) (.slice none 0 0) (.slice none 0 0)
 er:Er W (w.heap.size+1) 0
 below:Bl w W
theorem D2.next(h:D2 w W)(hb:∀b,b<w.heap.size+2->W'.heap[b]? = W.heap[b]?)(hw:Bl w W'):D2 w W' :=
 ⟨h.six.same (hb _ (by omega)),h.er.same (hb _ (by omega)),hw⟩
theorem Qpj(w:World)(o1 o2:Obj)(h1:o1= .cells #[.int .i64 0,.int .i64 0,.int .u64 0,.int .u64 0,.slice none 0 0,.slice none 0 0] 138)(h2:o2= .cells #[.int .i64 0] 28):D2 w ((w.alloc o1).alloc o2):=by
 subst h1 h2;refine⟨(UO w _ _ _ _ _ _).next (bal (Lb _ _) _),?_,bal (bal (Lb _ _) _) _⟩
 have:=LC (w.alloc (.cells #[.int .i64 0,.int .i64 0,.int .u64 0,.int .u64 0,.slice none 0 0,.slice none 0 0] 138)) (.cells #[.int .i64 0] 28);rw[Ng] at this;exact this
theorem Qgk(w:World)(s:BA)(hs:s.size<=281474976710656) :
  Calls prog 135 #[.string s] w (DecQ w s):=by
 have xP:∀(fn:Fn) (first cap:Array Value) (w:World),(Instr.makeFunc fn first cap).run prog w= .ok (.func fn first cap) w:=fun _ _ _ _=>rfl
 have K0:=Qpj w _ _ rfl rfl;obtain⟨W0,xD⟩:=Ze ((w.alloc (.cells #[.int .i64 0,.int .i64 0,.int .u64 0,.int .u64 0,.slice none 0 0,.slice none 0 0] 138)).alloc (.cells #[.int .i64 0] 28));have xM:W0.heap.size=w.heap.size+2:=by rw[<-xD];simp
 rw[xD] at K0;have HW:=Qk3 W0 s;have HP:=Qi4 (W0.alloc (.cells #[.string s,.int .i64 0] 374)) W0.heap.size s (QnW W0 s _) hs;have xE:(W0.alloc (.cells #[.string s,.int .i64 0] 374)).heap.size=W0.heap.size+1:=Ng _ _;have xJ:=bal (Lb W0.heap.size W0) (.cells #[.string s,.int .i64 0] 374);have HK:Hid (∀w2,Ch W0.heap.size (W0.alloc (.cells #[.string s,.int .i64 0] 374)) w2->D2 w w2):=fun w2 hc=>K0.next (fun b hb=>(hc.block b (by omega) (by omega)).trans (xJ.block b (by omega))) ((K0.below.trans (xJ.mono (by omega))).trans (hc.below.mono (by omega)))
 have HZ:Hid (w.heap.size<=(W0.alloc (.cells #[.string s,.int .i64 0] 374)).heap.size):=(by rw[xE];omega:w.heap.size<=(W0.alloc (.cells #[.string s,.int .i64 0] 374)).heap.size)
 clear K0 xM hs xJ xE;obtain⟨W1,xK⟩:=Ze (W0.alloc (.cells #[.string s,.int .i64 0] 374));rw[xK] at HW HP HK HZ;clear xK;obtain⟨q,hq⟩:=Ze W0.heap.size;rw[hq] at HW HP HK;clear hq
 cases hd:dec s.data.toList with
 | none=>
  have xF:Calls prog 222 #[Pq q] W1 fun e w'=>(∃u v,e= .panicked [{ v := .iface u v,recovered:=false }])∧Ch q W1 w':=HP.mono fun e w' h=>by
   rcases h with ⟨P,_,_,h,_⟩|⟨_,h1,h2⟩
   ·rw[hd] at h;cases h
   ·exact⟨h1,h2⟩
  clear HP
  go_enter_defers func135,ntmps135
  go_upto_region 2 with (fail)
  try rw[xD]
  clear xD
  go_wp2_with (first
   | (go_at_call 223;with_reducible refine HW.mono ?_;rintro x w1 ⟨rfl,rfl⟩)
   | (go_at_call 222;with_reducible refine xF.mono ?_;rintro x w2 ⟨⟨u,v,rfl⟩,hc⟩))
  refine leaves_cons (f:=221) (args:=#[Pq w.heap.size,.pointer (some ⟨w.heap.size+1,0,none⟩)]) (by simp) (by simp[go_sem]) ?_
  have K:=HK.out _ hc;refine(Qbj _ _ u v [] _ K.six K.er (by omega)).mono ?_
  rintro e u' xO ⟨rfl,rfl,rfl⟩;have h6:=K.six.put (.int .i64 0) (.int .i64 0) (.int .u64 0) (.int .u64 0) (.slice none 0 0) (.slice none 0 0);have kc:=Ua w2 w.heap.size (.int .i64 0) (.int .i64 0) (.int .u64 0) (.int .u64 0) (.slice none 0 0) (.slice none 0 0);have ke:=(K.er.same (kc.block _ (by show ¬_=_;omega))).set 140
  have xH:Bl w (Yl w2 w.heap.size (.int .i64 0) (.int .i64 0) (.int .u64 0) (.int .u64 0) (.slice none 0 0) (.slice none 0 0)):=K.below.trans (kc.below (by rintro b rfl;exact La _))
  have xI:=xH.setCell (p:=⟨w.heap.size+1,0,none⟩) (by show w.heap.size<=w.heap.size+1;omega) (.int .i64 140)
  have xG:=h6.same (W:=(Yl w2 w.heap.size (.int .i64 0) (.int .i64 0) (.int .u64 0) (.int .u64 0) (.slice none 0 0) (.slice none 0 0)).setCell ⟨w.heap.size+1,0,none⟩ (.int .i64 140)) (Below.heap_setCell _ _ _ _ (by show w.heap.size≠w.heap.size+1;omega))
  obtain⟨s0,s1,s2,s3,s4,s5⟩:=xG.cells;have t0:=ke.cell;have HF:Hid (DecQ w s (.returned (.tuple #[noP,.int .i64 140])) ((Yl w2 w.heap.size (.int .i64 0) (.int .i64 0) (.int .u64 0) (.int .u64 0) (.slice none 0 0) (.slice none 0 0)).setCell ⟨w.heap.size+1,0,none⟩ (.int .i64 140))) := .inr ⟨hd,rfl,xI⟩;generalize (Yl w2 w.heap.size (.int .i64 0) (.int .i64 0) (.int .u64 0) (.int .u64 0) (.slice none 0 0) (.slice none 0 0)).setCell ⟨w.heap.size+1,0,none⟩ (.int .i64 140)=F at *;simp[Leaves,settle,results,results135,go_sem,s0,s1,s2,s3,s4,s5,t0];exact HF.out
 | some P=>
  have xF:Calls prog 222 #[Pq q] W1 fun e w'=> ∃sv dv,e= .returned (pv6 P.kd P.k P.old P.size sv dv)∧Cv.Own w' W1.heap.size sv P.S∧Qh w' W1.heap.size dv P.D∧Ch q W1 w':=HP.mono fun e w' h=>by
   rcases h with ⟨P',sv,dv,h,h2⟩|⟨h,_⟩
   ·rw[hd] at h;cases h;exact⟨sv,dv,h2⟩
   ·rw[hd] at h;cases h
  clear HP;obtain⟨kd,k,xC,xA,S,D⟩:=P;simp only at xF;have HD:=QU hd;clear hd
  go_enter_defers func135,ntmps135
  go_upto_region 2 with (fail)
  try rw[xD]
  clear xD
  go_wp2_with (first
   | (go_at_call 223;with_reducible refine HW.mono ?_;rintro x w1 ⟨rfl,rfl⟩)
   | (go_at_call 222;(with_reducible refine xF.mono ?_);rintro x w2 ⟨sv,dv,rfl,o1,o2,hc⟩;(obtain⟨ao,m,c,rfl⟩:=Cv.Qu o1);(obtain⟨xB,m2,c2,rfl⟩:=Cv.Qu o2);(have K:=HK.out _ hc);(obtain⟨e0,e1,e2,e3,e4,e5⟩:=K.six.cells);(have f0:=K.six.fz);(have kc:=Ua w2 w.heap.size (.int .i64 kd) (.int .i64 k) (.int .u64 xC) (.int .u64 xA) (.slice ao m c) (.slice xB m2 c2));(have ke:=K.er.same (kc.block _ (by show ¬_=_;omega)));(have k0:=ke.cell);(have k1:=ke.fz);(unfold Yl at k0 k1);(have HH:Hid (Cv.Own w2 w1.heap.size (.slice ao m c) S∧Qh w2 w1.heap.size (.slice xB m2 c2) D∧D2 w w2):=⟨o1,o2,K⟩);clear o1 o2 hc K kc ke))
  refine leaves_cons (f:=221) (args:=#[Pq w.heap.size,.pointer (some ⟨w.heap.size+1,0,none⟩)]) (by simp) (by simp[go_sem]) ?_
  refine(Qgf _ _ _).mono ?_
  rintro e u' xO ⟨rfl,rfl,rfl⟩;obtain⟨o1,o2,K⟩:=HH.out;have h6:=K.six.put (.int .i64 kd) (.int .i64 k) (.int .u64 xC) (.int .u64 xA) (.slice ao m c) (.slice xB m2 c2);have kc:=Ua w2 w.heap.size (.int .i64 kd) (.int .i64 k) (.int .u64 xC) (.int .u64 xA) (.slice ao m c) (.slice xB m2 c2);have xN:=K.er.same (kc.block _ (by show ¬_=_;omega))
  have ke:=xN.set 0;have xH:Bl w (Yl w2 w.heap.size (.int .i64 kd) (.int .i64 k) (.int .u64 xC) (.int .u64 xA) (.slice ao m c) (.slice xB m2 c2)):=K.below.trans (kc.below (by rintro b rfl;exact La _))
  have xI:=xH.setCell (p:=⟨w.heap.size+1,0,none⟩) (by show w.heap.size<=w.heap.size+1;omega) (.int .i64 0)
  have xG:=h6.same (W:=(Yl w2 w.heap.size (.int .i64 kd) (.int .i64 k) (.int .u64 xC) (.int .u64 xA) (.slice ao m c) (.slice xB m2 c2)).setCell ⟨w.heap.size+1,0,none⟩ (.int .i64 0)) (Below.heap_setCell _ _ _ _ (by show w.heap.size≠w.heap.size+1;omega))
  have xL:∀ {e n:Nat} {v:Value} {xs:List Value},w2.ownsRow w1.heap.size e 1 v n xs->e≠138->e≠28->((Yl w2 w.heap.size (.int .i64 kd) (.int .i64 k) (.int .u64 xC) (.int .u64 xA) (.slice ao m c) (.slice xB m2 c2)).setCell ⟨w.heap.size+1,0,none⟩ (.int .i64 0)).ownsRow w.heap.size e 1 v n xs:=fun {e n v xs} ho h1 h2=>by
   refine Qr (ho.mono HZ.out) fun g hg _=> ?_
   have n1:=YP ho K.six h1 g hg;have n2:g≠w.heap.size+1:=by
    rintro rfl
    rcases ho.2 with ⟨rfl,_⟩|⟨g',cap,cur,rfl,_,hh,_⟩
    ·cases hg
    ·cases hg;have:=K.er;rw[Er,hh] at this;injection this with this
     injection this with _ e2 _
     exact h2 e2
   rw[Below.heap_setCell _ _ _ _ (by show g≠w.heap.size+1;exact n2)]
   exact kc.block g n1
  obtain⟨s0,s1,s2,s3,s4,s5⟩:=xG.cells;have t0:=ke.cell;have HF:Hid (DecQ w s (.returned (.tuple #[pv6 kd k xC xA (.slice ao m c) (.slice xB m2 c2),.int .i64 0])) ((Yl w2 w.heap.size (.int .i64 kd) (.int .i64 k) (.int .u64 xC) (.int .u64 xA) (.slice ao m c) (.slice xB m2 c2)).setCell ⟨w.heap.size+1,0,none⟩ (.int .i64 0))) := .inl ⟨_,_,_,HD.out,rfl,xL o1 (by decide) (by decide),xL o2 (by decide) (by decide),xI⟩
  unfold Yl at HF s0 s1 s2 s3 s4 s5 t0;simp[Leaves,settle,results,results135,go_sem,s0,s1,s2,s3,s4,s5,t0];exact HF.out
end Go.Proofs.YtoblgjledefdbaaGreatDoor
