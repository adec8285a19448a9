/- Own work. -/
import Derived.Conc.MuLone
import Derived.Test.YtoblgjledefdbaaGreatDoorQm24
import Derived.Test.YtoblgjledefdbaaGreatDoorQm27
set_option maxRecDepth 100000
set_option maxHeartbeats 1600000
namespace Go.Proofs.YtoblgjledefdbaaGreatDoor
open Go.RowKit
open Go.Proofs.Tryz
namespace St
open Rc
theorem Jr:nmI≠nmN:=by decide
theorem Oc:nmI≠nmM:=by decide
theorem OQ:nmN≠nmM:=by decide
def Oth(L:List (List UInt8×FV)):Prop := ∀s,s≠nmI->s≠nmN->s≠nmM->Qe L s=fz
theorem Qjm{L:List (List UInt8×FV)}(ho:Ord L)(h:Oth L):L=QW (QW (QW [] nmI (Qe L nmI)) nmN (Qe L nmN)) nmM (Qe L nmM):=by
 have o1:=YI Ul nmI (Qe L nmI);have o2:=YI o1 nmN (Qe L nmN);refine Qmy ho (YI o2 nmM (Qe L nmM)) fun s => ?_
 rw[QP o2,QP o1,QP Ul]
 by_cases h1:s=nmM
 ·rw[Lk h1,h1]
 ·rw[Le h1]
  by_cases h2:s=nmN
  ·rw[Lk h2,h2]
  ·rw[Le h2]
   by_cases h3:s=nmI
   ·rw[Lk h3,h3]
   ·rw[Le h3,h s h3 h2 h1];rfl
theorem JZ{L:List (List UInt8×FV)}(ho:Ord L)(h:Oth L):tot L=(Qe L nmI).now.length+(Qe L nmN).now.length+(Qe L nmM).now.length∧L.length<=3:=by
 have e:=Qjm ho h;have o1:=YI Ul nmI (Qe L nmI);have o2:=YI o1 nmN (Qe L nmN);have t1:=Qaf Ul nmI (Qe L nmI);have t2:=Qaf o1 nmN (Qe L nmN);have t3:=Qaf o2 nmM (Qe L nmM);rw[QP Ul,Le Jr.symm] at t2;rw[QP o1,Le OQ.symm,QP Ul,Le Oc.symm] at t3;have z:(Qe ([]:List (List UInt8×FV)) nmI).now.length=0:=rfl;have z2:(Qe ([]:List (List UInt8×FV)) nmN).now.length=0:=rfl;have z3:(Qe ([]:List (List UInt8×FV)) nmM).now.length=0:=rfl;have z4:tot []=0:=rfl;have l1:=U4 (L:=[]) nmI (Qe L nmI);have l2:=U4 (L:=QW [] nmI (Qe L nmI)) nmN (Qe L nmN);have l3:=U4 (L:=QW (QW [] nmI (Qe L nmI)) nmN (Qe L nmN)) nmM (Qe L nmM);rw[<-e] at t3 l3;simp only[List.length_nil] at l1;exact⟨by omega,by omega⟩
structure Qt(R:Nat)(D:DV):Prop where
 down:D.down=false
 fk:D.fk=0
 ord:Ord D.L
 tot:D.free+tot D.L=R
theorem Qt.put{R:Nat}{D:DV}(h:Qt R D)(s:List UInt8)(f:FV)(hf:f.now.length<=D.free+(Qe D.L s).now.length):Ui D s f=(Q9 { D with acts:=D.acts+1 } s f,0)∧Qt R (Q9 { D with acts:=D.acts+1 } s f):=by
 refine⟨Qft h.fk s f,h.down,h.fk,YI h.ord s f,?_⟩
 have:=Qaf h.ord s f;have:=h.tot
 show D.free+(Qe D.L s).now.length - f.now.length+Go.Proofs.YtoblgjledefdbaaGreatDoor.St.tot (QW D.L s f)=R
 omega
structure Lft(R:Nat)(D D':DV)(s:List UInt8)(f:FV)(n:Nat):Prop where
 qt:Qt R D'
 at_:Qe D'.L s=f
 oth : ∀t,t≠s->Qe D'.L t=Qe D.L t
 acts:D'.acts=D.acts+n
theorem Qt.act{R:Nat}{D:DV}(h:Qt R D)(s:List UInt8)(f:FV)(hf:f.now.length<=D.free+(Qe D.L s).now.length) : ∃D',Ui D s f=(D',0)∧Lft R D D' s f 1:=by
 obtain⟨h1,h2⟩:=h.put s f hf;refine⟨_,h1,h2,?_,fun t ht => ?_,rfl⟩
 ·show Qe (QW D.L s f) s=f
  rw[QP h.ord,Lk rfl]
 ·show Qe (QW D.L s f) t=_
  rw[QP h.ord,Le ht]
theorem Qt.syn{R:Nat}{D:DV}(h:Qt R D)(s:List UInt8) : ∃D',Q1 D s=(D',0)∧Lft R D D' s ⟨(Qe D.L s).now,(Qe D.L s).now⟩ 1:=by
 unfold Q1;rw[Le (by rw[h.down];exact Nq)]
 exact h.act s _ (by show(Qe D.L s).now.length<=_;omega)
theorem QoR(l t:List UInt8):wr l l.length t=l++t:=by simp[wr]
theorem Qt.wr{R:Nat}{D:DV}(h:Qt R D)(s t:List UInt8)(n:Nat)(hn:(Qe D.L s).now.length=n)(h1:n+t.length<=268435456)(h2:t.length<=D.free) : ∃D',wrD D s (n:Int) t=(D',0)∧Lft R D D' s ⟨(Qe D.L s).now++t,(Qe D.L s).syn⟩ 1:=by
 unfold wrD;rw[Le (by rw[h.down];exact Nq),Le (by omega),Le (by omega)]
 have:=h.act s ⟨(Qe D.L s).now++t,(Qe D.L s).syn⟩ (by show((Qe D.L s).now++t).length<=_;rw[Lc];omega)
 rwa [LM,<-hn,QoR]
theorem Qt.cutI{R:Nat}{D:DV}(h:Qt R D)(s P:List UInt8)(hP:P <+: (Qe D.L s).now)(n:Nat)(hn:P.length=n) : ∃D' j,cutI s n D=(D',0)∧Lft R D D' s ⟨P,(Qe D.L s).syn⟩ j∧j<=1∧((Qe D.L s).now=P->D'=D):=by
 unfold Go.Proofs.YtoblgjledefdbaaGreatDoor.St.cutI;have hs:JD D s=(Qe D.L s).now.length:=by unfold JD;rw[h.down];rfl
 have hl:=hP.length_le;rw[hs]
 by_cases he:(Qe D.L s).now.length<=n
 ·rw[Lk he];have e:(Qe D.L s).now=P:=(List.IsPrefix.eq_of_length hP (by omega)).symm
  exact⟨D,0,rfl,⟨h,by rw[<-e],fun _ _=>rfl,rfl⟩,by omega,fun _=>rfl⟩
 ·rw[Le he];unfold Jg;rw[Le (by rw[h.down];exact Nq),Le (by omega)]
  have ht:(Qe D.L s).now.take n=P:=by rw[<-hn];exact(List.prefix_iff_eq_take.1 hP).symm
  obtain⟨D',h1,h2⟩:=h.act s ⟨(Qe D.L s).now.take n,(Qe D.L s).syn⟩ (by show(List.take n _).length<=_;rw[Lz];omega)
  rw[LM,h1];rw[ht] at h2;exact⟨D',1,rfl,h2,La _,fun e=>absurd (by rw[e,hn];exact La _) he⟩
structure Ext(k:Nat)(A:List It)(L:List (List UInt8×FV)):Prop where
 i:Qe L nmI=⟨(bA k A).a,(bA k A).a⟩
 n:Qe L nmN=⟨(bA k A).b,(bA k A).b⟩
 m:Qe L nmM=⟨(bA k A).m,(bA k A).m⟩
 oth:Oth L
theorem Ext.one{k:Nat}{A:List It}{L M:List (List UInt8×FV)}(hL:Ord L)(hM:Ord M)(h:Ext k A L)(g:Ext k A M):L=M:=by
 rw[Qjm hL h.oth,Qjm hM g.oth,h.i,h.n,h.m,g.i,g.n,g.m]
theorem QnL{k R:Nat}{A:List It}{x:It}{D:DV}(h:OkA k (A++[x]))(hq:Qt R D)(he:Ext k A D.L)(hR:(bA k (A++[x])).a.length+(bA k (A++[x])).b.length+(bA k (A++[x])).m.length<=R)(hz:R<=268435456) :
  ∃D',addD D (sA k A) x.1 x.2=(D',sA k (A++[x]),0)∧Qt R D'∧Ext k (A++[x]) D'.L∧D'.acts=D.acts+6:=by
 have l:=h.init.lens;have l2:=h.lens;have hx:=h.last;have hf:=h.few;simp only[List.length_append,List.length_cons,List.length_nil,Nat.zero_add] at hf;have ea:(bA k (A++[x])).a=(bA k A).a++pay x.1:=by rw[Yl];rfl
 have eb:(bA k (A++[x])).b=(bA k A).b++Rc.Qk (Q5 (nn A.length) x.2):=by rw[Yl,<-l.ends];rfl
 have em:(bA k (A++[x])).m=(bA k A).m++mrk ((bA k A).mk' k x):=by rw[Yl];rfl
 have et:=(JZ hq.ord he.oth).1;rw[he.i,he.n,he.m] at et;have xF:=hq.tot;have xC:(bA k (A++[x])).a.length=(bA k A).a.length+(pay x.1).length:=by rw[ea,Lc]
 have xD:(bA k (A++[x])).b.length=(bA k A).b.length+(Rc.Qk (Q5 (nn A.length) x.2)).length:=by rw[eb,Lc]
 have xE:(bA k (A++[x])).m.length=(bA k A).m.length+(mrk ((bA k A).mk' k x)).length:=by rw[em,Lc]
 simp only at et
 -- the six acts
 obtain⟨D1,a1,l1⟩:=hq.wr nmI (pay x.1) (bA k A).a.length (by rw[he.i]) (by omega) (by omega)
 rw[he.i] at l1;have t1:=(JZ l1.qt.ord (fun s h1 h2 h3=>by rw[l1.oth s h1];exact he.oth s h1 h2 h3)).1
 rw[l1.at_,l1.oth _ Jr.symm,l1.oth _ Oc.symm,he.n,he.m] at t1;have q1:=l1.qt.tot;simp only[List.length_append] at t1;obtain⟨D2,a2,xA⟩:=l1.qt.wr nmN (Rc.Qk (Q5 (nn A.length) x.2)) (bA k A).b.length (by rw[l1.oth _ Jr.symm,he.n]) (by omega) (by omega)
 rw[l1.oth _ Jr.symm,he.n] at xA;obtain⟨D3,a3,l3⟩:=xA.qt.syn nmI;rw[xA.oth _ Jr,l1.at_] at l3;obtain⟨D4,a4,l4⟩:=l3.qt.syn nmN;rw[l3.oth _ Jr.symm,xA.at_] at l4;have m4:Qe D4.L nmM=⟨(bA k A).m,(bA k A).m⟩:=by rw[l4.oth _ OQ.symm,l3.oth _ Oc.symm,xA.oth _ OQ.symm,l1.oth _ Oc.symm,he.m]
 have i4:Qe D4.L nmI=⟨(bA k A).a++pay x.1,(bA k A).a++pay x.1⟩:=by rw[l4.oth _ Jr,l3.at_]
 have o4:Oth D4.L:=fun s h1 h2 h3=>by rw[l4.oth s h2,l3.oth s h1,xA.oth s h2,l1.oth s h1];exact he.oth s h1 h2 h3
 have t4:=(JZ l4.qt.ord o4).1;rw[i4,l4.at_,m4] at t4;have q4:=l4.qt.tot;simp only[List.length_append] at t4;obtain⟨D5,a5,l5⟩:=l4.qt.wr nmM (mrk ((bA k A).mk' k x)) (bA k A).m.length (by rw[m4]) (by omega) (by omega)
 rw[m4] at l5;obtain⟨D6,a6,l6⟩:=l5.qt.syn nmM;rw[l5.at_] at l6;have hA:Qz (addA (sA k A) x.1 x.2) D=(D6,0):=by
  show Qz (six (sA k A) (pay x.1) (Rc.Qk (Q5 (nn (bA k A).ends.length) x.2)) (mrk ((bA k A).mk' k x))) D=_
  unfold six;have e1:((lst (sA k A).ends:Nat):Int)=((bA k A).a.length:Int):=by show((lst (bA k A).ends:Nat):Int)=_;rw[l.lst]
  have e2:((nn (sA k A).ends.length*40:Nat):Int)=((bA k A).b.length:Int):=by show((nn (bA k A).ends.length*40:Nat):Int)=_;rw[l.ends,l.b,LG]
  have e3:(((sA k A).ends.length*64:Nat):Int)=((bA k A).m.length:Int):=by show(((bA k A).ends.length*64:Nat):Int)=_;rw[l.ends,l.m,LG]
  rw[e1,e2,e3,l.ends];simp only[Qz,a1,a2,a3,a4,a5,a6,if_true]
 have hr:refD (sA k A) x.1 x.2=0:=by
  have xB:nxt (sA k A) x.2=true:=(Qdt _ _).2 ⟨by show _=nn ((bA k A).ends.length+1) - nn (bA k A).ends.length;rw[l.ends];exact hx.cnt,hx.sz⟩
  unfold refD;rw[Le (show ¬(sA k A).lame=true from Nq),Le (by have:=hx.len;omega),Le (by show ¬65536<=(bA k A).ends.length;rw[l.ends];omega),Le (by rw[xB];simp),Le (by show ¬_<lst (bA k A).ends+_;have:=pay_len x.1;rw[l.lst];omega)]
 refine⟨D6,?_,l6.qt,⟨?_,?_,?_,?_⟩,?_⟩
 ·unfold addD;rw[hr,Le (show ¬((0:Int)≠0) from fun h=>h rfl),hA,Lk rfl]
  show(D6,(⟨k,(bA k A).ends++[((bA k A).mk' k x).items],((bA k A).mk' k x).chain,false⟩:SV),(0:Int))=_
  unfold sA;rw[Yl];rfl
 ·rw[l6.oth _ Oc,l5.oth _ Oc,i4,ea]
 ·rw[l6.oth _ OQ,l5.oth _ OQ,l4.at_,eb]
 ·rw[l6.at_,em]
 ·intro s h1 h2 h3;rw[l6.oth s h3,l5.oth s h3];exact o4 s h1 h2 h3
 ·rw[l6.acts,l5.acts,l4.acts,l3.acts,xA.acts,l1.acts]
structure Beh(k:Nat)(A:List It)(L:List (List UInt8×FV)):Prop where
 i:(bA k A).a <+: (Qe L nmI).now
 n:(bA k A).b <+: (Qe L nmN).now
 m : ∃t,(Qe L nmM).now=(bA k A).m++t∧(t.length<64∨t=zer 64)
 oth:Oth L
theorem Ext.beh{k:Nat}{A:List It}{L:List (List UInt8×FV)}(h:Ext k A L):Beh k A L:=⟨by rw[h.i];exact Iu,by rw[h.n];exact Iu,⟨[],by rw[h.m,LS],.inl (by decide)⟩,h.oth⟩
theorem Beh.read{k:Nat}{A:List It}{D:DV}(h:OkA k A)(hb:Beh k A D.L):Oe k (now D nmI) (now D nmN) (now D nmM)=some ((bA k A).ends,(bA k A).chain):=by
 obtain⟨t,e,ht⟩:=hb.m;have e2:now D nmM=(bA k A).m++t:=e;rw[e2];exact Qgz h hb.i hb.n ht
theorem Qhb{k R:Nat}{A:List It}{D:DV}(h:OkA k A)(hq:Qt R D)(hb:Beh k A D.L) :
  ∃D' j,YX D (k:Int)=(D',some (sA k A),0)∧Qt R D'∧Ext k A D'.L∧D'.acts=D.acts+3+j∧j<=3∧(Ext k A D.L->D'.L=D.L∧j=0):=by
 have l:=h.lens;have hr:=hb.read h;have k1:=h.k1;have k2:=h.k2;obtain⟨D1,j1,a1,l1,n1,s1⟩:=hq.cutI nmI _ hb.i (lst (bA k A).ends) l.lst.symm;obtain⟨D2,j2,a2,l2,n2,s2⟩:=l1.qt.cutI nmN (bA k A).b (by rw[l1.oth _ Jr.symm];exact hb.n) (nn (bA k A).ends.length*40) (by rw[l.b,l.ends,LG])
 obtain⟨D3,j3,a3,l3,n3,s3⟩:=l2.qt.cutI nmM (bA k A).m (by obtain⟨t,e,_⟩:=hb.m;rw[l2.oth _ OQ.symm,l1.oth _ Oc.symm,e];exact NR _ _) ((bA k A).ends.length*64) (by rw[l.m,l.ends,LG])
 obtain⟨D4,a4,l4⟩:=l3.qt.syn nmI;obtain⟨D5,a5,l5⟩:=l4.qt.syn nmN;obtain⟨D6,a6,l6⟩:=l5.qt.syn nmM;have hA:Qz (stl (bA k A).ends) D=(D6,0):=by
  unfold stl;simp only[Qz,a1,a2,a3,a4,a5,a6,if_true]
 have hE:Ext k A D6.L:=by
  refine⟨?_,?_,?_,fun s h1 h2 h3 => ?_⟩
  ·rw[l6.oth _ Oc,l5.oth _ Jr,l4.at_,l3.oth _ Oc,l2.oth _ Jr,l1.at_]
  ·rw[l6.oth _ OQ,l5.at_,l4.oth _ Jr.symm,l3.oth _ OQ,l2.at_]
  ·rw[l6.at_,l5.oth _ OQ.symm,l4.oth _ Oc.symm,l3.at_]
  ·rw[l6.oth s h3,l5.oth s h2,l4.oth s h1,l3.oth s h3,l2.oth s h2,l1.oth s h1];exact hb.oth s h1 h2 h3
 refine⟨D6,j1+j2+j3,?_,l6.qt,hE,?_,by omega,fun he => ?_⟩
 ·unfold YX;rw[Le (fun q=>q ⟨by omega,by omega⟩),Le (by rw[hq.down];exact Nq),LM,hr]
  simp only;rw[hA,Lk rfl];rfl
 ·rw[l6.acts,l5.acts,l4.acts,l3.acts,l2.acts,l1.acts];omega
 ·refine⟨Ext.one l6.qt.ord hq.ord hE he,?_⟩
  have e1:=s1 (by rw[he.i])
  subst e1;have e2:=s2 (by rw[he.n])
  subst e2;have e3:=s3 (by rw[he.m])
  subst e3;have b1:=l1.acts;have b2:=l2.acts;have b3:=l3.acts;omega
theorem QlW{k:Nat}{A:List It}(h:OkA k A)(i:Nat)(x:It)(hx:A[i]? = some x):(bA k A).ends.getD i 0=(bA k (A.take i)).a.length+(x.1.length+8)∧UK (bA k A).ends i=(bA k (A.take i)).a.length∧pay x.1 <+: (bA k A).a.drop (bA k (A.take i)).a.length:=by
 revert h hx
 refine U6 (P:=fun A=>OkA k A->A[i]? = some x->(bA k A).ends.getD i 0=(bA k (A.take i)).a.length+(x.1.length+8)∧UK (bA k A).ends i=(bA k (A.take i)).a.length∧pay x.1 <+: (bA k A).a.drop (bA k (A.take i)).a.length) (fun _ h=>by simp at h) (fun A y ih h hx => ?_) A
 have l:=h.init.lens
 by_cases hi:i<A.length
 ·rw[Ly hi] at hx;obtain⟨h1,h2,h3⟩:=ih h.init hx;have et:(A++[y]).take i=A.take i:=by rw[Lt (by omega)]
  rw[et,Yl]
  show((bA k A).ends++[((bA k A).mk' k y).items]).getD i 0=_∧UK ((bA k A).ends++[((bA k A).mk' k y).items]) i=_∧pay x.1 <+: ((bA k A).a++pay y.1).drop _
  refine⟨?_,?_,?_⟩
  ·rw[<-h1,Ld,Ld,Ly (by rw[l.ends];exact hi)]
  ·rw[<-h2];unfold UK
   split
   ·rfl
   ·rw[Ld,Ld,Ly (by rw[l.ends];omega)]
  ·obtain⟨t,ht⟩:=h3;refine⟨t++pay y.1,?_⟩
   rw[LI ((QaT k A i).1.length_le),<-ht,Lq]
 ·have hl:=(List.getElem?_eq_some_iff.1 hx).1
  obtain rfl:i=A.length:=by simp at hl;omega
  simp only[List.getElem?_concat_length,Option.some.injEq] at hx
  subst hx;have et:(A++[y]).take A.length=A:=Wd;rw[et,Yl]
  show((bA k A).ends++[((bA k A).mk' k y).items]).getD A.length 0=_∧UK ((bA k A).ends++[((bA k A).mk' k y).items]) A.length=_∧pay y.1 <+: ((bA k A).a++pay y.1).drop _
  refine⟨?_,?_,?_⟩
  ·rw[Ld,<-l.ends,Ic]
   show lst (bA k A).ends+(pay y.1).length=_
   rw[l.lst,pay_len]
  ·rw[<-l.lst,<-Qbm,l.ends];unfold UK
   split
   ·rfl
   ·rw[Ld,Ld,Ly (by rw[l.ends];omega)]
  ·rw[ID];exact Iu
theorem Ql8{k:Nat}{A:List It}{D:DV}{S:SV}(h:OkA k A)(hS:S.ends=(bA k A).ends)(hd:D.down=false)(hb:(bA k A).a <+: (Qe D.L nmI).now)(i:Nat)(x:It)(hx:A[i]? = some x):YS D S i=(x.1,0):=by
 obtain⟨e1,e2,e3⟩:=QlW h i x hx;have l:=h.lens;have hi:=(List.getElem?_eq_some_iff.1 hx).1
 have xA:=(h.it i x hx).len;have ht:=(QaT k A i).1.length_le;obtain⟨t3,e3⟩:=e3;obtain⟨tb,hb⟩:=hb;have xB:(now D nmI).length=(bA k A).a.length+tb.length:=by show(Qe D.L nmI).now.length=_;rw[<-hb,Lc]
 have xC:(bA k A).a.length=(bA k (A.take i)).a.length+((x.1.length+8)+t3.length):=by
  have:=Lw List.length e3;rw[Lc,pay_len,Nb] at this;omega
 have hR:OK D S i=(pay x.1,0):=by
  unfold OK;rw[hS,e1,e2];rw[show(((bA k (A.take i)).a.length+(x.1.length+8):Nat):Int) - ((bA k (A.take i)).a.length:Int)=((x.1.length+8:Nat):Int) by omega,O0 hd,Lk (by rw[xB];omega)]
  congr 1
  show((Qe D.L nmI).now.drop _).take _=_
  rw[<-hb,LI (by omega),<-e3,Lq]
  rw[Lt (by rw[pay_len];exact La _),Lo (by rw[pay_len];exact La _)]
 unfold YS;rw[hR,Le (by rw[hS,l.ends];omega),Le (fun h=>h rfl),Lk (QhD _ xA)]
 have:=Qe9 x.1 [] xA;rw[LS] at this;rw[this];rfl
theorem Ql7{D:DV}{S:SV}(i:Nat)(h:S.ends.length<=i):YS D S i=([],31):=by unfold YS;rw[Lk h]
theorem Qkl{m n:Nat}(h:m<=n)(hn:n<=65536):nn m<=nn n:=by
 induction n with
 | zero => obtain rfl : m = 0:=by omega
           exact La _
 | succ n ih =>
  by_cases e:m=n+1
  ·rw[e];exact La _
  ·exact Lu (ih (by omega) (by omega)) (Uk n (by omega)).1
theorem QmT{k:Nat}{A:List It}(h:OkA k A)(i j:Nat)(x:It)(d:BA)(hx:A[i]? = some x)(hd:x.2[j]? = some d):((bA k A).b.drop (40*(nn i+j))).take 40=nod (nn i+j) d.data.toList∧nn i+j<nn A.length:=by
 have hi:=(List.getElem?_eq_some_iff.1 hx).1
 have hj:=(List.getElem?_eq_some_iff.1 hd).1
 have xA:=h.it i x hx;have hf:=h.few;have e:=QcY A i hi;have ht:=h.take (i+1);have xB:A[i]=x:=Ns ((Lh hi).symm.trans hx);rw[xB] at e;rw[e] at ht;have l:=ht.init.lens;have hl:(A.take i).length=i:=by rw[Lz];omega
 obtain⟨t,hp⟩:=(QaT k A (i+1)).2.1;rw[e,Yl] at hp;have hm:=Uk i (by omega)
 have xC:=Qkl (show i+1<=A.length by omega) hf
 have hc:=xA.cnt;refine⟨?_,by omega⟩
 rw[<-hp]
 show((((bA k (A.take i)).b++Rc.Qk (Q5 (nn (bA k (A.take i)).ends.length) x.2))++t).drop _).take 40=_
 rw[Lq,show 40*(nn i+j)=(bA k (A.take i)).b.length+40*j by rw[l.b,hl];omega,<-IB,ID,l.ends,hl]
 exact Qep (nn i) x.2 t (fun y hy=>by rw[xA.sz y hy];exact h.k2) j d hd
theorem Qmq{k:Nat}{A:List It}{D:DV}{S:SV}(h:OkA k A)(hS:S.ends=(bA k A).ends)(hk:S.k=k)(hd:D.down=false)(hb:(bA k A).b <+: (Qe D.L nmN).now)(i j:Nat)(x:It)(d:BA)(hx:A[i]? = some x)(hj:x.2[j]? = some d):Om D S (nn i+j)=(d.data.toList,0):=by
 obtain⟨e1,e2⟩:=QmT h i j x d hx hj;have l:=h.lens;obtain⟨t,hb⟩:=hb;have xB:(now D nmN).length=40*nn A.length+t.length:=by show(Qe D.L nmN).now.length=_;rw[<-hb,Lc,l.b]
 have xA:d.size=k:=(h.it i x hx).sz d (NX hj);have hR:nodR D (nn i+j)=(nod (nn i+j) d.data.toList,0):=by
  unfold nodR;rw[show(40:Int)=((40:Nat):Int) from rfl,O0 hd,Lk (by rw[xB];omega)]
  congr 1
  show((Qe D.L nmN).now.drop _).take _=_
  rw[<-hb,LG,<-e1,LI (by rw[l.b];omega),Lt (by rw[Nb,l.b];omega)]
 unfold Om;rw[hR,Le (by rw[hS,l.ends];omega),Le (fun h=>h rfl),hk]
 have:=Qe7 (nn i+j) d.data.toList (by rw[Qb,xA];exact h.k2)
 rw[Qb,xA] at this;rw[this]
end St
theorem QnF(n:Nat)(h:n<=65536):St.nn (n+1)=St.nn n+(Pl.trl 40 n+1):=by
 obtain⟨h1,h2⟩:=Qfn 40 n (by omega)
 unfold St.nn;rw[St.Pl.new_N _ n h1 h2 (by omega)]
 omega
def itL(c:Nat)(L:LB):List St.It:=(List.range L.length).map fun i=>((L.getD i ByteArray.empty).data.toList,mdL c (L.take i) (L.getD i ByteArray.empty))
theorem JP(c:Nat)(L:LB):(itL c L).length=L.length:=by simp[itL]
theorem Qew(c:Nat)(L:LB)(x:BA):itL c (L++[x])=itL c L++[(x.data.toList,mdL c L x)]:=by
 simp only[itL,List.length_append,List.length_cons,List.length_nil,Nat.zero_add,List.range_succ,List.map_append,List.map_cons,List.map_nil]
 congr 1
 ·refine NA fun i hi => ?_
  have hi:=List.mem_range.1 hi;rw[Ld,Ld,Ly hi,Lt (by omega)]
 ·rw[Wd,Ld,Ic];rfl
theorem QfS(c:Nat)(L:LB)(i:Nat)(x:BA)(h:L[i]? = some x):(itL c L)[i]? = some (x.data.toList,mdL c (L.take i) x):=by
 have hi:=(List.getElem?_eq_some_iff.1 h).1
 have:L.getD i ByteArray.empty=x:=by rw[Ld,h];rfl
 rw[itL,Nt,IQ hi,NW,this]
theorem Qao{k:Nat}(h1:1<=k)(h2:k<=32){L:LB}(hf:L.length<=65536)(hs : ∀s∈L,s.size<=1048576):St.OkA k (itL k L):=by
 refine⟨h1,h2,by rw[JP];exact hf,fun i x hx => ?_⟩
 have hi:=(List.getElem?_eq_some_iff.1 hx).1
 rw[JP] at hi;have hy:L[i]? = some L[i]:=Lh hi;rw[QfS k L i _ hy] at hx
 cases hx;have hl:(L.take i).length=i:=by rw[Lz];omega
 refine⟨hs _ (L3 hi),?_,QfY h2 _ _⟩
 show(mdL k (L.take i) L[i]).length=_
 rw[OP,hl,QnF i (by omega)];omega
abbrev Tryz.muLink:Go.Conc.Locks.MuLink := { lock:=98,unlock:=99,ilock:=164,iunlock:=165,lockSlow:=258,unlockSlow:=261,disable:=254,enable:=256,acquire:=257,relMerge:=259,cas32:=255,add32:=260,tMutex:=114,tIMutex:=112,tPMutex:=237,tPIMutex:=316,tPI32:=318,tUP:=320,tNoCopy:=109,tU32:=110 }
theorem Tryz.muLib:Go.Conc.Locks.MuLib prog Tryz.muLink :=
  ⟨func98,func99,func164,func165,func254,func256,func257,func259,func255,func260,
   underlying112,Tryz.runUnderlying112,Tryz.sizeOf112,Tryz.isAgg112,Tryz.zeroValue112,underlying114,Tryz.runUnderlying114,Tryz.sizeOf114,Tryz.isAgg114,Tryz.zeroValue114,underlying237,Tryz.runUnderlying237,Tryz.sizeOf237,Tryz.isAgg237,Tryz.zeroValue237,underlying316,Tryz.runUnderlying316,Tryz.sizeOf316,Tryz.isAgg316,Tryz.zeroValue316,underlying318,Tryz.runUnderlying318,Tryz.sizeOf318,Tryz.isAgg318,Tryz.zeroValue318,underlying320,Tryz.runUnderlying320,Tryz.sizeOf320,Tryz.isAgg320,Tryz.zeroValue320,underlying109,Tryz.runUnderlying109,Tryz.sizeOf109,Tryz.isAgg109,Tryz.zeroValue109,underlying21,Tryz.runUnderlying21,Tryz.sizeOf21,Tryz.isAgg21,Tryz.zeroValue21,(by kernel_rfl)⟩
section
open Go.MuLone
def Inn(a:Nat)(R:Value->Value->World->Prop)(e:Ending)(w':World):Prop := ∃x y,e = .returned (.tuple #[x,y])∧w'.cell? ⟨a,0,none⟩=some (.int .i32 1)∧w'.frozen? ⟨a,0,none⟩=false∧R x y w'
def Out(a:Nat)(R:Value->Value->World->Prop)(e:Ending)(w':World):Prop := ∃x y w1,e = .returned (.tuple #[x,y])∧R x y w1∧w'=w1.setCell ⟨a,0,none⟩ (.int .i32 0)
def rwL(g:Int)(x1:Value)(st:OA)(x3 x4 x5:Value):Obj := .cells #[.int .i32 g,x1,.pointer st,x3,x4,x5] 116 (0,0)
theorem Yc{w:World}{a:Nat}{g:Int}{x1:Value}{st:OA}{x3 x4 x5:Value}(h:w.heap[a]? = some (rwL g x1 st x3 x4 x5)):w.cell? ⟨a,0,none⟩=some (.int .i32 g)∧w.cell? ⟨a,2,none⟩=some (.pointer st)∧w.cell? ⟨a,3,none⟩=some x3∧w.cell? ⟨a,4,none⟩=some x4∧w.cell? ⟨a,5,none⟩=some x5 ∧ ∀j,w.frozen? ⟨a,j,none⟩=false :=
 ⟨by rw[cell_of_row w a 0 _ _ (0,0) h];rfl,by rw[cell_of_row w a 2 _ _ (0,0) h];rfl,by rw[cell_of_row w a 3 _ _ (0,0) h];rfl,by rw[cell_of_row w a 4 _ _ (0,0) h];rfl,by rw[cell_of_row w a 5 _ _ (0,0) h];rfl,fun j=>frozen_of_row w a j _ _ h⟩
structure Lkd(a:Nat)(w W:World):Prop where
 os:W.os=w.os
 tape:W.tape=w.tape
 output:W.output=w.output
 size:w.heap.size<=W.heap.size
 oth : ∀b,b<w.heap.size->b≠a->W.heap[b]? = w.heap[b]?
 self : ∀x1 st x3 x4 x5,w.heap[a]? = some (rwL 0 x1 st x3 x4 x5)->W.heap[a]? = some (rwL 1 x1 st x3 x4 x5)
theorem QfW{a:Nat}{w W:World}(h:Below w.heap.size w W)(ha:a<w.heap.size):Lkd a w (W.setCell ⟨a,0,none⟩ (.int .i32 1)):=by
 refine⟨h.os,h.tape,h.output,by simpa using h.size,fun b hb hne => ?_,fun x1 st x3 x4 x5 hr => ?_⟩
 ·rw[<-h.block b hb];exact Below.heap_setCell _ _ _ _ hne
 ·exact Lp W a 0 _ _ (.int .i32 1) ((h.block a ha).trans hr)
theorem Qdm{a:Nat}{w W w1:World}{x1:Value}{st:OA}{x3 x4 x5:Value}(hr:w.heap[a]? = some (rwL 0 x1 st x3 x4 x5))(hL:Lkd a w W)(hb:Below w.heap.size W w1):Below w.heap.size w (w1.setCell ⟨a,0,none⟩ (.int .i32 0)):=by
 refine⟨hb.os.trans hL.os,hb.tape.trans hL.tape,hb.output.trans hL.output,by simpa using Lu hL.size hb.size,fun b hlt => ?_⟩
 by_cases e:b=a
 ·subst e;rw[hr];exact Lp w1 b 0 _ _ (.int .i32 0) ((hb.block b hlt).trans (hL.self _ _ _ _ _ hr))
 ·rw[<-hL.oth b hlt e,<-hb.block b hlt];exact Below.heap_setCell _ _ _ _ e
theorem QgC(w:World)(a st k:Nat)(caps:Array Value)(hk:k=48∨k=61)(h0:w.cell? ⟨a,0,none⟩=some (.int .i32 0))(hf:w.frozen? ⟨a,0,none⟩=false)(h2:w.cell? ⟨a,2,none⟩=some (.pointer (some ⟨st,0,none⟩)))(R:Value->Value->World->Prop)
  (HC:Calls prog k caps (w.setCell ⟨a,0,none⟩ (.int .i32 1)) (Inn a R)) :
  Calls prog 47 #[.pointer (some ⟨a,0,none⟩),.func (.func k) #[] caps] w (Out a R):=by
 have c2:(w.setCell ⟨a,0,none⟩ (.int .i32 1)).cell? ⟨a,2,none⟩=some (.pointer (some ⟨st,0,none⟩)):=by
  rw[LO _ ⟨a,0,none⟩ ⟨a,2,none⟩ _ (by simp)];exact h2
 generalize hW:w.setCell ⟨a,0,none⟩ (.int .i32 1)=W at *
 rcases hk with rfl|rfl
 all_goals
  go_enter_defers func47,ntmps47
  go_wp2_with (go_at_call 98;refine(lock_free Tryz.muLib ⟨a,0,none⟩ _ h0 hf).mono ?_;rintro e w' ⟨rfl,hw⟩;rw[hW] at hw;subst hw)
  refine HC.mono ?_
  rintro e w' ⟨x,y,rfl,g0,g1,g2⟩;go_wp2;refine leaves_cons (f:=99) (args:=#[.pointer (some ⟨a,0,none⟩)]) (by simp) (by simp[go_sem]) ?_
  refine(unlock_deferred Tryz.muLib ⟨a,0,none⟩ .returning _ g0 g1).mono ?_
  rintro e u' xA ⟨rfl,rfl,rfl⟩;exact⟨_,results_tmp2 rfl _ _ _,x,y,w',rfl,g2,rfl⟩
theorem QgE(w:World)(a:Nat)(sa:Addr)(k:Nat)(caps:Array Value)(hk:k=73){x1 x3 x4 x5:Value}(hr:w.heap[a]? = some (rwL 0 x1 (some sa) x3 x4 x5))(x y:Value)
  (HC : ∀W,Lkd a w W->Calls prog k caps W fun e w'=>e = .returned (.tuple #[x,y])∧Below W.heap.size W w') :
  Calls prog 72 #[.pointer (some ⟨a,0,none⟩),.func (.func k) #[] caps] w fun e w'=>e = .returned (.tuple #[x,y])∧Below w.heap.size w w':=by
 have hL:=QfW (Lb w.heap.size w) (Array.getElem?_eq_some_iff.1 hr).1
 have ha:=(Array.getElem?_eq_some_iff.1 hr).1
 obtain⟨h0,_,_,_,_,hf⟩:=Yc hr;obtain⟨c0,c2,_,_,_,cf⟩:=Yc (hL.self _ _ _ _ _ hr);generalize hW:w.setCell ⟨a,0,none⟩ (.int .i32 1)=W at *;have HC:=HC W hL;subst hk
 all_goals
  go_enter_defers func72,ntmps72
  go_wp2_with (go_at_call 98;refine(lock_free Tryz.muLib ⟨a,0,none⟩ _ h0 (hf 0)).mono ?_;rintro e w' ⟨rfl,hw⟩;rw[hW] at hw;subst hw)
  refine HC.mono ?_
  rintro e w1 ⟨rfl,hb⟩;have xA:=(hb.block a (Lx ha hL.size)).trans (hL.self _ _ _ _ _ hr);obtain⟨g0,_,_,_,_,gf⟩:=Yc xA;have hE:=Qdm hr hL (hb.mono hL.size);go_wp2;refine leaves_cons (f:=99) (args:=#[.pointer (some ⟨a,0,none⟩)]) (by simp) (by simp[go_sem]) ?_
  refine(unlock_deferred Tryz.muLib ⟨a,0,none⟩ .returning _ g0 (gf 0)).mono ?_
  rintro e u' xB ⟨rfl,rfl,rfl⟩;exact⟨_,results_tmp2 rfl _ _ _,rfl,hE⟩
theorem QgF(w:World)(f:Value):Calls prog 72 #[.pointer none,f] w fun e w'=>e = .returned (.tuple #[.int .u64 0,.int .i64 200])∧w'=w:=by
 go_enter_defers func72,ntmps72
 go_wp2;exact⟨_,results_tmp2 rfl _ _ _,rfl,rfl⟩
theorem Qcb(w:World)(a:Nat)(sa:Addr)(k:Nat)(caps:Array Value)(hk:k=83∨k=86∨k=81∨k=76){x1 x3 x4 x5:Value}(hr:w.heap[a]? = some (rwL 0 x1 (some sa) x3 x4 x5))(x y:Value)
  (HC : ∀W,Lkd a w W->Calls prog k caps W fun e w'=>e = .returned (.tuple #[x,y])∧Below W.heap.size W w') :
  Calls prog 75 #[.pointer (some ⟨a,0,none⟩),.func (.func k) #[] caps] w fun e w'=>e = .returned (.tuple #[x,y])∧Below w.heap.size w w':=by
 have hL:=QfW (Lb w.heap.size w) (Array.getElem?_eq_some_iff.1 hr).1
 have ha:=(Array.getElem?_eq_some_iff.1 hr).1
 obtain⟨h0,_,_,_,_,hf⟩:=Yc hr;obtain⟨c0,c2,_,_,_,cf⟩:=Yc (hL.self _ _ _ _ _ hr);generalize hW:w.setCell ⟨a,0,none⟩ (.int .i32 1)=W at *;have HC:=HC W hL
 rcases hk with rfl|rfl|rfl|rfl
 all_goals
  go_enter_defers func75,ntmps75
  go_wp2_with (go_at_call 98;refine(lock_free Tryz.muLib ⟨a,0,none⟩ _ h0 (hf 0)).mono ?_;rintro e w' ⟨rfl,hw⟩;rw[hW] at hw;subst hw)
  refine HC.mono ?_
  rintro e w1 ⟨rfl,hb⟩;have xA:=(hb.block a (Lx ha hL.size)).trans (hL.self _ _ _ _ _ hr);obtain⟨g0,_,_,_,_,gf⟩:=Yc xA;have hE:=Qdm hr hL (hb.mono hL.size);go_wp2;refine leaves_cons (f:=99) (args:=#[.pointer (some ⟨a,0,none⟩)]) (by simp) (by simp[go_sem]) ?_
  refine(unlock_deferred Tryz.muLib ⟨a,0,none⟩ .returning _ g0 (gf 0)).mono ?_
  rintro e u' xB ⟨rfl,rfl,rfl⟩;exact⟨_,results_tmp2 rfl _ _ _,rfl,hE⟩
theorem QgD(w:World)(a:Nat)(sa:Addr)(caps:Array Value){x1 x3 x4 x5:Value}(hr:w.heap[a]? = some (rwL 0 x1 (some sa) x3 x4 x5))(n:Int)(r:BA)(y:Value)
  (HC : ∀W,Lkd a w W->Calls prog 56 caps W fun e w'=>e = .returned (.tuple #[.agg #[.int .u64 n,.string r],y])∧Below W.heap.size W w') :
  Calls prog 55 #[.pointer (some ⟨a,0,none⟩),.func (.func 56) #[] caps] w fun e w'=>e = .returned (.tuple #[.agg #[.int .u64 n,.string r],y])∧Below w.heap.size w w':=by
 have ha:=(Array.getElem?_eq_some_iff.1 hr).1
 have xA:Below w.heap.size w ((w.alloc (.cells #[.int .u64 0,.string ⟨#[]⟩] 50)).alloc (.cells #[.int .u64 0,.string ⟨#[]⟩] 50)):=(Lb _ _).alloc (La _) _ |>.alloc (by simp) _
 have k4:((w.alloc (.cells #[.int .u64 0,.string ⟨#[]⟩] 50)).alloc (.cells #[.int .u64 0,.string ⟨#[]⟩] 50)).heap[w.heap.size]? = some (.cells #[.int .u64 0,.string ⟨#[]⟩] 50 (0,0)):=by
  rw[(MapKept.heap_alloc _ _).2 _ (by simp)];exact(MapKept.heap_alloc w _).1
 generalize hW0:(w.alloc (.cells #[.int .u64 0,.string ⟨#[]⟩] 50)).alloc (.cells #[.int .u64 0,.string ⟨#[]⟩] 50)=W0 at *;have hL:=QfW xA ha;have xB:=(xA.block a ha).trans hr;obtain⟨h0,_,_,_,_,hf⟩:=Yc xB;obtain⟨c0,c2,_,_,_,cf⟩:=Yc (hL.self _ _ _ _ _ hr);have k5:(W0.setCell ⟨a,0,none⟩ (.int .i32 1)).heap[w.heap.size]? = some (.cells #[.int .u64 0,.string ⟨#[]⟩] 50 (0,0)):=(Below.heap_setCell _ _ _ _ (by show w.heap.size≠a;omega)).trans k4
 have hz:w.heap.size<(W0.setCell ⟨a,0,none⟩ (.int .i32 1)).heap.size:=(Array.getElem?_eq_some_iff.1 k5).1
 generalize hW:W0.setCell ⟨a,0,none⟩ (.int .i32 1)=W at *;have HC:=HC W hL
 go_enter_defers func55,ntmps55
 go_wp2_with (go_at_call 98;refine(lock_free Tryz.muLib ⟨a,0,none⟩ _ h0 (hf 0)).mono ?_;rintro e w' ⟨rfl,hw⟩;rw[hW] at hw;subst hw)
 refine HC.mono ?_
 rintro e w1 ⟨rfl,hb⟩;have k6:=(hb.block _ hz).trans k5;have k7:w1.cell? ⟨w.heap.size,0,none⟩=some (.int .u64 0):=by rw[cell_of_row w1 _ 0 _ _ (0,0) k6];rfl
 have k8:w1.cell? ⟨w.heap.size,1,none⟩=some (.string ⟨#[]⟩):=by rw[cell_of_row w1 _ 1 _ _ (0,0) k6];rfl
 have k9 : ∀j,w1.frozen? ⟨w.heap.size,j,none⟩=false:=fun j=>frozen_of_row w1 _ j _ _ k6
 have xD:=k9 0;have xE:=k9 1;have xC:((w1.setCell ⟨w.heap.size,0,none⟩ (.int .u64 n)).setCell ⟨w.heap.size,1,none⟩ (.string r)).heap[a]? = _:=(Below.heap_setCell _ _ _ _ (by show a≠w.heap.size;omega)).trans ((Below.heap_setCell _ _ _ _ (by show a≠w.heap.size;omega)).trans ((hb.block a (Lx ha hL.size)).trans (hL.self _ _ _ _ _ hr)))
 obtain⟨g0,_,_,_,_,gf⟩:=Yc xC;have hE:=Qdm hr hL (((hb.mono hL.size).setCell (p:=⟨w.heap.size,0,none⟩) (La _) (.int .u64 n)).setCell (p:=⟨w.heap.size,1,none⟩) (La _) (.string r));go_wp2;refine leaves_cons (f:=99) (args:=#[.pointer (some ⟨a,0,none⟩)]) (by simp) (by simp[go_sem]) ?_
 refine(unlock_deferred Tryz.muLib ⟨a,0,none⟩ .returning _ g0 (gf 0)).mono ?_
 rintro e u' xF ⟨rfl,rfl,rfl⟩;refine⟨_,?_,rfl,hE⟩
 have q6:=Lp _ w.heap.size 1 _ _ (.string r) (Lp w1 w.heap.size 0 _ _ (.int .u64 n) k6);have q7:(((w1.setCell ⟨w.heap.size,0,none⟩ (.int .u64 n)).setCell ⟨w.heap.size,1,none⟩ (.string r)).setCell ⟨a,0,none⟩ (.int .i32 0)).heap[w.heap.size]? = _:=(Below.heap_setCell _ _ _ _ (by show w.heap.size≠a;omega)).trans q6
 have q8:=cell_of_row _ w.heap.size 0 _ _ (0,0) q7;have q9:=cell_of_row _ w.heap.size 1 _ _ (0,0) q7;simp at q8 q9;generalize ((w1.setCell ⟨w.heap.size,0,none⟩ (.int .u64 n)).setCell ⟨w.heap.size,1,none⟩ (.string r)).setCell ⟨a,0,none⟩ (.int .i32 0)=W9 at *;simp[results,results55,go_sem,q8,q9]
end
end Go.Proofs.YtoblgjledefdbaaGreatDoor
