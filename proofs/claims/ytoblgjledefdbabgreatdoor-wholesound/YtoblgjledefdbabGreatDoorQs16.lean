/- Own work. -/
import Derived.Conc.MuLone
import Derived.Test.YtoblgjledefdbabGreatDoorQs15
set_option maxRecDepth 100000
set_option maxHeartbeats 4000000
namespace Go.Proofs.YtoblgjledefdbabGreatDoor
open Go.RowKit
attribute [local go_sem ↓] Go.wp_at_zero Go.wp_at_succ
open Go.Proofs.Tryz
namespace St
open Rc
theorem QbE:nmI≠nmN:=by decide
theorem Qcv:nmI≠nmM:=by decide
theorem QeC:nmN≠nmM:=by decide
def Oth(L:List (List UInt8×FV)):Prop := ∀s,s≠nmI->s≠nmN->s≠nmM->Qh L s=fz
theorem Qpv{L:List (List UInt8×FV)}(ho:Ord L)(h:Oth L):L=Yi (Yi (Yi [] nmI (Qh L nmI)) nmN (Qh L nmN)) nmM (Qh L nmM):=by
 have o1:=YX Un nmI (Qh L nmI);have o2:=YX o1 nmN (Qh L nmN);refine QmF ho (YX o2 nmM (Qh L nmM)) fun s=> ?_
 rw[QY o2,QY o1,QY Un]
 by_cases h1:s=nmM
 ·rw[Lo h1,h1]
 ·rw[Le h1]
  by_cases h2:s=nmN
  ·rw[Lo h2,h2]
  ·rw[Le h2]
   by_cases h3:s=nmI
   ·rw[Lo h3,h3]
   ·rw[Le h3,h s h3 h2 h1];rfl
theorem J3{L:List (List UInt8×FV)}(ho:Ord L)(h:Oth L):tot L=(Qh L nmI).now.length+(Qh L nmN).now.length+(Qh L nmM).now.length∧L.length<=3:=by
 have e:=Qpv ho h;have o1:=YX Un nmI (Qh L nmI);have o2:=YX o1 nmN (Qh L nmN);have t1:=O5 Un nmI (Qh L nmI);have t2:=O5 o1 nmN (Qh L nmN);have t3:=O5 o2 nmM (Qh L nmM);rw[QY Un,Le QbE.symm] at t2;rw[QY o1,Le QeC.symm,QY Un,Le Qcv.symm] at t3;have z:(Qh ([]:List (List UInt8×FV)) nmI).now.length=0:=rfl;have z2:(Qh ([]:List (List UInt8×FV)) nmN).now.length=0:=rfl;have z3:(Qh ([]:List (List UInt8×FV)) nmM).now.length=0:=rfl;have z4:tot []=0:=rfl;have l1:=OG (L:=[]) nmI (Qh L nmI);have l2:=OG (L:=Yi [] nmI (Qh L nmI)) nmN (Qh L nmN);have l3:=OG (L:=Yi (Yi [] nmI (Qh L nmI)) nmN (Qh L nmN)) nmM (Qh L nmM);rw[<-e] at t3 l3;simp only[List.length_nil] at l1;exact⟨by omega,by omega⟩
structure Qt(R:Nat)(D:DV):Prop where
 down:D.down=false
 fk:D.fk=0
 ord:Ord D.L
 tot:D.free+tot D.L=R
theorem Qt.put{R:Nat}{D:DV}(h:Qt R D)(s:List UInt8)(f:FV)(hf:f.now.length<=D.free+(Qh D.L s).now.length):actD D s f=(Y6 { D with acts:=D.acts+1 } s f,0)∧Qt R (Y6 { D with acts:=D.acts+1 } s f):=by
 refine⟨Qfd h.fk s f,h.down,h.fk,YX h.ord s f,?_⟩
 have:=O5 h.ord s f;have:=h.tot
 show D.free+(Qh D.L s).now.length-f.now.length+Go.Proofs.YtoblgjledefdbabGreatDoor.St.tot (Yi D.L s f)=R
 omega
structure Lft(R:Nat)(D D':DV)(s:List UInt8)(f:FV)(n:Nat):Prop where
 qt:Qt R D'
 at_:Qh D'.L s=f
 oth:∀t,t≠s->Qh D'.L t=Qh D.L t
 acts:D'.acts=D.acts+n
theorem Qt.act{R:Nat}{D:DV}(h:Qt R D)(s:List UInt8)(f:FV)(hf:f.now.length<=D.free+(Qh D.L s).now.length):∃D',actD D s f=(D',0)∧Lft R D D' s f 1:=by
 obtain⟨h1,h2⟩:=h.put s f hf;refine⟨_,h1,h2,?_,fun t ht=> ?_,rfl⟩
 ·show Qh (Yi D.L s f) s=f
  rw[QY h.ord,Lo rfl]
 ·show Qh (Yi D.L s f) t=_
  rw[QY h.ord,Le ht]
theorem Qt.syn{R:Nat}{D:DV}(h:Qt R D)(s:List UInt8):∃D',YE D s=(D',0)∧Lft R D D' s ⟨(Qh D.L s).now,(Qh D.L s).now⟩ 1:=by
 unfold YE;rw[Le (by rw[h.down];exact I9)]
 exact h.act s _ (by show(Qh D.L s).now.length<=_;omega)
theorem Qph(l t:List UInt8):wr l l.length t=l++t:=by simp[wr]
theorem Qt.wr{R:Nat}{D:DV}(h:Qt R D)(s t:List UInt8)(n:Nat)(hn:(Qh D.L s).now.length=n)(h1:n+t.length<=268435456)(h2:t.length<=D.free):∃D',wrD D s (n:Int) t=(D',0)∧Lft R D D' s ⟨(Qh D.L s).now++t,(Qh D.L s).syn⟩ 1:=by
 unfold wrD;rw[Le (by rw[h.down];exact I9),Le (by omega),Le (by omega)]
 have:=h.act s ⟨(Qh D.L s).now++t,(Qh D.L s).syn⟩ (by show((Qh D.L s).now++t).length<=_;rw[Lh];omega)
 rwa [Ni,<-hn,Qph]
structure Ext(k:Nat)(A:List It)(L:List (List UInt8×FV)):Prop where
 i:Qh L nmI=⟨(bA k A).a,(bA k A).a⟩
 n:Qh L nmN=⟨(bA k A).b,(bA k A).b⟩
 m:Qh L nmM=⟨(bA k A).m,(bA k A).m⟩
 oth:Oth L
theorem QnW{k R:Nat}{A:List It}{x:It}{D:DV}(h:OkA k (A++[x]))(hq:Qt R D)(he:Ext k A D.L)(hR:(bA k (A++[x])).a.length+(bA k (A++[x])).b.length+(bA k (A++[x])).m.length<=R)(hz:R<=268435456) :
  ∃D',Ur D (sA k A) x.1 x.2=(D',sA k (A++[x]),0)∧Qt R D'∧Ext k (A++[x]) D'.L∧D'.acts=D.acts+6:=by
 have l:=h.init.lens;have l2:=h.lens;have hx:=h.last;have hf:=h.few;simp only[List.length_append,List.length_cons,List.length_nil,Nat.zero_add] at hf;have ea:(bA k (A++[x])).a=(bA k A).a++pay x.1:=by rw[Y4];rfl
 have eb:(bA k (A++[x])).b=(bA k A).b++Rc.Qj (YD (nn A.length) x.2):=by rw[Y4,<-l.ends];rfl
 have em:(bA k (A++[x])).m=(bA k A).m++mrk ((bA k A).mk' k x):=by rw[Y4];rfl
 have et:=(J3 hq.ord he.oth).1;rw[he.i,he.n,he.m] at et;have et2:=hq.tot;have eal:(bA k (A++[x])).a.length=(bA k A).a.length+(pay x.1).length:=by rw[ea,Lh]
 have ebl:(bA k (A++[x])).b.length=(bA k A).b.length+(Rc.Qj (YD (nn A.length) x.2)).length:=by rw[eb,Lh]
 have eml:(bA k (A++[x])).m.length=(bA k A).m.length+(mrk ((bA k A).mk' k x)).length:=by rw[em,Lh]
 simp only at et
 -- the six acts
 obtain⟨D1,a1,l1⟩:=hq.wr nmI (pay x.1) (bA k A).a.length (by rw[he.i]) (by omega) (by omega)
 rw[he.i] at l1;have t1:=(J3 l1.qt.ord (fun s h1 h2 h3=>by rw[l1.oth s h1];exact he.oth s h1 h2 h3)).1
 rw[l1.at_,l1.oth _ QbE.symm,l1.oth _ Qcv.symm,he.n,he.m] at t1;have q1:=l1.qt.tot;simp only[List.length_append] at t1;obtain⟨D2,a2,l2'⟩:=l1.qt.wr nmN (Rc.Qj (YD (nn A.length) x.2)) (bA k A).b.length (by rw[l1.oth _ QbE.symm,he.n]) (by omega) (by omega)
 rw[l1.oth _ QbE.symm,he.n] at l2';obtain⟨D3,a3,l3⟩:=l2'.qt.syn nmI;rw[l2'.oth _ QbE,l1.at_] at l3;obtain⟨D4,a4,l4⟩:=l3.qt.syn nmN;rw[l3.oth _ QbE.symm,l2'.at_] at l4;have m4:Qh D4.L nmM=⟨(bA k A).m,(bA k A).m⟩:=by rw[l4.oth _ QeC.symm,l3.oth _ Qcv.symm,l2'.oth _ QeC.symm,l1.oth _ Qcv.symm,he.m]
 have i4:Qh D4.L nmI=⟨(bA k A).a++pay x.1,(bA k A).a++pay x.1⟩:=by rw[l4.oth _ QbE,l3.at_]
 have o4:Oth D4.L:=fun s h1 h2 h3=>by rw[l4.oth s h2,l3.oth s h1,l2'.oth s h2,l1.oth s h1];exact he.oth s h1 h2 h3
 have t4:=(J3 l4.qt.ord o4).1;rw[i4,l4.at_,m4] at t4;have q4:=l4.qt.tot;simp only[List.length_append] at t4;obtain⟨D5,a5,l5⟩:=l4.qt.wr nmM (mrk ((bA k A).mk' k x)) (bA k A).m.length (by rw[m4]) (by omega) (by omega)
 rw[m4] at l5;obtain⟨D6,a6,l6⟩:=l5.qt.syn nmM;rw[l5.at_] at l6;have hA:Q0 (addA (sA k A) x.1 x.2) D=(D6,0):=by
  show Q0 (six (sA k A) (pay x.1) (Rc.Qj (YD (nn (bA k A).ends.length) x.2)) (mrk ((bA k A).mk' k x))) D=_
  unfold six;have e1:((lst (sA k A).ends:Nat):Int)=((bA k A).a.length:Int):=by show((lst (bA k A).ends:Nat):Int)=_;rw[l.lst]
  have e2:((nn (sA k A).ends.length*40:Nat):Int)=((bA k A).b.length:Int):=by show((nn (bA k A).ends.length*40:Nat):Int)=_;rw[l.ends,l.b,L3]
  have e3:(((sA k A).ends.length*64:Nat):Int)=((bA k A).m.length:Int):=by show(((bA k A).ends.length*64:Nat):Int)=_;rw[l.ends,l.m,L3]
  rw[e1,e2,e3,l.ends];simp only[Q0,a1,a2,a3,a4,a5,a6,if_true]
 have hr:refD (sA k A) x.1 x.2=0:=by
  have hnx:nxt (sA k A) x.2=true:=(Qdp _ _).2 ⟨by show _=nn ((bA k A).ends.length+1)-nn (bA k A).ends.length;rw[l.ends];exact hx.cnt,hx.sz⟩
  unfold refD;rw[Le (show ¬(sA k A).lame=true from I9),Le (by have:=hx.len;omega),Le (by show ¬65536<=(bA k A).ends.length;rw[l.ends];omega),Le (by rw[hnx];simp),Le (by show ¬_<lst (bA k A).ends+_;have:=pay_len x.1;rw[l.lst];omega)]
 refine⟨D6,?_,l6.qt,⟨?_,?_,?_,?_⟩,?_⟩
 ·unfold Ur;rw[hr,Le (show ¬((0:Int)≠0) from fun h=>h rfl),hA,Lo rfl]
  show(D6,(⟨k,(bA k A).ends++[((bA k A).mk' k x).items],((bA k A).mk' k x).chain,false⟩:SV),(0:Int))=_
  unfold sA;rw[Y4];rfl
 ·rw[l6.oth _ Qcv,l5.oth _ Qcv,i4,ea]
 ·rw[l6.oth _ QeC,l5.oth _ QeC,l4.at_,eb]
 ·rw[l6.at_,em]
 ·intro s h1 h2 h3;rw[l6.oth s h3,l5.oth s h3];exact o4 s h1 h2 h3
 ·rw[l6.acts,l5.acts,l4.acts,l3.acts,l2'.acts,l1.acts]
theorem QmR{D:DV}(hd:D.down=false)(s:List UInt8)(a n:Nat):rdS D s (a:Int) (n:Int)=if a+n<=(now D s).length then (((now D s).drop a).take n,0) else ([],190):=by
 have e1:rdD D s (a:Int) (n:Int)=if a+n<=(now D s).length then (((now D s).drop a).take n,0) else ([],173):=by
  unfold rdD now;rw[hd];simp only[Bool.false_eq_true,if_false,Int.toNat_natCast]
  by_cases h:a+n<=(Qh D.L s).now.length
  ·rw[Le (by omega),Lo h]
  ·rw[Lo (by omega),Le h]
 unfold rdS;rw[e1]
 by_cases h:a+n<=(now D s).length
 ·simp only[if_pos h];rfl
 ·simp only[if_neg h];rfl
theorem QlR{k:Nat}{A:List It}(h:OkA k A)(i:Nat)(x:It)(hx:A[i]? = some x):(bA k A).ends.getD i 0=(bA k (A.take i)).a.length+(x.1.length+8)∧Uz (bA k A).ends i=(bA k (A.take i)).a.length∧pay x.1 <+: (bA k A).a.drop (bA k (A.take i)).a.length:=by
 revert h hx
 refine Jb (P:=fun A=>OkA k A->A[i]? = some x->(bA k A).ends.getD i 0=(bA k (A.take i)).a.length+(x.1.length+8)∧Uz (bA k A).ends i=(bA k (A.take i)).a.length∧pay x.1 <+: (bA k A).a.drop (bA k (A.take i)).a.length) (fun _ h=>by simp at h) (fun A y ih h hx=> ?_) A
 have l:=h.init.lens
 by_cases hi:i<A.length
 ·rw[LG hi] at hx;obtain⟨h1,h2,h3⟩:=ih h.init hx;have et:(A++[y]).take i=A.take i:=by rw[LH (by omega)]
  rw[et,Y4]
  show((bA k A).ends++[((bA k A).mk' k y).items]).getD i 0=_∧Uz ((bA k A).ends++[((bA k A).mk' k y).items]) i=_∧pay x.1 <+: ((bA k A).a++pay y.1).drop _
  refine⟨?_,?_,?_⟩
  ·rw[<-h1,La,La,LG (by rw[l.ends];exact hi)]
  ·rw[<-h2];unfold Uz
   split
   ·rfl
   ·rw[La,La,LG (by rw[l.ends];omega)]
  ·obtain⟨t,ht⟩:=h3;refine⟨t++pay y.1,?_⟩
   rw[L9 ((Qgq k A i).1.length_le),<-ht,LP]
 ·have hl:=(List.getElem?_eq_some_iff.1 hx).1
  obtain rfl:i=A.length:=by simp at hl;omega
  simp only[List.getElem?_concat_length,Option.some.injEq] at hx
  subst hx;have et:(A++[y]).take A.length=A:=Wx;rw[et,Y4]
  show((bA k A).ends++[((bA k A).mk' k y).items]).getD A.length 0=_∧Uz ((bA k A).ends++[((bA k A).mk' k y).items]) A.length=_∧pay y.1 <+: ((bA k A).a++pay y.1).drop _
  refine⟨?_,?_,?_⟩
  ·rw[La,<-l.ends,Iv]
   show lst (bA k A).ends+(pay y.1).length=_
   rw[l.lst,pay_len]
  ·rw[<-l.lst,<-Qbj,l.ends];unfold Uz
   split
   ·rfl
   ·rw[La,La,LG (by rw[l.ends];omega)]
  ·rw[List.drop_left];exact Wu
theorem Ql9{k:Nat}{A:List It}{D:DV}{S:SV}(h:OkA k A)(hS:S.ends=(bA k A).ends)(hd:D.down=false)(hb:(bA k A).a <+: (Qh D.L nmI).now)(i:Nat)(x:It)(hx:A[i]? = some x):J8 D S i=(x.1,0):=by
 obtain⟨e1,e2,e3⟩:=QlR h i x hx;have l:=h.lens;have hi:=(List.getElem?_eq_some_iff.1 hx).1
 have hlen:=(h.it i x hx).len;have ht:=(Qgq k A i).1.length_le;obtain⟨t3,e3⟩:=e3;obtain⟨tb,hb⟩:=hb;have hlb:(now D nmI).length=(bA k A).a.length+tb.length:=by show(Qh D.L nmI).now.length=_;rw[<-hb,Lh]
 have hla:(bA k A).a.length=(bA k (A.take i)).a.length+((x.1.length+8)+t3.length):=by
  have:=LZ List.length e3;rw[Lh,pay_len,LD] at this;omega
 have hR:OE D S i=(pay x.1,0):=by
  unfold OE;rw[hS,e1,e2];rw[show(((bA k (A.take i)).a.length+(x.1.length+8):Nat):Int)-((bA k (A.take i)).a.length:Int)=((x.1.length+8:Nat):Int) by omega,QmR hd,Lo (by rw[hlb];omega)]
  congr 1
  show((Qh D.L nmI).now.drop _).take _=_
  rw[<-hb,L9 (by omega),<-e3,LP]
  rw[LH (by rw[pay_len];exact Lb _),Lu (by rw[pay_len];exact Lb _)]
 unfold J8;rw[hR,Le (by rw[hS,l.ends];omega),Le (fun h=>h rfl),Lo (Qnv _ hlen)]
 have:=QeY x.1 [] hlen;rw[L7] at this;rw[this];rfl
end St
theorem QpH(n:Nat)(h:n<=65536):St.nn (n+1)=St.nn n+(Pl.trl 40 n+1):=by
 obtain⟨h1,h2⟩:=Qe7 40 n (by omega)
 unfold St.nn;rw[St.Pl.new_N _ n h1 h2 (by omega)]
 omega
def itL(c:Nat)(L:LB):List St.It:=(List.range L.length).map fun i=>((L.getD i ByteArray.empty).data.toList,mdL c (L.take i) (L.getD i ByteArray.empty))
theorem OD(c:Nat)(L:LB):(itL c L).length=L.length:=by simp[itL]
theorem Qet(c:Nat)(L:LB)(x:BA):itL c (L++[x])=itL c L++[(x.data.toList,mdL c L x)]:=by
 simp only[itL,List.length_append,List.length_cons,List.length_nil,Nat.zero_add,List.range_succ,List.map_append,List.map_cons,List.map_nil]
 congr 1
 ·refine NL fun i hi=> ?_
  have hi:=List.mem_range.1 hi;rw[La,La,LG hi,LH (by omega)]
 ·rw[Wx,La,Iv];rfl
theorem QjB(c:Nat)(L:LB)(i:Nat)(x:BA)(h:L[i]? = some x):(itL c L)[i]? = some (x.data.toList,mdL c (L.take i) x):=by
 have hi:=(List.getElem?_eq_some_iff.1 h).1
 have:L.getD i ByteArray.empty=x:=by rw[La,h];rfl
 rw[itL,No,List.getElem?_range hi,IL,this]
theorem Qbv{k:Nat}(h1:1<=k)(h2:k<=32){L:LB}(hf:L.length<=65536)(hs:∀s∈L,s.size<=1048576):St.OkA k (itL k L):=by
 refine⟨h1,h2,by rw[OD];exact hf,fun i x hx=> ?_⟩
 have hi:=(List.getElem?_eq_some_iff.1 hx).1
 rw[OD] at hi;have hy:L[i]? = some L[i]:=Ld hi;rw[QjB k L i _ hy] at hx
 cases hx;have hl:(L.take i).length=i:=by rw[Lv];omega
 refine⟨hs _ (LN hi),?_,QjT h2 _ _⟩
 show(mdL k (L.take i) L[i]).length=_
 rw[QgU,hl,QpH i (by omega)];omega
abbrev Tryz.muLink:Go.Conc.Locks.MuLink := { lock:=42,unlock:=43,ilock:=77,iunlock:=78,lockSlow:=146,unlockSlow:=149,disable:=142,enable:=144,acquire:=145,relMerge:=147,cas32:=143,add32:=148,tMutex:=59,tIMutex:=57,tPMutex:=156,tPIMutex:=216,tPI32:=218,tUP:=220,tNoCopy:=54,tU32:=55 }
theorem Tryz.muLib:Go.Conc.Locks.MuLib prog Tryz.muLink :=
  ⟨func42,func43,func77,func78,func142,func144,func145,func147,func143,func148,
   underlying57,Tryz.runUnderlying57,Tryz.sizeOf57,Tryz.isAgg57,Tryz.zeroValue57,underlying59,Tryz.runUnderlying59,Tryz.sizeOf59,Tryz.isAgg59,Tryz.zeroValue59,underlying156,Tryz.runUnderlying156,Tryz.sizeOf156,Tryz.isAgg156,Tryz.zeroValue156,underlying216,Tryz.runUnderlying216,Tryz.sizeOf216,Tryz.isAgg216,Tryz.zeroValue216,underlying218,Tryz.runUnderlying218,Tryz.sizeOf218,Tryz.isAgg218,Tryz.zeroValue218,underlying220,Tryz.runUnderlying220,Tryz.sizeOf220,Tryz.isAgg220,Tryz.zeroValue220,underlying54,Tryz.runUnderlying54,Tryz.sizeOf54,Tryz.isAgg54,Tryz.zeroValue54,underlying21,Tryz.runUnderlying21,Tryz.sizeOf21,Tryz.isAgg21,Tryz.zeroValue21,(by kernel_rfl)⟩
section
open Go.MuLone
def Inn(a:Nat)(R:Value->Value->World->Prop)(e:Ending)(w':World):Prop := ∃x y,e= .returned (.tuple #[x,y])∧w'.cell? ⟨a,0,none⟩=some (.int .i32 1)∧w'.frozen? ⟨a,0,none⟩=false∧R x y w'
def Out(a:Nat)(R:Value->Value->World->Prop)(e:Ending)(w':World):Prop := ∃x y w1,e= .returned (.tuple #[x,y])∧R x y w1∧w'=w1.setCell ⟨a,0,none⟩ (.int .i32 0)
def rwL(g:Int)(x1:Value)(st:OA)(x3 x4 x5:Value):Obj := .cells #[.int .i32 g,x1,.pointer st,x3,x4,x5] 64 (0,0)
theorem YI{w:World}{a:Nat}{g:Int}{x1:Value}{st:OA}{x3 x4 x5:Value}(h:w.heap[a]? = some (rwL g x1 st x3 x4 x5)):w.cell? ⟨a,0,none⟩=some (.int .i32 g)∧w.cell? ⟨a,2,none⟩=some (.pointer st)∧w.cell? ⟨a,3,none⟩=some x3∧w.cell? ⟨a,4,none⟩=some x4∧w.cell? ⟨a,5,none⟩=some x5 ∧ ∀j,w.frozen? ⟨a,j,none⟩=false :=
 ⟨by rw[cell_of_row w a 0 _ _ (0,0) h];rfl,by rw[cell_of_row w a 2 _ _ (0,0) h];rfl,by rw[cell_of_row w a 3 _ _ (0,0) h];rfl,by rw[cell_of_row w a 4 _ _ (0,0) h];rfl,by rw[cell_of_row w a 5 _ _ (0,0) h];rfl,fun j=>frozen_of_row w a j _ _ h⟩
structure Lkd(a:Nat)(w W:World):Prop where
 os:W.os=w.os
 tape:W.tape=w.tape
 output:W.output=w.output
 size:w.heap.size<=W.heap.size
 oth:∀b,b<w.heap.size->b≠a->W.heap[b]? = w.heap[b]?
 self:∀x1 st x3 x4 x5,w.heap[a]? = some (rwL 0 x1 st x3 x4 x5)->W.heap[a]? = some (rwL 1 x1 st x3 x4 x5)
theorem QjM{a:Nat}{w W:World}(h:Below w.heap.size w W)(ha:a<w.heap.size):Lkd a w (W.setCell ⟨a,0,none⟩ (.int .i32 1)):=by
 refine⟨h.os,h.tape,h.output,by simpa using h.size,fun b hb hne=> ?_,fun x1 st x3 x4 x5 hr=> ?_⟩
 ·rw[<-h.block b hb];exact Below.heap_setCell _ _ _ _ hne
 ·exact Ln W a 0 _ _ (.int .i32 1) ((h.block a ha).trans hr)
theorem QgT{a:Nat}{w W w1:World}{x1:Value}{st:OA}{x3 x4 x5:Value}(hr:w.heap[a]? = some (rwL 0 x1 st x3 x4 x5))(hL:Lkd a w W)(hb:Below w.heap.size W w1):Below w.heap.size w (w1.setCell ⟨a,0,none⟩ (.int .i32 0)):=by
 refine⟨hb.os.trans hL.os,hb.tape.trans hL.tape,hb.output.trans hL.output,by simpa using Lt hL.size hb.size,fun b hlt=> ?_⟩
 by_cases e:b=a
 ·subst e;rw[hr];exact Ln w1 b 0 _ _ (.int .i32 0) ((hb.block b hlt).trans (hL.self _ _ _ _ _ hr))
 ·rw[<-hL.oth b hlt e,<-hb.block b hlt];exact Below.heap_setCell _ _ _ _ e
theorem Qgi(w:World)(a st k:Nat)(caps:Array Value)(hk:k=40∨k=40)(h0:w.cell? ⟨a,0,none⟩=some (.int .i32 0))(hf:w.frozen? ⟨a,0,none⟩=false)(h2:w.cell? ⟨a,2,none⟩=some (Zv st))(R:Value->Value->World->Prop)
  (HC:Calls prog k caps (w.setCell ⟨a,0,none⟩ (.int .i32 1)) (Inn a R)) :
  Calls prog 39 #[Zv a,.func (.func k) #[] caps] w (Out a R):=by
 have c2:(w.setCell ⟨a,0,none⟩ (.int .i32 1)).cell? ⟨a,2,none⟩=some (Zv st):=by
  rw[Lz _ ⟨a,0,none⟩ ⟨a,2,none⟩ _ (by simp)];exact h2
 generalize hW:w.setCell ⟨a,0,none⟩ (.int .i32 1)=W at *
 rcases hk with rfl|rfl
 all_goals
  go_enter_defers func39,ntmps39
  go_wp2_with (go_at_call 42;refine(lock_free Tryz.muLib ⟨a,0,none⟩ _ h0 hf).mono ?_;rintro e w' ⟨rfl,hw⟩;rw[hW] at hw;subst hw)
  refine HC.mono ?_
  rintro e w' ⟨x,y,rfl,g0,g1,g2⟩;go_wp2;refine leaves_cons (f:=43) (args:=#[Zv a]) (by simp) (by simp[go_sem]) ?_
  refine(unlock_deferred Tryz.muLib ⟨a,0,none⟩ .returning _ g0 g1).mono ?_
  rintro e u' w'' ⟨rfl,rfl,rfl⟩;exact⟨_,results_tmp2 rfl _ _ _,x,y,w',rfl,g2,rfl⟩
theorem Qgk(w:World)(a:Nat)(sa:Addr)(k:Nat)(caps:Array Value)(hk:k=23∨k=23∨k=23∨k=23){x1 x3 x4 x5:Value}(hr:w.heap[a]? = some (rwL 0 x1 (some sa) x3 x4 x5))(x y:Value)
  (HC:∀W,Lkd a w W->Calls prog k caps W fun e w'=>e= .returned (.tuple #[x,y])∧Below W.heap.size W w') :
  Calls prog 22 #[Zv a,.func (.func k) #[] caps] w fun e w'=>e= .returned (.tuple #[x,y])∧Below w.heap.size w w':=by
 have hL:=QjM (Lc w.heap.size w) (Array.getElem?_eq_some_iff.1 hr).1
 have ha:=(Array.getElem?_eq_some_iff.1 hr).1
 obtain⟨h0,_,_,_,_,hf⟩:=YI hr;obtain⟨c0,c2,_,_,_,cf⟩:=YI (hL.self _ _ _ _ _ hr);generalize hW:w.setCell ⟨a,0,none⟩ (.int .i32 1)=W at *;have HC:=HC W hL
 rcases hk with rfl|rfl|rfl|rfl
 all_goals
  go_enter_defers func22,ntmps22
  go_wp2_with (go_at_call 42;refine(lock_free Tryz.muLib ⟨a,0,none⟩ _ h0 (hf 0)).mono ?_;rintro e w' ⟨rfl,hw⟩;rw[hW] at hw;subst hw)
  refine HC.mono ?_
  rintro e w1 ⟨rfl,hb⟩;have hr1:=(hb.block a (LL ha hL.size)).trans (hL.self _ _ _ _ _ hr);obtain⟨g0,_,_,_,_,gf⟩:=YI hr1;have hE:=QgT hr hL (hb.mono hL.size);go_wp2;refine leaves_cons (f:=43) (args:=#[Zv a]) (by simp) (by simp[go_sem]) ?_
  refine(unlock_deferred Tryz.muLib ⟨a,0,none⟩ .returning _ g0 (gf 0)).mono ?_
  rintro e u' w'' ⟨rfl,rfl,rfl⟩;exact⟨_,results_tmp2 rfl _ _ _,rfl,hE⟩
theorem Qgj(w:World)(a:Nat)(sa:Addr)(caps:Array Value){x1 x3 x4 x5:Value}(hr:w.heap[a]? = some (rwL 0 x1 (some sa) x3 x4 x5))(n:Int)(r:BA)(y:Value)
  (HC:∀W,Lkd a w W->Calls prog 16 caps W fun e w'=>e= .returned (.tuple #[.agg #[.int .u64 n,.string r],y])∧Below W.heap.size W w') :
  Calls prog 15 #[Zv a,.func (.func 16) #[] caps] w fun e w'=>e= .returned (.tuple #[.agg #[.int .u64 n,.string r],y])∧Below w.heap.size w w':=by
 have ha:=(Array.getElem?_eq_some_iff.1 hr).1
 have hb2:Below w.heap.size w ((w.alloc (.cells #[.int .u64 0,.string ⟨#[]⟩] 33)).alloc (.cells #[.int .u64 0,.string ⟨#[]⟩] 33)):=(Lc _ _).alloc (Lb _) _ |>.alloc (by simp) _
 have k4:((w.alloc (.cells #[.int .u64 0,.string ⟨#[]⟩] 33)).alloc (.cells #[.int .u64 0,.string ⟨#[]⟩] 33)).heap[w.heap.size]? = some (.cells #[.int .u64 0,.string ⟨#[]⟩] 33 (0,0)):=by
  rw[(MapKept.heap_alloc _ _).2 _ (by simp)];exact(MapKept.heap_alloc w _).1
 generalize hW0:(w.alloc (.cells #[.int .u64 0,.string ⟨#[]⟩] 33)).alloc (.cells #[.int .u64 0,.string ⟨#[]⟩] 33)=W0 at *;have hL:=QjM hb2 ha;have hr0:=(hb2.block a ha).trans hr;obtain⟨h0,_,_,_,_,hf⟩:=YI hr0;obtain⟨c0,c2,_,_,_,cf⟩:=YI (hL.self _ _ _ _ _ hr);have k5:(W0.setCell ⟨a,0,none⟩ (.int .i32 1)).heap[w.heap.size]? = some (.cells #[.int .u64 0,.string ⟨#[]⟩] 33 (0,0)):=(Below.heap_setCell _ _ _ _ (by show w.heap.size≠a;omega)).trans k4
 have hz:w.heap.size<(W0.setCell ⟨a,0,none⟩ (.int .i32 1)).heap.size:=(Array.getElem?_eq_some_iff.1 k5).1
 generalize hW:W0.setCell ⟨a,0,none⟩ (.int .i32 1)=W at *;have HC:=HC W hL
 go_enter_defers func15,ntmps15
 go_wp2_with (go_at_call 42;refine(lock_free Tryz.muLib ⟨a,0,none⟩ _ h0 (hf 0)).mono ?_;rintro e w' ⟨rfl,hw⟩;rw[hW] at hw;subst hw)
 refine HC.mono ?_
 rintro e w1 ⟨rfl,hb⟩;have k6:=(hb.block _ hz).trans k5;have k7:w1.cell? ⟨w.heap.size,0,none⟩=some (.int .u64 0):=by rw[cell_of_row w1 _ 0 _ _ (0,0) k6];rfl
 have k8:w1.cell? ⟨w.heap.size,1,none⟩=some (.string ⟨#[]⟩):=by rw[cell_of_row w1 _ 1 _ _ (0,0) k6];rfl
 have k9:∀j,w1.frozen? ⟨w.heap.size,j,none⟩=false:=fun j=>frozen_of_row w1 _ j _ _ k6
 have k10:=k9 0;have k11:=k9 1;have hr1:((w1.setCell ⟨w.heap.size,0,none⟩ (.int .u64 n)).setCell ⟨w.heap.size,1,none⟩ (.string r)).heap[a]? = _:=(Below.heap_setCell _ _ _ _ (by show a≠w.heap.size;omega)).trans ((Below.heap_setCell _ _ _ _ (by show a≠w.heap.size;omega)).trans ((hb.block a (LL ha hL.size)).trans (hL.self _ _ _ _ _ hr)))
 obtain⟨g0,_,_,_,_,gf⟩:=YI hr1;have hE:=QgT hr hL (((hb.mono hL.size).setCell (p:=⟨w.heap.size,0,none⟩) (Lb _) (.int .u64 n)).setCell (p:=⟨w.heap.size,1,none⟩) (Lb _) (.string r));go_wp2;refine leaves_cons (f:=43) (args:=#[Zv a]) (by simp) (by simp[go_sem]) ?_
 refine(unlock_deferred Tryz.muLib ⟨a,0,none⟩ .returning _ g0 (gf 0)).mono ?_
 rintro e u' w'' ⟨rfl,rfl,rfl⟩;refine⟨_,?_,rfl,hE⟩
 have q6:=Ln _ w.heap.size 1 _ _ (.string r) (Ln w1 w.heap.size 0 _ _ (.int .u64 n) k6);have q7:(((w1.setCell ⟨w.heap.size,0,none⟩ (.int .u64 n)).setCell ⟨w.heap.size,1,none⟩ (.string r)).setCell ⟨a,0,none⟩ (.int .i32 0)).heap[w.heap.size]? = _:=(Below.heap_setCell _ _ _ _ (by show w.heap.size≠a;omega)).trans q6
 have q8:=cell_of_row _ w.heap.size 0 _ _ (0,0) q7;have q9:=cell_of_row _ w.heap.size 1 _ _ (0,0) q7;simp at q8 q9;generalize ((w1.setCell ⟨w.heap.size,0,none⟩ (.int .u64 n)).setCell ⟨w.heap.size,1,none⟩ (.string r)).setCell ⟨a,0,none⟩ (.int .i32 0)=W9 at *;simp[results,results15,go_sem,q8,q9]
end
def sm(x:BA):BA:=dg 32 (Qw x)
def smL(L:LB):LB:=L.map sm
theorem Qg7(x:BA):(sm x).size=32:=Q3 (Lb _) _
theorem QcO(w:World)(ht:Tb w)(x:BA)(hx:x.size<=1048576)(s:BA)(hs:sm x=s) :
  Calls prog 25 #[.string x] w fun e w'=>e= .returned (.string s)∧Below w.heap.size w w':=by
 have HLf:Hid (Calls prog 55 #[.int .i64 32,.string x] w fun e w'=>e= .returned (.string s)∧Below w.heap.size w w'):=JB w ht 32 x (by omega) s hs
 clear ht hx hs
 go_enter func25,ntmps25
 go_wp2_with (go_at_call 55;(with_reducible refine HLf.out.mono ?_);rintro e w1 ⟨rfl,hb⟩)
 go_ret
 exact⟨rfl,hb⟩
def NxQ(w:World)(k:Nat)(L:LB)(x:BA)(e:Ending)(w':World):Prop :=
 ∃vm r' vr',e= .returned (.agg #[.string x,.string (sm x),vm,Zv r'])∧Qg w' w.heap.size vm (mdL k L x)∧Kp.Rg w' r' vr' (k:Int) (L.length+1) (pkL k (L++[x]))∧w.heap.size<=r'∧(∀g,vr'.ownBlock=some g->w.heap.size<=g)∧Below w.heap.size w w'
theorem Qoi(k:Nat)(hk:k<=32)(t:BA):(dg 32 t).extract 0 k=dg k t:=by
 unfold dg;rw[ByteArray.extract_extract,Lp,Lp,Ir hk]
theorem Qo3(k:Nat)(hk:k<=32)(L:LB)(x:BA):(sm x).extract 0 k=nd k (L++[x]) 0 L.length:=by
 unfold sm;rw[Qoi k hk,nd,La,Iv];rfl
theorem Qpx{k n:Nat}{P:LB}{w:World}{r:Nat}{v:Value}(h:Kp.Rg w r v (k:Int) n P)(hk:clk (k:Int)=k):Kp.fe (k:Int) n P=0:=by
 have h1:=h.k1;have h2:=h.k2;have hn:=h.hn;unfold Kp.fe;rw[Le (by omega),Le (by omega),Le]
 rw[h.hl,Qeq hn];refine fun q=>q.elim (fun q=>q rfl) (fun q=>q fun s hs=> ?_)
 have:=h.hs s hs;omega
theorem QdF{w:World}{r p i:Nat}{v x:Value}{k:Int}{n:Nat}{P:LB}(h:Kp.Rg w r v k n P)(h1:r≠p)(h2:∀g,v.ownBlock=some g->g≠p):Kp.Rg (w.setCell ⟨p,i,none⟩ x) r v k n P :=
 ⟨(Below.heap_setCell _ _ _ _ h1).trans h.blk,St.QK h.own (fun g hg=>Below.heap_setCell _ _ _ _ (h2 g hg)),h.k1,h.k2,h.hn,h.hl,h.hs⟩
theorem Qjm{w:World}{b:Nat}{x0 x1 x2 x3:Value}{T:TypeId}(h:w.heap[b]? = some (.cells #[x0,x1,x2,x3] T (0,0)))(y0 y1 y2 y3:Value):((((w.setCell ⟨b,0,none⟩ y0).setCell ⟨b,1,none⟩ y1).setCell ⟨b,2,none⟩ y2).setCell ⟨b,3,none⟩ y3).heap[b]? = some (.cells #[y0,y1,y2,y3] T (0,0)) :=
 Ln _ b 3 _ _ y3 (Ln _ b 2 _ _ y2 (Ln _ b 1 _ _ y1 (Ln w b 0 _ _ y0 h)))
theorem YP{w:World}{B:Nat}{v:Value}{l:LB}(h:Qg w B v l):∃ao n cap,v= .slice ao n cap:=by
 obtain⟨_,h2⟩:=h
 rcases h2 with ⟨rfl,_⟩|⟨g,cap,cur,rfl,_⟩
 ·exact⟨_,_,_,rfl⟩
 ·exact⟨_,_,_,rfl⟩
theorem Qj1(w:World)(ht:Tb w)(a m r:Nat)(vr:Value)(k:Nat)(L:LB)(hF:Frs w m (k:Int) L)(hR:Kp.Rg w r vr (k:Int) L.length (pkL k L))(hc:clk (k:Int)=k)
  (c3:w.cell? ⟨a,3,none⟩=some (.pointer (some ⟨m+1,0,none⟩))) (c4:w.cell? ⟨a,4,none⟩=some (Zv r)) (x:BA) (hx:x.size<=1048576) (hL:L.length<65536) :
  Calls prog 73 #[Zv a,.string x] w (NxQ w k L x):=by
 have k1:(1:Int)<=(k:Int):=hF.k1;have k2:(k:Int)<=32:=hF.k2;have hax:=Ll _ _ c3;obtain⟨s,hs⟩:∃s,sm x=s:=⟨_,rfl⟩;have hss:s.size=32:=by rw[<-hs];exact Qg7 x
 obtain⟨P,hP⟩:∃P,pkL k L=P:=⟨_,rfl⟩;rw[hP] at hR;obtain⟨w1,hw1⟩:∃W,w.alloc (.cells #[.string ⟨#[]⟩,.string ⟨#[]⟩,.slice none 0 0,.pointer none] 151)=W:=⟨_,rfl⟩;have u1:Below w.heap.size w w1:=by rw[<-hw1];exact bal (Lc _ _) _
 have k4:w1.heap[w.heap.size]? = some (.cells #[.string ⟨#[]⟩,.string ⟨#[]⟩,.slice none 0 0,.pointer none] 151 (0,0)):=by rw[<-hw1];exact Lr w _
 have ht:=ht.next u1;have hF:=hF.next u1 (Lb _);have hR:=hR.next u1 (Lb _);have c3:=(u1.cell (p:=⟨a,3,none⟩) hax).trans c3;have c4:=(u1.cell (p:=⟨a,4,none⟩) hax).trans c4;have hax:a<w1.heap.size:=LL hax u1.size;have hz1:w.heap.size<w1.heap.size:=(Array.getElem?_eq_some_iff.1 k4).1
 have HF:Hid (∀W,Below w1.heap.size w1 W->W.cell? ⟨a,3,none⟩=some (.pointer (some ⟨m+1,0,none⟩))∧W.cell? ⟨a,4,none⟩=some (Zv r)):=fun W hW=>⟨(hW.cell (p:=⟨a,3,none⟩) hax).trans c3,(hW.cell (p:=⟨a,4,none⟩) hax).trans c4⟩
 have HS:Hid (∀W,Below w1.heap.size w1 W->Calls prog 25 #[.string x] W fun e w'=>e= .returned (.string s)∧Below w1.heap.size w1 w'):=fun W hW=>(QcO W (ht.next hW) x hx s hs).mono fun e w' z=>⟨z.1,Qa hW z.2⟩
 have HK:Hid (∀W,Below w1.heap.size w1 W->Calls prog 122 #[.pointer (some ⟨m+1,0,none⟩)] W fun e w'=>e= .returned (.int .i64 k)∧W=w'):=fun W hW=>(Qb3 W m k L (hF.next hW (Lb _))).mono fun e w' z=>⟨z.1,z.2.symm⟩
 have HZ:Hid (∀W,Below w1.heap.size w1 W->Calls prog 123 #[Zv r] W fun e w'=>e= .returned (.int .u64 L.length)∧Below w1.heap.size w1 w'∧Below W.heap.size W w'):=fun W hW=>(Kp.QbU W r vr k L.length P (hR.next hW (Lb _))).mono fun e w' z=>⟨z.1,Qa hW z.2,z.2⟩
 have HP:Hid (∀W,Below w1.heap.size w1 W->Calls prog 124 #[Zv r] W fun e w'=> ∃u,e= .returned u∧Qg w' w1.heap.size u P∧Below w1.heap.size w1 w'):=fun W hW=>(Kp.Qf3 W r vr k L.length P (hR.next hW (Lb _))).mono fun e w' z=>by
  obtain⟨u,z1,z2,z3⟩:=z;exact⟨u,z1,QN z2 hW.size,Qa hW z3⟩
 have HM:Hid (∀W u,Below w1.heap.size w1 W->Qg W w1.heap.size u P->Calls prog 72 #[.int .i64 k,.int .u64 L.length,u] W fun e w'=> ∃p v,e= .returned (.tuple #[Zv p,.int .i64 0])∧Kp.Rg w' p v (k:Int) L.length P∧w1.heap.size<=p∧(∀g,v.ownBlock=some g->w1.heap.size<=g)∧Below w1.heap.size w1 w'):=fun W u hW ho=>by
  obtain⟨ao,b,cap,rfl,hr,_,hno⟩:=QJ ho (fun y hy=>by have:=hR.small y hy;omega)
  have hsh:=hR.short;refine(Kp.Qen W k L.length (by omega) ao b 0 cap P hr hno (by omega) 0 (Qpx hR hc)).mono fun e w' z=> ?_
  obtain⟨p,v,z1,z2,z3,z4,z5⟩:=z.ok;exact⟨p,v,z1,z2,Lt hW.size z3,fun g hg=>Lt hW.size (z4 g hg),Qa hW z5⟩
 have HA:Hid (∀W p v,Below w1.heap.size w1 W->w1.heap.size<=p->(∀g,v.ownBlock=some g->w1.heap.size<=g)->Kp.Rg W p v (k:Int) L.length P->Calls prog 125 #[Zv p,.string (s.extract 0 k)] W fun e w'=> ∃vm vr',e= .returned (.tuple #[vm,.int .i64 0])∧Qg w' w1.heap.size vm (mdL k L x)∧Kp.Rg w' p vr' (k:Int) (L.length+1) (pkL k (L++[x]))∧(∀g,vr'.ownBlock=some g->w1.heap.size<=g)∧Below w1.heap.size w1 w'):=fun W p v hW hp hv hr=>by
  have hd:=Kp.Qi4 k1 k2 (L++[x]) 0 L.length L.length (by rw[ND,Na]) (by decide) (by rw[ND];omega)
  rw[hc,Qkq,hP,show L.length+2^0=L.length+1 from rfl,show((0:Nat):Int)=0 from rfl,<-Qo3 k (by omega) L x,hs] at hd
  have hd2:Hid (er (k:Int) L.length 0 (s.extract 0 k)=0∧nxN (k:Int) L.length 0 (s.extract 0 k)=L.length+1∧nxP (k:Int) L.length P 0 (s.extract 0 k)=pkL k (L++[x])∧an (k:Int) L.length P 0 (s.extract 0 k)=mdL k L x):=by
   obtain⟨d1,d2,d3,d4⟩:=hd.out;refine⟨d1,d2,?_,?_⟩
   ·rw[d3];unfold pkL;rw[Lh];rfl
   ·rw[d4];unfold mdL;rw[show 40-0=40 from rfl]
    refine NL fun j _=> ?_
    rw[Lp]
  refine(Kp.Oo W (ht.next hW) p v k L.length P hr (s.extract 0 k) 0 _ _ _ hd2).mono fun e w' z=> ?_
  obtain⟨vm,v',z1,z2⟩:=z;refine⟨vm,v',z1,QN z2.own hW.size,z2.rg,fun g hg=> ?_,hW.trans (z2.ch.below.mono hp)⟩
  rcases z2.new with e|e
  ·rw[e] at hg;exact hv g hg
  ·exact Lt hW.size (e g hg)
 have hk0:(0:Int)<=(k:Int):=by omega
 have hks:(k:Int)<=(s.size:Int):=by omega
 have HE:Hid (∀W va vn vc r' vr',Below w1.heap.size w1 W->Qg W w1.heap.size (.slice va vn vc) (mdL k L x)->Kp.Rg W r' vr' (k:Int) (L.length+1) (pkL k (L++[x]))->w1.heap.size<=r'->(∀g,vr'.ownBlock=some g->w1.heap.size<=g) ->
   NxQ w k L x (.returned (.agg #[.string x,.string s,.slice va vn vc,Zv r'])) ((((W.setCell ⟨w.heap.size,0,none⟩ (.string x)).setCell ⟨w.heap.size,1,none⟩ (.string s)).setCell ⟨w.heap.size,2,none⟩ (.slice va vn vc)).setCell ⟨w.heap.size,3,none⟩ (Zv r'))):=fun W va vn vc r' vr' g1 g2 g3 g4 g5=>by
  rw[<-hs];have h1:r'≠w.heap.size:=by omega
  have h2:∀g,vr'.ownBlock=some g->g≠w.heap.size:=fun g hg=>by have:=g5 g hg;omega
  have hb:Below w.heap.size w W:=u1.trans (g1.mono u1.size);exact⟨_,r',vr',rfl,QN (Kp.YY (Kp.YY (Kp.YY (Kp.YY g2 hz1) hz1) hz1) hz1) u1.size,QdF (QdF (QdF (QdF g3 h1 h2) h1 h2) h1 h2) h1 h2,Lt u1.size g4,fun g hg=>Lt u1.size (g5 g hg),
   (((hb.setCell (p:=⟨w.heap.size,0,none⟩) (Lb _) _).setCell (p:=⟨w.heap.size,1,none⟩) (Lb _) _).setCell (p:=⟨w.heap.size,2,none⟩) (Lb _) _).setCell (p:=⟨w.heap.size,3,none⟩) (Lb _) _⟩
 have HK4:Hid (∀W,Below w1.heap.size w1 W->W.heap[w.heap.size]? = some (.cells #[.string ⟨#[]⟩,.string ⟨#[]⟩,.slice none 0 0,.pointer none] 151 (0,0))):=fun W hW=>(hW.block _ hz1).trans k4
 have u:Below w1.heap.size w1 w1.drew:=(Lc _ _).drew;clear ht hF hR hP hx hs k4 u1 hL k1 k2 hss hc
 go_enter func73,ntmps73
 go_upto_region 1 with (fail)
 go_region_held3 (fun Z=>Z.cell? ⟨a,3,none⟩=some (.pointer (some ⟨m+1,0,none⟩))) (first|assumption|(with_reducible exact(HF.out _ u).1)) (first
  | (go_at_call 25;(with_reducible refine(HS.out _ u).mono ?_);rintro e w2 ⟨rfl,u⟩)
  | (go_at_call 122;(with_reducible refine(HK.out _ u).mono ?_);rintro e w3 ⟨rfl,rfl⟩))
 all_goals
  obtain⟨d3,d4⟩:=HF.out _ u;replace u:Below w1.heap.size w1 w2.drew:=u.drew
  go_upto_region 2 with (fail)
  go_region_held3 (fun Z=>Z.cell? ⟨a,4,none⟩=some (Zv r)) (first|assumption|(with_reducible exact(HF.out _ u).2)) (first
   | (go_at_call 123;(with_reducible refine(HZ.out _ u).mono ?_);rintro e w4 ⟨rfl,u,-⟩)
   | (go_at_call 124;(with_reducible refine(HP.out _ u).mono ?_);rintro e w5 ⟨vp,rfl,op,u⟩)
   | (go_at_call 72;(with_reducible refine(HM.out _ _ u op).mono ?_);rintro e w6 ⟨p,v,rfl,hr,hp,hv,u⟩))
 all_goals
  go_upto_region 4 with (go_at_call 125;(with_reducible refine(HA.out _ _ _ u hp hv hr).mono ?_);rintro e w7 ⟨vm,vr',rfl,om,hr7,hv7,u⟩)
  obtain⟨va,vn,vc,rfl⟩:=YP om;have k7:=HK4.out _ u;have e0:w7.cell? ⟨w.heap.size,0,none⟩=some (.string ⟨#[]⟩):=by rw[cell_of_row w7 _ 0 _ _ (0,0) k7];rfl
  have e1:w7.cell? ⟨w.heap.size,1,none⟩=some (.string ⟨#[]⟩):=by rw[cell_of_row w7 _ 1 _ _ (0,0) k7];rfl
  have e2:w7.cell? ⟨w.heap.size,2,none⟩=some (.slice none 0 0):=by rw[cell_of_row w7 _ 2 _ _ (0,0) k7];rfl
  have e3:w7.cell? ⟨w.heap.size,3,none⟩=some (.pointer none):=by rw[cell_of_row w7 _ 3 _ _ (0,0) k7];rfl
  have z0:=frozen_of_row w7 _ 0 _ _ k7;have z1:=frozen_of_row w7 _ 1 _ _ k7;have z2:=frozen_of_row w7 _ 2 _ _ k7;have z3:=frozen_of_row w7 _ 3 _ _ k7;go_wp2;have HN:=HE.out w7 va vn vc p vr' u om hr7 hp hv7;have q:=Qjm k7 (.string x) (.string s) (.slice va vn vc) (Zv p);have q0:=cell_of_row _ w.heap.size 0 _ _ (0,0) q;have q1:=cell_of_row _ w.heap.size 1 _ _ (0,0) q;have q2:=cell_of_row _ w.heap.size 2 _ _ (0,0) q;have q3:=cell_of_row _ w.heap.size 3 _ _ (0,0) q;simp at q0 q1 q2 q3;generalize (((w7.setCell ⟨w.heap.size,0,none⟩ (.string x)).setCell ⟨w.heap.size,1,none⟩ (.string s)).setCell ⟨w.heap.size,2,none⟩ (.slice va vn vc)).setCell ⟨w.heap.size,3,none⟩ (Zv p)=W9 at *;exact LA (v := .agg #[.string x,.string s,.slice va vn vc,Zv p]) (by simp[results,results73,go_sem,q0,q1,q2,q3]) rfl HN
def Lef(a m r:Nat)(vr vs:Value)(x:Nat):Prop:=x=a∨x=m∨x=m+1∨x=r∨vr.ownBlock=some x∨vs.ownBlock=some x
structure Led(w:World)(g:Int)(a q p m r:Nat)(vr vs:Value)(T:Nat->Prop)(D:St.DV)(S:St.SV)(L:LB):Prop where
 blk:w.heap[a]? = some (rwL g (.int .u32 0) (Zp q) (.pointer (some ⟨m+1,0,none⟩)) (Zv r) vs)
 sk:St.Sk w q p T D S
 fr:Frs w m (S.k:Int) L
 rg:Kp.Rg w r vr (S.k:Int) L.length (pkL S.k L)
 own:Qg w 0 vs (smL L)
 sz:∀s∈L,s.size<=1048576
 ap:∀x,T x -> ¬Lef a m r vr vs x
 av:∀x,vr.ownBlock=some x->vs.ownBlock≠some x
section
variable {w W:World} {g:Int} {a q p m r:Nat} {vr vs:Value} {T:Nat->Prop} {D D':St.DV} {S S':St.SV} {L:LB}
theorem Oi{B:Nat}{v:Value}{l:LB}(h:Qg w B v l){x:Nat}(hx:v.ownBlock=some x):x<w.heap.size:=(LX h x hx).2
theorem OW{B T s n:Nat}{v:Value}{xs:List Value}(h:w.ownsRow B T s v n xs){x:Nat}(hx:v.ownBlock=some x):∃cur,w.heap[x]? = some (.cells cur T (0,0)):=by
 obtain⟨_,h2⟩:=h
 rcases h2 with ⟨rfl,_⟩|⟨g,cap,cur,rfl,_,hh,_⟩
 ·cases hx
 ·cases hx;exact⟨cur,hh⟩
theorem Led.k1(h:Led w g a q p m r vr vs T D S L):1<=S.k∧S.k<=32:=⟨h.sk.small.1,h.sk.small.2.1⟩
theorem Led.clk(h:Led w g a q p m r vr vs T D S L):clk (S.k:Int)=S.k:=by
 have:=Ut h.fr.k1 h.fr.k2;omega
theorem Led.lt(h:Led w g a q p m r vr vs T D S L){x:Nat}(hx:Lef a m r vr vs x):x<w.heap.size:=by
 rcases hx with rfl|rfl|rfl|rfl|e|e
 ·exact(Array.getElem?_eq_some_iff.1 h.blk).1
 ·have:=h.fr.lt;omega
 ·exact h.fr.lt
 ·exact h.rg.lt
 ·exact Oi h.rg.own e
 ·exact Oi h.own e
theorem Led.same(h:Led w g a q p m r vr vs T D S L)(h1:∀x,T x->W.heap[x]? = w.heap[x]?)(h2:∀x,Lef a m r vr vs x->W.heap[x]? = w.heap[x]?):Led W g a q p m r vr vs T D S L :=
 ⟨(h2 a (.inl rfl)).trans h.blk,h.sk.same h1,h.fr.same (h2 m (.inr (.inl rfl))) (h2 _ (.inr (.inr (.inl rfl)))),
  ⟨(h2 r (.inr (.inr (.inr (.inl rfl))))).trans h.rg.blk,St.QK h.rg.own fun x hx=>h2 x (.inr (.inr (.inr (.inr (.inl hx))))),h.rg.k1,h.rg.k2,h.rg.hn,h.rg.hl,h.rg.hs⟩,
  St.QK h.own fun x hx=>h2 x (.inr (.inr (.inr (.inr (.inr hx))))),h.sz,h.ap,h.av⟩
theorem Led.next(h:Led w g a q p m r vr vs T D S L)(hb:Below w.heap.size w W):Led W g a q p m r vr vs T D S L :=
 h.same (fun x hx=>hb.block x (h.sk.lt hx)) (fun x hx=>hb.block x (h.lt hx))
theorem Led.nr(h:Led w g a q p m r vr vs T D S L):a≠m∧a≠m+1∧a≠r∧(∀x,vr.ownBlock=some x->x≠a) ∧ ∀x,vs.ownBlock=some x->x≠a:=by
 have hb:=h.blk;refine⟨?_,?_,?_,?_,?_⟩
 ·rintro rfl;obtain⟨es,c,hx,_⟩:=h.fr.mp;rw[hb] at hx;cases hx
 ·rintro rfl;have:=h.fr.blk;rw[hb] at this;cases this
 ·rintro rfl;have:=h.rg.blk;rw[hb] at this;cases this
 ·rintro x hx rfl;obtain⟨cur,hc⟩:=OW h.rg.own hx;rw[hb] at hc;cases hc
 ·rintro x hx rfl;obtain⟨cur,hc⟩:=OW h.own hx;rw[hb] at hc;cases hc
theorem Led.lock{g':Int}(h:Led w g a q p m r vr vs T D S L)(ho:∀b,b<w.heap.size->b≠a->W.heap[b]? = w.heap[b]?)(hr:W.heap[a]? = some (rwL g' (.int .u32 0) (Zp q) (.pointer (some ⟨m+1,0,none⟩)) (Zv r) vs)):Led W g' a q p m r vr vs T D S L:=by
 obtain⟨n1,n2,n3,n4,n5⟩:=h.nr;have hk:∀x,Lef a m r vr vs x->x≠a->W.heap[x]? = w.heap[x]? := fun x hx hne=>ho x (h.lt hx) hne
 exact⟨hr,h.sk.same fun x hx=>ho x (h.sk.lt hx) (fun e=>h.ap x hx (.inl e)),h.fr.same (hk m (.inr (.inl rfl)) n1.symm) (hk _ (.inr (.inr (.inl rfl))) n2.symm),
  ⟨(hk r (.inr (.inr (.inr (.inl rfl)))) n3.symm).trans h.rg.blk,St.QK h.rg.own fun x hx=>hk x (.inr (.inr (.inr (.inr (.inl hx))))) (n4 x hx),h.rg.k1,h.rg.k2,h.rg.hn,h.rg.hl,h.rg.hs⟩,
  St.QK h.own fun x hx=>hk x (.inr (.inr (.inr (.inr (.inr hx))))) (n5 x hx),h.sz,h.ap,h.av⟩
theorem Led.lkd(h:Led w 0 a q p m r vr vs T D S L)(hL:Lkd a w W):Led W 1 a q p m r vr vs T D S L:=h.lock hL.oth (hL.self _ _ _ _ _ h.blk)
theorem Led.set(h:Led w g a q p m r vr vs T D S L)(g':Int):Led (w.setCell ⟨a,0,none⟩ (.int .i32 g')) g' a q p m r vr vs T D S L :=
 h.lock (fun _ _ hne=>Below.heap_setCell _ _ _ _ hne) (Ln w a 0 _ _ (.int .i32 g') h.blk)
theorem Led.cells(h:Led w g a q p m r vr vs T D S L):w.cell? ⟨a,0,none⟩=some (.int .i32 g)∧w.cell? ⟨a,2,none⟩=some (Zv q)∧w.cell? ⟨a,3,none⟩=some (.pointer (some ⟨m+1,0,none⟩))∧w.cell? ⟨a,4,none⟩=some (Zv r)∧w.cell? ⟨a,5,none⟩=some vs ∧ ∀j,w.frozen? ⟨a,j,none⟩=false:=YI h.blk
end
section
attribute [local go_sem ↓] St.JO
theorem Qfl(bs:BA):∀(n i:Nat) (r:List UInt8),bs.size-i=n->ByteArray.toList.loop bs i r=r.reverse++bs.data.toList.drop i:=by
 intro n
 induction n with
 | zero=>
  intro i r h;rw[ByteArray.toList.loop,Le (by omega)]
  rw[Nc (by simp;exact(by omega:bs.size<=i)),L7]
 | succ n ih=>
  intro i r h;have hi:i<bs.size:=by omega
  rw[ByteArray.toList.loop,Lo hi,ih (i+1) _ (by omega)]
  have hl:i<bs.data.toList.length:=by simp;exact hi
  rw[LV hl,Iw,LP];have:bs.get! i=bs.data.toList[i]:=by
   show bs.data[i]! = _
   have hi2:i<bs.data.size:=hi;rw[getElem!_pos bs.data i hi2];simp
  rw[this];rfl
theorem Qec(bs:BA):bs.toList=bs.data.toList:=by
 rw[ByteArray.toList,Qfl bs bs.size 0 [] rfl];rfl
theorem QiK{x y:BA}(h:x≠y):(x.toList == y.toList)=false:=by
 rw[Qec,Qec];simp only[beq_eq_false_iff_ne,ne_eq];intro e;exact h (II (Array.toList_inj.1 e))
theorem QcI(w:World)(ty B:Nat)(v:Value)(L:LB)(hown:Qg w B v L)(ad:Addr)(mc:Nat)(c:BA)(hr:∀j u,[Value.string c][j]? = some u->w.cell? (ad.add j)=some u)
  (hlen:L.length+1<=1048576) (hB:B<=w.heap.size) :
  ∃v' w',(Builtin.append_ #[22,22] ty #[v,.slice (some ad) 1 mc]).run prog w= .ok v' w'∧Qg w' B v' (L++[c])∧St.QnB w w' v v':=by
 obtain⟨i0,hi,hz0,hz1,hz2⟩:=info_parts Tryz.infoS;have hap:∀ {w':World} {v':Value} {n:Nat},n=L.length+1->w'.ownsRow B 9 1 v' n (L.map Value.string++[.string c])->Qg w' B v' (L++[c]):=fun hn h=>by
  rw[Qg,Nd,Lh,LJ,Ip,Lp,<-hn];exact h
 have h1c:∀u∈([.string c]:List Value),u.oneCell'=true:=by intro u hu;simp at hu;subst hu;rfl
 have hown0:=hown
 rcases hown.2 with ⟨rfl,h0⟩|⟨g,cp,cur,rfl,hgb,hh,hc⟩
 ·have hL:L=[]:=List.length_eq_zero_iff.1 h0;subst hL;obtain⟨v',w',hrun,r1,r2,_⟩:=run_append_own (P:=prog) w w.heap.size 22 ty 9 i0 (.string ByteArray.empty) 1 16 underlying22 hi hz0 hz1 hz2 rfl (by decide) _ 0 [] (Nj _ _ _ _) ad 1 mc [.string c] rfl hr h1c (by decide) (by decide) (Lb _)
  exact⟨v',w',hrun,hap rfl (by simpa using World.ownsRow.mono r1 hB),.inr ⟨r2,fun k hk=>(LX r1 k hk).1⟩⟩
 ·by_cases hfit:L.length+1<=cp
  ·obtain⟨w',hrun,r1,r2⟩:=run_append_fits (P:=prog) w B 22 ty 9 i0 1 underlying22 hi hz1 g L.length cp (L.map Value.string) hown0 ad 1 mc [.string c] rfl hr h1c hfit;exact⟨_,w',hrun,hap rfl r1,.inl ⟨g,L.length,cp,rfl,rfl,r2⟩⟩
  ·obtain⟨v',w',hrun,r1,r2⟩:=run_append_arg_grows (P:=prog) w 22 ty 9 i0 (.string ByteArray.empty) 1 16 underlying22 hi hz0 hz1 hz2 rfl (by decide) ⟨g,0,none⟩ L.length cp (L.map Value.string) hown0.1 (IH hown0 rfl) ad 1 mc [.string c] rfl hr (by omega) (by unfold maxLen;omega) (by omega)
   exact⟨v',w',hrun,hap rfl (World.ownsRow.mono r1 hB),.inr ⟨r2,fun k hk=>(LX r1 k hk).1⟩⟩
def TkQ(w:World)(g:Int)(a q p m r:Nat)(vr vs:Value)(T:Nat->Prop)(D:St.DV)(S:St.SV)(L:LB)(x:BA)(r':Nat)(vr':Value)(W:World):Prop :=
 ∃vs',Led W g a q p m r' vr' vs' T D S (L++[x])∧St.Upo (Lef a m r vr vs) w W ∧ ∀b,vs'.ownBlock=some b->vs.ownBlock=some b∨w.heap.size<=b
section
variable {w w1 w2:World} {g:Int} {a q p m r r':Nat} {vr vs vr':Value} {T:Nat->Prop} {D:St.DV} {S:St.SV} {L:LB} {x:BA}
structure Nw(w:World)(T:Nat->Prop)(vs:Value)(S:St.SV)(L:LB)(x:BA)(r':Nat)(vr':Value):Prop where
 rg:Kp.Rg w r' vr' (S.k:Int) (L.length+1) (pkL S.k (L++[x]))
 nt:¬T r'
 nv:∀b,vr'.ownBlock=some b -> ¬T b∧vs.ownBlock≠some b
theorem QbZ{w:World}{b:Nat}{c c':Array Value}{t t':TypeId}{f f':Nat×Nat}(h:w.heap[b]? = some (.cells c t f))(h':w.heap[b]? = some (.cells c' t' f'))(hne:t≠t'):False:=by
 rw[h] at h';injection h' with h'
 injection h' with _ h'
 exact hne h'
theorem Qio(h:Led w g a q p m r vr vs T D S L)(hL:L.length<65536)(hx:x.size<=1048576)(hn:Nw w T vs S L x r' vr')(hb1:Below w.heap.size w w1)(hz1:w.heap.size<w1.heap.size)
  (hF2:Frs w2 m (S.k:Int) (L++[x])) (hU2:St.Upo (fun b=>b=m∨b=m+1) w1 w2) (w3 w4:World) (hw3:w2.setCell ⟨a,4,none⟩ (Zv r')=w3) (hw4:(w3.alloc (.cells #[.string (sm x)] 9)).drew=w4) :
  ∃ao n cap w5,(Builtin.append_ #[22,22] 22 #[vs,.slice (Zp w3.heap.size) 1 1]).run prog w4= .ok (.slice ao n cap) w5∧w5.heap[a]? = some (rwL g (.int .u32 0) (Zp q) (.pointer (some ⟨m+1,0,none⟩)) (Zv r') vs) ∧
   w3.heap[a]? = some (rwL g (.int .u32 0) (Zp q) (.pointer (some ⟨m+1,0,none⟩)) (Zv r') vs)∧w2.heap[a]? = some (rwL g (.int .u32 0) (Zp q) (.pointer (some ⟨m+1,0,none⟩)) (Zv r) vs) ∧
   TkQ w g a q p m r vr vs T D S L x r' vr' (w5.setCell ⟨a,5,none⟩ (.slice ao n cap)):=by
 obtain⟨n1,n2,n3,n4,n5⟩:=h.nr;have hrn:r'≠m∧r'≠m+1∧r'≠a:=by
  refine⟨?_,?_,?_⟩
  ·rintro rfl;obtain⟨es,c,hx,_⟩:=h.fr.mp;rw[hn.rg.blk] at hx;cases hx
  ·rintro rfl;exact QbZ hn.rg.blk h.fr.blk (by decide)
  ·rintro rfl;exact QbZ hn.rg.blk h.blk (by decide)
 have hvn:∀b,(vs.ownBlock=some b∨vr'.ownBlock=some b)->b≠m∧b≠m+1∧b≠a∧b<w.heap.size:=fun b hb=>by
  have hr:∃cur,w.heap[b]? = some (.cells cur 9 (0,0)):=hb.elim (OW h.own) (OW hn.rg.own);obtain⟨cur,hc⟩:=hr;refine⟨?_,?_,?_,(Array.getElem?_eq_some_iff.1 hc).1⟩
  ·rintro rfl;obtain⟨es,c,hx,_⟩:=h.fr.mp;rw[hc] at hx;cases hx
  ·rintro rfl;exact QbZ hc h.fr.blk (by decide)
  ·rintro rfl;exact QbZ hc h.blk (by decide)
 have hr'lt:=hn.rg.lt;have halt:a<w.heap.size:=h.lt (.inl rfl)
 -- the worlds
 have b2:∀b,b<w.heap.size->b≠m->b≠m+1->w2.heap[b]? = w.heap[b]? := fun b hb e1 e2=>(hU2.block b (by omega) (fun e=>e.elim e1 e2)).trans (hb1.block b hb)
 have s2:=hU2.size;have b3:∀b,b≠a->w3.heap[b]? = w2.heap[b]? := fun b hb=>by rw[<-hw3];exact Below.heap_setCell _ _ _ _ hb
 have s3:w3.heap.size=w2.heap.size:=by rw[<-hw3];simp
 have u4:Below w3.heap.size w3 w4:=by rw[<-hw4];exact(bal (Lc _ _) _).drew
 have s4:w4.heap.size=w3.heap.size+1:=by rw[<-hw4];simp
 have a2:w2.heap[a]? = some (rwL g (.int .u32 0) (Zp q) (.pointer (some ⟨m+1,0,none⟩)) (Zv r) vs):=(b2 a halt n1 n2).trans h.blk;have a3:w3.heap[a]? = some (rwL g (.int .u32 0) (Zp q) (.pointer (some ⟨m+1,0,none⟩)) (Zv r') vs):=by rw[<-hw3];exact Ln w2 a 4 _ _ _ a2
 have b4:∀b,b<w.heap.size->b≠m->b≠m+1->b≠a->w4.heap[b]? = w.heap[b]? := fun b hb e1 e2 e3=>(u4.block b (by omega)).trans ((b3 b e3).trans (b2 b hb e1 e2))
 have o4:Qg w4 0 vs (smL L):=St.QK h.own fun b hb=>b4 b (hvn b (.inl hb)).2.2.2 (hvn b (.inl hb)).1 (hvn b (.inl hb)).2.1 (hvn b (.inl hb)).2.2.1
 have c4:∀j u,[Value.string (sm x)][j]? = some u->w4.cell? ((⟨w3.heap.size,0,none⟩:Addr).add j)=some u:=fun j u hu=>by
  rw[<-hw4]
  show(w3.alloc (.cells #[.string (sm x)] 9)).cell? _=some u
  exact St.Qdt w3 _ _ j u hu
 have hlen:(smL L).length=L.length:=by simp[smL]
 obtain⟨v',w5,hap,o5,g5⟩:=QcI w4 22 0 vs (smL L) o4 ⟨w3.heap.size,0,none⟩ 1 (sm x) c4 (by omega) (Lm _)
 obtain⟨ao,n,cap,rfl⟩:=YP o5;have t5:St.Upo (fun b=>vs.ownBlock=some b) w4 w5:=by
  rcases g5 with ⟨g,n,c,e1,e2,g3⟩|⟨g3,_⟩
  ·rw[e1];exact St.Upo.grown g3 (fun b hb=>by cases hb;rfl)
  ·exact St.Upo.grown g3 (fun b hb=>by cases hb)
 have hv5:∀b,(Value.slice ao n cap).ownBlock=some b->vs.ownBlock=some b∨w4.heap.size<=b:=fun b hb=>by
  rcases g5 with ⟨g',n,c,e1,e2,g3⟩|⟨_,g3⟩
  ·rw[e1];rw[e2] at hb;exact .inl hb
  ·exact .inr (g3 b hb)
 have a5:w5.heap[a]? = some (rwL g (.int .u32 0) (Zp q) (.pointer (some ⟨m+1,0,none⟩)) (Zv r') vs):=(t5.block a (by omega) (fun e=>(hvn a (.inl e)).2.2.1 rfl)).trans ((u4.block a (by omega)).trans a3)
 refine⟨ao,n,cap,w5,hap,a5,a3,a2,.slice ao n cap,?_,?_,fun b hb=>(hv5 b hb).imp id (fun e=>by omega)⟩
 ·have b5:∀b,b<w4.heap.size->b≠a->vs.ownBlock≠some b->(w5.setCell ⟨a,5,none⟩ (.slice ao n cap)).heap[b]? = w4.heap[b]? := fun b hb e1 e2=>(Below.heap_setCell _ _ _ _ e1).trans (t5.block b hb e2)
  have hTn:∀b,T b->b<w.heap.size∧b≠m∧b≠m+1∧b≠a∧vs.ownBlock≠some b:=fun b hb=>
   ⟨h.sk.lt hb,fun e=>h.ap b hb (.inr (.inl e)),fun e=>h.ap b hb (.inr (.inr (.inl e))),fun e=>h.ap b hb (.inl e),fun e=>h.ap b hb (.inr (.inr (.inr (.inr (.inr e)))))⟩
  have hm2:=hF2.lt;have hmne:∀b,(b=m∨b=m+1)->b<w4.heap.size∧b≠a∧vs.ownBlock≠some b:=fun b hb=>by
   refine⟨by omega,fun e=> ?_,fun e=> ?_⟩
   ·rcases hb with hb|hb
    ·exact n1 (e.symm.trans hb)
    ·exact n2 (e.symm.trans hb)
   ·rcases hb with hb|hb
    ·exact(hvn b (.inl e)).1 hb
    ·exact(hvn b (.inl e)).2.1 hb
  have hk:∀b,(b=m∨b=m+1)->(w5.setCell ⟨a,5,none⟩ (.slice ao n cap)).heap[b]? = w2.heap[b]? := fun b hb=>by
   obtain⟨e1,e2,e3⟩:=hmne b hb;exact(b5 b e1 e2 e3).trans ((u4.block b (by rcases hb with rfl|rfl <;> omega)).trans (b3 b e2))
  refine⟨Ln w5 a 5 _ _ _ a5,h.sk.same fun b hb=> ?_,hF2.same (hk m (.inl rfl)) (hk _ (.inr rfl)),⟨?_,St.QK hn.rg.own fun b hb=> ?_,hn.rg.k1,hn.rg.k2,?_,?_,hn.rg.hs⟩,?_,?_,fun b hb hl=> ?_,fun b hb=> ?_⟩
  ·obtain⟨e1,e2,e3,e4,e5⟩:=hTn b hb;exact(b5 b (by omega) e4 e5).trans (b4 b e1 e2 e3 e4)
  ·rw[Lh,Nb];have:vs.ownBlock≠some r':=fun e=>by
    obtain⟨cur,hc⟩:=OW h.own e;exact QbZ hc hn.rg.blk (by decide)
   exact(b5 r' (by omega) hrn.2.2 this).trans ((b4 r' hr'lt hrn.1 hrn.2.1 hrn.2.2).trans hn.rg.blk)
  ·obtain⟨e1,e2,e3,e4⟩:=hvn b (.inr hb);exact(b5 b (by omega) e3 (hn.nv b hb).2).trans (b4 b e4 e1 e2 e3)
  ·rw[Lh,Nb];exact hn.rg.hn
  ·rw[Lh,Nb];exact hn.rg.hl
  ·rw[smL,Nd];refine St.QK (v := .slice ao n cap) o5 fun b hb=>Below.heap_setCell _ _ _ _ ?_
   rcases hv5 b hb with e|e
   ·exact(hvn b (.inl e)).2.2.1
   ·show b≠a;omega
  ·intro s hs
   rcases List.mem_append.1 hs with e|e
   ·exact h.sz s e
   ·rw[List.mem_singleton.1 e];exact hx
  ·obtain⟨e1,e2,e3,e4,e5⟩:=hTn b hb
   rcases hl with e|e|e|e|e|e
   ·exact e4 e
   ·exact e2 e
   ·exact e3 e
   ·exact hn.nt (e ▸ hb)
   ·exact(hn.nv b e).1 hb
   ·exact(hv5 b e).elim e5 (fun e=>by omega)
  ·intro e;obtain⟨e1,e2,e3,e4⟩:=hvn b (.inr hb);exact(hv5 b e).elim (hn.nv b hb).2 (fun e=>by omega)
 ·have q1:St.Upo (fun b=>b=m∨b=m+1) w w2:=(St.Upo.of hb1).trans hU2 fun _ _ e=>e
  have q2:St.Upo (fun b=>b=m∨b=m+1∨b=a) w w3:=by rw[<-hw3];exact(q1.mono fun b _ e=>e.elim .inl (fun e=> .inr (.inl e))).set a 4 _ (.inl (.inr (.inr rfl)))
  have q3:=(q2.next u4).mono (T:=Lef a m r vr vs) fun b _ e=>by
   rcases e with e|e|e
   ·exact .inr (.inl e)
   ·exact .inr (.inr (.inl e))
   ·exact .inl e
  exact(q3.trans t5 fun b _ e=> .inr (.inr (.inr (.inr (.inr e))))).set a 5 _ (.inl (.inl rfl))
end
end
end Go.Proofs.YtoblgjledefdbabGreatDoor
