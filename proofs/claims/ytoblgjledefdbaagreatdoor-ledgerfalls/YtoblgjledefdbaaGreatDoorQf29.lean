/- Own work. -/
import Derived.Test.YtoblgjledefdbaaGreatDoorProg
import Derived.Conc.MuLone
import Derived.KernelRfl
import Derived.WalkKit
import Derived.WalkSpells
import Derived.Outline
import Derived.Test.YtoblgjledefdbaaGreatDoorQf25
import Derived.Test.YtoblgjledefdbaaGreatDoorQf28
namespace Go.Proofs.YtoblgjledefdbaaGreatDoor.St
open Rc
theorem ne_IN:nmI≠nmN:=by decide
theorem ne_IM:nmI≠nmM:=by decide
theorem ne_NM:nmN≠nmM:=by decide
def Oth (L:List (List UInt8×FV)):Prop := ∀ s,s≠nmI→s≠nmN→s≠nmM→fget L s=fz
theorem canon {L:List (List UInt8×FV)} (ho:Ord L) (h:Oth L):L=fput (fput (fput [] nmI (fget L nmI)) nmN (fget L nmN)) nmM (fget L nmM):=by
 have o1:=ord_fput ord_nil nmI (fget L nmI)
 have o2:=ord_fput o1 nmN (fget L nmN)
 refine ord_ext ho (ord_fput o2 nmM (fget L nmM)) fun s => ?_
 rw [fget_fput o2,fget_fput o1,fget_fput ord_nil]
 by_cases h1:s=nmM
 ·rw [if_pos h1,h1]
 ·rw [if_neg h1]
  by_cases h2:s=nmN
  ·rw [if_pos h2,h2]
  ·rw [if_neg h2]
   by_cases h3:s=nmI
   ·rw [if_pos h3,h3]
   ·rw [if_neg h3,h s h3 h2 h1]; rfl
theorem tot_three {L:List (List UInt8×FV)} (ho:Ord L) (h:Oth L):tot L=(fget L nmI).now.length+(fget L nmN).now.length+(fget L nmM).now.length∧L.length≤3:=by
 have e:=canon ho h
 have o1:=ord_fput ord_nil nmI (fget L nmI)
 have o2:=ord_fput o1 nmN (fget L nmN)
 have t1:=tot_put ord_nil nmI (fget L nmI)
 have t2:=tot_put o1 nmN (fget L nmN)
 have t3:=tot_put o2 nmM (fget L nmM)
 rw [fget_fput ord_nil,if_neg ne_IN.symm] at t2
 rw [fget_fput o1,if_neg ne_NM.symm,fget_fput ord_nil,if_neg ne_IM.symm] at t3
 have z:(fget ([]:List (List UInt8×FV)) nmI).now.length=0:=rfl
 have z2:(fget ([]:List (List UInt8×FV)) nmN).now.length=0:=rfl
 have z3:(fget ([]:List (List UInt8×FV)) nmM).now.length=0:=rfl
 have z4:tot []=0:=rfl
 have l1:=len_put (L:=[]) nmI (fget L nmI)
 have l2:=len_put (L:=fput [] nmI (fget L nmI)) nmN (fget L nmN)
 have l3:=len_put (L:=fput (fput [] nmI (fget L nmI)) nmN (fget L nmN)) nmM (fget L nmM)
 rw [← e] at t3 l3
 simp only [List.length_nil] at l1
 exact ⟨by omega,by omega⟩
structure Qt (R:Nat) (D:DV):Prop where
 down:D.down=false
 fk:D.fk=0
 ord:Ord D.L
 tot:D.free+tot D.L=R
theorem Qt.put {R:Nat} {D:DV} (h:Qt R D) (s:List UInt8) (f:FV) (hf:f.now.length≤D.free+(fget D.L s).now.length):actD D s f=(dput { D with acts:=D.acts+1 } s f,0)∧Qt R (dput { D with acts:=D.acts+1 } s f):=by
 refine ⟨actD_plain h.fk s f,h.down,h.fk,ord_fput h.ord s f,?_⟩
 have:=tot_put h.ord s f
 have:=h.tot
 show D.free+(fget D.L s).now.length - f.now.length+Go.Proofs.YtoblgjledefdbaaGreatDoor.St.tot (fput D.L s f)=R
 omega
structure Lft (R:Nat) (D D':DV) (s:List UInt8) (f:FV) (n:Nat):Prop where
 qt:Qt R D'
 at_:fget D'.L s=f
 oth : ∀ t,t≠s→fget D'.L t=fget D.L t
 acts:D'.acts=D.acts+n
theorem Qt.act {R:Nat} {D:DV} (h:Qt R D) (s:List UInt8) (f:FV) (hf:f.now.length≤D.free+(fget D.L s).now.length) : ∃ D',actD D s f=(D',0)∧Lft R D D' s f 1:=by
 obtain ⟨h1,h2⟩:=h.put s f hf
 refine ⟨_,h1,h2,?_,fun t ht => ?_,rfl⟩
 ·show fget (fput D.L s f) s=f
  rw [fget_fput h.ord,if_pos rfl]
 ·show fget (fput D.L s f) t=_
  rw [fget_fput h.ord,if_neg ht]
theorem Qt.syn {R:Nat} {D:DV} (h:Qt R D) (s:List UInt8) : ∃ D',synD D s=(D',0)∧Lft R D D' s ⟨(fget D.L s).now,(fget D.L s).now⟩ 1:=by
 unfold synD
 rw [if_neg (by rw [h.down]; exact Bool.false_ne_true)]
 exact h.act s _ (by show (fget D.L s).now.length≤_; omega)
theorem wr_end (l t:List UInt8):wr l l.length t=l++t:=by simp [wr]
theorem Qt.wr {R:Nat} {D:DV} (h:Qt R D) (s t:List UInt8) (n:Nat) (hn:(fget D.L s).now.length=n) (h1:n+t.length≤268435456) (h2:t.length≤D.free) : ∃ D',wrD D s (n:Int) t=(D',0)∧Lft R D D' s ⟨(fget D.L s).now++t,(fget D.L s).syn⟩ 1:=by
 unfold wrD
 rw [if_neg (by rw [h.down]; exact Bool.false_ne_true),if_neg (by omega),if_neg (by omega)]
 have:=h.act s ⟨(fget D.L s).now++t,(fget D.L s).syn⟩ (by show ((fget D.L s).now++t).length≤_; rw [List.length_append]; omega)
 rwa [Int.toNat_natCast,← hn,wr_end]
theorem Qt.cutI {R:Nat} {D:DV} (h:Qt R D) (s P:List UInt8) (hP:P <+: (fget D.L s).now) (n:Nat) (hn:P.length=n) : ∃ D' j,cutI s n D=(D',0)∧Lft R D D' s ⟨P,(fget D.L s).syn⟩ j∧j≤1∧((fget D.L s).now=P→D'=D):=by
 unfold Go.Proofs.YtoblgjledefdbaaGreatDoor.St.cutI
 have hs:sizD D s=(fget D.L s).now.length:=by unfold sizD; rw [h.down]; rfl
 have hl:=hP.length_le
 rw [hs]
 by_cases he:(fget D.L s).now.length≤n
 ·rw [if_pos he]
  have e:(fget D.L s).now=P:=(List.IsPrefix.eq_of_length hP (by omega)).symm
  exact ⟨D,0,rfl,⟨h,by rw [← e],fun _ _=>rfl,rfl⟩,by omega,fun _=>rfl⟩
 ·rw [if_neg he]
  unfold cutD
  rw [if_neg (by rw [h.down]; exact Bool.false_ne_true),if_neg (by omega)]
  have ht:(fget D.L s).now.take n=P:=by rw [← hn]; exact (List.prefix_iff_eq_take.1 hP).symm
  obtain ⟨D',h1,h2⟩:=h.act s ⟨(fget D.L s).now.take n,(fget D.L s).syn⟩ (by show (List.take n _).length≤_; rw [List.length_take]; omega)
  rw [Int.toNat_natCast,h1]
  rw [ht] at h2
  exact ⟨D',1,rfl,h2,Nat.le_refl _,fun e=>absurd (by rw [e,hn]; exact Nat.le_refl _) he⟩
structure Ext (k:Nat) (A:List It) (L:List (List UInt8×FV)):Prop where
 i:fget L nmI=⟨(bA k A).a,(bA k A).a⟩
 n:fget L nmN=⟨(bA k A).b,(bA k A).b⟩
 m:fget L nmM=⟨(bA k A).m,(bA k A).m⟩
 oth:Oth L
theorem Ext.one {k:Nat} {A:List It} {L M:List (List UInt8×FV)} (hL:Ord L) (hM:Ord M) (h:Ext k A L) (g:Ext k A M):L=M:=by
 rw [canon hL h.oth,canon hM g.oth,h.i,h.n,h.m,g.i,g.n,g.m]
theorem add_ok {k R:Nat} {A:List It} {x:It} {D:DV} (h:OkA k (A++[x])) (hq:Qt R D) (he:Ext k A D.L) (hR:(bA k (A++[x])).a.length+(bA k (A++[x])).b.length+(bA k (A++[x])).m.length≤R) (hz:R≤268435456) :
  ∃ D',addD D (sA k A) x.1 x.2=(D',sA k (A++[x]),0)∧Qt R D'∧Ext k (A++[x]) D'.L∧D'.acts=D.acts+6:=by
 have l:=h.init.lens
 have l2:=h.lens
 have hx:=h.last
 have hf:=h.few
 simp only [List.length_append,List.length_cons,List.length_nil,Nat.zero_add] at hf
 have ea:(bA k (A++[x])).a=(bA k A).a++pay x.1:=by rw [bA_snoc]; rfl
 have eb:(bA k (A++[x])).b=(bA k A).b++Rc.flat (recs (nn A.length) x.2):=by rw [bA_snoc,← l.ends]; rfl
 have em:(bA k (A++[x])).m=(bA k A).m++mrk ((bA k A).mk' k x):=by rw [bA_snoc]; rfl
 have et:=(tot_three hq.ord he.oth).1
 rw [he.i,he.n,he.m] at et
 have et2:=hq.tot
 have eal:(bA k (A++[x])).a.length=(bA k A).a.length+(pay x.1).length:=by rw [ea,List.length_append]
 have ebl:(bA k (A++[x])).b.length=(bA k A).b.length+(Rc.flat (recs (nn A.length) x.2)).length:=by rw [eb,List.length_append]
 have eml:(bA k (A++[x])).m.length=(bA k A).m.length+(mrk ((bA k A).mk' k x)).length:=by rw [em,List.length_append]
 simp only at et
 -- the six acts
 obtain ⟨D1,a1,l1⟩:=hq.wr nmI (pay x.1) (bA k A).a.length (by rw [he.i]) (by omega) (by omega)
 rw [he.i] at l1
 have t1:=(tot_three l1.qt.ord (fun s h1 h2 h3=>by rw [l1.oth s h1]; exact he.oth s h1 h2 h3)).1
 rw [l1.at_,l1.oth _ ne_IN.symm,l1.oth _ ne_IM.symm,he.n,he.m] at t1
 have q1:=l1.qt.tot
 simp only [List.length_append] at t1
 obtain ⟨D2,a2,l2'⟩:=l1.qt.wr nmN (Rc.flat (recs (nn A.length) x.2)) (bA k A).b.length (by rw [l1.oth _ ne_IN.symm,he.n]) (by omega) (by omega)
 rw [l1.oth _ ne_IN.symm,he.n] at l2'
 obtain ⟨D3,a3,l3⟩:=l2'.qt.syn nmI
 rw [l2'.oth _ ne_IN,l1.at_] at l3
 obtain ⟨D4,a4,l4⟩:=l3.qt.syn nmN
 rw [l3.oth _ ne_IN.symm,l2'.at_] at l4
 have m4:fget D4.L nmM=⟨(bA k A).m,(bA k A).m⟩:=by rw [l4.oth _ ne_NM.symm,l3.oth _ ne_IM.symm,l2'.oth _ ne_NM.symm,l1.oth _ ne_IM.symm,he.m]
 have i4:fget D4.L nmI=⟨(bA k A).a++pay x.1,(bA k A).a++pay x.1⟩:=by rw [l4.oth _ ne_IN,l3.at_]
 have o4:Oth D4.L:=fun s h1 h2 h3=>by rw [l4.oth s h2,l3.oth s h1,l2'.oth s h2,l1.oth s h1]; exact he.oth s h1 h2 h3
 have t4:=(tot_three l4.qt.ord o4).1
 rw [i4,l4.at_,m4] at t4
 have q4:=l4.qt.tot
 simp only [List.length_append] at t4
 obtain ⟨D5,a5,l5⟩:=l4.qt.wr nmM (mrk ((bA k A).mk' k x)) (bA k A).m.length (by rw [m4]) (by omega) (by omega)
 rw [m4] at l5
 obtain ⟨D6,a6,l6⟩:=l5.qt.syn nmM
 rw [l5.at_] at l6
 have hA:runA (addA (sA k A) x.1 x.2) D=(D6,0):=by
  show runA (six (sA k A) (pay x.1) (Rc.flat (recs (nn (bA k A).ends.length) x.2)) (mrk ((bA k A).mk' k x))) D=_
  unfold six
  have e1:((lst (sA k A).ends:Nat):Int)=((bA k A).a.length:Int):=by show ((lst (bA k A).ends:Nat):Int)=_; rw [l.lst]
  have e2:((nn (sA k A).ends.length * 40:Nat):Int)=((bA k A).b.length:Int):=by show ((nn (bA k A).ends.length * 40:Nat):Int)=_; rw [l.ends,l.b,Nat.mul_comm]
  have e3:(((sA k A).ends.length * 64:Nat):Int)=((bA k A).m.length:Int):=by show (((bA k A).ends.length * 64:Nat):Int)=_; rw [l.ends,l.m,Nat.mul_comm]
  rw [e1,e2,e3,l.ends]
  simp only [runA,a1,a2,a3,a4,a5,a6,if_true]
 have hr:refD (sA k A) x.1 x.2=0:=by
  have hnx:nxt (sA k A) x.2=true:=(nxt_iff _ _).2 ⟨by show _=nn ((bA k A).ends.length+1) - nn (bA k A).ends.length; rw [l.ends]; exact hx.cnt,hx.sz⟩
  unfold refD
  rw [if_neg (show ¬ (sA k A).lame=true from Bool.false_ne_true),if_neg (by have:=hx.len; omega),if_neg (by show ¬ 65536≤(bA k A).ends.length; rw [l.ends]; omega),if_neg (by rw [hnx]; simp),if_neg (by show ¬ _<lst (bA k A).ends+_; have:=pay_len x.1; rw [l.lst]; omega)]
 refine ⟨D6,?_,l6.qt,⟨?_,?_,?_,?_⟩,?_⟩
 ·unfold addD
  rw [hr,if_neg (show ¬ ((0:Int)≠0) from fun h=>h rfl),hA,if_pos rfl]
  show (D6,(⟨k,(bA k A).ends++[((bA k A).mk' k x).items],((bA k A).mk' k x).chain,false⟩:SV),(0:Int))=_
  unfold sA
  rw [bA_snoc]; rfl
 ·rw [l6.oth _ ne_IM,l5.oth _ ne_IM,i4,ea]
 ·rw [l6.oth _ ne_NM,l5.oth _ ne_NM,l4.at_,eb]
 ·rw [l6.at_,em]
 ·intro s h1 h2 h3
  rw [l6.oth s h3,l5.oth s h3]; exact o4 s h1 h2 h3
 ·rw [l6.acts,l5.acts,l4.acts,l3.acts,l2'.acts,l1.acts]
structure Beh (k:Nat) (A:List It) (L:List (List UInt8×FV)):Prop where
 i:(bA k A).a <+: (fget L nmI).now
 n:(bA k A).b <+: (fget L nmN).now
 m : ∃ t,(fget L nmM).now=(bA k A).m++t∧(t.length<64∨t=zer 64)
 oth:Oth L
theorem Ext.beh {k:Nat} {A:List It} {L:List (List UInt8×FV)} (h:Ext k A L):Beh k A L:=⟨by rw [h.i]; exact List.prefix_rfl,by rw [h.n]; exact List.prefix_rfl,⟨[],by rw [h.m,List.append_nil],.inl (by decide)⟩,h.oth⟩
theorem Beh.read {k:Nat} {A:List It} {D:DV} (h:OkA k A) (hb:Beh k A D.L):tkAll k (now D nmI) (now D nmN) (now D nmM)=some ((bA k A).ends,(bA k A).chain):=by
 obtain ⟨t,e,ht⟩:=hb.m
 have e2:now D nmM=(bA k A).m++t:=e
 rw [e2]
 exact tkAll_good h hb.i hb.n ht
theorem open_ok {k R:Nat} {A:List It} {D:DV} (h:OkA k A) (hq:Qt R D) (hb:Beh k A D.L) :
  ∃ D' j,opnD D (k:Int)=(D',some (sA k A),0)∧Qt R D'∧Ext k A D'.L∧D'.acts=D.acts+3+j∧j≤3∧(Ext k A D.L→D'.L=D.L∧j=0):=by
 have l:=h.lens
 have hr:=hb.read h
 have k1:=h.k1
 have k2:=h.k2
 obtain ⟨D1,j1,a1,l1,n1,s1⟩:=hq.cutI nmI _ hb.i (lst (bA k A).ends) l.lst.symm
 obtain ⟨D2,j2,a2,l2,n2,s2⟩:=l1.qt.cutI nmN (bA k A).b (by rw [l1.oth _ ne_IN.symm]; exact hb.n) (nn (bA k A).ends.length * 40) (by rw [l.b,l.ends,Nat.mul_comm])
 obtain ⟨D3,j3,a3,l3,n3,s3⟩:=l2.qt.cutI nmM (bA k A).m (by obtain ⟨t,e,_⟩:=hb.m; rw [l2.oth _ ne_NM.symm,l1.oth _ ne_IM.symm,e]; exact List.prefix_append _ _) ((bA k A).ends.length * 64) (by rw [l.m,l.ends,Nat.mul_comm])
 obtain ⟨D4,a4,l4⟩:=l3.qt.syn nmI
 obtain ⟨D5,a5,l5⟩:=l4.qt.syn nmN
 obtain ⟨D6,a6,l6⟩:=l5.qt.syn nmM
 have hA:runA (stl (bA k A).ends) D=(D6,0):=by
  unfold stl
  simp only [runA,a1,a2,a3,a4,a5,a6,if_true]
 have hE:Ext k A D6.L:=by
  refine ⟨?_,?_,?_,fun s h1 h2 h3 => ?_⟩
  ·rw [l6.oth _ ne_IM,l5.oth _ ne_IN,l4.at_,l3.oth _ ne_IM,l2.oth _ ne_IN,l1.at_]
  ·rw [l6.oth _ ne_NM,l5.at_,l4.oth _ ne_IN.symm,l3.oth _ ne_NM,l2.at_]
  ·rw [l6.at_,l5.oth _ ne_NM.symm,l4.oth _ ne_IM.symm,l3.at_]
  ·rw [l6.oth s h3,l5.oth s h2,l4.oth s h1,l3.oth s h3,l2.oth s h2,l1.oth s h1]; exact hb.oth s h1 h2 h3
 refine ⟨D6,j1+j2+j3,?_,l6.qt,hE,?_,by omega,fun he => ?_⟩
 ·unfold opnD
  rw [if_neg (fun q=>q ⟨by omega,by omega⟩),if_neg (by rw [hq.down]; exact Bool.false_ne_true),Int.toNat_natCast,hr]
  simp only
  rw [hA,if_pos rfl]; rfl
 ·rw [l6.acts,l5.acts,l4.acts,l3.acts,l2.acts,l1.acts]; omega
 ·refine ⟨Ext.one l6.qt.ord hq.ord hE he,?_⟩
  have e1:=s1 (by rw [he.i])
  subst e1
  have e2:=s2 (by rw [he.n])
  subst e2
  have e3:=s3 (by rw [he.m])
  subst e3
  have b1:=l1.acts
  have b2:=l2.acts
  have b3:=l3.acts
  omega
theorem ends_at {k:Nat} {A:List It} (h:OkA k A) (i:Nat) (x:It) (hx:A[i]? = some x):(bA k A).ends.getD i 0=(bA k (A.take i)).a.length+(x.1.length+8)∧endE (bA k A).ends i=(bA k (A.take i)).a.length∧pay x.1 <+: (bA k A).a.drop (bA k (A.take i)).a.length:=by
 revert h hx
 refine rev_ind (P:=fun A=>OkA k A→A[i]? = some x→(bA k A).ends.getD i 0=(bA k (A.take i)).a.length+(x.1.length+8)∧endE (bA k A).ends i=(bA k (A.take i)).a.length∧pay x.1 <+: (bA k A).a.drop (bA k (A.take i)).a.length) (fun _ h=>by simp at h) (fun A y ih h hx => ?_) A
 have l:=h.init.lens
 by_cases hi:i<A.length
 ·rw [List.getElem?_append_left hi] at hx
  obtain ⟨h1,h2,h3⟩:=ih h.init hx
  have et:(A++[y]).take i=A.take i:=by rw [List.take_append_of_le_length (by omega)]
  rw [et,bA_snoc]
  show ((bA k A).ends++[((bA k A).mk' k y).items]).getD i 0=_∧endE ((bA k A).ends++[((bA k A).mk' k y).items]) i=_∧pay x.1 <+: ((bA k A).a++pay y.1).drop _
  refine ⟨?_,?_,?_⟩
  ·rw [← h1,List.getD_eq_getElem?_getD,List.getD_eq_getElem?_getD,List.getElem?_append_left (by rw [l.ends]; exact hi)]
  ·rw [← h2]
   unfold endE
   split
   ·rfl
   ·rw [List.getD_eq_getElem?_getD,List.getD_eq_getElem?_getD,List.getElem?_append_left (by rw [l.ends]; omega)]
  ·obtain ⟨t,ht⟩:=h3
   refine ⟨t++pay y.1,?_⟩
   rw [List.drop_append_of_le_length ((bA_take k A i).1.length_le),← ht,List.append_assoc]
 ·have hl:=(List.getElem?_eq_some_iff.1 hx).1
  obtain rfl:i=A.length:=by simp at hl; omega
  simp only [List.getElem?_concat_length,Option.some.injEq] at hx
  subst hx
  have et:(A++[y]).take A.length=A:=List.take_left
  rw [et,bA_snoc]
  show ((bA k A).ends++[((bA k A).mk' k y).items]).getD A.length 0=_∧endE ((bA k A).ends++[((bA k A).mk' k y).items]) A.length=_∧pay y.1 <+: ((bA k A).a++pay y.1).drop _
  refine ⟨?_,?_,?_⟩
  ·rw [List.getD_eq_getElem?_getD,← l.ends,List.getElem?_concat_length]
   show lst (bA k A).ends+(pay y.1).length=_
   rw [l.lst,pay_len]
  ·rw [← l.lst,← endE_all,l.ends]
   unfold endE
   split
   ·rfl
   ·rw [List.getD_eq_getElem?_getD,List.getD_eq_getElem?_getD,List.getElem?_append_left (by rw [l.ends]; omega)]
  ·rw [List.drop_left]; exact List.prefix_rfl
theorem item_ok {k:Nat} {A:List It} {D:DV} {S:SV} (h:OkA k A) (hS:S.ends=(bA k A).ends) (hd:D.down=false) (hb:(bA k A).a <+: (fget D.L nmI).now) (i:Nat) (x:It) (hx:A[i]? = some x):itmD D S i=(x.1,0):=by
 obtain ⟨e1,e2,e3⟩:=ends_at h i x hx
 have l:=h.lens
 have hi:=(List.getElem?_eq_some_iff.1 hx).1
 have hlen:=(h.it i x hx).len
 have ht:=(bA_take k A i).1.length_le
 obtain ⟨t3,e3⟩:=e3
 obtain ⟨tb,hb⟩:=hb
 have hlb:(now D nmI).length=(bA k A).a.length+tb.length:=by show (fget D.L nmI).now.length=_; rw [← hb,List.length_append]
 have hla:(bA k A).a.length=(bA k (A.take i)).a.length+((x.1.length+8)+t3.length):=by
  have:=congrArg List.length e3
  rw [List.length_append,pay_len,List.length_drop] at this
  omega
 have hR:itmR D S i=(pay x.1,0):=by
  unfold itmR
  rw [hS,e1,e2]
  rw [show (((bA k (A.take i)).a.length+(x.1.length+8):Nat):Int) - ((bA k (A.take i)).a.length:Int)=((x.1.length+8:Nat):Int) by omega,rdS_row hd,if_pos (by rw [hlb]; omega)]
  congr 1
  show ((fget D.L nmI).now.drop _).take _=_
  rw [← hb,List.drop_append_of_le_length (by omega),← e3,List.append_assoc]
  rw [List.take_append_of_le_length (by rw [pay_len]; exact Nat.le_refl _),List.take_of_length_le (by rw [pay_len]; exact Nat.le_refl _)]
 unfold itmD
 rw [hR,if_neg (by rw [hS,l.ends]; omega),if_neg (fun h=>h rfl),if_pos (whl_pay _ hlen)]
 have:=rpay_pay x.1 [] hlen
 rw [List.append_nil] at this
 rw [this]; rfl
theorem nn_le_of {m n:Nat} (h:m≤n) (hn:n≤65536):nn m≤nn n:=by
 induction n with
 | zero => obtain rfl : m = 0 := by omega
           exact Nat.le_refl _
 | succ n ih =>
  by_cases e:m=n+1
  ·rw [e]; exact Nat.le_refl _
  ·exact Nat.le_trans (ih (by omega) (by omega)) (nn_mono n (by omega)).1
theorem rows_at {k:Nat} {A:List It} (h:OkA k A) (i j:Nat) (x:It) (d:ByteArray) (hx:A[i]? = some x) (hd:x.2[j]? = some d):((bA k A).b.drop (40 * (nn i+j))).take 40=nod (nn i+j) d.data.toList∧nn i+j<nn A.length:=by
 have hi:=(List.getElem?_eq_some_iff.1 hx).1
 have hj:=(List.getElem?_eq_some_iff.1 hd).1
 have hxo:=h.it i x hx
 have hf:=h.few
 have e:=take_next A i hi
 have ht:=h.take (i+1)
 have hxe:A[i]=x:=Option.some.inj ((List.getElem?_eq_getElem hi).symm.trans hx)
 rw [hxe] at e
 rw [e] at ht
 have l:=ht.init.lens
 have hl:(A.take i).length=i:=by rw [List.length_take]; omega
 obtain ⟨t,hp⟩:=(bA_take k A (i+1)).2.1
 rw [e,bA_snoc] at hp
 have hm:=nn_mono i (by omega)
 have hm2:=nn_le_of (show i+1≤A.length by omega) hf
 have hc:=hxo.cnt
 refine ⟨?_,by omega⟩
 rw [← hp]
 show ((((bA k (A.take i)).b++Rc.flat (recs (nn (bA k (A.take i)).ends.length) x.2))++t).drop _).take 40=_
 rw [List.append_assoc,show 40 * (nn i+j)=(bA k (A.take i)).b.length+40 * j by rw [l.b,hl]; omega,← List.drop_drop,List.drop_left,l.ends,hl]
 exact flat_row (nn i) x.2 t (fun y hy=>by rw [hxo.sz y hy]; exact h.k2) j d hd
theorem node_ok {k:Nat} {A:List It} {D:DV} {S:SV} (h:OkA k A) (hS:S.ends=(bA k A).ends) (hk:S.k=k) (hd:D.down=false) (hb:(bA k A).b <+: (fget D.L nmN).now) (i j:Nat) (x:It) (d:ByteArray) (hx:A[i]? = some x) (hj:x.2[j]? = some d):nodD D S (nn i+j)=(d.data.toList,0):=by
 obtain ⟨e1,e2⟩:=rows_at h i j x d hx hj
 have l:=h.lens
 obtain ⟨t,hb⟩:=hb
 have hlb:(now D nmN).length=40 * nn A.length+t.length:=by show (fget D.L nmN).now.length=_; rw [← hb,List.length_append,l.b]
 have hdz:d.size=k:=(h.it i x hx).sz d (List.mem_of_getElem? hj)
 have hR:nodR D (nn i+j)=(nod (nn i+j) d.data.toList,0):=by
  unfold nodR
  rw [show (40:Int)=((40:Nat):Int) from rfl,rdS_row hd,if_pos (by rw [hlb]; omega)]
  congr 1
  show ((fget D.L nmN).now.drop _).take _=_
  rw [← hb,Nat.mul_comm,← e1,List.drop_append_of_le_length (by rw [l.b]; omega),List.take_append_of_le_length (by rw [List.length_drop,l.b]; omega)]
 unfold nodD
 rw [hR,if_neg (by rw [hS,l.ends]; omega),if_neg (fun h=>h rfl),hk]
 have:=rnod_nod (nn i+j) d.data.toList (by rw [size_list,hdz]; exact h.k2)
 rw [size_list,hdz] at this
 rw [this]
end Go.Proofs.YtoblgjledefdbaaGreatDoor.St
namespace Go.Proofs.YtoblgjledefdbaaGreatDoor
theorem nn_md (n:Nat) (h:n≤65536):St.nn (n+1)=St.nn n+(Pl.trl 40 n+1):=by
 obtain ⟨h1,h2⟩:=trl_spec 40 n (by omega)
 unfold St.nn
 rw [St.Pl.new_N _ n h1 h2 (by omega)]
 omega
def itL (c:Nat) (L:List ByteArray):List St.It:=(List.range L.length).map fun i=>((L.getD i ByteArray.empty).data.toList,mdL c (L.take i) (L.getD i ByteArray.empty))
theorem itL_len (c:Nat) (L:List ByteArray):(itL c L).length=L.length:=by simp [itL]
theorem itL_snoc (c:Nat) (L:List ByteArray) (x:ByteArray):itL c (L++[x])=itL c L++[(x.data.toList,mdL c L x)]:=by
 simp only [itL,List.length_append,List.length_cons,List.length_nil,Nat.zero_add,List.range_succ,List.map_append,List.map_cons,List.map_nil]
 congr 1
 ·refine List.map_congr_left fun i hi => ?_
  have hi:=List.mem_range.1 hi
  rw [List.getD_eq_getElem?_getD,List.getD_eq_getElem?_getD,List.getElem?_append_left hi,List.take_append_of_le_length (by omega)]
 ·rw [List.take_left,List.getD_eq_getElem?_getD,List.getElem?_concat_length]; rfl
theorem itL_at (c:Nat) (L:List ByteArray) (i:Nat) (x:ByteArray) (h:L[i]? = some x):(itL c L)[i]? = some (x.data.toList,mdL c (L.take i) x):=by
 have hi:=(List.getElem?_eq_some_iff.1 h).1
 have:L.getD i ByteArray.empty=x:=by rw [List.getD_eq_getElem?_getD,h]; rfl
 rw [itL,List.getElem?_map,List.getElem?_range hi,Option.map_some,this]
theorem itL_ok {k:Nat} (h1:1≤k) (h2:k≤32) {L:List ByteArray} (hf:L.length≤65536) (hs : ∀ s∈L,s.size≤1048576):St.OkA k (itL k L):=by
 refine ⟨h1,h2,by rw [itL_len]; exact hf,fun i x hx => ?_⟩
 have hi:=(List.getElem?_eq_some_iff.1 hx).1
 rw [itL_len] at hi
 have hy:L[i]? = some L[i]:=List.getElem?_eq_getElem hi
 rw [itL_at k L i _ hy] at hx
 cases hx
 have hl:(L.take i).length=i:=by rw [List.length_take]; omega
 refine ⟨hs _ (List.getElem_mem hi),?_,mdL_sz h2 _ _⟩
 show (mdL k (L.take i) L[i]).length=_
 rw [mdL_len,hl,nn_md i (by omega)]; omega
abbrev Tryz.muLink:Go.Conc.Locks.MuLink := { lock:=98,unlock:=99,ilock:=164,iunlock:=165,lockSlow:=258,unlockSlow:=261,disable:=254,enable:=256,acquire:=257,relMerge:=259,cas32:=255,add32:=260,tMutex:=114,tIMutex:=112,tPMutex:=237,tPIMutex:=316,tPI32:=318,tUP:=320,tNoCopy:=109,tU32:=110 }
theorem Tryz.muLib:Go.Conc.Locks.MuLib Tryz.prog Tryz.muLink :=
  ⟨Tryz.func98,Tryz.func99,Tryz.func164,Tryz.func165,Tryz.func254,Tryz.func256,Tryz.func257,Tryz.func259,Tryz.func255,Tryz.func260,
   Tryz.underlying112,Tryz.runUnderlying112,Tryz.sizeOf112,Tryz.isAgg112,Tryz.zeroValue112,Tryz.underlying114,Tryz.runUnderlying114,Tryz.sizeOf114,Tryz.isAgg114,Tryz.zeroValue114,Tryz.underlying237,Tryz.runUnderlying237,Tryz.sizeOf237,Tryz.isAgg237,Tryz.zeroValue237,Tryz.underlying316,Tryz.runUnderlying316,Tryz.sizeOf316,Tryz.isAgg316,Tryz.zeroValue316,Tryz.underlying318,Tryz.runUnderlying318,Tryz.sizeOf318,Tryz.isAgg318,Tryz.zeroValue318,Tryz.underlying320,Tryz.runUnderlying320,Tryz.sizeOf320,Tryz.isAgg320,Tryz.zeroValue320,Tryz.underlying109,Tryz.runUnderlying109,Tryz.sizeOf109,Tryz.isAgg109,Tryz.zeroValue109,Tryz.underlying21,Tryz.runUnderlying21,Tryz.sizeOf21,Tryz.isAgg21,Tryz.zeroValue21,(by kernel_rfl)⟩
end Go.Proofs.YtoblgjledefdbaaGreatDoor
namespace Go.Proofs.YtoblgjledefdbaaGreatDoor
open Go.RowKit
open Go.MuLone
def Inn (a:Nat) (R:Value→Value→World→Prop) (e:Ending) (w':World):Prop := ∃ x y,e = .returned (.tuple #[x,y])∧w'.cell? ⟨a,0,none⟩=some (.int .i32 1)∧w'.frozen? ⟨a,0,none⟩=false∧R x y w'
def Out (a:Nat) (R:Value→Value→World→Prop) (e:Ending) (w':World):Prop := ∃ x y w1,e = .returned (.tuple #[x,y])∧R x y w1∧w'=w1.setCell ⟨a,0,none⟩ (.int .i32 0)
def rwL (g:Int) (x1:Value) (st:Option Addr) (x3 x4 x5:Value):Obj := .cells #[.int .i32 g,x1,.pointer st,x3,x4,x5] 116 (0,0)
theorem rwL_at {w:World} {a:Nat} {g:Int} {x1:Value} {st:Option Addr} {x3 x4 x5:Value} (h:w.heap[a]? = some (rwL g x1 st x3 x4 x5)):w.cell? ⟨a,0,none⟩=some (.int .i32 g)∧w.cell? ⟨a,2,none⟩=some (.pointer st)∧w.cell? ⟨a,3,none⟩=some x3∧w.cell? ⟨a,4,none⟩=some x4∧w.cell? ⟨a,5,none⟩=some x5 ∧ ∀ j,w.frozen? ⟨a,j,none⟩=false :=
 ⟨by rw [cell_of_row w a 0 _ _ (0,0) h]; rfl,by rw [cell_of_row w a 2 _ _ (0,0) h]; rfl,by rw [cell_of_row w a 3 _ _ (0,0) h]; rfl,by rw [cell_of_row w a 4 _ _ (0,0) h]; rfl,by rw [cell_of_row w a 5 _ _ (0,0) h]; rfl,fun j=>frozen_of_row w a j _ _ h⟩
structure Lkd (a:Nat) (w W:World):Prop where
 os:W.os=w.os
 tape:W.tape=w.tape
 output:W.output=w.output
 size:w.heap.size≤W.heap.size
 oth : ∀ b,b<w.heap.size→b≠a→W.heap[b]? = w.heap[b]?
 self : ∀ x1 st x3 x4 x5,w.heap[a]? = some (rwL 0 x1 st x3 x4 x5)→W.heap[a]? = some (rwL 1 x1 st x3 x4 x5)
theorem lkd_of {a:Nat} {w W:World} (h:Below w.heap.size w W) (ha:a<w.heap.size):Lkd a w (W.setCell ⟨a,0,none⟩ (.int .i32 1)):=by
 refine ⟨h.os,h.tape,h.output,by simpa using h.size,fun b hb hne => ?_,fun x1 st x3 x4 x5 hr => ?_⟩
 ·rw [← h.block b hb]; exact Below.heap_setCell _ _ _ _ hne
 ·exact heap_setCell_same W a 0 _ _ (.int .i32 1) ((h.block a ha).trans hr)
theorem lkd_end {a:Nat} {w W w1:World} {x1:Value} {st:Option Addr} {x3 x4 x5:Value} (hr:w.heap[a]? = some (rwL 0 x1 st x3 x4 x5)) (hL:Lkd a w W) (hb:Below w.heap.size W w1):Below w.heap.size w (w1.setCell ⟨a,0,none⟩ (.int .i32 0)):=by
 refine ⟨hb.os.trans hL.os,hb.tape.trans hL.tape,hb.output.trans hL.output,by simpa using Nat.le_trans hL.size hb.size,fun b hlt => ?_⟩
 by_cases e:b=a
 ·subst e
  rw [hr]
  exact heap_setCell_same w1 b 0 _ _ (.int .i32 0) ((hb.block b hlt).trans (hL.self _ _ _ _ _ hr))
 ·rw [← hL.oth b hlt e,← hb.block b hlt]; exact Below.heap_setCell _ _ _ _ e
set_option maxHeartbeats 800000 in
theorem wholeI_any (w:World) (a st k:Nat) (caps:Array Value) (hk:k=48∨k=61) (h0:w.cell? ⟨a,0,none⟩=some (.int .i32 0)) (hf:w.frozen? ⟨a,0,none⟩=false) (h2:w.cell? ⟨a,2,none⟩=some (.pointer (some ⟨st,0,none⟩))) (R:Value→Value→World→Prop)
  (HC:Calls Tryz.prog k caps (w.setCell ⟨a,0,none⟩ (.int .i32 1)) (Inn a R)) :
  Calls Tryz.prog 47 #[.pointer (some ⟨a,0,none⟩),.func (.func k) #[] caps] w (Out a R):=by
 have c2:(w.setCell ⟨a,0,none⟩ (.int .i32 1)).cell? ⟨a,2,none⟩=some (.pointer (some ⟨st,0,none⟩)):=by
  rw [World.cell?_setCell_other _ ⟨a,0,none⟩ ⟨a,2,none⟩ _ (by simp)]; exact h2
 generalize hW:w.setCell ⟨a,0,none⟩ (.int .i32 1)=W at *
 rcases hk with rfl | rfl
 all_goals
  go_enter_defers Tryz.func47,Tryz.ntmps47
  go_wp2_with (go_at_call 98; refine (lock_free Tryz.muLib ⟨a,0,none⟩ _ h0 hf).mono ?_; rintro e w' ⟨rfl,hw⟩; rw [hW] at hw; subst hw)
  refine HC.mono ?_
  rintro e w' ⟨x,y,rfl,g0,g1,g2⟩
  go_wp2
  refine leaves_cons (f:=99) (args:=#[.pointer (some ⟨a,0,none⟩)]) (by simp) (by simp [go_sem]) ?_
  refine (unlock_deferred Tryz.muLib ⟨a,0,none⟩ .returning _ g0 g1).mono ?_
  rintro e u' w'' ⟨rfl,rfl,rfl⟩
  exact ⟨_,results_tmp2 rfl _ _ _,x,y,w',rfl,g2,rfl⟩
set_option maxHeartbeats 800000 in
theorem wholeU_any (w:World) (a:Nat) (sa:Addr) (k:Nat) (caps:Array Value) (hk:k=73) {x1 x3 x4 x5:Value} (hr:w.heap[a]? = some (rwL 0 x1 (some sa) x3 x4 x5)) (x y:Value)
  (HC : ∀ W,Lkd a w W→Calls Tryz.prog k caps W fun e w'=>e = .returned (.tuple #[x,y])∧Below W.heap.size W w') :
  Calls Tryz.prog 72 #[.pointer (some ⟨a,0,none⟩),.func (.func k) #[] caps] w fun e w'=>e = .returned (.tuple #[x,y])∧Below w.heap.size w w':=by
 have hL:=lkd_of (Below.refl w.heap.size w) (Array.getElem?_eq_some_iff.1 hr).1
 have ha:=(Array.getElem?_eq_some_iff.1 hr).1
 obtain ⟨h0,_,_,_,_,hf⟩:=rwL_at hr
 obtain ⟨c0,c2,_,_,_,cf⟩:=rwL_at (hL.self _ _ _ _ _ hr)
 generalize hW:w.setCell ⟨a,0,none⟩ (.int .i32 1)=W at *
 have HC:=HC W hL
 subst hk
 all_goals
  go_enter_defers Tryz.func72,Tryz.ntmps72
  go_wp2_with (go_at_call 98; refine (lock_free Tryz.muLib ⟨a,0,none⟩ _ h0 (hf 0)).mono ?_; rintro e w' ⟨rfl,hw⟩; rw [hW] at hw; subst hw)
  refine HC.mono ?_
  rintro e w1 ⟨rfl,hb⟩
  have hr1:=(hb.block a (Nat.lt_of_lt_of_le ha hL.size)).trans (hL.self _ _ _ _ _ hr)
  obtain ⟨g0,_,_,_,_,gf⟩:=rwL_at hr1
  have hE:=lkd_end hr hL (hb.mono hL.size)
  go_wp2
  refine leaves_cons (f:=99) (args:=#[.pointer (some ⟨a,0,none⟩)]) (by simp) (by simp [go_sem]) ?_
  refine (unlock_deferred Tryz.muLib ⟨a,0,none⟩ .returning _ g0 (gf 0)).mono ?_
  rintro e u' w'' ⟨rfl,rfl,rfl⟩
  exact ⟨_,results_tmp2 rfl _ _ _,rfl,hE⟩
theorem wholeU_nil (w:World) (f:Value):Calls Tryz.prog 72 #[.pointer none,f] w fun e w'=>e = .returned (.tuple #[.int .u64 0,.int .i64 200])∧w'=w:=by
 go_enter_defers Tryz.func72,Tryz.ntmps72
 go_wp2
 exact ⟨_,results_tmp2 rfl _ _ _,rfl,rfl⟩
set_option maxHeartbeats 800000 in
theorem wholeS_any (w:World) (a:Nat) (sa:Addr) (k:Nat) (caps:Array Value) (hk:k=83∨k=86∨k=81∨k=76) {x1 x3 x4 x5:Value} (hr:w.heap[a]? = some (rwL 0 x1 (some sa) x3 x4 x5)) (x y:Value)
  (HC : ∀ W,Lkd a w W→Calls Tryz.prog k caps W fun e w'=>e = .returned (.tuple #[x,y])∧Below W.heap.size W w') :
  Calls Tryz.prog 75 #[.pointer (some ⟨a,0,none⟩),.func (.func k) #[] caps] w fun e w'=>e = .returned (.tuple #[x,y])∧Below w.heap.size w w':=by
 have hL:=lkd_of (Below.refl w.heap.size w) (Array.getElem?_eq_some_iff.1 hr).1
 have ha:=(Array.getElem?_eq_some_iff.1 hr).1
 obtain ⟨h0,_,_,_,_,hf⟩:=rwL_at hr
 obtain ⟨c0,c2,_,_,_,cf⟩:=rwL_at (hL.self _ _ _ _ _ hr)
 generalize hW:w.setCell ⟨a,0,none⟩ (.int .i32 1)=W at *
 have HC:=HC W hL
 rcases hk with rfl | rfl | rfl | rfl
 all_goals
  go_enter_defers Tryz.func75,Tryz.ntmps75
  go_wp2_with (go_at_call 98; refine (lock_free Tryz.muLib ⟨a,0,none⟩ _ h0 (hf 0)).mono ?_; rintro e w' ⟨rfl,hw⟩; rw [hW] at hw; subst hw)
  refine HC.mono ?_
  rintro e w1 ⟨rfl,hb⟩
  have hr1:=(hb.block a (Nat.lt_of_lt_of_le ha hL.size)).trans (hL.self _ _ _ _ _ hr)
  obtain ⟨g0,_,_,_,_,gf⟩:=rwL_at hr1
  have hE:=lkd_end hr hL (hb.mono hL.size)
  go_wp2
  refine leaves_cons (f:=99) (args:=#[.pointer (some ⟨a,0,none⟩)]) (by simp) (by simp [go_sem]) ?_
  refine (unlock_deferred Tryz.muLib ⟨a,0,none⟩ .returning _ g0 (gf 0)).mono ?_
  rintro e u' w'' ⟨rfl,rfl,rfl⟩
  exact ⟨_,results_tmp2 rfl _ _ _,rfl,hE⟩
end Go.Proofs.YtoblgjledefdbaaGreatDoor
