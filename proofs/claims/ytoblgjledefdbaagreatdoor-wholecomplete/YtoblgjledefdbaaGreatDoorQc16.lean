/- Own work. -/
import Derived.Conc.MuLone
import Derived.Test.YtoblgjledefdbaaGreatDoorQc15
set_option maxRecDepth 100000
set_option maxHeartbeats 4000000
namespace Go.Proofs.YtoblgjledefdbaaGreatDoor
open Go.RowKit
attribute [local go_sem ↓] Go.wp_at_zero Go.wp_at_succ
open Go.Proofs.Tryz
namespace St
open Rc
def nD(R j:Nat):DV := { Jb R with acts:=j }
theorem QoN(R j:Nat)(s:List UInt8):YI (nD R j) s=(nD R (j+1),0):=rfl
def nmJ(j:Nat):BA:=if j=0 then ⟨#[105,116,101,109,115]⟩ else if j=1 then ⟨#[110,111,100,101,115]⟩ else ⟨#[109,97,114,107,115]⟩
theorem Qkm(j:Nat):(nmJ j).size<=maxLen:=by
 unfold nmJ
 split
 ·decide
 ·split <;> decide
section
variable {q p:Nat} {T:Nat->Prop} {D:DV} {S:SV}
theorem Qnt{W:World}{g:Nat}{U:TypeId}(h:W.heap[g]? = some (.cells #[.string ⟨#[105,116,101,109,115]⟩,.string ⟨#[110,111,100,101,115]⟩,.string ⟨#[109,97,114,107,115]⟩] U (0,0)))(j:Nat)(hj:j<3):W.cell? ⟨g,j,none⟩=some (.string (nmJ j)):=by
 obtain⟨y0,y1,y2⟩:=QP h
 rcases(show j=0∨j=1∨j=2 by omega) with rfl|rfl|rfl
 ·exact y0
 ·exact y1
 ·exact y2
theorem Qmv(W:World)(hW:Sk W q p T D S)(hS:S.ends=[])(j:Nat):Calls prog 155 #[Pq q,.string (nmJ j)] W fun e w'=>e= .returned (.int .i64 0)∧W=w':=by
 unfold nmJ
 split
 ·have:=Uc W hW;rw[hS] at this;exact this.mono fun e w' z=>⟨z.1,z.2.symm⟩
 ·split
  ·have:=OI W hW;rw[hS] at this;exact this.mono fun e w' z=>⟨z.1,z.2.symm⟩
  ·have:=OH W hW;rw[hS] at this;exact this.mono fun e w' z=>⟨z.1,z.2.symm⟩
theorem JB(w:World)(R:Nat)(h:Sk w q p T (nD R 0) S):Calls prog 92 #[Pq q] w fun e w'=>e= .returned (.int .i64 0)∧w=w':=by
 have HS:Hid (Calls prog 151 #[Pq p,.string ⟨#[109,97,114,107,115]⟩] w fun e w'=>e= .returned (.int .i64 0)∧w=w'):=(h.size ⟨#[109,97,114,107,115]⟩ (by decide)).mono fun e w' z=>⟨z.1,z.2.symm⟩
 obtain⟨_,_,⟨c0,_⟩,_⟩:=h.cells;clear h
 go_enter func92,ntmps92
 go_wp2_with (go_at_call 151;(with_reducible refine HS.out.mono ?_);rintro e w1 ⟨rfl,rfl⟩)
 go_loopg [15] 0 (fun g x wr=>g=0∧x= .int .i64 0∧Hid (w=wr))
 case atStart=>go_light;exact⟨rfl,rfl,rfl⟩
 case round=>
  obtain⟨rfl,rfl,HE⟩:=hrel;go_wp2
  go_ret
  exact⟨rfl,HE.out⟩
theorem Qf2(w:World)(R:Nat)(hR:R<=268435456)(h:Sk w q p T (nD R 0) S)(hS:S.ends=[]):Calls prog 93 #[Pq q] w fun e w'=>e= .returned (.int .i64 0)∧SkM w w' q p T (nD R 3) S:=by
 obtain⟨w1,hw1⟩:∃W,w.alloc (.cells #[.string ⟨#[105,116,101,109,115]⟩,.string ⟨#[110,111,100,101,115]⟩,.string ⟨#[109,97,114,107,115]⟩] 9)=W:=⟨_,rfl⟩;have u1:Below w.heap.size w w1:=by rw[<-hw1];exact bal (Lb _ _) _
 obtain⟨bn,hbn⟩:∃b,w.heap.size=b:=⟨_,rfl⟩;have k1:w1.heap[bn]? = some (.cells #[.string ⟨#[105,116,101,109,115]⟩,.string ⟨#[110,111,100,101,115]⟩,.string ⟨#[109,97,114,107,115]⟩] 9 (0,0)):=by rw[<-hw1,<-hbn];exact Ja _ _
 have nT:¬T bn:=fun e=>by have:=h.lt e;omega
 have HW:=Qd hw1;have HB:=Qd hbn;have HC:Hid (∀W i,SkM w1 W q p T (nD R i) S->(∀j,j<3->W.cell? ⟨bn,j,none⟩=some (.string (nmJ j)))∧W.cell? ⟨q,0,none⟩=some (Pq p)):=fun W i hW=>by
  refine⟨fun j hj=>hW.cell (Qnt k1 j hj) nT,?_⟩
  obtain⟨T1,hk,_,_⟩:=hW;obtain⟨_,_,⟨c0,_⟩,_⟩:=hk.cells;exact c0
 have HL:Hid (∀W j i,SkM w1 W q p T (nD R i) S->Calls prog 155 #[Pq q,.string (nmJ j)] W fun e w'=>e= .returned (.int .i64 0)∧W=w'):=fun W j i hW=>by
  obtain⟨T1,hk,_,_⟩:=hW;exact Qmv W hk hS j
 have HZ:Hid (∀W j i,SkM w1 W q p T (nD R i) S->Calls prog 151 #[Pq p,.string (nmJ j)] W fun e w'=>e= .returned (.int .i64 0)∧W=w'):=fun W j i hW=>by
  obtain⟨T1,hk,_,_⟩:=hW;exact(hk.size (nmJ j) (Qkm j)).mono fun e w' z=>⟨z.1,z.2.symm⟩
 have HY:Hid (∀W j i,i<3->SkM w1 W q p T (nD R i) S->Calls prog 157 #[Pq p,.string (nmJ j)] W fun e w'=>e= .returned (.int .i64 0)∧SkM w1 w' q p T (nD R (i+1)) S):=fun W j i hi hW=>by
  obtain⟨T1,hk,hT,hu⟩:=hW;have:=hk.sync ⟨by show i+1<=_;omega,by show(0:Nat)<_;decide,by show R<=_;omega⟩ (nmJ j) (Qkm j)
  rw[QoN] at this;exact this.mono fun e w' z=>⟨z.1,Y2 hT hu z.2⟩
 have HS0:Hid (SkM w1 w1 q p T (nD R 0) S):=SkM.of (h.next u1) (Lb _ _);have HU:=Qd u1;clear hw1 hbn u1 h k1 nT hS hR
 go_enter func93,ntmps93
 go_upto_region 2 with (fail)
 try rw[HW.out,HB.out]
 go_wp2
 go_loopg [13] 3 (fun g x wr=> ∃j:Nat,j<=3∧g=3-j∧x= .int .i64 j∧Hid (SkM w1 wr q p T (nD R 0) S))
 case atStart=>go_light;exact⟨0,by decide,rfl,rfl,HS0⟩
 case round=>
  obtain⟨j,hj,rfl,rfl,HS⟩:=hrel;clear HS0
  by_cases hlt:j<3
  ·have hz:(j:Int)<3:=by omega
   obtain⟨cn,c0⟩:=HC.out _ _ HS.out;have cj:=cn j hlt;have HL1:=Qd (HL.out wr j 0 HS.out);have HZ1:=Qd (HZ.out wr j 0 HS.out);have ew:IntKind.i64.wrap ((j:Int)+1)=(j:Int)+1:=by rw[Lz];omega
   clear cn HL HZ HY;generalize nmJ j=nj at *
   go_wp2_with (first
    | (go_at_call 151;(with_reducible refine HZ1.out.mono ?_);rintro e w2 ⟨rfl,rfl⟩)
    | (go_at_call 155;(with_reducible refine HL1.out.mono ?_);rintro e w3 ⟨rfl,rfl⟩))
   go_roundg (3-(j+1))
   case rel=>go_light;exact⟨j+1,by omega,rfl,by go_num,HS⟩
   case measure=>go_light;omega
  ·have hz:¬(j:Int)<3:=by omega
   clear HL HZ;generalize wr=wo at *;go_wp2
   go_loopg [42] 3 (fun g x wr=> ∃i:Nat,i<=3∧g=3-i∧x= .int .i64 i∧Hid (SkM w1 wr q p T (nD R i) S))
   case atStart=>go_light;exact⟨0,by decide,rfl,rfl,HS⟩
   case round=>
    clear HS hz hlt hj;obtain⟨i,hi,rfl,rfl,HS⟩:=hrel
    by_cases hlt:i<3
    ·have hz:(i:Int)<3:=by omega
     obtain⟨cn,c0⟩:=HC.out _ _ HS.out;have cj:=cn i hlt;have HY1:=Qd (HY.out wr i i hlt HS.out);have ew:IntKind.i64.wrap ((i:Int)+1)=(i:Int)+1:=by rw[Lz];omega
     clear cn HY HS;generalize nmJ i=nj at *
     go_wp2_with (go_at_call 157;(with_reducible refine HY1.out.mono ?_);rintro e w9 ⟨rfl,t9⟩)
     go_roundg (3-(i+1))
     case rel=>go_light;exact⟨i+1,by omega,rfl,by go_num,t9⟩
     case measure=>go_light;omega
    ·have hz:¬(i:Int)<3:=by omega
     obtain rfl:i=3:=by omega
     go_wp2
     go_ret
     exact⟨rfl,SkM.first HU.out HS.out⟩
end
theorem QD(w:World)(k:Int)(k1:1<=k)(k2:k<=32):Calls prog 91 #[.int .i64 k] w fun e w'=>e= .returned (.int .i64 0)∧w=w':=by
 have h1:¬k<1:=by omega
 have h2:¬32<k:=by omega
 clear k1 k2
 go_enter func91,ntmps91;go_wp2
 go_ret
 exact⟨rfl,rfl⟩
theorem QnG{w w1 W:World}{S0 T:Nat->Prop}(hb:Below w.heap.size w w1)(hu:Upo T w1 W)(hT:∀x,T x->S0 x∨w.heap.size<=x):Upo S0 w W :=
 (Upo.of hb).trans hu (fun x hx ht=>(hT x ht).elim id (fun e=>by omega))
theorem QhA(w:World){p:Nat}{S0:Nat->Prop}(R:Nat)(hR:R<=268435456)(h:Dsk w p S0 (Jb R))(k:Nat)(k1:1<=k)(k2:k<=32) :
  Calls prog 42 #[Pq p,.int .i64 k] w fun e w'=> ∃q T,e= .returned (.tuple #[Pq q,.int .i64 0])∧Sk w' q p T (nD R 3) ⟨k,[],0#32,false⟩∧(∀y,T y->S0 y∨w.heap.size<=y)∧Upo S0 w w':=by
 have HC:=Qd (QD w (k:Int) (by omega) (by omega))
 have HDn:Hid (Calls prog 15 #[Pq p] w fun e w'=>e= .returned (.bool false)∧w=w'):=h.down.mono fun e w' z=>⟨z.1,z.2.symm⟩
 obtain⟨w1,hw1⟩:∃W,w.alloc (.cells #[Pq p,.int .i64 k,.slice none 0 0,.int .u32 0,.bool false] 169)=W:=⟨_,rfl⟩;have u1:Below w.heap.size w w1:=by rw[<-hw1];exact bal (Lb _ _) _
 have e1:w1.heap[w.heap.size]? = some (.cells #[Pq p,.int .i64 k,.slice none 0 0,.int .u32 0,.bool false] 169 (0,0)):=by rw[<-hw1];exact Ja _ _
 have hS:Sk w1 w.heap.size p (fun y=>S0 y∨y=w.heap.size) (nD R 0) ⟨k,[],0#32,false⟩ :=
  ⟨S0,.slice none 0 0,h.next u1,⟨e1,Qkt _ _,k1,k2,by simp,by simp⟩,fun e=>(by have:=h.lt e;omega),fun g hg=>(by cases hg),fun y=>⟨fun e=>e.elim .inl (fun e=> .inr (.inl e)),fun e=>e.elim .inl (fun e=>e.elim .inr (fun e=>by cases e))⟩⟩
 have hT:∀y,(S0 y∨y=w.heap.size)->S0 y∨w.heap.size<=y:=fun y e=>e.imp id (fun e=>by omega)
 have HA:=Qd (JB w1 R hS);have HSt:=Qd (Qf2 w1 R hR hS rfl);obtain⟨bq,hbq⟩:∃b,w.heap.size=b:=⟨_,rfl⟩;have HW:=Qd hw1;have HB:=Qd hbq;have HT:=Qd hT;have HU:=Qd u1;rw[hbq] at HA HSt;clear h hS hT u1 e1 hw1 hbq k1 k2 hR
 go_enter func42,ntmps42
 go_upto_region 7 with (first
  | (go_at_call 91;(with_reducible refine HC.out.mono ?_);rintro e w2 ⟨rfl,rfl⟩)
  | (go_at_call 15;(with_reducible refine HDn.out.mono ?_);rintro e w2 ⟨rfl,rfl⟩))
 rw[HW.out,HB.out]
 go_wp2_with (first
  | (go_at_call 92;(with_reducible refine HA.out.mono ?_);rintro e w3 ⟨rfl,rfl⟩)
  | (go_at_call 93;(with_reducible refine HSt.out.mono ?_);rintro e w4 ⟨rfl,t4⟩))
 go_ret2
 obtain⟨T4,z1,z2,z3⟩:=t4;exact⟨bq,T4,rfl,z1,fun y hy=>(z2 y hy).elim (fun e=>HT.out y (by rw[HB.out] ;exact e)) (fun e=> .inr (Lu HU.out.size e)),QnG HU.out z3 (fun y hy=>HT.out y (by rw[HB.out];exact hy))⟩
end St
namespace St
open Rc
theorem Qbu:nmI≠nmN:=by decide
theorem Qce:nmI≠nmM:=by decide
theorem Qep:nmN≠nmM:=by decide
def Oth(L:List (List UInt8×FV)):Prop := ∀s,s≠nmI->s≠nmN->s≠nmM->Qh L s=fz
theorem Qpr{L:List (List UInt8×FV)}(ho:Ord L)(h:Oth L):L=Yn (Yn (Yn [] nmI (Qh L nmI)) nmN (Qh L nmN)) nmM (Qh L nmM):=by
 have o1:=YZ Uy nmI (Qh L nmI);have o2:=YZ o1 nmN (Qh L nmN);refine QmU ho (YZ o2 nmM (Qh L nmM)) fun s=> ?_
 rw[Q8 o2,Q8 o1,Q8 Uy]
 by_cases h1:s=nmM
 ·rw[Lm h1,h1]
 ·rw[Ld h1]
  by_cases h2:s=nmN
  ·rw[Lm h2,h2]
  ·rw[Ld h2]
   by_cases h3:s=nmI
   ·rw[Lm h3,h3]
   ·rw[Ld h3,h s h3 h2 h1];rfl
theorem JV{L:List (List UInt8×FV)}(ho:Ord L)(h:Oth L):tot L=(Qh L nmI).now.length+(Qh L nmN).now.length+(Qh L nmM).now.length∧L.length<=3:=by
 have e:=Qpr ho h;have o1:=YZ Uy nmI (Qh L nmI);have o2:=YZ o1 nmN (Qh L nmN);have t1:=O5 Uy nmI (Qh L nmI);have t2:=O5 o1 nmN (Qh L nmN);have t3:=O5 o2 nmM (Qh L nmM);rw[Q8 Uy,Ld Qbu.symm] at t2;rw[Q8 o1,Ld Qep.symm,Q8 Uy,Ld Qce.symm] at t3;have z:(Qh ([]:List (List UInt8×FV)) nmI).now.length=0:=rfl;have z2:(Qh ([]:List (List UInt8×FV)) nmN).now.length=0:=rfl;have z3:(Qh ([]:List (List UInt8×FV)) nmM).now.length=0:=rfl;have z4:tot []=0:=rfl;have l1:=OG (L:=[]) nmI (Qh L nmI);have l2:=OG (L:=Yn [] nmI (Qh L nmI)) nmN (Qh L nmN);have l3:=OG (L:=Yn (Yn [] nmI (Qh L nmI)) nmN (Qh L nmN)) nmM (Qh L nmM);rw[<-e] at t3 l3;simp only[List.length_nil] at l1;exact⟨by omega,by omega⟩
structure Qt(R:Nat)(D:DV):Prop where
 down:D.down=false
 fk:D.fk=0
 ord:Ord D.L
 tot:D.free+tot D.L=R
theorem Qt.put{R:Nat}{D:DV}(h:Qt R D)(s:List UInt8)(f:FV)(hf:f.now.length<=D.free+(Qh D.L s).now.length):O8 D s f=(Ua { D with acts:=D.acts+1 } s f,0)∧Qt R (Ua { D with acts:=D.acts+1 } s f):=by
 refine⟨Qe5 h.fk s f,h.down,h.fk,YZ h.ord s f,?_⟩
 have:=O5 h.ord s f;have:=h.tot
 show D.free+(Qh D.L s).now.length-f.now.length+Go.Proofs.YtoblgjledefdbaaGreatDoor.St.tot (Yn D.L s f)=R
 omega
structure Lft(R:Nat)(D D':DV)(s:List UInt8)(f:FV)(n:Nat):Prop where
 qt:Qt R D'
 at_:Qh D'.L s=f
 oth:∀t,t≠s->Qh D'.L t=Qh D.L t
 acts:D'.acts=D.acts+n
theorem Qt.act{R:Nat}{D:DV}(h:Qt R D)(s:List UInt8)(f:FV)(hf:f.now.length<=D.free+(Qh D.L s).now.length):∃D',O8 D s f=(D',0)∧Lft R D D' s f 1:=by
 obtain⟨h1,h2⟩:=h.put s f hf;refine⟨_,h1,h2,?_,fun t ht=> ?_,rfl⟩
 ·show Qh (Yn D.L s f) s=f
  rw[Q8 h.ord,Lm rfl]
 ·show Qh (Yn D.L s f) t=_
  rw[Q8 h.ord,Ld ht]
theorem Qt.syn{R:Nat}{D:DV}(h:Qt R D)(s:List UInt8):∃D',YI D s=(D',0)∧Lft R D D' s ⟨(Qh D.L s).now,(Qh D.L s).now⟩ 1:=by
 unfold YI;rw[Ld (by rw[h.down];exact I7)]
 exact h.act s _ (by show(Qh D.L s).now.length<=_;omega)
theorem Qph(l t:List UInt8):wr l l.length t=l++t:=by simp[wr]
theorem Qt.wr{R:Nat}{D:DV}(h:Qt R D)(s t:List UInt8)(n:Nat)(hn:(Qh D.L s).now.length=n)(h1:n+t.length<=268435456)(h2:t.length<=D.free):∃D',wrD D s (n:Int) t=(D',0)∧Lft R D D' s ⟨(Qh D.L s).now++t,(Qh D.L s).syn⟩ 1:=by
 unfold wrD;rw[Ld (by rw[h.down];exact I7),Ld (by omega),Ld (by omega)]
 have:=h.act s ⟨(Qh D.L s).now++t,(Qh D.L s).syn⟩ (by show((Qh D.L s).now++t).length<=_;rw[Le];omega)
 rwa [Ni,<-hn,Qph]
structure Ext(k:Nat)(A:List It)(L:List (List UInt8×FV)):Prop where
 i:Qh L nmI=⟨(bA k A).a,(bA k A).a⟩
 n:Qh L nmN=⟨(bA k A).b,(bA k A).b⟩
 m:Qh L nmM=⟨(bA k A).m,(bA k A).m⟩
 oth:Oth L
theorem Qn7{k R:Nat}{A:List It}{x:It}{D:DV}(h:OkA k (A++[x]))(hq:Qt R D)(he:Ext k A D.L)(hR:(bA k (A++[x])).a.length+(bA k (A++[x])).b.length+(bA k (A++[x])).m.length<=R)(hz:R<=268435456) :
  ∃D',UD D (sA k A) x.1 x.2=(D',sA k (A++[x]),0)∧Qt R D'∧Ext k (A++[x]) D'.L∧D'.acts=D.acts+6:=by
 have l:=h.init.lens;have l2:=h.lens;have hx:=h.last;have hf:=h.few;simp only[List.length_append,List.length_cons,List.length_nil,Nat.zero_add] at hf;have ea:(bA k (A++[x])).a=(bA k A).a++pay x.1:=by rw[Y8];rfl
 have eb:(bA k (A++[x])).b=(bA k A).b++Rc.Qk (YH (nn A.length) x.2):=by rw[Y8,<-l.ends];rfl
 have em:(bA k (A++[x])).m=(bA k A).m++mrk ((bA k A).mk' k x):=by rw[Y8];rfl
 have et:=(JV hq.ord he.oth).1;rw[he.i,he.n,he.m] at et;have et2:=hq.tot;have eal:(bA k (A++[x])).a.length=(bA k A).a.length+(pay x.1).length:=by rw[ea,Le]
 have ebl:(bA k (A++[x])).b.length=(bA k A).b.length+(Rc.Qk (YH (nn A.length) x.2)).length:=by rw[eb,Le]
 have eml:(bA k (A++[x])).m.length=(bA k A).m.length+(mrk ((bA k A).mk' k x)).length:=by rw[em,Le]
 simp only at et
 -- the six acts
 obtain⟨D1,a1,l1⟩:=hq.wr nmI (pay x.1) (bA k A).a.length (by rw[he.i]) (by omega) (by omega)
 rw[he.i] at l1;have t1:=(JV l1.qt.ord (fun s h1 h2 h3=>by rw[l1.oth s h1];exact he.oth s h1 h2 h3)).1
 rw[l1.at_,l1.oth _ Qbu.symm,l1.oth _ Qce.symm,he.n,he.m] at t1;have q1:=l1.qt.tot;simp only[List.length_append] at t1;obtain⟨D2,a2,l2'⟩:=l1.qt.wr nmN (Rc.Qk (YH (nn A.length) x.2)) (bA k A).b.length (by rw[l1.oth _ Qbu.symm,he.n]) (by omega) (by omega)
 rw[l1.oth _ Qbu.symm,he.n] at l2';obtain⟨D3,a3,l3⟩:=l2'.qt.syn nmI;rw[l2'.oth _ Qbu,l1.at_] at l3;obtain⟨D4,a4,l4⟩:=l3.qt.syn nmN;rw[l3.oth _ Qbu.symm,l2'.at_] at l4;have m4:Qh D4.L nmM=⟨(bA k A).m,(bA k A).m⟩:=by rw[l4.oth _ Qep.symm,l3.oth _ Qce.symm,l2'.oth _ Qep.symm,l1.oth _ Qce.symm,he.m]
 have i4:Qh D4.L nmI=⟨(bA k A).a++pay x.1,(bA k A).a++pay x.1⟩:=by rw[l4.oth _ Qbu,l3.at_]
 have o4:Oth D4.L:=fun s h1 h2 h3=>by rw[l4.oth s h2,l3.oth s h1,l2'.oth s h2,l1.oth s h1];exact he.oth s h1 h2 h3
 have t4:=(JV l4.qt.ord o4).1;rw[i4,l4.at_,m4] at t4;have q4:=l4.qt.tot;simp only[List.length_append] at t4;obtain⟨D5,a5,l5⟩:=l4.qt.wr nmM (mrk ((bA k A).mk' k x)) (bA k A).m.length (by rw[m4]) (by omega) (by omega)
 rw[m4] at l5;obtain⟨D6,a6,l6⟩:=l5.qt.syn nmM;rw[l5.at_] at l6;have hA:Yc (addA (sA k A) x.1 x.2) D=(D6,0):=by
  show Yc (six (sA k A) (pay x.1) (Rc.Qk (YH (nn (bA k A).ends.length) x.2)) (mrk ((bA k A).mk' k x))) D=_
  unfold six;have e1:((lst (sA k A).ends:Nat):Int)=((bA k A).a.length:Int):=by show((lst (bA k A).ends:Nat):Int)=_;rw[l.lst]
  have e2:((nn (sA k A).ends.length*40:Nat):Int)=((bA k A).b.length:Int):=by show((nn (bA k A).ends.length*40:Nat):Int)=_;rw[l.ends,l.b,LU]
  have e3:(((sA k A).ends.length*64:Nat):Int)=((bA k A).m.length:Int):=by show(((bA k A).ends.length*64:Nat):Int)=_;rw[l.ends,l.m,LU]
  rw[e1,e2,e3,l.ends];simp only[Yc,a1,a2,a3,a4,a5,a6,if_true]
 have hr:refD (sA k A) x.1 x.2=0:=by
  have hnx:nxt (sA k A) x.2=true:=(Qc4 _ _).2 ⟨by show _=nn ((bA k A).ends.length+1)-nn (bA k A).ends.length;rw[l.ends];exact hx.cnt,hx.sz⟩
  unfold refD;rw[Ld (show ¬(sA k A).lame=true from I7),Ld (by have:=hx.len;omega),Ld (by show ¬65536<=(bA k A).ends.length;rw[l.ends];omega),Ld (by rw[hnx];simp),Ld (by show ¬_<lst (bA k A).ends+_;have:=pay_len x.1;rw[l.lst];omega)]
 refine⟨D6,?_,l6.qt,⟨?_,?_,?_,?_⟩,?_⟩
 ·unfold UD;rw[hr,Ld (show ¬((0:Int)≠0) from fun h=>h rfl),hA,Lm rfl]
  show(D6,(⟨k,(bA k A).ends++[((bA k A).mk' k x).items],((bA k A).mk' k x).chain,false⟩:SV),(0:Int))=_
  unfold sA;rw[Y8];rfl
 ·rw[l6.oth _ Qce,l5.oth _ Qce,i4,ea]
 ·rw[l6.oth _ Qep,l5.oth _ Qep,l4.at_,eb]
 ·rw[l6.at_,em]
 ·intro s h1 h2 h3;rw[l6.oth s h3,l5.oth s h3];exact o4 s h1 h2 h3
 ·rw[l6.acts,l5.acts,l4.acts,l3.acts,l2'.acts,l1.acts]
theorem Qm6{D:DV}(hd:D.down=false)(s:List UInt8)(a n:Nat):rdS D s (a:Int) (n:Int)=if a+n<=(now D s).length then (((now D s).drop a).take n,0) else ([],190):=by
 have e1:rdD D s (a:Int) (n:Int)=if a+n<=(now D s).length then (((now D s).drop a).take n,0) else ([],173):=by
  unfold rdD now;rw[hd];simp only[Bool.false_eq_true,if_false,Int.toNat_natCast]
  by_cases h:a+n<=(Qh D.L s).now.length
  ·rw[Ld (by omega),Lm h]
  ·rw[Lm (by omega),Ld h]
 unfold rdS;rw[e1]
 by_cases h:a+n<=(now D s).length
 ·simp only[if_pos h];rfl
 ·simp only[if_neg h];rfl
theorem Ql8{k:Nat}{A:List It}(h:OkA k A)(i:Nat)(x:It)(hx:A[i]? = some x):(bA k A).ends.getD i 0=(bA k (A.take i)).a.length+(x.1.length+8)∧UN (bA k A).ends i=(bA k (A.take i)).a.length∧pay x.1 <+: (bA k A).a.drop (bA k (A.take i)).a.length:=by
 revert h hx
 refine Jf (P:=fun A=>OkA k A->A[i]? = some x->(bA k A).ends.getD i 0=(bA k (A.take i)).a.length+(x.1.length+8)∧UN (bA k A).ends i=(bA k (A.take i)).a.length∧pay x.1 <+: (bA k A).a.drop (bA k (A.take i)).a.length) (fun _ h=>by simp at h) (fun A y ih h hx=> ?_) A
 have l:=h.init.lens
 by_cases hi:i<A.length
 ·rw[LE hi] at hx;obtain⟨h1,h2,h3⟩:=ih h.init hx;have et:(A++[y]).take i=A.take i:=by rw[LG (by omega)]
  rw[et,Y8]
  show((bA k A).ends++[((bA k A).mk' k y).items]).getD i 0=_∧UN ((bA k A).ends++[((bA k A).mk' k y).items]) i=_∧pay x.1 <+: ((bA k A).a++pay y.1).drop _
  refine⟨?_,?_,?_⟩
  ·rw[<-h1,Lc,Lc,LE (by rw[l.ends];exact hi)]
  ·rw[<-h2];unfold UN
   split
   ·rfl
   ·rw[Lc,Lc,LE (by rw[l.ends];omega)]
  ·obtain⟨t,ht⟩:=h3;refine⟨t++pay y.1,?_⟩
   rw[L9 ((Qgh k A i).1.length_le),<-ht,LH]
 ·have hl:=(List.getElem?_eq_some_iff.1 hx).1
  obtain rfl:i=A.length:=by simp at hl;omega
  simp only[List.getElem?_concat_length,Option.some.injEq] at hx
  subst hx;have et:(A++[y]).take A.length=A:=Wb;rw[et,Y8]
  show((bA k A).ends++[((bA k A).mk' k y).items]).getD A.length 0=_∧UN ((bA k A).ends++[((bA k A).mk' k y).items]) A.length=_∧pay y.1 <+: ((bA k A).a++pay y.1).drop _
  refine⟨?_,?_,?_⟩
  ·rw[Lc,<-l.ends,Iz]
   show lst (bA k A).ends+(pay y.1).length=_
   rw[l.lst,pay_len]
  ·rw[<-l.lst,<-Qbc,l.ends];unfold UN
   split
   ·rfl
   ·rw[Lc,Lc,LE (by rw[l.ends];omega)]
  ·rw[List.drop_left];exact Wx
theorem Qmn{k:Nat}{A:List It}{D:DV}{S:SV}(h:OkA k A)(hS:S.ends=(bA k A).ends)(hd:D.down=false)(hb:(bA k A).a <+: (Qh D.L nmI).now)(i:Nat)(x:It)(hx:A[i]? = some x):JY D S i=(x.1,0):=by
 obtain⟨e1,e2,e3⟩:=Ql8 h i x hx;have l:=h.lens;have hi:=(List.getElem?_eq_some_iff.1 hx).1
 have hlen:=(h.it i x hx).len;have ht:=(Qgh k A i).1.length_le;obtain⟨t3,e3⟩:=e3;obtain⟨tb,hb⟩:=hb;have hlb:(now D nmI).length=(bA k A).a.length+tb.length:=by show(Qh D.L nmI).now.length=_;rw[<-hb,Le]
 have hla:(bA k A).a.length=(bA k (A.take i)).a.length+((x.1.length+8)+t3.length):=by
  have:=LW List.length e3;rw[Le,pay_len,LS] at this;omega
 have hR:OE D S i=(pay x.1,0):=by
  unfold OE;rw[hS,e1,e2];rw[show(((bA k (A.take i)).a.length+(x.1.length+8):Nat):Int)-((bA k (A.take i)).a.length:Int)=((x.1.length+8:Nat):Int) by omega,Qm6 hd,Lm (by rw[hlb];omega)]
  congr 1
  show((Qh D.L nmI).now.drop _).take _=_
  rw[<-hb,L9 (by omega),<-e3,LH]
  rw[LG (by rw[pay_len];exact La _),Lr (by rw[pay_len];exact La _)]
 unfold JY;rw[hR,Ld (by rw[hS,l.ends];omega),Ld (fun h=>h rfl),Lm (QnJ _ hlen)]
 have:=QeP x.1 [] hlen;rw[Nd] at this;rw[this];rfl
end St
theorem QpD(n:Nat)(h:n<=65536):St.nn (n+1)=St.nn n+(Pl.trl 40 n+1):=by
 obtain⟨h1,h2⟩:=Qe0 40 n (by omega)
 unfold St.nn;rw[St.Pl.new_N _ n h1 h2 (by omega)]
 omega
def itL(c:Nat)(L:LB):List St.It:=(List.range L.length).map fun i=>((L.getD i ByteArray.empty).data.toList,mdL c (L.take i) (L.getD i ByteArray.empty))
theorem OD(c:Nat)(L:LB):(itL c L).length=L.length:=by simp[itL]
theorem Qed(c:Nat)(L:LB)(x:BA):itL c (L++[x])=itL c L++[(x.data.toList,mdL c L x)]:=by
 simp only[itL,List.length_append,List.length_cons,List.length_nil,Nat.zero_add,List.range_succ,List.map_append,List.map_cons,List.map_nil]
 congr 1
 ·refine NE fun i hi=> ?_
  have hi:=List.mem_range.1 hi;rw[Lc,Lc,LE hi,LG (by omega)]
 ·rw[Wb,Lc,Iz];rfl
theorem QjP(c:Nat)(L:LB)(i:Nat)(x:BA)(h:L[i]? = some x):(itL c L)[i]? = some (x.data.toList,mdL c (L.take i) x):=by
 have hi:=(List.getElem?_eq_some_iff.1 h).1
 have:L.getD i ByteArray.empty=x:=by rw[Lc,h];rfl
 rw[itL,No,List.getElem?_range hi,IL,this]
theorem Qbn{k:Nat}(h1:1<=k)(h2:k<=32){L:LB}(hf:L.length<=65536)(hs:∀s∈L,s.size<=1048576):St.OkA k (itL k L):=by
 refine⟨h1,h2,by rw[OD];exact hf,fun i x hx=> ?_⟩
 have hi:=(List.getElem?_eq_some_iff.1 hx).1
 rw[OD] at hi;have hy:L[i]? = some L[i]:=Ll hi;rw[QjP k L i _ hy] at hx
 cases hx;have hl:(L.take i).length=i:=by rw[LA];omega
 refine⟨hs _ (LZ hi),?_,Qkb h2 _ _⟩
 show(mdL k (L.take i) L[i]).length=_
 rw[QgL,hl,QpD i (by omega)];omega
abbrev Tryz.muLink:Go.Conc.Locks.MuLink := { lock:=98,unlock:=99,ilock:=164,iunlock:=165,lockSlow:=258,unlockSlow:=261,disable:=254,enable:=256,acquire:=257,relMerge:=259,cas32:=255,add32:=260,tMutex:=114,tIMutex:=112,tPMutex:=237,tPIMutex:=316,tPI32:=318,tUP:=320,tNoCopy:=109,tU32:=110 }
theorem Tryz.muLib:Go.Conc.Locks.MuLib prog Tryz.muLink :=
  ⟨func98,func99,func164,func165,func254,func256,func257,func259,func255,func260,
   underlying112,Tryz.runUnderlying112,Tryz.sizeOf112,Tryz.isAgg112,Tryz.zeroValue112,underlying114,Tryz.runUnderlying114,Tryz.sizeOf114,Tryz.isAgg114,Tryz.zeroValue114,underlying237,Tryz.runUnderlying237,Tryz.sizeOf237,Tryz.isAgg237,Tryz.zeroValue237,underlying316,Tryz.runUnderlying316,Tryz.sizeOf316,Tryz.isAgg316,Tryz.zeroValue316,underlying318,Tryz.runUnderlying318,Tryz.sizeOf318,Tryz.isAgg318,Tryz.zeroValue318,underlying320,Tryz.runUnderlying320,Tryz.sizeOf320,Tryz.isAgg320,Tryz.zeroValue320,underlying109,Tryz.runUnderlying109,Tryz.sizeOf109,Tryz.isAgg109,Tryz.zeroValue109,underlying21,Tryz.runUnderlying21,Tryz.sizeOf21,Tryz.isAgg21,Tryz.zeroValue21,(by kernel_rfl)⟩
section
open Go.MuLone
def Inn(a:Nat)(R:Value->Value->World->Prop)(e:Ending)(w':World):Prop := ∃x y,e= .returned (.tuple #[x,y])∧w'.cell? ⟨a,0,none⟩=some (.int .i32 1)∧w'.frozen? ⟨a,0,none⟩=false∧R x y w'
def Out(a:Nat)(R:Value->Value->World->Prop)(e:Ending)(w':World):Prop := ∃x y w1,e= .returned (.tuple #[x,y])∧R x y w1∧w'=w1.setCell ⟨a,0,none⟩ (.int .i32 0)
def rwL(g:Int)(x1:Value)(st:OA)(x3 x4 x5:Value):Obj := .cells #[.int .i32 g,x1,.pointer st,x3,x4,x5] 116 (0,0)
theorem Yo{w:World}{a:Nat}{g:Int}{x1:Value}{st:OA}{x3 x4 x5:Value}(h:w.heap[a]? = some (rwL g x1 st x3 x4 x5)):w.cell? ⟨a,0,none⟩=some (.int .i32 g)∧w.cell? ⟨a,2,none⟩=some (.pointer st)∧w.cell? ⟨a,3,none⟩=some x3∧w.cell? ⟨a,4,none⟩=some x4∧w.cell? ⟨a,5,none⟩=some x5 ∧ ∀j,w.frozen? ⟨a,j,none⟩=false :=
 ⟨by rw[cell_of_row w a 0 _ _ (0,0) h];rfl,by rw[cell_of_row w a 2 _ _ (0,0) h];rfl,by rw[cell_of_row w a 3 _ _ (0,0) h];rfl,by rw[cell_of_row w a 4 _ _ (0,0) h];rfl,by rw[cell_of_row w a 5 _ _ (0,0) h];rfl,fun j=>frozen_of_row w a j _ _ h⟩
structure Lkd(a:Nat)(w W:World):Prop where
 os:W.os=w.os
 tape:W.tape=w.tape
 output:W.output=w.output
 size:w.heap.size<=W.heap.size
 oth:∀b,b<w.heap.size->b≠a->W.heap[b]? = w.heap[b]?
 self:∀x1 st x3 x4 x5,w.heap[a]? = some (rwL 0 x1 st x3 x4 x5)->W.heap[a]? = some (rwL 1 x1 st x3 x4 x5)
theorem Qj3{a:Nat}{w W:World}(h:Below w.heap.size w W)(ha:a<w.heap.size):Lkd a w (W.setCell ⟨a,0,none⟩ (.int .i32 1)):=by
 refine⟨h.os,h.tape,h.output,by simpa using h.size,fun b hb hne=> ?_,fun x1 st x3 x4 x5 hr=> ?_⟩
 ·rw[<-h.block b hb];exact Below.heap_setCell _ _ _ _ hne
 ·exact Lp W a 0 _ _ (.int .i32 1) ((h.block a ha).trans hr)
theorem QgK{a:Nat}{w W w1:World}{x1:Value}{st:OA}{x3 x4 x5:Value}(hr:w.heap[a]? = some (rwL 0 x1 st x3 x4 x5))(hL:Lkd a w W)(hb:Below w.heap.size W w1):Below w.heap.size w (w1.setCell ⟨a,0,none⟩ (.int .i32 0)):=by
 refine⟨hb.os.trans hL.os,hb.tape.trans hL.tape,hb.output.trans hL.output,by simpa using Lu hL.size hb.size,fun b hlt=> ?_⟩
 by_cases e:b=a
 ·subst e;rw[hr];exact Lp w1 b 0 _ _ (.int .i32 0) ((hb.block b hlt).trans (hL.self _ _ _ _ _ hr))
 ·rw[<-hL.oth b hlt e,<-hb.block b hlt];exact Below.heap_setCell _ _ _ _ e
theorem Qgb(w:World)(a st k:Nat)(caps:Array Value)(hk:k=48∨k=61)(h0:w.cell? ⟨a,0,none⟩=some (.int .i32 0))(hf:w.frozen? ⟨a,0,none⟩=false)(h2:w.cell? ⟨a,2,none⟩=some (Pq st))(R:Value->Value->World->Prop)
  (HC:Calls prog k caps (w.setCell ⟨a,0,none⟩ (.int .i32 1)) (Inn a R)) :
  Calls prog 47 #[Pq a,.func (.func k) #[] caps] w (Out a R):=by
 have c2:(w.setCell ⟨a,0,none⟩ (.int .i32 1)).cell? ⟨a,2,none⟩=some (Pq st):=by
  rw[Lq _ ⟨a,0,none⟩ ⟨a,2,none⟩ _ (by simp)];exact h2
 generalize hW:w.setCell ⟨a,0,none⟩ (.int .i32 1)=W at *
 rcases hk with rfl|rfl
 all_goals
  go_enter_defers func47,ntmps47
  go_wp2_with (go_at_call 98;refine(lock_free Tryz.muLib ⟨a,0,none⟩ _ h0 hf).mono ?_;rintro e w' ⟨rfl,hw⟩;rw[hW] at hw;subst hw)
  refine HC.mono ?_
  rintro e w' ⟨x,y,rfl,g0,g1,g2⟩;go_wp2;refine leaves_cons (f:=99) (args:=#[Pq a]) (by simp) (by simp[go_sem]) ?_
  refine(unlock_deferred Tryz.muLib ⟨a,0,none⟩ .returning _ g0 g1).mono ?_
  rintro e u' w'' ⟨rfl,rfl,rfl⟩;exact⟨_,results_tmp2 rfl _ _ _,x,y,w',rfl,g2,rfl⟩
theorem Jj(w:World)(a:Nat)(sa:Addr)(k:Nat)(caps:Array Value)(hk:k=83∨k=86∨k=81∨k=76){x1 x3 x4 x5:Value}(hr:w.heap[a]? = some (rwL 0 x1 (some sa) x3 x4 x5))(x y:Value)
  (HC:∀W,Lkd a w W->Calls prog k caps W fun e w'=>e= .returned (.tuple #[x,y])∧Below W.heap.size W w') :
  Calls prog 75 #[Pq a,.func (.func k) #[] caps] w fun e w'=>e= .returned (.tuple #[x,y])∧Below w.heap.size w w':=by
 have hL:=Qj3 (Lb w.heap.size w) (Array.getElem?_eq_some_iff.1 hr).1
 have ha:=(Array.getElem?_eq_some_iff.1 hr).1
 obtain⟨h0,_,_,_,_,hf⟩:=Yo hr;obtain⟨c0,c2,_,_,_,cf⟩:=Yo (hL.self _ _ _ _ _ hr);generalize hW:w.setCell ⟨a,0,none⟩ (.int .i32 1)=W at *;have HC:=HC W hL
 rcases hk with rfl|rfl|rfl|rfl
 all_goals
  go_enter_defers func75,ntmps75
  go_wp2_with (go_at_call 98;refine(lock_free Tryz.muLib ⟨a,0,none⟩ _ h0 (hf 0)).mono ?_;rintro e w' ⟨rfl,hw⟩;rw[hW] at hw;subst hw)
  refine HC.mono ?_
  rintro e w1 ⟨rfl,hb⟩;have hr1:=(hb.block a (Lv ha hL.size)).trans (hL.self _ _ _ _ _ hr);obtain⟨g0,_,_,_,_,gf⟩:=Yo hr1;have hE:=QgK hr hL (hb.mono hL.size);go_wp2;refine leaves_cons (f:=99) (args:=#[Pq a]) (by simp) (by simp[go_sem]) ?_
  refine(unlock_deferred Tryz.muLib ⟨a,0,none⟩ .returning _ g0 (gf 0)).mono ?_
  rintro e u' w'' ⟨rfl,rfl,rfl⟩;exact⟨_,results_tmp2 rfl _ _ _,rfl,hE⟩
theorem Qgc(w:World)(a:Nat)(sa:Addr)(caps:Array Value){x1 x3 x4 x5:Value}(hr:w.heap[a]? = some (rwL 0 x1 (some sa) x3 x4 x5))(n:Int)(r:BA)(y:Value)
  (HC:∀W,Lkd a w W->Calls prog 56 caps W fun e w'=>e= .returned (.tuple #[.agg #[.int .u64 n,.string r],y])∧Below W.heap.size W w') :
  Calls prog 55 #[Pq a,.func (.func 56) #[] caps] w fun e w'=>e= .returned (.tuple #[.agg #[.int .u64 n,.string r],y])∧Below w.heap.size w w':=by
 have ha:=(Array.getElem?_eq_some_iff.1 hr).1
 have hb2:Below w.heap.size w ((w.alloc (.cells #[.int .u64 0,.string ⟨#[]⟩] 50)).alloc (.cells #[.int .u64 0,.string ⟨#[]⟩] 50)):=(Lb _ _).alloc (La _) _ |>.alloc (by simp) _
 have k4:((w.alloc (.cells #[.int .u64 0,.string ⟨#[]⟩] 50)).alloc (.cells #[.int .u64 0,.string ⟨#[]⟩] 50)).heap[w.heap.size]? = some (.cells #[.int .u64 0,.string ⟨#[]⟩] 50 (0,0)):=by
  rw[(MapKept.heap_alloc _ _).2 _ (by simp)];exact(MapKept.heap_alloc w _).1
 generalize hW0:(w.alloc (.cells #[.int .u64 0,.string ⟨#[]⟩] 50)).alloc (.cells #[.int .u64 0,.string ⟨#[]⟩] 50)=W0 at *;have hL:=Qj3 hb2 ha;have hr0:=(hb2.block a ha).trans hr;obtain⟨h0,_,_,_,_,hf⟩:=Yo hr0;obtain⟨c0,c2,_,_,_,cf⟩:=Yo (hL.self _ _ _ _ _ hr);have k5:(W0.setCell ⟨a,0,none⟩ (.int .i32 1)).heap[w.heap.size]? = some (.cells #[.int .u64 0,.string ⟨#[]⟩] 50 (0,0)):=(Below.heap_setCell _ _ _ _ (by show w.heap.size≠a;omega)).trans k4
 have hz:w.heap.size<(W0.setCell ⟨a,0,none⟩ (.int .i32 1)).heap.size:=(Array.getElem?_eq_some_iff.1 k5).1
 generalize hW:W0.setCell ⟨a,0,none⟩ (.int .i32 1)=W at *;have HC:=HC W hL
 go_enter_defers func55,ntmps55
 go_wp2_with (go_at_call 98;refine(lock_free Tryz.muLib ⟨a,0,none⟩ _ h0 (hf 0)).mono ?_;rintro e w' ⟨rfl,hw⟩;rw[hW] at hw;subst hw)
 refine HC.mono ?_
 rintro e w1 ⟨rfl,hb⟩;have k6:=(hb.block _ hz).trans k5;have k7:w1.cell? ⟨w.heap.size,0,none⟩=some (.int .u64 0):=by rw[cell_of_row w1 _ 0 _ _ (0,0) k6];rfl
 have k8:w1.cell? ⟨w.heap.size,1,none⟩=some (.string ⟨#[]⟩):=by rw[cell_of_row w1 _ 1 _ _ (0,0) k6];rfl
 have k9:∀j,w1.frozen? ⟨w.heap.size,j,none⟩=false:=fun j=>frozen_of_row w1 _ j _ _ k6
 have k10:=k9 0;have k11:=k9 1;have hr1:((w1.setCell ⟨w.heap.size,0,none⟩ (.int .u64 n)).setCell ⟨w.heap.size,1,none⟩ (.string r)).heap[a]? = _:=(Below.heap_setCell _ _ _ _ (by show a≠w.heap.size;omega)).trans ((Below.heap_setCell _ _ _ _ (by show a≠w.heap.size;omega)).trans ((hb.block a (Lv ha hL.size)).trans (hL.self _ _ _ _ _ hr)))
 obtain⟨g0,_,_,_,_,gf⟩:=Yo hr1;have hE:=QgK hr hL (((hb.mono hL.size).setCell (p:=⟨w.heap.size,0,none⟩) (La _) (.int .u64 n)).setCell (p:=⟨w.heap.size,1,none⟩) (La _) (.string r));go_wp2;refine leaves_cons (f:=99) (args:=#[Pq a]) (by simp) (by simp[go_sem]) ?_
 refine(unlock_deferred Tryz.muLib ⟨a,0,none⟩ .returning _ g0 (gf 0)).mono ?_
 rintro e u' w'' ⟨rfl,rfl,rfl⟩;refine⟨_,?_,rfl,hE⟩
 have q6:=Lp _ w.heap.size 1 _ _ (.string r) (Lp w1 w.heap.size 0 _ _ (.int .u64 n) k6);have q7:(((w1.setCell ⟨w.heap.size,0,none⟩ (.int .u64 n)).setCell ⟨w.heap.size,1,none⟩ (.string r)).setCell ⟨a,0,none⟩ (.int .i32 0)).heap[w.heap.size]? = _:=(Below.heap_setCell _ _ _ _ (by show w.heap.size≠a;omega)).trans q6
 have q8:=cell_of_row _ w.heap.size 0 _ _ (0,0) q7;have q9:=cell_of_row _ w.heap.size 1 _ _ (0,0) q7;simp at q8 q9;generalize ((w1.setCell ⟨w.heap.size,0,none⟩ (.int .u64 n)).setCell ⟨w.heap.size,1,none⟩ (.string r)).setCell ⟨a,0,none⟩ (.int .i32 0)=W9 at *;simp[results,results55,go_sem,q8,q9]
end
def sm(x:BA):BA:=dg 32 (Yx x)
def smL(L:LB):LB:=L.map sm
theorem Qg0(x:BA):(sm x).size=32:=Ys (La _) _
theorem Qcs(w:World)(ht:Tb w)(x:BA)(hx:x.size<=1048576)(s:BA)(hs:sm x=s) :
  Calls prog 85 #[.string x] w fun e w'=>e= .returned (.string s)∧Below w.heap.size w w':=by
 have HLf:Hid (Calls prog 145 #[.int .i64 32,.string x] w fun e w'=>e= .returned (.string s)∧Below w.heap.size w w'):=OF w ht 32 x (by omega) s hs
 clear ht hx hs
 go_enter func85,ntmps85
 go_wp2_with (go_at_call 145;(with_reducible refine HLf.out.mono ?_);rintro e w1 ⟨rfl,hb⟩)
 go_ret
 exact⟨rfl,hb⟩
def NxQ(w:World)(k:Nat)(L:LB)(x:BA)(e:Ending)(w':World):Prop :=
 ∃vm r' vr',e= .returned (.agg #[.string x,.string (sm x),vm,Pq r'])∧Qg w' w.heap.size vm (mdL k L x)∧Kp.Rg w' r' vr' (k:Int) (L.length+1) (pkL k (L++[x]))∧w.heap.size<=r'∧(∀g,vr'.ownBlock=some g->w.heap.size<=g)∧Below w.heap.size w w'
theorem Qot(k:Nat)(hk:k<=32)(t:BA):(dg 32 t).extract 0 k=dg k t:=by
 unfold dg;rw[ByteArray.extract_extract,Lo,Lo,Ix hk]
theorem Qo5(k:Nat)(hk:k<=32)(L:LB)(x:BA):(sm x).extract 0 k=nd k (L++[x]) 0 L.length:=by
 unfold sm;rw[Qot k hk,nd,Lc,Iz];rfl
theorem Qpu{k n:Nat}{P:LB}{w:World}{r:Nat}{v:Value}(h:Kp.Rg w r v (k:Int) n P)(hk:clk (k:Int)=k):Kp.fe (k:Int) n P=0:=by
 have h1:=h.k1;have h2:=h.k2;have hn:=h.hn;unfold Kp.fe;rw[Ld (by omega),Ld (by omega),Ld]
 rw[h.hl,Qea hn];refine fun q=>q.elim (fun q=>q rfl) (fun q=>q fun s hs=> ?_)
 have:=h.hs s hs;omega
theorem Qdl{w:World}{r p i:Nat}{v x:Value}{k:Int}{n:Nat}{P:LB}(h:Kp.Rg w r v k n P)(h1:r≠p)(h2:∀g,v.ownBlock=some g->g≠p):Kp.Rg (w.setCell ⟨p,i,none⟩ x) r v k n P :=
 ⟨(Below.heap_setCell _ _ _ _ h1).trans h.blk,St.QK h.own (fun g hg=>Below.heap_setCell _ _ _ _ (h2 g hg)),h.k1,h.k2,h.hn,h.hl,h.hs⟩
theorem Qjw{w:World}{b:Nat}{x0 x1 x2 x3:Value}{T:TypeId}(h:w.heap[b]? = some (.cells #[x0,x1,x2,x3] T (0,0)))(y0 y1 y2 y3:Value):((((w.setCell ⟨b,0,none⟩ y0).setCell ⟨b,1,none⟩ y1).setCell ⟨b,2,none⟩ y2).setCell ⟨b,3,none⟩ y3).heap[b]? = some (.cells #[y0,y1,y2,y3] T (0,0)) :=
 Lp _ b 3 _ _ y3 (Lp _ b 2 _ _ y2 (Lp _ b 1 _ _ y1 (Lp w b 0 _ _ y0 h)))
theorem YR{w:World}{B:Nat}{v:Value}{l:LB}(h:Qg w B v l):∃ao n cap,v= .slice ao n cap:=by
 obtain⟨_,h2⟩:=h
 rcases h2 with ⟨rfl,_⟩|⟨g,cap,cur,rfl,_⟩
 ·exact⟨_,_,_,rfl⟩
 ·exact⟨_,_,_,rfl⟩
theorem Qkl(w:World)(ht:Tb w)(a m r:Nat)(vr:Value)(k:Nat)(L:LB)(hF:Frs w m (k:Int) L)(hR:Kp.Rg w r vr (k:Int) L.length (pkL k L))(hc:clk (k:Int)=k)
  (c3:w.cell? ⟨a,3,none⟩=some (.pointer (some ⟨m+1,0,none⟩))) (c4:w.cell? ⟨a,4,none⟩=some (Pq r)) (x:BA) (hx:x.size<=1048576) (hL:L.length<65536) :
  Calls prog 95 #[Pq a,.string x] w (NxQ w k L x):=by
 have k1:(1:Int)<=(k:Int):=hF.k1;have k2:(k:Int)<=32:=hF.k2;have hax:=Lf _ _ c3;obtain⟨s,hs⟩:∃s,sm x=s:=⟨_,rfl⟩;have hss:s.size=32:=by rw[<-hs];exact Qg0 x
 obtain⟨P,hP⟩:∃P,pkL k L=P:=⟨_,rfl⟩;rw[hP] at hR;obtain⟨w1,hw1⟩:∃W,w.alloc (.cells #[.string ⟨#[]⟩,.string ⟨#[]⟩,.slice none 0 0,.pointer none] 175)=W:=⟨_,rfl⟩;have u1:Below w.heap.size w w1:=by rw[<-hw1];exact bal (Lb _ _) _
 have k4:w1.heap[w.heap.size]? = some (.cells #[.string ⟨#[]⟩,.string ⟨#[]⟩,.slice none 0 0,.pointer none] 175 (0,0)):=by rw[<-hw1];exact Lt w _
 have ht:=ht.next u1;have hF:=hF.next u1 (La _);have hR:=hR.next u1 (La _);have c3:=(u1.cell (p:=⟨a,3,none⟩) hax).trans c3;have c4:=(u1.cell (p:=⟨a,4,none⟩) hax).trans c4;have hax:a<w1.heap.size:=Lv hax u1.size;have hz1:w.heap.size<w1.heap.size:=(Array.getElem?_eq_some_iff.1 k4).1
 have HF:Hid (∀W,Below w1.heap.size w1 W->W.cell? ⟨a,3,none⟩=some (.pointer (some ⟨m+1,0,none⟩))∧W.cell? ⟨a,4,none⟩=some (Pq r)):=fun W hW=>⟨(hW.cell (p:=⟨a,3,none⟩) hax).trans c3,(hW.cell (p:=⟨a,4,none⟩) hax).trans c4⟩
 have HS:Hid (∀W,Below w1.heap.size w1 W->Calls prog 85 #[.string x] W fun e w'=>e= .returned (.string s)∧Below w1.heap.size w1 w'):=fun W hW=>(Qcs W (ht.next hW) x hx s hs).mono fun e w' z=>⟨z.1,Qa hW z.2⟩
 have HK:Hid (∀W,Below w1.heap.size w1 W->Calls prog 134 #[.pointer (some ⟨m+1,0,none⟩)] W fun e w'=>e= .returned (.int .i64 k)∧W=w'):=fun W hW=>(YU W m k L (hF.next hW (La _))).mono fun e w' z=>⟨z.1,z.2.symm⟩
 have HZ:Hid (∀W,Below w1.heap.size w1 W->Calls prog 159 #[Pq r] W fun e w'=>e= .returned (.int .u64 L.length)∧Below w1.heap.size w1 w'∧Below W.heap.size W w'):=fun W hW=>(Kp.QbJ W r vr k L.length P (hR.next hW (La _))).mono fun e w' z=>⟨z.1,Qa hW z.2,z.2⟩
 have HP:Hid (∀W,Below w1.heap.size w1 W->Calls prog 160 #[Pq r] W fun e w'=> ∃u,e= .returned u∧Qg w' w1.heap.size u P∧Below w1.heap.size w1 w'):=fun W hW=>(Kp.QfT W r vr k L.length P (hR.next hW (La _))).mono fun e w' z=>by
  obtain⟨u,z1,z2,z3⟩:=z;exact⟨u,z1,QO z2 hW.size,Qa hW z3⟩
 have HM:Hid (∀W u,Below w1.heap.size w1 W->Qg W w1.heap.size u P->Calls prog 94 #[.int .i64 k,.int .u64 L.length,u] W fun e w'=> ∃p v,e= .returned (.tuple #[Pq p,.int .i64 0])∧Kp.Rg w' p v (k:Int) L.length P∧w1.heap.size<=p∧(∀g,v.ownBlock=some g->w1.heap.size<=g)∧Below w1.heap.size w1 w'):=fun W u hW ho=>by
  obtain⟨ao,b,cap,rfl,hr,_,hno⟩:=QH ho (fun y hy=>by have:=hR.small y hy;omega)
  have hsh:=hR.short;refine(Kp.Qd7 W k L.length (by omega) ao b 0 cap P hr hno (by omega) 0 (Qpu hR hc)).mono fun e w' z=> ?_
  obtain⟨p,v,z1,z2,z3,z4,z5⟩:=z.ok;exact⟨p,v,z1,z2,Lu hW.size z3,fun g hg=>Lu hW.size (z4 g hg),Qa hW z5⟩
 have HA:Hid (∀W p v,Below w1.heap.size w1 W->w1.heap.size<=p->(∀g,v.ownBlock=some g->w1.heap.size<=g)->Kp.Rg W p v (k:Int) L.length P->Calls prog 161 #[Pq p,.string (s.extract 0 k)] W fun e w'=> ∃vm vr',e= .returned (.tuple #[vm,.int .i64 0])∧Qg w' w1.heap.size vm (mdL k L x)∧Kp.Rg w' p vr' (k:Int) (L.length+1) (pkL k (L++[x]))∧(∀g,vr'.ownBlock=some g->w1.heap.size<=g)∧Below w1.heap.size w1 w'):=fun W p v hW hp hv hr=>by
  have hd:=Kp.Qjd k1 k2 (L++[x]) 0 L.length L.length (by rw[Iv,Na]) (by decide) (by rw[Iv];omega)
  rw[hc,QkI,hP,show L.length+2^0=L.length+1 from rfl,show((0:Nat):Int)=0 from rfl,<-Qo5 k (by omega) L x,hs] at hd
  have hd2:Hid (er (k:Int) L.length 0 (s.extract 0 k)=0∧nxN (k:Int) L.length 0 (s.extract 0 k)=L.length+1∧nxP (k:Int) L.length P 0 (s.extract 0 k)=pkL k (L++[x])∧an (k:Int) L.length P 0 (s.extract 0 k)=mdL k L x):=by
   obtain⟨d1,d2,d3,d4⟩:=hd.out;refine⟨d1,d2,?_,?_⟩
   ·rw[d3];unfold pkL;rw[Le];rfl
   ·rw[d4];unfold mdL;rw[show 40-0=40 from rfl]
    refine NE fun j _=> ?_
    rw[Lo]
  refine(Kp.Ol W (ht.next hW) p v k L.length P hr (s.extract 0 k) 0 _ _ _ hd2).mono fun e w' z=> ?_
  obtain⟨vm,v',z1,z2⟩:=z;refine⟨vm,v',z1,QO z2.own hW.size,z2.rg,fun g hg=> ?_,hW.trans (z2.ch.below.mono hp)⟩
  rcases z2.new with e|e
  ·rw[e] at hg;exact hv g hg
  ·exact Lu hW.size (e g hg)
 have hk0:(0:Int)<=(k:Int):=by omega
 have hks:(k:Int)<=(s.size:Int):=by omega
 have HE:Hid (∀W va vn vc r' vr',Below w1.heap.size w1 W->Qg W w1.heap.size (.slice va vn vc) (mdL k L x)->Kp.Rg W r' vr' (k:Int) (L.length+1) (pkL k (L++[x]))->w1.heap.size<=r'->(∀g,vr'.ownBlock=some g->w1.heap.size<=g) ->
   NxQ w k L x (.returned (.agg #[.string x,.string s,.slice va vn vc,Pq r'])) ((((W.setCell ⟨w.heap.size,0,none⟩ (.string x)).setCell ⟨w.heap.size,1,none⟩ (.string s)).setCell ⟨w.heap.size,2,none⟩ (.slice va vn vc)).setCell ⟨w.heap.size,3,none⟩ (Pq r'))):=fun W va vn vc r' vr' g1 g2 g3 g4 g5=>by
  rw[<-hs];have h1:r'≠w.heap.size:=by omega
  have h2:∀g,vr'.ownBlock=some g->g≠w.heap.size:=fun g hg=>by have:=g5 g hg;omega
  have hb:Below w.heap.size w W:=u1.trans (g1.mono u1.size);exact⟨_,r',vr',rfl,QO (Kp.Y0 (Kp.Y0 (Kp.Y0 (Kp.Y0 g2 hz1) hz1) hz1) hz1) u1.size,Qdl (Qdl (Qdl (Qdl g3 h1 h2) h1 h2) h1 h2) h1 h2,Lu u1.size g4,fun g hg=>Lu u1.size (g5 g hg),
   (((hb.setCell (p:=⟨w.heap.size,0,none⟩) (La _) _).setCell (p:=⟨w.heap.size,1,none⟩) (La _) _).setCell (p:=⟨w.heap.size,2,none⟩) (La _) _).setCell (p:=⟨w.heap.size,3,none⟩) (La _) _⟩
 have HK4:Hid (∀W,Below w1.heap.size w1 W->W.heap[w.heap.size]? = some (.cells #[.string ⟨#[]⟩,.string ⟨#[]⟩,.slice none 0 0,.pointer none] 175 (0,0))):=fun W hW=>(hW.block _ hz1).trans k4
 have u:Below w1.heap.size w1 w1.drew:=(Lb _ _).drew;clear ht hF hR hP hx hs k4 u1 hL k1 k2 hss hc
 go_enter func95,ntmps95
 go_upto_region 1 with (fail)
 go_region_held3 (fun Z=>Z.cell? ⟨a,3,none⟩=some (.pointer (some ⟨m+1,0,none⟩))) (first|assumption|(with_reducible exact(HF.out _ u).1)) (first
  | (go_at_call 85;(with_reducible refine(HS.out _ u).mono ?_);rintro e w2 ⟨rfl,u⟩)
  | (go_at_call 134;(with_reducible refine(HK.out _ u).mono ?_);rintro e w3 ⟨rfl,rfl⟩))
 all_goals
  obtain⟨d3,d4⟩:=HF.out _ u;replace u:Below w1.heap.size w1 w2.drew:=u.drew
  go_upto_region 2 with (fail)
  go_region_held3 (fun Z=>Z.cell? ⟨a,4,none⟩=some (Pq r)) (first|assumption|(with_reducible exact(HF.out _ u).2)) (first
   | (go_at_call 159;(with_reducible refine(HZ.out _ u).mono ?_);rintro e w4 ⟨rfl,u,-⟩)
   | (go_at_call 160;(with_reducible refine(HP.out _ u).mono ?_);rintro e w5 ⟨vp,rfl,op,u⟩)
   | (go_at_call 94;(with_reducible refine(HM.out _ _ u op).mono ?_);rintro e w6 ⟨p,v,rfl,hr,hp,hv,u⟩))
 all_goals
  go_upto_region 4 with (go_at_call 161;(with_reducible refine(HA.out _ _ _ u hp hv hr).mono ?_);rintro e w7 ⟨vm,vr',rfl,om,hr7,hv7,u⟩)
  obtain⟨va,vn,vc,rfl⟩:=YR om;have k7:=HK4.out _ u;have e0:w7.cell? ⟨w.heap.size,0,none⟩=some (.string ⟨#[]⟩):=by rw[cell_of_row w7 _ 0 _ _ (0,0) k7];rfl
  have e1:w7.cell? ⟨w.heap.size,1,none⟩=some (.string ⟨#[]⟩):=by rw[cell_of_row w7 _ 1 _ _ (0,0) k7];rfl
  have e2:w7.cell? ⟨w.heap.size,2,none⟩=some (.slice none 0 0):=by rw[cell_of_row w7 _ 2 _ _ (0,0) k7];rfl
  have e3:w7.cell? ⟨w.heap.size,3,none⟩=some (.pointer none):=by rw[cell_of_row w7 _ 3 _ _ (0,0) k7];rfl
  have z0:=frozen_of_row w7 _ 0 _ _ k7;have z1:=frozen_of_row w7 _ 1 _ _ k7;have z2:=frozen_of_row w7 _ 2 _ _ k7;have z3:=frozen_of_row w7 _ 3 _ _ k7;go_wp2;have HN:=HE.out w7 va vn vc p vr' u om hr7 hp hv7;have q:=Qjw k7 (.string x) (.string s) (.slice va vn vc) (Pq p);have q0:=cell_of_row _ w.heap.size 0 _ _ (0,0) q;have q1:=cell_of_row _ w.heap.size 1 _ _ (0,0) q;have q2:=cell_of_row _ w.heap.size 2 _ _ (0,0) q;have q3:=cell_of_row _ w.heap.size 3 _ _ (0,0) q;simp at q0 q1 q2 q3;generalize (((w7.setCell ⟨w.heap.size,0,none⟩ (.string x)).setCell ⟨w.heap.size,1,none⟩ (.string s)).setCell ⟨w.heap.size,2,none⟩ (.slice va vn vc)).setCell ⟨w.heap.size,3,none⟩ (Pq p)=W9 at *;exact LK (v := .agg #[.string x,.string s,.slice va vn vc,Pq p]) (by simp[results,results95,go_sem,q0,q1,q2,q3]) rfl HN
def Lef(a m r:Nat)(vr vs:Value)(x:Nat):Prop:=x=a∨x=m∨x=m+1∨x=r∨vr.ownBlock=some x∨vs.ownBlock=some x
structure Led(w:World)(g:Int)(a q p m r:Nat)(vr vs:Value)(T:Nat->Prop)(D:St.DV)(S:St.SV)(L:LB):Prop where
 blk:w.heap[a]? = some (rwL g (.int .u32 0) (Zp q) (.pointer (some ⟨m+1,0,none⟩)) (Pq r) vs)
 sk:St.Sk w q p T D S
 fr:Frs w m (S.k:Int) L
 rg:Kp.Rg w r vr (S.k:Int) L.length (pkL S.k L)
 own:Qg w 0 vs (smL L)
 sz:∀s∈L,s.size<=1048576
 ap:∀x,T x -> ¬Lef a m r vr vs x
 av:∀x,vr.ownBlock=some x->vs.ownBlock≠some x
section
variable {w W:World} {g:Int} {a q p m r:Nat} {vr vs:Value} {T:Nat->Prop} {D D':St.DV} {S S':St.SV} {L:LB}
theorem Ob{B:Nat}{v:Value}{l:LB}(h:Qg w B v l){x:Nat}(hx:v.ownBlock=some x):x<w.heap.size:=(LY h x hx).2
theorem OW{B T s n:Nat}{v:Value}{xs:List Value}(h:w.ownsRow B T s v n xs){x:Nat}(hx:v.ownBlock=some x):∃cur,w.heap[x]? = some (.cells cur T (0,0)):=by
 obtain⟨_,h2⟩:=h
 rcases h2 with ⟨rfl,_⟩|⟨g,cap,cur,rfl,_,hh,_⟩
 ·cases hx
 ·cases hx;exact⟨cur,hh⟩
theorem Led.k1(h:Led w g a q p m r vr vs T D S L):1<=S.k∧S.k<=32:=⟨h.sk.small.1,h.sk.small.2.1⟩
theorem Led.clk(h:Led w g a q p m r vr vs T D S L):clk (S.k:Int)=S.k:=by
 have:=YP h.fr.k1 h.fr.k2;omega
theorem Led.lt(h:Led w g a q p m r vr vs T D S L){x:Nat}(hx:Lef a m r vr vs x):x<w.heap.size:=by
 rcases hx with rfl|rfl|rfl|rfl|e|e
 ·exact(Array.getElem?_eq_some_iff.1 h.blk).1
 ·have:=h.fr.lt;omega
 ·exact h.fr.lt
 ·exact h.rg.lt
 ·exact Ob h.rg.own e
 ·exact Ob h.own e
theorem Led.same(h:Led w g a q p m r vr vs T D S L)(h1:∀x,T x->W.heap[x]? = w.heap[x]?)(h2:∀x,Lef a m r vr vs x->W.heap[x]? = w.heap[x]?):Led W g a q p m r vr vs T D S L :=
 ⟨(h2 a (.inl rfl)).trans h.blk,h.sk.same h1,h.fr.same (h2 m (.inr (.inl rfl))) (h2 _ (.inr (.inr (.inl rfl)))),
  ⟨(h2 r (.inr (.inr (.inr (.inl rfl))))).trans h.rg.blk,St.QK h.rg.own fun x hx=>h2 x (.inr (.inr (.inr (.inr (.inl hx))))),h.rg.k1,h.rg.k2,h.rg.hn,h.rg.hl,h.rg.hs⟩,
  St.QK h.own fun x hx=>h2 x (.inr (.inr (.inr (.inr (.inr hx))))),h.sz,h.ap,h.av⟩
theorem Led.next(h:Led w g a q p m r vr vs T D S L)(hb:Below w.heap.size w W):Led W g a q p m r vr vs T D S L :=
 h.same (fun x hx=>hb.block x (h.sk.lt hx)) (fun x hx=>hb.block x (h.lt hx))
theorem Led.nr(h:Led w g a q p m r vr vs T D S L):a≠m∧a≠m+1∧a≠r∧(∀x,vr.ownBlock=some x->x≠a) ∧ ∀x,vs.ownBlock=some x->x≠a:=by
 have hb:=h.blk;refine⟨?_,?_,?_,?_,?_⟩
 ·rintro rfl;obtain⟨es,c,hx,_⟩:=h.fr.mp;rw[hb] at hx;cases hx
 ·rintro rfl;have:=h.fr.blk;rw[hb] at this;cases this
 ·rintro rfl;have:=h.rg.blk;rw[hb] at this;cases this
 ·rintro x hx rfl;obtain⟨cur,hc⟩:=OW h.rg.own hx;rw[hb] at hc;cases hc
 ·rintro x hx rfl;obtain⟨cur,hc⟩:=OW h.own hx;rw[hb] at hc;cases hc
theorem Led.lock{g':Int}(h:Led w g a q p m r vr vs T D S L)(ho:∀b,b<w.heap.size->b≠a->W.heap[b]? = w.heap[b]?)(hr:W.heap[a]? = some (rwL g' (.int .u32 0) (Zp q) (.pointer (some ⟨m+1,0,none⟩)) (Pq r) vs)):Led W g' a q p m r vr vs T D S L:=by
 obtain⟨n1,n2,n3,n4,n5⟩:=h.nr;have hk:∀x,Lef a m r vr vs x->x≠a->W.heap[x]? = w.heap[x]? := fun x hx hne=>ho x (h.lt hx) hne
 exact⟨hr,h.sk.same fun x hx=>ho x (h.sk.lt hx) (fun e=>h.ap x hx (.inl e)),h.fr.same (hk m (.inr (.inl rfl)) n1.symm) (hk _ (.inr (.inr (.inl rfl))) n2.symm),
  ⟨(hk r (.inr (.inr (.inr (.inl rfl)))) n3.symm).trans h.rg.blk,St.QK h.rg.own fun x hx=>hk x (.inr (.inr (.inr (.inr (.inl hx))))) (n4 x hx),h.rg.k1,h.rg.k2,h.rg.hn,h.rg.hl,h.rg.hs⟩,
  St.QK h.own fun x hx=>hk x (.inr (.inr (.inr (.inr (.inr hx))))) (n5 x hx),h.sz,h.ap,h.av⟩
theorem Led.lkd(h:Led w 0 a q p m r vr vs T D S L)(hL:Lkd a w W):Led W 1 a q p m r vr vs T D S L:=h.lock hL.oth (hL.self _ _ _ _ _ h.blk)
theorem Led.set(h:Led w g a q p m r vr vs T D S L)(g':Int):Led (w.setCell ⟨a,0,none⟩ (.int .i32 g')) g' a q p m r vr vs T D S L :=
 h.lock (fun _ _ hne=>Below.heap_setCell _ _ _ _ hne) (Lp w a 0 _ _ (.int .i32 g') h.blk)
theorem Led.cells(h:Led w g a q p m r vr vs T D S L):w.cell? ⟨a,0,none⟩=some (.int .i32 g)∧w.cell? ⟨a,2,none⟩=some (Pq q)∧w.cell? ⟨a,3,none⟩=some (.pointer (some ⟨m+1,0,none⟩))∧w.cell? ⟨a,4,none⟩=some (Pq r)∧w.cell? ⟨a,5,none⟩=some vs ∧ ∀j,w.frozen? ⟨a,j,none⟩=false:=Yo h.blk
end
end Go.Proofs.YtoblgjledefdbaaGreatDoor
