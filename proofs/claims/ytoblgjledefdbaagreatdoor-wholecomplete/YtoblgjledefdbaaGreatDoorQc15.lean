/- Own work. -/
import Derived.Test.YtoblgjledefdbaaGreatDoorQc14
set_option maxRecDepth 100000
set_option maxHeartbeats 4000000
namespace Go.Proofs.YtoblgjledefdbaaGreatDoor
open Go.RowKit
attribute [local go_sem ↓] Go.wp_at_zero Go.wp_at_succ
open Go.Proofs.Tryz
namespace St
structure Rm(n:Nat)(D:DV):Prop where
 acts:D.acts+n<=4611686018427387904
 cnt:D.L.length+n<=1099511627776
 free:D.free+268435456*n<=4611686018427387904
theorem Rm.rmy{n:Nat}{D:DV}(h:Rm (n+1) D):Rmy D:=⟨by have:=h.acts;omega,by have:=h.cnt;omega,by have:=h.free;omega⟩
theorem Rm.mono{n m:Nat}{D:DV}(h:Rm n D)(hm:m<=n):Rm m D:=⟨by have:=h.acts;omega,by have:=h.cnt;omega,by have:=h.free;omega⟩
theorem Qo2{n:Nat}{D:DV}(s:List UInt8)(f:FV)(hz:(Qh D.L s).now.length<=268435456)(ha:D.acts+n<=4611686018427387904)(hc:D.L.length+(n+1)<=1099511627776)(hf:D.free+268435456*(n+1)<=4611686018427387904):Rm n (Ua D s f):=by
 refine⟨ha,?_,?_⟩
 ·have:=OG (L:=D.L) s f
  show(Yn D.L s f).length+n<=_
  omega
 ·show D.free+(Qh D.L s).now.length-f.now.length+268435456*n<=_
  omega
theorem QkX{n:Nat}{D:DV}(s:List UInt8)(f:FV)(hz:(Qh D.L s).now.length<=268435456)(h:Rm (n+1) D):Rm n (O8 D s f).1:=by
 have ha:=h.acts;have hc:=h.cnt;have hf:=h.free;exact Qo2 (D := { D with acts:=D.acts+1 }) s f hz (by show D.acts+1+n<=_;omega) (by show D.L.length+_<=_;omega) hf
theorem QkY{n:Nat}{D:DV}(s:List UInt8)(off:Int)(t:List UInt8)(hz:(Qh D.L s).now.length<=268435456)(h:Rm (n+1) D):Rm n (wrD D s off t).1:=by
 unfold wrD
 split
 ·exact h.mono (by omega)
 ·split
  ·exact h.mono (by omega)
  ·split
   ·exact h.mono (by omega)
   ·exact QkX s _ hz h
theorem QfR{n:Nat}{D:DV}(s:List UInt8)(hz:(Qh D.L s).now.length<=268435456)(h:Rm (n+1) D):Rm n (YI D s).1:=by
 unfold YI
 split
 ·exact h.mono (by omega)
 ·exact QkX s _ hz h
end St
namespace St
def Bk(W:World)(b:Nat)(x:Value)(T:TypeId):Prop:=W.heap[b]? = some (.cells #[x] T (0,0))
section
variable {W W':World} {b:Nat} {x y:Value} {T:TypeId}
theorem Bk.lt(h:Bk W b x T):b<W.heap.size:=(Array.getElem?_eq_some_iff.1 h).1
theorem Bk.both(h:Bk W b x T):W.cell? ⟨b,0,none⟩=some x∧W.frozen? ⟨b,0,none⟩=false:=⟨by rw[cell_of_row W b 0 _ _ (0,0) h];rfl,frozen_of_row W b 0 _ _ h⟩
theorem Bk.next(h:Bk W b x T)(u:Below W.heap.size W W'):Bk W' b x T:=(u.block b h.lt).trans h
theorem Bk.al(h:Bk W b x T)(o:Obj):Bk (W.alloc o) b x T:=h.next (bal (Lb _ _) o)
theorem Bk.four(h:Bk W b x T):W.cell? ⟨b,0,none⟩=some x∧W.frozen? ⟨b,0,none⟩=false∧(∀o,(W.alloc o).cell? ⟨b,0,none⟩=some x) ∧ ∀o,(W.alloc o).frozen? ⟨b,0,none⟩=false:=⟨h.both.1,h.both.2,fun o=>(h.al o).both.1,fun o=>(h.al o).both.2⟩
theorem Bk.ne(h:Bk W b x T):¬b=W.heap.size ∧ ¬W.heap.size=b:=by have:=h.lt;omega
theorem Bk.put(h:Bk W b x T)(y:Value):Bk (W.setCell ⟨b,0,none⟩ y) b y T:=Lp W b 0 _ _ y h
theorem Bk.other(h:Bk W b x T){c i:Nat}(hc:b≠c)(y:Value):Bk (W.setCell ⟨c,i,none⟩ y) b x T:=(Below.heap_setCell _ _ _ _ hc).trans h
theorem U4(W:World)(x:Value)(T:TypeId):Bk (W.alloc (.cells #[x] T)) W.heap.size x T:=Ja _ _
theorem QiL(u:Below (W.alloc (.cells #[x] T)).heap.size (W.alloc (.cells #[x] T)) W'):Bk W' W.heap.size x T:=(U4 W x T).next u
theorem QiM{U:TypeId}(u:Below ((W.alloc (.cells #[x] T)).alloc (.cells #[y] U)).heap.size ((W.alloc (.cells #[x] T)).alloc (.cells #[y] U)) W'):Bk W' W.heap.size x T∧Bk W' (W.heap.size+1) y U:=by
 refine⟨((U4 W x T).al _).next u,?_⟩
 have h:=U4 (W.alloc (.cells #[x] T)) y U;rw[JE] at h;exact h.next u
theorem JD{V:World}(u:Below V.drew.heap.size V.drew W'):Below V.heap.size V W':=⟨u.os,u.tape,u.output,u.size,u.block⟩
theorem QlK(u:Below (W.alloc (.cells #[x] T)).drew.heap.size (W.alloc (.cells #[x] T)).drew W'):Bk W' W.heap.size x T:=QiL (JD u)
theorem QlL{U:TypeId}(u:Below ((W.alloc (.cells #[x] T)).alloc (.cells #[y] U)).drew.heap.size ((W.alloc (.cells #[x] T)).alloc (.cells #[y] U)).drew W'):Bk W' W.heap.size x T∧Bk W' (W.heap.size+1) y U:=QiM (JD u)
theorem apart{w:World}{B:Nat}{v:Value}{ss:LB}(o:Qg w B v ss)(hb:b<B):∀g,v.ownBlock=some g->g≠b:=fun g hg e=>by
 have:=(LY o g hg).1;omega
end
end St
namespace St
open Rc
section
variable {q p:Nat} {T:Nat->Prop} {D:DV} {S:SV}
theorem Qo1{item:List UInt8}{ds:LB}(h:¬refE S item ds=0):refD S item ds=refE S item ds:=by
 unfold refD;unfold refE at h ⊢
 split
 ·rfl
 ·rename_i h1
  rw[Ld h1] at h
  split
  ·rfl
  ·rename_i h2
   rw[Ld h2] at h
   split
   ·rfl
   ·rename_i h3
    rw[Ld h3] at h
    split
    ·rfl
    ·rename_i h4
     rw[Ld h4] at h;exact absurd rfl h
theorem Qnc{item:List UInt8}{ds:LB}(h:refE S item ds=0):S.lame=false∧item.length<=1048576∧S.ends.length<65536∧nxt S ds=true∧refD S item ds=if 268435456<lst S.ends+(item.length+8) then 172 else 0:=by
 unfold refD;unfold refE at h
 by_cases h1:S.lame=true
 ·rw[Lm h1] at h;cases h
 ·rw[Ld h1] at h ⊢
  by_cases h2:1048576<item.length
  ·rw[Lm h2] at h;cases h
  ·rw[Ld h2] at h ⊢
   by_cases h3:65536<=S.ends.length
   ·rw[Lm h3] at h;cases h
   ·rw[Ld h3] at h ⊢
    by_cases h4:nxt S ds=false
    ·rw[Lm h4] at h;cases h
    ·rw[Ld h4];exact⟨Bool.eq_false_iff.2 h1,by omega,by omega,by simpa using h4,rfl⟩
def Ad1(w wx:World)(bs q:Nat)(v8 v9:Value)(pl:BA)(ss:LB):Prop :=
 ∃bp br va vc n,v8=Pq bp∧v9=Pq br∧Below w.heap.size w wx∧wx.heap[bs]? = some (.cells #[Pq q] 99 (0,0))∧wx.heap[bp]? = some (.cells #[.string pl] 9 (0,0))∧wx.heap[br]? = some (.cells #[.slice va n vc] 22 (0,0))∧w.heap.size<=bp∧w.heap.size<=br∧Qg wx w.heap.size (.slice va n vc) ss
theorem QcJ(p:Nat)(ds:LB)(h:∀d∈ds,d.size<=32):(Rc.Qk (YH p ds)).length<=40*(YH p ds).length:=by
 suffices hh:∀l:LB,(∀x∈l,x.size<=40)->(Rc.Qk l).length<=40*l.length from hh _ fun x hx=>by
  unfold YH at hx;obtain⟨i,d,hd,rfl⟩:=List.mem_mapIdx.1 hx;rw[Ji,Qc2 _ _ (by rw[Qe];exact h _ (LZ _))]
  omega
 intro l
 induction l with
 | nil=>intro _;simp[Rc.Qk]
 | cons x l ih=>
  intro hl;have h1:=ih fun y hy=>hl y (Ng _ hy)
  have h2:=hl x (by simp)
  have h3:Rc.Qk (x::l)=x.data.toList++Rc.Qk l:=by simp[Rc.Qk]
  rw[h3,Le,LD,Qe];omega
section
variable {w w4:World} {bs q b8 b9 n vc:Nat} {va:OA} {pl:BA} {ss:LB} {x y:Value}
theorem Qe6(u:Below w.heap.size w w4)(hl:bs<w.heap.size)(hb:Bk w4 bs (Pq q) 99)(a:Bk w4 b8 x 9)(a':Bk w4 b9 y 22)(h8:w.heap.size<=b8)(h9:w.heap.size<=b9)(hne:b8≠b9)
  (p8:∀g,(Value.slice va n vc).ownBlock=some g->g≠b8) (p9:∀g,(Value.slice va n vc).ownBlock=some g->g≠b9) (o:Qg w4 w.heap.size (.slice va n vc) ss):Ad1 w ((w4.setCell ⟨b8,0,none⟩ (.string pl)).setCell ⟨b9,0,none⟩ (.slice va n vc)) bs q (Pq b8) (Pq b9) pl ss :=
 ⟨b8,b9,va,vc,n,rfl,rfl,(u.setCell h8 _).setCell h9 _,(hb.other (by omega) _).other (by omega) _,(a.put _).other hne _,(a'.other hne.symm _).put _,h8,h9,QK o (fun g hg=>(Below.heap_setCell _ _ _ _ (p9 g hg)).trans (Below.heap_setCell _ _ _ _ (p8 g hg)))⟩
theorem QO{w:World}{B B':Nat}{v:Value}{ss:LB}(o:Qg w B v ss)(h:B'<=B):Qg w B' v ss:=World.ownsRow.mono o h
theorem Qpb(w:World)(o o2:Obj):w.heap.size+1<((w.alloc o).alloc o2).heap.size:=by rw[JE,JE];omega
theorem Qn5{B:Nat}(o:Qg w4 B (.slice va n vc) ss):∀g,(Value.slice va n vc).ownBlock=some g->g≠w4.heap.size:=fun g hg e=>by
 have:=(LY o g hg).2;omega
theorem QdK(u:Below w.heap.size w w4)(hl:bs<w.heap.size)(hb:Bk w4 bs (Pq q) 99)(a:Bk w4 b8 x 9)(h8:w.heap.size<=b8)
  (p8:∀g,(Value.slice va n vc).ownBlock=some g->g≠b8) (o:Qg w4 w.heap.size (.slice va n vc) ss):Ad1 w (((w4.alloc (.cells #[y] 22)).setCell ⟨b8,0,none⟩ (.string pl)).setCell ⟨w4.heap.size,0,none⟩ (.slice va n vc)) bs q (Pq b8) (Pq w4.heap.size) pl ss :=
 Qe6 (bal u _) hl (hb.al _) (a.al _) (U4 w4 y _) h8 u.size (by have:=a.lt;omega) p8 (Qn5 o) (Yf o _)
theorem Qgf(u:Below w.heap.size w w4)(hl:bs<w.heap.size)(hb:Bk w4 bs (Pq q) 99)(a:Bk w4 b9 x 22)(h9:w.heap.size<=b9)
  (p9:∀g,(Value.slice va n vc).ownBlock=some g->g≠b9) (o:Qg w4 w.heap.size (.slice va n vc) ss):Ad1 w ((w4.alloc (.cells #[.string pl] 9)).setCell ⟨b9,0,none⟩ (.slice va n vc)) bs q (Pq w4.heap.size) (Pq b9) pl ss :=
 ⟨w4.heap.size,b9,va,vc,n,rfl,rfl,(bal u _).setCell h9 _,(hb.al _).other (by omega) _,(U4 w4 _ _).other (by have:=a.lt;omega) _,(a.al _).put _,u.size,h9,QK (Yf o _) (fun g hg=>Below.heap_setCell _ _ _ _ (p9 g hg))⟩
theorem QlD(u:Below w.heap.size w w4)(hb:Bk w4 bs (Pq q) 99)(o:Qg w4 w.heap.size (.slice va n vc) ss):Ad1 w ((w4.alloc (.cells #[.string pl] 9)).alloc (.cells #[.slice va n vc] 22)) bs q (Pq w4.heap.size) (.pointer (some ⟨w4.heap.size+1,0,none⟩)) pl ss :=
 ⟨w4.heap.size,w4.heap.size+1,va,vc,n,rfl,rfl,bal (bal u _) _,(hb.al _).al _,(U4 w4 _ _).al _,new2 _ _ _,u.size,by have:=u.size;omega,Yf (Yf o _) _⟩
theorem QiE(u:Below w.heap.size w w4)(hb:Bk w4 bs (Pq q) 99)(o:Qg w4 w.heap.size (.slice va n vc) ss):Ad1 w ((w4.alloc (.cells #[.slice va n vc] 22)).alloc (.cells #[.string pl] 9)) bs q (.pointer (some ⟨w4.heap.size+1,0,none⟩)) (Pq w4.heap.size) pl ss :=
 ⟨w4.heap.size+1,w4.heap.size,va,vc,n,rfl,rfl,bal (bal u _) _,(hb.al _).al _,new2 _ _ _,(U4 w4 _ _).al _,by have:=u.size;omega,u.size,Yf (Yf o _) _⟩
end
theorem Ol(w:World)(h:Sk w q p T D S)(hrm:Rm 7 D)(s:BA)(hs:s.size<=9223372036854775807)(ao:OA)(b off len cap:Nat)(ds:LB)(hr:RdS w ao b off len ds)(hmx:len<=9223372036854775807)(D':DV)(S':SV)(r:Int)(hR:UD D S s.data.toList ds=(D',S',r)) :
  Calls prog 100 #[Pq q,.string s,.slice ao len cap] w fun e w'=>e= .returned (.int .i64 r)∧SkM w w' q p T D' S':=by
 obtain⟨w1,hw1⟩:∃W,w.alloc (.cells #[Pq q] 99)=W:=⟨_,rfl⟩;have u1:Below w.heap.size w w1:=by rw[<-hw1];exact bal (Lb _ _) _
 obtain⟨bs,hbs⟩:∃b,w.heap.size=b:=⟨_,rfl⟩;have k1:w1.heap[bs]? = some (.cells #[Pq q] 99 (0,0)):=by rw[<-hw1,<-hbs];exact Ja _ _
 have HC:Hid (∀W,Below w1.heap.size w1 W->W.cell? ⟨bs,0,none⟩=some (Pq q)):=fun W hW=>by
  rw[cell_of_row W bs 0 _ _ (0,0) ((hW.block bs (Array.getElem?_eq_some_iff.1 k1).1).trans k1)];rfl
 have HK:Hid (∀W,Below w1.heap.size w1 W->Bk W bs (Pq q) 99):=fun W hW=>(hW.block bs (Array.getElem?_eq_some_iff.1 k1).1).trans k1
 have HLs:Hid (bs<w1.heap.size):=(Array.getElem?_eq_some_iff.1 k1).1
 have c1:=HC.out w1 (Lb _ _);have HW:=Qd hw1;have HB:=Qd hbs;clear hw1 hbs;obtain⟨re,hre⟩:∃r,refE S s.data.toList ds=r:=⟨_,rfl⟩;have HF:=Qd (QeK w1 (h.next u1) s hs ao b off len cap ds (hr.next u1 (La _)) hmx re hre)
 by_cases h0:re=0
 ·subst h0;obtain⟨g1,g2,g3,g4,g5⟩:=Qnc hre;rw[Qe] at g2 g5;obtain⟨n1,n2⟩:=(Qc4 S ds).1 g4;obtain⟨hk1,hk2,hf,_,_,hlow⟩:=h.small;have hmm:=Qc1 S.ends.length hf;have h1:=h.next u1;have hr1:=hr.next u1 (La _);have hln:=hr.hl;obtain⟨pl,hpl⟩:∃t,tx (pay s.data.toList)=t:=⟨_,rfl⟩;obtain⟨ss,hss⟩:∃t,YH (nn S.ends.length) ds=t:=⟨_,rfl⟩;have HP:Hid (∀W,Below w1.heap.size w1 W->Calls prog 167 #[.string s] W fun e w'=>e= .returned (.string pl)∧Below w1.heap.size w1 w'∧Below W.heap.size W w'):=fun W hW=>(QeA W s hs pl (by rw[payS,Qe,Lm g2];exact hpl)).mono fun e w' z=>⟨z.1,Qa hW z.2,z.2⟩
  have HR:Hid (∀W,Below w1.heap.size w1 W->Calls prog 168 #[Pq q,.slice ao len cap] W fun e w'=> ∃va vc,e= .returned (.slice va len vc)∧Qg w' W.heap.size (.slice va len vc) ss∧Below w1.heap.size w1 w'∧Below W.heap.size W w'):=fun W hW=>
   (Qc3 W (h1.next hW) ao b off len cap ds (hr1.next hW (La _)) (by omega) (fun d hd=>by rw[n2 d hd];exact hk2)).mono fun e w' z=>by
    obtain⟨v,z1,z2,z3⟩:=z;rw[hss] at z2;obtain⟨va,vc,rfl⟩:=Ql z2;have e5:ss.length=len:=by rw[<-hss,OT];exact hln
    rw[e5] at z1 z2;exact⟨va,vc,z1,z2,Qa hW z3,z3⟩
  go_enter func100,ntmps100
  go_upto_region 1 with (fail)
  rw[HW.out,HB.out]
  go_upto_region 4 with (go_at_call 166;(with_reducible refine HF.out.mono ?_);rintro e w2 ⟨rfl,rfl⟩)
  go_cut [8,9] (fun v8 v9 wx=>Ad1 w2 wx bs q v8 v9 pl ss)
  case first=>
   -- <A
   have u:=bdz w2;clear HF HW HB hR hre g1 g2 g3 g4 g5 n1 n2 hrm hr hr1 h h1;have c1a:=fun o=>HC.out _ (bal (Lb _ w2) o)
   have c1b:=fun o o2=>HC.out _ (bal (bal (Lb _ w2) o) o2)
   go_region_with (first
    | (go_at_call 167;first
     | ((with_reducible refine(HP.out _ u).mono ?_);rintro e w3 ⟨rfl,u,x⟩;have s3:=u.size;have c3:=HC.out _ u;have c3a:=fun o=>HC.out _ (bal u o);have c3b:=fun o o2=>HC.out _ (bal (bal u o) o2);clear x)
     | ((with_reducible refine(HP.out _ (bdw (bal (Lb _ _) _))).mono ?_);rintro e w3 ⟨rfl,u,x⟩;have s3:=u.size;have c3:=HC.out _ u;have c3a:=fun o=>HC.out _ (bal u o);have c3b:=fun o o2=>HC.out _ (bal (bal u o) o2);have a1:=QlK x;clear x)
     | ((with_reducible refine(HP.out _ (bdw (bal (bal (Lb _ _) _) _))).mono ?_);rintro e w3 ⟨rfl,u,x⟩;have s3:=u.size;have c3:=HC.out _ u;have c3a:=fun o=>HC.out _ (bal u o);have c3b:=fun o o2=>HC.out _ (bal (bal u o) o2);have ⟨a1,a2⟩:=QlL x;clear x))
    | (go_at_call 168;first
     | ((with_reducible refine(HR.out _ u).mono ?_);rintro e w4 ⟨va,vc,rfl,o4,u,x⟩;have o5:=QO o4 s3;(try (have p3:=apart o4 a1.lt;have a3:=a1.next x;have ⟨b3,f3,g3,k3⟩:=a3.four;have ⟨n3,m3⟩:=a3.ne));(try (have p4:=apart o4 a2.lt;have a4:=a2.next x;have ⟨b4,f4,g4,k4⟩:=a4.four;have ⟨n4,m4⟩:=a4.ne)))
     | ((with_reducible refine(HR.out _ (bal u _)).mono ?_);rintro e w4 ⟨va,vc,rfl,o4,u,x⟩;have o5:=QO o4 (Lu s3 (bal (Lb _ w3) _).size);(try (have p3:=apart o4 (a1.al _).lt;have a3:=(a1.al _).next x;have ⟨n5,m5⟩:=a1.ne;have ⟨b3,f3,g3,k3⟩:=a3.four;have ⟨n3,m3⟩:=a3.ne));have p4:=apart o4 (U4 w3 _ _).lt;have a4:=QiL x;have ⟨b4,f4,g4,k4⟩:=a4.four;have ⟨n4,m4⟩:=a4.ne)
     | ((with_reducible refine(HR.out _ (bal (bal u _) _)).mono ?_);rintro e w4 ⟨va,vc,rfl,o4,u,x⟩;have o5:=QO o4 (Lu s3 (bal (bal (Lb _ w3) _) _).size);have ⟨a3,a4⟩:=QiM x;have p3:=apart o4 ((U4 w3 _ _).al _).lt;have p4:=apart o4 (Qpb w3 _ _);have ⟨b3,f3,g3,k3⟩:=a3.four;have ⟨n3,m3⟩:=a3.ne;have ⟨b4,f4,g4,k4⟩:=a4.four;have ⟨n4,m4⟩:=a4.ne)))
   all_goals
    have hbk:=HK.out _ u
    go_wp2_with fail
    go_meet
    case rel=>
     first
      | (with_reducible exact QlD u hbk o5)
      | (with_reducible exact QiE u hbk o5)
      | (with_reducible exact Qe6 u HLs.out hbk a3 a4 (by omega) (by omega) (by omega) p3 p4 o5)
      | (with_reducible exact Qe6 u HLs.out hbk a4 a3 (by omega) (by omega) (by omega) p4 p3 o5)
      | (with_reducible exact QdK u HLs.out hbk a3 (by omega) p3 o5)
      | (with_reducible exact QdK u HLs.out hbk a4 (by omega) p4 o5)
      | (with_reducible exact Qgf u HLs.out hbk a3 (by omega) p3 o5)
      | (with_reducible exact Qgf u HLs.out hbk a4 (by omega) p4 o5)
   -- A>
  obtain⟨bp,br,va,vc,n,rfl,rfl,uc,kb,kp,kr,lp,lr,oc⟩:=hcut;have hc1:=h1.next uc;have u2c:=Qa u1 uc;have hps:pl.size=s.size+8:=by rw[<-hpl,Ji,pay_len,Qe]
  have hsl:ss.length=len:=by rw[<-hss,OT];exact hln
  have hsz:∀x∈ss,x.size<=9223372036854775807:=fun x hx=>by
   rw[<-hss] at hx;unfold YH at hx;obtain⟨i,d,hd,rfl⟩:=List.mem_mapIdx.1 hx;rw[Ji,Qc2 _ _ (by rw[Qe,n2 _ (LZ _)];exact hk2)]
   omega
  obtain⟨va',rb,vc',hv,rds,hcap,hnone⟩:=QH oc hsz;injection hv with e1 e2 e3
  subst e1 e2 e3;rw[hsl] at kr oc rds hcap;have HL:Hid (∀W,Below wc.heap.size wc W->Calls prog 155 #[Pq q,.string ⟨#[105,116,101,109,115]⟩] W fun e w'=>e= .returned (.int .i64 (lst S.ends:Int))∧w'=W):=fun W hW=>Uc W (hc1.next hW)
  have HC2:Hid (∀W,Below wc.heap.size wc W->W.cell? ⟨bp,0,none⟩=some (.string pl)∧W.cell? ⟨bs,0,none⟩=some (Pq q)):=fun W hW=>⟨((show Bk wc bp _ _ from kp).next hW).both.1,((show Bk wc bs _ _ from kb).next hW).both.1⟩
  have hsub:IntKind.i64.wrap (268435456-(lst S.ends:Int))=268435456-(lst S.ends:Int):=by rw[Lz];omega
  obtain⟨ls,hls⟩:∃n,lst S.ends=n:=⟨_,rfl⟩;rw[hls] at hsub HL
  by_cases hroom:268435456<ls+(s.size+8)
  ·have hgt:(268435456:Int)-(ls:Int)<(pl.size:Int):=by omega
   have e1:UD D S s.data.toList ds=(D,S,172):=by
    unfold UD;rw[g5,hls,Lm hroom];rfl
   rw[e1] at hR;injection hR with e2 e3
   injection e3 with e3 e4
   subst e2 e3 e4;have HZ:Hid (∀W,Below wc.heap.size wc W->SkM w W q p T D S):=fun W hW=>SkM.of h (Qa u2c hW)
   clear h h1 hr hr1 hc1 HP HR HK HC rds oc kp kb kr e1 hsz
   go_upto_region 5 with (fail)
   have u:=bdz wc;obtain⟨c5,c6⟩:=HC2.out _ (Lb _ _)
   go_region_held3 (fun Z=>Z.cell? ⟨bp,0,none⟩=some (.string pl)∧Z.cell? ⟨bs,0,none⟩=some (Pq q)) (first|assumption|(with_reducible exact HC2.out _ u)) (first
    | (go_at_call 155;(with_reducible refine(HL.out _ u).mono ?_);rintro e w5 ⟨rfl,rfl⟩))
   all_goals
    go_wp2
    go_ret
    exact⟨rfl,HZ.out _ u⟩
  ·have hgt:¬(268435456:Int)-(ls:Int)<(pl.size:Int):=by omega
   obtain⟨m,hm⟩:∃m,addM S s.data.toList ds=m:=⟨_,rfl⟩;have HN:Hid (∀W,Below wc.heap.size wc W->Calls prog 169 #[Pq q,.string pl,.slice va len vc] W fun e w'=>e= .returned (.agg (mC m))∧Below wc.heap.size wc w'):=fun W hW=>
    (Qhx W (hc1.next hW) pl (by omega) va rb 0 len vc ss (rds.next hW (La _)) (by omega) m (by rw[<-hm,addM,hss,<-hpl,QdC])).mono fun e w' z=>⟨z.1,Qa hW z.2⟩
   have HC3:Hid (∀W,Below wc.heap.size wc W->W.cell? ⟨br,0,none⟩=some (.slice va len vc)):=fun W hW=>((show Bk wc br _ _ from kr).next hW).both.1
   simp only[mC] at HN;obtain⟨m0,e0⟩:∃x,m.k=x:=⟨_,rfl⟩;obtain⟨m1,e1⟩:∃x,m.size=x:=⟨_,rfl⟩;obtain⟨m2,e2⟩:∃x,m.items=x:=⟨_,rfl⟩;obtain⟨m3,e3⟩:∃x,m.nodes=x:=⟨_,rfl⟩;obtain⟨md,e4⟩:∃x,m.chain.toNat=x:=⟨_,rfl⟩;rw[e0,e1,e2,e3,e4] at HN;have HE:=Qd (LO e0 (LO e1 (LO e2 (LO e3 e4))));clear e0 e1 e2 e3 e4
   go_upto_region 5 with (fail)
   have u:=bdz wc;obtain⟨c5,c6⟩:=HC2.out _ (Lb _ _)
   go_region_held3 (fun Z=>Z.cell? ⟨bp,0,none⟩=some (.string pl)∧Z.cell? ⟨bs,0,none⟩=some (Pq q)) (first|assumption|(with_reducible exact HC2.out _ u)) (first
    | (go_at_call 155;(with_reducible refine(HL.out _ u).mono ?_);rintro e w5 ⟨rfl,rfl⟩))
   all_goals
    have c7:=HC3.out _ u
    go_upto_region 8 with (go_at_call 169;(with_reducible refine(HN.out _ u).mono ?_);rintro e w6 ⟨rfl,u6⟩)
    go_upto_region 9 with (fail)
    obtain⟨bm,hbm⟩:∃b,w6.heap.size=b:=⟨_,rfl⟩;have km:((w6.alloc (.cells #[.int .i64 m0,.int .u64 m1,.int .u64 m2,.int .u64 m3,.int .u32 md] 239)).alloc (.cells #[.func (.func 170) #[] #[Pq bs,Pq bp],.func (.func 172) #[] #[Pq bs,Pq br],.func (.func 174) #[] #[Pq bs],.func (.func 175) #[] #[Pq bs],.func (.func 176) #[] #[Pq bs,Pq w6.heap.size],.func (.func 178) #[] #[Pq bs]] 54)).heap[w6.heap.size]? = some (.cells #[.int .i64 m0,.int .u64 m1,.int .u64 m2,.int .u64 m3,.int .u32 md] 239 (0,0)):=new0 _ _ _;have kl:=new2 w6 (.cells #[.int .i64 m0,.int .u64 m1,.int .u64 m2,.int .u64 m3,.int .u32 md] 239) (.cells #[.func (.func 170) #[] #[Pq bs,Pq bp],.func (.func 172) #[] #[Pq bs,Pq br],.func (.func 174) #[] #[Pq bs],.func (.func 175) #[] #[Pq bs],.func (.func 176) #[] #[Pq bs,Pq w6.heap.size],.func (.func 178) #[] #[Pq bs]] 54);have u8:Below w6.heap.size w6 ((w6.alloc (.cells #[.int .i64 m0,.int .u64 m1,.int .u64 m2,.int .u64 m3,.int .u32 md] 239)).alloc (.cells #[.func (.func 170) #[] #[Pq bs,Pq bp],.func (.func 172) #[] #[Pq bs,Pq br],.func (.func 174) #[] #[Pq bs],.func (.func 175) #[] #[Pq bs],.func (.func 176) #[] #[Pq bs,Pq w6.heap.size],.func (.func 178) #[] #[Pq bs]] 54)):=bal (bal (Lb _ _) _) _;generalize (w6.alloc (.cells #[.int .i64 m0,.int .u64 m1,.int .u64 m2,.int .u64 m3,.int .u32 md] 239)).alloc (.cells #[.func (.func 170) #[] #[Pq bs,Pq bp],.func (.func 172) #[] #[Pq bs,Pq br],.func (.func 174) #[] #[Pq bs],.func (.func 175) #[] #[Pq bs],.func (.func 176) #[] #[Pq bs,Pq w6.heap.size],.func (.func 178) #[] #[Pq bs]] 54)=w8 at *;have ub:Below w.heap.size w w8:=Qa (Qa u2c u6) u8;have ucb:Below wc.heap.size wc w8:=Qa u6 u8;have h8:Sk w8 q p T D S:=h.next ub;rw[hbm] at km kl ⊢;have HU8:=Qd ub;have HTl:Hid (∀x,T x->x<w.heap.size):=fun x hx=>h.lt hx
    have lbs:w.heap.size<=bs:=If HB.out;have lbc:∀ {b:Nat},w2.heap.size<=b->w.heap.size<=b:=fun {b} e=>Lu u1.size e
    have HBn:Hid (w.heap.size<=bs∧bs<w8.heap.size∧w.heap.size<=br∧br<w8.heap.size∧w.heap.size<=bm∧bm<w8.heap.size) :=
     ⟨lbs,Lv (Bk.lt kb) ucb.size,lbc lr,Lv (Bk.lt kr) ucb.size,by rw[<-hbm];exact(Qa u2c u6).size,(Array.getElem?_eq_some_iff.1 km).1⟩
    have nT:∀b,w.heap.size<=b -> ¬T b:=fun b e ht=>Ns _ (Lv (HTl.out b ht) e)
    have HCs:Hid (∀W Dj,SkM w8 W q p T Dj S->W.cell? ⟨bs,0,none⟩=some (Pq q)∧W.cell? ⟨bp,0,none⟩=some (.string pl)∧W.cell? ⟨br,0,none⟩=some (.slice va len vc)∧(W.cell? ⟨bm,0,none⟩=some (.int .i64 m.k)∧W.cell? ⟨bm,1,none⟩=some (.int .u64 m.size)∧W.cell? ⟨bm,2,none⟩=some (.int .u64 m.items)∧W.cell? ⟨bm,3,none⟩=some (.int .u64 m.nodes)∧W.cell? ⟨bm,4,none⟩=some (.int .u32 m.chain.toNat))):=fun W Dj hW=>by
     obtain⟨y0,y1,y2,y3,y4⟩:=YC km;have nm:=nT bm HBn.out.2.2.2.2.1;rw[HE.out.1,HE.out.2.1,HE.out.2.2.1,HE.out.2.2.2.1,HE.out.2.2.2.2];exact⟨hW.cell (Bk.both (Bk.next kb ucb)).1 (nT bs lbs),hW.cell (Bk.both (Bk.next kp ucb)).1 (nT bp (lbc lp)),hW.cell (Bk.both (Bk.next kr ucb)).1 (nT br (lbc lr)),hW.cell y0 nm,hW.cell y1 nm,hW.cell y2 nm,hW.cell y3 nm,hW.cell y4 nm⟩
    have HCl:Hid (∀W Dj,SkM w8 W q p T Dj S->W.cell? ⟨bm+1,0,none⟩=some (.func (.func 170) #[] #[Pq bs,Pq bp])∧W.cell? ⟨bm+1,1,none⟩=some (.func (.func 172) #[] #[Pq bs,Pq br])∧W.cell? ⟨bm+1,2,none⟩=some (.func (.func 174) #[] #[Pq bs])∧W.cell? ⟨bm+1,3,none⟩=some (.func (.func 175) #[] #[Pq bs])∧W.cell? ⟨bm+1,4,none⟩=some (.func (.func 176) #[] #[Pq bs,Pq bm])∧W.cell? ⟨bm+1,5,none⟩=some (.func (.func 178) #[] #[Pq bs])):=fun W Dj hW=>by
     have nm:=nT (bm+1) (Lu HBn.out.2.2.2.2.1 (Wj _));exact⟨hW.cell (by rw[cell_of_row w8 (bm+1) 0 _ _ (0,0) kl];rfl) nm,hW.cell (by rw[cell_of_row w8 (bm+1) 1 _ _ (0,0) kl];rfl) nm,hW.cell (by rw[cell_of_row w8 (bm+1) 2 _ _ (0,0) kl];rfl) nm,hW.cell (by rw[cell_of_row w8 (bm+1) 3 _ _ (0,0) kl];rfl) nm,hW.cell (by rw[cell_of_row w8 (bm+1) 4 _ _ (0,0) kl];rfl) nm,hW.cell (by rw[cell_of_row w8 (bm+1) 5 _ _ (0,0) kl];rfl) nm⟩
    have HRd:Hid (∀W Dj,SkM w8 W q p T Dj S->RdS W va rb 0 len ss):=fun W Dj hW=>by
     have r8:=rds.next ucb (La _);refine⟨r8.hl,r8.ptr,fun j v hv=> ?_,r8.sz⟩
     have hj:j<len:=by have:=(List.getElem?_eq_some_iff.1 hv).1;rw[LC] at this;omega
     have hva:=r8.ptr (by omega)
     exact hW.cell (r8.rng j v hv) (nT rb (lbc (by rw[hva] at oc;exact(LY oc rb rfl).1)))
    have HLen:Hid (len<=vc∧len<=1000∧(Rc.Qk ss).length<=1000000):=⟨hcap,by omega,by
     have:(Rc.Qk ss).length<=40*len:=by
      rw[<-hsl,<-hss];exact QcJ _ _ (fun d hd=>by rw[n2 d hd];exact hk2)
     omega⟩
    have hnx:m=nxM S.k S.ends S.chain (pay s.data.toList) (YH (nn S.ends.length) ds):=hm.symm;have HMz:Hid (m.size<18446744073709551616∧m.items<18446744073709551616∧m.nodes<18446744073709551616):=by
     rw[hnx];refine⟨show S.ends.length+1<_ by omega,show lst S.ends+(pay s.data.toList).length<_ by rw[pay_len,Qe];omega,show nn (S.ends.length+1)*40<_ by omega⟩
    have HPz:Hid (pl.size<=140737488355328):=by show _<=_;omega
    have hA:addA S s.data.toList ds=six S pl.data.toList (Rc.Qk ss) (mrk m):=by unfold addA;rw[hss,hm,<-hpl,QdC]
    have hdd:refD S s.data.toList ds=0:=by rw[g5,hls,Ld hroom]
    have hRR:(if (Yc (six S pl.data.toList (Rc.Qk ss) (mrk m)) D).2=0 then ((Yc (six S pl.data.toList (Rc.Qk ss) (mrk m)) D).1,{ S with ends:=S.ends++[m.items],chain:=m.chain },0) else ((Yc (six S pl.data.toList (Rc.Qk ss) (mrk m)) D).1,{ S with lame:=true },(Yc (six S pl.data.toList (Rc.Qk ss) (mrk m)) D).2))=(D',S',r):=by
     rw[<-hR];unfold UD;rw[hdd,hA,hm,Ld (show ¬((0:Int)≠0) from fun h=>h rfl)]
    have HFi:Hid (∀D1 r1,(D1,r1)=Yc (six S pl.data.toList (Rc.Qk ss) (mrk m)) D -> ¬r1=0->D1=D' ∧ { S with lame:=true } = S'∧r1=r):=fun D1 r1 e1 e2=>by
     rw[<-e1,Ld e2] at hRR;injection hRR with a1 a2
     injection a2 with a2 a3
     exact⟨a1,a2,a3⟩
    have HFo:Hid (∀D1,(D1,0)=Yc (six S pl.data.toList (Rc.Qk ss) (mrk m)) D->D1=D' ∧ { S with ends:=S.ends++[m.items],chain:=m.chain } = S'∧0=r):=fun D1 e1=>by
     rw[<-e1,Lm rfl] at hRR;injection hRR with a1 a2
     injection a2 with a2 a3
     exact⟨a1,a2,a3⟩
    have HMi:Hid (m.items<=268435456∧S.ends.length<65536):=⟨by rw[hnx];show lst S.ends+(pay s.data.toList).length<=_;rw[pay_len,Qe];omega,g3⟩
    have HR0:Hid (Rm 7 D):=hrm;have HS0:Hid (SkM w8 w8 q p T D S):=SkM.of h8 (Lb _ _);clear h h1 hr hr1 hc1 HP HR HK HC HC2 HC3 HN HL rds oc kp kb kr hsz km kl u8 ub ucb h8 hnx hA hdd hRR hrm hroom hgt nT lbc lbs hss hpl hps hsl hm u6 u u2c uc c5 c6 c7 hbm hcap hnone lp lr HB HW HF HLs hre hR n1 n2 g1 g2 g3 g4 g5 hmm hsub hls;go_wp2
    go_loopg [46] 6 (fun g x wr=> ∃(j:Nat) (Dj:DV),j<=6∧g=6-j∧x= .int .i64 j∧Hid (SkM w8 wr q p T Dj S)∧Hid (Rm (7-j) Dj)∧Hid (Yc ((six S pl.data.toList (Rc.Qk ss) (mrk m)).drop j) Dj=Yc (six S pl.data.toList (Rc.Qk ss) (mrk m)) D))
    case atStart=>go_light;exact⟨0,D,by decide,rfl,rfl,HS0,HR0,rfl⟩
    case round=>
     obtain⟨j,Dj,hj,rfl,rfl,HS,HRj,HI⟩:=hrel;have HI:=HI.out;clear HS0 HR0
     rcases(show j=0∨j=1∨j=2∨j=3∨j=4∨j=5∨j=6 by omega) with rfl|rfl|rfl|rfl|rfl|rfl|rfl
     -- <L
     ·have hrj:Rm 7 Dj:=HRj.out;obtain⟨T1,hk,hT,hu⟩:=HS.out;have nT:∀b,w.heap.size<=b->b<w8.heap.size -> ¬T1 b:=fun b h1 h2 ht=>by
       rcases hT b ht with e|e
       ·have:=HTl.out b e;omega
       ·omega
      obtain⟨D1,r1,hD1⟩:∃D1 r1,wrD Dj nmI (lst S.ends:Int) pl.data.toList=(D1,r1):=⟨_,_,rfl⟩;have HA:Hid (Calls prog 170 #[Pq bs,Pq bp] wr fun e w'=>e= .returned (.int .i64 r1)∧SkM w8 w' q p T D1 S):=(Qiy wr hk hrj.rmy bs bp (HCs.out wr _ HS.out).1 pl (HCs.out wr _ HS.out).2.1 HPz.out D1 r1 hD1).mono fun e w' z=>⟨z.1,Y2 hT hu z.2⟩
      have hr1:Rm 6 D1:=by
       have:Rm 6 (wrD Dj nmI (lst S.ends:Int) pl.data.toList).1:=QkY _ _ _ (hk.sz _) hrj;rw[hD1] at this;exact this
      have hE:Yc ((six S pl.data.toList (Rc.Qk ss) (mrk m)).drop 0) Dj=if r1=0 then Yc ((six S pl.data.toList (Rc.Qk ss) (mrk m)).drop 1) D1 else (D1,r1):=by
       show Yc ((fun D=>wrD D nmI (lst S.ends:Int) pl.data.toList)::((six S pl.data.toList (Rc.Qk ss) (mrk m)).drop 1)) Dj=_
       simp only[Yc,hD1]
      rw[hE] at HI;have cl:=(HCl.out wr _ HS.out).1;have hz:((0:Nat):Int)<6:=by decide
      clear hE nT hT hu hk hrj HRj hD1
      by_cases h0:r1=0
      ·subst h0;rw[Lm rfl] at HI;have HI2:=Qd HI;have HR1:=Qd hr1;clear HI hr1 HS HCs HRd HCl
       go_wp2_with (go_at_call 170;(with_reducible refine HA.out.mono ?_);rintro e w9 ⟨rfl,t9⟩)
       go_roundg 5
       case rel=>go_light;exact⟨1,D1,by decide,rfl,by first|rfl|go_num,t9,HR1,HI2⟩
       case measure=>go_light;decide
      ·rw[Ld h0] at HI;have HZ:Hid (∀W,SkM w8 W q p T D1 S->(W.cell? ⟨bs,0,none⟩=some (Pq q)∧W.cell? ⟨q,4,none⟩=some (.bool S.lame)∧W.frozen? ⟨q,4,none⟩=false)∧SkM w (W.setCell ⟨q,4,none⟩ (.bool true)) q p T D' S'∧r1=r):=fun W hW=>by
        obtain⟨⟨l1,l2⟩,l3⟩:=hW.limp;obtain⟨z1,z2,z3⟩:=HFi.out D1 r1 HI h0;exact⟨⟨(HCs.out W _ hW).1,l1,l2⟩,by rw[<-z1,<-z2];exact l3.first HU8.out,z3⟩
       have hr0:(r1 != 0)=true:=by simp[h0]
       clear HI hr1 HS HCs HRd HCl
       go_wp2_with (go_at_call 170;(with_reducible refine HA.out.mono ?_);rintro e w9 ⟨rfl,t9⟩;have ⟨y0,y1,y2⟩:=(HZ.out _ t9).1)
       go_ret
       obtain⟨z2,z3⟩:=(HZ.out _ t9).2;subst z3;exact⟨rfl,z2⟩
     ·have hrj:Rm 6 Dj:=HRj.out;obtain⟨T1,hk,hT,hu⟩:=HS.out;have nT:∀b,w.heap.size<=b->b<w8.heap.size -> ¬T1 b:=fun b h1 h2 ht=>by
       rcases hT b ht with e|e
       ·have:=HTl.out b e;omega
       ·omega
      obtain⟨D1,r1,hD1⟩:∃D1 r1,wrD Dj nmN ((nn S.ends.length*40:Nat):Int) (Rc.Qk ss)=(D1,r1):=⟨_,_,rfl⟩;have HA:Hid (Calls prog 172 #[Pq bs,Pq br] wr fun e w'=>e= .returned (.int .i64 r1)∧SkM w8 w' q p T D1 S):=(Qiz wr hk hrj.rmy bs br (HCs.out wr _ HS.out).1 va rb 0 len vc ss (HCs.out wr _ HS.out).2.2.1 (HRd.out wr _ HS.out) HLen.out.1 HLen.out.2.1 HLen.out.2.2 (nT bs HBn.out.1 HBn.out.2.1) (nT br HBn.out.2.2.1 HBn.out.2.2.2.1) D1 r1 hD1).mono fun e w' z=>⟨z.1,Y2 hT hu z.2⟩
      have hr1:Rm 5 D1:=by
       have:Rm 5 (wrD Dj nmN ((nn S.ends.length*40:Nat):Int) (Rc.Qk ss)).1:=QkY _ _ _ (hk.sz _) hrj;rw[hD1] at this;exact this
      have hE:Yc ((six S pl.data.toList (Rc.Qk ss) (mrk m)).drop 1) Dj=if r1=0 then Yc ((six S pl.data.toList (Rc.Qk ss) (mrk m)).drop 2) D1 else (D1,r1):=by
       show Yc ((fun D=>wrD D nmN ((nn S.ends.length*40:Nat):Int) (Rc.Qk ss))::((six S pl.data.toList (Rc.Qk ss) (mrk m)).drop 2)) Dj=_
       simp only[Yc,hD1]
      rw[hE] at HI;have cl:=(HCl.out wr _ HS.out).2.1;have hz:((1:Nat):Int)<6:=by decide
      clear hE nT hT hu hk hrj HRj hD1
      by_cases h0:r1=0
      ·subst h0;rw[Lm rfl] at HI;have HI2:=Qd HI;have HR1:=Qd hr1;clear HI hr1 HS HCs HRd HCl
       go_wp2_with (go_at_call 172;(with_reducible refine HA.out.mono ?_);rintro e w9 ⟨rfl,t9⟩)
       go_roundg 4
       case rel=>go_light;exact⟨2,D1,by decide,rfl,by first|rfl|go_num,t9,HR1,HI2⟩
       case measure=>go_light;decide
      ·rw[Ld h0] at HI;have HZ:Hid (∀W,SkM w8 W q p T D1 S->(W.cell? ⟨bs,0,none⟩=some (Pq q)∧W.cell? ⟨q,4,none⟩=some (.bool S.lame)∧W.frozen? ⟨q,4,none⟩=false)∧SkM w (W.setCell ⟨q,4,none⟩ (.bool true)) q p T D' S'∧r1=r):=fun W hW=>by
        obtain⟨⟨l1,l2⟩,l3⟩:=hW.limp;obtain⟨z1,z2,z3⟩:=HFi.out D1 r1 HI h0;exact⟨⟨(HCs.out W _ hW).1,l1,l2⟩,by rw[<-z1,<-z2];exact l3.first HU8.out,z3⟩
       have hr0:(r1 != 0)=true:=by simp[h0]
       clear HI hr1 HS HCs HRd HCl
       go_wp2_with (go_at_call 172;(with_reducible refine HA.out.mono ?_);rintro e w9 ⟨rfl,t9⟩;have ⟨y0,y1,y2⟩:=(HZ.out _ t9).1)
       go_ret
       obtain⟨z2,z3⟩:=(HZ.out _ t9).2;subst z3;exact⟨rfl,z2⟩
     ·have hrj:Rm 5 Dj:=HRj.out;obtain⟨T1,hk,hT,hu⟩:=HS.out;have nT:∀b,w.heap.size<=b->b<w8.heap.size -> ¬T1 b:=fun b h1 h2 ht=>by
       rcases hT b ht with e|e
       ·have:=HTl.out b e;omega
       ·omega
      obtain⟨D1,r1,hD1⟩:∃D1 r1,YI Dj nmI=(D1,r1):=⟨_,_,rfl⟩;have HA:Hid (Calls prog 174 #[Pq bs] wr fun e w'=>e= .returned (.int .i64 r1)∧SkM w8 w' q p T D1 S):=(QiA wr hk hrj.rmy bs (HCs.out wr _ HS.out).1 D1 r1 hD1).mono fun e w' z=>⟨z.1,Y2 hT hu z.2⟩
      have hr1:Rm 4 D1:=by
       have:Rm 4 (YI Dj nmI).1:=QfR _ (hk.sz _) hrj;rw[hD1] at this;exact this
      have hE:Yc ((six S pl.data.toList (Rc.Qk ss) (mrk m)).drop 2) Dj=if r1=0 then Yc ((six S pl.data.toList (Rc.Qk ss) (mrk m)).drop 3) D1 else (D1,r1):=by
       show Yc ((fun D=>YI D nmI)::((six S pl.data.toList (Rc.Qk ss) (mrk m)).drop 3)) Dj=_
       simp only[Yc,hD1]
      rw[hE] at HI;have cl:=(HCl.out wr _ HS.out).2.2.1;have hz:((2:Nat):Int)<6:=by decide
      clear hE nT hT hu hk hrj HRj hD1
      by_cases h0:r1=0
      ·subst h0;rw[Lm rfl] at HI;have HI2:=Qd HI;have HR1:=Qd hr1;clear HI hr1 HS HCs HRd HCl
       go_wp2_with (go_at_call 174;(with_reducible refine HA.out.mono ?_);rintro e w9 ⟨rfl,t9⟩)
       go_roundg 3
       case rel=>go_light;exact⟨3,D1,by decide,rfl,by first|rfl|go_num,t9,HR1,HI2⟩
       case measure=>go_light;decide
      ·rw[Ld h0] at HI;have HZ:Hid (∀W,SkM w8 W q p T D1 S->(W.cell? ⟨bs,0,none⟩=some (Pq q)∧W.cell? ⟨q,4,none⟩=some (.bool S.lame)∧W.frozen? ⟨q,4,none⟩=false)∧SkM w (W.setCell ⟨q,4,none⟩ (.bool true)) q p T D' S'∧r1=r):=fun W hW=>by
        obtain⟨⟨l1,l2⟩,l3⟩:=hW.limp;obtain⟨z1,z2,z3⟩:=HFi.out D1 r1 HI h0;exact⟨⟨(HCs.out W _ hW).1,l1,l2⟩,by rw[<-z1,<-z2];exact l3.first HU8.out,z3⟩
       have hr0:(r1 != 0)=true:=by simp[h0]
       clear HI hr1 HS HCs HRd HCl
       go_wp2_with (go_at_call 174;(with_reducible refine HA.out.mono ?_);rintro e w9 ⟨rfl,t9⟩;have ⟨y0,y1,y2⟩:=(HZ.out _ t9).1)
       go_ret
       obtain⟨z2,z3⟩:=(HZ.out _ t9).2;subst z3;exact⟨rfl,z2⟩
     ·have hrj:Rm 4 Dj:=HRj.out;obtain⟨T1,hk,hT,hu⟩:=HS.out;have nT:∀b,w.heap.size<=b->b<w8.heap.size -> ¬T1 b:=fun b h1 h2 ht=>by
       rcases hT b ht with e|e
       ·have:=HTl.out b e;omega
       ·omega
      obtain⟨D1,r1,hD1⟩:∃D1 r1,YI Dj nmN=(D1,r1):=⟨_,_,rfl⟩;have HA:Hid (Calls prog 175 #[Pq bs] wr fun e w'=>e= .returned (.int .i64 r1)∧SkM w8 w' q p T D1 S):=(QiB wr hk hrj.rmy bs (HCs.out wr _ HS.out).1 D1 r1 hD1).mono fun e w' z=>⟨z.1,Y2 hT hu z.2⟩
      have hr1:Rm 3 D1:=by
       have:Rm 3 (YI Dj nmN).1:=QfR _ (hk.sz _) hrj;rw[hD1] at this;exact this
      have hE:Yc ((six S pl.data.toList (Rc.Qk ss) (mrk m)).drop 3) Dj=if r1=0 then Yc ((six S pl.data.toList (Rc.Qk ss) (mrk m)).drop 4) D1 else (D1,r1):=by
       show Yc ((fun D=>YI D nmN)::((six S pl.data.toList (Rc.Qk ss) (mrk m)).drop 4)) Dj=_
       simp only[Yc,hD1]
      rw[hE] at HI;have cl:=(HCl.out wr _ HS.out).2.2.2.1;have hz:((3:Nat):Int)<6:=by decide
      clear hE nT hT hu hk hrj HRj hD1
      by_cases h0:r1=0
      ·subst h0;rw[Lm rfl] at HI;have HI2:=Qd HI;have HR1:=Qd hr1;clear HI hr1 HS HCs HRd HCl
       go_wp2_with (go_at_call 175;(with_reducible refine HA.out.mono ?_);rintro e w9 ⟨rfl,t9⟩)
       go_roundg 2
       case rel=>go_light;exact⟨4,D1,by decide,rfl,by first|rfl|go_num,t9,HR1,HI2⟩
       case measure=>go_light;decide
      ·rw[Ld h0] at HI;have HZ:Hid (∀W,SkM w8 W q p T D1 S->(W.cell? ⟨bs,0,none⟩=some (Pq q)∧W.cell? ⟨q,4,none⟩=some (.bool S.lame)∧W.frozen? ⟨q,4,none⟩=false)∧SkM w (W.setCell ⟨q,4,none⟩ (.bool true)) q p T D' S'∧r1=r):=fun W hW=>by
        obtain⟨⟨l1,l2⟩,l3⟩:=hW.limp;obtain⟨z1,z2,z3⟩:=HFi.out D1 r1 HI h0;exact⟨⟨(HCs.out W _ hW).1,l1,l2⟩,by rw[<-z1,<-z2];exact l3.first HU8.out,z3⟩
       have hr0:(r1 != 0)=true:=by simp[h0]
       clear HI hr1 HS HCs HRd HCl
       go_wp2_with (go_at_call 175;(with_reducible refine HA.out.mono ?_);rintro e w9 ⟨rfl,t9⟩;have ⟨y0,y1,y2⟩:=(HZ.out _ t9).1)
       go_ret
       obtain⟨z2,z3⟩:=(HZ.out _ t9).2;subst z3;exact⟨rfl,z2⟩
     ·have hrj:Rm 3 Dj:=HRj.out;obtain⟨T1,hk,hT,hu⟩:=HS.out;have nT:∀b,w.heap.size<=b->b<w8.heap.size -> ¬T1 b:=fun b h1 h2 ht=>by
       rcases hT b ht with e|e
       ·have:=HTl.out b e;omega
       ·omega
      obtain⟨D1,r1,hD1⟩:∃D1 r1,wrD Dj nmM ((S.ends.length*64:Nat):Int) (mrk m)=(D1,r1):=⟨_,_,rfl⟩;have HA:Hid (Calls prog 176 #[Pq bs,Pq bm] wr fun e w'=>e= .returned (.int .i64 r1)∧SkM w8 w' q p T D1 S):=(QiC wr hk hrj.rmy bs bm (HCs.out wr _ HS.out).1 m HMz.out.1 HMz.out.2.1 HMz.out.2.2 (HCs.out wr _ HS.out).2.2.2 (nT bs HBn.out.1 HBn.out.2.1) (nT bm HBn.out.2.2.2.2.1 HBn.out.2.2.2.2.2) D1 r1 hD1).mono fun e w' z=>⟨z.1,Y2 hT hu z.2⟩
      have hr1:Rm 2 D1:=by
       have:Rm 2 (wrD Dj nmM ((S.ends.length*64:Nat):Int) (mrk m)).1:=QkY _ _ _ (hk.sz _) hrj;rw[hD1] at this;exact this
      have hE:Yc ((six S pl.data.toList (Rc.Qk ss) (mrk m)).drop 4) Dj=if r1=0 then Yc ((six S pl.data.toList (Rc.Qk ss) (mrk m)).drop 5) D1 else (D1,r1):=by
       show Yc ((fun D=>wrD D nmM ((S.ends.length*64:Nat):Int) (mrk m))::((six S pl.data.toList (Rc.Qk ss) (mrk m)).drop 5)) Dj=_
       simp only[Yc,hD1]
      rw[hE] at HI;have cl:=(HCl.out wr _ HS.out).2.2.2.2.1;have hz:((4:Nat):Int)<6:=by decide
      clear hE nT hT hu hk hrj HRj hD1
      by_cases h0:r1=0
      ·subst h0;rw[Lm rfl] at HI;have HI2:=Qd HI;have HR1:=Qd hr1;clear HI hr1 HS HCs HRd HCl
       go_wp2_with (go_at_call 176;(with_reducible refine HA.out.mono ?_);rintro e w9 ⟨rfl,t9⟩)
       go_roundg 1
       case rel=>go_light;exact⟨5,D1,by decide,rfl,by first|rfl|go_num,t9,HR1,HI2⟩
       case measure=>go_light;decide
      ·rw[Ld h0] at HI;have HZ:Hid (∀W,SkM w8 W q p T D1 S->(W.cell? ⟨bs,0,none⟩=some (Pq q)∧W.cell? ⟨q,4,none⟩=some (.bool S.lame)∧W.frozen? ⟨q,4,none⟩=false)∧SkM w (W.setCell ⟨q,4,none⟩ (.bool true)) q p T D' S'∧r1=r):=fun W hW=>by
        obtain⟨⟨l1,l2⟩,l3⟩:=hW.limp;obtain⟨z1,z2,z3⟩:=HFi.out D1 r1 HI h0;exact⟨⟨(HCs.out W _ hW).1,l1,l2⟩,by rw[<-z1,<-z2];exact l3.first HU8.out,z3⟩
       have hr0:(r1 != 0)=true:=by simp[h0]
       clear HI hr1 HS HCs HRd HCl
       go_wp2_with (go_at_call 176;(with_reducible refine HA.out.mono ?_);rintro e w9 ⟨rfl,t9⟩;have ⟨y0,y1,y2⟩:=(HZ.out _ t9).1)
       go_ret
       obtain⟨z2,z3⟩:=(HZ.out _ t9).2;subst z3;exact⟨rfl,z2⟩
     ·have hrj:Rm 2 Dj:=HRj.out;obtain⟨T1,hk,hT,hu⟩:=HS.out;have nT:∀b,w.heap.size<=b->b<w8.heap.size -> ¬T1 b:=fun b h1 h2 ht=>by
       rcases hT b ht with e|e
       ·have:=HTl.out b e;omega
       ·omega
      obtain⟨D1,r1,hD1⟩:∃D1 r1,YI Dj nmM=(D1,r1):=⟨_,_,rfl⟩;have HA:Hid (Calls prog 178 #[Pq bs] wr fun e w'=>e= .returned (.int .i64 r1)∧SkM w8 w' q p T D1 S):=(QiD wr hk hrj.rmy bs (HCs.out wr _ HS.out).1 D1 r1 hD1).mono fun e w' z=>⟨z.1,Y2 hT hu z.2⟩
      have hr1:Rm 1 D1:=by
       have:Rm 1 (YI Dj nmM).1:=QfR _ (hk.sz _) hrj;rw[hD1] at this;exact this
      have hE:Yc ((six S pl.data.toList (Rc.Qk ss) (mrk m)).drop 5) Dj=if r1=0 then Yc ((six S pl.data.toList (Rc.Qk ss) (mrk m)).drop 6) D1 else (D1,r1):=by
       show Yc ((fun D=>YI D nmM)::((six S pl.data.toList (Rc.Qk ss) (mrk m)).drop 6)) Dj=_
       simp only[Yc,hD1]
      rw[hE] at HI;have cl:=(HCl.out wr _ HS.out).2.2.2.2.2;have hz:((5:Nat):Int)<6:=by decide
      clear hE nT hT hu hk hrj HRj hD1
      by_cases h0:r1=0
      ·subst h0;rw[Lm rfl] at HI;have HI2:=Qd HI;have HR1:=Qd hr1;clear HI hr1 HS HCs HRd HCl
       go_wp2_with (go_at_call 178;(with_reducible refine HA.out.mono ?_);rintro e w9 ⟨rfl,t9⟩)
       go_roundg 0
       case rel=>go_light;exact⟨6,D1,by decide,rfl,by first|rfl|go_num,t9,HR1,HI2⟩
       case measure=>go_light;decide
      ·rw[Ld h0] at HI;have HZ:Hid (∀W,SkM w8 W q p T D1 S->(W.cell? ⟨bs,0,none⟩=some (Pq q)∧W.cell? ⟨q,4,none⟩=some (.bool S.lame)∧W.frozen? ⟨q,4,none⟩=false)∧SkM w (W.setCell ⟨q,4,none⟩ (.bool true)) q p T D' S'∧r1=r):=fun W hW=>by
        obtain⟨⟨l1,l2⟩,l3⟩:=hW.limp;obtain⟨z1,z2,z3⟩:=HFi.out D1 r1 HI h0;exact⟨⟨(HCs.out W _ hW).1,l1,l2⟩,by rw[<-z1,<-z2];exact l3.first HU8.out,z3⟩
       have hr0:(r1 != 0)=true:=by simp[h0]
       clear HI hr1 HS HCs HRd HCl
       go_wp2_with (go_at_call 178;(with_reducible refine HA.out.mono ?_);rintro e w9 ⟨rfl,t9⟩;have ⟨y0,y1,y2⟩:=(HZ.out _ t9).1)
       go_ret
       obtain⟨z2,z3⟩:=(HZ.out _ t9).2;subst z3;exact⟨rfl,z2⟩
     -- L>
     ·have HTk:=Qd (HFo.out Dj HI);obtain⟨T1,hk,hT,hu⟩:=HS.out;have HA:Hid (Calls prog 179 #[Pq q,.agg #[.int .i64 m.k,.int .u64 m.size,.int .u64 m.items,.int .u64 m.nodes,.int .u32 m.chain.toNat]] wr fun e w'=>e= .returned (.tuple #[])∧SkM w w' q p T D' S'∧0=r):=(U0 wr hk m HMi.out.1 HMi.out.2).mono fun e w' z=>⟨z.1,by rw[<-HTk.out.1,<-HTk.out.2.1];exact(Y2 hT hu z.2).first HU8.out,HTk.out.2.2⟩
      obtain⟨y0,_,_,y1,y2,y3,y4,y5⟩:=HCs.out wr _ HS.out;have hz:¬((6:Nat):Int)<6:=by decide
      clear HI hT hu hk HTk HCs HRd HCl HS HRj HFi HFo HMi HMz HPz HLen HBn HTl HU8 HE
      go_wp2_with (go_at_call 179;(with_reducible refine HA.out.mono ?_);rintro e w9 ⟨rfl,t9,t0⟩)
      go_ret
      subst t0;exact⟨rfl,t9⟩
 ·have e1:UD D S s.data.toList ds=(D,S,re):=by
   unfold UD;rw[Qo1 (by rw[hre];exact h0),hre,Lm h0]
  rw[e1] at hR;injection hR with e2 e3
  injection e3 with e3 e4
  subst e2 e3 e4;have HZ:=Qd (SkM.of h u1);clear h hr hre hrm e1 k1
  go_enter func100,ntmps100
  go_upto_region 1 with (fail)
  rw[HW.out,HB.out]
  go_wp2_with (go_at_call 166;(with_reducible refine HF.out.mono ?_);rintro e w2 ⟨rfl,rfl⟩)
  go_ret
  exact⟨rfl,HZ.out⟩
end
end St
end Go.Proofs.YtoblgjledefdbaaGreatDoor
