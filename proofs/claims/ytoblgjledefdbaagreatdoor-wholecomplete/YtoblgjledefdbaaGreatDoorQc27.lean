/- Own work. -/
import Derived.Test.YtoblgjledefdbaaGreatDoorQc26
namespace Go.Proofs.YtoblgjledefdbaaGreatDoor
open Go.RowKit
attribute [local go_sem ↓] Go.wp_at_zero Go.wp_at_succ
open Go.Proofs.Tryz
section
open Cv (RdC zl cU cov)
open Pl (pw)
abbrev dgF(F:Nat->Nat->BA)(T:List (Nat×Nat)):LB:=T.map fun b=>F b.1 b.2
structure JL(w wr:World)(s0 q:Nat)(F:Nat->Nat->BA)(h k h' k':Nat)(v u:Value):Prop where
 js:JS wr s0 v u (cov 0 (k' * pw h')) (dgF F (cov 0 (k' * pw h')))
 tw:Tw wr q (h':Int) k'
 hv:∀g,v.ownBlock=some g->g<q
 en:(k'+1)*pw h'=(k+1)*pw h
 hh:h<=h'
 be:Below (s0+1) w wr
 hq:s0+2<q
section
variable {w wr W:World} {s0 q:Nat} {F:Nat->Nat->BA} {h k h' k':Nat} {v u:Value}
theorem JL.hu(j:JL w wr s0 q F h k h' k' v u):∀g,u.ownBlock=some g->g≠q:=Qao j.js.op j.tw (by decide)
theorem JL.next(j:JL w wr s0 q F h k h' k' v u)(hb:Below wr.heap.size wr W):JL w W s0 q F h k h' k' v u :=
 ⟨j.js.next hb,j.tw.next hb,j.hv,j.en,j.hh,j.be.trans (hb.mono (by have:=j.js.lt;omega)),j.hq⟩
end
theorem QgH{w:World}{s0:Nat}{v u:Value}{C:List (Nat×Nat)}{h k:Nat}{P:LB}{d:BA}(j:JS w s0 v u (C++[(h,k)]) (P++[d])):∃g cap gu cu,v= .slice (Zp g) (C.length+1) cap∧u= .slice (Zp gu) (P.length+1) cu∧C.length+1<=cap∧P.length+1<=cu∧w.cell? ⟨g,C.length*2,none⟩=some (.int .i64 h)∧w.cell? ⟨g,C.length*2+1,none⟩=some (.int .u64 k)∧w.cell? ⟨gu,P.length,none⟩=some (.string d):=by
 have o1:=j.ot;have o2:=j.op;obtain⟨ao,n,c,rfl⟩:=Cv.Ql o1;obtain⟨au,nu,cu,rfl⟩:=Cv.Ql o2;have l1:=OP o1;have l2:=OP o2;obtain⟨g,rfl,_,_⟩:=Qex o1 (by rw[Cv.Qy,Le];simp)
 obtain⟨gu,rfl,_,_⟩:=Qex o2 (by rw[Le];simp)
 rw[Cv.Qy,Le,LR] at l1;rw[Le,LR] at l2;subst l1 l2;have e1:=o1.cells (g:=g) rfl;have e2:=o2.cells (g:=gu) rfl;obtain⟨f1,f2⟩:=Cv.QiQ (zl (C++[(h,k)])) C.length (h:Int) k (by rw[Cv.UG,LQ (by rw[Cv.Qy];exact La _),Cv.Qy,NH];rfl)
 have f1:=e1 _ _ f1;have f2:=e1 _ _ f2;have f3:=e2 P.length (.string d) (by rw[LL,LQ (by rw[LC];exact La _),LC,NH];rfl)
 rw[Addr.add_mid,Lo,LU] at f1 f2;rw[Addr.add_mid,Lo] at f3;have c1:C.length+1<=c:=by
  rcases o1.2 with ⟨h1,_⟩|⟨_,_,_,h1,_,_,h2,_⟩
  ·cases h1
  ·obtain⟨_,_,e3⟩:=Id h1;rw[Cv.Qy,Le,LR,<-e3] at h2;exact h2
 have c2:P.length+1<=cu:=by
  rcases o2.2 with ⟨h1,_⟩|⟨_,_,_,h1,_,_,h2,_⟩
  ·cases h1
  ·obtain⟨_,_,e3⟩:=Id h1;rw[Le,LR,<-e3] at h2;exact h2
 exact⟨g,c,gu,cu,rfl,rfl,c1,c2,f1,f2,f3⟩
theorem JL.up{w wr:World}{s0 q:Nat}{F:Nat->Nat->BA}{h k h' a g cap gu cu:Nat}(C:List (Nat×Nat))(hC:cov 0 (2*a*pw h')=C)(hl:(k+1)*pw h<=2^40)(j:JL w wr s0 q F h k h' (2*a+1) (.slice (Zp g) (C.length+1) cap) (.slice (Zp gu) (C.length+1) cu))(W:World)(hW:(((putB wr q ((h'+1:Nat):Int) a).setCell ⟨s0+1,0,none⟩ (.slice (Zp g) C.length cap)).setCell ⟨s0+2,0,none⟩ (.slice (Zp gu) C.length cu))=W) :
  JL w W s0 q F h k (h'+1) a (.slice (Zp g) C.length cap) (.slice (Zp gu) C.length cu):=by
 have hen:=j.en;have ht:cov 0 ((2*a+1)*pw h')=C++[(h',2*a)]:=by
  rw[<-hC];refine QcA h' a (Lu ?_ hl)
  rw[<-hen];exact LM _ (by omega)
 have ht2:cov 0 (a*pw (h'+1))=C:=by rw[Cv.QG,hC]
 have hjs:=j.js;rw[ht] at hjs;have hne1:=(LY hjs.ot g rfl).1;have hne2:=(LY hjs.op gu rfl).1;have hgq:g<q:=j.hv g rfl;have huq:gu≠q:=j.hu gu rfl;have hq:=j.hq;have ch1:=QaV wr q ((h'+1:Nat):Int) a;obtain⟨W1,hW1⟩:∃W1,putB wr q ((h'+1:Nat):Int) a=W1:=⟨_,rfl⟩;have tw1:=j.tw.put ((h'+1:Nat):Int) a;rw[hW1] at ch1 hW tw1;have b1:∀b,b≠q->W1.heap[b]? = wr.heap[b]? := fun b hb=>ch1.block b hb
 have c1:=(b1 (s0+1) (by omega)).trans hjs.ct
 have c2:=(b1 (s0+2) (by omega)).trans hjs.cp
 have x1:=Lp W1 (s0+1) 0 _ _ (.slice (Zp g) C.length cap) c1;obtain⟨W2,hW2⟩:∃W2,W1.setCell ⟨s0+1,0,none⟩ (.slice (Zp g) C.length cap)=W2:=⟨_,rfl⟩;have k2:ChT (fun b=>b=s0+1) W1 W2:=by rw[<-hW2];exact(ChT.refl _ _).set (s0+1) 0 _ rfl
 rw[hW2] at x1 hW;have c2':=(k2.block (s0+2) (by omega)).trans c2
 have x2:=Lp W2 (s0+2) 0 _ _ (.slice (Zp gu) C.length cu) c2';have k3:ChT (fun b=>b=s0+2) W2 W:=by rw[<-hW];exact(ChT.refl _ _).set (s0+2) 0 _ rfl
 rw[hW] at x2;have bb:∀b,b≠q->b≠s0+1->b≠s0+2->W.heap[b]? = wr.heap[b]? := fun b h1 h2 h3=>((k3.block b h3).trans (k2.block b h2)).trans (b1 b h1)
 have ot:Cv.Yb W (s0+3) (.slice (Zp g) C.length cap) (zl C):=by
  have o:=hjs.ot;rw[Cv.UG,Cv.Yb,Cv.Qab,Le] at o;have o':=QgS (n:=(zl C).length+1) (m:=(zl C).length) (by rw[Cv.Qy] at o ⊢;exact o) (Cv.Qu (zl C)) (by omega)
  rw[Cv.Qy] at o';have o2:Cv.Yb wr (s0+3) (.slice (Zp g) C.length cap) (zl C):=by
   show wr.ownsRow (s0+3) 249 2 _ (zl C).length (Cv.cB (zl C))
   rw[Cv.Qy];exact o'
  refine Qj o2 fun b hb _=> ?_
  cases hb;exact bb g (by omega) (by omega) (by omega)
 have op:Qg W (s0+3) (.slice (Zp gu) C.length cu) (dgF F C):=by
  have o:=hjs.op;rw[dgF,LL,Qg,LL,Le] at o;have o':=QgS (n:=(dgF F C).length+1) (m:=(dgF F C).length) (by rw[LC] at o ⊢;exact o) (by rw[LC,Nj]) (by omega)
  rw[LC] at o';have o2:Qg wr (s0+3) (.slice (Zp gu) C.length cu) (dgF F C):=by
   show wr.ownsRow (s0+3) 9 1 _ (dgF F C).length ((dgF F C).map Value.string)
   rw[LC];exact o'
  refine Qj o2 fun b hb _=> ?_
  cases hb;exact bb gu huq (by omega) (by omega)
 refine⟨?_,?_,j.hv,?_,by have:=j.hh;omega,?_,hq⟩
 ·rw[ht2];exact⟨(k3.block (s0+1) (by omega)).trans x1,x2,ot,op⟩
 ·exact(tw1.same (k2.block q (by omega))).same (k3.block q (by omega))
 ·rw[<-hen,Cv.QG,show 2*(a+1)=2*a+1+1 by omega]
 ·have hz1:Below (s0+1) wr W1:=ch1.below (by rintro b rfl;omega)
  have hz2:Below (s0+1) W1 W2:=k2.below (by rintro b rfl;omega)
  have hz3:Below (s0+1) W2 W:=k3.below (by rintro b rfl;omega)
  exact((j.be.trans hz1).trans hz2).trans hz3
end
def QV(P:Program)(Q:Exit->Act->World->Prop)(ops:List Oper)(I:(Nat->Bool)->Act->World->Prop)(j:Nat)(o:Oper):Prop :=
 ∀(L:Nat->Bool) (a:Act) (w:World) (K:Act->World->Prop),I L a w->L j=false->(∀i k,L i=true->dep ops i k=true->L k=true) ->
  (∀k,(o.after.toList.any fun e=>e.on == k && Region.binds .any e)=true->L k=true) ->
  (∀v w',I (fun i=>if i=j then true else L i) (a.put o.dst v) w'->K (a.put o.dst v) w')->o.wp P a w K Q
theorem YD{P:Program}{ops:Array Oper}{Q:Exit->Act->World->Prop}{id:Nat}{a0:Act}{w0:World}(hm:P.follows .mixedOrders=true)
  (hok:(List.range ops.size).all (fun j=>match ops[j]? with|none=>false|some o=>o.after.all (fun e=> !Region.binds .any e || decide (e.on<j)) && o.guard.isNone)=true)
  (I:(Nat->Bool)->Act->World->Prop) (h0:∀w,w.heap=w0.heap->Below w0.heap.size w0 w->I (fun _=>false) a0 w)
  (step:QaH (QV P Q ops.toList I) 0 ops.toList)
  (fin:∀L a w,(∀k,k<ops.size->L k=true)->I L a w->Q .normal a w):(Code.region id ops true).wp P Q a0 w0:=by
 have acy:∀(j:Nat) (o:Oper),ops[j]? = some o->(∀e∈o.after,Region.binds .any e=true->e.on<j)∧o.guard=none:=fun j o ho=>by
  have hj:j<ops.size:=(Array.getElem?_eq_some_iff.1 ho).1
  have h1:=List.all_eq_true.1 hok j (by simpa using hj)
  rw[ho] at h1;simp only[Bool.and_eq_true] at h1;refine⟨fun e he hb=> ?_,by simpa using h1.2⟩
  have:=Array.all_eq_true_iff_forall_mem.1 h1.1 e he
  simpa [hb] using this
 have core:∀(fuel:Nat) (listed:Array Bool) (a:Act) (w:World),listed.size=ops.size->cntU (fun k=>listed.getD k false) ops.size<=fuel ->
   I (fun k=>listed.getD k false) a w->(∀i k,listed.getD i false=true->dep ops.toList i k=true->listed.getD k false=true)->wpAny P .any ops Q fuel listed a w:=by
  intro fuel
  induction fuel with
  | zero=>
   intro listed a w hsz hc hI hcl;have hall:=Qb4 (Nat.le_zero.1 hc);refine⟨?_,fin _ a w (fun k hk=>hall k hk) hI⟩
   apply List.eq_nil_iff_forall_not_mem.2
   intro i hi;obtain⟨h1,o,ho,_⟩:=mem_ready.1 hi;have hi':i<ops.size:=(Array.getElem?_eq_some_iff.1 ho).1
   have h2:=hall i hi';simp[Array.getD,hsz,hi'] at h1 h2;rw[h2] at h1;cases h1
  | succ fuel ih=>
   intro listed a w hsz hc hI hcl;have gd:∀i,i<ops.size->listed.getD i true=listed.getD i false:=fun i hi=>by simp[Array.getD,hsz,hi]
   refine⟨fun hr=> ?_,fun i hi=> ?_⟩
   ·refine fin _ a w ?_ hI
    have:∀n,∀k,k<n->k<ops.size->listed.getD k false=true:=by
     intro n
     induction n with
     | zero=>intro k hk;omega
     | succ n ihn=>
      intro k hk hks
      by_cases hlk:listed.getD k false=true
      ·exact hlk
      ·exfalso
       have hmem:k∈Region.ready .any ops listed:=by
        refine mem_ready.2 ⟨by rw[gd k hks];simpa using hlk,ops[k],Nh hks,fun e he hb=> ?_⟩
        have h1:=(acy k ops[k] (Nh hks)).1 e he hb;exact ihn e.on (by omega) (by omega)
       rw[hr] at hmem;cases hmem
    exact fun k hk=>this (k+1) k (by omega) hk
   ·obtain⟨h1,o,ho,hdep⟩:=mem_ready.1 hi;have hi':i<ops.size:=(Array.getElem?_eq_some_iff.1 ho).1
    have st:=Og step (by rw[NF];exact ho)
    rw[Lo] at st;have dval:∀k,(o.after.toList.any fun e=>e.on == k && Region.binds .any e)=true->listed.getD k false=true:=fun k hk=>by
     obtain⟨e,he,h2⟩:=Qcv hk;simp only[Bool.and_eq_true,beq_iff_eq] at h2;obtain⟨rfl,hbnd⟩:=h2;exact hdep e he hbnd
    have hfun:(fun k=>(listed.setIfInBounds i true).getD k false)=fun k=>if k=i then true else listed.getD k false:=by
     funext k
     by_cases e:k=i
     ·subst e;simp[Array.getD,hsz,hi']
     ·by_cases h:k<listed.size
      ·simp[Array.getD,h,e,Ne.symm e]
      ·simp[Array.getD,h,e]
    have hK:∀v w',I (fun k=>if k=i then true else listed.getD k false) (a.put o.dst v) w'->wpAny P .any ops Q fuel (listed.setIfInBounds i true) (a.put o.dst v) w':=fun v w' hI'=>by
     refine ih _ _ _ (by simp[hsz]) ?_ (by rw[hfun];exact hI') ?_
     ·have:=Qa5 (p:=fun k=>listed.getD k false) (q:=fun k=>(listed.setIfInBounds i true).getD k false) (i:=i) (by rw[<-gd i hi'];exact h1) (by simp[Array.getD,hsz,hi']) (fun k hk=>by
       by_cases h:k<listed.size
       ·simp[Array.getD,h,Ne.symm hk]
       ·simp[Array.getD,h]) ops.size hi'
      omega
     ·intro x y hx hxy;have e1:(listed.setIfInBounds i true).getD x false=if x=i then true else listed.getD x false:=congrFun hfun x
      have e2:(listed.setIfInBounds i true).getD y false=if y=i then true else listed.getD y false:=congrFun hfun y
      rw[e1] at hx;rw[e2]
      by_cases ey:y=i
      ·rw[Lm ey]
      ·rw[Ld ey]
       by_cases ex:x=i
       ·subst ex;refine dval y ?_
        have hxy':=hxy;unfold dep at hxy';rw[NF,ho] at hxy';exact hxy'
       ·rw[Ld ex] at hx;exact hcl x y hx hxy
    have hst:=st (fun k=>listed.getD k false) a w (wpAny P .any ops Q fuel (listed.setIfInBounds i true)) hI (by rw[<-gd i hi'];exact h1) hcl dval hK
    unfold wpOp;simp only[ho];rw[Lm (by unfold Region.wanted;rw[(acy i o ho).2])]
    exact Or.inl hst
 refine wp_region_any hm (core ops.size _ a0 _ (by simp) ?_ ?_ ?_)
 ·rw[J5 (q:=fun _=>false),Qb3]
  ·exact La _
  ·intro k hk;simp[Array.getD,hk]
 ·have hf:(fun k=>(Array.replicate ops.size false).getD k false)=fun _=>false:=by
   funext k
   by_cases hk:k<ops.size
   ·simp[Array.getD,hk]
   ·simp[Array.getD,hk]
  rw[hf];exact h0 _ rfl ⟨rfl,rfl,rfl,La _,fun _ _=>rfl⟩
 ·intro i k hi hk
  exfalso
  by_cases hs:i<ops.size
  ·simp[Array.getD,hs] at hi
  ·simp[Array.getD,hs] at hi
section
open Cv (RdC zl cU cov)
open Pl (pw)
structure J0(W:World)(s0 q:Nat)(v u:Value)(C:List (Nat×Nat))(P:LB)(h k:Nat):Prop where
 js:JS W s0 v u C P
 tw:Tw W q (h:Int) k
 hv:∀g,v.ownBlock=some g->g≠q
 hq:s0+2<q
 hC:C.length<=1000
 hP:P.length<=1000
structure RJ(W:World)(s0 q:Nat)(v u:Value)(C:List (Nat×Nat))(P:LB)(h k:Nat)(x:BA)(b0 b1 b2 b3 b4 b5 b6 b7 b8 b9:Bool)(y0 y1 y2 y3 y4 y5 y6 y7:Value)(w:World):Prop where
 a0:b0=true->y0=v
 a1:b1=true->y1= .agg #[.int .i64 h,.int .u64 k]
 a2:b2=true -> ∃g,y2= .slice (Zp g) 1 1∧Tw w g (h:Int) k∧W.heap.size<=g
 a4:b4=true->y4=u
 a5:b5=true->y5= .string x
 a6:b6=true -> ∃g,y6= .slice (Zp g) 1 1∧w.heap[g]? = some (.cells #[.string x] 9 (0,0))∧W.heap.size<=g
 tw:Tw w q (h:Int) k
 n3:b3=false->Cv.Yb w (s0+3) v (zl C)
 m3:b3=true->Cv.Yb w (s0+3) y3 (zl (C++[(h,k)]))
 n7:b7=false->Qg w (s0+3) u P
 m7:b7=true->Qg w (s0+3) y7 (P++[x])
 c8:w.heap[s0+1]? = some (.cells #[bif b8 then y3 else v] 187 (0,0))
 c9:w.heap[s0+2]? = some (.cells #[bif b9 then y7 else u] 22 (0,0))
 be:Below (s0+1) W w
section
variable {W w w':World} {s0 q:Nat} {v u:Value} {C:List (Nat×Nat)} {P:LB} {h k:Nat} {x:BA} {b0 b1 b2 b3 b4 b5 b6 b7 b8 b9:Bool} {y0 y1 y2 y3 y4 y5 y6 y7:Value}
theorem RJ.lt(r:RJ W s0 q v u C P h k x b0 b1 b2 b3 b4 b5 b6 b7 b8 b9 y0 y1 y2 y3 y4 y5 y6 y7 w):s0+2<w.heap.size:=(Array.getElem?_eq_some_iff.1 r.c9).1
theorem RJ.keep(r:RJ W s0 q v u C P h k x b0 b1 b2 b3 b4 b5 b6 b7 b8 b9 y0 y1 y2 y3 y4 y5 y6 y7 w)(hb:Below w.heap.size w w'):RJ W s0 q v u C P h k x b0 b1 b2 b3 b4 b5 b6 b7 b8 b9 y0 y1 y2 y3 y4 y5 y6 y7 w':=by
 have hl:=r.lt;refine⟨r.a0,r.a1,fun e=> ?_,r.a4,r.a5,fun e=> ?_,r.tw.next hb,fun e=>YT (r.n3 e) hb,fun e=>YT (r.m3 e) hb,fun e=>YT (r.n7 e) hb,fun e=>YT (r.m7 e) hb,(hb.block _ (by omega)).trans r.c8,(hb.block _ hl).trans r.c9,r.be.trans (hb.mono (by omega))⟩
 ·obtain⟨g,e1,e2,e3⟩:=r.a2 e;exact⟨g,e1,e2.next hb,e3⟩
 ·obtain⟨g,e1,e2,e3⟩:=r.a6 e;exact⟨g,e1,(hb.block g (Array.getElem?_eq_some_iff.1 e2).1).trans e2,e3⟩
theorem QnU{Z:World}{B B' T T' s s' n n':Nat}{a b:Value}{xs ys:List Value}(o:Z.ownsRow B T s a n xs)(o':Z.ownsRow B' T' s' b n' ys)(hT:T≠T'){g:Nat}(h1:a.ownBlock=some g)(h2:b.ownBlock=some g):False:=by
 obtain⟨_,c,hc⟩:=Qan o h1;obtain⟨_,c',hc'⟩:=Qan o' h2;rw[hc] at hc';injection hc' with hc'
 injection hc' with _ h2 _
 exact hT h2
theorem RJ.app3(j:J0 W s0 q v u C P h k)(r:RJ W s0 q v u C P h k x b0 b1 b2 false b4 b5 b6 false false false y0 y1 y2 y3 y4 y5 y6 y7 w)(v':Value)(g:w.grownBy w' v.ownBlock)(o:Cv.Yb w' (s0+3) v' (zl (C++[(h,k)]))):RJ W s0 q v u C P h k x b0 b1 b2 true b4 b5 b6 false false false y0 y1 y2 v' y4 y5 y6 y7 w':=by
 have hl:=r.lt;have o0:=r.n3 rfl;have u0:=r.n7 rfl;have lo:∀k,v.ownBlock=some k->s0+3<=k∧k<W.heap.size:=fun k hk=>LY j.js.ot k hk
 have hb:∀b,b<w.heap.size->some b≠v.ownBlock->w'.heap[b]? = w.heap[b]? := fun b h1 h2=>g.block b h1 h2
 refine⟨r.a0,r.a1,fun e=> ?_,r.a4,r.a5,fun e=> ?_,r.tw.same (hb q r.tw.lt fun e=>j.hv q e.symm rfl),(fun e=>by cases e),fun _=>o,fun _=>Qj u0 fun b h1 _=>hb b (LY u0 b h1).2 fun e=>QnU o0 u0 (by decide) e.symm h1,(fun e=>by cases e),(hb _ (by omega) fun e=>by have:=lo _ e.symm;omega).trans r.c8,(hb _ hl fun e=>by have:=lo _ e.symm;omega).trans r.c9,r.be.trans ((Lb _ _).grown g (by omega) fun k hk=>by have:=lo k hk;omega)⟩
 ·obtain⟨g',e1,e2,e3⟩:=r.a2 e;exact⟨g',e1,e2.same (hb g' e2.lt fun e=>by have:=lo _ e.symm;omega),e3⟩
 ·obtain⟨g',e1,e2,e3⟩:=r.a6 e;exact⟨g',e1,(hb g' (Array.getElem?_eq_some_iff.1 e2).1 fun e=>by have:=lo _ e.symm;omega).trans e2,e3⟩
theorem RJ.app7(j:J0 W s0 q v u C P h k)(r:RJ W s0 q v u C P h k x b0 b1 b2 true b4 b5 b6 false false false y0 y1 y2 y3 y4 y5 y6 y7 w)(u':Value)(g:w.grownBy w' u.ownBlock)(o:Qg w' (s0+3) u' (P++[x])):RJ W s0 q v u C P h k x b0 b1 b2 true b4 b5 b6 true false false y0 y1 y2 y3 y4 y5 y6 u' w':=by
 have hl:=r.lt;have o0:=r.m3 rfl;have u0:=r.n7 rfl;have lo:∀k,u.ownBlock=some k->s0+3<=k∧k<W.heap.size:=fun k hk=>LY j.js.op k hk
 have hb:∀b,b<w.heap.size->some b≠u.ownBlock->w'.heap[b]? = w.heap[b]? := fun b h1 h2=>g.block b h1 h2
 refine⟨r.a0,r.a1,fun e=> ?_,r.a4,r.a5,fun e=> ?_,r.tw.same (hb q r.tw.lt fun e=>Qao u0 r.tw (by decide) q e.symm rfl),(fun e=>by cases e),fun _=>Qj o0 fun b h1 _=>hb b (LY o0 b h1).2 fun e=>QnU o0 u0 (by decide) h1 e.symm,(fun e=>by cases e),fun _=>o,(hb _ (by omega) fun e=>by have:=lo _ e.symm;omega).trans r.c8,(hb _ hl fun e=>by have:=lo _ e.symm;omega).trans r.c9,r.be.trans ((Lb _ _).grown g (by omega) fun k hk=>by have:=lo k hk;omega)⟩
 ·obtain⟨g',e1,e2,e3⟩:=r.a2 e;exact⟨g',e1,e2.same (hb g' e2.lt fun e=>by have:=lo _ e.symm;omega),e3⟩
 ·obtain⟨g',e1,e2,e3⟩:=r.a6 e;exact⟨g',e1,(hb g' (Array.getElem?_eq_some_iff.1 e2).1 fun e=>by have:=lo _ e.symm;omega).trans e2,e3⟩
theorem RJ.put8(j:J0 W s0 q v u C P h k)(r:RJ W s0 q v u C P h k x b0 b1 b2 true b4 b5 b6 true false false y0 y1 y2 y3 y4 y5 y6 y7 w):RJ W s0 q v u C P h k x b0 b1 b2 true b4 b5 b6 true true false y0 y1 y2 y3 y4 y5 y6 y7 (w.setCell ⟨s0+1,0,none⟩ y3):=by
 have hq:=j.hq;have hW:=j.js.lt;have hch:=(ChT.refl (fun b=>b=s0+1) w).set (s0+1) 0 y3 rfl
 refine⟨r.a0,r.a1,fun e=> ?_,r.a4,r.a5,fun e=> ?_,r.tw.same (hch.block q (by omega)),(fun e=>by cases e),fun _=>Qj (r.m3 rfl) fun b _ hb=>hch.block b (by omega),(fun e=>by cases e),fun _=>Qj (r.m7 rfl) fun b _ hb=>hch.block b (by omega),Lp w (s0+1) 0 _ _ y3 r.c8,(hch.block (s0+2) (by omega)).trans r.c9,r.be.trans (hch.below (by rintro b rfl;omega))⟩
 ·obtain⟨g',e1,e2,e3⟩:=r.a2 e;exact⟨g',e1,e2.same (hch.block g' (by omega)),e3⟩
 ·obtain⟨g',e1,e2,e3⟩:=r.a6 e;exact⟨g',e1,(hch.block g' (by omega)).trans e2,e3⟩
theorem RJ.put9(j:J0 W s0 q v u C P h k)(r:RJ W s0 q v u C P h k x b0 b1 b2 true b4 b5 b6 true true false y0 y1 y2 y3 y4 y5 y6 y7 w):RJ W s0 q v u C P h k x b0 b1 b2 true b4 b5 b6 true true true y0 y1 y2 y3 y4 y5 y6 y7 (w.setCell ⟨s0+2,0,none⟩ y7):=by
 have hq:=j.hq;have hW:=j.js.lt;have hch:=(ChT.refl (fun b=>b=s0+2) w).set (s0+2) 0 y7 rfl
 refine⟨r.a0,r.a1,fun e=> ?_,r.a4,r.a5,fun e=> ?_,r.tw.same (hch.block q (by omega)),(fun e=>by cases e),fun _=>Qj (r.m3 rfl) fun b _ hb=>hch.block b (by omega),(fun e=>by cases e),fun _=>Qj (r.m7 rfl) fun b _ hb=>hch.block b (by omega),(hch.block (s0+1) (by omega)).trans r.c8,Lp w (s0+2) 0 _ _ y7 r.c9,r.be.trans (hch.below (by rintro b rfl;omega))⟩
 ·obtain⟨g',e1,e2,e3⟩:=r.a2 e;exact⟨g',e1,e2.same (hch.block g' (by omega)),e3⟩
 ·obtain⟨g',e1,e2,e3⟩:=r.a6 e;exact⟨g',e1,(hch.block g' (by omega)).trans e2,e3⟩
end
structure RF(W:World)(s0 q:Nat)(v u:Value)(C:List (Nat×Nat))(P:LB)(h k:Nat)(x:BA)(L:Nat->Bool)(a:Act)(w:World):Prop where
 sz:a.tmps.size=53
 df:a.defers=[]
 i1:a.tmps.getD 1 undef= .string x
 i2:a.tmps.getD 2 undef= .pointer (some ⟨s0+1,0,none⟩)
 i4:a.tmps.getD 4 undef= .pointer (some ⟨s0+2,0,none⟩)
 i5:a.tmps.getD 5 undef=Pq q
 rj:RJ W s0 q v u C P h k x (L 0) (L 1) (L 2) (L 3) (L 4) (L 5) (L 6) (L 7) (L 8) (L 9) (a.tmps.getD 45 undef) (a.tmps.getD 46 undef) (a.tmps.getD 47 undef) (a.tmps.getD 48 undef) (a.tmps.getD 49 undef) (a.tmps.getD 50 undef) (a.tmps.getD 51 undef) (a.tmps.getD 52 undef) w
section
variable {W w w':World} {s0 q:Nat} {v u:Value} {C:List (Nat×Nat)} {P:LB} {h k:Nat} {x:BA} {L L':Nat->Bool} {a:Act}
theorem Qb(a:Act)(d t:Nat)(y:Value)(hd:d<a.tmps.size):(a.put (some d) y).tmps.getD t undef=if t=d then y else a.tmps.getD t undef:=by
 by_cases e:t=d
 ·subst e;rw[Lm rfl,Qbi a t y hd]
 ·rw[Ld e,Uw a d t y (Ne.symm e)]
theorem RF.put(f:RF W s0 q v u C P h k x L a w)(d:Nat)(h1:44<d)(h2:d<53)(y:Value)(r:RJ W s0 q v u C P h k x (L' 0) (L' 1) (L' 2) (L' 3) (L' 4) (L' 5) (L' 6) (L' 7) (L' 8) (L' 9) (if 45=d then y else a.tmps.getD 45 undef) (if 46=d then y else a.tmps.getD 46 undef) (if 47=d then y else a.tmps.getD 47 undef) (if 48=d then y else a.tmps.getD 48 undef) (if 49=d then y else a.tmps.getD 49 undef) (if 50=d then y else a.tmps.getD 50 undef) (if 51=d then y else a.tmps.getD 51 undef) (if 52=d then y else a.tmps.getD 52 undef) w'):RF W s0 q v u C P h k x L' (a.put (some d) y) w':=by
 have hs:d<a.tmps.size:=by rw[f.sz];exact h2
 refine⟨by simp[Act.put,f.sz],f.df,?_,?_,?_,?_,?_⟩
 ·rw[Qb a d 1 y hs,Ld (by omega)];exact f.i1
 ·rw[Qb a d 2 y hs,Ld (by omega)];exact f.i2
 ·rw[Qb a d 4 y hs,Ld (by omega)];exact f.i4
 ·rw[Qb a d 5 y hs,Ld (by omega)];exact f.i5
 ·rw[Qb a d 45 y hs,Qb a d 46 y hs,Qb a d 47 y hs,Qb a d 48 y hs,Qb a d 49 y hs,Qb a d 50 y hs,Qb a d 51 y hs,Qb a d 52 y hs];exact r
end
section
variable {W:World} {s0 q:Nat} {v u:Value} {C:List (Nat×Nat)} {P:LB} {h k:Nat} {x:BA} {Q:Exit->Act->World->Prop} {ops:List Oper} {ty:TypeId} {ps:String} {af:Array Edge}
theorem QT{L:Nat->Bool}{i j:Nat}(hcl:∀i k,L i=true->dep ops i k=true->L k=true)(hj:L j=false)(hd:dep ops i j=true):L i=false:=by
 cases h:L i with
 | false=>rfl
 | true=>rw[hcl i j h hd] at hj;cases hj
theorem e0(hd:dep ops 8 0=true):QV prog Q ops (RF W s0 q v u C P h k x) 0 { dst:=some 45,op:=Op.load 187 (Operand.tmp 2),type:=ty,pos:=ps,after:=af,guard:=none } := by
 intro L a w K hI hj hcl hdep hK;have r:=hI.rj;have h8:=QT hcl hj hd;have c:=cell_of_one r.c8;rw[h8,cond_false] at c;have t2:=hI.i2
 show Oper.wp _ _ a w K _
 go_simp
 exact hK _ _ (hI.put 45 (by decide) (by decide) v ⟨fun _=>rfl,r.a1,r.a2,r.a4,r.a5,r.a6,r.tw,r.n3,r.m3,r.n7,r.m7,r.c8,r.c9,r.be⟩)
theorem e1:QV prog Q ops (RF W s0 q v u C P h k x) 1 { dst:=some 46,op:=Op.load 249 (Operand.tmp 5),type:=ty,pos:=ps,after:=af,guard:=none } := by
 intro L a w K hI hj hcl hdep hK;have r:=hI.rj;obtain⟨c0,c1⟩:=r.tw.cells;have t5:=hI.i5
 show Oper.wp _ _ a w K _
 go_simp
 exact hK _ _ (hI.put 46 (by decide) (by decide) _ ⟨r.a0,fun _=>rfl,r.a2,r.a4,r.a5,r.a6,r.tw,r.n3,r.m3,r.n7,r.m7,r.c8,r.c9,r.be⟩)
theorem e2(hd:(af.toList.any fun e=>e.on == 1 && Region.binds .any e)=true):QV prog Q ops (RF W s0 q v u C P h k x) 2 { dst:=some 47,op:=Op.buildSlice 187 1 #[(0,Operand.tmp 46)],type:=ty,pos:=ps,after:=af,guard:=none } := by
 intro L a w K hI hj hcl hdep hK;have r:=hI.rj;have t46:=r.a1 (hdep 1 hd);have u46:a.tmps[46]?.getD undef= .agg #[.int .i64 h,.int .u64 k]:=by rw[<-NM];exact t46
 have hb:=bal (Lb w.heap.size w) (.cells #[.int .i64 h,.int .u64 k] 249);have r':=r.keep hb
 show Oper.wp _ _ a w K _
 go_simp
 exact hK _ _ (hI.put 47 (by decide) (by decide) _ ⟨r'.a0,r'.a1,fun _=>⟨_,rfl,QbO w _ _,r.be.size⟩,r'.a4,r'.a5,r'.a6,r'.tw,r'.n3,r'.m3,r'.n7,r'.m7,r'.c8,r'.c9,r'.be⟩)
theorem e3(j:J0 W s0 q v u C P h k)(h0:(af.toList.any fun e=>e.on == 0 && Region.binds .any e)=true)(h2:(af.toList.any fun e=>e.on == 2 && Region.binds .any e)=true)(d7:dep ops 7 3=true)(d8:dep ops 8 3=true)(d9:dep ops 9 3=true):QV prog Q ops (RF W s0 q v u C P h k x) 3 { dst:=some 48,op:=Op.call { callee:=Callee.builtin Builtin.append,args:=#[Operand.tmp 45,Operand.tmp 47],argTypes:=#[187,187] },type:=ty,pos:=ps,after:=af,guard:=none } := by
 intro L a w K hI hj hcl hdep hK;have r:=hI.rj;have t45:=r.a0 (hdep 0 h0);obtain⟨g,t47,htw,_⟩:=r.a2 (hdep 2 h2);rw[hj,QT hcl hj d7,QT hcl hj d8,QT hcl hj d9] at r;have hl:=r.lt;have st:=Qle w (ops:=#[]) (o := { dst:=some 48,op:=Op.call { callee:=Callee.builtin Builtin.append,args:=#[Operand.tmp 45,Operand.tmp 47],argTypes:=#[187,187] },type:=ty,pos:=ps,after:=af,guard:=none }) (a:=a) (K:=K) (Q:=Q) (E:=False) rfl (Operand.tmp 45) (Operand.tmp 47) rfl (s0+3) v C t45 (r.n3 rfl) g h k t47 htw j.hC hl (fun v' w' o g'=>hK _ _ (hI.put 48 (by decide) (by decide) v' (by
  have r':=r.app3 j v' g' o
  show RJ W s0 q v u C P h k x (L 0) (L 1) (L 2) true (L 4) (L 5) (L 6) (L 7) (L 8) (L 9) _ _ _ v' _ _ _ _ w'
  rw[QT hcl hj d7,QT hcl hj d8,QT hcl hj d9];exact r')))
 have hw:Region.wanted { dst:=some 48,op:=Op.call { callee:=Callee.builtin Builtin.append,args:=#[Operand.tmp 45,Operand.tmp 47],argTypes:=#[187,187] },type:=ty,pos:=ps,after:=af,guard:=none } (yielded #[] a.tmps)=true:=by simp[Region.wanted]
 rw[Lm hw] at st;exact st
theorem e4(hd:dep ops 9 4=true):QV prog Q ops (RF W s0 q v u C P h k x) 4 { dst:=some 49,op:=Op.load 22 (Operand.tmp 4),type:=ty,pos:=ps,after:=af,guard:=none } := by
 intro L a w K hI hj hcl hdep hK;have r:=hI.rj;have h8:=QT hcl hj hd;have c:=cell_of_one r.c9;rw[h8,cond_false] at c;have t2:=hI.i4
 show Oper.wp _ _ a w K _
 go_simp
 exact hK _ _ (hI.put 49 (by decide) (by decide) u ⟨r.a0,r.a1,r.a2,fun _=>rfl,r.a5,r.a6,r.tw,r.n3,r.m3,r.n7,r.m7,r.c8,r.c9,r.be⟩)
theorem e5:QV prog Q ops (RF W s0 q v u C P h k x) 5 { dst:=some 50,op:=Op.move (Operand.tmp 1),type:=ty,pos:=ps,after:=af,guard:=none } := by
 intro L a w K hI hj hcl hdep hK;have r:=hI.rj;have t2:=hI.i1
 show Oper.wp _ _ a w K _
 go_simp
 exact hK _ _ (hI.put 50 (by decide) (by decide) _ ⟨r.a0,r.a1,r.a2,r.a4,fun _=>rfl,r.a6,r.tw,r.n3,r.m3,r.n7,r.m7,r.c8,r.c9,r.be⟩)
theorem e6(hd:(af.toList.any fun e=>e.on == 5 && Region.binds .any e)=true):QV prog Q ops (RF W s0 q v u C P h k x) 6 { dst:=some 51,op:=Op.buildSlice 22 1 #[(0,Operand.tmp 50)],type:=ty,pos:=ps,after:=af,guard:=none } := by
 intro L a w K hI hj hcl hdep hK;have r:=hI.rj;have t46:=r.a5 (hdep 5 hd);have u46:a.tmps[50]?.getD undef= .string x:=by rw[<-NM];exact t46
 have hb:=bal (Lb w.heap.size w) (.cells #[.string x] 9);have r':=r.keep hb
 show Oper.wp _ _ a w K _
 go_simp
 exact hK _ _ (hI.put 51 (by decide) (by decide) _ ⟨r'.a0,r'.a1,r'.a2,r'.a4,r'.a5,fun _=>⟨_,rfl,Lt w _,r.be.size⟩,r'.tw,r'.n3,r'.m3,r'.n7,r'.m7,r'.c8,r'.c9,r'.be⟩)
theorem e7(j:J0 W s0 q v u C P h k)(h3:(af.toList.any fun e=>e.on == 3 && Region.binds .any e)=true)(h4:(af.toList.any fun e=>e.on == 4 && Region.binds .any e)=true)(h6:(af.toList.any fun e=>e.on == 6 && Region.binds .any e)=true)(d8:dep ops 8 7=true)(d9:dep ops 9 7=true):QV prog Q ops (RF W s0 q v u C P h k x) 7 { dst:=some 52,op:=Op.call { callee:=Callee.builtin Builtin.append,args:=#[Operand.tmp 49,Operand.tmp 51],argTypes:=#[22,22] },type:=ty,pos:=ps,after:=af,guard:=none } := by
 intro L a w K hI hj hcl hdep hK;have r:=hI.rj;have t45:=r.a4 (hdep 4 h4);obtain⟨g,t47,htw,_⟩:=r.a6 (hdep 6 h6);rw[hj,hdep 3 h3,QT hcl hj d8,QT hcl hj d9] at r;have hl:=r.lt;have st:=Qlf w (ops:=#[]) (o := { dst:=some 52,op:=Op.call { callee:=Callee.builtin Builtin.append,args:=#[Operand.tmp 49,Operand.tmp 51],argTypes:=#[22,22] },type:=ty,pos:=ps,after:=af,guard:=none }) (a:=a) (K:=K) (Q:=Q) (E:=False) rfl (Operand.tmp 49) (Operand.tmp 51) rfl (s0+3) u P t45 (r.n7 rfl) g x t47 (cell_of_one htw) j.hP hl (fun v' w' o g'=>hK _ _ (hI.put 52 (by decide) (by decide) v' (by
  have r':=r.app7 j v' g' o
  show RJ W s0 q v u C P h k x (L 0) (L 1) (L 2) (L 3) (L 4) (L 5) (L 6) true (L 8) (L 9) _ _ _ _ _ _ _ v' w'
  rw[hdep 3 h3,QT hcl hj d8,QT hcl hj d9];exact r')))
 have hw:Region.wanted { dst:=some 52,op:=Op.call { callee:=Callee.builtin Builtin.append,args:=#[Operand.tmp 49,Operand.tmp 51],argTypes:=#[22,22] },type:=ty,pos:=ps,after:=af,guard:=none } (yielded #[] a.tmps)=true:=by simp[Region.wanted]
 rw[Lm hw] at st;exact st
theorem e8(j:J0 W s0 q v u C P h k)(h3:(af.toList.any fun e=>e.on == 3 && Region.binds .any e)=true)(h7:(af.toList.any fun e=>e.on == 7 && Region.binds .any e)=true)(d9:dep ops 9 8=true):QV prog Q ops (RF W s0 q v u C P h k x) 8 { dst:=none,op:=Op.store 187 (Operand.tmp 2) (Operand.tmp 48),type:=ty,pos:=ps,after:=af,guard:=none } := by
 intro L a w K hI hj hcl hdep hK;have r:=hI.rj;rw[hj,hdep 3 h3,hdep 7 h7,QT hcl hj d9] at r;have c:=cell_of_one r.c8;rw[cond_false] at c;have fz:=free_of_one r.c8;have t2:=hI.i2;obtain⟨va,vn,vc,t48⟩:=Cv.Ql (r.m3 rfl);have r':=r.put8 j;rw[t48] at r'
 show Oper.wp _ _ a w K _
 go_simp
 refine hK undef _ ⟨hI.sz,hI.df,hI.i1,hI.i2,hI.i4,hI.i5,?_⟩
 show RJ W s0 q v u C P h k x (L 0) (L 1) (L 2) (L 3) (L 4) (L 5) (L 6) (L 7) true (L 9) _ _ _ _ _ _ _ _ _
 rw[hdep 3 h3,hdep 7 h7,QT hcl hj d9];rw[<-t48] at r';rw[<-t48];exact r'
theorem e9(j:J0 W s0 q v u C P h k)(h3:(af.toList.any fun e=>e.on == 3 && Region.binds .any e)=true)(h7:(af.toList.any fun e=>e.on == 7 && Region.binds .any e)=true)(h8:(af.toList.any fun e=>e.on == 8 && Region.binds .any e)=true):QV prog Q ops (RF W s0 q v u C P h k x) 9 { dst:=none,op:=Op.store 22 (Operand.tmp 4) (Operand.tmp 52),type:=ty,pos:=ps,after:=af,guard:=none } := by
 intro L a w K hI hj hcl hdep hK;have r:=hI.rj;rw[hj,hdep 3 h3,hdep 7 h7,hdep 8 h8] at r;have c:=cell_of_one r.c9;rw[cond_false] at c;have fz:=free_of_one r.c9;have t2:=hI.i4;obtain⟨va,vn,vc,t52⟩:=Cv.Ql (r.m7 rfl);have r':=r.put9 j;rw[t52] at r'
 show Oper.wp _ _ a w K _
 go_simp
 refine hK undef _ ⟨hI.sz,hI.df,hI.i1,hI.i2,hI.i4,hI.i5,?_⟩
 show RJ W s0 q v u C P h k x (L 0) (L 1) (L 2) (L 3) (L 4) (L 5) (L 6) (L 7) (L 8) true _ _ _ _ _ _ _ _ _
 rw[hdep 3 h3,hdep 7 h7,hdep 8 h8];rw[<-t52] at r';rw[<-t52];exact r'
end
theorem QeM{W w:World}{s0 q:Nat}{v u:Value}{C:List (Nat×Nat)}{P:LB}{h k:Nat}{x:BA}{a:Act}(j:J0 W s0 q v u C P h k)(sz:a.tmps.size=53)(df:a.defers=[])(i1:a.tmps.getD 1 undef= .string x)(i2:a.tmps.getD 2 undef= .pointer (some ⟨s0+1,0,none⟩))(i4:a.tmps.getD 4 undef= .pointer (some ⟨s0+2,0,none⟩))(i5:a.tmps.getD 5 undef=Pq q)(hb:Below W.heap.size W w):RF W s0 q v u C P h k x (fun _=>false) a w:=by
 have hl:=j.js.lt;have js:=j.js.next hb;exact⟨sz,df,i1,i2,i4,i5,(fun e=>by cases e),(fun e=>by cases e),(fun e=>by cases e),(fun e=>by cases e),(fun e=>by cases e),(fun e=>by cases e),j.tw.next hb,fun _=>js.ot,(fun e=>by cases e),fun _=>js.op,(fun e=>by cases e),js.ct,js.cp,hb.mono (by omega)⟩
theorem QkV{W w:World}{s0 q:Nat}{v u:Value}{C:List (Nat×Nat)}{P:LB}{h k:Nat}{x:BA}{L:Nat->Bool}{a:Act}(f:RF W s0 q v u C P h k x L a w)(hL:∀k,k<10->L k=true):∃v' u',JS w s0 v' u' (C++[(h,k)]) (P++[x])∧Below (s0+1) W w:=by
 have r:=f.rj;rw[hL 3 (by decide),hL 7 (by decide),hL 8 (by decide),hL 9 (by decide)] at r
 exact⟨_,_,⟨r.c8,r.c9,r.m3 rfl,r.m7 rfl⟩,r.be⟩
end
end Go.Proofs.YtoblgjledefdbaaGreatDoor
