/- Own work. -/
import Derived.Test.YtdocjikpcbmcgaaGreatDoorQn12
set_option maxRecDepth 100000
set_option maxHeartbeats 1000000
namespace Go.Proofs.YtdocjikpcbmcgaaGreatDoor
open Go.RowKit
attribute [local go_sem ↓] Go.wp_at_zero Go.wp_at_succ
open Go.Proofs.Tryz
def QN(P:Program)(Q:Exit->Act->World->Prop)(ops:List Oper)(I:(Nat->Bool)->Act->World->Prop)(j:Nat)(o:Oper):Prop :=
 ∀(L:Nat->Bool) (a:Act) (w:World) (K:Act->World->Prop),I L a w->L j=false->(∀i k,L i=true->dep ops i k=true->L k=true) ->
  (∀k,(o.after.toList.any fun e=>e.on == k && Region.binds .any e)=true->L k=true) ->
  (∀v w',I (fun i=>if i=j then true else L i) (a.put o.dst v) w'->K (a.put o.dst v) w')->o.wp P a w K Q
theorem YQ{P:Program}{ops:Array Oper}{Q:Exit->Act->World->Prop}{id:Nat}{a0:Act}{w0:World}(hm:P.follows .mixedOrders=true)
  (hok:(List.range ops.size).all (fun j=>match ops[j]? with|none=>false|some o=>o.after.all (fun e => !Region.binds .any e || decide (e.on<j)) && o.guard.isNone)=true)
  (I:(Nat->Bool)->Act->World->Prop) (h0 : ∀w,w.heap=w0.heap->Zb w0 w->I (fun _=>false) a0 w)
  (step:Qa2 (QN P Q ops.toList I) 0 ops.toList)
  (fin : ∀L a w,(∀k,k<ops.size->L k=true)->I L a w->Q .normal a w):(Code.region id ops true).wp P Q a0 w0:=by
 have xJ : ∀(j:Nat) (o:Oper),ops[j]? = some o->(∀e∈o.after,Region.binds .any e=true->e.on<j)∧o.guard=none:=fun j o ho=>by
  have hj:j<ops.size:=(Array.getElem?_eq_some_iff.1 ho).1
  have h1:=List.all_eq_true.1 hok j (by simpa using hj)
  rw[ho] at h1;simp only[Bool.and_eq_true] at h1;refine⟨fun e he hb => ?_,by simpa using h1.2⟩
  have:=Array.all_eq_true_iff_forall_mem.1 h1.1 e he
  simpa [hb] using this
 have xG : ∀(fuel:Nat) (listed:Array Bool) (a:Act) (w:World),listed.size=ops.size->cntU (fun k=>listed.getD k false) ops.size<=fuel ->
   I (fun k=>listed.getD k false) a w->(∀i k,listed.getD i false=true->dep ops.toList i k=true->listed.getD k false=true)->wpAny P .any ops Q fuel listed a w:=by
  intro fuel
  induction fuel with
  | zero =>
   intro listed a w hsz hc hI hcl;have xE:=QcS (Nat.le_zero.1 hc);refine⟨?_,fin _ a w (fun k hk=>xE k hk) hI⟩
   apply List.eq_nil_iff_forall_not_mem.2
   intro i hi;obtain⟨h1,o,ho,_⟩:=mem_ready.1 hi;have xA:i<ops.size:=(Array.getElem?_eq_some_iff.1 ho).1
   have h2:=xE i xA;simp[Array.getD,hsz,xA] at h1 h2;rw[h2] at h1;cases h1
  | succ fuel ih =>
   intro listed a w hsz hc hI hcl;have gd : ∀i,i<ops.size->listed.getD i true=listed.getD i false:=fun i hi=>by simp[Array.getD,hsz,hi]
   refine⟨fun hr => ?_,fun i hi => ?_⟩
   ·refine fin _ a w ?_ hI
    have : ∀n,∀k,k<n->k<ops.size->listed.getD k false=true:=by
     intro n
     induction n with
     | zero=>intro k hk;omega
     | succ n ihn =>
      intro k hk hks
      by_cases hlk:listed.getD k false=true
      ·exact hlk
      ·exfalso
       have xF:k∈Region.ready .any ops listed:=by
        refine mem_ready.2 ⟨by rw[gd k hks];simpa using hlk,ops[k],Nl hks,fun e he hb => ?_⟩
        have h1:=(xJ k ops[k] (Nl hks)).1 e he hb;exact ihn e.on (by omega) (by omega)
       rw[hr] at xF;cases xF
    exact fun k hk=>this (k+1) k (by omega) hk
   ·obtain⟨h1,o,ho,xI⟩:=mem_ready.1 hi;have xA:i<ops.size:=(Array.getElem?_eq_some_iff.1 ho).1
    have st:=Ox step (by rw[ND];exact ho)
    rw[Lr] at st;have xD : ∀k,(o.after.toList.any fun e=>e.on == k && Region.binds .any e)=true->listed.getD k false=true:=fun k hk=>by
     obtain⟨e,he,h2⟩:=Qdq hk;simp only[Bool.and_eq_true,beq_iff_eq] at h2;obtain⟨rfl,xH⟩:=h2;exact xI e he xH
    have xB:(fun k=>(listed.setIfInBounds i true).getD k false)=fun k=>if k=i then true else listed.getD k false:=by
     funext k
     by_cases e:k=i
     ·subst e;simp[Array.getD,hsz,xA]
     ·by_cases h:k<listed.size
      ·simp[Array.getD,h,e,Ne.symm e]
      ·simp[Array.getD,h,e]
    have hK : ∀v w',I (fun k=>if k=i then true else listed.getD k false) (a.put o.dst v) w'->wpAny P .any ops Q fuel (listed.setIfInBounds i true) (a.put o.dst v) w':=fun v w' hI'=>by
     refine ih _ _ _ (by simp[hsz]) ?_ (by rw[xB];exact hI') ?_
     ·have:=QbC (p:=fun k=>listed.getD k false) (q:=fun k=>(listed.setIfInBounds i true).getD k false) (i:=i) (by rw[<-gd i xA];exact h1) (by simp[Array.getD,hsz,xA]) (fun k hk=>by
       by_cases h:k<listed.size
       ·simp[Array.getD,h,Ne.symm hk]
       ·simp[Array.getD,h]) ops.size xA
      omega
     ·intro x y hx hxy;have e1:(listed.setIfInBounds i true).getD x false=if x=i then true else listed.getD x false:=congrFun xB x
      have e2:(listed.setIfInBounds i true).getD y false=if y=i then true else listed.getD y false:=congrFun xB y
      rw[e1] at hx;rw[e2]
      by_cases ey:y=i
      ·rw[Lm ey]
      ·rw[Le ey]
       by_cases ex:x=i
       ·subst ex;refine xD y ?_
        have xC:=hxy;unfold dep at xC;rw[ND,ho] at xC;exact xC
       ·rw[Le ex] at hx;exact hcl x y hx hxy
    have xK:=st (fun k=>listed.getD k false) a w (wpAny P .any ops Q fuel (listed.setIfInBounds i true)) hI (by rw[<-gd i xA];exact h1) hcl xD hK
    unfold wpOp;simp only[ho];rw[Lm (by unfold Region.wanted;rw[(xJ i o ho).2])]
    exact Or.inl xK
 refine wp_region_any hm (xG ops.size _ a0 _ (by simp) ?_ ?_ ?_)
 ·rw[Om (q:=fun _=>false),QcR]
  ·exact Ld _
  ·intro k hk;simp[Array.getD,hk]
 ·have hf:(fun k=>(Array.replicate ops.size false).getD k false)=fun _=>false:=by
   funext k
   by_cases hk:k<ops.size
   ·simp[Array.getD,hk]
   ·simp[Array.getD,hk]
  rw[hf];exact h0 _ rfl ⟨rfl,rfl,rfl,Ld _,fun _ _=>rfl⟩
 ·intro i k hi hk
  exfalso
  by_cases hs:i<ops.size
  ·simp[Array.getD,hs] at hi
  ·simp[Array.getD,hs] at hi
section
open Cv (RdC zl cU cov)
open Pl (pw)
section
variable {W w w':World} {s0 q:Nat} {v u:Value} {C:List (Nat×Nat)} {P:LB} {h k:Nat} {x:BA} {b0 b1 b2 b3 b4 b5 b6 b7 b8 b9:Bool} {y0 y1 y2 y3 y4 y5 y6 y7:Value}
end
section
variable {W w w':World} {s0 q:Nat} {v u:Value} {C:List (Nat×Nat)} {P:LB} {h k:Nat} {x:BA} {L L':Nat->Bool} {a:Act}
theorem Qb(a:Act)(d t:Nat)(y:Value)(hd:d<a.tmps.size):(a.put (some d) y).tmps.getD t undef=if t=d then y else a.tmps.getD t undef:=by
 by_cases e:t=d
 ·subst e;rw[Lm rfl,QbU a t y hd]
 ·rw[Le e,UQ a d t y (Ne.symm e)]
end
section
variable {W:World} {s0 q:Nat} {v u:Value} {C:List (Nat×Nat)} {P:LB} {h k:Nat} {x:BA} {Q:Exit->Act->World->Prop} {ops:List Oper} {ty:TypeId} {ps:String} {af:Array Edge}
theorem Uh{L:Nat->Bool}{i j:Nat}(hcl : ∀i k,L i=true->dep ops i k=true->L k=true)(hj:L j=false)(hd:dep ops i j=true):L i=false:=by
 cases h:L i with
 | false=>rfl
 | true=>rw[hcl i j h hd] at hj;cases hj
end
end
structure XF(w0 W:World)(q q5 q9:Nat)(pv:Value)(cb co cn cc:Nat)(x:BA)(n:Nat)(d:BA)(er:Int)(o1:Nat)(c1:BA)(L:Nat->Bool)(a:Act)(w:World):Prop where
 sz:a.tmps.size=64
 df:a.defers=[]
 i2:a.tmps.getD 2 undef = .slice (some ⟨cb,co,none⟩) cn cc
 i5:a.tmps.getD 5 undef = .pointer (some ⟨q5,0,none⟩)
 i9:a.tmps.getD 9 undef = .pointer (some ⟨q9,0,none⟩)
 i11:a.tmps.getD 11 undef = .pointer (some ⟨q,0,none⟩)
 b1:L 9=false->Zb W w
 b2:Zb w0 w
 o5:Rh w q5 o1 c1
 a0:L 0=true->a.tmps.getD 42 undef=pv
 a1:L 1=true->a.tmps.getD 43 undef = .slice (some ⟨cb,co,none⟩) cn cc
 a2:L 2=true->a.tmps.getD 44 undef = .pointer (some ⟨cb,co,none⟩)
 a3:L 3=true->a.tmps.getD 45 undef = .pointer (some ⟨cb,co+1,none⟩)
 a4:L 4=true->a.tmps.getD 46 undef = .string x
 a5:L 5=true->a.tmps.getD 47 undef = .tuple #[.agg #[.int .u64 (n:Int),.string d],.int .i64 er]
 a6:L 6=true->a.tmps.getD 41 undef = .tuple #[.agg #[.int .u64 (n:Int),.string d],.int .i64 er]
 a7:L 7=true->a.tmps.getD 48 undef = .agg #[.int .u64 (n:Int),.string d]
 a8:L 8=true->a.tmps.getD 49 undef = .int .i64 er
 a9:L 9=true->Rh w q n d
 a10:L 10=true->a.tmps.getD 10 undef = .int .i64 er
section
variable {w0 W:World} {q q5 q9:Nat} {pv:Value} {cb co cn cc:Nat} {x:BA} {n:Nat} {d:BA} {er:Int} {o1:Nat} {c1:BA} {Q:Exit->Act->World->Prop} {ops:List Oper} {ty:TypeId} {ps:String} {af:Array Edge}
theorem xf_0(hds:dep ops 9 0=true)(h6 : ∀w,Zb W w -> ∃v0 v1 v2 v3 v4 v5,pv = .agg #[v0,v1,v2,v3,v4,v5]∧Six w q9 v0 v1 v2 v3 v4 v5):QN prog Q ops (XF w0 W q q5 q9 pv cb co cn cc x n d er o1 c1) 0 { dst:=some 42,op:=Op.load 55 (Operand.tmp 9),type:=ty,pos:=ps,after:=af,guard:=none } := by
 intro L a w K hI hj hcl hdep hK;have hs:42<a.tmps.size:=by rw[hI.sz];decide
 have h8:=Uh hcl hj hds;have hB:=hI.b1 h8;have t9:=hI.i9;obtain⟨v0,v1,v2,v3,v4,v5,rfl,hx⟩:=h6 w hB;obtain⟨m0,m1,m2,m3,m4,m5⟩:=hx.cells
 show Oper.wp _ _ a w K _
 go_simp
 exact hK _ _ { sz:=(by simp[Act.put,hI.sz]),df:=hI.df,i2:=(by rw[Qb a 42 2 _ hs,Le (by decide)];exact hI.i2),i5:=(by rw[Qb a 42 5 _ hs,Le (by decide)];exact hI.i5),i9:=(by rw[Qb a 42 9 _ hs,Le (by decide)];exact hI.i9),i11:=(by rw[Qb a 42 11 _ hs,Le (by decide)];exact hI.i11),b1:=(fun h=>hI.b1 h),b2:=(hI.b2),o5:=(hI.o5),a0:=(fun _=>by rw[Qb a 42 42 _ hs,Lm rfl]),a1:=(fun h=>by rw[Qb a 42 43 _ hs,Le (by decide)];exact hI.a1 h),a2:=(fun h=>by rw[Qb a 42 44 _ hs,Le (by decide)];exact hI.a2 h),a3:=(fun h=>by rw[Qb a 42 45 _ hs,Le (by decide)];exact hI.a3 h),a4:=(fun h=>by rw[Qb a 42 46 _ hs,Le (by decide)];exact hI.a4 h),a5:=(fun h=>by rw[Qb a 42 47 _ hs,Le (by decide)];exact hI.a5 h),a6:=(fun h=>by rw[Qb a 42 41 _ hs,Le (by decide)];exact hI.a6 h),a7:=(fun h=>by rw[Qb a 42 48 _ hs,Le (by decide)];exact hI.a7 h),a8:=(fun h=>by rw[Qb a 42 49 _ hs,Le (by decide)];exact hI.a8 h),a9:=(fun h=>hI.a9 h),a10:=(fun h=>by rw[Qb a 42 10 _ hs,Le (by decide)];exact hI.a10 h) }
theorem xf_1  : QN prog Q ops (XF w0 W q q5 q9 pv cb co cn cc x n d er o1 c1) 1 { dst:=some 43,op:=Op.move (Operand.tmp 2),type:=ty,pos:=ps,after:=af,guard:=none } := by
 intro L a w K hI hj hcl hdep hK;have hs:43<a.tmps.size:=by rw[hI.sz];decide
 have t2:=hI.i2
 show Oper.wp _ _ a w K _
 go_simp
 exact hK _ _ { sz:=(by simp[Act.put,hI.sz]),df:=hI.df,i2:=(by rw[Qb a 43 2 _ hs,Le (by decide)];exact hI.i2),i5:=(by rw[Qb a 43 5 _ hs,Le (by decide)];exact hI.i5),i9:=(by rw[Qb a 43 9 _ hs,Le (by decide)];exact hI.i9),i11:=(by rw[Qb a 43 11 _ hs,Le (by decide)];exact hI.i11),b1:=(fun h=>hI.b1 h),b2:=(hI.b2),o5:=(hI.o5),a0:=(fun h=>by rw[Qb a 43 42 _ hs,Le (by decide)];exact hI.a0 h),a1:=(fun _=>by rw[Qb a 43 43 _ hs,Lm rfl]),a2:=(fun h=>by rw[Qb a 43 44 _ hs,Le (by decide)];exact hI.a2 h),a3:=(fun h=>by rw[Qb a 43 45 _ hs,Le (by decide)];exact hI.a3 h),a4:=(fun h=>by rw[Qb a 43 46 _ hs,Le (by decide)];exact hI.a4 h),a5:=(fun h=>by rw[Qb a 43 47 _ hs,Le (by decide)];exact hI.a5 h),a6:=(fun h=>by rw[Qb a 43 41 _ hs,Le (by decide)];exact hI.a6 h),a7:=(fun h=>by rw[Qb a 43 48 _ hs,Le (by decide)];exact hI.a7 h),a8:=(fun h=>by rw[Qb a 43 49 _ hs,Le (by decide)];exact hI.a8 h),a9:=(fun h=>hI.a9 h),a10:=(fun h=>by rw[Qb a 43 10 _ hs,Le (by decide)];exact hI.a10 h) }
theorem xf_2(d1:(af.toList.any fun e=>e.on == 1 && Region.binds .any e)=true)(hn:0<cn):QN prog Q ops (XF w0 W q q5 q9 pv cb co cn cc x n d er o1 c1) 2 { dst:=some 44,op:=Op.indexAddr 23 (Operand.tmp 43) (Operand.const (.int .i64 0)),type:=ty,pos:=ps,after:=af,guard:=none } := by
 intro L a w K hI hj hcl hdep hK;have hs:44<a.tmps.size:=by rw[hI.sz];decide
 have xA:=hI.a1 (hdep 1 d1);have hz:(0:Int)<(cn:Int):=by omega
 show Oper.wp _ _ a w K _
 go_simp
 exact hK _ _ { sz:=(by simp[Act.put,hI.sz]),df:=hI.df,i2:=(by rw[Qb a 44 2 _ hs,Le (by decide)];exact hI.i2),i5:=(by rw[Qb a 44 5 _ hs,Le (by decide)];exact hI.i5),i9:=(by rw[Qb a 44 9 _ hs,Le (by decide)];exact hI.i9),i11:=(by rw[Qb a 44 11 _ hs,Le (by decide)];exact hI.i11),b1:=(fun h=>hI.b1 h),b2:=(hI.b2),o5:=(hI.o5),a0:=(fun h=>by rw[Qb a 44 42 _ hs,Le (by decide)];exact hI.a0 h),a1:=(fun h=>by rw[Qb a 44 43 _ hs,Le (by decide)];exact hI.a1 h),a2:=(fun _=>by rw[Qb a 44 44 _ hs,Lm rfl]),a3:=(fun h=>by rw[Qb a 44 45 _ hs,Le (by decide)];exact hI.a3 h),a4:=(fun h=>by rw[Qb a 44 46 _ hs,Le (by decide)];exact hI.a4 h),a5:=(fun h=>by rw[Qb a 44 47 _ hs,Le (by decide)];exact hI.a5 h),a6:=(fun h=>by rw[Qb a 44 41 _ hs,Le (by decide)];exact hI.a6 h),a7:=(fun h=>by rw[Qb a 44 48 _ hs,Le (by decide)];exact hI.a7 h),a8:=(fun h=>by rw[Qb a 44 49 _ hs,Le (by decide)];exact hI.a8 h),a9:=(fun h=>hI.a9 h),a10:=(fun h=>by rw[Qb a 44 10 _ hs,Le (by decide)];exact hI.a10 h) }
theorem xf_3(d2:(af.toList.any fun e=>e.on == 2 && Region.binds .any e)=true):QN prog Q ops (XF w0 W q q5 q9 pv cb co cn cc x n d er o1 c1) 3 { dst:=some 45,op:=Op.fieldAddr 38 (Operand.tmp 44) 1,type:=ty,pos:=ps,after:=af,guard:=none } := by
 intro L a w K hI hj hcl hdep hK;have hs:45<a.tmps.size:=by rw[hI.sz];decide
 have xA:=hI.a2 (hdep 2 d2)
 show Oper.wp _ _ a w K _
 go_simp
 exact hK _ _ { sz:=(by simp[Act.put,hI.sz]),df:=hI.df,i2:=(by rw[Qb a 45 2 _ hs,Le (by decide)];exact hI.i2),i5:=(by rw[Qb a 45 5 _ hs,Le (by decide)];exact hI.i5),i9:=(by rw[Qb a 45 9 _ hs,Le (by decide)];exact hI.i9),i11:=(by rw[Qb a 45 11 _ hs,Le (by decide)];exact hI.i11),b1:=(fun h=>hI.b1 h),b2:=(hI.b2),o5:=(hI.o5),a0:=(fun h=>by rw[Qb a 45 42 _ hs,Le (by decide)];exact hI.a0 h),a1:=(fun h=>by rw[Qb a 45 43 _ hs,Le (by decide)];exact hI.a1 h),a2:=(fun h=>by rw[Qb a 45 44 _ hs,Le (by decide)];exact hI.a2 h),a3:=(fun _=>by rw[Qb a 45 45 _ hs,Lm rfl]),a4:=(fun h=>by rw[Qb a 45 46 _ hs,Le (by decide)];exact hI.a4 h),a5:=(fun h=>by rw[Qb a 45 47 _ hs,Le (by decide)];exact hI.a5 h),a6:=(fun h=>by rw[Qb a 45 41 _ hs,Le (by decide)];exact hI.a6 h),a7:=(fun h=>by rw[Qb a 45 48 _ hs,Le (by decide)];exact hI.a7 h),a8:=(fun h=>by rw[Qb a 45 49 _ hs,Le (by decide)];exact hI.a8 h),a9:=(fun h=>hI.a9 h),a10:=(fun h=>by rw[Qb a 45 10 _ hs,Le (by decide)];exact hI.a10 h) }
theorem xf_4(d3:(af.toList.any fun e=>e.on == 3 && Region.binds .any e)=true)(hds:dep ops 9 4=true)(hc : ∀w,Zb W w->w.cell? ⟨cb,co+1,none⟩=some (.string x)):QN prog Q ops (XF w0 W q q5 q9 pv cb co cn cc x n d er o1 c1) 4 { dst:=some 46,op:=Op.load 9 (Operand.tmp 45),type:=ty,pos:=ps,after:=af,guard:=none } := by
 intro L a w K hI hj hcl hdep hK;have hs:46<a.tmps.size:=by rw[hI.sz];decide
 have h8:=Uh hcl hj hds;have hB:=hI.b1 h8;have xB:=hI.a3 (hdep 3 d3);have xA:=hc w hB
 show Oper.wp _ _ a w K _
 go_simp
 exact hK _ _ { sz:=(by simp[Act.put,hI.sz]),df:=hI.df,i2:=(by rw[Qb a 46 2 _ hs,Le (by decide)];exact hI.i2),i5:=(by rw[Qb a 46 5 _ hs,Le (by decide)];exact hI.i5),i9:=(by rw[Qb a 46 9 _ hs,Le (by decide)];exact hI.i9),i11:=(by rw[Qb a 46 11 _ hs,Le (by decide)];exact hI.i11),b1:=(fun h=>hI.b1 h),b2:=(hI.b2),o5:=(hI.o5),a0:=(fun h=>by rw[Qb a 46 42 _ hs,Le (by decide)];exact hI.a0 h),a1:=(fun h=>by rw[Qb a 46 43 _ hs,Le (by decide)];exact hI.a1 h),a2:=(fun h=>by rw[Qb a 46 44 _ hs,Le (by decide)];exact hI.a2 h),a3:=(fun h=>by rw[Qb a 46 45 _ hs,Le (by decide)];exact hI.a3 h),a4:=(fun _=>by rw[Qb a 46 46 _ hs,Lm rfl]),a5:=(fun h=>by rw[Qb a 46 47 _ hs,Le (by decide)];exact hI.a5 h),a6:=(fun h=>by rw[Qb a 46 41 _ hs,Le (by decide)];exact hI.a6 h),a7:=(fun h=>by rw[Qb a 46 48 _ hs,Le (by decide)];exact hI.a7 h),a8:=(fun h=>by rw[Qb a 46 49 _ hs,Le (by decide)];exact hI.a8 h),a9:=(fun h=>hI.a9 h),a10:=(fun h=>by rw[Qb a 46 10 _ hs,Le (by decide)];exact hI.a10 h) }
theorem xf_5(d0:(af.toList.any fun e=>e.on == 0 && Region.binds .any e)=true)(d4:(af.toList.any fun e=>e.on == 4 && Region.binds .any e)=true)(hds:dep ops 9 5=true)(hR : ∀w,Zb W w->Zr 95 #[pv,.string x] w (.tuple #[.agg #[.int .u64 (n:Int),.string d],.int .i64 er])):QN prog Q ops (XF w0 W q q5 q9 pv cb co cn cc x n d er o1 c1) 5 { dst:=some 47,op:=Op.call { callee:=Callee.value (Operand.func 95),args:=#[Operand.tmp 42,Operand.tmp 46],argTypes:=#[55,9] },type:=ty,pos:=ps,after:=af,guard:=none } := by
 intro L a w K hI hj hcl hdep hK;have hs:47<a.tmps.size:=by rw[hI.sz];decide
 have h8:=Uh hcl hj hds;have hB:=hI.b1 h8;have xA:=hI.a0 (hdep 0 d0);have xB:=hI.a4 (hdep 4 d4)
 show Oper.wp _ _ a w K _
 go_simp
 refine(hR w hB).mono ?_
 rintro e w' ⟨rfl,hb⟩;exact hK _ _ { sz:=(by simp[Act.put,hI.sz]),df:=hI.df,i2:=(by rw[Qb a 47 2 _ hs,Le (by decide)];exact hI.i2),i5:=(by rw[Qb a 47 5 _ hs,Le (by decide)];exact hI.i5),i9:=(by rw[Qb a 47 9 _ hs,Le (by decide)];exact hI.i9),i11:=(by rw[Qb a 47 11 _ hs,Le (by decide)];exact hI.i11),b1:=(fun _=>Qa hB hb),b2:=(Qa hI.b2 hb),o5:=(hI.o5.next hb),a0:=(fun h=>by rw[Qb a 47 42 _ hs,Le (by decide)];exact hI.a0 h),a1:=(fun h=>by rw[Qb a 47 43 _ hs,Le (by decide)];exact hI.a1 h),a2:=(fun h=>by rw[Qb a 47 44 _ hs,Le (by decide)];exact hI.a2 h),a3:=(fun h=>by rw[Qb a 47 45 _ hs,Le (by decide)];exact hI.a3 h),a4:=(fun h=>by rw[Qb a 47 46 _ hs,Le (by decide)];exact hI.a4 h),a5:=(fun _=>by rw[Qb a 47 47 _ hs,Lm rfl]),a6:=(fun h=>by rw[Qb a 47 41 _ hs,Le (by decide)];exact hI.a6 h),a7:=(fun h=>by rw[Qb a 47 48 _ hs,Le (by decide)];exact hI.a7 h),a8:=(fun h=>by rw[Qb a 47 49 _ hs,Le (by decide)];exact hI.a8 h),a9:=(fun h=>by rw[show(if (9:Nat)=5 then true else L 9)=L 9 from rfl,h8] at h;cases h),a10:=(fun h=>by rw[Qb a 47 10 _ hs,Le (by decide)];exact hI.a10 h) }
theorem xf_6(d5:(af.toList.any fun e=>e.on == 5 && Region.binds .any e)=true):QN prog Q ops (XF w0 W q q5 q9 pv cb co cn cc x n d er o1 c1) 6 { dst:=some 41,op:=Op.move (Operand.tmp 47),type:=ty,pos:=ps,after:=af,guard:=none } := by
 intro L a w K hI hj hcl hdep hK;have hs:41<a.tmps.size:=by rw[hI.sz];decide
 have xA:=hI.a5 (hdep 5 d5)
 show Oper.wp _ _ a w K _
 go_simp
 exact hK _ _ { sz:=(by simp[Act.put,hI.sz]),df:=hI.df,i2:=(by rw[Qb a 41 2 _ hs,Le (by decide)];exact hI.i2),i5:=(by rw[Qb a 41 5 _ hs,Le (by decide)];exact hI.i5),i9:=(by rw[Qb a 41 9 _ hs,Le (by decide)];exact hI.i9),i11:=(by rw[Qb a 41 11 _ hs,Le (by decide)];exact hI.i11),b1:=(fun h=>hI.b1 h),b2:=(hI.b2),o5:=(hI.o5),a0:=(fun h=>by rw[Qb a 41 42 _ hs,Le (by decide)];exact hI.a0 h),a1:=(fun h=>by rw[Qb a 41 43 _ hs,Le (by decide)];exact hI.a1 h),a2:=(fun h=>by rw[Qb a 41 44 _ hs,Le (by decide)];exact hI.a2 h),a3:=(fun h=>by rw[Qb a 41 45 _ hs,Le (by decide)];exact hI.a3 h),a4:=(fun h=>by rw[Qb a 41 46 _ hs,Le (by decide)];exact hI.a4 h),a5:=(fun h=>by rw[Qb a 41 47 _ hs,Le (by decide)];exact hI.a5 h),a6:=(fun _=>by rw[Qb a 41 41 _ hs,Lm rfl]),a7:=(fun h=>by rw[Qb a 41 48 _ hs,Le (by decide)];exact hI.a7 h),a8:=(fun h=>by rw[Qb a 41 49 _ hs,Le (by decide)];exact hI.a8 h),a9:=(fun h=>hI.a9 h),a10:=(fun h=>by rw[Qb a 41 10 _ hs,Le (by decide)];exact hI.a10 h) }
theorem xf_7(d6:(af.toList.any fun e=>e.on == 6 && Region.binds .any e)=true):QN prog Q ops (XF w0 W q q5 q9 pv cb co cn cc x n d er o1 c1) 7 { dst:=some 48,op:=Op.extract (Operand.tmp 41) 0,type:=ty,pos:=ps,after:=af,guard:=none } := by
 intro L a w K hI hj hcl hdep hK;have hs:48<a.tmps.size:=by rw[hI.sz];decide
 have xA:=hI.a6 (hdep 6 d6)
 show Oper.wp _ _ a w K _
 go_simp
 exact hK _ _ { sz:=(by simp[Act.put,hI.sz]),df:=hI.df,i2:=(by rw[Qb a 48 2 _ hs,Le (by decide)];exact hI.i2),i5:=(by rw[Qb a 48 5 _ hs,Le (by decide)];exact hI.i5),i9:=(by rw[Qb a 48 9 _ hs,Le (by decide)];exact hI.i9),i11:=(by rw[Qb a 48 11 _ hs,Le (by decide)];exact hI.i11),b1:=(fun h=>hI.b1 h),b2:=(hI.b2),o5:=(hI.o5),a0:=(fun h=>by rw[Qb a 48 42 _ hs,Le (by decide)];exact hI.a0 h),a1:=(fun h=>by rw[Qb a 48 43 _ hs,Le (by decide)];exact hI.a1 h),a2:=(fun h=>by rw[Qb a 48 44 _ hs,Le (by decide)];exact hI.a2 h),a3:=(fun h=>by rw[Qb a 48 45 _ hs,Le (by decide)];exact hI.a3 h),a4:=(fun h=>by rw[Qb a 48 46 _ hs,Le (by decide)];exact hI.a4 h),a5:=(fun h=>by rw[Qb a 48 47 _ hs,Le (by decide)];exact hI.a5 h),a6:=(fun h=>by rw[Qb a 48 41 _ hs,Le (by decide)];exact hI.a6 h),a7:=(fun _=>by rw[Qb a 48 48 _ hs,Lm rfl]),a8:=(fun h=>by rw[Qb a 48 49 _ hs,Le (by decide)];exact hI.a8 h),a9:=(fun h=>hI.a9 h),a10:=(fun h=>by rw[Qb a 48 10 _ hs,Le (by decide)];exact hI.a10 h) }
theorem xf_8(d6:(af.toList.any fun e=>e.on == 6 && Region.binds .any e)=true):QN prog Q ops (XF w0 W q q5 q9 pv cb co cn cc x n d er o1 c1) 8 { dst:=some 49,op:=Op.extract (Operand.tmp 41) 1,type:=ty,pos:=ps,after:=af,guard:=none } := by
 intro L a w K hI hj hcl hdep hK;have hs:49<a.tmps.size:=by rw[hI.sz];decide
 have xA:=hI.a6 (hdep 6 d6)
 show Oper.wp _ _ a w K _
 go_simp
 exact hK _ _ { sz:=(by simp[Act.put,hI.sz]),df:=hI.df,i2:=(by rw[Qb a 49 2 _ hs,Le (by decide)];exact hI.i2),i5:=(by rw[Qb a 49 5 _ hs,Le (by decide)];exact hI.i5),i9:=(by rw[Qb a 49 9 _ hs,Le (by decide)];exact hI.i9),i11:=(by rw[Qb a 49 11 _ hs,Le (by decide)];exact hI.i11),b1:=(fun h=>hI.b1 h),b2:=(hI.b2),o5:=(hI.o5),a0:=(fun h=>by rw[Qb a 49 42 _ hs,Le (by decide)];exact hI.a0 h),a1:=(fun h=>by rw[Qb a 49 43 _ hs,Le (by decide)];exact hI.a1 h),a2:=(fun h=>by rw[Qb a 49 44 _ hs,Le (by decide)];exact hI.a2 h),a3:=(fun h=>by rw[Qb a 49 45 _ hs,Le (by decide)];exact hI.a3 h),a4:=(fun h=>by rw[Qb a 49 46 _ hs,Le (by decide)];exact hI.a4 h),a5:=(fun h=>by rw[Qb a 49 47 _ hs,Le (by decide)];exact hI.a5 h),a6:=(fun h=>by rw[Qb a 49 41 _ hs,Le (by decide)];exact hI.a6 h),a7:=(fun h=>by rw[Qb a 49 48 _ hs,Le (by decide)];exact hI.a7 h),a8:=(fun _=>by rw[Qb a 49 49 _ hs,Lm rfl]),a9:=(fun h=>hI.a9 h),a10:=(fun h=>by rw[Qb a 49 10 _ hs,Le (by decide)];exact hI.a10 h) }
theorem xf_9(d7:(af.toList.any fun e=>e.on == 7 && Region.binds .any e)=true)(hq : ∀w,Zb W w -> ∃n9 d9,Rh w q n9 d9)(hq0:w0.heap.size<=q)(hq5:q5≠q):QN prog Q ops (XF w0 W q q5 q9 pv cb co cn cc x n d er o1 c1) 9 { dst:=none,op:=Op.store 30 (Operand.tmp 11) (Operand.tmp 48),type:=ty,pos:=ps,after:=af,guard:=none } := by
 intro L a w K hI hj hcl hdep hK;have xC:=hI.i11;have xD:=hI.a7 (hdep 7 d7);have hB:=hI.b1 hj;obtain⟨n9,d9,g4⟩ : ∃n9 d9,Rh w q n9 d9:=hq w hB;obtain⟨k0,k1⟩:=g4.cells;have fz:=g4.fz;have xA:=O1 w q n d;have xB:=g4.put n d;unfold putR at xA xB
 show Oper.wp _ _ a w K _
 go_simp
 exact hK undef _ { sz:=hI.sz,df:=hI.df,i2:=(by exact hI.i2),i5:=(by exact hI.i5),i9:=(by exact hI.i9),i11:=(by exact hI.i11),b1:=(fun h=>by cases h),b2:=(hI.b2.trans (xA.below (by rintro b rfl;exact hq0))),o5:=(hI.o5.same (xA.block _ (by show ¬_=_;exact hq5))),a0:=(fun h=>by exact hI.a0 h),a1:=(fun h=>by exact hI.a1 h),a2:=(fun h=>by exact hI.a2 h),a3:=(fun h=>by exact hI.a3 h),a4:=(fun h=>by exact hI.a4 h),a5:=(fun h=>by exact hI.a5 h),a6:=(fun h=>by exact hI.a6 h),a7:=(fun h=>by exact hI.a7 h),a8:=(fun h=>by exact hI.a8 h),a9:=(fun _=>xB),a10:=(fun h=>by exact hI.a10 h) }
theorem Qou(d8:(af.toList.any fun e=>e.on == 8 && Region.binds .any e)=true):QN prog Q ops (XF w0 W q q5 q9 pv cb co cn cc x n d er o1 c1) 10 { dst:=some 10,op:=Op.assign (Operand.tmp 49),type:=ty,pos:=ps,after:=af,guard:=none } := by
 intro L a w K hI hj hcl hdep hK;have hs:10<a.tmps.size:=by rw[hI.sz];decide
 have xA:=hI.a8 (hdep 8 d8)
 show Oper.wp _ _ a w K _
 go_simp
 exact hK _ _ { sz:=(by simp[Act.put,hI.sz]),df:=hI.df,i2:=(by rw[Qb a 10 2 _ hs,Le (by decide)];exact hI.i2),i5:=(by rw[Qb a 10 5 _ hs,Le (by decide)];exact hI.i5),i9:=(by rw[Qb a 10 9 _ hs,Le (by decide)];exact hI.i9),i11:=(by rw[Qb a 10 11 _ hs,Le (by decide)];exact hI.i11),b1:=(fun h=>hI.b1 h),b2:=(hI.b2),o5:=(hI.o5),a0:=(fun h=>by rw[Qb a 10 42 _ hs,Le (by decide)];exact hI.a0 h),a1:=(fun h=>by rw[Qb a 10 43 _ hs,Le (by decide)];exact hI.a1 h),a2:=(fun h=>by rw[Qb a 10 44 _ hs,Le (by decide)];exact hI.a2 h),a3:=(fun h=>by rw[Qb a 10 45 _ hs,Le (by decide)];exact hI.a3 h),a4:=(fun h=>by rw[Qb a 10 46 _ hs,Le (by decide)];exact hI.a4 h),a5:=(fun h=>by rw[Qb a 10 47 _ hs,Le (by decide)];exact hI.a5 h),a6:=(fun h=>by rw[Qb a 10 41 _ hs,Le (by decide)];exact hI.a6 h),a7:=(fun h=>by rw[Qb a 10 48 _ hs,Le (by decide)];exact hI.a7 h),a8:=(fun h=>by rw[Qb a 10 49 _ hs,Le (by decide)];exact hI.a8 h),a9:=(fun h=>hI.a9 h),a10:=(fun _=>by rw[Qb a 10 10 _ hs,Lm rfl]) }
end
structure YF(w0 W:World)(q q5 q9:Nat)(pv:Value)(ca:OA)(cn cc:Nat)(X:LB)(n:Nat)(d:BA)(er:Int)(o1:Nat)(c1:BA)(L:Nat->Bool)(a:Act)(w:World):Prop where
 sz:a.tmps.size=64
 df:a.defers=[]
 i2:a.tmps.getD 2 undef = .slice ca cn cc
 i5:a.tmps.getD 5 undef = .pointer (some ⟨q5,0,none⟩)
 i9:a.tmps.getD 9 undef = .pointer (some ⟨q9,0,none⟩)
 i11:a.tmps.getD 11 undef = .pointer (some ⟨q,0,none⟩)
 b1:L 7=false->Zb W w
 b2:Zb w0 w
 o5:Rh w q5 o1 c1
 a0:L 0=true->a.tmps.getD 51 undef=pv
 a1:L 1=true->a.tmps.getD 52 undef = .slice ca cn cc
 a2:L 2=true->L 3=false -> ∃ao m c,a.tmps.getD 53 undef = .slice ao m c∧Qk w W.heap.size (.slice ao m c) X
 a3:L 3=true->a.tmps.getD 54 undef = .tuple #[.agg #[.int .u64 (n:Int),.string d],.int .i64 er]
 a4:L 4=true->a.tmps.getD 50 undef = .tuple #[.agg #[.int .u64 (n:Int),.string d],.int .i64 er]
 a5:L 5=true->a.tmps.getD 55 undef = .agg #[.int .u64 (n:Int),.string d]
 a6:L 6=true->a.tmps.getD 56 undef = .int .i64 er
 a7:L 7=true->Rh w q n d
 a8:L 8=true->a.tmps.getD 10 undef = .int .i64 er
section
variable {w0 W:World} {q q5 q9:Nat} {pv:Value} {ca:OA} {cn cc:Nat} {X:LB} {n:Nat} {d:BA} {er:Int} {o1:Nat} {c1:BA} {Q:Exit->Act->World->Prop} {ops:List Oper} {ty:TypeId} {ps:String} {af:Array Edge}
theorem yf_0(hds:dep ops 7 0=true)(h6 : ∀w,Zb W w -> ∃v0 v1 v2 v3 v4 v5,pv = .agg #[v0,v1,v2,v3,v4,v5]∧Six w q9 v0 v1 v2 v3 v4 v5):QN prog Q ops (YF w0 W q q5 q9 pv ca cn cc X n d er o1 c1) 0 { dst:=some 51,op:=Op.load 55 (Operand.tmp 9),type:=ty,pos:=ps,after:=af,guard:=none } := by
 intro L a w K hI hj hcl hdep hK;have hs:51<a.tmps.size:=by rw[hI.sz];decide
 have h8:=Uh hcl hj hds;have hB:=hI.b1 h8;have t9:=hI.i9;obtain⟨v0,v1,v2,v3,v4,v5,rfl,hx⟩:=h6 w hB;obtain⟨m0,m1,m2,m3,m4,m5⟩:=hx.cells
 show Oper.wp _ _ a w K _
 go_simp
 exact hK _ _ { sz:=(by simp[Act.put,hI.sz]),df:=hI.df,i2:=(by rw[Qb a 51 2 _ hs,Le (by decide)];exact hI.i2),i5:=(by rw[Qb a 51 5 _ hs,Le (by decide)];exact hI.i5),i9:=(by rw[Qb a 51 9 _ hs,Le (by decide)];exact hI.i9),i11:=(by rw[Qb a 51 11 _ hs,Le (by decide)];exact hI.i11),b1:=(fun h=>hI.b1 h),b2:=(hI.b2),o5:=(hI.o5),a0:=(fun _=>by rw[Qb a 51 51 _ hs,Lm rfl]),a1:=(fun h=>by rw[Qb a 51 52 _ hs,Le (by decide)];exact hI.a1 h),a2:=(fun h h3=>by rw[Qb a 51 53 _ hs,Le (by decide)];exact hI.a2 h h3),a3:=(fun h=>by rw[Qb a 51 54 _ hs,Le (by decide)];exact hI.a3 h),a4:=(fun h=>by rw[Qb a 51 50 _ hs,Le (by decide)];exact hI.a4 h),a5:=(fun h=>by rw[Qb a 51 55 _ hs,Le (by decide)];exact hI.a5 h),a6:=(fun h=>by rw[Qb a 51 56 _ hs,Le (by decide)];exact hI.a6 h),a7:=(fun h=>hI.a7 h),a8:=(fun h=>by rw[Qb a 51 10 _ hs,Le (by decide)];exact hI.a8 h) }
theorem yf_1  : QN prog Q ops (YF w0 W q q5 q9 pv ca cn cc X n d er o1 c1) 1 { dst:=some 52,op:=Op.move (Operand.tmp 2),type:=ty,pos:=ps,after:=af,guard:=none } := by
 intro L a w K hI hj hcl hdep hK;have hs:52<a.tmps.size:=by rw[hI.sz];decide
 have t2:=hI.i2
 show Oper.wp _ _ a w K _
 go_simp
 exact hK _ _ { sz:=(by simp[Act.put,hI.sz]),df:=hI.df,i2:=(by rw[Qb a 52 2 _ hs,Le (by decide)];exact hI.i2),i5:=(by rw[Qb a 52 5 _ hs,Le (by decide)];exact hI.i5),i9:=(by rw[Qb a 52 9 _ hs,Le (by decide)];exact hI.i9),i11:=(by rw[Qb a 52 11 _ hs,Le (by decide)];exact hI.i11),b1:=(fun h=>hI.b1 h),b2:=(hI.b2),o5:=(hI.o5),a0:=(fun h=>by rw[Qb a 52 51 _ hs,Le (by decide)];exact hI.a0 h),a1:=(fun _=>by rw[Qb a 52 52 _ hs,Lm rfl]),a2:=(fun h h3=>by rw[Qb a 52 53 _ hs,Le (by decide)];exact hI.a2 h h3),a3:=(fun h=>by rw[Qb a 52 54 _ hs,Le (by decide)];exact hI.a3 h),a4:=(fun h=>by rw[Qb a 52 50 _ hs,Le (by decide)];exact hI.a4 h),a5:=(fun h=>by rw[Qb a 52 55 _ hs,Le (by decide)];exact hI.a5 h),a6:=(fun h=>by rw[Qb a 52 56 _ hs,Le (by decide)];exact hI.a6 h),a7:=(fun h=>hI.a7 h),a8:=(fun h=>by rw[Qb a 52 10 _ hs,Le (by decide)];exact hI.a8 h) }
theorem yf_2(d1:(af.toList.any fun e=>e.on == 1 && Region.binds .any e)=true)(hds:dep ops 7 2=true)(hV : ∀w,Zb W w->Ro 49 #[.slice ca cn cc] w X):QN prog Q ops (YF w0 W q q5 q9 pv ca cn cc X n d er o1 c1) 2 { dst:=some 53,op:=Op.call { callee:=Callee.value (Operand.func 49),args:=#[Operand.tmp 52],argTypes:=#[23] },type:=ty,pos:=ps,after:=af,guard:=none } := by
 intro L a w K hI hj hcl hdep hK;have hs:53<a.tmps.size:=by rw[hI.sz];decide
 have h8:=Uh hcl hj hds;have hB:=hI.b1 h8;have xA:=hI.a1 (hdep 1 d1)
 show Oper.wp _ _ a w K _
 go_simp
 refine(hV w hB).mono ?_
 rintro e w' ⟨v,rfl,ho,hb⟩;obtain⟨ao,m,c,rfl⟩:=Cv.Qj ho;exact hK _ _ { sz:=(by simp[Act.put,hI.sz]),df:=hI.df,i2:=(by rw[Qb a 53 2 _ hs,Le (by decide)];exact hI.i2),i5:=(by rw[Qb a 53 5 _ hs,Le (by decide)];exact hI.i5),i9:=(by rw[Qb a 53 9 _ hs,Le (by decide)];exact hI.i9),i11:=(by rw[Qb a 53 11 _ hs,Le (by decide)];exact hI.i11),b1:=(fun _=>Qa hB hb),b2:=(Qa hI.b2 hb),o5:=(hI.o5.next hb),a0:=(fun h=>by rw[Qb a 53 51 _ hs,Le (by decide)];exact hI.a0 h),a1:=(fun h=>by rw[Qb a 53 52 _ hs,Le (by decide)];exact hI.a1 h),a2:=(fun _ _=>⟨ao,m,c,by rw[Qb a 53 53 _ hs,Lm rfl],OW ho hB.size⟩),a3:=(fun h=>by rw[Qb a 53 54 _ hs,Le (by decide)];exact hI.a3 h),a4:=(fun h=>by rw[Qb a 53 50 _ hs,Le (by decide)];exact hI.a4 h),a5:=(fun h=>by rw[Qb a 53 55 _ hs,Le (by decide)];exact hI.a5 h),a6:=(fun h=>by rw[Qb a 53 56 _ hs,Le (by decide)];exact hI.a6 h),a7:=(fun h=>by rw[show(if (7:Nat)=2 then true else L 7)=L 7 from rfl,h8] at h;cases h),a8:=(fun h=>by rw[Qb a 53 10 _ hs,Le (by decide)];exact hI.a8 h) }
theorem yf_3(d0:(af.toList.any fun e=>e.on == 0 && Region.binds .any e)=true)(d2:(af.toList.any fun e=>e.on == 2 && Region.binds .any e)=true)(hds:dep ops 7 3=true)(hR : ∀w ao m c,Zb W w->Qk w W.heap.size (.slice ao m c) X->Zr 96 #[pv,.slice ao m c] w (.tuple #[.agg #[.int .u64 (n:Int),.string d],.int .i64 er])):QN prog Q ops (YF w0 W q q5 q9 pv ca cn cc X n d er o1 c1) 3 { dst:=some 54,op:=Op.call { callee:=Callee.value (Operand.func 96),args:=#[Operand.tmp 51,Operand.tmp 53],argTypes:=#[55,22] },type:=ty,pos:=ps,after:=af,guard:=none } := by
 intro L a w K hI hj hcl hdep hK;have hs:54<a.tmps.size:=by rw[hI.sz];decide
 have h8:=Uh hcl hj hds;have hB:=hI.b1 h8;have xA:=hI.a0 (hdep 0 d0);obtain⟨ao,m,c,xB,ho⟩:=hI.a2 (hdep 2 d2) hj
 show Oper.wp _ _ a w K _
 go_simp
 refine(hR w ao m c hB ho).mono ?_
 rintro e w' ⟨rfl,hb⟩;exact hK _ _ { sz:=(by simp[Act.put,hI.sz]),df:=hI.df,i2:=(by rw[Qb a 54 2 _ hs,Le (by decide)];exact hI.i2),i5:=(by rw[Qb a 54 5 _ hs,Le (by decide)];exact hI.i5),i9:=(by rw[Qb a 54 9 _ hs,Le (by decide)];exact hI.i9),i11:=(by rw[Qb a 54 11 _ hs,Le (by decide)];exact hI.i11),b1:=(fun _=>Qa hB hb),b2:=(Qa hI.b2 hb),o5:=(hI.o5.next hb),a0:=(fun h=>by rw[Qb a 54 51 _ hs,Le (by decide)];exact hI.a0 h),a1:=(fun h=>by rw[Qb a 54 52 _ hs,Le (by decide)];exact hI.a1 h),a2:=(fun _ h=>by cases h),a3:=(fun _=>by rw[Qb a 54 54 _ hs,Lm rfl]),a4:=(fun h=>by rw[Qb a 54 50 _ hs,Le (by decide)];exact hI.a4 h),a5:=(fun h=>by rw[Qb a 54 55 _ hs,Le (by decide)];exact hI.a5 h),a6:=(fun h=>by rw[Qb a 54 56 _ hs,Le (by decide)];exact hI.a6 h),a7:=(fun h=>by rw[show(if (7:Nat)=3 then true else L 7)=L 7 from rfl,h8] at h;cases h),a8:=(fun h=>by rw[Qb a 54 10 _ hs,Le (by decide)];exact hI.a8 h) }
theorem yf_4(d3:(af.toList.any fun e=>e.on == 3 && Region.binds .any e)=true):QN prog Q ops (YF w0 W q q5 q9 pv ca cn cc X n d er o1 c1) 4 { dst:=some 50,op:=Op.move (Operand.tmp 54),type:=ty,pos:=ps,after:=af,guard:=none } := by
 intro L a w K hI hj hcl hdep hK;have hs:50<a.tmps.size:=by rw[hI.sz];decide
 have xA:=hI.a3 (hdep 3 d3)
 show Oper.wp _ _ a w K _
 go_simp
 exact hK _ _ { sz:=(by simp[Act.put,hI.sz]),df:=hI.df,i2:=(by rw[Qb a 50 2 _ hs,Le (by decide)];exact hI.i2),i5:=(by rw[Qb a 50 5 _ hs,Le (by decide)];exact hI.i5),i9:=(by rw[Qb a 50 9 _ hs,Le (by decide)];exact hI.i9),i11:=(by rw[Qb a 50 11 _ hs,Le (by decide)];exact hI.i11),b1:=(fun h=>hI.b1 h),b2:=(hI.b2),o5:=(hI.o5),a0:=(fun h=>by rw[Qb a 50 51 _ hs,Le (by decide)];exact hI.a0 h),a1:=(fun h=>by rw[Qb a 50 52 _ hs,Le (by decide)];exact hI.a1 h),a2:=(fun h h3=>by rw[Qb a 50 53 _ hs,Le (by decide)];exact hI.a2 h h3),a3:=(fun h=>by rw[Qb a 50 54 _ hs,Le (by decide)];exact hI.a3 h),a4:=(fun _=>by rw[Qb a 50 50 _ hs,Lm rfl]),a5:=(fun h=>by rw[Qb a 50 55 _ hs,Le (by decide)];exact hI.a5 h),a6:=(fun h=>by rw[Qb a 50 56 _ hs,Le (by decide)];exact hI.a6 h),a7:=(fun h=>hI.a7 h),a8:=(fun h=>by rw[Qb a 50 10 _ hs,Le (by decide)];exact hI.a8 h) }
theorem yf_5(d4:(af.toList.any fun e=>e.on == 4 && Region.binds .any e)=true):QN prog Q ops (YF w0 W q q5 q9 pv ca cn cc X n d er o1 c1) 5 { dst:=some 55,op:=Op.extract (Operand.tmp 50) 0,type:=ty,pos:=ps,after:=af,guard:=none } := by
 intro L a w K hI hj hcl hdep hK;have hs:55<a.tmps.size:=by rw[hI.sz];decide
 have xA:=hI.a4 (hdep 4 d4)
 show Oper.wp _ _ a w K _
 go_simp
 exact hK _ _ { sz:=(by simp[Act.put,hI.sz]),df:=hI.df,i2:=(by rw[Qb a 55 2 _ hs,Le (by decide)];exact hI.i2),i5:=(by rw[Qb a 55 5 _ hs,Le (by decide)];exact hI.i5),i9:=(by rw[Qb a 55 9 _ hs,Le (by decide)];exact hI.i9),i11:=(by rw[Qb a 55 11 _ hs,Le (by decide)];exact hI.i11),b1:=(fun h=>hI.b1 h),b2:=(hI.b2),o5:=(hI.o5),a0:=(fun h=>by rw[Qb a 55 51 _ hs,Le (by decide)];exact hI.a0 h),a1:=(fun h=>by rw[Qb a 55 52 _ hs,Le (by decide)];exact hI.a1 h),a2:=(fun h h3=>by rw[Qb a 55 53 _ hs,Le (by decide)];exact hI.a2 h h3),a3:=(fun h=>by rw[Qb a 55 54 _ hs,Le (by decide)];exact hI.a3 h),a4:=(fun h=>by rw[Qb a 55 50 _ hs,Le (by decide)];exact hI.a4 h),a5:=(fun _=>by rw[Qb a 55 55 _ hs,Lm rfl]),a6:=(fun h=>by rw[Qb a 55 56 _ hs,Le (by decide)];exact hI.a6 h),a7:=(fun h=>hI.a7 h),a8:=(fun h=>by rw[Qb a 55 10 _ hs,Le (by decide)];exact hI.a8 h) }
theorem yf_6(d4:(af.toList.any fun e=>e.on == 4 && Region.binds .any e)=true):QN prog Q ops (YF w0 W q q5 q9 pv ca cn cc X n d er o1 c1) 6 { dst:=some 56,op:=Op.extract (Operand.tmp 50) 1,type:=ty,pos:=ps,after:=af,guard:=none } := by
 intro L a w K hI hj hcl hdep hK;have hs:56<a.tmps.size:=by rw[hI.sz];decide
 have xA:=hI.a4 (hdep 4 d4)
 show Oper.wp _ _ a w K _
 go_simp
 exact hK _ _ { sz:=(by simp[Act.put,hI.sz]),df:=hI.df,i2:=(by rw[Qb a 56 2 _ hs,Le (by decide)];exact hI.i2),i5:=(by rw[Qb a 56 5 _ hs,Le (by decide)];exact hI.i5),i9:=(by rw[Qb a 56 9 _ hs,Le (by decide)];exact hI.i9),i11:=(by rw[Qb a 56 11 _ hs,Le (by decide)];exact hI.i11),b1:=(fun h=>hI.b1 h),b2:=(hI.b2),o5:=(hI.o5),a0:=(fun h=>by rw[Qb a 56 51 _ hs,Le (by decide)];exact hI.a0 h),a1:=(fun h=>by rw[Qb a 56 52 _ hs,Le (by decide)];exact hI.a1 h),a2:=(fun h h3=>by rw[Qb a 56 53 _ hs,Le (by decide)];exact hI.a2 h h3),a3:=(fun h=>by rw[Qb a 56 54 _ hs,Le (by decide)];exact hI.a3 h),a4:=(fun h=>by rw[Qb a 56 50 _ hs,Le (by decide)];exact hI.a4 h),a5:=(fun h=>by rw[Qb a 56 55 _ hs,Le (by decide)];exact hI.a5 h),a6:=(fun _=>by rw[Qb a 56 56 _ hs,Lm rfl]),a7:=(fun h=>hI.a7 h),a8:=(fun h=>by rw[Qb a 56 10 _ hs,Le (by decide)];exact hI.a8 h) }
theorem yf_7(d5:(af.toList.any fun e=>e.on == 5 && Region.binds .any e)=true)(d3:(af.toList.any fun e=>e.on == 3 && Region.binds .any e)=true)(hq : ∀w,Zb W w -> ∃n9 d9,Rh w q n9 d9)(hq0:w0.heap.size<=q)(hq5:q5≠q):QN prog Q ops (YF w0 W q q5 q9 pv ca cn cc X n d er o1 c1) 7 { dst:=none,op:=Op.store 30 (Operand.tmp 11) (Operand.tmp 55),type:=ty,pos:=ps,after:=af,guard:=none } := by
 intro L a w K hI hj hcl hdep hK;have xD:=hI.i11;have xE:=hI.a5 (hdep 5 d5);have hB:=hI.b1 hj;have h3:=hdep 3 d3;obtain⟨n9,d9,g4⟩ : ∃n9 d9,Rh w q n9 d9:=hq w hB;obtain⟨k0,k1⟩:=g4.cells;have fz:=g4.fz;have xA:=O1 w q n d;have xC:=g4.put n d;unfold putR at xA xC
 show Oper.wp _ _ a w K _
 go_simp
 exact hK undef _ { sz:=hI.sz,df:=hI.df,i2:=(by exact hI.i2),i5:=(by exact hI.i5),i9:=(by exact hI.i9),i11:=(by exact hI.i11),b1:=(fun h=>by cases h),b2:=(hI.b2.trans (xA.below (by rintro b rfl;exact hq0))),o5:=(hI.o5.same (xA.block _ (by show ¬_=_;exact hq5))),a0:=(fun h=>by exact hI.a0 h),a1:=(fun h=>by exact hI.a1 h),a2:=(fun _ h=>by have xB:L 3=false:=h;rw[h3] at xB;cases xB),a3:=(fun h=>by exact hI.a3 h),a4:=(fun h=>by exact hI.a4 h),a5:=(fun h=>by exact hI.a5 h),a6:=(fun h=>by exact hI.a6 h),a7:=(fun _=>xC),a8:=(fun h=>by exact hI.a8 h) }
theorem yf_8(d6:(af.toList.any fun e=>e.on == 6 && Region.binds .any e)=true):QN prog Q ops (YF w0 W q q5 q9 pv ca cn cc X n d er o1 c1) 8 { dst:=some 10,op:=Op.assign (Operand.tmp 56),type:=ty,pos:=ps,after:=af,guard:=none } := by
 intro L a w K hI hj hcl hdep hK;have hs:10<a.tmps.size:=by rw[hI.sz];decide
 have xA:=hI.a6 (hdep 6 d6)
 show Oper.wp _ _ a w K _
 go_simp
 exact hK _ _ { sz:=(by simp[Act.put,hI.sz]),df:=hI.df,i2:=(by rw[Qb a 10 2 _ hs,Le (by decide)];exact hI.i2),i5:=(by rw[Qb a 10 5 _ hs,Le (by decide)];exact hI.i5),i9:=(by rw[Qb a 10 9 _ hs,Le (by decide)];exact hI.i9),i11:=(by rw[Qb a 10 11 _ hs,Le (by decide)];exact hI.i11),b1:=(fun h=>hI.b1 h),b2:=(hI.b2),o5:=(hI.o5),a0:=(fun h=>by rw[Qb a 10 51 _ hs,Le (by decide)];exact hI.a0 h),a1:=(fun h=>by rw[Qb a 10 52 _ hs,Le (by decide)];exact hI.a1 h),a2:=(fun h h3=>by rw[Qb a 10 53 _ hs,Le (by decide)];exact hI.a2 h h3),a3:=(fun h=>by rw[Qb a 10 54 _ hs,Le (by decide)];exact hI.a3 h),a4:=(fun h=>by rw[Qb a 10 50 _ hs,Le (by decide)];exact hI.a4 h),a5:=(fun h=>by rw[Qb a 10 55 _ hs,Le (by decide)];exact hI.a5 h),a6:=(fun h=>by rw[Qb a 10 56 _ hs,Le (by decide)];exact hI.a6 h),a7:=(fun h=>hI.a7 h),a8:=(fun _=>by rw[Qb a 10 10 _ hs,Lm rfl]) }
end
theorem QaM(w:World)(kd k:Int)(h1:kd≠1)(old size:Nat)(sa:OA)(ns sc:Nat)(da:OA)(dn dc:Nat)(xa:OA)(xn xc:Nat)(n:Nat)(d:BA)(er:Int)
  (hR : ∀W,Zb w W->Zr 64 #[vP kd k old size (.slice sa ns sc) (.slice da dn dc),.slice xa xn xc] W (.tuple #[.agg #[.int .u64 (n:Int),.string d],.int .i64 er])) :
  Zr 29 #[vP kd k old size (.slice sa ns sc) (.slice da dn dc),.slice xa xn xc] w (.tuple #[.agg #[.int .u64 (n:Int),.string d],.int .i64 er]):=by
 obtain⟨W0,xB⟩:=Ze ((w.alloc (.cells #[.int .i64 kd,.int .i64 k,.int .u64 (old:Int),.int .u64 (size:Int),.slice sa ns sc,.slice da dn dc] 55)).alloc (.cells #[.int .u64 0,.string ⟨#[]⟩] 30));obtain⟨xC,h6,xD,xG⟩:=QO xB;obtain⟨m0,m1,m2,m3,m4,m5⟩:=h6.cells;have xH:(kd == 1)=false:=by simpa using h1
 have HC:=(hR W0 xC);have xA:Hid (Rt W0 (w.heap.size+1) 0 ⟨#[]⟩∧Zb w W0∧w.heap.size+1<W0.heap.size):=⟨xD,xC,by omega⟩
 clear hR xC h6 xD xG;unfold vP at HC;unfold vP
 go_enter func29,ntmps29
 go_upto_region 1 with (fail)
 try rw[xB]
 clear xB
 go_wp2_with (go_at_call 64;with_reducible refine HC.mono ?_;rintro e w1 ⟨rfl,xE⟩;have hR:=xA.out.1.below xE xA.out.2.2;have k0:=hR.c0;have k1:=hR.c1;have f0:=hR.f0;have f1:=hR.f1)
 obtain⟨s0,s1,xF⟩:=Yr hR (n:Int) d;refine Lp (v := .tuple #[.agg #[.int .u64 (n:Int),.string d],.int .i64 er]) (by simp[results,results29,go_sem,s0,s1]) rfl ⟨rfl,?_⟩
 exact(Qa xA.out.2.1 xE).trans (xF.below (by rintro b rfl;omega))
end Go.Proofs.YtdocjikpcbmcgaaGreatDoor
