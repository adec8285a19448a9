/- Own work. -/
import Derived.Test.YtdocjikpcbmcgaaGreatDoorQn14
set_option maxRecDepth 100000
set_option maxHeartbeats 4000000
namespace Go.Proofs.YtdocjikpcbmcgaaGreatDoor
open Go.RowKit
attribute [local go_sem ↓] Go.wp_at_zero Go.wp_at_succ
open Go.Proofs.Tryz
structure LF(w0 W:World)(q q2:Nat)(pv:Value)(xb xo xn xc:Nat)(x:BA)(n:Nat)(d:BA)(er:Int)(L:Nat->Bool)(a:Act)(w:World):Prop where
 sz:a.tmps.size=21
 df:a.defers=[]
 i1:a.tmps.getD 1 undef = .slice (some ⟨xb,xo,none⟩) xn xc
 i2:a.tmps.getD 2 undef = .pointer (some ⟨q2,0,none⟩)
 i4:a.tmps.getD 4 undef = .pointer (some ⟨q,0,none⟩)
 b1:L 7=false->Zb W w
 b2:Zb w0 w
 a0:L 0=true->a.tmps.getD 9 undef=pv
 a1:L 1=true->a.tmps.getD 10 undef = .slice (some ⟨xb,xo,none⟩) xn xc
 a2:L 2=true->a.tmps.getD 11 undef = .pointer (some ⟨xb,xo,none⟩)
 a3:L 3=true->a.tmps.getD 12 undef = .string x
 a4:L 4=true->a.tmps.getD 13 undef = .tuple #[.agg #[.int .u64 (n:Int),.string d],.int .i64 er]
 a5:L 5=true->a.tmps.getD 14 undef = .agg #[.int .u64 (n:Int),.string d]
 a6:L 6=true->a.tmps.getD 15 undef = .int .i64 er
 a7:L 7=true->Rh w q n d
 a8:L 8=true->a.tmps.getD 5 undef = .int .i64 er
section
variable {w0 W:World} {q q2:Nat} {pv:Value} {xb xo xn xc:Nat} {x:BA} {n:Nat} {d:BA} {er:Int} {Q:Exit->Act->World->Prop} {ops:List Oper} {ty:TypeId} {ps:String} {af:Array Edge}
theorem lf_0(hds:dep ops 7 0=true)(h6 : ∀w,Zb W w -> ∃v0 v1 v2 v3 v4 v5,pv = .agg #[v0,v1,v2,v3,v4,v5]∧Six w q2 v0 v1 v2 v3 v4 v5):QN prog Q ops (LF w0 W q q2 pv xb xo xn xc x n d er) 0 { dst:=some 9,op:=Op.load 55 (Operand.tmp 2),type:=ty,pos:=ps,after:=af,guard:=none } := by
 intro L a w K hI hj hcl hdep hK;have hs:9<a.tmps.size:=by rw[hI.sz];decide
 have h8:=Uh hcl hj hds;have hB:=hI.b1 h8;have t2:=hI.i2;obtain⟨v0,v1,v2,v3,v4,v5,rfl,hx⟩:=h6 w hB;obtain⟨m0,m1,m2,m3,m4,m5⟩:=hx.cells
 show Oper.wp _ _ a w K _
 go_simp
 exact hK _ _ { sz:=(by simp[Act.put,hI.sz]),df:=hI.df,i1:=(by rw[Qb a 9 1 _ hs,Le (by decide)];exact hI.i1),i2:=(by rw[Qb a 9 2 _ hs,Le (by decide)];exact hI.i2),i4:=(by rw[Qb a 9 4 _ hs,Le (by decide)];exact hI.i4),b1:=(fun h=>hI.b1 h),b2:=(hI.b2),a0:=(fun _=>by rw[Qb a 9 9 _ hs,Lm rfl]),a1:=(fun h=>by rw[Qb a 9 10 _ hs,Le (by decide)];exact hI.a1 h),a2:=(fun h=>by rw[Qb a 9 11 _ hs,Le (by decide)];exact hI.a2 h),a3:=(fun h=>by rw[Qb a 9 12 _ hs,Le (by decide)];exact hI.a3 h),a4:=(fun h=>by rw[Qb a 9 13 _ hs,Le (by decide)];exact hI.a4 h),a5:=(fun h=>by rw[Qb a 9 14 _ hs,Le (by decide)];exact hI.a5 h),a6:=(fun h=>by rw[Qb a 9 15 _ hs,Le (by decide)];exact hI.a6 h),a7:=(fun h=>hI.a7 h),a8:=(fun h=>by rw[Qb a 9 5 _ hs,Le (by decide)];exact hI.a8 h) }
theorem lf_1  : QN prog Q ops (LF w0 W q q2 pv xb xo xn xc x n d er) 1 { dst:=some 10,op:=Op.move (Operand.tmp 1),type:=ty,pos:=ps,after:=af,guard:=none } := by
 intro L a w K hI hj hcl hdep hK;have hs:10<a.tmps.size:=by rw[hI.sz];decide
 have t1:=hI.i1
 show Oper.wp _ _ a w K _
 go_simp
 exact hK _ _ { sz:=(by simp[Act.put,hI.sz]),df:=hI.df,i1:=(by rw[Qb a 10 1 _ hs,Le (by decide)];exact hI.i1),i2:=(by rw[Qb a 10 2 _ hs,Le (by decide)];exact hI.i2),i4:=(by rw[Qb a 10 4 _ hs,Le (by decide)];exact hI.i4),b1:=(fun h=>hI.b1 h),b2:=(hI.b2),a0:=(fun h=>by rw[Qb a 10 9 _ hs,Le (by decide)];exact hI.a0 h),a1:=(fun _=>by rw[Qb a 10 10 _ hs,Lm rfl]),a2:=(fun h=>by rw[Qb a 10 11 _ hs,Le (by decide)];exact hI.a2 h),a3:=(fun h=>by rw[Qb a 10 12 _ hs,Le (by decide)];exact hI.a3 h),a4:=(fun h=>by rw[Qb a 10 13 _ hs,Le (by decide)];exact hI.a4 h),a5:=(fun h=>by rw[Qb a 10 14 _ hs,Le (by decide)];exact hI.a5 h),a6:=(fun h=>by rw[Qb a 10 15 _ hs,Le (by decide)];exact hI.a6 h),a7:=(fun h=>hI.a7 h),a8:=(fun h=>by rw[Qb a 10 5 _ hs,Le (by decide)];exact hI.a8 h) }
theorem lf_2(d1:(af.toList.any fun e=>e.on == 1 && Region.binds .any e)=true)(hn:0<xn):QN prog Q ops (LF w0 W q q2 pv xb xo xn xc x n d er) 2 { dst:=some 11,op:=Op.indexAddr 22 (Operand.tmp 10) (Operand.const (.int .i64 0)),type:=ty,pos:=ps,after:=af,guard:=none } := by
 intro L a w K hI hj hcl hdep hK;have hs:11<a.tmps.size:=by rw[hI.sz];decide
 have xA:=hI.a1 (hdep 1 d1);have hz:(0:Int)<(xn:Int):=by omega
 show Oper.wp _ _ a w K _
 go_simp
 exact hK _ _ { sz:=(by simp[Act.put,hI.sz]),df:=hI.df,i1:=(by rw[Qb a 11 1 _ hs,Le (by decide)];exact hI.i1),i2:=(by rw[Qb a 11 2 _ hs,Le (by decide)];exact hI.i2),i4:=(by rw[Qb a 11 4 _ hs,Le (by decide)];exact hI.i4),b1:=(fun h=>hI.b1 h),b2:=(hI.b2),a0:=(fun h=>by rw[Qb a 11 9 _ hs,Le (by decide)];exact hI.a0 h),a1:=(fun h=>by rw[Qb a 11 10 _ hs,Le (by decide)];exact hI.a1 h),a2:=(fun _=>by rw[Qb a 11 11 _ hs,Lm rfl]),a3:=(fun h=>by rw[Qb a 11 12 _ hs,Le (by decide)];exact hI.a3 h),a4:=(fun h=>by rw[Qb a 11 13 _ hs,Le (by decide)];exact hI.a4 h),a5:=(fun h=>by rw[Qb a 11 14 _ hs,Le (by decide)];exact hI.a5 h),a6:=(fun h=>by rw[Qb a 11 15 _ hs,Le (by decide)];exact hI.a6 h),a7:=(fun h=>hI.a7 h),a8:=(fun h=>by rw[Qb a 11 5 _ hs,Le (by decide)];exact hI.a8 h) }
theorem lf_3(d2:(af.toList.any fun e=>e.on == 2 && Region.binds .any e)=true)(hds:dep ops 7 3=true)(hc : ∀w,Zb W w->w.cell? ⟨xb,xo,none⟩=some (.string x)):QN prog Q ops (LF w0 W q q2 pv xb xo xn xc x n d er) 3 { dst:=some 12,op:=Op.load 9 (Operand.tmp 11),type:=ty,pos:=ps,after:=af,guard:=none } := by
 intro L a w K hI hj hcl hdep hK;have hs:12<a.tmps.size:=by rw[hI.sz];decide
 have h8:=Uh hcl hj hds;have hB:=hI.b1 h8;have xB:=hI.a2 (hdep 2 d2);have xA:=hc w hB
 show Oper.wp _ _ a w K _
 go_simp
 exact hK _ _ { sz:=(by simp[Act.put,hI.sz]),df:=hI.df,i1:=(by rw[Qb a 12 1 _ hs,Le (by decide)];exact hI.i1),i2:=(by rw[Qb a 12 2 _ hs,Le (by decide)];exact hI.i2),i4:=(by rw[Qb a 12 4 _ hs,Le (by decide)];exact hI.i4),b1:=(fun h=>hI.b1 h),b2:=(hI.b2),a0:=(fun h=>by rw[Qb a 12 9 _ hs,Le (by decide)];exact hI.a0 h),a1:=(fun h=>by rw[Qb a 12 10 _ hs,Le (by decide)];exact hI.a1 h),a2:=(fun h=>by rw[Qb a 12 11 _ hs,Le (by decide)];exact hI.a2 h),a3:=(fun _=>by rw[Qb a 12 12 _ hs,Lm rfl]),a4:=(fun h=>by rw[Qb a 12 13 _ hs,Le (by decide)];exact hI.a4 h),a5:=(fun h=>by rw[Qb a 12 14 _ hs,Le (by decide)];exact hI.a5 h),a6:=(fun h=>by rw[Qb a 12 15 _ hs,Le (by decide)];exact hI.a6 h),a7:=(fun h=>hI.a7 h),a8:=(fun h=>by rw[Qb a 12 5 _ hs,Le (by decide)];exact hI.a8 h) }
theorem lf_4(d0:(af.toList.any fun e=>e.on == 0 && Region.binds .any e)=true)(d3:(af.toList.any fun e=>e.on == 3 && Region.binds .any e)=true)(hds:dep ops 7 4=true)(hR : ∀w,Zb W w->Zr 63 #[pv,.string x] w (.tuple #[.agg #[.int .u64 (n:Int),.string d],.int .i64 er])):QN prog Q ops (LF w0 W q q2 pv xb xo xn xc x n d er) 4 { dst:=some 13,op:=Op.call { callee:=Callee.value (Operand.func 63),args:=#[Operand.tmp 9,Operand.tmp 12],argTypes:=#[55,9] },type:=ty,pos:=ps,after:=af,guard:=none } := by
 intro L a w K hI hj hcl hdep hK;have hs:13<a.tmps.size:=by rw[hI.sz];decide
 have h8:=Uh hcl hj hds;have hB:=hI.b1 h8;have t9:=hI.a0 (hdep 0 d0);have xA:=hI.a3 (hdep 3 d3)
 show Oper.wp _ _ a w K _
 go_simp
 refine(hR w hB).mono ?_
 rintro e w' ⟨rfl,hb⟩;exact hK _ _ { sz:=(by simp[Act.put,hI.sz]),df:=hI.df,i1:=(by rw[Qb a 13 1 _ hs,Le (by decide)];exact hI.i1),i2:=(by rw[Qb a 13 2 _ hs,Le (by decide)];exact hI.i2),i4:=(by rw[Qb a 13 4 _ hs,Le (by decide)];exact hI.i4),b1:=(fun _=>Qa hB hb),b2:=(Qa hI.b2 hb),a0:=(fun h=>by rw[Qb a 13 9 _ hs,Le (by decide)];exact hI.a0 h),a1:=(fun h=>by rw[Qb a 13 10 _ hs,Le (by decide)];exact hI.a1 h),a2:=(fun h=>by rw[Qb a 13 11 _ hs,Le (by decide)];exact hI.a2 h),a3:=(fun h=>by rw[Qb a 13 12 _ hs,Le (by decide)];exact hI.a3 h),a4:=(fun _=>by rw[Qb a 13 13 _ hs,Lm rfl]),a5:=(fun h=>by rw[Qb a 13 14 _ hs,Le (by decide)];exact hI.a5 h),a6:=(fun h=>by rw[Qb a 13 15 _ hs,Le (by decide)];exact hI.a6 h),a7:=(fun h=>by rw[show(if (7:Nat)=4 then true else L 7)=L 7 from rfl,h8] at h;cases h),a8:=(fun h=>by rw[Qb a 13 5 _ hs,Le (by decide)];exact hI.a8 h) }
theorem lf_5(d4:(af.toList.any fun e=>e.on == 4 && Region.binds .any e)=true):QN prog Q ops (LF w0 W q q2 pv xb xo xn xc x n d er) 5 { dst:=some 14,op:=Op.extract (Operand.tmp 13) 0,type:=ty,pos:=ps,after:=af,guard:=none } := by
 intro L a w K hI hj hcl hdep hK;have hs:14<a.tmps.size:=by rw[hI.sz];decide
 have xA:=hI.a4 (hdep 4 d4)
 show Oper.wp _ _ a w K _
 go_simp
 exact hK _ _ { sz:=(by simp[Act.put,hI.sz]),df:=hI.df,i1:=(by rw[Qb a 14 1 _ hs,Le (by decide)];exact hI.i1),i2:=(by rw[Qb a 14 2 _ hs,Le (by decide)];exact hI.i2),i4:=(by rw[Qb a 14 4 _ hs,Le (by decide)];exact hI.i4),b1:=(fun h=>hI.b1 h),b2:=(hI.b2),a0:=(fun h=>by rw[Qb a 14 9 _ hs,Le (by decide)];exact hI.a0 h),a1:=(fun h=>by rw[Qb a 14 10 _ hs,Le (by decide)];exact hI.a1 h),a2:=(fun h=>by rw[Qb a 14 11 _ hs,Le (by decide)];exact hI.a2 h),a3:=(fun h=>by rw[Qb a 14 12 _ hs,Le (by decide)];exact hI.a3 h),a4:=(fun h=>by rw[Qb a 14 13 _ hs,Le (by decide)];exact hI.a4 h),a5:=(fun _=>by rw[Qb a 14 14 _ hs,Lm rfl]),a6:=(fun h=>by rw[Qb a 14 15 _ hs,Le (by decide)];exact hI.a6 h),a7:=(fun h=>hI.a7 h),a8:=(fun h=>by rw[Qb a 14 5 _ hs,Le (by decide)];exact hI.a8 h) }
theorem lf_6(d4:(af.toList.any fun e=>e.on == 4 && Region.binds .any e)=true):QN prog Q ops (LF w0 W q q2 pv xb xo xn xc x n d er) 6 { dst:=some 15,op:=Op.extract (Operand.tmp 13) 1,type:=ty,pos:=ps,after:=af,guard:=none } := by
 intro L a w K hI hj hcl hdep hK;have hs:15<a.tmps.size:=by rw[hI.sz];decide
 have xA:=hI.a4 (hdep 4 d4)
 show Oper.wp _ _ a w K _
 go_simp
 exact hK _ _ { sz:=(by simp[Act.put,hI.sz]),df:=hI.df,i1:=(by rw[Qb a 15 1 _ hs,Le (by decide)];exact hI.i1),i2:=(by rw[Qb a 15 2 _ hs,Le (by decide)];exact hI.i2),i4:=(by rw[Qb a 15 4 _ hs,Le (by decide)];exact hI.i4),b1:=(fun h=>hI.b1 h),b2:=(hI.b2),a0:=(fun h=>by rw[Qb a 15 9 _ hs,Le (by decide)];exact hI.a0 h),a1:=(fun h=>by rw[Qb a 15 10 _ hs,Le (by decide)];exact hI.a1 h),a2:=(fun h=>by rw[Qb a 15 11 _ hs,Le (by decide)];exact hI.a2 h),a3:=(fun h=>by rw[Qb a 15 12 _ hs,Le (by decide)];exact hI.a3 h),a4:=(fun h=>by rw[Qb a 15 13 _ hs,Le (by decide)];exact hI.a4 h),a5:=(fun h=>by rw[Qb a 15 14 _ hs,Le (by decide)];exact hI.a5 h),a6:=(fun _=>by rw[Qb a 15 15 _ hs,Lm rfl]),a7:=(fun h=>hI.a7 h),a8:=(fun h=>by rw[Qb a 15 5 _ hs,Le (by decide)];exact hI.a8 h) }
theorem lf_7(d5:(af.toList.any fun e=>e.on == 5 && Region.binds .any e)=true)(hq : ∀w,Zb W w -> ∃n9 d9,Rh w q n9 d9)(hq0:w0.heap.size<=q):QN prog Q ops (LF w0 W q q2 pv xb xo xn xc x n d er) 7 { dst:=none,op:=Op.store 30 (Operand.tmp 4) (Operand.tmp 14),type:=ty,pos:=ps,after:=af,guard:=none } := by
 intro L a w K hI hj hcl hdep hK;have t4:=hI.i4;have xC:=hI.a5 (hdep 5 d5);have hB:=hI.b1 hj;obtain⟨n9,d9,g4⟩ : ∃n9 d9,Rh w q n9 d9:=hq w hB;obtain⟨k0,k1⟩:=g4.cells;have fz:=g4.fz;have xA:=O1 w q n d;have xB:=g4.put n d;unfold putR at xA xB
 show Oper.wp _ _ a w K _
 go_simp
 exact hK undef _ { sz:=hI.sz,df:=hI.df,i1:=(by exact hI.i1),i2:=(by exact hI.i2),i4:=(by exact hI.i4),b1:=(fun h=>by cases h),b2:=(hI.b2.trans (xA.below (by rintro b rfl;exact hq0))),a0:=(fun h=>by exact hI.a0 h),a1:=(fun h=>by exact hI.a1 h),a2:=(fun h=>by exact hI.a2 h),a3:=(fun h=>by exact hI.a3 h),a4:=(fun h=>by exact hI.a4 h),a5:=(fun h=>by exact hI.a5 h),a6:=(fun h=>by exact hI.a6 h),a7:=(fun _=>xB),a8:=(fun h=>by exact hI.a8 h) }
theorem lf_8(d6:(af.toList.any fun e=>e.on == 6 && Region.binds .any e)=true):QN prog Q ops (LF w0 W q q2 pv xb xo xn xc x n d er) 8 { dst:=some 5,op:=Op.assign (Operand.tmp 15),type:=ty,pos:=ps,after:=af,guard:=none } := by
 intro L a w K hI hj hcl hdep hK;have hs:5<a.tmps.size:=by rw[hI.sz];decide
 have xA:=hI.a6 (hdep 6 d6)
 show Oper.wp _ _ a w K _
 go_simp
 exact hK _ _ { sz:=(by simp[Act.put,hI.sz]),df:=hI.df,i1:=(by rw[Qb a 5 1 _ hs,Le (by decide)];exact hI.i1),i2:=(by rw[Qb a 5 2 _ hs,Le (by decide)];exact hI.i2),i4:=(by rw[Qb a 5 4 _ hs,Le (by decide)];exact hI.i4),b1:=(fun h=>hI.b1 h),b2:=(hI.b2),a0:=(fun h=>by rw[Qb a 5 9 _ hs,Le (by decide)];exact hI.a0 h),a1:=(fun h=>by rw[Qb a 5 10 _ hs,Le (by decide)];exact hI.a1 h),a2:=(fun h=>by rw[Qb a 5 11 _ hs,Le (by decide)];exact hI.a2 h),a3:=(fun h=>by rw[Qb a 5 12 _ hs,Le (by decide)];exact hI.a3 h),a4:=(fun h=>by rw[Qb a 5 13 _ hs,Le (by decide)];exact hI.a4 h),a5:=(fun h=>by rw[Qb a 5 14 _ hs,Le (by decide)];exact hI.a5 h),a6:=(fun h=>by rw[Qb a 5 15 _ hs,Le (by decide)];exact hI.a6 h),a7:=(fun h=>hI.a7 h),a8:=(fun _=>by rw[Qb a 5 5 _ hs,Lm rfl]) }
end
theorem Ot(w:World)(k:Int)(old size:Nat)(sa:OA)(ns sc:Nat)(da:OA)(dn dc:Nat)(xa:OA)(xb xo xn xc:Nat)(X:LB)(hx:RdS w xa xb xo xn X)(h0:0<xn)(n:Nat)(d:BA)(er:Int)
  (hR : ∀W,Zb w W->Zr 63 #[vP 1 k old size (.slice sa ns sc) (.slice da dn dc),.string (X.getD 0 ByteArray.empty)] W (.tuple #[.agg #[.int .u64 (n:Int),.string d],.int .i64 er])) :
  Zr 29 #[vP 1 k old size (.slice sa ns sc) (.slice da dn dc),.slice xa xn xc] w (.tuple #[.agg #[.int .u64 (n:Int),.string d],.int .i64 er]):=by
 obtain rfl:=hx.ptr h0;obtain⟨W0,xB⟩:=Ze ((w.alloc (.cells #[.int .i64 1,.int .i64 k,.int .u64 (old:Int),.int .u64 (size:Int),.slice sa ns sc,.slice da dn dc] 55)).alloc (.cells #[.int .u64 0,.string ⟨#[]⟩] 30));have xC:Zb w W0:=by rw[<-xB];exact bal (bal (Lb _ _) _) _
 obtain⟨h6,xP⟩:Six W0 w.heap.size (.int .i64 1) (.int .i64 k) (.int .u64 (old:Int)) (.int .u64 (size:Int)) (.slice sa ns sc) (.slice da dn dc)∧Rh W0 (w.heap.size+1) 0 ⟨#[]⟩:=by
  obtain⟨e1,e2⟩:=Yq w (.cells #[.int .i64 1,.int .i64 k,.int .u64 (old:Int),.int .u64 (size:Int),.slice sa ns sc,.slice da dn dc] 55) (.cells #[.int .u64 0,.string ⟨#[]⟩] 30);rw[<-xB];exact⟨e1,e2⟩
 have xA:Zb w W0:=xC;have m0:=h6.cells.1;have HX:=Qe (Lo hx (Lo xC (Lo h6 xP)));have HR:=Qe hR;unfold vP at HR;clear hx xC h6 xP hR;unfold vP
 go_enter func29,ntmps29
 go_upto_region 1 with (fail)
 try rw[xB]
 clear xB
 go_upto_region 2 with (fail)
 refine YQ (by kernel_rfl) (by kernel_rfl) (LF w W0 (w.heap.size+1) w.heap.size (.agg #[.int .i64 1,.int .i64 k,.int .u64 (old:Int),.int .u64 (size:Int),.slice sa ns sc,.slice da dn dc]) xb xo xn xc (X.getD 0 ByteArray.empty) n d er)
  (fun Z _ hZ => { sz:=rfl,df:=rfl,i1:=rfl,i2:=rfl,i4:=rfl,b1:=(fun _=>hZ),b2:=(Qa xA hZ),a0:=(fun h=>by cases h),a1:=(fun h=>by cases h),a2:=(fun h=>by cases h),a3:=(fun h=>by cases h),a4:=(fun h=>by cases h),a5:=(fun h=>by cases h),a6:=(fun h=>by cases h),a7:=(fun h=>by cases h),a8:=(fun h=>by cases h) })
  ⟨lf_0 rfl (fun Z hZ=>⟨_,_,_,_,_,_,rfl,HX.out.2.2.1.next hZ⟩),lf_1,lf_2 rfl h0,lf_3 rfl rfl (fun Z hZ=>by have:=(HX.out.1.next (Qa xA hZ) (Ld _)).at h0;exact this),lf_4 rfl rfl rfl (fun Z hZ=>HR.out Z (Qa xA hZ)),lf_5 rfl,lf_6 rfl,lf_7 rfl (fun Z hZ=>⟨_,_,HX.out.2.2.2.next hZ⟩) (by omega),lf_8 rfl,trivial⟩ ?_
 intro L a7 w7 hall hI;obtain⟨⟨tl⟩,df⟩:=a7;have xQ:tl.length=21:=hI.sz;obtain⟨u0,t0,rfl,xR⟩:=Qc xQ;obtain⟨u1,t1,rfl,xS⟩:=Qc xR;obtain⟨u2,t2,rfl,xT⟩:=Qc xS;obtain⟨u3,t3,rfl,xU⟩:=Qc xT;obtain⟨u4,t4,rfl,xV⟩:=Qc xU;obtain⟨u5,t5,rfl,xW⟩:=Qc xV;obtain⟨u6,t6,rfl,xX⟩:=Qc xW;obtain⟨u7,t7,rfl,xY⟩:=Qc xX;obtain⟨u8,t8,rfl,xZ⟩:=Qc xY;obtain⟨u9,t9,rfl,xD⟩:=Qc xZ;obtain⟨u10,yA,rfl,xE⟩:=Qc xD;obtain⟨u11,yB,rfl,xF⟩:=Qc xE;obtain⟨u12,yC,rfl,xG⟩:=Qc xF;obtain⟨u13,yD,rfl,xH⟩:=Qc xG;obtain⟨u14,yE,rfl,xI⟩:=Qc xH;obtain⟨u15,yF,rfl,xJ⟩:=Qc xI;obtain⟨u16,yG,rfl,xK⟩:=Qc xJ;obtain⟨u17,yH,rfl,xL⟩:=Qc xK;obtain⟨u18,yI,rfl,xM⟩:=Qc xL;obtain⟨u19,yJ,rfl,xN⟩:=Qc xM;obtain⟨u20,yK,rfl,xO⟩:=Qc xN;obtain rfl:=List.length_eq_zero_iff.1 xO;obtain rfl:df=[]:=hI.df;obtain rfl:u4 = .pointer (some ⟨w.heap.size+1,0,none⟩):=hI.i4;obtain rfl:u5 = .int .i64 er:=hI.a8 (hall 8 (by decide))
 obtain⟨s0,s1⟩:=(hI.a7 (hall 7 (by decide))).cells
 have HB:=Qe hI.b2;clear hall hI
 repeat go_step
 refine Lp (v := .tuple #[.agg #[.int .u64 (n:Int),.string d],.int .i64 er]) (by simp[results,results29,go_sem,s0,s1]) rfl ⟨rfl,HB.out⟩
namespace Cv
open Pl
theorem QaZ(w:World){ops:Array Oper}{rest:List Oper}{o:Oper}{a:Act}{Q:Exit->Act->World->Prop}
  (hg:o.guard=none) (s x:Operand) (hop:o.op=Op.call { callee:=Callee.builtin Builtin.append,args:=#[s,x],argTypes:=#[77,77] })
  (B:Nat) (v:Value) (L:List (Int×Nat)) (hs:a.eval s=v) (hown:Qx w B v L) (u:Value) (M:List (Int×Nat)) (hx:a.eval x=u) (hr:RdC w u M.length (cB M))
  (hlen:L.length+M.length<=2199023255552) (hB:B<=w.heap.size)
  (hK : ∀v' w',Qx w' B v' (L++M)->w.grownBy w' v.ownBlock->wpList prog ops Q rest (a.put o.dst v') w'):wpList prog ops Q (o::rest) a w:=by
 obtain⟨i0,hi,xA,xB,xC⟩:=info_parts Tryz.infoB;refine QG w hg s x _ hop B 83 i0 (.agg #[.int .i64 0,.int .u64 0]) 2 16 underlying77 hi xA xB xC rfl (by decide) v L.length (cB L) hs hown u M.length (cB M) hx hr (Qw M) (JD M) (by unfold maxLen;omega) (by omega) hB ?_
 intro v' w' h;refine hK v' w' ?_ h.grown
 rw[Qx,Qao,Lg];exact h.own
structure Two(w:World)(g:Nat)(h:Int)(k:Nat):Prop where
 c0:w.cell? ⟨g,0,none⟩=some (.int .i64 h)
 c1:w.cell? ⟨g,1,none⟩=some (.int .u64 (k:Int))
theorem Two.below{w w':World}{g k:Nat}{h:Int}(t:Two w g h k)(hb:Zb w w'):Two w' g h k :=
 ⟨(hb.cell (p:=⟨g,0,none⟩) (Lh w _ t.c0)).trans t.c0,(hb.cell (p:=⟨g,1,none⟩) (Lh w _ t.c1)).trans t.c1⟩
theorem Qhl(w:World)(h:Int)(k t:Nat):Two (w.alloc (.cells #[.int .i64 h,.int .u64 (k:Int)] t)) w.heap.size h k:=by
 refine⟨?_,?_⟩ <;> simp
theorem Qiu(h k:Nat)(w:World)(hh:h<=40)(hk:k<pw (40 - h)) :
  Zr 141 #[bv h k] w (.tuple #[.int .u64 (k*pw h:Nat),.int .u64 ((k+1)*pw h:Nat)]):=by
 have hm:=Qlz hh hk;have xB:=QgV hk;have T:Hid (Two (w.alloc (.cells #[.int .i64 (h:Int),.int .u64 (k:Int)] 83)) w.heap.size h k):=Qhl w h k 83;have HM:Hid ((k+1)*pw h<=2^40∧h<=40):=⟨hm,hh⟩;have ek:IntKind.u64.wrap ((k:Int)+1)=(k:Int)+1:=by rw[IntKind.wrap_u64];omega
 clear hm xB hh hk
 go_enter func141,ntmps141;go_wp2
 go_loopg [4,5,6] h (fun g lo hi i wr => ∃j x y:Nat,j<=h∧g=h - j∧i = .int .i64 (j:Int)∧lo = .int .u64 (x:Int)∧hi = .int .u64 (y:Int)∧x=k*pw j∧y=(k+1)*pw j∧wr=w.alloc (.cells #[.int .i64 (h:Int),.int .u64 (k:Int)] 83))
 case atStart=>go_light;exact⟨0,k,k+1,Ll _,rfl,rfl,rfl,rfl,by simp[pw],by simp[pw],rfl⟩
 case round =>
  obtain⟨j,x,y,hj,rfl,rfl,rfl,rfl,hx,hy,rfl⟩:=hrel;obtain⟨hm,hh⟩:=HM.out;obtain⟨t0,t1⟩:=T.out;have xD:(0:Int)<=(j:Int):=Lf _;have xE:(j:Int)<=40:=by omega
  by_cases hlt:j<h
  ·have xA:(j:Int)<(h:Int):=by omega
   have hb:(k+1)*pw (j+1)<=(k+1)*pw h:=NZ _ (JP hlt);have e1:k*pw (j+1)=2*x:=by rw[hx,Yc,L9]
   have e2:(k+1)*pw (j+1)=2*y:=by rw[hy,Yc,L9]
   have xC:x<=y:=by rw[hx,hy];exact LE _ (by omega)
   have w1:IntKind.u64.wrap (2*(x:Int))=2*(x:Int):=by rw[IntKind.wrap_u64];omega
   have w2:IntKind.u64.wrap (2*(y:Int))=2*(y:Int):=by rw[IntKind.wrap_u64];omega
   have HX:Hid (2*x=k*pw (j+1)∧2*y=(k+1)*pw (j+1)):=⟨e1.symm,e2.symm⟩;clear hb e1 e2 xC hx hy hm hh hj;go_wp2
   go_roundg (h - (j+1))
   case rel=>go_light;exact⟨j+1,2*x,2*y,by omega,rfl,by go_num,by go_num,by go_num,HX.out.1,HX.out.2,rfl⟩
   case measure=>go_light;omega
  ·obtain rfl:j=h:=by omega
   have xA : ¬(j:Int)<(j:Int):=by omega
   have HX:Hid (x=k*pw j∧y=(k+1)*pw j):=⟨hx,hy⟩;clear hx hy hm hh hj hlt;go_wp2
   go_ret2
   obtain⟨rfl,rfl⟩:=HX.out;exact⟨rfl,bal (Lb _ _) _⟩
theorem QlV(m:Nat):pw (m+1) / 2=pw m:=by rw[QM];omega
theorem QaV(n:Nat)(w:World)(hn:n<=2^40) :
  Calls prog 86 #[.int .u64 (n:Int)] w fun e w' => ∃v,e = .returned v∧Qx w' w.heap.size v (zl (dnL 41 0 n))∧Zb w w':=by
 have HN:Hid (n<=2^40):=hn;clear hn
 go_enter func86,ntmps86;go_wp2
 go_loopg [3,4,5,6] 41 (fun g v f p h wr => ∃(m x:Nat) (acc:List (Nat×Nat)),m<=41∧m=g∧h = .int .i64 ((m:Int) - 1)∧p = .int .u64 ((pw m / 2:Nat):Int)∧f = .int .u64 (x:Int)∧x<=n∧Qx wr w.heap.size v (zl acc)∧acc++dnL m x n=dnL 41 0 n∧acc.length+m<=41∧Zb w wr)
 case atStart=>go_light;exact⟨41,0,[],by decide,rfl,rfl,rfl,rfl,Ll _,LT _ _ _ _,rfl,by decide,Lb _ _⟩
 case round =>
  obtain⟨m,x,acc,hm,rfl,rfl,rfl,rfl,hx,xB,xA,xC,hb⟩:=hrel;have hn:=HN.out
  by_cases hm0:m=0
  ·subst hm0;have ht : ¬(0:Int)<=((0:Nat):Int) - 1:=by omega
   have HF:Hid (Qx wr w.heap.size u3 (zl (dnL 41 0 n))∧Zb w wr):=⟨by
    rw[<-xA];simpa [dnL] using xB,hb⟩
   clear hx xB xA xC hb hn hm;go_wp2
   go_ret
   exact⟨_,rfl,HF.out⟩
  ·obtain⟨i,rfl⟩ : ∃i,m=i+1:=⟨m - 1,by omega⟩
   have ei:(((i+1:Nat):Int) - 1)=(i:Int):=by omega
   rw[ei,QlV];have xM:(0:Int)<=(i:Int):=Lf _;have xN:(i:Int)<=40:=by omega
   obtain⟨p,hp⟩:=Ze (pw i);have xD:pw i<=pw 40:=JP (by omega)
   have xH:pw 40=2^40:=rfl;have xF:=QF i;rw[hp] at xD xF ⊢;obtain⟨d,hd⟩:=Ze (n - x);have ed:IntKind.u64.wrap ((n:Int) - (x:Int))=(d:Int):=by rw[IntKind.wrap_u64];omega
   obtain⟨p2,xE⟩:=Ze (p / 2);have ep:IntKind.u64.wrap ((p:Int) / 2)=(p2:Int):=by rw[IntKind.wrap_u64];omega
   have xO : ¬(p:Int)=0:=by omega
   have xG:=hb.size
   by_cases hfit:p<=d
   ·have xJ:(p:Int)<=(d:Int):=by omega
    obtain⟨q,hq⟩:=Ze (x / pw i);have xI:x / p=q:=by rw[<-hp];exact hq
    have xK:q<=x:=by rw[<-hq];exact Nt _ _
    have eq:(x:Int) / (p:Int)=(q:Int):=by rw[<-xI];rfl
    have xL:IntKind.u64.wrap (q:Int)=(q:Int):=by rw[IntKind.wrap_u64];omega
    have ef:IntKind.u64.wrap ((x:Int)+(p:Int))=((x+p:Nat):Int):=by rw[IntKind.wrap_u64];omega
    have hu:=QbJ (h:=i) (lo:=x) (hi:=n) (by omega)
    rw[hq,hp] at hu;have HX:Hid (acc++[(i,q)]++dnL i (x+p) n=dnL 41 0 n∧x+p<=n∧(acc++[(i,q)]).length+i<=41∧Zb w wr∧w.heap.size<=wr.heap.size∧acc.length<=41∧pw i / 2=p2):=by
     refine⟨?_,by omega,by simp;omega,hb,xG,by omega,by rw[hp,xE]⟩
     rw[LH,<-xA,hu];rfl
    clear hx xA xC hb hn hm hm0 hp hd xE hq xI xK hu xH xD xF xG hfit
    go_wp2_with (at_builtin;refine QP _ rfl _ _ rfl w.heap.size _ (zl acc) rfl (xB.alloc _) _ [((i:Int),q)] rfl (YU wr (i:Int) q 83) ?c1 ?c2 ?_)
    case c1=>have:=HX.out.2.2.2.2.2.1;rw[QC];simp;omega
    case c2=>have:=HX.out.2.2.2.2.1;simp;omega
    intro v' w1 r1 r2 _;have R:=Ja HX.out.2.2.2.1 HX.out.2.2.2.2.1 xB r2;clear r2 xB;go_wp2
    go_roundg i
    case rel =>
     go_light;obtain⟨x1,x2,x3,x4,x5,x6,x7⟩:=HX.out;refine⟨i,x+p,acc++[(i,q)],by omega,rfl,by go_num,by rw[x7],by go_num,x2,?_,x1,x3,R.1⟩
     rw[UO];exact r1
    case measure=>go_light;omega
   ·have xJ : ¬(p:Int)<=(d:Int):=by omega
    have hu:=QeK (h:=i) (lo:=x) (hi:=n) (by omega)
    rw[hu] at xA;have HX:Hid (acc++dnL i x n=dnL 41 0 n∧x<=n∧acc.length+i<=41∧Zb w wr∧pw i / 2=p2):=⟨xA,hx,by omega,hb,by rw[hp,xE]⟩
    clear hx xA xC hb hn hm hm0 hp hd xE hu xH xD xF xG;go_wp2
    go_roundg i
    case rel=>go_light;obtain⟨x1,x2,x3,x4,x5⟩:=HX.out;exact⟨i,x,acc,by omega,rfl,by go_num,by rw[x5],rfl,x2,xB,x1,x3,x4⟩
    case measure=>go_light;omega
theorem UJ(n:Nat)(w:World) :
  Calls prog 40 #[.int .u64 (n:Int)] w fun x w' => ∃v,x = .returned (.tuple #[v,.int .i64 (UV 0 n n:Nat)])∧Qx w' w.heap.size v (zl (covR 0 n n))∧Zb w w':=by
 by_cases h:2^40<n
 ·have e:UV 0 n n=30:=by rw[UV,Lm h]
  have ht:decide ((1099511627776:Int)<(n:Int))=true:=Ln (by omega)
  rw[covR,e,Le (by decide)]
  clear h e
  go_enter func40,ntmps40;go_wp2
  go_ret2
  exact⟨_,rfl,LT _ _ _ _,Lb _ _⟩
 ·have e:UV 0 n n=0:=by rw[UV,Le h,Le (by omega),Le (by omega)]
  have ht:decide ((1099511627776:Int)<(n:Int))=false:=Lj (by omega)
  have HM:=fun w'=>QaV n w' (by omega)
  rw[covR,e,Lm rfl,QX n (by omega)]
  clear h e
  go_enter func40,ntmps40
  go_wp2_with (go_at_call 86;with_reducible refine(HM _).mono ?_;rintro x w1 ⟨v,rfl,h1,h2⟩)
  go_ret2
  exact⟨_,rfl,h1,h2⟩
theorem Ql6{q:Nat} : ∀ {L:List (Nat×Nat)} {p:Nat},Row q p L -> ∀b∈L,b.1<=40∧b.2<pw (40 - b.1):=by
 intro L
 induction L with
 | nil=>intro p _ b hb;cases hb
 | cons c L ih =>
  intro p h b hb
  rcases List.mem_cons.1 hb with rfl|hb
  ·exact⟨h.2.1,h.2.2.1⟩
  ·exact ih h.2.2.2 b hb
theorem QiF{t:Nat×Nat->List (Nat×Nat)}(M:List (Nat×Nat))(k:Nat)(h:k<M.length):(M.take (k+1)).flatMap t=(M.take k).flatMap t++t (M.getD k (0,0)):=by
 rw[LW h,NW,La,Lc h];simp
theorem QcK{t:Nat×Nat->List (Nat×Nat)}(M:List (Nat×Nat))(k:Nat):((M.take k).flatMap t).length<=(M.flatMap t).length:=by
 conv=>rhs;rw[<-Nk k M,NW,Lg]
 omega
theorem QnC{w:World}{base:Nat}{v:Value}{l:List Nat}(h:Own w base v l) : ∃ao b n cap,v = .slice ao n cap∧Rd w ao b 0 n l∧n<=maxLen∧n<=cap:=by
 obtain⟨h1,h2⟩:=h
 rcases h2 with ⟨rfl,h2⟩|⟨g,cap,cur,rfl,hg,hh,hc1,hc2,hc3,hc4⟩
 ·exact⟨none,0,0,0,rfl,⟨h2,fun h=>absurd h (by omega),fun j hj=>absurd hj (by omega)⟩,Ll _,Ld _⟩
 ·have xA:=I7 (w:=w) (base:=base) (e:=28) (size:=1) (v := .slice (some ⟨g,0,none⟩) l.length cap) (n:=l.length) (xs:=cU l) ⟨h1,.inr ⟨g,cap,cur,rfl,hg,hh,hc1,hc2,hc3,hc4⟩⟩ (g:=g) rfl;refine⟨some ⟨g,0,none⟩,g,l.length,cap,rfl,⟨rfl,fun _=>rfl,fun j hj => ?_⟩,by omega,hc1⟩
  have:=xA j (.int .u64 (l.getD j 0:Nat)) (by simp[cU,List.getD_eq_getElem?_getD,List.getElem?_eq_getElem hj])
  rw[Addr.add_mid] at this;exact this
def errT(n:Nat)(l:List Nat):Nat:=if YE l=false then 40 else if n<=l.getD (l.length - 1) 0 then 31 else 0
theorem Qni{n:Nat}{l:List Nat}(h : ¬2^40<n):QR n l=errT n l:=by rw[QR,Le h,errT]
theorem Qkn(m:Nat)(w:World)(ao:OA)(b off n cap:Nat)(l:List Nat)(r:Rd w ao b off n l)(hn:n<=maxLen) :
  Zr 176 #[.int .u64 (m:Int),.slice ao n cap] w (.int .i64 (errT m l:Nat)):=by
 have xK:(n:Int)<=9223372036854775807:=by unfold maxLen at hn;omega
 by_cases hz:n=0
 ·have he:errT m l=40:=by
   rw[errT,Lm]
   cases hB:YE l with
   | false=>rfl
   | true=>have:=((QY l).1 hB).1;have:=r.len;omega
  rw[he];have xE:(n:Int)=0:=by omega
  clear r hn he;subst hz
  go_enter func176,ntmps176;go_wp2
  go_ret
  exact⟨rfl,Lb _ _⟩
 ·have xE : ¬(n:Int)=0:=by omega
  have HR:Hid (Rd w ao b off n l):=r;clear hn r
  go_enter func176,ntmps176;go_wp2
  go_loopg [5] n (fun g i wr => ∃k:Nat,k<=n∧1<=k∧g=n+1 - k∧i = .int .i64 (k:Int)∧(∀j,j+1<k->l.getD j 0<l.getD (j+1) 0)∧Zb w wr)
  case atStart=>go_light;exact⟨1,by omega,Ld _,by omega,rfl,fun j hj=>absurd hj (by omega),Lb _ _⟩
  case round =>
   obtain⟨k,hk,xJ,rfl,rfl,he,hb⟩:=hrel;have xI:(0:Int)<=(k:Int):=Lf _;have r1:=HR.out.below hb;obtain rfl:=r1.addr (by omega)
   by_cases hlt:k<n
   ·obtain⟨i,rfl⟩ : ∃i,k=i+1:=⟨k - 1,by omega⟩
    have c1:=r1.cell (i+1) hlt;have c2:=r1.cell i (by omega)
    have hz:((i+1:Nat):Int)<(n:Int):=by omega
    have ei:(((i+1:Nat):Int) - 1)=(i:Int):=by omega
    have ec:((i+1:Nat):Int)=(i:Int)+1:=by omega
    have xM:(i:Int)+1<(n:Int):=by omega
    have xN:(i:Int)<(n:Int):=by omega
    have xF:(0:Int)<=(i:Int):=Lf _;have xG:(0:Int)<=(i:Int)+1:=by omega
    have HB:Hid (Zb w wr):=hb;have HE:Hid (∀j,j+1<i+1->l.getD j 0<l.getD (j+1) 0):=he;have HI:Hid (¬l.getD i 0<l.getD (i+1) 0->errT m l=40):=fun hno=>by
     rw[errT,Lm]
     cases hB:YE l with
     | false=>rfl
     | true=>exact absurd (((QY l).1 hB).2 i (by have:=HR.out.len;omega)) hno
    obtain⟨x,hx⟩:=Ze (l.getD (i+1) 0);obtain⟨y,hy⟩:=Ze (l.getD i 0);rw[hx] at c1;rw[hy] at c2;rw[hx,hy] at HI;have HX:Hid (l.getD (i+1) 0=x∧l.getD i 0=y):=⟨hx,hy⟩;have xD:i+1<n:=hlt;clear hx hy r1 hb he hk hlt
    by_cases hxy:x<=y
    ·have HN:Hid (errT m l=40):=HI.out (by omega)
     go_wp2
     go_quiet (fail)
     go_wp2
     go_ret
     exact⟨by rw[HN.out];rfl,Qd HB.out _⟩
    ·go_wp2
     go_quiet (fail)
     go_wp2
     go_roundg (n+1 - (i+1+1))
     case rel =>
      go_light;refine⟨i+1+1,by omega,by omega,rfl,by go_num,fun j hj => ?_,Qd HB.out _⟩
      by_cases hjk:j=i
      ·subst hjk;rw[HX.out.1,HX.out.2];omega
      ·exact HE.out j (by omega)
     case measure=>go_light;omega
   ·obtain rfl:k=n:=by omega
    have hz : ¬(k:Int)<(k:Int):=by omega
    have hl:=HR.out.len;have xB:YE l=true:=(QY l).2 ⟨by omega,fun i hi=>he i (by omega)⟩
    obtain⟨j,rfl⟩ : ∃j,k=j+1:=⟨k - 1,by omega⟩
    have hc:=r1.cell j (by omega)
    have e1:(((j+1:Nat):Int) - 1)=(j:Int):=by omega
    have e2:((j+1:Nat):Int)=(j:Int)+1:=by omega
    have xL:(j:Int)<(j:Int)+1:=by omega
    have xH:(0:Int)<=(j:Int):=Lf _;have xA:l.getD (l.length - 1) 0=l.getD j 0:=by rw[hl];rfl
    obtain⟨x,hx⟩:=Ze (l.getD j 0);rw[hx] at hc xA;have HB:Hid (Zb w wr):=hb
    by_cases h4:m<=x
    ·have HN:Hid (errT m l=31):=by show _=_;rw[errT,Le (by rw[xB];decide),Lm (by rw[xA];exact h4)]
     have xC:(m:Int)<=(x:Int):=by omega
     clear he hb hk hl xB hx xA r1;go_wp2
     go_ret
     exact⟨by rw[HN.out];rfl,HB.out⟩
    ·have HN:Hid (errT m l=0):=by show _=_;rw[errT,Le (by rw[xB];decide),Le (by rw[xA];exact h4)]
     have xC : ¬(m:Int)<=(x:Int):=by omega
     clear he hb hk hl xB hx xA r1;go_wp2
     go_ret
     exact⟨by rw[HN.out];rfl,HB.out⟩
theorem QkG{H K:Nat}{S:List Nat}(h:(S.filter (inb H K)).length=0):tno H K S=[(H,K)]:=by
 cases H with
 | zero=>rw[tno,Lm h]
 | succ H=>rw[tno,Lm h]
theorem QfQ{p:Nat->Bool}(S:List Nat)(k:Nat)(h:k<S.length)(hp:p (S.getD k 0)=true):(S.take (k+1)).filter p=(S.take k).filter p++[S.getD k 0]:=by
 rw[LW h,N5];rw[La,Lc h] at hp ⊢;simp at hp;simp[hp]
theorem QhM{p:Nat->Bool}(S:List Nat)(k:Nat)(h:k<S.length)(hp:p (S.getD k 0)=false):(S.take (k+1)).filter p=(S.take k).filter p:=by
 rw[LW h,N5];rw[La,Lc h] at hp;simp at hp;simp[hp]
theorem QfP{p:Nat->Bool}(S:List Nat)(k:Nat):((S.take k).filter p).length<=k:=by
 have h1:=NM p (S.take k);have h2:=List.length_take_le k S;omega
abbrev Wo(h K:Nat)(S:List Nat):Prop := ∀(w:World) (ao:OA) (b off m cap:Nat),Rd w ao b off m S->m<=1048576 ->
 Calls prog 177 #[bv h K,.slice ao m cap] w fun e w' => ∃v,e = .returned v∧Qx w' w.heap.size v (zl (tno h K S))∧Zb w w'
theorem Ok(h K:Nat)(S:List Nat)(hh:h<=40)(hK:K<pw (40 - h))(HI : ∀g q M,h=g+1->q<pw (40 - g)->Wo g q M):Wo h K S:=by
 intro w ao b off m cap r hm;have HS:=fun w'=>Qiu h K w' hh hK
 obtain⟨x,hx⟩:=Ze (K*pw h);obtain⟨y,hy⟩:=Ze ((K+1)*pw h);rw[hx,hy] at HS;have T:=Qhl w (h:Int) K 83;have yA:(m:Int)<=1048576:=by omega
 have HP:Hid (h<=40∧K<pw (40 - h)∧(∀g q M,h=g+1->q<pw (40 - g)->Wo g q M)∧(∀i,inb h K i=true↔x<=i∧i<y)):=⟨hh,hK,HI,fun i=>by rw[QL,hx,hy]⟩
 have HR:Hid (Rd w ao b off m S):=r;clear hh hK HI r hm hx hy
 go_enter func177,ntmps177
 go_upto_region 2 with ((go_at_call 141;with_reducible refine(HS _).mono ?_;rintro e w1 ⟨rfl,xH⟩))
 have HT:Hid (Two w1 w.heap.size (h:Int) K∧Zb w w1):=⟨T.below xH,Qhw xH⟩;clear T xH HS;go_wp2
 go_loopg [7,8] m (fun gg v i wr => ∃k:Nat,k<=m∧gg=m - k∧i = .int .i64 (k:Int)∧Own wr w1.heap.size v ((S.take k).filter (inb h K))∧Zb w1 wr)
 case atStart=>go_light;exact⟨0,Ll _,rfl,rfl,LT _ _ _ _,Lb _ _⟩
 case round =>
  obtain⟨k,hk,rfl,rfl,xA,hb⟩:=hrel;have xZ:(0:Int)<=(k:Int):=Lf _;have xK:(k:Int)<=1048576:=by omega
  obtain⟨ht,xC⟩:=HT.out;have r':=(HR.out.below xC).below hb;have xF:=HR.out.len;have xB:=HP.out.2.2.2
  by_cases hlt:k<m
  ·have xL:(k:Int)<(m:Int):=by omega
   obtain rfl:=r'.addr (by omega)
   have c1:=r'.cell k hlt;have fy:=QfQ (p:=inb h K) S k (by omega)
   have fn:=QhM (p:=inb h K) S k (by omega)
   have xD:=QfP (p:=inb h K) S k;obtain⟨s,hs⟩:=Ze (S.getD k 0);rw[hs] at c1 fy fn
   by_cases hin:x<=s∧s<y
   ·obtain⟨g1,g2⟩:=hin;have xP:(x:Int)<=(s:Int):=by omega
    have xU:(s:Int)<(y:Int):=by omega
    have hf:=fy ((xB s).2 ⟨g1,g2⟩);generalize (S.take k).filter (inb h K)=P at *;have HX:Hid ((S.take (k+1)).filter (inb h K)=P++[s]∧Zb w1 wr∧P.length<=k∧k+1<=m):=⟨hf,hb,xD,hlt⟩;clear fy fn hf xD hs xB xF r' ht xC hb hlt hk
    go_wp2_with (at_builtin;refine Qa1 _ rfl _ _ rfl w1.heap.size _ P rfl (xA.alloc _) _ [s] rfl (QdY wr s 28) ?c1 ?c2 ?_)
    case c1=>have:=HX.out.2.2.1;simp;omega
    case c2=>have:=HX.out.2.1.size;simp;omega
    intro v' w2 r1 r2 _;have R:=Ja HX.out.2.1 HX.out.2.1.size xA r2;clear r2 xA;go_wp2
    go_roundg (m - (k+1))
    case rel =>
     go_light;refine⟨k+1,HX.out.2.2.2,rfl,by go_num,?_,R.1⟩
     rw[HX.out.1];exact r1
    case measure=>go_light;have:=HX.out.2.2.2;omega
   ·have hf:=fn (by
     cases hB:inb h K s with
     | false=>rfl
     | true=>exact absurd ((xB s).1 hB) hin)
    have HX:Hid ((S.take (k+1)).filter (inb h K)=(S.take k).filter (inb h K)∧Zb w1 wr∧k+1<=m):=⟨hf,hb,hlt⟩;clear fy fn hf xD hs xB xF r' ht xC hb hlt hk
    by_cases g1:x<=s
    ·have xP:(x:Int)<=(s:Int):=by omega
     have xU : ¬(s:Int)<(y:Int):=by omega
     have g2 : ¬s<y:=by omega
     go_wp2
     go_roundg (m - (k+1))
     case rel =>
      go_light;refine⟨k+1,HX.out.2.2,rfl,by go_num,?_,HX.out.2.1⟩
      rw[HX.out.1];exact xA
     case measure=>go_light;have:=HX.out.2.2;omega
    ·have xP : ¬(x:Int)<=(s:Int):=by omega
     go_wp2
     go_roundg (m - (k+1))
     case rel =>
      go_light;refine⟨k+1,HX.out.2.2,rfl,by go_num,?_,HX.out.2.1⟩
      rw[HX.out.1];exact xA
     case measure=>go_light;have:=HX.out.2.2;omega
  ·obtain rfl:k=m:=by omega
   have xL : ¬(k:Int)<(k:Int):=by omega
   rw[LD (by omega)] at xA
   have xD:=NM (inb h K) S;obtain⟨t0,t1⟩:=ht.below hb;have HB:Hid (Zb w wr):=Qa xC hb;have xN:Hid (Two wr w.heap.size (h:Int) K):=⟨t0,t1⟩;obtain⟨xO,b7,n7,xE,rfl,r7,_,_⟩:=QnC xA;obtain⟨hh,hK,HI,_⟩:=HP.out;have xY:(h:Int)<=40:=by omega
   have xX:(0:Int)<=(h:Int):=Lf _
   by_cases hz:n7=0
   ·subst hz;have HF:Hid (tno h K S=[(h,K)]):=QkG r7.len;clear HI hK hh HP HR r7 xA xD xC hb ht r' xF xB hlt hk HT xK;go_wp2
    go_ret
    rw[HF.out];exact⟨_,rfl,QlO wr w.heap.size _ [((h:Int),K)] rfl HB.out.size (by simp),bal HB.out _⟩
   ·have yB : ¬(n7:Int)=0:=by omega
    by_cases h0:h=0
    ·subst h0;have HF:Hid (tno 0 K S=[]):=by show _=_;rw[tno,Le (by rw[r7.len];exact hz)]
     clear HI hK hh HP HR r7 xA xD xC hb ht r' xF xB hlt hk HT xK;go_wp2
     go_ret
     rw[HF.out];exact⟨_,rfl,LT _ _ _ _,HB.out⟩
    ·have xW : ¬(h:Int)=0:=by omega
     obtain⟨g,hg⟩ : ∃g,h=g+1:=⟨h - 1,by omega⟩
     subst hg;have HF:Hid (tno (g+1) K S=tno g (2*K) (S.filter (inb (g+1) K))++tno g (2*K+1) (S.filter (inb (g+1) K))):=by show _=_;rw[tno,Le (by rw[r7.len];exact hz)]
     have xQ:=QlA (h:=g) (k:=K) (by omega) hK
     have xJ:=QgV hK;have l1:=Qbp g (2*K) (S.filter (inb (g+1) K));have l2:=Qbp g (2*K+1) (S.filter (inb (g+1) K));have xM:pw g<=pw 40:=JP (by omega)
     have xT:pw 40=2^40:=rfl;have xR:n7<=1048576:=by have:=r7.len;omega
     have I1:=fun w' (hw:Zb wr w')=>HI g (2*K) (S.filter (inb (g+1) K)) rfl (by omega) w' xO b7 0 n7 xE (r7.below hw) xR
     have I2:=fun w' (hw:Zb wr w')=>HI g (2*K+1) (S.filter (inb (g+1) K)) rfl xQ w' xO b7 0 n7 xE (r7.below hw) xR
     have HZ:Hid ((zl (tno g (2*K) (S.filter (inb (g+1) K)))).length+(zl (tno g (2*K+1) (S.filter (inb (g+1) K)))).length<=2199023255552):=by
      show _<=_
      rw[QC,QC];omega
     obtain⟨p,hp⟩:=Ze (2*K);obtain⟨q,hq⟩:=Ze (p+1);rw[hp] at I1 I2 HZ HF;rw[hq] at I2 HZ HF;have eh:IntKind.i64.wrap (((g+1:Nat):Int) - 1)=(g:Int):=by rw[Nd];omega
     have eg:(((g+1:Nat):Int) - 1)=(g:Int):=by omega
     have xV:IntKind.i64.wrap (g:Int)=(g:Int):=by rw[Nd];omega
     have ep:IntKind.u64.wrap (2*(K:Int))=(p:Int):=by rw[IntKind.wrap_u64];omega
     have eq:IntKind.u64.wrap ((p:Int)+1)=(q:Int):=by rw[IntKind.wrap_u64];omega
     generalize S.filter (inb (g+1) K)=F at *;have b0:=Lb wr.heap.size wr;clear HI hK hh HP HR r7 xA xD xC hb ht r' xF xB hlt hk HT xK hp hq l1 l2 xM xT xQ xJ
     go_upto_region 14 with (first
      | (go_at_call 177;with_reducible refine(I1 _ b0).mono ?_;rintro e w2 ⟨v2,rfl,o2,xG⟩;clear t0 t1;obtain⟨t0,t1⟩:=xN.out.below xG)
      | (go_at_call 177;with_reducible refine(I2 _ xG).mono ?_;rintro e w3 ⟨v3,rfl,o3,xI⟩))
     have xS:=(Uc o2 xI).mono (base':=w.heap.size) HB.out.size;have hb:=Qa (Qa HB.out xG) xI;clear o2 xG xI I1 I2 t0 t1 xN HB b0
     go_wp2_with (at_builtin;refine QaZ _ rfl _ _ rfl w.heap.size v2 (zl (tno g p F)) rfl xS v3 (zl (tno g q F)) rfl (O3 o3) HZ.out hb.size ?_)
     intro v' w4 r1 r2;have R:=Jm hb hb.size xS r2;go_wp2
     go_ret
     rw[HF.out,UO];exact⟨_,rfl,r1,R.1⟩
theorem Qec : ∀(h K:Nat) (S:List Nat),h<=40->K<pw (40 - h)->Wo h K S:=by
 intro h
 induction h with
 | zero=>intro K S hh hK;exact Ok 0 K S hh hK (fun g q M hg=>by omega)
 | succ h ih =>
  intro K S hh hK;exact Ok (h+1) K S hh hK (fun g q M hg hq=>by
   obtain rfl:g=h:=by omega
   exact ih q M (by omega) hq)
theorem QaJ(w:World){ops:Array Oper}{rest:List Oper}{o:Oper}{a:Act}{Q:Exit->Act->World->Prop}
  (hg:o.guard=none) (s x:Operand) (hop:o.op=Op.call { callee:=Callee.builtin Builtin.append,args:=#[s,x],argTypes:=#[77,77] })
  (B:Nat) (v:Value) (L:List (Int×Nat)) (hs:a.eval s=v) (hown:Qx w B v L) (u:Value) (M:List (Int×Nat)) (hx:a.eval x=u) (hr:RdC w u M.length (cB M))
  (hlen:L.length+M.length<=4398046511104) (hB:B<=w.heap.size)
  (hK : ∀v' w',Qx w' B v' (L++M)->w.grownBy w' v.ownBlock->(v'.ownBlock=v.ownBlock ∨ ∀g,v'.ownBlock=some g->w.heap.size<=g)->wpList prog ops Q rest (a.put o.dst v') w'):wpList prog ops Q (o::rest) a w:=by
 obtain⟨i0,hi,xA,xB,xC⟩:=info_parts Tryz.infoB;refine QG w hg s x _ hop B 83 i0 (.agg #[.int .i64 0,.int .u64 0]) 2 16 underlying77 hi xA xB xC rfl (by decide) v L.length (cB L) hs hown u M.length (cB M) hx hr (Qw M) (JD M) (by unfold maxLen;omega) (by omega) hB ?_
 intro v' w' h;refine hK v' w' ?_ h.grown h.fresh
 rw[Qx,Qao,Lg];exact h.own
theorem Qfj(n:Nat)(w:World)(ao:OA)(b off m cap:Nat)(l:List Nat)(r:Rd w ao b off m l)(hm:m<=1048576)(he:QR n l=0) :
  Calls prog 150 #[.int .u64 (n:Int),.slice ao m cap] w fun x w' => ∃v,x = .returned (.tuple #[v,.int .i64 0])∧Qx w' w.heap.size v (zl (rst 0 n l))∧Zb w w':=by
 obtain⟨hn,_,_,xH⟩:=QJ he;have ht:decide ((1099511627776:Int)<(n:Int))=false:=Lj (by omega)
 rw[Qni (by omega)] at he
 have HC:=Qkn n w ao b off m cap l r (by unfold maxLen;omega)
 rw[he] at HC;have HM:=fun w'=>QaV n w' hn
 have xE:=OI 0 n (Ll _) hn;rw[QX n hn] at xE;have xC:=O7 n hn l 0 xH;rw[JS n l hn xH] at xC ⊢;have HQ:Hid ((∀b∈dnL 41 0 n,b.1<=40∧b.2<pw (40 - b.1))∧((dnL 41 0 n).flatMap (fun b=>tno b.1 b.2 l)).length<=80*(m+1)∧(dnL 41 0 n).length<=41∧Rd w ao b off m l∧m<=1048576):=⟨Ql6 xE,by rw[r.len] at xC;exact xC,YS 41 0 n,r,hm⟩
 clear hn xH xE xC r hm he;generalize dnL 41 0 n=M at *
 go_enter func150,ntmps150
 go_upto_region 8 with (first
  | (go_at_call 176;with_reducible refine HC.mono ?_;rintro x w0 ⟨rfl,xJ⟩)
  | (go_at_call 86;with_reducible refine(HM _).mono ?_;rintro e w1 ⟨v1,rfl,o1,xK⟩))
 obtain⟨xN,g,M9,xO,rfl,r9,_⟩:=Y4 o1;have HR:Hid (RdB w1 xN g M9 (zl M)∧M.length=M9∧Zb w w1):=⟨r9,by have:=r9.len;rwa [QC] at this,Qa xJ xK⟩
 clear r9 o1 xK xJ HM HC;go_wp2
 go_loopg [7,9] M9 (fun gg v i wr => ∃k:Nat,k<=M9∧gg=M9 - k∧i = .int .i64 (k:Int)∧Qx wr w1.heap.size v (zl ((M.take k).flatMap (fun b=>tno b.1 b.2 l)))∧Zb w1 wr)
 case atStart=>go_light;exact⟨0,Ll _,rfl,rfl,LT _ _ _ _,Lb _ _⟩
 case round =>
  obtain⟨k,hk,rfl,rfl,xA,hb⟩:=hrel;obtain⟨s1,s2,s3⟩:=HR.out;obtain⟨g1,g2,g3,g4,g5⟩:=HQ.out;have xQ:(0:Int)<=(k:Int):=Lf _;have xP:(k:Int)<=41:=by omega
  by_cases hlt:k<M9
  ·have xI:(k:Int)<(M9:Int):=by omega
   have r':=s1.below hb;obtain rfl:=r'.addr (by omega)
   have hc:=r'.cell k hlt;rw[Uz] at hc;have xG:=QiF (t:=fun b=>tno b.1 b.2 l) M k (by omega)
   have xL:=QcK (t:=fun b=>tno b.1 b.2 l) M (k+1)
   have xB:=g1 (M.getD k (0,0)) (by rw[La,Lc (by omega)];exact LG _)
   obtain⟨⟨h,q⟩,hx⟩ : ∃x,M.getD k (0,0)=x:=⟨_,rfl⟩;rw[hx] at hc xB xG;obtain⟨c1,c2⟩:=hc
   dsimp only at c1 c2 xB xG
   have HW:=Qec h q l xB.1 xB.2 wr ao b off m cap ((g4.below s3).below hb) g5;rw[xG,Lg] at xL;generalize (M.take k).flatMap (fun b=>tno b.1 b.2 l)=P at *
   generalize tno h q l=R at *;have HX:Hid ((M.take (k+1)).flatMap (fun b=>tno b.1 b.2 l)=P++R∧Zb w1 wr∧P.length+R.length<=100000000∧k+1<=M9):=⟨xG,hb,by omega,hlt⟩
   clear xG xL xB hx r' s1 s2 s3 g1 g2 g3 g4 g5 hlt hk hb
   go_wp2_with (first
    | (go_at_call 177;with_reducible refine HW.mono ?_;rintro e w2 ⟨v2,rfl,o2,xF⟩)
    | (at_builtin;refine QaJ _ rfl _ _ rfl w1.heap.size _ (zl P) rfl (Uc xA xF) _ (zl R) rfl (O3 o2) ?c1 ?c2 ?_))
   case c1=>have:=HX.out.2.2.1;rw[QC,QC];omega
   case c2=>have:=(Qa HX.out.2.1 xF).size;exact this
   intro v' w3 r1 r2 _;have xD:=Qa HX.out.2.1 xF;have RR:=Jm xD xD.size (Uc xA xF) r2;clear r2 xA o2 xF xD HW;go_wp2
   go_roundg (M9 - (k+1))
   case rel =>
    go_light;refine⟨k+1,HX.out.2.2.2,rfl,by go_num,?_,RR.1⟩
    rw[HX.out.1,UO];exact r1
   case measure=>go_light;have:=HX.out.2.2.2;omega
  ·obtain rfl:k=M9:=by omega
   have xI : ¬(k:Int)<(k:Int):=by omega
   rw[LD (by omega)] at xA
   obtain⟨xM,m8,c8,rfl⟩:=Qj xA;have HF:Hid (Qx wr w.heap.size (.slice xM m8 c8) (zl (M.flatMap (fun b=>tno b.1 b.2 l)))∧Zb w wr):=⟨xA.mono s3.size,Qa s3 hb⟩
   clear s1 s2 s3 g1 g2 g3 g4 g5 hlt hk hb xA HR HQ;go_wp2
   go_ret2
   exact⟨_,rfl,HF.out⟩
end Cv
end Go.Proofs.YtdocjikpcbmcgaaGreatDoor
