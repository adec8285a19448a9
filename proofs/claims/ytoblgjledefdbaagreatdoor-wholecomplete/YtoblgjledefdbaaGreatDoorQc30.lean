/- Own work. -/
import Derived.Test.YtoblgjledefdbaaGreatDoorQc29
set_option maxRecDepth 100000
set_option maxHeartbeats 2000000
namespace Go.Proofs.YtoblgjledefdbaaGreatDoor
open Go.RowKit
attribute [local go_sem ↓] Go.wp_at_zero Go.wp_at_succ
open Go.Proofs.Tryz
structure LF(w0 W:World)(q q2:Nat)(pv:Value)(xb xo xn xc:Nat)(x:BA)(n:Nat)(d:BA)(er:Int)(L:Nat->Bool)(a:Act)(w:World):Prop where
 sz:a.tmps.size=21
 df:a.defers=[]
 i1:a.tmps.getD 1 undef= .slice (some ⟨xb,xo,none⟩) xn xc
 i2:a.tmps.getD 2 undef=Pq q2
 i4:a.tmps.getD 4 undef=Pq q
 b1:L 7=false->Below W.heap.size W w
 b2:Below w0.heap.size w0 w
 a0:L 0=true->a.tmps.getD 9 undef=pv
 a1:L 1=true->a.tmps.getD 10 undef= .slice (some ⟨xb,xo,none⟩) xn xc
 a2:L 2=true->a.tmps.getD 11 undef= .pointer (some ⟨xb,xo,none⟩)
 a3:L 3=true->a.tmps.getD 12 undef= .string x
 a4:L 4=true->a.tmps.getD 13 undef= .tuple #[.agg #[.int .u64 n,.string d],.int .i64 er]
 a5:L 5=true->a.tmps.getD 14 undef= .agg #[.int .u64 n,.string d]
 a6:L 6=true->a.tmps.getD 15 undef= .int .i64 er
 a7:L 7=true->Rh w q n d
 a8:L 8=true->a.tmps.getD 5 undef= .int .i64 er
section
variable {w0 W:World} {q q2:Nat} {pv:Value} {xb xo xn xc:Nat} {x:BA} {n:Nat} {d:BA} {er:Int} {Q:Exit->Act->World->Prop} {ops:List Oper} {ty:TypeId} {ps:String} {af:Array Edge}
theorem lf_0(hds:dep ops 7 0=true)(h6:∀w,Below W.heap.size W w -> ∃v0 v1 v2 v3 v4 v5,pv= .agg #[v0,v1,v2,v3,v4,v5]∧Six w q2 v0 v1 v2 v3 v4 v5):QV prog Q ops (LF w0 W q q2 pv xb xo xn xc x n d er) 0 { dst:=some 9,op:=Op.load 138 (Operand.tmp 2),type:=ty,pos:=ps,after:=af,guard:=none } := by
 intro L a w K hI hj hcl hdep hK;have hs:9<a.tmps.size:=by rw[hI.sz];decide
 have h8:=QT hcl hj hds;have hB:=hI.b1 h8;have t2:=hI.i2;obtain⟨v0,v1,v2,v3,v4,v5,rfl,hx⟩:=h6 w hB;obtain⟨m0,m1,m2,m3,m4,m5⟩:=hx.cells
 show Oper.wp _ _ a w K _
 go_simp
 exact hK _ _ { sz:=(by simp[Act.put,hI.sz]),df:=hI.df,i1:=(by rw[Qb a 9 1 _ hs,Ld (by decide)];exact hI.i1),i2:=(by rw[Qb a 9 2 _ hs,Ld (by decide)];exact hI.i2),i4:=(by rw[Qb a 9 4 _ hs,Ld (by decide)];exact hI.i4),b1:=(fun h=>hI.b1 h),b2:=(hI.b2),a0:=(fun _=>by rw[Qb a 9 9 _ hs,Lm rfl]),a1:=(fun h=>by rw[Qb a 9 10 _ hs,Ld (by decide)];exact hI.a1 h),a2:=(fun h=>by rw[Qb a 9 11 _ hs,Ld (by decide)];exact hI.a2 h),a3:=(fun h=>by rw[Qb a 9 12 _ hs,Ld (by decide)];exact hI.a3 h),a4:=(fun h=>by rw[Qb a 9 13 _ hs,Ld (by decide)];exact hI.a4 h),a5:=(fun h=>by rw[Qb a 9 14 _ hs,Ld (by decide)];exact hI.a5 h),a6:=(fun h=>by rw[Qb a 9 15 _ hs,Ld (by decide)];exact hI.a6 h),a7:=(fun h=>hI.a7 h),a8:=(fun h=>by rw[Qb a 9 5 _ hs,Ld (by decide)];exact hI.a8 h) }
theorem lf_1  : QV prog Q ops (LF w0 W q q2 pv xb xo xn xc x n d er) 1 { dst:=some 10,op:=Op.move (Operand.tmp 1),type:=ty,pos:=ps,after:=af,guard:=none } := by
 intro L a w K hI hj hcl hdep hK;have hs:10<a.tmps.size:=by rw[hI.sz];decide
 have t1:=hI.i1
 show Oper.wp _ _ a w K _
 go_simp
 exact hK _ _ { sz:=(by simp[Act.put,hI.sz]),df:=hI.df,i1:=(by rw[Qb a 10 1 _ hs,Ld (by decide)];exact hI.i1),i2:=(by rw[Qb a 10 2 _ hs,Ld (by decide)];exact hI.i2),i4:=(by rw[Qb a 10 4 _ hs,Ld (by decide)];exact hI.i4),b1:=(fun h=>hI.b1 h),b2:=(hI.b2),a0:=(fun h=>by rw[Qb a 10 9 _ hs,Ld (by decide)];exact hI.a0 h),a1:=(fun _=>by rw[Qb a 10 10 _ hs,Lm rfl]),a2:=(fun h=>by rw[Qb a 10 11 _ hs,Ld (by decide)];exact hI.a2 h),a3:=(fun h=>by rw[Qb a 10 12 _ hs,Ld (by decide)];exact hI.a3 h),a4:=(fun h=>by rw[Qb a 10 13 _ hs,Ld (by decide)];exact hI.a4 h),a5:=(fun h=>by rw[Qb a 10 14 _ hs,Ld (by decide)];exact hI.a5 h),a6:=(fun h=>by rw[Qb a 10 15 _ hs,Ld (by decide)];exact hI.a6 h),a7:=(fun h=>hI.a7 h),a8:=(fun h=>by rw[Qb a 10 5 _ hs,Ld (by decide)];exact hI.a8 h) }
theorem lf_2(d1:(af.toList.any fun e=>e.on == 1 && Region.binds .any e)=true)(hn:0<xn):QV prog Q ops (LF w0 W q q2 pv xb xo xn xc x n d er) 2 { dst:=some 11,op:=Op.indexAddr 22 (Operand.tmp 10) (Operand.const (.int .i64 0)),type:=ty,pos:=ps,after:=af,guard:=none } := by
 intro L a w K hI hj hcl hdep hK;have hs:11<a.tmps.size:=by rw[hI.sz];decide
 have t10:=hI.a1 (hdep 1 d1);have hz:(0:Int)<(xn:Int):=by omega
 show Oper.wp _ _ a w K _
 go_simp
 exact hK _ _ { sz:=(by simp[Act.put,hI.sz]),df:=hI.df,i1:=(by rw[Qb a 11 1 _ hs,Ld (by decide)];exact hI.i1),i2:=(by rw[Qb a 11 2 _ hs,Ld (by decide)];exact hI.i2),i4:=(by rw[Qb a 11 4 _ hs,Ld (by decide)];exact hI.i4),b1:=(fun h=>hI.b1 h),b2:=(hI.b2),a0:=(fun h=>by rw[Qb a 11 9 _ hs,Ld (by decide)];exact hI.a0 h),a1:=(fun h=>by rw[Qb a 11 10 _ hs,Ld (by decide)];exact hI.a1 h),a2:=(fun _=>by rw[Qb a 11 11 _ hs,Lm rfl]),a3:=(fun h=>by rw[Qb a 11 12 _ hs,Ld (by decide)];exact hI.a3 h),a4:=(fun h=>by rw[Qb a 11 13 _ hs,Ld (by decide)];exact hI.a4 h),a5:=(fun h=>by rw[Qb a 11 14 _ hs,Ld (by decide)];exact hI.a5 h),a6:=(fun h=>by rw[Qb a 11 15 _ hs,Ld (by decide)];exact hI.a6 h),a7:=(fun h=>hI.a7 h),a8:=(fun h=>by rw[Qb a 11 5 _ hs,Ld (by decide)];exact hI.a8 h) }
theorem lf_3(d2:(af.toList.any fun e=>e.on == 2 && Region.binds .any e)=true)(hds:dep ops 7 3=true)(hc:∀w,Below W.heap.size W w->w.cell? ⟨xb,xo,none⟩=some (.string x)):QV prog Q ops (LF w0 W q q2 pv xb xo xn xc x n d er) 3 { dst:=some 12,op:=Op.load 9 (Operand.tmp 11),type:=ty,pos:=ps,after:=af,guard:=none } := by
 intro L a w K hI hj hcl hdep hK;have hs:12<a.tmps.size:=by rw[hI.sz];decide
 have h8:=QT hcl hj hds;have hB:=hI.b1 h8;have t11:=hI.a2 (hdep 2 d2);have hcx:=hc w hB
 show Oper.wp _ _ a w K _
 go_simp
 exact hK _ _ { sz:=(by simp[Act.put,hI.sz]),df:=hI.df,i1:=(by rw[Qb a 12 1 _ hs,Ld (by decide)];exact hI.i1),i2:=(by rw[Qb a 12 2 _ hs,Ld (by decide)];exact hI.i2),i4:=(by rw[Qb a 12 4 _ hs,Ld (by decide)];exact hI.i4),b1:=(fun h=>hI.b1 h),b2:=(hI.b2),a0:=(fun h=>by rw[Qb a 12 9 _ hs,Ld (by decide)];exact hI.a0 h),a1:=(fun h=>by rw[Qb a 12 10 _ hs,Ld (by decide)];exact hI.a1 h),a2:=(fun h=>by rw[Qb a 12 11 _ hs,Ld (by decide)];exact hI.a2 h),a3:=(fun _=>by rw[Qb a 12 12 _ hs,Lm rfl]),a4:=(fun h=>by rw[Qb a 12 13 _ hs,Ld (by decide)];exact hI.a4 h),a5:=(fun h=>by rw[Qb a 12 14 _ hs,Ld (by decide)];exact hI.a5 h),a6:=(fun h=>by rw[Qb a 12 15 _ hs,Ld (by decide)];exact hI.a6 h),a7:=(fun h=>hI.a7 h),a8:=(fun h=>by rw[Qb a 12 5 _ hs,Ld (by decide)];exact hI.a8 h) }
theorem lf_4(d0:(af.toList.any fun e=>e.on == 0 && Region.binds .any e)=true)(d3:(af.toList.any fun e=>e.on == 3 && Region.binds .any e)=true)(hds:dep ops 7 4=true)(hR:∀w,Below W.heap.size W w->Calls prog 149 #[pv,.string x] w fun e w'=>e= .returned (.tuple #[.agg #[.int .u64 n,.string d],.int .i64 er])∧Below w.heap.size w w'):QV prog Q ops (LF w0 W q q2 pv xb xo xn xc x n d er) 4 { dst:=some 13,op:=Op.call { callee:=Callee.value (Operand.func 149),args:=#[Operand.tmp 9,Operand.tmp 12],argTypes:=#[138,9] },type:=ty,pos:=ps,after:=af,guard:=none } := by
 intro L a w K hI hj hcl hdep hK;have hs:13<a.tmps.size:=by rw[hI.sz];decide
 have h8:=QT hcl hj hds;have hB:=hI.b1 h8;have t9:=hI.a0 (hdep 0 d0);have t12:=hI.a3 (hdep 3 d3)
 show Oper.wp _ _ a w K _
 go_simp
 refine(hR w hB).mono ?_
 rintro e w' ⟨rfl,hb⟩;exact hK _ _ { sz:=(by simp[Act.put,hI.sz]),df:=hI.df,i1:=(by rw[Qb a 13 1 _ hs,Ld (by decide)];exact hI.i1),i2:=(by rw[Qb a 13 2 _ hs,Ld (by decide)];exact hI.i2),i4:=(by rw[Qb a 13 4 _ hs,Ld (by decide)];exact hI.i4),b1:=(fun _=>Qa hB hb),b2:=(Qa hI.b2 hb),a0:=(fun h=>by rw[Qb a 13 9 _ hs,Ld (by decide)];exact hI.a0 h),a1:=(fun h=>by rw[Qb a 13 10 _ hs,Ld (by decide)];exact hI.a1 h),a2:=(fun h=>by rw[Qb a 13 11 _ hs,Ld (by decide)];exact hI.a2 h),a3:=(fun h=>by rw[Qb a 13 12 _ hs,Ld (by decide)];exact hI.a3 h),a4:=(fun _=>by rw[Qb a 13 13 _ hs,Lm rfl]),a5:=(fun h=>by rw[Qb a 13 14 _ hs,Ld (by decide)];exact hI.a5 h),a6:=(fun h=>by rw[Qb a 13 15 _ hs,Ld (by decide)];exact hI.a6 h),a7:=(fun h=>by rw[show(if (7:Nat)=4 then true else L 7)=L 7 from rfl,h8] at h;cases h),a8:=(fun h=>by rw[Qb a 13 5 _ hs,Ld (by decide)];exact hI.a8 h) }
theorem lf_5(d4:(af.toList.any fun e=>e.on == 4 && Region.binds .any e)=true):QV prog Q ops (LF w0 W q q2 pv xb xo xn xc x n d er) 5 { dst:=some 14,op:=Op.extract (Operand.tmp 13) 0,type:=ty,pos:=ps,after:=af,guard:=none } := by
 intro L a w K hI hj hcl hdep hK;have hs:14<a.tmps.size:=by rw[hI.sz];decide
 have t13:=hI.a4 (hdep 4 d4)
 show Oper.wp _ _ a w K _
 go_simp
 exact hK _ _ { sz:=(by simp[Act.put,hI.sz]),df:=hI.df,i1:=(by rw[Qb a 14 1 _ hs,Ld (by decide)];exact hI.i1),i2:=(by rw[Qb a 14 2 _ hs,Ld (by decide)];exact hI.i2),i4:=(by rw[Qb a 14 4 _ hs,Ld (by decide)];exact hI.i4),b1:=(fun h=>hI.b1 h),b2:=(hI.b2),a0:=(fun h=>by rw[Qb a 14 9 _ hs,Ld (by decide)];exact hI.a0 h),a1:=(fun h=>by rw[Qb a 14 10 _ hs,Ld (by decide)];exact hI.a1 h),a2:=(fun h=>by rw[Qb a 14 11 _ hs,Ld (by decide)];exact hI.a2 h),a3:=(fun h=>by rw[Qb a 14 12 _ hs,Ld (by decide)];exact hI.a3 h),a4:=(fun h=>by rw[Qb a 14 13 _ hs,Ld (by decide)];exact hI.a4 h),a5:=(fun _=>by rw[Qb a 14 14 _ hs,Lm rfl]),a6:=(fun h=>by rw[Qb a 14 15 _ hs,Ld (by decide)];exact hI.a6 h),a7:=(fun h=>hI.a7 h),a8:=(fun h=>by rw[Qb a 14 5 _ hs,Ld (by decide)];exact hI.a8 h) }
theorem lf_6(d4:(af.toList.any fun e=>e.on == 4 && Region.binds .any e)=true):QV prog Q ops (LF w0 W q q2 pv xb xo xn xc x n d er) 6 { dst:=some 15,op:=Op.extract (Operand.tmp 13) 1,type:=ty,pos:=ps,after:=af,guard:=none } := by
 intro L a w K hI hj hcl hdep hK;have hs:15<a.tmps.size:=by rw[hI.sz];decide
 have t13:=hI.a4 (hdep 4 d4)
 show Oper.wp _ _ a w K _
 go_simp
 exact hK _ _ { sz:=(by simp[Act.put,hI.sz]),df:=hI.df,i1:=(by rw[Qb a 15 1 _ hs,Ld (by decide)];exact hI.i1),i2:=(by rw[Qb a 15 2 _ hs,Ld (by decide)];exact hI.i2),i4:=(by rw[Qb a 15 4 _ hs,Ld (by decide)];exact hI.i4),b1:=(fun h=>hI.b1 h),b2:=(hI.b2),a0:=(fun h=>by rw[Qb a 15 9 _ hs,Ld (by decide)];exact hI.a0 h),a1:=(fun h=>by rw[Qb a 15 10 _ hs,Ld (by decide)];exact hI.a1 h),a2:=(fun h=>by rw[Qb a 15 11 _ hs,Ld (by decide)];exact hI.a2 h),a3:=(fun h=>by rw[Qb a 15 12 _ hs,Ld (by decide)];exact hI.a3 h),a4:=(fun h=>by rw[Qb a 15 13 _ hs,Ld (by decide)];exact hI.a4 h),a5:=(fun h=>by rw[Qb a 15 14 _ hs,Ld (by decide)];exact hI.a5 h),a6:=(fun _=>by rw[Qb a 15 15 _ hs,Lm rfl]),a7:=(fun h=>hI.a7 h),a8:=(fun h=>by rw[Qb a 15 5 _ hs,Ld (by decide)];exact hI.a8 h) }
theorem lf_7(d5:(af.toList.any fun e=>e.on == 5 && Region.binds .any e)=true)(hq:∀w,Below W.heap.size W w -> ∃n9 d9,Rh w q n9 d9)(hq0:w0.heap.size<=q):QV prog Q ops (LF w0 W q q2 pv xb xo xn xc x n d er) 7 { dst:=none,op:=Op.store 50 (Operand.tmp 4) (Operand.tmp 14),type:=ty,pos:=ps,after:=af,guard:=none } := by
 intro L a w K hI hj hcl hdep hK;have t4:=hI.i4;have t14:=hI.a5 (hdep 5 d5);have hB:=hI.b1 hj;obtain⟨n9,d9,g4⟩:∃n9 d9,Rh w q n9 d9:=hq w hB;obtain⟨k0,k1⟩:=g4.cells;have fz:=g4.fz;have hch:=Uz w q n d;have hpt:=g4.put n d;unfold putR at hch hpt
 show Oper.wp _ _ a w K _
 go_simp
 exact hK undef _ { sz:=hI.sz,df:=hI.df,i1:=(by exact hI.i1),i2:=(by exact hI.i2),i4:=(by exact hI.i4),b1:=(fun h=>by cases h),b2:=(hI.b2.trans (hch.below (by rintro b rfl;exact hq0))),a0:=(fun h=>by exact hI.a0 h),a1:=(fun h=>by exact hI.a1 h),a2:=(fun h=>by exact hI.a2 h),a3:=(fun h=>by exact hI.a3 h),a4:=(fun h=>by exact hI.a4 h),a5:=(fun h=>by exact hI.a5 h),a6:=(fun h=>by exact hI.a6 h),a7:=(fun _=>hpt),a8:=(fun h=>by exact hI.a8 h) }
theorem lf_8(d6:(af.toList.any fun e=>e.on == 6 && Region.binds .any e)=true):QV prog Q ops (LF w0 W q q2 pv xb xo xn xc x n d er) 8 { dst:=some 5,op:=Op.assign (Operand.tmp 15),type:=ty,pos:=ps,after:=af,guard:=none } := by
 intro L a w K hI hj hcl hdep hK;have hs:5<a.tmps.size:=by rw[hI.sz];decide
 have t15:=hI.a6 (hdep 6 d6)
 show Oper.wp _ _ a w K _
 go_simp
 exact hK _ _ { sz:=(by simp[Act.put,hI.sz]),df:=hI.df,i1:=(by rw[Qb a 5 1 _ hs,Ld (by decide)];exact hI.i1),i2:=(by rw[Qb a 5 2 _ hs,Ld (by decide)];exact hI.i2),i4:=(by rw[Qb a 5 4 _ hs,Ld (by decide)];exact hI.i4),b1:=(fun h=>hI.b1 h),b2:=(hI.b2),a0:=(fun h=>by rw[Qb a 5 9 _ hs,Ld (by decide)];exact hI.a0 h),a1:=(fun h=>by rw[Qb a 5 10 _ hs,Ld (by decide)];exact hI.a1 h),a2:=(fun h=>by rw[Qb a 5 11 _ hs,Ld (by decide)];exact hI.a2 h),a3:=(fun h=>by rw[Qb a 5 12 _ hs,Ld (by decide)];exact hI.a3 h),a4:=(fun h=>by rw[Qb a 5 13 _ hs,Ld (by decide)];exact hI.a4 h),a5:=(fun h=>by rw[Qb a 5 14 _ hs,Ld (by decide)];exact hI.a5 h),a6:=(fun h=>by rw[Qb a 5 15 _ hs,Ld (by decide)];exact hI.a6 h),a7:=(fun h=>hI.a7 h),a8:=(fun _=>by rw[Qb a 5 5 _ hs,Lm rfl]) }
end
theorem QfB(w:World)(k:Int)(old size:Nat)(sa:OA)(ns sc:Nat)(da:OA)(dn dc:Nat)(xa:OA)(xb xo xn xc:Nat)(X:LB)(hx:RdS w xa xb xo xn X)(h0:0<xn)(n:Nat)(d:BA)(er:Int)
  (hR:∀W,Below w.heap.size w W->Calls prog 149 #[vP 1 k old size (.slice sa ns sc) (.slice da dn dc),.string (X.getD 0 ByteArray.empty)] W fun e w'=>e= .returned (.tuple #[.agg #[.int .u64 n,.string d],.int .i64 er])∧Below W.heap.size W w') :
  Calls prog 89 #[vP 1 k old size (.slice sa ns sc) (.slice da dn dc),.slice xa xn xc] w fun e w'=>e= .returned (.tuple #[.agg #[.int .u64 n,.string d],.int .i64 er])∧Below w.heap.size w w':=by
 obtain rfl:=hx.ptr h0;obtain⟨W0,hW0⟩:∃W0,(w.alloc (.cells #[.int .i64 1,.int .i64 k,.int .u64 old,.int .u64 size,.slice sa ns sc,.slice da dn dc] 138)).alloc (.cells #[.int .u64 0,.string ⟨#[]⟩] 50)=W0:=⟨_,rfl⟩;have hb0:Below w.heap.size w W0:=by rw[<-hW0];exact bal (bal (Lb _ _) _) _
 obtain⟨h6,hr0⟩:Six W0 w.heap.size (.int .i64 1) (.int .i64 k) (.int .u64 old) (.int .u64 size) (.slice sa ns sc) (.slice da dn dc)∧Rh W0 (w.heap.size+1) 0 ⟨#[]⟩:=by
  obtain⟨e1,e2⟩:=QX w (.cells #[.int .i64 1,.int .i64 k,.int .u64 old,.int .u64 size,.slice sa ns sc,.slice da dn dc] 138) (.cells #[.int .u64 0,.string ⟨#[]⟩] 50);rw[<-hW0];exact⟨e1,e2⟩
 have hb0':Below w.heap.size w W0:=hb0;have m0:=h6.cells.1;have HX:=Qd (LO hx (LO hb0 (LO h6 hr0)));have HR:=Qd hR;unfold vP at HR;clear hx hb0 h6 hr0 hR;unfold vP
 go_enter func89,ntmps89
 go_upto_region 1 with (fail)
 try rw[hW0]
 clear hW0
 go_upto_region 2 with (fail)
 refine YD (by kernel_rfl) (by kernel_rfl) (LF w W0 (w.heap.size+1) w.heap.size (.agg #[.int .i64 1,.int .i64 k,.int .u64 old,.int .u64 size,.slice sa ns sc,.slice da dn dc]) xb xo xn xc (X.getD 0 ByteArray.empty) n d er)
  (fun Z _ hZ=> { sz:=rfl,df:=rfl,i1:=rfl,i2:=rfl,i4:=rfl,b1:=(fun _=>hZ),b2:=(Qa hb0' hZ),a0:=(fun h=>by cases h),a1:=(fun h=>by cases h),a2:=(fun h=>by cases h),a3:=(fun h=>by cases h),a4:=(fun h=>by cases h),a5:=(fun h=>by cases h),a6:=(fun h=>by cases h),a7:=(fun h=>by cases h),a8:=(fun h=>by cases h) })
  ⟨lf_0 rfl (fun Z hZ=>⟨_,_,_,_,_,_,rfl,HX.out.2.2.1.next hZ⟩),lf_1,lf_2 rfl h0,lf_3 rfl rfl (fun Z hZ=>by have:=(HX.out.1.next (Qa hb0' hZ) (La _)).at h0;exact this),lf_4 rfl rfl rfl (fun Z hZ=>HR.out Z (Qa hb0' hZ)),lf_5 rfl,lf_6 rfl,lf_7 rfl (fun Z hZ=>⟨_,_,HX.out.2.2.2.next hZ⟩) (by omega),lf_8 rfl,trivial⟩ ?_
 intro L a7 w7 hall hI;obtain⟨⟨tl⟩,df⟩:=a7;have hl0:tl.length=21:=hI.sz;obtain⟨u0,t0,rfl,hl1⟩:=Qf hl0;obtain⟨u1,t1,rfl,hl2⟩:=Qf hl1;obtain⟨u2,t2,rfl,hl3⟩:=Qf hl2;obtain⟨u3,t3,rfl,hl4⟩:=Qf hl3;obtain⟨u4,t4,rfl,hl5⟩:=Qf hl4;obtain⟨u5,t5,rfl,hl6⟩:=Qf hl5;obtain⟨u6,t6,rfl,hl7⟩:=Qf hl6;obtain⟨u7,t7,rfl,hl8⟩:=Qf hl7;obtain⟨u8,t8,rfl,hl9⟩:=Qf hl8;obtain⟨u9,t9,rfl,hl10⟩:=Qf hl9;obtain⟨u10,t10,rfl,hl11⟩:=Qf hl10;obtain⟨u11,t11,rfl,hl12⟩:=Qf hl11;obtain⟨u12,t12,rfl,hl13⟩:=Qf hl12;obtain⟨u13,t13,rfl,hl14⟩:=Qf hl13;obtain⟨u14,t14,rfl,hl15⟩:=Qf hl14;obtain⟨u15,t15,rfl,hl16⟩:=Qf hl15;obtain⟨u16,t16,rfl,hl17⟩:=Qf hl16;obtain⟨u17,t17,rfl,hl18⟩:=Qf hl17;obtain⟨u18,t18,rfl,hl19⟩:=Qf hl18;obtain⟨u19,t19,rfl,hl20⟩:=Qf hl19;obtain⟨u20,t20,rfl,hl21⟩:=Qf hl20;obtain rfl:=List.length_eq_zero_iff.1 hl21;obtain rfl:df=[]:=hI.df;obtain rfl:u4= .pointer (some ⟨w.heap.size+1,0,none⟩):=hI.i4;obtain rfl:u5= .int .i64 er:=hI.a8 (hall 8 (by decide))
 obtain⟨s0,s1⟩:=(hI.a7 (hall 7 (by decide))).cells
 have HB:=Qd hI.b2;clear hall hI
 repeat go_step
 refine LK (v := .tuple #[.agg #[.int .u64 n,.string d],.int .i64 er]) (by simp[results,results89,go_sem,s0,s1]) rfl ⟨rfl,HB.out⟩
section
open Cv (RdC)
theorem Tryz.infoK:(prog.info? 93).map (fun i=>(i.zero,i.size,i.bytes))=some (some (.agg #[.int .u64 0,.string ByteArray.empty]),2,24):=by kernel_rfl
theorem Qoe(l:List (Nat×BA)):∀u∈cK l,u.oneCell'=true:=by
 induction l with
 | nil=>intro u hu;cases hu
 | cons c l ih=>
  intro u hu;rw[Qcx] at hu;simp only[List.mem_cons] at hu
  rcases hu with rfl|rfl|hu
  ·rfl
  ·rfl
  ·exact ih u hu
def Ok(w:World)(B:Nat)(v:Value)(l:List (Nat×BA)):Prop:=w.ownsRow B 93 2 v l.length (cK l)
theorem Qkv(w:World)(B:Nat):Ok w B (.slice none 0 0) []:=⟨rfl,.inl ⟨rfl,rfl⟩⟩
theorem Qam{w W:World}{B:Nat}{v:Value}{l:List (Nat×BA)}(h:Ok w B v l)(hb:Below w.heap.size w W):Ok W B v l :=
 Qj h fun g hg _=>hb.block g (LY h g hg).2
theorem QhY{w:World}{B B':Nat}{v:Value}{l:List (Nat×BA)}(h:Ok w B v l)(hB:B'<=B):Ok w B' v l:=World.ownsRow.mono h hB
theorem QmX{w:World}{B:Nat}{v:Value}{l:List (Nat×BA)}(h:Ok w B v l)(hs:∀c∈l,c.2.size<=9223372036854775807):∃ao b cap,v= .slice ao l.length cap∧RdK w ao b 0 l.length l∧l.length<=cap∧(ao=none->cap=0):=by
 have h0:w.ownsRow B 93 2 v l.length (cK l):=h
 rcases h0.2 with ⟨hv,h2⟩|⟨g,cap,cur,rfl,hg,hh,hc1,hc2,hc3,hc4⟩
 ·have:l=[]:=List.length_eq_zero_iff.1 h2;subst this;exact⟨none,0,0,by rw[hv];rfl,Qm7 w none,La _,fun _=>rfl⟩
 ·refine⟨Zp g,g,cap,rfl,⟨rfl,fun _=>rfl,fun j v hv=> ?_,hs⟩,hc1,fun h=>by cases h⟩
  have:=h0.cells (g:=g) rfl j v hv;rw[Addr.add_mid] at this;exact this
theorem QoZ(w:World)(i:Nat)(s:BA):RdC (w.alloc (.cells #[.int .u64 i,.string s] 93)) (.slice (Zp w.heap.size) 1 1) 1 (cK [(i,s)]):=by
 refine⟨Zp w.heap.size,1,rfl,(fun h=>by cases h),fun ad ha j c hj=> ?_⟩
 cases ha;rw[Addr.add_mid,Lo,cell_of_row _ _ _ _ _ (0,0) (Lt w _)]
 match j,hj with
 | 0,hj=>exact hj
 | 1,hj=>exact hj
end
section
open Cv (RdC zl)
theorem Qf1{w:World}{s:Nat}{a b c:Value}(h0:w.cell? ⟨s,0,none⟩=some a)(h1:w.cell? ⟨s,1,none⟩=some b)(h2:w.cell? ⟨s,2,none⟩=some c)(x y z:Value) :
  (((w.setCell ⟨s,0,none⟩ x).setCell ⟨s,1,none⟩ y).setCell ⟨s,2,none⟩ z).cell? ⟨s,0,none⟩=some x∧(((w.setCell ⟨s,0,none⟩ x).setCell ⟨s,1,none⟩ y).setCell ⟨s,2,none⟩ z).cell? ⟨s,1,none⟩=some y∧(((w.setCell ⟨s,0,none⟩ x).setCell ⟨s,1,none⟩ y).setCell ⟨s,2,none⟩ z).cell? ⟨s,2,none⟩=some z:=by
 have n1:(⟨s,0,none⟩:Addr)≠⟨s,1,none⟩:=by simp
 have n2:(⟨s,0,none⟩:Addr)≠⟨s,2,none⟩:=by simp
 have n3:(⟨s,1,none⟩:Addr)≠⟨s,2,none⟩:=by simp
 have m1:(w.setCell ⟨s,0,none⟩ x).cell? ⟨s,1,none⟩=some b:=(Lq _ _ _ _ (by simp)).trans h1
 have m2:((w.setCell ⟨s,0,none⟩ x).setCell ⟨s,1,none⟩ y).cell? ⟨s,2,none⟩=some c:=(Lq _ _ _ _ (by simp)).trans ((Lq _ _ _ _ (by simp)).trans h2)
 refine⟨?_,?_,LX _ _ _ m2⟩
 ·refine(Lq _ _ _ _ (by simp)).trans ((Lq _ _ _ _ (by simp)).trans (LX _ _ _ h0))
 ·exact(Lq _ _ _ _ (by simp)).trans (LX _ _ _ m1)
theorem fin3{W0 WF:World}{p s:Nat}(hps:s≠p){a b c:Value}(h0:W0.cell? ⟨s,0,none⟩=some a)(h1:W0.cell? ⟨s,1,none⟩=some b)(h2:W0.cell? ⟨s,2,none⟩=some c)(v1 v2 x y z:Value)
  (hWF:(((((W0.setCell ⟨p,1,none⟩ v1).setCell ⟨p,2,none⟩ v2).setCell ⟨s,0,none⟩ x).setCell ⟨s,1,none⟩ y).setCell ⟨s,2,none⟩ z).drew=WF) :
  (WF.cell? ⟨s,0,none⟩=some x∧WF.cell? ⟨s,1,none⟩=some y∧WF.cell? ⟨s,2,none⟩=some z)∧ChT (fun b=>b=p∨b=s) W0 WF:=by
 obtain⟨V,hV⟩:∃V,(W0.setCell ⟨p,1,none⟩ v1).setCell ⟨p,2,none⟩ v2=V:=⟨_,rfl⟩;have hq3:∀t,V.cell? ⟨s,t,none⟩=W0.cell? ⟨s,t,none⟩:=fun t=>by
  rw[<-hV,Lq _ _ _ _ (fun e=>hps (LW Addr.block e).symm),Lq _ _ _ _ (fun e=>hps (LW Addr.block e).symm)]
 have hc:=((ChT.refl (fun b=>b=p∨b=s) W0).set p 1 v1 (.inl rfl)).set p 2 v2 (.inl rfl)
 rw[hV] at hc hWF;have r:=Qf1 ((hq3 0).trans h0) ((hq3 1).trans h1) ((hq3 2).trans h2) x y z;have hc2:=((hc.set s 0 x (.inr rfl)).set s 1 y (.inr rfl)).set s 2 z (.inr rfl);generalize ((V.setCell ⟨s,0,none⟩ x).setCell ⟨s,1,none⟩ y).setCell ⟨s,2,none⟩ z=U at r hc2 hWF;subst hWF;exact⟨by rw[Nn,Nn,Nn];exact r,hc2.drew⟩
def Ly(w:World)(g:Nat)(M:List (Nat×Nat)):Prop := ∀t c,(Cv.cB (zl M))[t]? = some c->w.cell? ⟨g,t,none⟩=some c
theorem Ly.same{w W:World}{g:Nat}{M:List (Nat×Nat)}(h:Ly w g M)(hb:W.heap[g]? = w.heap[g]?):Ly W g M:=fun t c ht=>(LI (a:=⟨g,t,none⟩) hb).trans (h t c ht)
theorem QoW{W:World}{g cap:Nat}{M A B:List (Nat×Nat)}{x:Nat×Nat}(h:Ly W g M)(hM:M=A++x::B):RdC W (.slice (Zp g) A.length cap) A.length (Cv.cB (zl A)):=by
 refine⟨_,_,rfl,(fun e=>by cases e),fun ad ha t c ht=> ?_⟩
 cases ha;rw[Addr.add_mid,Lo];refine h t c ?_
 rw[hM,Cv.UG,Cv.Qab,LE ((List.getElem?_eq_some_iff.1 ht).1)]
 exact ht
theorem QoX{W:World}{g cap c':Nat}{M A B:List (Nat×Nat)}{x:Nat×Nat}(h:Ly W g M)(hM:M=A++x::B)(hc:M.length<=cap){ax:OA}(hax:(if cap=A.length+1 then some (⟨g,0,none⟩:Addr) else some ⟨g,(A.length+1)*2,none⟩)=ax):RdC W (.slice ax B.length c') B.length (Cv.cB (zl B)):=by
 refine⟨_,_,rfl,(fun e=>by rw[e] at hax;split at hax <;> cases hax),fun ad ha t c ht=> ?_⟩
 have htl:=(List.getElem?_eq_some_iff.1 ht).1
 rw[Cv.Qu,Cv.Qy] at htl;have hml:=LW List.length hM;rw[Le,LD] at hml;rw[Ld (by omega),ha] at hax
 cases hax;rw[Addr.add_mid];refine h _ c ?_
 have e:zl M=zl (A++[x])++zl B:=by rw[<-Cv.UG,hM,LH];rfl
 rw[e,Cv.Qab,LQ (by rw[Cv.Qu,Cv.Qy];simp),Cv.Qu,Cv.Qy]
 rw[show(A.length+1)*2+t-(A++[x]).length*2=t by simp]
 exact ht
structure WS(w1 wr:World)(p h q:Nat)(vb:Value)(l:List (Int×Nat)):Prop where
 c7:wr.heap[p]? = some (.cells #[vb,.slice none 0 0,.slice none 0 0] 225 (0,0))
 c8:wr.heap[p+1]? = some (.cells #[.int .i64 h,.int .u64 q] 249 (0,0))
 own:Cv.Yb wr (p+2) vb l
 bl:Below p w1 wr
theorem WS.sz{w1 wr:World}{p h q:Nat}{vb:Value}{l:List (Int×Nat)}(h1:WS w1 wr p h q vb l):p+2<=wr.heap.size:=(Array.getElem?_eq_some_iff.1 h1.c8).1
theorem WS.next{w1 wr W:World}{p h q:Nat}{vb:Value}{l:List (Int×Nat)}(h1:WS w1 wr p h q vb l)(hb:Below wr.heap.size wr W):WS w1 W p h q vb l:=by
 have:=h1.sz;exact⟨(hb.block p (by omega)).trans h1.c7,(hb.block (p+1) (by omega)).trans h1.c8,Cv.Qcg h1.own hb,h1.bl.trans (hb.mono (by omega))⟩
theorem WS.cells{w1 wr:World}{p h q:Nat}{vb:Value}{l:List (Int×Nat)}(h1:WS w1 wr p h q vb l):(wr.cell? ⟨p,0,none⟩=some vb∧wr.cell? ⟨p,1,none⟩=some (.slice none 0 0)∧wr.cell? ⟨p,2,none⟩=some (.slice none 0 0))∧(wr.cell? ⟨p+1,0,none⟩=some (.int .i64 h)∧wr.cell? ⟨p+1,1,none⟩=some (.int .u64 q)) ∧ ∀j,wr.frozen? ⟨p,j,none⟩=false∧wr.frozen? ⟨p+1,j,none⟩=false :=
  ⟨⟨by rw[cell_of_row wr p 0 _ _ (0,0) h1.c7];rfl,by rw[cell_of_row wr p 1 _ _ (0,0) h1.c7];rfl,by rw[cell_of_row wr p 2 _ _ (0,0) h1.c7];rfl⟩,
   ⟨by rw[cell_of_row wr (p+1) 0 _ _ (0,0) h1.c8];rfl,by rw[cell_of_row wr (p+1) 1 _ _ (0,0) h1.c8];rfl⟩,fun j=>⟨frozen_of_row wr p j _ _ h1.c7,frozen_of_row wr (p+1) j _ _ h1.c8⟩⟩
theorem WS.step{w1 wr w2:World}{p h q:Nat}{vb v':Value}{l l':List (Int×Nat)}{o:Obj}(h1:WS w1 wr p h q vb l)(hg:(wr.alloc o).grownBy w2 vb.ownBlock)(ho:Cv.Yb w2 (p+2) v' l')(h' q':Nat) :
  (w2.cell? ⟨p,0,none⟩=some vb∧w2.cell? ⟨p+1,0,none⟩=some (.int .i64 h)∧w2.cell? ⟨p+1,1,none⟩=some (.int .u64 q)∧w2.frozen? ⟨p,0,none⟩=false∧w2.frozen? ⟨p+1,0,none⟩=false∧w2.frozen? ⟨p+1,1,none⟩=false) ∧
  WS w1 (((w2.setCell ⟨p,0,none⟩ v').setCell ⟨p+1,0,none⟩ (.int .i64 h')).setCell ⟨p+1,1,none⟩ (.int .u64 q')) p h' q' v' l':=by
 have hs:=h1.sz;have hbl:∀b,b<p+2->w2.heap[b]? = wr.heap[b]? := fun b hb=>by
  rw[hg.block b (by simp;omega) (fun e=>by have:=(h1.own.lt b e.symm).1;omega)]
  exact Below.heap_alloc _ _ _ (by omega)
 have e7:=(hbl p (by omega)).trans h1.c7
 have e8:=(hbl (p+1) (by omega)).trans h1.c8
 refine⟨⟨by rw[cell_of_row w2 p 0 _ _ (0,0) e7];rfl,by rw[cell_of_row w2 (p+1) 0 _ _ (0,0) e8];rfl,by rw[cell_of_row w2 (p+1) 1 _ _ (0,0) e8];rfl,frozen_of_row w2 p 0 _ _ e7,frozen_of_row w2 (p+1) 0 _ _ e8,frozen_of_row w2 (p+1) 1 _ _ e8⟩,?_⟩
 have s7:(w2.setCell ⟨p,0,none⟩ v').heap[p]? = some (.cells #[v',.slice none 0 0,.slice none 0 0] 225 (0,0)):=Lp w2 p 0 _ _ _ e7;have s8:(w2.setCell ⟨p,0,none⟩ v').heap[p+1]? = some (.cells #[.int .i64 h,.int .u64 q] 249 (0,0)):=(Below.heap_setCell _ _ _ _ (by show p+1≠p;omega)).trans e8
 have t8:((w2.setCell ⟨p,0,none⟩ v').setCell ⟨p+1,0,none⟩ (.int .i64 h')).heap[p+1]? = some (.cells #[.int .i64 h',.int .u64 q] 249 (0,0)):=Lp _ (p+1) 0 _ _ _ s8;have t7:=(Below.heap_setCell (w2.setCell ⟨p,0,none⟩ v') ⟨p+1,0,none⟩ (.int .i64 h') p (by show p≠p+1;omega)).trans s7
 refine⟨(Below.heap_setCell _ _ _ _ (by show p≠p+1;omega)).trans t7,Lp _ (p+1) 1 _ _ _ t8,?_,?_⟩
 ·refine Qj ho fun g _ hg=> ?_
  rw[Below.heap_setCell _ _ _ _ (by show g≠p+1;omega),Below.heap_setCell _ _ _ _ (by show g≠p+1;omega),Below.heap_setCell _ _ _ _ (by show g≠p;omega)]
 ·have hb2:Below p wr w2:=((Lb p wr).alloc (by omega) o).grown hg (by simp;omega) fun k hk=>by have:=(h1.own.lt k hk).1;omega
  exact(((h1.bl.trans hb2).setCell (p:=⟨p,0,none⟩) (La _) _).setCell (p:=⟨p+1,0,none⟩) (by show p<=p+1;omega) _).setCell (p:=⟨p+1,1,none⟩) (by show p<=p+1;omega) _
theorem Qg7(w:World)(n i H:Nat)(A B:List (Nat×Nat))(hw:Wy n i A H B)(hn:n<=2^40)(hi:i<n) :
  Calls prog 146 #[.int .u64 n,.int .u64 i] w fun e w'=> ∃vb va vc,e= .returned (.agg #[vb,va,vc])∧RdC w' vb H (Cv.cB (zl (bes i H)))∧RdC w' va A.length (Cv.cB (zl A))∧RdC w' vc B.length (Cv.cB (zl B))∧Below w.heap.size w w':=by
 obtain⟨M,hM⟩:∃M,Cv.dnL 41 0 n=M:=⟨_,rfl⟩;have hin:=Qji n hn;rw[hM] at hin;have HM:Hid (∀W,Calls prog 105 #[.int .u64 n] W fun x w'=> ∃g cap,x= .returned (.tuple #[.slice (Zp g) M.length cap,.int .i64 0])∧RdB w' (Zp g) g 0 M.length (zl M)∧M.length<=cap∧cap<=maxLen∧g<w'.heap.size∧W.heap.size<=g∧Ly w' g M∧Below W.heap.size W w'):=fun W=>by
  have:=Cv.Yj n W;rw[(QaP n hn).1,(QaP n hn).2,hM] at this;refine this.mono fun x w' ⟨v,e1,e2,e3⟩=> ?_
  have hne:0<(zl M).length:=by rw[Cv.Qy,<-hM,hw.all,Le,LD];omega
  obtain⟨ao,g,m,cap,rfl,r1,r2⟩:=Jd e2 (fun b hb=>by
   obtain⟨c,hc,rfl⟩:=List.mem_map.1 hb;exact(Qbe (hin c hc) hn).1)
  have hl:=r1.len;subst hl;obtain rfl:=r1.addr hne;obtain⟨g',cap',cur,hv,hg,hh,hc1,hc2,_⟩:=e2.2.resolve_left (by rintro⟨_,h0⟩;omega)
  cases hv;have hcl:Ly w' g M:=fun t c ht=>by
   have:=e2.cells (g:=g) rfl t c ht
   rwa [Addr.add_mid,Lo] at this
  rw[Cv.Qy] at e1 r1 hc1;exact⟨g,cap,e1,r1,hc1,hc2,(Array.getElem?_eq_some_iff.1 hh).1,hg,hcl,e3⟩
 have hlen:M.length<=41:=by rw[<-hM];exact Cv.Qah 41 0 n
 have HW:Hid (Wy n i A H B∧Cv.dnL 41 0 n=M∧M.length<=41∧i<2^40 ∧ ∀b∈M,(b.2+1)*2^b.1<=n):=⟨hw,hM,hlen,by omega,hin⟩
 have hl63:(M.length:Int)<=41:=by omega
 clear hw hM hin hn hi
 go_enter func146,ntmps146;go_wp2
 go_step3
 go_wp2_with (go_at_call 105;with_reducible refine(HM.out _).mono ?_;rintro e w1 ⟨g,cap,rfl,hR,hcap,hcm,hg,hgs,hcl,hb1⟩)
 go_step3
 go_wp2;have z0:w.heap.size<w1.heap.size:=by have:=hb1.size;simp at this;omega
 have HS0:Hid (WS w1 ((w1.alloc (.cells #[.slice none 0 0,.slice none 0 0,.slice none 0 0] 225)).alloc (.cells #[.int .i64 ((0:Nat):Int),.int .u64 i] 249)) w1.heap.size 0 i (.slice none 0 0) []):=by
  refine⟨?_,?_,Np _ _ _ _,((Lb _ _).alloc (La _) _).alloc (by simp) _⟩
  ·rw[Below.heap_alloc _ _ _ (by simp)];exact Lt w1 _
  ·have:=Lt (w1.alloc (.cells #[.slice none 0 0,.slice none 0 0,.slice none 0 0] 225)) (.cells #[.int .i64 ((0:Nat):Int),.int .u64 i] 249)
   simpa using this
 have HR:Hid (∀W,Below w1.heap.size w1 W->RdB W (Zp g) g 0 M.length (zl M)):=fun W hb=>hR.below hb
 have HB1:Hid (Below w.heap.size w w1):=(bal (Lb _ _) _).trans (hb1.mono (by simp))
 have HP4:Hid (w1.heap[w.heap.size]? = some (.cells #[.slice none 0 0,.slice none 0 0,.slice none 0 0] 225 (0,0))):=(hb1.block w.heap.size (by simp)).trans (Lt w _)
 have HG:Hid (g<w1.heap.size∧M.length<=cap∧cap<=maxLen∧w.heap.size<g∧Ly w1 g M):=⟨hg,hcap,hcm,by simp at hgs;omega,hcl⟩
 have HZ:Hid (w.heap.size<w1.heap.size):=z0;obtain⟨p,hp⟩:∃p,w1.heap.size=p:=⟨_,rfl⟩;have HP:=Qd hp;rw[hp] at HS0 ⊢;clear hR hb1 hg z0 hlen HM hcap hcm hgs hcl
 go_loopg [] H (fun gh wr=> ∃(h:Nat) (vb:Value),h<=H∧gh=H-h∧WS w1 wr p h (i/2^h) vb (zl (bes i h)))
 case atStart=>
  go_light;refine⟨0,.slice none 0 0,Ln _,rfl,?_⟩
  have:=HS0.out
  simpa [bes,zl] using this
 case round=>
  clear HS0;obtain⟨h,vb,hh,rfl,hS⟩:=hrel;obtain⟨q,hq⟩:∃q,i/2^h=q:=⟨_,rfl⟩;rw[hq] at hS;have HQ:=Qd hq;obtain⟨vo,vm,vq,rfl⟩:=Cv.Ql hS.own;have HS:=Qd hS;clear hS hq;generalize wr=wo at *;clear wr;go_wp2
  go_loopg [20] M.length (fun gh x wr2=> ∃j:Nat,j<=M.length∧gh=M.length-j∧x= .int .i64 j∧(∀t,t<j->M.getD t (0,0)≠(h,q))∧Below wo.heap.size wo wr2)
  case atStart=>go_light;exact⟨0,Ln _,rfl,rfl,fun t ht=>absurd ht (Ib _),Lb _ _⟩
  case round=>
   obtain⟨j,hj,rfl,rfl,hno,hb⟩:=hrel;have hS2:=HS.out.next hb;have hsz:=hS2.sz;have hRd:=HR.out _ (show Below w1.heap.size w1 wr by rw[HP.out];exact hS2.bl)
   by_cases hlt:j<M.length
   ·have hz:(j:Int)<(M.length:Int):=by omega
    have hz0:(0:Int)<=(j:Int):=Lh _;obtain⟨m0,m1⟩:=hRd.cell j hlt;rw[Qmk M j hlt] at m0 m1;obtain⟨⟨mh,mk⟩,hm⟩:∃m,M.getD j (0,0)=m:=⟨_,rfl⟩;rw[hm] at m0 m1;rw[Lo] at m0 m1;have hS3:=hS2.next (bal (Lb _ _) (.cells #[.int .i64 mh,.int .u64 mk] 249));obtain⟨⟨k0,k1,k2⟩,⟨k3,k4⟩,fz⟩:=hS3.cells;have f0:=fun j=>(fz j).1
    have f1:=fun j=>(fz j).2
    by_cases hf:(mh,mk)=(h,q)
    ·obtain⟨rfl,rfl⟩:=Prod.mk.inj hf;have hfd:=QnM HW.out.1 (j:=j) (h:=mh) (by rw[HW.out.2.1];exact hlt) (by rw[HW.out.2.1,HQ.out];exact hm)
     have HX:Hid (j=A.length∧mh=H):=hfd;have hle:(j:Int)<=(cap:Int):=by have:=HG.out.2.1;omega
     have e1:IntKind.i64.wrap ((j:Int)+1)=((j+1:Nat):Int):=by rw[Lz];omega
     have HB:=Qd hb;have HS3:=Qd hS3;clear hm hf hfd hno hj hb hRd hS2 hS3 fz
     go_upto_region 8 with (fail)
     obtain⟨W0,hW0⟩:∃W0,wr.alloc (.cells #[.int .i64 mh,.int .u64 mk] 249)=W0:=⟨_,rfl⟩;rw[hW0] at k0 k1 k2 k3 k4 HS3 ⊢;have HBL:Hid (Below p w1 W0):=HS3.out.bl;simp only[hW0] at f0 f1;have c4:∀t,t<3->W0.cell? ⟨w.heap.size,t,none⟩=some (.slice none 0 0)∧W0.frozen? ⟨w.heap.size,t,none⟩=false:=fun t ht=>by
      have hx:W0.heap[w.heap.size]? = some (.cells #[.slice none 0 0,.slice none 0 0,.slice none 0 0] 225 (0,0)):=by
       refine Eq.trans ?_ HP4.out
       refine HBL.out.block _ ?_
       have:=HZ.out;have:=HP.out;omega
      refine⟨?_,frozen_of_row W0 _ t _ _ hx⟩
      rw[cell_of_row W0 _ t _ _ (0,0) hx]
      match t,ht with
      | 0,_=>rfl
      | 1,_=>rfl
      | 2,_=>rfl
     have c40:=(c4 0 (by decide)).1
     have c41:=(c4 1 (by decide)).1
     have c42:=(c4 2 (by decide)).1
     have f40:=(c4 0 (by decide)).2
     have f41:=(c4 1 (by decide)).2
     have f42:=(c4 2 (by decide)).2
     have hlt1:((j+1:Nat):Int)<=(M.length:Int):=by omega
     have hle2:((M.length:Nat):Int)<=(cap:Int):=by have:=HG.out.2.1;omega
     have hpw:w.heap.size≠p:=by have:=HZ.out;have:=HP.out;omega
     clear c4
     go_region
     obtain⟨ax,hax⟩:∃ax,(if cap=j+1 then some (⟨g,0,none⟩:Addr) else some ⟨g,(j+1)*2,none⟩)=ax:=⟨_,rfl⟩
     have HA:=Qd hax;rw[hax];clear hax;go_wp2;obtain⟨WF,hWF⟩:∃WF,(((((W0.setCell ⟨p,1,none⟩ (.slice (Zp g) j cap)).setCell ⟨p,2,none⟩ (.slice ax (M.length-(j+1)) (cap-(j+1)))).setCell ⟨w.heap.size,0,none⟩ (.slice vo vm vq)).setCell ⟨w.heap.size,1,none⟩ (.slice (Zp g) j cap)).setCell ⟨w.heap.size,2,none⟩ (.slice ax (M.length-(j+1)) (cap-(j+1)))).drew=WF:=⟨_,rfl⟩;obtain⟨⟨r0,r1,r2⟩,hch⟩:=fin3 hpw c40 c41 c42 _ _ _ _ _ hWF;have hoth:∀b,b≠p->b≠w.heap.size->WF.heap[b]? = W0.heap[b]? := fun b h1 h2=>hch.block b (by rintro(e|e);exact h1 e;exact h2 e)
     rw[hWF];clear hWF;refine LK (v := .agg #[.slice vo vm vq,.slice (Zp g) j cap,.slice ax (M.length-(j+1)) (cap-(j+1))]) (by simp[results,results146,go_sem,r0,r1,r2]) rfl ?_
     have hz1:=HZ.out;have hp1:=HP.out;obtain⟨g1,g2,g3,g4,g5⟩:=HG.out;obtain⟨rfl,rfl⟩:=HX.out;have hall:=HW.out.1.all;rw[HW.out.2.1] at hall;have hclF:Ly WF g M:=(g5.same (HBL.out.block g (by omega))).same (hoth g (by omega) (by omega))
     have hml:=LW List.length hall;rw[Le,LD] at hml;refine⟨_,_,_,rfl,?_,QoW hclF hall,?_,?_⟩
     ·have hown:Cv.Yb WF (p+2) (.slice vo vm vq) (zl (bes i mh)):=Qj HS3.out.own fun b _ hb=>hoth b (by omega) (by omega)
      have:=Cv.Qdg hown;rw[Cv.Qy,U3] at this;exact this
     ·have:=QoX (c':=cap-(A.length+1)) hclF hall g2 HA.out;rw[show M.length-(A.length+1)=B.length by omega]
      exact this
     ·refine⟨?_,?_,?_,?_,fun b hb=> ?_⟩
      ·exact hch.os.trans (HBL.out.os.trans HB1.out.os)
      ·exact hch.tape.trans (HBL.out.tape.trans HB1.out.tape)
      ·exact hch.output.trans (HBL.out.output.trans HB1.out.output)
      ·have:=HS3.out.sz;have:=hch.size;omega
      ·rw[hoth b (by omega) (by omega),HBL.out.block b (by omega)];exact HB1.out.block b hb
    ·have hne:¬((h:Int)=(mh:Int)∧(q:Int)=(mk:Int)):=by
      rintro⟨e1,e2⟩;exact hf (Prod.ext (by show mh=h;omega) (by show mk=q;omega))
     have HN:Hid (∀t,t<j+1->M.getD t (0,0)≠(h,q)):=fun t ht=>by
      rcases IP (IT ht) with hx|rfl
      ·exact hno t hx
      ·rw[hm];exact hf
     have HB:=Qd (bal hb (.cells #[.int .i64 mh,.int .u64 mk] 249));have hj41:(j:Int)<41:=by omega
     clear hm hf hno hj hb hRd hS2 hS3 fz;go_wp2
     all_goals
      go_roundg (M.length-(j+1))
      case rel=>go_light;exact⟨j+1,by omega,rfl,by go_num,HN.out,HB.out⟩
      case measure=>go_light;omega
   ·obtain rfl:j=M.length:=by omega
    have hz:¬((M.length:Int)<(M.length:Int)):=by omega
    have hhH:h<H:=by
     apply Nat.lt_of_not_le
     intro hge;obtain rfl:h=H:=by omega
     obtain⟨a1,a2⟩:=QpP HW.out.1;rw[HW.out.2.1] at a1 a2;exact hno _ a1 (by rw[a2,HQ.out])
    have hb2:=HS.out.next hb;obtain⟨⟨k0,k1,k2⟩,⟨k3,k4⟩,fz⟩:=hS2.cells;have hi40:=HW.out.2.2.2.1;have hq40:q<2^40:=by have:=HQ.out;have:=NO i (2^h);omega
    have ex:bits .xor .u64 (q:Int) 1=((sb q:Nat):Int):=by rw[<-Qk7];exact bits_xor_u64_nat q 1 (by omega) (by decide)
    have hh40:(h:Int)<41:=by have:=HW.out.1.hH;omega
    have e2:IntKind.u64.wrap ((q:Int)/2)=((q/2:Nat):Int):=by rw[IntKind.wrap_u64];omega
    clear hlt hno hj hRd
    go_wp2_with (at_builtin;refine Cv.Y6 _ rfl _ _ rfl (p+2) _ (zl (bes i h)) rfl (hS2.own.alloc _) _ [((h:Int),sb q)] rfl (Cv.Qar wr (h:Int) (sb q) 249) ?c1 ?c2 ?_)
    case c1=>have:=HW.out.1.hH;rw[Cv.Qy,U3];simp;omega
    case c2=>have:=hS2.sz;simp;omega
    intro v' w2 r1 r2 _;have hE:zl (bes i h)++[((h:Int),sb q)]=zl (bes i (h+1)):=by rw[QdM,Cv.UG,HQ.out];rfl
    rw[hE] at r1;obtain⟨⟨k5,k6,k7,f5,f6,f7⟩,hN⟩:=hS2.step r2 r1 (h+1) (q/2);obtain⟨ao2,m2,c2,rfl⟩:=Cv.Ql r1;have HN:=Qd hN;have HH:=Qd hhH;clear r1 r2 hE hN hb hb2 hS2 HS k0 k1 k2 k3 k4 fz hsz;go_wp2
    go_roundg (H-(h+1))
    case rel=>
     go_light;refine⟨h+1,.slice ao2 m2 c2,by have:=HH.out;omega,rfl,?_⟩
     have:=HN.out;rw[show i/2^(h+1)=q/2 by rw[<-Qaj,HQ.out]]
     rw[show((h+1:Nat):Int)=(h:Int)+1 by omega,show((q/2:Nat):Int)=(q:Int)/2 by omega] at this
     exact this
    case measure=>go_light;have:=HH.out;omega
theorem Qol{w:World}{g0:Nat}{u0 u1 u2:Value}{L0 L1 L2:List (Int×Nat)}(c0:w.cell? ⟨g0,0,none⟩=some u0)(c1:w.cell? ⟨g0,1,none⟩=some u1)(c2:w.cell? ⟨g0,2,none⟩=some u2)(r0:RdC w u0 L0.length (Cv.cB L0))(r1:RdC w u1 L1.length (Cv.cB L1))(r2:RdC w u2 L2.length (Cv.cB L2)):CatB w g0 [u0,u1,u2] [L0,L1,L2]:=by
 refine⟨rfl,fun j hj=> ?_,fun j hj=> ?_⟩
 ·match j,hj with
  | 0,_=>exact c0
  | 1,_=>exact c1
  | 2,_=>exact c2
 ·match j,hj with
  | 0,_=>exact r0
  | 1,_=>exact r1
  | 2,_=>exact r2
theorem Qom{w:World}{g0:Nat}{u0 u1 u2:Value}{L0 L1 L2:LB}(c0:w.cell? ⟨g0,0,none⟩=some u0)(c1:w.cell? ⟨g0,1,none⟩=some u1)(c2:w.cell? ⟨g0,2,none⟩=some u2)(r0:RdC w u0 L0.length (cS L0))(r1:RdC w u1 L1.length (cS L1))(r2:RdC w u2 L2.length (cS L2)):CatS w g0 [u0,u1,u2] [L0,L1,L2]:=by
 refine⟨rfl,fun j hj=> ?_,fun j hj=> ?_⟩
 ·match j,hj with
  | 0,_=>exact c0
  | 1,_=>exact c1
  | 2,_=>exact c2
 ·match j,hj with
  | 0,_=>exact r0
  | 1,_=>exact r1
  | 2,_=>exact r2
theorem QdN(w:World)(vb va vc:Value)(L0 L1 L2 L:List (Int×Nat))(hL:L0++(L1++L2)=L)(r0:RdC w vb L0.length (Cv.cB L0))(r1:RdC w va L1.length (Cv.cB L1))(r2:RdC w vc L2.length (Cv.cB L2))(hm:L.length<=1048576) :
  Calls prog 147 #[.agg #[vb,va,vc]] w fun e w'=> ∃v,e= .returned v∧Cv.Yb w' w.heap.size v L∧Below w.heap.size w w':=by
 obtain⟨a0,p0,rfl⟩:=Ui r0;obtain⟨a1,p1,rfl⟩:=Ui r1;obtain⟨a2,p2,rfl⟩:=Ui r2;obtain⟨o1,ho1⟩:∃o1,Obj.cells #[.slice a0 L0.length p0,.slice a1 L1.length p1,.slice a2 L2.length p2] 225 (0,0)=o1:=⟨_,rfl⟩;obtain⟨o2,ho2⟩:∃o2,Obj.cells #[.slice a0 L0.length p0,.slice a1 L1.length p1,.slice a2 L2.length p2] 187 (0,0)=o2:=⟨_,rfl⟩;have hb1:=bal (Lb w.heap.size w) o1;have hb2:=bal hb1 o2;have hc:CatB ((w.alloc o1).alloc o2) (w.heap.size+1) [.slice a0 L0.length p0,.slice a1 L1.length p1,.slice a2 L2.length p2] [L0,L1,L2]:=by
  have hx:((w.alloc o1).alloc o2).heap[w.heap.size+1]? = some o2:=by
   have:=Lt (w.alloc o1) o2
   rwa [LN] at this
  have hx:((w.alloc o1).alloc o2).heap[w.heap.size+1]? = some (.cells #[.slice a0 L0.length p0,.slice a1 L1.length p1,.slice a2 L2.length p2] 187 (0,0)):=hx.trans (by rw[ho2])
  refine Qol ?_ ?_ ?_ (Cv.Un r0 hb2) (Cv.Un r1 hb2) (Cv.Un r2 hb2)
  ·rw[cell_of_row _ _ 0 _ _ (0,0) hx];rfl
  ·rw[cell_of_row _ _ 1 _ _ (0,0) hx];rfl
  ·rw[cell_of_row _ _ 2 _ _ (0,0) hx];rfl
 have HC:Calls prog 220 #[.slice (some ⟨w.heap.size+1,0,none⟩) 3 3] ((w.alloc o1).alloc o2) fun e w'=> ∃v,e= .returned v∧Cv.Yb w' ((w.alloc o1).alloc o2).heap.size v L∧Below ((w.alloc o1).alloc o2).heap.size ((w.alloc o1).alloc o2) w':=QdV _ _ 3 _ _ hc (by simp) (by simp only[List.flatten_cons,List.flatten_nil,List.append_nil];rw[hL];omega) L (by simp only[List.flatten_cons,List.flatten_nil,List.append_nil];exact hL)
 have HB:=Qd hb2;rw[<-ho1,<-ho2] at HC HB;clear hc hb1 hb2 ho1 ho2 hm hL r0 r1 r2
 go_enter func147,ntmps147
 go_wp2_with (go_at_call 220;with_reducible refine HC.mono ?_;rintro e w1 ⟨v,rfl,ho,hb⟩)
 go_ret
 exact⟨_,rfl,ho.mono HB.out.size,Qa HB.out hb⟩
section
variable {w W:World} {s:Nat} {a b c d e f:Value}
end
theorem QkM(w:World)(m:Nat)(k:Int)(L:LB)(hF:Frs w m k L)(n i H:Nat)(A B:List (Nat×Nat))(hw:Wy n i A H B)(hn:n<=L.length)(hi:i<n)(D:LB)(hD:dgP (clk k) L i H A B=D) :
  Calls prog 87 #[.pointer (some ⟨m+1,0,none⟩),.int .u64 n,.int .u64 i] w fun e w'=> ∃vs vd,e= .returned (.tuple #[.agg #[.int .i64 1,.int .i64 k,.int .u64 0,.int .u64 n,vs,vd],.int .i64 0])∧Cv.Own w' w.heap.size vs [i]∧Qg w' w.heap.size vd D∧Below w.heap.size w w':=by
 have hL:=hF.hn;obtain⟨o0,ho0⟩:∃o0,Obj.cells #[.int .i64 0,.int .i64 0,.int .u64 0,.int .u64 0,.slice none 0 0,.slice none 0 0] 138 (0,0)=o0:=⟨_,rfl⟩;have hb:=bal (Lb w.heap.size w) o0;have HS:=QW _ m k L (hF.next hb (La _));have hin:=hw.inn (by omega)
 have hln:=hw.len;have hlH:=hw.hH;have HW:Hid (∀W,Calls prog 146 #[.int .u64 n,.int .u64 i] W fun e w'=> ∃vb va vc,e= .returned (.agg #[vb,va,vc])∧RdC w' vb (zl (bes i H)).length (Cv.cB (zl (bes i H)))∧RdC w' va (zl A).length (Cv.cB (zl A))∧RdC w' vc (zl B).length (Cv.cB (zl B))∧Below W.heap.size W w'):=fun W=>by
  rw[Cv.Qy,Cv.Qy,Cv.Qy,U3];exact Qg7 W n i H A B hw (by omega) hi
 obtain⟨C,hC⟩:∃C,zl (wyB i H A B)=C:=⟨_,rfl⟩;have hlC:C.length<=80:=by rw[<-hC,Cv.Qy,Qg8];omega
 have HBk:Hid (∀W vb va vc,RdC W vb (zl (bes i H)).length (Cv.cB (zl (bes i H)))->RdC W va (zl A).length (Cv.cB (zl A))->RdC W vc (zl B).length (Cv.cB (zl B))->Calls prog 147 #[.agg #[vb,va,vc]] W fun e w'=> ∃ao g cap,e= .returned (.slice ao C.length cap)∧RdB w' ao g 0 C.length C∧Below W.heap.size W w'):=fun W vb va vc r0 r1 r2=>by
  refine(QdN W vb va vc _ _ _ C (by rw[<-hC,wyB,Cv.UG,Cv.UG]) r0 r1 r2 (by omega)).mono fun e w' ⟨v,e1,e2,e3⟩=> ?_
  obtain⟨ao,g,n',cap,rfl,hr,_⟩:=Jd e2 (fun b hb=>by
   rw[<-hC] at hb;obtain⟨b0,hb0,rfl⟩:=List.mem_map.1 hb;exact(Qbe (hin b0 hb0) (by omega)).1)
  obtain rfl:=hr.len;exact⟨ao,g,cap,e1,hr,e3⟩
 have hds:dgs (clk k) L C=some D:=by rw[<-hC,Ox (fun b hb=>Lu (hin b hb) hn),<-hD];rfl
 have HD:Hid (∀W ao g cap,Below w.heap.size w W->RdB W ao g 0 C.length C->Calls prog 106 #[.pointer (some ⟨m+1,0,none⟩),.slice ao C.length cap] W fun e w'=>Below W.heap.size W w' ∧ ∃ad md cd,e= .returned (.tuple #[.slice ad md cd,.bool true])∧Qg w' W.heap.size (.slice ad md cd) D):=fun W ao g cap hb hr=>by
  refine(Ub W m k L (hF.next hb (La _)) ao g 0 cap C hr (by omega)).mono ?_
  rintro e w' ⟨hb',⟨h1,_⟩|⟨D',h1,v,rfl,ho⟩⟩
  ·rw[hds] at h1;cases h1
  ·rw[hds] at h1;injection h1 with h1
   subst h1;obtain⟨ad,md,cd,rfl⟩:=Cv.Ql ho;exact⟨hb',ad,md,cd,rfl,ho⟩
 have HSt:Hid (∀W,Below w.heap.size w W->Calls prog 134 #[.pointer (some ⟨m+1,0,none⟩)] W fun e w'=>e= .returned (.int .i64 k)∧W=w'):=fun W hb=>(YU W m k L (hF.next hb (La _))).mono fun _ _ h=>⟨h.1,h.2.symm⟩
 have hn':¬(L.length:Int)<(n:Int):=by omega
 have hi':¬(n:Int)<=(i:Int):=by omega
 have hi2:i<n:=hi;have HP:Hid (∀W,Below (w.alloc o0).heap.size (w.alloc o0) W->Six W w.heap.size (.int .i64 0) (.int .i64 0) (.int .u64 0) (.int .u64 0) (.slice none 0 0) (.slice none 0 0)):=fun W hb=>Six.next (show Six (w.alloc o0) _ _ _ _ _ _ _ by rw[<-ho0];exact Yl w _ _ _ _ _ _) hb
 rw[<-ho0] at hb HS HP;clear hF hn hi hw hL ho0 hin hds hD hlC hC hln hlH hi2
 go_enter func87,ntmps87
 go_wp2_with (first
  | (go_at_call 132;with_reducible refine HS.mono ?_;rintro e w0 ⟨rfl,rfl⟩)
  | (go_at_call 146;with_reducible refine(HW.out _).mono ?_;rintro e w1 ⟨vb,va,vc,rfl,q0,q1,q2,hb1⟩)
  | (go_at_call 147;with_reducible refine(HBk.out _ _ _ _ q0 q1 q2).mono ?_;rintro e w2 ⟨ao,g,cap,rfl,hr,hb2⟩)
  | (go_at_call 106;with_reducible refine(HD.out _ _ _ _ (Qa (Qa hb hb1) hb2) hr).mono ?_;rintro e w3 ⟨hb3,ad,md,cd,rfl,ho⟩)
  | (go_at_call 134;with_reducible refine(HSt.out _ (Qa (Qa (Qa hb hb1) hb2) hb3)).mono ?_;rintro e w4 ⟨rfl,rfl⟩;have h6:=HP.out _ (bal (Qa (Qa hb1 hb2) hb3) (.cells #[.int .u64 i] 48));obtain⟨k0,k1,k2,k3,k4,k5⟩:=h6.cells;have f0:=h6.fz))
 have hF6:=h6.put (.int .i64 1) (.int .i64 k) (.int .u64 0) (.int .u64 n) (.slice (Zp w3.heap.size) 1 1) (.slice ad md cd);have hch:=Yw (w3.alloc (.cells #[.int .u64 i] 48)) w.heap.size (.int .i64 1) (.int .i64 k) (.int .u64 0) (.int .u64 n) (.slice (Zp w3.heap.size) 1 1) (.slice ad md cd);unfold Yh at hF6 hch;generalize ((((((w3.alloc (.cells #[.int .u64 i] 48)).setCell ⟨w.heap.size,0,none⟩ (.int .i64 1)).setCell ⟨w.heap.size,1,none⟩ (.int .i64 k)).setCell ⟨w.heap.size,2,none⟩ (.int .u64 0)).setCell ⟨w.heap.size,3,none⟩ (.int .u64 n)).setCell ⟨w.heap.size,4,none⟩ (.slice (Zp w3.heap.size) 1 1)).setCell ⟨w.heap.size,5,none⟩ (.slice ad md cd)=WF at *;obtain⟨s0,s1,s2,s3,s4,s5⟩:=hF6.cells;refine LK (v := .tuple #[.agg #[.int .i64 1,.int .i64 k,.int .u64 0,.int .u64 n,.slice (Zp w3.heap.size) 1 1,.slice ad md cd],.int .i64 0]) (by simp[results,results87,go_sem,s0,s1,s2,s3,s4,s5]) rfl ?_
 have hb4:=Qa (Qa (Qa hb hb1) hb2) hb3;have z3:=(Qa hb1 (Qa hb2 hb3)).size;rw[LN] at z3;refine⟨_,_,rfl,?_,?_,(bal hb4 _).trans (hch.below (by rintro b rfl;exact La _))⟩
 ·have:Cv.Own (w3.alloc (.cells #[.int .u64 i] 48)) w.heap.size (.slice (Zp w3.heap.size) 1 1) [i]:=⟨rfl,.inr ⟨w3.heap.size,1,_,rfl,by omega,Lt w3 _,by simp,by decide,rfl,rfl⟩⟩
  exact Qj this fun g hg _=>by
   cases hg;exact hch.block _ (by show ¬w3.heap.size=w.heap.size;omega)
 ·have h1:=Yf ho (.cells #[.int .u64 i] 48);have hz2:=(Qa hb1 hb2).size;rw[LN] at hz2;exact(Qj h1 fun g _ hg=>hch.block g (by omega)).mono (by omega)
end
end Go.Proofs.YtoblgjledefdbaaGreatDoor
