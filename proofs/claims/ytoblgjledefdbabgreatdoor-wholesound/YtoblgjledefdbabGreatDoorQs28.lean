/- Own work. -/
import Derived.Test.YtoblgjledefdbabGreatDoorQs27
set_option maxRecDepth 100000
set_option maxHeartbeats 2000000
namespace Go.Proofs.YtoblgjledefdbabGreatDoor
open Go.RowKit
attribute [local go_sem ↓] Go.wp_at_zero Go.wp_at_succ
open Go.Proofs.Tryz
structure CF(W:World)(q5 q9:Nat)(k:Int)(pv:Value)(pk:Int)(s:BA)(ca:OA)(cn cc:Nat)(X:LB)(tp rt:Value)(n:Nat)(d:BA)(er:Int)(L:Nat->Bool)(a:Act)(w:World):Prop where
 sz:a.tmps.size=39
 df:a.defers=[]
 i2:a.tmps.getD 2 undef= .slice ca cn cc
 i5:a.tmps.getD 5 undef=Zv q5
 i9:a.tmps.getD 9 undef=Zv q9
 be:Below W.heap.size W w
 a0:L 0=true->a.tmps.getD 26 undef=pv
 a1:L 1=true->a.tmps.getD 27 undef= .slice ca cn cc
 a2:L 2=true->L 3=false -> ∃ao m c,a.tmps.getD 28 undef= .slice ao m c∧Qg w W.heap.size (.slice ao m c) X
 a3:L 3=true->a.tmps.getD 29 undef=tp
 a4:L 4=true->a.tmps.getD 25 undef=tp
 a5:L 5=true->a.tmps.getD 30 undef=rt
 a6:L 6=true->a.tmps.getD 31 undef= .int .i64 er
 a7:L 7=true -> ∃q,a.tmps.getD 11 undef=Zv q∧W.heap.size<=q∧q<w.heap.size∧(∃n' d',Rh w q n' d')∧(L 8=true->Rh w q n d)
 a9:L 9=true->a.tmps.getD 10 undef= .int .i64 er
-- steps
section
variable {W:World} {q5 q9:Nat} {k:Int} {pv:Value} {pk:Int} {s:BA} {ca:OA} {cn cc:Nat} {X:LB} {tp rt:Value} {n:Nat} {d:BA} {er:Int} {Q:Exit->Act->World->Prop} {ops:List Oper} {ty:TypeId} {ps:String} {af:Array Edge}
theorem cf0(hq:∀w,Below W.heap.size W w -> ∃v0 v1 v2 v3 v4 v5,pv= .agg #[v0,v1,v2,v3,v4,v5]∧Six w q9 v0 v1 v2 v3 v4 v5):YA prog Q ops (CF W q5 q9 k pv pk s ca cn cc X tp rt n d er) 0 { dst:=some 26,op:=Op.load 68 (Operand.tmp 9),type:=ty,pos:=ps,after:=af,guard:=none } := by
 intro L a w K hI hj hcl hdep hK;have hs:26<a.tmps.size:=by rw[hI.sz];decide
 obtain⟨v0,v1,v2,v3,v4,v5,rfl,h6⟩:=hq w hI.be;obtain⟨m0,m1,m2,m3,m4,m5⟩:=h6.cells;have t9:=hI.i9
 show Oper.wp _ _ a w K _
 go_simp
 exact hK _ _ { sz:=(by simp[Act.put,hI.sz]),df:=(hI.df),i2:=(by rw[Qb a 26 2 _ hs,Le (by decide)];exact hI.i2),i5:=(by rw[Qb a 26 5 _ hs,Le (by decide)];exact hI.i5),i9:=(by rw[Qb a 26 9 _ hs,Le (by decide)];exact hI.i9),be:=(hI.be),a0:=(fun _=>by rw[Qb a 26 26 _ hs,Lo rfl]),a1:=(fun h=>by rw[Qb a 26 27 _ hs,Le (by decide)];exact hI.a1 h),a2:=(fun h h3=>by rw[Qb a 26 28 _ hs,Le (by decide)];exact hI.a2 h h3),a3:=(fun h=>by rw[Qb a 26 29 _ hs,Le (by decide)];exact hI.a3 h),a4:=(fun h=>by rw[Qb a 26 25 _ hs,Le (by decide)];exact hI.a4 h),a5:=(fun h=>by rw[Qb a 26 30 _ hs,Le (by decide)];exact hI.a5 h),a6:=(fun h=>by rw[Qb a 26 31 _ hs,Le (by decide)];exact hI.a6 h),a7:=(fun h=>by rw[Qb a 26 11 _ hs,Le (by decide)];exact hI.a7 h),a9:=(fun h=>by rw[Qb a 26 10 _ hs,Le (by decide)];exact hI.a9 h) }
theorem cf1  : YA prog Q ops (CF W q5 q9 k pv pk s ca cn cc X tp rt n d er) 1 { dst:=some 27,op:=Op.move (Operand.tmp 2),type:=ty,pos:=ps,after:=af,guard:=none } := by
 intro L a w K hI hj hcl hdep hK;have hs:27<a.tmps.size:=by rw[hI.sz];decide
 have t2:=hI.i2
 show Oper.wp _ _ a w K _
 go_simp
 exact hK _ _ { sz:=(by simp[Act.put,hI.sz]),df:=(hI.df),i2:=(by rw[Qb a 27 2 _ hs,Le (by decide)];exact hI.i2),i5:=(by rw[Qb a 27 5 _ hs,Le (by decide)];exact hI.i5),i9:=(by rw[Qb a 27 9 _ hs,Le (by decide)];exact hI.i9),be:=(hI.be),a0:=(fun h=>by rw[Qb a 27 26 _ hs,Le (by decide)];exact hI.a0 h),a1:=(fun _=>by rw[Qb a 27 27 _ hs,Lo rfl]),a2:=(fun h h3=>by rw[Qb a 27 28 _ hs,Le (by decide)];exact hI.a2 h h3),a3:=(fun h=>by rw[Qb a 27 29 _ hs,Le (by decide)];exact hI.a3 h),a4:=(fun h=>by rw[Qb a 27 25 _ hs,Le (by decide)];exact hI.a4 h),a5:=(fun h=>by rw[Qb a 27 30 _ hs,Le (by decide)];exact hI.a5 h),a6:=(fun h=>by rw[Qb a 27 31 _ hs,Le (by decide)];exact hI.a6 h),a7:=(fun h=>by rw[Qb a 27 11 _ hs,Le (by decide)];exact hI.a7 h),a9:=(fun h=>by rw[Qb a 27 10 _ hs,Le (by decide)];exact hI.a9 h) }
theorem cf2(d1:(af.toList.any fun e=>e.on == 1 && Region.binds .any e)=true)(hV:∀w,Below W.heap.size W w->Calls prog 21 #[.slice ca cn cc] w fun e w'=> ∃v,e= .returned v∧Qg w' w.heap.size v X∧Below w.heap.size w w'):YA prog Q ops (CF W q5 q9 k pv pk s ca cn cc X tp rt n d er) 2 { dst:=some 28,op:=Op.call { callee:=Callee.value (Operand.func 21),args:=#[Operand.tmp 27],argTypes:=#[23] },type:=ty,pos:=ps,after:=af,guard:=none } := by
 intro L a w K hI hj hcl hdep hK;have hs:28<a.tmps.size:=by rw[hI.sz];decide
 have t27:=hI.a1 (hdep 1 d1)
 show Oper.wp _ _ a w K _
 go_simp
 refine(hV w hI.be).mono ?_
 rintro e w' ⟨v,rfl,ho,hb⟩;obtain⟨ao,m,c,rfl⟩:=Cv.Qs ho;exact hK _ _ { sz:=(by simp[Act.put,hI.sz]),df:=(hI.df),i2:=(by rw[Qb a 28 2 _ hs,Le (by decide)];exact hI.i2),i5:=(by rw[Qb a 28 5 _ hs,Le (by decide)];exact hI.i5),i9:=(by rw[Qb a 28 9 _ hs,Le (by decide)];exact hI.i9),be:=(Qa hI.be hb),a0:=(fun h=>by rw[Qb a 28 26 _ hs,Le (by decide)];exact hI.a0 h),a1:=(fun h=>by rw[Qb a 28 27 _ hs,Le (by decide)];exact hI.a1 h),a2:=(fun _ _=>⟨ao,m,c,by rw[Qb a 28 28 _ hs,Lo rfl],QN ho hI.be.size⟩),a3:=(fun h=>by rw[Qb a 28 29 _ hs,Le (by decide)];exact hI.a3 h),a4:=(fun h=>by rw[Qb a 28 25 _ hs,Le (by decide)];exact hI.a4 h),a5:=(fun h=>by rw[Qb a 28 30 _ hs,Le (by decide)];exact hI.a5 h),a6:=(fun h=>by rw[Qb a 28 31 _ hs,Le (by decide)];exact hI.a6 h),a7:=(fun h=>by rw[Qb a 28 11 _ hs,Le (by decide)];obtain⟨q,g1,g2,g3,⟨n9,d9,g4⟩,g5⟩:=hI.a7 h;exact⟨q,g1,g2,LL g3 hb.size,⟨n9,d9,g4.next hb⟩,fun h8=>(g5 h8).next hb⟩),a9:=(fun h=>by rw[Qb a 28 10 _ hs,Le (by decide)];exact hI.a9 h) }
theorem cf3(d0:(af.toList.any fun e=>e.on == 0 && Region.binds .any e)=true)(d2:(af.toList.any fun e=>e.on == 2 && Region.binds .any e)=true)(hL:∀w ao m c,Below W.heap.size W w->Qg w W.heap.size (.slice ao m c) X->Calls prog 20 #[pv,.slice ao m c] w fun e w'=>e= .returned tp∧Below w.heap.size w w'):YA prog Q ops (CF W q5 q9 k pv pk s ca cn cc X tp rt n d er) 3 { dst:=some 29,op:=Op.call { callee:=Callee.value (Operand.func 20),args:=#[Operand.tmp 26,Operand.tmp 28],argTypes:=#[68,22] },type:=ty,pos:=ps,after:=af,guard:=none } := by
 intro L a w K hI hj hcl hdep hK;have hs:29<a.tmps.size:=by rw[hI.sz];decide
 have t26:=hI.a0 (hdep 0 d0);obtain⟨ao,m,c,t28,ho⟩:=hI.a2 (hdep 2 d2) hj
 show Oper.wp _ _ a w K _
 go_simp
 refine(hL w ao m c hI.be ho).mono ?_
 rintro e w' ⟨rfl,hb⟩;exact hK _ _ { sz:=(by simp[Act.put,hI.sz]),df:=(hI.df),i2:=(by rw[Qb a 29 2 _ hs,Le (by decide)];exact hI.i2),i5:=(by rw[Qb a 29 5 _ hs,Le (by decide)];exact hI.i5),i9:=(by rw[Qb a 29 9 _ hs,Le (by decide)];exact hI.i9),be:=(Qa hI.be hb),a0:=(fun h=>by rw[Qb a 29 26 _ hs,Le (by decide)];exact hI.a0 h),a1:=(fun h=>by rw[Qb a 29 27 _ hs,Le (by decide)];exact hI.a1 h),a2:=(fun _ h=>by cases h),a3:=(fun _=>by rw[Qb a 29 29 _ hs,Lo rfl]),a4:=(fun h=>by rw[Qb a 29 25 _ hs,Le (by decide)];exact hI.a4 h),a5:=(fun h=>by rw[Qb a 29 30 _ hs,Le (by decide)];exact hI.a5 h),a6:=(fun h=>by rw[Qb a 29 31 _ hs,Le (by decide)];exact hI.a6 h),a7:=(fun h=>by rw[Qb a 29 11 _ hs,Le (by decide)];obtain⟨q,g1,g2,g3,⟨n9,d9,g4⟩,g5⟩:=hI.a7 h;exact⟨q,g1,g2,LL g3 hb.size,⟨n9,d9,g4.next hb⟩,fun h8=>(g5 h8).next hb⟩),a9:=(fun h=>by rw[Qb a 29 10 _ hs,Le (by decide)];exact hI.a9 h) }
theorem cf4(d3:(af.toList.any fun e=>e.on == 3 && Region.binds .any e)=true):YA prog Q ops (CF W q5 q9 k pv pk s ca cn cc X tp rt n d er) 4 { dst:=some 25,op:=Op.move (Operand.tmp 29),type:=ty,pos:=ps,after:=af,guard:=none } := by
 intro L a w K hI hj hcl hdep hK;have hs:25<a.tmps.size:=by rw[hI.sz];decide
 have t29:=hI.a3 (hdep 3 d3)
 show Oper.wp _ _ a w K _
 go_simp
 exact hK _ _ { sz:=(by simp[Act.put,hI.sz]),df:=(hI.df),i2:=(by rw[Qb a 25 2 _ hs,Le (by decide)];exact hI.i2),i5:=(by rw[Qb a 25 5 _ hs,Le (by decide)];exact hI.i5),i9:=(by rw[Qb a 25 9 _ hs,Le (by decide)];exact hI.i9),be:=(hI.be),a0:=(fun h=>by rw[Qb a 25 26 _ hs,Le (by decide)];exact hI.a0 h),a1:=(fun h=>by rw[Qb a 25 27 _ hs,Le (by decide)];exact hI.a1 h),a2:=(fun h h3=>by rw[Qb a 25 28 _ hs,Le (by decide)];exact hI.a2 h h3),a3:=(fun h=>by rw[Qb a 25 29 _ hs,Le (by decide)];exact hI.a3 h),a4:=(fun _=>by rw[Qb a 25 25 _ hs,Lo rfl]),a5:=(fun h=>by rw[Qb a 25 30 _ hs,Le (by decide)];exact hI.a5 h),a6:=(fun h=>by rw[Qb a 25 31 _ hs,Le (by decide)];exact hI.a6 h),a7:=(fun h=>by rw[Qb a 25 11 _ hs,Le (by decide)];exact hI.a7 h),a9:=(fun h=>by rw[Qb a 25 10 _ hs,Le (by decide)];exact hI.a9 h) }
theorem cf5(d4:(af.toList.any fun e=>e.on == 4 && Region.binds .any e)=true)(ht:tp= .tuple #[rt,.int .i64 er]):YA prog Q ops (CF W q5 q9 k pv pk s ca cn cc X tp rt n d er) 5 { dst:=some 30,op:=Op.extract (Operand.tmp 25) 0,type:=ty,pos:=ps,after:=af,guard:=none } := by
 intro L a w K hI hj hcl hdep hK;have hs:30<a.tmps.size:=by rw[hI.sz];decide
 have t25:=hI.a4 (hdep 4 d4);rw[ht] at t25
 show Oper.wp _ _ a w K _
 go_simp
 exact hK _ _ { sz:=(by simp[Act.put,hI.sz]),df:=(hI.df),i2:=(by rw[Qb a 30 2 _ hs,Le (by decide)];exact hI.i2),i5:=(by rw[Qb a 30 5 _ hs,Le (by decide)];exact hI.i5),i9:=(by rw[Qb a 30 9 _ hs,Le (by decide)];exact hI.i9),be:=(hI.be),a0:=(fun h=>by rw[Qb a 30 26 _ hs,Le (by decide)];exact hI.a0 h),a1:=(fun h=>by rw[Qb a 30 27 _ hs,Le (by decide)];exact hI.a1 h),a2:=(fun h h3=>by rw[Qb a 30 28 _ hs,Le (by decide)];exact hI.a2 h h3),a3:=(fun h=>by rw[Qb a 30 29 _ hs,Le (by decide)];exact hI.a3 h),a4:=(fun h=>by rw[Qb a 30 25 _ hs,Le (by decide)];exact hI.a4 h),a5:=(fun _=>by rw[Qb a 30 30 _ hs,Lo rfl]),a6:=(fun h=>by rw[Qb a 30 31 _ hs,Le (by decide)];exact hI.a6 h),a7:=(fun h=>by rw[Qb a 30 11 _ hs,Le (by decide)];exact hI.a7 h),a9:=(fun h=>by rw[Qb a 30 10 _ hs,Le (by decide)];exact hI.a9 h) }
theorem cf6(d4:(af.toList.any fun e=>e.on == 4 && Region.binds .any e)=true)(ht:tp= .tuple #[rt,.int .i64 er]):YA prog Q ops (CF W q5 q9 k pv pk s ca cn cc X tp rt n d er) 6 { dst:=some 31,op:=Op.extract (Operand.tmp 25) 1,type:=ty,pos:=ps,after:=af,guard:=none } := by
 intro L a w K hI hj hcl hdep hK;have hs:31<a.tmps.size:=by rw[hI.sz];decide
 have t25:=hI.a4 (hdep 4 d4);rw[ht] at t25
 show Oper.wp _ _ a w K _
 go_simp
 exact hK _ _ { sz:=(by simp[Act.put,hI.sz]),df:=(hI.df),i2:=(by rw[Qb a 31 2 _ hs,Le (by decide)];exact hI.i2),i5:=(by rw[Qb a 31 5 _ hs,Le (by decide)];exact hI.i5),i9:=(by rw[Qb a 31 9 _ hs,Le (by decide)];exact hI.i9),be:=(hI.be),a0:=(fun h=>by rw[Qb a 31 26 _ hs,Le (by decide)];exact hI.a0 h),a1:=(fun h=>by rw[Qb a 31 27 _ hs,Le (by decide)];exact hI.a1 h),a2:=(fun h h3=>by rw[Qb a 31 28 _ hs,Le (by decide)];exact hI.a2 h h3),a3:=(fun h=>by rw[Qb a 31 29 _ hs,Le (by decide)];exact hI.a3 h),a4:=(fun h=>by rw[Qb a 31 25 _ hs,Le (by decide)];exact hI.a4 h),a5:=(fun h=>by rw[Qb a 31 30 _ hs,Le (by decide)];exact hI.a5 h),a6:=(fun _=>by rw[Qb a 31 31 _ hs,Lo rfl]),a7:=(fun h=>by rw[Qb a 31 11 _ hs,Le (by decide)];exact hI.a7 h),a9:=(fun h=>by rw[Qb a 31 10 _ hs,Le (by decide)];exact hI.a9 h) }
theorem cf7(hd8:dep ops 8 7=true):YA prog Q ops (CF W q5 q9 k pv pk s ca cn cc X tp rt n d er) 7 { dst:=some 11,op:=Op.alloc 33,type:=ty,pos:=ps,after:=af,guard:=none } := by
 intro L a w K hI hj hcl hdep hK;have hs:11<a.tmps.size:=by rw[hI.sz];decide
 have h8:=QaO hcl hj hd8
 show Oper.wp _ _ a w K _
 go_simp
 exact hK _ _ { sz:=(by simp[Act.put,hI.sz]),df:=(hI.df),i2:=(by rw[Qb a 11 2 _ hs,Le (by decide)];exact hI.i2),i5:=(by rw[Qb a 11 5 _ hs,Le (by decide)];exact hI.i5),i9:=(by rw[Qb a 11 9 _ hs,Le (by decide)];exact hI.i9),be:=(bal hI.be _),a0:=(fun h=>by rw[Qb a 11 26 _ hs,Le (by decide)];exact hI.a0 h),a1:=(fun h=>by rw[Qb a 11 27 _ hs,Le (by decide)];exact hI.a1 h),a2:=(fun h h3=>by rw[Qb a 11 28 _ hs,Le (by decide)];obtain⟨ao,m,c,g1,g2⟩:=hI.a2 h h3;exact⟨ao,m,c,g1,Q4 g2 _⟩),a3:=(fun h=>by rw[Qb a 11 29 _ hs,Le (by decide)];exact hI.a3 h),a4:=(fun h=>by rw[Qb a 11 25 _ hs,Le (by decide)];exact hI.a4 h),a5:=(fun h=>by rw[Qb a 11 30 _ hs,Le (by decide)];exact hI.a5 h),a6:=(fun h=>by rw[Qb a 11 31 _ hs,Le (by decide)];exact hI.a6 h),a7:=(fun _=>⟨w.heap.size,by rw[Qb a 11 11 _ hs,Lo rfl],hI.be.size,by simp,⟨0,⟨#[]⟩,Lr w _⟩,fun h=>by rw[Le (by decide),h8] at h;cases h⟩),a9:=(fun h=>by rw[Qb a 11 10 _ hs,Le (by decide)];exact hI.a9 h) }
theorem cf8(d5:(af.toList.any fun e=>e.on == 5 && Region.binds .any e)=true)(d7:(af.toList.any fun e=>e.on == 7 && Region.binds .any e)=true)(hd3:(af.toList.any fun e=>e.on == 3 && Region.binds .any e)=true)(hr:rt= .agg #[.int .u64 n,.string d]):YA prog Q ops (CF W q5 q9 k pv pk s ca cn cc X tp rt n d er) 8 { dst:=none,op:=Op.store 33 (Operand.tmp 11) (Operand.tmp 30),type:=ty,pos:=ps,after:=af,guard:=none } := by
 intro L a w K hI hj hcl hdep hK;have t30:=hI.a5 (hdep 5 d5);rw[hr] at t30;obtain⟨q,t11,g2,g3,⟨n9,d9,g4⟩,_⟩:=hI.a7 (hdep 7 d7);have h3:=hdep 3 hd3;obtain⟨k0,k1⟩:=g4.cells;have fz:=g4.fz;have hch:=Qdy w q n d;have hpt:=g4.put n d;unfold putR at hch hpt
 show Oper.wp _ _ a w K _
 go_simp
 exact hK undef _ { sz:=(hI.sz),df:=(hI.df),i2:=(by exact hI.i2),i5:=(by exact hI.i5),i9:=(by exact hI.i9),be:=(hI.be.trans (hch.below (by rintro b rfl;exact g2))),a0:=(fun h=>by exact hI.a0 h),a1:=(fun h=>by exact hI.a1 h),a2:=(fun _ h=>by have h3':L 3=false:=h;rw[h3] at h3';cases h3'),a3:=(fun h=>by exact hI.a3 h),a4:=(fun h=>by exact hI.a4 h),a5:=(fun h=>by exact hI.a5 h),a6:=(fun h=>by exact hI.a6 h),a7:=(fun _=>⟨q,t11,g2,by rw[hch.size];exact g3,⟨n,d,hpt⟩,fun _=>hpt⟩),a9:=(fun h=>by exact hI.a9 h) }
theorem cf9(d6:(af.toList.any fun e=>e.on == 6 && Region.binds .any e)=true):YA prog Q ops (CF W q5 q9 k pv pk s ca cn cc X tp rt n d er) 9 { dst:=some 10,op:=Op.assign (Operand.tmp 31),type:=ty,pos:=ps,after:=af,guard:=none } := by
 intro L a w K hI hj hcl hdep hK;have hs:10<a.tmps.size:=by rw[hI.sz];decide
 have t31:=hI.a6 (hdep 6 d6)
 show Oper.wp _ _ a w K _
 go_simp
 exact hK _ _ { sz:=(by simp[Act.put,hI.sz]),df:=(hI.df),i2:=(by rw[Qb a 10 2 _ hs,Le (by decide)];exact hI.i2),i5:=(by rw[Qb a 10 5 _ hs,Le (by decide)];exact hI.i5),i9:=(by rw[Qb a 10 9 _ hs,Le (by decide)];exact hI.i9),be:=(hI.be),a0:=(fun h=>by rw[Qb a 10 26 _ hs,Le (by decide)];exact hI.a0 h),a1:=(fun h=>by rw[Qb a 10 27 _ hs,Le (by decide)];exact hI.a1 h),a2:=(fun h h3=>by rw[Qb a 10 28 _ hs,Le (by decide)];exact hI.a2 h h3),a3:=(fun h=>by rw[Qb a 10 29 _ hs,Le (by decide)];exact hI.a3 h),a4:=(fun h=>by rw[Qb a 10 25 _ hs,Le (by decide)];exact hI.a4 h),a5:=(fun h=>by rw[Qb a 10 30 _ hs,Le (by decide)];exact hI.a5 h),a6:=(fun h=>by rw[Qb a 10 31 _ hs,Le (by decide)];exact hI.a6 h),a7:=(fun h=>by rw[Qb a 10 11 _ hs,Le (by decide)];exact hI.a7 h),a9:=(fun _=>by rw[Qb a 10 10 _ hs,Lo rfl]) }
end
theorem Qhx(w:World)(k:Int)(o1:Nat)(c1:BA)(ca:OA)(cn cc:Nat)(s:BA)(hs:s.size<=281474976710656)(e0:Int)(he:tkE k s=e0)(h0:e0≠0) :
  Calls prog 7 #[.int .i64 k,.agg #[.int .u64 o1,.string c1],.slice ca cn cc,.string s] w fun e w'=>e= .returned (.int .i64 e0)∧Below w.heap.size w w':=by
 have HT:Hid (∀W,Calls prog 18 #[.int .i64 k,.string s] W fun e w'=>e= .returned (.tuple #[noP,.int .i64 e0])∧Below W.heap.size W w'):=fun W=>QkU W k s hs e0 he h0
 have hb0:=bal (Lc w.heap.size w) (.cells #[.int .u64 o1,.string c1] 33);have hz:(e0 == 0)=false:=by simpa using h0
 clear he hs
 go_enter func7,ntmps7
 go_wp2_with (go_at_call 18;with_reducible refine(HT.out _).mono ?_;rintro e w1 ⟨rfl,hb1⟩)
 go_ret
 exact⟨rfl,bal (Qa hb0 hb1) _⟩
theorem Qa9(w:World)(k:Int)(k1:1<=k)(k2:k<=32)(o1:Nat)(c1:BA)(ca:OA)(cb co cn cc:Nat)(l:List (Nat×BA))(hc:RdK w ca cb co cn l)(s:BA)(hs:s.size<=281474976710656)(P:PV)(hd:dec s.data.toList=some P)(hk:P.k=k)(hno:¬((P.kd=1∨P.kd=2)∧P.S=ixs l)) :
  Calls prog 7 #[.int .i64 k,.agg #[.int .u64 o1,.string c1],.slice ca cn cc,.string s] w fun e w'=>e= .returned (.int .i64 150)∧Below w.heap.size w w':=by
 have HT:Hid (∀W,Calls prog 18 #[.int .i64 k,.string s] W fun e w'=> ∃sa sb sc da db dc,e= .returned (.tuple #[.agg #[.int .i64 P.kd,.int .i64 k,.int .u64 P.old,.int .u64 P.size,.slice sa P.S.length sc,.slice da P.D.length dc],.int .i64 0])∧RdF w' sa sb sc da db dc P∧Below W.heap.size W w'):=fun W=>Qe3 W k k1 k2 s hs P hd hk
 have HO:Hid (∀W sa sb sc da db dc,Below w.heap.size w W->RdF W sa sb sc da db dc P->Calls prog 19 #[vP P.kd k P.old P.size (.slice sa P.S.length sc) (.slice da P.D.length dc),.slice ca cn cc] W fun e w'=>e= .returned (.bool false)∧Below W.heap.size W w'):=fun W sa sb sc da db dc hb hF=>Qes W P.kd k P.old P.size sa sb 0 sc P.S hF.p.rs hF.p.mS da P.D.length dc ca cb co cn cc l (hc.next hb) false (LC hno)
 unfold vP at HO;obtain⟨W0,hW0⟩:∃W0,w.alloc (.cells #[.int .u64 o1,.string c1] 33)=W0:=⟨_,rfl⟩;have hb0:Below w.heap.size w W0:=by rw[<-hW0];exact bal (Lc _ _) _
 clear hs hd hk hno k1 k2 hc;obtain⟨kd,kk,old,size,S,D⟩:=P;simp only at HT HO
 go_enter func7,ntmps7
 go_upto_region 1 with (fail)
 try rw[hW0]
 clear hW0
 go_upto_region 4 with (go_at_call 18;with_reducible refine(HT.out _).mono ?_;rintro e w1 ⟨sa,sb,sc,da,db,dc,rfl,hF,hb1⟩)
 obtain⟨F,hFe,h7,hb2,_⟩:=Us w1 (.int .i64 kd) (.int .i64 k) (.int .u64 old) (.int .u64 size) (.slice sa S.length sc) (.slice da D.length dc)
 try rw[hFe]
 clear hFe;obtain⟨m0,m1,m2,m3,m4,m5⟩:=h7.cells;have hF2:=hF.next hb2;have xb:=Qa hb0 (Qa hb1 hb2)
 go_wp2_with (go_at_call 19;with_reducible refine(HO.out _ _ _ _ _ _ _ xb hF2).mono ?_;rintro e w3 ⟨rfl,hb3⟩)
 go_ret
 exact⟨rfl,Qa xb hb3⟩
theorem Qf{α:Type}{l:List α}{n:Nat}(h:l.length=n+1):∃x t,l=x::t∧t.length=n:=by
 cases l with
 | nil=>cases h
 | cons x t=>exact⟨x,t,rfl,by simpa using h⟩
def clmD(n:Nat)(d:BA)(er:Int)(o1:Nat)(c1:BA):Int:=if er=0∧n=o1∧d=c1 then 0 else 150
theorem Qa8(w:World)(k:Int)(k1:1<=k)(k2:k<=32)(o1:Nat)(c1:BA)(ca:OA)(cb co cn cc:Nat)(l:List (Nat×BA))(hc:RdK w ca cb co cn l)(hcm:cn<=8796093021952)(s:BA)(hs:s.size<=281474976710656)(P:PV)(hd:dec s.data.toList=some P)(hk:P.k=k)(hyes:(P.kd=1∨P.kd=2)∧P.S=ixs l)
  (n:Nat) (d:BA) (er:Int)
  (hL:∀W sa sb sc da db dc ao m c,Below w.heap.size w W->RdF W sa sb sc da db dc P->Qg W w.heap.size (.slice ao m c) (vls l)->Calls prog 20 #[vP P.kd k P.old P.size (.slice sa P.S.length sc) (.slice da P.D.length dc),.slice ao m c] W fun e w'=>e= .returned (.tuple #[.agg #[.int .u64 n,.string d],.int .i64 er])∧Below W.heap.size W w')
  (r:Int) (hr:clmD n d er o1 c1=r) :
  Calls prog 7 #[.int .i64 k,.agg #[.int .u64 o1,.string c1],.slice ca cn cc,.string s] w fun e w'=>e= .returned (.int .i64 r)∧Below w.heap.size w w':=by
 have HT:Hid (∀W,Calls prog 18 #[.int .i64 k,.string s] W fun e w'=> ∃sa sb sc da db dc,e= .returned (.tuple #[.agg #[.int .i64 P.kd,.int .i64 k,.int .u64 P.old,.int .u64 P.size,.slice sa P.S.length sc,.slice da P.D.length dc],.int .i64 0])∧RdF w' sa sb sc da db dc P∧Below W.heap.size W w'):=fun W=>Qe3 W k k1 k2 s hs P hd hk
 have HO:Hid (∀W sa sb sc da db dc,Below w.heap.size w W->RdF W sa sb sc da db dc P->Calls prog 19 #[vP P.kd k P.old P.size (.slice sa P.S.length sc) (.slice da P.D.length dc),.slice ca cn cc] W fun e w'=>e= .returned (.bool true)∧Below W.heap.size W w'):=fun W sa sb sc da db dc hb hF=>Qes W P.kd k P.old P.size sa sb 0 sc P.S hF.p.rs hF.p.mS da P.D.length dc ca cb co cn cc l (hc.next hb) true (LS hyes)
 have HV:Hid (∀W,Below w.heap.size w W->Calls prog 21 #[.slice ca cn cc] W fun e w'=> ∃v,e= .returned v∧Qg w' W.heap.size v (vls l)∧Below W.heap.size W w'):=fun W hb=>Qgg W ca cb co cn cc l (hc.next hb) hcm
 have HL:=Qc hL;unfold vP at HO HL;obtain⟨W0,hW0⟩:∃W0,w.alloc (.cells #[.int .u64 o1,.string c1] 33)=W0:=⟨_,rfl⟩;have hq:Rh W0 w.heap.size o1 c1∧Below w.heap.size w W0:=by rw[<-hW0];exact⟨Lr w _,bal (Lc _ _) _⟩
 have HX:Hid (∀F,Below W0.heap.size W0 F->Rh F w.heap.size o1 c1∧Below w.heap.size w F):=fun F hF=>⟨hq.1.next hF,Qa hq.2 hF⟩
 clear hs hd hk hyes k1 k2 hc hcm hL hq;obtain⟨kd,kk,old,size,S,D⟩:=P;simp only at HT HO HL
 go_enter func7,ntmps7
 go_upto_region 1 with (fail)
 try rw[hW0]
 clear hW0
 go_upto_region 4 with (go_at_call 18;with_reducible refine(HT.out _).mono ?_;rintro e w1 ⟨sa,sb,sc,da,db,dc,rfl,hF,hb1⟩)
 obtain⟨F,hFe,h7,hb2,_⟩:=Us w1 (.int .i64 kd) (.int .i64 k) (.int .u64 old) (.int .u64 size) (.slice sa S.length sc) (.slice da D.length dc)
 try rw[hFe]
 clear hFe;obtain⟨m0,m1,m2,m3,m4,m5⟩:=h7.cells;have hF2:=hF.next hb2;have xb:=(HX.out _ (Qa hb1 hb2)).2
 go_upto_region 6 with (go_at_call 19;with_reducible refine(HO.out _ _ _ _ _ _ _ xb hF2).mono ?_;rintro e w3 ⟨rfl,hb3⟩)
 have x7:=h7.next hb3;have HF3:=Qc (hF2.next hb3);obtain⟨xr,xb3⟩:=HX.out _ (Qa (Qa hb1 hb2) hb3);have HB3:=Qc (Lx xr xb3);clear hF2 hF xb m0 m1 m2 m3 m4 m5 hb2 hb1 hb3 HT HO HX xr xb3;refine Jm (by kernel_rfl) (by kernel_rfl) (CF w3 w.heap.size w1.heap.size k (.agg #[.int .i64 kd,.int .i64 k,.int .u64 old,.int .u64 size,.slice sa S.length sc,.slice da D.length dc]) k s ca cn cc (vls l) (.tuple #[.agg #[.int .u64 n,.string d],.int .i64 er]) (.agg #[.int .u64 n,.string d]) n d er)
  (fun Z _ hZ=> { sz:=rfl,df:=rfl,i2:=rfl,i5:=rfl,i9:=rfl,be:=hZ,a0:=(fun h=>by cases h),a1:=(fun h=>by cases h),a2:=(fun h=>by cases h),a3:=(fun h=>by cases h),a4:=(fun h=>by cases h),a5:=(fun h=>by cases h),a6:=(fun h=>by cases h),a7:=(fun h=>by cases h),a9:=(fun h=>by cases h) })
  ⟨cf0 (fun Z hZ=>⟨_,_,_,_,_,_,rfl,x7.next hZ⟩),cf1,cf2 rfl (fun Z hZ=>HV.out Z (Qa HB3.out.2 hZ)),cf3 rfl rfl (fun Z ao m c hZ ho=>HL.out Z sa sb sc da db dc ao m c (Qa HB3.out.2 hZ) (HF3.out.next hZ) (QN ho HB3.out.2.size)),cf4 rfl,cf5 rfl rfl,cf6 rfl rfl,cf7 rfl,cf8 rfl rfl rfl rfl,cf9 rfl,trivial⟩ ?_
 intro L a7 w7 hall hI;obtain⟨⟨tl⟩,df⟩:=a7;have hl0:tl.length=39:=hI.sz;obtain⟨u0,t0,rfl,hl1⟩:=Qf hl0;obtain⟨u1,t1,rfl,hl2⟩:=Qf hl1;obtain⟨u2,t2,rfl,hl3⟩:=Qf hl2;obtain⟨u3,t3,rfl,hl4⟩:=Qf hl3;obtain⟨u4,t4,rfl,hl5⟩:=Qf hl4;obtain⟨u5,t5,rfl,hl6⟩:=Qf hl5;obtain⟨u6,t6,rfl,hl7⟩:=Qf hl6;obtain⟨u7,t7,rfl,hl8⟩:=Qf hl7;obtain⟨u8,t8,rfl,hl9⟩:=Qf hl8;obtain⟨u9,t9,rfl,hl10⟩:=Qf hl9;obtain⟨u10,t10,rfl,hl11⟩:=Qf hl10;obtain⟨u11,t11,rfl,hl12⟩:=Qf hl11;obtain⟨u12,t12,rfl,hl13⟩:=Qf hl12;obtain⟨u13,t13,rfl,hl14⟩:=Qf hl13;obtain⟨u14,t14,rfl,hl15⟩:=Qf hl14;obtain⟨u15,t15,rfl,hl16⟩:=Qf hl15;obtain⟨u16,t16,rfl,hl17⟩:=Qf hl16;obtain⟨u17,t17,rfl,hl18⟩:=Qf hl17;obtain⟨u18,t18,rfl,hl19⟩:=Qf hl18;obtain⟨u19,t19,rfl,hl20⟩:=Qf hl19;obtain⟨u20,t20,rfl,hl21⟩:=Qf hl20;obtain⟨u21,t21,rfl,hl22⟩:=Qf hl21;obtain⟨u22,t22,rfl,hl23⟩:=Qf hl22;obtain⟨u23,t23,rfl,hl24⟩:=Qf hl23;obtain⟨u24,t24,rfl,hl25⟩:=Qf hl24;obtain⟨u25,t25,rfl,hl26⟩:=Qf hl25;obtain⟨u26,t26,rfl,hl27⟩:=Qf hl26;obtain⟨u27,t27,rfl,hl28⟩:=Qf hl27;obtain⟨u28,t28,rfl,hl29⟩:=Qf hl28;obtain⟨u29,t29,rfl,hl30⟩:=Qf hl29;obtain⟨u30,t30,rfl,hl31⟩:=Qf hl30;obtain⟨u31,t31,rfl,hl32⟩:=Qf hl31;obtain⟨u32,t32,rfl,hl33⟩:=Qf hl32;obtain⟨u33,t33,rfl,hl34⟩:=Qf hl33;obtain⟨u34,t34,rfl,hl35⟩:=Qf hl34;obtain⟨u35,t35,rfl,hl36⟩:=Qf hl35;obtain⟨u36,t36,rfl,hl37⟩:=Qf hl36;obtain⟨u37,t37,rfl,hl38⟩:=Qf hl37;obtain⟨u38,t38,rfl,hl39⟩:=Qf hl38;obtain rfl:=List.length_eq_zero_iff.1 hl39;obtain rfl:df=[]:=hI.df;obtain rfl:u5=Zv w.heap.size:=hI.i5;obtain rfl:u10= .int .i64 er:=hI.a9 (hall 9 (by decide))
 obtain⟨q,e11,_,_,_,g8⟩:=hI.a7 (hall 7 (by decide))
 obtain rfl:u11=Zv q:=e11;obtain⟨b0,b1⟩:=(g8 (hall 8 (by decide))).cells
 have xB:=Qa HB3.out.2 hI.be;obtain⟨a0,a1⟩:=(HB3.out.1.next hI.be).cells;have HB:=Qc xB;clear hl0 hl1 hl2 hl3 hl4 hl5 hl6 hl7 hl8 hl9 hl10 hl11 hl12 hl13 hl14 hl15 hl16 hl17 hl18 hl19 hl20 hl21 hl22 hl23 hl24 hl25 hl26 hl27 hl28 hl29 hl30 hl31 hl32 hl33 hl34 hl35 hl36 hl37 hl38 hl39;clear xB hI hall g8 HB3 HF3 HL HV x7 h7;unfold clmD at hr
 by_cases h1:er=0
 ·subst h1
  by_cases h2:n=o1∧d=c1
  ·obtain⟨rfl,rfl⟩:=h2;rw[Lo ⟨rfl,rfl,rfl⟩] at hr;subst hr;go_wp2
   go_ret
   exact⟨rfl,HB.out⟩
  ·rw[Le (fun h=>h2 h.2)] at hr
   subst hr
   rcases Qm0 h2 with hn|⟨rfl,hd⟩
   ·have hz:¬(n:Int)=(o1:Int):=by omega
    have hzb:((n:Int) == (o1:Int))=false:=by simpa using hz
    clear h2 hn;go_wp2
    go_ret
    exact⟨rfl,HB.out⟩
   ·have hz:=OJ hd;have hzb:=UE hd;clear h2 hd;go_wp2
    go_ret
    exact⟨rfl,HB.out⟩
 ·rw[Le (fun h=>h1 h.1)] at hr
  subst hr;have hzb:(er == 0)=false:=by simpa using h1
  go_wp2
  go_ret
  exact⟨rfl,HB.out⟩
structure LF(w0 W:World)(q q2:Nat)(pv:Value)(xb xo xn xc:Nat)(x:BA)(n:Nat)(d:BA)(er:Int)(L:Nat->Bool)(a:Act)(w:World):Prop where
 sz:a.tmps.size=21
 df:a.defers=[]
 i1:a.tmps.getD 1 undef= .slice (some ⟨xb,xo,none⟩) xn xc
 i2:a.tmps.getD 2 undef=Zv q2
 i4:a.tmps.getD 4 undef=Zv q
 b1:L 7=false->Below W.heap.size W w
 b2:Below w0.heap.size w0 w
 a0:L 0=true->a.tmps.getD 9 undef=pv
 a1:L 1=true->a.tmps.getD 10 undef= .slice (some ⟨xb,xo,none⟩) xn xc
 a2:L 2=true->a.tmps.getD 11 undef= .pointer (some ⟨xb,xo,none⟩)
 a3:L 3=true->a.tmps.getD 12 undef= .string x
 a4:L 4=true->a.tmps.getD 13 undef= .tuple #[.agg #[.int .u64 n,.string d],.int .i64 er]
 a5:L 5=true->a.tmps.getD 14 undef= .agg #[.int .u64 n,.string d]
 a6:L 6=true->a.tmps.getD 15 undef= .int .i64 er
 a7:L 7=true->Rh w q n d
 a8:L 8=true->a.tmps.getD 5 undef= .int .i64 er
section
variable {w0 W:World} {q q2:Nat} {pv:Value} {xb xo xn xc:Nat} {x:BA} {n:Nat} {d:BA} {er:Int} {Q:Exit->Act->World->Prop} {ops:List Oper} {ty:TypeId} {ps:String} {af:Array Edge}
theorem lf_0(hds:dep ops 7 0=true)(h6:∀w,Below W.heap.size W w -> ∃v0 v1 v2 v3 v4 v5,pv= .agg #[v0,v1,v2,v3,v4,v5]∧Six w q2 v0 v1 v2 v3 v4 v5):YA prog Q ops (LF w0 W q q2 pv xb xo xn xc x n d er) 0 { dst:=some 9,op:=Op.load 68 (Operand.tmp 2),type:=ty,pos:=ps,after:=af,guard:=none } := by
 intro L a w K hI hj hcl hdep hK;have hs:9<a.tmps.size:=by rw[hI.sz];decide
 have h8:=QaO hcl hj hds;have hB:=hI.b1 h8;have t2:=hI.i2;obtain⟨v0,v1,v2,v3,v4,v5,rfl,hx⟩:=h6 w hB;obtain⟨m0,m1,m2,m3,m4,m5⟩:=hx.cells
 show Oper.wp _ _ a w K _
 go_simp
 exact hK _ _ { sz:=(by simp[Act.put,hI.sz]),df:=hI.df,i1:=(by rw[Qb a 9 1 _ hs,Le (by decide)];exact hI.i1),i2:=(by rw[Qb a 9 2 _ hs,Le (by decide)];exact hI.i2),i4:=(by rw[Qb a 9 4 _ hs,Le (by decide)];exact hI.i4),b1:=(fun h=>hI.b1 h),b2:=(hI.b2),a0:=(fun _=>by rw[Qb a 9 9 _ hs,Lo rfl]),a1:=(fun h=>by rw[Qb a 9 10 _ hs,Le (by decide)];exact hI.a1 h),a2:=(fun h=>by rw[Qb a 9 11 _ hs,Le (by decide)];exact hI.a2 h),a3:=(fun h=>by rw[Qb a 9 12 _ hs,Le (by decide)];exact hI.a3 h),a4:=(fun h=>by rw[Qb a 9 13 _ hs,Le (by decide)];exact hI.a4 h),a5:=(fun h=>by rw[Qb a 9 14 _ hs,Le (by decide)];exact hI.a5 h),a6:=(fun h=>by rw[Qb a 9 15 _ hs,Le (by decide)];exact hI.a6 h),a7:=(fun h=>hI.a7 h),a8:=(fun h=>by rw[Qb a 9 5 _ hs,Le (by decide)];exact hI.a8 h) }
theorem lf_1  : YA prog Q ops (LF w0 W q q2 pv xb xo xn xc x n d er) 1 { dst:=some 10,op:=Op.move (Operand.tmp 1),type:=ty,pos:=ps,after:=af,guard:=none } := by
 intro L a w K hI hj hcl hdep hK;have hs:10<a.tmps.size:=by rw[hI.sz];decide
 have t1:=hI.i1
 show Oper.wp _ _ a w K _
 go_simp
 exact hK _ _ { sz:=(by simp[Act.put,hI.sz]),df:=hI.df,i1:=(by rw[Qb a 10 1 _ hs,Le (by decide)];exact hI.i1),i2:=(by rw[Qb a 10 2 _ hs,Le (by decide)];exact hI.i2),i4:=(by rw[Qb a 10 4 _ hs,Le (by decide)];exact hI.i4),b1:=(fun h=>hI.b1 h),b2:=(hI.b2),a0:=(fun h=>by rw[Qb a 10 9 _ hs,Le (by decide)];exact hI.a0 h),a1:=(fun _=>by rw[Qb a 10 10 _ hs,Lo rfl]),a2:=(fun h=>by rw[Qb a 10 11 _ hs,Le (by decide)];exact hI.a2 h),a3:=(fun h=>by rw[Qb a 10 12 _ hs,Le (by decide)];exact hI.a3 h),a4:=(fun h=>by rw[Qb a 10 13 _ hs,Le (by decide)];exact hI.a4 h),a5:=(fun h=>by rw[Qb a 10 14 _ hs,Le (by decide)];exact hI.a5 h),a6:=(fun h=>by rw[Qb a 10 15 _ hs,Le (by decide)];exact hI.a6 h),a7:=(fun h=>hI.a7 h),a8:=(fun h=>by rw[Qb a 10 5 _ hs,Le (by decide)];exact hI.a8 h) }
theorem lf_2(d1:(af.toList.any fun e=>e.on == 1 && Region.binds .any e)=true)(hn:0<xn):YA prog Q ops (LF w0 W q q2 pv xb xo xn xc x n d er) 2 { dst:=some 11,op:=Op.indexAddr 22 (Operand.tmp 10) (Operand.const (.int .i64 0)),type:=ty,pos:=ps,after:=af,guard:=none } := by
 intro L a w K hI hj hcl hdep hK;have hs:11<a.tmps.size:=by rw[hI.sz];decide
 have t10:=hI.a1 (hdep 1 d1);have hz:(0:Int)<(xn:Int):=by omega
 show Oper.wp _ _ a w K _
 go_simp
 exact hK _ _ { sz:=(by simp[Act.put,hI.sz]),df:=hI.df,i1:=(by rw[Qb a 11 1 _ hs,Le (by decide)];exact hI.i1),i2:=(by rw[Qb a 11 2 _ hs,Le (by decide)];exact hI.i2),i4:=(by rw[Qb a 11 4 _ hs,Le (by decide)];exact hI.i4),b1:=(fun h=>hI.b1 h),b2:=(hI.b2),a0:=(fun h=>by rw[Qb a 11 9 _ hs,Le (by decide)];exact hI.a0 h),a1:=(fun h=>by rw[Qb a 11 10 _ hs,Le (by decide)];exact hI.a1 h),a2:=(fun _=>by rw[Qb a 11 11 _ hs,Lo rfl]),a3:=(fun h=>by rw[Qb a 11 12 _ hs,Le (by decide)];exact hI.a3 h),a4:=(fun h=>by rw[Qb a 11 13 _ hs,Le (by decide)];exact hI.a4 h),a5:=(fun h=>by rw[Qb a 11 14 _ hs,Le (by decide)];exact hI.a5 h),a6:=(fun h=>by rw[Qb a 11 15 _ hs,Le (by decide)];exact hI.a6 h),a7:=(fun h=>hI.a7 h),a8:=(fun h=>by rw[Qb a 11 5 _ hs,Le (by decide)];exact hI.a8 h) }
theorem lf_3(d2:(af.toList.any fun e=>e.on == 2 && Region.binds .any e)=true)(hds:dep ops 7 3=true)(hc:∀w,Below W.heap.size W w->w.cell? ⟨xb,xo,none⟩=some (.string x)):YA prog Q ops (LF w0 W q q2 pv xb xo xn xc x n d er) 3 { dst:=some 12,op:=Op.load 9 (Operand.tmp 11),type:=ty,pos:=ps,after:=af,guard:=none } := by
 intro L a w K hI hj hcl hdep hK;have hs:12<a.tmps.size:=by rw[hI.sz];decide
 have h8:=QaO hcl hj hds;have hB:=hI.b1 h8;have t11:=hI.a2 (hdep 2 d2);have hcx:=hc w hB
 show Oper.wp _ _ a w K _
 go_simp
 exact hK _ _ { sz:=(by simp[Act.put,hI.sz]),df:=hI.df,i1:=(by rw[Qb a 12 1 _ hs,Le (by decide)];exact hI.i1),i2:=(by rw[Qb a 12 2 _ hs,Le (by decide)];exact hI.i2),i4:=(by rw[Qb a 12 4 _ hs,Le (by decide)];exact hI.i4),b1:=(fun h=>hI.b1 h),b2:=(hI.b2),a0:=(fun h=>by rw[Qb a 12 9 _ hs,Le (by decide)];exact hI.a0 h),a1:=(fun h=>by rw[Qb a 12 10 _ hs,Le (by decide)];exact hI.a1 h),a2:=(fun h=>by rw[Qb a 12 11 _ hs,Le (by decide)];exact hI.a2 h),a3:=(fun _=>by rw[Qb a 12 12 _ hs,Lo rfl]),a4:=(fun h=>by rw[Qb a 12 13 _ hs,Le (by decide)];exact hI.a4 h),a5:=(fun h=>by rw[Qb a 12 14 _ hs,Le (by decide)];exact hI.a5 h),a6:=(fun h=>by rw[Qb a 12 15 _ hs,Le (by decide)];exact hI.a6 h),a7:=(fun h=>hI.a7 h),a8:=(fun h=>by rw[Qb a 12 5 _ hs,Le (by decide)];exact hI.a8 h) }
theorem lf_4(d0:(af.toList.any fun e=>e.on == 0 && Region.binds .any e)=true)(d3:(af.toList.any fun e=>e.on == 3 && Region.binds .any e)=true)(hds:dep ops 7 4=true)(hR:∀w,Below W.heap.size W w->Calls prog 49 #[pv,.string x] w fun e w'=>e= .returned (.tuple #[.agg #[.int .u64 n,.string d],.int .i64 er])∧Below w.heap.size w w'):YA prog Q ops (LF w0 W q q2 pv xb xo xn xc x n d er) 4 { dst:=some 13,op:=Op.call { callee:=Callee.value (Operand.func 49),args:=#[Operand.tmp 9,Operand.tmp 12],argTypes:=#[68,9] },type:=ty,pos:=ps,after:=af,guard:=none } := by
 intro L a w K hI hj hcl hdep hK;have hs:13<a.tmps.size:=by rw[hI.sz];decide
 have h8:=QaO hcl hj hds;have hB:=hI.b1 h8;have t9:=hI.a0 (hdep 0 d0);have t12:=hI.a3 (hdep 3 d3)
 show Oper.wp _ _ a w K _
 go_simp
 refine(hR w hB).mono ?_
 rintro e w' ⟨rfl,hb⟩;exact hK _ _ { sz:=(by simp[Act.put,hI.sz]),df:=hI.df,i1:=(by rw[Qb a 13 1 _ hs,Le (by decide)];exact hI.i1),i2:=(by rw[Qb a 13 2 _ hs,Le (by decide)];exact hI.i2),i4:=(by rw[Qb a 13 4 _ hs,Le (by decide)];exact hI.i4),b1:=(fun _=>Qa hB hb),b2:=(Qa hI.b2 hb),a0:=(fun h=>by rw[Qb a 13 9 _ hs,Le (by decide)];exact hI.a0 h),a1:=(fun h=>by rw[Qb a 13 10 _ hs,Le (by decide)];exact hI.a1 h),a2:=(fun h=>by rw[Qb a 13 11 _ hs,Le (by decide)];exact hI.a2 h),a3:=(fun h=>by rw[Qb a 13 12 _ hs,Le (by decide)];exact hI.a3 h),a4:=(fun _=>by rw[Qb a 13 13 _ hs,Lo rfl]),a5:=(fun h=>by rw[Qb a 13 14 _ hs,Le (by decide)];exact hI.a5 h),a6:=(fun h=>by rw[Qb a 13 15 _ hs,Le (by decide)];exact hI.a6 h),a7:=(fun h=>by rw[show(if (7:Nat)=4 then true else L 7)=L 7 from rfl,h8] at h;cases h),a8:=(fun h=>by rw[Qb a 13 5 _ hs,Le (by decide)];exact hI.a8 h) }
theorem lf_5(d4:(af.toList.any fun e=>e.on == 4 && Region.binds .any e)=true):YA prog Q ops (LF w0 W q q2 pv xb xo xn xc x n d er) 5 { dst:=some 14,op:=Op.extract (Operand.tmp 13) 0,type:=ty,pos:=ps,after:=af,guard:=none } := by
 intro L a w K hI hj hcl hdep hK;have hs:14<a.tmps.size:=by rw[hI.sz];decide
 have t13:=hI.a4 (hdep 4 d4)
 show Oper.wp _ _ a w K _
 go_simp
 exact hK _ _ { sz:=(by simp[Act.put,hI.sz]),df:=hI.df,i1:=(by rw[Qb a 14 1 _ hs,Le (by decide)];exact hI.i1),i2:=(by rw[Qb a 14 2 _ hs,Le (by decide)];exact hI.i2),i4:=(by rw[Qb a 14 4 _ hs,Le (by decide)];exact hI.i4),b1:=(fun h=>hI.b1 h),b2:=(hI.b2),a0:=(fun h=>by rw[Qb a 14 9 _ hs,Le (by decide)];exact hI.a0 h),a1:=(fun h=>by rw[Qb a 14 10 _ hs,Le (by decide)];exact hI.a1 h),a2:=(fun h=>by rw[Qb a 14 11 _ hs,Le (by decide)];exact hI.a2 h),a3:=(fun h=>by rw[Qb a 14 12 _ hs,Le (by decide)];exact hI.a3 h),a4:=(fun h=>by rw[Qb a 14 13 _ hs,Le (by decide)];exact hI.a4 h),a5:=(fun _=>by rw[Qb a 14 14 _ hs,Lo rfl]),a6:=(fun h=>by rw[Qb a 14 15 _ hs,Le (by decide)];exact hI.a6 h),a7:=(fun h=>hI.a7 h),a8:=(fun h=>by rw[Qb a 14 5 _ hs,Le (by decide)];exact hI.a8 h) }
theorem lf_6(d4:(af.toList.any fun e=>e.on == 4 && Region.binds .any e)=true):YA prog Q ops (LF w0 W q q2 pv xb xo xn xc x n d er) 6 { dst:=some 15,op:=Op.extract (Operand.tmp 13) 1,type:=ty,pos:=ps,after:=af,guard:=none } := by
 intro L a w K hI hj hcl hdep hK;have hs:15<a.tmps.size:=by rw[hI.sz];decide
 have t13:=hI.a4 (hdep 4 d4)
 show Oper.wp _ _ a w K _
 go_simp
 exact hK _ _ { sz:=(by simp[Act.put,hI.sz]),df:=hI.df,i1:=(by rw[Qb a 15 1 _ hs,Le (by decide)];exact hI.i1),i2:=(by rw[Qb a 15 2 _ hs,Le (by decide)];exact hI.i2),i4:=(by rw[Qb a 15 4 _ hs,Le (by decide)];exact hI.i4),b1:=(fun h=>hI.b1 h),b2:=(hI.b2),a0:=(fun h=>by rw[Qb a 15 9 _ hs,Le (by decide)];exact hI.a0 h),a1:=(fun h=>by rw[Qb a 15 10 _ hs,Le (by decide)];exact hI.a1 h),a2:=(fun h=>by rw[Qb a 15 11 _ hs,Le (by decide)];exact hI.a2 h),a3:=(fun h=>by rw[Qb a 15 12 _ hs,Le (by decide)];exact hI.a3 h),a4:=(fun h=>by rw[Qb a 15 13 _ hs,Le (by decide)];exact hI.a4 h),a5:=(fun h=>by rw[Qb a 15 14 _ hs,Le (by decide)];exact hI.a5 h),a6:=(fun _=>by rw[Qb a 15 15 _ hs,Lo rfl]),a7:=(fun h=>hI.a7 h),a8:=(fun h=>by rw[Qb a 15 5 _ hs,Le (by decide)];exact hI.a8 h) }
theorem lf_7(d5:(af.toList.any fun e=>e.on == 5 && Region.binds .any e)=true)(hq:∀w,Below W.heap.size W w -> ∃n9 d9,Rh w q n9 d9)(hq0:w0.heap.size<=q):YA prog Q ops (LF w0 W q q2 pv xb xo xn xc x n d er) 7 { dst:=none,op:=Op.store 33 (Operand.tmp 4) (Operand.tmp 14),type:=ty,pos:=ps,after:=af,guard:=none } := by
 intro L a w K hI hj hcl hdep hK;have t4:=hI.i4;have t14:=hI.a5 (hdep 5 d5);have hB:=hI.b1 hj;obtain⟨n9,d9,g4⟩:∃n9 d9,Rh w q n9 d9:=hq w hB;obtain⟨k0,k1⟩:=g4.cells;have fz:=g4.fz;have hch:=Qdy w q n d;have hpt:=g4.put n d;unfold putR at hch hpt
 show Oper.wp _ _ a w K _
 go_simp
 exact hK undef _ { sz:=hI.sz,df:=hI.df,i1:=(by exact hI.i1),i2:=(by exact hI.i2),i4:=(by exact hI.i4),b1:=(fun h=>by cases h),b2:=(hI.b2.trans (hch.below (by rintro b rfl;exact hq0))),a0:=(fun h=>by exact hI.a0 h),a1:=(fun h=>by exact hI.a1 h),a2:=(fun h=>by exact hI.a2 h),a3:=(fun h=>by exact hI.a3 h),a4:=(fun h=>by exact hI.a4 h),a5:=(fun h=>by exact hI.a5 h),a6:=(fun h=>by exact hI.a6 h),a7:=(fun _=>hpt),a8:=(fun h=>by exact hI.a8 h) }
theorem lf_8(d6:(af.toList.any fun e=>e.on == 6 && Region.binds .any e)=true):YA prog Q ops (LF w0 W q q2 pv xb xo xn xc x n d er) 8 { dst:=some 5,op:=Op.assign (Operand.tmp 15),type:=ty,pos:=ps,after:=af,guard:=none } := by
 intro L a w K hI hj hcl hdep hK;have hs:5<a.tmps.size:=by rw[hI.sz];decide
 have t15:=hI.a6 (hdep 6 d6)
 show Oper.wp _ _ a w K _
 go_simp
 exact hK _ _ { sz:=(by simp[Act.put,hI.sz]),df:=hI.df,i1:=(by rw[Qb a 5 1 _ hs,Le (by decide)];exact hI.i1),i2:=(by rw[Qb a 5 2 _ hs,Le (by decide)];exact hI.i2),i4:=(by rw[Qb a 5 4 _ hs,Le (by decide)];exact hI.i4),b1:=(fun h=>hI.b1 h),b2:=(hI.b2),a0:=(fun h=>by rw[Qb a 5 9 _ hs,Le (by decide)];exact hI.a0 h),a1:=(fun h=>by rw[Qb a 5 10 _ hs,Le (by decide)];exact hI.a1 h),a2:=(fun h=>by rw[Qb a 5 11 _ hs,Le (by decide)];exact hI.a2 h),a3:=(fun h=>by rw[Qb a 5 12 _ hs,Le (by decide)];exact hI.a3 h),a4:=(fun h=>by rw[Qb a 5 13 _ hs,Le (by decide)];exact hI.a4 h),a5:=(fun h=>by rw[Qb a 5 14 _ hs,Le (by decide)];exact hI.a5 h),a6:=(fun h=>by rw[Qb a 5 15 _ hs,Le (by decide)];exact hI.a6 h),a7:=(fun h=>hI.a7 h),a8:=(fun _=>by rw[Qb a 5 5 _ hs,Lo rfl]) }
end
theorem QfI(w:World)(k:Int)(old size:Nat)(sa:OA)(ns sc:Nat)(da:OA)(dn dc:Nat)(xa:OA)(xb xo xn xc:Nat)(X:LB)(hx:RdS w xa xb xo xn X)(h0:0<xn)(n:Nat)(d:BA)(er:Int)
  (hR:∀W,Below w.heap.size w W->Calls prog 49 #[vP 1 k old size (.slice sa ns sc) (.slice da dn dc),.string (X.getD 0 ByteArray.empty)] W fun e w'=>e= .returned (.tuple #[.agg #[.int .u64 n,.string d],.int .i64 er])∧Below W.heap.size W w') :
  Calls prog 20 #[vP 1 k old size (.slice sa ns sc) (.slice da dn dc),.slice xa xn xc] w fun e w'=>e= .returned (.tuple #[.agg #[.int .u64 n,.string d],.int .i64 er])∧Below w.heap.size w w':=by
 obtain rfl:=hx.ptr h0;obtain⟨W0,hW0⟩:∃W0,(w.alloc (.cells #[.int .i64 1,.int .i64 k,.int .u64 old,.int .u64 size,.slice sa ns sc,.slice da dn dc] 68)).alloc (.cells #[.int .u64 0,.string ⟨#[]⟩] 33)=W0:=⟨_,rfl⟩;have hb0:Below w.heap.size w W0:=by rw[<-hW0];exact bal (bal (Lc _ _) _) _
 obtain⟨h6,hr0⟩:Six W0 w.heap.size (.int .i64 1) (.int .i64 k) (.int .u64 old) (.int .u64 size) (.slice sa ns sc) (.slice da dn dc)∧Rh W0 (w.heap.size+1) 0 ⟨#[]⟩:=by
  obtain⟨e1,e2⟩:=Q9 w (.cells #[.int .i64 1,.int .i64 k,.int .u64 old,.int .u64 size,.slice sa ns sc,.slice da dn dc] 68) (.cells #[.int .u64 0,.string ⟨#[]⟩] 33);rw[<-hW0];exact⟨e1,e2⟩
 have hb0':Below w.heap.size w W0:=hb0;have m0:=h6.cells.1;have HX:=Qc (Lx hx (Lx hb0 (Lx h6 hr0)));have HR:=Qc hR;unfold vP at HR;clear hx hb0 h6 hr0 hR;unfold vP
 go_enter func20,ntmps20
 go_upto_region 1 with (fail)
 try rw[hW0]
 clear hW0
 go_upto_region 2 with (fail)
 refine Jm (by kernel_rfl) (by kernel_rfl) (LF w W0 (w.heap.size+1) w.heap.size (.agg #[.int .i64 1,.int .i64 k,.int .u64 old,.int .u64 size,.slice sa ns sc,.slice da dn dc]) xb xo xn xc (X.getD 0 ByteArray.empty) n d er)
  (fun Z _ hZ=> { sz:=rfl,df:=rfl,i1:=rfl,i2:=rfl,i4:=rfl,b1:=(fun _=>hZ),b2:=(Qa hb0' hZ),a0:=(fun h=>by cases h),a1:=(fun h=>by cases h),a2:=(fun h=>by cases h),a3:=(fun h=>by cases h),a4:=(fun h=>by cases h),a5:=(fun h=>by cases h),a6:=(fun h=>by cases h),a7:=(fun h=>by cases h),a8:=(fun h=>by cases h) })
  ⟨lf_0 rfl (fun Z hZ=>⟨_,_,_,_,_,_,rfl,HX.out.2.2.1.next hZ⟩),lf_1,lf_2 rfl h0,lf_3 rfl rfl (fun Z hZ=>by have:=(HX.out.1.next (Qa hb0' hZ) (Lb _)).at h0;exact this),lf_4 rfl rfl rfl (fun Z hZ=>HR.out Z (Qa hb0' hZ)),lf_5 rfl,lf_6 rfl,lf_7 rfl (fun Z hZ=>⟨_,_,HX.out.2.2.2.next hZ⟩) (by omega),lf_8 rfl,trivial⟩ ?_
 intro L a7 w7 hall hI;obtain⟨⟨tl⟩,df⟩:=a7;have hl0:tl.length=21:=hI.sz;obtain⟨u0,t0,rfl,hl1⟩:=Qf hl0;obtain⟨u1,t1,rfl,hl2⟩:=Qf hl1;obtain⟨u2,t2,rfl,hl3⟩:=Qf hl2;obtain⟨u3,t3,rfl,hl4⟩:=Qf hl3;obtain⟨u4,t4,rfl,hl5⟩:=Qf hl4;obtain⟨u5,t5,rfl,hl6⟩:=Qf hl5;obtain⟨u6,t6,rfl,hl7⟩:=Qf hl6;obtain⟨u7,t7,rfl,hl8⟩:=Qf hl7;obtain⟨u8,t8,rfl,hl9⟩:=Qf hl8;obtain⟨u9,t9,rfl,hl10⟩:=Qf hl9;obtain⟨u10,t10,rfl,hl11⟩:=Qf hl10;obtain⟨u11,t11,rfl,hl12⟩:=Qf hl11;obtain⟨u12,t12,rfl,hl13⟩:=Qf hl12;obtain⟨u13,t13,rfl,hl14⟩:=Qf hl13;obtain⟨u14,t14,rfl,hl15⟩:=Qf hl14;obtain⟨u15,t15,rfl,hl16⟩:=Qf hl15;obtain⟨u16,t16,rfl,hl17⟩:=Qf hl16;obtain⟨u17,t17,rfl,hl18⟩:=Qf hl17;obtain⟨u18,t18,rfl,hl19⟩:=Qf hl18;obtain⟨u19,t19,rfl,hl20⟩:=Qf hl19;obtain⟨u20,t20,rfl,hl21⟩:=Qf hl20;obtain rfl:=List.length_eq_zero_iff.1 hl21;obtain rfl:df=[]:=hI.df;obtain rfl:u4= .pointer (some ⟨w.heap.size+1,0,none⟩):=hI.i4;obtain rfl:u5= .int .i64 er:=hI.a8 (hall 8 (by decide))
 obtain⟨s0,s1⟩:=(hI.a7 (hall 7 (by decide))).cells
 have HB:=Qc hI.b2;clear hall hI
 repeat go_step
 refine LA (v := .tuple #[.agg #[.int .u64 n,.string d],.int .i64 er]) (by simp[results,results20,go_sem,s0,s1]) rfl ⟨rfl,HB.out⟩
end Go.Proofs.YtoblgjledefdbabGreatDoor
