/- Own work. -/
import Derived.Test.YtdocjikpcbmcgaaGreatDoorQn13
set_option maxRecDepth 100000
set_option maxHeartbeats 2000000
namespace Go.Proofs.YtdocjikpcbmcgaaGreatDoor
open Go.RowKit
attribute [local go_sem ↓] Go.wp_at_zero Go.wp_at_succ
open Go.Proofs.Tryz
structure CF(W:World)(q5 q9:Nat)(k:Int)(pv:Value)(pk:Int)(s:BA)(ca:OA)(cn cc:Nat)(X:LB)(tp rt:Value)(n:Nat)(d:BA)(er:Int)(L:Nat->Bool)(a:Act)(w:World):Prop where
 sz:a.tmps.size=39
 df:a.defers=[]
 i2:a.tmps.getD 2 undef = .slice ca cn cc
 i5:a.tmps.getD 5 undef = .pointer (some ⟨q5,0,none⟩)
 i9:a.tmps.getD 9 undef = .pointer (some ⟨q9,0,none⟩)
 be:Zb W w
 a0:L 0=true->a.tmps.getD 26 undef=pv
 a1:L 1=true->a.tmps.getD 27 undef = .slice ca cn cc
 a2:L 2=true->L 3=false -> ∃ao m c,a.tmps.getD 28 undef = .slice ao m c∧Qk w W.heap.size (.slice ao m c) X
 a3:L 3=true->a.tmps.getD 29 undef=tp
 a4:L 4=true->a.tmps.getD 25 undef=tp
 a5:L 5=true->a.tmps.getD 30 undef=rt
 a6:L 6=true->a.tmps.getD 31 undef = .int .i64 er
 a7:L 7=true -> ∃q,a.tmps.getD 11 undef = .pointer (some ⟨q,0,none⟩)∧W.heap.size<=q∧q<w.heap.size∧(∃n' d',Rh w q n' d')∧(L 8=true->Rh w q n d)
 a9:L 9=true->a.tmps.getD 10 undef = .int .i64 er
-- steps
section
variable {W:World} {q5 q9:Nat} {k:Int} {pv:Value} {pk:Int} {s:BA} {ca:OA} {cn cc:Nat} {X:LB} {tp rt:Value} {n:Nat} {d:BA} {er:Int} {Q:Exit->Act->World->Prop} {ops:List Oper} {ty:TypeId} {ps:String} {af:Array Edge}
theorem cf0(hq : ∀w,Zb W w -> ∃v0 v1 v2 v3 v4 v5,pv = .agg #[v0,v1,v2,v3,v4,v5]∧Six w q9 v0 v1 v2 v3 v4 v5):QN prog Q ops (CF W q5 q9 k pv pk s ca cn cc X tp rt n d er) 0 { dst:=some 26,op:=Op.load 55 (Operand.tmp 9),type:=ty,pos:=ps,after:=af,guard:=none } := by
 intro L a w K hI hj hcl hdep hK;have hs:26<a.tmps.size:=by rw[hI.sz];decide
 obtain⟨v0,v1,v2,v3,v4,v5,rfl,h6⟩:=hq w hI.be;obtain⟨m0,m1,m2,m3,m4,m5⟩:=h6.cells;have t9:=hI.i9
 show Oper.wp _ _ a w K _
 go_simp
 exact hK _ _ { sz:=(by simp[Act.put,hI.sz]),df:=(hI.df),i2:=(by rw[Qb a 26 2 _ hs,Le (by decide)];exact hI.i2),i5:=(by rw[Qb a 26 5 _ hs,Le (by decide)];exact hI.i5),i9:=(by rw[Qb a 26 9 _ hs,Le (by decide)];exact hI.i9),be:=(hI.be),a0:=(fun _=>by rw[Qb a 26 26 _ hs,Lm rfl]),a1:=(fun h=>by rw[Qb a 26 27 _ hs,Le (by decide)];exact hI.a1 h),a2:=(fun h h3=>by rw[Qb a 26 28 _ hs,Le (by decide)];exact hI.a2 h h3),a3:=(fun h=>by rw[Qb a 26 29 _ hs,Le (by decide)];exact hI.a3 h),a4:=(fun h=>by rw[Qb a 26 25 _ hs,Le (by decide)];exact hI.a4 h),a5:=(fun h=>by rw[Qb a 26 30 _ hs,Le (by decide)];exact hI.a5 h),a6:=(fun h=>by rw[Qb a 26 31 _ hs,Le (by decide)];exact hI.a6 h),a7:=(fun h=>by rw[Qb a 26 11 _ hs,Le (by decide)];exact hI.a7 h),a9:=(fun h=>by rw[Qb a 26 10 _ hs,Le (by decide)];exact hI.a9 h) }
theorem cf1  : QN prog Q ops (CF W q5 q9 k pv pk s ca cn cc X tp rt n d er) 1 { dst:=some 27,op:=Op.move (Operand.tmp 2),type:=ty,pos:=ps,after:=af,guard:=none } := by
 intro L a w K hI hj hcl hdep hK;have hs:27<a.tmps.size:=by rw[hI.sz];decide
 have t2:=hI.i2
 show Oper.wp _ _ a w K _
 go_simp
 exact hK _ _ { sz:=(by simp[Act.put,hI.sz]),df:=(hI.df),i2:=(by rw[Qb a 27 2 _ hs,Le (by decide)];exact hI.i2),i5:=(by rw[Qb a 27 5 _ hs,Le (by decide)];exact hI.i5),i9:=(by rw[Qb a 27 9 _ hs,Le (by decide)];exact hI.i9),be:=(hI.be),a0:=(fun h=>by rw[Qb a 27 26 _ hs,Le (by decide)];exact hI.a0 h),a1:=(fun _=>by rw[Qb a 27 27 _ hs,Lm rfl]),a2:=(fun h h3=>by rw[Qb a 27 28 _ hs,Le (by decide)];exact hI.a2 h h3),a3:=(fun h=>by rw[Qb a 27 29 _ hs,Le (by decide)];exact hI.a3 h),a4:=(fun h=>by rw[Qb a 27 25 _ hs,Le (by decide)];exact hI.a4 h),a5:=(fun h=>by rw[Qb a 27 30 _ hs,Le (by decide)];exact hI.a5 h),a6:=(fun h=>by rw[Qb a 27 31 _ hs,Le (by decide)];exact hI.a6 h),a7:=(fun h=>by rw[Qb a 27 11 _ hs,Le (by decide)];exact hI.a7 h),a9:=(fun h=>by rw[Qb a 27 10 _ hs,Le (by decide)];exact hI.a9 h) }
theorem cf2(d1:(af.toList.any fun e=>e.on == 1 && Region.binds .any e)=true)(hV : ∀w,Zb W w->Ro 30 #[.slice ca cn cc] w X):QN prog Q ops (CF W q5 q9 k pv pk s ca cn cc X tp rt n d er) 2 { dst:=some 28,op:=Op.call { callee:=Callee.value (Operand.func 30),args:=#[Operand.tmp 27],argTypes:=#[23] },type:=ty,pos:=ps,after:=af,guard:=none } := by
 intro L a w K hI hj hcl hdep hK;have hs:28<a.tmps.size:=by rw[hI.sz];decide
 have xA:=hI.a1 (hdep 1 d1)
 show Oper.wp _ _ a w K _
 go_simp
 refine(hV w hI.be).mono ?_
 rintro e w' ⟨v,rfl,ho,hb⟩;obtain⟨ao,m,c,rfl⟩:=Cv.Qj ho;exact hK _ _ { sz:=(by simp[Act.put,hI.sz]),df:=(hI.df),i2:=(by rw[Qb a 28 2 _ hs,Le (by decide)];exact hI.i2),i5:=(by rw[Qb a 28 5 _ hs,Le (by decide)];exact hI.i5),i9:=(by rw[Qb a 28 9 _ hs,Le (by decide)];exact hI.i9),be:=(Qa hI.be hb),a0:=(fun h=>by rw[Qb a 28 26 _ hs,Le (by decide)];exact hI.a0 h),a1:=(fun h=>by rw[Qb a 28 27 _ hs,Le (by decide)];exact hI.a1 h),a2:=(fun _ _=>⟨ao,m,c,by rw[Qb a 28 28 _ hs,Lm rfl],OW ho hI.be.size⟩),a3:=(fun h=>by rw[Qb a 28 29 _ hs,Le (by decide)];exact hI.a3 h),a4:=(fun h=>by rw[Qb a 28 25 _ hs,Le (by decide)];exact hI.a4 h),a5:=(fun h=>by rw[Qb a 28 30 _ hs,Le (by decide)];exact hI.a5 h),a6:=(fun h=>by rw[Qb a 28 31 _ hs,Le (by decide)];exact hI.a6 h),a7:=(fun h=>by rw[Qb a 28 11 _ hs,Le (by decide)];obtain⟨q,g1,g2,g3,⟨n9,d9,g4⟩,g5⟩:=hI.a7 h;exact⟨q,g1,g2,L5 g3 hb.size,⟨n9,d9,g4.next hb⟩,fun h8=>(g5 h8).next hb⟩),a9:=(fun h=>by rw[Qb a 28 10 _ hs,Le (by decide)];exact hI.a9 h) }
theorem cf3(d0:(af.toList.any fun e=>e.on == 0 && Region.binds .any e)=true)(d2:(af.toList.any fun e=>e.on == 2 && Region.binds .any e)=true)(hL : ∀w ao m c,Zb W w->Qk w W.heap.size (.slice ao m c) X->Calls prog 29 #[pv,.slice ao m c] w fun e w'=>e = .returned tp∧Zb w w'):QN prog Q ops (CF W q5 q9 k pv pk s ca cn cc X tp rt n d er) 3 { dst:=some 29,op:=Op.call { callee:=Callee.value (Operand.func 29),args:=#[Operand.tmp 26,Operand.tmp 28],argTypes:=#[55,22] },type:=ty,pos:=ps,after:=af,guard:=none } := by
 intro L a w K hI hj hcl hdep hK;have hs:29<a.tmps.size:=by rw[hI.sz];decide
 have xA:=hI.a0 (hdep 0 d0);obtain⟨ao,m,c,xB,ho⟩:=hI.a2 (hdep 2 d2) hj
 show Oper.wp _ _ a w K _
 go_simp
 refine(hL w ao m c hI.be ho).mono ?_
 rintro e w' ⟨rfl,hb⟩;exact hK _ _ { sz:=(by simp[Act.put,hI.sz]),df:=(hI.df),i2:=(by rw[Qb a 29 2 _ hs,Le (by decide)];exact hI.i2),i5:=(by rw[Qb a 29 5 _ hs,Le (by decide)];exact hI.i5),i9:=(by rw[Qb a 29 9 _ hs,Le (by decide)];exact hI.i9),be:=(Qa hI.be hb),a0:=(fun h=>by rw[Qb a 29 26 _ hs,Le (by decide)];exact hI.a0 h),a1:=(fun h=>by rw[Qb a 29 27 _ hs,Le (by decide)];exact hI.a1 h),a2:=(fun _ h=>by cases h),a3:=(fun _=>by rw[Qb a 29 29 _ hs,Lm rfl]),a4:=(fun h=>by rw[Qb a 29 25 _ hs,Le (by decide)];exact hI.a4 h),a5:=(fun h=>by rw[Qb a 29 30 _ hs,Le (by decide)];exact hI.a5 h),a6:=(fun h=>by rw[Qb a 29 31 _ hs,Le (by decide)];exact hI.a6 h),a7:=(fun h=>by rw[Qb a 29 11 _ hs,Le (by decide)];obtain⟨q,g1,g2,g3,⟨n9,d9,g4⟩,g5⟩:=hI.a7 h;exact⟨q,g1,g2,L5 g3 hb.size,⟨n9,d9,g4.next hb⟩,fun h8=>(g5 h8).next hb⟩),a9:=(fun h=>by rw[Qb a 29 10 _ hs,Le (by decide)];exact hI.a9 h) }
theorem cf4(d3:(af.toList.any fun e=>e.on == 3 && Region.binds .any e)=true):QN prog Q ops (CF W q5 q9 k pv pk s ca cn cc X tp rt n d er) 4 { dst:=some 25,op:=Op.move (Operand.tmp 29),type:=ty,pos:=ps,after:=af,guard:=none } := by
 intro L a w K hI hj hcl hdep hK;have hs:25<a.tmps.size:=by rw[hI.sz];decide
 have xA:=hI.a3 (hdep 3 d3)
 show Oper.wp _ _ a w K _
 go_simp
 exact hK _ _ { sz:=(by simp[Act.put,hI.sz]),df:=(hI.df),i2:=(by rw[Qb a 25 2 _ hs,Le (by decide)];exact hI.i2),i5:=(by rw[Qb a 25 5 _ hs,Le (by decide)];exact hI.i5),i9:=(by rw[Qb a 25 9 _ hs,Le (by decide)];exact hI.i9),be:=(hI.be),a0:=(fun h=>by rw[Qb a 25 26 _ hs,Le (by decide)];exact hI.a0 h),a1:=(fun h=>by rw[Qb a 25 27 _ hs,Le (by decide)];exact hI.a1 h),a2:=(fun h h3=>by rw[Qb a 25 28 _ hs,Le (by decide)];exact hI.a2 h h3),a3:=(fun h=>by rw[Qb a 25 29 _ hs,Le (by decide)];exact hI.a3 h),a4:=(fun _=>by rw[Qb a 25 25 _ hs,Lm rfl]),a5:=(fun h=>by rw[Qb a 25 30 _ hs,Le (by decide)];exact hI.a5 h),a6:=(fun h=>by rw[Qb a 25 31 _ hs,Le (by decide)];exact hI.a6 h),a7:=(fun h=>by rw[Qb a 25 11 _ hs,Le (by decide)];exact hI.a7 h),a9:=(fun h=>by rw[Qb a 25 10 _ hs,Le (by decide)];exact hI.a9 h) }
theorem cf5(d4:(af.toList.any fun e=>e.on == 4 && Region.binds .any e)=true)(ht:tp = .tuple #[rt,.int .i64 er]):QN prog Q ops (CF W q5 q9 k pv pk s ca cn cc X tp rt n d er) 5 { dst:=some 30,op:=Op.extract (Operand.tmp 25) 0,type:=ty,pos:=ps,after:=af,guard:=none } := by
 intro L a w K hI hj hcl hdep hK;have hs:30<a.tmps.size:=by rw[hI.sz];decide
 have xA:=hI.a4 (hdep 4 d4);rw[ht] at xA
 show Oper.wp _ _ a w K _
 go_simp
 exact hK _ _ { sz:=(by simp[Act.put,hI.sz]),df:=(hI.df),i2:=(by rw[Qb a 30 2 _ hs,Le (by decide)];exact hI.i2),i5:=(by rw[Qb a 30 5 _ hs,Le (by decide)];exact hI.i5),i9:=(by rw[Qb a 30 9 _ hs,Le (by decide)];exact hI.i9),be:=(hI.be),a0:=(fun h=>by rw[Qb a 30 26 _ hs,Le (by decide)];exact hI.a0 h),a1:=(fun h=>by rw[Qb a 30 27 _ hs,Le (by decide)];exact hI.a1 h),a2:=(fun h h3=>by rw[Qb a 30 28 _ hs,Le (by decide)];exact hI.a2 h h3),a3:=(fun h=>by rw[Qb a 30 29 _ hs,Le (by decide)];exact hI.a3 h),a4:=(fun h=>by rw[Qb a 30 25 _ hs,Le (by decide)];exact hI.a4 h),a5:=(fun _=>by rw[Qb a 30 30 _ hs,Lm rfl]),a6:=(fun h=>by rw[Qb a 30 31 _ hs,Le (by decide)];exact hI.a6 h),a7:=(fun h=>by rw[Qb a 30 11 _ hs,Le (by decide)];exact hI.a7 h),a9:=(fun h=>by rw[Qb a 30 10 _ hs,Le (by decide)];exact hI.a9 h) }
theorem cf6(d4:(af.toList.any fun e=>e.on == 4 && Region.binds .any e)=true)(ht:tp = .tuple #[rt,.int .i64 er]):QN prog Q ops (CF W q5 q9 k pv pk s ca cn cc X tp rt n d er) 6 { dst:=some 31,op:=Op.extract (Operand.tmp 25) 1,type:=ty,pos:=ps,after:=af,guard:=none } := by
 intro L a w K hI hj hcl hdep hK;have hs:31<a.tmps.size:=by rw[hI.sz];decide
 have xA:=hI.a4 (hdep 4 d4);rw[ht] at xA
 show Oper.wp _ _ a w K _
 go_simp
 exact hK _ _ { sz:=(by simp[Act.put,hI.sz]),df:=(hI.df),i2:=(by rw[Qb a 31 2 _ hs,Le (by decide)];exact hI.i2),i5:=(by rw[Qb a 31 5 _ hs,Le (by decide)];exact hI.i5),i9:=(by rw[Qb a 31 9 _ hs,Le (by decide)];exact hI.i9),be:=(hI.be),a0:=(fun h=>by rw[Qb a 31 26 _ hs,Le (by decide)];exact hI.a0 h),a1:=(fun h=>by rw[Qb a 31 27 _ hs,Le (by decide)];exact hI.a1 h),a2:=(fun h h3=>by rw[Qb a 31 28 _ hs,Le (by decide)];exact hI.a2 h h3),a3:=(fun h=>by rw[Qb a 31 29 _ hs,Le (by decide)];exact hI.a3 h),a4:=(fun h=>by rw[Qb a 31 25 _ hs,Le (by decide)];exact hI.a4 h),a5:=(fun h=>by rw[Qb a 31 30 _ hs,Le (by decide)];exact hI.a5 h),a6:=(fun _=>by rw[Qb a 31 31 _ hs,Lm rfl]),a7:=(fun h=>by rw[Qb a 31 11 _ hs,Le (by decide)];exact hI.a7 h),a9:=(fun h=>by rw[Qb a 31 10 _ hs,Le (by decide)];exact hI.a9 h) }
theorem cf7(hd8:dep ops 8 7=true):QN prog Q ops (CF W q5 q9 k pv pk s ca cn cc X tp rt n d er) 7 { dst:=some 11,op:=Op.alloc 30,type:=ty,pos:=ps,after:=af,guard:=none } := by
 intro L a w K hI hj hcl hdep hK;have hs:11<a.tmps.size:=by rw[hI.sz];decide
 have h8:=Uh hcl hj hd8
 show Oper.wp _ _ a w K _
 go_simp
 exact hK _ _ { sz:=(by simp[Act.put,hI.sz]),df:=(hI.df),i2:=(by rw[Qb a 11 2 _ hs,Le (by decide)];exact hI.i2),i5:=(by rw[Qb a 11 5 _ hs,Le (by decide)];exact hI.i5),i9:=(by rw[Qb a 11 9 _ hs,Le (by decide)];exact hI.i9),be:=(bal hI.be _),a0:=(fun h=>by rw[Qb a 11 26 _ hs,Le (by decide)];exact hI.a0 h),a1:=(fun h=>by rw[Qb a 11 27 _ hs,Le (by decide)];exact hI.a1 h),a2:=(fun h h3=>by rw[Qb a 11 28 _ hs,Le (by decide)];obtain⟨ao,m,c,g1,g2⟩:=hI.a2 h h3;exact⟨ao,m,c,g1,Y0 g2 _⟩),a3:=(fun h=>by rw[Qb a 11 29 _ hs,Le (by decide)];exact hI.a3 h),a4:=(fun h=>by rw[Qb a 11 25 _ hs,Le (by decide)];exact hI.a4 h),a5:=(fun h=>by rw[Qb a 11 30 _ hs,Le (by decide)];exact hI.a5 h),a6:=(fun h=>by rw[Qb a 11 31 _ hs,Le (by decide)];exact hI.a6 h),a7:=(fun _=>⟨w.heap.size,by rw[Qb a 11 11 _ hs,Lm rfl],hI.be.size,by simp,⟨0,⟨#[]⟩,Lu w _⟩,fun h=>by rw[Le (by decide),h8] at h;cases h⟩),a9:=(fun h=>by rw[Qb a 11 10 _ hs,Le (by decide)];exact hI.a9 h) }
theorem cf8(d5:(af.toList.any fun e=>e.on == 5 && Region.binds .any e)=true)(d7:(af.toList.any fun e=>e.on == 7 && Region.binds .any e)=true)(hd3:(af.toList.any fun e=>e.on == 3 && Region.binds .any e)=true)(hr:rt = .agg #[.int .u64 (n:Int),.string d]):QN prog Q ops (CF W q5 q9 k pv pk s ca cn cc X tp rt n d er) 8 { dst:=none,op:=Op.store 30 (Operand.tmp 11) (Operand.tmp 30),type:=ty,pos:=ps,after:=af,guard:=none } := by
 intro L a w K hI hj hcl hdep hK;have xE:=hI.a5 (hdep 5 d5);rw[hr] at xE;obtain⟨q,xD,g2,g3,⟨n9,d9,g4⟩,_⟩:=hI.a7 (hdep 7 d7);have h3:=hdep 3 hd3;obtain⟨k0,k1⟩:=g4.cells;have fz:=g4.fz;have xA:=O1 w q n d;have xB:=g4.put n d;unfold putR at xA xB
 show Oper.wp _ _ a w K _
 go_simp
 exact hK undef _ { sz:=(hI.sz),df:=(hI.df),i2:=(by exact hI.i2),i5:=(by exact hI.i5),i9:=(by exact hI.i9),be:=(hI.be.trans (xA.below (by rintro b rfl;exact g2))),a0:=(fun h=>by exact hI.a0 h),a1:=(fun h=>by exact hI.a1 h),a2:=(fun _ h=>by have xC:L 3=false:=h;rw[h3] at xC;cases xC),a3:=(fun h=>by exact hI.a3 h),a4:=(fun h=>by exact hI.a4 h),a5:=(fun h=>by exact hI.a5 h),a6:=(fun h=>by exact hI.a6 h),a7:=(fun _=>⟨q,xD,g2,by rw[xA.size];exact g3,⟨n,d,xB⟩,fun _=>xB⟩),a9:=(fun h=>by exact hI.a9 h) }
theorem cf9(d6:(af.toList.any fun e=>e.on == 6 && Region.binds .any e)=true):QN prog Q ops (CF W q5 q9 k pv pk s ca cn cc X tp rt n d er) 9 { dst:=some 10,op:=Op.assign (Operand.tmp 31),type:=ty,pos:=ps,after:=af,guard:=none } := by
 intro L a w K hI hj hcl hdep hK;have hs:10<a.tmps.size:=by rw[hI.sz];decide
 have xA:=hI.a6 (hdep 6 d6)
 show Oper.wp _ _ a w K _
 go_simp
 exact hK _ _ { sz:=(by simp[Act.put,hI.sz]),df:=(hI.df),i2:=(by rw[Qb a 10 2 _ hs,Le (by decide)];exact hI.i2),i5:=(by rw[Qb a 10 5 _ hs,Le (by decide)];exact hI.i5),i9:=(by rw[Qb a 10 9 _ hs,Le (by decide)];exact hI.i9),be:=(hI.be),a0:=(fun h=>by rw[Qb a 10 26 _ hs,Le (by decide)];exact hI.a0 h),a1:=(fun h=>by rw[Qb a 10 27 _ hs,Le (by decide)];exact hI.a1 h),a2:=(fun h h3=>by rw[Qb a 10 28 _ hs,Le (by decide)];exact hI.a2 h h3),a3:=(fun h=>by rw[Qb a 10 29 _ hs,Le (by decide)];exact hI.a3 h),a4:=(fun h=>by rw[Qb a 10 25 _ hs,Le (by decide)];exact hI.a4 h),a5:=(fun h=>by rw[Qb a 10 30 _ hs,Le (by decide)];exact hI.a5 h),a6:=(fun h=>by rw[Qb a 10 31 _ hs,Le (by decide)];exact hI.a6 h),a7:=(fun h=>by rw[Qb a 10 11 _ hs,Le (by decide)];exact hI.a7 h),a9:=(fun _=>by rw[Qb a 10 10 _ hs,Lm rfl]) }
end
theorem QcP(w:World)(k:Int)(o1:Nat)(c1:BA)(ca:OA)(cn cc:Nat)(s:BA)(hs:s.size<=281474976710656)(e0:Int)(he:tkE k s=e0)(h0:e0≠0) :
  Zr 11 #[.int .i64 k,.agg #[.int .u64 (o1:Int),.string c1],.slice ca cn cc,.string s] w (.int .i64 e0):=by
 have HT:Hid (∀W,Zr 27 #[.int .i64 k,.string s] W (.tuple #[noP,.int .i64 e0])):=fun W=>QkC W k s hs e0 he h0
 have xA:=bal (Lb w.heap.size w) (.cells #[.int .u64 (o1:Int),.string c1] 30);have hz:(e0 == 0)=false:=by simpa using h0
 clear he hs
 go_enter func11,ntmps11
 go_wp2_with (go_at_call 27;with_reducible refine(HT.out _).mono ?_;rintro e w1 ⟨rfl,xB⟩)
 go_ret
 exact⟨rfl,bal (Qa xA xB) _⟩
theorem UE(w:World)(k:Int)(k1:1<=k)(k2:k<=32)(o1:Nat)(c1:BA)(ca:OA)(cb co cn cc:Nat)(l:List (Nat×BA))(hc:RdK w ca cb co cn l)(s:BA)(hs:s.size<=281474976710656)(P:PV)(hd:dec s.data.toList=some P)(hk:P.k=k)(hno : ¬((P.kd=1∨P.kd=2)∧P.S=ixs l)) :
  Zr 11 #[.int .i64 k,.agg #[.int .u64 (o1:Int),.string c1],.slice ca cn cc,.string s] w (.int .i64 150):=by
 have HT:Hid (∀W,Calls prog 27 #[.int .i64 k,.string s] W fun e w' => ∃sa sb sc da db dc,e = .returned (.tuple #[.agg #[.int .i64 P.kd,.int .i64 k,.int .u64 (P.old:Int),.int .u64 (P.size:Int),.slice sa P.S.length sc,.slice da P.D.length dc],.int .i64 0])∧RdF w' sa sb sc da db dc P∧Zb W w'):=fun W=>Qfq W k k1 k2 s hs P hd hk
 have HO:Hid (∀W sa sb sc da db dc,Zb w W->RdF W sa sb sc da db dc P->Zr 28 #[vP P.kd k P.old P.size (.slice sa P.S.length sc) (.slice da P.D.length dc),.slice ca cn cc] W (.bool false)):=fun W sa sb sc da db dc hb hF=>QeT W P.kd k P.old P.size sa sb 0 sc P.S hF.p.rs hF.p.mS da P.D.length dc ca cb co cn cc l (hc.next hb) false (Lj hno)
 unfold vP at HO;obtain⟨W0,xA⟩:=Ze (w.alloc (.cells #[.int .u64 (o1:Int),.string c1] 30));have xF:Zb w W0:=by rw[<-xA];exact bal (Lb _ _) _
 clear hs hd hk hno k1 k2 hc;obtain⟨kd,kk,xI,xB,S,D⟩:=P;simp only at HT HO
 go_enter func11,ntmps11
 go_upto_region 1 with (fail)
 try rw[xA]
 clear xA
 go_upto_region 4 with (go_at_call 27;with_reducible refine(HT.out _).mono ?_;rintro e w1 ⟨sa,sb,sc,da,db,dc,rfl,hF,xG⟩)
 obtain⟨F,xC,h7,xD,_⟩:=Yk w1 (.int .i64 kd) (.int .i64 k) (.int .u64 (xI:Int)) (.int .u64 (xB:Int)) (.slice sa S.length sc) (.slice da D.length dc)
 try rw[xC]
 clear xC;obtain⟨m0,m1,m2,m3,m4,m5⟩:=h7.cells;have xE:=hF.next xD;have xb:=Qa xF (Qa xG xD)
 go_wp2_with (go_at_call 28;with_reducible refine(HO.out _ _ _ _ _ _ _ xb xE).mono ?_;rintro e w3 ⟨rfl,xH⟩)
 go_ret
 exact⟨rfl,Qa xb xH⟩
theorem Qc{α:Type}{l:List α}{n:Nat}(h:l.length=n+1) : ∃x t,l=x::t∧t.length=n:=by
 cases l with
 | nil=>cases h
 | cons x t=>exact⟨x,t,rfl,by simpa using h⟩
def clmD(n:Nat)(d:BA)(er:Int)(o1:Nat)(c1:BA):Int:=if er=0∧n=o1∧d=c1 then 0 else 150
theorem UD(w:World)(k:Int)(k1:1<=k)(k2:k<=32)(o1:Nat)(c1:BA)(ca:OA)(cb co cn cc:Nat)(l:List (Nat×BA))(hc:RdK w ca cb co cn l)(hcm:cn<=8796093021952)(s:BA)(hs:s.size<=281474976710656)(P:PV)(hd:dec s.data.toList=some P)(hk:P.k=k)(hyes:(P.kd=1∨P.kd=2)∧P.S=ixs l)
  (n:Nat) (d:BA) (er:Int)
  (hL : ∀W sa sb sc da db dc ao m c,Zb w W->RdF W sa sb sc da db dc P->Qk W w.heap.size (.slice ao m c) (vls l)->Zr 29 #[vP P.kd k P.old P.size (.slice sa P.S.length sc) (.slice da P.D.length dc),.slice ao m c] W (.tuple #[.agg #[.int .u64 (n:Int),.string d],.int .i64 er]))
  (r:Int) (hr:clmD n d er o1 c1=r) :
  Zr 11 #[.int .i64 k,.agg #[.int .u64 (o1:Int),.string c1],.slice ca cn cc,.string s] w (.int .i64 r):=by
 have HT:Hid (∀W,Calls prog 27 #[.int .i64 k,.string s] W fun e w' => ∃sa sb sc da db dc,e = .returned (.tuple #[.agg #[.int .i64 P.kd,.int .i64 k,.int .u64 (P.old:Int),.int .u64 (P.size:Int),.slice sa P.S.length sc,.slice da P.D.length dc],.int .i64 0])∧RdF w' sa sb sc da db dc P∧Zb W w'):=fun W=>Qfq W k k1 k2 s hs P hd hk
 have HO:Hid (∀W sa sb sc da db dc,Zb w W->RdF W sa sb sc da db dc P->Zr 28 #[vP P.kd k P.old P.size (.slice sa P.S.length sc) (.slice da P.D.length dc),.slice ca cn cc] W (.bool true)):=fun W sa sb sc da db dc hb hF=>QeT W P.kd k P.old P.size sa sb 0 sc P.S hF.p.rs hF.p.mS da P.D.length dc ca cb co cn cc l (hc.next hb) true (Ln hyes)
 have HV:Hid (∀W,Zb w W->Ro 30 #[.slice ca cn cc] W (vls l)):=fun W hb=>Qgq W ca cb co cn cc l (hc.next hb) hcm
 have HL:=Qe hL;unfold vP at HO HL;obtain⟨W0,yK⟩:=Ze (w.alloc (.cells #[.int .u64 (o1:Int),.string c1] 30));have hq:Rh W0 w.heap.size o1 c1∧Zb w W0:=by rw[<-yK];exact⟨Lu w _,bal (Lb _ _) _⟩
 have HX:Hid (∀F,Zb W0 F->Rh F w.heap.size o1 c1∧Zb w F):=fun F hF=>⟨hq.1.next hF,Qa hq.2 hF⟩
 clear hs hd hk hyes k1 k2 hc hcm hL hq;obtain⟨kd,kk,yZ,yG,S,D⟩:=P;simp only at HT HO HL
 go_enter func11,ntmps11
 go_upto_region 1 with (fail)
 try rw[yK]
 clear yK
 go_upto_region 4 with (go_at_call 27;with_reducible refine(HT.out _).mono ?_;rintro e w1 ⟨sa,sb,sc,da,db,dc,rfl,hF,yL⟩)
 obtain⟨F,yN,h7,yH,_⟩:=Yk w1 (.int .i64 kd) (.int .i64 k) (.int .u64 (yZ:Int)) (.int .u64 (yG:Int)) (.slice sa S.length sc) (.slice da D.length dc)
 try rw[yN]
 clear yN;obtain⟨m0,m1,m2,m3,m4,m5⟩:=h7.cells;have yJ:=hF.next yH;have xb:=(HX.out _ (Qa yL yH)).2
 go_upto_region 6 with (go_at_call 28;with_reducible refine(HO.out _ _ _ _ _ _ _ xb yJ).mono ?_;rintro e w3 ⟨rfl,yI⟩)
 have x7:=h7.next yI;have yM:=Qe (yJ.next yI);obtain⟨xr,zA⟩:=HX.out _ (Qa (Qa yL yH) yI);have xA:=Qe (Lo xr zA);clear yJ hF xb m0 m1 m2 m3 m4 m5 yH yL yI HT HO HX xr zA;refine YQ (by kernel_rfl) (by kernel_rfl) (CF w3 w.heap.size w1.heap.size k (.agg #[.int .i64 kd,.int .i64 k,.int .u64 (yZ:Int),.int .u64 (yG:Int),.slice sa S.length sc,.slice da D.length dc]) k s ca cn cc (vls l) (.tuple #[.agg #[.int .u64 (n:Int),.string d],.int .i64 er]) (.agg #[.int .u64 (n:Int),.string d]) n d er)
  (fun Z _ hZ => { sz:=rfl,df:=rfl,i2:=rfl,i5:=rfl,i9:=rfl,be:=hZ,a0:=(fun h=>by cases h),a1:=(fun h=>by cases h),a2:=(fun h=>by cases h),a3:=(fun h=>by cases h),a4:=(fun h=>by cases h),a5:=(fun h=>by cases h),a6:=(fun h=>by cases h),a7:=(fun h=>by cases h),a9:=(fun h=>by cases h) })
  ⟨cf0 (fun Z hZ=>⟨_,_,_,_,_,_,rfl,x7.next hZ⟩),cf1,cf2 rfl (fun Z hZ=>HV.out Z (Qa xA.out.2 hZ)),cf3 rfl rfl (fun Z ao m c hZ ho=>HL.out Z sa sb sc da db dc ao m c (Qa xA.out.2 hZ) (yM.out.next hZ) (OW ho xA.out.2.size)),cf4 rfl,cf5 rfl rfl,cf6 rfl rfl,cf7 rfl,cf8 rfl rfl rfl rfl,cf9 rfl,trivial⟩ ?_
 intro L a7 w7 hall hI;obtain⟨⟨tl⟩,df⟩:=a7;have yO:tl.length=39:=hI.sz;obtain⟨u0,t0,rfl,yP⟩:=Qc yO;obtain⟨u1,t1,rfl,yQ⟩:=Qc yP;obtain⟨u2,t2,rfl,yR⟩:=Qc yQ;obtain⟨u3,t3,rfl,yS⟩:=Qc yR;obtain⟨u4,t4,rfl,yT⟩:=Qc yS;obtain⟨u5,t5,rfl,yU⟩:=Qc yT;obtain⟨u6,t6,rfl,yV⟩:=Qc yU;obtain⟨u7,t7,rfl,yW⟩:=Qc yV;obtain⟨u8,t8,rfl,yX⟩:=Qc yW;obtain⟨u9,t9,rfl,xC⟩:=Qc yX;obtain⟨u10,zC,rfl,xD⟩:=Qc xC;obtain⟨u11,zD,rfl,xE⟩:=Qc xD;obtain⟨u12,zE,rfl,xF⟩:=Qc xE;obtain⟨u13,zF,rfl,xG⟩:=Qc xF;obtain⟨u14,zG,rfl,xH⟩:=Qc xG;obtain⟨u15,zH,rfl,xI⟩:=Qc xH;obtain⟨u16,zI,rfl,xJ⟩:=Qc xI;obtain⟨u17,zJ,rfl,xK⟩:=Qc xJ;obtain⟨u18,zK,rfl,xL⟩:=Qc xK;obtain⟨u19,zL,rfl,xM⟩:=Qc xL;obtain⟨u20,zM,rfl,xN⟩:=Qc xM;obtain⟨u21,zN,rfl,xO⟩:=Qc xN;obtain⟨u22,zO,rfl,xP⟩:=Qc xO;obtain⟨u23,zP,rfl,xQ⟩:=Qc xP;obtain⟨u24,zQ,rfl,xR⟩:=Qc xQ;obtain⟨u25,zR,rfl,xS⟩:=Qc xR;obtain⟨u26,zS,rfl,xT⟩:=Qc xS;obtain⟨u27,zT,rfl,xU⟩:=Qc xT;obtain⟨u28,zU,rfl,xV⟩:=Qc xU;obtain⟨u29,zV,rfl,xW⟩:=Qc xV;obtain⟨u30,zW,rfl,xX⟩:=Qc xW;obtain⟨u31,zX,rfl,xY⟩:=Qc xX;obtain⟨u32,zY,rfl,xZ⟩:=Qc xY;obtain⟨u33,zZ,rfl,yA⟩:=Qc xZ;obtain⟨u34,kA,rfl,yB⟩:=Qc yA;obtain⟨u35,kB,rfl,yC⟩:=Qc yB;obtain⟨u36,kC,rfl,yD⟩:=Qc yC;obtain⟨u37,kD,rfl,yE⟩:=Qc yD;obtain⟨u38,kE,rfl,yF⟩:=Qc yE;obtain rfl:=List.length_eq_zero_iff.1 yF;obtain rfl:df=[]:=hI.df;obtain rfl:u5 = .pointer (some ⟨w.heap.size,0,none⟩):=hI.i5;obtain rfl:u10 = .int .i64 er:=hI.a9 (hall 9 (by decide))
 obtain⟨q,zB,_,_,_,g8⟩:=hI.a7 (hall 7 (by decide))
 obtain rfl:u11 = .pointer (some ⟨q,0,none⟩):=zB;obtain⟨b0,b1⟩:=(g8 (hall 8 (by decide))).cells
 have xB:=Qa xA.out.2 hI.be;obtain⟨a0,a1⟩:=(xA.out.1.next hI.be).cells;have HB:=Qe xB;clear yO yP yQ yR yS yT yU yV yW yX xC xD xE xF xG xH xI xJ xK xL xM xN xO xP xQ xR xS xT xU xV xW xX xY xZ yA yB yC yD yE yF;clear xB hI hall g8 xA yM HL HV x7 h7;unfold clmD at hr
 by_cases h1:er=0
 ·subst h1
  by_cases h2:n=o1∧d=c1
  ·obtain⟨rfl,rfl⟩:=h2;rw[Lm ⟨rfl,rfl,rfl⟩] at hr;subst hr;go_wp2
   go_ret
   exact⟨rfl,HB.out⟩
  ·rw[Le (fun h=>h2 h.2)] at hr
   subst hr
   rcases Qd5 h2 with hn|⟨rfl,hd⟩
   ·have hz : ¬(n:Int)=(o1:Int):=by omega
    have yY:((n:Int) == (o1:Int))=false:=by simpa using hz
    clear h2 hn;go_wp2
    go_ret
    exact⟨rfl,HB.out⟩
   ·have hz:=Uu hd;have yY:=YZ hd;clear h2 hd;go_wp2
    go_ret
    exact⟨rfl,HB.out⟩
 ·rw[Le (fun h=>h1 h.1)] at hr
  subst hr;have yY:(er == 0)=false:=by simpa using h1
  go_wp2
  go_ret
  exact⟨rfl,HB.out⟩
theorem QcE(x n:Int)(w:World)(hn:0<n)(hn':n<32) :
  Calls prog 124 #[.int .u32 x,.int .i64 n] w fun e w'=>e = .returned (.int .u32 (UL x n)) ∧ ∃k,w'=w.drewN k:=by
 have e1:IntKind.i64.wrap (32 - n)=32 - n:=Yh _ (by omega) (by omega)
 have b0:(0:Int)<=n:=by omega
 have b1:(0:Int)<=32 - n:=by omega
 have hm:min n.toNat 32=n.toNat:=by omega
 have xA:min (32 - n).toNat 32=(32 - n).toNat:=by omega
 go_enter func124,ntmps124;go_wp2
 go_region_held3 (fun _=>True) (trivial) (fail)
 go_wp2
 go_ret
 refine⟨?_,1,rfl⟩
 show Ending.returned (Value.int .u32 _)=_
 unfold UL
 rfl
def horI(blk:List Int)(t:Nat):Nat->Int
 | 0=>0
 | i+1=>IntKind.u32.wrap (IntKind.u32.wrap (horI blk t i*256)+IntKind.u32.wrap (blk.getD (4*t+i) 0))
def Qab(blk:List Int):Nat->List Int
 | 0=>[]
 | k+1=>Qab blk k++[horI blk k 4]
theorem Qdi(blk:List Int)(k:Nat):(Qab blk k).length=k:=by
 induction k with
 | zero=>rfl
 | succ k ih=>simp[Qab,ih]
def Yy(blk:List Int):Nat->List Int
 | 0=>Qab blk 16
 | k+1=>Yy blk k++[QeY ((Yy blk k).getD k 0) ((Yy blk k).getD (k+1) 0) ((Yy blk k).getD (k+9) 0) ((Yy blk k).getD (k+14) 0)]
theorem Qfn(blk:List Int)(k:Nat):(Yy blk k).length=16+k:=by
 induction k with
 | zero=>exact Qdi _ _
 | succ k ih=>simp only[Yy,List.length_append,ih,List.length_cons,List.length_nil];omega
theorem QhS{w:World}{b i j:Nat}{v u:Value}(h:w.cell? ⟨b,i,none⟩=some u)(hne:i≠j):(w.setCell ⟨b,j,none⟩ v).cell? ⟨b,i,none⟩=some u:=by
 rw[LJ _ _ _ _ (fun e=>hne (by have:=LU Addr.off e;simpa using this.symm))];exact h
theorem Qe7{l:List Int}(h:l.length<64):pad (l++[0])=pad l:=by
 rw[<-Qbc h 0]
 apply IK
 intro i
 by_cases e:i=l.length
 ·subst e;rw[List.getElem?_set_self (by rw[Uv (by omega)];omega)]
  have:=Yn l l.length;rw[La,Lc (by rw[Uv (by omega)];omega),La,N8 (l:=l) (by omega)] at this
  rw[Lc (by rw[Uv (by omega)];omega)]
  simpa using this.symm
 ·rw[Iu (fun h=>e h.symm)]
theorem Qlu(b:BA)(m:Nat)(hm:m<b.size)(w:World):(Instr.index 9 (.string b) (.int .i64 (m:Int))).run prog w = .ok (.int .u8 ((tB b).getD m 0)) w:=by
 have e:(tB b).getD m 0=(b[m].toNat:Int):=by
  have:b.data.toList[m]? = some b[m]:=by
   rw[ND,Nl (by simpa using hm)];rfl
  simp[tB,List.getD_eq_getElem?_getD,this]
 have h2:b[m]? = some b[m]:=getElem?_pos b m hm
 rw[e];simp[Instr.index,asIntOf,run_underlying underlying9,h2]
structure Pl(w wr:World)(ws:List Int):Prop where
 below:Zb w wr
 res:wr.there w.heap.size 0 64
 ws:wr.rangeAt (w.heap.size+1) 0 (cW (pad ws))
 wst:wr.there (w.heap.size+1) 0 64
theorem Pl.set{w wr:World}{ws:List Int}{y:Int}(h:Pl w wr (ws++[y])){m:Nat}(hm:ws.length=m)(hl:m<64)(v:Int):Pl w (wr.setCell ⟨w.heap.size+1,m,none⟩ (.int .u32 v)) (ws++[v]):=by
 subst hm;refine⟨h.below.setCell (by show w.heap.size<=w.heap.size+1;omega) _,Yb h.res _ _,?_,Yb h.wst _ _⟩
 have:=UB h.ws ws.length (.int .u32 v);rw[Lr,QfG,<-Qbc hl y,List.set_set,Qbc hl] at this;exact this
theorem Pl.step{w wr:World}{ws:List Int}(h:Pl w wr ws){m:Nat}(hm:ws.length=m)(hl:m<64)(v:Int):Pl w (wr.setCell ⟨w.heap.size+1,m,none⟩ (.int .u32 v)) (ws++[v]) :=
 Pl.set (y:=0) ⟨h.below,h.res,by rw[Qe7 (by omega)];exact h.ws,h.wst⟩ hm hl v
theorem Pl.same{w X Y:World}{ws:List Int}(h:Pl w X ws)(e1:Y.heap=X.heap)(e2:Y.os=X.os)(e3:Y.tape=X.tape)(e4:Y.output=X.output):Pl w Y ws:=by
 have hc : ∀a,Y.cell? a=X.cell? a:=fun a=>LC (w:=X) (by rw[e1])
 have hf : ∀a,Y.frozen? a=X.frozen? a:=fun a=>IP (w:=X) (by rw[e1])
 exact⟨⟨e2.trans h.below.os,e3.trans h.below.tape,e4.trans h.below.output,by rw[e1];exact h.below.size,fun k hk=>by rw[e1];exact h.below.block k hk⟩,
  fun j hj=>by rw[hc,hf];exact h.res j hj,fun j v hv=>by rw[hc];exact h.ws j v hv,fun j hj=>by rw[hc,hf];exact h.wst j hj⟩
theorem Pl.start(w:World)(z1 z2:Array Value)(t1 t2:TypeId)(h1:z1.size=64)(h2:z2=(cW (pad [])).toArray):Pl w ((w.alloc (.cells z1 t1)).alloc (.cells z2 t2)) []:=by
 subst h2;have q1:=Qz w z1 t1 64 (by omega)
 have r2:=Qu (w.alloc (.cells z1 t1)) (cW (pad [])) t2;have q2:=Qz (w.alloc (.cells z1 t1)) (cW (pad [])).toArray t2 64 (by simp[Qo,pad])
 simp only[World.size_alloc] at r2 q2;exact⟨((Lb _ _).alloc (Ld _) _).alloc (by simp) _,World.there_alloc q1 _,r2,q2⟩
theorem Qkb(b:BA)(hb:b.size=64)(w:World) :
  Zr 123 #[.string b] w (.agg (cW (Yy (tB b) 48)).toArray):=by
 go_enter func123,ntmps123;go_wp2
 go_loopg [4] 16 (fun g i wr => ∃k:Nat,k<=16∧g=16 - k∧i = .int .i64 k∧Pl w wr (Qab (tB b) k))
 case atStart=>go_light;exact⟨0,Ll _,rfl,rfl,Pl.start w _ _ _ _ rfl rfl⟩
 case round =>
  obtain⟨k,hk,rfl,rfl,hs⟩:=hrel
  by_cases hlt:k<16
  ·have xP:(0:Int)<=(k:Int):=Lf _;have xQ:(k:Int)<16:=by omega
   have dk:(k:Int)<64:=by omega
   have xA:=Qdi (tB b) k;go_wp2
   go_loopg [5] 4 (fun g i wi => ∃j:Nat,j<=4∧g=4 - j∧i = .int .i64 j∧Pl w wi (Qab (tB b) k++[horI (tB b) k j]))
   case atStart =>
    go_light;refine⟨0,Ll _,rfl,rfl,?_⟩
    exact⟨hs.below,hs.res,by rw[show horI (tB b) k 0=0 from rfl,Qe7 (by omega)];exact hs.ws,hs.wst⟩
   case round =>
    clear hs;obtain⟨j,hj,rfl,rfl,hs⟩:=hrel
    by_cases hjl:j<4
    ·have xN:(0:Int)<=(j:Int):=Lf _;have xO:(j:Int)<4:=by omega
     obtain⟨m,hm⟩ : ∃m:Nat,4*k+j=m:=⟨_,rfl⟩;obtain⟨m4,xK⟩ : ∃m4:Nat,4*k=m4:=⟨_,rfl⟩;have e0:IntKind.i64.wrap (4*(k:Int))=(m4:Int):=by rw[Yh _ (by omega) (by omega)];omega
     have e1:IntKind.i64.wrap ((m4:Int)+(j:Int))=(m:Int):=by rw[Yh _ (by omega) (by omega)];omega
     have xJ:=fun w'=>Qlu b m (by omega) w'
     have c0:wr.cell? ⟨w.heap.size+1,k,none⟩=some (.int .u32 (horI (tB b) k j)):=by
      have:=Qf hs.ws (i:=k) (by rw[Uv (by simp[xA];omega)];omega)
      rw[Yn,La,LN (by omega),xA,NJ] at this
      exact this
     have f0:wr.frozen? ⟨w.heap.size+1,k,none⟩=false:=by have:=(hs.wst k (by omega)).2;rwa [Lr] at this
     have HF:Hid (∀v,Pl w (wr.setCell ⟨w.heap.size+1,k,none⟩ (.int .u32 v)) (Qab (tB b) k++[v])):=fun v=>hs.set xA (by omega) v
     have HV:Hid (horI (tB b) k (j+1)=IntKind.u32.wrap (IntKind.u32.wrap (horI (tB b) k j*256)+IntKind.u32.wrap ((tB b).getD m 0))):=by
      show _=_
      rw[horI,hm]
     clear hs hm xK;generalize horI (tB b) k j=x at *;generalize (tB b).getD m 0=y at *;go_wp2
     go_region
     all_goals
      go_wp2
      go_roundg (4 - (j+1))
      case rel =>
       go_light;refine⟨j+1,by omega,rfl,by go_num,?_⟩
       have e:IntKind.u32.wrap (IntKind.u32.wrap (x*256)+IntKind.u32.wrap y)=(x*256+y) % 4294967296:=by simp only[IntKind.wrap_u32'];omega
       rw[HV.out,e];exact(HF.out _).same rfl rfl rfl rfl
      case measure=>go_light;omega
    ·obtain rfl:j=4:=by omega
     go_wp2
     go_roundg (16 - (k+1))
     case rel=>go_light;exact⟨k+1,by omega,rfl,by go_num,hs⟩
     case measure=>go_light;omega
  ·obtain rfl:k=16:=by omega
   clear hk hlt;go_wp2
   go_loopg [6] 48 (fun g i wr => ∃k:Nat,k<=48∧g=48 - k∧i = .int .i64 ((16+k:Nat):Int)∧Pl w wr (Yy (tB b) k))
   case atStart=>go_light;exact⟨0,Ll _,rfl,rfl,hs⟩
   case round =>
    clear hs;obtain⟨k,hk,rfl,rfl,hs⟩:=hrel
    by_cases hlt:k<48
    ·obtain⟨t,ht⟩ : ∃t:Nat,16+k=t:=⟨_,rfl⟩;obtain⟨k1,xF⟩ : ∃k1:Nat,k+1=k1:=⟨_,rfl⟩;obtain⟨k9,xG⟩ : ∃k9:Nat,k+9=k9:=⟨_,rfl⟩;obtain⟨xB,xC⟩ : ∃xB:Nat,k+14=xB:=⟨_,rfl⟩;rw[ht];have e0:IntKind.i64.wrap ((t:Int) - 16)=(k:Int):=by rw[Yh _ (by omega) (by omega)];omega
     have e2:IntKind.i64.wrap ((t:Int) - 7)=(k9:Int):=by rw[Yh _ (by omega) (by omega)];omega
     have e1:(t:Int) - 15=(k1:Int):=by omega
     have e3:(t:Int) - 2=(xB:Int):=by omega
     have b0:(0:Int)<=(k:Int):=Lf _;have b1:(0:Int)<=(k1:Int):=Lf _;have b2:(0:Int)<=(k9:Int):=Lf _;have b3:(0:Int)<=(xB:Int):=Lf _;have bt:(0:Int)<=(t:Int):=Lf _;have d0:(k:Int)<64:=by omega
     have d1:(k1:Int)<64:=by omega
     have d2:(k9:Int)<64:=by omega
     have d3:(xB:Int)<64:=by omega
     have dt:(t:Int)<64:=by omega
     have xA:=Qfn (tB b) k;have xL:(pad (Yy (tB b) k)).length=64:=Uv (by omega)
     have c0:wr.cell? ⟨w.heap.size+1,k,none⟩=some (.int .u32 ((Yy (tB b) k).getD k 0)):=by rw[<-Yn];exact Qf hs.ws (by omega)
     have c1:wr.cell? ⟨w.heap.size+1,k1,none⟩=some (.int .u32 ((Yy (tB b) k).getD k1 0)):=by rw[<-Yn];exact Qf hs.ws (by omega)
     have c2:wr.cell? ⟨w.heap.size+1,k9,none⟩=some (.int .u32 ((Yy (tB b) k).getD k9 0)):=by rw[<-Yn];exact Qf hs.ws (by omega)
     have c3:wr.cell? ⟨w.heap.size+1,xB,none⟩=some (.int .u32 ((Yy (tB b) k).getD xB 0)):=by rw[<-Yn];exact Qf hs.ws (by omega)
     have st:wr.cell? ⟨w.heap.size+1,t,none⟩=some (.int .u32 ((Yy (tB b) k).getD t 0)):=by rw[<-Yn];exact Qf hs.ws (by omega)
     have sf:wr.frozen? ⟨w.heap.size+1,t,none⟩=false:=by have:=(hs.wst t (by omega)).2;rwa [Lr] at this
     have HF:Hid (∀v,Pl w (wr.setCell ⟨w.heap.size+1,t,none⟩ (.int .u32 v)) (Yy (tB b) k++[v])):=fun v=>hs.step (by omega) (by omega) v
     have HV:Hid (Yy (tB b) (k+1)=Yy (tB b) k++[QeY ((Yy (tB b) k).getD k 0) ((Yy (tB b) k).getD k1 0) ((Yy (tB b) k).getD k9 0) ((Yy (tB b) k).getD xB 0)]):=by
      show _=_
      subst xF xG xC;rfl
     have HT:Hid (16+k=t):=ht;have N0:k≠t:=by omega
     have N2:k9≠t:=by omega
     clear hs ht xF xG xC xA xL hb;generalize (Yy (tB b) k).getD k 0=x0 at *;generalize (Yy (tB b) k).getD k1 0=x1 at *;generalize (Yy (tB b) k).getD k9 0=x2 at *;generalize (Yy (tB b) k).getD xB 0=x3 at *;generalize (Yy (tB b) k).getD t 0=z at *;go_wp2
     go_region_held3 (fun w'=>w'.cell? ⟨w.heap.size+1,k,none⟩=some (.int .u32 x0)∧w'.cell? ⟨w.heap.size+1,k9,none⟩=some (.int .u32 x2)) (first|assumption|(refine⟨?_,?_⟩ <;> first|assumption|(refine QhS ?_ ?_ <;> assumption))) (first|(go_at_call 124;refine(QcE _ _ _ (by decide) (by decide)).mono ?_;rintro e w' ⟨rfl,q,rfl⟩))
     go_wp2
     go_roundg (48 - (k+1))
     case rel =>
      go_light;refine⟨k+1,by omega,rfl,?_,?_⟩
      ·have:=HT.out;go_num
      rw[HV.out];exact(HF.out _).same rfl rfl rfl rfl
     case measure=>go_light;omega
    ·obtain rfl:k=48:=by omega
     have xA:=Qfn (tB b) 48;have xH:=hs.ws;rw[Qe6 xA] at xH;have xE:=hs.below;have hi:(prog.info? 167).map (·.size)=some (cW (Yy (tB b) 48)).length:=by rw[Qo,xA];exact Qeg
     have xI:(prog.info? 167).map (·.size)=some (cW (Yy (tB b) 48)).toArray.size:=by simpa using hi
     have xD:wr.there w.heap.size 0 (cW (Yy (tB b) 48)).toArray.size:=by
      have xM:(cW (Yy (tB b) 48)).toArray.size=64:=by simp[Qo,xA]
      rw[xM];exact hs.res
     clear hs hk hlt xA hb;generalize hE:Yy (tB b) 48=ws at *;have HE:Hid (Yy (tB b) 48=ws):=hE;clear hE
     go_wp2_with (first|(refine wpList_load_mid rfl 167 _ rfl (w.heap.size+1) 0 rfl (cW ws) _ xH underlying167 rfl hi ?_)|(refine wpList_store_mid rfl 167 _ _ rfl w.heap.size 0 (cW ws).toArray rfl rfl xD xI (all_oneCell_toArray (UC ws)) ?_))
     refine Lp (v := .agg (cW ws).toArray) ?_ rfl ⟨by rw[HE.out],?_⟩
     ·refine Yj results123 _ _ w.heap.size 0 (cW ws) (.array 64 112) ?_ ?_ underlying167 rfl hi
      ·rfl
      ·go_light
       simpa using World.rangeAt_setCells_same _ _ _ _ (by simpa using xD)
     ·go_light;exact Qs xE (Ld _) _ _
theorem QmB(a b c d:Int)(ha:0<=a∧a<256)(hb:0<=b∧b<256)(hc:0<=c∧c<256)(hd:0<=d∧d<256) :
  Qfy a b c d=a*16777216+b*65536+c*256+d:=by
 obtain⟨a,rfl⟩:=NT ha.1;obtain⟨b,rfl⟩:=NT hb.1;obtain⟨c,rfl⟩:=NT hc.1;obtain⟨d,rfl⟩:=NT hd.1;have h1:a<256:=by omega
 have h2:b<256:=by omega
 have h3:c<256:=by omega
 have h4:d<256:=by omega
 have e1:IntKind.u32.wrap (IntKind.u32.wrap (a:Int)*16777216)=((a*16777216:Nat):Int):=by simp only[IntKind.wrap_u32'];omega
 have e2:IntKind.u32.wrap (IntKind.u32.wrap (b:Int)*65536)=((b*65536:Nat):Int):=by simp only[IntKind.wrap_u32'];omega
 have e3:IntKind.u32.wrap (IntKind.u32.wrap (c:Int)*256)=((c*256:Nat):Int):=by simp only[IntKind.wrap_u32'];omega
 have e4:IntKind.u32.wrap (d:Int)=((d:Nat):Int):=by simp only[IntKind.wrap_u32'];omega
 have j1:a*16777216 ||| b*65536=a*16777216+b*65536:=nat_join 24 _ _ (by omega) (by omega)
 have j2:(a*16777216+b*65536) ||| c*256=a*16777216+b*65536+c*256:=nat_join 16 _ _ (by omega) (by omega)
 have j3:(a*16777216+b*65536+c*256) ||| d=a*16777216+b*65536+c*256+d:=nat_join 8 _ _ (by omega) (by omega)
 unfold Qfy;rw[e1,e2,e3,e4,u32_or_nat _ _ (by omega) (by omega),j1,u32_or_nat _ _ (by omega) (by omega),j2,u32_or_nat _ _ (by omega) (by omega),j3]
 omega
def Bytes(l:List Int):Prop := ∀x∈l,0<=x∧x<256
theorem Bytes.getD{l:List Int}(h:Bytes l)(i:Nat):0<=l.getD i 0∧l.getD i 0<256:=by
 rw[La]
 cases e:l[i]? with
 | none=>exact⟨by decide,by decide⟩
 | some x=>exact h x (Ni e)
theorem Qnp{blk:List Int}(h:Bytes blk)(k:Nat):horI blk k 4=Qfy (blk.getD (4*k) 0) (blk.getD (4*k+1) 0) (blk.getD (4*k+2) 0) (blk.getD (4*k+3) 0):=by
 have h0:=h.getD (4*k);have h1:=h.getD (4*k+1);have h2:=h.getD (4*k+2);have h3:=h.getD (4*k+3);rw[QmB _ _ _ _ h0 h1 h2 h3];simp only[horI,IntKind.wrap_u32',Nat.add_zero];omega
theorem Qmc{blk:List Int}(h:Bytes blk)(k:Nat):Yy blk k=Yd blk k:=by
 have h0 : ∀k,Qab blk k=sch0 blk k:=fun k=>by
  induction k with
  | zero=>rfl
  | succ k ih=>rw[Qab,sch0,ih,Qnp h]
 induction k with
 | zero=>exact h0 16
 | succ k ih=>rw[Yy,Yd,ih]
theorem QkA(s:BA):Bytes (tB s):=by
 intro x hx;obtain⟨y,_,rfl⟩:=List.mem_map.1 hx;have:=y.toNat_lt;omega
end Go.Proofs.YtdocjikpcbmcgaaGreatDoor
