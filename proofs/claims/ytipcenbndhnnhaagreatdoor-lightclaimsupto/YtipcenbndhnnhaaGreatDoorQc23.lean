/- Own work. -/
import Derived.Test.YtipcenbndhnnhaaGreatDoorQc22
namespace Go.Proofs.YtipcenbndhnnhaaGreatDoor
open Go.RowKit
attribute [local go_sem ↓] Go.wp_at_zero Go.wp_at_succ
structure XF (w0 W:World) (q q5 q9:Nat) (pv:Value) (cb co cn cc:Nat) (x:ByteArray) (n:Nat) (d:ByteArray) (er:Int) (o1:Nat) (c1:ByteArray) (L:Nat→Bool) (a:Act) (w:World):Prop where
 sz:a.tmps.size=64
 df:a.defers=[]
 i2:a.tmps.getD 2 undef = .slice (some ⟨cb,co,none⟩) cn cc
 i5:a.tmps.getD 5 undef = .pointer (some ⟨q5,0,none⟩)
 i9:a.tmps.getD 9 undef = .pointer (some ⟨q9,0,none⟩)
 i11:a.tmps.getD 11 undef = .pointer (some ⟨q,0,none⟩)
 b1:L 9=false→Below W.heap.size W w
 b2:Below w0.heap.size w0 w
 o5:Rh w q5 o1 c1
 a0:L 0=true→a.tmps.getD 42 undef=pv
 a1:L 1=true→a.tmps.getD 43 undef = .slice (some ⟨cb,co,none⟩) cn cc
 a2:L 2=true→a.tmps.getD 44 undef = .pointer (some ⟨cb,co,none⟩)
 a3:L 3=true→a.tmps.getD 45 undef = .pointer (some ⟨cb,co+1,none⟩)
 a4:L 4=true→a.tmps.getD 46 undef = .string x
 a5:L 5=true→a.tmps.getD 47 undef = .tuple #[.agg #[.int .u64 (n:Int),.string d],.int .i64 er]
 a6:L 6=true→a.tmps.getD 41 undef = .tuple #[.agg #[.int .u64 (n:Int),.string d],.int .i64 er]
 a7:L 7=true→a.tmps.getD 48 undef = .agg #[.int .u64 (n:Int),.string d]
 a8:L 8=true→a.tmps.getD 49 undef = .int .i64 er
 a9:L 9=true→Rh w q n d
 a10:L 10=true→a.tmps.getD 10 undef = .int .i64 er
section
variable {w0 W:World} {q q5 q9:Nat} {pv:Value} {cb co cn cc:Nat} {x:ByteArray} {n:Nat} {d:ByteArray} {er:Int} {o1:Nat} {c1:ByteArray} {Q:Exit→Act→World→Prop} {ops:List Oper} {ty:TypeId} {ps:String} {af:Array Edge}
set_option maxRecDepth 100000 in
theorem xf_0 (hds:dep ops 9 0=true) (h6 : ∀ w,Below W.heap.size W w → ∃ v0 v1 v2 v3 v4 v5,pv = .agg #[v0,v1,v2,v3,v4,v5]∧Six w q9 v0 v1 v2 v3 v4 v5):StepJ Tryz.prog Q ops (XF w0 W q q5 q9 pv cb co cn cc x n d er o1 c1) 0 { dst:=some 42,op:=Op.load 38 (Operand.tmp 9),type:=ty,pos:=ps,after:=af,guard:=none } := by
 intro L a w K hI hj hcl hdep hK
 have hs:42<a.tmps.size:=by rw [hI.sz]; decide
 have h8:=not_yet hcl hj hds
 have hB:=hI.b1 h8
 have t9:=hI.i9
 obtain ⟨v0,v1,v2,v3,v4,v5,rfl,hx⟩:=h6 w hB
 obtain ⟨m0,m1,m2,m3,m4,m5⟩:=hx.cells
 show Oper.wp _ _ a w K _
 go_simp
 exact hK _ _ { sz:=(by simp [Act.put,hI.sz]),df:=hI.df,i2:=(by rw [put_at a 42 2 _ hs,if_neg (by decide)]; exact hI.i2),i5:=(by rw [put_at a 42 5 _ hs,if_neg (by decide)]; exact hI.i5),i9:=(by rw [put_at a 42 9 _ hs,if_neg (by decide)]; exact hI.i9),i11:=(by rw [put_at a 42 11 _ hs,if_neg (by decide)]; exact hI.i11),b1:=(fun h=>hI.b1 h),b2:=(hI.b2),o5:=(hI.o5),a0:=(fun _=>by rw [put_at a 42 42 _ hs,if_pos rfl]),a1:=(fun h=>by rw [put_at a 42 43 _ hs,if_neg (by decide)]; exact hI.a1 h),a2:=(fun h=>by rw [put_at a 42 44 _ hs,if_neg (by decide)]; exact hI.a2 h),a3:=(fun h=>by rw [put_at a 42 45 _ hs,if_neg (by decide)]; exact hI.a3 h),a4:=(fun h=>by rw [put_at a 42 46 _ hs,if_neg (by decide)]; exact hI.a4 h),a5:=(fun h=>by rw [put_at a 42 47 _ hs,if_neg (by decide)]; exact hI.a5 h),a6:=(fun h=>by rw [put_at a 42 41 _ hs,if_neg (by decide)]; exact hI.a6 h),a7:=(fun h=>by rw [put_at a 42 48 _ hs,if_neg (by decide)]; exact hI.a7 h),a8:=(fun h=>by rw [put_at a 42 49 _ hs,if_neg (by decide)]; exact hI.a8 h),a9:=(fun h=>hI.a9 h),a10:=(fun h=>by rw [put_at a 42 10 _ hs,if_neg (by decide)]; exact hI.a10 h) }
set_option maxRecDepth 100000 in
theorem xf_1  : StepJ Tryz.prog Q ops (XF w0 W q q5 q9 pv cb co cn cc x n d er o1 c1) 1 { dst:=some 43,op:=Op.move (Operand.tmp 2),type:=ty,pos:=ps,after:=af,guard:=none } := by
 intro L a w K hI hj hcl hdep hK
 have hs:43<a.tmps.size:=by rw [hI.sz]; decide
 have t2:=hI.i2
 show Oper.wp _ _ a w K _
 go_simp
 exact hK _ _ { sz:=(by simp [Act.put,hI.sz]),df:=hI.df,i2:=(by rw [put_at a 43 2 _ hs,if_neg (by decide)]; exact hI.i2),i5:=(by rw [put_at a 43 5 _ hs,if_neg (by decide)]; exact hI.i5),i9:=(by rw [put_at a 43 9 _ hs,if_neg (by decide)]; exact hI.i9),i11:=(by rw [put_at a 43 11 _ hs,if_neg (by decide)]; exact hI.i11),b1:=(fun h=>hI.b1 h),b2:=(hI.b2),o5:=(hI.o5),a0:=(fun h=>by rw [put_at a 43 42 _ hs,if_neg (by decide)]; exact hI.a0 h),a1:=(fun _=>by rw [put_at a 43 43 _ hs,if_pos rfl]),a2:=(fun h=>by rw [put_at a 43 44 _ hs,if_neg (by decide)]; exact hI.a2 h),a3:=(fun h=>by rw [put_at a 43 45 _ hs,if_neg (by decide)]; exact hI.a3 h),a4:=(fun h=>by rw [put_at a 43 46 _ hs,if_neg (by decide)]; exact hI.a4 h),a5:=(fun h=>by rw [put_at a 43 47 _ hs,if_neg (by decide)]; exact hI.a5 h),a6:=(fun h=>by rw [put_at a 43 41 _ hs,if_neg (by decide)]; exact hI.a6 h),a7:=(fun h=>by rw [put_at a 43 48 _ hs,if_neg (by decide)]; exact hI.a7 h),a8:=(fun h=>by rw [put_at a 43 49 _ hs,if_neg (by decide)]; exact hI.a8 h),a9:=(fun h=>hI.a9 h),a10:=(fun h=>by rw [put_at a 43 10 _ hs,if_neg (by decide)]; exact hI.a10 h) }
set_option maxRecDepth 100000 in
theorem xf_2 (d1:(af.toList.any fun e=>e.on == 1 && Region.binds .any e)=true) (hn:0<cn):StepJ Tryz.prog Q ops (XF w0 W q q5 q9 pv cb co cn cc x n d er o1 c1) 2 { dst:=some 44,op:=Op.indexAddr 44 (Operand.tmp 43) (Operand.const (.int .i64 0)),type:=ty,pos:=ps,after:=af,guard:=none } := by
 intro L a w K hI hj hcl hdep hK
 have hs:44<a.tmps.size:=by rw [hI.sz]; decide
 have t43:=hI.a1 (hdep 1 d1)
 have hz:(0:Int)<(cn:Int):=by omega
 show Oper.wp _ _ a w K _
 go_simp
 exact hK _ _ { sz:=(by simp [Act.put,hI.sz]),df:=hI.df,i2:=(by rw [put_at a 44 2 _ hs,if_neg (by decide)]; exact hI.i2),i5:=(by rw [put_at a 44 5 _ hs,if_neg (by decide)]; exact hI.i5),i9:=(by rw [put_at a 44 9 _ hs,if_neg (by decide)]; exact hI.i9),i11:=(by rw [put_at a 44 11 _ hs,if_neg (by decide)]; exact hI.i11),b1:=(fun h=>hI.b1 h),b2:=(hI.b2),o5:=(hI.o5),a0:=(fun h=>by rw [put_at a 44 42 _ hs,if_neg (by decide)]; exact hI.a0 h),a1:=(fun h=>by rw [put_at a 44 43 _ hs,if_neg (by decide)]; exact hI.a1 h),a2:=(fun _=>by rw [put_at a 44 44 _ hs,if_pos rfl]),a3:=(fun h=>by rw [put_at a 44 45 _ hs,if_neg (by decide)]; exact hI.a3 h),a4:=(fun h=>by rw [put_at a 44 46 _ hs,if_neg (by decide)]; exact hI.a4 h),a5:=(fun h=>by rw [put_at a 44 47 _ hs,if_neg (by decide)]; exact hI.a5 h),a6:=(fun h=>by rw [put_at a 44 41 _ hs,if_neg (by decide)]; exact hI.a6 h),a7:=(fun h=>by rw [put_at a 44 48 _ hs,if_neg (by decide)]; exact hI.a7 h),a8:=(fun h=>by rw [put_at a 44 49 _ hs,if_neg (by decide)]; exact hI.a8 h),a9:=(fun h=>hI.a9 h),a10:=(fun h=>by rw [put_at a 44 10 _ hs,if_neg (by decide)]; exact hI.a10 h) }
set_option maxRecDepth 100000 in
theorem xf_3 (d2:(af.toList.any fun e=>e.on == 2 && Region.binds .any e)=true):StepJ Tryz.prog Q ops (XF w0 W q q5 q9 pv cb co cn cc x n d er o1 c1) 3 { dst:=some 45,op:=Op.fieldAddr 46 (Operand.tmp 44) 1,type:=ty,pos:=ps,after:=af,guard:=none } := by
 intro L a w K hI hj hcl hdep hK
 have hs:45<a.tmps.size:=by rw [hI.sz]; decide
 have t44:=hI.a2 (hdep 2 d2)
 show Oper.wp _ _ a w K _
 go_simp
 exact hK _ _ { sz:=(by simp [Act.put,hI.sz]),df:=hI.df,i2:=(by rw [put_at a 45 2 _ hs,if_neg (by decide)]; exact hI.i2),i5:=(by rw [put_at a 45 5 _ hs,if_neg (by decide)]; exact hI.i5),i9:=(by rw [put_at a 45 9 _ hs,if_neg (by decide)]; exact hI.i9),i11:=(by rw [put_at a 45 11 _ hs,if_neg (by decide)]; exact hI.i11),b1:=(fun h=>hI.b1 h),b2:=(hI.b2),o5:=(hI.o5),a0:=(fun h=>by rw [put_at a 45 42 _ hs,if_neg (by decide)]; exact hI.a0 h),a1:=(fun h=>by rw [put_at a 45 43 _ hs,if_neg (by decide)]; exact hI.a1 h),a2:=(fun h=>by rw [put_at a 45 44 _ hs,if_neg (by decide)]; exact hI.a2 h),a3:=(fun _=>by rw [put_at a 45 45 _ hs,if_pos rfl]),a4:=(fun h=>by rw [put_at a 45 46 _ hs,if_neg (by decide)]; exact hI.a4 h),a5:=(fun h=>by rw [put_at a 45 47 _ hs,if_neg (by decide)]; exact hI.a5 h),a6:=(fun h=>by rw [put_at a 45 41 _ hs,if_neg (by decide)]; exact hI.a6 h),a7:=(fun h=>by rw [put_at a 45 48 _ hs,if_neg (by decide)]; exact hI.a7 h),a8:=(fun h=>by rw [put_at a 45 49 _ hs,if_neg (by decide)]; exact hI.a8 h),a9:=(fun h=>hI.a9 h),a10:=(fun h=>by rw [put_at a 45 10 _ hs,if_neg (by decide)]; exact hI.a10 h) }
set_option maxRecDepth 100000 in
theorem xf_4 (d3:(af.toList.any fun e=>e.on == 3 && Region.binds .any e)=true) (hds:dep ops 9 4=true) (hc : ∀ w,Below W.heap.size W w→w.cell? ⟨cb,co+1,none⟩=some (.string x)):StepJ Tryz.prog Q ops (XF w0 W q q5 q9 pv cb co cn cc x n d er o1 c1) 4 { dst:=some 46,op:=Op.load 9 (Operand.tmp 45),type:=ty,pos:=ps,after:=af,guard:=none } := by
 intro L a w K hI hj hcl hdep hK
 have hs:46<a.tmps.size:=by rw [hI.sz]; decide
 have h8:=not_yet hcl hj hds
 have hB:=hI.b1 h8
 have t45:=hI.a3 (hdep 3 d3)
 have hcx:=hc w hB
 show Oper.wp _ _ a w K _
 go_simp
 exact hK _ _ { sz:=(by simp [Act.put,hI.sz]),df:=hI.df,i2:=(by rw [put_at a 46 2 _ hs,if_neg (by decide)]; exact hI.i2),i5:=(by rw [put_at a 46 5 _ hs,if_neg (by decide)]; exact hI.i5),i9:=(by rw [put_at a 46 9 _ hs,if_neg (by decide)]; exact hI.i9),i11:=(by rw [put_at a 46 11 _ hs,if_neg (by decide)]; exact hI.i11),b1:=(fun h=>hI.b1 h),b2:=(hI.b2),o5:=(hI.o5),a0:=(fun h=>by rw [put_at a 46 42 _ hs,if_neg (by decide)]; exact hI.a0 h),a1:=(fun h=>by rw [put_at a 46 43 _ hs,if_neg (by decide)]; exact hI.a1 h),a2:=(fun h=>by rw [put_at a 46 44 _ hs,if_neg (by decide)]; exact hI.a2 h),a3:=(fun h=>by rw [put_at a 46 45 _ hs,if_neg (by decide)]; exact hI.a3 h),a4:=(fun _=>by rw [put_at a 46 46 _ hs,if_pos rfl]),a5:=(fun h=>by rw [put_at a 46 47 _ hs,if_neg (by decide)]; exact hI.a5 h),a6:=(fun h=>by rw [put_at a 46 41 _ hs,if_neg (by decide)]; exact hI.a6 h),a7:=(fun h=>by rw [put_at a 46 48 _ hs,if_neg (by decide)]; exact hI.a7 h),a8:=(fun h=>by rw [put_at a 46 49 _ hs,if_neg (by decide)]; exact hI.a8 h),a9:=(fun h=>hI.a9 h),a10:=(fun h=>by rw [put_at a 46 10 _ hs,if_neg (by decide)]; exact hI.a10 h) }
set_option maxRecDepth 100000 in
theorem xf_5 (d0:(af.toList.any fun e=>e.on == 0 && Region.binds .any e)=true) (d4:(af.toList.any fun e=>e.on == 4 && Region.binds .any e)=true) (hds:dep ops 9 5=true) (hR : ∀ w,Below W.heap.size W w→Calls Tryz.prog 45 #[pv,.string x] w fun e w'=>e = .returned (.tuple #[.agg #[.int .u64 (n:Int),.string d],.int .i64 er])∧Below w.heap.size w w'):StepJ Tryz.prog Q ops (XF w0 W q q5 q9 pv cb co cn cc x n d er o1 c1) 5 { dst:=some 47,op:=Op.call { callee:=Callee.value (Operand.func 45),args:=#[Operand.tmp 42,Operand.tmp 46],argTypes:=#[38,9] },type:=ty,pos:=ps,after:=af,guard:=none } := by
 intro L a w K hI hj hcl hdep hK
 have hs:47<a.tmps.size:=by rw [hI.sz]; decide
 have h8:=not_yet hcl hj hds
 have hB:=hI.b1 h8
 have t42:=hI.a0 (hdep 0 d0)
 have t46:=hI.a4 (hdep 4 d4)
 show Oper.wp _ _ a w K _
 go_simp
 refine (hR w hB).mono ?_
 rintro e w' ⟨rfl,hb⟩
 exact hK _ _ { sz:=(by simp [Act.put,hI.sz]),df:=hI.df,i2:=(by rw [put_at a 47 2 _ hs,if_neg (by decide)]; exact hI.i2),i5:=(by rw [put_at a 47 5 _ hs,if_neg (by decide)]; exact hI.i5),i9:=(by rw [put_at a 47 9 _ hs,if_neg (by decide)]; exact hI.i9),i11:=(by rw [put_at a 47 11 _ hs,if_neg (by decide)]; exact hI.i11),b1:=(fun _=>bnext hB hb),b2:=(bnext hI.b2 hb),o5:=(hI.o5.next hb),a0:=(fun h=>by rw [put_at a 47 42 _ hs,if_neg (by decide)]; exact hI.a0 h),a1:=(fun h=>by rw [put_at a 47 43 _ hs,if_neg (by decide)]; exact hI.a1 h),a2:=(fun h=>by rw [put_at a 47 44 _ hs,if_neg (by decide)]; exact hI.a2 h),a3:=(fun h=>by rw [put_at a 47 45 _ hs,if_neg (by decide)]; exact hI.a3 h),a4:=(fun h=>by rw [put_at a 47 46 _ hs,if_neg (by decide)]; exact hI.a4 h),a5:=(fun _=>by rw [put_at a 47 47 _ hs,if_pos rfl]),a6:=(fun h=>by rw [put_at a 47 41 _ hs,if_neg (by decide)]; exact hI.a6 h),a7:=(fun h=>by rw [put_at a 47 48 _ hs,if_neg (by decide)]; exact hI.a7 h),a8:=(fun h=>by rw [put_at a 47 49 _ hs,if_neg (by decide)]; exact hI.a8 h),a9:=(fun h=>by rw [show (if (9:Nat)=5 then true else L 9)=L 9 from rfl,h8] at h; cases h),a10:=(fun h=>by rw [put_at a 47 10 _ hs,if_neg (by decide)]; exact hI.a10 h) }
set_option maxRecDepth 100000 in
theorem xf_6 (d5:(af.toList.any fun e=>e.on == 5 && Region.binds .any e)=true):StepJ Tryz.prog Q ops (XF w0 W q q5 q9 pv cb co cn cc x n d er o1 c1) 6 { dst:=some 41,op:=Op.move (Operand.tmp 47),type:=ty,pos:=ps,after:=af,guard:=none } := by
 intro L a w K hI hj hcl hdep hK
 have hs:41<a.tmps.size:=by rw [hI.sz]; decide
 have t47:=hI.a5 (hdep 5 d5)
 show Oper.wp _ _ a w K _
 go_simp
 exact hK _ _ { sz:=(by simp [Act.put,hI.sz]),df:=hI.df,i2:=(by rw [put_at a 41 2 _ hs,if_neg (by decide)]; exact hI.i2),i5:=(by rw [put_at a 41 5 _ hs,if_neg (by decide)]; exact hI.i5),i9:=(by rw [put_at a 41 9 _ hs,if_neg (by decide)]; exact hI.i9),i11:=(by rw [put_at a 41 11 _ hs,if_neg (by decide)]; exact hI.i11),b1:=(fun h=>hI.b1 h),b2:=(hI.b2),o5:=(hI.o5),a0:=(fun h=>by rw [put_at a 41 42 _ hs,if_neg (by decide)]; exact hI.a0 h),a1:=(fun h=>by rw [put_at a 41 43 _ hs,if_neg (by decide)]; exact hI.a1 h),a2:=(fun h=>by rw [put_at a 41 44 _ hs,if_neg (by decide)]; exact hI.a2 h),a3:=(fun h=>by rw [put_at a 41 45 _ hs,if_neg (by decide)]; exact hI.a3 h),a4:=(fun h=>by rw [put_at a 41 46 _ hs,if_neg (by decide)]; exact hI.a4 h),a5:=(fun h=>by rw [put_at a 41 47 _ hs,if_neg (by decide)]; exact hI.a5 h),a6:=(fun _=>by rw [put_at a 41 41 _ hs,if_pos rfl]),a7:=(fun h=>by rw [put_at a 41 48 _ hs,if_neg (by decide)]; exact hI.a7 h),a8:=(fun h=>by rw [put_at a 41 49 _ hs,if_neg (by decide)]; exact hI.a8 h),a9:=(fun h=>hI.a9 h),a10:=(fun h=>by rw [put_at a 41 10 _ hs,if_neg (by decide)]; exact hI.a10 h) }
set_option maxRecDepth 100000 in
theorem xf_7 (d6:(af.toList.any fun e=>e.on == 6 && Region.binds .any e)=true):StepJ Tryz.prog Q ops (XF w0 W q q5 q9 pv cb co cn cc x n d er o1 c1) 7 { dst:=some 48,op:=Op.extract (Operand.tmp 41) 0,type:=ty,pos:=ps,after:=af,guard:=none } := by
 intro L a w K hI hj hcl hdep hK
 have hs:48<a.tmps.size:=by rw [hI.sz]; decide
 have t41:=hI.a6 (hdep 6 d6)
 show Oper.wp _ _ a w K _
 go_simp
 exact hK _ _ { sz:=(by simp [Act.put,hI.sz]),df:=hI.df,i2:=(by rw [put_at a 48 2 _ hs,if_neg (by decide)]; exact hI.i2),i5:=(by rw [put_at a 48 5 _ hs,if_neg (by decide)]; exact hI.i5),i9:=(by rw [put_at a 48 9 _ hs,if_neg (by decide)]; exact hI.i9),i11:=(by rw [put_at a 48 11 _ hs,if_neg (by decide)]; exact hI.i11),b1:=(fun h=>hI.b1 h),b2:=(hI.b2),o5:=(hI.o5),a0:=(fun h=>by rw [put_at a 48 42 _ hs,if_neg (by decide)]; exact hI.a0 h),a1:=(fun h=>by rw [put_at a 48 43 _ hs,if_neg (by decide)]; exact hI.a1 h),a2:=(fun h=>by rw [put_at a 48 44 _ hs,if_neg (by decide)]; exact hI.a2 h),a3:=(fun h=>by rw [put_at a 48 45 _ hs,if_neg (by decide)]; exact hI.a3 h),a4:=(fun h=>by rw [put_at a 48 46 _ hs,if_neg (by decide)]; exact hI.a4 h),a5:=(fun h=>by rw [put_at a 48 47 _ hs,if_neg (by decide)]; exact hI.a5 h),a6:=(fun h=>by rw [put_at a 48 41 _ hs,if_neg (by decide)]; exact hI.a6 h),a7:=(fun _=>by rw [put_at a 48 48 _ hs,if_pos rfl]),a8:=(fun h=>by rw [put_at a 48 49 _ hs,if_neg (by decide)]; exact hI.a8 h),a9:=(fun h=>hI.a9 h),a10:=(fun h=>by rw [put_at a 48 10 _ hs,if_neg (by decide)]; exact hI.a10 h) }
set_option maxRecDepth 100000 in
theorem xf_8 (d6:(af.toList.any fun e=>e.on == 6 && Region.binds .any e)=true):StepJ Tryz.prog Q ops (XF w0 W q q5 q9 pv cb co cn cc x n d er o1 c1) 8 { dst:=some 49,op:=Op.extract (Operand.tmp 41) 1,type:=ty,pos:=ps,after:=af,guard:=none } := by
 intro L a w K hI hj hcl hdep hK
 have hs:49<a.tmps.size:=by rw [hI.sz]; decide
 have t41:=hI.a6 (hdep 6 d6)
 show Oper.wp _ _ a w K _
 go_simp
 exact hK _ _ { sz:=(by simp [Act.put,hI.sz]),df:=hI.df,i2:=(by rw [put_at a 49 2 _ hs,if_neg (by decide)]; exact hI.i2),i5:=(by rw [put_at a 49 5 _ hs,if_neg (by decide)]; exact hI.i5),i9:=(by rw [put_at a 49 9 _ hs,if_neg (by decide)]; exact hI.i9),i11:=(by rw [put_at a 49 11 _ hs,if_neg (by decide)]; exact hI.i11),b1:=(fun h=>hI.b1 h),b2:=(hI.b2),o5:=(hI.o5),a0:=(fun h=>by rw [put_at a 49 42 _ hs,if_neg (by decide)]; exact hI.a0 h),a1:=(fun h=>by rw [put_at a 49 43 _ hs,if_neg (by decide)]; exact hI.a1 h),a2:=(fun h=>by rw [put_at a 49 44 _ hs,if_neg (by decide)]; exact hI.a2 h),a3:=(fun h=>by rw [put_at a 49 45 _ hs,if_neg (by decide)]; exact hI.a3 h),a4:=(fun h=>by rw [put_at a 49 46 _ hs,if_neg (by decide)]; exact hI.a4 h),a5:=(fun h=>by rw [put_at a 49 47 _ hs,if_neg (by decide)]; exact hI.a5 h),a6:=(fun h=>by rw [put_at a 49 41 _ hs,if_neg (by decide)]; exact hI.a6 h),a7:=(fun h=>by rw [put_at a 49 48 _ hs,if_neg (by decide)]; exact hI.a7 h),a8:=(fun _=>by rw [put_at a 49 49 _ hs,if_pos rfl]),a9:=(fun h=>hI.a9 h),a10:=(fun h=>by rw [put_at a 49 10 _ hs,if_neg (by decide)]; exact hI.a10 h) }
set_option maxRecDepth 100000 in
theorem xf_9 (d7:(af.toList.any fun e=>e.on == 7 && Region.binds .any e)=true) (hq : ∀ w,Below W.heap.size W w → ∃ n9 d9,Rh w q n9 d9) (hq0:w0.heap.size≤q) (hq5:q5≠q):StepJ Tryz.prog Q ops (XF w0 W q q5 q9 pv cb co cn cc x n d er o1 c1) 9 { dst:=none,op:=Op.store 32 (Operand.tmp 11) (Operand.tmp 48),type:=ty,pos:=ps,after:=af,guard:=none } := by
 intro L a w K hI hj hcl hdep hK
 have t11:=hI.i11
 have t48:=hI.a7 (hdep 7 d7)
 have hB:=hI.b1 hj
 obtain ⟨n9,d9,g4⟩ : ∃ n9 d9,Rh w q n9 d9:=hq w hB
 obtain ⟨k0,k1⟩:=g4.cells
 have fz:=g4.fz
 have hch:=putR_ch w q n d
 have hpt:=g4.put n d
 unfold putR at hch hpt
 show Oper.wp _ _ a w K _
 go_simp
 exact hK undef _ { sz:=hI.sz,df:=hI.df,i2:=(by exact hI.i2),i5:=(by exact hI.i5),i9:=(by exact hI.i9),i11:=(by exact hI.i11),b1:=(fun h=>by cases h),b2:=(hI.b2.trans (hch.below (by rintro b rfl; exact hq0))),o5:=(hI.o5.same (hch.block _ (by show ¬ _=_; exact hq5))),a0:=(fun h=>by exact hI.a0 h),a1:=(fun h=>by exact hI.a1 h),a2:=(fun h=>by exact hI.a2 h),a3:=(fun h=>by exact hI.a3 h),a4:=(fun h=>by exact hI.a4 h),a5:=(fun h=>by exact hI.a5 h),a6:=(fun h=>by exact hI.a6 h),a7:=(fun h=>by exact hI.a7 h),a8:=(fun h=>by exact hI.a8 h),a9:=(fun _=>hpt),a10:=(fun h=>by exact hI.a10 h) }
set_option maxRecDepth 100000 in
theorem xf_10 (d8:(af.toList.any fun e=>e.on == 8 && Region.binds .any e)=true):StepJ Tryz.prog Q ops (XF w0 W q q5 q9 pv cb co cn cc x n d er o1 c1) 10 { dst:=some 10,op:=Op.assign (Operand.tmp 49),type:=ty,pos:=ps,after:=af,guard:=none } := by
 intro L a w K hI hj hcl hdep hK
 have hs:10<a.tmps.size:=by rw [hI.sz]; decide
 have t49:=hI.a8 (hdep 8 d8)
 show Oper.wp _ _ a w K _
 go_simp
 exact hK _ _ { sz:=(by simp [Act.put,hI.sz]),df:=hI.df,i2:=(by rw [put_at a 10 2 _ hs,if_neg (by decide)]; exact hI.i2),i5:=(by rw [put_at a 10 5 _ hs,if_neg (by decide)]; exact hI.i5),i9:=(by rw [put_at a 10 9 _ hs,if_neg (by decide)]; exact hI.i9),i11:=(by rw [put_at a 10 11 _ hs,if_neg (by decide)]; exact hI.i11),b1:=(fun h=>hI.b1 h),b2:=(hI.b2),o5:=(hI.o5),a0:=(fun h=>by rw [put_at a 10 42 _ hs,if_neg (by decide)]; exact hI.a0 h),a1:=(fun h=>by rw [put_at a 10 43 _ hs,if_neg (by decide)]; exact hI.a1 h),a2:=(fun h=>by rw [put_at a 10 44 _ hs,if_neg (by decide)]; exact hI.a2 h),a3:=(fun h=>by rw [put_at a 10 45 _ hs,if_neg (by decide)]; exact hI.a3 h),a4:=(fun h=>by rw [put_at a 10 46 _ hs,if_neg (by decide)]; exact hI.a4 h),a5:=(fun h=>by rw [put_at a 10 47 _ hs,if_neg (by decide)]; exact hI.a5 h),a6:=(fun h=>by rw [put_at a 10 41 _ hs,if_neg (by decide)]; exact hI.a6 h),a7:=(fun h=>by rw [put_at a 10 48 _ hs,if_neg (by decide)]; exact hI.a7 h),a8:=(fun h=>by rw [put_at a 10 49 _ hs,if_neg (by decide)]; exact hI.a8 h),a9:=(fun h=>hI.a9 h),a10:=(fun _=>by rw [put_at a 10 10 _ hs,if_pos rfl]) }
end
structure YF (w0 W:World) (q q5 q9:Nat) (pv:Value) (ca:Option Addr) (cn cc:Nat) (X:List ByteArray) (n:Nat) (d:ByteArray) (er:Int) (o1:Nat) (c1:ByteArray) (L:Nat→Bool) (a:Act) (w:World):Prop where
 sz:a.tmps.size=64
 df:a.defers=[]
 i2:a.tmps.getD 2 undef = .slice ca cn cc
 i5:a.tmps.getD 5 undef = .pointer (some ⟨q5,0,none⟩)
 i9:a.tmps.getD 9 undef = .pointer (some ⟨q9,0,none⟩)
 i11:a.tmps.getD 11 undef = .pointer (some ⟨q,0,none⟩)
 b1:L 7=false→Below W.heap.size W w
 b2:Below w0.heap.size w0 w
 o5:Rh w q5 o1 c1
 a0:L 0=true→a.tmps.getD 51 undef=pv
 a1:L 1=true→a.tmps.getD 52 undef = .slice ca cn cc
 a2:L 2=true→L 3=false → ∃ ao m c,a.tmps.getD 53 undef = .slice ao m c∧OwnS w W.heap.size (.slice ao m c) X
 a3:L 3=true→a.tmps.getD 54 undef = .tuple #[.agg #[.int .u64 (n:Int),.string d],.int .i64 er]
 a4:L 4=true→a.tmps.getD 50 undef = .tuple #[.agg #[.int .u64 (n:Int),.string d],.int .i64 er]
 a5:L 5=true→a.tmps.getD 55 undef = .agg #[.int .u64 (n:Int),.string d]
 a6:L 6=true→a.tmps.getD 56 undef = .int .i64 er
 a7:L 7=true→Rh w q n d
 a8:L 8=true→a.tmps.getD 10 undef = .int .i64 er
section
variable {w0 W:World} {q q5 q9:Nat} {pv:Value} {ca:Option Addr} {cn cc:Nat} {X:List ByteArray} {n:Nat} {d:ByteArray} {er:Int} {o1:Nat} {c1:ByteArray} {Q:Exit→Act→World→Prop} {ops:List Oper} {ty:TypeId} {ps:String} {af:Array Edge}
set_option maxRecDepth 100000 in
theorem yf_0 (hds:dep ops 7 0=true) (h6 : ∀ w,Below W.heap.size W w → ∃ v0 v1 v2 v3 v4 v5,pv = .agg #[v0,v1,v2,v3,v4,v5]∧Six w q9 v0 v1 v2 v3 v4 v5):StepJ Tryz.prog Q ops (YF w0 W q q5 q9 pv ca cn cc X n d er o1 c1) 0 { dst:=some 51,op:=Op.load 38 (Operand.tmp 9),type:=ty,pos:=ps,after:=af,guard:=none } := by
 intro L a w K hI hj hcl hdep hK
 have hs:51<a.tmps.size:=by rw [hI.sz]; decide
 have h8:=not_yet hcl hj hds
 have hB:=hI.b1 h8
 have t9:=hI.i9
 obtain ⟨v0,v1,v2,v3,v4,v5,rfl,hx⟩:=h6 w hB
 obtain ⟨m0,m1,m2,m3,m4,m5⟩:=hx.cells
 show Oper.wp _ _ a w K _
 go_simp
 exact hK _ _ { sz:=(by simp [Act.put,hI.sz]),df:=hI.df,i2:=(by rw [put_at a 51 2 _ hs,if_neg (by decide)]; exact hI.i2),i5:=(by rw [put_at a 51 5 _ hs,if_neg (by decide)]; exact hI.i5),i9:=(by rw [put_at a 51 9 _ hs,if_neg (by decide)]; exact hI.i9),i11:=(by rw [put_at a 51 11 _ hs,if_neg (by decide)]; exact hI.i11),b1:=(fun h=>hI.b1 h),b2:=(hI.b2),o5:=(hI.o5),a0:=(fun _=>by rw [put_at a 51 51 _ hs,if_pos rfl]),a1:=(fun h=>by rw [put_at a 51 52 _ hs,if_neg (by decide)]; exact hI.a1 h),a2:=(fun h h3=>by rw [put_at a 51 53 _ hs,if_neg (by decide)]; exact hI.a2 h h3),a3:=(fun h=>by rw [put_at a 51 54 _ hs,if_neg (by decide)]; exact hI.a3 h),a4:=(fun h=>by rw [put_at a 51 50 _ hs,if_neg (by decide)]; exact hI.a4 h),a5:=(fun h=>by rw [put_at a 51 55 _ hs,if_neg (by decide)]; exact hI.a5 h),a6:=(fun h=>by rw [put_at a 51 56 _ hs,if_neg (by decide)]; exact hI.a6 h),a7:=(fun h=>hI.a7 h),a8:=(fun h=>by rw [put_at a 51 10 _ hs,if_neg (by decide)]; exact hI.a8 h) }
set_option maxRecDepth 100000 in
theorem yf_1  : StepJ Tryz.prog Q ops (YF w0 W q q5 q9 pv ca cn cc X n d er o1 c1) 1 { dst:=some 52,op:=Op.move (Operand.tmp 2),type:=ty,pos:=ps,after:=af,guard:=none } := by
 intro L a w K hI hj hcl hdep hK
 have hs:52<a.tmps.size:=by rw [hI.sz]; decide
 have t2:=hI.i2
 show Oper.wp _ _ a w K _
 go_simp
 exact hK _ _ { sz:=(by simp [Act.put,hI.sz]),df:=hI.df,i2:=(by rw [put_at a 52 2 _ hs,if_neg (by decide)]; exact hI.i2),i5:=(by rw [put_at a 52 5 _ hs,if_neg (by decide)]; exact hI.i5),i9:=(by rw [put_at a 52 9 _ hs,if_neg (by decide)]; exact hI.i9),i11:=(by rw [put_at a 52 11 _ hs,if_neg (by decide)]; exact hI.i11),b1:=(fun h=>hI.b1 h),b2:=(hI.b2),o5:=(hI.o5),a0:=(fun h=>by rw [put_at a 52 51 _ hs,if_neg (by decide)]; exact hI.a0 h),a1:=(fun _=>by rw [put_at a 52 52 _ hs,if_pos rfl]),a2:=(fun h h3=>by rw [put_at a 52 53 _ hs,if_neg (by decide)]; exact hI.a2 h h3),a3:=(fun h=>by rw [put_at a 52 54 _ hs,if_neg (by decide)]; exact hI.a3 h),a4:=(fun h=>by rw [put_at a 52 50 _ hs,if_neg (by decide)]; exact hI.a4 h),a5:=(fun h=>by rw [put_at a 52 55 _ hs,if_neg (by decide)]; exact hI.a5 h),a6:=(fun h=>by rw [put_at a 52 56 _ hs,if_neg (by decide)]; exact hI.a6 h),a7:=(fun h=>hI.a7 h),a8:=(fun h=>by rw [put_at a 52 10 _ hs,if_neg (by decide)]; exact hI.a8 h) }
set_option maxRecDepth 100000 in
theorem yf_2 (d1:(af.toList.any fun e=>e.on == 1 && Region.binds .any e)=true) (hds:dep ops 7 2=true) (hV : ∀ w,Below W.heap.size W w→Calls Tryz.prog 47 #[.slice ca cn cc] w fun e w' => ∃ v,e = .returned v∧OwnS w' w.heap.size v X∧Below w.heap.size w w'):StepJ Tryz.prog Q ops (YF w0 W q q5 q9 pv ca cn cc X n d er o1 c1) 2 { dst:=some 53,op:=Op.call { callee:=Callee.value (Operand.func 47),args:=#[Operand.tmp 52],argTypes:=#[44] },type:=ty,pos:=ps,after:=af,guard:=none } := by
 intro L a w K hI hj hcl hdep hK
 have hs:53<a.tmps.size:=by rw [hI.sz]; decide
 have h8:=not_yet hcl hj hds
 have hB:=hI.b1 h8
 have t52:=hI.a1 (hdep 1 d1)
 show Oper.wp _ _ a w K _
 go_simp
 refine (hV w hB).mono ?_
 rintro e w' ⟨v,rfl,ho,hb⟩
 obtain ⟨ao,m,c,rfl⟩:=Cv.own_slice ho
 exact hK _ _ { sz:=(by simp [Act.put,hI.sz]),df:=hI.df,i2:=(by rw [put_at a 53 2 _ hs,if_neg (by decide)]; exact hI.i2),i5:=(by rw [put_at a 53 5 _ hs,if_neg (by decide)]; exact hI.i5),i9:=(by rw [put_at a 53 9 _ hs,if_neg (by decide)]; exact hI.i9),i11:=(by rw [put_at a 53 11 _ hs,if_neg (by decide)]; exact hI.i11),b1:=(fun _=>bnext hB hb),b2:=(bnext hI.b2 hb),o5:=(hI.o5.next hb),a0:=(fun h=>by rw [put_at a 53 51 _ hs,if_neg (by decide)]; exact hI.a0 h),a1:=(fun h=>by rw [put_at a 53 52 _ hs,if_neg (by decide)]; exact hI.a1 h),a2:=(fun _ _=>⟨ao,m,c,by rw [put_at a 53 53 _ hs,if_pos rfl],own_mono ho hB.size⟩),a3:=(fun h=>by rw [put_at a 53 54 _ hs,if_neg (by decide)]; exact hI.a3 h),a4:=(fun h=>by rw [put_at a 53 50 _ hs,if_neg (by decide)]; exact hI.a4 h),a5:=(fun h=>by rw [put_at a 53 55 _ hs,if_neg (by decide)]; exact hI.a5 h),a6:=(fun h=>by rw [put_at a 53 56 _ hs,if_neg (by decide)]; exact hI.a6 h),a7:=(fun h=>by rw [show (if (7:Nat)=2 then true else L 7)=L 7 from rfl,h8] at h; cases h),a8:=(fun h=>by rw [put_at a 53 10 _ hs,if_neg (by decide)]; exact hI.a8 h) }
set_option maxRecDepth 100000 in
theorem yf_3 (d0:(af.toList.any fun e=>e.on == 0 && Region.binds .any e)=true) (d2:(af.toList.any fun e=>e.on == 2 && Region.binds .any e)=true) (hds:dep ops 7 3=true) (hR : ∀ w ao m c,Below W.heap.size W w→OwnS w W.heap.size (.slice ao m c) X→Calls Tryz.prog 46 #[pv,.slice ao m c] w fun e w'=>e = .returned (.tuple #[.agg #[.int .u64 (n:Int),.string d],.int .i64 er])∧Below w.heap.size w w'):StepJ Tryz.prog Q ops (YF w0 W q q5 q9 pv ca cn cc X n d er o1 c1) 3 { dst:=some 54,op:=Op.call { callee:=Callee.value (Operand.func 46),args:=#[Operand.tmp 51,Operand.tmp 53],argTypes:=#[38,22] },type:=ty,pos:=ps,after:=af,guard:=none } := by
 intro L a w K hI hj hcl hdep hK
 have hs:54<a.tmps.size:=by rw [hI.sz]; decide
 have h8:=not_yet hcl hj hds
 have hB:=hI.b1 h8
 have t51:=hI.a0 (hdep 0 d0)
 obtain ⟨ao,m,c,t53,ho⟩:=hI.a2 (hdep 2 d2) hj
 show Oper.wp _ _ a w K _
 go_simp
 refine (hR w ao m c hB ho).mono ?_
 rintro e w' ⟨rfl,hb⟩
 exact hK _ _ { sz:=(by simp [Act.put,hI.sz]),df:=hI.df,i2:=(by rw [put_at a 54 2 _ hs,if_neg (by decide)]; exact hI.i2),i5:=(by rw [put_at a 54 5 _ hs,if_neg (by decide)]; exact hI.i5),i9:=(by rw [put_at a 54 9 _ hs,if_neg (by decide)]; exact hI.i9),i11:=(by rw [put_at a 54 11 _ hs,if_neg (by decide)]; exact hI.i11),b1:=(fun _=>bnext hB hb),b2:=(bnext hI.b2 hb),o5:=(hI.o5.next hb),a0:=(fun h=>by rw [put_at a 54 51 _ hs,if_neg (by decide)]; exact hI.a0 h),a1:=(fun h=>by rw [put_at a 54 52 _ hs,if_neg (by decide)]; exact hI.a1 h),a2:=(fun _ h=>by cases h),a3:=(fun _=>by rw [put_at a 54 54 _ hs,if_pos rfl]),a4:=(fun h=>by rw [put_at a 54 50 _ hs,if_neg (by decide)]; exact hI.a4 h),a5:=(fun h=>by rw [put_at a 54 55 _ hs,if_neg (by decide)]; exact hI.a5 h),a6:=(fun h=>by rw [put_at a 54 56 _ hs,if_neg (by decide)]; exact hI.a6 h),a7:=(fun h=>by rw [show (if (7:Nat)=3 then true else L 7)=L 7 from rfl,h8] at h; cases h),a8:=(fun h=>by rw [put_at a 54 10 _ hs,if_neg (by decide)]; exact hI.a8 h) }
set_option maxRecDepth 100000 in
theorem yf_4 (d3:(af.toList.any fun e=>e.on == 3 && Region.binds .any e)=true):StepJ Tryz.prog Q ops (YF w0 W q q5 q9 pv ca cn cc X n d er o1 c1) 4 { dst:=some 50,op:=Op.move (Operand.tmp 54),type:=ty,pos:=ps,after:=af,guard:=none } := by
 intro L a w K hI hj hcl hdep hK
 have hs:50<a.tmps.size:=by rw [hI.sz]; decide
 have t54:=hI.a3 (hdep 3 d3)
 show Oper.wp _ _ a w K _
 go_simp
 exact hK _ _ { sz:=(by simp [Act.put,hI.sz]),df:=hI.df,i2:=(by rw [put_at a 50 2 _ hs,if_neg (by decide)]; exact hI.i2),i5:=(by rw [put_at a 50 5 _ hs,if_neg (by decide)]; exact hI.i5),i9:=(by rw [put_at a 50 9 _ hs,if_neg (by decide)]; exact hI.i9),i11:=(by rw [put_at a 50 11 _ hs,if_neg (by decide)]; exact hI.i11),b1:=(fun h=>hI.b1 h),b2:=(hI.b2),o5:=(hI.o5),a0:=(fun h=>by rw [put_at a 50 51 _ hs,if_neg (by decide)]; exact hI.a0 h),a1:=(fun h=>by rw [put_at a 50 52 _ hs,if_neg (by decide)]; exact hI.a1 h),a2:=(fun h h3=>by rw [put_at a 50 53 _ hs,if_neg (by decide)]; exact hI.a2 h h3),a3:=(fun h=>by rw [put_at a 50 54 _ hs,if_neg (by decide)]; exact hI.a3 h),a4:=(fun _=>by rw [put_at a 50 50 _ hs,if_pos rfl]),a5:=(fun h=>by rw [put_at a 50 55 _ hs,if_neg (by decide)]; exact hI.a5 h),a6:=(fun h=>by rw [put_at a 50 56 _ hs,if_neg (by decide)]; exact hI.a6 h),a7:=(fun h=>hI.a7 h),a8:=(fun h=>by rw [put_at a 50 10 _ hs,if_neg (by decide)]; exact hI.a8 h) }
set_option maxRecDepth 100000 in
theorem yf_5 (d4:(af.toList.any fun e=>e.on == 4 && Region.binds .any e)=true):StepJ Tryz.prog Q ops (YF w0 W q q5 q9 pv ca cn cc X n d er o1 c1) 5 { dst:=some 55,op:=Op.extract (Operand.tmp 50) 0,type:=ty,pos:=ps,after:=af,guard:=none } := by
 intro L a w K hI hj hcl hdep hK
 have hs:55<a.tmps.size:=by rw [hI.sz]; decide
 have t50:=hI.a4 (hdep 4 d4)
 show Oper.wp _ _ a w K _
 go_simp
 exact hK _ _ { sz:=(by simp [Act.put,hI.sz]),df:=hI.df,i2:=(by rw [put_at a 55 2 _ hs,if_neg (by decide)]; exact hI.i2),i5:=(by rw [put_at a 55 5 _ hs,if_neg (by decide)]; exact hI.i5),i9:=(by rw [put_at a 55 9 _ hs,if_neg (by decide)]; exact hI.i9),i11:=(by rw [put_at a 55 11 _ hs,if_neg (by decide)]; exact hI.i11),b1:=(fun h=>hI.b1 h),b2:=(hI.b2),o5:=(hI.o5),a0:=(fun h=>by rw [put_at a 55 51 _ hs,if_neg (by decide)]; exact hI.a0 h),a1:=(fun h=>by rw [put_at a 55 52 _ hs,if_neg (by decide)]; exact hI.a1 h),a2:=(fun h h3=>by rw [put_at a 55 53 _ hs,if_neg (by decide)]; exact hI.a2 h h3),a3:=(fun h=>by rw [put_at a 55 54 _ hs,if_neg (by decide)]; exact hI.a3 h),a4:=(fun h=>by rw [put_at a 55 50 _ hs,if_neg (by decide)]; exact hI.a4 h),a5:=(fun _=>by rw [put_at a 55 55 _ hs,if_pos rfl]),a6:=(fun h=>by rw [put_at a 55 56 _ hs,if_neg (by decide)]; exact hI.a6 h),a7:=(fun h=>hI.a7 h),a8:=(fun h=>by rw [put_at a 55 10 _ hs,if_neg (by decide)]; exact hI.a8 h) }
set_option maxRecDepth 100000 in
theorem yf_6 (d4:(af.toList.any fun e=>e.on == 4 && Region.binds .any e)=true):StepJ Tryz.prog Q ops (YF w0 W q q5 q9 pv ca cn cc X n d er o1 c1) 6 { dst:=some 56,op:=Op.extract (Operand.tmp 50) 1,type:=ty,pos:=ps,after:=af,guard:=none } := by
 intro L a w K hI hj hcl hdep hK
 have hs:56<a.tmps.size:=by rw [hI.sz]; decide
 have t50:=hI.a4 (hdep 4 d4)
 show Oper.wp _ _ a w K _
 go_simp
 exact hK _ _ { sz:=(by simp [Act.put,hI.sz]),df:=hI.df,i2:=(by rw [put_at a 56 2 _ hs,if_neg (by decide)]; exact hI.i2),i5:=(by rw [put_at a 56 5 _ hs,if_neg (by decide)]; exact hI.i5),i9:=(by rw [put_at a 56 9 _ hs,if_neg (by decide)]; exact hI.i9),i11:=(by rw [put_at a 56 11 _ hs,if_neg (by decide)]; exact hI.i11),b1:=(fun h=>hI.b1 h),b2:=(hI.b2),o5:=(hI.o5),a0:=(fun h=>by rw [put_at a 56 51 _ hs,if_neg (by decide)]; exact hI.a0 h),a1:=(fun h=>by rw [put_at a 56 52 _ hs,if_neg (by decide)]; exact hI.a1 h),a2:=(fun h h3=>by rw [put_at a 56 53 _ hs,if_neg (by decide)]; exact hI.a2 h h3),a3:=(fun h=>by rw [put_at a 56 54 _ hs,if_neg (by decide)]; exact hI.a3 h),a4:=(fun h=>by rw [put_at a 56 50 _ hs,if_neg (by decide)]; exact hI.a4 h),a5:=(fun h=>by rw [put_at a 56 55 _ hs,if_neg (by decide)]; exact hI.a5 h),a6:=(fun _=>by rw [put_at a 56 56 _ hs,if_pos rfl]),a7:=(fun h=>hI.a7 h),a8:=(fun h=>by rw [put_at a 56 10 _ hs,if_neg (by decide)]; exact hI.a8 h) }
set_option maxRecDepth 100000 in
theorem yf_7 (d5:(af.toList.any fun e=>e.on == 5 && Region.binds .any e)=true) (d3:(af.toList.any fun e=>e.on == 3 && Region.binds .any e)=true) (hq : ∀ w,Below W.heap.size W w → ∃ n9 d9,Rh w q n9 d9) (hq0:w0.heap.size≤q) (hq5:q5≠q):StepJ Tryz.prog Q ops (YF w0 W q q5 q9 pv ca cn cc X n d er o1 c1) 7 { dst:=none,op:=Op.store 32 (Operand.tmp 11) (Operand.tmp 55),type:=ty,pos:=ps,after:=af,guard:=none } := by
 intro L a w K hI hj hcl hdep hK
 have t11:=hI.i11
 have t55:=hI.a5 (hdep 5 d5)
 have hB:=hI.b1 hj
 have h3:=hdep 3 d3
 obtain ⟨n9,d9,g4⟩ : ∃ n9 d9,Rh w q n9 d9:=hq w hB
 obtain ⟨k0,k1⟩:=g4.cells
 have fz:=g4.fz
 have hch:=putR_ch w q n d
 have hpt:=g4.put n d
 unfold putR at hch hpt
 show Oper.wp _ _ a w K _
 go_simp
 exact hK undef _ { sz:=hI.sz,df:=hI.df,i2:=(by exact hI.i2),i5:=(by exact hI.i5),i9:=(by exact hI.i9),i11:=(by exact hI.i11),b1:=(fun h=>by cases h),b2:=(hI.b2.trans (hch.below (by rintro b rfl; exact hq0))),o5:=(hI.o5.same (hch.block _ (by show ¬ _=_; exact hq5))),a0:=(fun h=>by exact hI.a0 h),a1:=(fun h=>by exact hI.a1 h),a2:=(fun _ h=>by have h3':L 3=false:=h; rw [h3] at h3'; cases h3'),a3:=(fun h=>by exact hI.a3 h),a4:=(fun h=>by exact hI.a4 h),a5:=(fun h=>by exact hI.a5 h),a6:=(fun h=>by exact hI.a6 h),a7:=(fun _=>hpt),a8:=(fun h=>by exact hI.a8 h) }
set_option maxRecDepth 100000 in
theorem yf_8 (d6:(af.toList.any fun e=>e.on == 6 && Region.binds .any e)=true):StepJ Tryz.prog Q ops (YF w0 W q q5 q9 pv ca cn cc X n d er o1 c1) 8 { dst:=some 10,op:=Op.assign (Operand.tmp 56),type:=ty,pos:=ps,after:=af,guard:=none } := by
 intro L a w K hI hj hcl hdep hK
 have hs:10<a.tmps.size:=by rw [hI.sz]; decide
 have t56:=hI.a6 (hdep 6 d6)
 show Oper.wp _ _ a w K _
 go_simp
 exact hK _ _ { sz:=(by simp [Act.put,hI.sz]),df:=hI.df,i2:=(by rw [put_at a 10 2 _ hs,if_neg (by decide)]; exact hI.i2),i5:=(by rw [put_at a 10 5 _ hs,if_neg (by decide)]; exact hI.i5),i9:=(by rw [put_at a 10 9 _ hs,if_neg (by decide)]; exact hI.i9),i11:=(by rw [put_at a 10 11 _ hs,if_neg (by decide)]; exact hI.i11),b1:=(fun h=>hI.b1 h),b2:=(hI.b2),o5:=(hI.o5),a0:=(fun h=>by rw [put_at a 10 51 _ hs,if_neg (by decide)]; exact hI.a0 h),a1:=(fun h=>by rw [put_at a 10 52 _ hs,if_neg (by decide)]; exact hI.a1 h),a2:=(fun h h3=>by rw [put_at a 10 53 _ hs,if_neg (by decide)]; exact hI.a2 h h3),a3:=(fun h=>by rw [put_at a 10 54 _ hs,if_neg (by decide)]; exact hI.a3 h),a4:=(fun h=>by rw [put_at a 10 50 _ hs,if_neg (by decide)]; exact hI.a4 h),a5:=(fun h=>by rw [put_at a 10 55 _ hs,if_neg (by decide)]; exact hI.a5 h),a6:=(fun h=>by rw [put_at a 10 56 _ hs,if_neg (by decide)]; exact hI.a6 h),a7:=(fun h=>hI.a7 h),a8:=(fun _=>by rw [put_at a 10 10 _ hs,if_pos rfl]) }
end
set_option maxRecDepth 100000 in
set_option maxHeartbeats 1000000 in
theorem leads_batch (w:World) (kd k:Int) (h1:kd≠1) (old size:Nat) (sa:Option Addr) (ns sc:Nat) (da:Option Addr) (dn dc:Nat) (xa:Option Addr) (xn xc:Nat) (n:Nat) (d:ByteArray) (er:Int)
  (hR : ∀ W,Below w.heap.size w W→Calls Tryz.prog 73 #[vP kd k old size (.slice sa ns sc) (.slice da dn dc),.slice xa xn xc] W fun e w'=>e = .returned (.tuple #[.agg #[.int .u64 (n:Int),.string d],.int .i64 er])∧Below W.heap.size W w') :
  Calls Tryz.prog 37 #[vP kd k old size (.slice sa ns sc) (.slice da dn dc),.slice xa xn xc] w fun e w'=>e = .returned (.tuple #[.agg #[.int .u64 (n:Int),.string d],.int .i64 er])∧Below w.heap.size w w':=by
 obtain ⟨W0,hW0⟩ : ∃ W0,(w.alloc (.cells #[.int .i64 kd,.int .i64 k,.int .u64 (old:Int),.int .u64 (size:Int),.slice sa ns sc,.slice da dn dc] 38)).alloc (.cells #[.int .u64 0,.string ⟨#[]⟩] 32)=W0:=⟨_,rfl⟩
 obtain ⟨hb0,h6,hR0,hz0⟩:=root_start hW0
 obtain ⟨m0,m1,m2,m3,m4,m5⟩:=h6.cells
 have h1b:(kd == 1)=false:=by simpa using h1
 have HC:=(hR W0 hb0)
 have HR0:Hid (Rt W0 (w.heap.size+1) 0 ⟨#[]⟩∧Below w.heap.size w W0∧w.heap.size+1<W0.heap.size):=⟨hR0,hb0,by omega⟩
 clear hR hb0 h6 hR0 hz0
 unfold vP at HC
 unfold vP
 go_enter Tryz.func37,Tryz.ntmps37
 go_upto_region 1 with (fail)
 try rw [hW0]
 clear hW0
 go_wp2_with (go_at_call 73; with_reducible refine HC.mono ?_; rintro e w1 ⟨rfl,hb1⟩; have hR:=HR0.out.1.below hb1 HR0.out.2.2; have k0:=hR.c0; have k1:=hR.c1; have f0:=hR.f0; have f1:=hR.f1)
 obtain ⟨s0,s1,hch⟩:=rt_put hR (n:Int) d
 refine bodyPost_ret (v := .tuple #[.agg #[.int .u64 (n:Int),.string d],.int .i64 er]) (by simp [results,Tryz.results37,go_sem,s0,s1]) rfl ⟨rfl,?_⟩
 exact (bnext HR0.out.2.1 hb1).trans (hch.below (by rintro b rfl; omega))
end Go.Proofs.YtipcenbndhnnhaaGreatDoor
