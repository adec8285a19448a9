/- Own work. -/
import Derived.Test.YtipcenbndhnnhaaGreatDoorQc24
namespace Go.Proofs.YtipcenbndhnnhaaGreatDoor
open Go.RowKit
attribute [local go_sem ↓] Go.wp_at_zero Go.wp_at_succ
structure LF (w0 W:World) (q q2:Nat) (pv:Value) (xb xo xn xc:Nat) (x:ByteArray) (n:Nat) (d:ByteArray) (er:Int) (L:Nat→Bool) (a:Act) (w:World):Prop where
 sz:a.tmps.size=21
 df:a.defers=[]
 i1:a.tmps.getD 1 undef = .slice (some ⟨xb,xo,none⟩) xn xc
 i2:a.tmps.getD 2 undef = .pointer (some ⟨q2,0,none⟩)
 i4:a.tmps.getD 4 undef = .pointer (some ⟨q,0,none⟩)
 b1:L 7=false→Below W.heap.size W w
 b2:Below w0.heap.size w0 w
 a0:L 0=true→a.tmps.getD 9 undef=pv
 a1:L 1=true→a.tmps.getD 10 undef = .slice (some ⟨xb,xo,none⟩) xn xc
 a2:L 2=true→a.tmps.getD 11 undef = .pointer (some ⟨xb,xo,none⟩)
 a3:L 3=true→a.tmps.getD 12 undef = .string x
 a4:L 4=true→a.tmps.getD 13 undef = .tuple #[.agg #[.int .u64 (n:Int),.string d],.int .i64 er]
 a5:L 5=true→a.tmps.getD 14 undef = .agg #[.int .u64 (n:Int),.string d]
 a6:L 6=true→a.tmps.getD 15 undef = .int .i64 er
 a7:L 7=true→Rh w q n d
 a8:L 8=true→a.tmps.getD 5 undef = .int .i64 er
section
variable {w0 W:World} {q q2:Nat} {pv:Value} {xb xo xn xc:Nat} {x:ByteArray} {n:Nat} {d:ByteArray} {er:Int} {Q:Exit→Act→World→Prop} {ops:List Oper} {ty:TypeId} {ps:String} {af:Array Edge}
set_option maxRecDepth 100000 in
theorem lf_0 (hds:dep ops 7 0=true) (h6 : ∀ w,Below W.heap.size W w → ∃ v0 v1 v2 v3 v4 v5,pv = .agg #[v0,v1,v2,v3,v4,v5]∧Six w q2 v0 v1 v2 v3 v4 v5):StepJ Tryz.prog Q ops (LF w0 W q q2 pv xb xo xn xc x n d er) 0 { dst:=some 9,op:=Op.load 38 (Operand.tmp 2),type:=ty,pos:=ps,after:=af,guard:=none } := by
 intro L a w K hI hj hcl hdep hK
 have hs:9<a.tmps.size:=by rw [hI.sz]; decide
 have h8:=not_yet hcl hj hds
 have hB:=hI.b1 h8
 have t2:=hI.i2
 obtain ⟨v0,v1,v2,v3,v4,v5,rfl,hx⟩:=h6 w hB
 obtain ⟨m0,m1,m2,m3,m4,m5⟩:=hx.cells
 show Oper.wp _ _ a w K _
 go_simp
 exact hK _ _ { sz:=(by simp [Act.put,hI.sz]),df:=hI.df,i1:=(by rw [put_at a 9 1 _ hs,if_neg (by decide)]; exact hI.i1),i2:=(by rw [put_at a 9 2 _ hs,if_neg (by decide)]; exact hI.i2),i4:=(by rw [put_at a 9 4 _ hs,if_neg (by decide)]; exact hI.i4),b1:=(fun h=>hI.b1 h),b2:=(hI.b2),a0:=(fun _=>by rw [put_at a 9 9 _ hs,if_pos rfl]),a1:=(fun h=>by rw [put_at a 9 10 _ hs,if_neg (by decide)]; exact hI.a1 h),a2:=(fun h=>by rw [put_at a 9 11 _ hs,if_neg (by decide)]; exact hI.a2 h),a3:=(fun h=>by rw [put_at a 9 12 _ hs,if_neg (by decide)]; exact hI.a3 h),a4:=(fun h=>by rw [put_at a 9 13 _ hs,if_neg (by decide)]; exact hI.a4 h),a5:=(fun h=>by rw [put_at a 9 14 _ hs,if_neg (by decide)]; exact hI.a5 h),a6:=(fun h=>by rw [put_at a 9 15 _ hs,if_neg (by decide)]; exact hI.a6 h),a7:=(fun h=>hI.a7 h),a8:=(fun h=>by rw [put_at a 9 5 _ hs,if_neg (by decide)]; exact hI.a8 h) }
set_option maxRecDepth 100000 in
theorem lf_1  : StepJ Tryz.prog Q ops (LF w0 W q q2 pv xb xo xn xc x n d er) 1 { dst:=some 10,op:=Op.move (Operand.tmp 1),type:=ty,pos:=ps,after:=af,guard:=none } := by
 intro L a w K hI hj hcl hdep hK
 have hs:10<a.tmps.size:=by rw [hI.sz]; decide
 have t1:=hI.i1
 show Oper.wp _ _ a w K _
 go_simp
 exact hK _ _ { sz:=(by simp [Act.put,hI.sz]),df:=hI.df,i1:=(by rw [put_at a 10 1 _ hs,if_neg (by decide)]; exact hI.i1),i2:=(by rw [put_at a 10 2 _ hs,if_neg (by decide)]; exact hI.i2),i4:=(by rw [put_at a 10 4 _ hs,if_neg (by decide)]; exact hI.i4),b1:=(fun h=>hI.b1 h),b2:=(hI.b2),a0:=(fun h=>by rw [put_at a 10 9 _ hs,if_neg (by decide)]; exact hI.a0 h),a1:=(fun _=>by rw [put_at a 10 10 _ hs,if_pos rfl]),a2:=(fun h=>by rw [put_at a 10 11 _ hs,if_neg (by decide)]; exact hI.a2 h),a3:=(fun h=>by rw [put_at a 10 12 _ hs,if_neg (by decide)]; exact hI.a3 h),a4:=(fun h=>by rw [put_at a 10 13 _ hs,if_neg (by decide)]; exact hI.a4 h),a5:=(fun h=>by rw [put_at a 10 14 _ hs,if_neg (by decide)]; exact hI.a5 h),a6:=(fun h=>by rw [put_at a 10 15 _ hs,if_neg (by decide)]; exact hI.a6 h),a7:=(fun h=>hI.a7 h),a8:=(fun h=>by rw [put_at a 10 5 _ hs,if_neg (by decide)]; exact hI.a8 h) }
set_option maxRecDepth 100000 in
theorem lf_2 (d1:(af.toList.any fun e=>e.on == 1 && Region.binds .any e)=true) (hn:0<xn):StepJ Tryz.prog Q ops (LF w0 W q q2 pv xb xo xn xc x n d er) 2 { dst:=some 11,op:=Op.indexAddr 22 (Operand.tmp 10) (Operand.const (.int .i64 0)),type:=ty,pos:=ps,after:=af,guard:=none } := by
 intro L a w K hI hj hcl hdep hK
 have hs:11<a.tmps.size:=by rw [hI.sz]; decide
 have t10:=hI.a1 (hdep 1 d1)
 have hz:(0:Int)<(xn:Int):=by omega
 show Oper.wp _ _ a w K _
 go_simp
 exact hK _ _ { sz:=(by simp [Act.put,hI.sz]),df:=hI.df,i1:=(by rw [put_at a 11 1 _ hs,if_neg (by decide)]; exact hI.i1),i2:=(by rw [put_at a 11 2 _ hs,if_neg (by decide)]; exact hI.i2),i4:=(by rw [put_at a 11 4 _ hs,if_neg (by decide)]; exact hI.i4),b1:=(fun h=>hI.b1 h),b2:=(hI.b2),a0:=(fun h=>by rw [put_at a 11 9 _ hs,if_neg (by decide)]; exact hI.a0 h),a1:=(fun h=>by rw [put_at a 11 10 _ hs,if_neg (by decide)]; exact hI.a1 h),a2:=(fun _=>by rw [put_at a 11 11 _ hs,if_pos rfl]),a3:=(fun h=>by rw [put_at a 11 12 _ hs,if_neg (by decide)]; exact hI.a3 h),a4:=(fun h=>by rw [put_at a 11 13 _ hs,if_neg (by decide)]; exact hI.a4 h),a5:=(fun h=>by rw [put_at a 11 14 _ hs,if_neg (by decide)]; exact hI.a5 h),a6:=(fun h=>by rw [put_at a 11 15 _ hs,if_neg (by decide)]; exact hI.a6 h),a7:=(fun h=>hI.a7 h),a8:=(fun h=>by rw [put_at a 11 5 _ hs,if_neg (by decide)]; exact hI.a8 h) }
set_option maxRecDepth 100000 in
theorem lf_3 (d2:(af.toList.any fun e=>e.on == 2 && Region.binds .any e)=true) (hds:dep ops 7 3=true) (hc : ∀ w,Below W.heap.size W w→w.cell? ⟨xb,xo,none⟩=some (.string x)):StepJ Tryz.prog Q ops (LF w0 W q q2 pv xb xo xn xc x n d er) 3 { dst:=some 12,op:=Op.load 9 (Operand.tmp 11),type:=ty,pos:=ps,after:=af,guard:=none } := by
 intro L a w K hI hj hcl hdep hK
 have hs:12<a.tmps.size:=by rw [hI.sz]; decide
 have h8:=not_yet hcl hj hds
 have hB:=hI.b1 h8
 have t11:=hI.a2 (hdep 2 d2)
 have hcx:=hc w hB
 show Oper.wp _ _ a w K _
 go_simp
 exact hK _ _ { sz:=(by simp [Act.put,hI.sz]),df:=hI.df,i1:=(by rw [put_at a 12 1 _ hs,if_neg (by decide)]; exact hI.i1),i2:=(by rw [put_at a 12 2 _ hs,if_neg (by decide)]; exact hI.i2),i4:=(by rw [put_at a 12 4 _ hs,if_neg (by decide)]; exact hI.i4),b1:=(fun h=>hI.b1 h),b2:=(hI.b2),a0:=(fun h=>by rw [put_at a 12 9 _ hs,if_neg (by decide)]; exact hI.a0 h),a1:=(fun h=>by rw [put_at a 12 10 _ hs,if_neg (by decide)]; exact hI.a1 h),a2:=(fun h=>by rw [put_at a 12 11 _ hs,if_neg (by decide)]; exact hI.a2 h),a3:=(fun _=>by rw [put_at a 12 12 _ hs,if_pos rfl]),a4:=(fun h=>by rw [put_at a 12 13 _ hs,if_neg (by decide)]; exact hI.a4 h),a5:=(fun h=>by rw [put_at a 12 14 _ hs,if_neg (by decide)]; exact hI.a5 h),a6:=(fun h=>by rw [put_at a 12 15 _ hs,if_neg (by decide)]; exact hI.a6 h),a7:=(fun h=>hI.a7 h),a8:=(fun h=>by rw [put_at a 12 5 _ hs,if_neg (by decide)]; exact hI.a8 h) }
set_option maxRecDepth 100000 in
theorem lf_4 (d0:(af.toList.any fun e=>e.on == 0 && Region.binds .any e)=true) (d3:(af.toList.any fun e=>e.on == 3 && Region.binds .any e)=true) (hds:dep ops 7 4=true) (hR : ∀ w,Below W.heap.size W w→Calls Tryz.prog 72 #[pv,.string x] w fun e w'=>e = .returned (.tuple #[.agg #[.int .u64 (n:Int),.string d],.int .i64 er])∧Below w.heap.size w w'):StepJ Tryz.prog Q ops (LF w0 W q q2 pv xb xo xn xc x n d er) 4 { dst:=some 13,op:=Op.call { callee:=Callee.value (Operand.func 72),args:=#[Operand.tmp 9,Operand.tmp 12],argTypes:=#[38,9] },type:=ty,pos:=ps,after:=af,guard:=none } := by
 intro L a w K hI hj hcl hdep hK
 have hs:13<a.tmps.size:=by rw [hI.sz]; decide
 have h8:=not_yet hcl hj hds
 have hB:=hI.b1 h8
 have t9:=hI.a0 (hdep 0 d0)
 have t12:=hI.a3 (hdep 3 d3)
 show Oper.wp _ _ a w K _
 go_simp
 refine (hR w hB).mono ?_
 rintro e w' ⟨rfl,hb⟩
 exact hK _ _ { sz:=(by simp [Act.put,hI.sz]),df:=hI.df,i1:=(by rw [put_at a 13 1 _ hs,if_neg (by decide)]; exact hI.i1),i2:=(by rw [put_at a 13 2 _ hs,if_neg (by decide)]; exact hI.i2),i4:=(by rw [put_at a 13 4 _ hs,if_neg (by decide)]; exact hI.i4),b1:=(fun _=>bnext hB hb),b2:=(bnext hI.b2 hb),a0:=(fun h=>by rw [put_at a 13 9 _ hs,if_neg (by decide)]; exact hI.a0 h),a1:=(fun h=>by rw [put_at a 13 10 _ hs,if_neg (by decide)]; exact hI.a1 h),a2:=(fun h=>by rw [put_at a 13 11 _ hs,if_neg (by decide)]; exact hI.a2 h),a3:=(fun h=>by rw [put_at a 13 12 _ hs,if_neg (by decide)]; exact hI.a3 h),a4:=(fun _=>by rw [put_at a 13 13 _ hs,if_pos rfl]),a5:=(fun h=>by rw [put_at a 13 14 _ hs,if_neg (by decide)]; exact hI.a5 h),a6:=(fun h=>by rw [put_at a 13 15 _ hs,if_neg (by decide)]; exact hI.a6 h),a7:=(fun h=>by rw [show (if (7:Nat)=4 then true else L 7)=L 7 from rfl,h8] at h; cases h),a8:=(fun h=>by rw [put_at a 13 5 _ hs,if_neg (by decide)]; exact hI.a8 h) }
set_option maxRecDepth 100000 in
theorem lf_5 (d4:(af.toList.any fun e=>e.on == 4 && Region.binds .any e)=true):StepJ Tryz.prog Q ops (LF w0 W q q2 pv xb xo xn xc x n d er) 5 { dst:=some 14,op:=Op.extract (Operand.tmp 13) 0,type:=ty,pos:=ps,after:=af,guard:=none } := by
 intro L a w K hI hj hcl hdep hK
 have hs:14<a.tmps.size:=by rw [hI.sz]; decide
 have t13:=hI.a4 (hdep 4 d4)
 show Oper.wp _ _ a w K _
 go_simp
 exact hK _ _ { sz:=(by simp [Act.put,hI.sz]),df:=hI.df,i1:=(by rw [put_at a 14 1 _ hs,if_neg (by decide)]; exact hI.i1),i2:=(by rw [put_at a 14 2 _ hs,if_neg (by decide)]; exact hI.i2),i4:=(by rw [put_at a 14 4 _ hs,if_neg (by decide)]; exact hI.i4),b1:=(fun h=>hI.b1 h),b2:=(hI.b2),a0:=(fun h=>by rw [put_at a 14 9 _ hs,if_neg (by decide)]; exact hI.a0 h),a1:=(fun h=>by rw [put_at a 14 10 _ hs,if_neg (by decide)]; exact hI.a1 h),a2:=(fun h=>by rw [put_at a 14 11 _ hs,if_neg (by decide)]; exact hI.a2 h),a3:=(fun h=>by rw [put_at a 14 12 _ hs,if_neg (by decide)]; exact hI.a3 h),a4:=(fun h=>by rw [put_at a 14 13 _ hs,if_neg (by decide)]; exact hI.a4 h),a5:=(fun _=>by rw [put_at a 14 14 _ hs,if_pos rfl]),a6:=(fun h=>by rw [put_at a 14 15 _ hs,if_neg (by decide)]; exact hI.a6 h),a7:=(fun h=>hI.a7 h),a8:=(fun h=>by rw [put_at a 14 5 _ hs,if_neg (by decide)]; exact hI.a8 h) }
set_option maxRecDepth 100000 in
theorem lf_6 (d4:(af.toList.any fun e=>e.on == 4 && Region.binds .any e)=true):StepJ Tryz.prog Q ops (LF w0 W q q2 pv xb xo xn xc x n d er) 6 { dst:=some 15,op:=Op.extract (Operand.tmp 13) 1,type:=ty,pos:=ps,after:=af,guard:=none } := by
 intro L a w K hI hj hcl hdep hK
 have hs:15<a.tmps.size:=by rw [hI.sz]; decide
 have t13:=hI.a4 (hdep 4 d4)
 show Oper.wp _ _ a w K _
 go_simp
 exact hK _ _ { sz:=(by simp [Act.put,hI.sz]),df:=hI.df,i1:=(by rw [put_at a 15 1 _ hs,if_neg (by decide)]; exact hI.i1),i2:=(by rw [put_at a 15 2 _ hs,if_neg (by decide)]; exact hI.i2),i4:=(by rw [put_at a 15 4 _ hs,if_neg (by decide)]; exact hI.i4),b1:=(fun h=>hI.b1 h),b2:=(hI.b2),a0:=(fun h=>by rw [put_at a 15 9 _ hs,if_neg (by decide)]; exact hI.a0 h),a1:=(fun h=>by rw [put_at a 15 10 _ hs,if_neg (by decide)]; exact hI.a1 h),a2:=(fun h=>by rw [put_at a 15 11 _ hs,if_neg (by decide)]; exact hI.a2 h),a3:=(fun h=>by rw [put_at a 15 12 _ hs,if_neg (by decide)]; exact hI.a3 h),a4:=(fun h=>by rw [put_at a 15 13 _ hs,if_neg (by decide)]; exact hI.a4 h),a5:=(fun h=>by rw [put_at a 15 14 _ hs,if_neg (by decide)]; exact hI.a5 h),a6:=(fun _=>by rw [put_at a 15 15 _ hs,if_pos rfl]),a7:=(fun h=>hI.a7 h),a8:=(fun h=>by rw [put_at a 15 5 _ hs,if_neg (by decide)]; exact hI.a8 h) }
set_option maxRecDepth 100000 in
theorem lf_7 (d5:(af.toList.any fun e=>e.on == 5 && Region.binds .any e)=true) (hq : ∀ w,Below W.heap.size W w → ∃ n9 d9,Rh w q n9 d9) (hq0:w0.heap.size≤q):StepJ Tryz.prog Q ops (LF w0 W q q2 pv xb xo xn xc x n d er) 7 { dst:=none,op:=Op.store 32 (Operand.tmp 4) (Operand.tmp 14),type:=ty,pos:=ps,after:=af,guard:=none } := by
 intro L a w K hI hj hcl hdep hK
 have t4:=hI.i4
 have t14:=hI.a5 (hdep 5 d5)
 have hB:=hI.b1 hj
 obtain ⟨n9,d9,g4⟩ : ∃ n9 d9,Rh w q n9 d9:=hq w hB
 obtain ⟨k0,k1⟩:=g4.cells
 have fz:=g4.fz
 have hch:=putR_ch w q n d
 have hpt:=g4.put n d
 unfold putR at hch hpt
 show Oper.wp _ _ a w K _
 go_simp
 exact hK undef _ { sz:=hI.sz,df:=hI.df,i1:=(by exact hI.i1),i2:=(by exact hI.i2),i4:=(by exact hI.i4),b1:=(fun h=>by cases h),b2:=(hI.b2.trans (hch.below (by rintro b rfl; exact hq0))),a0:=(fun h=>by exact hI.a0 h),a1:=(fun h=>by exact hI.a1 h),a2:=(fun h=>by exact hI.a2 h),a3:=(fun h=>by exact hI.a3 h),a4:=(fun h=>by exact hI.a4 h),a5:=(fun h=>by exact hI.a5 h),a6:=(fun h=>by exact hI.a6 h),a7:=(fun _=>hpt),a8:=(fun h=>by exact hI.a8 h) }
set_option maxRecDepth 100000 in
theorem lf_8 (d6:(af.toList.any fun e=>e.on == 6 && Region.binds .any e)=true):StepJ Tryz.prog Q ops (LF w0 W q q2 pv xb xo xn xc x n d er) 8 { dst:=some 5,op:=Op.assign (Operand.tmp 15),type:=ty,pos:=ps,after:=af,guard:=none } := by
 intro L a w K hI hj hcl hdep hK
 have hs:5<a.tmps.size:=by rw [hI.sz]; decide
 have t15:=hI.a6 (hdep 6 d6)
 show Oper.wp _ _ a w K _
 go_simp
 exact hK _ _ { sz:=(by simp [Act.put,hI.sz]),df:=hI.df,i1:=(by rw [put_at a 5 1 _ hs,if_neg (by decide)]; exact hI.i1),i2:=(by rw [put_at a 5 2 _ hs,if_neg (by decide)]; exact hI.i2),i4:=(by rw [put_at a 5 4 _ hs,if_neg (by decide)]; exact hI.i4),b1:=(fun h=>hI.b1 h),b2:=(hI.b2),a0:=(fun h=>by rw [put_at a 5 9 _ hs,if_neg (by decide)]; exact hI.a0 h),a1:=(fun h=>by rw [put_at a 5 10 _ hs,if_neg (by decide)]; exact hI.a1 h),a2:=(fun h=>by rw [put_at a 5 11 _ hs,if_neg (by decide)]; exact hI.a2 h),a3:=(fun h=>by rw [put_at a 5 12 _ hs,if_neg (by decide)]; exact hI.a3 h),a4:=(fun h=>by rw [put_at a 5 13 _ hs,if_neg (by decide)]; exact hI.a4 h),a5:=(fun h=>by rw [put_at a 5 14 _ hs,if_neg (by decide)]; exact hI.a5 h),a6:=(fun h=>by rw [put_at a 5 15 _ hs,if_neg (by decide)]; exact hI.a6 h),a7:=(fun h=>hI.a7 h),a8:=(fun _=>by rw [put_at a 5 5 _ hs,if_pos rfl]) }
end
set_option maxRecDepth 100000 in
set_option maxHeartbeats 1000000 in
theorem leads_path (w:World) (k:Int) (old size:Nat) (sa:Option Addr) (ns sc:Nat) (da:Option Addr) (dn dc:Nat) (xa:Option Addr) (xb xo xn xc:Nat) (X:List ByteArray) (hx:RdS w xa xb xo xn X) (h0:0<xn) (n:Nat) (d:ByteArray) (er:Int)
  (hR : ∀ W,Below w.heap.size w W→Calls Tryz.prog 72 #[vP 1 k old size (.slice sa ns sc) (.slice da dn dc),.string (X.getD 0 ByteArray.empty)] W fun e w'=>e = .returned (.tuple #[.agg #[.int .u64 (n:Int),.string d],.int .i64 er])∧Below W.heap.size W w') :
  Calls Tryz.prog 37 #[vP 1 k old size (.slice sa ns sc) (.slice da dn dc),.slice xa xn xc] w fun e w'=>e = .returned (.tuple #[.agg #[.int .u64 (n:Int),.string d],.int .i64 er])∧Below w.heap.size w w':=by
 obtain rfl:=hx.ptr h0
 obtain ⟨W0,hW0⟩ : ∃ W0,(w.alloc (.cells #[.int .i64 1,.int .i64 k,.int .u64 (old:Int),.int .u64 (size:Int),.slice sa ns sc,.slice da dn dc] 38)).alloc (.cells #[.int .u64 0,.string ⟨#[]⟩] 32)=W0:=⟨_,rfl⟩
 have hb0:Below w.heap.size w W0:=by rw [← hW0]; exact bal (bal (Below.refl _ _) _) _
 obtain ⟨h6,hr0⟩:Six W0 w.heap.size (.int .i64 1) (.int .i64 k) (.int .u64 (old:Int)) (.int .u64 (size:Int)) (.slice sa ns sc) (.slice da dn dc)∧Rh W0 (w.heap.size+1) 0 ⟨#[]⟩:=by
  obtain ⟨e1,e2⟩:=two_boxes w (.cells #[.int .i64 1,.int .i64 k,.int .u64 (old:Int),.int .u64 (size:Int),.slice sa ns sc,.slice da dn dc] 38) (.cells #[.int .u64 0,.string ⟨#[]⟩] 32)
  rw [← hW0]; exact ⟨e1,e2⟩
 have hb0':Below w.heap.size w W0:=hb0
 have m0:=h6.cells.1
 have HX:=hide (And.intro hx (And.intro hb0 (And.intro h6 hr0)))
 have HR:=hide hR
 unfold vP at HR
 clear hx hb0 h6 hr0 hR
 unfold vP
 go_enter Tryz.func37,Tryz.ntmps37
 go_upto_region 1 with (fail)
 try rw [hW0]
 clear hW0
 go_upto_region 2 with (fail)
 refine wp_region_planJ (by kernel_rfl) (by kernel_rfl) (LF w W0 (w.heap.size+1) w.heap.size (.agg #[.int .i64 1,.int .i64 k,.int .u64 (old:Int),.int .u64 (size:Int),.slice sa ns sc,.slice da dn dc]) xb xo xn xc (X.getD 0 ByteArray.empty) n d er)
  (fun Z _ hZ => { sz:=rfl,df:=rfl,i1:=rfl,i2:=rfl,i4:=rfl,b1:=(fun _=>hZ),b2:=(bnext hb0' hZ),a0:=(fun h=>by cases h),a1:=(fun h=>by cases h),a2:=(fun h=>by cases h),a3:=(fun h=>by cases h),a4:=(fun h=>by cases h),a5:=(fun h=>by cases h),a6:=(fun h=>by cases h),a7:=(fun h=>by cases h),a8:=(fun h=>by cases h) })
  ⟨lf_0 rfl (fun Z hZ=>⟨_,_,_,_,_,_,rfl,HX.out.2.2.1.next hZ⟩),lf_1,lf_2 rfl h0,lf_3 rfl rfl (fun Z hZ=>by have:=(HX.out.1.next (bnext hb0' hZ) (Nat.le_refl _)).at h0; exact this),lf_4 rfl rfl rfl (fun Z hZ=>HR.out Z (bnext hb0' hZ)),lf_5 rfl,lf_6 rfl,lf_7 rfl (fun Z hZ=>⟨_,_,HX.out.2.2.2.next hZ⟩) (by omega),lf_8 rfl,trivial⟩ ?_
 intro L a7 w7 hall hI
 obtain ⟨⟨tl⟩,df⟩:=a7
 have hl0:tl.length=21:=hI.sz
 obtain ⟨u0,t0,rfl,hl1⟩:=list_cut hl0
 obtain ⟨u1,t1,rfl,hl2⟩:=list_cut hl1
 obtain ⟨u2,t2,rfl,hl3⟩:=list_cut hl2
 obtain ⟨u3,t3,rfl,hl4⟩:=list_cut hl3
 obtain ⟨u4,t4,rfl,hl5⟩:=list_cut hl4
 obtain ⟨u5,t5,rfl,hl6⟩:=list_cut hl5
 obtain ⟨u6,t6,rfl,hl7⟩:=list_cut hl6
 obtain ⟨u7,t7,rfl,hl8⟩:=list_cut hl7
 obtain ⟨u8,t8,rfl,hl9⟩:=list_cut hl8
 obtain ⟨u9,t9,rfl,hl10⟩:=list_cut hl9
 obtain ⟨u10,t10,rfl,hl11⟩:=list_cut hl10
 obtain ⟨u11,t11,rfl,hl12⟩:=list_cut hl11
 obtain ⟨u12,t12,rfl,hl13⟩:=list_cut hl12
 obtain ⟨u13,t13,rfl,hl14⟩:=list_cut hl13
 obtain ⟨u14,t14,rfl,hl15⟩:=list_cut hl14
 obtain ⟨u15,t15,rfl,hl16⟩:=list_cut hl15
 obtain ⟨u16,t16,rfl,hl17⟩:=list_cut hl16
 obtain ⟨u17,t17,rfl,hl18⟩:=list_cut hl17
 obtain ⟨u18,t18,rfl,hl19⟩:=list_cut hl18
 obtain ⟨u19,t19,rfl,hl20⟩:=list_cut hl19
 obtain ⟨u20,t20,rfl,hl21⟩:=list_cut hl20
 obtain rfl:=List.length_eq_zero_iff.1 hl21
 obtain rfl:df=[]:=hI.df
 obtain rfl:u4 = .pointer (some ⟨w.heap.size+1,0,none⟩):=hI.i4
 obtain rfl:u5 = .int .i64 er:=hI.a8 (hall 8 (by decide))
 obtain ⟨s0,s1⟩:=(hI.a7 (hall 7 (by decide))).cells
 have HB:=hide hI.b2
 clear hall hI
 repeat go_step
 refine bodyPost_ret (v := .tuple #[.agg #[.int .u64 (n:Int),.string d],.int .i64 er]) (by simp [results,Tryz.results37,go_sem,s0,s1]) rfl ⟨rfl,HB.out⟩
end Go.Proofs.YtipcenbndhnnhaaGreatDoor
namespace Go.Proofs.YtipcenbndhnnhaaGreatDoor.Cv
open Pl
open Go.RowKit
attribute [local go_sem ↓] Go.wp_at_zero Go.wp_at_succ
theorem wpList_append_M (w:World) {ops:Array Oper} {rest:List Oper} {o:Oper} {a:Act} {Q:Exit→Act→World→Prop}
  (hg:o.guard=none) (s x:Operand) (hop:o.op=Op.call { callee:=Callee.builtin Builtin.append,args:=#[s,x],argTypes:=#[65,65] })
  (B:Nat) (v:Value) (L:List (Int×Nat)) (hs:a.eval s=v) (hown:OwnB w B v L) (u:Value) (M:List (Int×Nat)) (hx:a.eval x=u) (hr:RdC w u M.length (cB M))
  (hlen:L.length+M.length≤2199023255552) (hB:B≤w.heap.size)
  (hK : ∀ v' w',OwnB w' B v' (L++M)→w.grownBy w' v.ownBlock→wpList Tryz.prog ops Q rest (a.put o.dst v') w'):wpList Tryz.prog ops Q (o::rest) a w:=by
 obtain ⟨i0,hi,hz0,hz1,hz2⟩:=info_parts Tryz.infoB
 refine wpList_append_ap w hg s x _ hop B 94 i0 (.agg #[.int .i64 0,.int .u64 0]) 2 16 Tryz.underlying65 hi hz0 hz1 hz2 rfl (by decide) v L.length (cB L) hs hown u M.length (cB M) hx hr (cB_len M) (cB_one M) (by unfold maxLen; omega) (by omega) hB ?_
 intro v' w' h
 refine hK v' w' ?_ h.grown
 rw [OwnB,cB_app,List.length_append]
 exact h.own
structure Two (w:World) (g:Nat) (h:Int) (k:Nat):Prop where
 c0:w.cell? ⟨g,0,none⟩=some (.int .i64 h)
 c1:w.cell? ⟨g,1,none⟩=some (.int .u64 (k:Int))
theorem Two.below {w w':World} {g k:Nat} {h:Int} (t:Two w g h k) (hb:Below w.heap.size w w'):Two w' g h k :=
 ⟨(hb.cell (p:=⟨g,0,none⟩) (World.block_lt_of_cell? w _ t.c0)).trans t.c0,(hb.cell (p:=⟨g,1,none⟩) (World.block_lt_of_cell? w _ t.c1)).trans t.c1⟩
theorem two_new (w:World) (h:Int) (k t:Nat):Two (w.alloc (.cells #[.int .i64 h,.int .u64 (k:Int)] t)) w.heap.size h k:=by
 refine ⟨?_,?_⟩ <;> simp
theorem rspan_any (h k:Nat) (w:World) (hh:h≤40) (hk:k<pw (40 - h)) :
  Calls Tryz.prog 182 #[bv h k] w fun e w'=>e = .returned (.tuple #[.int .u64 (k * pw h:Nat),.int .u64 ((k+1) * pw h:Nat)])∧Below w.heap.size w w':=by
 have hm:=may_mul hh hk
 have hk2:=may_big hk
 have T:Hid (Two (w.alloc (.cells #[.int .i64 (h:Int),.int .u64 (k:Int)] 94)) w.heap.size h k):=two_new w h k 94
 have HM:Hid ((k+1) * pw h≤2^40∧h≤40):=⟨hm,hh⟩
 have ek:IntKind.u64.wrap ((k:Int)+1)=(k:Int)+1:=by rw [IntKind.wrap_u64]; omega
 clear hm hk2 hh hk
 go_enter Tryz.func182,Tryz.ntmps182
 go_wp2
 go_loopg [4,5,6] h (fun g lo hi i wr => ∃ j x y:Nat,j≤h∧g=h - j∧i = .int .i64 (j:Int)∧lo = .int .u64 (x:Int)∧hi = .int .u64 (y:Int)∧x=k * pw j∧y=(k+1) * pw j∧wr=w.alloc (.cells #[.int .i64 (h:Int),.int .u64 (k:Int)] 94))
 case atStart =>
  go_light
  exact ⟨0,k,k+1,Nat.zero_le _,rfl,rfl,rfl,rfl,by simp [pw],by simp [pw],rfl⟩
 case round =>
  obtain ⟨j,x,y,hj,rfl,rfl,rfl,rfl,hx,hy,rfl⟩:=hrel
  obtain ⟨hm,hh⟩:=HM.out
  obtain ⟨t0,t1⟩:=T.out
  have hj0:(0:Int)≤(j:Int):=Int.natCast_nonneg _
  have hj1:(j:Int)≤40:=by omega
  by_cases hlt:j<h
  ·have hlt':(j:Int)<(h:Int):=by omega
   have hb:(k+1) * pw (j+1)≤(k+1) * pw h:=Nat.mul_le_mul_left _ (pw_le hlt)
   have e1:k * pw (j+1)=2 * x:=by rw [hx,mul_half,Nat.mul_assoc]
   have e2:(k+1) * pw (j+1)=2 * y:=by rw [hy,mul_half,Nat.mul_assoc]
   have hxy:x≤y:=by rw [hx,hy]; exact Nat.mul_le_mul_right _ (by omega)
   have w1:IntKind.u64.wrap (2 * (x:Int))=2 * (x:Int):=by rw [IntKind.wrap_u64]; omega
   have w2:IntKind.u64.wrap (2 * (y:Int))=2 * (y:Int):=by rw [IntKind.wrap_u64]; omega
   have HX:Hid (2 * x=k * pw (j+1)∧2 * y=(k+1) * pw (j+1)):=⟨e1.symm,e2.symm⟩
   clear hb e1 e2 hxy hx hy hm hh hj
   go_wp2
   go_roundg (h - (j+1))
   case rel =>
    go_light
    exact ⟨j+1,2 * x,2 * y,by omega,rfl,by go_num,by go_num,by go_num,HX.out.1,HX.out.2,rfl⟩
   case measure=>go_light; omega
  ·obtain rfl:j=h:=by omega
   have hlt' : ¬ (j:Int)<(j:Int):=by omega
   have HX:Hid (x=k * pw j∧y=(k+1) * pw j):=⟨hx,hy⟩
   clear hx hy hm hh hj hlt
   go_wp2
   go_ret2
   obtain ⟨rfl,rfl⟩:=HX.out
   exact ⟨rfl,bal (Below.refl _ _) _⟩
theorem pw_half (m:Nat):pw (m+1) / 2=pw m:=by rw [pw_succ]; omega
set_option maxHeartbeats 1000000 in
theorem rmounts_any (n:Nat) (w:World) (hn:n≤2^40) :
  Calls Tryz.prog 134 #[.int .u64 (n:Int)] w fun e w' => ∃ v,e = .returned v∧OwnB w' w.heap.size v (zl (dnL 41 0 n))∧Below w.heap.size w w':=by
 have HN:Hid (n≤2^40):=hn
 clear hn
 go_enter Tryz.func134,Tryz.ntmps134
 go_wp2
 go_loopg [3,4,5,6] 41 (fun g v f p h wr => ∃ (m x:Nat) (acc:List (Nat×Nat)),m≤41∧m=g∧h = .int .i64 ((m:Int) - 1)∧p = .int .u64 ((pw m / 2:Nat):Int)∧f = .int .u64 (x:Int)∧x≤n∧OwnB wr w.heap.size v (zl acc)∧acc++dnL m x n=dnL 41 0 n∧acc.length+m≤41∧Below w.heap.size w wr)
 case atStart =>
  go_light
  exact ⟨41,0,[],by decide,rfl,rfl,rfl,rfl,Nat.zero_le _,World.ownsRow_nil _ _ _ _,rfl,by decide,Below.refl _ _⟩
 case round =>
  obtain ⟨m,x,acc,hm,rfl,rfl,rfl,rfl,hx,hown,hacc,hlen,hb⟩:=hrel
  have hn:=HN.out
  by_cases hm0:m=0
  ·subst hm0
   have ht : ¬ (0:Int)≤((0:Nat):Int) - 1:=by omega
   have HF:Hid (OwnB wr w.heap.size u3 (zl (dnL 41 0 n))∧Below w.heap.size w wr):=⟨by
    rw [← hacc]; simpa [dnL] using hown,hb⟩
   clear hx hown hacc hlen hb hn hm
   go_wp2
   go_ret
   exact ⟨_,rfl,HF.out⟩
  ·obtain ⟨i,rfl⟩ : ∃ i,m=i+1:=⟨m - 1,by omega⟩
   have ei:(((i+1:Nat):Int) - 1)=(i:Int):=by omega
   rw [ei,pw_half]
   have hi0:(0:Int)≤(i:Int):=Int.natCast_nonneg _
   have hi1:(i:Int)≤40:=by omega
   obtain ⟨p,hp⟩ : ∃ p,pw i=p:=⟨_,rfl⟩
   have hp40:pw i≤pw 40:=pw_le (by omega)
   have e40:pw 40=2^40:=rfl
   have hpp:=pw_pos i
   rw [hp] at hp40 hpp ⊢
   obtain ⟨d,hd⟩ : ∃ d,n - x=d:=⟨_,rfl⟩
   have ed:IntKind.u64.wrap ((n:Int) - (x:Int))=(d:Int):=by rw [IntKind.wrap_u64]; omega
   obtain ⟨p2,hp2⟩ : ∃ p2,p / 2=p2:=⟨_,rfl⟩
   have ep:IntKind.u64.wrap ((p:Int) / 2)=(p2:Int):=by rw [IntKind.wrap_u64]; omega
   have hne : ¬ (p:Int)=0:=by omega
   have hsz:=hb.size
   by_cases hfit:p≤d
   ·have hfi:(p:Int)≤(d:Int):=by omega
    obtain ⟨q,hq⟩ : ∃ q,x / pw i=q:=⟨_,rfl⟩
    have hq2:x / p=q:=by rw [← hp]; exact hq
    have hqx:q≤x:=by rw [← hq]; exact Nat.div_le_self _ _
    have eq:(x:Int) / (p:Int)=(q:Int):=by rw [← hq2]; rfl
    have eq2:IntKind.u64.wrap (q:Int)=(q:Int):=by rw [IntKind.wrap_u64]; omega
    have ef:IntKind.u64.wrap ((x:Int)+(p:Int))=((x+p:Nat):Int):=by rw [IntKind.wrap_u64]; omega
    have hu:=dn_yes (h:=i) (lo:=x) (hi:=n) (by omega)
    rw [hq,hp] at hu
    have HX:Hid (acc++[(i,q)]++dnL i (x+p) n=dnL 41 0 n∧x+p≤n∧(acc++[(i,q)]).length+i≤41∧Below w.heap.size w wr∧w.heap.size≤wr.heap.size∧acc.length≤41∧pw i / 2=p2):=by
     refine ⟨?_,by omega,by simp; omega,hb,hsz,by omega,by rw [hp,hp2]⟩
     rw [List.append_assoc,← hacc,hu]; rfl
    clear hx hacc hlen hb hn hm hm0 hp hd hp2 hq hq2 hqx hu e40 hp40 hpp hsz hfit
    go_wp2_with (at_builtin; refine wpList_append_B _ rfl _ _ rfl w.heap.size _ (zl acc) rfl (hown.alloc _) _ [((i:Int),q)] rfl (rdc_block wr (i:Int) q 94) ?c1 ?c2 ?_)
    case c1=>have:=HX.out.2.2.2.2.2.1; rw [zl_len]; simp; omega
    case c2=>have:=HX.out.2.2.2.2.1; simp; omega
    intro v' w1 r1 r2 _
    have R:=ownB_step HX.out.2.2.2.1 HX.out.2.2.2.2.1 hown r2
    clear r2 hown
    go_wp2
    go_roundg i
    case rel =>
     go_light
     obtain ⟨x1,x2,x3,x4,x5,x6,x7⟩:=HX.out
     refine ⟨i,x+p,acc++[(i,q)],by omega,rfl,by go_num,by rw [x7],by go_num,x2,?_,x1,x3,R.1⟩
     rw [zl_app]; exact r1
    case measure=>go_light; omega
   ·have hfi : ¬ (p:Int)≤(d:Int):=by omega
    have hu:=dn_no (h:=i) (lo:=x) (hi:=n) (by omega)
    rw [hu] at hacc
    have HX:Hid (acc++dnL i x n=dnL 41 0 n∧x≤n∧acc.length+i≤41∧Below w.heap.size w wr∧pw i / 2=p2):=⟨hacc,hx,by omega,hb,by rw [hp,hp2]⟩
    clear hx hacc hlen hb hn hm hm0 hp hd hp2 hu e40 hp40 hpp hsz
    go_wp2
    go_roundg i
    case rel =>
     go_light
     obtain ⟨x1,x2,x3,x4,x5⟩:=HX.out
     exact ⟨i,x,acc,by omega,rfl,by go_num,by rw [x5],rfl,x2,hown,x1,x3,x4⟩
    case measure=>go_light; omega
theorem rMountains_any (n:Nat) (w:World) :
  Calls Tryz.prog 83 #[.int .u64 (n:Int)] w fun x w' => ∃ v,x = .returned (.tuple #[v,.int .i64 (errR 0 n n:Nat)])∧OwnB w' w.heap.size v (zl (covR 0 n n))∧Below w.heap.size w w':=by
 by_cases h:2^40<n
 ·have e:errR 0 n n=30:=by rw [errR,if_pos h]
  have ht:decide ((1099511627776:Int)<(n:Int))=true:=decide_eq_true (by omega)
  rw [covR,e,if_neg (by decide)]
  clear h e
  go_enter Tryz.func83,Tryz.ntmps83
  go_wp2
  go_ret2
  exact ⟨_,rfl,World.ownsRow_nil _ _ _ _,Below.refl _ _⟩
 ·have e:errR 0 n n=0:=by rw [errR,if_neg h,if_neg (by omega),if_neg (by omega)]
  have ht:decide ((1099511627776:Int)<(n:Int))=false:=decide_eq_false (by omega)
  have HM:=fun w'=>rmounts_any n w' (by omega)
  rw [covR,e,if_pos rfl,cov_zero n (by omega)]
  clear h e
  go_enter Tryz.func83,Tryz.ntmps83
  go_wp2_with (go_at_call 134; with_reducible refine (HM _).mono ?_; rintro x w1 ⟨v,rfl,h1,h2⟩)
  go_ret2
  exact ⟨_,rfl,h1,h2⟩
theorem row_mem {q:Nat} : ∀ {L:List (Nat×Nat)} {p:Nat},Row q p L → ∀ b∈L,b.1≤40∧b.2<pw (40 - b.1):=by
 intro L
 induction L with
 | nil=>intro p _ b hb; cases hb
 | cons c L ih =>
  intro p h b hb
  rcases List.mem_cons.1 hb with rfl | hb
  ·exact ⟨h.2.1,h.2.2.1⟩
  ·exact ih h.2.2.2 b hb
theorem take_flat {t:Nat×Nat→List (Nat×Nat)} (M:List (Nat×Nat)) (k:Nat) (h:k<M.length):(M.take (k+1)).flatMap t=(M.take k).flatMap t++t (M.getD k (0,0)):=by
 rw [List.take_succ_eq_append_getElem h,List.flatMap_append,List.getD_eq_getElem?_getD,List.getElem?_eq_getElem h]
 simp
theorem take_flat_len {t:Nat×Nat→List (Nat×Nat)} (M:List (Nat×Nat)) (k:Nat):((M.take k).flatMap t).length≤(M.flatMap t).length:=by
 conv=>rhs; rw [← List.take_append_drop k M,List.flatMap_append,List.length_append]
 omega
end Go.Proofs.YtipcenbndhnnhaaGreatDoor.Cv
