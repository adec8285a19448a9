/- Own work. -/
import Derived.Test.YtipcenbndhnnhaaGreatDoorQd44
import Derived.Test.YtipcenbndhnnhaaGreatDoorQd46
import Derived.Lib.BufferMore
import Derived.BigRegion
import Derived.Deep.RegionHeld3
import Derived.Laws.StructEq
import Derived.Test.YtipcenbndhnnhaaGreatDoorProg
import Derived.Below
import Derived.WalkKit
import Derived.WalkSpells
import Derived.KernelRfl
import Derived.Deep.RegionWith
import Derived.BigQuiet
import Derived.Defers
import Derived.Recover
import Derived.Outline
import Derived.Deep.LoopGhost
import Derived.Deep.DrawnRows
import Derived.Deep.Light
import Derived.Deep.MidRow
import Derived.Deep.Onto
import Derived.Laws.Bits64b
import Derived.Handy
import Derived.ArgAppend
import Derived.Laws.AppendOwnNone
import Derived.Test.YtipcenbndhnnhaaGreatDoorRows
import Derived.Laws.IdiomStrings
import Derived.Deep.DeepMakePanics
import Derived.OwnWalk
import Derived.WalkLawsBesides
import Derived.Laws.BitsAllLaws
import Derived.Deep.Cut
import Derived.Deep.CutRange
import Derived.Lib.SliceRun
import Derived.Lib.LazyBuf
import Derived.Deep.RegionLaw
import Derived.Lib.BufferOwn
import Derived.Test.YtipcenbndhnnhaaGreatDoorQv00
namespace Go.Proofs.YtipcenbndhnnhaaGreatDoor
open Go.RowKit
attribute [local go_sem ↓] Go.wp_at_zero Go.wp_at_succ
structure Zf (A0:Act) (W:World) (q1 f1:Nat) (k:Int) (n i sb so ns sc:Nat) (D:List ByteArray) (L:Nat→Bool) (a:Act) (w:World):Prop where
 sz:a.tmps.size=242
 df:a.defers=[]
 i1:a.tmps.getD 1 undef = .pointer (some ⟨q1,0,none⟩)
 i3:a.tmps.getD 3 undef = .pointer (some ⟨f1,0,none⟩)
 fr : ∀ t,([144,145,146,147,148,149,150,151,143,152,153,14,15]:List Nat).contains t=false→a.tmps.getD t undef=A0.tmps.getD t undef
 be:Below W.heap.size W w
 a0:L 0=true→a.tmps.getD 144 undef = .pointer (some ⟨f1,0,none⟩)
 a1:L 1=true→a.tmps.getD 145 undef = .pointer (some ⟨q1,3,none⟩)
 a2:L 2=true→a.tmps.getD 146 undef = .int .u64 (n:Int)
 a3:L 3=true→a.tmps.getD 147 undef = .pointer (some ⟨q1,4,none⟩)
 a4:L 4=true→a.tmps.getD 148 undef = .slice (some ⟨sb,so,none⟩) ns sc
 a5:L 5=true→a.tmps.getD 149 undef = .pointer (some ⟨sb,so,none⟩)
 a6:L 6=true→a.tmps.getD 150 undef = .int .u64 (i:Int)
 a10:L 10=true→a.tmps.getD 153 undef = .int .i64 0
 a13:L 13=true→a.tmps.getD 15 undef = .int .i64 0
 a11:L 11=true → ∃ q,a.tmps.getD 14 undef = .pointer (some ⟨q,0,none⟩)∧W.heap.size≤q∧q<w.heap.size ∧ ∃ v0 v1 v2 v3 v4 v5,Six w q v0 v1 v2 v3 v4 v5
 cl : ∃ bs cs ad cd,(L 7=true→a.tmps.getD 151 undef = .tuple #[.agg #[.int .i64 1,.int .i64 k,.int .u64 0,.int .u64 (n:Int),.slice (some ⟨bs,0,none⟩) 1 cs,.slice ad D.length cd],.int .i64 0]∧Cv.Own w W.heap.size (.slice (some ⟨bs,0,none⟩) 1 cs) [i]∧OwnS w W.heap.size (.slice ad D.length cd) D)∧(L 8=true→a.tmps.getD 143 undef = .tuple #[.agg #[.int .i64 1,.int .i64 k,.int .u64 0,.int .u64 (n:Int),.slice (some ⟨bs,0,none⟩) 1 cs,.slice ad D.length cd],.int .i64 0])∧(L 9=true→a.tmps.getD 152 undef = .agg #[.int .i64 1,.int .i64 k,.int .u64 0,.int .u64 (n:Int),.slice (some ⟨bs,0,none⟩) 1 cs,.slice ad D.length cd])∧(L 12=true → ∀ q,a.tmps.getD 14 undef = .pointer (some ⟨q,0,none⟩)→Six w q (.int .i64 1) (.int .i64 k) (.int .u64 0) (.int .u64 (n:Int)) (.slice (some ⟨bs,0,none⟩) 1 cs) (.slice ad D.length cd))
section
variable {A0:Act} {W:World} {q1 f1:Nat} {k:Int} {n i sb so ns sc:Nat} {D:List ByteArray} {Q:Exit→Act→World→Prop} {ops:List Oper} {ty:TypeId} {ps:String} {af:Array Edge}
set_option maxRecDepth 100000 in
theorem zf_0  : StepJ Tryz.prog Q ops (Zf A0 W q1 f1 k n i sb so ns sc D) 0 { dst:=some 144,op:=Op.move (Operand.tmp 3),type:=ty,pos:=ps,after:=af,guard:=none } := by
 intro L a w K hI hj hcl hdep hK
 have hs:144<a.tmps.size:=by rw [hI.sz]; decide
 have t3:=hI.i3
 show Oper.wp _ _ a w K _
 go_simp
 exact hK _ _ { sz:=(by simp [Act.put,hI.sz]),df:=hI.df,i1:=(by rw [put_at a 144 1 _ hs,if_neg (by decide)]; exact hI.i1),i3:=(by rw [put_at a 144 3 _ hs,if_neg (by decide)]; exact hI.i3),fr:=(fun t ht=>by rw [put_at a 144 t _ hs,if_neg (fun e=>by subst e; revert ht; decide)]; exact hI.fr t ht),be:=(hI.be),a0:=(fun _=>by rw [put_at a 144 144 _ hs,if_pos rfl]),a1:=(fun h=>by rw [put_at a 144 145 _ hs,if_neg (by decide)]; exact hI.a1 h),a2:=(fun h=>by rw [put_at a 144 146 _ hs,if_neg (by decide)]; exact hI.a2 h),a3:=(fun h=>by rw [put_at a 144 147 _ hs,if_neg (by decide)]; exact hI.a3 h),a4:=(fun h=>by rw [put_at a 144 148 _ hs,if_neg (by decide)]; exact hI.a4 h),a5:=(fun h=>by rw [put_at a 144 149 _ hs,if_neg (by decide)]; exact hI.a5 h),a6:=(fun h=>by rw [put_at a 144 150 _ hs,if_neg (by decide)]; exact hI.a6 h),a10:=(fun h=>by rw [put_at a 144 153 _ hs,if_neg (by decide)]; exact hI.a10 h),a13:=(fun h=>by rw [put_at a 144 15 _ hs,if_neg (by decide)]; exact hI.a13 h),a11:=(fun h=>by rw [put_at a 144 14 _ hs,if_neg (by decide)]; exact hI.a11 h),cl:=(by obtain ⟨bs,cs,ad,cd,g7,g8,g9,g12⟩:=hI.cl; exact ⟨bs,cs,ad,cd,fun h=>by rw [put_at a 144 151 _ hs,if_neg (by decide)]; exact g7 h,fun h=>by rw [put_at a 144 143 _ hs,if_neg (by decide)]; exact g8 h,fun h=>by rw [put_at a 144 152 _ hs,if_neg (by decide)]; exact g9 h,fun h q hq=>by rw [put_at a 144 14 _ hs,if_neg (by decide)] at hq; exact g12 h q hq⟩) }
set_option maxRecDepth 100000 in
theorem zf_1  : StepJ Tryz.prog Q ops (Zf A0 W q1 f1 k n i sb so ns sc D) 1 { dst:=some 145,op:=Op.fieldAddr 26 (Operand.tmp 1) 3,type:=ty,pos:=ps,after:=af,guard:=none } := by
 intro L a w K hI hj hcl hdep hK
 have hs:145<a.tmps.size:=by rw [hI.sz]; decide
 have t1:=hI.i1
 show Oper.wp _ _ a w K _
 go_simp
 exact hK _ _ { sz:=(by simp [Act.put,hI.sz]),df:=hI.df,i1:=(by rw [put_at a 145 1 _ hs,if_neg (by decide)]; exact hI.i1),i3:=(by rw [put_at a 145 3 _ hs,if_neg (by decide)]; exact hI.i3),fr:=(fun t ht=>by rw [put_at a 145 t _ hs,if_neg (fun e=>by subst e; revert ht; decide)]; exact hI.fr t ht),be:=(hI.be),a0:=(fun h=>by rw [put_at a 145 144 _ hs,if_neg (by decide)]; exact hI.a0 h),a1:=(fun _=>by rw [put_at a 145 145 _ hs,if_pos rfl]),a2:=(fun h=>by rw [put_at a 145 146 _ hs,if_neg (by decide)]; exact hI.a2 h),a3:=(fun h=>by rw [put_at a 145 147 _ hs,if_neg (by decide)]; exact hI.a3 h),a4:=(fun h=>by rw [put_at a 145 148 _ hs,if_neg (by decide)]; exact hI.a4 h),a5:=(fun h=>by rw [put_at a 145 149 _ hs,if_neg (by decide)]; exact hI.a5 h),a6:=(fun h=>by rw [put_at a 145 150 _ hs,if_neg (by decide)]; exact hI.a6 h),a10:=(fun h=>by rw [put_at a 145 153 _ hs,if_neg (by decide)]; exact hI.a10 h),a13:=(fun h=>by rw [put_at a 145 15 _ hs,if_neg (by decide)]; exact hI.a13 h),a11:=(fun h=>by rw [put_at a 145 14 _ hs,if_neg (by decide)]; exact hI.a11 h),cl:=(by obtain ⟨bs,cs,ad,cd,g7,g8,g9,g12⟩:=hI.cl; exact ⟨bs,cs,ad,cd,fun h=>by rw [put_at a 145 151 _ hs,if_neg (by decide)]; exact g7 h,fun h=>by rw [put_at a 145 143 _ hs,if_neg (by decide)]; exact g8 h,fun h=>by rw [put_at a 145 152 _ hs,if_neg (by decide)]; exact g9 h,fun h q hq=>by rw [put_at a 145 14 _ hs,if_neg (by decide)] at hq; exact g12 h q hq⟩) }
set_option maxRecDepth 100000 in
theorem zf_2 (d1:(af.toList.any fun e=>e.on == 1 && Region.binds .any e)=true) (hC : ∀ w,Below W.heap.size W w→w.cell? ⟨q1,3,none⟩=some (.int .u64 (n:Int))∧w.cell? ⟨q1,4,none⟩=some (.slice (some ⟨sb,so,none⟩) ns sc)):StepJ Tryz.prog Q ops (Zf A0 W q1 f1 k n i sb so ns sc D) 2 { dst:=some 146,op:=Op.load 23 (Operand.tmp 145),type:=ty,pos:=ps,after:=af,guard:=none } := by
 intro L a w K hI hj hcl hdep hK
 have hs:146<a.tmps.size:=by rw [hI.sz]; decide
 have t145:=hI.a1 (hdep 1 d1)
 obtain ⟨k3,k4⟩:=hC w hI.be
 show Oper.wp _ _ a w K _
 go_simp
 exact hK _ _ { sz:=(by simp [Act.put,hI.sz]),df:=hI.df,i1:=(by rw [put_at a 146 1 _ hs,if_neg (by decide)]; exact hI.i1),i3:=(by rw [put_at a 146 3 _ hs,if_neg (by decide)]; exact hI.i3),fr:=(fun t ht=>by rw [put_at a 146 t _ hs,if_neg (fun e=>by subst e; revert ht; decide)]; exact hI.fr t ht),be:=(hI.be),a0:=(fun h=>by rw [put_at a 146 144 _ hs,if_neg (by decide)]; exact hI.a0 h),a1:=(fun h=>by rw [put_at a 146 145 _ hs,if_neg (by decide)]; exact hI.a1 h),a2:=(fun _=>by rw [put_at a 146 146 _ hs,if_pos rfl]),a3:=(fun h=>by rw [put_at a 146 147 _ hs,if_neg (by decide)]; exact hI.a3 h),a4:=(fun h=>by rw [put_at a 146 148 _ hs,if_neg (by decide)]; exact hI.a4 h),a5:=(fun h=>by rw [put_at a 146 149 _ hs,if_neg (by decide)]; exact hI.a5 h),a6:=(fun h=>by rw [put_at a 146 150 _ hs,if_neg (by decide)]; exact hI.a6 h),a10:=(fun h=>by rw [put_at a 146 153 _ hs,if_neg (by decide)]; exact hI.a10 h),a13:=(fun h=>by rw [put_at a 146 15 _ hs,if_neg (by decide)]; exact hI.a13 h),a11:=(fun h=>by rw [put_at a 146 14 _ hs,if_neg (by decide)]; exact hI.a11 h),cl:=(by obtain ⟨bs,cs,ad,cd,g7,g8,g9,g12⟩:=hI.cl; exact ⟨bs,cs,ad,cd,fun h=>by rw [put_at a 146 151 _ hs,if_neg (by decide)]; exact g7 h,fun h=>by rw [put_at a 146 143 _ hs,if_neg (by decide)]; exact g8 h,fun h=>by rw [put_at a 146 152 _ hs,if_neg (by decide)]; exact g9 h,fun h q hq=>by rw [put_at a 146 14 _ hs,if_neg (by decide)] at hq; exact g12 h q hq⟩) }
set_option maxRecDepth 100000 in
theorem zf_3  : StepJ Tryz.prog Q ops (Zf A0 W q1 f1 k n i sb so ns sc D) 3 { dst:=some 147,op:=Op.fieldAddr 26 (Operand.tmp 1) 4,type:=ty,pos:=ps,after:=af,guard:=none } := by
 intro L a w K hI hj hcl hdep hK
 have hs:147<a.tmps.size:=by rw [hI.sz]; decide
 have t1:=hI.i1
 show Oper.wp _ _ a w K _
 go_simp
 exact hK _ _ { sz:=(by simp [Act.put,hI.sz]),df:=hI.df,i1:=(by rw [put_at a 147 1 _ hs,if_neg (by decide)]; exact hI.i1),i3:=(by rw [put_at a 147 3 _ hs,if_neg (by decide)]; exact hI.i3),fr:=(fun t ht=>by rw [put_at a 147 t _ hs,if_neg (fun e=>by subst e; revert ht; decide)]; exact hI.fr t ht),be:=(hI.be),a0:=(fun h=>by rw [put_at a 147 144 _ hs,if_neg (by decide)]; exact hI.a0 h),a1:=(fun h=>by rw [put_at a 147 145 _ hs,if_neg (by decide)]; exact hI.a1 h),a2:=(fun h=>by rw [put_at a 147 146 _ hs,if_neg (by decide)]; exact hI.a2 h),a3:=(fun _=>by rw [put_at a 147 147 _ hs,if_pos rfl]),a4:=(fun h=>by rw [put_at a 147 148 _ hs,if_neg (by decide)]; exact hI.a4 h),a5:=(fun h=>by rw [put_at a 147 149 _ hs,if_neg (by decide)]; exact hI.a5 h),a6:=(fun h=>by rw [put_at a 147 150 _ hs,if_neg (by decide)]; exact hI.a6 h),a10:=(fun h=>by rw [put_at a 147 153 _ hs,if_neg (by decide)]; exact hI.a10 h),a13:=(fun h=>by rw [put_at a 147 15 _ hs,if_neg (by decide)]; exact hI.a13 h),a11:=(fun h=>by rw [put_at a 147 14 _ hs,if_neg (by decide)]; exact hI.a11 h),cl:=(by obtain ⟨bs,cs,ad,cd,g7,g8,g9,g12⟩:=hI.cl; exact ⟨bs,cs,ad,cd,fun h=>by rw [put_at a 147 151 _ hs,if_neg (by decide)]; exact g7 h,fun h=>by rw [put_at a 147 143 _ hs,if_neg (by decide)]; exact g8 h,fun h=>by rw [put_at a 147 152 _ hs,if_neg (by decide)]; exact g9 h,fun h q hq=>by rw [put_at a 147 14 _ hs,if_neg (by decide)] at hq; exact g12 h q hq⟩) }
set_option maxRecDepth 100000 in
theorem zf_4 (d3:(af.toList.any fun e=>e.on == 3 && Region.binds .any e)=true) (hC : ∀ w,Below W.heap.size W w→w.cell? ⟨q1,3,none⟩=some (.int .u64 (n:Int))∧w.cell? ⟨q1,4,none⟩=some (.slice (some ⟨sb,so,none⟩) ns sc)):StepJ Tryz.prog Q ops (Zf A0 W q1 f1 k n i sb so ns sc D) 4 { dst:=some 148,op:=Op.load 24 (Operand.tmp 147),type:=ty,pos:=ps,after:=af,guard:=none } := by
 intro L a w K hI hj hcl hdep hK
 have hs:148<a.tmps.size:=by rw [hI.sz]; decide
 have t147:=hI.a3 (hdep 3 d3)
 obtain ⟨k3,k4⟩:=hC w hI.be
 show Oper.wp _ _ a w K _
 go_simp
 exact hK _ _ { sz:=(by simp [Act.put,hI.sz]),df:=hI.df,i1:=(by rw [put_at a 148 1 _ hs,if_neg (by decide)]; exact hI.i1),i3:=(by rw [put_at a 148 3 _ hs,if_neg (by decide)]; exact hI.i3),fr:=(fun t ht=>by rw [put_at a 148 t _ hs,if_neg (fun e=>by subst e; revert ht; decide)]; exact hI.fr t ht),be:=(hI.be),a0:=(fun h=>by rw [put_at a 148 144 _ hs,if_neg (by decide)]; exact hI.a0 h),a1:=(fun h=>by rw [put_at a 148 145 _ hs,if_neg (by decide)]; exact hI.a1 h),a2:=(fun h=>by rw [put_at a 148 146 _ hs,if_neg (by decide)]; exact hI.a2 h),a3:=(fun h=>by rw [put_at a 148 147 _ hs,if_neg (by decide)]; exact hI.a3 h),a4:=(fun _=>by rw [put_at a 148 148 _ hs,if_pos rfl]),a5:=(fun h=>by rw [put_at a 148 149 _ hs,if_neg (by decide)]; exact hI.a5 h),a6:=(fun h=>by rw [put_at a 148 150 _ hs,if_neg (by decide)]; exact hI.a6 h),a10:=(fun h=>by rw [put_at a 148 153 _ hs,if_neg (by decide)]; exact hI.a10 h),a13:=(fun h=>by rw [put_at a 148 15 _ hs,if_neg (by decide)]; exact hI.a13 h),a11:=(fun h=>by rw [put_at a 148 14 _ hs,if_neg (by decide)]; exact hI.a11 h),cl:=(by obtain ⟨bs,cs,ad,cd,g7,g8,g9,g12⟩:=hI.cl; exact ⟨bs,cs,ad,cd,fun h=>by rw [put_at a 148 151 _ hs,if_neg (by decide)]; exact g7 h,fun h=>by rw [put_at a 148 143 _ hs,if_neg (by decide)]; exact g8 h,fun h=>by rw [put_at a 148 152 _ hs,if_neg (by decide)]; exact g9 h,fun h q hq=>by rw [put_at a 148 14 _ hs,if_neg (by decide)] at hq; exact g12 h q hq⟩) }
set_option maxRecDepth 100000 in
theorem zf_5 (d4:(af.toList.any fun e=>e.on == 4 && Region.binds .any e)=true) (hns:0<ns):StepJ Tryz.prog Q ops (Zf A0 W q1 f1 k n i sb so ns sc D) 5 { dst:=some 149,op:=Op.indexAddr 24 (Operand.tmp 148) (Operand.const (.int .i64 0)),type:=ty,pos:=ps,after:=af,guard:=none } := by
 intro L a w K hI hj hcl hdep hK
 have hs:149<a.tmps.size:=by rw [hI.sz]; decide
 have t148:=hI.a4 (hdep 4 d4)
 have hz:(0:Int)<(ns:Int):=by omega
 show Oper.wp _ _ a w K _
 go_simp
 exact hK _ _ { sz:=(by simp [Act.put,hI.sz]),df:=hI.df,i1:=(by rw [put_at a 149 1 _ hs,if_neg (by decide)]; exact hI.i1),i3:=(by rw [put_at a 149 3 _ hs,if_neg (by decide)]; exact hI.i3),fr:=(fun t ht=>by rw [put_at a 149 t _ hs,if_neg (fun e=>by subst e; revert ht; decide)]; exact hI.fr t ht),be:=(hI.be),a0:=(fun h=>by rw [put_at a 149 144 _ hs,if_neg (by decide)]; exact hI.a0 h),a1:=(fun h=>by rw [put_at a 149 145 _ hs,if_neg (by decide)]; exact hI.a1 h),a2:=(fun h=>by rw [put_at a 149 146 _ hs,if_neg (by decide)]; exact hI.a2 h),a3:=(fun h=>by rw [put_at a 149 147 _ hs,if_neg (by decide)]; exact hI.a3 h),a4:=(fun h=>by rw [put_at a 149 148 _ hs,if_neg (by decide)]; exact hI.a4 h),a5:=(fun _=>by rw [put_at a 149 149 _ hs,if_pos rfl]),a6:=(fun h=>by rw [put_at a 149 150 _ hs,if_neg (by decide)]; exact hI.a6 h),a10:=(fun h=>by rw [put_at a 149 153 _ hs,if_neg (by decide)]; exact hI.a10 h),a13:=(fun h=>by rw [put_at a 149 15 _ hs,if_neg (by decide)]; exact hI.a13 h),a11:=(fun h=>by rw [put_at a 149 14 _ hs,if_neg (by decide)]; exact hI.a11 h),cl:=(by obtain ⟨bs,cs,ad,cd,g7,g8,g9,g12⟩:=hI.cl; exact ⟨bs,cs,ad,cd,fun h=>by rw [put_at a 149 151 _ hs,if_neg (by decide)]; exact g7 h,fun h=>by rw [put_at a 149 143 _ hs,if_neg (by decide)]; exact g8 h,fun h=>by rw [put_at a 149 152 _ hs,if_neg (by decide)]; exact g9 h,fun h q hq=>by rw [put_at a 149 14 _ hs,if_neg (by decide)] at hq; exact g12 h q hq⟩) }
set_option maxRecDepth 100000 in
theorem zf_6 (d5:(af.toList.any fun e=>e.on == 5 && Region.binds .any e)=true) (hX : ∀ w,Below W.heap.size W w→w.cell? ⟨sb,so,none⟩=some (.int .u64 (i:Int))):StepJ Tryz.prog Q ops (Zf A0 W q1 f1 k n i sb so ns sc D) 6 { dst:=some 150,op:=Op.load 23 (Operand.tmp 149),type:=ty,pos:=ps,after:=af,guard:=none } := by
 intro L a w K hI hj hcl hdep hK
 have hs:150<a.tmps.size:=by rw [hI.sz]; decide
 have t149:=hI.a5 (hdep 5 d5)
 have hx:=hX w hI.be
 show Oper.wp _ _ a w K _
 go_simp
 exact hK _ _ { sz:=(by simp [Act.put,hI.sz]),df:=hI.df,i1:=(by rw [put_at a 150 1 _ hs,if_neg (by decide)]; exact hI.i1),i3:=(by rw [put_at a 150 3 _ hs,if_neg (by decide)]; exact hI.i3),fr:=(fun t ht=>by rw [put_at a 150 t _ hs,if_neg (fun e=>by subst e; revert ht; decide)]; exact hI.fr t ht),be:=(hI.be),a0:=(fun h=>by rw [put_at a 150 144 _ hs,if_neg (by decide)]; exact hI.a0 h),a1:=(fun h=>by rw [put_at a 150 145 _ hs,if_neg (by decide)]; exact hI.a1 h),a2:=(fun h=>by rw [put_at a 150 146 _ hs,if_neg (by decide)]; exact hI.a2 h),a3:=(fun h=>by rw [put_at a 150 147 _ hs,if_neg (by decide)]; exact hI.a3 h),a4:=(fun h=>by rw [put_at a 150 148 _ hs,if_neg (by decide)]; exact hI.a4 h),a5:=(fun h=>by rw [put_at a 150 149 _ hs,if_neg (by decide)]; exact hI.a5 h),a6:=(fun _=>by rw [put_at a 150 150 _ hs,if_pos rfl]),a10:=(fun h=>by rw [put_at a 150 153 _ hs,if_neg (by decide)]; exact hI.a10 h),a13:=(fun h=>by rw [put_at a 150 15 _ hs,if_neg (by decide)]; exact hI.a13 h),a11:=(fun h=>by rw [put_at a 150 14 _ hs,if_neg (by decide)]; exact hI.a11 h),cl:=(by obtain ⟨bs,cs,ad,cd,g7,g8,g9,g12⟩:=hI.cl; exact ⟨bs,cs,ad,cd,fun h=>by rw [put_at a 150 151 _ hs,if_neg (by decide)]; exact g7 h,fun h=>by rw [put_at a 150 143 _ hs,if_neg (by decide)]; exact g8 h,fun h=>by rw [put_at a 150 152 _ hs,if_neg (by decide)]; exact g9 h,fun h q hq=>by rw [put_at a 150 14 _ hs,if_neg (by decide)] at hq; exact g12 h q hq⟩) }
set_option maxRecDepth 100000 in
theorem zf_7 (d0:(af.toList.any fun e=>e.on == 0 && Region.binds .any e)=true) (d2:(af.toList.any fun e=>e.on == 2 && Region.binds .any e)=true) (d6:(af.toList.any fun e=>e.on == 6 && Region.binds .any e)=true) (e8:dep ops 8 7=true) (e9:dep ops 9 8=true) (e12:dep ops 12 9=true) (hR : ∀ w,Below W.heap.size W w→Calls Tryz.prog 16 #[.pointer (some ⟨f1,0,none⟩),.int .u64 (n:Int),.int .u64 (i:Int)] w fun e w' => ∃ bs cs ad cd,e = .returned (.tuple #[.agg #[.int .i64 1,.int .i64 k,.int .u64 0,.int .u64 (n:Int),.slice (some ⟨bs,0,none⟩) 1 cs,.slice ad D.length cd],.int .i64 0])∧Cv.Own w' w.heap.size (.slice (some ⟨bs,0,none⟩) 1 cs) [i]∧OwnS w' w.heap.size (.slice ad D.length cd) D∧Below w.heap.size w w'):StepJ Tryz.prog Q ops (Zf A0 W q1 f1 k n i sb so ns sc D) 7 { dst:=some 151,op:=Op.call { callee:=Callee.value (Operand.func 16),args:=#[Operand.tmp 144,Operand.tmp 146,Operand.tmp 150],argTypes:=#[28,23,23] },type:=ty,pos:=ps,after:=af,guard:=none } := by
 intro L a w K hI hj hcl hdep hK
 have hs:151<a.tmps.size:=by rw [hI.sz]; decide
 have t144:=hI.a0 (hdep 0 d0)
 have t146:=hI.a2 (hdep 2 d2)
 have t150:=hI.a6 (hdep 6 d6)
 show Oper.wp _ _ a w K _
 go_simp
 refine (hR w hI.be).mono ?_
 rintro e w' ⟨bs,cs,ad,cd,rfl,p1,p2,hb⟩
 have o1:=World.ownsRow.mono p1 hI.be.size
 have o2:=own_mono p2 hI.be.size
 exact hK _ _ { sz:=(by simp [Act.put,hI.sz]),df:=hI.df,i1:=(by rw [put_at a 151 1 _ hs,if_neg (by decide)]; exact hI.i1),i3:=(by rw [put_at a 151 3 _ hs,if_neg (by decide)]; exact hI.i3),fr:=(fun t ht=>by rw [put_at a 151 t _ hs,if_neg (fun e=>by subst e; revert ht; decide)]; exact hI.fr t ht),be:=(bnext hI.be hb),a0:=(fun h=>by rw [put_at a 151 144 _ hs,if_neg (by decide)]; exact hI.a0 h),a1:=(fun h=>by rw [put_at a 151 145 _ hs,if_neg (by decide)]; exact hI.a1 h),a2:=(fun h=>by rw [put_at a 151 146 _ hs,if_neg (by decide)]; exact hI.a2 h),a3:=(fun h=>by rw [put_at a 151 147 _ hs,if_neg (by decide)]; exact hI.a3 h),a4:=(fun h=>by rw [put_at a 151 148 _ hs,if_neg (by decide)]; exact hI.a4 h),a5:=(fun h=>by rw [put_at a 151 149 _ hs,if_neg (by decide)]; exact hI.a5 h),a6:=(fun h=>by rw [put_at a 151 150 _ hs,if_neg (by decide)]; exact hI.a6 h),a10:=(fun h=>by rw [put_at a 151 153 _ hs,if_neg (by decide)]; exact hI.a10 h),a13:=(fun h=>by rw [put_at a 151 15 _ hs,if_neg (by decide)]; exact hI.a13 h),a11:=(fun h=>by rw [put_at a 151 14 _ hs,if_neg (by decide)]; obtain ⟨q,g1,g2,g3,v0,v1,v2,v3,v4,v5,g4⟩:=hI.a11 h; exact ⟨q,g1,g2,Nat.lt_of_lt_of_le g3 hb.size,v0,v1,v2,v3,v4,v5,g4.next hb⟩),cl:=(by exact ⟨bs,cs,ad,cd,fun _=>⟨by rw [put_at a 151 151 _ hs,if_pos rfl],o1,o2⟩,(fun h=>by rw [hcl 8 7 h e8] at hj; cases hj),(fun h=>by rw [hcl 8 7 (hcl 9 8 h e9) e8] at hj; cases hj),(fun h=>by rw [hcl 8 7 (hcl 9 8 (hcl 12 9 h e12) e9) e8] at hj; cases hj)⟩) }
set_option maxRecDepth 100000 in
theorem zf_8 (d7:(af.toList.any fun e=>e.on == 7 && Region.binds .any e)=true):StepJ Tryz.prog Q ops (Zf A0 W q1 f1 k n i sb so ns sc D) 8 { dst:=some 143,op:=Op.move (Operand.tmp 151),type:=ty,pos:=ps,after:=af,guard:=none } := by
 intro L a w K hI hj hcl hdep hK
 have hs:143<a.tmps.size:=by rw [hI.sz]; decide
 obtain ⟨bs,cs,ad,cd,g7,g8,g9,g12⟩:=hI.cl
 have t151:=(g7 (hdep 7 d7)).1
 show Oper.wp _ _ a w K _
 go_simp
 exact hK _ _ { sz:=(by simp [Act.put,hI.sz]),df:=hI.df,i1:=(by rw [put_at a 143 1 _ hs,if_neg (by decide)]; exact hI.i1),i3:=(by rw [put_at a 143 3 _ hs,if_neg (by decide)]; exact hI.i3),fr:=(fun t ht=>by rw [put_at a 143 t _ hs,if_neg (fun e=>by subst e; revert ht; decide)]; exact hI.fr t ht),be:=(hI.be),a0:=(fun h=>by rw [put_at a 143 144 _ hs,if_neg (by decide)]; exact hI.a0 h),a1:=(fun h=>by rw [put_at a 143 145 _ hs,if_neg (by decide)]; exact hI.a1 h),a2:=(fun h=>by rw [put_at a 143 146 _ hs,if_neg (by decide)]; exact hI.a2 h),a3:=(fun h=>by rw [put_at a 143 147 _ hs,if_neg (by decide)]; exact hI.a3 h),a4:=(fun h=>by rw [put_at a 143 148 _ hs,if_neg (by decide)]; exact hI.a4 h),a5:=(fun h=>by rw [put_at a 143 149 _ hs,if_neg (by decide)]; exact hI.a5 h),a6:=(fun h=>by rw [put_at a 143 150 _ hs,if_neg (by decide)]; exact hI.a6 h),a10:=(fun h=>by rw [put_at a 143 153 _ hs,if_neg (by decide)]; exact hI.a10 h),a13:=(fun h=>by rw [put_at a 143 15 _ hs,if_neg (by decide)]; exact hI.a13 h),a11:=(fun h=>by rw [put_at a 143 14 _ hs,if_neg (by decide)]; exact hI.a11 h),cl:=(⟨bs,cs,ad,cd,fun h=>by rw [put_at a 143 151 _ hs,if_neg (by decide)]; exact g7 h,fun _=>by rw [put_at a 143 143 _ hs,if_pos rfl],fun h=>by rw [put_at a 143 152 _ hs,if_neg (by decide)]; exact g9 h,fun h q hq=>by rw [put_at a 143 14 _ hs,if_neg (by decide)] at hq; exact g12 h q hq⟩) }
set_option maxRecDepth 100000 in
theorem zf_9 (d8:(af.toList.any fun e=>e.on == 8 && Region.binds .any e)=true):StepJ Tryz.prog Q ops (Zf A0 W q1 f1 k n i sb so ns sc D) 9 { dst:=some 152,op:=Op.extract (Operand.tmp 143) 0,type:=ty,pos:=ps,after:=af,guard:=none } := by
 intro L a w K hI hj hcl hdep hK
 have hs:152<a.tmps.size:=by rw [hI.sz]; decide
 obtain ⟨bs,cs,ad,cd,g7,g8,g9,g12⟩:=hI.cl
 have t143:=g8 (hdep 8 d8)
 show Oper.wp _ _ a w K _
 go_simp
 exact hK _ _ { sz:=(by simp [Act.put,hI.sz]),df:=hI.df,i1:=(by rw [put_at a 152 1 _ hs,if_neg (by decide)]; exact hI.i1),i3:=(by rw [put_at a 152 3 _ hs,if_neg (by decide)]; exact hI.i3),fr:=(fun t ht=>by rw [put_at a 152 t _ hs,if_neg (fun e=>by subst e; revert ht; decide)]; exact hI.fr t ht),be:=(hI.be),a0:=(fun h=>by rw [put_at a 152 144 _ hs,if_neg (by decide)]; exact hI.a0 h),a1:=(fun h=>by rw [put_at a 152 145 _ hs,if_neg (by decide)]; exact hI.a1 h),a2:=(fun h=>by rw [put_at a 152 146 _ hs,if_neg (by decide)]; exact hI.a2 h),a3:=(fun h=>by rw [put_at a 152 147 _ hs,if_neg (by decide)]; exact hI.a3 h),a4:=(fun h=>by rw [put_at a 152 148 _ hs,if_neg (by decide)]; exact hI.a4 h),a5:=(fun h=>by rw [put_at a 152 149 _ hs,if_neg (by decide)]; exact hI.a5 h),a6:=(fun h=>by rw [put_at a 152 150 _ hs,if_neg (by decide)]; exact hI.a6 h),a10:=(fun h=>by rw [put_at a 152 153 _ hs,if_neg (by decide)]; exact hI.a10 h),a13:=(fun h=>by rw [put_at a 152 15 _ hs,if_neg (by decide)]; exact hI.a13 h),a11:=(fun h=>by rw [put_at a 152 14 _ hs,if_neg (by decide)]; exact hI.a11 h),cl:=(⟨bs,cs,ad,cd,fun h=>by rw [put_at a 152 151 _ hs,if_neg (by decide)]; exact g7 h,fun h=>by rw [put_at a 152 143 _ hs,if_neg (by decide)]; exact g8 h,fun _=>by rw [put_at a 152 152 _ hs,if_pos rfl],fun h q hq=>by rw [put_at a 152 14 _ hs,if_neg (by decide)] at hq; exact g12 h q hq⟩) }
set_option maxRecDepth 100000 in
theorem zf_10 (d8:(af.toList.any fun e=>e.on == 8 && Region.binds .any e)=true):StepJ Tryz.prog Q ops (Zf A0 W q1 f1 k n i sb so ns sc D) 10 { dst:=some 153,op:=Op.extract (Operand.tmp 143) 1,type:=ty,pos:=ps,after:=af,guard:=none } := by
 intro L a w K hI hj hcl hdep hK
 have hs:153<a.tmps.size:=by rw [hI.sz]; decide
 obtain ⟨bs,cs,ad,cd,g7,g8,g9,g12⟩:=hI.cl
 have t143:=g8 (hdep 8 d8)
 show Oper.wp _ _ a w K _
 go_simp
 exact hK _ _ { sz:=(by simp [Act.put,hI.sz]),df:=hI.df,i1:=(by rw [put_at a 153 1 _ hs,if_neg (by decide)]; exact hI.i1),i3:=(by rw [put_at a 153 3 _ hs,if_neg (by decide)]; exact hI.i3),fr:=(fun t ht=>by rw [put_at a 153 t _ hs,if_neg (fun e=>by subst e; revert ht; decide)]; exact hI.fr t ht),be:=(hI.be),a0:=(fun h=>by rw [put_at a 153 144 _ hs,if_neg (by decide)]; exact hI.a0 h),a1:=(fun h=>by rw [put_at a 153 145 _ hs,if_neg (by decide)]; exact hI.a1 h),a2:=(fun h=>by rw [put_at a 153 146 _ hs,if_neg (by decide)]; exact hI.a2 h),a3:=(fun h=>by rw [put_at a 153 147 _ hs,if_neg (by decide)]; exact hI.a3 h),a4:=(fun h=>by rw [put_at a 153 148 _ hs,if_neg (by decide)]; exact hI.a4 h),a5:=(fun h=>by rw [put_at a 153 149 _ hs,if_neg (by decide)]; exact hI.a5 h),a6:=(fun h=>by rw [put_at a 153 150 _ hs,if_neg (by decide)]; exact hI.a6 h),a10:=(fun _=>by rw [put_at a 153 153 _ hs,if_pos rfl]),a13:=(fun h=>by rw [put_at a 153 15 _ hs,if_neg (by decide)]; exact hI.a13 h),a11:=(fun h=>by rw [put_at a 153 14 _ hs,if_neg (by decide)]; exact hI.a11 h),cl:=(⟨bs,cs,ad,cd,fun h=>by rw [put_at a 153 151 _ hs,if_neg (by decide)]; exact g7 h,fun h=>by rw [put_at a 153 143 _ hs,if_neg (by decide)]; exact g8 h,fun h=>by rw [put_at a 153 152 _ hs,if_neg (by decide)]; exact g9 h,fun h q hq=>by rw [put_at a 153 14 _ hs,if_neg (by decide)] at hq; exact g12 h q hq⟩) }
set_option maxRecDepth 100000 in
theorem zf_11 (e12:dep ops 12 11=true):StepJ Tryz.prog Q ops (Zf A0 W q1 f1 k n i sb so ns sc D) 11 { dst:=some 14,op:=Op.alloc 38,type:=ty,pos:=ps,after:=af,guard:=none } := by
 intro L a w K hI hj hcl hdep hK
 have hs:14<a.tmps.size:=by rw [hI.sz]; decide
 have h8:=not_yet hcl hj e12
 show Oper.wp _ _ a w K _
 go_simp
 exact hK _ _ { sz:=(by simp [Act.put,hI.sz]),df:=hI.df,i1:=(by rw [put_at a 14 1 _ hs,if_neg (by decide)]; exact hI.i1),i3:=(by rw [put_at a 14 3 _ hs,if_neg (by decide)]; exact hI.i3),fr:=(fun t ht=>by rw [put_at a 14 t _ hs,if_neg (fun e=>by subst e; revert ht; decide)]; exact hI.fr t ht),be:=(bal hI.be _),a0:=(fun h=>by rw [put_at a 14 144 _ hs,if_neg (by decide)]; exact hI.a0 h),a1:=(fun h=>by rw [put_at a 14 145 _ hs,if_neg (by decide)]; exact hI.a1 h),a2:=(fun h=>by rw [put_at a 14 146 _ hs,if_neg (by decide)]; exact hI.a2 h),a3:=(fun h=>by rw [put_at a 14 147 _ hs,if_neg (by decide)]; exact hI.a3 h),a4:=(fun h=>by rw [put_at a 14 148 _ hs,if_neg (by decide)]; exact hI.a4 h),a5:=(fun h=>by rw [put_at a 14 149 _ hs,if_neg (by decide)]; exact hI.a5 h),a6:=(fun h=>by rw [put_at a 14 150 _ hs,if_neg (by decide)]; exact hI.a6 h),a10:=(fun h=>by rw [put_at a 14 153 _ hs,if_neg (by decide)]; exact hI.a10 h),a13:=(fun h=>by rw [put_at a 14 15 _ hs,if_neg (by decide)]; exact hI.a13 h),a11:=(fun _=>⟨w.heap.size,by rw [put_at a 14 14 _ hs,if_pos rfl],hI.be.size,by simp,_,_,_,_,_,_,heap_alloc_new w _⟩),cl:=(by obtain ⟨bs,cs,ad,cd,g7,g8,g9,g12⟩:=hI.cl; exact ⟨bs,cs,ad,cd,fun h=>by rw [put_at a 14 151 _ hs,if_neg (by decide)]; obtain ⟨x1,x2,x3⟩:=g7 h; exact ⟨x1,Cv.ownB_next x2 (bal (Below.refl _ _) _),own_al x3 _⟩,fun h=>by rw [put_at a 14 143 _ hs,if_neg (by decide)]; exact g8 h,fun h=>by rw [put_at a 14 152 _ hs,if_neg (by decide)]; exact g9 h,fun h=>by rw [show (if (12:Nat)=11 then true else L 12)=L 12 from rfl,h8] at h; cases h⟩) }
set_option maxHeartbeats 1000000 in
set_option maxRecDepth 100000 in
theorem zf_12 (d9:(af.toList.any fun e=>e.on == 9 && Region.binds .any e)=true) (d11:(af.toList.any fun e=>e.on == 11 && Region.binds .any e)=true):StepJ Tryz.prog Q ops (Zf A0 W q1 f1 k n i sb so ns sc D) 12 { dst:=none,op:=Op.store 38 (Operand.tmp 14) (Operand.tmp 152),type:=ty,pos:=ps,after:=af,guard:=none } := by
 intro L a w K hI hj hcl hdep hK
 obtain ⟨bs,cs,ad,cd,g7,g8,g9,g12⟩:=hI.cl
 have t152:=g9 (hdep 9 d9)
 obtain ⟨q,t14,g2,g3,v0,v1,v2,v3,v4,v5,g4⟩:=hI.a11 (hdep 11 d11)
 obtain ⟨k0,k1,k2,k3,k4,k5⟩:=g4.cells
 have fz:=g4.fz
 have hch:=put6_ch w q (.int .i64 1) (.int .i64 k) (.int .u64 0) (.int .u64 (n:Int)) (.slice (some ⟨bs,0,none⟩) 1 cs) (.slice ad D.length cd)
 have hpt:=g4.put (.int .i64 1) (.int .i64 k) (.int .u64 0) (.int .u64 (n:Int)) (.slice (some ⟨bs,0,none⟩) 1 cs) (.slice ad D.length cd)
 have ho1 : ∀ {e m:Nat} {v:Value} {xs:List Value},w.ownsRow W.heap.size e 1 v m xs→e≠38→(put6 w q (.int .i64 1) (.int .i64 k) (.int .u64 0) (.int .u64 (n:Int)) (.slice (some ⟨bs,0,none⟩) 1 cs) (.slice ad D.length cd)).ownsRow W.heap.size e 1 v m xs:=fun {e m v xs} ho h1=>keep_row ho fun g hg _=>hch.block g (own_ne6 ho g4 h1 g hg)
 have hc12 : ∀ q2,a.tmps.getD 14 undef = .pointer (some ⟨q2,0,none⟩)→q2=q:=fun q2 hq=>by have h:=t14.symm.trans hq; simp only [Value.pointer.injEq,Option.some.injEq,Addr.mk.injEq] at h; exact h.1.symm
 unfold put6 at hch hpt ho1
 show Oper.wp _ _ a w K _
 go_simp
 refine hK undef _ ?_
 rw [show a.put none undef=a from rfl]
 exact { sz:=hI.sz,df:=hI.df,i1:=hI.i1,i3:=hI.i3,fr:=hI.fr,be:=(hI.be.trans (hch.below (by rintro b rfl; exact g2))),a0:=(fun h=>by exact hI.a0 h),a1:=(fun h=>by exact hI.a1 h),a2:=(fun h=>by exact hI.a2 h),a3:=(fun h=>by exact hI.a3 h),a4:=(fun h=>by exact hI.a4 h),a5:=(fun h=>by exact hI.a5 h),a6:=(fun h=>by exact hI.a6 h),a10:=(fun h=>by exact hI.a10 h),a13:=(fun h=>by exact hI.a13 h),a11:=(fun _=>⟨q,t14,g2,by rw [hch.size]; exact g3,_,_,_,_,_,_,hpt⟩),cl:=(⟨bs,cs,ad,cd,fun h=>⟨(g7 h).1,ho1 (g7 h).2.1 (by decide),ho1 (g7 h).2.2 (by decide)⟩,g8,g9,fun _ q2 hq=>by have e:=hc12 q2 hq; subst e; exact hpt⟩) }
set_option maxRecDepth 100000 in
theorem zf_13 (d10:(af.toList.any fun e=>e.on == 10 && Region.binds .any e)=true):StepJ Tryz.prog Q ops (Zf A0 W q1 f1 k n i sb so ns sc D) 13 { dst:=some 15,op:=Op.assign (Operand.tmp 153),type:=ty,pos:=ps,after:=af,guard:=none } := by
 intro L a w K hI hj hcl hdep hK
 have hs:15<a.tmps.size:=by rw [hI.sz]; decide
 have t153:=hI.a10 (hdep 10 d10)
 show Oper.wp _ _ a w K _
 go_simp
 exact hK _ _ { sz:=(by simp [Act.put,hI.sz]),df:=hI.df,i1:=(by rw [put_at a 15 1 _ hs,if_neg (by decide)]; exact hI.i1),i3:=(by rw [put_at a 15 3 _ hs,if_neg (by decide)]; exact hI.i3),fr:=(fun t ht=>by rw [put_at a 15 t _ hs,if_neg (fun e=>by subst e; revert ht; decide)]; exact hI.fr t ht),be:=(hI.be),a0:=(fun h=>by rw [put_at a 15 144 _ hs,if_neg (by decide)]; exact hI.a0 h),a1:=(fun h=>by rw [put_at a 15 145 _ hs,if_neg (by decide)]; exact hI.a1 h),a2:=(fun h=>by rw [put_at a 15 146 _ hs,if_neg (by decide)]; exact hI.a2 h),a3:=(fun h=>by rw [put_at a 15 147 _ hs,if_neg (by decide)]; exact hI.a3 h),a4:=(fun h=>by rw [put_at a 15 148 _ hs,if_neg (by decide)]; exact hI.a4 h),a5:=(fun h=>by rw [put_at a 15 149 _ hs,if_neg (by decide)]; exact hI.a5 h),a6:=(fun h=>by rw [put_at a 15 150 _ hs,if_neg (by decide)]; exact hI.a6 h),a10:=(fun h=>by rw [put_at a 15 153 _ hs,if_neg (by decide)]; exact hI.a10 h),a13:=(fun _=>by rw [put_at a 15 15 _ hs,if_pos rfl]),a11:=(fun h=>by rw [put_at a 15 14 _ hs,if_neg (by decide)]; exact hI.a11 h),cl:=(by obtain ⟨bs,cs,ad,cd,g7,g8,g9,g12⟩:=hI.cl; exact ⟨bs,cs,ad,cd,fun h=>by rw [put_at a 15 151 _ hs,if_neg (by decide)]; exact g7 h,fun h=>by rw [put_at a 15 143 _ hs,if_neg (by decide)]; exact g8 h,fun h=>by rw [put_at a 15 152 _ hs,if_neg (by decide)]; exact g9 h,fun h q hq=>by rw [put_at a 15 14 _ hs,if_neg (by decide)] at hq; exact g12 h q hq⟩) }
end
end Go.Proofs.YtipcenbndhnnhaaGreatDoor
