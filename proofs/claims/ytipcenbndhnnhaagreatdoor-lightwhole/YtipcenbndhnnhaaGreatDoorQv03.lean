/- Own work. -/
import Derived.Test.YtipcenbndhnnhaaGreatDoorQd44
import Derived.Test.YtipcenbndhnnhaaGreatDoorQd46
import Derived.Defers
import Derived.Recover
import Derived.Test.YtipcenbndhnnhaaGreatDoorProg
import Derived.WalkKit
import Derived.WalkSpells
import Derived.Outline
import Derived.KernelRfl
import Derived.Deep.LoopGhost
import Derived.Deep.DrawnRows
import Derived.Deep.Light
import Derived.Deep.MidRow
import Derived.Deep.Onto
import Derived.Deep.RegionWith
import Derived.BigQuiet
import Derived.Laws.Bits64b
import Derived.Handy
import Derived.ArgAppend
import Derived.Laws.AppendOwnNone
import Derived.Test.YtipcenbndhnnhaaGreatDoorRows
import Derived.Laws.IdiomStrings
import Derived.Deep.DeepMakePanics
import Derived.OwnWalk
import Derived.WalkLawsBesides
import Derived.Below
import Derived.Deep.RegionHeld3
import Derived.Laws.BitsAllLaws
import Derived.Deep.Cut
import Derived.Deep.CutRange
import Derived.Lib.SliceRun
import Derived.Lib.LazyBuf
import Derived.Deep.RegionLaw
import Derived.Lib.BufferOwn
import Derived.Shelf.Strings.OnBuilder
import Derived.Deep.AppendSrc
import Derived.Lib.AppendStr
import Derived.Deep.Upon
import Derived.BigRegion
import Derived.Laws.StructEq
import Derived.Lib.BufferMore
import Derived.Test.YtipcenbndhnnhaaGreatDoorQv00
namespace Go.Proofs.YtipcenbndhnnhaaGreatDoor
open Go.RowKit
attribute [local go_sem ↓] Go.wp_at_zero Go.wp_at_succ
structure Bkf (A0:Act) (W:World) (B q1:Nat) (va:Option Addr) (vm vc:Nat) (l:List (Nat×ByteArray)) (i sb so ns sc lb lo nl lc x:Nat) (y:ByteArray) (L:Nat→Bool) (a:Act) (w:World):Prop where
 sz:a.tmps.size=242
 df:a.defers=[]
 i1:a.tmps.getD 1 undef = .pointer (some ⟨q1,0,none⟩)
 i5:a.tmps.getD 5 undef = .slice (some ⟨lb,lo,none⟩) nl lc
 i11:a.tmps.getD 11 undef = .int .i64 (i:Int)
 b15:L 16=false→a.tmps.getD 10 undef = .slice va vm vc
 fr : ∀ t,([83,84,85,86,87,88,89,90,91,92,93,94,95,96,97,98,99,10]:List Nat).contains t=false→a.tmps.getD t undef=A0.tmps.getD t undef
 b1:L 16=false→Below W.heap.size W w
 a0:L 0=true→a.tmps.getD 83 undef = .slice va vm vc
 a1:L 1=true→a.tmps.getD 84 undef = .pointer (some ⟨q1,4,none⟩)
 a2:L 2=true→a.tmps.getD 85 undef = .slice (some ⟨sb,so,none⟩) ns sc
 a3:L 3=true→a.tmps.getD 86 undef = .int .i64 (i:Int)
 a4:L 4=true→a.tmps.getD 87 undef = .pointer (some ⟨sb,so+i,none⟩)
 a5:L 5=true→a.tmps.getD 88 undef = .int .u64 (x:Int)
 a6:L 6=true→a.tmps.getD 89 undef = .slice (some ⟨lb,lo,none⟩) nl lc
 a7:L 7=true→a.tmps.getD 90 undef = .pointer (some ⟨q1,4,none⟩)
 a8:L 8=true→a.tmps.getD 91 undef = .slice (some ⟨sb,so,none⟩) ns sc
 a9:L 9=true→a.tmps.getD 92 undef = .int .i64 (i:Int)
 a10:L 10=true→a.tmps.getD 93 undef = .pointer (some ⟨sb,so+i,none⟩)
 a11:L 11=true→a.tmps.getD 94 undef = .int .u64 (x:Int)
 a12:L 12=true→a.tmps.getD 95 undef = .pointer (some ⟨lb,lo+x,none⟩)
 a13:L 13=true→a.tmps.getD 96 undef = .string y
 a14:L 14=true→a.tmps.getD 97 undef = .agg #[.int .u64 (x:Int),.string y]
 a15:L 15=true→L 16=false → ∃ g,a.tmps.getD 98 undef = .slice (some ⟨g,0,none⟩) 1 1∧Cv.RdC w (.slice (some ⟨g,0,none⟩) 1 1) 1 (cK [(x,y)])
 a16:L 16=true → ∃ va' vm' vc',a.tmps.getD 99 undef = .slice va' vm' vc'∧OwnK w B (.slice va' vm' vc') (l++[(x,y)])∧Below B W w
 a17:L 17=true→a.tmps.getD 10 undef=a.tmps.getD 99 undef
section
variable {A0:Act} {W:World} {B q1:Nat} {va:Option Addr} {vm vc:Nat} {l:List (Nat×ByteArray)} {i sb so ns sc lb lo nl lc x:Nat} {y:ByteArray} {Q:Exit→Act→World→Prop} {ops:List Oper} {ty:TypeId} {ps:String} {af:Array Edge}
set_option maxRecDepth 100000 in
theorem bkf_0 (e0:dep ops 16 0=true):StepJ Tryz.prog Q ops (Bkf A0 W B q1 va vm vc l i sb so ns sc lb lo nl lc x y) 0 { dst:=some 83,op:=Op.move (Operand.tmp 10),type:=ty,pos:=ps,after:=af,guard:=none } := by
 intro L a w K hI hj hcl hdep hK
 have hs:83<a.tmps.size:=by rw [hI.sz]; decide
 have h8:L 16=false:=by
  cases h:L 16 with
  | false=>rfl
  | true =>
   have g0:=hcl 16 0 h e0
   rw [g0] at hj; cases hj
 have hB:=hI.b1 h8
 have t10:=hI.b15 h8
 show Oper.wp _ _ a w K _
 go_simp
 exact hK _ _ { sz:=(by simp [Act.put,hI.sz]),df:=hI.df,i1:=(by rw [put_at a 83 1 _ hs,if_neg (by decide)]; exact hI.i1),i5:=(by rw [put_at a 83 5 _ hs,if_neg (by decide)]; exact hI.i5),i11:=(by rw [put_at a 83 11 _ hs,if_neg (by decide)]; exact hI.i11),fr:=(fun t ht=>by rw [put_at a 83 t _ hs,if_neg (fun e=>by subst e; revert ht; decide)]; exact hI.fr t ht),b15:=(fun h=>by rw [put_at a 83 10 _ hs,if_neg (by decide)]; exact hI.b15 h),b1:=(fun h=>hI.b1 h),a0:=(fun _=>by rw [put_at a 83 83 _ hs,if_pos rfl]),a1:=(fun h=>by rw [put_at a 83 84 _ hs,if_neg (by decide)]; exact hI.a1 h),a2:=(fun h=>by rw [put_at a 83 85 _ hs,if_neg (by decide)]; exact hI.a2 h),a3:=(fun h=>by rw [put_at a 83 86 _ hs,if_neg (by decide)]; exact hI.a3 h),a4:=(fun h=>by rw [put_at a 83 87 _ hs,if_neg (by decide)]; exact hI.a4 h),a5:=(fun h=>by rw [put_at a 83 88 _ hs,if_neg (by decide)]; exact hI.a5 h),a6:=(fun h=>by rw [put_at a 83 89 _ hs,if_neg (by decide)]; exact hI.a6 h),a7:=(fun h=>by rw [put_at a 83 90 _ hs,if_neg (by decide)]; exact hI.a7 h),a8:=(fun h=>by rw [put_at a 83 91 _ hs,if_neg (by decide)]; exact hI.a8 h),a9:=(fun h=>by rw [put_at a 83 92 _ hs,if_neg (by decide)]; exact hI.a9 h),a10:=(fun h=>by rw [put_at a 83 93 _ hs,if_neg (by decide)]; exact hI.a10 h),a11:=(fun h=>by rw [put_at a 83 94 _ hs,if_neg (by decide)]; exact hI.a11 h),a12:=(fun h=>by rw [put_at a 83 95 _ hs,if_neg (by decide)]; exact hI.a12 h),a13:=(fun h=>by rw [put_at a 83 96 _ hs,if_neg (by decide)]; exact hI.a13 h),a14:=(fun h=>by rw [put_at a 83 97 _ hs,if_neg (by decide)]; exact hI.a14 h),a15:=(fun h h3=>by rw [put_at a 83 98 _ hs,if_neg (by decide)]; exact hI.a15 h h3),a16:=(fun h=>by rw [put_at a 83 99 _ hs,if_neg (by decide)]; exact hI.a16 h),a17:=(fun h=>by rw [put_at a 83 10 _ hs,if_neg (by decide),put_at a 83 99 _ hs,if_neg (by decide)]; exact hI.a17 h) }
set_option maxRecDepth 100000 in
theorem bkf_1  : StepJ Tryz.prog Q ops (Bkf A0 W B q1 va vm vc l i sb so ns sc lb lo nl lc x y) 1 { dst:=some 84,op:=Op.fieldAddr 26 (Operand.tmp 1) 4,type:=ty,pos:=ps,after:=af,guard:=none } := by
 intro L a w K hI hj hcl hdep hK
 have hs:84<a.tmps.size:=by rw [hI.sz]; decide
 have t1:=hI.i1
 show Oper.wp _ _ a w K _
 go_simp
 exact hK _ _ { sz:=(by simp [Act.put,hI.sz]),df:=hI.df,i1:=(by rw [put_at a 84 1 _ hs,if_neg (by decide)]; exact hI.i1),i5:=(by rw [put_at a 84 5 _ hs,if_neg (by decide)]; exact hI.i5),i11:=(by rw [put_at a 84 11 _ hs,if_neg (by decide)]; exact hI.i11),fr:=(fun t ht=>by rw [put_at a 84 t _ hs,if_neg (fun e=>by subst e; revert ht; decide)]; exact hI.fr t ht),b15:=(fun h=>by rw [put_at a 84 10 _ hs,if_neg (by decide)]; exact hI.b15 h),b1:=(fun h=>hI.b1 h),a0:=(fun h=>by rw [put_at a 84 83 _ hs,if_neg (by decide)]; exact hI.a0 h),a1:=(fun _=>by rw [put_at a 84 84 _ hs,if_pos rfl]),a2:=(fun h=>by rw [put_at a 84 85 _ hs,if_neg (by decide)]; exact hI.a2 h),a3:=(fun h=>by rw [put_at a 84 86 _ hs,if_neg (by decide)]; exact hI.a3 h),a4:=(fun h=>by rw [put_at a 84 87 _ hs,if_neg (by decide)]; exact hI.a4 h),a5:=(fun h=>by rw [put_at a 84 88 _ hs,if_neg (by decide)]; exact hI.a5 h),a6:=(fun h=>by rw [put_at a 84 89 _ hs,if_neg (by decide)]; exact hI.a6 h),a7:=(fun h=>by rw [put_at a 84 90 _ hs,if_neg (by decide)]; exact hI.a7 h),a8:=(fun h=>by rw [put_at a 84 91 _ hs,if_neg (by decide)]; exact hI.a8 h),a9:=(fun h=>by rw [put_at a 84 92 _ hs,if_neg (by decide)]; exact hI.a9 h),a10:=(fun h=>by rw [put_at a 84 93 _ hs,if_neg (by decide)]; exact hI.a10 h),a11:=(fun h=>by rw [put_at a 84 94 _ hs,if_neg (by decide)]; exact hI.a11 h),a12:=(fun h=>by rw [put_at a 84 95 _ hs,if_neg (by decide)]; exact hI.a12 h),a13:=(fun h=>by rw [put_at a 84 96 _ hs,if_neg (by decide)]; exact hI.a13 h),a14:=(fun h=>by rw [put_at a 84 97 _ hs,if_neg (by decide)]; exact hI.a14 h),a15:=(fun h h3=>by rw [put_at a 84 98 _ hs,if_neg (by decide)]; exact hI.a15 h h3),a16:=(fun h=>by rw [put_at a 84 99 _ hs,if_neg (by decide)]; exact hI.a16 h),a17:=(fun h=>by rw [put_at a 84 10 _ hs,if_neg (by decide),put_at a 84 99 _ hs,if_neg (by decide)]; exact hI.a17 h) }
set_option maxRecDepth 100000 in
theorem bkf_2 (d1:(af.toList.any fun e=>e.on == 1 && Region.binds .any e)=true) (e15:dep ops 16 15=true) (e14:dep ops 15 14=true) (e5:dep ops 14 5=true) (e4:dep ops 5 4=true) (e2:dep ops 4 2=true) (hC : ∀ w,Below W.heap.size W w→w.cell? ⟨q1,4,none⟩=some (.slice (some ⟨sb,so,none⟩) ns sc)):StepJ Tryz.prog Q ops (Bkf A0 W B q1 va vm vc l i sb so ns sc lb lo nl lc x y) 2 { dst:=some 85,op:=Op.load 24 (Operand.tmp 84),type:=ty,pos:=ps,after:=af,guard:=none } := by
 intro L a w K hI hj hcl hdep hK
 have hs:85<a.tmps.size:=by rw [hI.sz]; decide
 have h8:L 16=false:=by
  cases h:L 16 with
  | false=>rfl
  | true =>
   have g15:=hcl 16 15 h e15
   have g14:=hcl 15 14 g15 e14
   have g5:=hcl 14 5 g14 e5
   have g4:=hcl 5 4 g5 e4
   have g2:=hcl 4 2 g4 e2
   rw [g2] at hj; cases hj
 have hB:=hI.b1 h8
 have t84:=hI.a1 (hdep 1 d1)
 have k4:=hC w hB
 show Oper.wp _ _ a w K _
 go_simp
 exact hK _ _ { sz:=(by simp [Act.put,hI.sz]),df:=hI.df,i1:=(by rw [put_at a 85 1 _ hs,if_neg (by decide)]; exact hI.i1),i5:=(by rw [put_at a 85 5 _ hs,if_neg (by decide)]; exact hI.i5),i11:=(by rw [put_at a 85 11 _ hs,if_neg (by decide)]; exact hI.i11),fr:=(fun t ht=>by rw [put_at a 85 t _ hs,if_neg (fun e=>by subst e; revert ht; decide)]; exact hI.fr t ht),b15:=(fun h=>by rw [put_at a 85 10 _ hs,if_neg (by decide)]; exact hI.b15 h),b1:=(fun h=>hI.b1 h),a0:=(fun h=>by rw [put_at a 85 83 _ hs,if_neg (by decide)]; exact hI.a0 h),a1:=(fun h=>by rw [put_at a 85 84 _ hs,if_neg (by decide)]; exact hI.a1 h),a2:=(fun _=>by rw [put_at a 85 85 _ hs,if_pos rfl]),a3:=(fun h=>by rw [put_at a 85 86 _ hs,if_neg (by decide)]; exact hI.a3 h),a4:=(fun h=>by rw [put_at a 85 87 _ hs,if_neg (by decide)]; exact hI.a4 h),a5:=(fun h=>by rw [put_at a 85 88 _ hs,if_neg (by decide)]; exact hI.a5 h),a6:=(fun h=>by rw [put_at a 85 89 _ hs,if_neg (by decide)]; exact hI.a6 h),a7:=(fun h=>by rw [put_at a 85 90 _ hs,if_neg (by decide)]; exact hI.a7 h),a8:=(fun h=>by rw [put_at a 85 91 _ hs,if_neg (by decide)]; exact hI.a8 h),a9:=(fun h=>by rw [put_at a 85 92 _ hs,if_neg (by decide)]; exact hI.a9 h),a10:=(fun h=>by rw [put_at a 85 93 _ hs,if_neg (by decide)]; exact hI.a10 h),a11:=(fun h=>by rw [put_at a 85 94 _ hs,if_neg (by decide)]; exact hI.a11 h),a12:=(fun h=>by rw [put_at a 85 95 _ hs,if_neg (by decide)]; exact hI.a12 h),a13:=(fun h=>by rw [put_at a 85 96 _ hs,if_neg (by decide)]; exact hI.a13 h),a14:=(fun h=>by rw [put_at a 85 97 _ hs,if_neg (by decide)]; exact hI.a14 h),a15:=(fun h h3=>by rw [put_at a 85 98 _ hs,if_neg (by decide)]; exact hI.a15 h h3),a16:=(fun h=>by rw [put_at a 85 99 _ hs,if_neg (by decide)]; exact hI.a16 h),a17:=(fun h=>by rw [put_at a 85 10 _ hs,if_neg (by decide),put_at a 85 99 _ hs,if_neg (by decide)]; exact hI.a17 h) }
set_option maxRecDepth 100000 in
theorem bkf_3  : StepJ Tryz.prog Q ops (Bkf A0 W B q1 va vm vc l i sb so ns sc lb lo nl lc x y) 3 { dst:=some 86,op:=Op.move (Operand.tmp 11),type:=ty,pos:=ps,after:=af,guard:=none } := by
 intro L a w K hI hj hcl hdep hK
 have hs:86<a.tmps.size:=by rw [hI.sz]; decide
 have t11:=hI.i11
 show Oper.wp _ _ a w K _
 go_simp
 exact hK _ _ { sz:=(by simp [Act.put,hI.sz]),df:=hI.df,i1:=(by rw [put_at a 86 1 _ hs,if_neg (by decide)]; exact hI.i1),i5:=(by rw [put_at a 86 5 _ hs,if_neg (by decide)]; exact hI.i5),i11:=(by rw [put_at a 86 11 _ hs,if_neg (by decide)]; exact hI.i11),fr:=(fun t ht=>by rw [put_at a 86 t _ hs,if_neg (fun e=>by subst e; revert ht; decide)]; exact hI.fr t ht),b15:=(fun h=>by rw [put_at a 86 10 _ hs,if_neg (by decide)]; exact hI.b15 h),b1:=(fun h=>hI.b1 h),a0:=(fun h=>by rw [put_at a 86 83 _ hs,if_neg (by decide)]; exact hI.a0 h),a1:=(fun h=>by rw [put_at a 86 84 _ hs,if_neg (by decide)]; exact hI.a1 h),a2:=(fun h=>by rw [put_at a 86 85 _ hs,if_neg (by decide)]; exact hI.a2 h),a3:=(fun _=>by rw [put_at a 86 86 _ hs,if_pos rfl]),a4:=(fun h=>by rw [put_at a 86 87 _ hs,if_neg (by decide)]; exact hI.a4 h),a5:=(fun h=>by rw [put_at a 86 88 _ hs,if_neg (by decide)]; exact hI.a5 h),a6:=(fun h=>by rw [put_at a 86 89 _ hs,if_neg (by decide)]; exact hI.a6 h),a7:=(fun h=>by rw [put_at a 86 90 _ hs,if_neg (by decide)]; exact hI.a7 h),a8:=(fun h=>by rw [put_at a 86 91 _ hs,if_neg (by decide)]; exact hI.a8 h),a9:=(fun h=>by rw [put_at a 86 92 _ hs,if_neg (by decide)]; exact hI.a9 h),a10:=(fun h=>by rw [put_at a 86 93 _ hs,if_neg (by decide)]; exact hI.a10 h),a11:=(fun h=>by rw [put_at a 86 94 _ hs,if_neg (by decide)]; exact hI.a11 h),a12:=(fun h=>by rw [put_at a 86 95 _ hs,if_neg (by decide)]; exact hI.a12 h),a13:=(fun h=>by rw [put_at a 86 96 _ hs,if_neg (by decide)]; exact hI.a13 h),a14:=(fun h=>by rw [put_at a 86 97 _ hs,if_neg (by decide)]; exact hI.a14 h),a15:=(fun h h3=>by rw [put_at a 86 98 _ hs,if_neg (by decide)]; exact hI.a15 h h3),a16:=(fun h=>by rw [put_at a 86 99 _ hs,if_neg (by decide)]; exact hI.a16 h),a17:=(fun h=>by rw [put_at a 86 10 _ hs,if_neg (by decide),put_at a 86 99 _ hs,if_neg (by decide)]; exact hI.a17 h) }
set_option maxRecDepth 100000 in
theorem bkf_4 (d2:(af.toList.any fun e=>e.on == 2 && Region.binds .any e)=true) (d3:(af.toList.any fun e=>e.on == 3 && Region.binds .any e)=true) (hi:i<ns):StepJ Tryz.prog Q ops (Bkf A0 W B q1 va vm vc l i sb so ns sc lb lo nl lc x y) 4 { dst:=some 87,op:=Op.indexAddr 24 (Operand.tmp 85) (Operand.tmp 86),type:=ty,pos:=ps,after:=af,guard:=none } := by
 intro L a w K hI hj hcl hdep hK
 have hs:87<a.tmps.size:=by rw [hI.sz]; decide
 have t85:=hI.a2 (hdep 2 d2)
 have t86:=hI.a3 (hdep 3 d3)
 have hz:(i:Int)<(ns:Int):=by omega
 have hz0:(0:Int)≤(i:Int):=Int.natCast_nonneg _
 show Oper.wp _ _ a w K _
 go_simp
 exact hK _ _ { sz:=(by simp [Act.put,hI.sz]),df:=hI.df,i1:=(by rw [put_at a 87 1 _ hs,if_neg (by decide)]; exact hI.i1),i5:=(by rw [put_at a 87 5 _ hs,if_neg (by decide)]; exact hI.i5),i11:=(by rw [put_at a 87 11 _ hs,if_neg (by decide)]; exact hI.i11),fr:=(fun t ht=>by rw [put_at a 87 t _ hs,if_neg (fun e=>by subst e; revert ht; decide)]; exact hI.fr t ht),b15:=(fun h=>by rw [put_at a 87 10 _ hs,if_neg (by decide)]; exact hI.b15 h),b1:=(fun h=>hI.b1 h),a0:=(fun h=>by rw [put_at a 87 83 _ hs,if_neg (by decide)]; exact hI.a0 h),a1:=(fun h=>by rw [put_at a 87 84 _ hs,if_neg (by decide)]; exact hI.a1 h),a2:=(fun h=>by rw [put_at a 87 85 _ hs,if_neg (by decide)]; exact hI.a2 h),a3:=(fun h=>by rw [put_at a 87 86 _ hs,if_neg (by decide)]; exact hI.a3 h),a4:=(fun _=>by rw [put_at a 87 87 _ hs,if_pos rfl]),a5:=(fun h=>by rw [put_at a 87 88 _ hs,if_neg (by decide)]; exact hI.a5 h),a6:=(fun h=>by rw [put_at a 87 89 _ hs,if_neg (by decide)]; exact hI.a6 h),a7:=(fun h=>by rw [put_at a 87 90 _ hs,if_neg (by decide)]; exact hI.a7 h),a8:=(fun h=>by rw [put_at a 87 91 _ hs,if_neg (by decide)]; exact hI.a8 h),a9:=(fun h=>by rw [put_at a 87 92 _ hs,if_neg (by decide)]; exact hI.a9 h),a10:=(fun h=>by rw [put_at a 87 93 _ hs,if_neg (by decide)]; exact hI.a10 h),a11:=(fun h=>by rw [put_at a 87 94 _ hs,if_neg (by decide)]; exact hI.a11 h),a12:=(fun h=>by rw [put_at a 87 95 _ hs,if_neg (by decide)]; exact hI.a12 h),a13:=(fun h=>by rw [put_at a 87 96 _ hs,if_neg (by decide)]; exact hI.a13 h),a14:=(fun h=>by rw [put_at a 87 97 _ hs,if_neg (by decide)]; exact hI.a14 h),a15:=(fun h h3=>by rw [put_at a 87 98 _ hs,if_neg (by decide)]; exact hI.a15 h h3),a16:=(fun h=>by rw [put_at a 87 99 _ hs,if_neg (by decide)]; exact hI.a16 h),a17:=(fun h=>by rw [put_at a 87 10 _ hs,if_neg (by decide),put_at a 87 99 _ hs,if_neg (by decide)]; exact hI.a17 h) }
set_option maxRecDepth 100000 in
theorem bkf_5 (d4:(af.toList.any fun e=>e.on == 4 && Region.binds .any e)=true) (e15:dep ops 16 15=true) (e14:dep ops 15 14=true) (e5:dep ops 14 5=true) (hX : ∀ w,Below W.heap.size W w→w.cell? ⟨sb,so+i,none⟩=some (.int .u64 (x:Int))):StepJ Tryz.prog Q ops (Bkf A0 W B q1 va vm vc l i sb so ns sc lb lo nl lc x y) 5 { dst:=some 88,op:=Op.load 23 (Operand.tmp 87),type:=ty,pos:=ps,after:=af,guard:=none } := by
 intro L a w K hI hj hcl hdep hK
 have hs:88<a.tmps.size:=by rw [hI.sz]; decide
 have h8:L 16=false:=by
  cases h:L 16 with
  | false=>rfl
  | true =>
   have g15:=hcl 16 15 h e15
   have g14:=hcl 15 14 g15 e14
   have g5:=hcl 14 5 g14 e5
   rw [g5] at hj; cases hj
 have hB:=hI.b1 h8
 have t87:=hI.a4 (hdep 4 d4)
 have hx:=hX w hB
 show Oper.wp _ _ a w K _
 go_simp
 exact hK _ _ { sz:=(by simp [Act.put,hI.sz]),df:=hI.df,i1:=(by rw [put_at a 88 1 _ hs,if_neg (by decide)]; exact hI.i1),i5:=(by rw [put_at a 88 5 _ hs,if_neg (by decide)]; exact hI.i5),i11:=(by rw [put_at a 88 11 _ hs,if_neg (by decide)]; exact hI.i11),fr:=(fun t ht=>by rw [put_at a 88 t _ hs,if_neg (fun e=>by subst e; revert ht; decide)]; exact hI.fr t ht),b15:=(fun h=>by rw [put_at a 88 10 _ hs,if_neg (by decide)]; exact hI.b15 h),b1:=(fun h=>hI.b1 h),a0:=(fun h=>by rw [put_at a 88 83 _ hs,if_neg (by decide)]; exact hI.a0 h),a1:=(fun h=>by rw [put_at a 88 84 _ hs,if_neg (by decide)]; exact hI.a1 h),a2:=(fun h=>by rw [put_at a 88 85 _ hs,if_neg (by decide)]; exact hI.a2 h),a3:=(fun h=>by rw [put_at a 88 86 _ hs,if_neg (by decide)]; exact hI.a3 h),a4:=(fun h=>by rw [put_at a 88 87 _ hs,if_neg (by decide)]; exact hI.a4 h),a5:=(fun _=>by rw [put_at a 88 88 _ hs,if_pos rfl]),a6:=(fun h=>by rw [put_at a 88 89 _ hs,if_neg (by decide)]; exact hI.a6 h),a7:=(fun h=>by rw [put_at a 88 90 _ hs,if_neg (by decide)]; exact hI.a7 h),a8:=(fun h=>by rw [put_at a 88 91 _ hs,if_neg (by decide)]; exact hI.a8 h),a9:=(fun h=>by rw [put_at a 88 92 _ hs,if_neg (by decide)]; exact hI.a9 h),a10:=(fun h=>by rw [put_at a 88 93 _ hs,if_neg (by decide)]; exact hI.a10 h),a11:=(fun h=>by rw [put_at a 88 94 _ hs,if_neg (by decide)]; exact hI.a11 h),a12:=(fun h=>by rw [put_at a 88 95 _ hs,if_neg (by decide)]; exact hI.a12 h),a13:=(fun h=>by rw [put_at a 88 96 _ hs,if_neg (by decide)]; exact hI.a13 h),a14:=(fun h=>by rw [put_at a 88 97 _ hs,if_neg (by decide)]; exact hI.a14 h),a15:=(fun h h3=>by rw [put_at a 88 98 _ hs,if_neg (by decide)]; exact hI.a15 h h3),a16:=(fun h=>by rw [put_at a 88 99 _ hs,if_neg (by decide)]; exact hI.a16 h),a17:=(fun h=>by rw [put_at a 88 10 _ hs,if_neg (by decide),put_at a 88 99 _ hs,if_neg (by decide)]; exact hI.a17 h) }
set_option maxRecDepth 100000 in
theorem bkf_6  : StepJ Tryz.prog Q ops (Bkf A0 W B q1 va vm vc l i sb so ns sc lb lo nl lc x y) 6 { dst:=some 89,op:=Op.move (Operand.tmp 5),type:=ty,pos:=ps,after:=af,guard:=none } := by
 intro L a w K hI hj hcl hdep hK
 have hs:89<a.tmps.size:=by rw [hI.sz]; decide
 have t5:=hI.i5
 show Oper.wp _ _ a w K _
 go_simp
 exact hK _ _ { sz:=(by simp [Act.put,hI.sz]),df:=hI.df,i1:=(by rw [put_at a 89 1 _ hs,if_neg (by decide)]; exact hI.i1),i5:=(by rw [put_at a 89 5 _ hs,if_neg (by decide)]; exact hI.i5),i11:=(by rw [put_at a 89 11 _ hs,if_neg (by decide)]; exact hI.i11),fr:=(fun t ht=>by rw [put_at a 89 t _ hs,if_neg (fun e=>by subst e; revert ht; decide)]; exact hI.fr t ht),b15:=(fun h=>by rw [put_at a 89 10 _ hs,if_neg (by decide)]; exact hI.b15 h),b1:=(fun h=>hI.b1 h),a0:=(fun h=>by rw [put_at a 89 83 _ hs,if_neg (by decide)]; exact hI.a0 h),a1:=(fun h=>by rw [put_at a 89 84 _ hs,if_neg (by decide)]; exact hI.a1 h),a2:=(fun h=>by rw [put_at a 89 85 _ hs,if_neg (by decide)]; exact hI.a2 h),a3:=(fun h=>by rw [put_at a 89 86 _ hs,if_neg (by decide)]; exact hI.a3 h),a4:=(fun h=>by rw [put_at a 89 87 _ hs,if_neg (by decide)]; exact hI.a4 h),a5:=(fun h=>by rw [put_at a 89 88 _ hs,if_neg (by decide)]; exact hI.a5 h),a6:=(fun _=>by rw [put_at a 89 89 _ hs,if_pos rfl]),a7:=(fun h=>by rw [put_at a 89 90 _ hs,if_neg (by decide)]; exact hI.a7 h),a8:=(fun h=>by rw [put_at a 89 91 _ hs,if_neg (by decide)]; exact hI.a8 h),a9:=(fun h=>by rw [put_at a 89 92 _ hs,if_neg (by decide)]; exact hI.a9 h),a10:=(fun h=>by rw [put_at a 89 93 _ hs,if_neg (by decide)]; exact hI.a10 h),a11:=(fun h=>by rw [put_at a 89 94 _ hs,if_neg (by decide)]; exact hI.a11 h),a12:=(fun h=>by rw [put_at a 89 95 _ hs,if_neg (by decide)]; exact hI.a12 h),a13:=(fun h=>by rw [put_at a 89 96 _ hs,if_neg (by decide)]; exact hI.a13 h),a14:=(fun h=>by rw [put_at a 89 97 _ hs,if_neg (by decide)]; exact hI.a14 h),a15:=(fun h h3=>by rw [put_at a 89 98 _ hs,if_neg (by decide)]; exact hI.a15 h h3),a16:=(fun h=>by rw [put_at a 89 99 _ hs,if_neg (by decide)]; exact hI.a16 h),a17:=(fun h=>by rw [put_at a 89 10 _ hs,if_neg (by decide),put_at a 89 99 _ hs,if_neg (by decide)]; exact hI.a17 h) }
set_option maxRecDepth 100000 in
theorem bkf_7  : StepJ Tryz.prog Q ops (Bkf A0 W B q1 va vm vc l i sb so ns sc lb lo nl lc x y) 7 { dst:=some 90,op:=Op.fieldAddr 26 (Operand.tmp 1) 4,type:=ty,pos:=ps,after:=af,guard:=none } := by
 intro L a w K hI hj hcl hdep hK
 have hs:90<a.tmps.size:=by rw [hI.sz]; decide
 have t1:=hI.i1
 show Oper.wp _ _ a w K _
 go_simp
 exact hK _ _ { sz:=(by simp [Act.put,hI.sz]),df:=hI.df,i1:=(by rw [put_at a 90 1 _ hs,if_neg (by decide)]; exact hI.i1),i5:=(by rw [put_at a 90 5 _ hs,if_neg (by decide)]; exact hI.i5),i11:=(by rw [put_at a 90 11 _ hs,if_neg (by decide)]; exact hI.i11),fr:=(fun t ht=>by rw [put_at a 90 t _ hs,if_neg (fun e=>by subst e; revert ht; decide)]; exact hI.fr t ht),b15:=(fun h=>by rw [put_at a 90 10 _ hs,if_neg (by decide)]; exact hI.b15 h),b1:=(fun h=>hI.b1 h),a0:=(fun h=>by rw [put_at a 90 83 _ hs,if_neg (by decide)]; exact hI.a0 h),a1:=(fun h=>by rw [put_at a 90 84 _ hs,if_neg (by decide)]; exact hI.a1 h),a2:=(fun h=>by rw [put_at a 90 85 _ hs,if_neg (by decide)]; exact hI.a2 h),a3:=(fun h=>by rw [put_at a 90 86 _ hs,if_neg (by decide)]; exact hI.a3 h),a4:=(fun h=>by rw [put_at a 90 87 _ hs,if_neg (by decide)]; exact hI.a4 h),a5:=(fun h=>by rw [put_at a 90 88 _ hs,if_neg (by decide)]; exact hI.a5 h),a6:=(fun h=>by rw [put_at a 90 89 _ hs,if_neg (by decide)]; exact hI.a6 h),a7:=(fun _=>by rw [put_at a 90 90 _ hs,if_pos rfl]),a8:=(fun h=>by rw [put_at a 90 91 _ hs,if_neg (by decide)]; exact hI.a8 h),a9:=(fun h=>by rw [put_at a 90 92 _ hs,if_neg (by decide)]; exact hI.a9 h),a10:=(fun h=>by rw [put_at a 90 93 _ hs,if_neg (by decide)]; exact hI.a10 h),a11:=(fun h=>by rw [put_at a 90 94 _ hs,if_neg (by decide)]; exact hI.a11 h),a12:=(fun h=>by rw [put_at a 90 95 _ hs,if_neg (by decide)]; exact hI.a12 h),a13:=(fun h=>by rw [put_at a 90 96 _ hs,if_neg (by decide)]; exact hI.a13 h),a14:=(fun h=>by rw [put_at a 90 97 _ hs,if_neg (by decide)]; exact hI.a14 h),a15:=(fun h h3=>by rw [put_at a 90 98 _ hs,if_neg (by decide)]; exact hI.a15 h h3),a16:=(fun h=>by rw [put_at a 90 99 _ hs,if_neg (by decide)]; exact hI.a16 h),a17:=(fun h=>by rw [put_at a 90 10 _ hs,if_neg (by decide),put_at a 90 99 _ hs,if_neg (by decide)]; exact hI.a17 h) }
set_option maxRecDepth 100000 in
theorem bkf_8 (d7:(af.toList.any fun e=>e.on == 7 && Region.binds .any e)=true) (e15:dep ops 16 15=true) (e14:dep ops 15 14=true) (e13:dep ops 14 13=true) (e12:dep ops 13 12=true) (e11:dep ops 12 11=true) (e10:dep ops 11 10=true) (e8:dep ops 10 8=true) (hC : ∀ w,Below W.heap.size W w→w.cell? ⟨q1,4,none⟩=some (.slice (some ⟨sb,so,none⟩) ns sc)):StepJ Tryz.prog Q ops (Bkf A0 W B q1 va vm vc l i sb so ns sc lb lo nl lc x y) 8 { dst:=some 91,op:=Op.load 24 (Operand.tmp 90),type:=ty,pos:=ps,after:=af,guard:=none } := by
 intro L a w K hI hj hcl hdep hK
 have hs:91<a.tmps.size:=by rw [hI.sz]; decide
 have h8:L 16=false:=by
  cases h:L 16 with
  | false=>rfl
  | true =>
   have g15:=hcl 16 15 h e15
   have g14:=hcl 15 14 g15 e14
   have g13:=hcl 14 13 g14 e13
   have g12:=hcl 13 12 g13 e12
   have g11:=hcl 12 11 g12 e11
   have g10:=hcl 11 10 g11 e10
   have g8:=hcl 10 8 g10 e8
   rw [g8] at hj; cases hj
 have hB:=hI.b1 h8
 have t90:=hI.a7 (hdep 7 d7)
 have k4:=hC w hB
 show Oper.wp _ _ a w K _
 go_simp
 exact hK _ _ { sz:=(by simp [Act.put,hI.sz]),df:=hI.df,i1:=(by rw [put_at a 91 1 _ hs,if_neg (by decide)]; exact hI.i1),i5:=(by rw [put_at a 91 5 _ hs,if_neg (by decide)]; exact hI.i5),i11:=(by rw [put_at a 91 11 _ hs,if_neg (by decide)]; exact hI.i11),fr:=(fun t ht=>by rw [put_at a 91 t _ hs,if_neg (fun e=>by subst e; revert ht; decide)]; exact hI.fr t ht),b15:=(fun h=>by rw [put_at a 91 10 _ hs,if_neg (by decide)]; exact hI.b15 h),b1:=(fun h=>hI.b1 h),a0:=(fun h=>by rw [put_at a 91 83 _ hs,if_neg (by decide)]; exact hI.a0 h),a1:=(fun h=>by rw [put_at a 91 84 _ hs,if_neg (by decide)]; exact hI.a1 h),a2:=(fun h=>by rw [put_at a 91 85 _ hs,if_neg (by decide)]; exact hI.a2 h),a3:=(fun h=>by rw [put_at a 91 86 _ hs,if_neg (by decide)]; exact hI.a3 h),a4:=(fun h=>by rw [put_at a 91 87 _ hs,if_neg (by decide)]; exact hI.a4 h),a5:=(fun h=>by rw [put_at a 91 88 _ hs,if_neg (by decide)]; exact hI.a5 h),a6:=(fun h=>by rw [put_at a 91 89 _ hs,if_neg (by decide)]; exact hI.a6 h),a7:=(fun h=>by rw [put_at a 91 90 _ hs,if_neg (by decide)]; exact hI.a7 h),a8:=(fun _=>by rw [put_at a 91 91 _ hs,if_pos rfl]),a9:=(fun h=>by rw [put_at a 91 92 _ hs,if_neg (by decide)]; exact hI.a9 h),a10:=(fun h=>by rw [put_at a 91 93 _ hs,if_neg (by decide)]; exact hI.a10 h),a11:=(fun h=>by rw [put_at a 91 94 _ hs,if_neg (by decide)]; exact hI.a11 h),a12:=(fun h=>by rw [put_at a 91 95 _ hs,if_neg (by decide)]; exact hI.a12 h),a13:=(fun h=>by rw [put_at a 91 96 _ hs,if_neg (by decide)]; exact hI.a13 h),a14:=(fun h=>by rw [put_at a 91 97 _ hs,if_neg (by decide)]; exact hI.a14 h),a15:=(fun h h3=>by rw [put_at a 91 98 _ hs,if_neg (by decide)]; exact hI.a15 h h3),a16:=(fun h=>by rw [put_at a 91 99 _ hs,if_neg (by decide)]; exact hI.a16 h),a17:=(fun h=>by rw [put_at a 91 10 _ hs,if_neg (by decide),put_at a 91 99 _ hs,if_neg (by decide)]; exact hI.a17 h) }
set_option maxRecDepth 100000 in
theorem bkf_9  : StepJ Tryz.prog Q ops (Bkf A0 W B q1 va vm vc l i sb so ns sc lb lo nl lc x y) 9 { dst:=some 92,op:=Op.move (Operand.tmp 11),type:=ty,pos:=ps,after:=af,guard:=none } := by
 intro L a w K hI hj hcl hdep hK
 have hs:92<a.tmps.size:=by rw [hI.sz]; decide
 have t11:=hI.i11
 show Oper.wp _ _ a w K _
 go_simp
 exact hK _ _ { sz:=(by simp [Act.put,hI.sz]),df:=hI.df,i1:=(by rw [put_at a 92 1 _ hs,if_neg (by decide)]; exact hI.i1),i5:=(by rw [put_at a 92 5 _ hs,if_neg (by decide)]; exact hI.i5),i11:=(by rw [put_at a 92 11 _ hs,if_neg (by decide)]; exact hI.i11),fr:=(fun t ht=>by rw [put_at a 92 t _ hs,if_neg (fun e=>by subst e; revert ht; decide)]; exact hI.fr t ht),b15:=(fun h=>by rw [put_at a 92 10 _ hs,if_neg (by decide)]; exact hI.b15 h),b1:=(fun h=>hI.b1 h),a0:=(fun h=>by rw [put_at a 92 83 _ hs,if_neg (by decide)]; exact hI.a0 h),a1:=(fun h=>by rw [put_at a 92 84 _ hs,if_neg (by decide)]; exact hI.a1 h),a2:=(fun h=>by rw [put_at a 92 85 _ hs,if_neg (by decide)]; exact hI.a2 h),a3:=(fun h=>by rw [put_at a 92 86 _ hs,if_neg (by decide)]; exact hI.a3 h),a4:=(fun h=>by rw [put_at a 92 87 _ hs,if_neg (by decide)]; exact hI.a4 h),a5:=(fun h=>by rw [put_at a 92 88 _ hs,if_neg (by decide)]; exact hI.a5 h),a6:=(fun h=>by rw [put_at a 92 89 _ hs,if_neg (by decide)]; exact hI.a6 h),a7:=(fun h=>by rw [put_at a 92 90 _ hs,if_neg (by decide)]; exact hI.a7 h),a8:=(fun h=>by rw [put_at a 92 91 _ hs,if_neg (by decide)]; exact hI.a8 h),a9:=(fun _=>by rw [put_at a 92 92 _ hs,if_pos rfl]),a10:=(fun h=>by rw [put_at a 92 93 _ hs,if_neg (by decide)]; exact hI.a10 h),a11:=(fun h=>by rw [put_at a 92 94 _ hs,if_neg (by decide)]; exact hI.a11 h),a12:=(fun h=>by rw [put_at a 92 95 _ hs,if_neg (by decide)]; exact hI.a12 h),a13:=(fun h=>by rw [put_at a 92 96 _ hs,if_neg (by decide)]; exact hI.a13 h),a14:=(fun h=>by rw [put_at a 92 97 _ hs,if_neg (by decide)]; exact hI.a14 h),a15:=(fun h h3=>by rw [put_at a 92 98 _ hs,if_neg (by decide)]; exact hI.a15 h h3),a16:=(fun h=>by rw [put_at a 92 99 _ hs,if_neg (by decide)]; exact hI.a16 h),a17:=(fun h=>by rw [put_at a 92 10 _ hs,if_neg (by decide),put_at a 92 99 _ hs,if_neg (by decide)]; exact hI.a17 h) }
set_option maxRecDepth 100000 in
theorem bkf_10 (d8:(af.toList.any fun e=>e.on == 8 && Region.binds .any e)=true) (d9:(af.toList.any fun e=>e.on == 9 && Region.binds .any e)=true) (hi:i<ns):StepJ Tryz.prog Q ops (Bkf A0 W B q1 va vm vc l i sb so ns sc lb lo nl lc x y) 10 { dst:=some 93,op:=Op.indexAddr 24 (Operand.tmp 91) (Operand.tmp 92),type:=ty,pos:=ps,after:=af,guard:=none } := by
 intro L a w K hI hj hcl hdep hK
 have hs:93<a.tmps.size:=by rw [hI.sz]; decide
 have t91:=hI.a8 (hdep 8 d8)
 have t92:=hI.a9 (hdep 9 d9)
 have hz:(i:Int)<(ns:Int):=by omega
 have hz0:(0:Int)≤(i:Int):=Int.natCast_nonneg _
 show Oper.wp _ _ a w K _
 go_simp
 exact hK _ _ { sz:=(by simp [Act.put,hI.sz]),df:=hI.df,i1:=(by rw [put_at a 93 1 _ hs,if_neg (by decide)]; exact hI.i1),i5:=(by rw [put_at a 93 5 _ hs,if_neg (by decide)]; exact hI.i5),i11:=(by rw [put_at a 93 11 _ hs,if_neg (by decide)]; exact hI.i11),fr:=(fun t ht=>by rw [put_at a 93 t _ hs,if_neg (fun e=>by subst e; revert ht; decide)]; exact hI.fr t ht),b15:=(fun h=>by rw [put_at a 93 10 _ hs,if_neg (by decide)]; exact hI.b15 h),b1:=(fun h=>hI.b1 h),a0:=(fun h=>by rw [put_at a 93 83 _ hs,if_neg (by decide)]; exact hI.a0 h),a1:=(fun h=>by rw [put_at a 93 84 _ hs,if_neg (by decide)]; exact hI.a1 h),a2:=(fun h=>by rw [put_at a 93 85 _ hs,if_neg (by decide)]; exact hI.a2 h),a3:=(fun h=>by rw [put_at a 93 86 _ hs,if_neg (by decide)]; exact hI.a3 h),a4:=(fun h=>by rw [put_at a 93 87 _ hs,if_neg (by decide)]; exact hI.a4 h),a5:=(fun h=>by rw [put_at a 93 88 _ hs,if_neg (by decide)]; exact hI.a5 h),a6:=(fun h=>by rw [put_at a 93 89 _ hs,if_neg (by decide)]; exact hI.a6 h),a7:=(fun h=>by rw [put_at a 93 90 _ hs,if_neg (by decide)]; exact hI.a7 h),a8:=(fun h=>by rw [put_at a 93 91 _ hs,if_neg (by decide)]; exact hI.a8 h),a9:=(fun h=>by rw [put_at a 93 92 _ hs,if_neg (by decide)]; exact hI.a9 h),a10:=(fun _=>by rw [put_at a 93 93 _ hs,if_pos rfl]),a11:=(fun h=>by rw [put_at a 93 94 _ hs,if_neg (by decide)]; exact hI.a11 h),a12:=(fun h=>by rw [put_at a 93 95 _ hs,if_neg (by decide)]; exact hI.a12 h),a13:=(fun h=>by rw [put_at a 93 96 _ hs,if_neg (by decide)]; exact hI.a13 h),a14:=(fun h=>by rw [put_at a 93 97 _ hs,if_neg (by decide)]; exact hI.a14 h),a15:=(fun h h3=>by rw [put_at a 93 98 _ hs,if_neg (by decide)]; exact hI.a15 h h3),a16:=(fun h=>by rw [put_at a 93 99 _ hs,if_neg (by decide)]; exact hI.a16 h),a17:=(fun h=>by rw [put_at a 93 10 _ hs,if_neg (by decide),put_at a 93 99 _ hs,if_neg (by decide)]; exact hI.a17 h) }
set_option maxRecDepth 100000 in
theorem bkf_11 (d10:(af.toList.any fun e=>e.on == 10 && Region.binds .any e)=true) (e15:dep ops 16 15=true) (e14:dep ops 15 14=true) (e13:dep ops 14 13=true) (e12:dep ops 13 12=true) (e11:dep ops 12 11=true) (hX : ∀ w,Below W.heap.size W w→w.cell? ⟨sb,so+i,none⟩=some (.int .u64 (x:Int))):StepJ Tryz.prog Q ops (Bkf A0 W B q1 va vm vc l i sb so ns sc lb lo nl lc x y) 11 { dst:=some 94,op:=Op.load 23 (Operand.tmp 93),type:=ty,pos:=ps,after:=af,guard:=none } := by
 intro L a w K hI hj hcl hdep hK
 have hs:94<a.tmps.size:=by rw [hI.sz]; decide
 have h8:L 16=false:=by
  cases h:L 16 with
  | false=>rfl
  | true =>
   have g15:=hcl 16 15 h e15
   have g14:=hcl 15 14 g15 e14
   have g13:=hcl 14 13 g14 e13
   have g12:=hcl 13 12 g13 e12
   have g11:=hcl 12 11 g12 e11
   rw [g11] at hj; cases hj
 have hB:=hI.b1 h8
 have t93:=hI.a10 (hdep 10 d10)
 have hx:=hX w hB
 show Oper.wp _ _ a w K _
 go_simp
 exact hK _ _ { sz:=(by simp [Act.put,hI.sz]),df:=hI.df,i1:=(by rw [put_at a 94 1 _ hs,if_neg (by decide)]; exact hI.i1),i5:=(by rw [put_at a 94 5 _ hs,if_neg (by decide)]; exact hI.i5),i11:=(by rw [put_at a 94 11 _ hs,if_neg (by decide)]; exact hI.i11),fr:=(fun t ht=>by rw [put_at a 94 t _ hs,if_neg (fun e=>by subst e; revert ht; decide)]; exact hI.fr t ht),b15:=(fun h=>by rw [put_at a 94 10 _ hs,if_neg (by decide)]; exact hI.b15 h),b1:=(fun h=>hI.b1 h),a0:=(fun h=>by rw [put_at a 94 83 _ hs,if_neg (by decide)]; exact hI.a0 h),a1:=(fun h=>by rw [put_at a 94 84 _ hs,if_neg (by decide)]; exact hI.a1 h),a2:=(fun h=>by rw [put_at a 94 85 _ hs,if_neg (by decide)]; exact hI.a2 h),a3:=(fun h=>by rw [put_at a 94 86 _ hs,if_neg (by decide)]; exact hI.a3 h),a4:=(fun h=>by rw [put_at a 94 87 _ hs,if_neg (by decide)]; exact hI.a4 h),a5:=(fun h=>by rw [put_at a 94 88 _ hs,if_neg (by decide)]; exact hI.a5 h),a6:=(fun h=>by rw [put_at a 94 89 _ hs,if_neg (by decide)]; exact hI.a6 h),a7:=(fun h=>by rw [put_at a 94 90 _ hs,if_neg (by decide)]; exact hI.a7 h),a8:=(fun h=>by rw [put_at a 94 91 _ hs,if_neg (by decide)]; exact hI.a8 h),a9:=(fun h=>by rw [put_at a 94 92 _ hs,if_neg (by decide)]; exact hI.a9 h),a10:=(fun h=>by rw [put_at a 94 93 _ hs,if_neg (by decide)]; exact hI.a10 h),a11:=(fun _=>by rw [put_at a 94 94 _ hs,if_pos rfl]),a12:=(fun h=>by rw [put_at a 94 95 _ hs,if_neg (by decide)]; exact hI.a12 h),a13:=(fun h=>by rw [put_at a 94 96 _ hs,if_neg (by decide)]; exact hI.a13 h),a14:=(fun h=>by rw [put_at a 94 97 _ hs,if_neg (by decide)]; exact hI.a14 h),a15:=(fun h h3=>by rw [put_at a 94 98 _ hs,if_neg (by decide)]; exact hI.a15 h h3),a16:=(fun h=>by rw [put_at a 94 99 _ hs,if_neg (by decide)]; exact hI.a16 h),a17:=(fun h=>by rw [put_at a 94 10 _ hs,if_neg (by decide),put_at a 94 99 _ hs,if_neg (by decide)]; exact hI.a17 h) }
set_option maxRecDepth 100000 in
theorem bkf_12 (d6:(af.toList.any fun e=>e.on == 6 && Region.binds .any e)=true) (d11:(af.toList.any fun e=>e.on == 11 && Region.binds .any e)=true) (hx:x<nl):StepJ Tryz.prog Q ops (Bkf A0 W B q1 va vm vc l i sb so ns sc lb lo nl lc x y) 12 { dst:=some 95,op:=Op.indexAddr 22 (Operand.tmp 89) (Operand.tmp 94),type:=ty,pos:=ps,after:=af,guard:=none } := by
 intro L a w K hI hj hcl hdep hK
 have hs:95<a.tmps.size:=by rw [hI.sz]; decide
 have t89:=hI.a6 (hdep 6 d6)
 have t94:=hI.a11 (hdep 11 d11)
 have hz:(x:Int)<(nl:Int):=by omega
 have hz0:(0:Int)≤(x:Int):=Int.natCast_nonneg _
 show Oper.wp _ _ a w K _
 go_simp
 exact hK _ _ { sz:=(by simp [Act.put,hI.sz]),df:=hI.df,i1:=(by rw [put_at a 95 1 _ hs,if_neg (by decide)]; exact hI.i1),i5:=(by rw [put_at a 95 5 _ hs,if_neg (by decide)]; exact hI.i5),i11:=(by rw [put_at a 95 11 _ hs,if_neg (by decide)]; exact hI.i11),fr:=(fun t ht=>by rw [put_at a 95 t _ hs,if_neg (fun e=>by subst e; revert ht; decide)]; exact hI.fr t ht),b15:=(fun h=>by rw [put_at a 95 10 _ hs,if_neg (by decide)]; exact hI.b15 h),b1:=(fun h=>hI.b1 h),a0:=(fun h=>by rw [put_at a 95 83 _ hs,if_neg (by decide)]; exact hI.a0 h),a1:=(fun h=>by rw [put_at a 95 84 _ hs,if_neg (by decide)]; exact hI.a1 h),a2:=(fun h=>by rw [put_at a 95 85 _ hs,if_neg (by decide)]; exact hI.a2 h),a3:=(fun h=>by rw [put_at a 95 86 _ hs,if_neg (by decide)]; exact hI.a3 h),a4:=(fun h=>by rw [put_at a 95 87 _ hs,if_neg (by decide)]; exact hI.a4 h),a5:=(fun h=>by rw [put_at a 95 88 _ hs,if_neg (by decide)]; exact hI.a5 h),a6:=(fun h=>by rw [put_at a 95 89 _ hs,if_neg (by decide)]; exact hI.a6 h),a7:=(fun h=>by rw [put_at a 95 90 _ hs,if_neg (by decide)]; exact hI.a7 h),a8:=(fun h=>by rw [put_at a 95 91 _ hs,if_neg (by decide)]; exact hI.a8 h),a9:=(fun h=>by rw [put_at a 95 92 _ hs,if_neg (by decide)]; exact hI.a9 h),a10:=(fun h=>by rw [put_at a 95 93 _ hs,if_neg (by decide)]; exact hI.a10 h),a11:=(fun h=>by rw [put_at a 95 94 _ hs,if_neg (by decide)]; exact hI.a11 h),a12:=(fun _=>by rw [put_at a 95 95 _ hs,if_pos rfl]),a13:=(fun h=>by rw [put_at a 95 96 _ hs,if_neg (by decide)]; exact hI.a13 h),a14:=(fun h=>by rw [put_at a 95 97 _ hs,if_neg (by decide)]; exact hI.a14 h),a15:=(fun h h3=>by rw [put_at a 95 98 _ hs,if_neg (by decide)]; exact hI.a15 h h3),a16:=(fun h=>by rw [put_at a 95 99 _ hs,if_neg (by decide)]; exact hI.a16 h),a17:=(fun h=>by rw [put_at a 95 10 _ hs,if_neg (by decide),put_at a 95 99 _ hs,if_neg (by decide)]; exact hI.a17 h) }
set_option maxRecDepth 100000 in
theorem bkf_13 (d12:(af.toList.any fun e=>e.on == 12 && Region.binds .any e)=true) (e15:dep ops 16 15=true) (e14:dep ops 15 14=true) (e13:dep ops 14 13=true) (hY : ∀ w,Below W.heap.size W w→w.cell? ⟨lb,lo+x,none⟩=some (.string y)):StepJ Tryz.prog Q ops (Bkf A0 W B q1 va vm vc l i sb so ns sc lb lo nl lc x y) 13 { dst:=some 96,op:=Op.load 9 (Operand.tmp 95),type:=ty,pos:=ps,after:=af,guard:=none } := by
 intro L a w K hI hj hcl hdep hK
 have hs:96<a.tmps.size:=by rw [hI.sz]; decide
 have h8:L 16=false:=by
  cases h:L 16 with
  | false=>rfl
  | true =>
   have g15:=hcl 16 15 h e15
   have g14:=hcl 15 14 g15 e14
   have g13:=hcl 14 13 g14 e13
   rw [g13] at hj; cases hj
 have hB:=hI.b1 h8
 have t95:=hI.a12 (hdep 12 d12)
 have hy:=hY w hB
 show Oper.wp _ _ a w K _
 go_simp
 exact hK _ _ { sz:=(by simp [Act.put,hI.sz]),df:=hI.df,i1:=(by rw [put_at a 96 1 _ hs,if_neg (by decide)]; exact hI.i1),i5:=(by rw [put_at a 96 5 _ hs,if_neg (by decide)]; exact hI.i5),i11:=(by rw [put_at a 96 11 _ hs,if_neg (by decide)]; exact hI.i11),fr:=(fun t ht=>by rw [put_at a 96 t _ hs,if_neg (fun e=>by subst e; revert ht; decide)]; exact hI.fr t ht),b15:=(fun h=>by rw [put_at a 96 10 _ hs,if_neg (by decide)]; exact hI.b15 h),b1:=(fun h=>hI.b1 h),a0:=(fun h=>by rw [put_at a 96 83 _ hs,if_neg (by decide)]; exact hI.a0 h),a1:=(fun h=>by rw [put_at a 96 84 _ hs,if_neg (by decide)]; exact hI.a1 h),a2:=(fun h=>by rw [put_at a 96 85 _ hs,if_neg (by decide)]; exact hI.a2 h),a3:=(fun h=>by rw [put_at a 96 86 _ hs,if_neg (by decide)]; exact hI.a3 h),a4:=(fun h=>by rw [put_at a 96 87 _ hs,if_neg (by decide)]; exact hI.a4 h),a5:=(fun h=>by rw [put_at a 96 88 _ hs,if_neg (by decide)]; exact hI.a5 h),a6:=(fun h=>by rw [put_at a 96 89 _ hs,if_neg (by decide)]; exact hI.a6 h),a7:=(fun h=>by rw [put_at a 96 90 _ hs,if_neg (by decide)]; exact hI.a7 h),a8:=(fun h=>by rw [put_at a 96 91 _ hs,if_neg (by decide)]; exact hI.a8 h),a9:=(fun h=>by rw [put_at a 96 92 _ hs,if_neg (by decide)]; exact hI.a9 h),a10:=(fun h=>by rw [put_at a 96 93 _ hs,if_neg (by decide)]; exact hI.a10 h),a11:=(fun h=>by rw [put_at a 96 94 _ hs,if_neg (by decide)]; exact hI.a11 h),a12:=(fun h=>by rw [put_at a 96 95 _ hs,if_neg (by decide)]; exact hI.a12 h),a13:=(fun _=>by rw [put_at a 96 96 _ hs,if_pos rfl]),a14:=(fun h=>by rw [put_at a 96 97 _ hs,if_neg (by decide)]; exact hI.a14 h),a15:=(fun h h3=>by rw [put_at a 96 98 _ hs,if_neg (by decide)]; exact hI.a15 h h3),a16:=(fun h=>by rw [put_at a 96 99 _ hs,if_neg (by decide)]; exact hI.a16 h),a17:=(fun h=>by rw [put_at a 96 10 _ hs,if_neg (by decide),put_at a 96 99 _ hs,if_neg (by decide)]; exact hI.a17 h) }
set_option maxRecDepth 100000 in
theorem bkf_14 (d5:(af.toList.any fun e=>e.on == 5 && Region.binds .any e)=true) (d13:(af.toList.any fun e=>e.on == 13 && Region.binds .any e)=true):StepJ Tryz.prog Q ops (Bkf A0 W B q1 va vm vc l i sb so ns sc lb lo nl lc x y) 14 { dst:=some 97,op:=Op.build 46 #[(0,Operand.tmp 88),(1,Operand.tmp 96)],type:=ty,pos:=ps,after:=af,guard:=none } := by
 intro L a w K hI hj hcl hdep hK
 have hs:97<a.tmps.size:=by rw [hI.sz]; decide
 have t88:=hI.a5 (hdep 5 d5)
 have t96:=hI.a13 (hdep 13 d13)
 have u88:a.tmps[88]?.getD undef = .int .u64 (x:Int):=by rw [← Array.getD_eq_getD_getElem?]; exact t88
 have u96:a.tmps[96]?.getD undef = .string y:=by rw [← Array.getD_eq_getD_getElem?]; exact t96
 show Oper.wp _ _ a w K _
 go_simp
 exact hK _ _ { sz:=(by simp [Act.put,hI.sz]),df:=hI.df,i1:=(by rw [put_at a 97 1 _ hs,if_neg (by decide)]; exact hI.i1),i5:=(by rw [put_at a 97 5 _ hs,if_neg (by decide)]; exact hI.i5),i11:=(by rw [put_at a 97 11 _ hs,if_neg (by decide)]; exact hI.i11),fr:=(fun t ht=>by rw [put_at a 97 t _ hs,if_neg (fun e=>by subst e; revert ht; decide)]; exact hI.fr t ht),b15:=(fun h=>by rw [put_at a 97 10 _ hs,if_neg (by decide)]; exact hI.b15 h),b1:=(fun h=>hI.b1 h),a0:=(fun h=>by rw [put_at a 97 83 _ hs,if_neg (by decide)]; exact hI.a0 h),a1:=(fun h=>by rw [put_at a 97 84 _ hs,if_neg (by decide)]; exact hI.a1 h),a2:=(fun h=>by rw [put_at a 97 85 _ hs,if_neg (by decide)]; exact hI.a2 h),a3:=(fun h=>by rw [put_at a 97 86 _ hs,if_neg (by decide)]; exact hI.a3 h),a4:=(fun h=>by rw [put_at a 97 87 _ hs,if_neg (by decide)]; exact hI.a4 h),a5:=(fun h=>by rw [put_at a 97 88 _ hs,if_neg (by decide)]; exact hI.a5 h),a6:=(fun h=>by rw [put_at a 97 89 _ hs,if_neg (by decide)]; exact hI.a6 h),a7:=(fun h=>by rw [put_at a 97 90 _ hs,if_neg (by decide)]; exact hI.a7 h),a8:=(fun h=>by rw [put_at a 97 91 _ hs,if_neg (by decide)]; exact hI.a8 h),a9:=(fun h=>by rw [put_at a 97 92 _ hs,if_neg (by decide)]; exact hI.a9 h),a10:=(fun h=>by rw [put_at a 97 93 _ hs,if_neg (by decide)]; exact hI.a10 h),a11:=(fun h=>by rw [put_at a 97 94 _ hs,if_neg (by decide)]; exact hI.a11 h),a12:=(fun h=>by rw [put_at a 97 95 _ hs,if_neg (by decide)]; exact hI.a12 h),a13:=(fun h=>by rw [put_at a 97 96 _ hs,if_neg (by decide)]; exact hI.a13 h),a14:=(fun _=>by rw [put_at a 97 97 _ hs,if_pos rfl]),a15:=(fun h h3=>by rw [put_at a 97 98 _ hs,if_neg (by decide)]; exact hI.a15 h h3),a16:=(fun h=>by rw [put_at a 97 99 _ hs,if_neg (by decide)]; exact hI.a16 h),a17:=(fun h=>by rw [put_at a 97 10 _ hs,if_neg (by decide),put_at a 97 99 _ hs,if_neg (by decide)]; exact hI.a17 h) }
set_option maxRecDepth 100000 in
theorem bkf_15 (d14:(af.toList.any fun e=>e.on == 14 && Region.binds .any e)=true) (e15:dep ops 16 15=true):StepJ Tryz.prog Q ops (Bkf A0 W B q1 va vm vc l i sb so ns sc lb lo nl lc x y) 15 { dst:=some 98,op:=Op.buildSlice 44 1 #[(0,Operand.tmp 97)],type:=ty,pos:=ps,after:=af,guard:=none } := by
 intro L a w K hI hj hcl hdep hK
 have hs:98<a.tmps.size:=by rw [hI.sz]; decide
 have h8:L 16=false:=by
  cases h:L 16 with
  | false=>rfl
  | true =>
   have g15:=hcl 16 15 h e15
   rw [g15] at hj; cases hj
 have hB:=hI.b1 h8
 have t97:=hI.a14 (hdep 14 d14)
 have u97:a.tmps[97]?.getD undef = .agg #[.int .u64 (x:Int),.string y]:=by rw [← Array.getD_eq_getD_getElem?]; exact t97
 show Oper.wp _ _ a w K _
 go_simp
 exact hK _ _ { sz:=(by simp [Act.put,hI.sz]),df:=hI.df,i1:=(by rw [put_at a 98 1 _ hs,if_neg (by decide)]; exact hI.i1),i5:=(by rw [put_at a 98 5 _ hs,if_neg (by decide)]; exact hI.i5),i11:=(by rw [put_at a 98 11 _ hs,if_neg (by decide)]; exact hI.i11),fr:=(fun t ht=>by rw [put_at a 98 t _ hs,if_neg (fun e=>by subst e; revert ht; decide)]; exact hI.fr t ht),b15:=(fun h=>by rw [put_at a 98 10 _ hs,if_neg (by decide)]; exact hI.b15 h),b1:=(fun _=>bal hB _),a0:=(fun h=>by rw [put_at a 98 83 _ hs,if_neg (by decide)]; exact hI.a0 h),a1:=(fun h=>by rw [put_at a 98 84 _ hs,if_neg (by decide)]; exact hI.a1 h),a2:=(fun h=>by rw [put_at a 98 85 _ hs,if_neg (by decide)]; exact hI.a2 h),a3:=(fun h=>by rw [put_at a 98 86 _ hs,if_neg (by decide)]; exact hI.a3 h),a4:=(fun h=>by rw [put_at a 98 87 _ hs,if_neg (by decide)]; exact hI.a4 h),a5:=(fun h=>by rw [put_at a 98 88 _ hs,if_neg (by decide)]; exact hI.a5 h),a6:=(fun h=>by rw [put_at a 98 89 _ hs,if_neg (by decide)]; exact hI.a6 h),a7:=(fun h=>by rw [put_at a 98 90 _ hs,if_neg (by decide)]; exact hI.a7 h),a8:=(fun h=>by rw [put_at a 98 91 _ hs,if_neg (by decide)]; exact hI.a8 h),a9:=(fun h=>by rw [put_at a 98 92 _ hs,if_neg (by decide)]; exact hI.a9 h),a10:=(fun h=>by rw [put_at a 98 93 _ hs,if_neg (by decide)]; exact hI.a10 h),a11:=(fun h=>by rw [put_at a 98 94 _ hs,if_neg (by decide)]; exact hI.a11 h),a12:=(fun h=>by rw [put_at a 98 95 _ hs,if_neg (by decide)]; exact hI.a12 h),a13:=(fun h=>by rw [put_at a 98 96 _ hs,if_neg (by decide)]; exact hI.a13 h),a14:=(fun h=>by rw [put_at a 98 97 _ hs,if_neg (by decide)]; exact hI.a14 h),a15:=(fun _ _=>⟨w.heap.size,by rw [put_at a 98 98 _ hs,if_pos rfl],rdc_K1 w x y⟩),a16:=(fun h=>by rw [show (if (16:Nat)=15 then true else L 16)=L 16 from rfl,h8] at h; cases h),a17:=(fun h=>by rw [put_at a 98 10 _ hs,if_neg (by decide),put_at a 98 99 _ hs,if_neg (by decide)]; exact hI.a17 h) }
set_option maxRecDepth 100000 in
theorem bkf_16 (d0:(af.toList.any fun e=>e.on == 0 && Region.binds .any e)=true) (d15:(af.toList.any fun e=>e.on == 15 && Region.binds .any e)=true) (e99:dep ops 17 16=true) (hO:OwnK W B (.slice va vm vc) l) (hBW:B≤W.heap.size) (hlen:l.length+1≤1099511627776):StepJ Tryz.prog Q ops (Bkf A0 W B q1 va vm vc l i sb so ns sc lb lo nl lc x y) 16 { dst:=some 99,op:=Op.call { callee:=Callee.builtin Builtin.append,args:=#[Operand.tmp 83,Operand.tmp 98],argTypes:=#[44,44] },type:=ty,pos:=ps,after:=af,guard:=none } := by
 intro L a w K hI hj hcl hdep hK
 have hs:99<a.tmps.size:=by rw [hI.sz]; decide
 have t83:=hI.a0 (hdep 0 d0)
 obtain ⟨g,t98,hrc⟩:=hI.a15 (hdep 15 d15) hj
 have hB:=hI.b1 hj
 show Oper.wp _ _ a w K _
 refine step_append_K w rfl _ _ rfl B (.slice va vm vc) l t83 (ownK_next hO hB) g (x,y) t98 hrc hlen (Nat.le_trans hBW hB.size) ?_
 intro v' w' o1 g1
 obtain ⟨va',vm',vc',rfl⟩:=Cv.own_slice o1
 have hb':Below B W w':=(hB.mono hBW).grown g1 (Nat.le_trans hBW hB.size) (fun k hk=>ownK_at hO k hk)
 exact hK _ _ { sz:=(by simp [Act.put,hI.sz]),df:=hI.df,i1:=(by rw [put_at a 99 1 _ hs,if_neg (by decide)]; exact hI.i1),i5:=(by rw [put_at a 99 5 _ hs,if_neg (by decide)]; exact hI.i5),i11:=(by rw [put_at a 99 11 _ hs,if_neg (by decide)]; exact hI.i11),fr:=(fun t ht=>by rw [put_at a 99 t _ hs,if_neg (fun e=>by subst e; revert ht; decide)]; exact hI.fr t ht),b15:=(fun h=>by cases h),b1:=(fun h=>by cases h),a0:=(fun h=>by rw [put_at a 99 83 _ hs,if_neg (by decide)]; exact hI.a0 h),a1:=(fun h=>by rw [put_at a 99 84 _ hs,if_neg (by decide)]; exact hI.a1 h),a2:=(fun h=>by rw [put_at a 99 85 _ hs,if_neg (by decide)]; exact hI.a2 h),a3:=(fun h=>by rw [put_at a 99 86 _ hs,if_neg (by decide)]; exact hI.a3 h),a4:=(fun h=>by rw [put_at a 99 87 _ hs,if_neg (by decide)]; exact hI.a4 h),a5:=(fun h=>by rw [put_at a 99 88 _ hs,if_neg (by decide)]; exact hI.a5 h),a6:=(fun h=>by rw [put_at a 99 89 _ hs,if_neg (by decide)]; exact hI.a6 h),a7:=(fun h=>by rw [put_at a 99 90 _ hs,if_neg (by decide)]; exact hI.a7 h),a8:=(fun h=>by rw [put_at a 99 91 _ hs,if_neg (by decide)]; exact hI.a8 h),a9:=(fun h=>by rw [put_at a 99 92 _ hs,if_neg (by decide)]; exact hI.a9 h),a10:=(fun h=>by rw [put_at a 99 93 _ hs,if_neg (by decide)]; exact hI.a10 h),a11:=(fun h=>by rw [put_at a 99 94 _ hs,if_neg (by decide)]; exact hI.a11 h),a12:=(fun h=>by rw [put_at a 99 95 _ hs,if_neg (by decide)]; exact hI.a12 h),a13:=(fun h=>by rw [put_at a 99 96 _ hs,if_neg (by decide)]; exact hI.a13 h),a14:=(fun h=>by rw [put_at a 99 97 _ hs,if_neg (by decide)]; exact hI.a14 h),a15:=(fun _ h=>by cases h),a16:=(fun _=>⟨va',vm',vc',by rw [put_at a 99 99 _ hs,if_pos rfl],o1,hb'⟩),a17:=(fun h=>by have h':L 17=true:=h; rw [hcl 17 16 h' e99] at hj; cases hj) }
set_option maxRecDepth 100000 in
theorem bkf_17 (d16:(af.toList.any fun e=>e.on == 16 && Region.binds .any e)=true):StepJ Tryz.prog Q ops (Bkf A0 W B q1 va vm vc l i sb so ns sc lb lo nl lc x y) 17 { dst:=some 10,op:=Op.assign (Operand.tmp 99),type:=ty,pos:=ps,after:=af,guard:=none } := by
 intro L a w K hI hj hcl hdep hK
 have hs:10<a.tmps.size:=by rw [hI.sz]; decide
 obtain ⟨va',vm',vc',t99,o1,hb'⟩:=hI.a16 (hdep 16 d16)
 show Oper.wp _ _ a w K _
 go_simp
 exact hK _ _ { sz:=(by simp [Act.put,hI.sz]),df:=hI.df,i1:=(by rw [put_at a 10 1 _ hs,if_neg (by decide)]; exact hI.i1),i5:=(by rw [put_at a 10 5 _ hs,if_neg (by decide)]; exact hI.i5),i11:=(by rw [put_at a 10 11 _ hs,if_neg (by decide)]; exact hI.i11),fr:=(fun t ht=>by rw [put_at a 10 t _ hs,if_neg (fun e=>by subst e; revert ht; decide)]; exact hI.fr t ht),b15:=(fun h=>by have h':L 16=false:=h; rw [hdep 16 d16] at h'; cases h'),b1:=(fun h=>hI.b1 h),a0:=(fun h=>by rw [put_at a 10 83 _ hs,if_neg (by decide)]; exact hI.a0 h),a1:=(fun h=>by rw [put_at a 10 84 _ hs,if_neg (by decide)]; exact hI.a1 h),a2:=(fun h=>by rw [put_at a 10 85 _ hs,if_neg (by decide)]; exact hI.a2 h),a3:=(fun h=>by rw [put_at a 10 86 _ hs,if_neg (by decide)]; exact hI.a3 h),a4:=(fun h=>by rw [put_at a 10 87 _ hs,if_neg (by decide)]; exact hI.a4 h),a5:=(fun h=>by rw [put_at a 10 88 _ hs,if_neg (by decide)]; exact hI.a5 h),a6:=(fun h=>by rw [put_at a 10 89 _ hs,if_neg (by decide)]; exact hI.a6 h),a7:=(fun h=>by rw [put_at a 10 90 _ hs,if_neg (by decide)]; exact hI.a7 h),a8:=(fun h=>by rw [put_at a 10 91 _ hs,if_neg (by decide)]; exact hI.a8 h),a9:=(fun h=>by rw [put_at a 10 92 _ hs,if_neg (by decide)]; exact hI.a9 h),a10:=(fun h=>by rw [put_at a 10 93 _ hs,if_neg (by decide)]; exact hI.a10 h),a11:=(fun h=>by rw [put_at a 10 94 _ hs,if_neg (by decide)]; exact hI.a11 h),a12:=(fun h=>by rw [put_at a 10 95 _ hs,if_neg (by decide)]; exact hI.a12 h),a13:=(fun h=>by rw [put_at a 10 96 _ hs,if_neg (by decide)]; exact hI.a13 h),a14:=(fun h=>by rw [put_at a 10 97 _ hs,if_neg (by decide)]; exact hI.a14 h),a15:=(fun h h3=>by rw [put_at a 10 98 _ hs,if_neg (by decide)]; exact hI.a15 h h3),a16:=(fun h=>by rw [put_at a 10 99 _ hs,if_neg (by decide)]; exact hI.a16 h),a17:=(fun _=>by rw [put_at a 10 10 _ hs,if_pos rfl,put_at a 10 99 _ hs,if_neg (by decide),t99]) }
end
end Go.Proofs.YtipcenbndhnnhaaGreatDoor
