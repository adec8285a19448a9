/- Own work. -/
import Derived.Test.YtdocjikpcbmcgaaGreatDoorQj15
set_option maxRecDepth 100000
namespace Go.Proofs.YtdocjikpcbmcgaaGreatDoor
open Go.RowKit
attribute [local go_sem ↓] Go.wp_at_zero Go.wp_at_succ
section
open Cv (RdC zl cU cov)
open Pl (pw)
structure J0(W:World)(s0 q:Nat)(v u:Value)(C:List (Nat×Nat))(P:LB)(h k:Nat):Prop where
 js:JS W s0 v u C P
 tw:Tw W q (h:Int) k
 hv : ∀g,v.ownBlock=some g->g≠q
 hq:s0+2<q
 hC:C.length<=1000
 hP:P.length<=1000
structure RJ(W:World)(s0 q:Nat)(v u:Value)(C:List (Nat×Nat))(P:LB)(h k:Nat)(x:BA)(b0 b1 b2 b3 b4 b5 b6 b7 b8 b9:Bool)(y0 y1 y2 y3 y4 y5 y6 y7:Value)(w:World):Prop where
 a0:b0=true->y0=v
 a1:b1=true->y1 = .agg #[.int .i64 (h:Int),.int .u64 (k:Int)]
 a2:b2=true -> ∃g,y2 = .slice (some ⟨g,0,none⟩) 1 1∧Tw w g (h:Int) k∧W.heap.size<=g
 a4:b4=true->y4=u
 a5:b5=true->y5 = .string x
 a6:b6=true -> ∃g,y6 = .slice (some ⟨g,0,none⟩) 1 1∧w.heap[g]? = some (.cells #[.string x] 9 (0,0))∧W.heap.size<=g
 tw:Tw w q (h:Int) k
 n3:b3=false->Cv.Qz w (s0+3) v (zl C)
 m3:b3=true->Cv.Qz w (s0+3) y3 (zl (C++[(h,k)]))
 n7:b7=false->Qk w (s0+3) u P
 m7:b7=true->Qk w (s0+3) y7 (P++[x])
 c8:w.heap[s0+1]? = some (.cells #[bif b8 then y3 else v] 77 (0,0))
 c9:w.heap[s0+2]? = some (.cells #[bif b9 then y7 else u] 22 (0,0))
 be:Below (s0+1) W w
section
variable {W w w':World} {s0 q:Nat} {v u:Value} {C:List (Nat×Nat)} {P:LB} {h k:Nat} {x:BA} {b0 b1 b2 b3 b4 b5 b6 b7 b8 b9:Bool} {y0 y1 y2 y3 y4 y5 y6 y7:Value}
theorem RJ.lt(r:RJ W s0 q v u C P h k x b0 b1 b2 b3 b4 b5 b6 b7 b8 b9 y0 y1 y2 y3 y4 y5 y6 y7 w):s0+2<w.heap.size:=(Lg.1 r.c9).1
theorem RJ.keep(r:RJ W s0 q v u C P h k x b0 b1 b2 b3 b4 b5 b6 b7 b8 b9 y0 y1 y2 y3 y4 y5 y6 y7 w)(hb:Zb w w'):RJ W s0 q v u C P h k x b0 b1 b2 b3 b4 b5 b6 b7 b8 b9 y0 y1 y2 y3 y4 y5 y6 y7 w':=by
 have hl:=r.lt;refine⟨r.a0,r.a1,fun e => ?_,r.a4,r.a5,fun e => ?_,r.tw.next hb,fun e=>Yf (r.n3 e) hb,fun e=>Yf (r.m3 e) hb,fun e=>Yf (r.n7 e) hb,fun e=>Yf (r.m7 e) hb,(hb.block _ (by omega)).trans r.c8,(hb.block _ hl).trans r.c9,r.be.trans (hb.mono (by omega))⟩
 ·obtain⟨g,e1,e2,e3⟩:=r.a2 e;exact⟨g,e1,e2.next hb,e3⟩
 ·obtain⟨g,e1,e2,e3⟩:=r.a6 e;exact⟨g,e1,(hb.block g (Lg.1 e2).1).trans e2,e3⟩
theorem QlN{Z:World}{B B' T T' s s' n n':Nat}{a b:Value}{xs ys:List Value}(o:Z.ownsRow B T s a n xs)(o':Z.ownsRow B' T' s' b n' ys)(hT:T≠T'){g:Nat}(h1:a.ownBlock=some g)(h2:b.ownBlock=some g):False:=by
 obtain⟨_,c,hc⟩:=Ja o h1;obtain⟨_,c',hc'⟩:=Ja o' h2;rw[hc] at hc';injection hc' with hc'
 injection hc' with _ h2 _
 exact hT h2
theorem RJ.app3(j:J0 W s0 q v u C P h k)(r:RJ W s0 q v u C P h k x b0 b1 b2 false b4 b5 b6 false false false y0 y1 y2 y3 y4 y5 y6 y7 w)(v':Value)(g:w.grownBy w' v.ownBlock)(o:Cv.Qz w' (s0+3) v' (zl (C++[(h,k)]))):RJ W s0 q v u C P h k x b0 b1 b2 true b4 b5 b6 false false false y0 y1 y2 v' y4 y5 y6 y7 w':=by
 have hl:=r.lt;have o0:=r.n3 rfl;have u0:=r.n7 rfl;have lo : ∀k,v.ownBlock=some k->s0+3<=k∧k<W.heap.size:=fun k hk=>Lq j.js.ot k hk
 have hb : ∀b,b<w.heap.size->some b≠v.ownBlock->w'.heap[b]? = w.heap[b]? := fun b h1 h2=>g.block b h1 h2
 refine⟨r.a0,r.a1,fun e => ?_,r.a4,r.a5,fun e => ?_,r.tw.same (hb q r.tw.lt fun e=>j.hv q e.symm rfl),(fun e=>by cases e),fun _=>o,fun _=>Qj u0 fun b h1 _=>hb b (Lq u0 b h1).2 fun e=>QlN o0 u0 (by decide) e.symm h1,(fun e=>by cases e),(hb _ (by omega) fun e=>by have:=lo _ e.symm;omega).trans r.c8,(hb _ hl fun e=>by have:=lo _ e.symm;omega).trans r.c9,r.be.trans ((Below.refl _ _).grown g (by omega) fun k hk=>by have:=lo k hk;omega)⟩
 ·obtain⟨g',e1,e2,e3⟩:=r.a2 e;exact⟨g',e1,e2.same (hb g' e2.lt fun e=>by have:=lo _ e.symm;omega),e3⟩
 ·obtain⟨g',e1,e2,e3⟩:=r.a6 e;exact⟨g',e1,(hb g' (Lg.1 e2).1 fun e=>by have:=lo _ e.symm;omega).trans e2,e3⟩
theorem RJ.app7(j:J0 W s0 q v u C P h k)(r:RJ W s0 q v u C P h k x b0 b1 b2 true b4 b5 b6 false false false y0 y1 y2 y3 y4 y5 y6 y7 w)(u':Value)(g:w.grownBy w' u.ownBlock)(o:Qk w' (s0+3) u' (P++[x])):RJ W s0 q v u C P h k x b0 b1 b2 true b4 b5 b6 true false false y0 y1 y2 y3 y4 y5 y6 u' w':=by
 have hl:=r.lt;have o0:=r.m3 rfl;have u0:=r.n7 rfl;have lo : ∀k,u.ownBlock=some k->s0+3<=k∧k<W.heap.size:=fun k hk=>Lq j.js.op k hk
 have hb : ∀b,b<w.heap.size->some b≠u.ownBlock->w'.heap[b]? = w.heap[b]? := fun b h1 h2=>g.block b h1 h2
 refine⟨r.a0,r.a1,fun e => ?_,r.a4,r.a5,fun e => ?_,r.tw.same (hb q r.tw.lt fun e=>Qjd u0 r.tw (by decide) q e.symm rfl),(fun e=>by cases e),fun _=>Qj o0 fun b h1 _=>hb b (Lq o0 b h1).2 fun e=>QlN o0 u0 (by decide) h1 e.symm,(fun e=>by cases e),fun _=>o,(hb _ (by omega) fun e=>by have:=lo _ e.symm;omega).trans r.c8,(hb _ hl fun e=>by have:=lo _ e.symm;omega).trans r.c9,r.be.trans ((Below.refl _ _).grown g (by omega) fun k hk=>by have:=lo k hk;omega)⟩
 ·obtain⟨g',e1,e2,e3⟩:=r.a2 e;exact⟨g',e1,e2.same (hb g' e2.lt fun e=>by have:=lo _ e.symm;omega),e3⟩
 ·obtain⟨g',e1,e2,e3⟩:=r.a6 e;exact⟨g',e1,(hb g' (Lg.1 e2).1 fun e=>by have:=lo _ e.symm;omega).trans e2,e3⟩
theorem RJ.put8(j:J0 W s0 q v u C P h k)(r:RJ W s0 q v u C P h k x b0 b1 b2 true b4 b5 b6 true false false y0 y1 y2 y3 y4 y5 y6 y7 w):RJ W s0 q v u C P h k x b0 b1 b2 true b4 b5 b6 true true false y0 y1 y2 y3 y4 y5 y6 y7 (w.setCell ⟨s0+1,0,none⟩ y3):=by
 have hq:=j.hq;have hW:=j.js.lt;have hch:=(ChT.refl (fun b=>b=s0+1) w).set (s0+1) 0 y3 rfl
 refine⟨r.a0,r.a1,fun e => ?_,r.a4,r.a5,fun e => ?_,r.tw.same (hch.block q (by omega)),(fun e=>by cases e),fun _=>Qj (r.m3 rfl) fun b _ hb=>hch.block b (by omega),(fun e=>by cases e),fun _=>Qj (r.m7 rfl) fun b _ hb=>hch.block b (by omega),heap_setCell_same w (s0+1) 0 _ _ y3 r.c8,(hch.block (s0+2) (by omega)).trans r.c9,r.be.trans (hch.below (by rintro b rfl;omega))⟩
 ·obtain⟨g',e1,e2,e3⟩:=r.a2 e;exact⟨g',e1,e2.same (hch.block g' (by omega)),e3⟩
 ·obtain⟨g',e1,e2,e3⟩:=r.a6 e;exact⟨g',e1,(hch.block g' (by omega)).trans e2,e3⟩
theorem RJ.put9(j:J0 W s0 q v u C P h k)(r:RJ W s0 q v u C P h k x b0 b1 b2 true b4 b5 b6 true true false y0 y1 y2 y3 y4 y5 y6 y7 w):RJ W s0 q v u C P h k x b0 b1 b2 true b4 b5 b6 true true true y0 y1 y2 y3 y4 y5 y6 y7 (w.setCell ⟨s0+2,0,none⟩ y7):=by
 have hq:=j.hq;have hW:=j.js.lt;have hch:=(ChT.refl (fun b=>b=s0+2) w).set (s0+2) 0 y7 rfl
 refine⟨r.a0,r.a1,fun e => ?_,r.a4,r.a5,fun e => ?_,r.tw.same (hch.block q (by omega)),(fun e=>by cases e),fun _=>Qj (r.m3 rfl) fun b _ hb=>hch.block b (by omega),(fun e=>by cases e),fun _=>Qj (r.m7 rfl) fun b _ hb=>hch.block b (by omega),(hch.block (s0+1) (by omega)).trans r.c8,heap_setCell_same w (s0+2) 0 _ _ y7 r.c9,r.be.trans (hch.below (by rintro b rfl;omega))⟩
 ·obtain⟨g',e1,e2,e3⟩:=r.a2 e;exact⟨g',e1,e2.same (hch.block g' (by omega)),e3⟩
 ·obtain⟨g',e1,e2,e3⟩:=r.a6 e;exact⟨g',e1,(hch.block g' (by omega)).trans e2,e3⟩
end
structure RF(W:World)(s0 q:Nat)(v u:Value)(C:List (Nat×Nat))(P:LB)(h k:Nat)(x:BA)(L:Nat->Bool)(a:Act)(w:World):Prop where
 sz:a.tmps.size=53
 df:a.defers=[]
 i1:a.tmps.getD 1 undef = .string x
 i2:a.tmps.getD 2 undef = .pointer (some ⟨s0+1,0,none⟩)
 i4:a.tmps.getD 4 undef = .pointer (some ⟨s0+2,0,none⟩)
 i5:a.tmps.getD 5 undef = .pointer (some ⟨q,0,none⟩)
 rj:RJ W s0 q v u C P h k x (L 0) (L 1) (L 2) (L 3) (L 4) (L 5) (L 6) (L 7) (L 8) (L 9) (a.tmps.getD 45 undef) (a.tmps.getD 46 undef) (a.tmps.getD 47 undef) (a.tmps.getD 48 undef) (a.tmps.getD 49 undef) (a.tmps.getD 50 undef) (a.tmps.getD 51 undef) (a.tmps.getD 52 undef) w
section
variable {W w w':World} {s0 q:Nat} {v u:Value} {C:List (Nat×Nat)} {P:LB} {h k:Nat} {x:BA} {L L':Nat->Bool} {a:Act}
theorem Qb(a:Act)(d t:Nat)(y:Value)(hd:d<a.tmps.size):(a.put (some d) y).tmps.getD t undef=if t=d then y else a.tmps.getD t undef:=by
 by_cases e:t=d
 ·subst e;rw[if_pos rfl,QbJ a t y hd]
 ·rw[if_neg e,UK a d t y (Ne.symm e)]
theorem RF.put(f:RF W s0 q v u C P h k x L a w)(d:Nat)(h1:44<d)(h2:d<53)(y:Value)(r:RJ W s0 q v u C P h k x (L' 0) (L' 1) (L' 2) (L' 3) (L' 4) (L' 5) (L' 6) (L' 7) (L' 8) (L' 9) (if 45=d then y else a.tmps.getD 45 undef) (if 46=d then y else a.tmps.getD 46 undef) (if 47=d then y else a.tmps.getD 47 undef) (if 48=d then y else a.tmps.getD 48 undef) (if 49=d then y else a.tmps.getD 49 undef) (if 50=d then y else a.tmps.getD 50 undef) (if 51=d then y else a.tmps.getD 51 undef) (if 52=d then y else a.tmps.getD 52 undef) w'):RF W s0 q v u C P h k x L' (a.put (some d) y) w':=by
 have hs:d<a.tmps.size:=by rw[f.sz];exact h2
 refine⟨by simp[Act.put,f.sz],f.df,?_,?_,?_,?_,?_⟩
 ·rw[Qb a d 1 y hs,if_neg (by omega)];exact f.i1
 ·rw[Qb a d 2 y hs,if_neg (by omega)];exact f.i2
 ·rw[Qb a d 4 y hs,if_neg (by omega)];exact f.i4
 ·rw[Qb a d 5 y hs,if_neg (by omega)];exact f.i5
 ·rw[Qb a d 45 y hs,Qb a d 46 y hs,Qb a d 47 y hs,Qb a d 48 y hs,Qb a d 49 y hs,Qb a d 50 y hs,Qb a d 51 y hs,Qb a d 52 y hs];exact r
end
section
variable {W:World} {s0 q:Nat} {v u:Value} {C:List (Nat×Nat)} {P:LB} {h k:Nat} {x:BA} {Q:Exit->Act->World->Prop} {ops:List Oper} {ty:TypeId} {ps:String} {af:Array Edge}
theorem QY{L:Nat->Bool}{i j:Nat}(hcl : ∀i k,L i=true->dep ops i k=true->L k=true)(hj:L j=false)(hd:dep ops i j=true):L i=false:=by
 cases h:L i with
 | false=>rfl
 | true=>rw[hcl i j h hd] at hj;cases hj
theorem e0(hd:dep ops 8 0=true):QZ Tryz.prog Q ops (RF W s0 q v u C P h k x) 0 { dst:=some 45,op:=Op.load 77 (Operand.tmp 2),type:=ty,pos:=ps,after:=af,guard:=none } := by
 intro L a w K hI hj hcl hdep hK;have r:=hI.rj;have h8:=QY hcl hj hd;have c:=cell_of_one r.c8;rw[h8,cond_false] at c;have t2:=hI.i2
 show Oper.wp _ _ a w K _
 go_simp
 exact hK _ _ (hI.put 45 (by decide) (by decide) v ⟨fun _=>rfl,r.a1,r.a2,r.a4,r.a5,r.a6,r.tw,r.n3,r.m3,r.n7,r.m7,r.c8,r.c9,r.be⟩)
theorem e1:QZ Tryz.prog Q ops (RF W s0 q v u C P h k x) 1 { dst:=some 46,op:=Op.load 83 (Operand.tmp 5),type:=ty,pos:=ps,after:=af,guard:=none } := by
 intro L a w K hI hj hcl hdep hK;have r:=hI.rj;obtain⟨c0,c1⟩:=r.tw.cells;have t5:=hI.i5
 show Oper.wp _ _ a w K _
 go_simp
 exact hK _ _ (hI.put 46 (by decide) (by decide) _ ⟨r.a0,fun _=>rfl,r.a2,r.a4,r.a5,r.a6,r.tw,r.n3,r.m3,r.n7,r.m7,r.c8,r.c9,r.be⟩)
theorem e2(hd:(af.toList.any fun e=>e.on == 1 && Region.binds .any e)=true):QZ Tryz.prog Q ops (RF W s0 q v u C P h k x) 2 { dst:=some 47,op:=Op.buildSlice 77 1 #[(0,Operand.tmp 46)],type:=ty,pos:=ps,after:=af,guard:=none } := by
 intro L a w K hI hj hcl hdep hK;have r:=hI.rj;have t46:=r.a1 (hdep 1 hd);have u46:a.tmps[46]?.getD undef = .agg #[.int .i64 (h:Int),.int .u64 (k:Int)]:=by rw[<-NH];exact t46
 have hb:=bal (Below.refl w.heap.size w) (.cells #[.int .i64 (h:Int),.int .u64 (k:Int)] 83);have r':=r.keep hb
 show Oper.wp _ _ a w K _
 go_simp
 exact hK _ _ (hI.put 47 (by decide) (by decide) _ ⟨r'.a0,r'.a1,fun _=>⟨_,rfl,QaG w _ _,r.be.size⟩,r'.a4,r'.a5,r'.a6,r'.tw,r'.n3,r'.m3,r'.n7,r'.m7,r'.c8,r'.c9,r'.be⟩)
theorem e3(j:J0 W s0 q v u C P h k)(h0:(af.toList.any fun e=>e.on == 0 && Region.binds .any e)=true)(h2:(af.toList.any fun e=>e.on == 2 && Region.binds .any e)=true)(d7:dep ops 7 3=true)(d8:dep ops 8 3=true)(d9:dep ops 9 3=true):QZ Tryz.prog Q ops (RF W s0 q v u C P h k x) 3 { dst:=some 48,op:=Op.call { callee:=Callee.builtin Builtin.append,args:=#[Operand.tmp 45,Operand.tmp 47],argTypes:=#[77,77] },type:=ty,pos:=ps,after:=af,guard:=none } := by
 intro L a w K hI hj hcl hdep hK;have r:=hI.rj;have t45:=r.a0 (hdep 0 h0);obtain⟨g,t47,htw,_⟩:=r.a2 (hdep 2 h2);rw[hj,QY hcl hj d7,QY hcl hj d8,QY hcl hj d9] at r;have hl:=r.lt;have st:=QjF w (ops:=#[]) (o := { dst:=some 48,op:=Op.call { callee:=Callee.builtin Builtin.append,args:=#[Operand.tmp 45,Operand.tmp 47],argTypes:=#[77,77] },type:=ty,pos:=ps,after:=af,guard:=none }) (a:=a) (K:=K) (Q:=Q) (E:=False) rfl (Operand.tmp 45) (Operand.tmp 47) rfl (s0+3) v C t45 (r.n3 rfl) g h k t47 htw j.hC hl (fun v' w' o g'=>hK _ _ (hI.put 48 (by decide) (by decide) v' (by
  have r':=r.app3 j v' g' o
  show RJ W s0 q v u C P h k x (L 0) (L 1) (L 2) true (L 4) (L 5) (L 6) (L 7) (L 8) (L 9) _ _ _ v' _ _ _ _ w'
  rw[QY hcl hj d7,QY hcl hj d8,QY hcl hj d9];exact r')))
 have hw:Region.wanted { dst:=some 48,op:=Op.call { callee:=Callee.builtin Builtin.append,args:=#[Operand.tmp 45,Operand.tmp 47],argTypes:=#[77,77] },type:=ty,pos:=ps,after:=af,guard:=none } (yielded #[] a.tmps)=true:=by simp[Region.wanted]
 rw[if_pos hw] at st;exact st
theorem e4(hd:dep ops 9 4=true):QZ Tryz.prog Q ops (RF W s0 q v u C P h k x) 4 { dst:=some 49,op:=Op.load 22 (Operand.tmp 4),type:=ty,pos:=ps,after:=af,guard:=none } := by
 intro L a w K hI hj hcl hdep hK;have r:=hI.rj;have h8:=QY hcl hj hd;have c:=cell_of_one r.c9;rw[h8,cond_false] at c;have t2:=hI.i4
 show Oper.wp _ _ a w K _
 go_simp
 exact hK _ _ (hI.put 49 (by decide) (by decide) u ⟨r.a0,r.a1,r.a2,fun _=>rfl,r.a5,r.a6,r.tw,r.n3,r.m3,r.n7,r.m7,r.c8,r.c9,r.be⟩)
theorem e5:QZ Tryz.prog Q ops (RF W s0 q v u C P h k x) 5 { dst:=some 50,op:=Op.move (Operand.tmp 1),type:=ty,pos:=ps,after:=af,guard:=none } := by
 intro L a w K hI hj hcl hdep hK;have r:=hI.rj;have t2:=hI.i1
 show Oper.wp _ _ a w K _
 go_simp
 exact hK _ _ (hI.put 50 (by decide) (by decide) _ ⟨r.a0,r.a1,r.a2,r.a4,fun _=>rfl,r.a6,r.tw,r.n3,r.m3,r.n7,r.m7,r.c8,r.c9,r.be⟩)
theorem e6(hd:(af.toList.any fun e=>e.on == 5 && Region.binds .any e)=true):QZ Tryz.prog Q ops (RF W s0 q v u C P h k x) 6 { dst:=some 51,op:=Op.buildSlice 22 1 #[(0,Operand.tmp 50)],type:=ty,pos:=ps,after:=af,guard:=none } := by
 intro L a w K hI hj hcl hdep hK;have r:=hI.rj;have t46:=r.a5 (hdep 5 hd);have u46:a.tmps[50]?.getD undef = .string x:=by rw[<-NH];exact t46
 have hb:=bal (Below.refl w.heap.size w) (.cells #[.string x] 9);have r':=r.keep hb
 show Oper.wp _ _ a w K _
 go_simp
 exact hK _ _ (hI.put 51 (by decide) (by decide) _ ⟨r'.a0,r'.a1,r'.a2,r'.a4,r'.a5,fun _=>⟨_,rfl,heap_alloc_new w _,r.be.size⟩,r'.tw,r'.n3,r'.m3,r'.n7,r'.m7,r'.c8,r'.c9,r'.be⟩)
theorem e7(j:J0 W s0 q v u C P h k)(h3:(af.toList.any fun e=>e.on == 3 && Region.binds .any e)=true)(h4:(af.toList.any fun e=>e.on == 4 && Region.binds .any e)=true)(h6:(af.toList.any fun e=>e.on == 6 && Region.binds .any e)=true)(d8:dep ops 8 7=true)(d9:dep ops 9 7=true):QZ Tryz.prog Q ops (RF W s0 q v u C P h k x) 7 { dst:=some 52,op:=Op.call { callee:=Callee.builtin Builtin.append,args:=#[Operand.tmp 49,Operand.tmp 51],argTypes:=#[22,22] },type:=ty,pos:=ps,after:=af,guard:=none } := by
 intro L a w K hI hj hcl hdep hK;have r:=hI.rj;have t45:=r.a4 (hdep 4 h4);obtain⟨g,t47,htw,_⟩:=r.a6 (hdep 6 h6);rw[hj,hdep 3 h3,QY hcl hj d8,QY hcl hj d9] at r;have hl:=r.lt;have st:=QjG w (ops:=#[]) (o := { dst:=some 52,op:=Op.call { callee:=Callee.builtin Builtin.append,args:=#[Operand.tmp 49,Operand.tmp 51],argTypes:=#[22,22] },type:=ty,pos:=ps,after:=af,guard:=none }) (a:=a) (K:=K) (Q:=Q) (E:=False) rfl (Operand.tmp 49) (Operand.tmp 51) rfl (s0+3) u P t45 (r.n7 rfl) g x t47 (cell_of_one htw) j.hP hl (fun v' w' o g'=>hK _ _ (hI.put 52 (by decide) (by decide) v' (by
  have r':=r.app7 j v' g' o
  show RJ W s0 q v u C P h k x (L 0) (L 1) (L 2) (L 3) (L 4) (L 5) (L 6) true (L 8) (L 9) _ _ _ _ _ _ _ v' w'
  rw[hdep 3 h3,QY hcl hj d8,QY hcl hj d9];exact r')))
 have hw:Region.wanted { dst:=some 52,op:=Op.call { callee:=Callee.builtin Builtin.append,args:=#[Operand.tmp 49,Operand.tmp 51],argTypes:=#[22,22] },type:=ty,pos:=ps,after:=af,guard:=none } (yielded #[] a.tmps)=true:=by simp[Region.wanted]
 rw[if_pos hw] at st;exact st
theorem e8(j:J0 W s0 q v u C P h k)(h3:(af.toList.any fun e=>e.on == 3 && Region.binds .any e)=true)(h7:(af.toList.any fun e=>e.on == 7 && Region.binds .any e)=true)(d9:dep ops 9 8=true):QZ Tryz.prog Q ops (RF W s0 q v u C P h k x) 8 { dst:=none,op:=Op.store 77 (Operand.tmp 2) (Operand.tmp 48),type:=ty,pos:=ps,after:=af,guard:=none } := by
 intro L a w K hI hj hcl hdep hK;have r:=hI.rj;rw[hj,hdep 3 h3,hdep 7 h7,QY hcl hj d9] at r;have c:=cell_of_one r.c8;rw[cond_false] at c;have fz:=free_of_one r.c8;have t2:=hI.i2;obtain⟨va,vn,vc,t48⟩:=Cv.Qh (r.m3 rfl);have r':=r.put8 j;rw[t48] at r'
 show Oper.wp _ _ a w K _
 go_simp
 refine hK undef _ ⟨hI.sz,hI.df,hI.i1,hI.i2,hI.i4,hI.i5,?_⟩
 show RJ W s0 q v u C P h k x (L 0) (L 1) (L 2) (L 3) (L 4) (L 5) (L 6) (L 7) true (L 9) _ _ _ _ _ _ _ _ _
 rw[hdep 3 h3,hdep 7 h7,QY hcl hj d9];rw[<-t48] at r';rw[<-t48];exact r'
theorem e9(j:J0 W s0 q v u C P h k)(h3:(af.toList.any fun e=>e.on == 3 && Region.binds .any e)=true)(h7:(af.toList.any fun e=>e.on == 7 && Region.binds .any e)=true)(h8:(af.toList.any fun e=>e.on == 8 && Region.binds .any e)=true):QZ Tryz.prog Q ops (RF W s0 q v u C P h k x) 9 { dst:=none,op:=Op.store 22 (Operand.tmp 4) (Operand.tmp 52),type:=ty,pos:=ps,after:=af,guard:=none } := by
 intro L a w K hI hj hcl hdep hK;have r:=hI.rj;rw[hj,hdep 3 h3,hdep 7 h7,hdep 8 h8] at r;have c:=cell_of_one r.c9;rw[cond_false] at c;have fz:=free_of_one r.c9;have t2:=hI.i4;obtain⟨va,vn,vc,t52⟩:=Cv.Qh (r.m7 rfl);have r':=r.put9 j;rw[t52] at r'
 show Oper.wp _ _ a w K _
 go_simp
 refine hK undef _ ⟨hI.sz,hI.df,hI.i1,hI.i2,hI.i4,hI.i5,?_⟩
 show RJ W s0 q v u C P h k x (L 0) (L 1) (L 2) (L 3) (L 4) (L 5) (L 6) (L 7) (L 8) true _ _ _ _ _ _ _ _ _
 rw[hdep 3 h3,hdep 7 h7,hdep 8 h8];rw[<-t52] at r';rw[<-t52];exact r'
end
theorem QeI{W w:World}{s0 q:Nat}{v u:Value}{C:List (Nat×Nat)}{P:LB}{h k:Nat}{x:BA}{a:Act}(j:J0 W s0 q v u C P h k)(sz:a.tmps.size=53)(df:a.defers=[])(i1:a.tmps.getD 1 undef = .string x)(i2:a.tmps.getD 2 undef = .pointer (some ⟨s0+1,0,none⟩))(i4:a.tmps.getD 4 undef = .pointer (some ⟨s0+2,0,none⟩))(i5:a.tmps.getD 5 undef = .pointer (some ⟨q,0,none⟩))(hb:Zb W w):RF W s0 q v u C P h k x (fun _=>false) a w:=by
 have hl:=j.js.lt;have js:=j.js.next hb;exact⟨sz,df,i1,i2,i4,i5,(fun e=>by cases e),(fun e=>by cases e),(fun e=>by cases e),(fun e=>by cases e),(fun e=>by cases e),(fun e=>by cases e),j.tw.next hb,fun _=>js.ot,(fun e=>by cases e),fun _=>js.op,(fun e=>by cases e),js.ct,js.cp,hb.mono (by omega)⟩
theorem Qjs{W w:World}{s0 q:Nat}{v u:Value}{C:List (Nat×Nat)}{P:LB}{h k:Nat}{x:BA}{L:Nat->Bool}{a:Act}(f:RF W s0 q v u C P h k x L a w)(hL : ∀k,k<10->L k=true) : ∃v' u',JS w s0 v' u' (C++[(h,k)]) (P++[x])∧Below (s0+1) W w:=by
 have r:=f.rj;rw[hL 3 (by decide),hL 7 (by decide),hL 8 (by decide),hL 9 (by decide)] at r
 exact⟨_,_,⟨r.c8,r.c9,r.m3 rfl,r.m7 rfl⟩,r.be⟩
end
structure CF(W:World)(q5 q9:Nat)(k:Int)(pv:Value)(pk:Int)(s:BA)(ca:OA)(cn cc:Nat)(X:LB)(tp rt:Value)(n:Nat)(d:BA)(er:Int)(L:Nat->Bool)(a:Act)(w:World):Prop where
 sz:a.tmps.size=39
 df:a.defers=[]
 i2:a.tmps.getD 2 undef = .slice ca cn cc
 i5:a.tmps.getD 5 undef = .pointer (some ⟨q5,0,none⟩)
 i9:a.tmps.getD 9 undef = .pointer (some ⟨q9,0,none⟩)
 be:Zb W w
 a0:L 0=true->a.tmps.getD 26 undef=pv
 a1:L 1=true->a.tmps.getD 27 undef = .slice ca cn cc
 a2:L 2=true->L 3=false -> ∃ao m c,a.tmps.getD 28 undef = .slice ao m c∧Qk w W.heap.size (.slice ao m c) X
 a3:L 3=true->a.tmps.getD 29 undef=tp
 a4:L 4=true->a.tmps.getD 25 undef=tp
 a5:L 5=true->a.tmps.getD 30 undef=rt
 a6:L 6=true->a.tmps.getD 31 undef = .int .i64 er
 a7:L 7=true -> ∃q,a.tmps.getD 11 undef = .pointer (some ⟨q,0,none⟩)∧W.heap.size<=q∧q<w.heap.size∧(∃n' d',Rh w q n' d')∧(L 8=true->Rh w q n d)
 a9:L 9=true->a.tmps.getD 10 undef = .int .i64 er
-- steps
section
variable {W:World} {q5 q9:Nat} {k:Int} {pv:Value} {pk:Int} {s:BA} {ca:OA} {cn cc:Nat} {X:LB} {tp rt:Value} {n:Nat} {d:BA} {er:Int} {Q:Exit->Act->World->Prop} {ops:List Oper} {ty:TypeId} {ps:String} {af:Array Edge}
theorem cf0(hq : ∀w,Zb W w -> ∃v0 v1 v2 v3 v4 v5,pv = .agg #[v0,v1,v2,v3,v4,v5]∧Six w q9 v0 v1 v2 v3 v4 v5):QZ Tryz.prog Q ops (CF W q5 q9 k pv pk s ca cn cc X tp rt n d er) 0 { dst:=some 26,op:=Op.load 55 (Operand.tmp 9),type:=ty,pos:=ps,after:=af,guard:=none } := by
 intro L a w K hI hj hcl hdep hK;have hs:26<a.tmps.size:=by rw[hI.sz];decide
 obtain⟨v0,v1,v2,v3,v4,v5,rfl,h6⟩:=hq w hI.be;obtain⟨m0,m1,m2,m3,m4,m5⟩:=h6.cells;have t9:=hI.i9
 show Oper.wp _ _ a w K _
 go_simp
 exact hK _ _ { sz:=(by simp[Act.put,hI.sz]),df:=(hI.df),i2:=(by rw[Qb a 26 2 _ hs,if_neg (by decide)];exact hI.i2),i5:=(by rw[Qb a 26 5 _ hs,if_neg (by decide)];exact hI.i5),i9:=(by rw[Qb a 26 9 _ hs,if_neg (by decide)];exact hI.i9),be:=(hI.be),a0:=(fun _=>by rw[Qb a 26 26 _ hs,if_pos rfl]),a1:=(fun h=>by rw[Qb a 26 27 _ hs,if_neg (by decide)];exact hI.a1 h),a2:=(fun h h3=>by rw[Qb a 26 28 _ hs,if_neg (by decide)];exact hI.a2 h h3),a3:=(fun h=>by rw[Qb a 26 29 _ hs,if_neg (by decide)];exact hI.a3 h),a4:=(fun h=>by rw[Qb a 26 25 _ hs,if_neg (by decide)];exact hI.a4 h),a5:=(fun h=>by rw[Qb a 26 30 _ hs,if_neg (by decide)];exact hI.a5 h),a6:=(fun h=>by rw[Qb a 26 31 _ hs,if_neg (by decide)];exact hI.a6 h),a7:=(fun h=>by rw[Qb a 26 11 _ hs,if_neg (by decide)];exact hI.a7 h),a9:=(fun h=>by rw[Qb a 26 10 _ hs,if_neg (by decide)];exact hI.a9 h) }
theorem cf1  : QZ Tryz.prog Q ops (CF W q5 q9 k pv pk s ca cn cc X tp rt n d er) 1 { dst:=some 27,op:=Op.move (Operand.tmp 2),type:=ty,pos:=ps,after:=af,guard:=none } := by
 intro L a w K hI hj hcl hdep hK;have hs:27<a.tmps.size:=by rw[hI.sz];decide
 have t2:=hI.i2
 show Oper.wp _ _ a w K _
 go_simp
 exact hK _ _ { sz:=(by simp[Act.put,hI.sz]),df:=(hI.df),i2:=(by rw[Qb a 27 2 _ hs,if_neg (by decide)];exact hI.i2),i5:=(by rw[Qb a 27 5 _ hs,if_neg (by decide)];exact hI.i5),i9:=(by rw[Qb a 27 9 _ hs,if_neg (by decide)];exact hI.i9),be:=(hI.be),a0:=(fun h=>by rw[Qb a 27 26 _ hs,if_neg (by decide)];exact hI.a0 h),a1:=(fun _=>by rw[Qb a 27 27 _ hs,if_pos rfl]),a2:=(fun h h3=>by rw[Qb a 27 28 _ hs,if_neg (by decide)];exact hI.a2 h h3),a3:=(fun h=>by rw[Qb a 27 29 _ hs,if_neg (by decide)];exact hI.a3 h),a4:=(fun h=>by rw[Qb a 27 25 _ hs,if_neg (by decide)];exact hI.a4 h),a5:=(fun h=>by rw[Qb a 27 30 _ hs,if_neg (by decide)];exact hI.a5 h),a6:=(fun h=>by rw[Qb a 27 31 _ hs,if_neg (by decide)];exact hI.a6 h),a7:=(fun h=>by rw[Qb a 27 11 _ hs,if_neg (by decide)];exact hI.a7 h),a9:=(fun h=>by rw[Qb a 27 10 _ hs,if_neg (by decide)];exact hI.a9 h) }
theorem cf2(d1:(af.toList.any fun e=>e.on == 1 && Region.binds .any e)=true)(hV : ∀w,Zb W w->Calls Tryz.prog 30 #[.slice ca cn cc] w fun e w' => ∃v,e = .returned v∧Qk w' w.heap.size v X∧Zb w w'):QZ Tryz.prog Q ops (CF W q5 q9 k pv pk s ca cn cc X tp rt n d er) 2 { dst:=some 28,op:=Op.call { callee:=Callee.value (Operand.func 30),args:=#[Operand.tmp 27],argTypes:=#[23] },type:=ty,pos:=ps,after:=af,guard:=none } := by
 intro L a w K hI hj hcl hdep hK;have hs:28<a.tmps.size:=by rw[hI.sz];decide
 have t27:=hI.a1 (hdep 1 d1)
 show Oper.wp _ _ a w K _
 go_simp
 refine(hV w hI.be).mono ?_
 rintro e w' ⟨v,rfl,ho,hb⟩;obtain⟨ao,m,c,rfl⟩:=Cv.Qh ho;exact hK _ _ { sz:=(by simp[Act.put,hI.sz]),df:=(hI.df),i2:=(by rw[Qb a 28 2 _ hs,if_neg (by decide)];exact hI.i2),i5:=(by rw[Qb a 28 5 _ hs,if_neg (by decide)];exact hI.i5),i9:=(by rw[Qb a 28 9 _ hs,if_neg (by decide)];exact hI.i9),be:=(Qa hI.be hb),a0:=(fun h=>by rw[Qb a 28 26 _ hs,if_neg (by decide)];exact hI.a0 h),a1:=(fun h=>by rw[Qb a 28 27 _ hs,if_neg (by decide)];exact hI.a1 h),a2:=(fun _ _=>⟨ao,m,c,by rw[Qb a 28 28 _ hs,if_pos rfl],Qev ho hI.be.size⟩),a3:=(fun h=>by rw[Qb a 28 29 _ hs,if_neg (by decide)];exact hI.a3 h),a4:=(fun h=>by rw[Qb a 28 25 _ hs,if_neg (by decide)];exact hI.a4 h),a5:=(fun h=>by rw[Qb a 28 30 _ hs,if_neg (by decide)];exact hI.a5 h),a6:=(fun h=>by rw[Qb a 28 31 _ hs,if_neg (by decide)];exact hI.a6 h),a7:=(fun h=>by rw[Qb a 28 11 _ hs,if_neg (by decide)];obtain⟨q,g1,g2,g3,⟨n9,d9,g4⟩,g5⟩:=hI.a7 h;exact⟨q,g1,g2,LS g3 hb.size,⟨n9,d9,g4.next hb⟩,fun h8=>(g5 h8).next hb⟩),a9:=(fun h=>by rw[Qb a 28 10 _ hs,if_neg (by decide)];exact hI.a9 h) }
theorem cf3(d0:(af.toList.any fun e=>e.on == 0 && Region.binds .any e)=true)(d2:(af.toList.any fun e=>e.on == 2 && Region.binds .any e)=true)(hL : ∀w ao m c,Zb W w->Qk w W.heap.size (.slice ao m c) X->Calls Tryz.prog 29 #[pv,.slice ao m c] w fun e w'=>e = .returned tp∧Zb w w'):QZ Tryz.prog Q ops (CF W q5 q9 k pv pk s ca cn cc X tp rt n d er) 3 { dst:=some 29,op:=Op.call { callee:=Callee.value (Operand.func 29),args:=#[Operand.tmp 26,Operand.tmp 28],argTypes:=#[55,22] },type:=ty,pos:=ps,after:=af,guard:=none } := by
 intro L a w K hI hj hcl hdep hK;have hs:29<a.tmps.size:=by rw[hI.sz];decide
 have t26:=hI.a0 (hdep 0 d0);obtain⟨ao,m,c,t28,ho⟩:=hI.a2 (hdep 2 d2) hj
 show Oper.wp _ _ a w K _
 go_simp
 refine(hL w ao m c hI.be ho).mono ?_
 rintro e w' ⟨rfl,hb⟩;exact hK _ _ { sz:=(by simp[Act.put,hI.sz]),df:=(hI.df),i2:=(by rw[Qb a 29 2 _ hs,if_neg (by decide)];exact hI.i2),i5:=(by rw[Qb a 29 5 _ hs,if_neg (by decide)];exact hI.i5),i9:=(by rw[Qb a 29 9 _ hs,if_neg (by decide)];exact hI.i9),be:=(Qa hI.be hb),a0:=(fun h=>by rw[Qb a 29 26 _ hs,if_neg (by decide)];exact hI.a0 h),a1:=(fun h=>by rw[Qb a 29 27 _ hs,if_neg (by decide)];exact hI.a1 h),a2:=(fun _ h=>by cases h),a3:=(fun _=>by rw[Qb a 29 29 _ hs,if_pos rfl]),a4:=(fun h=>by rw[Qb a 29 25 _ hs,if_neg (by decide)];exact hI.a4 h),a5:=(fun h=>by rw[Qb a 29 30 _ hs,if_neg (by decide)];exact hI.a5 h),a6:=(fun h=>by rw[Qb a 29 31 _ hs,if_neg (by decide)];exact hI.a6 h),a7:=(fun h=>by rw[Qb a 29 11 _ hs,if_neg (by decide)];obtain⟨q,g1,g2,g3,⟨n9,d9,g4⟩,g5⟩:=hI.a7 h;exact⟨q,g1,g2,LS g3 hb.size,⟨n9,d9,g4.next hb⟩,fun h8=>(g5 h8).next hb⟩),a9:=(fun h=>by rw[Qb a 29 10 _ hs,if_neg (by decide)];exact hI.a9 h) }
theorem cf4(d3:(af.toList.any fun e=>e.on == 3 && Region.binds .any e)=true):QZ Tryz.prog Q ops (CF W q5 q9 k pv pk s ca cn cc X tp rt n d er) 4 { dst:=some 25,op:=Op.move (Operand.tmp 29),type:=ty,pos:=ps,after:=af,guard:=none } := by
 intro L a w K hI hj hcl hdep hK;have hs:25<a.tmps.size:=by rw[hI.sz];decide
 have t29:=hI.a3 (hdep 3 d3)
 show Oper.wp _ _ a w K _
 go_simp
 exact hK _ _ { sz:=(by simp[Act.put,hI.sz]),df:=(hI.df),i2:=(by rw[Qb a 25 2 _ hs,if_neg (by decide)];exact hI.i2),i5:=(by rw[Qb a 25 5 _ hs,if_neg (by decide)];exact hI.i5),i9:=(by rw[Qb a 25 9 _ hs,if_neg (by decide)];exact hI.i9),be:=(hI.be),a0:=(fun h=>by rw[Qb a 25 26 _ hs,if_neg (by decide)];exact hI.a0 h),a1:=(fun h=>by rw[Qb a 25 27 _ hs,if_neg (by decide)];exact hI.a1 h),a2:=(fun h h3=>by rw[Qb a 25 28 _ hs,if_neg (by decide)];exact hI.a2 h h3),a3:=(fun h=>by rw[Qb a 25 29 _ hs,if_neg (by decide)];exact hI.a3 h),a4:=(fun _=>by rw[Qb a 25 25 _ hs,if_pos rfl]),a5:=(fun h=>by rw[Qb a 25 30 _ hs,if_neg (by decide)];exact hI.a5 h),a6:=(fun h=>by rw[Qb a 25 31 _ hs,if_neg (by decide)];exact hI.a6 h),a7:=(fun h=>by rw[Qb a 25 11 _ hs,if_neg (by decide)];exact hI.a7 h),a9:=(fun h=>by rw[Qb a 25 10 _ hs,if_neg (by decide)];exact hI.a9 h) }
theorem cf5(d4:(af.toList.any fun e=>e.on == 4 && Region.binds .any e)=true)(ht:tp = .tuple #[rt,.int .i64 er]):QZ Tryz.prog Q ops (CF W q5 q9 k pv pk s ca cn cc X tp rt n d er) 5 { dst:=some 30,op:=Op.extract (Operand.tmp 25) 0,type:=ty,pos:=ps,after:=af,guard:=none } := by
 intro L a w K hI hj hcl hdep hK;have hs:30<a.tmps.size:=by rw[hI.sz];decide
 have t25:=hI.a4 (hdep 4 d4);rw[ht] at t25
 show Oper.wp _ _ a w K _
 go_simp
 exact hK _ _ { sz:=(by simp[Act.put,hI.sz]),df:=(hI.df),i2:=(by rw[Qb a 30 2 _ hs,if_neg (by decide)];exact hI.i2),i5:=(by rw[Qb a 30 5 _ hs,if_neg (by decide)];exact hI.i5),i9:=(by rw[Qb a 30 9 _ hs,if_neg (by decide)];exact hI.i9),be:=(hI.be),a0:=(fun h=>by rw[Qb a 30 26 _ hs,if_neg (by decide)];exact hI.a0 h),a1:=(fun h=>by rw[Qb a 30 27 _ hs,if_neg (by decide)];exact hI.a1 h),a2:=(fun h h3=>by rw[Qb a 30 28 _ hs,if_neg (by decide)];exact hI.a2 h h3),a3:=(fun h=>by rw[Qb a 30 29 _ hs,if_neg (by decide)];exact hI.a3 h),a4:=(fun h=>by rw[Qb a 30 25 _ hs,if_neg (by decide)];exact hI.a4 h),a5:=(fun _=>by rw[Qb a 30 30 _ hs,if_pos rfl]),a6:=(fun h=>by rw[Qb a 30 31 _ hs,if_neg (by decide)];exact hI.a6 h),a7:=(fun h=>by rw[Qb a 30 11 _ hs,if_neg (by decide)];exact hI.a7 h),a9:=(fun h=>by rw[Qb a 30 10 _ hs,if_neg (by decide)];exact hI.a9 h) }
theorem cf6(d4:(af.toList.any fun e=>e.on == 4 && Region.binds .any e)=true)(ht:tp = .tuple #[rt,.int .i64 er]):QZ Tryz.prog Q ops (CF W q5 q9 k pv pk s ca cn cc X tp rt n d er) 6 { dst:=some 31,op:=Op.extract (Operand.tmp 25) 1,type:=ty,pos:=ps,after:=af,guard:=none } := by
 intro L a w K hI hj hcl hdep hK;have hs:31<a.tmps.size:=by rw[hI.sz];decide
 have t25:=hI.a4 (hdep 4 d4);rw[ht] at t25
 show Oper.wp _ _ a w K _
 go_simp
 exact hK _ _ { sz:=(by simp[Act.put,hI.sz]),df:=(hI.df),i2:=(by rw[Qb a 31 2 _ hs,if_neg (by decide)];exact hI.i2),i5:=(by rw[Qb a 31 5 _ hs,if_neg (by decide)];exact hI.i5),i9:=(by rw[Qb a 31 9 _ hs,if_neg (by decide)];exact hI.i9),be:=(hI.be),a0:=(fun h=>by rw[Qb a 31 26 _ hs,if_neg (by decide)];exact hI.a0 h),a1:=(fun h=>by rw[Qb a 31 27 _ hs,if_neg (by decide)];exact hI.a1 h),a2:=(fun h h3=>by rw[Qb a 31 28 _ hs,if_neg (by decide)];exact hI.a2 h h3),a3:=(fun h=>by rw[Qb a 31 29 _ hs,if_neg (by decide)];exact hI.a3 h),a4:=(fun h=>by rw[Qb a 31 25 _ hs,if_neg (by decide)];exact hI.a4 h),a5:=(fun h=>by rw[Qb a 31 30 _ hs,if_neg (by decide)];exact hI.a5 h),a6:=(fun _=>by rw[Qb a 31 31 _ hs,if_pos rfl]),a7:=(fun h=>by rw[Qb a 31 11 _ hs,if_neg (by decide)];exact hI.a7 h),a9:=(fun h=>by rw[Qb a 31 10 _ hs,if_neg (by decide)];exact hI.a9 h) }
theorem cf7(hd8:dep ops 8 7=true):QZ Tryz.prog Q ops (CF W q5 q9 k pv pk s ca cn cc X tp rt n d er) 7 { dst:=some 11,op:=Op.alloc 30,type:=ty,pos:=ps,after:=af,guard:=none } := by
 intro L a w K hI hj hcl hdep hK;have hs:11<a.tmps.size:=by rw[hI.sz];decide
 have h8:=QY hcl hj hd8
 show Oper.wp _ _ a w K _
 go_simp
 exact hK _ _ { sz:=(by simp[Act.put,hI.sz]),df:=(hI.df),i2:=(by rw[Qb a 11 2 _ hs,if_neg (by decide)];exact hI.i2),i5:=(by rw[Qb a 11 5 _ hs,if_neg (by decide)];exact hI.i5),i9:=(by rw[Qb a 11 9 _ hs,if_neg (by decide)];exact hI.i9),be:=(bal hI.be _),a0:=(fun h=>by rw[Qb a 11 26 _ hs,if_neg (by decide)];exact hI.a0 h),a1:=(fun h=>by rw[Qb a 11 27 _ hs,if_neg (by decide)];exact hI.a1 h),a2:=(fun h h3=>by rw[Qb a 11 28 _ hs,if_neg (by decide)];obtain⟨ao,m,c,g1,g2⟩:=hI.a2 h h3;exact⟨ao,m,c,g1,UW g2 _⟩),a3:=(fun h=>by rw[Qb a 11 29 _ hs,if_neg (by decide)];exact hI.a3 h),a4:=(fun h=>by rw[Qb a 11 25 _ hs,if_neg (by decide)];exact hI.a4 h),a5:=(fun h=>by rw[Qb a 11 30 _ hs,if_neg (by decide)];exact hI.a5 h),a6:=(fun h=>by rw[Qb a 11 31 _ hs,if_neg (by decide)];exact hI.a6 h),a7:=(fun _=>⟨w.heap.size,by rw[Qb a 11 11 _ hs,if_pos rfl],hI.be.size,by simp,⟨0,⟨#[]⟩,heap_alloc_new w _⟩,fun h=>by rw[if_neg (by decide),h8] at h;cases h⟩),a9:=(fun h=>by rw[Qb a 11 10 _ hs,if_neg (by decide)];exact hI.a9 h) }
theorem cf8(d5:(af.toList.any fun e=>e.on == 5 && Region.binds .any e)=true)(d7:(af.toList.any fun e=>e.on == 7 && Region.binds .any e)=true)(hd3:(af.toList.any fun e=>e.on == 3 && Region.binds .any e)=true)(hr:rt = .agg #[.int .u64 (n:Int),.string d]):QZ Tryz.prog Q ops (CF W q5 q9 k pv pk s ca cn cc X tp rt n d er) 8 { dst:=none,op:=Op.store 30 (Operand.tmp 11) (Operand.tmp 30),type:=ty,pos:=ps,after:=af,guard:=none } := by
 intro L a w K hI hj hcl hdep hK;have t30:=hI.a5 (hdep 5 d5);rw[hr] at t30;obtain⟨q,t11,g2,g3,⟨n9,d9,g4⟩,_⟩:=hI.a7 (hdep 7 d7);have h3:=hdep 3 hd3;obtain⟨k0,k1⟩:=g4.cells;have fz:=g4.fz;have hch:=QU w q n d;have hpt:=g4.put n d;unfold UH at hch hpt
 show Oper.wp _ _ a w K _
 go_simp
 exact hK undef _ { sz:=(hI.sz),df:=(hI.df),i2:=(by exact hI.i2),i5:=(by exact hI.i5),i9:=(by exact hI.i9),be:=(hI.be.trans (hch.below (by rintro b rfl;exact g2))),a0:=(fun h=>by exact hI.a0 h),a1:=(fun h=>by exact hI.a1 h),a2:=(fun _ h=>by have h3':L 3=false:=h;rw[h3] at h3';cases h3'),a3:=(fun h=>by exact hI.a3 h),a4:=(fun h=>by exact hI.a4 h),a5:=(fun h=>by exact hI.a5 h),a6:=(fun h=>by exact hI.a6 h),a7:=(fun _=>⟨q,t11,g2,by rw[hch.size];exact g3,⟨n,d,hpt⟩,fun _=>hpt⟩),a9:=(fun h=>by exact hI.a9 h) }
theorem cf9(d6:(af.toList.any fun e=>e.on == 6 && Region.binds .any e)=true):QZ Tryz.prog Q ops (CF W q5 q9 k pv pk s ca cn cc X tp rt n d er) 9 { dst:=some 10,op:=Op.assign (Operand.tmp 31),type:=ty,pos:=ps,after:=af,guard:=none } := by
 intro L a w K hI hj hcl hdep hK;have hs:10<a.tmps.size:=by rw[hI.sz];decide
 have t31:=hI.a6 (hdep 6 d6)
 show Oper.wp _ _ a w K _
 go_simp
 exact hK _ _ { sz:=(by simp[Act.put,hI.sz]),df:=(hI.df),i2:=(by rw[Qb a 10 2 _ hs,if_neg (by decide)];exact hI.i2),i5:=(by rw[Qb a 10 5 _ hs,if_neg (by decide)];exact hI.i5),i9:=(by rw[Qb a 10 9 _ hs,if_neg (by decide)];exact hI.i9),be:=(hI.be),a0:=(fun h=>by rw[Qb a 10 26 _ hs,if_neg (by decide)];exact hI.a0 h),a1:=(fun h=>by rw[Qb a 10 27 _ hs,if_neg (by decide)];exact hI.a1 h),a2:=(fun h h3=>by rw[Qb a 10 28 _ hs,if_neg (by decide)];exact hI.a2 h h3),a3:=(fun h=>by rw[Qb a 10 29 _ hs,if_neg (by decide)];exact hI.a3 h),a4:=(fun h=>by rw[Qb a 10 25 _ hs,if_neg (by decide)];exact hI.a4 h),a5:=(fun h=>by rw[Qb a 10 30 _ hs,if_neg (by decide)];exact hI.a5 h),a6:=(fun h=>by rw[Qb a 10 31 _ hs,if_neg (by decide)];exact hI.a6 h),a7:=(fun h=>by rw[Qb a 10 11 _ hs,if_neg (by decide)];exact hI.a7 h),a9:=(fun _=>by rw[Qb a 10 10 _ hs,if_pos rfl]) }
end
end Go.Proofs.YtdocjikpcbmcgaaGreatDoor
