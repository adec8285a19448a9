/- Own work. -/
import Derived.DeepKeys
import Derived.Laws.StructEq
import Derived.Test.YtoblgjledefdbaaGreatDoorProg
import Derived.Below
import Derived.WalkKit
import Derived.WalkSpells
import Derived.KernelRfl
import Derived.Deep.RegionHeld3
import Derived.Deep.RegionWith
import Derived.BigQuiet
import Derived.Test.YtoblgjledefdbaaGreatDoorQf09
namespace Go.Proofs.YtoblgjledefdbaaGreatDoor.St
open Go.RowKit
def sv (l:List UInt8):Value := .agg (cY l).toArray
def z64:List UInt8:=List.replicate 64 0
theorem z64_len:z64.length=64:=by simp [z64]
theorem Tryz.sizeSec:(Tryz.prog.info? 185).map (·.size)=some 64:=by kernel_rfl
theorem zero_sec (w:World):(zeroValue 185).run Tryz.prog w = .ok (sv z64) w:=by kernel_rfl
theorem results_cell_mid {P:Program} {fn:Func} {p:Tmp} {ty:TypeId} (h:fn.results=#[.cell p ty]) (tmps:Array Value) (w:World) (b o:Nat) (cs:List Value) (d:TypeDesc)
  (hp:tmps.getD p undef = .pointer (some ⟨b,o,none⟩)) (hc:w.rangeAt b o cs)
  (hu:P.underlying ty=some d) (hd:d.isRow=true) (hi:(P.info? ty).map (·.size)=some cs.length) :
  (results fn tmps).run P w = .ok (.agg cs.toArray) w:=by
 have hp':tmps[p]?.getD undef = .pointer (some ⟨b,o,none⟩):=by simpa using hp
 simp [results,h,hp',asAddr,run_loadVar_mid w b o ty cs d hc hu hd hi]
structure Sx (w:World) (g:Nat) (l:List UInt8):Prop where
 ty:Ty w g 185
 len:l.length=64
 rng:w.rangeAt g 0 (cY l)
 thr:w.there g 0 64
section
variable {w W:World} {g:Nat} {l l':List UInt8}
theorem Sx.same (h:Sx w g l) (hb:W.heap[g]? = w.heap[g]?):Sx W g l:=⟨h.ty.same hb,h.len,range_same h.rng hb,there_same h.thr hb⟩
theorem Sx.next (h:Sx w g l) (hb:Below w.heap.size w W):Sx W g l:=h.same (hb.block g h.ty.lt)
theorem Sx.set (h:Sx w g l) (hl:l'.length=64):Sx (w.setCells g 0 (cY l')) g l' :=
 ⟨Ty.sets g _ _ _ h.ty,hl,World.rangeAt_setCells_same w g 0 (cY l') (by rw [cY_len,hl]; exact h.thr),World.there_setCells h.thr _ _ _⟩
theorem Sx.off (h:Sx w g l) {p:Nat} (hp:g≠p) (o:Nat) (vs:List Value):Sx (w.setCells p o vs) g l :=
 ⟨Ty.sets p _ _ _ h.ty,h.len,World.rangeAt_setCells_apart h.rng p o vs (.inl hp),World.there_setCells h.thr _ _ _⟩
theorem sx_new (w:World) (l:List UInt8) (hl:l.length=64):Sx (w.alloc (.cells (cY l).toArray 185)) w.heap.size l:=by
 refine ⟨⟨_,_,new1 w _⟩,hl,fun j v hv => ?_,there_new w _ _ _ (by simp [cY_len,hl])⟩
 rw [World.cell?_alloc_new,Nat.zero_add]
 simpa using hv
theorem Sx.size (h:Sx w g l):(Tryz.prog.info? 185).map (·.size)=some (cY l).length:=by rw [cY_len,h.len]; exact Tryz.sizeSec
theorem below_sets {B:Nat} {a w:World} (h:Below B a w) {b:Nat} (hb:B≤b) (o:Nat) (cs:List Value):Below B a (w.setCells b o cs):=by
 induction cs generalizing o w with
 | nil=>exact h
 | cons c r ih=>exact ih (h.setCell (p:=⟨b,o,none⟩) hb c) (o+1)
theorem size_sets (g:Nat) : ∀ (vs:List Value) (o:Nat) (w:World),(w.setCells g o vs).heap.size=w.heap.size
 | [],_,_=>rfl
 | v::r,o,w=>by
  rw [World.setCells,size_sets g r (o+1)]
  simp
end
theorem wpList_alloc_sec {w:World} {ops:Array Oper} {rest:List Oper} {o:Oper} {a:Act} {Q:Exit→Act→World→Prop} (hg:o.guard=none) (hop:o.op=Op.alloc 185)
  (hK : ∀ w',Sx w' w.heap.size z64→Below w.heap.size w w'→w'.heap.size=w.heap.size+1→wpList Tryz.prog ops Q rest (a.put o.dst (.pointer (some ⟨w.heap.size,0,none⟩))) w'):wpList Tryz.prog ops Q (o::rest) a w:=by
 refine wpList_plain hg fun K hK' => ?_
 have hz:=zero_sec w
 unfold Oper.wp
 simp [execOp,hop,Instr.alloc,newVar,hz,Result.andThen,sv,Value.cells]
 exact hK' _ _ (hK _ (sx_new w z64 z64_len) (bal (Below.refl _ _) _) (by simp))
theorem wpList_build_sec {w:World} {ops:Array Oper} {rest:List Oper} {o:Oper} {a:Act} {Q:Exit→Act→World→Prop} (hg:o.guard=none) (hop:o.op=Op.build 185 #[])
  (hK:wpList Tryz.prog ops Q rest (a.put o.dst (sv z64)) w):wpList Tryz.prog ops Q (o::rest) a w:=by
 refine wpList_plain hg fun K hK' => ?_
 have hz:=zero_sec w
 unfold Oper.wp
 simp [execOp,hop,Instr.build,hz,Result.andThen]
 exact hK' _ _ hK
theorem wpList_store_sec {w:World} {ops:Array Oper} {rest:List Oper} {o:Oper} {a:Act} {Q:Exit→Act→World→Prop} (hg:o.guard=none) (p x:Operand) (hop:o.op=Op.store 185 p x) (g:Nat) (l l':List UInt8)
  (hp:a.eval p = .pointer (some ⟨g,0,none⟩)) (hx:a.eval x=sv l') (h:Sx w g l) (hl:l'.length=64)
  (hK : ∀ w',Sx w' g l'→Upo (fun x=>x=g) w w'→w'.heap.size=w.heap.size→wpList Tryz.prog ops Q rest (a.put o.dst undef) w'):wpList Tryz.prog ops Q (o::rest) a w:=by
 refine wpList_store_mid hg 185 p x hop g 0 (cY l').toArray hp hx (by simp only [List.size_toArray,cY_len,hl]; exact h.thr) (by rw [List.size_toArray,cY_len,hl]; exact Tryz.sizeSec) (all_oneCell_toArray (cY_one l')) ?_
 exact hK _ (h.set hl) (upo_sets (S:=fun x=>x=g) (.inl rfl) _ _ _ (Upo.refl _ _)) (size_sets _ _ _ _)
theorem wpList_load_sec {w:World} {ops:Array Oper} {rest:List Oper} {o:Oper} {a:Act} {Q:Exit→Act→World→Prop} (hg:o.guard=none) (p:Operand) (hop:o.op=Op.load 185 p) (g:Nat) (l:List UInt8)
  (hp:a.eval p = .pointer (some ⟨g,0,none⟩)) (h:Sx w g l) (hK:wpList Tryz.prog ops Q rest (a.put o.dst (sv l)) w):wpList Tryz.prog ops Q (o::rest) a w :=
 wpList_load_mid hg 185 p hop g 0 hp (cY l) _ h.rng Tryz.underlying185 rfl h.size hK
theorem run_copy_any (W:World) (ty tx:TypeId) {d:Option Addr} {gd od dLen dCap n c:Nat} {x:Value} {t:List UInt8} (hlen : ∀ w',(Builtin.lenOf x).run Tryz.prog w' = .ok n w') (hc:Nat.min n dLen=c) (ht:t.length=c)
  (hcells:(Builtin.firstCells 1 c x).run Tryz.prog W = .ok (cY t).toArray W) (hd:0<c→d=some ⟨gd,od,none⟩∧W.there gd od c) :
  (Builtin.copy_ #[127,tx] ty #[.slice d dLen dCap,x]).run Tryz.prog W = .ok (goInt c) (W.setCells gd od (cY t)):=by
 have hs : ∀ W,(Go.sizeOf 5).run Tryz.prog W = .ok 1 W:=fun W=>by kernel_rfl
 by_cases z:c=0
 ·subst z
  have e0:t=[]:=List.length_eq_zero_iff.1 ht
  subst e0
  have hcells':(Builtin.firstCells 1 0 x).run Tryz.prog W = .ok #[] W:=hcells
  cases d with
  | none=>simp [Builtin.copy_,run_underlying Tryz.underlying127,hlen,hs,hc,hcells']; rfl
  | some a=>simp [Builtin.copy_,run_underlying Tryz.underlying127,hlen,hs,hc,hcells']; rfl
 ·obtain ⟨rfl,hth⟩:=hd (by omega)
  have hst:=run_storeCells_cells (P:=Tryz.prog) gd od (cY t) 0 W (by rw [cY_len,ht]; intro j hj; simpa using (hth j hj).1) (by rw [cY_len,ht]; intro j hj; simpa using (hth j hj).2) (cY_one _)
  simp only [Nat.add_zero] at hst
  simp [Builtin.copy_,run_underlying Tryz.underlying127,hlen,hs,hc,hcells]
  rw [hst]
  rfl
theorem Rw.first {w:World} {ao:Option Addr} {g cap:Nat} {l:List UInt8} (h:Rw w ao g cap l) {k n c:Nat} (hk:k+c≤l.length) (hcn:c≤n) {ax:Option Addr} (hx:ax=ao∨ax=ao.map (·.add k)) (h0:ax=ao→k=0∨c=0) (m:Nat) :
  (Builtin.firstCells 1 c (.slice ax n m)).run Tryz.prog w = .ok (cY ((l.drop k).take c)).toArray w:=by
 have hlen:((l.drop k).take c).length=c:=by simp; omega
 rcases Nat.eq_zero_or_pos c with z | z
 ·subst z
  cases ax with
  | none=>exact run_firstCells_none w 1 0 n m
  | some a=>exact run_firstCells_some w 1 0 a n m [] (by simp) (fun j u hu=>by simp at hu)
 ·have ea:=h.sm (by omega)
  have eax:ax=some ⟨g,k,none⟩:=by
   rcases hx with e | e
   ·rcases h0 e with q | q
    ·rw [e,ea,q]
    ·omega
   ·rw [e,ea,Option.map_some,Addr.add_mid,Nat.zero_add]
  rw [eax]
  refine run_firstCells_some w 1 c _ n m (cY ((l.drop k).take c)) (by rw [cY_len,hlen,Nat.mul_one]) (fun j u hu => ?_)
  rw [Addr.add_mid]
  have hj:j<c:=by have:=(List.getElem?_eq_some_iff.1 hu).1; rw [cY_len,hlen] at this; exact this
  rw [cY,List.map_take,List.getElem?_take,if_pos hj,List.map_drop,List.getElem?_drop] at hu
  have:=h.rng ea (k+j) u hu
  rwa [Nat.zero_add] at this
theorem sec_is (l:List UInt8) (s k c:Nat) (hk:min (64 * s) l.length=k) (hc:min (l.length - k) 64=c):(l.drop k).take c++z64.drop c=sec l s:=by
 apply List.ext_getElem?
 intro j
 have hlen:((l.drop k).take c).length=c:=by simp; omega
 by_cases hj:j<64
 ·rw [sec,List.getElem?_map,List.getElem?_range hj,Option.map_some]
  by_cases hjc:j<c
  ·rw [List.getElem?_append_left (by omega),List.getElem?_take,if_pos hjc,List.getElem?_drop,show k+j=64 * s+j by omega,List.getD_eq_getElem?_getD,List.getElem?_eq_getElem (by omega)]
   rfl
  ·rw [List.getElem?_append_right (by omega),hlen,List.getElem?_drop,show c+(j - c)=j by omega,z64,List.getElem?_replicate,if_pos hj,List.getD_eq_getElem?_getD,List.getElem?_eq_none (by omega)]
   rfl
 ·rw [List.getElem?_eq_none (by simp [z64_len]; omega),List.getElem?_eq_none (by rw [sec_len]; omega)]
set_option maxRecDepth 100000 in
set_option maxHeartbeats 1000000 in
theorem sector_any (w:World) (a:Option Addr) (g n c s:Nat) (l:List UInt8) (ra:Rw w a g c l) (hn:l.length=n) :
  Calls Tryz.prog 104 #[.slice a n c,.int .i64 ((64 * s:Nat):Int)] w fun e w'=>e = .returned (sv (sec l s))∧Below w.heap.size w w':=by
 obtain ⟨k,hk⟩ : ∃ k,64 * s=k:=⟨_,rfl⟩
 have HK:Hid (64 * s=k):=hk
 rw [hk]
 obtain ⟨e,he⟩ : ∃ e,min k n=e:=⟨_,rfl⟩
 have he1:(0:Int)≤(e:Int):=by omega
 have he2:(e:Int)≤(n:Int):=by omega
 have hmin:(if n<k then (n:Int) else (k:Int))=(e:Int):=by split <;> omega
 obtain ⟨ax,hx⟩ : ∃ ax,(if c=e then a else a.map (·.add e))=ax:=⟨_,rfl⟩
 obtain ⟨hx1,hx2⟩:=sub_ok ra (by omega) hx hn
 obtain ⟨cc,hcc⟩ : ∃ cc,Nat.min (n - e) 64=cc:=⟨_,rfl⟩
 have hcc':min (n - e) 64=cc:=hcc
 have HR:Hid (Rw w a g c l∧l.length=n∧min k n=e∧(ax=a∨ax=a.map (·.add e))∧(ax=a→e=0∨n - e=0)):=⟨ra,hn,he,hx1,hx2⟩
 clear ra hx1 hx2 hk he
 go_enter Tryz.func104,Tryz.ntmps104
 go_upto_region 1 with (first
  | (refine wpList_alloc_sec (by rfl) (by rfl) ?_; intro w1 hs1 hb1 hz1))
 have HZ1:Hid (w1.heap.size=w.heap.size+1):=hz1
 clear hz1
 go_upto_region 2 with (first
  | (refine wpList_build_sec (by rfl) (by rfl) ?_)
  | (refine wpList_alloc_sec (by rfl) (by rfl) ?_; intro w2 hs2 hb2 hz2; have HZ2:Hid (w2.heap.size=w1.heap.size+1):=hz2; clear hz2)
  | (refine wpList_store_sec (by rfl) _ _ (by rfl) w1.heap.size z64 z64 (by rfl) (by rfl) hs2 z64_len ?_; intro w3 hs3 hu3 hz3; have HZ3:Hid (w3.heap.size=w2.heap.size):=hz3; clear hz3))
 go_frame
 obtain ⟨ra,hnn,he,hx1,hx2⟩:=HR.out
 have hb3:Below w.heap.size w w3:=by
  have h2:=bnext hb1 hb2
  exact ⟨hu3.os.trans h2.os,hu3.tape.trans h2.tape,hu3.output.trans h2.output,Nat.le_trans h2.size hu3.size,fun b hb=>(hu3.block b (by have:=h2.size; omega) (fun q=>by have:=hb1.size; omega)).trans (h2.block b hb)⟩
 have r3:Rw w3.drew a g c l:=(ra.next hb3 (Nat.le_refl _)).same (W:=w3.drew) (fun _=>rfl)
 have hs3':Sx w3.drew w1.heap.size z64:=hs3.same (W:=w3.drew) rfl
 have HC:=run_copy_any w3.drew 3 127 (d:=some ⟨w1.heap.size,0,none⟩) (gd:=w1.heap.size) (od:=0) (dLen:=64) (dCap:=64) (x := .slice ax (n - e) (c - e)) (t:=(l.drop e).take cc) (fun w'=>rfl) hcc (by simp; omega)
  (r3.first (by omega) (by omega) hx1 (fun q=>(hx2 q).imp id (fun z=>by omega)) (c - e)) (fun _=>⟨rfl,fun j hj=>hs3'.thr j (by omega)⟩)
 have HS:Hid (Sx (w3.drew.setCells w1.heap.size 0 (cY ((l.drop e).take cc))) w1.heap.size (sec l s)):=by
  have e1:=sec_is l s e cc (by rw [HK.out,hnn]; exact he) (by rw [hnn]; exact hcc')
  have hl4:((l.drop e).take cc).length=cc:=by simp; omega
  refine ⟨Ty.sets _ _ _ _ hs3'.ty,sec_len _ _,?_,World.there_setCells hs3'.thr _ _ _⟩
  have:=range_mid hs3'.rng 0 (cY ((l.drop e).take cc)) (by rw [cY_len,cY_len,hl4,z64_len]; omega) (fun j hj=>hs3'.thr j (by rw [cY_len,hl4] at hj; omega))
  rw [cY_len,hl4] at this
  rw [← e1,cY_app]
  simpa [cY,List.map_drop] using this
 have HB:Hid (Below w.heap.size w w3∧Sx w1 w.heap.size z64∧w1.heap.size=w.heap.size+1∧Below w1.heap.size w1 w3):=⟨hb3,hs1,HZ1.out,⟨hu3.os.trans hb2.os,hu3.tape.trans hb2.tape,hu3.output.trans hb2.output,Nat.le_trans hb2.size hu3.size,fun b hb=>(hu3.block b (by have:=hb2.size; omega) (fun q=>by omega)).trans (hb2.block b hb)⟩⟩
 clear hb3 r3 hs3' ra hx1 hx2 hs1 hs2 hs3 hb1 hb2 hu3 HZ2 HZ3 hcc hcc' hnn he HZ1
 go_region_law (first
  | (refine step_copy (by rfl) _ _ _ _ (by rfl) (by rfl) (by rfl) HC ?_))
 obtain ⟨w4,hw4⟩ : ∃ W,w3.drew.setCells w1.heap.size 0 (cY ((l.drop e).take cc))=W:=⟨_,rfl⟩
 have hs4:Sx w4 w1.heap.size (sec l s):=by rw [← hw4]; exact HS.out
 have hr4:Sx w4 w.heap.size z64:=by
  obtain ⟨h1,h2,h3,h4⟩:=HB.out
  rw [← hw4]
  exact ((h2.next h4).same (W:=w3.drew) rfl).off (by omega) _ _
 have HB4:Hid (Below w.heap.size w w4):=by
  obtain ⟨h1,h2,h3,h4⟩:=HB.out
  rw [← hw4]
  exact below_sets h1.drew (by omega) _ _
 rw [hw4]
 clear hw4 HS HB HC hx
 go_wp2_with (first
  | (refine wpList_load_sec (by rfl) _ (by rfl) w1.heap.size (sec l s) (by rfl) hs4 ?_)
  | (refine wpList_store_sec (by rfl) _ _ (by rfl) w.heap.size z64 (sec l s) (by rfl) (by rfl) hr4 (sec_len l s) ?_; intro w5 hs5 hu5 hz5))
 refine bodyPost_ret (v:=sv (sec l s)) ?_ rfl ⟨rfl,?_⟩
 ·exact results_cell_mid Tryz.results104 _ _ w.heap.size 0 (cY (sec l s)) _ (by rfl) hs5.rng Tryz.underlying185 rfl hs5.size
 ·exact ⟨hu5.os.trans HB4.out.os,hu5.tape.trans HB4.out.tape,hu5.output.trans HB4.out.output,Nat.le_trans HB4.out.size hu5.size,fun b hb=>(hu5.block b (by have:=HB4.out.size; omega) (fun q=>by omega)).trans (HB4.out.block b hb)⟩
theorem mapM_some {α β:Type} {f:α→Option β} {g:α→β} : ∀ {l:List α},(∀ x∈l,f x=some (g x))→l.mapM f=some (l.map g)
 | [],_=>rfl
 | x::r,h=>by
  rw [List.mapM_cons,h x (by simp),mapM_some (l:=r) (fun y hy=>h y (by simp [hy]))]
  rfl
theorem Tryz.deepSec:Tryz.prog.keyTypeAt 2 185=true:=by kernel_rfl
theorem cellsSec:Tryz.prog.cellsOf 185=64:=by kernel_rfl
theorem cellsU8:Tryz.prog.cellsOf 5=1:=by kernel_rfl
def litS (l:List UInt8):List Lit:=((List.range 64).map fun i=>[Lit.int .u8 ((l.getD i 0).toNat:Int)]).flatten
theorem lit_sec (l:List UInt8) (hl:l.length=64):Tryz.prog.keyLits 2 185 (cY l)=some (litS l):=by
 simp only [Program.keyLits,Tryz.underlying185,cY_len,hl,cellsSec,if_true]
 rw [mapM_some (g:=fun i=>[Lit.int .u8 ((l.getD i 0).toNat:Int)])]
 ·rfl
 ·intro i hi
  have hi':i<64:=by simpa using hi
  have e:((cY l).drop (i * Tryz.prog.cellsOf 5)).take (Tryz.prog.cellsOf 5)=[Value.int .u8 ((l.getD i 0).toNat:Int)]:=by
   rw [cellsU8,Nat.mul_one]
   have hlt:i<(cY l).length:=by rw [cY_len]; omega
   rw [List.drop_eq_getElem_cons hlt,List.take_succ_cons,List.take_zero]
   simp [cY,List.getD_eq_getElem?_getD,List.getElem?_eq_getElem (show i<l.length by omega)]
  rw [e]
  generalize l.getD i 0=x
  have hw:(Lit.int .u8 (x.toNat:Int)).wf=true:=WalkArith.wf_u8 (by have h1:=x.toNat_lt; omega)
  simp [Tryz.underlying5,hw]
theorem litS_at (l:List UInt8) (i:Nat) (hi:i<64):(litS l)[i]? = some (Lit.int .u8 ((l.getD i 0).toNat:Int)):=by
 have:litS l=(List.range 64).map fun i=>Lit.int .u8 ((l.getD i 0).toNat:Int):=by
  simp only [litS]
  generalize List.range 64=r
  induction r with
  | nil=>rfl
  | cons x r ih=>rw [List.map_cons,List.flatten_cons,ih,List.map_cons]; rfl
 rw [this,List.getElem?_map,List.getElem?_range hi]
 rfl
theorem litS_inj {A B:List UInt8} (hA:A.length=64) (hB:B.length=64) (h:litS A=litS B):A=B:=by
 apply List.ext_getElem (by omega)
 intro i h1 h2
 have e1:=litS_at A i (by omega)
 rw [h,litS_at B i (by omega)] at e1
 injection e1 with e1
 injection e1 with _ e1
 have e2:(B.getD i 0).toNat=(A.getD i 0).toNat:=by omega
 have e3:=UInt8.toNat_inj.1 e2
 simpa [List.getD_eq_getElem?_getD,List.getElem?_eq_getElem h1,List.getElem?_eq_getElem h2] using e3.symm
theorem sec_eqD (d:Nat) (w:World) (A B:List UInt8) (hA:A.length=64) (hB:B.length=64):(Op.equalIn (d+2) 185 (sv A) (sv B)).run Tryz.prog w = .ok (decide (A=B)) w:=by
 have fm : ∀ l:List UInt8,l.length=64→(sv l).formed Tryz.prog 185=true:=fun l hl=>by
  simp [sv,Value.formed,Tryz.underlying185,cellsSec,cY_len,hl]
 obtain ⟨r,h1,h2⟩:=run_equalIn_deep d 2 185 Tryz.deepSec w 2 2 (sv A) (sv B) (litS A) (litS B) (fm A hA) (fm B hB) (by simpa [sv,Value.cells] using lit_sec A hA) (by simpa [sv,Value.cells] using lit_sec B hB)
 have hrr:r=decide (A=B):=by
  by_cases e:A=B
  ·subst e
   simp [h2.2 rfl]
  ·have:r=false:=by
    cases r
    ·rfl
    ·exact absurd (litS_inj hA hB (h2.1 rfl)) e
   simp [this,e]
 rw [h1,hrr]
theorem sec_eq (w:World) (A B:List UInt8) (hA:A.length=64) (hB:B.length=64):(Op.equalIn 10000 185 (sv A) (sv B)).run Tryz.prog w = .ok (decide (A=B)) w:=sec_eqD 9998 w A B hA hB
theorem wpList_neq_sec {w:World} {ops:Array Oper} {rest:List Oper} {o:Oper} {a:Act} {Q:Exit→Act→World→Prop} (hg:o.guard=none) (x y:Operand) (hop:o.op=Op.binOp BinOp.neq 185 x y 185) (A B:List UInt8)
  (hx:a.eval x=sv A) (hy:a.eval y=sv B) (hA:A.length=64) (hB:B.length=64) (r:Bool) (hr:decide (A=B) = !r) (hK:wpList Tryz.prog ops Q rest (a.put o.dst (.bool r)) w):wpList Tryz.prog ops Q (o::rest) a w:=by
 refine wpList_plain hg fun K hK' => ?_
 have he:=sec_eq w A B hA hB
 have hn:(binOp .neq 185 (sv A) (sv B)).run Tryz.prog w = .ok (.bool r) w:=by
  unfold sv at he ⊢
  rw [run_neq_struct,he,hr]
  simp [Result.andThen]
 unfold Oper.wp
 have hq:(eqGuard BinOp.neq 185 x y (sv A) (sv B)).run Tryz.prog w = .ok () w:=run_eqGuard_agg w _ _ _ _ _ _ (by kernel_rfl)
 simp [execOp,hop,hx,hy,hq,hn,Result.andThen]
 exact hK' _ _ hK
def cntU (p:Nat→Bool):Nat→Nat
 | 0=>0
 | n+1=>cntU p n+(if p n then 0 else 1)
theorem cntU_zero {p:Nat→Bool} {n:Nat} (h:cntU p n=0) : ∀ k,k<n→p k=true:=by
 induction n with
 | zero=>intro k hk; omega
 | succ n ih =>
  intro k hk
  simp only [cntU] at h
  by_cases hp:p n=true
  ·by_cases e:k=n
   ·rw [e]; exact hp
   ·exact ih (by omega) k (by omega)
  ·rw [if_neg hp] at h; omega
theorem cntU_congr {p q:Nat→Bool} {n:Nat} (h : ∀ k,k<n→p k=q k):cntU p n=cntU q n:=by
 induction n with
 | zero=>rfl
 | succ n ih=>simp only [cntU]; rw [ih (fun k hk=>h k (by omega)),h n (by omega)]
theorem cntU_set {p q:Nat→Bool} {i:Nat} (hp:p i=false) (hq:q i=true) (hne : ∀ k,k≠i→q k=p k) : ∀ n,i<n→cntU q n+1=cntU p n
 | 0,h=>by omega
 | n+1,h=>by
  simp only [cntU]
  by_cases e:i=n
  ·subst e
   rw [hp,hq,cntU_congr (fun k hk=>hne k (by omega))]
   simp
  ·have:=cntU_set hp hq hne n (by omega)
   rw [hne n (fun h=>e h.symm)]; omega
theorem cntU_none (n:Nat):cntU (fun _=>false) n=n:=by
 induction n with
 | zero=>rfl
 | succ n ih=>simp only [cntU,ih]; rfl
def StepAll (St:Nat→Oper→Prop):Nat→List Oper→Prop
 | _,[]=>True
 | n,o::r=>St n o∧StepAll St (n+1) r
theorem stepAll_at {St:Nat→Oper→Prop} : ∀ {l:List Oper} {n j:Nat} {o:Oper},StepAll St n l→l[j]? = some o→St (n+j) o
 | _::_,n,0,o,h,e=>by simp at e; subst e; exact h.1
 | _::r,n,j+1,o,h,e=>by
  have:=stepAll_at (l:=r) (j:=j) h.2 (by simpa using e)
  rw [show n+(j+1)=n+1+j by omega]; exact this
 | [],_,_,_,_,e=>by simp at e
theorem any_mem {xs:Array Edge} {p:Edge→Bool} (h:xs.toList.any p=true) : ∃ e,e∈xs∧p e=true:=by
 obtain ⟨e,he,hp⟩:=List.any_eq_true.1 h
 exact ⟨e,by simpa using he,hp⟩
theorem getD_put (a:Act) (d:Nat) (v:Value) (h:d<a.tmps.size):(a.put (some d) v).tmps.getD d undef=v:=by
 simp [Act.put,h]
theorem getD_put_ne (a:Act) (d t:Nat) (v:Value) (h:d≠t):(a.put (some d) v).tmps.getD t undef=a.tmps.getD t undef:=by
 simp only [Act.put]
 by_cases ht:t<a.tmps.size
 ·simp [Array.getD,ht,h]
 ·simp [Array.getD,ht]
def puts (a:Act):List Nat→List Value→Act
 | t::sl,v::vs=>puts (a.put (some t) v) sl vs
 | _,_=>a
theorem puts_defers : ∀ (sl:List Nat) (vs:List Value) (a:Act),(puts a sl vs).defers=a.defers
 | [],_,_=>rfl
 | _::_,[],_=>rfl
 | t::sl,v::vs,a=>by rw [puts,puts_defers sl vs]; rfl
theorem puts_size : ∀ (sl:List Nat) (vs:List Value) (a:Act),(puts a sl vs).tmps.size=a.tmps.size
 | [],_,_=>rfl
 | _::_,[],_=>rfl
 | t::sl,v::vs,a=>by rw [puts,puts_size sl vs]; simp [Act.put]
theorem puts_other : ∀ (sl:List Nat) (vs:List Value) (a:Act) (t:Nat),sl.contains t=false→(puts a sl vs).tmps.getD t undef=a.tmps.getD t undef
 | [],_,_,_,_=>rfl
 | _::_,[],_,_,_=>rfl
 | u::sl,v::vs,a,t,h=>by
  simp only [List.contains_cons,Bool.or_eq_false_iff,beq_eq_false_iff_ne] at h
  rw [puts,puts_other sl vs _ t h.2,getD_put_ne _ _ _ _ (fun e=>h.1 e.symm)]
def dep (ops:List Oper) (i k:Nat):Bool:=match ops[i]? with | some o=>o.after.toList.any (fun e=>e.on == k && Region.binds .any e) | none=>false
theorem puts_atI : ∀ (sl:List Nat) (vs:List Value) (a:Act) (k:Nat),k<sl.length→sl.length=vs.length→sl.getD k 0<a.tmps.size→(∀ i j,i<j→j<sl.length→sl.getD i 0≠sl.getD j 0)→(puts a sl vs).tmps.getD (sl.getD k 0) undef=vs.getD k undef
 | [],_,_,_,h,_,_,_=>by simp at h
 | _::_,[],_,_,_,h,_,_=>by simp at h
 | u::sl,v::vs,a,0,_,_,hlt,hne=>by
  have hn:sl.contains u=false:=by
   cases hc:sl.contains u with
   | false=>rfl
   | true =>
    obtain ⟨i,hi,hu⟩:=List.getElem_of_mem (List.contains_iff_mem.1 hc)
    exfalso
    refine hne 0 (i+1) (by omega) (by simp; omega) ?_
    simp [List.getD_eq_getElem?_getD,List.getElem?_eq_getElem hi,hu]
  rw [puts]
  show (puts _ sl vs).tmps.getD u undef=v
  rw [puts_other sl vs _ u hn,getD_put _ u v (show u<a.tmps.size from hlt)]
 | u::sl,v::vs,a,k+1,hk,hl,hlt,hne=>by
  rw [puts]
  show (puts _ sl vs).tmps.getD (sl.getD k 0) undef=vs.getD k undef
  refine puts_atI sl vs _ k (by simpa using hk) (by simpa using hl) ?_ (fun i j hij hj => ?_)
  ·have h2:sl.getD k 0<a.tmps.size:=hlt
   simpa [Act.put] using h2
  ·have:=hne (i+1) (j+1) (by omega) (by simpa using hj)
   simpa using this
theorem act_putsI {a a0:Act} {sl:List Nat} {vs:List Value} (hd:a.defers=a0.defers) (hs:a.tmps.size=a0.tmps.size) (ho : ∀ t,sl.contains t=false→a.tmps.getD t undef=a0.tmps.getD t undef)
  (hv : ∀ k,k<sl.length→a.tmps.getD (sl.getD k 0) undef=vs.getD k undef) (hl:sl.length=vs.length) (hne : ∀ i j,i<j→j<sl.length→sl.getD i 0≠sl.getD j 0):a=puts a0 sl vs:=by
 have ht:a.tmps=(puts a0 sl vs).tmps:=by
  apply Array.ext
  ·rw [puts_size,hs]
  ·intro t h1 h2
   have e1:a.tmps.getD t undef=a.tmps[t]:=by simp [Array.getD,h1]
   have e2:(puts a0 sl vs).tmps.getD t undef=(puts a0 sl vs).tmps[t]:=by simp [Array.getD,h2]
   rw [← e1,← e2]
   cases hc:sl.contains t with
   | false=>rw [ho t hc,puts_other sl vs a0 t hc]
   | true =>
    obtain ⟨k,hk,hu⟩:=List.getElem_of_mem (List.contains_iff_mem.1 hc)
    have e3:sl.getD k 0=t:=by rw [List.getD_eq_getElem?_getD,List.getElem?_eq_getElem hk]; exact hu
    rw [← e3,hv k hk,puts_atI sl vs a0 k hk hl (by rw [e3,← hs]; exact h1) hne]
 have hd':=hd.trans (puts_defers sl vs a0).symm
 cases a
 cases hp:puts a0 sl vs
 rw [hp] at ht hd'
 simp only at ht hd'
 rw [ht,hd']
def StepJ (P:Program) (Q:Exit→Act→World→Prop) (ops:List Oper) (I:(Nat→Bool)→Act→World→Prop) (j:Nat) (o:Oper):Prop :=
 ∀ (L:Nat→Bool) (a:Act) (w:World) (K:Act→World→Prop),I L a w→L j=false→(∀ i k,L i=true→dep ops i k=true→L k=true) →
  (∀ k,(o.after.toList.any fun e=>e.on == k && Region.binds .any e)=true→L k=true) →
  (∀ v w',I (fun i=>if i=j then true else L i) (a.put o.dst v) w'→K (a.put o.dst v) w')→o.wp P a w K Q
theorem wp_region_planJ {P:Program} {ops:Array Oper} {Q:Exit→Act→World→Prop} {id:Nat} {a0:Act} {w0:World} (hm:P.follows .mixedOrders=true)
  (hok:(List.range ops.size).all (fun j=>match ops[j]? with | none=>false | some o=>o.after.all (fun e => !Region.binds .any e || decide (e.on<j)) && o.guard.isNone)=true)
  (I:(Nat→Bool)→Act→World→Prop) (h0 : ∀ w,w.heap=w0.heap→Below w0.heap.size w0 w→I (fun _=>false) a0 w)
  (step:StepAll (StepJ P Q ops.toList I) 0 ops.toList)
  (fin : ∀ L a w,(∀ k,k<ops.size→L k=true)→I L a w→Q .normal a w):(Code.region id ops true).wp P Q a0 w0:=by
 have acy : ∀ (j:Nat) (o:Oper),ops[j]? = some o→(∀ e∈o.after,Region.binds .any e=true→e.on<j)∧o.guard=none:=fun j o ho=>by
  have hj:j<ops.size:=(Array.getElem?_eq_some_iff.1 ho).1
  have h1:=List.all_eq_true.1 hok j (by simpa using hj)
  rw [ho] at h1
  simp only [Bool.and_eq_true] at h1
  refine ⟨fun e he hb => ?_,by simpa using h1.2⟩
  have:=Array.all_eq_true_iff_forall_mem.1 h1.1 e he
  simpa [hb] using this
 have core : ∀ (fuel:Nat) (listed:Array Bool) (a:Act) (w:World),listed.size=ops.size→cntU (fun k=>listed.getD k false) ops.size≤fuel →
   I (fun k=>listed.getD k false) a w→(∀ i k,listed.getD i false=true→dep ops.toList i k=true→listed.getD k false=true)→wpAny P .any ops Q fuel listed a w:=by
  intro fuel
  induction fuel with
  | zero =>
   intro listed a w hsz hc hI hcl
   have hall:=cntU_zero (Nat.le_zero.1 hc)
   refine ⟨?_,fin _ a w (fun k hk=>hall k hk) hI⟩
   apply List.eq_nil_iff_forall_not_mem.2
   intro i hi
   obtain ⟨h1,o,ho,_⟩:=mem_ready.1 hi
   have hi':i<ops.size:=(Array.getElem?_eq_some_iff.1 ho).1
   have h2:=hall i hi'
   simp [Array.getD,hsz,hi'] at h1 h2
   rw [h2] at h1; cases h1
  | succ fuel ih =>
   intro listed a w hsz hc hI hcl
   have gd : ∀ i,i<ops.size→listed.getD i true=listed.getD i false:=fun i hi=>by simp [Array.getD,hsz,hi]
   refine ⟨fun hr => ?_,fun i hi => ?_⟩
   ·refine fin _ a w ?_ hI
    have : ∀ n,∀ k,k<n→k<ops.size→listed.getD k false=true:=by
     intro n
     induction n with
     | zero=>intro k hk; omega
     | succ n ihn =>
      intro k hk hks
      by_cases hlk:listed.getD k false=true
      ·exact hlk
      ·exfalso
       have hmem:k∈Region.ready .any ops listed:=by
        refine mem_ready.2 ⟨by rw [gd k hks]; simpa using hlk,ops[k],Array.getElem?_eq_getElem hks,fun e he hb => ?_⟩
        have h1:=(acy k ops[k] (Array.getElem?_eq_getElem hks)).1 e he hb
        exact ihn e.on (by omega) (by omega)
       rw [hr] at hmem; cases hmem
    exact fun k hk=>this (k+1) k (by omega) hk
   ·obtain ⟨h1,o,ho,hdep⟩:=mem_ready.1 hi
    have hi':i<ops.size:=(Array.getElem?_eq_some_iff.1 ho).1
    have st:=stepAll_at step (by rw [Array.getElem?_toList]; exact ho)
    rw [Nat.zero_add] at st
    have dval : ∀ k,(o.after.toList.any fun e=>e.on == k && Region.binds .any e)=true→listed.getD k false=true:=fun k hk=>by
     obtain ⟨e,he,h2⟩:=any_mem hk
     simp only [Bool.and_eq_true,beq_iff_eq] at h2
     obtain ⟨rfl,hbnd⟩:=h2
     exact hdep e he hbnd
    have hfun:(fun k=>(listed.setIfInBounds i true).getD k false)=fun k=>if k=i then true else listed.getD k false:=by
     funext k
     by_cases e:k=i
     ·subst e; simp [Array.getD,hsz,hi']
     ·by_cases h:k<listed.size
      ·simp [Array.getD,h,e,Ne.symm e]
      ·simp [Array.getD,h,e]
    have hK : ∀ v w',I (fun k=>if k=i then true else listed.getD k false) (a.put o.dst v) w'→wpAny P .any ops Q fuel (listed.setIfInBounds i true) (a.put o.dst v) w':=fun v w' hI'=>by
     refine ih _ _ _ (by simp [hsz]) ?_ (by rw [hfun]; exact hI') ?_
     ·have:=cntU_set (p:=fun k=>listed.getD k false) (q:=fun k=>(listed.setIfInBounds i true).getD k false) (i:=i) (by rw [← gd i hi']; exact h1) (by simp [Array.getD,hsz,hi']) (fun k hk=>by
       by_cases h:k<listed.size
       ·simp [Array.getD,h,Ne.symm hk]
       ·simp [Array.getD,h]) ops.size hi'
      omega
     ·intro x y hx hxy
      have e1:(listed.setIfInBounds i true).getD x false=if x=i then true else listed.getD x false:=congrFun hfun x
      have e2:(listed.setIfInBounds i true).getD y false=if y=i then true else listed.getD y false:=congrFun hfun y
      rw [e1] at hx
      rw [e2]
      by_cases ey:y=i
      ·rw [if_pos ey]
      ·rw [if_neg ey]
       by_cases ex:x=i
       ·subst ex
        refine dval y ?_
        have hxy':=hxy
        unfold dep at hxy'
        rw [Array.getElem?_toList,ho] at hxy'
        exact hxy'
       ·rw [if_neg ex] at hx
        exact hcl x y hx hxy
    have hst:=st (fun k=>listed.getD k false) a w (wpAny P .any ops Q fuel (listed.setIfInBounds i true)) hI (by rw [← gd i hi']; exact h1) hcl dval hK
    unfold wpOp
    simp only [ho]
    rw [if_pos (by unfold Region.wanted; rw [(acy i o ho).2])]
    exact Or.inl hst
 refine wp_region_any hm (core ops.size _ a0 _ (by simp) ?_ ?_ ?_)
 ·rw [cntU_congr (q:=fun _=>false),cntU_none]
  ·exact Nat.le_refl _
  ·intro k hk; simp [Array.getD,hk]
 ·have hf:(fun k=>(Array.replicate ops.size false).getD k false)=fun _=>false:=by
   funext k
   by_cases hk:k<ops.size
   ·simp [Array.getD,hk]
   ·simp [Array.getD,hk]
  rw [hf]
  exact h0 _ rfl ⟨rfl,rfl,rfl,Nat.le_refl _,fun _ _=>rfl⟩
 ·intro i k hi hk
  exfalso
  by_cases hs:i<ops.size
  ·simp [Array.getD,hs] at hi
  ·simp [Array.getD,hs] at hi
end Go.Proofs.YtoblgjledefdbaaGreatDoor.St
