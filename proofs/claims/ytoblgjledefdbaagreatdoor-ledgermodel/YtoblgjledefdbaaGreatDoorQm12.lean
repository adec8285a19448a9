/- Own work. -/
import Derived.Test.YtoblgjledefdbaaGreatDoorQm09
set_option maxRecDepth 100000
set_option maxHeartbeats 1000000
namespace Go.Proofs.YtoblgjledefdbaaGreatDoor
open Go.RowKit
open Go.Proofs.Tryz
namespace St
def sv(l:List UInt8):Value := .agg (cY l).toArray
def z64:List UInt8:=List.replicate 64 0
theorem Qai:z64.length=64:=by simp[z64]
theorem Tryz.sizeSec:(prog.info? 185).map (·.size)=some 64:=by kernel_rfl
theorem Qcd(w:World):(zeroValue 185).run prog w = .ok (sv z64) w:=by kernel_rfl
theorem QH{P:Program}{fn:Func}{p:Tmp}{ty:TypeId}(h:fn.results=#[.cell p ty])(tmps:Array Value)(w:World)(b o:Nat)(cs:List Value)(d:TypeDesc)
  (hp:tmps.getD p undef = .pointer (some ⟨b,o,none⟩)) (hc:w.rangeAt b o cs)
  (hu:P.underlying ty=some d) (hd:d.isRow=true) (hi:(P.info? ty).map (·.size)=some cs.length) :
  (results fn tmps).run P w = .ok (.agg cs.toArray) w:=by
 have xA:tmps[p]?.getD undef = .pointer (some ⟨b,o,none⟩):=by simpa using hp
 simp[results,h,xA,asAddr,run_loadVar_mid w b o ty cs d hc hu hd hi]
structure Sx(w:World)(g:Nat)(l:List UInt8):Prop where
 ty:Ty w g 185
 len:l.length=64
 rng:w.rangeAt g 0 (cY l)
 thr:w.there g 0 64
section
variable {w W:World} {g:Nat} {l l':List UInt8}
theorem Sx.same(h:Sx w g l)(hb:W.heap[g]? = w.heap[g]?):Sx W g l:=⟨h.ty.same hb,h.len,QbQ h.rng hb,Qb6 h.thr hb⟩
theorem Sx.next(h:Sx w g l)(hb:Below w.heap.size w W):Sx W g l:=h.same (hb.block g h.ty.lt)
theorem Sx.set(h:Sx w g l)(hl:l'.length=64):Sx (w.setCells g 0 (cY l')) g l' :=
 ⟨Ty.sets g _ _ _ h.ty,hl,World.rangeAt_setCells_same w g 0 (cY l') (by rw[Qp,hl];exact h.thr),World.there_setCells h.thr _ _ _⟩
theorem Sx.off(h:Sx w g l){p:Nat}(hp:g≠p)(o:Nat)(vs:List Value):Sx (w.setCells p o vs) g l :=
 ⟨Ty.sets p _ _ _ h.ty,h.len,World.rangeAt_setCells_apart h.rng p o vs (.inl hp),World.there_setCells h.thr _ _ _⟩
theorem Qk8(w:World)(l:List UInt8)(hl:l.length=64):Sx (w.alloc (.cells (cY l).toArray 185)) w.heap.size l:=by
 refine⟨⟨_,_,Yq w _⟩,hl,fun j v hv => ?_,Qm w _ _ _ (by simp[Qp,hl])⟩
 rw[LX,Lm]
 simpa using hv
theorem Sx.size(h:Sx w g l):(prog.info? 185).map (·.size)=some (cY l).length:=by rw[Qp,h.len];exact Tryz.sizeSec
theorem Qfx{B:Nat}{a w:World}(h:Below B a w){b:Nat}(hb:B<=b)(o:Nat)(cs:List Value):Below B a (w.setCells b o cs):=by
 induction cs generalizing o w with
 | nil=>exact h
 | cons c r ih=>exact ih (h.setCell (p:=⟨b,o,none⟩) hb c) (o+1)
theorem QaC(g:Nat) : ∀(vs:List Value) (o:Nat) (w:World),(w.setCells g o vs).heap.size=w.heap.size
 | [],_,_=>rfl
 | v::r,o,w=>by
  rw[World.setCells,QaC g r (o+1)];simp
end
theorem UY{w:World}{ops:Array Oper}{rest:List Oper}{o:Oper}{a:Act}{Q:Exit->Act->World->Prop}(hg:o.guard=none)(hop:o.op=Op.alloc 185)
  (hK : ∀w',Sx w' w.heap.size z64->Below w.heap.size w w'->w'.heap.size=w.heap.size+1->wpList prog ops Q rest (a.put o.dst (.pointer (some ⟨w.heap.size,0,none⟩))) w'):wpList prog ops Q (o::rest) a w:=by
 refine wpList_plain hg fun K hK' => ?_
 have hz:=Qcd w;unfold Oper.wp;simp[execOp,hop,Instr.alloc,newVar,hz,Result.andThen,sv,Value.cells];exact hK' _ _ (hK _ (Qk8 w z64 Qai) (bal (Lb _ _) _) (by simp))
theorem QaF{w:World}{ops:Array Oper}{rest:List Oper}{o:Oper}{a:Act}{Q:Exit->Act->World->Prop}(hg:o.guard=none)(hop:o.op=Op.build 185 #[])
  (hK:wpList prog ops Q rest (a.put o.dst (sv z64)) w):wpList prog ops Q (o::rest) a w:=by
 refine wpList_plain hg fun K hK' => ?_
 have hz:=Qcd w;unfold Oper.wp;simp[execOp,hop,Instr.build,hz,Result.andThen];exact hK' _ _ hK
theorem Y0{w:World}{ops:Array Oper}{rest:List Oper}{o:Oper}{a:Act}{Q:Exit->Act->World->Prop}(hg:o.guard=none)(p x:Operand)(hop:o.op=Op.store 185 p x)(g:Nat)(l l':List UInt8)
  (hp:a.eval p = .pointer (some ⟨g,0,none⟩)) (hx:a.eval x=sv l') (h:Sx w g l) (hl:l'.length=64)
  (hK : ∀w',Sx w' g l'->Upo (fun x=>x=g) w w'->w'.heap.size=w.heap.size->wpList prog ops Q rest (a.put o.dst undef) w'):wpList prog ops Q (o::rest) a w:=by
 refine wpList_store_mid hg 185 p x hop g 0 (cY l').toArray hp hx (by simp only[List.size_toArray,Qp,hl];exact h.thr) (by rw[NG,Qp,hl];exact Tryz.sizeSec) (all_oneCell_toArray (Og l')) ?_
 exact hK _ (h.set hl) (Ub (S:=fun x=>x=g) (.inl rfl) _ _ _ (Upo.refl _ _)) (QaC _ _ _ _)
theorem QQ{w:World}{ops:Array Oper}{rest:List Oper}{o:Oper}{a:Act}{Q:Exit->Act->World->Prop}(hg:o.guard=none)(p:Operand)(hop:o.op=Op.load 185 p)(g:Nat)(l:List UInt8)
  (hp:a.eval p = .pointer (some ⟨g,0,none⟩)) (h:Sx w g l) (hK:wpList prog ops Q rest (a.put o.dst (sv l)) w):wpList prog ops Q (o::rest) a w :=
 wpList_load_mid hg 185 p hop g 0 hp (cY l) _ h.rng underlying185 rfl h.size hK
theorem O4(W:World)(ty tx:TypeId){d:OA}{gd od dLen dCap n c:Nat}{x:Value}{t:List UInt8}(hlen : ∀w',(Builtin.lenOf x).run prog w' = .ok n w')(hc:Nat.min n dLen=c)(ht:t.length=c)
  (hcells:(Builtin.firstCells 1 c x).run prog W = .ok (cY t).toArray W) (hd:0<c->d=some ⟨gd,od,none⟩∧W.there gd od c) :
  (Builtin.copy_ #[127,tx] ty #[.slice d dLen dCap,x]).run prog W = .ok (goInt c) (W.setCells gd od (cY t)):=by
 have hs : ∀W,(Go.sizeOf 5).run prog W = .ok 1 W:=fun W=>by kernel_rfl
 by_cases z:c=0
 ·subst z;have e0:t=[]:=List.length_eq_zero_iff.1 ht;subst e0;have xA:(Builtin.firstCells 1 0 x).run prog W = .ok #[] W:=hcells
  cases d with
  | none=>simp[Builtin.copy_,run_underlying underlying127,hlen,hs,hc,xA];rfl
  | some a=>simp[Builtin.copy_,run_underlying underlying127,hlen,hs,hc,xA];rfl
 ·obtain⟨rfl,xC⟩:=hd (by omega)
  have xB:=run_storeCells_cells (P:=prog) gd od (cY t) 0 W (by rw[Qp,ht];intro j hj;simpa using (xC j hj).1) (by rw[Qp,ht];intro j hj;simpa using (xC j hj).2) (Og _)
  simp only[Nat.add_zero] at xB;simp[Builtin.copy_,run_underlying underlying127,hlen,hs,hc,hcells];rw[xB]
  rfl
theorem Rw.first{w:World}{ao:OA}{g cap:Nat}{l:List UInt8}(h:Rw w ao g cap l){k n c:Nat}(hk:k+c<=l.length)(hcn:c<=n){ax:OA}(hx:ax=ao∨ax=ao.map (·.add k))(h0:ax=ao->k=0∨c=0)(m:Nat) :
  (Builtin.firstCells 1 c (.slice ax n m)).run prog w = .ok (cY ((l.drop k).take c)).toArray w:=by
 have xA:((l.drop k).take c).length=c:=by simp;omega
 rcases IX c with z|z
 ·subst z
  cases ax with
  | none=>exact run_firstCells_none w 1 0 n m
  | some a=>exact run_firstCells_some w 1 0 a n m [] (by simp) (fun j u hu=>by simp at hu)
 ·have ea:=h.sm (by omega)
  have xB:ax=some ⟨g,k,none⟩:=by
   rcases hx with e|e
   ·rcases h0 e with q|q
    ·rw[e,ea,q]
    ·omega
   ·rw[e,ea,NW,Addr.add_mid,Lm]
  rw[xB];refine run_firstCells_some w 1 c _ n m (cY ((l.drop k).take c)) (by rw[Qp,xA,L8]) (fun j u hu => ?_)
  rw[Addr.add_mid];have hj:j<c:=by have:=(List.getElem?_eq_some_iff.1 hu).1;rw[Qp,xA] at this;exact this
  rw[cY,NO,LQ,Lk hj,IJ,Nr] at hu;have:=h.rng ea (k+j) u hu
  rwa [Lm] at this
theorem QoC(l:List UInt8)(s k c:Nat)(hk:min (64*s) l.length=k)(hc:min (l.length - k) 64=c):(l.drop k).take c++z64.drop c=sec l s:=by
 apply IZ
 intro j;have xA:((l.drop k).take c).length=c:=by simp;omega
 by_cases hj:j<64
 ·rw[sec,Nt,IQ hj,NW]
  by_cases hjc:j<c
  ·rw[Ly (by omega),LQ,Lk hjc,Nr,show k+j=64*s+j by omega,Ld,Lh (by omega)]
   rfl
  ·rw[LK (by omega),xA,Nr,show c+(j - c)=j by omega,z64,I6,Lk hj,Ld,Nu (by omega)]
   rfl
 ·rw[Nu (by simp[Qai];omega),Nu (by rw[U9];omega)]
theorem QbY(w:World)(a:OA)(g n c s:Nat)(l:List UInt8)(ra:Rw w a g c l)(hn:l.length=n) :
  Calls prog 104 #[.slice a n c,.int .i64 ((64*s:Nat):Int)] w fun e w'=>e = .returned (sv (sec l s))∧Below w.heap.size w w':=by
 obtain⟨k,hk⟩:=Ze (64*s);have HK:Hid (64*s=k):=hk;rw[hk];obtain⟨e,he⟩:=Ze (min k n);have xQ:(0:Int)<=(e:Int):=by omega
 have xR:(e:Int)<=(n:Int):=by omega
 have xN:(if n<k then (n:Int) else (k:Int))=(e:Int):=by split <;> omega
 obtain⟨ax,hx⟩:=Ze (if c=e then a else a.map (·.add e))
 obtain⟨xE,xF⟩:=Qd0 ra (by omega) hx hn
 obtain⟨cc,xH⟩:=Ze (Nat.min (n - e) 64);have xC:min (n - e) 64=cc:=xH;have HR:Hid (Rw w a g c l∧l.length=n∧min k n=e∧(ax=a∨ax=a.map (·.add e))∧(ax=a->e=0∨n - e=0)):=⟨ra,hn,he,xE,xF⟩;clear ra xE xF hk he
 go_enter func104,ntmps104
 go_upto_region 1 with (first
  | (refine UY (by rfl) (by rfl) ?_;intro w1 hs1 hb1 hz1))
 have xK:Hid (w1.heap.size=w.heap.size+1):=hz1;clear hz1
 go_upto_region 2 with (first
  | (refine QaF (by rfl) (by rfl) ?_)
  | (refine UY (by rfl) (by rfl) ?_;intro w2 hs2 hb2 hz2;have xL:Hid (w2.heap.size=w1.heap.size+1):=hz2;clear hz2)
  | (refine Y0 (by rfl) _ _ (by rfl) w1.heap.size z64 z64 (by rfl) (by rfl) hs2 Qai ?_;intro w3 hs3 hu3 hz3;have xM:Hid (w3.heap.size=w2.heap.size):=hz3;clear hz3))
 go_frame
 obtain⟨ra,xJ,he,xE,xF⟩:=HR.out;have xG:Below w.heap.size w w3:=by
  have h2:=Qa hb1 hb2;exact⟨hu3.os.trans h2.os,hu3.tape.trans h2.tape,hu3.output.trans h2.output,Lu h2.size hu3.size,fun b hb=>(hu3.block b (by have:=h2.size;omega) (fun q=>by have:=hb1.size;omega)).trans (h2.block b hb)⟩
 have r3:Rw w3.drew a g c l:=(ra.next xG (La _)).same (W:=w3.drew) (fun _=>rfl)
 have xA:Sx w3.drew w1.heap.size z64:=hs3.same (W:=w3.drew) rfl;have HC:=O4 w3.drew 3 127 (d:=some ⟨w1.heap.size,0,none⟩) (gd:=w1.heap.size) (od:=0) (dLen:=64) (dCap:=64) (x := .slice ax (n - e) (c - e)) (t:=(l.drop e).take cc) (fun w'=>rfl) xH (by simp;omega)
  (r3.first (by omega) (by omega) xE (fun q=>(xF q).imp id (fun z=>by omega)) (c - e)) (fun _=>⟨rfl,fun j hj=>xA.thr j (by omega)⟩)
 have HS:Hid (Sx (w3.drew.setCells w1.heap.size 0 (cY ((l.drop e).take cc))) w1.heap.size (sec l s)):=by
  have e1:=QoC l s e cc (by rw[HK.out,xJ];exact he) (by rw[xJ];exact xC)
  have xI:((l.drop e).take cc).length=cc:=by simp;omega
  refine⟨Ty.sets _ _ _ _ xA.ty,U9 _ _,?_,World.there_setCells xA.thr _ _ _⟩
  have:=Uo xA.rng 0 (cY ((l.drop e).take cc)) (by rw[Qp,Qp,xI,Qai];omega) (fun j hj=>xA.thr j (by rw[Qp,xI] at hj;omega))
  rw[Qp,xI] at this;rw[<-e1,Uq]
  simpa [cY,List.map_drop] using this
 have HB:Hid (Below w.heap.size w w3∧Sx w1 w.heap.size z64∧w1.heap.size=w.heap.size+1∧Below w1.heap.size w1 w3):=⟨xG,hs1,xK.out,⟨hu3.os.trans hb2.os,hu3.tape.trans hb2.tape,hu3.output.trans hb2.output,Lu hb2.size hu3.size,fun b hb=>(hu3.block b (by have:=hb2.size;omega) (fun q=>by omega)).trans (hb2.block b hb)⟩⟩
 clear xG r3 xA ra xE xF hs1 hs2 hs3 hb1 hb2 hu3 xL xM xH xC xJ he xK
 go_region_law (first
  | (refine QcU (by rfl) _ _ _ _ (by rfl) (by rfl) (by rfl) HC ?_))
 obtain⟨w4,xD⟩:=Ze (w3.drew.setCells w1.heap.size 0 (cY ((l.drop e).take cc)));have xP:Sx w4 w1.heap.size (sec l s):=by rw[<-xD];exact HS.out
 have xO:Sx w4 w.heap.size z64:=by
  obtain⟨h1,h2,h3,h4⟩:=HB.out;rw[<-xD];exact((h2.next h4).same (W:=w3.drew) rfl).off (by omega) _ _
 have xB:Hid (Below w.heap.size w w4):=by
  obtain⟨h1,h2,h3,h4⟩:=HB.out;rw[<-xD];exact Qfx h1.drew (by omega) _ _
 rw[xD];clear xD HS HB HC hx
 go_wp2_with (first
  | (refine QQ (by rfl) _ (by rfl) w1.heap.size (sec l s) (by rfl) xP ?_)
  | (refine Y0 (by rfl) _ _ (by rfl) w.heap.size z64 (sec l s) (by rfl) (by rfl) xO (U9 l s) ?_;intro w5 hs5 hu5 hz5))
 refine Lv (v:=sv (sec l s)) ?_ rfl ⟨rfl,?_⟩
 ·exact QH results104 _ _ w.heap.size 0 (cY (sec l s)) _ (by rfl) hs5.rng underlying185 rfl hs5.size
 ·exact⟨hu5.os.trans xB.out.os,hu5.tape.trans xB.out.tape,hu5.output.trans xB.out.output,Lu xB.out.size hu5.size,fun b hb=>(hu5.block b (by have:=xB.out.size;omega) (fun q=>by omega)).trans (xB.out.block b hb)⟩
theorem QcD{α β:Type}{f:α->Option β}{g:α->β} : ∀ {l:List α},(∀x∈l,f x=some (g x))->l.mapM f=some (l.map g)
 | [],_=>rfl
 | x::r,h=>by
  rw[List.mapM_cons,h x (by simp),QcD (l:=r) (fun y hy=>h y (by simp[hy]))]
  rfl
theorem Tryz.deepSec:prog.keyTypeAt 2 185=true:=by kernel_rfl
theorem Qeg:prog.cellsOf 185=64:=by kernel_rfl
theorem QlK:prog.cellsOf 5=1:=by kernel_rfl
def litS(l:List UInt8):List Lit:=((List.range 64).map fun i=>[Lit.int .u8 ((l.getD i 0).toNat:Int)]).flatten
theorem Qg5(l:List UInt8)(hl:l.length=64):prog.keyLits 2 185 (cY l)=some (litS l):=by
 simp only[Program.keyLits,underlying185,Qp,hl,Qeg,if_true];rw[QcD (g:=fun i=>[Lit.int .u8 ((l.getD i 0).toNat:Int)])]
 ·rfl
 ·intro i hi;have xB:i<64:=by simpa using hi
  have e:((cY l).drop (i*prog.cellsOf 5)).take (prog.cellsOf 5)=[Value.int .u8 ((l.getD i 0).toNat:Int)]:=by
   rw[QlK,L8];have xA:i<(cY l).length:=by rw[Qp];omega
   rw[LN xA,Io,IF];simp[cY,List.getD_eq_getElem?_getD,List.getElem?_eq_getElem (show i<l.length by omega)]
  rw[e];generalize l.getD i 0=x;have hw:(Lit.int .u8 (x.toNat:Int)).wf=true:=WalkArith.wf_u8 (by have h1:=x.toNat_lt;omega)
  simp[underlying5,hw]
theorem Qg4(l:List UInt8)(i:Nat)(hi:i<64):(litS l)[i]? = some (Lit.int .u8 ((l.getD i 0).toNat:Int)):=by
 have:litS l=(List.range 64).map fun i=>Lit.int .u8 ((l.getD i 0).toNat:Int):=by
  simp only[litS];generalize List.range 64=r
  induction r with
  | nil=>rfl
  | cons x r ih=>rw[Iq,List.flatten_cons,ih,Iq];rfl
 rw[this,Nt,IQ hi]
 rfl
theorem Qj9{A B:List UInt8}(hA:A.length=64)(hB:B.length=64)(h:litS A=litS B):A=B:=by
 apply List.ext_getElem (by omega)
 intro i h1 h2;have e1:=Qg4 A i (by omega)
 rw[h,Qg4 B i (by omega)] at e1
 injection e1 with e1
 injection e1 with _ e1
 have e2:(B.getD i 0).toNat=(A.getD i 0).toNat:=by omega
 have e3:=UInt8.toNat_inj.1 e2
 simpa [List.getD_eq_getElem?_getD,List.getElem?_eq_getElem h1,List.getElem?_eq_getElem h2] using e3.symm
theorem Qm0(d:Nat)(w:World)(A B:List UInt8)(hA:A.length=64)(hB:B.length=64):(Op.equalIn (d+2) 185 (sv A) (sv B)).run prog w = .ok (decide (A=B)) w:=by
 have fm : ∀l:List UInt8,l.length=64->(sv l).formed prog 185=true:=fun l hl=>by
  simp[sv,Value.formed,underlying185,Qeg,Qp,hl]
 obtain⟨r,h1,h2⟩:=run_equalIn_deep d 2 185 Tryz.deepSec w 2 2 (sv A) (sv B) (litS A) (litS B) (fm A hA) (fm B hB) (by simpa [sv,Value.cells] using Qg5 A hA) (by simpa [sv,Value.cells] using Qg5 B hB)
 have xA:r=decide (A=B):=by
  by_cases e:A=B
  ·subst e;simp[h2.2 rfl]
  ·have:r=false:=by
    cases r
    ·rfl
    ·exact absurd (Qj9 hA hB (h2.1 rfl)) e
   simp[this,e]
 rw[h1,xA]
theorem QoB(w:World)(A B:List UInt8)(hA:A.length=64)(hB:B.length=64):(Op.equalIn 10000 185 (sv A) (sv B)).run prog w = .ok (decide (A=B)) w:=Qm0 9998 w A B hA hB
theorem JH{w:World}{ops:Array Oper}{rest:List Oper}{o:Oper}{a:Act}{Q:Exit->Act->World->Prop}(hg:o.guard=none)(x y:Operand)(hop:o.op=Op.binOp BinOp.neq 185 x y 185)(A B:List UInt8)
  (hx:a.eval x=sv A) (hy:a.eval y=sv B) (hA:A.length=64) (hB:B.length=64) (r:Bool) (hr:decide (A=B) = !r) (hK:wpList prog ops Q rest (a.put o.dst (.bool r)) w):wpList prog ops Q (o::rest) a w:=by
 refine wpList_plain hg fun K hK' => ?_
 have he:=QoB w A B hA hB;have hn:(binOp .neq 185 (sv A) (sv B)).run prog w = .ok (.bool r) w:=by
  unfold sv at he ⊢;rw[run_neq_struct,he,hr];simp[Result.andThen]
 unfold Oper.wp;have hq:(eqGuard BinOp.neq 185 x y (sv A) (sv B)).run prog w = .ok () w:=run_eqGuard_agg w _ _ _ _ _ _ (by kernel_rfl)
 simp[execOp,hop,hx,hy,hq,hn,Result.andThen];exact hK' _ _ hK
def cntU(p:Nat->Bool):Nat->Nat
 | 0=>0
 | n+1=>cntU p n+(if p n then 0 else 1)
theorem QhV{p:Nat->Bool}{n:Nat}(h:cntU p n=0) : ∀k,k<n->p k=true:=by
 induction n with
 | zero=>intro k hk;omega
 | succ n ih =>
  intro k hk;simp only[cntU] at h
  by_cases hp:p n=true
  ·by_cases e:k=n
   ·rw[e];exact hp
   ·exact ih (by omega) k (by omega)
  ·rw[Le hp] at h;omega
theorem Qbf{p q:Nat->Bool}{n:Nat}(h : ∀k,k<n->p k=q k):cntU p n=cntU q n:=by
 induction n with
 | zero=>rfl
 | succ n ih=>simp only[cntU];rw[ih (fun k hk=>h k (by omega)),h n (by omega)]
theorem Qei{p q:Nat->Bool}{i:Nat}(hp:p i=false)(hq:q i=true)(hne : ∀k,k≠i->q k=p k) : ∀n,i<n->cntU q n+1=cntU p n
 | 0,h=>by omega
 | n+1,h=>by
  simp only[cntU]
  by_cases e:i=n
  ·subst e;rw[hp,hq,Qbf (fun k hk=>hne k (by omega))]
   simp
  ·have:=Qei hp hq hne n (by omega)
   rw[hne n (fun h=>e h.symm)];omega
theorem QhU(n:Nat):cntU (fun _=>false) n=n:=by
 induction n with
 | zero=>rfl
 | succ n ih=>simp only[cntU,ih];rfl
def QaS(St:Nat->Oper->Prop):Nat->List Oper->Prop
 | _,[]=>True
 | n,o::r=>St n o∧QaS St (n+1) r
theorem Qb3{St:Nat->Oper->Prop} : ∀ {l:List Oper} {n j:Nat} {o:Oper},QaS St n l->l[j]? = some o->St (n+j) o
 | _::_,n,0,o,h,e=>by simp at e;subst e;exact h.1
 | _::r,n,j+1,o,h,e=>by
  have:=Qb3 (l:=r) (j:=j) h.2 (by simpa using e)
  rw[show n+(j+1)=n+1+j by omega];exact this
 | [],_,_,_,_,e=>by simp at e
theorem Qly{xs:Array Edge}{p:Edge->Bool}(h:xs.toList.any p=true) : ∃e,e∈xs∧p e=true:=by
 obtain⟨e,he,hp⟩:=List.any_eq_true.1 h;exact⟨e,by simpa using he,hp⟩
theorem QjX(a:Act)(d:Nat)(v:Value)(h:d<a.tmps.size):(a.put (some d) v).tmps.getD d undef=v:=by
 simp[Act.put,h]
theorem Qes(a:Act)(d t:Nat)(v:Value)(h:d≠t):(a.put (some d) v).tmps.getD t undef=a.tmps.getD t undef:=by
 simp only[Act.put]
 by_cases ht:t<a.tmps.size
 ·simp[Array.getD,ht,h]
 ·simp[Array.getD,ht]
def UT(a:Act):List Nat->List Value->Act
 | t::sl,v::vs=>UT (a.put (some t) v) sl vs
 | _,_=>a
theorem QaM : ∀(sl:List Nat) (vs:List Value) (a:Act),(UT a sl vs).defers=a.defers
 | [],_,_=>rfl
 | _::_,[],_=>rfl
 | t::sl,v::vs,a=>by rw[UT,QaM sl vs];rfl
theorem QcK : ∀(sl:List Nat) (vs:List Value) (a:Act),(UT a sl vs).tmps.size=a.tmps.size
 | [],_,_=>rfl
 | _::_,[],_=>rfl
 | t::sl,v::vs,a=>by rw[UT,QcK sl vs];simp[Act.put]
theorem Oo : ∀(sl:List Nat) (vs:List Value) (a:Act) (t:Nat),sl.contains t=false->(UT a sl vs).tmps.getD t undef=a.tmps.getD t undef
 | [],_,_,_,_=>rfl
 | _::_,[],_,_,_=>rfl
 | u::sl,v::vs,a,t,h=>by
  simp only[List.contains_cons,Bool.or_eq_false_iff,beq_eq_false_iff_ne] at h;rw[UT,Oo sl vs _ t h.2,Qes _ _ _ _ (fun e=>h.1 e.symm)]
def dep(ops:List Oper)(i k:Nat):Bool:=match ops[i]? with|some o=>o.after.toList.any (fun e=>e.on == k && Region.binds .any e)|none=>false
theorem QeT : ∀(sl:List Nat) (vs:List Value) (a:Act) (k:Nat),k<sl.length->sl.length=vs.length->sl.getD k 0<a.tmps.size->(∀i j,i<j->j<sl.length->sl.getD i 0≠sl.getD j 0)->(UT a sl vs).tmps.getD (sl.getD k 0) undef=vs.getD k undef
 | [],_,_,_,h,_,_,_=>by simp at h
 | _::_,[],_,_,_,h,_,_=>by simp at h
 | u::sl,v::vs,a,0,_,_,hlt,hne=>by
  have hn:sl.contains u=false:=by
   cases hc:sl.contains u with
   | false=>rfl
   | true =>
    obtain⟨i,hi,hu⟩:=NZ (List.contains_iff_mem.1 hc)
    exfalso
    refine hne 0 (i+1) (by omega) (by simp;omega) ?_
    simp[List.getD_eq_getElem?_getD,List.getElem?_eq_getElem hi,hu]
  rw[UT]
  show(UT _ sl vs).tmps.getD u undef=v
  rw[Oo sl vs _ u hn,QjX _ u v (show u<a.tmps.size from hlt)]
 | u::sl,v::vs,a,k+1,hk,hl,hlt,hne=>by
  rw[UT]
  show(UT _ sl vs).tmps.getD (sl.getD k 0) undef=vs.getD k undef
  refine QeT sl vs _ k (by simpa using hk) (by simpa using hl) ?_ (fun i j hij hj => ?_)
  ·have h2:sl.getD k 0<a.tmps.size:=hlt
   simpa [Act.put] using h2
  ·have:=hne (i+1) (j+1) (by omega) (by simpa using hj)
   simpa using this
theorem QhE{a a0:Act}{sl:List Nat}{vs:List Value}(hd:a.defers=a0.defers)(hs:a.tmps.size=a0.tmps.size)(ho : ∀t,sl.contains t=false->a.tmps.getD t undef=a0.tmps.getD t undef)
  (hv : ∀k,k<sl.length->a.tmps.getD (sl.getD k 0) undef=vs.getD k undef) (hl:sl.length=vs.length) (hne : ∀i j,i<j->j<sl.length->sl.getD i 0≠sl.getD j 0):a=UT a0 sl vs:=by
 have ht:a.tmps=(UT a0 sl vs).tmps:=by
  apply Array.ext
  ·rw[QcK,hs]
  ·intro t h1 h2;have e1:a.tmps.getD t undef=a.tmps[t]:=by simp[Array.getD,h1]
   have e2:(UT a0 sl vs).tmps.getD t undef=(UT a0 sl vs).tmps[t]:=by simp[Array.getD,h2]
   rw[<-e1,<-e2]
   cases hc:sl.contains t with
   | false=>rw[ho t hc,Oo sl vs a0 t hc]
   | true =>
    obtain⟨k,hk,hu⟩:=NZ (List.contains_iff_mem.1 hc);have e3:sl.getD k 0=t:=by rw[Ld,Lh hk];exact hu
    rw[<-e3,hv k hk,QeT sl vs a0 k hk hl (by rw[e3,<-hs];exact h1) hne]
 have xA:=hd.trans (QaM sl vs a0).symm
 cases a
 cases hp:UT a0 sl vs;rw[hp] at ht xA;simp only at ht xA;rw[ht,xA]
def J6(P:Program)(Q:Exit->Act->World->Prop)(ops:List Oper)(I:(Nat->Bool)->Act->World->Prop)(j:Nat)(o:Oper):Prop :=
 ∀(L:Nat->Bool) (a:Act) (w:World) (K:Act->World->Prop),I L a w->L j=false->(∀i k,L i=true->dep ops i k=true->L k=true) ->
  (∀k,(o.after.toList.any fun e=>e.on == k && Region.binds .any e)=true->L k=true) ->
  (∀v w',I (fun i=>if i=j then true else L i) (a.put o.dst v) w'->K (a.put o.dst v) w')->o.wp P a w K Q
theorem QaR{P:Program}{ops:Array Oper}{Q:Exit->Act->World->Prop}{id:Nat}{a0:Act}{w0:World}(hm:P.follows .mixedOrders=true)
  (hok:(List.range ops.size).all (fun j=>match ops[j]? with|none=>false|some o=>o.after.all (fun e => !Region.binds .any e || decide (e.on<j)) && o.guard.isNone)=true)
  (I:(Nat->Bool)->Act->World->Prop) (h0 : ∀w,w.heap=w0.heap->Below w0.heap.size w0 w->I (fun _=>false) a0 w)
  (step:QaS (J6 P Q ops.toList I) 0 ops.toList)
  (fin : ∀L a w,(∀k,k<ops.size->L k=true)->I L a w->Q .normal a w):(Code.region id ops true).wp P Q a0 w0:=by
 have xJ : ∀(j:Nat) (o:Oper),ops[j]? = some o->(∀e∈o.after,Region.binds .any e=true->e.on<j)∧o.guard=none:=fun j o ho=>by
  have hj:j<ops.size:=(Array.getElem?_eq_some_iff.1 ho).1
  have h1:=List.all_eq_true.1 hok j (by simpa using hj)
  rw[ho] at h1;simp only[Bool.and_eq_true] at h1;refine⟨fun e he hb => ?_,by simpa using h1.2⟩
  have:=Array.all_eq_true_iff_forall_mem.1 h1.1 e he
  simpa [hb] using this
 have xG : ∀(fuel:Nat) (listed:Array Bool) (a:Act) (w:World),listed.size=ops.size->cntU (fun k=>listed.getD k false) ops.size<=fuel ->
   I (fun k=>listed.getD k false) a w->(∀i k,listed.getD i false=true->dep ops.toList i k=true->listed.getD k false=true)->wpAny P .any ops Q fuel listed a w:=by
  intro fuel
  induction fuel with
  | zero =>
   intro listed a w hsz hc hI hcl;have xE:=QhV (Nat.le_zero.1 hc);refine⟨?_,fin _ a w (fun k hk=>xE k hk) hI⟩
   apply List.eq_nil_iff_forall_not_mem.2
   intro i hi;obtain⟨h1,o,ho,_⟩:=mem_ready.1 hi;have xA:i<ops.size:=(Array.getElem?_eq_some_iff.1 ho).1
   have h2:=xE i xA;simp[Array.getD,hsz,xA] at h1 h2;rw[h2] at h1;cases h1
  | succ fuel ih =>
   intro listed a w hsz hc hI hcl;have gd : ∀i,i<ops.size->listed.getD i true=listed.getD i false:=fun i hi=>by simp[Array.getD,hsz,hi]
   refine⟨fun hr => ?_,fun i hi => ?_⟩
   ·refine fin _ a w ?_ hI
    have : ∀n,∀k,k<n->k<ops.size->listed.getD k false=true:=by
     intro n
     induction n with
     | zero=>intro k hk;omega
     | succ n ihn =>
      intro k hk hks
      by_cases hlk:listed.getD k false=true
      ·exact hlk
      ·exfalso
       have xF:k∈Region.ready .any ops listed:=by
        refine mem_ready.2 ⟨by rw[gd k hks];simpa using hlk,ops[k],Nf hks,fun e he hb => ?_⟩
        have h1:=(xJ k ops[k] (Nf hks)).1 e he hb;exact ihn e.on (by omega) (by omega)
       rw[hr] at xF;cases xF
    exact fun k hk=>this (k+1) k (by omega) hk
   ·obtain⟨h1,o,ho,xI⟩:=mem_ready.1 hi;have xA:i<ops.size:=(Array.getElem?_eq_some_iff.1 ho).1
    have st:=Qb3 step (by rw[NU];exact ho)
    rw[Lm] at st;have xD : ∀k,(o.after.toList.any fun e=>e.on == k && Region.binds .any e)=true->listed.getD k false=true:=fun k hk=>by
     obtain⟨e,he,h2⟩:=Qly hk;simp only[Bool.and_eq_true,beq_iff_eq] at h2;obtain⟨rfl,xH⟩:=h2;exact xI e he xH
    have xB:(fun k=>(listed.setIfInBounds i true).getD k false)=fun k=>if k=i then true else listed.getD k false:=by
     funext k
     by_cases e:k=i
     ·subst e;simp[Array.getD,hsz,xA]
     ·by_cases h:k<listed.size
      ·simp[Array.getD,h,e,Ne.symm e]
      ·simp[Array.getD,h,e]
    have hK : ∀v w',I (fun k=>if k=i then true else listed.getD k false) (a.put o.dst v) w'->wpAny P .any ops Q fuel (listed.setIfInBounds i true) (a.put o.dst v) w':=fun v w' hI'=>by
     refine ih _ _ _ (by simp[hsz]) ?_ (by rw[xB];exact hI') ?_
     ·have:=Qei (p:=fun k=>listed.getD k false) (q:=fun k=>(listed.setIfInBounds i true).getD k false) (i:=i) (by rw[<-gd i xA];exact h1) (by simp[Array.getD,hsz,xA]) (fun k hk=>by
       by_cases h:k<listed.size
       ·simp[Array.getD,h,Ne.symm hk]
       ·simp[Array.getD,h]) ops.size xA
      omega
     ·intro x y hx hxy;have e1:(listed.setIfInBounds i true).getD x false=if x=i then true else listed.getD x false:=congrFun xB x
      have e2:(listed.setIfInBounds i true).getD y false=if y=i then true else listed.getD y false:=congrFun xB y
      rw[e1] at hx;rw[e2]
      by_cases ey:y=i
      ·rw[Lk ey]
      ·rw[Le ey]
       by_cases ex:x=i
       ·subst ex;refine xD y ?_
        have xC:=hxy;unfold dep at xC;rw[NU,ho] at xC;exact xC
       ·rw[Le ex] at hx;exact hcl x y hx hxy
    have xK:=st (fun k=>listed.getD k false) a w (wpAny P .any ops Q fuel (listed.setIfInBounds i true)) hI (by rw[<-gd i xA];exact h1) hcl xD hK
    unfold wpOp;simp only[ho];rw[Lk (by unfold Region.wanted;rw[(xJ i o ho).2])]
    exact Or.inl xK
 refine wp_region_any hm (xG ops.size _ a0 _ (by simp) ?_ ?_ ?_)
 ·rw[Qbf (q:=fun _=>false),QhU]
  ·exact La _
  ·intro k hk;simp[Array.getD,hk]
 ·have hf:(fun k=>(Array.replicate ops.size false).getD k false)=fun _=>false:=by
   funext k
   by_cases hk:k<ops.size
   ·simp[Array.getD,hk]
   ·simp[Array.getD,hk]
  rw[hf];exact h0 _ rfl ⟨rfl,rfl,rfl,La _,fun _ _=>rfl⟩
 ·intro i k hi hk
  exfalso
  by_cases hs:i<ops.size
  ·simp[Array.getD,hs] at hi
  ·simp[Array.getD,hs] at hi
end St
end Go.Proofs.YtoblgjledefdbaaGreatDoor
