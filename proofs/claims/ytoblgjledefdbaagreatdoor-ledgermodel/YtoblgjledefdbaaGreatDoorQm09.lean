/- Own work. -/
import Derived.Test.YtoblgjledefdbaaGreatDoorQm08
set_option maxRecDepth 100000
set_option maxHeartbeats 1000000
namespace Go.Proofs.YtoblgjledefdbaaGreatDoor
open Go.RowKit
open Go.Proofs.Tryz
namespace St
theorem Qb(s:BA):s.data.toList.length=s.size:=Np
theorem QjM(s:BA)(k:Nat):(s.extract k s.size).data.toList=s.data.toList.drop k:=by
 rw[Nz,Ie,NV,Lo (by rw[Nb,Qb];omega)]
def cY(l:List UInt8):List Value:=l.map fun b=>Value.int .u8 (b.toNat:Int)
theorem Qp(l:List UInt8):(cY l).length=l.length:=by simp[cY]
theorem Uq(l m:List UInt8):cY (l++m)=cY l++cY m:=by simp[cY]
theorem Og(l:List UInt8) : ∀u∈cY l,u.oneCell'=true:=fun u hu=>by obtain⟨_,_,rfl⟩:=List.mem_map.1 hu;rfl
theorem Tryz.infoY:(prog.info? 5).map (fun i=>(i.zero,i.size,i.bytes))=some (some (.int .u8 0),1,1):=by kernel_rfl
def Ty(w:World)(g:Nat)(T:TypeId):Prop := ∃cs fr,w.heap[g]? = some (.cells cs T fr)
theorem Ty.lt{w:World}{g:Nat}{T:TypeId}(h:Ty w g T):g<w.heap.size:=by
 obtain⟨cs,fr,h⟩:=h;exact(Array.getElem?_eq_some_iff.1 h).1
theorem Ty.same{w W:World}{g:Nat}{T:TypeId}(h:Ty w g T)(hb:W.heap[g]? = w.heap[g]?):Ty W g T:=by
 obtain⟨cs,fr,h⟩:=h;exact⟨cs,fr,hb.trans h⟩
theorem Ty.set{w:World}{g:Nat}{T:TypeId}(h:Ty w g T)(b i:Nat)(v:Value):Ty (w.setCell ⟨b,i,none⟩ v) g T:=by
 by_cases e:g=b
 ·subst e;obtain⟨cs,fr,h⟩:=h;exact⟨cs.setIfInBounds i v,fr,by simp[World.setCell,Array.getElem?_modify,h]⟩
 ·exact h.same (Below.heap_setCell _ _ _ _ e)
theorem Ty.sets{g:Nat}{T:TypeId}(b:Nat) : ∀(vs:List Value) (o:Nat) (w:World),Ty w g T->Ty (w.setCells b o vs) g T
 | [],_,_,h=>h
 | v::r,o,_,h=>Ty.sets b r (o+1) _ (h.set b o v)
theorem Ty.ne{w:World}{g k:Nat}{T U:TypeId}(h:Ty w g T)(h2:Ty w k U)(hT:T≠U):g≠k:=by
 rintro rfl;obtain⟨_,_,h⟩:=h;obtain⟨_,_,h2⟩:=h2;rw[h] at h2;injection h2 with h2
 injection h2 with _ h2 _
 exact hT h2
theorem Ub{S:Nat->Prop}{w:World}{g:Nat}(hg:S g∨w.heap.size<=g) : ∀(vs:List Value) (o:Nat) (w':World),Upo S w w'->Upo S w (w'.setCells g o vs)
 | [],_,_,h=>h
 | v::r,o,_,h=>Ub hg r (o+1) _ (h.set g o v hg)
structure Rw(w:World)(ao:OA)(g cap:Nat)(l:List UInt8):Prop where
 ptr:ao=none∨ao=some ⟨g,0,none⟩
 nil:ao=none->cap=0
 ty:ao=some ⟨g,0,none⟩->Ty w g 5
 le:l.length<=cap
 rng:ao=some ⟨g,0,none⟩->w.rangeAt g 0 (cY l)
 thr:ao=some ⟨g,0,none⟩->w.there g 0 cap
section
variable {w W:World} {ao:OA} {g cap:Nat} {l:List UInt8}
theorem QdV(w:World)(g:Nat):Rw w none g 0 []:=⟨.inl rfl,fun _=>rfl,fun h=>(by cases h),La _,fun h=>(by cases h),fun h=>by cases h⟩
theorem Rw.empty(h:Rw w ao g cap l)(e:ao=none):l=[]:=List.length_eq_zero_iff.1 (by have:=h.nil e;have:=h.le;omega)
theorem Rw.sm(h:Rw w ao g cap l)(h0:0<l.length):ao=some ⟨g,0,none⟩:=by
 rcases h.ptr with e|e
 ·rw[h.empty e] at h0;simp at h0
 ·exact e
theorem QbQ{b o:Nat}{cs:List Value}(h:w.rangeAt b o cs)(hb:W.heap[b]? = w.heap[b]?):W.rangeAt b o cs:=fun j v hv=>by
 rw[LD (a:=⟨b,o+j,none⟩) hb];exact h j v hv
theorem Qb6{b o n:Nat}(h:w.there b o n)(hb:W.heap[b]? = w.heap[b]?):W.there b o n:=fun j hj=>by
 rw[LD (a:=⟨b,o+j,none⟩) hb,NN (a:=⟨b,o+j,none⟩) hb];exact h j hj
theorem Rw.same(h:Rw w ao g cap l)(hb:ao=some ⟨g,0,none⟩->W.heap[g]? = w.heap[g]?):Rw W ao g cap l :=
 ⟨h.ptr,h.nil,fun e=>(h.ty e).same (hb e),h.le,fun e=>QbQ (h.rng e) (hb e),fun e=>Qb6 (h.thr e) (hb e)⟩
theorem Rw.next{B:Nat}(h:Rw w ao g cap l)(hb:Below B w W)(hB:w.heap.size<=B):Rw W ao g cap l :=
 h.same fun e=>hb.block g (by have:=(h.ty e).lt;omega)
theorem Rw.off(h:Rw w ao g cap l){p:Nat}(i:Nat)(v:Value)(hp:ao=some ⟨g,0,none⟩->g≠p):Rw (w.setCell ⟨p,i,none⟩ v) ao g cap l :=
 h.same fun e=>Below.heap_setCell _ _ _ _ (hp e)
theorem Rw.cut(h:Rw w ao g cap l){k:Nat}(hk:k<=l.length):Rw w ao g cap (l.take k) :=
 ⟨h.ptr,h.nil,h.ty,by have:=h.le;simp;omega,fun e j v hv=>h.rng e j v (by
  rw[cY,NO] at hv;rw[LQ] at hv
  split at hv
  ·exact hv
  ·cases hv),h.thr⟩
theorem Rw.at(h:Rw w ao g cap l){j:Nat}(hj:j<l.length):w.cell? ⟨g,j,none⟩=some (.int .u8 ((l.getD j 0).toNat:Int)):=by
 have:=h.rng (h.sm (by omega)) j (.int .u8 ((l.getD j 0).toNat:Int)) (by simp[cY,List.getElem?_eq_getElem hj,List.getD_eq_getElem?_getD])
 rwa [Lm] at this
theorem Uo{b o:Nat}{cs:List Value}(h:w.rangeAt b o cs)(k:Nat)(vs:List Value)(hk:k+vs.length<=cs.length)(ht:w.there b (o+k) vs.length) :
  (w.setCells b (o+k) vs).rangeAt b o (cs.take k++vs++cs.drop (k+vs.length)):=fun j u hu=>by
 have hlen:(cs.take k).length=k:=by simp;omega
 by_cases hj:j<k
 ·rw[Lq,Ly (by omega),LQ,Lk hj] at hu
  rw[World.cell?_setCells_out b vs (o+k) w ⟨b,o+j,none⟩ (fun _ _=>Or.inl (by show o+j<o+k;omega))]
  exact h j u hu
 ·by_cases hj2:j<k+vs.length
  ·rw[Ly (by simp;omega),LK (by omega),hlen] at hu
   have:=World.cell?_setCells_in b vs (o+k) w (fun i hi=>(ht i hi).1) (j - k) (by omega)
   rw[show o+k+(j - k)=o+j by omega] at this
   rw[this,<-hu,Lh (by omega)]
  ·rw[LK (by simp;omega)] at hu
   rw[Nr,show k+vs.length+(j - (cs.take k++vs).length)=j by simp;omega] at hu
   rw[World.cell?_setCells_out b vs (o+k) w ⟨b,o+j,none⟩ (fun _ _=>Or.inr (by show o+k+vs.length<=o+j;omega))]
   exact h j u hu
theorem Rw.over(h:Rw w ao g cap l)(k:Nat)(t:List UInt8)(hk:k+t.length<=l.length):Rw (w.setCells g k (cY t)) ao g cap (l.take k++t++l.drop (k+t.length)):=by
 refine⟨h.ptr,h.nil,fun e=>Ty.sets g _ _ _ (h.ty e),by have:=h.le;simp;omega,fun e => ?_,fun e=>World.there_setCells (h.thr e) _ _ _⟩
 have:=Uo (h.rng e) k (cY t) (by rw[Qp,Qp];exact hk) (fun j hj=>by
  rw[Lm];have:=h.thr e (k+j) (by rw[Qp] at hj;have:=h.le;omega)
  rwa [Lm] at this)
 rw[Lm] at this;rw[Uq,Uq]
 simpa [cY,List.map_take,List.map_drop] using this
theorem Qcg(W:World)(ty:TypeId){ax:OA}{k n c:Nat}{t:BA}(hn:k+n<=l.length)(h:Rw W ao g cap l)(hx:ax=ao∨ax=ao.map (·.add k))(h0:ax=ao->k=0∨n=0)(hc:Nat.min t.size n=c)(m:Nat) :
  (Builtin.copy_ #[127,9] ty #[.slice ax n m,.string t]).run prog W = .ok (goInt c) (W.setCells g k (cY (t.data.toList.take c))):=by
 have hs : ∀W,(Go.sizeOf 5).run prog W = .ok 1 W:=fun W=>by kernel_rfl
 have hl:(cY (t.data.toList.take c)).length=c:=by
  rw[Qp,Lz,Qb];have:c<=t.size:=by rw[<-hc];exact IM _ _
  omega
 have he:List.take c (List.map (fun x:UInt8=>Value.int IntKind.u8 (x.toNat:Int)) t.data.toList)=cY (t.data.toList.take c):=by rw[cY,NO]
 have xD:c<=n:=by rw[<-hc];exact I7 _ _
 by_cases z:c=0
 ·subst z;have e0:cY (t.data.toList.take 0)=[]:=by simp[cY]
  rw[e0]
  cases ax with
  | none=>simp[Builtin.copy_,run_underlying underlying127,Builtin.lenOf,Builtin.firstCells,hs,hc];rfl
  | some a=>simp[Builtin.copy_,run_underlying underlying127,Builtin.lenOf,Builtin.firstCells,hs,hc];rfl
 ·have ea:=h.sm (by omega)
  have xC:ax=some ⟨g,k,none⟩:=by
   rcases hx with e|e
   ·rcases h0 e with q|q
    ·rw[e,ea,q]
    ·omega
   ·rw[e,ea,NW,Addr.add_mid,Lm]
  have xB:=h.thr ea;have xA:=run_storeCells_cells (P:=prog) g k (cY (t.data.toList.take c)) 0 W (by rw[hl];intro j hj;have:=xB (k+j) (by have:=h.le;omega);simpa using this.1) (by rw[hl];intro j hj;have:=xB (k+j) (by have:=h.le;omega);simpa using this.2) (Og _)
  simp only[Nat.add_zero] at xA;rw[xC];simp[Builtin.copy_,run_underlying underlying127,Builtin.lenOf,Builtin.firstCells,hs,hc];rw[he,xA]
  rfl
theorem Qm(w:World)(cs:Array Value)(t:TypeId)(n:Nat)(hn:n<=cs.size):(w.alloc (.cells cs t)).there w.heap.size 0 n:=fun j hj=>by
 refine⟨?_,Iy _ _ _ _⟩
 rw[LX,Lm,Nf (by omega)];rfl
theorem Rw.app(h:Rw w ao g cap l)(tx ty:TypeId)(x:Value)(t:List UInt8)(hs:Src prog 1 tx x t.length (cY t) w)(hl:l.length+t.length<=140737488355328) :
  ∃ao' g' cap' w',(Builtin.append_ #[127,tx] ty #[.slice ao l.length cap,x]).run prog w = .ok (.slice ao' (l++t).length cap') w'∧Rw w' ao' g' cap' (l++t)∧Upo (fun b=>ao=some ⟨g,0,none⟩∧b=g) w w'∧((ao'=ao∧g'=g)∨(g'=w.heap.size∧g'<w'.heap.size))∧(ao=some ⟨g,0,none⟩->Ty w' g 5):=by
 obtain⟨i0,hi,xG,xA,xH⟩:=info_parts Tryz.infoY
 by_cases hroom:l.length+t.length<=cap
 ·rcases h.ptr with e|e
  ·have hc:=h.nil e;have el:=h.empty e;have et:t=[]:=List.length_eq_zero_iff.1 (by omega)
   subst et el hc e;refine⟨none,g,0,w,?_,QdV w g,Upo.refl _ _,.inl ⟨rfl,rfl⟩,fun e=>(by cases e)⟩
   have hk:=hs.kind;have xE:=hs.cells;simp only[List.length_nil] at xE
   rcases hk with ⟨e',hk⟩|hk <;> simp[Builtin.append_,run_underlying underlying127,run_underlying hk,Go.sizeOf,typeInfo,hi,hs.len,xE,xA]
  ·subst e;have hr:=run_append_room_src (P:=prog) w 127 tx ty 5 i0 underlying127 hi g 0 l.length cap x t.length (cY t) (by rw[xA];exact hs) hroom
    (fun j hj=>by rw[xA,L8,Ni];rw[Qp] at hj;exact(h.thr rfl (l.length+j) (by omega)).1) (fun j hj=>by rw[xA,L8,Ni];rw[Qp] at hj;exact(h.thr rfl (l.length+j) (by omega)).2)
   rw[xA,L8,Lm] at hr;refine⟨_,g,cap,_,by rw[hr,Lc],⟨.inr rfl,fun e=>(by cases e),fun _=>Ty.sets g _ _ _ (h.ty rfl),by rw[Lc];exact hroom,fun _ => ?_,fun _=>World.there_setCells (h.thr rfl) _ _ _⟩,Ub (.inl ⟨rfl,rfl⟩) _ _ _ (Upo.refl _ _),.inl ⟨rfl,rfl⟩,fun _=>Ty.sets g _ _ _ (h.ty rfl)⟩
   rw[Uq];intro j u hu
   by_cases hj:j<l.length
   ·rw[Ly (by rw[Qp];exact hj)] at hu
    exact World.rangeAt_setCells_apart (h.rng rfl) g l.length (cY t) (.inr (.inl (by rw[Qp,Lm];exact La _))) j u hu
   ·rw[LK (by rw[Qp];omega),Qp] at hu
    have:=World.rangeAt_setCells_same w g l.length (cY t) (fun j hj=>by have:=h.thr rfl (l.length+j) (by rw[Qp] at hj;omega);rwa [Lm] at this) (j - l.length) u hu
    rwa [show l.length+(j - l.length)=0+j by omega] at this
 ·have xB:(Builtin.firstCells i0.size l.length (.slice ao l.length cap)).run prog w.drew = .ok (cY l).toArray w.drew:=by
   rcases h.ptr with e|e
   ·rw[e,h.empty e];exact run_firstCells_none w.drew _ 0 0 cap
   ·rw[e,xA];exact run_firstCells_some w.drew 1 l.length _ l.length cap (cY l) (by rw[Qp,L8]) (fun j u hu=>by rw[Addr.add_mid];exact h.rng e j u hu)
  have hr:=run_append_grow_src (P:=prog) w 127 tx ty 5 i0 (.int .u8 0) underlying127 hi xG ao l.length cap (cY l) xB x t.length (cY t) (by rw[xA];exact hs) (by omega) (by omega) (by rw[xH];exact growslice_fits (by omega) (by omega))
  have xD:=grownCap_ge w (l.length+t.length) cap 5;obtain⟨cc,xF⟩:=Ze (grownCap w (l.length+t.length) cap 5);rw[xF] at hr xD;refine⟨some ⟨w.heap.size,0,none⟩,w.heap.size,cc,w.drew.alloc (.cells ((cY l++cY t).toArray++Builtin.zeroCells (Value.int IntKind.u8 0).cells (cc - (l.length+t.length))) 5),by rw[hr,Lc],⟨.inr rfl,fun e=>(by cases e),fun _=>⟨_,_,LH w.drew _⟩,by rw[Lc];exact xD,fun _ => ?_,fun _ => ?_⟩,(Upo.refl _ w).drew.alloc _,.inr ⟨rfl,by simp⟩,fun e=>(h.ty e).same ((MapKept.heap_alloc w.drew _).2 g (h.ty e).lt)⟩
  ·intro j u hu
   show(w.drew.alloc _).cell? ⟨w.drew.heap.size,0+j,none⟩=some u
   rw[LX,Lm];rw[Uq] at hu;rw[IT (by have:=(List.getElem?_eq_some_iff.1 hu).1;simpa using this)]
   simpa using hu
  ·refine Qm w.drew _ 5 _ ?_
   have xC:(Value.int IntKind.u8 0).cells.size=1:=rfl;simp only[Array.size_append,List.size_toArray,size_zeroCells,xC,Qp,List.length_append];omega
theorem Qk6(w:World)(t:BA):Src prog 1 9 (.string t) t.data.toList.length (cY t.data.toList) w:=by
 rw[Qb];exact Src.ofString w underlying9 t
theorem Rw.src(h:Rw w ao g cap l){k:Nat}(hk:k<=l.length){ax:OA}(hx:ax=ao∨ax=ao.map (·.add k))(h0:ax=ao->k=0∨k=l.length)(m:Nat):Src prog 1 127 (.slice ax (l.length - k) m) (l.drop k).length (cY (l.drop k)) w:=by
 have xA:(l.drop k).length=l.length - k:=by simp
 rw[xA]
 rcases IX (l.length - k) with z|z
 ·have e:l.drop k=[]:=List.length_eq_zero_iff.1 (by omega)
  rw[e,z]
  cases ax with
  | none=>exact Src.ofNil w underlying127 m
  | some a=>exact Src.ofSlice w underlying127 a 0 m _ (by simp[cY]) (fun j u hu=>by simp[cY] at hu) (fun u hu=>by simp[cY] at hu)
 ·have ea:=h.sm (by omega)
  have xB:ax=some ⟨g,k,none⟩:=by
   rcases hx with e|e
   ·rcases h0 e with q|q
    ·rw[e,ea,q]
    ·omega
   ·rw[e,ea,NW,Addr.add_mid,Lm]
  rw[xB];refine Src.ofSlice w underlying127 _ _ m _ (by rw[Qp,xA,L8]) (fun j u hu => ?_) (Og _)
  rw[cY,IJ,Nr] at hu;have:=h.rng ea (k+j) u hu;rw[Lm] at this;rw[Addr.add_mid];exact this
theorem Rw.conv(h:Rw w ao g cap l){k n:Nat}(hk:k+n<=l.length){ax:OA}(hx:ax=ao∨ax=ao.map (·.add k))(h0:ax=ao->k=0∨n=0)(m:Nat) :
  (convert 127 9 (.slice ax n m)).run prog w = .ok (.string ⟨((l.drop k).take n).toArray⟩) w:=by
 have xA:((l.drop k).take n).length=n:=by simp;omega
 cases hax:ax with
 | none =>
  have z:n=0:=by
   rcases hx with e|e
   ·have:=h.empty (e.symm.trans hax);rw[this] at hk;simp at hk;omega
   ·have ea:ao=none:=by cases ao with
     | none=>rfl
     | some a=>rw[hax] at e;cases e
    have:=h.empty ea;rw[this] at hk;simp at hk;omega
  subst z;rw[IF];have : ∀W:World,(convert 127 9 (.slice none 0 m)).run prog W = .ok (.string ⟨#[]⟩) W:=fun W=>by
   simp[convert,run_underlying underlying127,run_underlying underlying9,run_underlying underlying5,Conv.bytesToString]
   rfl
  exact this w
 | some a =>
  have hr:=run_convert_bytes_back w 127 9 5 a m ((l.drop k).take n) underlying127 underlying5 underlying9 fun j hj => ?_
  ·rw[xA] at hr;exact hr
  ·rw[xA] at hj;have ea:=h.sm (by omega)
   have xB:a=⟨g,k,none⟩:=by
    rcases hx with e|e
    ·rcases h0 e with q|q
     ·rw[hax,ea] at e;injection e with e;rw[e,q]
     ·omega
    ·rw[hax,ea,NW,Addr.add_mid,Lm] at e;injection e
   rw[xB,Addr.add_mid,h.at (by omega)]
   have:(List.take n (List.drop k l))[j]'(by omega)=l.getD (k+j) 0:=by
    rw[List.getElem_take,List.getElem_drop,Ld,Lh (by omega)];rfl
   rw[this]
end
theorem Qfg{w w':World}{ops:Array Oper}{o:Oper}{a:Act}{K:Act->World->Prop}{Q:Exit->Act->World->Prop}{E:Prop}(hgd:o.guard=none)(s x:Operand)(t u:TypeId)
  (hop:o.op=Op.call { callee:=Callee.builtin Builtin.append,args:=#[s,x],argTypes:=#[t,u] }) {vs vx v':Value} (hs:a.eval s=vs) (hx:a.eval x=vx) (hr:(Builtin.append_ #[t,u] o.type #[vs,vx]).run prog w = .ok v' w')
  (hK:K (a.put o.dst v') w'):if Region.wanted o (yielded ops a.tmps)=true then Oper.wp prog o a w K Q else E:=by
 have hw:Region.wanted o (yielded ops a.tmps)=true:=by simp[Region.wanted,hgd]
 rw[Lk hw];unfold Oper.wp;simp[execOp,hop,resolve,invoke,builtin,hs,hx,hr,Result.andThen];exact hK
theorem QcU{w w':World}{ops:Array Oper}{o:Oper}{a:Act}{K:Act->World->Prop}{Q:Exit->Act->World->Prop}{E:Prop}(hgd:o.guard=none)(s x:Operand)(t u:TypeId)
  (hop:o.op=Op.call { callee:=Callee.builtin Builtin.copy,args:=#[s,x],argTypes:=#[t,u] }) {vs vx v':Value} (hs:a.eval s=vs) (hx:a.eval x=vx) (hr:(Builtin.copy_ #[t,u] o.type #[vs,vx]).run prog w = .ok v' w')
  (hK:K (a.put o.dst v') w'):if Region.wanted o (yielded ops a.tmps)=true then Oper.wp prog o a w K Q else E:=by
 have hw:Region.wanted o (yielded ops a.tmps)=true:=by simp[Region.wanted,hgd]
 rw[Lk hw];unfold Oper.wp;simp[execOp,hop,resolve,invoke,builtin,hs,hx,hr,Result.andThen];exact hK
def fv(a:OA)(n c:Nat)(b:OA)(m d:Nat)(s:Nat):Value := .agg #[.slice a n c,.slice b m d,.int .i64 (s:Int)]
theorem Qeo(w:World)(a:OA)(n c:Nat)(b:OA)(m d s k r:Nat)(hk:k<=n)(hc:n<=c)(hr:min s k=r) :
  Calls prog 249 #[.agg #[.slice a n c,.slice b m d,.int .i64 (s:Int)],.int .i64 (k:Int)] w fun e w'=>e = .returned (fv a k c b m d r)∧Below w.heap.size w w':=by
 have h1:(0:Int)<=(k:Int):=by omega
 have h2:(k:Int)<=(c:Int):=by omega
 have h3:Hid (min s k=r):=hr;clear hk hc hr
 go_enter func249,ntmps249;go_wp2
 ·have e:k=r:=by have:=h3.out;omega
  subst e;refine Lv (v:=fv a k c b m d k) (by simp[results,results249,go_sem,fv]) rfl ⟨rfl,bal (bal (Lb _ _) _) _⟩
 ·have e:s=r:=by have:=h3.out;omega
  subst e;refine Lv (v:=fv a k c b m d s) (by simp[results,results249,go_sem,fv]) rfl ⟨rfl,bal (bal (Lb _ _) _) _⟩
def wr(l:List UInt8)(k:Nat)(t:List UInt8):List UInt8:=l.take k++t++l.drop (k+t.length)
theorem Qlo(l:List UInt8)(k:Nat)(t:List UInt8)(hk:k<=l.length)(c:Nat)(hc:min t.length (l.length - k)=c):(l.take k++t.take c++l.drop (k+(t.take c).length))++t.drop c=wr l k t:=by
 unfold wr;have hl:(t.take c).length=c:=by simp;omega
 rw[hl]
 by_cases h:t.length<=l.length - k
 ·have e:c=t.length:=by omega
  subst e;simp
 ·have e1:l.drop (k+c)=[]:=LZ (by omega)
  have e2:l.drop (k+t.length)=[]:=LZ (by omega)
  rw[e1,e2];simp
theorem QoS(l:List UInt8)(k:Nat)(t:List UInt8)(hk:k<=l.length):(wr l k t).length=max l.length (k+t.length):=by
 simp only[wr,List.length_append,List.length_take,List.length_drop];omega
theorem Qd0{w:World}{a:OA}{g c k n:Nat}{l:List UInt8}(h:Rw w a g c l)(hk:k<=l.length){ax:OA}(hx:(if c=k then a else a.map (·.add k))=ax)(hn:l.length=n):(ax=a∨ax=a.map (·.add k))∧(ax=a->k=0∨n - k=0):=by
 have:=h.le
 by_cases e:c=k
 ·rw[Lk e] at hx;exact⟨.inl hx.symm,fun _ => .inr (by omega)⟩
 ·rw[Le e] at hx;refine⟨.inr hx.symm,fun q => ?_⟩
  rw[<-hx] at q
  rcases h.ptr with p|p
  ·have:=h.empty p;rw[this] at hn;exact .inr (by simp at hn;omega)
  ·rw[p,NW,Addr.add_mid,Lm] at q;injection q with q
   injection q with _ q _
   exact .inl q
theorem Qbq(w:World)(a:OA)(g n c:Nat)(l:List UInt8)(b:OA)(m d s k r:Nat)(t:BA)(h:Rw w a g c l)(hn:l.length=n)(hk:k<=n)(hr:min s k=r)(hl:n+t.size<=140737488355328) :
  Calls prog 344 #[.agg #[.slice a n c,.slice b m d,.int .i64 (s:Int)],.int .i64 (k:Int),.string t] w fun e w' => ∃a' g' c',e = .returned (fv a' (wr l k t.data.toList).length c' b m d r)∧Rw w' a' g' c' (wr l k t.data.toList)∧Upo (fun b=>a=some ⟨g,0,none⟩∧b=g) w w'∧((a'=a∧g'=g)∨(w.heap.size<=g'∧g'<w'.heap.size))∧(a=some ⟨g,0,none⟩->Ty w' g 5):=by
 have h1:(0:Int)<=(k:Int):=by omega
 have h2:(k:Int)<=(n:Int):=by omega
 have h3:Hid (min s k=r):=hr;obtain⟨ax,hx⟩:=Ze (if c=k then a else a.map (·.add k))
 obtain⟨cc,xE⟩:=Ze (Nat.min t.size (n - k));have xH:=Qd0 h (by omega) hx hn
 have HC:=fun(W:World) (hW:Rw W a g c l) (ty:TypeId)=>Qcg (n:=n - k) W ty (by omega) hW xH.1 xH.2 xE (c - k)
 have HH:Hid (Rw w a g c l):=h;clear hr h xH
 go_enter func344,ntmps344;have r1:Rw ((w.alloc (.cells #[.slice a n c,.slice b m d,.int .i64 (s:Int)] 129)).alloc (.cells #[.slice none 0 0,.slice none 0 0,.int .i64 0] 129)) a g c l:=HH.out.next (bal (bal (Lb _ _) _) _) (La _);have xN:=fun ty=>HC _ r1 ty
 clear HC r1
 go_upto_region 2 with (fail)
 obtain⟨w1,xB⟩:=Ze ((w.alloc (.cells #[.slice a n c,.slice b m d,.int .i64 (s:Int)] 129)).alloc (.cells #[.slice none 0 0,.slice none 0 0,.int .i64 0] 129));have xD:Below w.heap.size w w1:=by rw[<-xB];exact bal (bal (Lb _ _) _) _
 have xS:w1.heap.size=w.heap.size+2:=by rw[<-xB];simp
 have k1:w1.heap[w.heap.size]? = some (.cells #[.slice a n c,.slice b m d,.int .i64 (s:Int)] 129 (0,0)):=by rw[<-xB];exact new0 _ _ _
 have k2:w1.heap[w.heap.size+1]? = some (.cells #[.slice none 0 0,.slice none 0 0,.int .i64 0] 129 (0,0)):=by rw[<-xB];exact new2 _ _ _
 rw[xB];clear xB xN;have r1:Rw w1 a g c l:=HH.out.next xD (La _);have xI:cc<=t.size∧cc<=n - k∧min t.size (n - k)=cc:=⟨by rw[<-xE];exact IM _ _,by rw[<-xE];exact I7 _ _,xE⟩
 have q0:(0:Int)<=(cc:Int):=by omega
 have q1:(cc:Int)<=(t.size:Int):=by omega
 have xK:(t.data.toList.take cc).length=cc:=by rw[Lz,Qb];omega
 have r2:=r1.over k (t.data.toList.take cc) (by omega)
 have hu:Upo (fun b=>a=some ⟨g,0,none⟩∧b=g) w (w1.setCells g k (cY (t.data.toList.take cc)))∧Upo (fun b=>a=some ⟨g,0,none⟩∧b=g) w1 (w1.setCells g k (cY (t.data.toList.take cc))):=by
  rcases r1.ptr with e|e
  ·have:t.data.toList.take cc=[]:=List.length_eq_zero_iff.1 (by rw[xK];have:=r1.empty e;rw[this] at hn;simp at hn;omega)
   rw[this];exact⟨Upo.of xD,Upo.refl _ _⟩
  ·exact⟨Ub (.inl ⟨e,rfl⟩) _ _ _ (Upo.of xD),Ub (.inl ⟨e,rfl⟩) _ _ _ (Upo.refl _ _)⟩
 obtain⟨w2,xM⟩:=Ze (w1.setCells g k (cY (t.data.toList.take cc)));rw[xM] at r2 hu ⊢;clear xM;have ng:a=some ⟨g,0,none⟩->g<w.heap.size:=fun e=>(HH.out.ty e).lt
 have j1:w2.heap[w.heap.size]? = _:=(hu.2.block _ (by omega) (fun q=>by have:=ng q.1;omega)).trans k1
 have j2:w2.heap[w.heap.size+1]? = _:=(hu.2.block _ (by omega) (fun q=>by have:=ng q.1;omega)).trans k2
 obtain⟨t2,xL⟩:=Ze (t.extract cc t.size);have e2:t2.data.toList=t.data.toList.drop cc:=by rw[<-xL];exact QjM t cc
 have r3:Rw w2.drew a g c _:=r2.same (fun _=>rfl)
 have xJ:(l.take k++t.data.toList.take cc++l.drop (k+(t.data.toList.take cc).length)).length=n:=by simp only[List.length_append,List.length_take,List.length_drop,Qb];omega
 obtain⟨a',g',c',w3,hr,r4,u3,xA,xG⟩:=r3.app 9 127 (.string t2) t2.data.toList (Qk6 _ t2) (by rw[xJ,e2,Nb,Qb];omega)
 rw[xJ] at hr;rw[e2,Qlo l k t.data.toList (by omega) cc (by rw[Qb];omega)] at hr r4
 obtain⟨N,hN⟩:=Ze ((wr l k t.data.toList).length);rw[hN] at hr;have HN:Hid ((wr l k t.data.toList).length=N):=hN;have xP:w2.cell? ⟨w.heap.size,0,none⟩=some (.slice a n c):=by rw[cell_of_row w2 w.heap.size 0 _ _ (0,0) j1];rfl
 have y1:w3.heap[w.heap.size]? = _:=(u3.block _ (by have:=hu.2.size;show _<w2.heap.size;omega) (fun q=>by have:=ng q.1;omega)).trans j1
 have xQ:w3.frozen? ⟨w.heap.size,0,none⟩=false:=frozen_of_row w3 w.heap.size 0 _ _ y1;have xR:w3.cell? ⟨w.heap.size,0,none⟩=some (.slice a n c):=by rw[cell_of_row w3 w.heap.size 0 _ _ (0,0) y1];rfl
 have y2:w3.heap[w.heap.size+1]? = _:=(u3.block _ (by have:=hu.2.size;show _<w2.heap.size;omega) (fun q=>by have:=ng q.1;omega)).trans j2
 have z1:(w3.setCell ⟨w.heap.size,0,none⟩ (.slice a' N c')).heap[w.heap.size]? = some (.cells #[.slice a' N c',.slice b m d,.int .i64 (s:Int)] 129 (0,0)):=Lp w3 w.heap.size 0 _ _ _ y1;have z2:(w3.setCell ⟨w.heap.size,0,none⟩ (.slice a' N c')).heap[w.heap.size+1]? = _:=(Below.heap_setCell _ _ _ _ (by simp)).trans y2
 have HF:Hid (Rw w3 a' g' c' (wr l k t.data.toList)∧Upo (fun b=>a=some ⟨g,0,none⟩∧b=g) w w3∧((a'=a∧g'=g)∨(w2.heap.size<=g'∧g'<w3.heap.size))∧w.heap.size+2<=w2.heap.size∧(a=some ⟨g,0,none⟩->g<w.heap.size)∧(a=some ⟨g,0,none⟩->Ty w3 g 5)):=⟨r4,hu.1.trans (show Upo _ w2 w3 from⟨u3.os,u3.tape,u3.output,u3.size,u3.block⟩) (fun _ _ q=>q),xA.imp id (fun q=>⟨N9 q.1.symm,q.2⟩),by have:=hu.2.size;omega,ng,xG⟩
 clear r4 hu u3 xA xG ng r1 r2 r3 k1 k2 j1 j2 hN xJ e2 HH xI xK xD xS
 go_region_law (first
  | (refine Qfg (by rfl) _ _ _ _ (by rfl) (by rfl) (by rfl) hr ?_))
 obtain⟨w4,xF⟩:=Ze (w3.setCell ⟨w.heap.size,0,none⟩ (.slice a' N c'));have xO:Hid (w3.setCell ⟨w.heap.size,0,none⟩ (.slice a' N c')=w4):=xF;rw[xF] at z1 z2;have b0:w4.cell? ⟨w.heap.size,0,none⟩=some (.slice a' N c'):=by rw[cell_of_row w4 w.heap.size 0 _ _ (0,0) z1];rfl
 have b1:w4.cell? ⟨w.heap.size,1,none⟩=some (.slice b m d):=by rw[cell_of_row w4 w.heap.size 1 _ _ (0,0) z1];rfl
 have b2:w4.cell? ⟨w.heap.size,2,none⟩=some (.int .i64 (s:Int)):=by rw[cell_of_row w4 w.heap.size 2 _ _ (0,0) z1];rfl
 have fz:=fun j=>frozen_of_row w4 w.heap.size j _ _ z1
 have fy:=fun j=>frozen_of_row w4 (w.heap.size+1) j _ _ z2
 have d0:w4.cell? ⟨w.heap.size+1,0,none⟩=some (.slice none 0 0):=by rw[cell_of_row w4 (w.heap.size+1) 0 _ _ (0,0) z2];rfl
 have d1:w4.cell? ⟨w.heap.size+1,1,none⟩=some (.slice none 0 0):=by rw[cell_of_row w4 (w.heap.size+1) 1 _ _ (0,0) z2];rfl
 have d2:w4.cell? ⟨w.heap.size+1,2,none⟩=some (.int .i64 0):=by rw[cell_of_row w4 (w.heap.size+1) 2 _ _ (0,0) z2];rfl
 rw[xF];clear xF z1 xR xQ xP y1 y2 hr hx xL;have Z2:Hid (w4.heap[w.heap.size+1]? = some (.cells #[.slice none 0 0,.slice none 0 0,.int .i64 0] 129 (0,0))):=z2;have HE : ∀x:Nat,Hid (∀w5:World,(((w4.setCell ⟨w.heap.size,2,none⟩ (.int .i64 (x:Int))).setCell ⟨w.heap.size+1,0,none⟩ (.slice a' N c')).setCell ⟨w.heap.size+1,1,none⟩ (.slice b m d)).setCell ⟨w.heap.size+1,2,none⟩ (.int .i64 (x:Int))=w5->(w5.cell? ⟨w.heap.size+1,0,none⟩=some (.slice a' N c')∧w5.cell? ⟨w.heap.size+1,1,none⟩=some (.slice b m d)∧w5.cell? ⟨w.heap.size+1,2,none⟩=some (.int .i64 (x:Int)))∧Rw w5 a' g' c' (wr l k t.data.toList)∧Upo (fun b=>a=some ⟨g,0,none⟩∧b=g) w w5∧((a'=a∧g'=g)∨(w.heap.size<=g'∧g'<w5.heap.size))∧(a=some ⟨g,0,none⟩->Ty w5 g 5)):=fun x w5 h5=>by
  obtain⟨r4,u4,xA,hz,ng,xG⟩:=HF.out;have q:=Qs (O8 ((Below.heap_setCell w4 ⟨w.heap.size,2,none⟩ (.int .i64 (x:Int)) (w.heap.size+1) (by simp)).trans Z2.out) (.slice a' N c') (.slice b m d) (.int .i64 (x:Int)))
  subst h5;refine⟨q,?_⟩
  rw[<-xO.out];have n1:a'=some ⟨g',0,none⟩->g'≠w.heap.size∧g'≠w.heap.size+1:=fun e=>by
   rcases xA with ⟨q1,q2⟩|q
   ·have:=ng (by rw[<-q1,e,q2]);omega
   ·omega
  exact⟨((((r4.off _ _ fun e=>(n1 e).1).off _ _ fun e=>(n1 e).1).off _ _ fun e=>(n1 e).2).off _ _ fun e=>(n1 e).2).off _ _ fun e=>(n1 e).2,((((u4.set _ _ _ (.inr (by omega))).set _ _ _ (.inr (by omega))).set _ _ _ (.inr (by omega))).set _ _ _ (.inr (by omega))).set _ _ _ (.inr (by omega)),xA.imp id fun q=>⟨by omega,by simpa using q.2⟩,fun e=>(((((xG e).set _ _ _).set _ _ _).set _ _ _).set _ _ _).set _ _ _⟩
 clear z2;go_wp2
 ·have e:k=r:=by have:=h3.out;omega
  subst e;obtain⟨w5,xC⟩:=Ze ((((w4.setCell ⟨w.heap.size,2,none⟩ (.int .i64 (k:Int))).setCell ⟨w.heap.size+1,0,none⟩ (.slice a' N c')).setCell ⟨w.heap.size+1,1,none⟩ (.slice b m d)).setCell ⟨w.heap.size+1,2,none⟩ (.int .i64 (k:Int)));obtain⟨⟨s0,s1,s2⟩,q⟩:=(HE k).out w5 xC;rw[xC];refine Lv (v:=fv a' N c' b m d k) (by simp[results,results344,go_sem,fv,s0,s1,s2]) rfl ⟨a',g',c',by rw[HN.out],q⟩
 ·have e:s=r:=by have:=h3.out;omega
  subst e;obtain⟨w5,xC⟩:=Ze ((((w4.setCell ⟨w.heap.size,2,none⟩ (.int .i64 (s:Int))).setCell ⟨w.heap.size+1,0,none⟩ (.slice a' N c')).setCell ⟨w.heap.size+1,1,none⟩ (.slice b m d)).setCell ⟨w.heap.size+1,2,none⟩ (.int .i64 (s:Int)));obtain⟨⟨s0,s1,s2⟩,q⟩:=(HE s).out w5 xC;rw[xC];refine Lv (v:=fv a' N c' b m d s) (by simp[results,results344,go_sem,fv,s0,s1,s2]) rfl ⟨a',g',c',by rw[HN.out],q⟩
theorem Qcw(w:World)(a:OA)(g n c:Nat)(l:List UInt8)(b:OA)(h m d s:Nat)(l2:List UInt8)(ra:Rw w a g c l)(rb:Rw w b h d l2)(hn:l.length=n)(hm:l2.length=m)(hs1:s<=n)(hs2:s<=m)(hsame:l2.take s=l.take s)(hl:n<=140737488355328) :
  Calls prog 101 #[.agg #[.slice a n c,.slice b m d,.int .i64 (s:Int)]] w fun e w' => ∃b' h' d',e = .returned (fv a n c b' n d' n)∧Rw w' b' h' d' l∧Upo (fun x=>b=some ⟨h,0,none⟩∧x=h) w w'∧((b'=b∧h'=h)∨(w.heap.size<=h'∧h'<w'.heap.size))∧(b=some ⟨h,0,none⟩->Ty w' h 5):=by
 have h1:(0:Int)<=(s:Int):=by omega
 have h2:(s:Int)<=(n:Int):=by omega
 have h3:(s:Int)<=(d:Int):=by have:=rb.le;omega
 obtain⟨ax,hx⟩:=Ze (if c=s then a else a.map (·.add s))
 obtain⟨xJ,xK⟩:=Qd0 ra (by omega) hx hn
 have HH:Hid (Rw w a g c l∧Rw w b h d l2):=⟨ra,rb⟩;clear ra rb
 go_enter func101,ntmps101
 go_upto_region 1 with (fail)
 obtain⟨w1,xC⟩:=Ze ((w.alloc (.cells #[.slice a n c,.slice b m d,.int .i64 (s:Int)] 129)).alloc (.cells #[.slice none 0 0,.slice none 0 0,.int .i64 0] 129));have xD:Below w.heap.size w w1:=by rw[<-xC];exact bal (bal (Lb _ _) _) _
 have xO:w1.heap.size=w.heap.size+2:=by rw[<-xC];simp
 have k1:w1.heap[w.heap.size]? = some (.cells #[.slice a n c,.slice b m d,.int .i64 (s:Int)] 129 (0,0)):=by rw[<-xC];exact new0 _ _ _
 have k2:w1.heap[w.heap.size+1]? = some (.cells #[.slice none 0 0,.slice none 0 0,.int .i64 0] 129 (0,0)):=by rw[<-xC];exact new2 _ _ _
 rw[xC];clear xC;have r1:Rw w1.drew a g c l:=(HH.out.1.next xD (La _)).same (fun _=>rfl)
 have r2:Rw w1.drew b h d (l2.take s):=((HH.out.2.next xD (La _)).cut (k:=s) (by omega)).same (W:=w1.drew) (fun _=>rfl)
 have ng:b=some ⟨h,0,none⟩->h<w.heap.size:=fun e=>(HH.out.2.ty e).lt
 have xG:(l2.take s).length=s:=by simp;omega
 have xI:(l.drop s).length=n - s:=by simp;omega
 have xB:=r1.src (k:=s) (by omega) xJ (fun e=>(xK e).imp id (fun q=>by omega)) (c - s)
 rw[hn] at xB;obtain⟨b',h',d',w3,hr,r4,u3,xA,xF⟩:=r2.app 127 127 (.slice ax (n - s) (c - s)) (l.drop s) xB (by rw[xG,xI];omega)
 have el:l2.take s++l.drop s=l:=by rw[hsame,Nj]
 rw[el,hn,xG] at hr;rw[el] at r4;obtain⟨c0,c1,c2⟩:=Qs k1;have y1:w3.heap[w.heap.size]? = _:=(u3.block _ (by show _<w1.heap.size;omega) (fun q=>by have:=ng q.1;omega)).trans k1
 have y2:w3.heap[w.heap.size+1]? = _:=(u3.block _ (by show _<w1.heap.size;omega) (fun q=>by have:=ng q.1;omega)).trans k2
 have xM:w3.frozen? ⟨w.heap.size,1,none⟩=false:=frozen_of_row w3 w.heap.size 1 _ _ y1;obtain⟨_,xN,_⟩:=Qs y1;have z1:(w3.setCell ⟨w.heap.size,1,none⟩ (.slice b' n d')).heap[w.heap.size]? = some (.cells #[.slice a n c,.slice b' n d',.int .i64 (s:Int)] 129 (0,0)):=Lp w3 w.heap.size 1 _ _ _ y1;have z2:(w3.setCell ⟨w.heap.size,1,none⟩ (.slice b' n d')).heap[w.heap.size+1]? = _:=(Below.heap_setCell _ _ _ _ (by simp)).trans y2
 have HF:Hid (Rw w3 b' h' d' l∧Upo (fun x=>b=some ⟨h,0,none⟩∧x=h) w w3∧((b'=b∧h'=h)∨(w.heap.size+2<=h'∧h'<w3.heap.size))∧(b=some ⟨h,0,none⟩->h<w.heap.size)∧(b=some ⟨h,0,none⟩->Ty w3 h 5)):=⟨r4,(Upo.of xD).trans (show Upo _ w1 w3 from⟨u3.os,u3.tape,u3.output,u3.size,u3.block⟩) (fun _ _ q=>q),xA.imp id (fun q=>⟨by have:=q.1;show _<=_;rw[this];show _<=w1.heap.size;omega,q.2⟩),ng,xF⟩
 clear r4 u3 xA xF ng r1 r2 k1 k2 HH xD xO xB hsame el xG xI xJ xK hm hs1 hs2
 go_region_law (first
  | (refine Qfg (by rfl) _ _ _ _ (by rfl) (by rfl) (by rfl) hr ?_))
 all_goals
  obtain⟨w4,xE⟩:=Ze (w3.setCell ⟨w.heap.size,1,none⟩ (.slice b' n d'));have xL:Hid (w3.setCell ⟨w.heap.size,1,none⟩ (.slice b' n d')=w4):=xE;rw[xE] at z1 z2;obtain⟨b0,b1,b2⟩:=Qs z1;have fz:=fun j=>frozen_of_row w4 w.heap.size j _ _ z1
  have fy:=fun j=>frozen_of_row w4 (w.heap.size+1) j _ _ z2
  obtain⟨d0,d1,d2⟩:=Qs z2;rw[xE];clear xE z1 xN xM c0 c1 c2 y1 y2 hr hx;have Z2:Hid (w4.heap[w.heap.size+1]? = some (.cells #[.slice none 0 0,.slice none 0 0,.int .i64 0] 129 (0,0))):=z2;clear z2;go_wp2;obtain⟨w5,xH⟩:=Ze ((((w4.setCell ⟨w.heap.size,2,none⟩ (.int .i64 (n:Int))).setCell ⟨w.heap.size+1,0,none⟩ (.slice a n c)).setCell ⟨w.heap.size+1,1,none⟩ (.slice b' n d')).setCell ⟨w.heap.size+1,2,none⟩ (.int .i64 (n:Int)));obtain⟨r4,u4,xA,ng,xF⟩:=HF.out;have q:=Qs (O8 ((Below.heap_setCell w4 ⟨w.heap.size,2,none⟩ (.int .i64 (n:Int)) (w.heap.size+1) (by simp)).trans Z2.out) (.slice a n c) (.slice b' n d') (.int .i64 (n:Int)))
  rw[xH] at q;rw[xH];obtain⟨s0,s1,s2⟩:=q;refine Lv (v:=fv a n c b' n d' n) (by simp[results,results101,go_sem,fv,s0,s1,s2]) rfl ⟨b',h',d',rfl,?_⟩
  rw[<-xH,<-xL.out];have n1:b'=some ⟨h',0,none⟩->h'≠w.heap.size∧h'≠w.heap.size+1:=fun e=>by
   rcases xA with ⟨q1,q2⟩|q
   ·have:=ng (by rw[<-q1,e,q2]);omega
   ·omega
  exact⟨((((r4.off _ _ fun e=>(n1 e).1).off _ _ fun e=>(n1 e).1).off _ _ fun e=>(n1 e).2).off _ _ fun e=>(n1 e).2).off _ _ fun e=>(n1 e).2,((((u4.set _ _ _ (.inr (by omega))).set _ _ _ (.inr (by omega))).set _ _ _ (.inr (by omega))).set _ _ _ (.inr (by omega))).set _ _ _ (.inr (by omega)),xA.imp id fun q=>⟨by omega,by simpa using q.2⟩,fun e=>(((((xF e).set _ _ _).set _ _ _).set _ _ _).set _ _ _).set _ _ _⟩
end St
end Go.Proofs.YtoblgjledefdbaaGreatDoor
