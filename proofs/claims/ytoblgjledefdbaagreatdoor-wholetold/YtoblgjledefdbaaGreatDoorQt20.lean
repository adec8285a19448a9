/- Own work. -/
import Derived.Deep.SlicePairs
import Derived.Test.YtoblgjledefdbaaGreatDoorCards
import Derived.Test.YtoblgjledefdbaaGreatDoorTie
import Derived.Deep.DeepHandedRow
import Derived.Lib.LaidTab
import Derived.Stop.LaidErr
import Derived.Test.YtoblgjledefdbaaGreatDoorQt19
set_option maxRecDepth 100000
set_option maxHeartbeats 8000000
namespace Go.Proofs.YtoblgjledefdbaaGreatDoor
open Go.Proofs.Tryz
section
open Go.RowKit Go.ChangeShapes Go.WideShapes
variable{H:Type}{cap fuel j len y:Nat}{W:World}
theorem QgR:prog.cellsOf 3=1:=by kernel_rfl
theorem Qcv:prog.cellsOf 4=1:=by kernel_rfl
theorem QgS:prog.cellsOf 31=1:=by kernel_rfl
theorem QgP:prog.bytesOf 4=1:=by kernel_rfl
theorem JC{P:Program}{t:TypeId}{d:DataW H} : ∀ {ds:List (DataW H)},d∈ds->y∈DataW.weights P t d->y∈DataW.weightsAll P t ds
 | [],h,_=>by cases h
 | x::r,h,hy=>by
  simp only[DataW.weightsAll,List.mem_append]
  rcases List.mem_cons.1 h with rfl|h
  ·exact .inl hy
  ·exact .inr (JC h hy)
theorem QpN{enc:TypeId×Value->H}{v:Value}{x:DataW H×List MemPlace}(hf:DataW.trod enc prog W 0 (fun _=>true) true fuel 31 [v]=some x)(hw:∀y∈DataW.weights prog 31 x.1,y<=reachBytes) :
  ∃(ao:OA) (b off cap:Nat) (ks:List Bool),v= .slice ao ks.length cap∧St.RdL W ao b off ks∧ks.length<=140737488351232:=by
 rcases Go.Deep.open_slice underlying31 hf with ⟨hcs,hx⟩|⟨a,len,cap,m,n,D,Pl,hcs,_,hl,hm,hmm,hx,hcell⟩
 ·simp at hcs;subst hcs;exact⟨none,0,0,0,[],rfl,St.Uw _ _ _ _,Ln _⟩
 ·simp at hcs;subst hcs;simp only[if_true] at hmm;have xE:len<=140737488351232:=by
   rw[hx] at hw;have h5:=hw _ (by simp only[DataW.weights,underlying31];exact NY)
   simp only[List.length_map,List.length_range,QgP] at h5;unfold reachBytes at h5;omega
  have xC:∀i,i<len -> ∃b:Bool,W.cell? (a.add i)=some (.bool b):=fun i hi=>by
   obtain⟨xF,h1,h2⟩:=hcell i (by omega)
   rw[Qcv] at h1;obtain⟨_,xA,hc⟩:=World.cells?_some h1
   obtain⟨b,rfl,_⟩:=DataW.trod_bool underlying4 h2;have q:=hc 0 (by decide)
   simp only[Go.Deep.add_add,Nat.mul_one,Nat.add_zero] at q;exact⟨b,by simpa using q⟩
  obtain⟨l,hL⟩:=Go.Deep.choose_lt xC
  by_cases h0:len=0
  ·subst h0;exact⟨some a,0,0,cap,[],rfl,St.Uw _ _ _ _,Ln _⟩
  ·obtain⟨b,off,xD⟩:=a;have xB:xD=none:=by simpa [Addr.add] using Wg (hL 0 (by omega))
   subst xB;have xA:((List.range len).map l).length=len:=by simp
   refine⟨some ⟨b,off,none⟩,b,off,cap,(List.range len).map l,by rw[xA],⟨fun _=>rfl,fun j hj=> ?_⟩,by rw[xA];exact xE⟩
   rw[xA] at hj;have:=hL j hj;rw[Addr.add_mid] at this;rw[this];simp[List.getD_eq_getElem?_getD,hj]
instance:Inhabited FaV:=⟨⟨0,0,none,0,0,0,[],false⟩⟩
theorem QgQ:prog.cellsOf 76=4:=by kernel_rfl
theorem QpM{enc:TypeId×Value->H}{cs:List Value}{x:DataW H×List MemPlace}(hl:cs.length=4)(hf:DataW.trod enc prog W 0 (fun _=>true) true fuel 76 cs=some x)(hw:∀y∈DataW.weights prog 76 x.1,y<=reachBytes) :
  ∃o:FaV,cs=[.int .i64 o.at_,.int .i64 o.kind,.slice o.ka o.keep.length o.kc,.bool o.op]∧St.RdL W o.ka o.kb o.ko o.keep∧o.keep.length<=140737488355328:=by
 obtain⟨xs,k,hk,xC,_,xB,hg⟩:=DataW.trod_struct underlying76 hf
 match xs,xB,cs,hl with
 | [y0,y1,y2,y3],_,[v0,v1,v2,v3],_=>
  have g0:=hg 0 _ rfl;have g1:=hg 1 _ rfl;have g2:=hg 2 _ rfl;have g3:=hg 3 _ rfl;simp[QgR,QgS,Qcv] at g0 g1 g2 g3;obtain⟨z0,e0,_,_⟩:=DataW.trod_int underlying3 g0;obtain⟨z1,e1,_,_⟩:=DataW.trod_int underlying3 g1;obtain⟨z3,e3,_⟩:=DataW.trod_bool underlying4 g3;simp only[List.cons.injEq,and_true] at e0 e1 e3;subst e0 e1 e3;rw[xC] at hw;obtain⟨ao,b,xD,xA,ks,rfl,h1,h2⟩:=QpN g2 (fun y hy=>hw y (by
   simp only[DataW.weights,underlying76,List.map_cons,List.map_nil,DataW.weightsEach,List.mem_append];exact Or.inr (Or.inr (Or.inl hy))))
  exact⟨⟨z0,z1,ao,b,xD,xA,ks,z3⟩,rfl,h1,by simp only;omega⟩
theorem Qjm{enc:TypeId×Value->H}{ao:OA}{x:DataW H×List MemPlace}{ts:List TypeId}{ds:List (DataW H)}(hf:DataW.trod enc prog W 0 (fun _=>true) true fuel 74 [.slice ao len cap]=some x)
  (hz:(DataW.weightsEach prog ts ds).all (· <= reachBytes)=true) (hj:ts[j]? = some 74) (hd:ds[j]? = some x.1) :
  ∃(b off:Nat) (l:Nat->FaV),RdFa W ao b off len l∧len<=maxLen∧len<=cap∧(ao=none->cap=0):=by
 rcases Go.Deep.open_slice underlying74 hf with ⟨hcs,hx⟩|⟨a,len',cap',m,n,D,Pl,hcs,_,hl,hm,hmm,hx,hcell⟩
 ·simp at hcs;obtain⟨rfl,rfl,rfl⟩:=hcs;exact⟨0,0,fun _=>default,⟨fun h=>absurd h (Nz 0),fun j hj=>absurd hj (N6 j)⟩,Ln _,La _,fun _=>rfl⟩
 ·simp at hcs;obtain⟨rfl,rfl,rfl⟩:=hcs;simp only[if_true] at hmm;have xF:=List.all_eq_true.1 hz;have xA:∀y∈DataW.weights prog 74 x.1,y<=reachBytes:=fun y hy=>NQ (xF y (DataW.weights_mem_each hj hd y hy))
  rw[hx] at xA;have xC:∀i,i<len -> ∃o:FaV,W.cell? (a.add (i*4+0))=some (.int .i64 o.at_)∧W.cell? (a.add (i*4+1))=some (.int .i64 o.kind)∧W.cell? (a.add (i*4+2))=some (.slice o.ka o.keep.length o.kc)∧W.cell? (a.add (i*4+3))=some (.bool o.op)∧St.RdL W o.ka o.kb o.ko o.keep∧o.keep.length<=140737488355328:=fun i hi=>by
   obtain⟨xG,h1,h2⟩:=hcell i (by omega)
   rw[QgQ] at h1;obtain⟨_,xD,hc⟩:=World.cells?_some h1
   obtain⟨o,rfl,ho⟩:=QpM xD h2 (fun y hy=>xA y (by
    simp only[DataW.weights,underlying74,List.mem_cons,List.mem_append];exact Or.inr (Or.inl (JC (List.mem_map.2 ⟨i,List.mem_range.2 hi,rfl⟩) hy))))
   have q:=fun t (ht:t<4)=>hc t ht
   simp only[Go.Deep.add_add] at q;exact⟨o,by simpa using q 0 (by decide),by simpa using q 1 (by decide),by simpa using q 2 (by decide),by simpa using q 3 (by decide),ho⟩
  obtain⟨l,hL⟩:=Go.Deep.choose_lt xC
  by_cases h0:len=0
  ·subst h0;exact⟨0,0,fun _=>default,⟨fun h=>absurd h (Nz 0),fun j hj=>absurd hj (N6 j)⟩,Ln _,hl,fun h=>by cases h⟩
  ·obtain⟨b,off,xE⟩:=a;have xB:xE=none:=by simpa [Addr.add] using Wg (hL 0 (by omega)).1
   subst xB;refine⟨b,off,l,⟨fun _=>rfl,fun j hj=> ?_⟩,Lr hl hm,hl,fun h=>by cases h⟩
   have:=hL j hj;simp only[Addr.add_mid] at this;exact this
end
namespace wholeTold
open Go.ChangeShapes Go.WideShapes Go.ChangeAt Go.RowKit
variable{W:World}{cap fuel g j len:Nat}
theorem own:ownKnob prog.godebug=none:=by kernel_rfl
theorem laidOut:laidOutB prog=true:=by kernel_rfl
theorem QmH:prog.cellsOf 9=1:=by kernel_rfl
theorem QmF:prog.bytesOf 9=16:=by kernel_rfl
theorem QeL{H:Type}(l:LB)(s:BA)(hs:s∈l):s.size∈DataW.weightsAll prog 9 (strs (H:=H) l):=by
 induction l with
 | nil=>cases hs
 | cons x r ih=>
  simp only[strs,List.map_cons,DataW.weightsAll,DataW.weights,List.mem_append,List.mem_singleton]
  rcases List.mem_cons.1 hs with rfl|h
  ·left;rw[NF];rfl
  ·right;exact ih h
theorem QlY{H:Type}{enc:TypeId×Value->H}{ao:OA}{x:DataW H×List MemPlace}{ts:List TypeId}{ds:List (DataW H)}(hf:DataW.trod enc prog W 0 (fun _=>true) true fuel 22 [.slice ao len cap]=some x)
  (hz:(DataW.weightsEach prog ts ds).all (· <= reachBytes)=true) (hj:ts[j]? = some 22) (hd:ds[j]? = some x.1) :
  ∃(b off:Nat) (ss:LB),RdS W ao b off len ss∧(∀s∈ss,s.size<=140737488351232)∧len<=8796093021952∧len<=cap∧(ao=none->cap=0):=by
 rcases open_strings underlying22 underlying9 QmH hf with ⟨hcs,hx⟩|⟨a,len',cap',ss,hcs,_,hl,hm,hzl,hx,hcell,hws⟩
 ·simp at hcs;obtain⟨rfl,rfl,rfl⟩:=hcs;exact⟨0,0,[],⟨rfl,fun h=>absurd h (Nz 0),(fun j v h=>by cases h),(fun s h=>by cases h)⟩,(fun s h=>by cases h),Ln _,La _,fun _=>rfl⟩
 ·simp at hcs;obtain⟨rfl,rfl,rfl⟩:=hcs;simp only[if_true] at hzl;have xE:cap<=8796093021952:=by
   have xC:=hd;rw[hx] at xC;have h1:=List.all_eq_true.1 hz _ (DataW.weights_mem_each hj xC _ (by simp only[DataW.weights,underlying22];exact NY))
   have h2:=NQ h1;simp only[strs,List.length_map,List.length_take,List.length_drop,QmF] at h2;unfold reachBytes at h2;omega
  have xD:∀s∈ss.take len,s.size<=140737488351232:=fun s hs=>by
   rw[hx] at hd;have:=List.all_eq_true.1 hz _ (DataW.weights_mem_each hj hd s.size (by simp only[DataW.weights,underlying22,List.mem_cons,List.mem_append];exact Or.inr (Or.inl (QeL _ s hs))))
   exact NQ this
  by_cases h0:len=0
  ·subst h0;exact⟨0,0,[],⟨rfl,fun h=>absurd h (Nz 0),(fun j v h=>by cases h),(fun s h=>by cases h)⟩,(fun s h=>by cases h),Ln _,hl,fun h=>by cases h⟩
  ·obtain⟨b,off,xB⟩:=a;have xA:xB=none:=by simpa [Addr.add] using Wg (hcell 0 (by omega))
   subst xA;refine⟨b,off,ss.take len,⟨by rw[Lx];omega,fun _=>rfl,fun j v hv=> ?_,fun s hs=>Lr (xD s hs) (by decide)⟩,xD,by omega,hl,fun h=>by cases h⟩
   have hj:j<len:=by have:=(List.getElem?_eq_some_iff.1 hv).1;rw[LY,Lx] at this;omega
   have hc:=hcell j (by omega)
   rw[Addr.add_mid] at hc;rw[hc,<-hv];simp[hj,List.getD_eq_getElem?_getD,List.getElem?_eq_getElem (show j<ss.length by omega)]
theorem QcV:prog.cellsOf 403=64:=by kernel_rfl
theorem Qil:prog.cellsOf 346=8:=by kernel_rfl
theorem QaO:prog.cellsOf 110=1:=by kernel_rfl
theorem Qa1{name:String}{l:List Int}(h:Lib.TabIs prog W name .u32 l)(hg:prog.globalNamed name=some g):W.rangeAt g 0 (cW l):=fun j v hv=>by
 have hj:j<l.length:=by have:=(List.getElem?_eq_some_iff.1 hv).1;rwa [Qm] at this
 have hc:=h.cell hg j hj;rw[Ll,hc,<-hv];simp[cW,List.getD_eq_getElem?_getD,List.getElem?_eq_getElem hj]
theorem gn0:prog.globalNamed "massif/massifref01.first" = some 0:=by kernel_rfl
theorem gt0:(prog.globals[0]?).map (·.type)=some 346:=by kernel_rfl
theorem tab0(h0:laidMetH prog Rows.wholeToldRow.laid W):W.rangeAt 0 0 (cW IV):=by
 exact Qa1 (Lib.tabIs_of_head (zs:=IV) gn0 gt0 underlying346 underlying110 QaO Qil h0) gn0
theorem gn1:prog.globalNamed "massif/massifref01.rounds" = some 1:=by kernel_rfl
theorem gt1:(prog.globals[1]?).map (·.type)=some 403:=by kernel_rfl
theorem tab1(h0:laidMetH prog Rows.wholeToldRow.laid W):W.rangeAt 1 0 (cW RS):=by
 have h1:laidMet prog [("massif/massifref01.rounds",Rows.laid_massif_massifref01_rounds),("massif/sha.rounds",Rows.laid_massif_sha_rounds)] W:=laidMet.tail (h0:laidMet prog Rows.wholeToldRow.laid W)
 exact Qa1 (Lib.tabIs_of_head (zs:=RS) gn1 gt1 underlying403 underlying110 QaO QcV h1) gn1
theorem gn2:prog.globalNamed "massif/sha.rounds" = some 3:=by kernel_rfl
theorem gt2:(prog.globals[3]?).map (·.type)=some 403:=by kernel_rfl
theorem tab2(h0:laidMetH prog Rows.wholeToldRow.laid W):W.rangeAt 3 0 (cW RS):=by
 have h1:laidMet prog [("massif/massifref01.rounds",Rows.laid_massif_massifref01_rounds),("massif/sha.rounds",Rows.laid_massif_sha_rounds)] W:=laidMet.tail (h0:laidMet prog Rows.wholeToldRow.laid W)
 have h2:laidMet prog [("massif/sha.rounds",Rows.laid_massif_sha_rounds)] W:=laidMet.tail h1
 exact Qa1 (Lib.tabIs_of_head (zs:=RS) gn2 gt2 underlying403 underlying110 QaO QcV h2) gn2
def QgA(l:List Int):Obj->Obj
 | .cells _ t frozen=> .cells (cW l).toArray t frozen
 | o=>o
def QcG(w:World):World := { w with heap:=(((w.heap.modify 0 (QgA IV)).modify 1 (QgA RS)).modify 3 (QgA RS)) }
theorem QkR(os:Os):laidMet prog Rows.wholeToldRow.laid ((QcG (World.holding prog os ⟨#[],#[],[]⟩)).forCall (fun _ _=>0) ⟨#[],#[.slice none 0 0,.slice none 0 0],[]⟩).memory :=
 laidMet_of_run' 8 (by kernel_rfl) (by kernel_rfl)
theorem QqG(os:Os){H:Type}(enc:TypeId×Value->H):∃places,DataW.whole enc prog ((QcG (World.holding prog os ⟨#[],#[],[]⟩)).forCall (fun _ _=>0) ⟨#[],#[.slice none 0 0,.slice none 0 0],[]⟩).memory Tryz.f7.params.toList Rows.wholeToldSpec.vars false (#[.slice none 0 0,.slice none 0 0]:Array Value).toList 8=some ([.nil,.nil],[],places) :=
 ⟨[],by kernel_rfl⟩
theorem Qpx(os:Os)(started:os.Started)(H:Type)(enc:TypeId×Value->H)(F:Stop.Interp) :
  ReturnsInHanded {} Tryz.checked os 7 .any ((OpenSpec.ofChange Rows.wholeToldSpec).preRow enc prog Tryz.f7 Rows.wholeToldRow.domain false Rows.wholeToldRow.laid) (((OpenSpec.ofChange Rows.wholeToldSpec).at F).post enc prog Tryz.f7 false true false false):=by
 obtain⟨xE,hx⟩:=QqG os enc;refine returnsInHanded_of_row (C:=Tryz.checked) (s:=OpenSpec.ofChange Rows.wholeToldSpec) own started (by kernel_rfl) func7
  (witness_row_at (enc:=enc) (C:=Tryz.checked) false (QcG (World.holding prog os ⟨#[],#[],[]⟩)) #[.slice none 0 0,.slice none 0 0] rfl (by kernel_rfl) (by kernel_rfl) (by kernel_rfl)
   (OpenSpec.preRow_of_cond 8 hx (by kernel_rfl) (fun k hk=>by cases hk) (by kernel_rfl) (QkR os))) ?_
 intro W base args ds gs before hval0 hW0 _ _ hz0 hL _ _
 show Calls prog 7 args W fun e W'=> ∃v,e= .returned v∧Rows.wholeToldSpec.post enc prog Tryz.f7 false true false false W args v W'
 have hW:DataW.Whole enc prog Tryz.f7.params.toList Rows.wholeToldSpec.vars false W args.toList ds gs before:=hW0;have xA:∀(j:Nat) t v,Tryz.f7.params[j]? = some t->args[j]? = some v->Value.okWide prog W .any base t v:=hval0;have xB:=hW;obtain⟨p,q,xH,hV,rfl,xV,xZ⟩:=hW;have hA:DataW.TrodAll enc prog W 0 (fun _=>true) true Tryz.f7.params.toList args.toList ds p:=xH
 rw[Tryz.params7] at hA xA;obtain⟨v0,yB,d0,xR,p0,q0,xI,rfl,rfl,h0,r0⟩:=trodAll_cons hA;obtain⟨v1,yC,d1,xS,p1,q1,rfl,rfl,rfl,h1,r1⟩:=trodAll_cons r0;obtain⟨rfl,rfl,rfl⟩:=trodAll_nil r1;obtain rfl:args=#[v0,v1]:=by cases args;simp_all
 obtain⟨rfl,rfl⟩:=trodVars_none hV;have hz:(DataW.weightsEach prog [22,74] [d0,d1]).all (· <= reachBytes)=true:=hz0;clear hz0;obtain⟨A0,n0,c0,rfl⟩:=okWide_slice underlying22 (xA 0 22 v0 rfl rfl);have xM:=h0;obtain⟨xF,xK⟩:=h0;obtain⟨b0,o0,l0,xP,yA,xW,xT,xX⟩:=QlY (j:=0) (by simpa [Value.cells] using xK) hz rfl rfl
 obtain⟨A1,n1,c1,rfl⟩:=okWide_slice underlying74 (xA 1 74 v1 rfl rfl);have xN:=h1;obtain⟨xG,xL⟩:=h1;obtain⟨b1,o1,l1,xQ,xO,xU,xY⟩:=Qjm (j:=1) (by simpa [Value.cells] using xL) hz rfl rfl
 clear xH hval0;simp only[List.append_nil] at xB;have xC:∀x∈p0,x.block<W.heap.size:=fun x hx=>by simpa using xB.lt x (by simp[hx])
 have xD:∀x∈p1,x.block<W.heap.size:=fun x hx=>by simpa using xB.lt x (by simp[hx])
 have HT:Tb W:=⟨tab2 hL⟩;have HR:Tr W:=⟨tab1 hL,tab0 hL⟩;refine(Qjx W HT HR A0 b0 o0 n0 c0 l0 xP (by omega) A1 b1 o1 n1 c1 l1 xQ (by have:=xO;unfold maxLen at this;omega)).mono fun e W' ⟨he,hb⟩=> ?_
 subst he;have xJ:=trodAll_cons_mk (Below.trod laidOut (by kernel_rfl) (NQ (by kernel_rfl)) xM hb xC) (trodAll_cons_mk (Below.trod laidOut (by kernel_rfl) (NQ (by kernel_rfl)) xN hb xD) trodAll_mk0)
 simp only[List.append_nil] at xJ;exact⟨_,rfl,_,_,_,[],p0++(p1),[],xB,trodAll_cons_mk (shut_bool underlying4 _) trodAll_mk0,xJ,rfl,hb.frame _,fun h=>by cases h⟩
theorem Qpi:joinedFacts prog 7 Tryz.f7 (OpenSpec.ofChange Rows.wholeToldSpec).bare Rows.wholeToldRow=true:=by
 unfold joinedFacts
 repeat' (with_reducible refine Bool.and_eq_true_iff.2 ⟨?_,?_⟩)
 all_goals (as_aux_lemma=>kernel_rfl)
theorem QqF(f:FuncId)(fn:Func)(hf:Tryz.pinned.checked.prog.funcNamed "massif/massiftop.WholeTold" = some f)(hfn:Tryz.pinned.checked.prog.funcs[f]? = some fn) :
  false=Tryz.pinned.checked.prog.looks [] ∧ ∀(j:Nat) t,fn.params[j]? = some t->Tryz.pinned.checked.prog.wantsStandIn t=false:=by
 obtain rfl:f=7:=NR ((show prog.funcNamed "massif/massiftop.WholeTold" = some 7 by kernel_rfl).symm.trans hf) |>.symm
 obtain rfl:fn=Tryz.f7:=(NR (func7.symm.trans hfn)).symm;refine⟨by kernel_rfl,fun j t ht=> ?_⟩
 rw[Tryz.params7] at ht;have hj:j<2:=by have:=(Array.getElem?_eq_some_iff.1 ht).1;simpa using this
 match j,hj,ht with
 | 0,_,ht=>have e:some 22=some t:=ht;cases e;exact(show prog.wantsStandIn 22=false by kernel_rfl)
 | 1,_,ht=>have e:some 74=some t:=ht;cases e;exact(show prog.wantsStandIn 74=false by kernel_rfl)
theorem said:Rows.WholeToldSaid :=
 OpenClaim.holds_of_cond 7 Tryz.f7 rfl rfl rfl rfl rfl rfl rfl ⟨rfl,rfl,rfl,rfl,rfl⟩ rfl rfl rfl rfl rfl (by as_aux_lemma=>kernel_rfl) func7 Qpi
  (NQ (by as_aux_lemma=>kernel_rfl)) (by unfold Func.isWrapper;first|(rw[Lf (by decide +kernel)];kernel_rfl)|(rw[Le (by decide +kernel)];exact⟨rfl,rfl⟩))
  (fun os started H enc _ F=>by rw[OpenClaim.pre_eq_preRow];exact Qpx os started H enc F)
end wholeTold
end Go.Proofs.YtoblgjledefdbaaGreatDoor
