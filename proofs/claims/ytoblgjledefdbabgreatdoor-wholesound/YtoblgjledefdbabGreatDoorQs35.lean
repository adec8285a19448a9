/- Own work. -/
import Derived.Test.YtoblgjledefdbabGreatDoorCards
import Derived.Test.YtoblgjledefdbabGreatDoorTie
import Derived.Deep.DeepHandedRow
import Derived.Lib.LaidTab
import Derived.Stop.LaidErr
import Derived.Deep.Slices
import Derived.Test.YtoblgjledefdbabGreatDoorQs34
set_option maxRecDepth 100000
set_option maxHeartbeats 8000000
namespace Go.Proofs.YtoblgjledefdbabGreatDoor
open Go.Proofs.Tryz
namespace wholeSound
open Go.ChangeShapes Go.WideShapes Go.ChangeAt Go.RowKit
theorem own:ownKnob prog.godebug=none:=by kernel_rfl
theorem laidOut:laidOutB prog=true:=by kernel_rfl
theorem QlE:prog.cellsOf 9=1:=by kernel_rfl
theorem QlA:prog.bytesOf 9=16:=by kernel_rfl
theorem QdY{H:Type}(l:LB)(s:BA)(hs:s∈l):s.size∈DataW.weightsAll prog 9 (strs (H:=H) l):=by
 induction l with
 | nil=>cases hs
 | cons x r ih=>
  simp only[strs,List.map_cons,DataW.weightsAll,DataW.weights,List.mem_append,List.mem_singleton]
  rcases List.mem_cons.1 hs with rfl|h
  ·left;rw[Ih];rfl
  ·right;exact ih h
theorem QkN{H:Type}{enc:TypeId×Value->H}{W:World}{fuel:Nat}{ao:OA}{len cap:Nat}{x:DataW H×List MemPlace}{ts:List TypeId}{ds:List (DataW H)}{j:Nat}(hf:DataW.trod enc prog W 0 (fun _=>true) true fuel 22 [.slice ao len cap]=some x)
  (hz:(DataW.weightsEach prog ts ds).all (· <= reachBytes)=true) (hj:ts[j]? = some 22) (hd:ds[j]? = some x.1) :
  ∃(b off:Nat) (ss:LB),RdS W ao b off len ss∧(∀s∈ss,s.size<=140737488351232)∧len<=8796093021952∧len<=cap∧(ao=none->cap=0):=by
 rcases open_strings underlying22 underlying9 QlE hf with ⟨hcs,hx⟩|⟨a,len',cap',ss,hcs,_,hl,hm,hzl,hx,hcell,hws⟩
 ·simp at hcs;obtain⟨rfl,rfl,rfl⟩:=hcs;exact⟨0,0,[],⟨rfl,fun h=>absurd h (NB 0),(fun j v h=>by cases h),(fun s h=>by cases h)⟩,(fun s h=>by cases h),Lm _,Lb _,fun _=>rfl⟩
 ·simp at hcs;obtain⟨rfl,rfl,rfl⟩:=hcs;simp only[if_true] at hzl;have hcap:cap<=8796093021952:=by
   have hd':=hd;rw[hx] at hd';have h1:=List.all_eq_true.1 hz _ (DataW.weights_mem_each hj hd' _ (by simp only[DataW.weights,underlying22];exact Nt))
   have h2:=NG h1;simp only[strs,List.length_map,List.length_take,List.length_drop,QlA] at h2;unfold reachBytes at h2;omega
  have hsz:∀s∈ss.take len,s.size<=140737488351232:=fun s hs=>by
   rw[hx] at hd;have:=List.all_eq_true.1 hz _ (DataW.weights_mem_each hj hd s.size (by simp only[DataW.weights,underlying22,List.mem_cons,List.mem_append];exact Or.inr (Or.inl (QdY _ s hs))))
   exact NG this
  by_cases h0:len=0
  ·subst h0;exact⟨0,0,[],⟨rfl,fun h=>absurd h (NB 0),(fun j v h=>by cases h),(fun s h=>by cases h)⟩,(fun s h=>by cases h),Lm _,hl,fun h=>by cases h⟩
  ·obtain⟨b,off,spot⟩:=a;have hspot:spot=none:=by simpa [Addr.add] using Wq (hcell 0 (by omega))
   subst hspot;refine⟨b,off,ss.take len,⟨by rw[Lv];omega,fun _=>rfl,fun j v hv=> ?_,fun s hs=>Lt (hsz s hs) (by decide)⟩,hsz,by omega,hl,fun h=>by cases h⟩
   have hj:j<len:=by have:=(List.getElem?_eq_some_iff.1 hv).1;rw[LI,Lv] at this;omega
   have hc:=hcell j (by omega)
   rw[Addr.add_mid] at hc;rw[hc,<-hv];simp[hj,List.getD_eq_getElem?_getD,List.getElem?_eq_getElem (show j<ss.length by omega)]
theorem QlD:prog.cellsOf 31=1:=by kernel_rfl
theorem Qgw:prog.cellsOf 9=1:=by kernel_rfl
theorem Qir{cs:Array Value}(h:cs.size=2):∃x y,cs=#[x,y]:=by
 obtain⟨l⟩:=cs
 match l,h with
 | [x,y],_=>exact⟨x,y,rfl⟩
theorem QlF:prog.cellsOf 25=2:=by kernel_rfl
theorem QlC:prog.cellsOf 41=2:=by kernel_rfl
theorem QlG:prog.cellsOf 23=1:=by kernel_rfl
theorem Qlz:prog.bytesOf 41=24:=by kernel_rfl
theorem QoP{H:Type}{enc:TypeId×Value->H}{W:World}{fuel:Nat}{v0 v1:Value}{x:DataW H×List MemPlace}(hf:DataW.trod enc prog W 0 (fun _=>true) true fuel 41 [v0,v1]=some x) :
  ∃c:Nat×BA,v0= .int .u64 c.1∧v1= .string c.2∧c.2.size<=9223372036854775807:=by
 obtain⟨y0,y1,m,_,_,g0,g1⟩:=trod_struct2 underlying41 hf;simp[QlD,Qgw] at g0 g1;obtain⟨z0,e0,_,wf⟩:=DataW.trod_int underlying31 g0;obtain⟨c,e1,_,ws⟩:=DataW.trod_string underlying9 g1;simp at e0 e1;obtain⟨n,rfl,_⟩:=Qno wf;exact⟨(n,c),e0,e1,ws⟩
theorem QoQ{H:Type}{enc:TypeId×Value->H}{W:World}{fuel:Nat}{v0 v1:Value}{x:DataW H×List MemPlace}(hf:DataW.trod enc prog W 0 (fun _=>true) true fuel 25 [v0,v1]=some x)(hw:∀y∈DataW.weights prog 25 x.1,y<=reachBytes) :
  ∃(ao:OA) (b off cap:Nat) (l:List (Nat×BA)) (s:BA),v0= .slice ao l.length cap∧v1= .string s∧RdK W ao b off l.length l∧(ao=none->cap=0)∧l.length<=5864062014805∧s.size<=140737488351232:=by
 obtain⟨y0,y1,m,hx,_,g0,g1⟩:=trod_struct2 underlying25 hf;simp[QlG,Qgw] at g0 g1;obtain⟨s,e1,f1,ws⟩:=DataW.trod_string underlying9 g1;simp at e1;subst e1;have hs:s.size<=140737488351232:=hw _ (by
  rw[hx,f1];simp[DataW.weights,DataW.weightsEach,underlying25,Array.length_toList])
 have hsl:∀y∈DataW.weights prog 23 y0.1,y<=reachBytes:=fun y hy=>hw y (by
  rw[hx];simp only[DataW.weights,underlying25,List.map_cons,List.map_nil,DataW.weightsEach,List.mem_append];exact Or.inl hy)
 rcases Go.Deep.open_slice underlying23 g0 with ⟨hcs,hy⟩|⟨a,len,cap,m',n,D,Pl,hcs,_,hl,hm,hmm,hy,hcell⟩
 ·simp at hcs;subst hcs;exact⟨none,0,0,0,[],s,rfl,rfl,QmS W none,fun _=>rfl,Lm _,hs⟩
 ·simp at hcs;subst hcs;have each:∀i,i<len -> ∃c:Nat×BA,W.cell? (a.add (i*2+0))=some (.int .u64 c.1)∧W.cell? (a.add (i*2+1))=some (.string c.2)∧c.2.size<=9223372036854775807:=fun i hi=>by
   obtain⟨cs',h1,h2⟩:=hcell i (by simp only[if_true] at hmm;omega)
   rw[QlC] at h1;obtain⟨_,hlen,hc⟩:=World.cells?_some h1
   match cs',hlen with
   | [u0,u1],_=>
    obtain⟨c,rfl,rfl,ho⟩:=QoP h2;have q:=fun t (ht:t<2)=>hc t ht
    simp only[Go.Deep.add_add] at q;exact⟨c,by simpa using q 0 (by decide),by simpa using q 1 (by decide),ho⟩
  obtain⟨f,hF⟩:=Go.Deep.choose_lt each;obtain⟨l,hlst⟩:∃l,(List.range len).map f=l:=⟨_,rfl⟩;have hll:l.length=len:=by rw[<-hlst];simp
  have hat:∀j,j<len->l.getD j noC=f j:=fun j hj=>by rw[<-hlst,La];simp[hj]
  have hbl:len<=5864062014805:=by
   have h2:=hsl _ (by rw[hy];simp only[DataW.weights,underlying23];exact Nt)
   simp only[List.length_map,List.length_range,Qlz] at h2;unfold reachBytes at h2;omega
  refine⟨some a,a.block,a.off,cap,l,s,by rw[hll],rfl,⟨rfl,fun h=> ?_,fun j v hv=> ?_,fun c hc=> ?_⟩,(fun h=>by cases h),by omega,hs⟩
  ·have:=Wq (hF 0 (by omega)).1
   obtain⟨b,off,spot⟩:=a;have hspot:spot=none:=by simpa [Addr.add] using this
   subst hspot;rfl
  ·have hj2:j<2*l.length:=by have:=(List.getElem?_eq_some_iff.1 hv).1;rwa [Qn4] at this
   obtain⟨b,off,spot⟩:=a;have hspot:spot=none:=by simpa [Addr.add] using Wq (hF 0 (by omega)).1
   subst hspot;obtain⟨q1,q2,_⟩:=hF (j/2) (by omega)
   obtain⟨k1,k2⟩:=QnH l (j/2) (by omega)
   rw[hat _ (by omega)] at k1 k2
   simp only[Addr.add_mid] at q1 q2
   rcases Wf j with h|h
   ·rw[show j/2*2=j by omega] at k1
    rw[show j/2*2+0=j by omega] at q1
    rw[k1] at hv
    cases hv;exact q1
   ·rw[show j/2*2+1=j by omega] at k2 q2
    rw[k2] at hv
    cases hv;exact q2
  ·rw[<-hlst] at hc;obtain⟨i,hi,rfl⟩:=List.mem_map.1 hc;exact(hF i (List.mem_range.1 hi)).2.2
theorem Qcf:prog.cellsOf 141=64:=by kernel_rfl
theorem QiQ:prog.cellsOf 85=8:=by kernel_rfl
theorem Qa5:prog.cellsOf 55=1:=by kernel_rfl
theorem Qap{W:World}{name:String}{l:List Int}{g:Nat}(h:Lib.TabIs prog W name .u32 l)(hg:prog.globalNamed name=some g):W.rangeAt g 0 (cW l):=fun j v hv=>by
 have hj:j<l.length:=by have:=(List.getElem?_eq_some_iff.1 hv).1;rwa [Ql] at this
 have hc:=h.cell hg j hj;rw[Lp,hc,<-hv];simp[cW,List.getD_eq_getElem?_getD,List.getElem?_eq_getElem hj]
theorem gn0:prog.globalNamed "massif/massifref01.first" = some 0:=by kernel_rfl
theorem gt0:(prog.globals[0]?).map (·.type)=some 85:=by kernel_rfl
theorem tab0{W:World}(h0:laidMetH prog Rows.wholeSoundRow.laid W):W.rangeAt 0 0 (cW IV):=by
 exact Qap (Lib.tabIs_of_head (zs:=IV) gn0 gt0 underlying85 underlying55 Qa5 QiQ h0) gn0
theorem gn1:prog.globalNamed "massif/massifref01.rounds" = some 1:=by kernel_rfl
theorem gt1:(prog.globals[1]?).map (·.type)=some 141:=by kernel_rfl
theorem tab1{W:World}(h0:laidMetH prog Rows.wholeSoundRow.laid W):W.rangeAt 1 0 (cW RS):=by
 have h1:laidMet prog [("massif/massifref01.rounds",Rows.laid_massif_massifref01_rounds),("massif/sha.rounds",Rows.laid_massif_sha_rounds)] W:=laidMet.tail (h0:laidMet prog Rows.wholeSoundRow.laid W)
 exact Qap (Lib.tabIs_of_head (zs:=RS) gn1 gt1 underlying141 underlying55 Qa5 Qcf h1) gn1
theorem gn2:prog.globalNamed "massif/sha.rounds" = some 2:=by kernel_rfl
theorem gt2:(prog.globals[2]?).map (·.type)=some 141:=by kernel_rfl
theorem tab2{W:World}(h0:laidMetH prog Rows.wholeSoundRow.laid W):W.rangeAt 2 0 (cW RS):=by
 have h1:laidMet prog [("massif/massifref01.rounds",Rows.laid_massif_massifref01_rounds),("massif/sha.rounds",Rows.laid_massif_sha_rounds)] W:=laidMet.tail (h0:laidMet prog Rows.wholeSoundRow.laid W)
 have h2:laidMet prog [("massif/sha.rounds",Rows.laid_massif_sha_rounds)] W:=laidMet.tail h1
 exact Qap (Lib.tabIs_of_head (zs:=RS) gn2 gt2 underlying141 underlying55 Qa5 Qcf h2) gn2
def QfH(l:List Int):Obj->Obj
 | .cells _ t frozen=> .cells (cW l).toArray t frozen
 | o=>o
def Qb1(w:World):World := { w with heap:=(((w.heap.modify 0 (QfH IV)).modify 1 (QfH RS)).modify 2 (QfH RS)) }
theorem QjJ(os:Os):laidMet prog Rows.wholeSoundRow.laid ((Qb1 (World.holding prog os ⟨#[],#[],[]⟩)).forCall (fun _ _=>0) ⟨#[],#[.int .i64 0,.slice none 0 0,.agg #[.slice none 0 0,.string ByteArray.empty]],[]⟩).memory :=
 laidMet_of_run' 8 (by kernel_rfl) (by kernel_rfl)
theorem QpM(os:Os){H:Type}(enc:TypeId×Value->H):∃places,DataW.whole enc prog ((Qb1 (World.holding prog os ⟨#[],#[],[]⟩)).forCall (fun _ _=>0) ⟨#[],#[.int .i64 0,.slice none 0 0,.agg #[.slice none 0 0,.string ByteArray.empty]],[]⟩).memory Tryz.f3.params.toList Rows.wholeSoundSpec.vars false (#[.int .i64 0,.slice none 0 0,.agg #[.slice none 0 0,.string ByteArray.empty]]:Array Value).toList 8=some ([.lit (.int .i64 0),.nil,.agg [.nil,.lit (.string [])]],[],places) :=
 ⟨[],by kernel_rfl⟩
theorem QoB(os:Os)(started:os.Started)(H:Type)(enc:TypeId×Value->H)(F:Stop.Interp) :
  ReturnsInHanded {} Tryz.checked os 3 .any ((OpenSpec.ofChange Rows.wholeSoundSpec).preRow enc prog Tryz.f3 Rows.wholeSoundRow.domain false Rows.wholeSoundRow.laid) (((OpenSpec.ofChange Rows.wholeSoundSpec).at F).post enc prog Tryz.f3 false true false false):=by
 obtain⟨places,hx⟩:=QpM os enc;refine returnsInHanded_of_row (C:=Tryz.checked) (s:=OpenSpec.ofChange Rows.wholeSoundSpec) own started (by kernel_rfl) func3
  (witness_row_at (enc:=enc) (C:=Tryz.checked) false (Qb1 (World.holding prog os ⟨#[],#[],[]⟩)) #[.int .i64 0,.slice none 0 0,.agg #[.slice none 0 0,.string ByteArray.empty]] rfl (by kernel_rfl) (by kernel_rfl) (by kernel_rfl)
   (OpenSpec.preRow_of_cond 8 hx (by kernel_rfl) (fun k hk=>by cases hk) (by kernel_rfl) (QjJ os))) ?_
 intro W base args ds gs before hval0 hW0 _ _ hz0 hL _ _
 show Calls prog 3 args W fun e W'=> ∃v,e= .returned v∧Rows.wholeSoundSpec.post enc prog Tryz.f3 false true false false W args v W'
 have hW:DataW.Whole enc prog Tryz.f3.params.toList Rows.wholeSoundSpec.vars false W args.toList ds gs before:=hW0;have hval:∀(j:Nat) t v,Tryz.f3.params[j]? = some t->args[j]? = some v->Value.okWide prog W .any base t v:=hval0;have hW':=hW;obtain⟨p,q,hA0,hV,rfl,hfz,hnd⟩:=hW;have hA:DataW.TrodAll enc prog W 0 (fun _=>true) true Tryz.f3.params.toList args.toList ds p:=hA0
 rw[Tryz.params3] at hA hval;obtain⟨v0,vs0,d0,ds0,p0,q0,hargs,rfl,rfl,h0,r0⟩:=trodAll_cons hA;obtain⟨v1,vs1,d1,ds1,p1,q1,rfl,rfl,rfl,h1,r1⟩:=trodAll_cons r0;obtain⟨v2,vs2,d2,ds2,p2,q2,rfl,rfl,rfl,h2,r2⟩:=trodAll_cons r1;obtain⟨rfl,rfl,rfl⟩:=trodAll_nil r2;obtain rfl:args=#[v0,v1,v2]:=by cases args;simp_all
 obtain⟨rfl,rfl⟩:=trodVars_none hV;have hz:(DataW.weightsEach prog [3,22,25] [d0,d1,d2]).all (· <= reachBytes)=true:=hz0;clear hz0;obtain⟨a0,rfl,rfl,rfl,w0⟩:=open_int underlying3 (hval 0 3 v0 rfl rfl) h0;obtain⟨A1,n1,c1,rfl⟩:=okWide_slice underlying22 (hval 1 22 v1 rfl rfl);have hk1:=h1;obtain⟨fuel1,hf1⟩:=h1;obtain⟨b1,o1,l1,rd1,hs1,hm1,hc1,hn1⟩:=QkN (j:=1) (by simpa [Value.cells] using hf1) hz rfl rfl
 obtain⟨cs2,rfl,hsz2⟩:=okWide_struct underlying25 (hval 2 25 v2 rfl rfl);rw[QlF] at hsz2;have hk2:=h2;obtain⟨x2,y2,rfl⟩:=Qir hsz2;obtain⟨fuel2,hf2⟩:=h2;obtain⟨ca2,cb2,co2,cc2,l2,s2,rfl,rfl,rk2,hn2,hbk2⟩:=QoQ (by simpa [Value.cells] using hf2) (fun y hy=>NG (List.all_eq_true.1 hz y (DataW.weights_mem_each (j:=2) rfl rfl y hy)))
 clear hA0 hval0;simp only[List.append_nil,List.nil_append] at hW';have hlt1:∀x∈p1,x.block<W.heap.size:=fun x hx=>by simpa using hW'.lt x (by simp[hx])
 have hlt2:∀x∈p2,x.block<W.heap.size:=fun x hx=>by simpa using hW'.lt x (by simp[hx])
 have HT:Tb W:=⟨tab2 hL⟩;have HR:Tr W:=⟨tab1 hL,tab0 hL⟩;refine(Qfc W HT HR a0 A1 b1 o1 n1 c1 l1 rd1 (by omega) ca2 cb2 co2 cc2 l2 rk2 (by omega) (fun x hx=>by obtain⟨c,hc,rfl⟩:=List.mem_map.1 hx;exact rk2.sz c hc) s2 (by omega)).mono fun e W' ⟨he,hb⟩=> ?_
 subst he;have hsh:=trodAll_cons_mk (shut_int underlying3 w0) (trodAll_cons_mk (Below.trod laidOut (by kernel_rfl) (NG (by kernel_rfl)) hk1 hb hlt1) (trodAll_cons_mk (Below.trod laidOut (by kernel_rfl) (NG (by kernel_rfl)) hk2 hb hlt2) trodAll_mk0))
 simp only[List.append_nil,List.nil_append] at hsh;exact⟨_,rfl,_,_,_,[],p1++(p2),[],hW',trodAll_cons_mk (shut_bool underlying4 _) trodAll_mk0,hsh,rfl,hb.frame _,fun h=>by cases h⟩
theorem Qog:joinedFacts prog 3 Tryz.f3 (OpenSpec.ofChange Rows.wholeSoundSpec).bare Rows.wholeSoundRow=true:=by
 unfold joinedFacts
 repeat' (with_reducible refine Bool.and_eq_true_iff.2 ⟨?_,?_⟩)
 all_goals (as_aux_lemma=>kernel_rfl)
theorem QpJ(f:FuncId)(fn:Func)(hf:Tryz.pinned.checked.prog.funcNamed "massif/massiftop.WholeSound" = some f)(hfn:Tryz.pinned.checked.prog.funcs[f]? = some fn) :
  true=Tryz.pinned.checked.prog.looks [] ∧ ∀(j:Nat) t,fn.params[j]? = some t->Tryz.pinned.checked.prog.wantsStandIn t=false:=by
 obtain rfl:f=3:=NN ((show prog.funcNamed "massif/massiftop.WholeSound" = some 3 by kernel_rfl).symm.trans hf) |>.symm
 obtain rfl:fn=Tryz.f3:=(NN (func3.symm.trans hfn)).symm;refine⟨by kernel_rfl,fun j t ht=> ?_⟩
 rw[Tryz.params3] at ht;have hj:j<3:=by have:=(Array.getElem?_eq_some_iff.1 ht).1;simpa using this
 match j,hj,ht with
 | 0,_,ht=>have e:some 3=some t:=ht;cases e;exact(show prog.wantsStandIn 3=false by kernel_rfl)
 | 1,_,ht=>have e:some 22=some t:=ht;cases e;exact(show prog.wantsStandIn 22=false by kernel_rfl)
 | 2,_,ht=>have e:some 25=some t:=ht;cases e;exact(show prog.wantsStandIn 25=false by kernel_rfl)
theorem said:Rows.WholeSoundSaid :=
 OpenClaim.holds_of_cond 3 Tryz.f3 rfl rfl rfl rfl rfl rfl rfl ⟨rfl,rfl,rfl,rfl,rfl⟩ rfl rfl rfl rfl rfl (by as_aux_lemma=>kernel_rfl) func3 Qog
  (NG (by as_aux_lemma=>kernel_rfl)) (by unfold Func.isWrapper;first|(rw[Lo (by decide +kernel)];kernel_rfl)|(rw[Le (by decide +kernel)];exact⟨rfl,rfl⟩))
  (fun os started H enc _ F=>by rw[OpenClaim.pre_eq_preRow];exact QoB os started H enc F)
end wholeSound
end Go.Proofs.YtoblgjledefdbabGreatDoor
