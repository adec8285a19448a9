/-
  ExtractKin: the row. Own work.
-/
import Derived.Test.YtdocjikpcbmcgaaGreatDoorRows
import Derived.Test.YtdocjikpcbmcgaaGreatDoorCards
import Derived.Test.YtdocjikpcbmcgaaGreatDoorTie
import Derived.Deep.DeepHandedRow
import Derived.Lib.LaidTab
import Derived.Stop.LaidErr
import Derived.Laws.IdiomArrays
import Derived.WalkKit
import Derived.ProofKit
import Derived.OpenShut
import Derived.Below
import Derived.ChangeSame
import Derived.SizedLaws
import Derived.ChangeMaps5
import Derived.SliceStrings
import Derived.Carry
import Derived.Test.YtdocjikpcbmcgaaGreatDoorQj47
namespace Go.Proofs.YtdocjikpcbmcgaaGreatDoor.extractKin
open Go.ChangeShapes Go.WideShapes Go.ChangeAt Go.RowKit
theorem own:ownKnob Tryz.prog.godebug=none:=by kernel_rfl
theorem strShut {H:Type} (enc:TypeId×Value→H) (W':World) (sp:Nat→Bool) (s:ByteArray) (hs:s.size≤maxLen):DataW.Trod enc Tryz.prog W' 0 sp true 9 (.string s) (.lit (.string s.data.toList)) []:=⟨1,by simp [DataW.trod,Value.cells,Tryz.underlying9,hs]⟩
theorem laidOut:laidOutB Tryz.prog=true:=by kernel_rfl
theorem cellsS1:Tryz.prog.cellsOf 9=1:=by kernel_rfl
theorem bytesS1:Tryz.prog.bytesOf 9=16:=by kernel_rfl
theorem weights_strs {H:Type} (l:List ByteArray) (s:ByteArray) (hs:s∈l):s.size∈DataW.weightsAll Tryz.prog 9 (strs (H:=H) l):=by
 induction l with
 | nil=>cases hs
 | cons x r ih =>
  simp only [strs,List.map_cons,DataW.weightsAll,DataW.weights,List.mem_append,List.mem_singleton]
  rcases List.mem_cons.1 hs with rfl | h
  ·left; rw [Array.length_toList]; rfl
  ·right; exact ih h
theorem sliceRdS {H:Type} {enc:TypeId×Value→H} {W:World} {fuel:Nat} {ao:Option Addr} {len cap:Nat} {x:DataW H×List MemPlace} {ts:List TypeId} {ds:List (DataW H)} {j:Nat} (hf:DataW.trod enc Tryz.prog W 0 (fun _=>true) true fuel 22 [.slice ao len cap]=some x)
  (hz:(DataW.weightsEach Tryz.prog ts ds).all (· ≤ reachBytes)=true) (hj:ts[j]? = some 22) (hd:ds[j]? = some x.1) :
  ∃ (b off:Nat) (ss:List ByteArray),RdS W ao b off len ss∧(∀ s∈ss,s.size≤140737488351232)∧len≤8796093021952∧len≤cap∧(ao=none→cap=0):=by
 rcases open_strings Tryz.underlying22 Tryz.underlying9 cellsS1 hf with ⟨hcs,hx⟩ | ⟨a,len',cap',ss,hcs,_,hl,hm,hzl,hx,hcell,hws⟩
 ·simp at hcs
  obtain ⟨rfl,rfl,rfl⟩:=hcs
  exact ⟨0,0,[],⟨rfl,fun h=>absurd h (Nat.lt_irrefl 0),(fun j v h=>by cases h),(fun s h=>by cases h)⟩,(fun s h=>by cases h),Nat.zero_le _,Nat.le_refl _,fun _=>rfl⟩
 ·simp at hcs
  obtain ⟨rfl,rfl,rfl⟩:=hcs
  simp only [if_true] at hzl
  have hcap:cap≤8796093021952:=by
   have hd':=hd
   rw [hx] at hd'
   have h1:=List.all_eq_true.1 hz _ (DataW.weights_mem_each hj hd' _ (by simp only [DataW.weights,Tryz.underlying22]; exact List.mem_cons_self))
   have h2:=of_decide_eq_true h1
   simp only [strs,List.length_map,List.length_take,List.length_drop,bytesS1] at h2
   unfold reachBytes at h2
   omega
  have hsz : ∀ s∈ss.take len,s.size≤140737488351232:=fun s hs=>by
   rw [hx] at hd
   have:=List.all_eq_true.1 hz _ (DataW.weights_mem_each hj hd s.size (by simp only [DataW.weights,Tryz.underlying22,List.mem_cons,List.mem_append]; exact Or.inr (Or.inl (weights_strs _ s hs))))
   exact of_decide_eq_true this
  by_cases h0:len=0
  ·subst h0
   exact ⟨0,0,[],⟨rfl,fun h=>absurd h (Nat.lt_irrefl 0),(fun j v h=>by cases h),(fun s h=>by cases h)⟩,(fun s h=>by cases h),Nat.zero_le _,hl,fun h=>by cases h⟩
  ·obtain ⟨b,off,spot⟩:=a
   have hspot:spot=none:=by simpa [Addr.add] using World.cell?_spot (hcell 0 (by omega))
   subst hspot
   refine ⟨b,off,ss.take len,⟨by rw [List.length_take]; omega,fun _=>rfl,fun j v hv => ?_,fun s hs=>Nat.le_trans (hsz s hs) (by decide)⟩,hsz,by omega,hl,fun h=>by cases h⟩
   have hj:j<len:=by have:=(List.getElem?_eq_some_iff.1 hv).1; rw [List.length_map,List.length_take] at this; omega
   have hc:=hcell j (by omega)
   rw [Addr.add_mid] at hc
   rw [hc,← hv]
   simp [hj,List.getD_eq_getElem?_getD,List.getElem?_eq_getElem (show j<ss.length by omega)]
theorem cellsA2s:Tryz.prog.cellsOf 41=2:=by kernel_rfl
theorem cellsAV:Tryz.prog.cellsOf 22=1:=by kernel_rfl
theorem twoCells {cs:Array Value} (h:cs.size=2) : ∃ x y,cs=#[x,y]:=by
 obtain ⟨l⟩:=cs
 match l,h with
 | [x,y],_=>exact ⟨x,y,rfl⟩
theorem twoL {α:Type} {l:List α} (h:l.length=2) : ∃ x y,l=[x,y]:=by
 match l,h with
 | [x,y],_=>exact ⟨x,y,rfl⟩
theorem isSlice {H:Type} {enc:TypeId×Value→H} {W:World} {fuel:Nat} {v:Value} {x:DataW H×List MemPlace} (hf:DataW.trod enc Tryz.prog W 0 (fun _=>true) true fuel 22 [v]=some x) : ∃ ao n c,v = .slice ao n c:=by
 rcases open_strings Tryz.underlying22 Tryz.underlying9 cellsS1 hf with ⟨hcs,hx⟩ | ⟨a,len',cap',ss,hcs,_⟩
 ·simp at hcs; exact ⟨_,_,_,hcs⟩
 ·simp at hcs; exact ⟨_,_,_,hcs⟩
theorem openA2s {H:Type} {enc:TypeId×Value→H} {W:World} {fuel:Nat} {x y:Value} {z:DataW H×List MemPlace} (h:DataW.trod enc Tryz.prog W 0 (fun _=>true) true fuel 41 [x,y]=some z) (hw : ∀ u∈DataW.weights Tryz.prog 41 z.1,u≤reachBytes) :
  ∃ (pa:Option Addr) (pb po pn pc:Nat) (L:List ByteArray) (qa:Option Addr) (qb qo qn qc:Nat) (M:List ByteArray),x = .slice pa pn pc∧y = .slice qa qn qc∧RdS W pa pb po pn L∧(∀ s∈L,s.size≤140737488351232)∧pn≤pc∧RdS W qa qb qo qn M∧(∀ s∈M,s.size≤140737488351232)∧qn≤qc∧(pa=none→pc=0)∧(qa=none→qc=0):=by
 obtain ⟨xs,m,_,hze,_,hl,hf⟩:=DataW.trod_array Tryz.underlying41 h
 have h0:=hf 0 (by decide)
 have h1:=hf 1 (by decide)
 simp [cellsAV] at h0 h1
 have hl2:xs.length=2:=hl
 obtain ⟨z0,z1,rfl⟩:=twoL hl2
 ·subst hze
  simp at h0 h1
  obtain ⟨pa,pn,pc,rfl⟩:=isSlice h0
  obtain ⟨qa,qn,qc,rfl⟩:=isSlice h1
  have hz:(DataW.weightsEach Tryz.prog [22,22] [z0.1,z1.1]).all (· ≤ reachBytes)=true:=List.all_eq_true.2 fun u hu=>decide_eq_true (hw u (by
   simp only [DataW.weightsEach,List.mem_append] at hu
   simp only [DataW.weights,DataW.weightsAll,Tryz.underlying41,List.map_cons,List.map_nil,List.mem_append]
   exact hu))
  obtain ⟨pb,po,L,a1,a2,_,a4,a5⟩:=sliceRdS (j:=0) h0 hz rfl rfl
  obtain ⟨qb,qo,M,b1,b2,_,b4,b5⟩:=sliceRdS (j:=1) h1 hz rfl rfl
  exact ⟨pa,pb,po,pn,pc,L,qa,qb,qo,qn,qc,M,rfl,rfl,a1,a2,a4,b1,b2,b4,a5,b5⟩
theorem cellsT167:Tryz.prog.cellsOf 167=64:=by kernel_rfl
theorem cellsT113:Tryz.prog.cellsOf 113=8:=by kernel_rfl
theorem cellsT112:Tryz.prog.cellsOf 112=1:=by kernel_rfl
theorem range_tab {W:World} {name:String} {l:List Int} {g:Nat} (h:Lib.TabIs Tryz.prog W name .u32 l) (hg:Tryz.prog.globalNamed name=some g):W.rangeAt g 0 (cW l):=fun j v hv=>by
 have hj:j<l.length:=by have:=(List.getElem?_eq_some_iff.1 hv).1; rwa [Qp] at this
 have hc:=h.cell hg j hj
 rw [Nat.zero_add,hc,← hv]
 simp [cW,List.getD_eq_getElem?_getD,List.getElem?_eq_getElem hj]
theorem gn0:Tryz.prog.globalNamed "massif/massifref01.first" = some 0:=by kernel_rfl
theorem gt0:(Tryz.prog.globals[0]?).map (·.type)=some 113:=by kernel_rfl
theorem tab0 {W:World} (h0:laidMetH Tryz.prog Rows.extractKinUptoRow.laid W):W.rangeAt 0 0 (cW IV):=by
 exact range_tab (Lib.tabIs_of_head (zs:=IV) gn0 gt0 Tryz.underlying113 Tryz.underlying112 cellsT112 cellsT113 h0) gn0
theorem gn1:Tryz.prog.globalNamed "massif/massifref01.rounds" = some 1:=by kernel_rfl
theorem gt1:(Tryz.prog.globals[1]?).map (·.type)=some 167:=by kernel_rfl
theorem tab1 {W:World} (h0:laidMetH Tryz.prog Rows.extractKinUptoRow.laid W):W.rangeAt 1 0 (cW RS):=by
 have h1:laidMet Tryz.prog [("massif/massifref01.rounds",Rows.laid_massif_massifref01_rounds),("massif/sha.rounds",Rows.laid_massif_sha_rounds)] W:=laidMet.tail (h0:laidMet Tryz.prog Rows.extractKinUptoRow.laid W)
 exact range_tab (Lib.tabIs_of_head (zs:=RS) gn1 gt1 Tryz.underlying167 Tryz.underlying112 cellsT112 cellsT167 h1) gn1
theorem gn2:Tryz.prog.globalNamed "massif/sha.rounds" = some 2:=by kernel_rfl
theorem gt2:(Tryz.prog.globals[2]?).map (·.type)=some 167:=by kernel_rfl
theorem tab2 {W:World} (h0:laidMetH Tryz.prog Rows.extractKinUptoRow.laid W):W.rangeAt 2 0 (cW RS):=by
 have h1:laidMet Tryz.prog [("massif/massifref01.rounds",Rows.laid_massif_massifref01_rounds),("massif/sha.rounds",Rows.laid_massif_sha_rounds)] W:=laidMet.tail (h0:laidMet Tryz.prog Rows.extractKinUptoRow.laid W)
 have h2:laidMet Tryz.prog [("massif/sha.rounds",Rows.laid_massif_sha_rounds)] W:=laidMet.tail h1
 exact range_tab (Lib.tabIs_of_head (zs:=RS) gn2 gt2 Tryz.underlying167 Tryz.underlying112 cellsT112 cellsT167 h2) gn2
def layTab (l:List Int):Obj→Obj
 | .cells _ t frozen => .cells (cW l).toArray t frozen
 | o=>o
def withTabs (w:World):World := { w with heap:=(((w.heap.modify 0 (layTab IV)).modify 1 (layTab RS)).modify 2 (layTab RS)) }
theorem laid_met (os:Os):laidMet Tryz.prog Rows.extractKinUptoRow.laid ((withTabs (World.holding Tryz.prog os ⟨#[],#[],[]⟩)).forCall (fun _ _=>0) ⟨#[],#[.int .i64 0,.agg #[.slice none 0 0,.slice none 0 0],.string ByteArray.empty],[]⟩).memory :=
 laidMet_of_run' 8 (by kernel_rfl) (by kernel_rfl)
theorem reads (os:Os) {H:Type} (enc:TypeId×Value→H) : ∃ places,DataW.whole enc Tryz.prog ((withTabs (World.holding Tryz.prog os ⟨#[],#[],[]⟩)).forCall (fun _ _=>0) ⟨#[],#[.int .i64 0,.agg #[.slice none 0 0,.slice none 0 0],.string ByteArray.empty],[]⟩).memory Tryz.f5.params.toList Rows.extractKinSpec.vars false (#[.int .i64 0,.agg #[.slice none 0 0,.slice none 0 0],.string ByteArray.empty]:Array Value).toList 8=some ([.lit (.int .i64 0),.agg [.nil,.nil],.lit (.string [])],[],places) :=
 ⟨[],by kernel_rfl⟩
set_option maxRecDepth 100000 in
theorem lifted (os:Os) (started:os.Started) (H:Type) (enc:TypeId×Value→H) (F:Stop.Interp) :
  ReturnsInHanded {} Tryz.checked os 5 .any ((Rows.OpenSpec.upto Rows.extractKinSpec).preRow enc Tryz.prog Tryz.f5 Rows.extractKinUptoRow.domain false Rows.extractKinUptoRow.laid) (((Rows.OpenSpec.upto Rows.extractKinSpec).at F).post enc Tryz.prog Tryz.f5 false true false false):=by
 obtain ⟨places,hx⟩:=reads os enc
 refine returnsInHanded_of_row (C:=Tryz.checked) (s:=Rows.OpenSpec.upto Rows.extractKinSpec) own started (by kernel_rfl) Tryz.func5
  (witness_row_at (enc:=enc) (C:=Tryz.checked) false (withTabs (World.holding Tryz.prog os ⟨#[],#[],[]⟩)) #[.int .i64 0,.agg #[.slice none 0 0,.slice none 0 0],.string ByteArray.empty] rfl (by kernel_rfl) (by kernel_rfl) (by kernel_rfl)
   (OpenSpec.preRow_of_cond 8 hx (by kernel_rfl) (fun k hk=>by cases hk; kernel_rfl) (by kernel_rfl) (laid_met os))) ?_
 intro W base args ds gs before hval0 hW0 _ hcond hz0 hL _ _
 show Calls Tryz.prog 5 args W fun e W' => ∃ v,e = .returned v∧Rows.extractKinSpec.post enc Tryz.prog Tryz.f5 false true false false W args v W'
 have hW:DataW.Whole enc Tryz.prog Tryz.f5.params.toList Rows.extractKinSpec.vars false W args.toList ds gs before:=hW0
 have hval : ∀ (j:Nat) t v,Tryz.f5.params[j]? = some t→args[j]? = some v→Value.okWide Tryz.prog W .any base t v:=hval0
 have hW':=hW
 obtain ⟨p,q,hA0,hV,rfl,hfz,hnd⟩:=hW
 have hA:DataW.TrodAll enc Tryz.prog W 0 (fun _=>true) true Tryz.f5.params.toList args.toList ds p:=hA0
 rw [Tryz.params5] at hA hval
 obtain ⟨v0,vs0,d0,ds0,p0,q0,hargs,rfl,rfl,h0,r0⟩:=trodAll_cons hA
 obtain ⟨v1,vs1,d1,ds1,p1,q1,rfl,rfl,rfl,h1,r1⟩:=trodAll_cons r0
 obtain ⟨v2,vs2,d2,ds2,p2,q2,rfl,rfl,rfl,h2,r2⟩:=trodAll_cons r1
 obtain ⟨rfl,rfl,rfl⟩:=trodAll_nil r2
 obtain rfl:args=#[v0,v1,v2]:=by cases args; simp_all
 obtain ⟨rfl,rfl⟩:=trodVars_none hV
 have hz:(DataW.weightsEach Tryz.prog [3,41,9] [d0,d1,d2]).all (· ≤ reachBytes)=true:=hz0
 clear hz0
 obtain ⟨a0,rfl,rfl,rfl,w0⟩:=open_int Tryz.underlying3 (hval 0 3 v0 rfl rfl) h0
 obtain ⟨cs1,rfl,hsz1,_⟩ : ∃ cs,v1 = .agg cs∧cs.size=Tryz.prog.cellsOf 41∧Row.okWide Tryz.prog W .any base 41 cs:=by
  have:=hval 1 41 v1 rfl rfl
  simpa [Value.okWide,Tryz.underlying41] using this
 rw [cellsA2s] at hsz1
 have hk1:=h1
 obtain ⟨x1,y1,rfl⟩:=twoCells hsz1
 obtain ⟨fuel1,hf1⟩:=h1
 obtain ⟨pa1,pb1,po1,pn1,pc1,L1,qa1,qb1,qo1,qn1,qc1,M1,rfl,rfl,rp1,hp1,cp1,rq1,hq1,cq1,np1,nq1⟩:=openA2s (by simpa [Value.cells] using hf1) (fun y hy=>of_decide_eq_true (List.all_eq_true.1 hz y (DataW.weights_mem_each (j:=1) rfl rfl y hy)))
 obtain ⟨s2,rfl,rfl,rfl,ws2⟩:=Go.ChangeMaps.open_string Tryz.underlying9 (hval 2 9 v2 rfl rfl) h2
 clear hA0 hval0
 simp only [List.append_nil,List.nil_append] at hW'
 have ks2:s2.size≤1048576:=by
  have h:=of_decide_eq_true (hcond _ rfl)
  simp only [List.append_nil,Rows.uptoBulkAll,Rows.uptoBulk] at h
  have e:s2.data.toList.length=s2.size:=by rw [Array.length_toList]; rfl
  omega
 have ls2:s2.size≤140737488351232:=by have:=sized_string hz (j:=2) rfl rfl; rw [Array.length_toList] at this; exact this
 have hlt1 : ∀ x∈p1,x.block<W.heap.size:=fun x hx=>by simpa using hW'.lt x hx
 have HT:Tb W:=⟨tab2 hL⟩
 have HR:Tr W:=⟨tab1 hL,tab0 hL⟩
 refine (QiX W HT HR a0 pa1 pb1 po1 pn1 pc1 L1 rp1 hp1 cp1 np1 qa1 qb1 qo1 qn1 qc1 M1 rq1 hq1 cq1 nq1 s2 (by omega)).mono fun e W' ⟨he,hb⟩ => ?_
 subst he
 have hsh:=trodAll_cons_mk (shut_int Tryz.underlying3 w0) (trodAll_cons_mk (Below.trod laidOut (by kernel_rfl) (of_decide_eq_true (by kernel_rfl)) hk1 hb hlt1) (trodAll_cons_mk (strShut enc _ _ s2 ws2) trodAll_mk0))
 simp only [List.append_nil,List.nil_append] at hsh
 exact ⟨_,rfl,_,_,_,[],p1,[],hW',trodAll_cons_mk (shut_bool Tryz.underlying4 _) trodAll_mk0,hsh,rfl,hb.frame _,fun h=>by cases h⟩
theorem said:Rows.ExtractKinUptoSaid :=
 OpenClaim.holds_of_cond 5 Tryz.f5 rfl rfl rfl rfl rfl rfl rfl ⟨rfl,rfl,rfl,rfl,rfl⟩ rfl rfl rfl rfl rfl (by kernel_rfl) Tryz.func5 (by kernel_rfl)
  (of_decide_eq_true (by kernel_rfl)) (by unfold Func.isWrapper; first | (rw [if_pos (by decide +kernel)]; kernel_rfl) | (rw [if_neg (by decide +kernel)]; exact ⟨rfl,rfl⟩))
  (fun os started H enc _ F=>by rw [OpenClaim.pre_eq_preRow]; exact lifted os started H enc F)
theorem plain (f:FuncId) (fn:Func) (hf:Tryz.pinned.checked.prog.funcNamed "massif/massiflaw16.ExtractKin" = some f) (hfn:Tryz.pinned.checked.prog.funcs[f]? = some fn) :
  true=Tryz.pinned.checked.prog.looks [] ∧ ∀ (j:Nat) t,fn.params[j]? = some t→Tryz.pinned.checked.prog.wantsStandIn t=false:=by
 obtain rfl:f=5:=Option.some.inj ((show Tryz.prog.funcNamed "massif/massiflaw16.ExtractKin" = some 5 by kernel_rfl).symm.trans hf) |>.symm
 obtain rfl:fn=Tryz.f5:=(Option.some.inj (Tryz.func5.symm.trans hfn)).symm
 refine ⟨by kernel_rfl,fun j t ht => ?_⟩
 rw [Tryz.params5] at ht
 have hj:j<3:=by have:=(Array.getElem?_eq_some_iff.1 ht).1; simpa using this
 match j,hj,ht with
 | 0,_,ht=>have e:some 3=some t:=ht; cases e; exact (show Tryz.prog.wantsStandIn 3=false by kernel_rfl)
 | 1,_,ht=>have e:some 41=some t:=ht; cases e; exact (show Tryz.prog.wantsStandIn 41=false by kernel_rfl)
 | 2,_,ht=>have e:some 9=some t:=ht; cases e; exact (show Tryz.prog.wantsStandIn 9=false by kernel_rfl)
theorem card:Rows.ExtractKinUptoCardSaid :=
 Claim7.holds_tied_plain_at .later [] _ _ _ _ said (fun _ h=>by cases h) (by kernel_rfl) (fun _ h=>by cases h) extractKinUpto_row_tie rfl ⟨rfl,rfl⟩ (by kernel_rfl) rfl plain (by kernel_rfl)
end Go.Proofs.YtdocjikpcbmcgaaGreatDoor.extractKin
namespace Go.Proofs.YtdocjikpcbmcgaaGreatDoor
theorem extractKin_holds:Rows.ExtractKinUptoCardSaid:=extractKin.card
#print axioms extractKin_holds
end Go.Proofs.YtdocjikpcbmcgaaGreatDoor
