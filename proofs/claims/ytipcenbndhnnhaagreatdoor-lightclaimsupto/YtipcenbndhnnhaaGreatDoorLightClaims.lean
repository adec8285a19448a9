/-
  LightClaims: the row. Own work.
-/
import Derived.Test.YtipcenbndhnnhaaGreatDoorRows
import Derived.Test.YtipcenbndhnnhaaGreatDoorCards
import Derived.Test.YtipcenbndhnnhaaGreatDoorTie
import Derived.Deep.DeepHandedRow
import Derived.Lib.LaidTab
import Derived.Stop.LaidErr
import Derived.Deep.Slices
import Derived.Carry
import Derived.WalkKit
import Derived.ProofKit
import Derived.OpenShut
import Derived.Below
import Derived.ChangeSame
import Derived.SizedLaws
import Derived.ChangeMaps5
import Derived.Test.YtipcenbndhnnhaaGreatDoorQc49
namespace Go.Proofs.YtipcenbndhnnhaaGreatDoor.lightClaims
open Go.ChangeShapes Go.WideShapes Go.ChangeAt Go.RowKit
theorem own:ownKnob Tryz.prog.godebug=none:=by kernel_rfl
theorem laidOut:laidOutB Tryz.prog=true:=by kernel_rfl
theorem cellsRo:Tryz.prog.cellsOf 32=2:=by kernel_rfl
theorem cellsRu:Tryz.prog.cellsOf 23=1:=by kernel_rfl
theorem cellsRs:Tryz.prog.cellsOf 9=1:=by kernel_rfl
theorem openRo {H:Type} {enc:TypeId×Value→H} {W:World} {fuel:Nat} {v0 v1:Value} {x:DataW H×List MemPlace} (hf:DataW.trod enc Tryz.prog W 0 (fun _=>true) true fuel 32 [v0,v1]=some x) :
  ∃ (n:Nat) (c:ByteArray),v0 = .int .u64 (n:Int)∧v1 = .string c:=by
 obtain ⟨y0,y1,m,_,_,g0,g1⟩:=trod_struct2 Tryz.underlying32 hf
 simp [cellsRu,cellsRs] at g0 g1
 obtain ⟨z0,e0,_,wf⟩:=DataW.trod_int Tryz.underlying23 g0
 obtain ⟨c,e1,_,_⟩:=DataW.trod_string Tryz.underlying9 g1
 simp at e0 e1
 obtain ⟨n,rfl,_⟩:=u64_nat wf
 exact ⟨n,c,e0,e1⟩
theorem twoCellsK {cs:Array Value} (h:cs.size=2) : ∃ x y,cs=#[x,y]:=by
 obtain ⟨l⟩:=cs
 match l,h with
 | [x,y],_=>exact ⟨x,y,rfl⟩
theorem cellsSd:Tryz.prog.cellsOf 54=2:=by kernel_rfl
theorem cellsCl:Tryz.prog.cellsOf 46=2:=by kernel_rfl
theorem cellsSl:Tryz.prog.cellsOf 44=1:=by kernel_rfl
theorem bulk_pos {H:Type} (d:DataW H):1≤Rows.uptoBulk d:=by
 cases d with
 | lit l=>cases l <;> simp [Rows.uptoBulk]
 | _=>simp [Rows.uptoBulk]
theorem bulk_len {H:Type} (ds:List (DataW H)):ds.length≤Rows.uptoBulkAll ds:=by
 induction ds with
 | nil=>exact Nat.zero_le _
 | cons d r ih =>
  have:=bulk_pos d
  simp only [Rows.uptoBulkAll,List.length_cons]
  omega
theorem openCl {H:Type} {enc:TypeId×Value→H} {W:World} {fuel:Nat} {v0 v1:Value} {x:DataW H×List MemPlace} (hf:DataW.trod enc Tryz.prog W 0 (fun _=>true) true fuel 46 [v0,v1]=some x) :
  ∃ c:Nat×ByteArray,v0 = .int .u64 (c.1:Int)∧v1 = .string c.2∧c.2.size≤9223372036854775807:=by
 obtain ⟨y0,y1,m,_,_,g0,g1⟩:=trod_struct2 Tryz.underlying46 hf
 simp [cellsRu,cellsRs] at g0 g1
 obtain ⟨z0,e0,_,wf⟩:=DataW.trod_int Tryz.underlying23 g0
 obtain ⟨c,e1,_,ws⟩:=DataW.trod_string Tryz.underlying9 g1
 simp at e0 e1
 obtain ⟨n,rfl,_⟩:=u64_nat wf
 exact ⟨(n,c),e0,e1,ws⟩
theorem openSd {H:Type} {enc:TypeId×Value→H} {W:World} {fuel:Nat} {v0 v1:Value} {x:DataW H×List MemPlace} (hf:DataW.trod enc Tryz.prog W 0 (fun _=>true) true fuel 54 [v0,v1]=some x) :
  ∃ (ao:Option Addr) (b off cap:Nat) (l:List (Nat×ByteArray)) (s:ByteArray),v0 = .slice ao l.length cap∧v1 = .string s∧RdK W ao b off l.length l∧(ao=none→cap=0)∧l.length+s.size≤Rows.uptoBulk x.1:=by
 obtain ⟨y0,y1,m,hx,_,g0,g1⟩:=trod_struct2 Tryz.underlying54 hf
 simp [cellsSl,cellsRs] at g0 g1
 obtain ⟨s,e1,f1,ws⟩:=DataW.trod_string Tryz.underlying9 g1
 simp at e1
 subst e1
 have hb:Rows.uptoBulk y0.1+s.size≤Rows.uptoBulk x.1:=by
  have e:s.data.toList.length=s.size:=by rw [Array.length_toList]; rfl
  rw [hx,f1]
  simp only [Rows.uptoBulk,Rows.uptoBulkAll]
  omega
 rcases Go.Deep.open_slice Tryz.underlying44 g0 with ⟨hcs,hy⟩ | ⟨a,len,cap,m',n,D,Pl,hcs,_,hl,hm,hmm,hy,hcell⟩
 ·simp at hcs
  subst hcs
  exact ⟨none,0,0,0,[],s,rfl,rfl,rdk_nil W none,fun _=>rfl,by simp only [List.length_nil]; omega⟩
 ·simp at hcs
  subst hcs
  have each : ∀ i,i<len → ∃ c:Nat×ByteArray,W.cell? (a.add (i * 2+0))=some (.int .u64 (c.1:Int))∧W.cell? (a.add (i * 2+1))=some (.string c.2)∧c.2.size≤9223372036854775807:=fun i hi=>by
   obtain ⟨cs',h1,h2⟩:=hcell i (by simp only [if_true] at hmm; omega)
   rw [cellsCl] at h1
   obtain ⟨_,hlen,hc⟩:=World.cells?_some h1
   match cs',hlen with
   | [u0,u1],_ =>
    obtain ⟨c,rfl,rfl,ho⟩:=openCl h2
    have q:=fun t (ht:t<2)=>hc t ht
    simp only [Go.Deep.add_add] at q
    exact ⟨c,by simpa using q 0 (by decide),by simpa using q 1 (by decide),ho⟩
  obtain ⟨f,hF⟩:=Go.Deep.choose_lt each
  obtain ⟨l,hlst⟩ : ∃ l,(List.range len).map f=l:=⟨_,rfl⟩
  have hll:l.length=len:=by rw [← hlst]; simp
  have hat : ∀ j,j<len→l.getD j noC=f j:=fun j hj=>by rw [← hlst,List.getD_eq_getElem?_getD]; simp [hj]
  have hbl:len≤Rows.uptoBulk y0.1:=by
   rw [hy]
   simp only [Rows.uptoBulk]
   have:=bulk_len (H:=H) ((List.range len).map D)
   simp at this
   omega
  refine ⟨some a,a.block,a.off,cap,l,s,by rw [hll],rfl,⟨rfl,fun h => ?_,fun j v hv => ?_,fun c hc => ?_⟩,(fun h=>by cases h),by omega⟩
  ·have:=World.cell?_spot (hF 0 (by omega)).1
   obtain ⟨b,off,spot⟩:=a
   have hspot:spot=none:=by simpa [Addr.add] using this
   subst hspot; rfl
  ·have hj2:j<2 * l.length:=by have:=(List.getElem?_eq_some_iff.1 hv).1; rwa [cK_len] at this
   obtain ⟨b,off,spot⟩:=a
   have hspot:spot=none:=by simpa [Addr.add] using World.cell?_spot (hF 0 (by omega)).1
   subst hspot
   obtain ⟨q1,q2,_⟩:=hF (j / 2) (by omega)
   obtain ⟨k1,k2⟩:=cK_at l (j / 2) (by omega)
   rw [hat _ (by omega)] at k1 k2
   simp only [Addr.add_mid] at q1 q2
   rcases Nat.mod_two_eq_zero_or_one j with h | h
   ·rw [show j / 2 * 2=j by omega] at k1
    rw [show j / 2 * 2+0=j by omega] at q1
    rw [k1] at hv
    cases hv
    exact q1
   ·rw [show j / 2 * 2+1=j by omega] at k2 q2
    rw [k2] at hv
    cases hv
    exact q2
  ·rw [← hlst] at hc
   obtain ⟨i,hi,rfl⟩:=List.mem_map.1 hc
   exact (hF i (List.mem_range.1 hi)).2.2
theorem cellsT200:Tryz.prog.cellsOf 200=64:=by kernel_rfl
theorem cellsT179:Tryz.prog.cellsOf 179=8:=by kernel_rfl
theorem cellsT178:Tryz.prog.cellsOf 178=1:=by kernel_rfl
theorem range_tab {W:World} {name:String} {l:List Int} {g:Nat} (h:Lib.TabIs Tryz.prog W name .u32 l) (hg:Tryz.prog.globalNamed name=some g):W.rangeAt g 0 (cW l):=fun j v hv=>by
 have hj:j<l.length:=by have:=(List.getElem?_eq_some_iff.1 hv).1; rwa [cW_len] at this
 have hc:=h.cell hg j hj
 rw [Nat.zero_add,hc,← hv]
 simp [cW,List.getD_eq_getElem?_getD,List.getElem?_eq_getElem hj]
theorem gn0:Tryz.prog.globalNamed "massif/massifref01.first" = some 0:=by kernel_rfl
theorem gt0:(Tryz.prog.globals[0]?).map (·.type)=some 179:=by kernel_rfl
theorem tab0 {W:World} (h0:laidMetH Tryz.prog Rows.lightClaimsUptoRow.laid W):W.rangeAt 0 0 (cW IV):=by
 exact range_tab (Lib.tabIs_of_head (zs:=IV) gn0 gt0 Tryz.underlying179 Tryz.underlying178 cellsT178 cellsT179 h0) gn0
theorem gn1:Tryz.prog.globalNamed "massif/massifref01.rounds" = some 1:=by kernel_rfl
theorem gt1:(Tryz.prog.globals[1]?).map (·.type)=some 200:=by kernel_rfl
theorem tab1 {W:World} (h0:laidMetH Tryz.prog Rows.lightClaimsUptoRow.laid W):W.rangeAt 1 0 (cW RS):=by
 have h1:laidMet Tryz.prog [("massif/massifref01.rounds",Rows.laid_massif_massifref01_rounds),("massif/sha.rounds",Rows.laid_massif_sha_rounds)] W:=laidMet.tail (h0:laidMet Tryz.prog Rows.lightClaimsUptoRow.laid W)
 exact range_tab (Lib.tabIs_of_head (zs:=RS) gn1 gt1 Tryz.underlying200 Tryz.underlying178 cellsT178 cellsT200 h1) gn1
theorem gn2:Tryz.prog.globalNamed "massif/sha.rounds" = some 3:=by kernel_rfl
theorem gt2:(Tryz.prog.globals[3]?).map (·.type)=some 200:=by kernel_rfl
theorem tab2 {W:World} (h0:laidMetH Tryz.prog Rows.lightClaimsUptoRow.laid W):W.rangeAt 3 0 (cW RS):=by
 have h1:laidMet Tryz.prog [("massif/massifref01.rounds",Rows.laid_massif_massifref01_rounds),("massif/sha.rounds",Rows.laid_massif_sha_rounds)] W:=laidMet.tail (h0:laidMet Tryz.prog Rows.lightClaimsUptoRow.laid W)
 have h2:laidMet Tryz.prog [("massif/sha.rounds",Rows.laid_massif_sha_rounds)] W:=laidMet.tail h1
 exact range_tab (Lib.tabIs_of_head (zs:=RS) gn2 gt2 Tryz.underlying200 Tryz.underlying178 cellsT178 cellsT200 h2) gn2
def layTab (l:List Int):Obj→Obj
 | .cells _ t frozen => .cells (cW l).toArray t frozen
 | o=>o
def withTabs (w:World):World := { w with heap:=(((w.heap.modify 0 (layTab IV)).modify 1 (layTab RS)).modify 3 (layTab RS)) }
theorem laid_met (os:Os):laidMet Tryz.prog Rows.lightClaimsUptoRow.laid ((withTabs (World.holding Tryz.prog os ⟨#[],#[],[]⟩)).forCall (fun _ _=>0) ⟨#[],#[.int .i64 0,.agg #[.int .u64 0,.string ByteArray.empty],.agg #[.slice none 0 0,.string ByteArray.empty]],[]⟩).memory :=
 laidMet_of_run' 8 (by kernel_rfl) (by kernel_rfl)
theorem reads (os:Os) {H:Type} (enc:TypeId×Value→H) : ∃ places,DataW.whole enc Tryz.prog ((withTabs (World.holding Tryz.prog os ⟨#[],#[],[]⟩)).forCall (fun _ _=>0) ⟨#[],#[.int .i64 0,.agg #[.int .u64 0,.string ByteArray.empty],.agg #[.slice none 0 0,.string ByteArray.empty]],[]⟩).memory Tryz.f6.params.toList Rows.lightClaimsSpec.vars false (#[.int .i64 0,.agg #[.int .u64 0,.string ByteArray.empty],.agg #[.slice none 0 0,.string ByteArray.empty]]:Array Value).toList 8=some ([.lit (.int .i64 0),.agg [.lit (.int .u64 0),.lit (.string [])],.agg [.nil,.lit (.string [])]],[],places) :=
 ⟨[],by kernel_rfl⟩
set_option maxRecDepth 100000 in
theorem lifted (os:Os) (started:os.Started) (H:Type) (enc:TypeId×Value→H) (F:Stop.Interp) :
  ReturnsInHanded {} Tryz.checked os 6 .any ((Rows.OpenSpec.upto Rows.lightClaimsSpec).preRow enc Tryz.prog Tryz.f6 Rows.lightClaimsUptoRow.domain false Rows.lightClaimsUptoRow.laid) (((Rows.OpenSpec.upto Rows.lightClaimsSpec).at F).post enc Tryz.prog Tryz.f6 false true false false):=by
 obtain ⟨places,hx⟩:=reads os enc
 refine returnsInHanded_of_row (C:=Tryz.checked) (s:=Rows.OpenSpec.upto Rows.lightClaimsSpec) own started (by kernel_rfl) Tryz.func6
  (witness_row_at (enc:=enc) (C:=Tryz.checked) false (withTabs (World.holding Tryz.prog os ⟨#[],#[],[]⟩)) #[.int .i64 0,.agg #[.int .u64 0,.string ByteArray.empty],.agg #[.slice none 0 0,.string ByteArray.empty]] rfl (by kernel_rfl) (by kernel_rfl) (by kernel_rfl)
   (OpenSpec.preRow_of_cond 8 hx (by kernel_rfl) (fun k hk=>by cases hk; kernel_rfl) (by kernel_rfl) (laid_met os))) ?_
 intro W base args ds gs before hval0 hW0 _ hcond hz0 hL _ _
 show Calls Tryz.prog 6 args W fun e W' => ∃ v,e = .returned v∧Rows.lightClaimsSpec.post enc Tryz.prog Tryz.f6 false true false false W args v W'
 have hW:DataW.Whole enc Tryz.prog Tryz.f6.params.toList Rows.lightClaimsSpec.vars false W args.toList ds gs before:=hW0
 have hval : ∀ (j:Nat) t v,Tryz.f6.params[j]? = some t→args[j]? = some v→Value.okWide Tryz.prog W .any base t v:=hval0
 have hW':=hW
 obtain ⟨p,q,hA0,hV,rfl,hfz,hnd⟩:=hW
 have hA:DataW.TrodAll enc Tryz.prog W 0 (fun _=>true) true Tryz.f6.params.toList args.toList ds p:=hA0
 rw [Tryz.params6] at hA hval
 obtain ⟨v0,vs0,d0,ds0,p0,q0,hargs,rfl,rfl,h0,r0⟩:=trodAll_cons hA
 obtain ⟨v1,vs1,d1,ds1,p1,q1,rfl,rfl,rfl,h1,r1⟩:=trodAll_cons r0
 obtain ⟨v2,vs2,d2,ds2,p2,q2,rfl,rfl,rfl,h2,r2⟩:=trodAll_cons r1
 obtain ⟨rfl,rfl,rfl⟩:=trodAll_nil r2
 obtain rfl:args=#[v0,v1,v2]:=by cases args; simp_all
 obtain ⟨rfl,rfl⟩:=trodVars_none hV
 have hz:(DataW.weightsEach Tryz.prog [3,32,54] [d0,d1,d2]).all (· ≤ reachBytes)=true:=hz0
 clear hz0
 obtain ⟨a0,rfl,rfl,rfl,w0⟩:=open_int Tryz.underlying3 (hval 0 3 v0 rfl rfl) h0
 obtain ⟨cs1,rfl,hsz1⟩:=okWide_struct Tryz.underlying32 (hval 1 32 v1 rfl rfl)
 rw [cellsRo] at hsz1
 have hk1:=h1
 obtain ⟨x1,y1,rfl⟩:=twoCellsK hsz1
 obtain ⟨fuel1,hf1⟩:=h1
 obtain ⟨n1,c1,rfl,rfl⟩:=openRo (by simpa [Value.cells] using hf1)
 obtain ⟨cs2,rfl,hsz2⟩:=okWide_struct Tryz.underlying54 (hval 2 54 v2 rfl rfl)
 rw [cellsSd] at hsz2
 have hk2:=h2
 obtain ⟨x2,y2,rfl⟩:=twoCellsK hsz2
 obtain ⟨fuel2,hf2⟩:=h2
 obtain ⟨ca2,cb2,co2,cc2,l2,s2,rfl,rfl,rk2,hn2,hbk2⟩:=openSd (by simpa [Value.cells] using hf2)
 clear hA0 hval0
 simp only [List.append_nil] at hW'
 have ks2:l2.length+s2.size≤1048576:=by
  have h:=of_decide_eq_true (hcond _ rfl)
  simp only [List.append_nil,Rows.uptoBulkAll] at h
  have hq:l2.length+s2.size≤Rows.uptoBulk d2:=hbk2
  omega
 have hlt1 : ∀ x∈p1,x.block<W.heap.size:=fun x hx=>by simpa using hW'.lt x (by simp [hx])
 have hlt2 : ∀ x∈p2,x.block<W.heap.size:=fun x hx=>by simpa using hW'.lt x (by simp [hx])
 have HT:Tb W:=⟨tab2 hL⟩
 have HR:Tr W:=⟨tab1 hL,tab0 hL⟩
 refine (claims_walk W HT HR a0 n1 c1 ca2 cb2 co2 cc2 l2 rk2 hn2 (by omega) s2 (by omega)).mono fun e W' ⟨he,hb⟩ => ?_
 subst he
 have hsh:=trodAll_cons_mk (shut_int Tryz.underlying3 w0) (trodAll_cons_mk (Below.trod laidOut (by kernel_rfl) (of_decide_eq_true (by kernel_rfl)) hk1 hb hlt1) (trodAll_cons_mk (Below.trod laidOut (by kernel_rfl) (of_decide_eq_true (by kernel_rfl)) hk2 hb hlt2) trodAll_mk0))
 simp only [List.append_nil,List.nil_append] at hsh
 exact ⟨_,rfl,_,_,_,[],p1++(p2),[],hW',trodAll_cons_mk (shut_bool Tryz.underlying4 _) trodAll_mk0,hsh,rfl,hb.frame _,fun h=>by cases h⟩
theorem said:Rows.LightClaimsUptoSaid :=
 OpenClaim.holds_of_cond 6 Tryz.f6 rfl rfl rfl rfl rfl rfl rfl ⟨rfl,rfl,rfl,rfl,rfl⟩ rfl rfl rfl rfl rfl (by kernel_rfl) Tryz.func6 (by kernel_rfl)
  (of_decide_eq_true (by kernel_rfl)) (by unfold Func.isWrapper; first | (rw [if_pos (by decide +kernel)]; kernel_rfl) | (rw [if_neg (by decide +kernel)]; exact ⟨rfl,rfl⟩))
  (fun os started H enc _ F=>by rw [OpenClaim.pre_eq_preRow]; exact lifted os started H enc F)
theorem plain (f:FuncId) (fn:Func) (hf:Tryz.pinned.checked.prog.funcNamed "massif/massiflaw15.LightClaims" = some f) (hfn:Tryz.pinned.checked.prog.funcs[f]? = some fn) :
  false=Tryz.pinned.checked.prog.looks [] ∧ ∀ (j:Nat) t,fn.params[j]? = some t→Tryz.pinned.checked.prog.wantsStandIn t=false:=by
 obtain rfl:f=6:=Option.some.inj ((show Tryz.prog.funcNamed "massif/massiflaw15.LightClaims" = some 6 by kernel_rfl).symm.trans hf) |>.symm
 obtain rfl:fn=Tryz.f6:=(Option.some.inj (Tryz.func6.symm.trans hfn)).symm
 refine ⟨by kernel_rfl,fun j t ht => ?_⟩
 rw [Tryz.params6] at ht
 have hj:j<3:=by have:=(Array.getElem?_eq_some_iff.1 ht).1; simpa using this
 match j,hj,ht with
 | 0,_,ht=>have e:some 3=some t:=ht; cases e; exact (show Tryz.prog.wantsStandIn 3=false by kernel_rfl)
 | 1,_,ht=>have e:some 32=some t:=ht; cases e; exact (show Tryz.prog.wantsStandIn 32=false by kernel_rfl)
 | 2,_,ht=>have e:some 54=some t:=ht; cases e; exact (show Tryz.prog.wantsStandIn 54=false by kernel_rfl)
theorem card:Rows.LightClaimsUptoCardSaid :=
 Claim7.holds_tied_plain_at .later [] _ _ _ _ said (fun _ h=>by cases h) (by kernel_rfl) (fun _ h=>by cases h) lightClaimsUpto_row_tie rfl ⟨rfl,rfl⟩ (by kernel_rfl) rfl plain (by kernel_rfl)
end Go.Proofs.YtipcenbndhnnhaaGreatDoor.lightClaims
namespace Go.Proofs.YtipcenbndhnnhaaGreatDoor
theorem lightClaims_holds:Rows.LightClaimsUptoCardSaid:=lightClaims.card
#print axioms lightClaims_holds
end Go.Proofs.YtipcenbndhnnhaaGreatDoor
