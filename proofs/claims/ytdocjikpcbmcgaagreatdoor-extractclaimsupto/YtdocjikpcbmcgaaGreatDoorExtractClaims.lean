/-
  ExtractClaims: the row. Own work.
-/
import Derived.Test.YtdocjikpcbmcgaaGreatDoorRows
import Derived.Test.YtdocjikpcbmcgaaGreatDoorCards
import Derived.Test.YtdocjikpcbmcgaaGreatDoorTie
import Derived.Deep.DeepHandedRow
import Derived.Lib.LaidTab
import Derived.Stop.LaidErr
import Derived.Deep.Slices
import Derived.Carry
import Derived.WalkKit
import Derived.ProofKit
import Derived.OpenShut
import Derived.Below
import Derived.ChangeSame
import Derived.SizedLaws
import Derived.ChangeMaps5
import Derived.SliceStrings
import Derived.Carry
import Derived.Test.YtdocjikpcbmcgaaGreatDoorQn38
namespace Go.Proofs.YtdocjikpcbmcgaaGreatDoor.extractClaims
open Go.ChangeShapes Go.WideShapes Go.ChangeAt Go.RowKit
theorem own:ownKnob Tryz.prog.godebug=none:=by kernel_rfl
theorem laidOut:laidOutB Tryz.prog=true:=by kernel_rfl
theorem cellsS1:Tryz.prog.cellsOf 9=1:=by kernel_rfl
theorem bytesS1:Tryz.prog.bytesOf 9=16:=by kernel_rfl
theorem weights_strs {H:Type} (l:List ByteArray) (s:ByteArray) (hs:s∈l):s.size∈DataW.weightsAll Tryz.prog 9 (strs (H:=H) l):=by
 induction l with
 | nil=>cases hs
 | cons x r ih =>
  simp only [strs,List.map_cons,DataW.weightsAll,DataW.weights,List.mem_append,List.mem_singleton]
  rcases List.mem_cons.1 hs with rfl | h
  ·left; rw [Array.length_toList]; rfl
  ·right; exact ih h
theorem sliceRdS {H:Type} {enc:TypeId×Value→H} {W:World} {fuel:Nat} {ao:Option Addr} {len cap:Nat} {x:DataW H×List MemPlace} {ts:List TypeId} {ds:List (DataW H)} {j:Nat} (hf:DataW.trod enc Tryz.prog W 0 (fun _=>true) true fuel 22 [.slice ao len cap]=some x)
  (hz:(DataW.weightsEach Tryz.prog ts ds).all (· ≤ reachBytes)=true) (hj:ts[j]? = some 22) (hd:ds[j]? = some x.1) :
  ∃ (b off:Nat) (ss:List ByteArray),RdS W ao b off len ss∧(∀ s∈ss,s.size≤140737488351232)∧len≤8796093021952∧len≤cap∧(ao=none→cap=0):=by
 rcases open_strings Tryz.underlying22 Tryz.underlying9 cellsS1 hf with ⟨hcs,hx⟩ | ⟨a,len',cap',ss,hcs,_,hl,hm,hzl,hx,hcell,hws⟩
 ·simp at hcs
  obtain ⟨rfl,rfl,rfl⟩:=hcs
  exact ⟨0,0,[],⟨rfl,fun h=>absurd h (Nat.lt_irrefl 0),(fun j v h=>by cases h),(fun s h=>by cases h)⟩,(fun s h=>by cases h),Nat.zero_le _,Nat.le_refl _,fun _=>rfl⟩
 ·simp at hcs
  obtain ⟨rfl,rfl,rfl⟩:=hcs
  simp only [if_true] at hzl
  have hcap:cap≤8796093021952:=by
   have hd':=hd
   rw [hx] at hd'
   have h1:=List.all_eq_true.1 hz _ (DataW.weights_mem_each hj hd' _ (by simp only [DataW.weights,Tryz.underlying22]; exact List.mem_cons_self))
   have h2:=of_decide_eq_true h1
   simp only [strs,List.length_map,List.length_take,List.length_drop,bytesS1] at h2
   unfold reachBytes at h2
   omega
  have hsz : ∀ s∈ss.take len,s.size≤140737488351232:=fun s hs=>by
   rw [hx] at hd
   have:=List.all_eq_true.1 hz _ (DataW.weights_mem_each hj hd s.size (by simp only [DataW.weights,Tryz.underlying22,List.mem_cons,List.mem_append]; exact Or.inr (Or.inl (weights_strs _ s hs))))
   exact of_decide_eq_true this
  by_cases h0:len=0
  ·subst h0
   exact ⟨0,0,[],⟨rfl,fun h=>absurd h (Nat.lt_irrefl 0),(fun j v h=>by cases h),(fun s h=>by cases h)⟩,(fun s h=>by cases h),Nat.zero_le _,hl,fun h=>by cases h⟩
  ·obtain ⟨b,off,spot⟩:=a
   have hspot:spot=none:=by simpa [Addr.add] using World.cell?_spot (hcell 0 (by omega))
   subst hspot
   refine ⟨b,off,ss.take len,⟨by rw [List.length_take]; omega,fun _=>rfl,fun j v hv => ?_,fun s hs=>Nat.le_trans (hsz s hs) (by decide)⟩,hsz,by omega,hl,fun h=>by cases h⟩
   have hj:j<len:=by have:=(List.getElem?_eq_some_iff.1 hv).1; rw [List.length_map,List.length_take] at this; omega
   have hc:=hcell j (by omega)
   rw [Addr.add_mid] at hc
   rw [hc,← hv]
   simp [hj,List.getD_eq_getElem?_getD,List.getElem?_eq_getElem (show j<ss.length by omega)]
theorem cellsRu:Tryz.prog.cellsOf 28=1:=by kernel_rfl
theorem cellsRs:Tryz.prog.cellsOf 9=1:=by kernel_rfl
theorem twoCellsK {cs:Array Value} (h:cs.size=2) : ∃ x y,cs=#[x,y]:=by
 obtain ⟨l⟩:=cs
 match l,h with
 | [x,y],_=>exact ⟨x,y,rfl⟩
theorem cellsSd:Tryz.prog.cellsOf 25=2:=by kernel_rfl
theorem cellsCl:Tryz.prog.cellsOf 38=2:=by kernel_rfl
theorem cellsSl:Tryz.prog.cellsOf 23=1:=by kernel_rfl
theorem bulk_pos {H:Type} (d:DataW H):1≤Rows.uptoBulk d:=by
 cases d with
 | lit l=>cases l <;> simp [Rows.uptoBulk]
 | _=>simp [Rows.uptoBulk]
theorem bulk_len {H:Type} (ds:List (DataW H)):ds.length≤Rows.uptoBulkAll ds:=by
 induction ds with
 | nil=>exact Nat.zero_le _
 | cons d r ih =>
  have:=bulk_pos d
  simp only [Rows.uptoBulkAll,List.length_cons]
  omega
theorem openCl {H:Type} {enc:TypeId×Value→H} {W:World} {fuel:Nat} {v0 v1:Value} {x:DataW H×List MemPlace} (hf:DataW.trod enc Tryz.prog W 0 (fun _=>true) true fuel 38 [v0,v1]=some x) :
  ∃ c:Nat×ByteArray,v0 = .int .u64 (c.1:Int)∧v1 = .string c.2∧c.2.size≤9223372036854775807:=by
 obtain ⟨y0,y1,m,_,_,g0,g1⟩:=trod_struct2 Tryz.underlying38 hf
 simp [cellsRu,cellsRs] at g0 g1
 obtain ⟨z0,e0,_,wf⟩:=DataW.trod_int Tryz.underlying28 g0
 obtain ⟨c,e1,_,ws⟩:=DataW.trod_string Tryz.underlying9 g1
 simp at e0 e1
 obtain ⟨n,rfl,_⟩:=Qmw wf
 exact ⟨(n,c),e0,e1,ws⟩
theorem openSd {H:Type} {enc:TypeId×Value→H} {W:World} {fuel:Nat} {v0 v1:Value} {x:DataW H×List MemPlace} (hf:DataW.trod enc Tryz.prog W 0 (fun _=>true) true fuel 25 [v0,v1]=some x) :
  ∃ (ao:Option Addr) (b off cap:Nat) (l:List (Nat×ByteArray)) (s:ByteArray),v0 = .slice ao l.length cap∧v1 = .string s∧RdK W ao b off l.length l∧(ao=none→cap=0)∧l.length+s.size≤Rows.uptoBulk x.1:=by
 obtain ⟨y0,y1,m,hx,_,g0,g1⟩:=trod_struct2 Tryz.underlying25 hf
 simp [cellsSl,cellsRs] at g0 g1
 obtain ⟨s,e1,f1,ws⟩:=DataW.trod_string Tryz.underlying9 g1
 simp at e1
 subst e1
 have hb:Rows.uptoBulk y0.1+s.size≤Rows.uptoBulk x.1:=by
  have e:s.data.toList.length=s.size:=by rw [Array.length_toList]; rfl
  rw [hx,f1]
  simp only [Rows.uptoBulk,Rows.uptoBulkAll]
  omega
 rcases Go.Deep.open_slice Tryz.underlying23 g0 with ⟨hcs,hy⟩ | ⟨a,len,cap,m',n,D,Pl,hcs,_,hl,hm,hmm,hy,hcell⟩
 ·simp at hcs
  subst hcs
  exact ⟨none,0,0,0,[],s,rfl,rfl,QlY W none,fun _=>rfl,by simp only [List.length_nil]; omega⟩
 ·simp at hcs
  subst hcs
  have each : ∀ i,i<len → ∃ c:Nat×ByteArray,W.cell? (a.add (i * 2+0))=some (.int .u64 (c.1:Int))∧W.cell? (a.add (i * 2+1))=some (.string c.2)∧c.2.size≤9223372036854775807:=fun i hi=>by
   obtain ⟨cs',h1,h2⟩:=hcell i (by simp only [if_true] at hmm; omega)
   rw [cellsCl] at h1
   obtain ⟨_,hlen,hc⟩:=World.cells?_some h1
   match cs',hlen with
   | [u0,u1],_ =>
    obtain ⟨c,rfl,rfl,ho⟩:=openCl h2
    have q:=fun t (ht:t<2)=>hc t ht
    simp only [Go.Deep.add_add] at q
    exact ⟨c,by simpa using q 0 (by decide),by simpa using q 1 (by decide),ho⟩
  obtain ⟨f,hF⟩:=Go.Deep.choose_lt each
  obtain ⟨l,hlst⟩ : ∃ l,(List.range len).map f=l:=⟨_,rfl⟩
  have hll:l.length=len:=by rw [← hlst]; simp
  have hat : ∀ j,j<len→l.getD j noC=f j:=fun j hj=>by rw [← hlst,List.getD_eq_getElem?_getD]; simp [hj]
  have hbl:len≤Rows.uptoBulk y0.1:=by
   rw [hy]
   simp only [Rows.uptoBulk]
   have:=bulk_len (H:=H) ((List.range len).map D)
   simp at this
   omega
  refine ⟨some a,a.block,a.off,cap,l,s,by rw [hll],rfl,⟨rfl,fun h => ?_,fun j v hv => ?_,fun c hc => ?_⟩,(fun h=>by cases h),by omega⟩
  ·have:=World.cell?_spot (hF 0 (by omega)).1
   obtain ⟨b,off,spot⟩:=a
   have hspot:spot=none:=by simpa [Addr.add] using this
   subst hspot; rfl
  ·have hj2:j<2 * l.length:=by have:=(List.getElem?_eq_some_iff.1 hv).1; rwa [Qm3] at this
   obtain ⟨b,off,spot⟩:=a
   have hspot:spot=none:=by simpa [Addr.add] using World.cell?_spot (hF 0 (by omega)).1
   subst hspot
   obtain ⟨q1,q2,_⟩:=hF (j / 2) (by omega)
   obtain ⟨k1,k2⟩:=QmH l (j / 2) (by omega)
   rw [hat _ (by omega)] at k1 k2
   simp only [Addr.add_mid] at q1 q2
   rcases Nat.mod_two_eq_zero_or_one j with h | h
   ·rw [show j / 2 * 2=j by omega] at k1
    rw [show j / 2 * 2+0=j by omega] at q1
    rw [k1] at hv
    cases hv
    exact q1
   ·rw [show j / 2 * 2+1=j by omega] at k2 q2
    rw [k2] at hv
    cases hv
    exact q2
  ·rw [← hlst] at hc
   obtain ⟨i,hi,rfl⟩:=List.mem_map.1 hc
   exact (hF i (List.mem_range.1 hi)).2.2
theorem cellsT167:Tryz.prog.cellsOf 167=64:=by kernel_rfl
theorem cellsT113:Tryz.prog.cellsOf 113=8:=by kernel_rfl
theorem cellsT112:Tryz.prog.cellsOf 112=1:=by kernel_rfl
theorem range_tab {W:World} {name:String} {l:List Int} {g:Nat} (h:Lib.TabIs Tryz.prog W name .u32 l) (hg:Tryz.prog.globalNamed name=some g):W.rangeAt g 0 (cW l):=fun j v hv=>by
 have hj:j<l.length:=by have:=(List.getElem?_eq_some_iff.1 hv).1; rwa [Qo] at this
 have hc:=h.cell hg j hj
 rw [Nat.zero_add,hc,← hv]
 simp [cW,List.getD_eq_getElem?_getD,List.getElem?_eq_getElem hj]
theorem gn0:Tryz.prog.globalNamed "massif/massifref01.first" = some 0:=by kernel_rfl
theorem gt0:(Tryz.prog.globals[0]?).map (·.type)=some 113:=by kernel_rfl
theorem tab0 {W:World} (h0:laidMetH Tryz.prog Rows.extractClaimsUptoRow.laid W):W.rangeAt 0 0 (cW IV):=by
 exact range_tab (Lib.tabIs_of_head (zs:=IV) gn0 gt0 Tryz.underlying113 Tryz.underlying112 cellsT112 cellsT113 h0) gn0
theorem gn1:Tryz.prog.globalNamed "massif/massifref01.rounds" = some 1:=by kernel_rfl
theorem gt1:(Tryz.prog.globals[1]?).map (·.type)=some 167:=by kernel_rfl
theorem tab1 {W:World} (h0:laidMetH Tryz.prog Rows.extractClaimsUptoRow.laid W):W.rangeAt 1 0 (cW RS):=by
 have h1:laidMet Tryz.prog [("massif/massifref01.rounds",Rows.laid_massif_massifref01_rounds),("massif/sha.rounds",Rows.laid_massif_sha_rounds)] W:=laidMet.tail (h0:laidMet Tryz.prog Rows.extractClaimsUptoRow.laid W)
 exact range_tab (Lib.tabIs_of_head (zs:=RS) gn1 gt1 Tryz.underlying167 Tryz.underlying112 cellsT112 cellsT167 h1) gn1
theorem gn2:Tryz.prog.globalNamed "massif/sha.rounds" = some 2:=by kernel_rfl
theorem gt2:(Tryz.prog.globals[2]?).map (·.type)=some 167:=by kernel_rfl
theorem tab2 {W:World} (h0:laidMetH Tryz.prog Rows.extractClaimsUptoRow.laid W):W.rangeAt 2 0 (cW RS):=by
 have h1:laidMet Tryz.prog [("massif/massifref01.rounds",Rows.laid_massif_massifref01_rounds),("massif/sha.rounds",Rows.laid_massif_sha_rounds)] W:=laidMet.tail (h0:laidMet Tryz.prog Rows.extractClaimsUptoRow.laid W)
 have h2:laidMet Tryz.prog [("massif/sha.rounds",Rows.laid_massif_sha_rounds)] W:=laidMet.tail h1
 exact range_tab (Lib.tabIs_of_head (zs:=RS) gn2 gt2 Tryz.underlying167 Tryz.underlying112 cellsT112 cellsT167 h2) gn2
def layTab (l:List Int):Obj→Obj
 | .cells _ t frozen => .cells (cW l).toArray t frozen
 | o=>o
def withTabs (w:World):World := { w with heap:=(((w.heap.modify 0 (layTab IV)).modify 1 (layTab RS)).modify 2 (layTab RS)) }
theorem laid_met (os:Os):laidMet Tryz.prog Rows.extractClaimsUptoRow.laid ((withTabs (World.holding Tryz.prog os ⟨#[],#[],[]⟩)).forCall (fun _ _=>0) ⟨#[],#[.int .i64 0,.slice none 0 0,.agg #[.slice none 0 0,.string ByteArray.empty]],[]⟩).memory :=
 laidMet_of_run' 8 (by kernel_rfl) (by kernel_rfl)
theorem reads (os:Os) {H:Type} (enc:TypeId×Value→H) : ∃ places,DataW.whole enc Tryz.prog ((withTabs (World.holding Tryz.prog os ⟨#[],#[],[]⟩)).forCall (fun _ _=>0) ⟨#[],#[.int .i64 0,.slice none 0 0,.agg #[.slice none 0 0,.string ByteArray.empty]],[]⟩).memory Tryz.f6.params.toList Rows.extractClaimsSpec.vars false (#[.int .i64 0,.slice none 0 0,.agg #[.slice none 0 0,.string ByteArray.empty]]:Array Value).toList 8=some ([.lit (.int .i64 0),.nil,.agg [.nil,.lit (.string [])]],[],places) :=
 ⟨[],by kernel_rfl⟩
set_option maxRecDepth 100000 in
theorem lifted (os:Os) (started:os.Started) (H:Type) (enc:TypeId×Value→H) (F:Stop.Interp) :
  ReturnsInHanded {} Tryz.checked os 6 .any ((Rows.OpenSpec.upto Rows.extractClaimsSpec).preRow enc Tryz.prog Tryz.f6 Rows.extractClaimsUptoRow.domain false Rows.extractClaimsUptoRow.laid) (((Rows.OpenSpec.upto Rows.extractClaimsSpec).at F).post enc Tryz.prog Tryz.f6 false true false false):=by
 obtain ⟨places,hx⟩:=reads os enc
 refine returnsInHanded_of_row (C:=Tryz.checked) (s:=Rows.OpenSpec.upto Rows.extractClaimsSpec) own started (by kernel_rfl) Tryz.func6
  (witness_row_at (enc:=enc) (C:=Tryz.checked) false (withTabs (World.holding Tryz.prog os ⟨#[],#[],[]⟩)) #[.int .i64 0,.slice none 0 0,.agg #[.slice none 0 0,.string ByteArray.empty]] rfl (by kernel_rfl) (by kernel_rfl) (by kernel_rfl)
   (OpenSpec.preRow_of_cond 8 hx (by kernel_rfl) (fun k hk=>by cases hk; kernel_rfl) (by kernel_rfl) (laid_met os))) ?_
 intro W base args ds gs before hval0 hW0 _ hcond hz0 hL _ _
 show Calls Tryz.prog 6 args W fun e W' => ∃ v,e = .returned v∧Rows.extractClaimsSpec.post enc Tryz.prog Tryz.f6 false true false false W args v W'
 have hW:DataW.Whole enc Tryz.prog Tryz.f6.params.toList Rows.extractClaimsSpec.vars false W args.toList ds gs before:=hW0
 have hval : ∀ (j:Nat) t v,Tryz.f6.params[j]? = some t→args[j]? = some v→Value.okWide Tryz.prog W .any base t v:=hval0
 have hW':=hW
 obtain ⟨p,q,hA0,hV,rfl,hfz,hnd⟩:=hW
 have hA:DataW.TrodAll enc Tryz.prog W 0 (fun _=>true) true Tryz.f6.params.toList args.toList ds p:=hA0
 rw [Tryz.params6] at hA hval
 obtain ⟨v0,vs0,d0,ds0,p0,q0,hargs,rfl,rfl,h0,r0⟩:=trodAll_cons hA
 obtain ⟨v1,vs1,d1,ds1,p1,q1,rfl,rfl,rfl,h1,r1⟩:=trodAll_cons r0
 obtain ⟨v2,vs2,d2,ds2,p2,q2,rfl,rfl,rfl,h2,r2⟩:=trodAll_cons r1
 obtain ⟨rfl,rfl,rfl⟩:=trodAll_nil r2
 obtain rfl:args=#[v0,v1,v2]:=by cases args; simp_all
 obtain ⟨rfl,rfl⟩:=trodVars_none hV
 have hz:(DataW.weightsEach Tryz.prog [3,22,25] [d0,d1,d2]).all (· ≤ reachBytes)=true:=hz0
 clear hz0
 obtain ⟨a0,rfl,rfl,rfl,w0⟩:=open_int Tryz.underlying3 (hval 0 3 v0 rfl rfl) h0
 obtain ⟨A1,n1,c1,rfl⟩:=okWide_slice Tryz.underlying22 (hval 1 22 v1 rfl rfl)
 have hk1:=h1
 obtain ⟨fuel1,hf1⟩:=h1
 obtain ⟨b1,o1,l1,rd1,hs1,hm1,hc1,hn1⟩:=sliceRdS (j:=1) (by simpa [Value.cells] using hf1) hz rfl rfl
 obtain ⟨cs2,rfl,hsz2⟩:=okWide_struct Tryz.underlying25 (hval 2 25 v2 rfl rfl)
 rw [cellsSd] at hsz2
 have hk2:=h2
 obtain ⟨x2,y2,rfl⟩:=twoCellsK hsz2
 obtain ⟨fuel2,hf2⟩:=h2
 obtain ⟨ca2,cb2,co2,cc2,l2,s2,rfl,rfl,rk2,hn2,hbk2⟩:=openSd (by simpa [Value.cells] using hf2)
 clear hA0 hval0
 simp only [List.append_nil,List.nil_append] at hW'
 have ks2:l2.length+s2.size≤1048576:=by
  have h:=of_decide_eq_true (hcond _ rfl)
  simp only [List.append_nil,Rows.uptoBulkAll] at h
  have hq:l2.length+s2.size≤Rows.uptoBulk d2:=hbk2
  omega
 have hlt1 : ∀ x∈p1,x.block<W.heap.size:=fun x hx=>by simpa using hW'.lt x (by simp [hx])
 have hlt2 : ∀ x∈p2,x.block<W.heap.size:=fun x hx=>by simpa using hW'.lt x (by simp [hx])
 have HT:Tb W:=⟨tab2 hL⟩
 have HR:Tr W:=⟨tab1 hL,tab0 hL⟩
 refine (Qdt W HT HR a0 A1 b1 o1 n1 c1 l1 rd1 hs1 hc1 hn1 ca2 cb2 co2 cc2 l2 rk2 (by omega) (fun x hx=>by obtain ⟨c,hc,rfl⟩:=List.mem_map.1 hx; exact rk2.sz c hc) s2 (by omega)).mono fun e W' ⟨he,hb⟩ => ?_
 subst he
 have hsh:=trodAll_cons_mk (shut_int Tryz.underlying3 w0) (trodAll_cons_mk (Below.trod laidOut (by kernel_rfl) (of_decide_eq_true (by kernel_rfl)) hk1 hb hlt1) (trodAll_cons_mk (Below.trod laidOut (by kernel_rfl) (of_decide_eq_true (by kernel_rfl)) hk2 hb hlt2) trodAll_mk0))
 simp only [List.append_nil,List.nil_append] at hsh
 exact ⟨_,rfl,_,_,_,[],p1++(p2),[],hW',trodAll_cons_mk (shut_bool Tryz.underlying4 _) trodAll_mk0,hsh,rfl,hb.frame _,fun h=>by cases h⟩
theorem said:Rows.ExtractClaimsUptoSaid :=
 OpenClaim.holds_of_cond 6 Tryz.f6 rfl rfl rfl rfl rfl rfl rfl ⟨rfl,rfl,rfl,rfl,rfl⟩ rfl rfl rfl rfl rfl (by kernel_rfl) Tryz.func6 (by kernel_rfl)
  (of_decide_eq_true (by kernel_rfl)) (by unfold Func.isWrapper; first | (rw [if_pos (by decide +kernel)]; kernel_rfl) | (rw [if_neg (by decide +kernel)]; exact ⟨rfl,rfl⟩))
  (fun os started H enc _ F=>by rw [OpenClaim.pre_eq_preRow]; exact lifted os started H enc F)
theorem plain (f:FuncId) (fn:Func) (hf:Tryz.pinned.checked.prog.funcNamed "massif/massiflaw16.ExtractClaims" = some f) (hfn:Tryz.pinned.checked.prog.funcs[f]? = some fn) :
  true=Tryz.pinned.checked.prog.looks [] ∧ ∀ (j:Nat) t,fn.params[j]? = some t→Tryz.pinned.checked.prog.wantsStandIn t=false:=by
 obtain rfl:f=6:=Option.some.inj ((show Tryz.prog.funcNamed "massif/massiflaw16.ExtractClaims" = some 6 by kernel_rfl).symm.trans hf) |>.symm
 obtain rfl:fn=Tryz.f6:=(Option.some.inj (Tryz.func6.symm.trans hfn)).symm
 refine ⟨by kernel_rfl,fun j t ht => ?_⟩
 rw [Tryz.params6] at ht
 have hj:j<3:=by have:=(Array.getElem?_eq_some_iff.1 ht).1; simpa using this
 match j,hj,ht with
 | 0,_,ht=>have e:some 3=some t:=ht; cases e; exact (show Tryz.prog.wantsStandIn 3=false by kernel_rfl)
 | 1,_,ht=>have e:some 22=some t:=ht; cases e; exact (show Tryz.prog.wantsStandIn 22=false by kernel_rfl)
 | 2,_,ht=>have e:some 25=some t:=ht; cases e; exact (show Tryz.prog.wantsStandIn 25=false by kernel_rfl)
theorem card:Rows.ExtractClaimsUptoCardSaid :=
 Claim7.holds_tied_plain_at .later [] _ _ _ _ said (fun _ h=>by cases h) (by kernel_rfl) (fun _ h=>by cases h) extractClaimsUpto_row_tie rfl ⟨rfl,rfl⟩ (by kernel_rfl) rfl plain (by kernel_rfl)
end Go.Proofs.YtdocjikpcbmcgaaGreatDoor.extractClaims
namespace Go.Proofs.YtdocjikpcbmcgaaGreatDoor
theorem extractClaims_holds:Rows.ExtractClaimsUptoCardSaid:=extractClaims.card
#print axioms extractClaims_holds
end Go.Proofs.YtdocjikpcbmcgaaGreatDoor
