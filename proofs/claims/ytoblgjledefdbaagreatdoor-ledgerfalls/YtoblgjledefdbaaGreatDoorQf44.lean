/- Own work. -/
import Derived.Test.YtoblgjledefdbaaGreatDoorRows
import Derived.Test.YtoblgjledefdbaaGreatDoorCards
import Derived.Test.YtoblgjledefdbaaGreatDoorTie
import Derived.Deep.DeepHandedRow
import Derived.Lib.LaidTab
import Derived.Stop.LaidErr
import Derived.WalkKit
import Derived.ProofKit
import Derived.OpenShut
import Derived.Below
import Derived.ChangeSame
import Derived.SizedLaws
import Derived.ChangeMaps5
import Derived.SliceStrings
import Derived.Carry
import Derived.Deep.SlicePairs
import Derived.Test.YtoblgjledefdbaaGreatDoorQf43
namespace Go.Proofs.YtoblgjledefdbaaGreatDoor.ledgerFalls
open Go.ChangeShapes Go.WideShapes Go.ChangeAt Go.RowKit
theorem own:ownKnob Tryz.prog.godebug=none:=by kernel_rfl
theorem laidOut:laidOutB Tryz.prog=true:=by kernel_rfl
theorem cellsS1:Tryz.prog.cellsOf 9=1:=by kernel_rfl
theorem bytesS1:Tryz.prog.bytesOf 9=16:=by kernel_rfl
theorem weights_strs {H:Type} (l:List ByteArray) (s:ByteArray) (hs:s∈l):s.size∈DataW.weightsAll Tryz.prog 9 (strs (H:=H) l):=by
 induction l with
 | nil=>cases hs
 | cons x r ih =>
  simp only [strs,List.map_cons,DataW.weightsAll,DataW.weights,List.mem_append,List.mem_singleton]
  rcases List.mem_cons.1 hs with rfl | h
  ·left; rw [Array.length_toList]; rfl
  ·right; exact ih h
theorem sliceRdS {H:Type} {enc:TypeId×Value→H} {W:World} {fuel:Nat} {ao:Option Addr} {len cap:Nat} {x:DataW H×List MemPlace} {ts:List TypeId} {ds:List (DataW H)} {j:Nat} (hf:DataW.trod enc Tryz.prog W 0 (fun _=>true) true fuel 22 [.slice ao len cap]=some x)
  (hz:(DataW.weightsEach Tryz.prog ts ds).all (· ≤ reachBytes)=true) (hj:ts[j]? = some 22) (hd:ds[j]? = some x.1) :
  ∃ (b off:Nat) (ss:List ByteArray),RdS W ao b off len ss∧(∀ s∈ss,s.size≤140737488351232)∧len≤8796093021952∧len≤cap∧(ao=none→cap=0):=by
 rcases open_strings Tryz.underlying22 Tryz.underlying9 cellsS1 hf with ⟨hcs,hx⟩ | ⟨a,len',cap',ss,hcs,_,hl,hm,hzl,hx,hcell,hws⟩
 ·simp at hcs
  obtain ⟨rfl,rfl,rfl⟩:=hcs
  exact ⟨0,0,[],⟨rfl,fun h=>absurd h (Nat.lt_irrefl 0),(fun j v h=>by cases h),(fun s h=>by cases h)⟩,(fun s h=>by cases h),Nat.zero_le _,Nat.le_refl _,fun _=>rfl⟩
 ·simp at hcs
  obtain ⟨rfl,rfl,rfl⟩:=hcs
  simp only [if_true] at hzl
  have hcap:cap≤8796093021952:=by
   have hd':=hd
   rw [hx] at hd'
   have h1:=List.all_eq_true.1 hz _ (DataW.weights_mem_each hj hd' _ (by simp only [DataW.weights,Tryz.underlying22]; exact List.mem_cons_self))
   have h2:=of_decide_eq_true h1
   simp only [strs,List.length_map,List.length_take,List.length_drop,bytesS1] at h2
   unfold reachBytes at h2
   omega
  have hsz : ∀ s∈ss.take len,s.size≤140737488351232:=fun s hs=>by
   rw [hx] at hd
   have:=List.all_eq_true.1 hz _ (DataW.weights_mem_each hj hd s.size (by simp only [DataW.weights,Tryz.underlying22,List.mem_cons,List.mem_append]; exact Or.inr (Or.inl (weights_strs _ s hs))))
   exact of_decide_eq_true this
  by_cases h0:len=0
  ·subst h0
   exact ⟨0,0,[],⟨rfl,fun h=>absurd h (Nat.lt_irrefl 0),(fun j v h=>by cases h),(fun s h=>by cases h)⟩,(fun s h=>by cases h),Nat.zero_le _,hl,fun h=>by cases h⟩
  ·obtain ⟨b,off,spot⟩:=a
   have hspot:spot=none:=by simpa [Addr.add] using World.cell?_spot (hcell 0 (by omega))
   subst hspot
   refine ⟨b,off,ss.take len,⟨by rw [List.length_take]; omega,fun _=>rfl,fun j v hv => ?_,fun s hs=>Nat.le_trans (hsz s hs) (by decide)⟩,hsz,by omega,hl,fun h=>by cases h⟩
   have hj:j<len:=by have:=(List.getElem?_eq_some_iff.1 hv).1; rw [List.length_map,List.length_take] at this; omega
   have hc:=hcell j (by omega)
   rw [Addr.add_mid] at hc
   rw [hc,← hv]
   simp [hj,List.getD_eq_getElem?_getD,List.getElem?_eq_getElem (show j<ss.length by omega)]
theorem cellsT403:Tryz.prog.cellsOf 403=64:=by kernel_rfl
theorem cellsT110:Tryz.prog.cellsOf 110=1:=by kernel_rfl
theorem range_tab {W:World} {name:String} {l:List Int} {g:Nat} (h:Lib.TabIs Tryz.prog W name .u32 l) (hg:Tryz.prog.globalNamed name=some g):W.rangeAt g 0 (cW l):=fun j v hv=>by
 have hj:j<l.length:=by have:=(List.getElem?_eq_some_iff.1 hv).1; rwa [cW_len] at this
 have hc:=h.cell hg j hj
 rw [Nat.zero_add,hc,← hv]
 simp [cW,List.getD_eq_getElem?_getD,List.getElem?_eq_getElem hj]
theorem gn0:Tryz.prog.globalNamed "massif/sha.rounds" = some 3:=by kernel_rfl
theorem gt0:(Tryz.prog.globals[3]?).map (·.type)=some 403:=by kernel_rfl
theorem tab0 {W:World} (h0:laidMetH Tryz.prog Rows.ledgerFallsRow.laid W):W.rangeAt 3 0 (cW RS):=by
 exact range_tab (Lib.tabIs_of_head (zs:=RS) gn0 gt0 Tryz.underlying403 Tryz.underlying110 cellsT110 cellsT403 h0) gn0
def layTab (l:List Int):Obj→Obj
 | .cells _ t frozen => .cells (cW l).toArray t frozen
 | o=>o
def withTabs (w:World):World := { w with heap:=(w.heap.modify 3 (layTab RS)) }
theorem laid_met (os:Os):laidMet Tryz.prog Rows.ledgerFallsRow.laid ((withTabs (World.holding Tryz.prog os ⟨#[],#[],[]⟩)).forCall (fun _ _=>0) ⟨#[],#[.slice none 0 0,.slice none 0 0],[]⟩).memory :=
 laidMet_of_run' 8 (by kernel_rfl) (by kernel_rfl)
theorem reads (os:Os) {H:Type} (enc:TypeId×Value→H) : ∃ places,DataW.whole enc Tryz.prog ((withTabs (World.holding Tryz.prog os ⟨#[],#[],[]⟩)).forCall (fun _ _=>0) ⟨#[],#[.slice none 0 0,.slice none 0 0],[]⟩).memory Tryz.f3.params.toList Rows.ledgerFallsSpec.vars false (#[.slice none 0 0,.slice none 0 0]:Array Value).toList 8=some ([.nil,.nil],[],places) :=
 ⟨[],by kernel_rfl⟩
set_option maxRecDepth 100000 in
theorem lifted (os:Os) (started:os.Started) (H:Type) (enc:TypeId×Value→H) (F:Stop.Interp) :
  ReturnsInHanded {} Tryz.checked os 3 .any ((OpenSpec.ofChange Rows.ledgerFallsSpec).preRow enc Tryz.prog Tryz.f3 Rows.ledgerFallsRow.domain false Rows.ledgerFallsRow.laid) (((OpenSpec.ofChange Rows.ledgerFallsSpec).at F).post enc Tryz.prog Tryz.f3 false true false false):=by
 obtain ⟨places,hx⟩:=reads os enc
 refine returnsInHanded_of_row (C:=Tryz.checked) (s:=OpenSpec.ofChange Rows.ledgerFallsSpec) own started (by kernel_rfl) Tryz.func3
  (witness_row_at (enc:=enc) (C:=Tryz.checked) false (withTabs (World.holding Tryz.prog os ⟨#[],#[],[]⟩)) #[.slice none 0 0,.slice none 0 0] rfl (by kernel_rfl) (by kernel_rfl) (by kernel_rfl)
   (OpenSpec.preRow_of_cond 8 hx (by kernel_rfl) (fun k hk=>by cases hk) (by kernel_rfl) (laid_met os))) ?_
 intro W base args ds gs before hval0 hW0 _ _ hz0 hL _ _
 show Calls Tryz.prog 3 args W fun e W' => ∃ v,e = .returned v∧Rows.ledgerFallsSpec.post enc Tryz.prog Tryz.f3 false true false false W args v W'
 have hW:DataW.Whole enc Tryz.prog Tryz.f3.params.toList Rows.ledgerFallsSpec.vars false W args.toList ds gs before:=hW0
 have hval : ∀ (j:Nat) t v,Tryz.f3.params[j]? = some t→args[j]? = some v→Value.okWide Tryz.prog W .any base t v:=hval0
 have hW':=hW
 obtain ⟨p,q,hA0,hV,rfl,hfz,hnd⟩:=hW
 have hA:DataW.TrodAll enc Tryz.prog W 0 (fun _=>true) true Tryz.f3.params.toList args.toList ds p:=hA0
 rw [Tryz.params3] at hA hval
 obtain ⟨v0,vs0,d0,ds0,p0,q0,hargs,rfl,rfl,h0,r0⟩:=trodAll_cons hA
 obtain ⟨v1,vs1,d1,ds1,p1,q1,rfl,rfl,rfl,h1,r1⟩:=trodAll_cons r0
 obtain ⟨rfl,rfl,rfl⟩:=trodAll_nil r1
 obtain rfl:args=#[v0,v1]:=by cases args; simp_all
 obtain ⟨rfl,rfl⟩:=trodVars_none hV
 have hz:(DataW.weightsEach Tryz.prog [22,23] [d0,d1]).all (· ≤ reachBytes)=true:=hz0
 clear hz0
 obtain ⟨A0,n0,c0,rfl⟩:=okWide_slice Tryz.underlying22 (hval 0 22 v0 rfl rfl)
 have hk0:=h0
 obtain ⟨fuel0,hf0⟩:=h0
 obtain ⟨b0,o0,l0,rd0,hs0,hm0,hc0,hn0⟩:=sliceRdS (j:=0) (by simpa [Value.cells] using hf0) hz rfl rfl
 obtain ⟨A1,n1,c1,rfl⟩:=okWide_slice Tryz.underlying23 (hval 1 23 v1 rfl rfl)
 have hk1:=h1
 obtain ⟨fuel1,hf1⟩:=h1
 obtain ⟨b1,o1,l1,rd1,hm1,hc1,hn1⟩:=sliceRdFa (j:=1) (by simpa [Value.cells] using hf1) hz rfl rfl
 clear hA0 hval0
 simp only [List.append_nil] at hW'
 have hlt0 : ∀ x∈p0,x.block<W.heap.size:=fun x hx=>by simpa using hW'.lt x (by simp [hx])
 have hlt1 : ∀ x∈p1,x.block<W.heap.size:=fun x hx=>by simpa using hW'.lt x (by simp [hx])
 have HT:Tb W:=⟨tab0 hL⟩
 refine (falls_walk W HT A0 b0 o0 n0 c0 l0 rd0 (by omega) A1 b1 o1 n1 c1 l1 rd1 (by have:=hm1; unfold maxLen at this; omega)).mono fun e W' ⟨he,hb⟩ => ?_
 subst he
 have hsh:=trodAll_cons_mk (Below.trod laidOut (by kernel_rfl) (of_decide_eq_true (by kernel_rfl)) hk0 hb hlt0) (trodAll_cons_mk (Below.trod laidOut (by kernel_rfl) (of_decide_eq_true (by kernel_rfl)) hk1 hb hlt1) trodAll_mk0)
 simp only [List.append_nil] at hsh
 exact ⟨_,rfl,_,_,_,[],p0++(p1),[],hW',trodAll_cons_mk (shut_bool Tryz.underlying4 _) trodAll_mk0,hsh,rfl,hb.frame _,fun h=>by cases h⟩
set_option maxHeartbeats 8000000 in
theorem closed:joinedFacts Tryz.prog 3 Tryz.f3 (OpenSpec.ofChange Rows.ledgerFallsSpec).bare Rows.ledgerFallsRow=true:=by
 unfold joinedFacts
 repeat' (with_reducible refine Bool.and_eq_true_iff.2 ⟨?_,?_⟩)
 all_goals (as_aux_lemma=>kernel_rfl)
theorem plain (f:FuncId) (fn:Func) (hf:Tryz.pinned.checked.prog.funcNamed "massif/massiflaw20.LedgerFalls" = some f) (hfn:Tryz.pinned.checked.prog.funcs[f]? = some fn) :
  false=Tryz.pinned.checked.prog.looks [] ∧ ∀ (j:Nat) t,fn.params[j]? = some t→Tryz.pinned.checked.prog.wantsStandIn t=false:=by
 obtain rfl:f=3:=Option.some.inj ((show Tryz.prog.funcNamed "massif/massiflaw20.LedgerFalls" = some 3 by kernel_rfl).symm.trans hf) |>.symm
 obtain rfl:fn=Tryz.f3:=(Option.some.inj (Tryz.func3.symm.trans hfn)).symm
 refine ⟨by kernel_rfl,fun j t ht => ?_⟩
 rw [Tryz.params3] at ht
 have hj:j<2:=by have:=(Array.getElem?_eq_some_iff.1 ht).1; simpa using this
 match j,hj,ht with
 | 0,_,ht=>have e:some 22=some t:=ht; cases e; exact (show Tryz.prog.wantsStandIn 22=false by kernel_rfl)
 | 1,_,ht=>have e:some 23=some t:=ht; cases e; exact (show Tryz.prog.wantsStandIn 23=false by kernel_rfl)
theorem said:Rows.LedgerFallsSaid :=
 OpenClaim.holds_of_cond 3 Tryz.f3 rfl rfl rfl rfl rfl rfl rfl ⟨rfl,rfl,rfl,rfl,rfl⟩ rfl rfl rfl rfl rfl (by as_aux_lemma=>kernel_rfl) Tryz.func3 closed
  (of_decide_eq_true (by as_aux_lemma=>kernel_rfl)) (by unfold Func.isWrapper; first | (rw [if_pos (by decide +kernel)]; kernel_rfl) | (rw [if_neg (by decide +kernel)]; exact ⟨rfl,rfl⟩))
  (fun os started H enc _ F=>by rw [OpenClaim.pre_eq_preRow]; exact lifted os started H enc F)
end Go.Proofs.YtoblgjledefdbaaGreatDoor.ledgerFalls
