/-
  LightWhole: the row. Own work.
-/
import Derived.Test.YtipcenbndhnnhaaGreatDoorQd44
import Derived.Test.YtipcenbndhnnhaaGreatDoorQd46
import Derived.Test.YtipcenbndhnnhaaGreatDoorRows
import Derived.Test.YtipcenbndhnnhaaGreatDoorCards
import Derived.Test.YtipcenbndhnnhaaGreatDoorTie
import Derived.Deep.DeepHandedRow
import Derived.Lib.LaidTab
import Derived.Stop.LaidErr
import Derived.WalkKit
import Derived.ProofKit
import Derived.OpenShut
import Derived.Below
import Derived.ChangeSame
import Derived.SizedLaws
import Derived.ChangeMaps5
import Derived.SliceStrings
import Derived.ChangeSlices
import Derived.Carry
import Derived.Test.YtipcenbndhnnhaaGreatDoorQv05
namespace Go.Proofs.YtipcenbndhnnhaaGreatDoor.lightWhole
open Go.ChangeShapes Go.WideShapes Go.ChangeAt Go.RowKit
theorem own:ownKnob Tryz.prog.godebug=none:=by kernel_rfl
theorem laidOut:laidOutB Tryz.prog=true:=by kernel_rfl
theorem cellsPI:Tryz.prog.cellsOf 3=1:=by kernel_rfl
theorem cellsPU:Tryz.prog.cellsOf 23=1:=by kernel_rfl
theorem cellsPSU:Tryz.prog.cellsOf 24=1:=by kernel_rfl
theorem cellsPSS:Tryz.prog.cellsOf 22=1:=by kernel_rfl
theorem cellsPT:Tryz.prog.cellsOf 9=1:=by kernel_rfl
theorem bytesPU:Tryz.prog.bytesOf 23=8:=by kernel_rfl
theorem bytesPT:Tryz.prog.bytesOf 9=16:=by kernel_rfl
theorem slicePs {H:Type} {enc:TypeId×Value→H} {W:World} {fuel:Nat} {v:Value} {x:DataW H×List MemPlace} (hf:DataW.trod enc Tryz.prog W 0 (fun _=>true) true fuel 24 [v]=some x) (hw : ∀ y∈DataW.weights Tryz.prog 24 x.1,y≤reachBytes) :
  ∃ (ao:Option Addr) (b off cap:Nat) (l:List Nat),v = .slice ao l.length cap∧RdU W ao b off l.length l∧l.length≤17592186043904∧(ao=none→cap=0)∧l.length≤cap:=by
 rcases open_ints Tryz.underlying24 Tryz.underlying23 cellsPU hf with ⟨hcs,hx⟩ | ⟨a,len,cap,zs,hcs,_,hl,hm,hzl,hx,hcell,hws⟩
 ·simp at hcs
  subst hcs
  exact ⟨none,0,0,0,[],rfl,⟨rfl,fun h=>absurd h (Nat.lt_irrefl 0),fun j v h=>by cases h⟩,Nat.zero_le _,(fun _=>rfl),Nat.le_refl _⟩
 ·simp at hcs
  subst hcs
  simp only [if_true] at hzl
  rw [hx] at hw
  have hcap:cap≤17592186043904:=by
   have h2:=hw _ (by simp only [DataW.weights,Tryz.underlying24]; exact List.mem_cons_self)
   simp only [lits,List.length_map,List.length_take,List.length_drop,bytesPU] at h2
   unfold reachBytes at h2
   omega
  by_cases h0:len=0
  ·subst h0
   exact ⟨some a,0,0,cap,[],rfl,⟨rfl,fun h=>absurd h (Nat.lt_irrefl 0),fun j v h=>by cases h⟩,Nat.zero_le _,(fun h=>by cases h),Nat.zero_le _⟩
  ·obtain ⟨b,off,spot⟩:=a
   have hspot:spot=none:=by simpa [Addr.add] using World.cell?_spot (hcell 0 (by omega))
   subst hspot
   have hll:((zs.take len).map Int.toNat).length=len:=by rw [List.length_map,List.length_take]; omega
   refine ⟨some ⟨b,off,none⟩,b,off,cap,(zs.take len).map Int.toNat,by rw [hll],⟨rfl,fun _=>rfl,fun j v hv => ?_⟩,by omega,(fun h=>by cases h),by omega⟩
   have hj:j<len:=by have:=(List.getElem?_eq_some_iff.1 hv).1; simp at this; omega
   have hjz:j<zs.length:=by omega
   have hc:=hcell j hjz
   rw [Addr.add_mid] at hc
   rw [hc]
   obtain ⟨p,hp,_⟩:=u64_nat (hws zs[j] (List.getElem_mem _))
   have e1:zs.getD j 0=(p:Int):=by rw [List.getD_eq_getElem?_getD,List.getElem?_eq_getElem hjz]; exact hp
   rw [e1,← hv]
   rw [show Cv.cU ((zs.take len).map Int.toNat)=((zs.take len).map Int.toNat).map (fun n:Nat=>Value.int .u64 (n:Int)) from rfl,List.getElem?_map,List.getElem?_map,List.getElem?_take_of_lt hj,List.getElem?_eq_getElem hjz,hp]; rfl
theorem weights_strP {H:Type} (l:List ByteArray) (s:ByteArray) (hs:s∈l):s.size∈DataW.weightsAll Tryz.prog 9 (strs (H:=H) l):=by
 induction l with
 | nil=>cases hs
 | cons x r ih =>
  simp only [strs,List.map_cons,DataW.weightsAll,DataW.weights,List.mem_append,List.mem_singleton]
  rcases List.mem_cons.1 hs with rfl | h
  ·left; rw [Array.length_toList]; rfl
  ·right; exact ih h
theorem slicePd {H:Type} {enc:TypeId×Value→H} {W:World} {fuel:Nat} {v:Value} {x:DataW H×List MemPlace} (hf:DataW.trod enc Tryz.prog W 0 (fun _=>true) true fuel 22 [v]=some x) (hw : ∀ y∈DataW.weights Tryz.prog 22 x.1,y≤reachBytes) :
  ∃ (ao:Option Addr) (b off cap:Nat) (ss:List ByteArray),v = .slice ao ss.length cap∧RdS W ao b off ss.length ss∧ss.length≤8796093021952∧(ao=none→cap=0)∧ss.length≤cap:=by
 rcases open_strings Tryz.underlying22 Tryz.underlying9 cellsPT hf with ⟨hcs,hx⟩ | ⟨a,len,cap,ss,hcs,_,hl,hm,hzl,hx,hcell,hws⟩
 ·simp at hcs
  subst hcs
  exact ⟨none,0,0,0,[],rfl,⟨rfl,fun h=>absurd h (Nat.lt_irrefl 0),(fun j v h=>by cases h),(fun s h=>by cases h)⟩,Nat.zero_le _,(fun _=>rfl),Nat.le_refl _⟩
 ·simp at hcs
  subst hcs
  simp only [if_true] at hzl
  rw [hx] at hw
  have hcap:cap≤8796093021952:=by
   have h2:=hw _ (by simp only [DataW.weights,Tryz.underlying22]; exact List.mem_cons_self)
   simp only [strs,List.length_map,List.length_take,List.length_drop,bytesPT] at h2
   unfold reachBytes at h2
   omega
  have hsz : ∀ s∈ss.take len,s.size≤140737488351232:=fun s hs =>
   hw s.size (by simp only [DataW.weights,Tryz.underlying22,List.mem_cons,List.mem_append]; exact Or.inr (Or.inl (weights_strP _ s hs)))
  by_cases h0:len=0
  ·subst h0
   exact ⟨some a,0,0,cap,[],rfl,⟨rfl,fun h=>absurd h (Nat.lt_irrefl 0),(fun j v h=>by cases h),(fun s h=>by cases h)⟩,Nat.zero_le _,(fun h=>by cases h),Nat.zero_le _⟩
  ·obtain ⟨b,off,spot⟩:=a
   have hspot:spot=none:=by simpa [Addr.add] using World.cell?_spot (hcell 0 (by omega))
   subst hspot
   have hll:(ss.take len).length=len:=by rw [List.length_take]; omega
   refine ⟨some ⟨b,off,none⟩,b,off,cap,ss.take len,by rw [hll],⟨rfl,fun _=>rfl,fun j v hv => ?_,fun s hs=>Nat.le_trans (hsz s hs) (by decide)⟩,by omega,(fun h=>by cases h),by omega⟩
   have hj:j<len:=by have:=(List.getElem?_eq_some_iff.1 hv).1; rw [List.length_map,List.length_take] at this; omega
   have hc:=hcell j (by omega)
   rw [Addr.add_mid] at hc
   rw [hc,← hv]
   simp [hj,List.getD_eq_getElem?_getD,List.getElem?_eq_getElem (show j<ss.length by omega)]
theorem cellsCs:Tryz.prog.cellsOf 26=5:=by kernel_rfl
set_option maxRecDepth 100000 in
theorem openCs {H:Type} {enc:TypeId×Value→H} {W:World} {fuel:Nat} {cs:List Value} {x:DataW H×List MemPlace} (hl:cs.length=5) (hf:DataW.trod enc Tryz.prog W 0 (fun _=>true) true fuel 26 cs=some x) (hw : ∀ y∈DataW.weights Tryz.prog 26 x.1,y≤reachBytes) :
  ∃ (k:Int) (m n:Nat) (sa:Option Addr) (sb so sc:Nat) (S:List Nat) (da:Option Addr) (db dO dc:Nat) (D:List ByteArray),cs=[.int .i64 k,.slice da D.length dc,.int .u64 (m:Int),.int .u64 (n:Int),.slice sa S.length sc]∧RdU W sa sb so S.length S∧(sa=none→sc=0)∧S.length≤sc∧S.length≤17592186043904∧RdS W da db dO D.length D∧(da=none→dc=0)∧D.length≤dc∧D.length≤8796093021952∧m<18446744073709551616∧n<18446744073709551616:=by
 obtain ⟨xs,k,hk,hxy,_,hxl,hg⟩:=DataW.trod_struct Tryz.underlying26 hf
 match xs,hxl,cs,hl with
 | [y0,y1,y2,y3,y4],_,[v0,v1,v2,v3,v4],_ =>
  have g0:=hg 0 _ rfl
  have g1:=hg 1 _ rfl
  have g2:=hg 2 _ rfl
  have g3:=hg 3 _ rfl
  have g4:=hg 4 _ rfl
  simp [cellsPI,cellsPU,cellsPSU,cellsPSS] at g0 g1 g2 g3 g4
  obtain ⟨z0,e0,f0,_⟩:=DataW.trod_int Tryz.underlying3 g0
  obtain ⟨z2,e2,f2,wf2⟩:=DataW.trod_int Tryz.underlying23 g2
  obtain ⟨z3,e3,f3,wf3⟩:=DataW.trod_int Tryz.underlying23 g3
  simp only [List.cons.injEq,and_true] at e0 e2 e3
  subst e0 e2 e3
  obtain ⟨n2,rfl,hn2⟩:=u64_nat wf2
  obtain ⟨n3,rfl,hn3⟩:=u64_nat wf3
  rw [hxy] at hw
  obtain ⟨da,db,dO,dc,D,rfl,i1,i2,i3⟩:=slicePd g1 (fun y hy=>hw y (by
   simp only [DataW.weights,Tryz.underlying26,List.map_cons,List.map_nil,DataW.weightsEach,List.mem_append]
   exact Or.inr (Or.inl hy)))
  obtain ⟨sa,sb,so,sc,S,rfl,h1,h2,h3⟩:=slicePs g4 (fun y hy=>hw y (by
   simp only [DataW.weights,Tryz.underlying26,List.map_cons,List.map_nil,DataW.weightsEach,List.mem_append]
   exact Or.inr (Or.inr (Or.inr (Or.inr (Or.inl hy))))))
  exact ⟨z0,n2,n3,sa,sb,so,sc,S,da,db,dO,dc,D,rfl,h1,h3.1,h3.2,h2,i1,i3.1,i3.2,i2,hn2,hn3⟩
theorem cellsT200:Tryz.prog.cellsOf 200=64:=by kernel_rfl
theorem cellsT179:Tryz.prog.cellsOf 179=8:=by kernel_rfl
theorem cellsT178:Tryz.prog.cellsOf 178=1:=by kernel_rfl
theorem range_tab {W:World} {name:String} {l:List Int} {g:Nat} (h:Lib.TabIs Tryz.prog W name .u32 l) (hg:Tryz.prog.globalNamed name=some g):W.rangeAt g 0 (cW l):=fun j v hv=>by
 have hj:j<l.length:=by have:=(List.getElem?_eq_some_iff.1 hv).1; rwa [cW_len] at this
 have hc:=h.cell hg j hj
 rw [Nat.zero_add,hc,← hv]
 simp [cW,List.getD_eq_getElem?_getD,List.getElem?_eq_getElem hj]
theorem gn0:Tryz.prog.globalNamed "massif/massifref01.first" = some 0:=by kernel_rfl
theorem gt0:(Tryz.prog.globals[0]?).map (·.type)=some 179:=by kernel_rfl
theorem tab0 {W:World} (h0:laidMetH Tryz.prog Rows.lightWholeRow.laid W):W.rangeAt 0 0 (cW IV):=by
 exact range_tab (Lib.tabIs_of_head (zs:=IV) gn0 gt0 Tryz.underlying179 Tryz.underlying178 cellsT178 cellsT179 h0) gn0
theorem gn1:Tryz.prog.globalNamed "massif/massifref01.rounds" = some 1:=by kernel_rfl
theorem gt1:(Tryz.prog.globals[1]?).map (·.type)=some 200:=by kernel_rfl
theorem tab1 {W:World} (h0:laidMetH Tryz.prog Rows.lightWholeRow.laid W):W.rangeAt 1 0 (cW RS):=by
 have h1:laidMet Tryz.prog [("massif/massifref01.rounds",Rows.laid_massif_massifref01_rounds),("massif/sha.rounds",Rows.laid_massif_sha_rounds)] W:=laidMet.tail (h0:laidMet Tryz.prog Rows.lightWholeRow.laid W)
 exact range_tab (Lib.tabIs_of_head (zs:=RS) gn1 gt1 Tryz.underlying200 Tryz.underlying178 cellsT178 cellsT200 h1) gn1
theorem gn2:Tryz.prog.globalNamed "massif/sha.rounds" = some 3:=by kernel_rfl
theorem gt2:(Tryz.prog.globals[3]?).map (·.type)=some 200:=by kernel_rfl
theorem tab2 {W:World} (h0:laidMetH Tryz.prog Rows.lightWholeRow.laid W):W.rangeAt 3 0 (cW RS):=by
 have h1:laidMet Tryz.prog [("massif/massifref01.rounds",Rows.laid_massif_massifref01_rounds),("massif/sha.rounds",Rows.laid_massif_sha_rounds)] W:=laidMet.tail (h0:laidMet Tryz.prog Rows.lightWholeRow.laid W)
 have h2:laidMet Tryz.prog [("massif/sha.rounds",Rows.laid_massif_sha_rounds)] W:=laidMet.tail h1
 exact range_tab (Lib.tabIs_of_head (zs:=RS) gn2 gt2 Tryz.underlying200 Tryz.underlying178 cellsT178 cellsT200 h2) gn2
def layTab (l:List Int):Obj→Obj
 | .cells _ t frozen => .cells (cW l).toArray t frozen
 | o=>o
def withTabs (w:World):World := { w with heap:=(((w.heap.modify 0 (layTab IV)).modify 1 (layTab RS)).modify 3 (layTab RS)) }
theorem laid_met (os:Os):laidMet Tryz.prog Rows.lightWholeRow.laid ((withTabs (World.holding Tryz.prog os ⟨#[],#[],[]⟩)).forCall (fun _ _=>0) ⟨#[],#[.agg #[.int .i64 0,.slice none 0 0,.int .u64 0,.int .u64 0,.slice none 0 0]],[]⟩).memory :=
 laidMet_of_run' 8 (by kernel_rfl) (by kernel_rfl)
theorem reads (os:Os) {H:Type} (enc:TypeId×Value→H) : ∃ places,DataW.whole enc Tryz.prog ((withTabs (World.holding Tryz.prog os ⟨#[],#[],[]⟩)).forCall (fun _ _=>0) ⟨#[],#[.agg #[.int .i64 0,.slice none 0 0,.int .u64 0,.int .u64 0,.slice none 0 0]],[]⟩).memory Tryz.f4.params.toList Rows.lightWholeSpec.vars false (#[.agg #[.int .i64 0,.slice none 0 0,.int .u64 0,.int .u64 0,.slice none 0 0]]:Array Value).toList 8=some ([.agg [.lit (.int .i64 0),.nil,.lit (.int .u64 0),.lit (.int .u64 0),.nil]],[],places) :=
 ⟨[],by kernel_rfl⟩
set_option maxRecDepth 100000 in
theorem lifted (os:Os) (started:os.Started) (H:Type) (enc:TypeId×Value→H) (F:Stop.Interp) :
  ReturnsInHanded {} Tryz.checked os 4 .any ((OpenSpec.ofChange Rows.lightWholeSpec).preRow enc Tryz.prog Tryz.f4 Rows.lightWholeRow.domain false Rows.lightWholeRow.laid) (((OpenSpec.ofChange Rows.lightWholeSpec).at F).post enc Tryz.prog Tryz.f4 false true false false):=by
 obtain ⟨places,hx⟩:=reads os enc
 refine returnsInHanded_of_row (C:=Tryz.checked) (s:=OpenSpec.ofChange Rows.lightWholeSpec) own started (by kernel_rfl) Tryz.func4
  (witness_row_at (enc:=enc) (C:=Tryz.checked) false (withTabs (World.holding Tryz.prog os ⟨#[],#[],[]⟩)) #[.agg #[.int .i64 0,.slice none 0 0,.int .u64 0,.int .u64 0,.slice none 0 0]] rfl (by kernel_rfl) (by kernel_rfl) (by kernel_rfl)
   (OpenSpec.preRow_of_cond 8 hx (by kernel_rfl) (fun k hk=>by cases hk) (by kernel_rfl) (laid_met os))) ?_
 intro W base args ds gs before hval0 hW0 _ _ hz0 hL _ _
 show Calls Tryz.prog 4 args W fun e W' => ∃ v,e = .returned v∧Rows.lightWholeSpec.post enc Tryz.prog Tryz.f4 false true false false W args v W'
 have hW:DataW.Whole enc Tryz.prog Tryz.f4.params.toList Rows.lightWholeSpec.vars false W args.toList ds gs before:=hW0
 have hval : ∀ (j:Nat) t v,Tryz.f4.params[j]? = some t→args[j]? = some v→Value.okWide Tryz.prog W .any base t v:=hval0
 have hW':=hW
 obtain ⟨p,q,hA0,hV,rfl,hfz,hnd⟩:=hW
 have hA:DataW.TrodAll enc Tryz.prog W 0 (fun _=>true) true Tryz.f4.params.toList args.toList ds p:=hA0
 rw [Tryz.params4] at hA hval
 obtain ⟨v0,vs0,d0,ds0,p0,q0,hargs,rfl,rfl,h0,r0⟩:=trodAll_cons hA
 obtain ⟨rfl,rfl,rfl⟩:=trodAll_nil r0
 obtain rfl:args=#[v0]:=by cases args; simp_all
 obtain ⟨rfl,rfl⟩:=trodVars_none hV
 have hz:(DataW.weightsEach Tryz.prog [26] [d0]).all (· ≤ reachBytes)=true:=hz0
 clear hz0
 obtain ⟨cs0,rfl,hsz0⟩:=okWide_struct Tryz.underlying26 (hval 0 26 v0 rfl rfl)
 rw [cellsCs] at hsz0
 have hk0:=h0
 obtain ⟨fuel0,hf0⟩:=h0
 obtain ⟨k0,m0,n0,sa0,sb0,so0,sc0,S0,la0,lb0,lo0,lc0,L0,hcs0,rs0,hns0,hsc0,hS0,rl0,hnl0,hlc0,hL0,hmm0,hnn0⟩:=openCs (cs:=cs0.toList) (by simpa using hsz0) (by simpa [Value.cells] using hf0) (fun y hy=>of_decide_eq_true (List.all_eq_true.1 hz y (DataW.weights_mem_each (j:=0) rfl rfl y hy)))
 obtain rfl:cs0=#[.int .i64 k0,.slice la0 L0.length lc0,.int .u64 (m0:Int),.int .u64 (n0:Int),.slice sa0 S0.length sc0]:=by cases cs0; simp_all
 clear hA0 hval0
 simp only [List.append_nil] at hW'
 have hlt0 : ∀ x∈p0,x.block<W.heap.size:=fun x hx=>by simpa using hW'.lt x hx
 have HT:Tb W:=⟨tab2 hL⟩
 have HR:Tr W:=⟨tab1 hL,tab0 hL⟩
 refine (whole_walk W k0 m0 n0 la0 lb0 lo0 lc0 L0 sa0 sb0 so0 sc0 S0 ⟨HT,HR,rl0,hlc0,hL0,rs0,hsc0,hS0,hmm0,hnn0⟩).mono fun e W' ⟨he,hb⟩ => ?_
 subst he
 have hsh:=trodAll_cons_mk (Below.trod laidOut (by kernel_rfl) (of_decide_eq_true (by kernel_rfl)) hk0 hb hlt0) trodAll_mk0
 simp only [List.append_nil] at hsh
 exact ⟨_,rfl,_,_,_,[],p0,[],hW',trodAll_cons_mk (shut_bool Tryz.underlying4 _) trodAll_mk0,hsh,rfl,hb.frame _,fun h=>by cases h⟩
theorem said:Rows.LightWholeSaid :=
 OpenClaim.holds_of_cond 4 Tryz.f4 rfl rfl rfl rfl rfl rfl rfl ⟨rfl,rfl,rfl,rfl,rfl⟩ rfl rfl rfl rfl rfl (by kernel_rfl) Tryz.func4 (by kernel_rfl)
  (of_decide_eq_true (by kernel_rfl)) (by unfold Func.isWrapper; first | (rw [if_pos (by decide +kernel)]; kernel_rfl) | (rw [if_neg (by decide +kernel)]; exact ⟨rfl,rfl⟩))
  (fun os started H enc _ F=>by rw [OpenClaim.pre_eq_preRow]; exact lifted os started H enc F)
theorem plain (f:FuncId) (fn:Func) (hf:Tryz.pinned.checked.prog.funcNamed "massif/massiflaw15.LightWhole" = some f) (hfn:Tryz.pinned.checked.prog.funcs[f]? = some fn) :
  false=Tryz.pinned.checked.prog.looks [] ∧ ∀ (j:Nat) t,fn.params[j]? = some t→Tryz.pinned.checked.prog.wantsStandIn t=false:=by
 obtain rfl:f=4:=Option.some.inj ((show Tryz.prog.funcNamed "massif/massiflaw15.LightWhole" = some 4 by kernel_rfl).symm.trans hf) |>.symm
 obtain rfl:fn=Tryz.f4:=(Option.some.inj (Tryz.func4.symm.trans hfn)).symm
 refine ⟨by kernel_rfl,fun j t ht => ?_⟩
 rw [Tryz.params4] at ht
 have hj:j<1:=by have:=(Array.getElem?_eq_some_iff.1 ht).1; simpa using this
 match j,hj,ht with
 | 0,_,ht=>have e:some 26=some t:=ht; cases e; exact (show Tryz.prog.wantsStandIn 26=false by kernel_rfl)
theorem card:Rows.LightWholeCardSaid :=
 Claim7.holds_tied_plain_at .later [] _ _ _ _ said (fun _ h=>by cases h) (by kernel_rfl) (fun _ h=>by cases h) lightWhole_row_tie rfl ⟨rfl,rfl⟩ (by kernel_rfl) rfl plain (by kernel_rfl)
end Go.Proofs.YtipcenbndhnnhaaGreatDoor.lightWhole
namespace Go.Proofs.YtipcenbndhnnhaaGreatDoor
theorem lightWhole_holds:Rows.LightWholeCardSaid:=lightWhole.card
#print axioms lightWhole_holds
end Go.Proofs.YtipcenbndhnnhaaGreatDoor
