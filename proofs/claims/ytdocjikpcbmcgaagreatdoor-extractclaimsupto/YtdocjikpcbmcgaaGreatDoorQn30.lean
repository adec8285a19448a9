/- Own work. -/
import Derived.Test.YtdocjikpcbmcgaaGreatDoorQn29
set_option maxRecDepth 100000
set_option maxHeartbeats 2000000
namespace Go.Proofs.YtdocjikpcbmcgaaGreatDoor
open Go.RowKit
attribute [local go_sem ↓] Go.wp_at_zero Go.wp_at_succ
open Go.Proofs.Tryz
theorem Tryz.laidOut:laidOutB prog=true:=by kernel_rfl
theorem Tryz.rowB:(83:TypeId)<prog.types.size:=Ij (by kernel_rfl)
theorem Tryz.deepB:prog.keyTypeAt 2 83=true:=by kernel_rfl
theorem Tryz.keyed:Maps.Keyed prog 83:=Maps.Keyed.of_law (deep_law_laid Tryz.laidOut (m:=2) (by omega) Tryz.rowB Tryz.deepB (by rw[underlying83]))
def kv(h:Int)(k:Nat):Value := .agg #[.int .i64 h,.int .u64 (k:Int)]
def ni(s:Nat):Value := .int .i64 (s:Int)
theorem QfX{h h':Int}{k k':Nat}(e:kv h k=kv h' k'):h=h'∧k=k':=by
 have h1:Value.int .i64 h=Value.int .i64 h'∧Value.int .u64 (k:Int)=Value.int .u64 (k':Int):=by
  unfold kv at e;injection e with e
  have:=LU Array.toList e;injection this with a b
  injection b with b _
  exact⟨a,b⟩
 obtain⟨a,b⟩:=h1;injection a with _ a
 injection b with _ b
 exact⟨a,by omega⟩
theorem QjP{s s':Nat}(e:ni s=ni s'):s=s':=by
 unfold ni at e;injection e with _ e
 omega
theorem keyT:prog.keyType 83=true:=by kernel_rfl
theorem QiV:prog.cellsOf 83=2:=by kernel_rfl
theorem Qk9:prog.cellsOf 3=1:=by kernel_rfl
theorem Qla:prog.cellsOf 28=1:=by kernel_rfl
theorem QnO : ∃n,prog.types.size+1=n+2:=by
 have h:0<prog.types.size:=N7 (Ll _) Tryz.rowB;generalize prog.types.size=z at *;exact⟨z - 1,by omega⟩
theorem Qlw(n:Nat)(h u:Int)(w1:(Lit.int .i64 h).wf=true)(w2:(Lit.int .u64 u).wf=true):prog.keyLits (n+2) 83 [.int .i64 h,.int .u64 u]=some [.int .i64 h,.int .u64 u]:=by
 simp[Program.keyLits,underlying83,w1,w2,QiV,Qk9,Qla,underlying3,underlying28]
theorem QhU(h:Int)(k:Nat):(kv h k).formed prog 83=true:=by
 simp[Value.formed,underlying83,QiV,kv]
theorem Qb0{h:Int}{k:Nat}(hf:Fitb h k) : ∃l,keyOf prog 83 (kv h k)=some l:=by
 obtain⟨n,hn⟩:=QnO;obtain⟨h1,h3⟩:=hf;have e:=Qlw n h k (WalkArith.wf_i64 h1) (WalkArith.wf_u64 ⟨by omega,by omega⟩)
 have e2:(kv h k).cells.toList=[.int .i64 h,.int .u64 (k:Int)]:=rfl;rw[<-hn,<-e2] at e;unfold keyOf;rw[underlying83];simp only[keyT,QhU,Bool.and_self,if_true,e,Option.map_some];exact⟨_,rfl⟩
def Mi(w:World)(b:Nat)(f:Int->Nat->Option Nat):Prop :=
 ∃es clock,w.heap[b]? = some (.map es clock)∧(∀e∈es.toList,∃h k s,Fitb h k∧e.key=kv h k∧e.val=ni s)∧es.toList.Pairwise (fun x y=>x.key≠y.key) ∧
  ∀h k s,Fitb h k->(f h k=some s ↔ ∃e∈es.toList,e.key=kv h k∧e.val=ni s)
theorem Mi.lt{w:World}{b:Nat}{f:Int->Nat->Option Nat}(h:Mi w b f):b<w.heap.size:=by
 obtain⟨es,c,h1,_⟩:=h;exact(Array.getElem?_eq_some_iff.1 h1).1
theorem Mi.same{w W:World}{b:Nat}{f:Int->Nat->Option Nat}(h:Mi w b f)(hb:W.heap[b]? = w.heap[b]?):Mi W b f:=by
 obtain⟨es,c,h1,h2⟩:=h;exact⟨es,c,hb.trans h1,h2⟩
theorem Qnv(w:World):Mi (w.alloc (.map #[] 0)) w.heap.size (fun _ _=>none):=by
 refine⟨#[],0,(MapKept.heap_alloc w _).1,?_,?_,?_⟩
 ·intro e he;simp at he
 ·simp
 ·intro h k s _;simp
theorem Mi.find{w:World}{b:Nat}{f:Int->Nat->Option Nat}(hm:Mi w b f){h:Int}{k:Nat}(hf:Fitb h k) :
  ∃es clock,w.heap[b]? = some (.map es clock)∧((f h k=none∧(Instr.findKey 83 (kv h k) es.toList).run prog w = .ok none w ∧ ∀e∈es.toList,e.key≠kv h k) ∨
   ∃j e s,f h k=some s∧(Instr.findKey 83 (kv h k) es.toList).run prog w = .ok (some (j,ni s)) w∧es.toList[j]? = some e∧e.key=kv h k):=by
 obtain⟨es,c,h1,h2,h3,h4⟩:=hm;obtain⟨l,hl⟩:=Qb0 hf;refine⟨es,c,h1,?_⟩
 rcases Tryz.keyed.find w hl es.toList (fun e he=>by obtain⟨h',k',s,xA,e1,_⟩:=h2 e he;rw[e1];exact Qb0 xA) with ⟨r1,r2⟩|⟨j,e,r1,r2,r3⟩
 ·refine .inl ⟨?_,r1,r2⟩
  cases hx:f h k with
  | none=>rfl
  | some s =>
   obtain⟨e,he,ek,_⟩:=(h4 h k s hf).1 hx;exact absurd ek (r2 e he)
 ·have hm:=Ni r2;obtain⟨h',k',s,xA,e1,e2⟩:=h2 e hm;rw[e2] at r1;exact .inr ⟨j,e,s,(h4 h k s hf).2 ⟨e,hm,r3,e2⟩,r1,r2,r3⟩
theorem Mi.look{w:World}{b:Nat}{f:Int->Nat->Option Nat}(hm:Mi w b f){h:Int}{k:Nat}(hf:Fitb h k)(c:Bool) :
  (Instr.lookup 67 (.map (some b)) (kv h k) c).run prog w = .ok (if c then .tuple #[ni ((f h k).getD 0),.bool (f h k).isSome] else ni ((f h k).getD 0)) w:=by
 obtain⟨l,hl⟩:=Qb0 hf;obtain⟨es,cl,h1,⟨e0,e1,_⟩|⟨j,e,s,e0,e1,_⟩⟩:=hm.find hf
 ·rw[e0];simp[Instr.lookup,run_underlying underlying67,MapKept.run_getObj_map h1,Tryz.keyed.check w _ hl,e1,Result.andThen]
  rfl
 ·rw[e0];simp[Instr.lookup,run_underlying underlying67,MapKept.run_getObj_map h1,Tryz.keyed.check w _ hl,e1,Result.andThen]
def puti(f:Int->Nat->Option Nat)(h:Int)(k:Nat)(s:Nat):Int->Nat->Option Nat:=fun h' k'=>if h'=h∧k'=k then some s else f h' k'
theorem Mi.write{w:World}{b:Nat}{f:Int->Nat->Option Nat}(hm:Mi w b f){h:Int}{k:Nat}(hf:Fitb h k)(s:Nat) :
  ∃es clock,(Instr.mapUpdate 67 (.map (some b)) (kv h k) (ni s)).run prog w = .ok () (ChangeMaps.setBlock w b (.map es clock))∧Mi (ChangeMaps.setBlock w b (.map es clock)) b (puti f h k s):=by
 have hb:=hm.lt;obtain⟨l,hl⟩:=Qb0 hf;have sz : ∀o,(ChangeMaps.setBlock w b o).heap[b]? = some o:=fun o=>by simp[ChangeMaps.setBlock,hb]
 obtain⟨es,cl,h1,xG⟩:=hm.find hf;obtain⟨xI,xH,g1,g2,g3,g4⟩:=hm;rw[h1] at g1;injection g1 with g1
 injection g1 with g1 g1'
 subst g1 g1'
 rcases xG with ⟨e0,e1,e2⟩|⟨j,e,s0,e0,e1,e2,e3⟩
 ·refine⟨es.push ⟨kv h k,ni s,cl⟩,cl+1,?_,_,_,sz _,?_,?_,?_⟩
  ·simp[Instr.mapUpdate,run_underlying underlying67,MapKept.run_getObj_map h1,Tryz.keyed.check w false hl,e1,MapKept.run_setObj_map _ h1,Result.andThen,ChangeMaps.setBlock]
  ·intro x hx;simp only[Array.toList_push,List.mem_append,List.mem_singleton] at hx
   rcases hx with hx|rfl
   ·exact g2 x hx
   ·exact⟨h,k,s,hf,rfl,rfl⟩
  ·rw[Array.toList_push,List.pairwise_append];refine⟨g3,by simp,fun x hx y hy => ?_⟩
   simp only[List.mem_singleton] at hy;subst hy;exact e2 x hx
  ·intro h' k' s' hf';simp only[puti,Array.toList_push,List.mem_append,List.mem_singleton]
   by_cases hq:h'=h∧k'=k
   ·obtain⟨rfl,rfl⟩:=hq;rw[Lm ⟨rfl,rfl⟩];refine⟨fun hs => ?_,?_⟩
    ·injection hs with hs
     subst hs;exact⟨_,.inr rfl,rfl,rfl⟩
    ·rintro⟨x,hx|rfl,ex,ey⟩
     ·exact absurd ex (e2 x hx)
     ·rw[QjP ey]
   ·rw[Le hq,g4 h' k' s' hf'];refine⟨fun⟨x,hx,r⟩=>⟨x,.inl hx,r⟩,?_⟩
    rintro⟨x,hx|rfl,ex,ey⟩
    ·exact⟨x,hx,ex,ey⟩
    ·obtain⟨q1,q2⟩:=QfX ex;exact absurd ⟨q1.symm,q2.symm⟩ hq
 ·have hj:es[j]? = some e:=by simpa using e2
  have xA:(es.modify j (fun e' => { e' with key:=kv h k,val:=ni s })).toList=es.toList.set j { e with key:=kv h k,val:=ni s } := by rw[Array.toList_modify,ChangeMaps.modify_eq_set _ _ _ _ e2]
  have xD:j<es.toList.length:=(List.getElem?_eq_some_iff.1 e2).1
  have xF : ∀i x,es.toList[i]? = some x->i≠j->x.key≠kv h k:=fun i x hx hij=>by
   have xE:=(List.getElem?_eq_some_iff.1 hx).1
   have pw:=List.pairwise_iff_getElem.1 g3;have ei:es.toList[i]=x:=(List.getElem?_eq_some_iff.1 hx).2
   have ej:es.toList[j]=e:=(List.getElem?_eq_some_iff.1 e2).2
   rcases Wf hij with hlt|hlt
   ·have:=pw i j xE xD hlt;rw[ei,ej,e3] at this;exact this
   ·have:=pw j i xD xE hlt;rw[ei,ej,e3] at this;exact fun q=>this q.symm
  have xB : ∀x,x∈es.toList.set j { e with key:=kv h k,val:=ni s } ↔ x = { e with key:=kv h k,val:=ni s } ∨ (x∈es.toList∧x.key≠kv h k):=by
   intro x
   constructor
   ·intro hx;obtain⟨i,hi,ex⟩:=LS hx;rw[List.getElem_set] at ex
    split at ex
    ·exact .inl ex.symm
    ·rename_i hn
     have xC:i<es.toList.length:=by simpa using hi
     exact .inr ⟨ex ▸ LG xC,xF i x (by rw[Lc xC,ex]) (fun q=>hn q.symm)⟩
   ·rintro(rfl|⟨hx,hk⟩)
    ·exact List.mem_iff_getElem.2 ⟨j,by simpa using xD,by simp⟩
    ·obtain⟨i,hi,ex⟩:=LS hx;refine List.mem_iff_getElem.2 ⟨i,by simpa using hi,?_⟩
     rw[List.getElem_set_ne]
     ·exact ex
     ·rintro rfl
      apply hk
      rw[<-ex,(List.getElem?_eq_some_iff.1 e2).2,e3]
  refine⟨es.modify j (fun e' => { e' with key:=kv h k,val:=ni s }),cl,?_,_,_,sz _,?_,?_,?_⟩
  ·simp[Instr.mapUpdate,run_underlying underlying67,MapKept.run_getObj_map h1,Tryz.keyed.check w false hl,e1,hj,e3,Tryz.keyed.stays w hl,MapKept.run_setObj_map _ h1,Result.andThen,ChangeMaps.setBlock]
  ·intro x hx;rw[xA] at hx
   rcases(xB x).1 hx with rfl|⟨hx,_⟩
   ·exact⟨h,k,s,hf,rfl,rfl⟩
   ·exact g2 x hx
  ·rw[xA,List.pairwise_iff_getElem];have pw:=List.pairwise_iff_getElem.1 g3;have ky : ∀i (hi:i<(es.toList.set j { e with key:=kv h k,val:=ni s }).length),((es.toList.set j { e with key:=kv h k,val:=ni s })[i]).key=(es.toList[i]'(by simpa using hi)).key:=by
    intro i hi;rw[List.getElem_set]
    split
    ·rename_i q
     subst q;rw[(List.getElem?_eq_some_iff.1 e2).2,e3]
    ·rfl
   intro i i' hi xC hlt;rw[ky i hi,ky i' xC];exact pw i i' _ _ hlt
  ·intro h' k' s' hf';rw[xA]
   by_cases hq:h'=h∧k'=k
   ·obtain⟨rfl,rfl⟩:=hq;rw[puti,Lm ⟨rfl,rfl⟩];refine⟨fun hs => ?_,?_⟩
    ·injection hs with hs
     subst hs;exact⟨_,(xB _).2 (.inl rfl),rfl,rfl⟩
    ·rintro⟨x,hx,ex,ey⟩
     rcases(xB x).1 hx with rfl|⟨_,hk⟩
     ·rw[QjP ey]
     ·exact absurd ex hk
   ·rw[puti,Le hq,g4 h' k' s' hf']
    constructor
    ·rintro⟨x,hx,ex,ey⟩;refine⟨x,(xB x).2 (.inr ⟨hx,fun q=>hq ?_⟩),ex,ey⟩
     obtain⟨q1,q2⟩:=QfX (ex.symm.trans q);exact⟨q1,q2⟩
    ·rintro⟨x,hx,ex,ey⟩
     rcases(xB x).1 hx with rfl|⟨hx,_⟩
     ·obtain⟨q1,q2⟩:=QfX ex;exact absurd ⟨q1.symm,q2.symm⟩ hq
     ·exact⟨x,hx,ex,ey⟩
def Cm(w:World)(mo:Option Nat)(M:Nat->Nat->Option Nat):Prop :=
 (∃b,mo=some b∧Mi w b (fun h k=>if 0<=h then M h.toNat k else none))∨(mo=none ∧ ∀h k,M h k=none)
theorem Cm.next{w W:World}{mo:Option Nat}{M:Nat->Nat->Option Nat}(h:Cm w mo M)(hb:Zb w W):Cm W mo M:=by
 rcases h with ⟨b,e,hm⟩|⟨e,hm⟩
 ·exact .inl ⟨b,e,hm.same (hb.block b hm.lt)⟩
 ·exact .inr ⟨e,hm⟩
theorem Cm.look{w:World}{mo:Option Nat}{M:Nat->Nat->Option Nat}(hm:Cm w mo M){h k:Nat}(hh:h<=40)(hk:k<18446744073709551616) :
  (Instr.lookup 67 (.map mo) (.agg #[.int .i64 (h:Int),.int .u64 (k:Int)]) true).run prog w = .ok (.tuple #[.int .i64 (((M h k).getD 0:Nat):Int),.bool (M h k).isSome]) w:=by
 have hf:Fitb (h:Int) k:=⟨⟨by omega,by omega⟩,hk⟩
 rcases hm with ⟨b,rfl,hm⟩|⟨rfl,hm⟩
 ·have:=hm.look hf true;simp only[Int.natCast_nonneg,if_true,Int.toNat_natCast] at this;exact this
 ·obtain⟨l,hl⟩:=Qb0 hf;rw[hm h k];have h1:=Tryz.keyed.check w true hl;unfold kv at h1;simp[Instr.lookup,run_underlying underlying67,h1,Result.andThen]
  rfl
abbrev lsV(k:Int)(la:OA)(n lc:Nat)(mo:Option Nat):Value := .agg #[.int .i64 k,.slice la n lc,.map mo]
def lsE(c:Nat)(L:LB)(M:Nat->Nat->Option Nat)(h i:Nat):Value:=if (M h i).isSome then ba (nd c L h i) else if 0<h then .nilIface else wo (Qh (L.getD i ByteArray.empty))
theorem Qek(w:World)(a b c:Value)(T:Nat)(h i:Int) : ∃W,(w.alloc (.cells #[a,b,c] T)).alloc (.cells #[.int .i64 h,.int .u64 i] 83)=W∧Zb w W ∧
  (W.cell? ⟨w.heap.size,0,none⟩=some a∧W.cell? ⟨w.heap.size,1,none⟩=some b∧W.cell? ⟨w.heap.size,2,none⟩=some c)∧(W.cell? ⟨w.heap.size+1,0,none⟩=some (.int .i64 h)∧W.cell? ⟨w.heap.size+1,1,none⟩=some (.int .u64 i))∧W.heap.size=w.heap.size+2:=by
 have h1:(w.alloc (.cells #[a,b,c] T)).heap[w.heap.size]? = some (.cells #[a,b,c] T (0,0)):=Lu w _;have h2:((w.alloc (.cells #[a,b,c] T)).alloc (.cells #[.int .i64 h,.int .u64 i] 83)).heap[w.heap.size]? = some (.cells #[a,b,c] T (0,0)):=((bal (Lb _ (w.alloc (.cells #[a,b,c] T))) _).block _ (by rw[LA];omega)).trans h1
 have h3:=Lu (w.alloc (.cells #[a,b,c] T)) (.cells #[.int .i64 h,.int .u64 i] 83);rw[LA] at h3;refine⟨_,rfl,bal (bal (Lb _ _) _) _,⟨?_,?_,?_⟩,⟨?_,?_⟩,by rw[LA,LA]⟩
 ·rw[cell_of_row _ w.heap.size 0 _ _ (0,0) h2];rfl
 ·rw[cell_of_row _ w.heap.size 1 _ _ (0,0) h2];rfl
 ·rw[cell_of_row _ w.heap.size 2 _ _ (0,0) h2];rfl
 ·rw[cell_of_row _ (w.heap.size+1) 0 _ _ (0,0) h3];rfl
 ·rw[cell_of_row _ (w.heap.size+1) 1 _ _ (0,0) h3];rfl
theorem QjE(w:World)(ht:Tb w)(k:Int)(la:OA)(lb lo lc:Nat)(L:LB)(hr:RdS w la lb lo L.length L)(hsz : ∀s∈L,s.size<=140737488351232)(hm:L.length<=1099511627776)(mo:Option Nat)(M:Nat->Nat->Option Nat)(hM:Cm w mo M)(h i:Nat)(hh:h<=40)(hi:(i+1)*2^h<=L.length)(r:Value)(hq:lsE (clk k) L M h i=r) :
  Calls prog 214 #[lsV k la L.length lc mo,.agg #[.int .i64 (h:Int),.int .u64 (i:Int)]] w fun e w'=>e = .returned r∧Zb w w':=by
 have xA:i<18446744073709551616:=by
  have:=NZ (i+1) (IE (n:=h));omega
 obtain⟨W0,xB,xC,⟨c0,c1,c2⟩,⟨d0,d1⟩,hz⟩:=Qek w (.int .i64 k) (.slice la L.length lc) (.map mo) 69 (h:Int) (i:Int);have xD:=(hM.next xC).look hh xA;have xE:=hr.next xC (Ld _)
 cases e:M h i with
 | some j =>
  obtain rfl:ba (nd (clk k) L h i)=r:=by rw[<-hq,lsE,e];rfl
  rw[e] at xD;simp only[Option.getD_some,Option.isSome_some] at xD;have xG:=QkN W0 (ht.next xC) k la lb lo L.length lc L xE hsz (by omega) h i hh hi _ rfl
  generalize nd (clk k) L h i=d at xG;clear hr hsz hm hM hh hi hq e ht xA xE
  go_enter func214,ntmps214
  go_upto_region 1 with (fail)
  try rw[xB]
  clear xB hz
  go_wp2_with (go_at_call 215;with_reducible refine xG.mono ?_;rintro e w1 ⟨rfl,xF⟩)
  go_ret
  exact⟨rfl,Qa xC xF⟩
 | none =>
  rw[e] at xD;simp only[Option.getD_none,Option.isSome_none] at xD
  by_cases h0:0<h
  ·obtain rfl:Value.nilIface=r:=by rw[<-hq,lsE,e];simp[h0]
   have xJ:(0:Int)<(h:Int):=by omega
   clear hr hsz hm hM hh hi hq e ht xA xE h0
   go_enter func214,ntmps214
   go_upto_region 1 with (fail)
   try rw[xB]
   clear xB hz;go_wp2
   go_ret
   exact⟨rfl,xC⟩
  ·obtain rfl:h=0:=by omega
   obtain rfl:wo (Qh (L.getD i ByteArray.empty))=r:=by rw[<-hq,lsE,e];simp
   rw[NC,Iw] at hi;obtain rfl:=hr.ptr (by omega)
   have ci:=xE.at (k:=i) (by omega)
   have xH:=hsz _ (Qv (show i<L.length by omega))
   obtain⟨x,hx⟩:=Ze (L.getD i ByteArray.empty);rw[hx] at ci xH ⊢;have xI:=Qat W0 x (by omega)
   have z0:(0:Int)<=(i:Int):=Lf _;have z1:(i:Int)<(L.length:Int):=by omega
   have z2:(L.length:Int)<=1099511627776:=by omega
   rw[show((0:Nat):Int)=0 from rfl] at xB d0 xD ⊢
   clear hr hsz hM hq e ht xA xE h0 hx xH hm hi hh
   go_enter func214,ntmps214
   go_upto_region 1 with (fail)
   try rw[xB]
   clear xB hz
   go_wp2_with (go_at_call 164;with_reducible refine xI.mono ?_;rintro e w1 ⟨rfl,xF⟩)
   go_ret
   exact⟨rfl,Qa xC xF⟩
theorem QlD(w:World)(a:Nat):Calls prog 220 #[.int .u64 (a:Int)] w fun e w'=>e = .returned (.bool false)∧w=w':=by
 go_enter func220,ntmps220;go_wp2
 go_ret
 exact⟨rfl,rfl⟩
def cmpE(a b:Nat):Int:=if a<b then -1 else if b<a then 1 else 0
theorem QeH(w:World)(a b:Nat):Calls prog 219 #[.int .u64 (a:Int),.int .u64 (b:Int)] w fun e w'=>e = .returned (.int .i64 (cmpE a b))∧w=w':=by
 have HA:Hid (∀W x,Calls prog 220 #[.int .u64 ((x:Nat):Int)] W fun e w'=>e = .returned (.bool false)∧W=w'):=fun W x=>QlD W x
 unfold cmpE
 by_cases h1:a<b
 ·rw[Lm h1];have z:(a:Int)<(b:Int):=by omega
  clear h1
  go_enter func219,ntmps219
  go_wp2_with (go_at_call 220;with_reducible refine(HA.out _ _).mono ?_;rintro e w1 ⟨rfl,rfl⟩)
  go_ret
  exact⟨rfl,rfl⟩
 ·rw[Le h1];have z : ¬(a:Int)<(b:Int):=by omega
  by_cases h2:b<a
  ·rw[Lm h2];have z2:(b:Int)<(a:Int):=by omega
   clear h1 h2
   go_enter func219,ntmps219
   go_wp2_with (go_at_call 220;with_reducible refine(HA.out _ _).mono ?_;rintro e w1 ⟨rfl,rfl⟩)
   go_ret
   exact⟨rfl,rfl⟩
  ·rw[Le h2];have z2 : ¬(b:Int)<(a:Int):=by omega
   clear h1 h2
   go_enter func219,ntmps219
   go_wp2_with (go_at_call 220;with_reducible refine(HA.out _ _).mono ?_;rintro e w1 ⟨rfl,rfl⟩)
   go_ret
   exact⟨rfl,rfl⟩
theorem QeD(w:World)(a b:Nat)(x:BA)(r:Int)(hr:cmpE a b=r):Zr 218 #[.agg #[.int .u64 (a:Int),.string x],.int .u64 (b:Int)] w (.int .i64 r):=by
 have HC:Hid (∀W,Calls prog 219 #[.int .u64 (a:Int),.int .u64 (b:Int)] W fun e w'=>e = .returned (.int .i64 r)∧W=w'):=fun W=>by subst hr;exact QeH W a b
 have xA:=bal (Lb w.heap.size w) (.cells #[.int .u64 (a:Int),.string x] 38);clear hr
 go_enter func218,ntmps218
 go_wp2_with (go_at_call 219;with_reducible refine(HC.out _).mono ?_;rintro e w1 ⟨rfl,rfl⟩)
 go_ret
 exact⟨rfl,xA⟩
abbrev byV:Value := .func (.func 218) #[] #[]
theorem Qgl(w:World)(ca:OA)(cb co cc:Nat)(l:List (Nat×BA))(hc:RdK w ca cb co l.length l)(hm:l.length<=8796093022208)(hp:Asc (ixs l))(i p:Nat)(hpl:p<l.length)(hi:(l.getD p noC).1=i) :
  Zr 217 #[.slice ca l.length cc,.int .u64 (i:Int),byV] w (.tuple #[.int .i64 (p:Int),.bool true]):=by
 obtain rfl:=hc.ptr (by omega)
 have xC : ∀j,j<l.length->(j<p->cmpE (l.getD j noC).1 i = -1)∧(p<j->cmpE (l.getD j noC).1 i=1)∧(j=p->cmpE (l.getD j noC).1 i=0):=fun j hj=>by
  have hw:=List.pairwise_iff_getElem.1 hp;have xD : ∀t (ht:t<l.length),(ixs l)[t]'(by rw[Lx];exact ht)=(l.getD t noC).1:=fun t ht=>by
   rw[Wi,La,Lc ht];rfl
  refine⟨fun h => ?_,fun h => ?_,fun h => ?_⟩
  ·have:=hw j p (by rw[Lx];exact hj) (by rw[Lx];exact hpl) h
   rw[xD j hj,xD p hpl,hi] at this;rw[cmpE,Lm this]
  ·have:=hw p j (by rw[Lx];exact hpl) (by rw[Lx];exact hj) h
   rw[xD j hj,xD p hpl,hi] at this;rw[cmpE,Le (by omega),Lm this]
  ·subst h;rw[hi,cmpE,Le (NG _),Le (NG _)]
 have HC:Hid (∀W j,Zb w W->j<l.length -> ∃(a:Nat) (x:BA) (r:Int),(j<p->r = -1)∧(p<j->r=1)∧(j=p->r=0)∧W.cell? ⟨cb,co+j*2,none⟩=some (.int .u64 (a:Int))∧W.cell? ⟨cb,co+j*2+1,none⟩=some (.string x) ∧ ∀V,Zr 218 #[.agg #[.int .u64 (a:Int),.string x],.int .u64 (i:Int)] V (.int .i64 r)):=fun W j hb hj=>by
  obtain⟨h1,h2⟩:=(hc.next hb).at hj;obtain⟨h3,h4,h5⟩:=xC j hj;exact⟨_,_,_,h3,h4,h5,h1,h2,fun V=>QeD V _ i _ _ rfl⟩
 have z5:(l.length:Int)<=8796093022208:=by omega
 clear hc hp hi xC
 go_enter func217,ntmps217;go_wp2
 go_loopg [9,10] l.length (fun g x y wr => ∃a b:Nat,g=b - a∧a<=p∧p<=b∧b<=l.length∧x = .int .i64 (a:Int)∧y = .int .i64 (b:Int)∧Zb w wr)
 case atStart=>go_light;exact⟨0,l.length,by omega,Ll _,by omega,Ld _,rfl,rfl,Lb _ _⟩
 case round =>
  obtain⟨a,b,rfl,ha,hb,xE,rfl,rfl,xB⟩:=hrel
  by_cases hlt:a<b
  ·obtain⟨m,xF⟩:=Ze ((a+b) / 2);have z1:(a:Int)<(b:Int):=by omega
   obtain⟨s,hs⟩:=Ze (a+b);have e1:(a:Int)+(b:Int)=(s:Int):=by omega
   have e2:(s:Int) / 2=(m:Int):=by omega
   obtain⟨q,x,r,r1,r2,r3,c0,c1,HV⟩:=HC.out wr m xB (by omega)
   have HV:=Qe HV;have m0:(0:Int)<=(m:Int):=Lf _;have m1:(m:Int)<(l.length:Int):=by omega
   have xG:m*2=m+m:=by omega
   clear xG
   by_cases hmp:m<p
   ·obtain rfl:=r1 hmp;have m2:m+1<=p:=hmp;have m3:b - (m+1)<b - a:=by omega
    clear r1 r2 r3 xF hs hmp
    go_wp2_with (go_at_call 218;with_reducible refine(HV.out _).mono ?_;rintro e w1 ⟨rfl,xA⟩)
    go_roundg (b - (m+1))
    case rel=>go_light;exact⟨m+1,b,rfl,m2,hb,xE,by go_num,rfl,Qa xB xA⟩
    case measure=>go_light;omega
   ·have xH : ¬r<0:=by
     rcases NB (IU hmp) with h|h
     ·rw[r2 h];decide
     ·rw[r3 h.symm];decide
    have m2:p<=m:=IU hmp;have m3:m - a<b - a:=by omega
    have m4:m<=l.length:=by omega
    clear r1 r2 r3 xF hs hmp
    go_wp2_with (go_at_call 218;with_reducible refine(HV.out _).mono ?_;rintro e w1 ⟨rfl,xA⟩)
    go_roundg (m - a)
    case rel=>go_light;exact⟨a,m,rfl,ha,m2,m4,rfl,rfl,Qa xB xA⟩
    case measure=>go_light;omega
  ·obtain rfl:a=p:=by omega
   obtain rfl:b=a:=by omega
   obtain⟨q,x,r,_,_,r3,c0,c1,HV⟩:=HC.out wr b xB hpl;have HV:=Qe HV;obtain rfl:=r3 rfl;have z1 : ¬(b:Int)<(b:Int):=by omega
   have m0:(0:Int)<=(b:Int):=Lf _;have m1:(b:Int)<(l.length:Int):=by omega
   clear r3 hlt ha hb xE
   go_wp2_with (go_at_call 218;with_reducible refine(HV.out _).mono ?_;rintro e w1 ⟨rfl,xA⟩)
   exact Lp (v := .tuple #[.int .i64 (b:Int),.bool true]) (by simp[results,results217,go_sem]) rfl ⟨rfl,Qa xB xA⟩
abbrev prV'(da:OA)(dn dc:Nat)(ca:OA)(cn cc:Nat)(mo:Option Nat):Value := .agg #[.slice da dn dc,.slice ca cn cc,.map mo]
def prE(D:LB)(V:Nat->BA)(M:Nat->Nat->Option Nat)(h i:Nat):Value:=if (M h i).isSome then ba (D.getD ((M h i).getD 0) ByteArray.empty) else if 0<h then .nilIface else wo (Qh (V i))
theorem Qj6(w:World)(da:OA)(db dO dc:Nat)(D:LB)(hr:RdS w da db dO D.length D)(hm:D.length<=8796093022208)(ca:OA)(cb co cc:Nat)(l:List (Nat×BA))(hc:RdK w ca cb co l.length l)(hcm:l.length<=8796093022208)(hp:Asc (ixs l))(hv : ∀x∈vls l,x.size<2305843009213693952)(V:Nat->BA)(mo:Option Nat)(M:Nat->Nat->Option Nat)(hM:Cm w mo M)(h i:Nat)(hh:h<=40)(hi:i<18446744073709551616)(hj : ∀j,M h i=some j->j<D.length)(hq:h=0->M h i=none -> ∃p,p<l.length∧l.getD p noC=(i,V i))(r:Value)(hr':prE D V M h i=r) :
  Calls prog 216 #[prV' da D.length dc ca l.length cc mo,.agg #[.int .i64 (h:Int),.int .u64 (i:Int)]] w fun e w'=>e = .returned r∧Zb w w':=by
 obtain⟨W0,xA,xB,⟨c0,c1,c2⟩,⟨d0,d1⟩,hz⟩:=Qek w (.slice da D.length dc) (.slice ca l.length cc) (.map mo) 107 (h:Int) (i:Int);have xC:=(hM.next xB).look hh hi;have xE:=hr.next xB (Ld _)
 cases e:M h i with
 | some j =>
  have xH:=hj j e;obtain rfl:ba (D.getD j ByteArray.empty)=r:=by rw[<-hr',prE,e];rfl
  rw[e] at xC;simp only[Option.getD_some,Option.isSome_some] at xC;obtain rfl:=hr.ptr (by omega)
  have cj:=xE.at xH;generalize D.getD j ByteArray.empty=d at cj;have z0:(0:Int)<=(j:Int):=Lf _;have z1:(j:Int)<(D.length:Int):=by omega
  have z2:(D.length:Int)<=8796093022208:=by omega
  clear hr hm hc hcm hp hv hM hh hi hj hq hr' e xE xH
  go_enter func216,ntmps216
  go_upto_region 1 with (fail)
  try rw[xA]
  clear xA hz;go_wp2
  go_ret
  exact⟨rfl,xB⟩
 | none =>
  rw[e] at xC;simp only[Option.getD_none,Option.isSome_none] at xC
  by_cases h0:0<h
  ·obtain rfl:Value.nilIface=r:=by rw[<-hr',prE,e];simp[h0]
   have xM:(0:Int)<(h:Int):=by omega
   clear hr hm hc hcm hp hv hM hh hi hj hq hr' e xE h0
   go_enter func216,ntmps216
   go_upto_region 1 with (fail)
   try rw[xA]
   clear xA hz;go_wp2
   go_ret
   exact⟨rfl,xB⟩
  ·obtain rfl:h=0:=by omega
   obtain rfl:wo (Qh (V i))=r:=by rw[<-hr',prE,e];simp
   obtain⟨p,xG,xD⟩:=hq rfl e;have hS:=Qgl W0 ca cb co cc l (hc.next xB) hcm hp i p xG (by rw[xD])
   obtain rfl:=hc.ptr (by omega)
   have xJ:Hid (∀W,Zb w W->W.cell? ⟨cb,co+p*2+1,none⟩=some (.string (V i))):=fun W hb=>by
    have:=((hc.next hb).at xG).2;rw[xD] at this;exact this
   have xI:(V i).size<2305843009213693952:=by
    refine hv _ (List.mem_map.2 ⟨(i,V i),?_,rfl⟩)
    rw[<-xD,La,Lc xG];exact LG _
   generalize V i=x at *;have xK:Hid (∀W,Zr 164 #[.string x] W (.string (Qh x))):=fun W=>Qat W x xI
   have HB:Hid (∀W,Zb W0 W->W.cell? ⟨w.heap.size,1,none⟩=some (.slice (some ⟨cb,co,none⟩) l.length cc)):=fun W hb=>(LC (hb.block w.heap.size (by omega))).trans c1
   have z0:(0:Int)<=(p:Int):=Lf _;have z1:(p:Int)<(l.length:Int):=by omega
   have z2:(l.length:Int)<=8796093022208:=by omega
   rw[show((0:Nat):Int)=0 from rfl] at xA d0 xC ⊢
   clear hr hm hc hcm hp hv hM hh hi hj hq hr' e xE h0 xD xI
   go_enter func216,ntmps216
   go_upto_region 1 with (fail)
   try rw[xA]
   clear xA hz
   go_wp2_with (first
    | (go_at_call 217;with_reducible refine hS.mono ?_;rintro e w1 ⟨rfl,xF⟩;have k1:=HB.out _ xF;have k2:=xJ.out _ (Qa xB xF))
    | (go_at_call 164;with_reducible refine(xK.out _).mono ?_;rintro e w2 ⟨rfl,xL⟩))
   go_ret
   exact⟨rfl,Qa (Qa xB xF) xL⟩
end Go.Proofs.YtdocjikpcbmcgaaGreatDoor
