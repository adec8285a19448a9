/- Own work. -/
import Derived.Test.YtoblgjledefdbaaGreatDoorQm05
set_option maxRecDepth 100000
namespace Go.Proofs.YtoblgjledefdbaaGreatDoor
open Go.RowKit
attribute [local go_sem ↓] Go.wp_at_zero Go.wp_at_succ
open Go.Proofs.Tryz
theorem Tryz.laidOut:laidOutB prog=true:=by kernel_rfl
theorem Tryz.rowB:(249:TypeId)<prog.types.size:=NK (by kernel_rfl)
theorem Tryz.deepB:prog.keyTypeAt 2 249=true:=by kernel_rfl
theorem Tryz.keyed:Maps.Keyed prog 249:=Maps.Keyed.of_law (deep_law_laid Tryz.laidOut (m:=2) (by omega) Tryz.rowB Tryz.deepB (by rw[underlying249]))
def kv(h:Int)(k:Nat):Value := .agg #[.int .i64 h,.int .u64 (k:Int)]
def nv(s:BA):Value := .agg #[.string s]
theorem QfT{h h':Int}{k k':Nat}(e:kv h k=kv h' k'):h=h'∧k=k':=by
 have h1:Value.int .i64 h=Value.int .i64 h'∧Value.int .u64 (k:Int)=Value.int .u64 (k':Int):=by
  unfold kv at e;injection e with e
  have:=Lw Array.toList e;injection this with a b
  injection b with b _
  exact⟨a,b⟩
 obtain⟨a,b⟩:=h1;injection a with _ a
 injection b with _ b
 exact⟨a,by omega⟩
theorem Qko{s s':BA}(e:nv s=nv s'):s=s':=by
 unfold nv at e;injection e with e
 have:=Lw Array.toList e;injection this with a _
 injection a
def Fitb(h:Int)(k:Nat):Prop:=(-9223372036854775808<=h∧h<=9223372036854775807)∧k<18446744073709551616
theorem keyT:prog.keyType 249=true:=by kernel_rfl
theorem Qjq:prog.cellsOf 249=2:=by kernel_rfl
theorem QlL:prog.cellsOf 3=1:=by kernel_rfl
theorem QlM:prog.cellsOf 48=1:=by kernel_rfl
theorem QoM : ∃n,prog.types.size+1=n+2:=by
 have h:0<prog.types.size:=NT (Ll _) Tryz.rowB;generalize prog.types.size=z at *;exact⟨z - 1,by omega⟩
theorem Qmb(n:Nat)(h u:Int)(w1:(Lit.int .i64 h).wf=true)(w2:(Lit.int .u64 u).wf=true):prog.keyLits (n+2) 249 [.int .i64 h,.int .u64 u]=some [.int .i64 h,.int .u64 u]:=by
 simp[Program.keyLits,underlying249,w1,w2,Qjq,QlL,QlM,underlying3,underlying48]
theorem Qid(h:Int)(k:Nat):(kv h k).formed prog 249=true:=by
 simp[Value.formed,underlying249,Qjq,kv]
theorem Qdk{h:Int}{k:Nat}(hf:Fitb h k) : ∃l,keyOf prog 249 (kv h k)=some l:=by
 obtain⟨n,hn⟩:=QoM;obtain⟨h1,h3⟩:=hf;have e:=Qmb n h k (WalkArith.wf_i64 h1) (WalkArith.wf_u64 ⟨by omega,by omega⟩)
 have e2:(kv h k).cells.toList=[.int .i64 h,.int .u64 (k:Int)]:=rfl;rw[<-hn,<-e2] at e;unfold keyOf;rw[underlying249];simp only[keyT,Qid,Bool.and_self,if_true,e,Option.map_some];exact⟨_,rfl⟩
def Mp(w:World)(b:Nat)(f:Int->Nat->Option BA):Prop :=
 ∃es clock,w.heap[b]? = some (.map es clock)∧(∀e∈es.toList,∃h k s,Fitb h k∧e.key=kv h k∧e.val=nv s)∧es.toList.Pairwise (fun x y=>x.key≠y.key) ∧
  ∀h k s,Fitb h k->(f h k=some s ↔ ∃e∈es.toList,e.key=kv h k∧e.val=nv s)
theorem Mp.lt{w:World}{b:Nat}{f:Int->Nat->Option BA}(h:Mp w b f):b<w.heap.size:=by
 obtain⟨es,c,h1,_⟩:=h;exact(Array.getElem?_eq_some_iff.1 h1).1
theorem Mp.same{w W:World}{b:Nat}{f:Int->Nat->Option BA}(h:Mp w b f)(hb:W.heap[b]? = w.heap[b]?):Mp W b f:=by
 obtain⟨es,c,h1,h2⟩:=h;exact⟨es,c,hb.trans h1,h2⟩
theorem Qof(w:World):Mp (w.alloc (.map #[] 0)) w.heap.size (fun _ _=>none):=by
 refine⟨#[],0,(MapKept.heap_alloc w _).1,?_,?_,?_⟩
 ·intro e he;simp at he
 ·simp
 ·intro h k s _;simp
theorem Mp.find{w:World}{b:Nat}{f:Int->Nat->Option BA}(hm:Mp w b f){h:Int}{k:Nat}(hf:Fitb h k) :
  ∃es clock,w.heap[b]? = some (.map es clock)∧((f h k=none∧(Instr.findKey 249 (kv h k) es.toList).run prog w = .ok none w ∧ ∀e∈es.toList,e.key≠kv h k) ∨
   ∃j e s,f h k=some s∧(Instr.findKey 249 (kv h k) es.toList).run prog w = .ok (some (j,nv s)) w∧es.toList[j]? = some e∧e.key=kv h k):=by
 obtain⟨es,c,h1,h2,h3,h4⟩:=hm;obtain⟨l,hl⟩:=Qdk hf;refine⟨es,c,h1,?_⟩
 rcases Tryz.keyed.find w hl es.toList (fun e he=>by obtain⟨h',k',s,xA,e1,_⟩:=h2 e he;rw[e1];exact Qdk xA) with ⟨r1,r2⟩|⟨j,e,r1,r2,r3⟩
 ·refine .inl ⟨?_,r1,r2⟩
  cases hx:f h k with
  | none=>rfl
  | some s =>
   obtain⟨e,he,ek,_⟩:=(h4 h k s hf).1 hx;exact absurd ek (r2 e he)
 ·have hm:=NX r2;obtain⟨h',k',s,xA,e1,e2⟩:=h2 e hm;rw[e2] at r1;exact .inr ⟨j,e,s,(h4 h k s hf).2 ⟨e,hm,r3,e2⟩,r1,r2,r3⟩
theorem Mp.look{w:World}{b:Nat}{f:Int->Nat->Option BA}(hm:Mp w b f){h:Int}{k:Nat}(hf:Fitb h k)(c:Bool) :
  (Instr.lookup 170 (.map (some b)) (kv h k) c).run prog w = .ok (if c then .tuple #[nv ((f h k).getD ByteArray.empty),.bool (f h k).isSome] else nv ((f h k).getD ByteArray.empty)) w:=by
 obtain⟨l,hl⟩:=Qdk hf;obtain⟨es,cl,h1,⟨e0,e1,_⟩|⟨j,e,s,e0,e1,_⟩⟩:=hm.find hf
 ·rw[e0];simp[Instr.lookup,run_underlying underlying170,MapKept.run_getObj_map h1,Tryz.keyed.check w _ hl,e1,Result.andThen]
  rfl
 ·rw[e0];simp[Instr.lookup,run_underlying underlying170,MapKept.run_getObj_map h1,Tryz.keyed.check w _ hl,e1,Result.andThen]
def put(f:Int->Nat->Option BA)(h:Int)(k:Nat)(s:BA):Int->Nat->Option BA:=fun h' k'=>if h'=h∧k'=k then some s else f h' k'
theorem Mp.write{w:World}{b:Nat}{f:Int->Nat->Option BA}(hm:Mp w b f){h:Int}{k:Nat}(hf:Fitb h k)(s:BA) :
  ∃es clock,(Instr.mapUpdate 170 (.map (some b)) (kv h k) (nv s)).run prog w = .ok () (ChangeMaps.setBlock w b (.map es clock))∧Mp (ChangeMaps.setBlock w b (.map es clock)) b (put f h k s):=by
 have hb:=hm.lt;obtain⟨l,hl⟩:=Qdk hf;have sz : ∀o,(ChangeMaps.setBlock w b o).heap[b]? = some o:=fun o=>by simp[ChangeMaps.setBlock,hb]
 obtain⟨es,cl,h1,xG⟩:=hm.find hf;obtain⟨xI,xH,g1,g2,g3,g4⟩:=hm;rw[h1] at g1;injection g1 with g1
 injection g1 with g1 g1'
 subst g1 g1'
 rcases xG with ⟨e0,e1,e2⟩|⟨j,e,s0,e0,e1,e2,e3⟩
 ·refine⟨es.push ⟨kv h k,nv s,cl⟩,cl+1,?_,_,_,sz _,?_,?_,?_⟩
  ·simp[Instr.mapUpdate,run_underlying underlying170,MapKept.run_getObj_map h1,Tryz.keyed.check w false hl,e1,MapKept.run_setObj_map _ h1,Result.andThen,ChangeMaps.setBlock]
  ·intro x hx;simp only[Array.toList_push,List.mem_append,List.mem_singleton] at hx
   rcases hx with hx|rfl
   ·exact g2 x hx
   ·exact⟨h,k,s,hf,rfl,rfl⟩
  ·rw[Array.toList_push,List.pairwise_append];refine⟨g3,by simp,fun x hx y hy => ?_⟩
   simp only[List.mem_singleton] at hy;subst hy;exact e2 x hx
  ·intro h' k' s' hf';simp only[put,Array.toList_push,List.mem_append,List.mem_singleton]
   by_cases hq:h'=h∧k'=k
   ·obtain⟨rfl,rfl⟩:=hq;rw[Lk ⟨rfl,rfl⟩];refine⟨fun hs => ?_,?_⟩
    ·injection hs with hs
     subst hs;exact⟨_,.inr rfl,rfl,rfl⟩
    ·rintro⟨x,hx|rfl,ex,ey⟩
     ·exact absurd ex (e2 x hx)
     ·rw[Qko ey]
   ·rw[Le hq,g4 h' k' s' hf'];refine⟨fun⟨x,hx,r⟩=>⟨x,.inl hx,r⟩,?_⟩
    rintro⟨x,hx|rfl,ex,ey⟩
    ·exact⟨x,hx,ex,ey⟩
    ·obtain⟨q1,q2⟩:=QfT ex;exact absurd ⟨q1.symm,q2.symm⟩ hq
 ·have hj:es[j]? = some e:=by simpa using e2
  have xA:(es.modify j (fun e' => { e' with key:=kv h k,val:=nv s })).toList=es.toList.set j { e with key:=kv h k,val:=nv s } := by rw[Array.toList_modify,ChangeMaps.modify_eq_set _ _ _ _ e2]
  have xD:j<es.toList.length:=(List.getElem?_eq_some_iff.1 e2).1
  have xF : ∀i x,es.toList[i]? = some x->i≠j->x.key≠kv h k:=fun i x hx hij=>by
   have xE:=(List.getElem?_eq_some_iff.1 hx).1
   have pw:=List.pairwise_iff_getElem.1 g3;have ei:es.toList[i]=x:=(List.getElem?_eq_some_iff.1 hx).2
   have ej:es.toList[j]=e:=(List.getElem?_eq_some_iff.1 e2).2
   rcases Nat.lt_or_gt_of_ne hij with hlt|hlt
   ·have:=pw i j xE xD hlt;rw[ei,ej,e3] at this;exact this
   ·have:=pw j i xD xE hlt;rw[ei,ej,e3] at this;exact fun q=>this q.symm
  have xB : ∀x,x∈es.toList.set j { e with key:=kv h k,val:=nv s } ↔ x = { e with key:=kv h k,val:=nv s } ∨ (x∈es.toList∧x.key≠kv h k):=by
   intro x
   constructor
   ·intro hx;obtain⟨i,hi,ex⟩:=NZ hx;rw[List.getElem_set] at ex
    split at ex
    ·exact .inl ex.symm
    ·rename_i hn
     have xC:i<es.toList.length:=by simpa using hi
     exact .inr ⟨ex ▸ L3 xC,xF i x (by rw[Lh xC,ex]) (fun q=>hn q.symm)⟩
   ·rintro(rfl|⟨hx,hk⟩)
    ·exact List.mem_iff_getElem.2 ⟨j,by simpa using xD,by simp⟩
    ·obtain⟨i,hi,ex⟩:=NZ hx;refine List.mem_iff_getElem.2 ⟨i,by simpa using hi,?_⟩
     rw[List.getElem_set_ne]
     ·exact ex
     ·rintro rfl
      apply hk
      rw[<-ex,(List.getElem?_eq_some_iff.1 e2).2,e3]
  refine⟨es.modify j (fun e' => { e' with key:=kv h k,val:=nv s }),cl,?_,_,_,sz _,?_,?_,?_⟩
  ·simp[Instr.mapUpdate,run_underlying underlying170,MapKept.run_getObj_map h1,Tryz.keyed.check w false hl,e1,hj,e3,Tryz.keyed.stays w hl,MapKept.run_setObj_map _ h1,Result.andThen,ChangeMaps.setBlock]
  ·intro x hx;rw[xA] at hx
   rcases(xB x).1 hx with rfl|⟨hx,_⟩
   ·exact⟨h,k,s,hf,rfl,rfl⟩
   ·exact g2 x hx
  ·rw[xA,List.pairwise_iff_getElem];have pw:=List.pairwise_iff_getElem.1 g3;have ky : ∀i (hi:i<(es.toList.set j { e with key:=kv h k,val:=nv s }).length),((es.toList.set j { e with key:=kv h k,val:=nv s })[i]).key=(es.toList[i]'(by simpa using hi)).key:=by
    intro i hi;rw[List.getElem_set]
    split
    ·rename_i q
     subst q;rw[(List.getElem?_eq_some_iff.1 e2).2,e3]
    ·rfl
   intro i i' hi xC hlt;rw[ky i hi,ky i' xC];exact pw i i' _ _ hlt
  ·intro h' k' s' hf';rw[xA]
   by_cases hq:h'=h∧k'=k
   ·obtain⟨rfl,rfl⟩:=hq;rw[put,Lk ⟨rfl,rfl⟩];refine⟨fun hs => ?_,?_⟩
    ·injection hs with hs
     subst hs;exact⟨_,(xB _).2 (.inl rfl),rfl,rfl⟩
    ·rintro⟨x,hx,ex,ey⟩
     rcases(xB x).1 hx with rfl|⟨_,hk⟩
     ·rw[Qko ey]
     ·exact absurd ex hk
   ·rw[put,Le hq,g4 h' k' s' hf']
    constructor
    ·rintro⟨x,hx,ex,ey⟩;refine⟨x,(xB x).2 (.inr ⟨hx,fun q=>hq ?_⟩),ex,ey⟩
     obtain⟨q1,q2⟩:=QfT (ex.symm.trans q);exact⟨q1,q2⟩
    ·rintro⟨x,hx,ex,ey⟩
     rcases(xB x).1 hx with rfl|⟨hx,_⟩
     ·obtain⟨q1,q2⟩:=QfT ex;exact absurd ⟨q1.symm,q2.symm⟩ hq
     ·exact⟨x,hx,ex,ey⟩
section
open Pl (Qy pw)
def ff(c:Nat)(L:LB)(h:Int)(k:Nat):Option BA:=if 0<=h∧(k+1)*2^h.toNat<=L.length then some (nd c L h.toNat k) else none
def fj(c:Nat)(L:LB)(x:BA)(j:Nat)(h:Int)(k:Nat):Option BA:=if 0<=h∧h<=(j:Int)∧(k+1)*2^h.toNat=L.length+1 then some (nd c (L++[x]) h.toNat k) else ff c L h k
theorem Qf2(c:Nat)(L M:LB)(h k:Nat)(hk:(k+1)*2^h<=L.length):nd c (L++M) h k=nd c L h k:=by
 refine Jq h k k fun t ht => ?_
 rw[Ld,Ld,Ly];rw[LL,LV] at hk;omega
theorem Qok(c:Nat)(L:LB)(n h k:Nat)(hk:(k+1)*2^h<=n)(hn:n<=L.length):nd c (L.take n) h k=nd c L h k:=by
 have:=Qf2 c (L.take n) (L.drop n) h k (by rw[Lz];omega)
 rw[Nj] at this;exact this.symm
theorem QfN(c:Nat)(L:LB)(h k:Nat)(hk:(k+1)*2^h<=L.length):ff c L (h:Int) k=some (nd c L h k):=by
 rw[ff,Lk ⟨Lf _,by rw[LM];exact hk⟩,LM]
theorem QoZ(c:Nat)(L:LB)(h k:Nat)(hk : ¬(k+1)*2^h<=L.length):ff c L (h:Int) k=none:=by
 rw[ff,Le];rw[LM];exact fun x=>hk x.2
theorem Ql0{c:Nat}(hc:c<=32){L:LB}{h:Int}{k:Nat}{s:BA}(e:ff c L h k=some s):s.size=c:=by
 rw[ff] at e
 split at e
 ·injection e with e
  rw[<-e,Yx hc]
 ·cases e
theorem QjO(c:Nat)(L:LB)(x:BA):put (ff c L) 0 L.length (nd c (L++[x]) 0 L.length)=fj c L x 0:=by
 funext h k
 rw[put,fj]
 by_cases e:h=0∧k=L.length
 ·obtain⟨rfl,rfl⟩:=e;rw[Lk ⟨rfl,rfl⟩,Lk ⟨by decide,by decide,by simp⟩]
  rfl
 ·rw[Le e,Le];rintro⟨h0,h1,h2⟩;obtain rfl:h=0:=by simp at h1;omega
  simp at h2;exact e ⟨rfl,h2⟩
theorem Qg3{n j q:Nat}(hq:n=2^j*q):n / 2^j=q:=by
 rw[hq,I8 _ (LJ j)]
theorem Ql4(c:Nat)(L:LB)(x:BA)(j q:Nat)(hq:L.length+1=2^(j+1)*(q+1)):put (fj c L x j) ((j+1:Nat):Int) q (nd c (L++[x]) (j+1) q)=fj c L x (j+1):=by
 funext h k
 rw[put]
 by_cases e:h=((j+1:Nat):Int)∧k=q
 ·obtain⟨rfl,rfl⟩:=e;rw[Lk ⟨rfl,rfl⟩,fj,LM,Lk ⟨by omega,Int.le_refl _,by rw[hq,LG]⟩]
 ·rw[Le e,fj,fj]
  by_cases g:0<=h∧h<=(j:Int)∧(k+1)*2^h.toNat=L.length+1
  ·rw[Lk g,Lk ⟨g.1,by omega,g.2.2⟩]
  ·rw[Le g,Le];rintro⟨h0,h1,h2⟩
   by_cases hj:h<=(j:Int)
   ·exact g ⟨h0,hj,h2⟩
   ·obtain rfl:h=((j+1:Nat):Int):=by omega
    rw[LM,hq,LG] at h2;have:=Nat.eq_of_mul_eq_mul_left (LJ (j+1)) h2;exact e ⟨rfl,by omega⟩
theorem Qn3(c:Nat)(L:LB)(x:BA)(t:Nat)(hn:L.length<65536)(ht:tr 64 (L.length+1)=t):fj c L x t=ff c (L++[x]):=by
 funext h k
 rw[fj,show ff c (L++[x]) h k=if 0<=h∧(k+1)*2^h.toNat<=L.length+1 then some (nd c (L++[x]) h.toNat k) else none by rw[ff,Lc,LF]]
 by_cases h0:0<=h
 ·obtain⟨i,rfl⟩ : ∃i:Nat,h=(i:Int):=⟨h.toNat,by omega⟩
  rw[LM]
  by_cases g:(k+1)*2^i<=L.length
  ·rw[Le (by rintro⟨_,_,e⟩;omega),Lk ⟨h0,by omega⟩,QfN c L i k g,Qf2 c L _ i k g]
  ·by_cases g2:(k+1)*2^i=L.length+1
   ·have hi:i<=64:=by
     apply N6
     intro hlt;have h1:2^64<=2^i:=LW (by decide) (by omega)
     have h2:2^i<=(k+1)*2^i:=IG _ (by omega)
     omega
    have:=(Qlk 64 i (L.length+1) hi).1;rw[ht,<-g2,Nat.mul_mod_left] at this;have xA:(i:Int)<=(t:Int):=Int.ofNat_le.2 (N6 fun hx=>this hx rfl)
    rw[Lk ⟨h0,xA,g2⟩,Lk ⟨h0,by omega⟩]
   ·rw[Le (by rintro⟨_,_,e⟩;exact g2 e),Le (by rintro⟨_,e⟩;omega),QoZ c L i k g]
 ·rw[Le (by rintro⟨e,_⟩;exact h0 e),Le (by rintro⟨e,_⟩;exact h0 e),ff,Le (by rintro⟨e,_⟩;exact h0 e)]
theorem Ql3(c:Nat)(L:LB)(x:BA)(j q:Nat)(hq:L.length+1=2^(j+1)*(q+1)):fj c L x j (j:Int) (2*q)=some (nd c (L++[x]) j (2*q)):=by
 have hp:=LJ j;rw[LC,LY,LG] at hq;have e1:(2*q+1)*2^j+2^j=L.length+1:=by
  rw[hq];have:2*(q+1)=2*q+1+1:=by omega
  rw[this,LL (2*q+1),LV]
 rw[fj,Le,QfN c L j (2*q) (by omega),Qf2 c L _ j (2*q) (by omega)]
 rw[LM];rintro⟨_,_,e⟩;omega
def nw(c:Nat)(M:LB)(t:Nat):LB:=(List.range (t+1)).map fun j=>nd c M j (M.length / 2^j - 1)
theorem Qon(c:Nat)(M:LB)(t:Nat):(nw c M t).length=t+1:=by simp[nw]
theorem Qmt(c:Nat)(M:LB)(t:Nat):nw c M (t+1)=nw c M t++[nd c M (t+1) (M.length / 2^(t+1) - 1)]:=by
 simp[nw,List.range_succ]
theorem Qmu(c:Nat)(M:LB):nw c M 0=[nd c M 0 (M.length - 1)]:=by
 simp[nw,List.range_succ]
theorem Qli{n t j:Nat}(ht:tr 64 n=t)(hj:j<=t) : ∃q,n=2^j*q:=by
 have xA:=Qpd 64 n;have h1:=(Qlk 64 j n (by omega)).2
 have hm:n % 2^j=0:=by
  apply Classical.byContradiction
  intro h;have:=h1 h;omega
 exact⟨n / 2^j,(Nat.mul_div_cancel' (Nat.dvd_of_mod_eq_zero hm)).symm⟩
theorem Qll{n:Nat}(h1:0<n)(h2:n<=65536):tr 64 n<=16:=by
 apply N6
 intro h;obtain⟨q,hq⟩:=Qli (n:=n) (t:=tr 64 n) (j:=17) rfl (by omega)
 have:(2:Nat)^17=131072:=by decide
 rw[this] at hq;omega
theorem Qbj(c:Nat)(L:LB) : ∀(h lo:Nat),lo=L.length / 2^h*2^h->(Cv.dnL h lo L.length).map (fun b=>nd c L b.1 b.2)=pks c L h ∧ ∀b∈Cv.dnL h lo L.length,(b.2+1)*2^b.1<=L.length
 | 0,lo,_=>⟨rfl,fun b hb=>by cases hb⟩
 | h+1,lo,hlo=>by
  have hp:=LJ h;have e2:2^(h+1)=2*2^h:=by rw[LC,LG]
  have d1:=Ib L.length (2^h);have d2:=Ib (L.length / 2^h) 2;have d3:L.length / 2^(h+1)=L.length / 2^h / 2:=by rw[LC,L1]
  have m1:=Ia L.length hp;rw[d3,e2] at hlo;generalize hX:L.length / 2^h=X at *;have xA:lo=(2*(X / 2))*2^h:=by rw[hlo,LG 2 (X / 2),LY]
  have e3:2^h*X=X*2^h:=LG _ _;rw[Cv.dnL,show pw h=2^h from rfl]
  by_cases hb:X % 2=1
  ·have xB:X=2*(X / 2)+1:=by omega
   have e4:X*2^h=lo+2^h:=by rw[xA];conv=>lhs;rw[xB,LL,LV]
   have xC:2^h<=L.length - lo:=by omega
   have e5:lo / 2^h=2*(X / 2):=by rw[xA,Nx _ hp]
   obtain⟨r1,r2⟩:=Qbj c L h (lo+2^h) (by rw[hX,<-e4])
   rw[Lk xC,QdB (by rw[hX];exact hb),Iq,r1,e5,hX]
   refine⟨by rw[show X - 1=2*(X / 2) by omega],fun b hbm => ?_⟩
   rcases List.mem_cons.1 hbm with rfl|hbm
   ·show(2*(X / 2)+1)*2^h<=_
    rw[<-xB];omega
   ·exact r2 b hbm
  ·have xB:X=2*(X / 2):=by omega
   have e4:X*2^h=lo:=by rw[xA];conv=>lhs;rw[xB]
   have xC : ¬2^h<=L.length - lo:=by omega
   obtain⟨r1,r2⟩:=Qbj c L h lo (by rw[hX,<-e4])
   rw[Le xC,QbN (by rw[hX];exact hb)]
   exact⟨r1,r2⟩
theorem QhY(c:Nat)(L:LB)(n:Nat)(hn:n<=L.length)(h40:n<=2^40):(Cv.cov 0 n).map (fun b=>nd c L b.1 b.2)=pks c (L.take n) 41 ∧ ∀b∈Cv.cov 0 n,(b.2+1)*2^b.1<=n:=by
 have hl:(L.take n).length=n:=by rw[Lz];omega
 have hz:0=(L.take n).length / 2^41*2^41:=by rw[hl,Ii (by omega),Nat.zero_mul]
 obtain⟨r1,r2⟩:=Qbj c (L.take n) 41 0 hz;rw[hl] at r1 r2;rw[Cv.Jl n h40];refine⟨?_,r2⟩
 rw[<-r1];refine NA fun b hb => ?_
 exact(Qok c L n b.1 b.2 (r2 b hb) hn).symm
end
def mdL(c:Nat)(L:LB)(x:BA):LB:=(List.range (Pl.trl 40 L.length+1)).map fun j=>nd c (L++[x]) j (L.length / 2^j)
def pkL(c:Nat)(L:LB):LB:=ol (Kp.gN c L) 41 L.length
theorem QkF(c:Nat)(L:LB)(x:BA):ol (Kp.gN c (L++[x])) 41 L.length=pkL c L:=by
 have e:=Kp.Qf6 c (L++[x]) L.length (by simp) 41
 have e2:=Kp.Qf6 c L L.length (La _) 41;rw[Wd] at e;rw[L9] at e2;rw[<-e,e2];rfl
theorem Qfn : ∀(f n:Nat),n<2^f->n % 2^Pl.trl f n=2^Pl.trl f n - 1 ∧ ¬n / 2^Pl.trl f n % 2=1
 | 0,n,h=>by
  obtain rfl:n=0:=by simpa using h
  exact⟨rfl,by decide⟩
 | f+1,n,h=>by
  by_cases ho:n % 2=1
  ·rw[Pl.Qfo f n ho];obtain⟨i1,i2⟩:=Qfn f (n / 2) (by rw[LC] at h;omega)
   have hp:=LJ (Pl.trl f (n / 2));rw[LC];refine⟨?_,?_⟩
   ·rw[LG,N7,ho,i1];omega
   ·rw[LG,<-L1];exact i2
  ·rw[Pl.Qfm f n ho];exact⟨by simp[Nat.mod_one],by simpa using ho⟩
theorem OP(c:Nat)(L:LB)(x:BA):(mdL c L x).length=Pl.trl 40 L.length+1:=by simp[mdL]
theorem QfY{c:Nat}(hc:c<=32)(L:LB)(x:BA) : ∀d∈mdL c L x,d.size=c:=fun d hd=>by
 obtain⟨j,_,rfl⟩:=List.mem_map.1 hd;exact Yx hc ..
namespace St.Rc
def PL:BitVec 32:=0x82f63b78#32
def st(c:BitVec 32):BitVec 32:=(c >>> 1) ^^^ (if c.getLsbD 0 then PL else 0#32)
def stN:Nat->BitVec 32->BitVec 32
 | 0,c=>c
 | n+1,c=>st (stN n c)
theorem xor4(a b c d:BitVec 32):(a ^^^ b) ^^^ (c ^^^ d)=(a ^^^ c) ^^^ (b ^^^ d):=by
 apply BitVec.eq_of_getLsbD_eq
 intro i _;simp only[BitVec.getLsbD_xor]
 cases a.getLsbD i <;> cases b.getLsbD i <;> cases c.getLsbD i <;> cases d.getLsbD i <;> rfl
theorem Qi0(a:BitVec 32):a ^^^ 0#32=a:=BitVec.xor_zero
theorem Qm4(a b:BitVec 32)(n:Nat):(a ^^^ b) >>> n=(a >>> n) ^^^ (b >>> n):=by
 apply BitVec.eq_of_getLsbD_eq
 intro i _;simp only[BitVec.getLsbD_xor,BitVec.getLsbD_ushiftRight]
theorem QoG(a b:BitVec 32):st (a ^^^ b)=st a ^^^ st b:=by
 unfold st;rw[xor4,Qm4]
 congr 1
 rw[BitVec.getLsbD_xor]
 cases a.getLsbD 0 <;> cases b.getLsbD 0 <;> simp
theorem Qnd(n:Nat)(a b:BitVec 32):stN n (a ^^^ b)=stN n a ^^^ stN n b:=by
 induction n with
 | zero=>rfl
 | succ n ih=>simp only[stN,ih,QoG]
theorem Qnb(m n:Nat)(c:BitVec 32):stN (m+n) c=stN n (stN m c):=by
 induction n with
 | zero=>rfl
 | succ n ih=>rw[<-Ni,stN,stN,ih]
theorem Qm3(x:BitVec 32)(h:x.getLsbD 31=false):(x <<< 1) >>> 1=x:=by
 apply BitVec.eq_of_getLsbD_eq
 intro i hi;rw[BitVec.getLsbD_ushiftRight,BitVec.getLsbD_shiftLeft]
 by_cases h31:i=31
 ·subst h31;rw[h];rfl
 ·have e:1+i - 1=i:=by omega
  have e2:(1+i<32):=by omega
  simp[e,e2]
def bw(b:UInt8):BitVec 32:=BitVec.ofNat 32 b.toNat
def by8(c:BitVec 32)(b:UInt8):BitVec 32:=stN 8 (c ^^^ bw b)
def run(c:BitVec 32)(l:List UInt8):BitVec 32:=l.foldl by8 c
theorem Qgx(c:BitVec 32)(l m:List UInt8):run c (l++m)=run (run c l) m:=by simp[run]
theorem QkY(c:BitVec 32)(l:List UInt8)(b:UInt8):run c (l++[b])=by8 (run c l) b:=by simp[run]
def mor(c:BitVec 32)(l:List UInt8):BitVec 32 := ~~~ (run (~~~ c) l)
theorem Qg7(c:BitVec 32):mor c []=c:=by simp[mor,run]
theorem Ol(c:BitVec 32)(l m:List UInt8):mor c (l++m)=mor (mor c l) m:=by simp[mor,Qgx]
def TB:List (BitVec 32):=[0x00000000#32,0x105ec76f#32,0x20bd8ede#32,0x30e349b1#32,0x417b1dbc#32,0x5125dad3#32,0x61c69362#32,0x7198540d#32,
 0x82f63b78#32,0x92a8fc17#32,0xa24bb5a6#32,0xb21572c9#32,0xc38d26c4#32,0xd3d3e1ab#32,0xe330a81a#32,0xf36e6f75#32]
theorem QoI : ∀n,n<16->TB.getD n 0#32=stN 4 (BitVec.ofNat 32 n):=by decide
theorem QoF(x:BitVec 32)(h:x.getLsbD 31=false):st (x <<< 1)=x:=by
 have h0:((x <<< 1).getLsbD 0)=false:=by simp
 rw[st,h0,Le (by decide),Qi0,Qm3 x h]
theorem Qn5(x:BitVec 32):(x >>> 4) ^^^ TB.getD (x.toNat % 16) 0#32=stN 4 x:=by
 have hs : ∀k,k<=4->stN k ((x >>> 4) <<< 4)=(x >>> 4) <<< (4 - k):=by
  intro k hk
  induction k with
  | zero=>rfl
  | succ k ih =>
   rw[stN,ih (by omega)]
   have e:(x >>> 4) <<< (4 - k)=((x >>> 4) <<< (4 - (k+1))) <<< 1:=by
    rw[<-BitVec.shiftLeft_add,show 4 - (k+1)+1=4 - k by omega]
   rw[e,QoF];rw[BitVec.getLsbD_shiftLeft,BitVec.getLsbD_ushiftRight];have:x.getLsbD (4+(31 - (4 - (k+1))))=false:=BitVec.getLsbD_of_ge _ _ (by omega)
   rw[this,Bool.and_false]
 have h4:=hs 4 (La _);have hx:x=(x >>> 4) <<< 4 ^^^ BitVec.ofNat 32 (x.toNat % 16):=by
  apply BitVec.eq_of_getLsbD_eq
  intro i hi;rw[BitVec.getLsbD_xor,BitVec.getLsbD_shiftLeft,BitVec.getLsbD_ushiftRight,BitVec.getLsbD_ofNat,show(16:Nat)=2^4 from rfl,Nat.testBit_mod_two_pow]
  by_cases h:i<4
  ·simp[h,hi,BitVec.getLsbD]
  ·have:4+(i - 4)=i:=by omega
   simp[h,hi,this]
 rw[QoI _ (Ia _ (by decide))]
 conv=>rhs;rw[hx]
 rw[Qnd,h4,Il,BitVec.shiftLeft_zero]
end St.Rc
namespace St.Rc
def cW(l:List (BitVec 32)):List Value:=l.map fun c=>Value.int .u32 (c.toNat:Int)
def tabO:Obj := .cells (cW TB).toArray 419
theorem Qq(w:World)(cs:List Value)(t:TypeId):(w.alloc (.cells cs.toArray t)).rangeAt w.heap.size 0 cs:=fun j v hv=>by
 rw[Lm,LX]
 simpa using hv
theorem Qfh(w:World)(n:Nat)(hn:n<16):(w.alloc tabO).cell? ⟨w.heap.size,n,none⟩=some (.int .u32 ((TB.getD n 0#32).toNat:Int)):=by
 have hl:n<TB.length:=hn;have:=Qq w (cW TB) 419 n (.int .u32 ((TB.getD n 0#32).toNat:Int)) (by simp[cW,List.getElem?_eq_getElem hl,List.getD_eq_getElem?_getD])
 rwa [Lm] at this
theorem Qlq(a b:BitVec 32):bits .xor .u32 (a.toNat:Int) (b.toNat:Int)=((a ^^^ b).toNat:Int):=by
 rw[u32_xor_nat _ _ a.isLt b.isLt,BitVec.toNat_xor]
theorem QnG(a:BitVec 32):bits .xor .u32 IntKind.u32.max (a.toNat:Int)=((~~~ a).toNat:Int):=by
 have e:IntKind.u32.max=((BitVec.allOnes 32).toNat:Int):=by decide
 rw[e,Qlq,BitVec.allOnes_xor]
theorem QnN(a:BitVec 32)(b:UInt8):bits .xor .u32 (a.toNat:Int) ((b.toNat:Int) % 4294967296)=((a ^^^ bw b).toNat:Int):=by
 have hb:b.toNat<256:=b.toNat_lt;have e:(b.toNat:Int) % 4294967296=((bw b).toNat:Int):=by
  rw[bw,BitVec.toNat_ofNat,Nn (by omega)];omega
 rw[e,Qlq]
theorem half(X:BitVec 32) : ∃q n t y:Nat,(X.toNat:Int) / 16=(q:Int)∧bits .and .u32 (X.toNat:Int) 15=(n:Int)∧n<16∧(TB.getD n 0#32).toNat=t∧bits .xor .u32 (q:Int) (t:Int)=(y:Int)∧y=(stN 4 X).toNat:=by
 refine⟨X.toNat / 16,X.toNat % 16,_,_,by omega,?_,Ia _ (by decide),rfl,?_,rfl⟩
 ·have:=u32_and_nat X.toNat 15 X.isLt (by decide)
  rw[show((15:Nat):Int)=15 from rfl] at this
  rw[this];have:X.toNat &&& 15=X.toNat % 2^4:=Nat.and_two_pow_sub_one_eq_mod _ 4;rw[this]
 ·have e:X.toNat / 16=(X >>> 4).toNat:=by rw[BitVec.toNat_ushiftRight,Nm]
  rw[e,Qlq,Qn5]
theorem QiX(s:BA)(k:Nat)(hk:k<s.size):s.data.toList.take (k+1)=s.data.toList.take k++[s[k]]:=by
 rw[LR (by simpa using hk)]
 rfl
theorem Qkg(w:World)(c:BitVec 32)(s:BA)(hs:s.size<=9223372036854775807) :
  Calls prog 342 #[.int .u32 (c.toNat:Int),.string s] w fun e w'=>e = .returned (.int .u32 ((mor c s.data.toList).toNat:Int))∧w'=w.alloc tabO:=by
 have HN:Hid (bits .xor .u32 IntKind.u32.max (c.toNat:Int)=((~~~ c).toNat:Int)):=QnG c
 go_enter func342,ntmps342;go_wp2
 go_loopg [6,13] s.size (fun g x i wr=>w.alloc tabO=wr ∧ ∃(k m:Nat),k<=s.size∧g=s.size - k∧x = .int .u32 (m:Int)∧i = .int .i64 k∧Hid (m=(run (~~~ c) (s.data.toList.take k)).toNat))
 case atStart=>go_light;exact⟨rfl,0,(~~~ c).toNat,Ll _,rfl,by rw[HN.out],rfl,rfl⟩
 case round =>
  obtain⟨rfl,k,d,hk,rfl,rfl,rfl,HD⟩:=hrel
  by_cases hlt:k<s.size
  ·have hz:(k:Int)<(s.size:Int):=by omega
   have e0:=QnN (run (~~~ c) (s.data.toList.take k)) s[k];rw[<-HD.out] at e0;obtain⟨q,n,t,y,e1,e2,hn,ht,e3,hy⟩:=half (run (~~~ c) (s.data.toList.take k) ^^^ bw s[k]);obtain⟨q',n',t',y',xD,xE,xA,xB,xF,xC⟩:=half (stN 4 (run (~~~ c) (s.data.toList.take k) ^^^ bw s[k]));have HY:Hid (y'=(run (~~~ c) (s.data.toList.take (k+1))).toNat):=by
    show _=_
    rw[xC,QiX s k hlt,QkY,by8,<-Qnb]
   rw[<-hy] at xD xE;have c1:=Qfh w n hn;have c2:=Qfh w n' xA;rw[ht] at c1;rw[xB] at c2;have n0:(0:Int)<=(n:Int):=Lf _;have n1:(n:Int)<16:=by omega
   have xG:(0:Int)<=(n':Int):=Lf _;have xH:(n':Int)<16:=by omega
   generalize (run (~~~ c) (s.data.toList.take k) ^^^ bw s[k]).toNat=x at e0 e1 e2;clear hy xC ht xB HD hn xA;go_wp2
   go_roundg (s.size - (k+1))
   case rel=>go_light;exact⟨rfl,k+1,y',by omega,rfl,rfl,by go_num,HY.out⟩
   case measure=>go_light;omega
  ·obtain rfl:k=s.size:=by omega
   have hz : ¬(s.size:Int)<(s.size:Int):=by omega
   have e0:=QnG (run (~~~ c) (s.data.toList.take s.size));rw[<-HD.out] at e0;have HE:Hid ((~~~ (run (~~~ c) (s.data.toList.take s.size))).toNat=(mor c s.data.toList).toNat):=by
    show _=_
    rw[Lo (by simp),mor]
   generalize (~~~ (run (~~~ c) (s.data.toList.take s.size))).toNat=x at e0 HE;clear HD;go_wp2
   go_ret
   exact⟨by rw[HE.out];rfl,rfl⟩
theorem Qa{w W w2:World}(h:Below w.heap.size w W)(h2:Below W.heap.size W w2):Below w.heap.size w w2:=h.trans (h2.mono h.size)
theorem bal{w W:World}(h:Below w.heap.size w W)(o:Obj):Below w.heap.size w (W.alloc o):=h.alloc h.size o
theorem Qf{B:Nat}{a w:World}(h:Below B a w)(n:Nat):Below B a (w.drewN n):=⟨h.os,h.tape,h.output,h.size,h.block⟩
theorem QE{w:World}{b o:Nat}{cs:List Value}(h:w.rangeAt b o cs)(hc:cs≠[]):b<w.heap.size:=by
 obtain⟨v,r,rfl⟩:=List.exists_cons_of_ne_nil hc;have:=h 0 v rfl;exact Ln _ _ this
theorem Qn{B:Nat}{a w:World}(hb:Below B a w){b o:Nat}{cs:List Value}(hlt:b<B)(h:a.rangeAt b o cs):w.rangeAt b o cs:=fun j v hv=>by
 rw[hb.cell (p:=⟨b,o+j,none⟩) hlt];exact h j v hv
theorem Qkh(w:World)(c:BitVec 32)(m:Nat)(hm:m=c.toNat)(s:BA)(hs:s.size<=9223372036854775807) :
  Calls prog 342 #[.int .u32 (m:Int),.string s] w fun e w'=>e = .returned (.int .u32 ((mor c s.data.toList).toNat:Int))∧Below w.heap.size w w':=by
 subst hm;refine(Qkg w c s hs).mono ?_
 rintro e w' ⟨rfl,rfl⟩;exact⟨rfl,(Lb _ _).alloc (La _) _⟩
def Qk(ss:LB):List UInt8:=ss.flatMap fun s=>s.data.toList
def sumL(ss:LB):BitVec 32:=mor 0#32 (Qk ss)
theorem UL(ss:LB)(k:Nat)(hk:k<ss.length):Qk (ss.take (k+1))=Qk (ss.take k)++(ss.getD k ByteArray.empty).data.toList:=by
 have e:ss.getD k ByteArray.empty=ss[k]:=by rw[Ld,Lh hk];rfl
 unfold Qk;rw[LR hk,IP,e];simp
structure RdS(w:World)(ao:OA)(b off len:Nat)(ss:LB):Prop where
 hl:ss.length=len
 ptr:0<len->ao=some ⟨b,off,none⟩
 rng:w.rangeAt b off (ss.map Value.string)
 sz : ∀s∈ss,s.size<=9223372036854775807
theorem RdS.lt{w:World}{ao:OA}{b off len:Nat}{ss:LB}(h:RdS w ao b off len ss)(h0:0<len):b<w.heap.size :=
 QE h.rng (by intro e;have:=Lw List.length e;rw[Nc,NL,h.hl] at this;omega)
theorem RdS.next{w W:World}{ao:OA}{b off len B:Nat}{ss:LB}(h:RdS w ao b off len ss)(hb:Below B w W)(hB:w.heap.size<=B):RdS W ao b off len ss:=by
 refine⟨h.hl,h.ptr,?_,h.sz⟩
 by_cases h0:0<len
 ·exact Qn hb (Lx (h.lt h0) hB) h.rng
 ·have:ss=[]:=List.length_eq_zero_iff.1 (by rw[h.hl];omega)
  rw[this];intro j v hv;cases hv
theorem RdS.at{w:World}{ao:OA}{b off len:Nat}{ss:LB}(h:RdS w ao b off len ss){k:Nat}(hk:k<len):w.cell? ⟨b,off+k,none⟩=some (.string (ss.getD k ByteArray.empty)) :=
 h.rng k _ (by have:=h.hl;simp[List.getElem?_eq_getElem (show k<ss.length by omega),List.getD_eq_getElem?_getD])
theorem RdS.szAt{w:World}{ao:OA}{b off len:Nat}{ss:LB}(h:RdS w ao b off len ss){k:Nat}(hk:k<len):(ss.getD k ByteArray.empty).size<=9223372036854775807:=by
 have hl:k<ss.length:=by have:=h.hl;omega
 have e:ss.getD k ByteArray.empty=ss[k]:=by rw[Ld,Lh hl];rfl
 rw[e];exact h.sz _ (L3 _)
theorem Qdu(w:World)(ao:OA)(b off len cap:Nat)(ss:LB)(hr:RdS w ao b off len ss)(hmx:len<=9223372036854775807) :
  Calls prog 341 #[.slice ao len cap] w fun e w'=>e = .returned (.int .u32 ((sumL ss).toNat:Int))∧Below w.heap.size w w':=by
 go_enter func341,ntmps341;go_wp2
 go_loopg [3,8] len (fun g x i wr => ∃(k m:Nat),k<=len∧g=len - k∧x = .int .u32 (m:Int)∧i = .int .i64 k∧Hid (m=(mor 0#32 (Qk (ss.take k))).toNat)∧Below w.heap.size w wr)
 case atStart=>go_light;exact⟨0,0,Ll _,rfl,rfl,rfl,by show _=_;rw[IF,show Qk []=[] from rfl,Qg7];rfl,Lb _ _⟩
 case round =>
  obtain⟨k,m,hk,rfl,rfl,rfl,HM,hb⟩:=hrel
  by_cases hlt:k<len
  ·have hz:(k:Int)<(len:Int):=by omega
   obtain rfl:=hr.ptr (by omega)
   have xB:=hr.next hb (La _);have ck:=xB.at hlt;have xA:=Qkh wr _ m HM.out (ss.getD k ByteArray.empty) (hr.szAt hlt);rw[<-Ol,<-UL ss k (by rw[hr.hl];exact hlt)] at xA
   have HB:Hid (∀w',Below wr.heap.size wr w'->Below w.heap.size w w'):=fun w' h=>Qa hb h
   obtain⟨y,hy⟩ : ∃y,y=(mor 0#32 (Qk (ss.take (k+1)))).toNat:=⟨_,rfl⟩;rw[<-hy] at xA;have HY:Hid (y=(mor 0#32 (Qk (ss.take (k+1)))).toNat):=hy;clear hy HM hb hr xB;generalize ss.getD k ByteArray.empty=part at *
   go_wp2_with (go_at_call 342;refine xA.mono ?_;rintro e w' ⟨rfl,xC⟩)
   go_roundg (len - (k+1))
   case rel=>go_light;exact⟨k+1,y,by omega,rfl,rfl,by go_num,HY.out,HB.out _ xC⟩
   case measure=>go_light;omega
  ·obtain rfl:k=len:=by omega
   have hz : ¬(k:Int)<(k:Int):=by omega
   have HE:Hid (m=(sumL ss).toNat):=by
    show _=_
    rw[HM.out,sumL,Lo (by rw[hr.hl];exact La _)]
   clear HM;go_wp2
   go_ret
   exact⟨by rw[<-HE.out];rfl,hb⟩
end St.Rc
end Go.Proofs.YtoblgjledefdbaaGreatDoor
