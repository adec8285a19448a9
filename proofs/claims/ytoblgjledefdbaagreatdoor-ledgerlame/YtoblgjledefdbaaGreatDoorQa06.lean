/- Own work. -/
import Derived.Test.YtoblgjledefdbaaGreatDoorProg
import Derived.WalkKit
import Derived.WalkSpells
import Derived.Outline
import Derived.KernelRfl
import Derived.Maps.Keyed
import Derived.DeepKeys4
import Derived.Test.YtoblgjledefdbaaGreatDoorRows
import Derived.Deep.MidRow
import Derived.Below
import Derived.Deep.LoopGhost
import Derived.Deep.RegionHeld3
import Derived.Deep.RegionWith
import Derived.Deep.DrawnRows
import Derived.Deep.Light
import Derived.Laws.BitsAllLaws
import Derived.BigQuiet
import Derived.Test.YtoblgjledefdbaaGreatDoorQa05
namespace Go.Proofs.YtoblgjledefdbaaGreatDoor
open Go.RowKit
theorem Tryz.laidOut:laidOutB Tryz.prog=true:=by kernel_rfl
theorem Tryz.rowB:(249:TypeId)<Tryz.prog.types.size:=of_decide_eq_true (by kernel_rfl)
theorem Tryz.deepB:Tryz.prog.keyTypeAt 2 249=true:=by kernel_rfl
theorem Tryz.keyed:Maps.Keyed Tryz.prog 249:=Maps.Keyed.of_law (deep_law_laid Tryz.laidOut (m:=2) (by omega) Tryz.rowB Tryz.deepB (by rw [Tryz.underlying249]))
def kv (h:Int) (k:Nat):Value := .agg #[.int .i64 h,.int .u64 (k:Int)]
def nv (s:ByteArray):Value := .agg #[.string s]
theorem kv_inj {h h':Int} {k k':Nat} (e:kv h k=kv h' k'):h=h'∧k=k':=by
 have h1:Value.int .i64 h=Value.int .i64 h'∧Value.int .u64 (k:Int)=Value.int .u64 (k':Int):=by
  unfold kv at e
  injection e with e
  have:=congrArg Array.toList e
  injection this with a b
  injection b with b _
  exact ⟨a,b⟩
 obtain ⟨a,b⟩:=h1
 injection a with _ a
 injection b with _ b
 exact ⟨a,by omega⟩
theorem nv_inj {s s':ByteArray} (e:nv s=nv s'):s=s':=by
 unfold nv at e
 injection e with e
 have:=congrArg Array.toList e
 injection this with a _
 injection a
def Fitb (h:Int) (k:Nat):Prop:=(-9223372036854775808≤h∧h≤9223372036854775807)∧k<18446744073709551616
theorem keyT:Tryz.prog.keyType 249=true:=by kernel_rfl
theorem cellsB:Tryz.prog.cellsOf 249=2:=by kernel_rfl
theorem cells_i:Tryz.prog.cellsOf 3=1:=by kernel_rfl
theorem cells_u:Tryz.prog.cellsOf 48=1:=by kernel_rfl
theorem typesS : ∃ n,Tryz.prog.types.size+1=n+2:=by
 have h:0<Tryz.prog.types.size:=Nat.lt_of_le_of_lt (Nat.zero_le _) Tryz.rowB
 generalize Tryz.prog.types.size=z at *
 exact ⟨z - 1,by omega⟩
theorem kv_lits (n:Nat) (h u:Int) (w1:(Lit.int .i64 h).wf=true) (w2:(Lit.int .u64 u).wf=true):Tryz.prog.keyLits (n+2) 249 [.int .i64 h,.int .u64 u]=some [.int .i64 h,.int .u64 u]:=by
 simp [Program.keyLits,Tryz.underlying249,w1,w2,cellsB,cells_i,cells_u,Tryz.underlying3,Tryz.underlying48]
theorem kv_formed (h:Int) (k:Nat):(kv h k).formed Tryz.prog 249=true:=by
 simp [Value.formed,Tryz.underlying249,cellsB,kv]
theorem kv_key {h:Int} {k:Nat} (hf:Fitb h k) : ∃ l,keyOf Tryz.prog 249 (kv h k)=some l:=by
 obtain ⟨n,hn⟩:=typesS
 obtain ⟨h1,h3⟩:=hf
 have e:=kv_lits n h k (WalkArith.wf_i64 h1) (WalkArith.wf_u64 ⟨by omega,by omega⟩)
 have e2:(kv h k).cells.toList=[.int .i64 h,.int .u64 (k:Int)]:=rfl
 rw [← hn,← e2] at e
 unfold keyOf
 rw [Tryz.underlying249]
 simp only [keyT,kv_formed,Bool.and_self,if_true,e,Option.map_some]
 exact ⟨_,rfl⟩
def Mp (w:World) (b:Nat) (f:Int→Nat→Option ByteArray):Prop :=
 ∃ es clock,w.heap[b]? = some (.map es clock)∧(∀ e∈es.toList,∃ h k s,Fitb h k∧e.key=kv h k∧e.val=nv s)∧es.toList.Pairwise (fun x y=>x.key≠y.key) ∧
  ∀ h k s,Fitb h k→(f h k=some s ↔ ∃ e∈es.toList,e.key=kv h k∧e.val=nv s)
theorem Mp.lt {w:World} {b:Nat} {f:Int→Nat→Option ByteArray} (h:Mp w b f):b<w.heap.size:=by
 obtain ⟨es,c,h1,_⟩:=h
 exact (Array.getElem?_eq_some_iff.1 h1).1
theorem Mp.same {w W:World} {b:Nat} {f:Int→Nat→Option ByteArray} (h:Mp w b f) (hb:W.heap[b]? = w.heap[b]?):Mp W b f:=by
 obtain ⟨es,c,h1,h2⟩:=h
 exact ⟨es,c,hb.trans h1,h2⟩
theorem mp_new (w:World):Mp (w.alloc (.map #[] 0)) w.heap.size (fun _ _=>none):=by
 refine ⟨#[],0,(MapKept.heap_alloc w _).1,?_,?_,?_⟩
 ·intro e he; simp at he
 ·simp
 ·intro h k s _; simp
theorem Mp.find {w:World} {b:Nat} {f:Int→Nat→Option ByteArray} (hm:Mp w b f) {h:Int} {k:Nat} (hf:Fitb h k) :
  ∃ es clock,w.heap[b]? = some (.map es clock)∧((f h k=none∧(Instr.findKey 249 (kv h k) es.toList).run Tryz.prog w = .ok none w ∧ ∀ e∈es.toList,e.key≠kv h k) ∨
   ∃ j e s,f h k=some s∧(Instr.findKey 249 (kv h k) es.toList).run Tryz.prog w = .ok (some (j,nv s)) w∧es.toList[j]? = some e∧e.key=kv h k):=by
 obtain ⟨es,c,h1,h2,h3,h4⟩:=hm
 obtain ⟨l,hl⟩:=kv_key hf
 refine ⟨es,c,h1,?_⟩
 rcases Tryz.keyed.find w hl es.toList (fun e he=>by obtain ⟨h',k',s,hf',e1,_⟩:=h2 e he; rw [e1]; exact kv_key hf') with ⟨r1,r2⟩ | ⟨j,e,r1,r2,r3⟩
 ·refine .inl ⟨?_,r1,r2⟩
  cases hx:f h k with
  | none=>rfl
  | some s =>
   obtain ⟨e,he,ek,_⟩:=(h4 h k s hf).1 hx
   exact absurd ek (r2 e he)
 ·have hm:=List.mem_of_getElem? r2
  obtain ⟨h',k',s,hf',e1,e2⟩:=h2 e hm
  rw [e2] at r1
  exact .inr ⟨j,e,s,(h4 h k s hf).2 ⟨e,hm,r3,e2⟩,r1,r2,r3⟩
theorem Mp.look {w:World} {b:Nat} {f:Int→Nat→Option ByteArray} (hm:Mp w b f) {h:Int} {k:Nat} (hf:Fitb h k) (c:Bool) :
  (Instr.lookup 170 (.map (some b)) (kv h k) c).run Tryz.prog w = .ok (if c then .tuple #[nv ((f h k).getD ByteArray.empty),.bool (f h k).isSome] else nv ((f h k).getD ByteArray.empty)) w:=by
 obtain ⟨l,hl⟩:=kv_key hf
 obtain ⟨es,cl,h1,⟨e0,e1,_⟩ | ⟨j,e,s,e0,e1,_⟩⟩:=hm.find hf
 ·rw [e0]
  simp [Instr.lookup,run_underlying Tryz.underlying170,MapKept.run_getObj_map h1,Tryz.keyed.check w _ hl,e1,Result.andThen]
  rfl
 ·rw [e0]
  simp [Instr.lookup,run_underlying Tryz.underlying170,MapKept.run_getObj_map h1,Tryz.keyed.check w _ hl,e1,Result.andThen]
def put (f:Int→Nat→Option ByteArray) (h:Int) (k:Nat) (s:ByteArray):Int→Nat→Option ByteArray:=fun h' k'=>if h'=h∧k'=k then some s else f h' k'
theorem Mp.write {w:World} {b:Nat} {f:Int→Nat→Option ByteArray} (hm:Mp w b f) {h:Int} {k:Nat} (hf:Fitb h k) (s:ByteArray) :
  ∃ es clock,(Instr.mapUpdate 170 (.map (some b)) (kv h k) (nv s)).run Tryz.prog w = .ok () (ChangeMaps.setBlock w b (.map es clock))∧Mp (ChangeMaps.setBlock w b (.map es clock)) b (put f h k s):=by
 have hb:=hm.lt
 obtain ⟨l,hl⟩:=kv_key hf
 have sz : ∀ o,(ChangeMaps.setBlock w b o).heap[b]? = some o:=fun o=>by simp [ChangeMaps.setBlock,hb]
 obtain ⟨es,cl,h1,hor⟩:=hm.find hf
 obtain ⟨es',cl',g1,g2,g3,g4⟩:=hm
 rw [h1] at g1
 injection g1 with g1
 injection g1 with g1 g1'
 subst g1 g1'
 rcases hor with ⟨e0,e1,e2⟩ | ⟨j,e,s0,e0,e1,e2,e3⟩
 ·refine ⟨es.push ⟨kv h k,nv s,cl⟩,cl+1,?_,_,_,sz _,?_,?_,?_⟩
  ·simp [Instr.mapUpdate,run_underlying Tryz.underlying170,MapKept.run_getObj_map h1,Tryz.keyed.check w false hl,e1,MapKept.run_setObj_map _ h1,Result.andThen,ChangeMaps.setBlock]
  ·intro x hx
   simp only [Array.toList_push,List.mem_append,List.mem_singleton] at hx
   rcases hx with hx | rfl
   ·exact g2 x hx
   ·exact ⟨h,k,s,hf,rfl,rfl⟩
  ·rw [Array.toList_push,List.pairwise_append]
   refine ⟨g3,by simp,fun x hx y hy => ?_⟩
   simp only [List.mem_singleton] at hy
   subst hy
   exact e2 x hx
  ·intro h' k' s' hf'
   simp only [put,Array.toList_push,List.mem_append,List.mem_singleton]
   by_cases hq:h'=h∧k'=k
   ·obtain ⟨rfl,rfl⟩:=hq
    rw [if_pos ⟨rfl,rfl⟩]
    refine ⟨fun hs => ?_,?_⟩
    ·injection hs with hs
     subst hs
     exact ⟨_,.inr rfl,rfl,rfl⟩
    ·rintro ⟨x,hx | rfl,ex,ey⟩
     ·exact absurd ex (e2 x hx)
     ·rw [nv_inj ey]
   ·rw [if_neg hq,g4 h' k' s' hf']
    refine ⟨fun ⟨x,hx,r⟩=>⟨x,.inl hx,r⟩,?_⟩
    rintro ⟨x,hx | rfl,ex,ey⟩
    ·exact ⟨x,hx,ex,ey⟩
    ·obtain ⟨q1,q2⟩:=kv_inj ex
     exact absurd ⟨q1.symm,q2.symm⟩ hq
 ·have hj:es[j]? = some e:=by simpa using e2
  have hlist:(es.modify j (fun e' => { e' with key:=kv h k,val:=nv s })).toList=es.toList.set j { e with key:=kv h k,val:=nv s } := by rw [Array.toList_modify,ChangeMaps.modify_eq_set _ _ _ _ e2]
  have hjl:j<es.toList.length:=(List.getElem?_eq_some_iff.1 e2).1
  have hne : ∀ i x,es.toList[i]? = some x→i≠j→x.key≠kv h k:=fun i x hx hij=>by
   have hil:=(List.getElem?_eq_some_iff.1 hx).1
   have pw:=List.pairwise_iff_getElem.1 g3
   have ei:es.toList[i]=x:=(List.getElem?_eq_some_iff.1 hx).2
   have ej:es.toList[j]=e:=(List.getElem?_eq_some_iff.1 e2).2
   rcases Nat.lt_or_gt_of_ne hij with hlt | hlt
   ·have:=pw i j hil hjl hlt
    rw [ei,ej,e3] at this
    exact this
   ·have:=pw j i hjl hil hlt
    rw [ei,ej,e3] at this
    exact fun q=>this q.symm
  have who : ∀ x,x∈es.toList.set j { e with key:=kv h k,val:=nv s } ↔ x = { e with key:=kv h k,val:=nv s } ∨ (x∈es.toList∧x.key≠kv h k):=by
   intro x
   constructor
   ·intro hx
    obtain ⟨i,hi,ex⟩:=List.getElem_of_mem hx
    rw [List.getElem_set] at ex
    split at ex
    ·exact .inl ex.symm
    ·rename_i hn
     have hi':i<es.toList.length:=by simpa using hi
     exact .inr ⟨ex ▸ List.getElem_mem hi',hne i x (by rw [List.getElem?_eq_getElem hi',ex]) (fun q=>hn q.symm)⟩
   ·rintro (rfl | ⟨hx,hk⟩)
    ·exact List.mem_iff_getElem.2 ⟨j,by simpa using hjl,by simp⟩
    ·obtain ⟨i,hi,ex⟩:=List.getElem_of_mem hx
     refine List.mem_iff_getElem.2 ⟨i,by simpa using hi,?_⟩
     rw [List.getElem_set_ne]
     ·exact ex
     ·rintro rfl
      apply hk
      rw [← ex,(List.getElem?_eq_some_iff.1 e2).2,e3]
  refine ⟨es.modify j (fun e' => { e' with key:=kv h k,val:=nv s }),cl,?_,_,_,sz _,?_,?_,?_⟩
  ·simp [Instr.mapUpdate,run_underlying Tryz.underlying170,MapKept.run_getObj_map h1,Tryz.keyed.check w false hl,e1,hj,e3,Tryz.keyed.stays w hl,MapKept.run_setObj_map _ h1,Result.andThen,ChangeMaps.setBlock]
  ·intro x hx
   rw [hlist] at hx
   rcases (who x).1 hx with rfl | ⟨hx,_⟩
   ·exact ⟨h,k,s,hf,rfl,rfl⟩
   ·exact g2 x hx
  ·rw [hlist,List.pairwise_iff_getElem]
   have pw:=List.pairwise_iff_getElem.1 g3
   have ky : ∀ i (hi:i<(es.toList.set j { e with key:=kv h k,val:=nv s }).length),((es.toList.set j { e with key:=kv h k,val:=nv s })[i]).key=(es.toList[i]'(by simpa using hi)).key:=by
    intro i hi
    rw [List.getElem_set]
    split
    ·rename_i q
     subst q
     rw [(List.getElem?_eq_some_iff.1 e2).2,e3]
    ·rfl
   intro i i' hi hi' hlt
   rw [ky i hi,ky i' hi']
   exact pw i i' _ _ hlt
  ·intro h' k' s' hf'
   rw [hlist]
   by_cases hq:h'=h∧k'=k
   ·obtain ⟨rfl,rfl⟩:=hq
    rw [put,if_pos ⟨rfl,rfl⟩]
    refine ⟨fun hs => ?_,?_⟩
    ·injection hs with hs
     subst hs
     exact ⟨_,(who _).2 (.inl rfl),rfl,rfl⟩
    ·rintro ⟨x,hx,ex,ey⟩
     rcases (who x).1 hx with rfl | ⟨_,hk⟩
     ·rw [nv_inj ey]
     ·exact absurd ex hk
   ·rw [put,if_neg hq,g4 h' k' s' hf']
    constructor
    ·rintro ⟨x,hx,ex,ey⟩
     refine ⟨x,(who x).2 (.inr ⟨hx,fun q=>hq ?_⟩),ex,ey⟩
     obtain ⟨q1,q2⟩:=kv_inj (ex.symm.trans q)
     exact ⟨q1,q2⟩
    ·rintro ⟨x,hx,ex,ey⟩
     rcases (who x).1 hx with rfl | ⟨hx,_⟩
     ·obtain ⟨q1,q2⟩:=kv_inj ex
      exact absurd ⟨q1.symm,q2.symm⟩ hq
     ·exact ⟨x,hx,ex,ey⟩
end Go.Proofs.YtoblgjledefdbaaGreatDoor
namespace Go.Proofs.YtoblgjledefdbaaGreatDoor
open Go.RowKit
open Pl (ones pw)
def ff (c:Nat) (L:List ByteArray) (h:Int) (k:Nat):Option ByteArray:=if 0≤h∧(k+1) * 2^h.toNat≤L.length then some (nd c L h.toNat k) else none
def fj (c:Nat) (L:List ByteArray) (x:ByteArray) (j:Nat) (h:Int) (k:Nat):Option ByteArray:=if 0≤h∧h≤(j:Int)∧(k+1) * 2^h.toNat=L.length+1 then some (nd c (L++[x]) h.toNat k) else ff c L h k
theorem nd_app (c:Nat) (L M:List ByteArray) (h k:Nat) (hk:(k+1) * 2^h≤L.length):nd c (L++M) h k=nd c L h k:=by
 refine nd_alike h k k fun t ht => ?_
 rw [List.getD_eq_getElem?_getD,List.getD_eq_getElem?_getD,List.getElem?_append_left]
 rw [Nat.add_mul,Nat.one_mul] at hk
 omega
theorem nd_pre (c:Nat) (L:List ByteArray) (n h k:Nat) (hk:(k+1) * 2^h≤n) (hn:n≤L.length):nd c (L.take n) h k=nd c L h k:=by
 have:=nd_app c (L.take n) (L.drop n) h k (by rw [List.length_take]; omega)
 rw [List.take_append_drop] at this
 exact this.symm
theorem ff_nat (c:Nat) (L:List ByteArray) (h k:Nat) (hk:(k+1) * 2^h≤L.length):ff c L (h:Int) k=some (nd c L h k):=by
 rw [ff,if_pos ⟨Int.natCast_nonneg _,by rw [Int.toNat_natCast]; exact hk⟩,Int.toNat_natCast]
theorem ff_no (c:Nat) (L:List ByteArray) (h k:Nat) (hk : ¬ (k+1) * 2^h≤L.length):ff c L (h:Int) k=none:=by
 rw [ff,if_neg]
 rw [Int.toNat_natCast]
 exact fun x=>hk x.2
theorem ff_size {c:Nat} (hc:c≤32) {L:List ByteArray} {h:Int} {k:Nat} {s:ByteArray} (e:ff c L h k=some s):s.size=c:=by
 rw [ff] at e
 split at e
 ·injection e with e
  rw [← e,nd_size hc]
 ·cases e
theorem fj_start (c:Nat) (L:List ByteArray) (x:ByteArray):put (ff c L) 0 L.length (nd c (L++[x]) 0 L.length)=fj c L x 0:=by
 funext h k
 rw [put,fj]
 by_cases e:h=0∧k=L.length
 ·obtain ⟨rfl,rfl⟩:=e
  rw [if_pos ⟨rfl,rfl⟩,if_pos ⟨by decide,by decide,by simp⟩]
  rfl
 ·rw [if_neg e,if_neg]
  rintro ⟨h0,h1,h2⟩
  obtain rfl:h=0:=by simp at h1; omega
  simp at h2
  exact e ⟨rfl,h2⟩
theorem last_at {n j q:Nat} (hq:n=2^j * q):n / 2^j=q:=by
 rw [hq,Nat.mul_div_cancel_left _ (Nat.two_pow_pos j)]
theorem fj_step (c:Nat) (L:List ByteArray) (x:ByteArray) (j q:Nat) (hq:L.length+1=2^(j+1) * (q+1)):put (fj c L x j) ((j+1:Nat):Int) q (nd c (L++[x]) (j+1) q)=fj c L x (j+1):=by
 funext h k
 rw [put]
 by_cases e:h=((j+1:Nat):Int)∧k=q
 ·obtain ⟨rfl,rfl⟩:=e
  rw [if_pos ⟨rfl,rfl⟩,fj,Int.toNat_natCast,if_pos ⟨by omega,Int.le_refl _,by rw [hq,Nat.mul_comm]⟩]
 ·rw [if_neg e,fj,fj]
  by_cases g:0≤h∧h≤(j:Int)∧(k+1) * 2^h.toNat=L.length+1
  ·rw [if_pos g,if_pos ⟨g.1,by omega,g.2.2⟩]
  ·rw [if_neg g,if_neg]
   rintro ⟨h0,h1,h2⟩
   by_cases hj:h≤(j:Int)
   ·exact g ⟨h0,hj,h2⟩
   ·obtain rfl:h=((j+1:Nat):Int):=by omega
    rw [Int.toNat_natCast,hq,Nat.mul_comm] at h2
    have:=Nat.eq_of_mul_eq_mul_left (Nat.two_pow_pos (j+1)) h2
    exact e ⟨rfl,by omega⟩
theorem fj_end (c:Nat) (L:List ByteArray) (x:ByteArray) (t:Nat) (hn:L.length<65536) (ht:tr 64 (L.length+1)=t):fj c L x t=ff c (L++[x]):=by
 funext h k
 rw [fj,show ff c (L++[x]) h k=if 0≤h∧(k+1) * 2^h.toNat≤L.length+1 then some (nd c (L++[x]) h.toNat k) else none by rw [ff,List.length_append,List.length_singleton]]
 by_cases h0:0≤h
 ·obtain ⟨i,rfl⟩ : ∃ i:Nat,h=(i:Int):=⟨h.toNat,by omega⟩
  rw [Int.toNat_natCast]
  by_cases g:(k+1) * 2^i≤L.length
  ·rw [if_neg (by rintro ⟨_,_,e⟩; omega),if_pos ⟨h0,by omega⟩,ff_nat c L i k g,nd_app c L _ i k g]
  ·by_cases g2:(k+1) * 2^i=L.length+1
   ·have hi:i≤64:=by
     apply Nat.le_of_not_lt
     intro hlt
     have h1:2^64≤2^i:=Nat.pow_le_pow_right (by decide) (by omega)
     have h2:2^i≤(k+1) * 2^i:=Nat.le_mul_of_pos_left _ (by omega)
     omega
    have:=(tr_lt 64 i (L.length+1) hi).1
    rw [ht,← g2,Nat.mul_mod_left] at this
    have hit:(i:Int)≤(t:Int):=Int.ofNat_le.2 (Nat.le_of_not_lt fun hx=>this hx rfl)
    rw [if_pos ⟨h0,hit,g2⟩,if_pos ⟨h0,by omega⟩]
   ·rw [if_neg (by rintro ⟨_,_,e⟩; exact g2 e),if_neg (by rintro ⟨_,e⟩; omega),ff_no c L i k g]
 ·rw [if_neg (by rintro ⟨e,_⟩; exact h0 e),if_neg (by rintro ⟨e,_⟩; exact h0 e),ff,if_neg (by rintro ⟨e,_⟩; exact h0 e)]
theorem fj_left (c:Nat) (L:List ByteArray) (x:ByteArray) (j q:Nat) (hq:L.length+1=2^(j+1) * (q+1)):fj c L x j (j:Int) (2 * q)=some (nd c (L++[x]) j (2 * q)):=by
 have hp:=Nat.two_pow_pos j
 rw [Nat.pow_succ,Nat.mul_assoc,Nat.mul_comm] at hq
 have e1:(2 * q+1) * 2^j+2^j=L.length+1:=by
  rw [hq]
  have:2 * (q+1)=2 * q+1+1:=by omega
  rw [this,Nat.add_mul (2 * q+1),Nat.one_mul]
 rw [fj,if_neg,ff_nat c L j (2 * q) (by omega),nd_app c L _ j (2 * q) (by omega)]
 rw [Int.toNat_natCast]
 rintro ⟨_,_,e⟩
 omega
def nw (c:Nat) (M:List ByteArray) (t:Nat):List ByteArray:=(List.range (t+1)).map fun j=>nd c M j (M.length / 2^j - 1)
theorem nw_len (c:Nat) (M:List ByteArray) (t:Nat):(nw c M t).length=t+1:=by simp [nw]
theorem nw_succ (c:Nat) (M:List ByteArray) (t:Nat):nw c M (t+1)=nw c M t++[nd c M (t+1) (M.length / 2^(t+1) - 1)]:=by
 simp [nw,List.range_succ]
theorem nw_zero (c:Nat) (M:List ByteArray):nw c M 0=[nd c M 0 (M.length - 1)]:=by
 simp [nw,List.range_succ]
theorem tr_div {n t j:Nat} (ht:tr 64 n=t) (hj:j≤t) : ∃ q,n=2^j * q:=by
 have h64:=tr_le 64 n
 have h1:=(tr_lt 64 j n (by omega)).2
 have hm:n % 2^j=0:=by
  apply Classical.byContradiction
  intro h
  have:=h1 h
  omega
 exact ⟨n / 2^j,(Nat.mul_div_cancel' (Nat.dvd_of_mod_eq_zero hm)).symm⟩
theorem tr_small {n:Nat} (h1:0<n) (h2:n≤65536):tr 64 n≤16:=by
 apply Nat.le_of_not_lt
 intro h
 obtain ⟨q,hq⟩:=tr_div (n:=n) (t:=tr 64 n) (j:=17) rfl (by omega)
 have:(2:Nat)^17=131072:=by decide
 rw [this] at hq
 omega
theorem dn_peaks (c:Nat) (L:List ByteArray) : ∀ (h lo:Nat),lo=L.length / 2^h * 2^h→(Cv.dnL h lo L.length).map (fun b=>nd c L b.1 b.2)=pks c L h ∧ ∀ b∈Cv.dnL h lo L.length,(b.2+1) * 2^b.1≤L.length
 | 0,lo,_=>⟨rfl,fun b hb=>by cases hb⟩
 | h+1,lo,hlo=>by
  have hp:=Nat.two_pow_pos h
  have e2:2^(h+1)=2 * 2^h:=by rw [Nat.pow_succ,Nat.mul_comm]
  have d1:=Nat.div_add_mod L.length (2^h)
  have d2:=Nat.div_add_mod (L.length / 2^h) 2
  have d3:L.length / 2^(h+1)=L.length / 2^h / 2:=by rw [Nat.pow_succ,Nat.div_div_eq_div_mul]
  have m1:=Nat.mod_lt L.length hp
  rw [d3,e2] at hlo
  generalize hX:L.length / 2^h=X at *
  have hlo2:lo=(2 * (X / 2)) * 2^h:=by rw [hlo,Nat.mul_comm 2 (X / 2),Nat.mul_assoc]
  have e3:2^h * X=X * 2^h:=Nat.mul_comm _ _
  rw [Cv.dnL,show pw h=2^h from rfl]
  by_cases hb:X % 2=1
  ·have hX2:X=2 * (X / 2)+1:=by omega
   have e4:X * 2^h=lo+2^h:=by rw [hlo2]; conv=>lhs; rw [hX2,Nat.add_mul,Nat.one_mul]
   have hlt:2^h≤L.length - lo:=by omega
   have e5:lo / 2^h=2 * (X / 2):=by rw [hlo2,Nat.mul_div_cancel _ hp]
   obtain ⟨r1,r2⟩:=dn_peaks c L h (lo+2^h) (by rw [hX,← e4])
   rw [if_pos hlt,pks_one (by rw [hX]; exact hb),List.map_cons,r1,e5,hX]
   refine ⟨by rw [show X - 1=2 * (X / 2) by omega],fun b hbm => ?_⟩
   rcases List.mem_cons.1 hbm with rfl | hbm
   ·show (2 * (X / 2)+1) * 2^h≤_
    rw [← hX2]; omega
   ·exact r2 b hbm
  ·have hX2:X=2 * (X / 2):=by omega
   have e4:X * 2^h=lo:=by rw [hlo2]; conv=>lhs; rw [hX2]
   have hlt : ¬ 2^h≤L.length - lo:=by omega
   obtain ⟨r1,r2⟩:=dn_peaks c L h lo (by rw [hX,← e4])
   rw [if_neg hlt,pks_none (by rw [hX]; exact hb)]
   exact ⟨r1,r2⟩
theorem cov_peaks (c:Nat) (L:List ByteArray) (n:Nat) (hn:n≤L.length) (h40:n≤2^40):(Cv.cov 0 n).map (fun b=>nd c L b.1 b.2)=pks c (L.take n) 41 ∧ ∀ b∈Cv.cov 0 n,(b.2+1) * 2^b.1≤n:=by
 have hl:(L.take n).length=n:=by rw [List.length_take]; omega
 have hz:0=(L.take n).length / 2^41 * 2^41:=by rw [hl,Nat.div_eq_of_lt (by omega),Nat.zero_mul]
 obtain ⟨r1,r2⟩:=dn_peaks c (L.take n) 41 0 hz
 rw [hl] at r1 r2
 rw [Cv.cov_zero n h40]
 refine ⟨?_,r2⟩
 rw [← r1]
 refine List.map_congr_left fun b hb => ?_
 exact (nd_pre c L n b.1 b.2 (r2 b hb) hn).symm
end Go.Proofs.YtoblgjledefdbaaGreatDoor
namespace Go.Proofs.YtoblgjledefdbaaGreatDoor
def mdL (c:Nat) (L:List ByteArray) (x:ByteArray):List ByteArray:=(List.range (Pl.trl 40 L.length+1)).map fun j=>nd c (L++[x]) j (L.length / 2^j)
def pkL (c:Nat) (L:List ByteArray):List ByteArray:=ol (Kp.gN c L) 41 L.length
theorem pkL_snoc (c:Nat) (L:List ByteArray) (x:ByteArray):ol (Kp.gN c (L++[x])) 41 L.length=pkL c L:=by
 have e:=Kp.pks_ol c (L++[x]) L.length (by simp) 41
 have e2:=Kp.pks_ol c L L.length (Nat.le_refl _) 41
 rw [List.take_left] at e
 rw [List.take_length] at e2
 rw [← e,e2]; rfl
theorem trl_spec : ∀ (f n:Nat),n<2^f→n % 2^Pl.trl f n=2^Pl.trl f n - 1 ∧ ¬ n / 2^Pl.trl f n % 2=1
 | 0,n,h=>by
  obtain rfl:n=0:=by simpa using h
  exact ⟨rfl,by decide⟩
 | f+1,n,h=>by
  by_cases ho:n % 2=1
  ·rw [Pl.trl_step f n ho]
   obtain ⟨i1,i2⟩:=trl_spec f (n / 2) (by rw [Nat.pow_succ] at h; omega)
   have hp:=Nat.two_pow_pos (Pl.trl f (n / 2))
   rw [Nat.pow_succ]
   refine ⟨?_,?_⟩
   ·rw [Nat.mul_comm,Nat.mod_mul,ho,i1]; omega
   ·rw [Nat.mul_comm,← Nat.div_div_eq_div_mul]; exact i2
  ·rw [Pl.trl_none f n ho]
   exact ⟨by simp [Nat.mod_one],by simpa using ho⟩
theorem mdL_len (c:Nat) (L:List ByteArray) (x:ByteArray):(mdL c L x).length=Pl.trl 40 L.length+1:=by simp [mdL]
theorem mdL_sz {c:Nat} (hc:c≤32) (L:List ByteArray) (x:ByteArray) : ∀ d∈mdL c L x,d.size=c:=fun d hd=>by
 obtain ⟨j,_,rfl⟩:=List.mem_map.1 hd
 exact nd_size hc ..
end Go.Proofs.YtoblgjledefdbaaGreatDoor
namespace Go.Proofs.YtoblgjledefdbaaGreatDoor.St.Rc
def PL:BitVec 32:=0x82f63b78#32
def st (c:BitVec 32):BitVec 32:=(c >>> 1) ^^^ (if c.getLsbD 0 then PL else 0#32)
def stN:Nat→BitVec 32→BitVec 32
 | 0,c=>c
 | n+1,c=>st (stN n c)
theorem xor4 (a b c d:BitVec 32):(a ^^^ b) ^^^ (c ^^^ d)=(a ^^^ c) ^^^ (b ^^^ d):=by
 apply BitVec.eq_of_getLsbD_eq
 intro i _
 simp only [BitVec.getLsbD_xor]
 cases a.getLsbD i <;> cases b.getLsbD i <;> cases c.getLsbD i <;> cases d.getLsbD i <;> rfl
theorem xor_zero' (a:BitVec 32):a ^^^ 0#32=a:=BitVec.xor_zero
theorem shr_xor (a b:BitVec 32) (n:Nat):(a ^^^ b) >>> n=(a >>> n) ^^^ (b >>> n):=by
 apply BitVec.eq_of_getLsbD_eq
 intro i _
 simp only [BitVec.getLsbD_xor,BitVec.getLsbD_ushiftRight]
theorem st_xor (a b:BitVec 32):st (a ^^^ b)=st a ^^^ st b:=by
 unfold st
 rw [xor4,shr_xor]
 congr 1
 rw [BitVec.getLsbD_xor]
 cases a.getLsbD 0 <;> cases b.getLsbD 0 <;> simp
theorem stN_xor (n:Nat) (a b:BitVec 32):stN n (a ^^^ b)=stN n a ^^^ stN n b:=by
 induction n with
 | zero=>rfl
 | succ n ih=>simp only [stN,ih,st_xor]
theorem stN_add (m n:Nat) (c:BitVec 32):stN (m+n) c=stN n (stN m c):=by
 induction n with
 | zero=>rfl
 | succ n ih=>rw [← Nat.add_assoc,stN,stN,ih]
theorem shl_shr (x:BitVec 32) (h:x.getLsbD 31=false):(x <<< 1) >>> 1=x:=by
 apply BitVec.eq_of_getLsbD_eq
 intro i hi
 rw [BitVec.getLsbD_ushiftRight,BitVec.getLsbD_shiftLeft]
 by_cases h31:i=31
 ·subst h31; rw [h]; rfl
 ·have e:1+i - 1=i:=by omega
  have e2:(1+i<32):=by omega
  simp [e,e2]
def bw (b:UInt8):BitVec 32:=BitVec.ofNat 32 b.toNat
def by8 (c:BitVec 32) (b:UInt8):BitVec 32:=stN 8 (c ^^^ bw b)
def run (c:BitVec 32) (l:List UInt8):BitVec 32:=l.foldl by8 c
theorem run_append (c:BitVec 32) (l m:List UInt8):run c (l++m)=run (run c l) m:=by simp [run]
theorem run_snoc (c:BitVec 32) (l:List UInt8) (b:UInt8):run c (l++[b])=by8 (run c l) b:=by simp [run]
def mor (c:BitVec 32) (l:List UInt8):BitVec 32 := ~~~ (run (~~~ c) l)
theorem mor_nil (c:BitVec 32):mor c []=c:=by simp [mor,run]
theorem mor_append (c:BitVec 32) (l m:List UInt8):mor c (l++m)=mor (mor c l) m:=by simp [mor,run_append]
def TB:List (BitVec 32):=[0x00000000#32,0x105ec76f#32,0x20bd8ede#32,0x30e349b1#32,0x417b1dbc#32,0x5125dad3#32,0x61c69362#32,0x7198540d#32,
 0x82f63b78#32,0x92a8fc17#32,0xa24bb5a6#32,0xb21572c9#32,0xc38d26c4#32,0xd3d3e1ab#32,0xe330a81a#32,0xf36e6f75#32]
theorem tb_low : ∀ n,n<16→TB.getD n 0#32=stN 4 (BitVec.ofNat 32 n):=by decide
theorem st_shl (x:BitVec 32) (h:x.getLsbD 31=false):st (x <<< 1)=x:=by
 have h0:((x <<< 1).getLsbD 0)=false:=by simp
 rw [st,h0,if_neg (by decide),xor_zero',shl_shr x h]
theorem halves (x:BitVec 32):(x >>> 4) ^^^ TB.getD (x.toNat % 16) 0#32=stN 4 x:=by
 have hs : ∀ k,k≤4→stN k ((x >>> 4) <<< 4)=(x >>> 4) <<< (4 - k):=by
  intro k hk
  induction k with
  | zero=>rfl
  | succ k ih =>
   rw [stN,ih (by omega)]
   have e:(x >>> 4) <<< (4 - k)=((x >>> 4) <<< (4 - (k+1))) <<< 1:=by
    rw [← BitVec.shiftLeft_add,show 4 - (k+1)+1=4 - k by omega]
   rw [e,st_shl]
   rw [BitVec.getLsbD_shiftLeft,BitVec.getLsbD_ushiftRight]
   have:x.getLsbD (4+(31 - (4 - (k+1))))=false:=BitVec.getLsbD_of_ge _ _ (by omega)
   rw [this,Bool.and_false]
 have h4:=hs 4 (Nat.le_refl _)
 have hx:x=(x >>> 4) <<< 4 ^^^ BitVec.ofNat 32 (x.toNat % 16):=by
  apply BitVec.eq_of_getLsbD_eq
  intro i hi
  rw [BitVec.getLsbD_xor,BitVec.getLsbD_shiftLeft,BitVec.getLsbD_ushiftRight,BitVec.getLsbD_ofNat,show (16:Nat)=2^4 from rfl,Nat.testBit_mod_two_pow]
  by_cases h:i<4
  ·simp [h,hi,BitVec.getLsbD]
  ·have:4+(i - 4)=i:=by omega
   simp [h,hi,this]
 rw [tb_low _ (Nat.mod_lt _ (by decide))]
 conv=>rhs; rw [hx]
 rw [stN_xor,h4,Nat.sub_self,BitVec.shiftLeft_zero]
end Go.Proofs.YtoblgjledefdbaaGreatDoor.St.Rc
namespace Go.Proofs.YtoblgjledefdbaaGreatDoor.St.Rc
open Go.RowKit
attribute [local go_sem ↓] Go.wp_at_zero Go.wp_at_succ
def cW (l:List (BitVec 32)):List Value:=l.map fun c=>Value.int .u32 (c.toNat:Int)
def tabO:Obj := .cells (cW TB).toArray 419
theorem range_new (w:World) (cs:List Value) (t:TypeId):(w.alloc (.cells cs.toArray t)).rangeAt w.heap.size 0 cs:=fun j v hv=>by
 rw [Nat.zero_add,World.cell?_alloc_new]
 simpa using hv
theorem tab_cell (w:World) (n:Nat) (hn:n<16):(w.alloc tabO).cell? ⟨w.heap.size,n,none⟩=some (.int .u32 ((TB.getD n 0#32).toNat:Int)):=by
 have hl:n<TB.length:=hn
 have:=range_new w (cW TB) 419 n (.int .u32 ((TB.getD n 0#32).toNat:Int)) (by simp [cW,List.getElem?_eq_getElem hl,List.getD_eq_getElem?_getD])
 rwa [Nat.zero_add] at this
theorem xor32 (a b:BitVec 32):bits .xor .u32 (a.toNat:Int) (b.toNat:Int)=((a ^^^ b).toNat:Int):=by
 rw [u32_xor_nat _ _ a.isLt b.isLt,BitVec.toNat_xor]
theorem not32 (a:BitVec 32):bits .xor .u32 IntKind.u32.max (a.toNat:Int)=((~~~ a).toNat:Int):=by
 have e:IntKind.u32.max=((BitVec.allOnes 32).toNat:Int):=by decide
 rw [e,xor32,BitVec.allOnes_xor]
theorem byte32 (a:BitVec 32) (b:UInt8):bits .xor .u32 (a.toNat:Int) ((b.toNat:Int) % 4294967296)=((a ^^^ bw b).toNat:Int):=by
 have hb:b.toNat<256:=b.toNat_lt
 have e:(b.toNat:Int) % 4294967296=((bw b).toNat:Int):=by
  rw [bw,BitVec.toNat_ofNat,Nat.mod_eq_of_lt (by omega)]; omega
 rw [e,xor32]
theorem half (X:BitVec 32) : ∃ q n t y:Nat,(X.toNat:Int) / 16=(q:Int)∧bits .and .u32 (X.toNat:Int) 15=(n:Int)∧n<16∧(TB.getD n 0#32).toNat=t∧bits .xor .u32 (q:Int) (t:Int)=(y:Int)∧y=(stN 4 X).toNat:=by
 refine ⟨X.toNat / 16,X.toNat % 16,_,_,by omega,?_,Nat.mod_lt _ (by decide),rfl,?_,rfl⟩
 ·have:=u32_and_nat X.toNat 15 X.isLt (by decide)
  rw [show ((15:Nat):Int)=15 from rfl] at this
  rw [this]
  have:X.toNat &&& 15=X.toNat % 2^4:=Nat.and_two_pow_sub_one_eq_mod _ 4
  rw [this]
 ·have e:X.toNat / 16=(X >>> 4).toNat:=by rw [BitVec.toNat_ushiftRight,Nat.shiftRight_eq_div_pow]
  rw [e,xor32,halves]
theorem take_step (s:ByteArray) (k:Nat) (hk:k<s.size):s.data.toList.take (k+1)=s.data.toList.take k++[s[k]]:=by
 rw [List.take_succ_eq_append_getElem (by simpa using hk)]
 rfl
set_option maxRecDepth 100000 in
theorem more_any (w:World) (c:BitVec 32) (s:ByteArray) (hs:s.size≤9223372036854775807) :
  Calls Tryz.prog 342 #[.int .u32 (c.toNat:Int),.string s] w fun e w'=>e = .returned (.int .u32 ((mor c s.data.toList).toNat:Int))∧w'=w.alloc tabO:=by
 have HN:Hid (bits .xor .u32 IntKind.u32.max (c.toNat:Int)=((~~~ c).toNat:Int)):=not32 c
 go_enter Tryz.func342,Tryz.ntmps342
 go_wp2
 go_loopg [6,13] s.size (fun g x i wr=>w.alloc tabO=wr ∧ ∃ (k m:Nat),k≤s.size∧g=s.size - k∧x = .int .u32 (m:Int)∧i = .int .i64 k∧Hid (m=(run (~~~ c) (s.data.toList.take k)).toNat))
 case atStart =>
  go_light
  exact ⟨rfl,0,(~~~ c).toNat,Nat.zero_le _,rfl,by rw [HN.out],rfl,rfl⟩
 case round =>
  obtain ⟨rfl,k,d,hk,rfl,rfl,rfl,HD⟩:=hrel
  by_cases hlt:k<s.size
  ·have hz:(k:Int)<(s.size:Int):=by omega
   have e0:=byte32 (run (~~~ c) (s.data.toList.take k)) s[k]
   rw [← HD.out] at e0
   obtain ⟨q,n,t,y,e1,e2,hn,ht,e3,hy⟩:=half (run (~~~ c) (s.data.toList.take k) ^^^ bw s[k])
   obtain ⟨q',n',t',y',e1',e2',hn',ht',e3',hy'⟩:=half (stN 4 (run (~~~ c) (s.data.toList.take k) ^^^ bw s[k]))
   have HY:Hid (y'=(run (~~~ c) (s.data.toList.take (k+1))).toNat):=by
    show _=_
    rw [hy',take_step s k hlt,run_snoc,by8,← stN_add]
   rw [← hy] at e1' e2'
   have c1:=tab_cell w n hn
   have c2:=tab_cell w n' hn'
   rw [ht] at c1
   rw [ht'] at c2
   have n0:(0:Int)≤(n:Int):=Int.natCast_nonneg _
   have n1:(n:Int)<16:=by omega
   have n0':(0:Int)≤(n':Int):=Int.natCast_nonneg _
   have n1':(n':Int)<16:=by omega
   generalize (run (~~~ c) (s.data.toList.take k) ^^^ bw s[k]).toNat=x at e0 e1 e2
   clear hy hy' ht ht' HD hn hn'
   go_wp2
   go_roundg (s.size - (k+1))
   case rel =>
    go_light
    exact ⟨rfl,k+1,y',by omega,rfl,rfl,by go_num,HY.out⟩
   case measure=>go_light; omega
  ·obtain rfl:k=s.size:=by omega
   have hz : ¬ (s.size:Int)<(s.size:Int):=by omega
   have e0:=not32 (run (~~~ c) (s.data.toList.take s.size))
   rw [← HD.out] at e0
   have HE:Hid ((~~~ (run (~~~ c) (s.data.toList.take s.size))).toNat=(mor c s.data.toList).toNat):=by
    show _=_
    rw [List.take_of_length_le (by simp),mor]
   generalize (~~~ (run (~~~ c) (s.data.toList.take s.size))).toNat=x at e0 HE
   clear HD
   go_wp2
   go_ret
   exact ⟨by rw [HE.out]; rfl,rfl⟩
theorem bnext {w W w2:World} (h:Below w.heap.size w W) (h2:Below W.heap.size W w2):Below w.heap.size w w2:=h.trans (h2.mono h.size)
theorem bal {w W:World} (h:Below w.heap.size w W) (o:Obj):Below w.heap.size w (W.alloc o):=h.alloc h.size o
theorem below_drewN {B:Nat} {a w:World} (h:Below B a w) (n:Nat):Below B a (w.drewN n):=⟨h.os,h.tape,h.output,h.size,h.block⟩
theorem range_lt {w:World} {b o:Nat} {cs:List Value} (h:w.rangeAt b o cs) (hc:cs≠[]):b<w.heap.size:=by
 obtain ⟨v,r,rfl⟩:=List.exists_cons_of_ne_nil hc
 have:=h 0 v rfl
 exact World.block_lt_of_cell? _ _ this
theorem range_below {B:Nat} {a w:World} (hb:Below B a w) {b o:Nat} {cs:List Value} (hlt:b<B) (h:a.rangeAt b o cs):w.rangeAt b o cs:=fun j v hv=>by
 rw [hb.cell (p:=⟨b,o+j,none⟩) hlt]; exact h j v hv
theorem more_m (w:World) (c:BitVec 32) (m:Nat) (hm:m=c.toNat) (s:ByteArray) (hs:s.size≤9223372036854775807) :
  Calls Tryz.prog 342 #[.int .u32 (m:Int),.string s] w fun e w'=>e = .returned (.int .u32 ((mor c s.data.toList).toNat:Int))∧Below w.heap.size w w':=by
 subst hm
 refine (more_any w c s hs).mono ?_
 rintro e w' ⟨rfl,rfl⟩
 exact ⟨rfl,(Below.refl _ _).alloc (Nat.le_refl _) _⟩
def flat (ss:List ByteArray):List UInt8:=ss.flatMap fun s=>s.data.toList
def sumL (ss:List ByteArray):BitVec 32:=mor 0#32 (flat ss)
theorem flat_snoc (ss:List ByteArray) (k:Nat) (hk:k<ss.length):flat (ss.take (k+1))=flat (ss.take k)++(ss.getD k ByteArray.empty).data.toList:=by
 have e:ss.getD k ByteArray.empty=ss[k]:=by rw [List.getD_eq_getElem?_getD,List.getElem?_eq_getElem hk]; rfl
 unfold flat
 rw [List.take_succ_eq_append_getElem hk,List.flatMap_append,e]
 simp
structure RdS (w:World) (ao:Option Addr) (b off len:Nat) (ss:List ByteArray):Prop where
 hl:ss.length=len
 ptr:0<len→ao=some ⟨b,off,none⟩
 rng:w.rangeAt b off (ss.map Value.string)
 sz : ∀ s∈ss,s.size≤9223372036854775807
theorem RdS.lt {w:World} {ao:Option Addr} {b off len:Nat} {ss:List ByteArray} (h:RdS w ao b off len ss) (h0:0<len):b<w.heap.size :=
 range_lt h.rng (by intro e; have:=congrArg List.length e; rw [List.length_map,List.length_nil,h.hl] at this; omega)
theorem RdS.next {w W:World} {ao:Option Addr} {b off len B:Nat} {ss:List ByteArray} (h:RdS w ao b off len ss) (hb:Below B w W) (hB:w.heap.size≤B):RdS W ao b off len ss:=by
 refine ⟨h.hl,h.ptr,?_,h.sz⟩
 by_cases h0:0<len
 ·exact range_below hb (Nat.lt_of_lt_of_le (h.lt h0) hB) h.rng
 ·have:ss=[]:=List.length_eq_zero_iff.1 (by rw [h.hl]; omega)
  rw [this]; intro j v hv; cases hv
theorem RdS.at {w:World} {ao:Option Addr} {b off len:Nat} {ss:List ByteArray} (h:RdS w ao b off len ss) {k:Nat} (hk:k<len):w.cell? ⟨b,off+k,none⟩=some (.string (ss.getD k ByteArray.empty)) :=
 h.rng k _ (by have:=h.hl; simp [List.getElem?_eq_getElem (show k<ss.length by omega),List.getD_eq_getElem?_getD])
theorem RdS.szAt {w:World} {ao:Option Addr} {b off len:Nat} {ss:List ByteArray} (h:RdS w ao b off len ss) {k:Nat} (hk:k<len):(ss.getD k ByteArray.empty).size≤9223372036854775807:=by
 have hl:k<ss.length:=by have:=h.hl; omega
 have e:ss.getD k ByteArray.empty=ss[k]:=by rw [List.getD_eq_getElem?_getD,List.getElem?_eq_getElem hl]; rfl
 rw [e]; exact h.sz _ (List.getElem_mem _)
set_option maxRecDepth 100000 in
theorem of_any (w:World) (ao:Option Addr) (b off len cap:Nat) (ss:List ByteArray) (hr:RdS w ao b off len ss) (hmx:len≤9223372036854775807) :
  Calls Tryz.prog 341 #[.slice ao len cap] w fun e w'=>e = .returned (.int .u32 ((sumL ss).toNat:Int))∧Below w.heap.size w w':=by
 go_enter Tryz.func341,Tryz.ntmps341
 go_wp2
 go_loopg [3,8] len (fun g x i wr => ∃ (k m:Nat),k≤len∧g=len - k∧x = .int .u32 (m:Int)∧i = .int .i64 k∧Hid (m=(mor 0#32 (flat (ss.take k))).toNat)∧Below w.heap.size w wr)
 case atStart =>
  go_light
  exact ⟨0,0,Nat.zero_le _,rfl,rfl,rfl,by show _=_; rw [List.take_zero,show flat []=[] from rfl,mor_nil]; rfl,Below.refl _ _⟩
 case round =>
  obtain ⟨k,m,hk,rfl,rfl,rfl,HM,hb⟩:=hrel
  by_cases hlt:k<len
  ·have hz:(k:Int)<(len:Int):=by omega
   obtain rfl:=hr.ptr (by omega)
   have hr':=hr.next hb (Nat.le_refl _)
   have ck:=hr'.at hlt
   have hcall:=more_m wr _ m HM.out (ss.getD k ByteArray.empty) (hr.szAt hlt)
   rw [← mor_append,← flat_snoc ss k (by rw [hr.hl]; exact hlt)] at hcall
   have HB:Hid (∀ w',Below wr.heap.size wr w'→Below w.heap.size w w'):=fun w' h=>bnext hb h
   obtain ⟨y,hy⟩ : ∃ y,y=(mor 0#32 (flat (ss.take (k+1)))).toNat:=⟨_,rfl⟩
   rw [← hy] at hcall
   have HY:Hid (y=(mor 0#32 (flat (ss.take (k+1)))).toNat):=hy
   clear hy HM hb hr hr'
   generalize ss.getD k ByteArray.empty=part at *
   go_wp2_with (go_at_call 342; refine hcall.mono ?_; rintro e w' ⟨rfl,hb'⟩)
   go_roundg (len - (k+1))
   case rel =>
    go_light
    exact ⟨k+1,y,by omega,rfl,rfl,by go_num,HY.out,HB.out _ hb'⟩
   case measure=>go_light; omega
  ·obtain rfl:k=len:=by omega
   have hz : ¬ (k:Int)<(k:Int):=by omega
   have HE:Hid (m=(sumL ss).toNat):=by
    show _=_
    rw [HM.out,sumL,List.take_of_length_le (by rw [hr.hl]; exact Nat.le_refl _)]
   clear HM
   go_wp2
   go_ret
   exact ⟨by rw [← HE.out]; rfl,hb⟩
end Go.Proofs.YtoblgjledefdbaaGreatDoor.St.Rc
