/- Own work. -/
import Derived.BigRegion
import Derived.Test.YtoblgjledefdbaaGreatDoorQf09
namespace Go.Proofs.YtoblgjledefdbaaGreatDoor.St
open Go.RowKit
structure RdL (w:World) (ao:Option Addr) (b off:Nat) (ks:List Bool):Prop where
 ptr:0<ks.length→ao=some ⟨b,off,none⟩
 cell : ∀ j,j<ks.length→w.cell? ⟨b,off+j,none⟩=some (.bool (ks.getD j false))
theorem RdL.lt {w:World} {ao:Option Addr} {b off:Nat} {ks:List Bool} (h:RdL w ao b off ks) (h0:0<ks.length):b<w.heap.size:=World.block_lt_of_cell? w _ (h.cell 0 h0)
theorem RdL.same {w W:World} {ao:Option Addr} {b off:Nat} {ks:List Bool} (h:RdL w ao b off ks) (hb:0<ks.length→W.heap[b]? = w.heap[b]?):RdL W ao b off ks :=
 ⟨h.ptr,fun j hj=>(World.cell?_of_block (a:=⟨b,off+j,none⟩) (hb (by omega))).trans (h.cell j hj)⟩
theorem RdL.next {w W:World} {ao:Option Addr} {b off:Nat} {ks:List Bool} (h:RdL w ao b off ks) (hb:Below w.heap.size w W):RdL W ao b off ks:=h.same fun h0=>hb.block b (h.lt h0)
theorem rdl_nil (w:World) (ao:Option Addr) (b off:Nat):RdL w ao b off []:=⟨fun h=>by simp at h,fun j hj=>by simp at hj⟩
def cat (ks:List Bool) (i:Nat):Nat:=if ks.length=0 then 0 else i % ks.length
theorem cat_next (ks:List Bool) (i:Nat) (h:ks.length≠0):(cat ks i+1) % ks.length=cat ks (i+1):=by
 rw [cat,cat,if_neg h,if_neg h]
 simp
theorem cat_ch (ks:List Bool) (i:Nat) (h:ks.length≠0):ks.getD (cat ks i) false=ch ks i:=by
 rw [cat,if_neg h,ch]
def Chs (w:World) (q:Nat) (ao:Option Addr) (kc:Nat) (ks:List Bool) (i:Nat):Prop:=w.heap[q]? = some (.cells #[.slice ao ks.length kc,.int .i64 (cat ks i:Int)] 125 (0,0))
theorem Chs.at {w:World} {q:Nat} {ao:Option Addr} {kc:Nat} {ks:List Bool} {i:Nat} (h:Chs w q ao kc ks i):w.cell? ⟨q,0,none⟩=some (.slice ao ks.length kc)∧w.cell? ⟨q,1,none⟩=some (.int .i64 (cat ks i:Int))∧w.frozen? ⟨q,1,none⟩=false :=
 ⟨by rw [cell_of_row w q 0 _ _ (0,0) h]; rfl,by rw [cell_of_row w q 1 _ _ (0,0) h]; rfl,frozen_of_row w q 1 _ _ h⟩
theorem Chs.lt {w:World} {q:Nat} {ao:Option Addr} {kc:Nat} {ks:List Bool} {i:Nat} (h:Chs w q ao kc ks i):q<w.heap.size:=(Array.getElem?_eq_some_iff.1 h).1
theorem Chs.same {w W:World} {q:Nat} {ao:Option Addr} {kc:Nat} {ks:List Bool} {i:Nat} (h:Chs w q ao kc ks i) (hb:W.heap[q]? = w.heap[q]?):Chs W q ao kc ks i:=hb.trans h
theorem chs_ne {w:World} {q b off:Nat} {ao ao':Option Addr} {kc:Nat} {ks:List Bool} {i:Nat} (h:Chs w q ao kc ks i) (hr:RdL w ao' b off ks) (h0:0<ks.length):b≠q:=by
 rintro rfl
 have e:=hr.cell 0 h0
 rw [cell_of_row w b (off+0) _ _ (0,0) h] at e
 rcases Nat.lt_or_ge off 2 with q | q
 ·rcases Nat.lt_or_ge off 1 with q | q
  ·obtain rfl:off=0:=by omega
   cases e
  ·obtain rfl:off=1:=by omega
   cases e
 ·rw [Array.getElem?_eq_none (by simp; omega)] at e
  cases e
set_option maxHeartbeats 1000000 in
theorem next_any (w:World) (q:Nat) (ao:Option Addr) (b off kc:Nat) (ks:List Bool) (i:Nat) (h:Chs w q ao kc ks i) (hr:RdL w ao b off ks) (hl:ks.length≤9223372036854775807) (r:Bool) (hc:ch ks i=r) :
  Calls Tryz.prog 103 #[.pointer (some ⟨q,0,none⟩)] w fun e w'=>e = .returned (.bool r)∧Chs w' q ao kc ks (i+1)∧Upo (fun x=>x=q) w w':=by
 obtain ⟨c0,c1,f1⟩:=h.at
 have HH:Hid (Chs w q ao kc ks i):=h
 by_cases hz:ks.length=0
 ·have hr':r=false:=by rw [← hc,ch,List.length_eq_zero_iff.1 hz]; rfl
  subst hr'
  have z:((ks.length:Int) == 0)=true:=by simp [hz]
  have hz2:(ks.length:Int)=0:=by omega
  clear h hr hc
  go_enter Tryz.func103,Tryz.ntmps103
  go_wp2
  go_ret
  refine ⟨rfl,?_,Upo.refl _ _⟩
  have:=HH.out
  unfold Chs at this ⊢
  rw [this,cat,cat,if_pos hz,if_pos hz]
 ·have z:((ks.length:Int) == 0)=false:=by simp; intro q; exact hz (by simp [q])
  have hlt:cat ks i<ks.length:=by rw [cat,if_neg hz]; exact Nat.mod_lt _ (by omega)
  obtain ⟨n,hn⟩ : ∃ n,ks.length=n:=⟨_,rfl⟩
  obtain ⟨k,hk⟩ : ∃ k,cat ks i=k:=⟨_,rfl⟩
  have ea:=hr.ptr (by omega)
  have cr:=hr.cell (cat ks i) hlt
  rw [cat_ch ks i hz,hc] at cr
  have ck:=cat_next ks i hz
  obtain ⟨k2,hk2⟩ : ∃ k2,cat ks (i+1)=k2:=⟨_,rfl⟩
  rw [hk,hn] at hlt
  rw [hk] at cr c1
  rw [hk,hn,hk2] at ck
  rw [hn] at c0 z hl
  have HN:Hid (ks.length=n∧cat ks i=k∧cat ks (i+1)=k2):=⟨hn,hk,hk2⟩
  subst ea
  have h1:(0:Int)≤(k:Int):=by omega
  have h2:(k:Int)<(n:Int):=by omega
  have e1:IntKind.i64.wrap ((k:Int)+1)=(k:Int)+1:=by rw [IntKind.wrap_i64]; omega
  have e2:((k:Int)+1).tmod (n:Int)=(k2:Int):=by
   rw [show (k:Int)+1=((k+1:Nat):Int) by omega]
   rw [← Int.ofNat_tmod,ck]
  have nz : ¬ (n:Int)=0:=by omega
  clear hn hk hk2 ck hz hc hr h hl
  go_enter Tryz.func103,Tryz.ntmps103
  go_upto_region 3 with (fail)
  go_region
  all_goals
   go_upto_region 4 with (fail)
   go_region
  all_goals
   go_wp2
   go_ret
   refine ⟨rfl,?_,((Upo.refl (fun x=>x=q) w).set q 1 _ (.inl rfl)).drew.drew⟩
   have:=heap_setCell_same w q 1 _ _ (.int .i64 (k2:Int)) HH.out
   show (w.setCell ⟨q,1,none⟩ (.int .i64 (k2:Int))).heap[q]? = _
   rw [this,HN.out.2.2]
   rfl
structure FR where
 a:Option Addr
 g:Nat
 c:Nat
 b:Option Addr
 h:Nat
 d:Nat
 s:Nat
def fr0:FR:=⟨none,0,0,none,0,0,0⟩
def fval (f:FV) (r:FR):Value:=fv r.a f.now.length r.c r.b f.syn.length r.d r.s
structure Fil (w:World) (f:FV) (r:FR):Prop where
 now:Rw w r.a r.g r.c f.now
 syn:Rw w r.b r.h r.d f.syn
 s1:r.s≤f.now.length
 s2:r.s≤f.syn.length
 sm:f.syn.take r.s=f.now.take r.s
 ap:r.a=some ⟨r.g,0,none⟩→r.b=some ⟨r.h,0,none⟩→r.g≠r.h
 b1:f.now.length≤268435456
 b2:f.syn.length≤268435456
def Blk (r:FR) (x:Nat):Prop:=(r.a=some ⟨r.g,0,none⟩∧x=r.g)∨(r.b=some ⟨r.h,0,none⟩∧x=r.h)
theorem Fil.same {w W:World} {f:FV} {r:FR} (h:Fil w f r) (hb : ∀ x,Blk r x→W.heap[x]? = w.heap[x]?):Fil W f r :=
 ⟨h.now.same fun e=>hb _ (.inl ⟨e,rfl⟩),h.syn.same fun e=>hb _ (.inr ⟨e,rfl⟩),h.s1,h.s2,h.sm,h.ap,h.b1,h.b2⟩
theorem Fil.blk {w:World} {f:FV} {r:FR} (h:Fil w f r) {x:Nat} (hx:Blk r x):Ty w x 5:=by
 rcases hx with ⟨e,rfl⟩ | ⟨e,rfl⟩
 ·exact h.now.ty e
 ·exact h.syn.ty e
theorem fil_none (w:World):Fil w fz fr0:=⟨rw_nil w 0,rw_nil w 0,Nat.le_refl _,Nat.le_refl _,rfl,fun e=>(by cases e),Nat.zero_le _,Nat.zero_le _⟩
theorem blk_none {x:Nat} (h:Blk fr0 x):False:=by
 rcases h with ⟨e,_⟩ | ⟨e,_⟩ <;> cases e
structure DV where
 free:Nat
 L:List (List UInt8×FV)
 acts:Nat
 fa:Int
 fk:Int
 ks:List Bool
 down:Bool
def keys (L:List (List UInt8×FV)):List (List UInt8):=L.map (·.1)
def mapF (L:List (List UInt8×FV)) (R:List UInt8→FR):List UInt8→Option Value:=fun s=>if s∈keys L then some (fval (fget L s) (R s)) else none
structure Dk (w:World) (p m:Nat) (R:List UInt8→FR) (ka:Option Addr) (kb ko kc:Nat) (D:DV) (ex:Option (List UInt8)):Prop where
 blk:w.heap[p]? = some (.cells #[.int .i64 (D.free:Int),.map (some m),.int .i64 (D.acts:Int),.int .i64 D.fa,.int .i64 D.fk,.slice ka D.ks.length kc,.bool D.down] 98 (0,0))
 mp:Mv w m (mapF D.L R)
 ord:Ord D.L
 fil : ∀ s∈keys D.L,some s≠ex→Fil w (fget D.L s) (R s)
 low : ∀ s∈keys D.L,∀ x,Blk (R s) x→Ty w x 5
 apart : ∀ s∈keys D.L,∀ t∈keys D.L,s≠t → ∀ x,Blk (R s) x→Blk (R t) x→False
 nm : ∀ s∈keys D.L,s.length≤maxLen
 cnt:D.L.length≤1099511627776
 kp:RdL w ka kb ko D.ks
 kt:0<D.ks.length→Ty w kb 4
 kl:D.ks.length≤140737488355328
 fr:D.free≤9223372036854775807
 ac:D.acts≤4611686018427387904
 ft:D.fk=0∨(1≤D.fk∧D.fk≤5∧1≤D.fa∧D.fa≤9223372036854775807)
def Foot (p m:Nat) (R:List UInt8→FR) (kb:Nat) (D:DV) (x:Nat):Prop:=x=p∨x=m∨(∃ s∈keys D.L,Blk (R s) x)∨(0<D.ks.length∧x=kb)
section
variable {w W:World} {p m:Nat} {R:List UInt8→FR} {ka:Option Addr} {kb ko kc:Nat} {D:DV} {ex:Option (List UInt8)}
theorem Dk.lt (h:Dk w p m R ka kb ko kc D ex) {x:Nat} (hx:Foot p m R kb D x):x<w.heap.size:=by
 rcases hx with rfl | rfl | ⟨s,hs,hx⟩ | ⟨h0,rfl⟩
 ·exact (Array.getElem?_eq_some_iff.1 h.blk).1
 ·exact h.mp.lt
 ·exact (h.low s hs x hx).lt
 ·exact (h.kt h0).lt
theorem Dk.same (h:Dk w p m R ka kb ko kc D ex) (hb : ∀ x,Foot p m R kb D x→W.heap[x]? = w.heap[x]?):Dk W p m R ka kb ko kc D ex :=
 ⟨(hb p (.inl rfl)).trans h.blk,h.mp.same (hb m (.inr (.inl rfl))),h.ord,fun s hs he=>(h.fil s hs he).same fun x hx=>hb x (.inr (.inr (.inl ⟨s,hs,hx⟩))),fun s hs x hx=>(h.low s hs x hx).same (hb x (.inr (.inr (.inl ⟨s,hs,hx⟩)))),h.apart,h.nm,h.cnt,h.kp.same fun h0=>hb kb (.inr (.inr (.inr ⟨h0,rfl⟩))),fun h0=>(h.kt h0).same (hb kb (.inr (.inr (.inr ⟨h0,rfl⟩)))),h.kl,h.fr,h.ac,h.ft⟩
theorem Dk.next (h:Dk w p m R ka kb ko kc D ex) (hb:Below w.heap.size w W):Dk W p m R ka kb ko kc D ex:=h.same fun x hx=>hb.block x (h.lt hx)
theorem Dk.cells (h:Dk w p m R ka kb ko kc D ex):w.cell? ⟨p,0,none⟩=some (.int .i64 (D.free:Int))∧w.cell? ⟨p,1,none⟩=some (.map (some m))∧w.cell? ⟨p,2,none⟩=some (.int .i64 (D.acts:Int))∧w.cell? ⟨p,3,none⟩=some (.int .i64 D.fa)∧w.cell? ⟨p,4,none⟩=some (.int .i64 D.fk)∧w.cell? ⟨p,5,none⟩=some (.slice ka D.ks.length kc)∧w.cell? ⟨p,6,none⟩=some (.bool D.down) :=
 ⟨by rw [cell_of_row w p 0 _ _ (0,0) h.blk]; rfl,by rw [cell_of_row w p 1 _ _ (0,0) h.blk]; rfl,by rw [cell_of_row w p 2 _ _ (0,0) h.blk]; rfl,by rw [cell_of_row w p 3 _ _ (0,0) h.blk]; rfl,by rw [cell_of_row w p 4 _ _ (0,0) h.blk]; rfl,by rw [cell_of_row w p 5 _ _ (0,0) h.blk]; rfl,by rw [cell_of_row w p 6 _ _ (0,0) h.blk]; rfl⟩
theorem Dk.frz (h:Dk w p m R ka kb ko kc D ex) (j:Nat):w.frozen? ⟨p,j,none⟩=false:=frozen_of_row w p j _ _ h.blk
theorem Dk.pm (h:Dk w p m R ka kb ko kc D ex):p≠m:=by
 rintro rfl
 obtain ⟨D0,⟨es,c,h1,_⟩,_⟩:=h.mp
 rw [h.blk] at h1
 cases h1
theorem Ty.mv {w:World} {x m:Nat} {T:TypeId} {F:List UInt8→Option Value} (h:Ty w x T) (hm:Mv w m F):x≠m:=by
 rintro rfl
 obtain ⟨cs,fr,h⟩:=h
 obtain ⟨D0,⟨es,c,h1,_⟩,_⟩:=hm
 rw [h] at h1
 cases h1
theorem Dk.other (h:Dk w p m R ka kb ko kc D ex) {x:Nat} (hx:Ty w x 5):x≠p∧x≠m∧(0<D.ks.length→x≠kb) :=
 ⟨hx.ne ⟨_,_,h.blk⟩ (by decide),hx.mv h.mp,fun h0=>hx.ne (h.kt h0) (by decide)⟩
theorem Dk.kbp (h:Dk w p m R ka kb ko kc D ex) (h0:0<D.ks.length):kb≠p∧kb≠m:=⟨(h.kt h0).ne ⟨_,_,h.blk⟩ (by decide),(h.kt h0).mv h.mp⟩
theorem keys_nodup {L:List (List UInt8×FV)} (h:Ord L):(keys L).Nodup:=by
 refine List.pairwise_map.2 (h.1.imp fun {a b} hlt e => ?_)
 rw [e] at hlt
 exact List.lt_irrefl _ hlt
theorem keys_map (L:List (List UInt8×FV)) (R:List UInt8→FR) (s:List UInt8):s∈keys L↔(mapF L R s).isSome=true:=by
 unfold mapF
 split
 ·simp [*]
 ·simp [*]
theorem keys_put {L:List (List UInt8×FV)} (h:Ord L) (s:List UInt8) (f:FV) (t:List UInt8):t∈keys (fput L s f)↔(if t=s then f.gone=false else t∈keys L):=by
 have e:=fget_gone (ord_fput h s f) (s:=t)
 rw [fget_fput h] at e
 by_cases hts:t=s
 ·subst hts
  rw [if_pos rfl] at e ⊢
  constructor
  ·intro hm
   cases hg:f.gone
   ·rfl
   ·exact absurd hm (e.1 hg)
  ·intro hg
   rcases Decidable.em (t∈keys (fput L t f)) with q | q
   ·exact q
   ·rw [e.2 q] at hg; cases hg
 ·rw [if_neg hts] at e ⊢
  have e2:=fget_gone h (s:=t)
  rw [e] at e2
  constructor
  ·intro hm
   rcases Decidable.em (t∈keys L) with q | q
   ·exact q
   ·exact absurd hm (e2.2 q)
  ·intro hm
   rcases Decidable.em (t∈keys (fput L s f)) with q | q
   ·exact q
   ·exact absurd hm (e2.1 q)
theorem len_put {L:List (List UInt8×FV)} (s:List UInt8) (f:FV):(fput L s f).length≤L.length+1:=by
 induction L with
 | nil=>rw [fput]; split <;> simp
 | cons q r ih =>
  obtain ⟨t,g⟩:=q
  rw [fput]
  split
  ·split <;> simp
   omega
  ·split
   ·split <;> simp
   ·simp; omega
theorem Dk.look (h:Dk w p m R ka kb ko kc D ex) (s:ByteArray) (hs:s.size≤maxLen) : ∃ r,(∀ W,W.heap[m]? = w.heap[m]? → (Instr.lookup 96 (.map (some m)) (.string s) false).run Tryz.prog W = .ok (fval (fget D.L s.data.toList) r) W) ∧
  ((s.data.toList∈keys D.L∧r=R s.data.toList)∨(s.data.toList ∉ keys D.L∧r=fr0∧fget D.L s.data.toList=fz)):=by
 have hz : ∀ W,(zeroValue 129).run Tryz.prog W = .ok (fval fz fr0) W:=fun W=>by kernel_rfl
 by_cases hm:s.data.toList∈keys D.L
 ·refine ⟨R s.data.toList,fun W hW => ?_,.inl ⟨hm,rfl⟩⟩
  rw [(h.mp.same hW).look Tryz.underlying96 (hz W) hs,mapF,if_pos hm,Option.getD_some]
 ·refine ⟨fr0,fun W hW => ?_,.inr ⟨hm,rfl,fget_none hm⟩⟩
  rw [(h.mp.same hW).look Tryz.underlying96 (hz W) hs,mapF,if_neg hm,Option.getD_none,fget_none hm]
end
def updR (R:List UInt8→FR) (s:List UInt8) (r:FR):List UInt8→FR:=fun t=>if t=s then r else R t
def dput (D:DV) (s:List UInt8) (f:FV):DV := { D with L:=fput D.L s f,free:=D.free+(fget D.L s).now.length - f.now.length }
theorem mapF_put {L:List (List UInt8×FV)} (h:Ord L) (R:List UInt8→FR) (s:List UInt8) (f:FV) (r:FR):mapF (fput L s f) (updR R s r)=updF (mapF L R) s (if f.gone then none else some (fval f r)):=by
 funext t
 simp only [mapF,updF,keys_put h,fget_fput h,updR]
 by_cases e:t=s
 ·simp only [e,if_true]
  cases f.gone <;> simp
 ·simp only [e,if_false]
theorem Dk.put {w W:World} {p m:Nat} {R:List UInt8→FR} {ka:Option Addr} {kb ko kc:Nat} {D:DV} {s:List UInt8} {f:FV} {r:FR} (h:Dk w p m R ka kb ko kc D (some s)) (hf:Fil w f r) (hs:s.length≤maxLen)
  (hap : ∀ t∈keys D.L,t≠s → ∀ x,Blk (R t) x→Blk r x→False) (hc:D.L.length<1099511627776) (hfr:D.free+(fget D.L s).now.length - f.now.length≤9223372036854775807)
  (hblk:W.heap[p]? = some (.cells #[.int .i64 ((D.free+(fget D.L s).now.length - f.now.length:Nat):Int),.map (some m),.int .i64 (D.acts:Int),.int .i64 D.fa,.int .i64 D.fk,.slice ka D.ks.length kc,.bool D.down] 98 (0,0)))
  (hmp:Mv W m (updF (mapF D.L R) s (if f.gone then none else some (fval f r)))) (hu:Upo (fun x=>x=p∨x=m) w W):Dk W p m (updR R s r) ka kb ko kc (dput D s f) none:=by
 have kt : ∀ x,Ty w x 5→W.heap[x]? = w.heap[x]? := fun x hx=>hu.block x hx.lt (fun e=>by
  obtain ⟨h1,h2,_⟩:=h.other hx
  rcases e with e | e
  ·exact h1 e
  ·exact h2 e)
 have kk:0<D.ks.length→W.heap[kb]? = w.heap[kb]? := fun h0=>hu.block kb (h.kt h0).lt (fun e=>by
  obtain ⟨h1,h2⟩:=h.kbp h0
  rcases e with e | e
  ·exact h1 e
  ·exact h2 e)
 have hfW:Fil W f r:=hf.same fun x hx=>kt x (hf.blk hx)
 have inl : ∀ t,t∈keys (fput D.L s f)→t≠s→t∈keys D.L:=fun t ht hne=>by
  have:=(keys_put h.ord s f t).1 ht
  rwa [if_neg hne] at this
 refine ⟨hblk,by rw [show (dput D s f).L=fput D.L s f from rfl,mapF_put h.ord]; exact hmp,ord_fput h.ord s f,fun t ht _ => ?_,fun t ht x hx => ?_,fun t ht u hu' hne x hx hy => ?_,fun t ht => ?_,?_,h.kp.same kk,fun h0=>(h.kt h0).same (kk h0),h.kl,hfr,h.ac,h.ft⟩
 ·show Fil W (fget (fput D.L s f) t) (updR R s r t)
  rw [fget_fput h.ord,updR]
  by_cases e:t=s
  ·rw [if_pos e,if_pos e]; exact hfW
  ·rw [if_neg e,if_neg e]
   have hk:=inl t ht e
   exact (h.fil t hk (fun q=>e (by injection q))).same fun x hx=>kt x (h.low t hk x hx)
 ·simp only [updR] at hx
  by_cases e:t=s
  ·rw [if_pos e] at hx
   exact hfW.blk hx
  ·rw [if_neg e] at hx
   have:=h.low t (inl t ht e) x hx
   exact this.same (kt x this)
 ·simp only [updR] at hx hy
  by_cases e:t=s
  ·rw [if_pos e] at hx
   have e2:u≠s:=fun q=>hne (e.trans q.symm)
   rw [if_neg e2] at hy
   exact hap u (inl u hu' e2) e2 x hy hx
  ·rw [if_neg e] at hx
   by_cases e2:u=s
   ·rw [if_pos e2] at hy
    exact hap t (inl t ht e) e x hx hy
   ·rw [if_neg e2] at hy
    exact h.apart t (inl t ht e) u (inl u hu' e2) hne x hx hy
 ·by_cases e:t=s
  ·rw [e]; exact hs
  ·exact h.nm t (inl t ht e)
 ·have:=len_put (L:=D.L) s f
  show (fput D.L s f).length≤_
  omega
theorem field_F (w:World) (u v x:Value):(Instr.field 129 (.agg #[u,v,x]) 0).run Tryz.prog w = .ok u w:=by kernel_rfl
theorem wpList_del {w w':World} {ops:Array Oper} {rest:List Oper} {o:Oper} {a:Act} {Q:Exit→Act→World→Prop} (hg:o.guard=none) (x y:Operand) (t u:TypeId) (hop:o.op=Op.call { callee:=Callee.builtin Builtin.delete,args:=#[x,y],argTypes:=#[t,u] })
  {vx vy v':Value} (hx:a.eval x=vx) (hy:a.eval y=vy) (hr:(Builtin.delete_ #[t,u] o.type #[vx,vy]).run Tryz.prog w = .ok v' w') (hK:wpList Tryz.prog ops Q rest (a.put o.dst v') w'):wpList Tryz.prog ops Q (o::rest) a w:=by
 refine wpList_plain hg fun K hK' => ?_
 unfold Oper.wp
 simp [execOp,hop,resolve,invoke,builtin,hx,hy,hr,Result.andThen]
 exact hK' _ _ hK
set_option maxRecDepth 100000 in
set_option maxHeartbeats 1000000 in
theorem put_any (w:World) (p m:Nat) (R:List UInt8→FR) (ka:Option Addr) (kb ko kc:Nat) (D:DV) (s:ByteArray) (f:FV) (r:FR) (h:Dk w p m R ka kb ko kc D (some s.data.toList)) (hf:Fil w f r) (hs:s.size≤maxLen)
  (hap : ∀ t∈keys D.L,t≠s.data.toList → ∀ x,Blk (R t) x→Blk r x→False) (hc:D.L.length<1099511627776) (hfr:D.free+(fget D.L s.data.toList).now.length≤9223372036854775807) (hle:f.now.length≤D.free+(fget D.L s.data.toList).now.length) :
  Calls Tryz.prog 248 #[.pointer (some ⟨p,0,none⟩),.string s,fval f r] w fun e w'=>e = .returned (.tuple #[])∧Dk w' p m (updR R s.data.toList r) ka kb ko kc (dput D s.data.toList f) none∧Upo (fun x=>x=p∨x=m) w w':=by
 obtain ⟨r0,hl,_⟩:=h.look s hs
 obtain ⟨N0,hN0⟩ : ∃ n,(fget D.L s.data.toList).now.length=n:=⟨_,rfl⟩
 obtain ⟨N,hN⟩ : ∃ n,f.now.length=n:=⟨_,rfl⟩
 obtain ⟨M,hM⟩ : ∃ n,f.syn.length=n:=⟨_,rfl⟩
 obtain ⟨M0,hM0⟩ : ∃ n,(fget D.L s.data.toList).syn.length=n:=⟨_,rfl⟩
 obtain ⟨F,hF⟩ : ∃ n,D.free=n:=⟨_,rfl⟩
 obtain ⟨G,hG⟩ : ∃ n,D.free+(fget D.L s.data.toList).now.length - f.now.length=n:=⟨_,rfl⟩
 have HG:Hid (D.free+(fget D.L s.data.toList).now.length - f.now.length=G∧(fget D.L s.data.toList).now.length=N0∧f.now.length=N∧f.syn.length=M):=⟨hG,hN0,hN,hM⟩
 have HH:Hid (Dk w p m R ka kb ko kc D (some s.data.toList)∧Fil w f r∧(∀ t∈keys D.L,t≠s.data.toList → ∀ x,Blk (R t) x→Blk r x→False)∧D.L.length<1099511627776∧D.free+(fget D.L s.data.toList).now.length - f.now.length≤9223372036854775807):=⟨h,hf,hap,hc,by omega⟩
 simp only [fval,fv,hN0,hM0] at hl
 have e1:IntKind.i64.wrap ((N0:Int) - (N:Int))=(N0:Int) - (N:Int):=by
  have:=hf.b1
  rw [IntKind.wrap_i64]; omega
 have e2:IntKind.i64.wrap ((F:Int)+((N0:Int) - (N:Int)))=(G:Int):=by rw [IntKind.wrap_i64]; omega
 have hb:Below w.heap.size w (w.alloc (.cells #[.slice r.a N r.c,.slice r.b M r.d,.int .i64 (r.s:Int)] 129)):=bal (Below.refl _ _) _
 have h1:=h.next hb
 rw [fval,fv,hN,hM]
 obtain ⟨ra,rg,rc,rb,rh,rd,rs⟩:=r
 simp only at hb h1 ⊢
 obtain ⟨w1,hw1⟩ : ∃ W,w.alloc (.cells #[.slice ra N rc,.slice rb M rd,.int .i64 (rs:Int)] 129)=W:=⟨_,rfl⟩
 have k1:w1.heap[w.heap.size]? = some (.cells #[.slice ra N rc,.slice rb M rd,.int .i64 (rs:Int)] 129 (0,0)):=by rw [← hw1]; exact new1 _ _
 rw [hw1] at hb h1
 obtain ⟨c0,c1,c2,c3,c4,c5,c6⟩:=h1.cells
 have f0:=h1.frz 0
 rw [hF] at c0
 have hl1:=hl w1.drew (hb.block m h.mp.lt)
 have HW:Hid (w.alloc (.cells #[.slice ra N rc,.slice rb M rd,.int .i64 (rs:Int)] 129)=w1):=hw1
 have HB:Hid (Below w.heap.size w w1∧Dk w1 p m R ka kb ko kc D (some s.data.toList)∧p≠w.heap.size∧p≠m):=⟨hb,h1,by have:=h.lt (.inl rfl); omega,h.pm⟩
 obtain ⟨b0,b1,b2⟩:=three_at k1
 have hfld:=field_F
 clear h hf hap hc hfr hle hl hN0 hN hM hM0 hF hG hb h1 hw1
 go_enter Tryz.func248,Tryz.ntmps248
 go_upto_region 1 with (fail)
 rw [HW.out]
 go_region
 obtain ⟨w2,hw2⟩ : ∃ W,(w1.setCell ⟨p,0,none⟩ (.int .i64 (G:Int))).drew=W:=⟨_,rfl⟩
 have hu2:Upo (fun x=>x=p) w1 w2:=by rw [← hw2]; exact ((Upo.refl (fun x=>x=p) w1).set p 0 _ (.inl rfl)).drew
 have j2:w2.heap[p]? = some (.cells #[.int .i64 (G:Int),.map (some m),.int .i64 (D.acts:Int),.int .i64 D.fa,.int .i64 D.fk,.slice ka D.ks.length kc,.bool D.down] 98 (0,0)):=by
  rw [← hw2]
  exact heap_setCell_same w1 p 0 _ _ _ HB.out.2.1.blk
 have k2:w2.heap[w.heap.size]? = some (.cells #[.slice ra N rc,.slice rb M rd,.int .i64 (rs:Int)] 129 (0,0)):=(hu2.block _ (Array.getElem?_eq_some_iff.1 k1).1 (fun e=>HB.out.2.2.1 e.symm)).trans k1
 have m2:Mv w2 m (mapF D.L R):=HB.out.2.1.mp.same (hu2.block m HB.out.2.1.mp.lt (fun e=>HB.out.2.2.2 e.symm))
 have HU2:Hid (Upo (fun x=>x=p) w w2):=(Upo.of HB.out.1).trans hu2 (fun _ _ q=>q)
 rw [hw2]
 clear hw2 hl1 c0 c1 c2 c3 c4 c5 c6 f0 b0 b1 b2 k1 e1 e2
 obtain ⟨b0,b1,b2⟩:=three_at k2
 have c1:w2.cell? ⟨p,1,none⟩=some (.map (some m)):=by rw [cell_of_row w2 p 1 _ _ (0,0) j2]; rfl
 have J2:Hid (w2.heap[p]? = some (.cells #[.int .i64 (G:Int),.map (some m),.int .i64 (D.acts:Int),.int .i64 D.fa,.int .i64 D.fk,.slice ka D.ks.length kc,.bool D.down] 98 (0,0))∧Mv w2 m (mapF D.L R)):=⟨j2,m2⟩
 have hfin:Hid (∀ W,Mv W m (updF (mapF D.L R) s.data.toList (if f.gone then none else some (fval f ⟨ra,rg,rc,rb,rh,rd,rs⟩)))→w2.grownBy W (some m)→Dk W p m (updR R s.data.toList ⟨ra,rg,rc,rb,rh,rd,rs⟩) ka kb ko kc (dput D s.data.toList f) none∧Upo (fun x=>x=p∨x=m) w W):=fun W hm hg=>by
  have hu:Upo (fun x=>x=p∨x=m) w W:=(HU2.out.mono (T:=fun x=>x=p∨x=m) (fun _ _ q => .inl q)).trans (Upo.grown (S:=fun x=>x=m) hg (fun b e=>by injection e with e; exact e.symm)) (fun _ _ q => .inr q)
  refine ⟨HH.out.1.put HH.out.2.1 (by rw [size_list]; exact hs) HH.out.2.2.1 HH.out.2.2.2.1 HH.out.2.2.2.2 ?_ hm hu,hu⟩
  rw [HG.out.1]
  exact (hg.block p (Array.getElem?_eq_some_iff.1 J2.out.1).1 (fun e=>HB.out.2.2.2 (by injection e))).trans J2.out.1
 clear j2 k2 m2 hu2
 by_cases hgo:f.gone=true
 ·have hg2:=gone_len.1 hgo
  obtain ⟨rfl,rfl⟩:N=0∧M=0:=⟨HG.out.2.2.1.symm.trans hg2.1,HG.out.2.2.2.symm.trans hg2.2⟩
  obtain ⟨w3,hd,m3,g3⟩:=J2.out.2.drop Tryz.underlying96 hs 0
  have HQ:Hid _:=hfin.out w3 (by rw [hgo]; exact m3) g3
  clear hgo hg2 m3 g3
  go_wp2_with (refine wpList_del (by rfl) _ _ _ _ (by rfl) (by rfl) (by rfl) hd ?_)
  refine bodyPost_ret (v := .tuple #[]) (by simp [results,Tryz.results248,go_sem]) rfl ⟨rfl,HQ.out⟩
 ·obtain ⟨w3,hd,m3,g3⟩:=(J2.out.2.same (W:=w2.drew) rfl).write Tryz.underlying96 (keys_nodup HH.out.1.ord) (keys_map D.L R) (by have:=HH.out.2.2.2.1; simp only [keys,List.length_map]; unfold maxLen; omega) hs (fval f ⟨ra,rg,rc,rb,rh,rd,rs⟩)
  have hg':f.gone=false:=by simpa using hgo
  have HQ:Hid _:=hfin.out w3 (by rw [hg']; exact m3) ⟨g3.os,g3.tape,g3.output,g3.size,g3.block⟩
  have hcond:(((N:Int) == 0) && ((M:Int) == 0))=false:=by
   have : ¬ (N=0∧M=0):=fun e=>hgo (gone_len.2 ⟨HG.out.2.2.1.trans e.1,HG.out.2.2.2.trans e.2⟩)
   by_cases h1:N=0
   ·have h2:M≠0:=fun e=>this ⟨h1,e⟩
    simp [h1,h2]
   ·simp [h1]
  simp only [fval,fv,HG.out.2.2.1,HG.out.2.2.2] at hd
  clear hgo hg' m3 g3
  by_cases hN0:N=0
  ·have hM0:((M:Int) == 0)=false:=by simpa [hN0] using hcond
   have hM1 : ¬ ((M:Int)=0):=by simpa using hM0
   subst hN0
   clear hcond
   go_upto_region 4 with (fail)
   go_region
   all_goals
    go_wp2
    go_end0
    exact ⟨rfl,HQ.out⟩
  ·have hN1:((N:Int) == 0)=false:=by simpa using hN0
   have hN2 : ¬ ((N:Int)=0):=by omega
   clear hcond hN0
   go_upto_region 4 with (fail)
   go_region
   all_goals
    go_wp2
    go_end0
    exact ⟨rfl,HQ.out⟩
end Go.Proofs.YtoblgjledefdbaaGreatDoor.St
