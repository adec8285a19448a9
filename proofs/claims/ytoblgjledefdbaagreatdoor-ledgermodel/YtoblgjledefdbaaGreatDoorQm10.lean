/- Own work. -/
import Derived.Test.YtoblgjledefdbaaGreatDoorQm09
set_option maxRecDepth 100000
set_option maxHeartbeats 1000000
namespace Go.Proofs.YtoblgjledefdbaaGreatDoor
open Go.RowKit
open Go.Proofs.Tryz
namespace St
structure RdL(w:World)(ao:OA)(b off:Nat)(ks:List Bool):Prop where
 ptr:0<ks.length->ao=some ⟨b,off,none⟩
 cell : ∀j,j<ks.length->w.cell? ⟨b,off+j,none⟩=some (.bool (ks.getD j false))
theorem RdL.lt{w:World}{ao:OA}{b off:Nat}{ks:List Bool}(h:RdL w ao b off ks)(h0:0<ks.length):b<w.heap.size:=Ln w _ (h.cell 0 h0)
theorem RdL.same{w W:World}{ao:OA}{b off:Nat}{ks:List Bool}(h:RdL w ao b off ks)(hb:0<ks.length->W.heap[b]? = w.heap[b]?):RdL W ao b off ks :=
 ⟨h.ptr,fun j hj=>(LD (a:=⟨b,off+j,none⟩) (hb (by omega))).trans (h.cell j hj)⟩
theorem RdL.next{w W:World}{ao:OA}{b off:Nat}{ks:List Bool}(h:RdL w ao b off ks)(hb:Below w.heap.size w W):RdL W ao b off ks:=h.same fun h0=>hb.block b (h.lt h0)
theorem JU(w:World)(ao:OA)(b off:Nat):RdL w ao b off []:=⟨fun h=>by simp at h,fun j hj=>by simp at hj⟩
def cat(ks:List Bool)(i:Nat):Nat:=if ks.length=0 then 0 else i % ks.length
theorem Qjo(ks:List Bool)(i:Nat)(h:ks.length≠0):(cat ks i+1) % ks.length=cat ks (i+1):=by
 rw[cat,cat,Le h,Le h];simp
theorem QnT(ks:List Bool)(i:Nat)(h:ks.length≠0):ks.getD (cat ks i) false=ch ks i:=by
 rw[cat,Le h,ch]
def Chs(w:World)(q:Nat)(ao:OA)(kc:Nat)(ks:List Bool)(i:Nat):Prop:=w.heap[q]? = some (.cells #[.slice ao ks.length kc,.int .i64 (cat ks i:Int)] 125 (0,0))
theorem Chs.at{w:World}{q:Nat}{ao:OA}{kc:Nat}{ks:List Bool}{i:Nat}(h:Chs w q ao kc ks i):w.cell? ⟨q,0,none⟩=some (.slice ao ks.length kc)∧w.cell? ⟨q,1,none⟩=some (.int .i64 (cat ks i:Int))∧w.frozen? ⟨q,1,none⟩=false :=
 ⟨by rw[cell_of_row w q 0 _ _ (0,0) h];rfl,by rw[cell_of_row w q 1 _ _ (0,0) h];rfl,frozen_of_row w q 1 _ _ h⟩
theorem Chs.lt{w:World}{q:Nat}{ao:OA}{kc:Nat}{ks:List Bool}{i:Nat}(h:Chs w q ao kc ks i):q<w.heap.size:=(Array.getElem?_eq_some_iff.1 h).1
theorem Chs.same{w W:World}{q:Nat}{ao:OA}{kc:Nat}{ks:List Bool}{i:Nat}(h:Chs w q ao kc ks i)(hb:W.heap[q]? = w.heap[q]?):Chs W q ao kc ks i:=hb.trans h
theorem Qjs{w:World}{q b off:Nat}{ao ao':OA}{kc:Nat}{ks:List Bool}{i:Nat}(h:Chs w q ao kc ks i)(hr:RdL w ao' b off ks)(h0:0<ks.length):b≠q:=by
 rintro rfl;have e:=hr.cell 0 h0;rw[cell_of_row w b (off+0) _ _ (0,0) h] at e
 rcases Ij off 2 with q|q
 ·rcases Ij off 1 with q|q
  ·obtain rfl:off=0:=by omega
   cases e
  ·obtain rfl:off=1:=by omega
   cases e
 ·rw[Array.getElem?_eq_none (by simp;omega)] at e
  cases e
theorem Js(w:World)(q:Nat)(ao:OA)(b off kc:Nat)(ks:List Bool)(i:Nat)(h:Chs w q ao kc ks i)(hr:RdL w ao b off ks)(hl:ks.length<=9223372036854775807)(r:Bool)(hc:ch ks i=r) :
  Calls prog 103 #[.pointer (some ⟨q,0,none⟩)] w fun e w'=>e = .returned (.bool r)∧Chs w' q ao kc ks (i+1)∧Upo (fun x=>x=q) w w':=by
 obtain⟨c0,c1,f1⟩:=h.at;have HH:Hid (Chs w q ao kc ks i):=h
 by_cases hz:ks.length=0
 ·have xC:r=false:=by rw[<-hc,ch,List.length_eq_zero_iff.1 hz];rfl
  subst xC;have z:((ks.length:Int) == 0)=true:=by simp[hz]
  have xD:(ks.length:Int)=0:=by omega
  clear h hr hc
  go_enter func103,ntmps103;go_wp2
  go_ret
  refine⟨rfl,?_,Upo.refl _ _⟩
  have:=HH.out;unfold Chs at this ⊢;rw[this,cat,cat,Lk hz,Lk hz]
 ·have z:((ks.length:Int) == 0)=false:=by simp;intro q;exact hz (by simp[q])
  have xB:cat ks i<ks.length:=by rw[cat,Le hz];exact Ia _ (by omega)
  obtain⟨n,hn⟩:=Ze ks.length;obtain⟨k,hk⟩:=Ze (cat ks i);have ea:=hr.ptr (by omega)
  have cr:=hr.cell (cat ks i) xB;rw[QnT ks i hz,hc] at cr;have ck:=Qjo ks i hz;obtain⟨k2,xA⟩:=Ze (cat ks (i+1));rw[hk,hn] at xB;rw[hk] at cr c1;rw[hk,hn,xA] at ck;rw[hn] at c0 z hl;have HN:Hid (ks.length=n∧cat ks i=k∧cat ks (i+1)=k2):=⟨hn,hk,xA⟩;subst ea;have h1:(0:Int)<=(k:Int):=by omega
  have h2:(k:Int)<(n:Int):=by omega
  have e1:IntKind.i64.wrap ((k:Int)+1)=(k:Int)+1:=by rw[Lr];omega
  have e2:((k:Int)+1).tmod (n:Int)=(k2:Int):=by
   rw[show(k:Int)+1=((k+1:Nat):Int) by omega]
   rw[<-Int.ofNat_tmod,ck]
  have nz : ¬(n:Int)=0:=by omega
  clear hn hk xA ck hz hc hr h hl
  go_enter func103,ntmps103
  go_upto_region 3 with (fail)
  go_region
  all_goals
   go_upto_region 4 with (fail)
   go_region
  all_goals
   go_wp2
   go_ret
   refine⟨rfl,?_,((Upo.refl (fun x=>x=q) w).set q 1 _ (.inl rfl)).drew.drew⟩
   have:=Lp w q 1 _ _ (.int .i64 (k2:Int)) HH.out
   show(w.setCell ⟨q,1,none⟩ (.int .i64 (k2:Int))).heap[q]? = _
   rw[this,HN.out.2.2]
   rfl
structure FR where
 a:OA
 g:Nat
 c:Nat
 b:OA
 h:Nat
 d:Nat
 s:Nat
def fr0:FR:=⟨none,0,0,none,0,0,0⟩
def Y6(f:FV)(r:FR):Value:=fv r.a f.now.length r.c r.b f.syn.length r.d r.s
structure Fil(w:World)(f:FV)(r:FR):Prop where
 now:Rw w r.a r.g r.c f.now
 syn:Rw w r.b r.h r.d f.syn
 s1:r.s<=f.now.length
 s2:r.s<=f.syn.length
 sm:f.syn.take r.s=f.now.take r.s
 ap:r.a=some ⟨r.g,0,none⟩->r.b=some ⟨r.h,0,none⟩->r.g≠r.h
 b1:f.now.length<=268435456
 b2:f.syn.length<=268435456
def Blk(r:FR)(x:Nat):Prop:=(r.a=some ⟨r.g,0,none⟩∧x=r.g)∨(r.b=some ⟨r.h,0,none⟩∧x=r.h)
theorem Fil.same{w W:World}{f:FV}{r:FR}(h:Fil w f r)(hb : ∀x,Blk r x->W.heap[x]? = w.heap[x]?):Fil W f r :=
 ⟨h.now.same fun e=>hb _ (.inl ⟨e,rfl⟩),h.syn.same fun e=>hb _ (.inr ⟨e,rfl⟩),h.s1,h.s2,h.sm,h.ap,h.b1,h.b2⟩
theorem Fil.blk{w:World}{f:FV}{r:FR}(h:Fil w f r){x:Nat}(hx:Blk r x):Ty w x 5:=by
 rcases hx with ⟨e,rfl⟩|⟨e,rfl⟩
 ·exact h.now.ty e
 ·exact h.syn.ty e
theorem QjN(w:World):Fil w fz fr0:=⟨QdV w 0,QdV w 0,La _,La _,rfl,fun e=>(by cases e),Ll _,Ll _⟩
theorem Qjh{x:Nat}(h:Blk fr0 x):False:=by
 rcases h with ⟨e,_⟩|⟨e,_⟩ <;> cases e
structure DV where
 free:Nat
 L:List (List UInt8×FV)
 acts:Nat
 fa:Int
 fk:Int
 ks:List Bool
 down:Bool
def Qh(L:List (List UInt8×FV)):List (List UInt8):=L.map (·.1)
def OO(L:List (List UInt8×FV))(R:List UInt8->FR):List UInt8->Option Value:=fun s=>if s∈Qh L then some (Y6 (Qe L s) (R s)) else none
structure Dk(w:World)(p m:Nat)(R:List UInt8->FR)(ka:OA)(kb ko kc:Nat)(D:DV)(ex:Option (List UInt8)):Prop where
 blk:w.heap[p]? = some (.cells #[.int .i64 (D.free:Int),.map (some m),.int .i64 (D.acts:Int),.int .i64 D.fa,.int .i64 D.fk,.slice ka D.ks.length kc,.bool D.down] 98 (0,0))
 mp:Mv w m (OO D.L R)
 ord:Ord D.L
 fil : ∀s∈Qh D.L,some s≠ex->Fil w (Qe D.L s) (R s)
 low : ∀s∈Qh D.L,∀x,Blk (R s) x->Ty w x 5
 apart : ∀s∈Qh D.L,∀t∈Qh D.L,s≠t -> ∀x,Blk (R s) x->Blk (R t) x->False
 nm : ∀s∈Qh D.L,s.length<=maxLen
 cnt:D.L.length<=1099511627776
 kp:RdL w ka kb ko D.ks
 kt:0<D.ks.length->Ty w kb 4
 kl:D.ks.length<=140737488355328
 fr:D.free<=9223372036854775807
 ac:D.acts<=4611686018427387904
 ft:D.fk=0∨(1<=D.fk∧D.fk<=5∧1<=D.fa∧D.fa<=9223372036854775807)
def YN(p m:Nat)(R:List UInt8->FR)(kb:Nat)(D:DV)(x:Nat):Prop:=x=p∨x=m∨(∃s∈Qh D.L,Blk (R s) x)∨(0<D.ks.length∧x=kb)
section
variable {w W:World} {p m:Nat} {R:List UInt8->FR} {ka:OA} {kb ko kc:Nat} {D:DV} {ex:Option (List UInt8)}
theorem Dk.lt(h:Dk w p m R ka kb ko kc D ex){x:Nat}(hx:YN p m R kb D x):x<w.heap.size:=by
 rcases hx with rfl|rfl|⟨s,hs,hx⟩|⟨h0,rfl⟩
 ·exact(Array.getElem?_eq_some_iff.1 h.blk).1
 ·exact h.mp.lt
 ·exact(h.low s hs x hx).lt
 ·exact(h.kt h0).lt
theorem Dk.same(h:Dk w p m R ka kb ko kc D ex)(hb : ∀x,YN p m R kb D x->W.heap[x]? = w.heap[x]?):Dk W p m R ka kb ko kc D ex :=
 ⟨(hb p (.inl rfl)).trans h.blk,h.mp.same (hb m (.inr (.inl rfl))),h.ord,fun s hs he=>(h.fil s hs he).same fun x hx=>hb x (.inr (.inr (.inl ⟨s,hs,hx⟩))),fun s hs x hx=>(h.low s hs x hx).same (hb x (.inr (.inr (.inl ⟨s,hs,hx⟩)))),h.apart,h.nm,h.cnt,h.kp.same fun h0=>hb kb (.inr (.inr (.inr ⟨h0,rfl⟩))),fun h0=>(h.kt h0).same (hb kb (.inr (.inr (.inr ⟨h0,rfl⟩)))),h.kl,h.fr,h.ac,h.ft⟩
theorem Dk.next(h:Dk w p m R ka kb ko kc D ex)(hb:Below w.heap.size w W):Dk W p m R ka kb ko kc D ex:=h.same fun x hx=>hb.block x (h.lt hx)
theorem Dk.cells(h:Dk w p m R ka kb ko kc D ex):w.cell? ⟨p,0,none⟩=some (.int .i64 (D.free:Int))∧w.cell? ⟨p,1,none⟩=some (.map (some m))∧w.cell? ⟨p,2,none⟩=some (.int .i64 (D.acts:Int))∧w.cell? ⟨p,3,none⟩=some (.int .i64 D.fa)∧w.cell? ⟨p,4,none⟩=some (.int .i64 D.fk)∧w.cell? ⟨p,5,none⟩=some (.slice ka D.ks.length kc)∧w.cell? ⟨p,6,none⟩=some (.bool D.down) :=
 ⟨by rw[cell_of_row w p 0 _ _ (0,0) h.blk];rfl,by rw[cell_of_row w p 1 _ _ (0,0) h.blk];rfl,by rw[cell_of_row w p 2 _ _ (0,0) h.blk];rfl,by rw[cell_of_row w p 3 _ _ (0,0) h.blk];rfl,by rw[cell_of_row w p 4 _ _ (0,0) h.blk];rfl,by rw[cell_of_row w p 5 _ _ (0,0) h.blk];rfl,by rw[cell_of_row w p 6 _ _ (0,0) h.blk];rfl⟩
theorem Dk.frz(h:Dk w p m R ka kb ko kc D ex)(j:Nat):w.frozen? ⟨p,j,none⟩=false:=frozen_of_row w p j _ _ h.blk
theorem Dk.pm(h:Dk w p m R ka kb ko kc D ex):p≠m:=by
 rintro rfl;obtain⟨D0,⟨es,c,h1,_⟩,_⟩:=h.mp;rw[h.blk] at h1
 cases h1
theorem Ty.mv{w:World}{x m:Nat}{T:TypeId}{F:List UInt8->Option Value}(h:Ty w x T)(hm:Mv w m F):x≠m:=by
 rintro rfl;obtain⟨cs,fr,h⟩:=h;obtain⟨D0,⟨es,c,h1,_⟩,_⟩:=hm;rw[h] at h1
 cases h1
theorem Dk.other(h:Dk w p m R ka kb ko kc D ex){x:Nat}(hx:Ty w x 5):x≠p∧x≠m∧(0<D.ks.length->x≠kb) :=
 ⟨hx.ne ⟨_,_,h.blk⟩ (by decide),hx.mv h.mp,fun h0=>hx.ne (h.kt h0) (by decide)⟩
theorem Dk.kbp(h:Dk w p m R ka kb ko kc D ex)(h0:0<D.ks.length):kb≠p∧kb≠m:=⟨(h.kt h0).ne ⟨_,_,h.blk⟩ (by decide),(h.kt h0).mv h.mp⟩
theorem Oj{L:List (List UInt8×FV)}(h:Ord L):(Qh L).Nodup:=by
 refine List.pairwise_map.2 (h.1.imp fun {a b} hlt e => ?_)
 rw[e] at hlt;exact N5 _ hlt
theorem Qbx(L:List (List UInt8×FV))(R:List UInt8->FR)(s:List UInt8):s∈Qh L↔(OO L R s).isSome=true:=by
 unfold OO
 split
 ·simp[*]
 ·simp[*]
theorem Jo{L:List (List UInt8×FV)}(h:Ord L)(s:List UInt8)(f:FV)(t:List UInt8):t∈Qh (QW L s f)↔(if t=s then f.gone=false else t∈Qh L):=by
 have e:=Qan (YI h s f) (s:=t);rw[QP h] at e
 by_cases hts:t=s
 ·subst hts;rw[Lk rfl] at e ⊢
  constructor
  ·intro hm
   cases hg:f.gone
   ·rfl
   ·exact absurd hm (e.1 hg)
  ·intro hg
   rcases Decidable.em (t∈Qh (QW L t f)) with q|q
   ·exact q
   ·rw[e.2 q] at hg;cases hg
 ·rw[Le hts] at e ⊢;have e2:=Qan h (s:=t);rw[e] at e2
  constructor
  ·intro hm
   rcases Decidable.em (t∈Qh L) with q|q
   ·exact q
   ·exact absurd hm (e2.2 q)
  ·intro hm
   rcases Decidable.em (t∈Qh (QW L s f)) with q|q
   ·exact q
   ·exact absurd hm (e2.1 q)
theorem U4{L:List (List UInt8×FV)}(s:List UInt8)(f:FV):(QW L s f).length<=L.length+1:=by
 induction L with
 | nil=>rw[QW];split <;> simp
 | cons q r ih =>
  obtain⟨t,g⟩:=q;rw[QW]
  split
  ·split <;> simp
   omega
  ·split
   ·split <;> simp
   ·simp;omega
theorem Dk.look(h:Dk w p m R ka kb ko kc D ex)(s:BA)(hs:s.size<=maxLen) : ∃r,(∀W,W.heap[m]? = w.heap[m]? -> (Instr.lookup 96 (.map (some m)) (.string s) false).run prog W = .ok (Y6 (Qe D.L s.data.toList) r) W) ∧
  ((s.data.toList∈Qh D.L∧r=R s.data.toList)∨(s.data.toList ∉ Qh D.L∧r=fr0∧Qe D.L s.data.toList=fz)):=by
 have hz : ∀W,(zeroValue 129).run prog W = .ok (Y6 fz fr0) W:=fun W=>by kernel_rfl
 by_cases hm:s.data.toList∈Qh D.L
 ·refine⟨R s.data.toList,fun W hW => ?_,.inl ⟨hm,rfl⟩⟩
  rw[(h.mp.same hW).look underlying96 (hz W) hs,OO,Lk hm,Option.getD_some]
 ·refine⟨fr0,fun W hW => ?_,.inr ⟨hm,rfl,YE hm⟩⟩
  rw[(h.mp.same hW).look underlying96 (hz W) hs,OO,Le hm,Option.getD_none,YE hm]
end
def J5(R:List UInt8->FR)(s:List UInt8)(r:FR):List UInt8->FR:=fun t=>if t=s then r else R t
def Q9(D:DV)(s:List UInt8)(f:FV):DV := { D with L:=QW D.L s f,free:=D.free+(Qe D.L s).now.length - f.now.length }
theorem QeC{L:List (List UInt8×FV)}(h:Ord L)(R:List UInt8->FR)(s:List UInt8)(f:FV)(r:FR):OO (QW L s f) (J5 R s r)=updF (OO L R) s (if f.gone then none else some (Y6 f r)):=by
 funext t
 simp only[OO,updF,Jo h,QP h,J5]
 by_cases e:t=s
 ·simp only[e,if_true]
  cases f.gone <;> simp
 ·simp only[e,if_false]
theorem Dk.put{w W:World}{p m:Nat}{R:List UInt8->FR}{ka:OA}{kb ko kc:Nat}{D:DV}{s:List UInt8}{f:FV}{r:FR}(h:Dk w p m R ka kb ko kc D (some s))(hf:Fil w f r)(hs:s.length<=maxLen)
  (hap : ∀t∈Qh D.L,t≠s -> ∀x,Blk (R t) x->Blk r x->False) (hc:D.L.length<1099511627776) (hfr:D.free+(Qe D.L s).now.length - f.now.length<=9223372036854775807)
  (hblk:W.heap[p]? = some (.cells #[.int .i64 ((D.free+(Qe D.L s).now.length - f.now.length:Nat):Int),.map (some m),.int .i64 (D.acts:Int),.int .i64 D.fa,.int .i64 D.fk,.slice ka D.ks.length kc,.bool D.down] 98 (0,0)))
  (hmp:Mv W m (updF (OO D.L R) s (if f.gone then none else some (Y6 f r)))) (hu:Upo (fun x=>x=p∨x=m) w W):Dk W p m (J5 R s r) ka kb ko kc (Q9 D s f) none:=by
 have kt : ∀x,Ty w x 5->W.heap[x]? = w.heap[x]? := fun x hx=>hu.block x hx.lt (fun e=>by
  obtain⟨h1,h2,_⟩:=h.other hx
  rcases e with e|e
  ·exact h1 e
  ·exact h2 e)
 have kk:0<D.ks.length->W.heap[kb]? = w.heap[kb]? := fun h0=>hu.block kb (h.kt h0).lt (fun e=>by
  obtain⟨h1,h2⟩:=h.kbp h0
  rcases e with e|e
  ·exact h1 e
  ·exact h2 e)
 have xB:Fil W f r:=hf.same fun x hx=>kt x (hf.blk hx)
 have xA : ∀t,t∈Qh (QW D.L s f)->t≠s->t∈Qh D.L:=fun t ht hne=>by
  have:=(Jo h.ord s f t).1 ht
  rwa [Le hne] at this
 refine⟨hblk,by rw[show(Q9 D s f).L=QW D.L s f from rfl,QeC h.ord];exact hmp,YI h.ord s f,fun t ht _ => ?_,fun t ht x hx => ?_,fun t ht u hu' hne x hx hy => ?_,fun t ht => ?_,?_,h.kp.same kk,fun h0=>(h.kt h0).same (kk h0),h.kl,hfr,h.ac,h.ft⟩
 ·show Fil W (Qe (QW D.L s f) t) (J5 R s r t)
  rw[QP h.ord,J5]
  by_cases e:t=s
  ·rw[Lk e,Lk e];exact xB
  ·rw[Le e,Le e];have hk:=xA t ht e;exact(h.fil t hk (fun q=>e (by injection q))).same fun x hx=>kt x (h.low t hk x hx)
 ·simp only[J5] at hx
  by_cases e:t=s
  ·rw[Lk e] at hx;exact xB.blk hx
  ·rw[Le e] at hx;have:=h.low t (xA t ht e) x hx;exact this.same (kt x this)
 ·simp only[J5] at hx hy
  by_cases e:t=s
  ·rw[Lk e] at hx;have e2:u≠s:=fun q=>hne (e.trans q.symm)
   rw[Le e2] at hy;exact hap u (xA u hu' e2) e2 x hy hx
  ·rw[Le e] at hx
   by_cases e2:u=s
   ·rw[Lk e2] at hy;exact hap t (xA t ht e) e x hx hy
   ·rw[Le e2] at hy;exact h.apart t (xA t ht e) u (xA u hu' e2) hne x hx hy
 ·by_cases e:t=s
  ·rw[e];exact hs
  ·exact h.nm t (xA t ht e)
 ·have:=U4 (L:=D.L) s f
  show(QW D.L s f).length<=_
  omega
theorem Qdd(w:World)(u v x:Value):(Instr.field 129 (.agg #[u,v,x]) 0).run prog w = .ok u w:=by kernel_rfl
theorem QgG{w w':World}{ops:Array Oper}{rest:List Oper}{o:Oper}{a:Act}{Q:Exit->Act->World->Prop}(hg:o.guard=none)(x y:Operand)(t u:TypeId)(hop:o.op=Op.call { callee:=Callee.builtin Builtin.delete,args:=#[x,y],argTypes:=#[t,u] })
  {vx vy v':Value} (hx:a.eval x=vx) (hy:a.eval y=vy) (hr:(Builtin.delete_ #[t,u] o.type #[vx,vy]).run prog w = .ok v' w') (hK:wpList prog ops Q rest (a.put o.dst v') w'):wpList prog ops Q (o::rest) a w:=by
 refine wpList_plain hg fun K hK' => ?_
 unfold Oper.wp;simp[execOp,hop,resolve,invoke,builtin,hx,hy,hr,Result.andThen];exact hK' _ _ hK
theorem Un(w:World)(p m:Nat)(R:List UInt8->FR)(ka:OA)(kb ko kc:Nat)(D:DV)(s:BA)(f:FV)(r:FR)(h:Dk w p m R ka kb ko kc D (some s.data.toList))(hf:Fil w f r)(hs:s.size<=maxLen)
  (hap : ∀t∈Qh D.L,t≠s.data.toList -> ∀x,Blk (R t) x->Blk r x->False) (hc:D.L.length<1099511627776) (hfr:D.free+(Qe D.L s.data.toList).now.length<=9223372036854775807) (hle:f.now.length<=D.free+(Qe D.L s.data.toList).now.length) :
  Calls prog 248 #[.pointer (some ⟨p,0,none⟩),.string s,Y6 f r] w fun e w'=>e = .returned (.tuple #[])∧Dk w' p m (J5 R s.data.toList r) ka kb ko kc (Q9 D s.data.toList f) none∧Upo (fun x=>x=p∨x=m) w w':=by
 obtain⟨r0,hl,_⟩:=h.look s hs;obtain⟨N0,xB⟩:=Ze ((Qe D.L s.data.toList).now.length);obtain⟨N,hN⟩:=Ze f.now.length;obtain⟨M,hM⟩:=Ze f.syn.length;obtain⟨M0,xD⟩:=Ze ((Qe D.L s.data.toList).syn.length);obtain⟨F,hF⟩:=Ze D.free;obtain⟨G,hG⟩:=Ze (D.free+(Qe D.L s.data.toList).now.length - f.now.length);have HG:Hid (D.free+(Qe D.L s.data.toList).now.length - f.now.length=G∧(Qe D.L s.data.toList).now.length=N0∧f.now.length=N∧f.syn.length=M):=⟨hG,xB,hN,hM⟩;have HH:Hid (Dk w p m R ka kb ko kc D (some s.data.toList)∧Fil w f r∧(∀t∈Qh D.L,t≠s.data.toList -> ∀x,Blk (R t) x->Blk r x->False)∧D.L.length<1099511627776∧D.free+(Qe D.L s.data.toList).now.length - f.now.length<=9223372036854775807):=⟨h,hf,hap,hc,by omega⟩
 simp only[Y6,fv,xB,xD] at hl;have e1:IntKind.i64.wrap ((N0:Int) - (N:Int))=(N0:Int) - (N:Int):=by
  have:=hf.b1;rw[Lr];omega
 have e2:IntKind.i64.wrap ((F:Int)+((N0:Int) - (N:Int)))=(G:Int):=by rw[Lr];omega
 have hb:Below w.heap.size w (w.alloc (.cells #[.slice r.a N r.c,.slice r.b M r.d,.int .i64 (r.s:Int)] 129)):=bal (Lb _ _) _;have h1:=h.next hb;rw[Y6,fv,hN,hM];obtain⟨ra,rg,rc,rb,rh,rd,rs⟩:=r;simp only at hb h1 ⊢;obtain⟨w1,xF⟩:=Ze (w.alloc (.cells #[.slice ra N rc,.slice rb M rd,.int .i64 (rs:Int)] 129));have k1:w1.heap[w.heap.size]? = some (.cells #[.slice ra N rc,.slice rb M rd,.int .i64 (rs:Int)] 129 (0,0)):=by rw[<-xF];exact Yq _ _
 rw[xF] at hb h1;obtain⟨c0,c1,c2,c3,c4,c5,c6⟩:=h1.cells;have f0:=h1.frz 0;rw[hF] at c0;have xL:=hl w1.drew (hb.block m h.mp.lt);have HW:Hid (w.alloc (.cells #[.slice ra N rc,.slice rb M rd,.int .i64 (rs:Int)] 129)=w1):=xF;have HB:Hid (Below w.heap.size w w1∧Dk w1 p m R ka kb ko kc D (some s.data.toList)∧p≠w.heap.size∧p≠m):=⟨hb,h1,by have:=h.lt (.inl rfl);omega,h.pm⟩
 obtain⟨b0,b1,b2⟩:=Qs k1;have xK:=Qdd;clear h hf hap hc hfr hle hl xB hN hM xD hF hG hb h1 xF
 go_enter func248,ntmps248
 go_upto_region 1 with (fail)
 rw[HW.out]
 go_region
 obtain⟨w2,xG⟩:=Ze ((w1.setCell ⟨p,0,none⟩ (.int .i64 (G:Int))).drew);have xE:Upo (fun x=>x=p) w1 w2:=by rw[<-xG];exact((Upo.refl (fun x=>x=p) w1).set p 0 _ (.inl rfl)).drew
 have j2:w2.heap[p]? = some (.cells #[.int .i64 (G:Int),.map (some m),.int .i64 (D.acts:Int),.int .i64 D.fa,.int .i64 D.fk,.slice ka D.ks.length kc,.bool D.down] 98 (0,0)):=by
  rw[<-xG];exact Lp w1 p 0 _ _ _ HB.out.2.1.blk
 have k2:w2.heap[w.heap.size]? = some (.cells #[.slice ra N rc,.slice rb M rd,.int .i64 (rs:Int)] 129 (0,0)):=(xE.block _ (Array.getElem?_eq_some_iff.1 k1).1 (fun e=>HB.out.2.2.1 e.symm)).trans k1
 have m2:Mv w2 m (OO D.L R):=HB.out.2.1.mp.same (xE.block m HB.out.2.1.mp.lt (fun e=>HB.out.2.2.2 e.symm))
 have xJ:Hid (Upo (fun x=>x=p) w w2):=(Upo.of HB.out.1).trans xE (fun _ _ q=>q)
 rw[xG];clear xG xL c0 c1 c2 c3 c4 c5 c6 f0 b0 b1 b2 k1 e1 e2;obtain⟨b0,b1,b2⟩:=Qs k2;have c1:w2.cell? ⟨p,1,none⟩=some (.map (some m)):=by rw[cell_of_row w2 p 1 _ _ (0,0) j2];rfl
 have J2:Hid (w2.heap[p]? = some (.cells #[.int .i64 (G:Int),.map (some m),.int .i64 (D.acts:Int),.int .i64 D.fa,.int .i64 D.fk,.slice ka D.ks.length kc,.bool D.down] 98 (0,0))∧Mv w2 m (OO D.L R)):=⟨j2,m2⟩;have xC:Hid (∀W,Mv W m (updF (OO D.L R) s.data.toList (if f.gone then none else some (Y6 f ⟨ra,rg,rc,rb,rh,rd,rs⟩)))->w2.grownBy W (some m)->Dk W p m (J5 R s.data.toList ⟨ra,rg,rc,rb,rh,rd,rs⟩) ka kb ko kc (Q9 D s.data.toList f) none∧Upo (fun x=>x=p∨x=m) w W):=fun W hm hg=>by
  have hu:Upo (fun x=>x=p∨x=m) w W:=(xJ.out.mono (T:=fun x=>x=p∨x=m) (fun _ _ q => .inl q)).trans (Upo.grown (S:=fun x=>x=m) hg (fun b e=>by injection e with e;exact e.symm)) (fun _ _ q => .inr q)
  refine⟨HH.out.1.put HH.out.2.1 (by rw[Qb];exact hs) HH.out.2.2.1 HH.out.2.2.2.1 HH.out.2.2.2.2 ?_ hm hu,hu⟩
  rw[HG.out.1];exact(hg.block p (Array.getElem?_eq_some_iff.1 J2.out.1).1 (fun e=>HB.out.2.2.2 (by injection e))).trans J2.out.1
 clear j2 k2 m2 xE
 by_cases hgo:f.gone=true
 ·have xH:=UM.1 hgo;obtain⟨rfl,rfl⟩:N=0∧M=0:=⟨HG.out.2.2.1.symm.trans xH.1,HG.out.2.2.2.symm.trans xH.2⟩;obtain⟨w3,hd,m3,g3⟩:=J2.out.2.drop underlying96 hs 0;have HQ:Hid _:=xC.out w3 (by rw[hgo];exact m3) g3
  clear hgo xH m3 g3
  go_wp2_with (refine QgG (by rfl) _ _ _ _ (by rfl) (by rfl) (by rfl) hd ?_)
  refine Lv (v := .tuple #[]) (by simp[results,results248,go_sem]) rfl ⟨rfl,HQ.out⟩
 ·obtain⟨w3,hd,m3,g3⟩:=(J2.out.2.same (W:=w2.drew) rfl).write underlying96 (Oj HH.out.1.ord) (Qbx D.L R) (by have:=HH.out.2.2.2.1;simp only[Qh,List.length_map];unfold maxLen;omega) hs (Y6 f ⟨ra,rg,rc,rb,rh,rd,rs⟩)
  have xI:f.gone=false:=by simpa using hgo
  have HQ:Hid _:=xC.out w3 (by rw[xI];exact m3) ⟨g3.os,g3.tape,g3.output,g3.size,g3.block⟩
  have xA:(((N:Int) == 0) && ((M:Int) == 0))=false:=by
   have : ¬(N=0∧M=0):=fun e=>hgo (UM.2 ⟨HG.out.2.2.1.trans e.1,HG.out.2.2.2.trans e.2⟩)
   by_cases h1:N=0
   ·have h2:M≠0:=fun e=>this ⟨h1,e⟩
    simp[h1,h2]
   ·simp[h1]
  simp only[Y6,fv,HG.out.2.2.1,HG.out.2.2.2] at hd;clear hgo xI m3 g3
  by_cases xB:N=0
  ·have xD:((M:Int) == 0)=false:=by simpa [xB] using xA
   have xM : ¬((M:Int)=0):=by simpa using xD
   subst xB;clear xA
   go_upto_region 4 with (fail)
   go_region
   all_goals
    go_wp2
    go_end0
    exact⟨rfl,HQ.out⟩
  ·have xN:((N:Int) == 0)=false:=by simpa using xB
   have xO : ¬((N:Int)=0):=by omega
   clear xA xB
   go_upto_region 4 with (fail)
   go_region
   all_goals
    go_wp2
    go_end0
    exact⟨rfl,HQ.out⟩
end St
end Go.Proofs.YtoblgjledefdbaaGreatDoor
