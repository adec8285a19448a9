/- Own work. -/
import Derived.Test.YtoblgjledefdbaaGreatDoorQt04
set_option maxRecDepth 100000
set_option maxHeartbeats 2000000
namespace Go.Proofs.YtoblgjledefdbaaGreatDoor
open Go.RowKit
open Go.Proofs.Tryz
namespace St
def fv(a:OA)(n c:Nat)(b:OA)(m d:Nat)(s:Nat):Value := .agg #[.slice a n c,.slice b m d,.int .i64 s]
theorem QeZ(w:World)(a:OA)(n c:Nat)(b:OA)(m d s k r:Nat)(hk:k<=n)(hc:n<=c)(hr:min s k=r) :
  Zr 249 #[.agg #[.slice a n c,.slice b m d,.int .i64 s],.int .i64 k] w (fv a k c b m d r):=by
 have h1:(0:Int)<=(k:Int):=by omega
 have h2:(k:Int)<=(c:Int):=by omega
 have h3:Hid (min s k=r):=hr;clear hk hc hr
 go_enter func249,ntmps249;go_wp2
 ·have e:k=r:=by have:=h3.out;omega
  subst e;refine LD (v:=fv a k c b m d k) (by simp[results,results249,go_sem,fv]) rfl ⟨rfl,bal (bal (Lb _ _) _) _⟩
 ·have e:s=r:=by have:=h3.out;omega
  subst e;refine LD (v:=fv a k c b m d s) (by simp[results,results249,go_sem,fv]) rfl ⟨rfl,bal (bal (Lb _ _) _) _⟩
def wr(l:List UInt8)(k:Nat)(t:List UInt8):List UInt8:=l.take k++t++l.drop (k+t.length)
theorem Qmq(l:List UInt8)(k:Nat)(t:List UInt8)(hk:k<=l.length)(c:Nat)(hc:min t.length (l.length-k)=c):(l.take k++t.take c++l.drop (k+(t.take c).length))++t.drop c=wr l k t:=by
 unfold wr;have hl:(t.take c).length=c:=by simp;omega
 rw[hl]
 by_cases h:t.length<=l.length-k
 ·have e:c=t.length:=by omega
  subst e;simp
 ·have e1:l.drop (k+c)=[]:=L3 (by omega)
  have e2:l.drop (k+t.length)=[]:=L3 (by omega)
  rw[e1,e2];simp
theorem Qqg(l:List UInt8)(k:Nat)(t:List UInt8)(hk:k<=l.length):(wr l k t).length=max l.length (k+t.length):=by
 simp only[wr,List.length_append,List.length_take,List.length_drop];omega
theorem QeG{w:World}{a:OA}{g c k n:Nat}{l:List UInt8}(h:Rw w a g c l)(hk:k<=l.length){ax:OA}(hx:(if c=k then a else a.map (·.add k))=ax)(hn:l.length=n):(ax=a∨ax=a.map (·.add k))∧(ax=a->k=0∨n-k=0):=by
 have:=h.le
 by_cases e:c=k
 ·rw[Lf e] at hx;exact⟨.inl hx.symm,fun _=> .inr (by omega)⟩
 ·rw[Le e] at hx;refine⟨.inr hx.symm,fun q=> ?_⟩
  rw[<-hx] at q
  rcases h.ptr with p|p
  ·have:=h.empty p;rw[this] at hn;exact .inr (by simp at hn;omega)
  ·rw[p,N7,Addr.add_mid,Ll] at q;injection q with q
   injection q with _ q _
   exact .inl q
theorem Qb0(w:World)(a:OA)(g n c:Nat)(l:List UInt8)(b:OA)(m d s k r:Nat)(t:BA)(h:Rw w a g c l)(hn:l.length=n)(hk:k<=n)(hr:min s k=r)(hl:n+t.size<=140737488355328) :
  Calls prog 344 #[.agg #[.slice a n c,.slice b m d,.int .i64 s],.int .i64 k,.string t] w fun e w'=> ∃a' g' c',e= .returned (fv a' (wr l k t.data.toList).length c' b m d r)∧Rw w' a' g' c' (wr l k t.data.toList)∧Upo (fun b=>a=Zp g∧b=g) w w'∧((a'=a∧g'=g)∨(w.heap.size<=g'∧g'<w'.heap.size))∧(a=Zp g->Ty w' g 5):=by
 have h1:(0:Int)<=(k:Int):=by omega
 have h2:(k:Int)<=(n:Int):=by omega
 have h3:Hid (min s k=r):=hr;obtain⟨ax,hx⟩:=Ze (if c=k then a else a.map (·.add k))
 obtain⟨cc,xE⟩:=Ze (Nat.min t.size (n-k));have xH:=QeG h (by omega) hx hn
 have HC:=fun(W:World) (hW:Rw W a g c l) (ty:TypeId)=>QcL (n:=n-k) W ty (by omega) hW xH.1 xH.2 xE (c-k)
 have HH:Hid (Rw w a g c l):=h;clear hr h xH
 go_enter func344,ntmps344;have r1:Rw ((w.alloc (.cells #[.slice a n c,.slice b m d,.int .i64 s] 129)).alloc (.cells #[.slice none 0 0,.slice none 0 0,.int .i64 0] 129)) a g c l:=HH.out.next (bal (bal (Lb _ _) _) _) (La _);have xN:=fun ty=>HC _ r1 ty
 clear HC r1
 go_upto_region 2 with (fail)
 obtain⟨w1,xB⟩:=Ze ((w.alloc (.cells #[.slice a n c,.slice b m d,.int .i64 s] 129)).alloc (.cells #[.slice none 0 0,.slice none 0 0,.int .i64 0] 129));have xD:Bl w w1:=by rw[<-xB];exact bal (bal (Lb _ _) _) _
 have xS:w1.heap.size=w.heap.size+2:=by rw[<-xB];simp
 have k1:w1.heap[w.heap.size]? = some (.cells #[.slice a n c,.slice b m d,.int .i64 s] 129 (0,0)):=by rw[<-xB];exact new0 _ _ _
 have k2:w1.heap[w.heap.size+1]? = some (.cells #[.slice none 0 0,.slice none 0 0,.int .i64 0] 129 (0,0)):=by rw[<-xB];exact new2 _ _ _
 rw[xB];clear xB xN;have r1:Rw w1 a g c l:=HH.out.next xD (La _);have xI:cc<=t.size∧cc<=n-k∧min t.size (n-k)=cc:=⟨by rw[<-xE];exact IU _ _,by rw[<-xE];exact Wb _ _,xE⟩
 have q0:(0:Int)<=(cc:Int):=by omega
 have q1:(cc:Int)<=(t.size:Int):=by omega
 have xK:(t.data.toList.take cc).length=cc:=by rw[Lx,Qb];omega
 have r2:=r1.over k (t.data.toList.take cc) (by omega)
 have hu:Upo (fun b=>a=Zp g∧b=g) w (w1.setCells g k (cY (t.data.toList.take cc)))∧Upo (fun b=>a=Zp g∧b=g) w1 (w1.setCells g k (cY (t.data.toList.take cc))):=by
  rcases r1.ptr with e|e
  ·have:t.data.toList.take cc=[]:=List.length_eq_zero_iff.1 (by rw[xK];have:=r1.empty e;rw[this] at hn;simp at hn;omega)
   rw[this];exact⟨Upo.of xD,Upo.refl _ _⟩
  ·exact⟨Ui (.inl ⟨e,rfl⟩) _ _ _ (Upo.of xD),Ui (.inl ⟨e,rfl⟩) _ _ _ (Upo.refl _ _)⟩
 obtain⟨w2,xM⟩:=Ze (w1.setCells g k (cY (t.data.toList.take cc)));rw[xM] at r2 hu ⊢;clear xM;have ng:a=Zp g->g<w.heap.size:=fun e=>(HH.out.ty e).lt
 have j1:w2.heap[w.heap.size]? = _:=(hu.2.block _ (by omega) (fun q=>by have:=ng q.1;omega)).trans k1
 have j2:w2.heap[w.heap.size+1]? = _:=(hu.2.block _ (by omega) (fun q=>by have:=ng q.1;omega)).trans k2
 obtain⟨t2,xL⟩:=Ze (t.extract cc t.size);have e2:t2.data.toList=t.data.toList.drop cc:=by rw[<-xL];exact UZ t cc
 have r3:Rw w2.drew a g c _:=r2.same (fun _=>rfl)
 have xJ:(l.take k++t.data.toList.take cc++l.drop (k+(t.data.toList.take cc).length)).length=n:=by simp only[List.length_append,List.length_take,List.length_drop,Qb];omega
 obtain⟨a',g',c',w3,hr,r4,u3,xA,xG⟩:=r3.app 9 127 (.string t2) t2.data.toList (Ql0 _ t2) (by rw[xJ,e2,Ni,Qb];omega)
 rw[xJ] at hr;rw[e2,Qmq l k t.data.toList (by omega) cc (by rw[Qb];omega)] at hr r4
 obtain⟨N,hN⟩:=Ze ((wr l k t.data.toList).length);rw[hN] at hr;have HN:Hid ((wr l k t.data.toList).length=N):=hN;have xP:w2.cell? ⟨w.heap.size,0,none⟩=some (.slice a n c):=by rw[cell_of_row w2 w.heap.size 0 _ _ (0,0) j1];rfl
 have y1:w3.heap[w.heap.size]? = _:=(u3.block _ (by have:=hu.2.size;show _<w2.heap.size;omega) (fun q=>by have:=ng q.1;omega)).trans j1
 have xQ:w3.frozen? ⟨w.heap.size,0,none⟩=false:=frozen_of_row w3 w.heap.size 0 _ _ y1;have xR:w3.cell? ⟨w.heap.size,0,none⟩=some (.slice a n c):=by rw[cell_of_row w3 w.heap.size 0 _ _ (0,0) y1];rfl
 have y2:w3.heap[w.heap.size+1]? = _:=(u3.block _ (by have:=hu.2.size;show _<w2.heap.size;omega) (fun q=>by have:=ng q.1;omega)).trans j2
 have z1:(w3.setCell ⟨w.heap.size,0,none⟩ (.slice a' N c')).heap[w.heap.size]? = some (.cells #[.slice a' N c',.slice b m d,.int .i64 s] 129 (0,0)):=Lm w3 w.heap.size 0 _ _ _ y1;have z2:(w3.setCell ⟨w.heap.size,0,none⟩ (.slice a' N c')).heap[w.heap.size+1]? = _:=(Below.heap_setCell _ _ _ _ (by simp)).trans y2
 have HF:Hid (Rw w3 a' g' c' (wr l k t.data.toList)∧Upo (fun b=>a=Zp g∧b=g) w w3∧((a'=a∧g'=g)∨(w2.heap.size<=g'∧g'<w3.heap.size))∧w.heap.size+2<=w2.heap.size∧(a=Zp g->g<w.heap.size)∧(a=Zp g->Ty w3 g 5)):=⟨r4,hu.1.trans (show Upo _ w2 w3 from⟨u3.os,u3.tape,u3.output,u3.size,u3.block⟩) (fun _ _ q=>q),xA.imp id (fun q=>⟨NE q.1.symm,q.2⟩),by have:=hu.2.size;omega,ng,xG⟩
 clear r4 hu u3 xA xG ng r1 r2 r3 k1 k2 j1 j2 hN xJ e2 HH xI xK xD xS
 go_region_law (first
  | (refine QfT (by rfl) _ _ _ _ (by rfl) (by rfl) (by rfl) hr ?_))
 obtain⟨w4,xF⟩:=Ze (w3.setCell ⟨w.heap.size,0,none⟩ (.slice a' N c'));have xO:Hid (w3.setCell ⟨w.heap.size,0,none⟩ (.slice a' N c')=w4):=xF;rw[xF] at z1 z2;have b0:w4.cell? ⟨w.heap.size,0,none⟩=some (.slice a' N c'):=by rw[cell_of_row w4 w.heap.size 0 _ _ (0,0) z1];rfl
 have b1:w4.cell? ⟨w.heap.size,1,none⟩=some (.slice b m d):=by rw[cell_of_row w4 w.heap.size 1 _ _ (0,0) z1];rfl
 have b2:w4.cell? ⟨w.heap.size,2,none⟩=some (.int .i64 s):=by rw[cell_of_row w4 w.heap.size 2 _ _ (0,0) z1];rfl
 have fz:=fun j=>frozen_of_row w4 w.heap.size j _ _ z1
 have fy:=fun j=>frozen_of_row w4 (w.heap.size+1) j _ _ z2
 have d0:w4.cell? ⟨w.heap.size+1,0,none⟩=some (.slice none 0 0):=by rw[cell_of_row w4 (w.heap.size+1) 0 _ _ (0,0) z2];rfl
 have d1:w4.cell? ⟨w.heap.size+1,1,none⟩=some (.slice none 0 0):=by rw[cell_of_row w4 (w.heap.size+1) 1 _ _ (0,0) z2];rfl
 have d2:w4.cell? ⟨w.heap.size+1,2,none⟩=some (.int .i64 0):=by rw[cell_of_row w4 (w.heap.size+1) 2 _ _ (0,0) z2];rfl
 rw[xF];clear xF z1 xR xQ xP y1 y2 hr hx xL;have Z2:Hid (w4.heap[w.heap.size+1]? = some (.cells #[.slice none 0 0,.slice none 0 0,.int .i64 0] 129 (0,0))):=z2;have HE:∀x:Nat,Hid (∀w5:World,(((w4.setCell ⟨w.heap.size,2,none⟩ (.int .i64 x)).setCell ⟨w.heap.size+1,0,none⟩ (.slice a' N c')).setCell ⟨w.heap.size+1,1,none⟩ (.slice b m d)).setCell ⟨w.heap.size+1,2,none⟩ (.int .i64 x)=w5->(w5.cell? ⟨w.heap.size+1,0,none⟩=some (.slice a' N c')∧w5.cell? ⟨w.heap.size+1,1,none⟩=some (.slice b m d)∧w5.cell? ⟨w.heap.size+1,2,none⟩=some (.int .i64 x))∧Rw w5 a' g' c' (wr l k t.data.toList)∧Upo (fun b=>a=Zp g∧b=g) w w5∧((a'=a∧g'=g)∨(w.heap.size<=g'∧g'<w5.heap.size))∧(a=Zp g->Ty w5 g 5)):=fun x w5 h5=>by
  obtain⟨r4,u4,xA,hz,ng,xG⟩:=HF.out;have q:=Qp (QaC ((Below.heap_setCell w4 ⟨w.heap.size,2,none⟩ (.int .i64 x) (w.heap.size+1) (by simp)).trans Z2.out) (.slice a' N c') (.slice b m d) (.int .i64 x))
  subst h5;refine⟨q,?_⟩
  rw[<-xO.out];have n1:a'=Zp g'->g'≠w.heap.size∧g'≠w.heap.size+1:=fun e=>by
   rcases xA with ⟨q1,q2⟩|q
   ·have:=ng (by rw[<-q1,e,q2]);omega
   ·omega
  exact⟨((((r4.off _ _ fun e=>(n1 e).1).off _ _ fun e=>(n1 e).1).off _ _ fun e=>(n1 e).2).off _ _ fun e=>(n1 e).2).off _ _ fun e=>(n1 e).2,((((u4.set _ _ _ (.inr (by omega))).set _ _ _ (.inr (by omega))).set _ _ _ (.inr (by omega))).set _ _ _ (.inr (by omega))).set _ _ _ (.inr (by omega)),xA.imp id fun q=>⟨by omega,by simpa using q.2⟩,fun e=>(((((xG e).set _ _ _).set _ _ _).set _ _ _).set _ _ _).set _ _ _⟩
 clear z2;go_wp2
 ·have e:k=r:=by have:=h3.out;omega
  subst e;obtain⟨w5,xC⟩:=Ze ((((w4.setCell ⟨w.heap.size,2,none⟩ (.int .i64 k)).setCell ⟨w.heap.size+1,0,none⟩ (.slice a' N c')).setCell ⟨w.heap.size+1,1,none⟩ (.slice b m d)).setCell ⟨w.heap.size+1,2,none⟩ (.int .i64 k));obtain⟨⟨s0,s1,s2⟩,q⟩:=(HE k).out w5 xC;rw[xC];refine LD (v:=fv a' N c' b m d k) (by simp[results,results344,go_sem,fv,s0,s1,s2]) rfl ⟨a',g',c',by rw[HN.out],q⟩
 ·have e:s=r:=by have:=h3.out;omega
  subst e;obtain⟨w5,xC⟩:=Ze ((((w4.setCell ⟨w.heap.size,2,none⟩ (.int .i64 s)).setCell ⟨w.heap.size+1,0,none⟩ (.slice a' N c')).setCell ⟨w.heap.size+1,1,none⟩ (.slice b m d)).setCell ⟨w.heap.size+1,2,none⟩ (.int .i64 s));obtain⟨⟨s0,s1,s2⟩,q⟩:=(HE s).out w5 xC;rw[xC];refine LD (v:=fv a' N c' b m d s) (by simp[results,results344,go_sem,fv,s0,s1,s2]) rfl ⟨a',g',c',by rw[HN.out],q⟩
structure RdL(w:World)(ao:OA)(b off:Nat)(ks:List Bool):Prop where
 ptr:0<ks.length->ao=some ⟨b,off,none⟩
 cell:∀j,j<ks.length->w.cell? ⟨b,off+j,none⟩=some (.bool (ks.getD j false))
variable{W w:World}{ao:OA}{b:Nat}{ks:List Bool}
theorem RdL.lt{off:Nat}(h:RdL w ao b off ks)(h0:0<ks.length):b<w.heap.size:=Lo w _ (h.cell 0 h0)
theorem RdL.same{off:Nat}(h:RdL w ao b off ks)(hb:0<ks.length->W.heap[b]? = w.heap[b]?):RdL W ao b off ks :=
 ⟨h.ptr,fun j hj=>(LE (a:=⟨b,off+j,none⟩) (hb (by omega))).trans (h.cell j hj)⟩
theorem RdL.next{off:Nat}(h:RdL w ao b off ks)(hb:Bl w W):RdL W ao b off ks:=h.same fun h0=>hb.block b (h.lt h0)
theorem Uw(w:World)(ao:OA)(b off:Nat):RdL w ao b off []:=⟨fun h=>by simp at h,fun j hj=>by simp at hj⟩
def cat(ks:List Bool)(i:Nat):Nat:=if ks.length=0 then 0 else i%ks.length
theorem Qj1(ks:List Bool)(i:Nat)(h:ks.length≠0):(cat ks i+1)%ks.length=cat ks (i+1):=by
 rw[cat,cat,Le h,Le h];simp
theorem Qpb(ks:List Bool)(i:Nat)(h:ks.length≠0):ks.getD (cat ks i) false=ch ks i:=by
 rw[cat,Le h,ch]
def Chs(w:World)(q:Nat)(ao:OA)(kc:Nat)(ks:List Bool)(i:Nat):Prop:=w.heap[q]? = some (.cells #[.slice ao ks.length kc,.int .i64 (cat ks i:Int)] 125 (0,0))
variable{i kc q:Nat}
theorem Chs.at(h:Chs w q ao kc ks i):w.cell? ⟨q,0,none⟩=some (.slice ao ks.length kc)∧w.cell? ⟨q,1,none⟩=some (.int .i64 (cat ks i:Int))∧w.frozen? ⟨q,1,none⟩=false :=
 ⟨by rw[cell_of_row w q 0 _ _ (0,0) h];rfl,by rw[cell_of_row w q 1 _ _ (0,0) h];rfl,frozen_of_row w q 1 _ _ h⟩
theorem Chs.lt(h:Chs w q ao kc ks i):q<w.heap.size:=(Array.getElem?_eq_some_iff.1 h).1
theorem Chs.same(h:Chs w q ao kc ks i)(hb:W.heap[q]? = w.heap[q]?):Chs W q ao kc ks i:=hb.trans h
theorem Qj5{off:Nat}{ao':OA}(h:Chs w q ao kc ks i)(hr:RdL w ao' b off ks)(h0:0<ks.length):b≠q:=by
 rintro rfl;have e:=hr.cell 0 h0;rw[cell_of_row w b (off+0) _ _ (0,0) h] at e
 rcases Iv off 2 with q|q
 ·rcases Iv off 1 with q|q
  ·obtain rfl:off=0:=by omega
   cases e
  ·obtain rfl:off=1:=by omega
   cases e
 ·rw[Array.getElem?_eq_none (by simp;omega)] at e
  cases e
theorem JQ(w:World)(q:Nat)(ao:OA)(b off kc:Nat)(ks:List Bool)(i:Nat)(h:Chs w q ao kc ks i)(hr:RdL w ao b off ks)(hl:ks.length<=9223372036854775807)(r:Bool)(hc:ch ks i=r) :
  Calls prog 103 #[Pq q] w fun e w'=>e= .returned (.bool r)∧Chs w' q ao kc ks (i+1)∧Upo (fun x=>x=q) w w':=by
 obtain⟨c0,c1,f1⟩:=h.at;have HH:Hid (Chs w q ao kc ks i):=h
 by_cases hz:ks.length=0
 ·have xC:r=false:=by rw[<-hc,ch,List.length_eq_zero_iff.1 hz];rfl
  subst xC;have z:((ks.length:Int) == 0)=true:=by simp[hz]
  have xD:(ks.length:Int)=0:=by omega
  clear h hr hc
  go_enter func103,ntmps103;go_wp2
  go_ret
  refine⟨rfl,?_,Upo.refl _ _⟩
  have:=HH.out;unfold Chs at this ⊢;rw[this,cat,cat,Lf hz,Lf hz]
 ·have z:((ks.length:Int) == 0)=false:=by simp;intro q;exact hz (by simp[q])
  have xB:cat ks i<ks.length:=by rw[cat,Le hz];exact Ia _ (by omega)
  obtain⟨n,hn⟩:=Ze ks.length;obtain⟨k,hk⟩:=Ze (cat ks i);have ea:=hr.ptr (by omega)
  have cr:=hr.cell (cat ks i) xB;rw[Qpb ks i hz,hc] at cr;have ck:=Qj1 ks i hz;obtain⟨k2,xA⟩:=Ze (cat ks (i+1));rw[hk,hn] at xB;rw[hk] at cr c1;rw[hk,hn,xA] at ck;rw[hn] at c0 z hl;have HN:Hid (ks.length=n∧cat ks i=k∧cat ks (i+1)=k2):=⟨hn,hk,xA⟩;subst ea;have h1:(0:Int)<=(k:Int):=by omega
  have h2:(k:Int)<(n:Int):=by omega
  have e1:IntKind.i64.wrap ((k:Int)+1)=(k:Int)+1:=by rw[Lq];omega
  have e2:((k:Int)+1).tmod (n:Int)=(k2:Int):=by
   rw[show(k:Int)+1=((k+1:Nat):Int) by omega]
   rw[<-Int.ofNat_tmod,ck]
  have nz:¬(n:Int)=0:=by omega
  clear hn hk xA ck hz hc hr h hl
  go_enter func103,ntmps103
  go_upto_region 3 with (fail)
  go_region
  all_goals
   go_upto_region 4 with (fail)
   go_region
  all_goals
   go_wp2
   go_ret
   refine⟨rfl,?_,((Upo.refl (fun x=>x=q) w).set q 1 _ (.inl rfl)).drew.drew⟩
   have:=Lm w q 1 _ _ (.int .i64 k2) HH.out
   show(w.setCell ⟨q,1,none⟩ (.int .i64 k2)).heap[q]? = _
   rw[this,HN.out.2.2]
   rfl
def sv(l:List UInt8):Value := .agg (cY l).toArray
def z64:List UInt8:=List.replicate 64 0
theorem QaK:z64.length=64:=by simp[z64]
theorem Tryz.sizeSec:(prog.info? 185).map (·.size)=some 64:=by kernel_rfl
theorem QcH(w:World):(zeroValue 185).run prog w= .ok (sv z64) w:=by kernel_rfl
theorem QG{P:Program}{fn:Func}{p:Tmp}{ty:TypeId}(h:fn.results=#[.cell p ty])(tmps:Array Value)(w:World)(b o:Nat)(cs:List Value)(d:TypeDesc)
  (hp:tmps.getD p undef= .pointer (some ⟨b,o,none⟩)) (hc:w.rangeAt b o cs)
  (hu:P.underlying ty=some d) (hd:d.isRow=true) (hi:(P.info? ty).map (·.size)=some cs.length) :
  (results fn tmps).run P w= .ok (.agg cs.toArray) w:=by
 have xA:tmps[p]?.getD undef= .pointer (some ⟨b,o,none⟩):=by simpa using hp
 simp[results,h,xA,asAddr,run_loadVar_mid w b o ty cs d hc hu hd hi]
structure Sx(w:World)(g:Nat)(l:List UInt8):Prop where
 ty:Ty w g 185
 len:l.length=64
 rng:w.rangeAt g 0 (cY l)
 thr:w.there g 0 64
section
variable {w W:World} {g:Nat} {l l':List UInt8}
theorem Sx.same(h:Sx w g l)(hb:W.heap[g]? = w.heap[g]?):Sx W g l:=⟨h.ty.same hb,h.len,Qcq h.rng hb,QcC h.thr hb⟩
theorem Sx.next(h:Sx w g l)(hb:Bl w W):Sx W g l:=h.same (hb.block g h.ty.lt)
theorem Sx.set(h:Sx w g l)(hl:l'.length=64):Sx (w.setCells g 0 (cY l')) g l' :=
 ⟨Ty.sets g _ _ _ h.ty,hl,World.rangeAt_setCells_same w g 0 (cY l') (by rw[Qo,hl];exact h.thr),World.there_setCells h.thr _ _ _⟩
theorem Sx.off(h:Sx w g l){p:Nat}(hp:g≠p)(o:Nat)(vs:List Value):Sx (w.setCells p o vs) g l :=
 ⟨Ty.sets p _ _ _ h.ty,h.len,World.rangeAt_setCells_apart h.rng p o vs (.inl hp),World.there_setCells h.thr _ _ _⟩
theorem Ql3(w:World)(l:List UInt8)(hl:l.length=64):Sx (w.alloc (.cells (cY l).toArray 185)) w.heap.size l:=by
 refine⟨⟨_,_,Yc w _⟩,hl,fun j v hv=> ?_,Ql w _ _ _ (by simp[Qo,hl])⟩
 rw[Nc,Ll]
 simpa using hv
theorem Sx.size(h:Sx w g l):(prog.info? 185).map (·.size)=some (cY l).length:=by rw[Qo,h.len];exact Tryz.sizeSec
theorem Qf8{B:Nat}{a:World}(h:Below B a w)(hb:B<=b)(o:Nat)(cs:List Value):Below B a (w.setCells b o cs):=by
 induction cs generalizing o w with
 | nil=>exact h
 | cons c r ih=>exact ih (h.setCell (p:=⟨b,o,none⟩) hb c) (o+1)
theorem Qa8(g:Nat):∀(vs:List Value) (o:Nat) (w:World),(w.setCells g o vs).heap.size=w.heap.size
 | [],_,_=>rfl
 | v::r,o,w=>by
  rw[World.setCells,Qa8 g r (o+1)];simp
end
variable{ops:Array Oper}{o:Oper}{a:Act}{Q:Exit->Act->World->Prop}{ax d:OA}{c cap g k n:Nat}{A B l t:List UInt8}
theorem Jk{rest:List Oper}(hg:o.guard=none)(hop:o.op=Op.alloc 185)
  (hK:∀w',Sx w' w.heap.size z64->Bl w w'->w'.heap.size=w.heap.size+1->wpList prog ops Q rest (a.put o.dst (Pq w.heap.size)) w'):wpList prog ops Q (o::rest) a w:=by
 refine wpList_plain hg fun K hK'=> ?_
 have hz:=QcH w;unfold Oper.wp;simp[execOp,hop,Instr.alloc,newVar,hz,Result.andThen,sv,Value.cells];exact hK' _ _ (hK _ (Ql3 w z64 QaK) (bal (Lb _ _) _) (by simp))
theorem Qbb{rest:List Oper}(hg:o.guard=none)(hop:o.op=Op.build 185 #[])
  (hK:wpList prog ops Q rest (a.put o.dst (sv z64)) w):wpList prog ops Q (o::rest) a w:=by
 refine wpList_plain hg fun K hK'=> ?_
 have hz:=QcH w;unfold Oper.wp;simp[execOp,hop,Instr.build,hz,Result.andThen];exact hK' _ _ hK
theorem Y4{rest:List Oper}(hg:o.guard=none)(p x:Operand)(hop:o.op=Op.store 185 p x)(g:Nat)(l l':List UInt8)
  (hp:a.eval p=Pq g) (hx:a.eval x=sv l') (h:Sx w g l) (hl:l'.length=64)
  (hK:∀w',Sx w' g l'->Upo (fun x=>x=g) w w'->w'.heap.size=w.heap.size->wpList prog ops Q rest (a.put o.dst undef) w'):wpList prog ops Q (o::rest) a w:=by
 refine wpList_store_mid hg 185 p x hop g 0 (cY l').toArray hp hx (by simp only[List.size_toArray,Qo,hl];exact h.thr) (by rw[NO,Qo,hl];exact Tryz.sizeSec) (all_oneCell_toArray (QaN l')) ?_
 exact hK _ (h.set hl) (Ui (S:=fun x=>x=g) (.inl rfl) _ _ _ (Upo.refl _ _)) (Qa8 _ _ _ _)
theorem QS{rest:List Oper}(hg:o.guard=none)(p:Operand)(hop:o.op=Op.load 185 p)(g:Nat)(l:List UInt8)
  (hp:a.eval p=Pq g) (h:Sx w g l) (hK:wpList prog ops Q rest (a.put o.dst (sv l)) w):wpList prog ops Q (o::rest) a w :=
 wpList_load_mid hg 185 p hop g 0 hp (cY l) _ h.rng underlying185 rfl h.size hK
theorem Qay(W:World)(ty tx:TypeId){gd od dLen dCap:Nat}{x:Value}(hlen:∀w',(Builtin.lenOf x).run prog w'= .ok n w')(hc:Nat.min n dLen=c)(ht:t.length=c)
  (hcells:(Builtin.firstCells 1 c x).run prog W= .ok (cY t).toArray W) (hd:0<c->d=some ⟨gd,od,none⟩∧W.there gd od c) :
  (Builtin.copy_ #[127,tx] ty #[.slice d dLen dCap,x]).run prog W= .ok (goInt c) (W.setCells gd od (cY t)):=by
 have hs:∀W,(Go.sizeOf 5).run prog W= .ok 1 W:=fun W=>by kernel_rfl
 by_cases z:c=0
 ·subst z;have e0:t=[]:=List.length_eq_zero_iff.1 ht;subst e0;have xA:(Builtin.firstCells 1 0 x).run prog W= .ok #[] W:=hcells
  cases d with
  | none=>simp[Builtin.copy_,run_underlying underlying127,hlen,hs,hc,xA];rfl
  | some a=>simp[Builtin.copy_,run_underlying underlying127,hlen,hs,hc,xA];rfl
 ·obtain⟨rfl,xC⟩:=hd (by omega)
  have xB:=run_storeCells_cells (P:=prog) gd od (cY t) 0 W (by rw[Qo,ht];intro j hj;simpa using (xC j hj).1) (by rw[Qo,ht];intro j hj;simpa using (xC j hj).2) (QaN _)
  simp only[Nat.add_zero] at xB;simp[Builtin.copy_,run_underlying underlying127,hlen,hs,hc,hcells];rw[xB]
  rfl
theorem Rw.first(h:Rw w ao g cap l)(hk:k+c<=l.length)(hcn:c<=n)(hx:ax=ao∨ax=ao.map (·.add k))(h0:ax=ao->k=0∨c=0)(m:Nat) :
  (Builtin.firstCells 1 c (.slice ax n m)).run prog w= .ok (cY ((l.drop k).take c)).toArray w:=by
 have xA:((l.drop k).take c).length=c:=by simp;omega
 rcases IG c with z|z
 ·subst z
  cases ax with
  | none=>exact run_firstCells_none w 1 0 n m
  | some a=>exact run_firstCells_some w 1 0 a n m [] (by simp) (fun j u hu=>by simp at hu)
 ·have ea:=h.sm (by omega)
  have xB:ax=some ⟨g,k,none⟩:=by
   rcases hx with e|e
   ·rcases h0 e with q|q
    ·rw[e,ea,q]
    ·omega
   ·rw[e,ea,N7,Addr.add_mid,Ll]
  rw[xB];refine run_firstCells_some w 1 c _ n m (cY ((l.drop k).take c)) (by rw[Qo,xA,Nd]) (fun j u hu=> ?_)
  rw[Addr.add_mid];have hj:j<c:=by have:=(List.getElem?_eq_some_iff.1 hu).1;rw[Qo,xA] at this;exact this
  rw[cY,NK,LT,Lf hj,IQ,NC] at hu;have:=h.rng ea (k+j) u hu
  rwa [Ll] at this
theorem Qp1(l:List UInt8)(s k c:Nat)(hk:min (64*s) l.length=k)(hc:min (l.length-k) 64=c):(l.drop k).take c++z64.drop c=sec l s:=by
 apply IK
 intro j;have xA:((l.drop k).take c).length=c:=by simp;omega
 by_cases hj:j<64
 ·rw[sec,No,Iy hj,N7]
  by_cases hjc:j<c
  ·rw[Ly (by omega),LT,Lf hjc,NC,show k+j=64*s+j by omega,Ld,Lk (by omega)]
   rfl
  ·rw[LI (by omega),xA,NC,show c+(j-c)=j by omega,z64,IH,Lf hj,Ld,Nn (by omega)]
   rfl
 ·rw[Nn (by simp[QaK];omega),Nn (by rw[Yv];omega)]
theorem Qcx(w:World)(a:OA)(g n c s:Nat)(l:List UInt8)(ra:Rw w a g c l)(hn:l.length=n) :
  Zr 104 #[.slice a n c,.int .i64 ((64*s:Nat):Int)] w (sv (sec l s)):=by
 obtain⟨k,hk⟩:=Ze (64*s);have HK:Hid (64*s=k):=hk;rw[hk];obtain⟨e,he⟩:=Ze (min k n);have xQ:(0:Int)<=(e:Int):=by omega
 have xR:(e:Int)<=(n:Int):=by omega
 have xN:(if n<k then (n:Int) else (k:Int))=(e:Int):=by split <;> omega
 obtain⟨ax,hx⟩:=Ze (if c=e then a else a.map (·.add e))
 obtain⟨xE,xF⟩:=QeG ra (by omega) hx hn
 obtain⟨cc,xH⟩:=Ze (Nat.min (n-e) 64);have xC:min (n-e) 64=cc:=xH;have HR:Hid (Rw w a g c l∧l.length=n∧min k n=e∧(ax=a∨ax=a.map (·.add e))∧(ax=a->e=0∨n-e=0)):=⟨ra,hn,he,xE,xF⟩;clear ra xE xF hk he
 go_enter func104,ntmps104
 go_upto_region 1 with (first
  | (refine Jk (by rfl) (by rfl) ?_;intro w1 hs1 hb1 hz1))
 have xK:Hid (w1.heap.size=w.heap.size+1):=hz1;clear hz1
 go_upto_region 2 with (first
  | (refine Qbb (by rfl) (by rfl) ?_)
  | (refine Jk (by rfl) (by rfl) ?_;intro w2 hs2 hb2 hz2;have xL:Hid (w2.heap.size=w1.heap.size+1):=hz2;clear hz2)
  | (refine Y4 (by rfl) _ _ (by rfl) w1.heap.size z64 z64 (by rfl) (by rfl) hs2 QaK ?_;intro w3 hs3 hu3 hz3;have xM:Hid (w3.heap.size=w2.heap.size):=hz3;clear hz3))
 go_frame
 obtain⟨ra,xJ,he,xE,xF⟩:=HR.out;have xG:Bl w w3:=by
  have h2:=Qa hb1 hb2;exact⟨hu3.os.trans h2.os,hu3.tape.trans h2.tape,hu3.output.trans h2.output,Lr h2.size hu3.size,fun b hb=>(hu3.block b (by have:=h2.size;omega) (fun q=>by have:=hb1.size;omega)).trans (h2.block b hb)⟩
 have r3:Rw w3.drew a g c l:=(ra.next xG (La _)).same (W:=w3.drew) (fun _=>rfl)
 have xA:Sx w3.drew w1.heap.size z64:=hs3.same (W:=w3.drew) rfl;have HC:=Qay w3.drew 3 127 (d:=Zp w1.heap.size) (gd:=w1.heap.size) (od:=0) (dLen:=64) (dCap:=64) (x := .slice ax (n-e) (c-e)) (t:=(l.drop e).take cc) (fun w'=>rfl) xH (by simp;omega)
  (r3.first (by omega) (by omega) xE (fun q=>(xF q).imp id (fun z=>by omega)) (c-e)) (fun _=>⟨rfl,fun j hj=>xA.thr j (by omega)⟩)
 have HS:Hid (Sx (w3.drew.setCells w1.heap.size 0 (cY ((l.drop e).take cc))) w1.heap.size (sec l s)):=by
  have e1:=Qp1 l s e cc (by rw[HK.out,xJ];exact he) (by rw[xJ];exact xC)
  have xI:((l.drop e).take cc).length=cc:=by simp;omega
  refine⟨Ty.sets _ _ _ _ xA.ty,Yv _ _,?_,World.there_setCells xA.thr _ _ _⟩
  have:=Jh xA.rng 0 (cY ((l.drop e).take cc)) (by rw[Qo,Qo,xI,QaK];omega) (fun j hj=>xA.thr j (by rw[Qo,xI] at hj;omega))
  rw[Qo,xI] at this;rw[<-e1,UP]
  simpa [cY,List.map_drop] using this
 have HB:Hid (Bl w w3∧Sx w1 w.heap.size z64∧w1.heap.size=w.heap.size+1∧Bl w1 w3):=⟨xG,hs1,xK.out,⟨hu3.os.trans hb2.os,hu3.tape.trans hb2.tape,hu3.output.trans hb2.output,Lr hb2.size hu3.size,fun b hb=>(hu3.block b (by have:=hb2.size;omega) (fun q=>by omega)).trans (hb2.block b hb)⟩⟩
 clear xG r3 xA ra xE xF hs1 hs2 hs3 hb1 hb2 hu3 xL xM xH xC xJ he xK
 go_region_law (first
  | (refine Qdr (by rfl) _ _ _ _ (by rfl) (by rfl) (by rfl) HC ?_))
 obtain⟨w4,xD⟩:=Ze (w3.drew.setCells w1.heap.size 0 (cY ((l.drop e).take cc)));have xP:Sx w4 w1.heap.size (sec l s):=by rw[<-xD];exact HS.out
 have xO:Sx w4 w.heap.size z64:=by
  obtain⟨h1,h2,h3,h4⟩:=HB.out;rw[<-xD];exact((h2.next h4).same (W:=w3.drew) rfl).off (by omega) _ _
 have xB:Hid (Bl w w4):=by
  obtain⟨h1,h2,h3,h4⟩:=HB.out;rw[<-xD];exact Qf8 h1.drew (by omega) _ _
 rw[xD];clear xD HS HB HC hx
 go_wp2_with (first
  | (refine QS (by rfl) _ (by rfl) w1.heap.size (sec l s) (by rfl) xP ?_)
  | (refine Y4 (by rfl) _ _ (by rfl) w.heap.size z64 (sec l s) (by rfl) (by rfl) xO (Yv l s) ?_;intro w5 hs5 hu5 hz5))
 refine LD (v:=sv (sec l s)) ?_ rfl ⟨rfl,?_⟩
 ·exact QG results104 _ _ w.heap.size 0 (cY (sec l s)) _ (by rfl) hs5.rng underlying185 rfl hs5.size
 ·exact⟨hu5.os.trans xB.out.os,hu5.tape.trans xB.out.tape,hu5.output.trans xB.out.output,Lr xB.out.size hu5.size,fun b hb=>(hu5.block b (by have:=xB.out.size;omega) (fun q=>by omega)).trans (xB.out.block b hb)⟩
theorem Qdb{α β:Type}{f:α->Option β}{g:α->β} : ∀ {l:List α},(∀x∈l,f x=some (g x))->l.mapM f=some (l.map g)
 | [],_=>rfl
 | x::r,h=>by
  rw[List.mapM_cons,h x (by simp),Qdb (l:=r) (fun y hy=>h y (by simp[hy]))]
  rfl
theorem Tryz.deepSec:prog.keyTypeAt 2 185=true:=by kernel_rfl
theorem QeT:prog.cellsOf 185=64:=by kernel_rfl
theorem QmI:prog.cellsOf 5=1:=by kernel_rfl
def litS(l:List UInt8):List Lit:=((List.range 64).map fun i=>[Lit.int .u8 ((l.getD i 0).toNat:Int)]).flatten
theorem QhA(l:List UInt8)(hl:l.length=64):prog.keyLits 2 185 (cY l)=some (litS l):=by
 simp only[Program.keyLits,underlying185,Qo,hl,QeT,if_true];rw[Qdb (g:=fun i=>[Lit.int .u8 ((l.getD i 0).toNat:Int)])]
 ·rfl
 ·intro i hi;have xB:i<64:=by simpa using hi
  have e:((cY l).drop (i*prog.cellsOf 5)).take (prog.cellsOf 5)=[Value.int .u8 ((l.getD i 0).toNat:Int)]:=by
   rw[QmI,Nd];have xA:i<(cY l).length:=by rw[Qo];omega
   rw[LX xA,IX,IL];simp[cY,List.getD_eq_getElem?_getD,List.getElem?_eq_getElem (show i<l.length by omega)]
  rw[e];generalize l.getD i 0=x;have hw:(Lit.int .u8 x.toNat).wf=true:=WalkArith.wf_u8 (by have h1:=x.toNat_lt;omega)
  simp[underlying5,hw]
theorem Qhz(l:List UInt8)(i:Nat)(hi:i<64):(litS l)[i]? = some (Lit.int .u8 ((l.getD i 0).toNat:Int)):=by
 have:litS l=(List.range 64).map fun i=>Lit.int .u8 ((l.getD i 0).toNat:Int):=by
  simp only[litS];generalize List.range 64=r
  induction r with
  | nil=>rfl
  | cons x r ih=>rw[ID,List.flatten_cons,ih,ID];rfl
 rw[this,No,Iy hi]
 rfl
theorem QkS(hA:A.length=64)(hB:B.length=64)(h:litS A=litS B):A=B:=by
 apply List.ext_getElem (by omega)
 intro i h1 h2;have e1:=Qhz A i (by omega)
 rw[h,Qhz B i (by omega)] at e1
 injection e1 with e1
 injection e1 with _ e1
 have e2:(B.getD i 0).toNat=(A.getD i 0).toNat:=by omega
 have e3:=UInt8.toNat_inj.1 e2
 simpa [List.getD_eq_getElem?_getD,List.getElem?_eq_getElem h1,List.getElem?_eq_getElem h2] using e3.symm
theorem Qn9(d:Nat)(w:World)(A B:List UInt8)(hA:A.length=64)(hB:B.length=64):(Op.equalIn (d+2) 185 (sv A) (sv B)).run prog w= .ok (decide (A=B)) w:=by
 have fm:∀l:List UInt8,l.length=64->(sv l).formed prog 185=true:=fun l hl=>by
  simp[sv,Value.formed,underlying185,QeT,Qo,hl]
 obtain⟨r,h1,h2⟩:=run_equalIn_deep d 2 185 Tryz.deepSec w 2 2 (sv A) (sv B) (litS A) (litS B) (fm A hA) (fm B hB) (by simpa [sv,Value.cells] using QhA A hA) (by simpa [sv,Value.cells] using QhA B hB)
 have xA:r=decide (A=B):=by
  by_cases e:A=B
  ·subst e;simp[h2.2 rfl]
  ·have:r=false:=by
    cases r
    ·rfl
    ·exact absurd (QkS hA hB (h2.1 rfl)) e
   simp[this,e]
 rw[h1,xA]
theorem Qp0(w:World)(A B:List UInt8)(hA:A.length=64)(hB:B.length=64):(Op.equalIn 10000 185 (sv A) (sv B)).run prog w= .ok (decide (A=B)) w:=Qn9 9998 w A B hA hB
theorem J3{rest:List Oper}(hg:o.guard=none)(x y:Operand)(hop:o.op=Op.binOp BinOp.neq 185 x y 185)(A B:List UInt8)
  (hx:a.eval x=sv A) (hy:a.eval y=sv B) (hA:A.length=64) (hB:B.length=64) (r:Bool) (hr:decide (A=B) = !r) (hK:wpList prog ops Q rest (a.put o.dst (.bool r)) w):wpList prog ops Q (o::rest) a w:=by
 refine wpList_plain hg fun K hK'=> ?_
 have he:=Qp0 w A B hA hB;have hn:(binOp .neq 185 (sv A) (sv B)).run prog w= .ok (.bool r) w:=by
  unfold sv at he ⊢;rw[run_neq_struct,he,hr];simp[Result.andThen]
 unfold Oper.wp;have hq:(eqGuard BinOp.neq 185 x y (sv A) (sv B)).run prog w= .ok () w:=run_eqGuard_agg w _ _ _ _ _ _ (by kernel_rfl)
 simp[execOp,hop,hx,hy,hq,hn,Result.andThen];exact hK' _ _ hK
end St
def dep(ops:List Oper)(i k:Nat):Bool:=match ops[i]? with|some o=>o.after.toList.any (fun e=>e.on == k && Region.binds .any e)|none=>false
def QhL(ops:List Oper)(sl ns:List Nat)(size:Nat):Bool :=
 ops.map (·.dst) == sl.map (fun t=>if t<size then some t else none) && (List.range sl.length).all (fun j=>decide (sl.getD j 0<size) || ns.contains j) && (List.range sl.length).all (fun j=>(List.range j).all fun k=>sl.getD k 0 != sl.getD j 0) &&
 (List.range ops.length).all (fun j=>match ops[j]? with|none=>false|some o=>o.after.all (fun e=> !Region.binds .any e || decide (e.on<j)) && (match o.guard with|none=>true|some (g,_)=>o.after.toList.any fun e=>e.on == g && Region.binds .any e))
def Qqj(P:Program)(Q:Exit->Act->World->Prop)(ops:List Oper)(sl:List Nat)(vs:List Value)(a0:Act)(I:(Nat->Bool)->World->Prop)(j:Nat)(o:Oper):Prop :=
 ∀(L:Nat->Bool) (a:Act) (w:World) (K:Act->World->Prop),I L w->L j=false->(∀i k,L i=true->dep ops i k=true->L k=true) ->
  (∀t,sl.contains t=false->a.tmps.getD t undef=a0.tmps.getD t undef) ->
  (∀k,(o.after.toList.any fun e=>e.on == k && Region.binds .any e)=true->a.tmps.getD (sl.getD k 0) undef=vs.getD k undef) ->
  (∀v w',(o.dst=none∨v=vs.getD j undef)->I (fun i=>if i=j then true else L i) w'->K (a.put o.dst v) w') ->
  match o.guard with
  | none=>o.wp P a w K Q
  | some (g,want)=> ∃b,a.tmps.getD (sl.getD g 0) undef= .bool b∧(if b=want then o.wp P a w K Q else K (a.put o.dst undef) w)
theorem Qe4(a:Act){t:Nat}(h:¬t<a.tmps.size):a.tmps.getD t undef=undef:=by simp[Array.getD,h]
theorem Qfv:∀(sl:List Nat) (vs:List Value) (a:Act) (k:Nat),k<sl.length->sl.length=vs.length->sl.getD k 0<a.tmps.size->(∀i j,i<j->j<sl.length->sl.getD i 0≠sl.getD j 0)->(Uk a sl vs).tmps.getD (sl.getD k 0) undef=vs.getD k undef
 | [],_,_,_,h,_,_,_=>by simp at h
 | _::_,[],_,_,_,h,_,_=>by simp at h
 | u::sl,v::vs,a,0,_,_,hlt,hne=>by
  have hn:sl.contains u=false:=by
   cases hc:sl.contains u with
   | false=>rfl
   | true=>
    obtain⟨i,hi,hu⟩:=NT (List.contains_iff_mem.1 hc)
    exfalso
    refine hne 0 (i+1) (by omega) (by simp;omega) ?_
    simp[List.getD_eq_getElem?_getD,List.getElem?_eq_getElem hi,hu]
  rw[Uk]
  show(Uk _ sl vs).tmps.getD u undef=v
  rw[OS sl vs _ u hn,Qb3 _ u v (show u<a.tmps.size from hlt)]
 | u::sl,v::vs,a,k+1,hk,hl,hlt,hne=>by
  rw[Uk]
  show(Uk _ sl vs).tmps.getD (sl.getD k 0) undef=vs.getD k undef
  refine Qfv sl vs _ k (by simpa using hk) (by simpa using hl) ?_ (fun i j hij hj=> ?_)
  ·have h2:sl.getD k 0<a.tmps.size:=hlt
   simpa [Act.put] using h2
  ·have:=hne (i+1) (j+1) (by omega) (by simpa using hj)
   simpa using this
theorem QcN{a a0:Act}{sl:List Nat}{vs:List Value}(hd:a.defers=a0.defers)(hs:a.tmps.size=a0.tmps.size)(ho:∀t,sl.contains t=false->a.tmps.getD t undef=a0.tmps.getD t undef)
  (hv:∀k,k<sl.length->a.tmps.getD (sl.getD k 0) undef=vs.getD k undef) (hl:sl.length=vs.length) (hne:∀i j,i<j->j<sl.length->sl.getD i 0≠sl.getD j 0):a=Uk a0 sl vs:=by
 have ht:a.tmps=(Uk a0 sl vs).tmps:=by
  apply Array.ext
  ·rw[Qdg,hs]
  ·intro t h1 h2;have e1:a.tmps.getD t undef=a.tmps[t]:=by simp[Array.getD,h1]
   have e2:(Uk a0 sl vs).tmps.getD t undef=(Uk a0 sl vs).tmps[t]:=by simp[Array.getD,h2]
   rw[<-e1,<-e2]
   cases hc:sl.contains t with
   | false=>rw[ho t hc,OS sl vs a0 t hc]
   | true=>
    obtain⟨k,hk,hu⟩:=NT (List.contains_iff_mem.1 hc);have e3:sl.getD k 0=t:=by rw[Ld,Lk hk];exact hu
    rw[<-e3,hv k hk,Qfv sl vs a0 k hk hl (by rw[e3,<-hs];exact h1) hne]
 have xA:=hd.trans (Qbi sl vs a0).symm
 cases a
 cases hp:Uk a0 sl vs;rw[hp] at ht xA;simp only at ht xA;rw[ht,xA]
theorem YB{P:Program}{ops:Array Oper}{Q:Exit->Act->World->Prop}{id:Nat}{a0:Act}{w0:World}(hm:P.follows .mixedOrders=true)
  (sl ns:List Nat) (vs:List Value) (hok:QhL ops.toList sl ns a0.tmps.size=true) (hl:sl.length=vs.length) (hu:∀j∈ns,vs.getD j undef=undef)
  (I:(Nat->Bool)->World->Prop) (h0:∀w,w.heap=w0.heap->Bl w0 w->I (fun _=>false) w)
  (step:OY (Qqj P Q ops.toList sl vs a0 I) 0 ops.toList)
  (fin:∀L w,(∀k,k<sl.length->L k=true)->I L w->Q .normal (Uk a0 sl vs) w):(Code.region id ops true).wp P Q a0 w0:=by
 simp only[QhL,Bool.and_eq_true] at hok;obtain⟨⟨⟨hd,yB⟩,xR⟩,xO⟩:=hok;have xV:ops.toList.map (·.dst)=sl.map (fun t=>if t<a0.tmps.size then some t else none):=by simpa using hd
 have yA:ops.size=sl.length:=by have:=Lv List.length xV;simpa using this
 have xU:∀(j:Nat) (o:Oper),ops[j]? = some o->o.dst=if sl.getD j 0<a0.tmps.size then some (sl.getD j 0) else none:=fun j o ho=>by
  have h1:(ops.toList.map (·.dst))[j]? = some o.dst:=by
   rw[No,Nh,ho];rfl
  rw[xV,No] at h1;rw[Ld]
  cases hs:sl[j]? with
  | none=>rw[hs] at h1;cases h1
  | some x=>rw[hs] at h1;simpa using h1.symm
 have xX:∀j,j<sl.length -> ¬sl.getD j 0<a0.tmps.size->vs.getD j undef=undef:=fun j hj hn=>by
  have:=List.all_eq_true.1 yB j (by simpa using hj)
  simp only[Bool.or_eq_true,decide_eq_true_eq] at this
  rcases this with h|h
  ·exact absurd h hn
  ·exact hu j (List.contains_iff_mem.1 h)
 have xS:∀j k,k<j->j<sl.length->sl.getD k 0≠sl.getD j 0:=fun j k hk hj=>by
  have h1:=List.all_eq_true.1 xR j (by simpa using hj)
  have h2:=List.all_eq_true.1 h1 k (by simpa using hk)
  simpa using h2
 have ne:∀j k,j<sl.length->k<sl.length->j≠k->sl.getD j 0≠sl.getD k 0:=fun j k hj hk h=>by
  rcases Iv j k with h'|h'
  ·exact xS k j h' hk
  ·exact(xS j k (by omega) hj).symm
 have xM:∀(j:Nat) (o:Oper),ops[j]? = some o->(∀e∈o.after,Region.binds .any e=true->e.on<j)∧(∀g want,o.guard=some (g,want)->(o.after.toList.any fun e=>e.on == g && Region.binds .any e)=true):=fun j o ho=>by
  have hj:j<ops.size:=(Array.getElem?_eq_some_iff.1 ho).1
  have h1:=List.all_eq_true.1 xO j (by simpa using hj)
  rw[Nh,ho] at h1;simp only[Bool.and_eq_true] at h1;refine⟨fun e he hb=> ?_,fun g want hg=> ?_⟩
  ·have:=Array.all_eq_true_iff_forall_mem.1 h1.1 e he
   simpa [hb] using this
  ·have:=h1.2;rw[hg] at this;exact this
 have xL:∀j,j<sl.length->sl.contains (sl.getD j 0)=true:=fun j hj=>by
  rw[Ld,Lk hj];simp
 have xN:∀(fuel:Nat) (listed:Array Bool) (a:Act) (w:World),listed.size=ops.size->cntU (fun k=>listed.getD k false) ops.size<=fuel ->
   I (fun k=>listed.getD k false) w->(∀i k,listed.getD i false=true->dep ops.toList i k=true->listed.getD k false=true)->a.defers=a0.defers->a.tmps.size=a0.tmps.size->(∀t,sl.contains t=false->a.tmps.getD t undef=a0.tmps.getD t undef) ->
   (∀k,k<sl.length->listed.getD k false=true->a.tmps.getD (sl.getD k 0) undef=vs.getD k undef)->wpAny P .any ops Q fuel listed a w:=by
  intro fuel;have xA:∀(listed:Array Bool) (a:Act) (w:World),(∀k,k<ops.size->listed.getD k false=true)->I (fun k=>listed.getD k false) w->a.defers=a0.defers->a.tmps.size=a0.tmps.size->(∀t,sl.contains t=false->a.tmps.getD t undef=a0.tmps.getD t undef) ->
    (∀k,k<sl.length->listed.getD k false=true->a.tmps.getD (sl.getD k 0) undef=vs.getD k undef)->Q .normal a w:=fun listed a w hall hI hde hts hsm hΦ=>by
   rw[QcN hde hts hsm (fun k hk=>hΦ k hk (hall k (by omega))) hl (fun i j hij hj=>xS j i hij hj)]
   exact fin _ w (fun k hk=>hall k (by omega)) hI
  induction fuel with
  | zero=>
   intro listed a w hsz hc hI hcl hde hts hsm hΦ;have hall:=QcX (Nat.le_zero.1 hc);refine⟨?_,xA listed a w hall hI hde hts hsm hΦ⟩
   apply List.eq_nil_iff_forall_not_mem.2
   intro i hi;obtain⟨h1,o,ho,_⟩:=mem_ready.1 hi;have xD:i<ops.size:=(Array.getElem?_eq_some_iff.1 ho).1
   have h2:=hall i xD;simp[Array.getD,hsz,xD] at h1 h2;rw[h2] at h1;cases h1
  | succ fuel ih=>
   intro listed a w hsz hc hI hcl hde hts hsm hΦ;have gd:∀i,i<ops.size->listed.getD i true=listed.getD i false:=fun i hi=>by simp[Array.getD,hsz,hi]
   refine⟨fun hr=> ?_,fun i hi=> ?_⟩
   ·refine xA listed a w ?_ hI hde hts hsm hΦ
    have:∀n,∀k,k<n->k<ops.size->listed.getD k false=true:=by
     intro n
     induction n with
     | zero=>intro k hk;omega
     | succ n ihn=>
      intro k hk hks
      by_cases hlk:listed.getD k false=true
      ·exact hlk
      ·exfalso
       have xK:k∈Region.ready .any ops listed:=by
        refine mem_ready.2 ⟨by rw[gd k hks];simpa using hlk,ops[k],L6 hks,fun e he hb=> ?_⟩
        have h1:=(xM k ops[k] (L6 hks)).1 e he hb;exact ihn e.on (by omega) (by omega)
       rw[hr] at xK;cases xK
    exact fun k hk=>this (k+1) k (by omega) hk
   ·obtain⟨h1,o,ho,xQ⟩:=mem_ready.1 hi;have xD:i<ops.size:=(Array.getElem?_eq_some_iff.1 ho).1
    have xG:=xU i o ho;have st:=OV step (by rw[Nh];exact ho)
    rw[Ll] at st;have xH:∀k,(o.after.toList.any fun e=>e.on == k && Region.binds .any e)=true->listed.getD k false=true:=fun k hk=>by
     obtain⟨e,he,h2⟩:=QdC hk;simp only[Bool.and_eq_true,beq_iff_eq] at h2;obtain⟨rfl,xE⟩:=h2;exact xQ e he xE
    have xT:∀k,(o.after.toList.any fun e=>e.on == k && Region.binds .any e)=true->k<i:=fun k hk=>by
     obtain⟨e,he,h2⟩:=QdC hk;simp only[Bool.and_eq_true,beq_iff_eq] at h2;obtain⟨rfl,xE⟩:=h2;exact(xM i o ho).1 e he xE
    have xY:∀k,(o.after.toList.any fun e=>e.on == k && Region.binds .any e)=true->a.tmps.getD (sl.getD k 0) undef=vs.getD k undef:=fun k hk=>
     hΦ k (by have:=xT k hk;omega) (xH k hk)
    have xB:(fun k=>(listed.setIfInBounds i true).getD k false)=fun k=>if k=i then true else listed.getD k false:=by
     funext k
     by_cases e:k=i
     ·subst e;simp[Array.getD,hsz,xD]
     ·by_cases h:k<listed.size
      ·simp[Array.getD,h,e,Ne.symm e]
      ·simp[Array.getD,h,e]
    have hK:∀v w',(o.dst=none∨v=vs.getD i undef)->I (fun k=>if k=i then true else listed.getD k false) w'->wpAny P .any ops Q fuel (listed.setIfInBounds i true) (a.put o.dst v) w':=fun v w' hv hI'=>by
     refine ih _ _ _ (by simp[hsz]) ?_ (by rw[xB];exact hI') ?_ ?_ ?_ ?_ ?_
     ·have:=QbR (p:=fun k=>listed.getD k false) (q:=fun k=>(listed.setIfInBounds i true).getD k false) (i:=i) (by rw[<-gd i xD];exact h1) (by simp[Array.getD,hsz,xD]) (fun k hk=>by
       by_cases h:k<listed.size
       ·simp[Array.getD,h,Ne.symm hk]
       ·simp[Array.getD,h]) ops.size xD
      omega
     ·intro x y hx hxy;have e1:(listed.setIfInBounds i true).getD x false=if x=i then true else listed.getD x false:=congrFun xB x
      have e2:(listed.setIfInBounds i true).getD y false=if y=i then true else listed.getD y false:=congrFun xB y
      rw[e1] at hx;rw[e2]
      by_cases ey:y=i
      ·rw[Lf ey]
      ·rw[Le ey]
       by_cases ex:x=i
       ·subst ex;refine xH y ?_
        have xF:=hxy;unfold dep at xF;rw[Nh,ho] at xF;exact xF
       ·rw[Le ex] at hx;exact hcl x y hx hxy
     ·rw[xG];split <;> exact hde
     ·rw[xG];split <;> simp[Act.put,hts]
     ·intro t ht;rw[xG]
      split
      ·rw[UL]
       ·exact hsm t ht
       ·intro e;have:=xL i (by omega)
        rw[e,ht] at this;cases this
      ·exact hsm t ht
     ·intro k hk hlk
      by_cases e:k=i
      ·subst e;rw[xG]
       split
       ·rename_i hsl
        rw[Qb3 _ _ _ (by rw[hts];exact hsl)]
        rcases hv with hv|hv
        ·rw[xG,Lf hsl] at hv;cases hv
        ·exact hv
       ·rename_i hsl
        rw[xX k hk hsl];exact Qe4 a (by rw[hts];exact hsl)
      ·have xJ:listed.getD k false=true:=by
        have e1:(listed.setIfInBounds i true).getD k false=if k=i then true else listed.getD k false:=congrFun xB k
        rw[e1,Le e] at hlk;exact hlk
       rw[xG]
       split
       ·rw[UL _ _ _ _ (ne i k (by omega) hk (Ne.symm e))]
        exact hΦ k hk xJ
       ·exact hΦ k hk xJ
    have xC:=st (fun k=>listed.getD k false) a w (wpAny P .any ops Q fuel (listed.setIfInBounds i true)) hI (by rw[<-gd i xD];exact h1) hcl hsm xY hK
    unfold wpOp;simp only[ho]
    cases hg:o.guard with
    | none=>
     rw[hg] at xC;rw[Lf (by unfold Region.wanted;rw[hg])]
     exact Or.inl xC
    | some gw=>
     obtain⟨g,want⟩:=gw;rw[hg] at xC;obtain⟨b,xP,xC⟩:=xC;have xZ:=(xM i o ho).2 g want hg;have yC:g<i:=xT g xZ;have xI:sl.getD g 0<a.tmps.size:=by
      apply Classical.byContradiction
      intro hn;rw[Qe4 a hn] at xP
      cases xP
     have hy:yielded ops a.tmps g=some b:=by
      have xW:ops[g]? = some ops[g]:=L6 (by omega)
      have h5:=xU g ops[g] xW;rw[Lf (by rw[<-hts];exact xI)] at h5
      have h7:a.tmps[sl.getD g 0]? = some (.bool b):=by
       rw[<-xP,Array.getD_eq_getD_getElem?,L6 xI];rfl
      unfold yielded;rw[xW];simp only[Option.bind_some,h5,h7]
     have hw:Region.wanted o (yielded ops a.tmps)=(b == want):=by
      unfold Region.wanted;rw[hg];simp only[hy];cases b <;> cases want <;> rfl
     rw[hw]
     by_cases e:b=want
     ·rw[Lf e] at xC;rw[Lf (by rw[e];simp)]
      exact Or.inl xC
     ·rw[Le e] at xC;rw[Le (by simpa using e)]
      exact xC
 refine wp_region_any hm (xN ops.size _ a0 _ (by simp) ?_ ?_ ?_ rfl rfl (fun _ _=>rfl) ?_)
 ·rw[OI (q:=fun _=>false),QcW]
  ·exact La _
  ·intro k hk;simp[Array.getD,hk]
 ·have hf:(fun k=>(Array.replicate ops.size false).getD k false)=fun _=>false:=by
   funext k
   by_cases hk:k<ops.size
   ·simp[Array.getD,hk]
   ·simp[Array.getD,hk]
  rw[hf];exact h0 _ rfl ⟨rfl,rfl,rfl,La _,fun _ _=>rfl⟩
 ·intro i k hi hk
  exfalso
  by_cases hs:i<ops.size
  ·simp[Array.getD,hs] at hi
  ·simp[Array.getD,hs] at hi
 ·intro k hk hlk
  exfalso
  have:k<ops.size:=by omega
  simp[Array.getD,this] at hlk
def YF(P:Program)(Q:Exit->Act->World->Prop)(ops:List Oper)(I:(Nat->Bool)->Act->World->Prop)(j:Nat)(o:Oper):Prop :=
 ∀(L:Nat->Bool) (a:Act) (w:World) (K:Act->World->Prop),I L a w->L j=false->(∀i k,L i=true->dep ops i k=true->L k=true) ->
  (∀k,(o.after.toList.any fun e=>e.on == k && Region.binds .any e)=true->L k=true) ->
  (∀v w',I (fun i=>if i=j then true else L i) (a.put o.dst v) w'->K (a.put o.dst v) w')->o.wp P a w K Q
theorem Uo{P:Program}{ops:Array Oper}{Q:Exit->Act->World->Prop}{id:Nat}{a0:Act}{w0:World}(hm:P.follows .mixedOrders=true)
  (hok:(List.range ops.size).all (fun j=>match ops[j]? with|none=>false|some o=>o.after.all (fun e=> !Region.binds .any e || decide (e.on<j)) && o.guard.isNone)=true)
  (I:(Nat->Bool)->Act->World->Prop) (h0:∀w,w.heap=w0.heap->Bl w0 w->I (fun _=>false) a0 w)
  (step:OY (YF P Q ops.toList I) 0 ops.toList)
  (fin:∀L a w,(∀k,k<ops.size->L k=true)->I L a w->Q .normal a w):(Code.region id ops true).wp P Q a0 w0:=by
 have xJ:∀(j:Nat) (o:Oper),ops[j]? = some o->(∀e∈o.after,Region.binds .any e=true->e.on<j)∧o.guard=none:=fun j o ho=>by
  have hj:j<ops.size:=(Array.getElem?_eq_some_iff.1 ho).1
  have h1:=List.all_eq_true.1 hok j (by simpa using hj)
  rw[ho] at h1;simp only[Bool.and_eq_true] at h1;refine⟨fun e he hb=> ?_,by simpa using h1.2⟩
  have:=Array.all_eq_true_iff_forall_mem.1 h1.1 e he
  simpa [hb] using this
 have xG:∀(fuel:Nat) (listed:Array Bool) (a:Act) (w:World),listed.size=ops.size->cntU (fun k=>listed.getD k false) ops.size<=fuel ->
   I (fun k=>listed.getD k false) a w->(∀i k,listed.getD i false=true->dep ops.toList i k=true->listed.getD k false=true)->wpAny P .any ops Q fuel listed a w:=by
  intro fuel
  induction fuel with
  | zero=>
   intro listed a w hsz hc hI hcl;have xE:=QcX (Nat.le_zero.1 hc);refine⟨?_,fin _ a w (fun k hk=>xE k hk) hI⟩
   apply List.eq_nil_iff_forall_not_mem.2
   intro i hi;obtain⟨h1,o,ho,_⟩:=mem_ready.1 hi;have xA:i<ops.size:=(Array.getElem?_eq_some_iff.1 ho).1
   have h2:=xE i xA;simp[Array.getD,hsz,xA] at h1 h2;rw[h2] at h1;cases h1
  | succ fuel ih=>
   intro listed a w hsz hc hI hcl;have gd:∀i,i<ops.size->listed.getD i true=listed.getD i false:=fun i hi=>by simp[Array.getD,hsz,hi]
   refine⟨fun hr=> ?_,fun i hi=> ?_⟩
   ·refine fin _ a w ?_ hI
    have:∀n,∀k,k<n->k<ops.size->listed.getD k false=true:=by
     intro n
     induction n with
     | zero=>intro k hk;omega
     | succ n ihn=>
      intro k hk hks
      by_cases hlk:listed.getD k false=true
      ·exact hlk
      ·exfalso
       have xF:k∈Region.ready .any ops listed:=by
        refine mem_ready.2 ⟨by rw[gd k hks];simpa using hlk,ops[k],L6 hks,fun e he hb=> ?_⟩
        have h1:=(xJ k ops[k] (L6 hks)).1 e he hb;exact ihn e.on (by omega) (by omega)
       rw[hr] at xF;cases xF
    exact fun k hk=>this (k+1) k (by omega) hk
   ·obtain⟨h1,o,ho,xI⟩:=mem_ready.1 hi;have xA:i<ops.size:=(Array.getElem?_eq_some_iff.1 ho).1
    have st:=OV step (by rw[Nh];exact ho)
    rw[Ll] at st;have xD:∀k,(o.after.toList.any fun e=>e.on == k && Region.binds .any e)=true->listed.getD k false=true:=fun k hk=>by
     obtain⟨e,he,h2⟩:=QdC hk;simp only[Bool.and_eq_true,beq_iff_eq] at h2;obtain⟨rfl,xH⟩:=h2;exact xI e he xH
    have xB:(fun k=>(listed.setIfInBounds i true).getD k false)=fun k=>if k=i then true else listed.getD k false:=by
     funext k
     by_cases e:k=i
     ·subst e;simp[Array.getD,hsz,xA]
     ·by_cases h:k<listed.size
      ·simp[Array.getD,h,e,Ne.symm e]
      ·simp[Array.getD,h,e]
    have hK:∀v w',I (fun k=>if k=i then true else listed.getD k false) (a.put o.dst v) w'->wpAny P .any ops Q fuel (listed.setIfInBounds i true) (a.put o.dst v) w':=fun v w' hI'=>by
     refine ih _ _ _ (by simp[hsz]) ?_ (by rw[xB];exact hI') ?_
     ·have:=QbR (p:=fun k=>listed.getD k false) (q:=fun k=>(listed.setIfInBounds i true).getD k false) (i:=i) (by rw[<-gd i xA];exact h1) (by simp[Array.getD,hsz,xA]) (fun k hk=>by
       by_cases h:k<listed.size
       ·simp[Array.getD,h,Ne.symm hk]
       ·simp[Array.getD,h]) ops.size xA
      omega
     ·intro x y hx hxy;have e1:(listed.setIfInBounds i true).getD x false=if x=i then true else listed.getD x false:=congrFun xB x
      have e2:(listed.setIfInBounds i true).getD y false=if y=i then true else listed.getD y false:=congrFun xB y
      rw[e1] at hx;rw[e2]
      by_cases ey:y=i
      ·rw[Lf ey]
      ·rw[Le ey]
       by_cases ex:x=i
       ·subst ex;refine xD y ?_
        have xC:=hxy;unfold dep at xC;rw[Nh,ho] at xC;exact xC
       ·rw[Le ex] at hx;exact hcl x y hx hxy
    have xK:=st (fun k=>listed.getD k false) a w (wpAny P .any ops Q fuel (listed.setIfInBounds i true)) hI (by rw[<-gd i xA];exact h1) hcl xD hK
    unfold wpOp;simp only[ho];rw[Lf (by unfold Region.wanted;rw[(xJ i o ho).2])]
    exact Or.inl xK
 refine wp_region_any hm (xG ops.size _ a0 _ (by simp) ?_ ?_ ?_)
 ·rw[OI (q:=fun _=>false),QcW]
  ·exact La _
  ·intro k hk;simp[Array.getD,hk]
 ·have hf:(fun k=>(Array.replicate ops.size false).getD k false)=fun _=>false:=by
   funext k
   by_cases hk:k<ops.size
   ·simp[Array.getD,hk]
   ·simp[Array.getD,hk]
  rw[hf];exact h0 _ rfl ⟨rfl,rfl,rfl,La _,fun _ _=>rfl⟩
 ·intro i k hi hk
  exfalso
  by_cases hs:i<ops.size
  ·simp[Array.getD,hs] at hi
  ·simp[Array.getD,hs] at hi
namespace St
theorem QD(a:Act)(t s:Nat)(v:Value)(h:t<a.tmps.size):(a.put (some t) v).tmps.getD s undef=if s=t then v else a.tmps.getD s undef:=by
 by_cases e:s=t
 ·subst e;rw[Lf rfl];simp[Act.put,Array.getD,h]
 ·rw[Le e]
  by_cases hs:s<a.tmps.size
  ·simp[Act.put,Array.getD,hs,Ne.symm e]
  ·simp[Act.put,Array.getD,hs]
structure S8(W:World)(a0:Act)(V:Nat->Value)(A B:List UInt8)(L:Nat->Bool)(a:Act)(w:World):Prop where
 df:a.defers=a0.defers
 sz:a.tmps.size=62
 ot:∀t,t≠8->t≠9->(t<38∨45<t)->a.tmps.getD t undef=a0.tmps.getD t undef
 be:Bl W w
 vl:∀j,j<8->L j=true->a.tmps.getD (38+j) undef=V j
 p8:L 8=true -> ∃p,a.tmps.getD 8 undef=Pq p∧W.heap.size<=p∧Sx w p (if L 10 then A else z64)
 p9:L 9=true -> ∃p,a.tmps.getD 9 undef=Pq p∧W.heap.size<=p∧Sx w p (if L 11 then B else z64)
 ne:L 8=true->L 9=true->a.tmps.getD 8 undef≠a.tmps.getD 9 undef
section
variable {W w w':World} {a0 a:Act} {V:Nat->Value} {A B:List UInt8} {L:Nat->Bool} {Q:Exit->Act->World->Prop} {ops:List Oper} {ty:TypeId} {ps:String} {af:Array Edge}
variable{bx g i id j k:Nat}{u v:Value}{o:Oper}{K:Act->World->Prop}{w0 w1 w2:World}
theorem S8.put(h:S8 W a0 V A B L a w)(hj:j<8)(hb:Bl w w'):S8 W a0 V A B (fun i=>if i=j then true else L i) (a.put (some (38+j)) (V j)) w':=by
 have hs:38+j<a.tmps.size:=by rw[h.sz];omega
 have e8:(if 8=j then true else L 8)=L 8:=Le (by omega)
 have e9:(if 9=j then true else L 9)=L 9:=Le (by omega)
 have xA:(if 10=j then true else L 10)=L 10:=Le (by omega)
 have xB:(if 11=j then true else L 11)=L 11:=Le (by omega)
 refine⟨h.df,by simp[Act.put,h.sz],fun t h1 h2 h3=> ?_,Qa h.be hb,fun i hi hL=> ?_,?_,?_,?_⟩
 ·rw[QD a _ _ _ hs,Le (by omega)];exact h.ot t h1 h2 h3
 ·rw[QD a _ _ _ hs]
  by_cases e:i=j
  ·subst e;rw[Lf rfl]
  ·rw[Le (by omega)]
   rw[Le e] at hL;exact h.vl i hi hL
 ·simp only[e8,xA];intro q;obtain⟨p,h1,h2,h3⟩:=h.p8 q;exact⟨p,by rw[QD a _ _ _ hs,Le (by omega)];exact h1,h2,h3.next hb⟩
 ·simp only[e9,xB];intro q;obtain⟨p,h1,h2,h3⟩:=h.p9 q;exact⟨p,by rw[QD a _ _ _ hs,Le (by omega)];exact h1,h2,h3.next hb⟩
 ·simp only[e8,e9];intro q r;rw[QD a _ _ _ hs,Le (by omega),QD a _ _ _ hs,Le (by omega)]
  exact h.ne q r
theorem QfK(hj:j<8)(h2:a0.tmps.getD 2 undef=Pq bx)(hk:k<2)(hV:V j= .pointer (some ⟨bx,k,none⟩)) :
  YF prog Q ops (S8 W a0 V A B) j { dst:=some (38+j),op:=Op.fieldAddr 129 (Operand.tmp 2) k,type:=ty,pos:=ps,after:=af,guard:=none } := by
 intro L a w K hI _ _ _ hK;have t2:=hI.ot 2 (by omega) (by omega) (.inl (by omega))
 rw[h2] at t2;have hF:=hI.put hj (Lb _ _);rw[hV] at hF
 show Oper.wp _ _ a w K _
 rcases(by omega:k=0∨k=1) with rfl|rfl
 ·go_simp
  exact hK _ _ hF
 ·go_simp
  exact hK _ _ hF
theorem QhW(hj:j<8)(hi:i<8)(hVi:V i= .pointer (some ⟨bx,k,none⟩))(hV:V j=v)(d:(af.toList.any fun e=>e.on == i && Region.binds .any e)=true)(hc:∀w,Bl W w->w.cell? ⟨bx,k,none⟩=some v)(n c:Nat)(q:OA)(hv:v= .slice q n c)(s:Nat)(hs:s=38+i) :
  YF prog Q ops (S8 W a0 V A B) j { dst:=some (38+j),op:=Op.load 127 (Operand.tmp s),type:=ty,pos:=ps,after:=af,guard:=none } := by
 intro L a w K hI _ _ hdep hK;subst hs;have t2:=hI.vl i hi (hdep i d);rw[hVi] at t2;have xA:=hc w hI.be;subst hv;have hF:=hI.put hj (Lb _ _);rw[hV] at hF
 show Oper.wp _ _ a w K _
 go_simp
 exact hK _ _ hF
theorem QhX{n:Int}(hj:j<8)(h7:a0.tmps.getD 7 undef= .int .i64 n)(hV:V j= .int .i64 n) :
  YF prog Q ops (S8 W a0 V A B) j { dst:=some (38+j),op:=Op.move (Operand.tmp 7),type:=ty,pos:=ps,after:=af,guard:=none } := by
 intro L a w K hI _ _ _ hK;have t2:=hI.ot 7 (by omega) (by omega) (.inl (by omega))
 rw[h7] at t2;have hF:=hI.put hj (Lb _ _);rw[hV] at hF
 show Oper.wp _ _ a w K _
 go_simp
 exact hK _ _ hF
theorem QhV{l:List UInt8}(hj:j<8)(hi:i<8)(hk:k<8)(hVi:V i=v)(hVk:V k=u)(hV:V j=sv l)(d1:(af.toList.any fun e=>e.on == i && Region.binds .any e)=true)(d2:(af.toList.any fun e=>e.on == k && Region.binds .any e)=true)
  (hc:∀w,Bl W w->Zr 104 #[v,u] w (sv l)) (s t:Nat) (hs:s=38+i) (ht:t=38+k) :
  YF prog Q ops (S8 W a0 V A B) j { dst:=some (38+j),op:=Op.call { callee:=Callee.value (Operand.func 104),args:=#[Operand.tmp s,Operand.tmp t],argTypes:=#[127,3] },type:=ty,pos:=ps,after:=af,guard:=none } := by
 intro L a w K hI _ _ hdep hK;subst hs ht;have t1:=hI.vl i hi (hdep i d1);have t2:=hI.vl k hk (hdep k d2);rw[hVi] at t1;rw[hVk] at t2
 show Oper.wp _ _ a w K _
 go_simp
 refine(hc w hI.be).mono ?_
 rintro e w' ⟨rfl,hb⟩;have hF:=hI.put hj hb;rw[hV] at hF;exact hK _ _ hF
theorem QaI(hop:o.op=Op.alloc 185)(hK:∀w',Sx w' w.heap.size z64->Bl w w'->K (a.put o.dst (Pq w.heap.size)) w'):Oper.wp prog o a w K Q:=by
 have hz:=QcH w;unfold Oper.wp;simp[execOp,hop,Instr.alloc,newVar,hz,Result.andThen,sv,Value.cells];exact hK _ (Ql3 w z64 QaK) (bal (Lb _ _) _)
theorem QaJ(p x:Operand)(hop:o.op=Op.store 185 p x)(g:Nat)(l l':List UInt8)
  (hp:a.eval p=Pq g) (hx:a.eval x=sv l') (h:Sx w g l) (hl:l'.length=64)
  (hK:∀w',Sx w' g l'->Upo (fun x=>x=g) w w'->w'.heap.size=w.heap.size->K (a.put o.dst undef) w'):Oper.wp prog o a w K Q:=by
 refine wp_store_mid 185 p x hop g 0 (cY l').toArray hp hx (by simp only[List.size_toArray,Qo,hl];exact h.thr) (by rw[NO,Qo,hl];exact Tryz.sizeSec) (all_oneCell_toArray (QaN l')) ?_
 exact hK _ (h.set hl) (Ui (S:=fun x=>x=g) (.inl rfl) _ _ _ (Upo.refl _ _)) (Qa8 _ _ _ _)
theorem QpX(hd:dep ops 10 8=true):YF prog Q ops (S8 W a0 V A B) 8 { dst:=some 8,op:=Op.alloc 185,type:=ty,pos:=ps,after:=af,guard:=none } := by
 intro L a w K hI hj hcl _ hK;have xA:L 10=false:=by
  cases e:L 10
  ·rfl
  ·rw[hcl 10 8 e hd] at hj;cases hj
 refine QaI rfl fun w' hs hb=>hK _ _ ?_
 have hz:8<a.tmps.size:=by rw[hI.sz];omega
 refine⟨hI.df,by simp[Act.put,hI.sz],fun t h1 h2 h3=> ?_,Qa hI.be hb,fun i hi hL=> ?_,fun _=> ?_,fun q=> ?_,fun _ q=> ?_⟩
 ·rw[QD a _ _ _ hz,Le h1];exact hI.ot t h1 h2 h3
 ·rw[QD a _ _ _ hz,Le (by omega)]
  rw[Le (by omega)] at hL
  exact hI.vl i hi hL
 ·refine⟨w.heap.size,by rw[QD a _ _ _ hz,Lf rfl],hI.be.size,?_⟩
  have:(if (10:Nat)=8 then true else L 10)=false:=by rw[Le (by omega)];exact xA
  simp only[this];exact hs
 ·rw[Le (by omega)] at q
  obtain⟨p,h1,h2,h3⟩:=hI.p9 q;exact⟨p,by rw[QD a _ _ _ hz,Le (by omega)];exact h1,h2,by rw[Le (by omega:¬(11=8))];exact h3.next hb⟩
 ·rw[Le (by omega)] at q
  obtain⟨p,h1,h2,h3⟩:=hI.p9 q;rw[QD a _ _ _ hz,Lf rfl,QD a _ _ _ hz,Le (by omega),h1]
  intro e;have:=h3.ty.lt;injection e with e
  injection e with e
  injection e with e _ _
  omega
theorem QpY(hd:dep ops 11 9=true):YF prog Q ops (S8 W a0 V A B) 9 { dst:=some 9,op:=Op.alloc 185,type:=ty,pos:=ps,after:=af,guard:=none } := by
 intro L a w K hI hj hcl _ hK;have xA:L 11=false:=by
  cases e:L 11
  ·rfl
  ·rw[hcl 11 9 e hd] at hj;cases hj
 refine QaI rfl fun w' hs hb=>hK _ _ ?_
 have hz:9<a.tmps.size:=by rw[hI.sz];omega
 refine⟨hI.df,by simp[Act.put,hI.sz],fun t h1 h2 h3=> ?_,Qa hI.be hb,fun i hi hL=> ?_,fun q=> ?_,fun _=> ?_,fun q _=> ?_⟩
 ·rw[QD a _ _ _ hz,Le h2];exact hI.ot t h1 h2 h3
 ·rw[QD a _ _ _ hz,Le (by omega)]
  rw[Le (by omega)] at hL
  exact hI.vl i hi hL
 ·rw[Le (by omega)] at q
  obtain⟨p,h1,h2,h3⟩:=hI.p8 q;exact⟨p,by rw[QD a _ _ _ hz,Le (by omega)];exact h1,h2,by rw[Le (by omega:¬(10=9))];exact h3.next hb⟩
 ·refine⟨w.heap.size,by rw[QD a _ _ _ hz,Lf rfl],hI.be.size,?_⟩
  have:(if (11:Nat)=9 then true else L 11)=false:=by rw[Le (by omega)];exact xA
  simp only[this];exact hs
 ·rw[Le (by omega)] at q
  obtain⟨p,h1,h2,h3⟩:=hI.p8 q;rw[QD a _ _ _ hz,Le (by omega),QD a _ _ _ hz,Lf rfl,h1]
  intro e;have:=h3.ty.lt;injection e with e
  injection e with e
  injection e with e _ _
  omega
theorem QcT{B:Nat}(h:Below B w w1)(hu:Upo (fun x=>x=g) w1 w2)(hB:B<=w1.heap.size)(hg:B<=g):Below B w w2 :=
 ⟨hu.os.trans h.os,hu.tape.trans h.tape,hu.output.trans h.output,Lr h.size hu.size,fun b hb=>(hu.block b (by omega) (fun q=>by omega)).trans (h.block b hb)⟩
theorem Qn6(hA:A.length=64)(hV:V 3=sv A)(d1:(af.toList.any fun e=>e.on == 8 && Region.binds .any e)=true)(d2:(af.toList.any fun e=>e.on == 3 && Region.binds .any e)=true) :
  YF prog Q ops (S8 W a0 V A B) 10 { dst:=none,op:=Op.store 185 (Operand.tmp 8) (Operand.tmp 41),type:=ty,pos:=ps,after:=af,guard:=none } := by
 intro L a w K hI hj hcl hdep hK;have h8:=hdep 8 d1;obtain⟨p,h1,h2,h3⟩:=hI.p8 h8;have t3:=hI.vl 3 (by omega) (hdep 3 d2)
 rw[hV] at t3;refine QaJ (Operand.tmp 8) (Operand.tmp 41) rfl p _ A h1 t3 h3 hA fun w' hs hu hz=>hK _ _ ?_
 have xA:Bl W w':=QcT hI.be hu hI.be.size h2;refine⟨hI.df,hI.sz,hI.ot,xA,fun i hi hL=> ?_,fun _=>⟨p,h1,h2,?_⟩,fun q=> ?_,fun q r=> ?_⟩
 ·rw[Le (by omega)] at hL;exact hI.vl i hi hL
 ·simpa using hs
 ·rw[Le (by omega)] at q
  obtain⟨p',e1,e2,e3⟩:=hI.p9 q;refine⟨p',e1,e2,?_⟩
  rw[Le (by omega:¬(11=10))]
  refine e3.same (hu.block p' e3.ty.lt fun e=> ?_)
  exact hI.ne h8 q (by rw[h1,e1,e])
 ·rw[Le (by omega)] at q r
  exact hI.ne q r
theorem Qn7(hB:B.length=64)(hV:V 7=sv B)(d1:(af.toList.any fun e=>e.on == 9 && Region.binds .any e)=true)(d2:(af.toList.any fun e=>e.on == 7 && Region.binds .any e)=true) :
  YF prog Q ops (S8 W a0 V A B) 11 { dst:=none,op:=Op.store 185 (Operand.tmp 9) (Operand.tmp 45),type:=ty,pos:=ps,after:=af,guard:=none } := by
 intro L a w K hI hj hcl hdep hK;have h9:=hdep 9 d1;obtain⟨p,h1,h2,h3⟩:=hI.p9 h9;have t3:=hI.vl 7 (by omega) (hdep 7 d2)
 rw[hV] at t3;refine QaJ (Operand.tmp 9) (Operand.tmp 45) rfl p _ B h1 t3 h3 hB fun w' hs hu hz=>hK _ _ ?_
 have xA:Bl W w':=QcT hI.be hu hI.be.size h2;refine⟨hI.df,hI.sz,hI.ot,xA,fun i hi hL=> ?_,fun q=> ?_,fun _=>⟨p,h1,h2,?_⟩,fun q r=> ?_⟩
 ·rw[Le (by omega)] at hL;exact hI.vl i hi hL
 ·rw[Le (by omega)] at q
  obtain⟨p',e1,e2,e3⟩:=hI.p8 q;refine⟨p',e1,e2,?_⟩
  rw[Le (by omega:¬(10=11))]
  refine e3.same (hu.block p' e3.ty.lt fun e=> ?_)
  exact hI.ne q h9 (by rw[h1,e1,e])
 ·simpa using hs
 ·rw[Le (by omega)] at q r
  exact hI.ne q r
theorem S8.fin(h:S8 W a0 V A B L a w)(hL:∀k,k<12->L k=true)(h0:a0.tmps.size=62):∃p8 p9,a=Uk a0 [38,39,40,41,42,43,44,45,8,9] [V 0,V 1,V 2,V 3,V 4,V 5,V 6,V 7,Pq p8,Pq p9]∧Sx w p8 A∧Sx w p9 B∧W.heap.size<=p8∧W.heap.size<=p9∧p8≠p9∧Bl W w:=by
 obtain⟨p8,a1,a2,a3⟩:=h.p8 (hL 8 (by omega))
 obtain⟨p9,b1,b2,b3⟩:=h.p9 (hL 9 (by omega))
 rw[hL 10 (by omega)] at a3
 rw[hL 11 (by omega)] at b3
 have xB:=h.ne (hL 8 (by omega)) (hL 9 (by omega))
 refine⟨p8,p9,QcN h.df (by rw[h.sz,h0]) (fun t ht=> ?_) (fun k hk=> ?_) rfl (fun i j hij hj=> ?_),by simpa using a3,by simpa using b3,a2,b2,fun e=>xB (by rw[a1,b1,e]),h.be⟩
 ·have:t ∉ [38,39,40,41,42,43,44,45,8,9]:=by simpa using ht
  simp only[List.mem_cons,List.not_mem_nil,or_false,not_or] at this;exact h.ot t (by omega) (by omega) (by omega)
 ·have xC:k<10:=hk
  rcases(by omega:k<8∨k=8∨k=9) with h1|h1|h1
  ·have e:=h.vl k h1 (hL k (by omega))
   rcases(by omega:k=0∨k=1∨k=2∨k=3∨k=4∨k=5∨k=6∨k=7) with rfl|rfl|rfl|rfl|rfl|rfl|rfl|rfl <;> exact e
  ·subst h1;exact a1
  ·subst h1;exact b1
 ·have xA:j<10:=hj;have:∀x,x<10->[38,39,40,41,42,43,44,45,8,9].getD x 0=if x<8 then 38+x else x:=by decide
  rw[this i (by omega),this j xA]
  split <;> split <;> omega
theorem QnZ{P:Program}{ops:Array Oper}(hm:P.follows .mixedOrders=true)
  (hok:(List.range ops.size).all (fun j=>match ops[j]? with|none=>false|some o=>o.after.all (fun e=> !Region.binds .any e || decide (e.on<j)) && o.guard.isNone)=true)
  (V:Nat->Value) (A B:List UInt8) (step:OY (YF P Q ops.toList (S8 w0 a0 V A B)) 0 ops.toList) (h62:a0.tmps.size=62) (h12:ops.size=12)
  (fin:∀p8 p9 w,Sx w p8 A->Sx w p9 B->w0.heap.size<=p8->w0.heap.size<=p9->p8≠p9->Bl w0 w->Q .normal (Uk a0 [38,39,40,41,42,43,44,45,8,9] [V 0,V 1,V 2,V 3,V 4,V 5,V 6,V 7,Pq p8,Pq p9]) w):(Code.region id ops true).wp P Q a0 w0:=by
 refine Uo hm hok (S8 w0 a0 V A B) (fun Z _ hZ=>⟨rfl,h62,fun _ _ _ _=>rfl,hZ,fun _ _ h=>(L5 h).elim,fun h=>(L5 h).elim,fun h=>(L5 h).elim,fun h=>(L5 h).elim⟩) step ?_
 intro L a8 w8 hall hI;obtain⟨p8,p9,rfl,x8,x9,g8,g9,xB,xA⟩:=hI.fin (fun k hk=>hall k (by rw[h12];exact hk)) h62
 exact fin p8 p9 w8 x8 x9 g8 g9 xB xA
end
def JV(X:List UInt8)(N:Nat):List UInt8:=X.take N++List.replicate (N-X.length) 0
theorem QlK(X:List UInt8)(N:Nat):(JV X N).length=N:=by simp[JV];omega
theorem QlL(N:Nat):JV [] N=List.replicate N 0:=by simp[JV]
theorem Qje(X S:List UInt8)(N e c:Nat)(he:min X.length N=e)(hc:min S.length (N-e)=c):(JV X N).take e++S.take c++(JV X N).drop (e+c)=JV (X++S) N:=by
 have h1:(JV X N).take e=X.take N:=by
  rw[JV,Lu (by simp;omega)]
  rw[Iu]
  rcases Nat.le_total X.length N with h|h
  ·rw[Lp (by omega),Lp h]
  ·rw[show min e N=N by omega]
 have h2:(JV X N).drop (e+c)=List.replicate (N-(X++S).length) 0:=by
  have hl:(X.take N).length=e:=by simp;omega
  rw[JV,List.drop_append,L3 (by omega),Nj,hl,List.drop_replicate,Lc]
  congr 1
  omega
 have h3:X.take N++S.take c=(X++S).take N:=by
  rw[List.take_append]
  congr 1
  rcases Nat.le_total S.length (N-e) with h|h
  ·rw[Lp (by omega),Lp (by omega)]
  ·rw[show c=N-X.length by omega]
 rw[h1,h2,h3,JV]
theorem Qjd(X:List UInt8)(N:Nat)(h:N<=X.length):JV X N=X.take N:=by
 rw[JV,show N-X.length=0 by omega]
 simp
theorem OC(v:Value)(n:Nat):madeCells #[v] n=Array.replicate n v:=by
 apply Array.ext
 ·simp[size_madeCells]
 ·intro i h1 h2;simp[madeCells,Nat.mod_one]
theorem Qn3(w:World)(n:Nat):Rw (w.alloc (.cells (Array.replicate n (Value.int .u8 0)) 5)) (Zp w.heap.size) w.heap.size n (List.replicate n 0):=by
 refine⟨.inr rfl,fun e=>(by cases e),fun _=>⟨_,_,Yc _ _⟩,by simp,fun _ j v hv=> ?_,fun _=>Ql w _ _ _ (by simp)⟩
 rw[Nc,Ll];have:cY (List.replicate n 0)=List.replicate n (Value.int .u8 0):=by simp[cY]
 rw[this] at hv;rw[<-hv];simp[Array.getElem?_replicate,List.getElem?_replicate]
theorem UB(n:Nat)(hn:n<=140737488355328)(u:World):(Instr.makeSlice 127 (.int .i64 n) (.int .i64 n)).run prog u= .ok (.slice (Zp u.heap.size) n n) (u.alloc (.cells (Array.replicate n (Value.int .u8 0)) 5)):=by
 have:=run_make_row' (P:=prog) 127 5 (.int .u8 0) 1 underlying127 Tryz.infoY rfl .i64 .i64 n (by omega) (by omega) u
 rw[this,OC]
structure Sy(w:World)(bx gr q:Nat)(va vb:Value)(s:Nat)(ao:OA)(kc:Nat)(ks:List Bool)(f:FV)(i1 N k:Nat)(wr:World):Prop where
 up:Upo (fun x=>x=q) w wr
 box:wr.heap[bx]? = some (.cells #[va,vb,.int .i64 s] 129 (0,0))
 row:Rw wr (Zp gr) gr N (JV (sgo ks f i1 k).1 N)
 chs:Chs wr q ao kc ks (sgo ks f i1 k).2
theorem stays_any (w:World) (a:OA) (g n c:Nat) (l:List UInt8) (b:OA) (h m d s:Nat) (l2:List UInt8) (q:Nat) (ao:OA) (kb ko kc:Nat) (ks:List Bool) (i:Nat) (ra:Rw w a g c l) (rb:Rw w b h d l2) (hn:l.length=n) (hm:l2.length=m)
    (hc:Chs w q ao kc ks i) (hk:RdL w ao kb ko ks) (hkl:ks.length<=9223372036854775807) (hn2:n<=1099511627776) (hm2:m<=1099511627776) (P:List UInt8×Nat) (hP:Hid (stay ks ⟨l,l2⟩ i=P)) :
    Calls prog 54 #[.agg #[.slice a n c,.slice b m d,.int .i64 s],Pq q] w fun e w'=> ∃gr,e= .returned (.slice (Zp gr) P.1.length P.1.length)∧w.heap.size<=gr∧Rw w' (Zp gr) gr P.1.length P.1∧Chs w' q ao kc ks P.2∧Upo (fun x=>x=q) w w':=by
  obtain⟨N,i1,hN⟩:∃N i1,UK ks ⟨l,l2⟩ i=(N,i1):=⟨_,_,rfl⟩;obtain⟨r,hr⟩:=Ze (!decide (n=m) && ch ks i)
  have hN2:N=(if r then n else m):=by
    have:=Lv Prod.fst hN;simp only[UK] at this;rw[hn,hm] at this;rw[<-hr,<-this]
    by_cases e:n=m
    · simp[e]
    · simp[e]
  have hq:=hc.lt;have HH:Hid (Rw w a g c l∧Rw w b h d l2∧RdL w ao kb ko ks∧ks.length<=9223372036854775807∧l.length=n∧l2.length=m∧n<=1099511627776∧m<=1099511627776∧q<w.heap.size):=⟨ra,rb,hk,hkl,hn,hm,hn2,hm2,hq⟩;have HN:Hid (UK ks ⟨l,l2⟩ i=(N,i1)∧N=(if r then n else m)):=⟨hN,hN2⟩
  have HG:Hid (∀W,Upo (fun x=>x=q) w W->Rw W a g c l∧Rw W b h d l2∧RdL W ao kb ko ks):=fun W hu=>by
    have ty:∀ {x:Nat},Ty w x 5->x≠q:=fun {x} hx=>hx.ne ⟨_,_,hc⟩ (by decide)
    exact⟨ra.same fun e=>hu.block g (ra.ty e).lt (ty (ra.ty e)),rb.same fun e=>hu.block h (rb.ty e).lt (ty (rb.ty e)),hk.same fun h0=>hu.block kb (hk.lt h0) (Qj5 hc hk h0)⟩
  have HC:Hid (Chs w q ao kc ks i):=hc;have HR:Hid ((!decide (n=m) && ch ks i)=r):=hr
  clear ra rb hk hkl hn hm hn2 hm2 hq hN hN2 hc hr
  go_enter func54,ntmps54
  go_upto_region 2 with (fail)
  obtain⟨w1,hw1⟩:=Ze (w.alloc (.cells #[.slice a n c,.slice b m d,.int .i64 s] 129));have k1:w1.heap[w.heap.size]? = some (.cells #[.slice a n c,.slice b m d,.int .i64 s] 129 (0,0)):=by rw[<-hw1];exact Yc _ _
  have HB1:Hid (Bl w w1∧w1.heap.size=w.heap.size+1):=⟨by rw[<-hw1];exact bal (Lb _ _) _,by rw[<-hw1];simp⟩
  have HC1:Hid (Chs w1 q ao kc ks i):=HC.out.same (HB1.out.1.block q HH.out.2.2.2.2.2.2.2.2);obtain⟨b0,b1,b2⟩:=Qp k1;have K1:Hid (w1.heap[w.heap.size]? = some (.cells #[.slice a n c,.slice b m d,.int .i64 s] 129 (0,0))):=k1;rw[hw1];clear hw1 k1
  go_cut [21] from 13 to 20 (fun x wx=>x= .bool r∧Chs wx q ao kc ks i1∧Upo (fun x=>x=q) w1 wx)
  case first=>
    by_cases e:n=m
    · have hr:false=r:=by rw[<-HR.out];simp[e]
      have hi:i=i1:=by have:=Lv Prod.snd HN.out.1;simp only[UK] at this;rw[Lf (by rw[HH.out.2.2.2.2.1,HH.out.2.2.2.2.2.1,e])] at this;exact this
      have e1:((n:Int) != (m:Int))=false:=by simp[e]
      subst hr hi;have e':(n:Int)=(m:Int):=by omega
      clear e;go_wp2
      go_meet
      case rel=>exact⟨rfl,HC1.out,Upo.refl _ _⟩
    · have hr:ch ks i=r:=by rw[<-HR.out];simp[e]
      have hi:i+1=i1:=by have:=Lv Prod.snd HN.out.1;simp only[UK] at this;rw[Le (by rw[HH.out.2.2.2.2.1,HH.out.2.2.2.2.2.1];exact e)] at this;exact this
      have e1:((n:Int) != (m:Int))=true:=by simp;omega
      have HX:=JQ w1 q ao kb ko kc ks i HC1.out (HH.out.2.2.1.next HB1.out.1) HH.out.2.2.2.1 r hr;subst hi;clear hr;have e':¬(n:Int)=(m:Int):=by omega
      clear e
      go_wp2_with (go_at_call 103;with_reducible refine HX.mono ?_;rintro e w2 ⟨rfl,hc2,hu2⟩)
      go_meet
      case rel=>exact⟨rfl,hc2,hu2⟩
  case rest=>
    obtain⟨rfl,hc2,hu2⟩:=hcut;obtain⟨w2,hw2⟩:∃W,W=wc:=⟨_,rfl⟩;subst hw2;have K2:Hid (w2.heap[w.heap.size]? = some (.cells #[.slice a n c,.slice b m d,.int .i64 s] 129 (0,0))):=(hu2.block _ (by have:=HB1.out.2;omega) (fun e=>by have:=HH.out.2.2.2.2.2.2.2.2;omega)).trans K1.out
    obtain⟨b0,b1,b2⟩:=Qp K2.out;have HU2:Hid (Upo (fun x=>x=q) w w2∧Chs w2 q ao kc ks i1∧w.heap.size+1<=w2.heap.size):=⟨(Upo.of HB1.out.1).trans hu2 (fun _ _ q=>q),hc2,by have:=hu2.size;have:=HB1.out.2;omega⟩
    clear hc2 hu2 HC1 HC HR K1 HB1
    go_upto_if 21 with (fail)
    go_cut [5] from 22 to 24 (fun x wx=>x= .int .i64 N∧w2=wx)
    case first=>
      cases r
      · have e:N=m:=by simpa using HN.out.2
        subst e;go_wp2
        go_meet
        case rel=>exact⟨rfl,rfl⟩
      · have e:N=n:=by simpa using HN.out.2
        subst e;go_wp2
        go_meet
        case rel=>exact⟨rfl,rfl⟩
    case rest=>
      obtain⟨rfl,rfl⟩:=hcut;have hNle:N<=1099511627776:=by
        have:=HN.out.2;have h1:=HH.out.2.2.2.2.2.2.1;have h2:=HH.out.2.2.2.2.2.2.2.1
        cases r
        · simp at this;omega
        · simp at this;omega
      have hmk:=UB N (by omega)
      have HN3:Hid (N<=1099511627776):=hNle;clear hNle
      go_upto_region 5 with (fail)
      obtain⟨w3,hw3⟩:=Ze (w2.alloc (.cells (Array.replicate N (Value.int .u8 0)) 5));have S0:Sy w w.heap.size w2.heap.size q (.slice a n c) (.slice b m d) s ao kc ks ⟨l,l2⟩ i1 N 0 w3:=by
        rw[<-hw3];refine⟨HU2.out.1.alloc _,((MapKept.heap_alloc _ _).2 _ (by have:=HU2.out.2.2;omega)).trans K2.out,?_,HU2.out.2.1.same ((MapKept.heap_alloc _ _).2 _ HU2.out.2.1.lt)⟩
        have:=Qn3 w2 N
        simpa [sgo,QlL] using this
      rw[hw3];clear hw3 K2;have HS0:Hid (Sy w w.heap.size w2.heap.size q (.slice a n c) (.slice b m d) s ao kc ks ⟨l,l2⟩ i1 N 0 w3∧w.heap.size+1<=w2.heap.size):=⟨S0,HU2.out.2.2⟩;clear S0 HU2 b0 b1 b2 hmk;obtain⟨NS,hNS⟩:=Ze (nsec ⟨l,l2⟩);have HNS:Hid (nsec ⟨l,l2⟩=NS):=hNS;clear hNS;go_wp2
      go_loopg [7] NS (fun gg x wr=> ∃k:Nat,k<=NS∧gg=NS-k∧x= .int .i64 ((64*k:Nat):Int)∧Sy w w.heap.size w2.heap.size q (.slice a n c) (.slice b m d) s ao kc ks ⟨l,l2⟩ i1 N k wr)
      case atStart=>exact⟨0,Ln _,rfl,rfl,HS0.out.1⟩
      case round=>
        obtain⟨k,hk,rfl,rfl,hS⟩:=hrel;obtain⟨M,hM⟩:=Ze (max n m);have hNS:(M+63)/64=NS:=by rw[<-HNS.out,nsec];show _=(max l.length l2.length+63)/64;rw[HH.out.2.2.2.2.1,HH.out.2.2.2.2.2.1,hM]
        have hm1:(if n<m then (m:Int) else (n:Int))=(M:Int):=by split <;> omega
        obtain⟨kk,hkk⟩:=Ze (64*k);have HKK:Hid (64*k=kk):=hkk;rw[hkk];obtain⟨b0,b1,b2⟩:=Qp hS.box;have HS:Hid (Sy w w.heap.size w2.heap.size q (.slice a n c) (.slice b m d) s ao kc ks ⟨l,l2⟩ i1 N k wr):=hS;clear hS
        by_cases hlt:k<NS
        · have hc1:(kk:Int)<(M:Int):=by omega
          have HM:Hid (max n m=M∧k<NS∧(M+63)/64=NS):=⟨hM,hlt,hNS⟩;clear hkk hM hNS hlt hk
          go_upto_region 8 with (fail)
          rename_i K8 hK8
          obtain⟨A,hA⟩:=Ze (sec l k);obtain⟨B,hB⟩:=Ze (sec l2 k);have HAB:Hid (sec l k=A∧sec l2 k=B∧A.length=64∧B.length=64):=⟨hA,hB,by rw[<-hA];exact Yv _ _,by rw[<-hB];exact Yv _ _⟩
          have HA:Hr wr 104 #[.slice a n c,.int .i64 kk] (sv A):=fun W hb=>by
            have:=Qcx W a g n c k l (HG.out W (HS.out.up.next hb)).1 HH.out.2.2.2.2.1;rw[HKK.out,hA] at this;exact this
          have HB:Hr wr 104 #[.slice b m d,.int .i64 kk] (sv B):=fun W hb=>by
            have:=Qcx W b h m d k l2 (HG.out W (HS.out.up.next hb)).2.1 HH.out.2.2.2.2.2.1;rw[HKK.out,hB] at this;exact this
          clear hA hB;have HBx:Hid (∀W,Bl wr W->W.cell? ⟨w.heap.size,0,none⟩=some (.slice a n c)∧W.cell? ⟨w.heap.size,1,none⟩=some (.slice b m d)):=fun W hb=>by
            have:=Qp ((hb.block _ (Array.getElem?_eq_some_iff.1 HS.out.box).1).trans HS.out.box)
            exact⟨this.1,this.2.1⟩
          clear b0 b1 b2 hc1 hm1;refine QnZ (by kernel_rfl) (by kernel_rfl) (fun j=>match j with|0=>Pq w.heap.size|1=> .slice a n c|2=> .int .i64 kk|3=>sv A|4=> .pointer (some ⟨w.heap.size,1,none⟩)|5=> .slice b m d|6=> .int .i64 kk|7=>sv B|_=>undef) A B
            ⟨QfK (bx:=w.heap.size) (k:=0) (j:=0) (by omega) rfl (by omega) rfl,QhW (bx:=w.heap.size) (k:=0) (i:=0) (j:=1) (v := .slice a n c) (by omega) (by omega) rfl rfl rfl (fun W hb=>(HBx.out W hb).1) n c a rfl _ rfl,QhX (j:=2) (n:=(kk:Int)) (by omega) rfl rfl,
             QhV (j:=3) (i:=1) (k:=2) (v := .slice a n c) (u := .int .i64 kk) (l:=A) (by omega) (by omega) (by omega) rfl rfl rfl rfl rfl HA.out _ _ rfl rfl,QfK (bx:=w.heap.size) (k:=1) (j:=4) (by omega) rfl (by omega) rfl,QhW (bx:=w.heap.size) (k:=1) (i:=4) (j:=5) (v := .slice b m d) (by omega) (by omega) rfl rfl rfl (fun W hb=>(HBx.out W hb).2) m d b rfl _ rfl,QhX (j:=6) (n:=(kk:Int)) (by omega) rfl rfl,
             QhV (j:=7) (i:=5) (k:=6) (v := .slice b m d) (u := .int .i64 kk) (l:=B) (by omega) (by omega) (by omega) rfl rfl rfl rfl rfl HB.out _ _ rfl rfl,QpX rfl,QpY rfl,Qn6 HAB.out.2.2.1 rfl rfl rfl,Qn7 HAB.out.2.2.2 rfl rfl rfl,trivial⟩ rfl rfl ?_
          intro p8 p9 w8 x8 x9 g8 g9 hne hb8;simp only[Uk]
          go_simp
          refine hK8 _ _ ?_
          clear hK8;obtain⟨j,hj⟩:=Ze ((sgo ks ⟨l,l2⟩ i1 k).2);obtain⟨r9,hr9⟩:=Ze (!decide (A=B) && ch ks j)
          have HJ:Hid ((sgo ks ⟨l,l2⟩ i1 k).2=j∧(!decide (A=B) && ch ks j)=r9):=⟨hj,hr9⟩
          have HU8:Hid (Upo (fun x=>x=q) w w8):=HS.out.up.next hb8
          have HC8:Hid (Chs w8 q ao kc ks j):=by have:=HS.out.chs;rw[hj] at this;exact this.same (hb8.block q this.lt)
          have HX8:Hid (Sx w8 p8 A∧Sx w8 p9 B∧wr.heap.size<=p8∧wr.heap.size<=p9∧p8≠p9∧Bl wr w8):=⟨x8,x9,g8,g9,hne,hb8⟩;obtain⟨j2,hj2⟩:=Ze (if A=B then j else j+1)
          have HJ2:Hid ((if A=B then j else j+1)=j2):=hj2
          clear hj hr9 hj2 g8 g9 hne hb8 HA HB HBx
          go_upto_region 9 with (fail)
          go_cut [52] from 27 to 51 (fun x wx=>x= .bool r9∧Chs wx q ao kc ks j2∧Upo (fun x=>x=q) w8 wx)
          case first=>
            by_cases e:A=B
            · have hr:false=r9:=by rw[<-HJ.out.2];simp[e]
              have hi:j=j2:=by rw[<-HJ2.out,Lf e]
              subst hr hi;have e9:decide (A=B) = !false:=by simp[e]
              clear e
              go_wp2_with (first
                | (refine QS (by rfl) _ (by rfl) p8 A (by rfl) x8 ?_)
                | (refine QS (by rfl) _ (by rfl) p9 B (by rfl) x9 ?_)
                | (refine J3 (by rfl) _ _ (by rfl) A B (by rfl) (by rfl) HAB.out.2.2.1 HAB.out.2.2.2 false e9 ?_))
              go_meet
              case rel=>exact⟨rfl,HC8.out,Upo.refl _ _⟩
            · have hr:ch ks j=r9:=by rw[<-HJ.out.2];simp[e]
              have hi:j+1=j2:=by rw[<-HJ2.out,Le e]
              have HX:=JQ w8 q ao kb ko kc ks j HC8.out (HG.out w8 HU8.out).2.2 HH.out.2.2.2.1 r9 hr;subst hi;clear hr;have e9:decide (A=B) = !true:=by simp[e]
              clear e
              go_wp2_with (first
                | (refine QS (by rfl) _ (by rfl) p8 A (by rfl) x8 ?_)
                | (refine QS (by rfl) _ (by rfl) p9 B (by rfl) x9 ?_)
                | (refine J3 (by rfl) _ _ (by rfl) A B (by rfl) (by rfl) HAB.out.2.2.1 HAB.out.2.2.2 true e9 ?_)
                | (go_at_call 103;with_reducible refine HX.mono ?_;rintro e w9 ⟨rfl,hc9,hu9⟩))
              go_meet
              case rel=>exact⟨rfl,hc9,hu9⟩
          case rest=>
            obtain⟨rfl,hc9,hu9⟩:=hcut;obtain⟨w9,hw9⟩:∃W,W=wc:=⟨_,rfl⟩;subst hw9;have hq:q<wr.heap.size:=by have:=HH.out.2.2.2.2.2.2.2.2;have:=HS.out.up.size;omega
            have y8:Sx w9 p8 A:=x8.same (hu9.block p8 x8.ty.lt (fun e=>by have:=HX8.out.2.2.1;omega))
            have y9:Sx w9 p9 B:=x9.same (hu9.block p9 x9.ty.lt (fun e=>by have:=HX8.out.2.2.2.1;omega))
            obtain⟨S,hS⟩:=Ze (if r9 then A else B)
            have HSS:Hid ((if r9 then A else B)=S):=hS
            have HC9:Hid (Chs w9 q ao kc ks j2∧Upo (fun x=>x=q) w8 w9∧q<wr.heap.size):=⟨hc9,hu9,hq⟩
            clear hS hc9 hu9 hq x8 x9
            go_upto_if 52 with (fail)
            go_cut [53] from 54 to 54 (fun x wx=>Sx wx p9 S∧Upo (fun x=>x=p9) w9 wx)
            case first=>
              cases r9
              · have e:B=S:=by simpa using HSS.out
                subst e;go_wp2
                go_meet
                case rel=>exact⟨y9,Upo.refl _ _⟩
              · have e:A=S:=by simpa using HSS.out
                subst e
                go_wp2_with (first
                  | (refine QS (by rfl) _ (by rfl) p8 A (by rfl) y8 ?_)
                  | (refine Y4 (by rfl) _ _ (by rfl) p9 B A (by rfl) (by rfl) y9 HAB.out.2.2.1 ?_;intro w10 y10 hu10 hz10))
                go_meet
                case rel=>exact⟨y10,hu10⟩
            case rest=>
              obtain⟨y10,hu10⟩:=hcut;obtain⟨w10,hw10⟩:∃W,W=wc:=⟨_,rfl⟩;subst hw10;obtain⟨X,hX⟩:=Ze ((sgo ks ⟨l,l2⟩ i1 k).1);have hXl:X.length=kk:=by rw[<-hX,QaD,HKK.out]
              obtain⟨e,he⟩:=Ze (min kk N);have he1:(0:Int)<=(e:Int):=by omega
              have he2:(e:Int)<=(N:Int):=by omega
              have hmin:(if N<kk then (N:Int) else (kk:Int))=(e:Int):=by split <;> omega
              obtain⟨c0,hc0⟩:=Ze (Nat.min 64 (N-e));have hc0':min 64 (N-e)=c0:=hc0;have HGR:Hid (w2.heap.size≠q∧w2.heap.size≠p8∧w2.heap.size≠p9∧w.heap.size≠p9):=by
                have h1:=HS0.out.2;have h2:=HH.out.2.2.2.2.2.2.2.2;have h3:=(HS.out.row.ty rfl).lt;have h4:=(Array.getElem?_eq_some_iff.1 HS.out.box).1
                have h5:=HX8.out.2.2.1;have h6:=HX8.out.2.2.2.1;exact⟨by omega,by omega,by omega,by omega⟩
              have keep:∀x,x<wr.heap.size->x≠q->w10.heap[x]? = wr.heap[x]? := fun x hx hxq=>by
                obtain⟨_,_,h5,h6,_,hb8⟩:=HX8.out;have hu9:=HC9.out.2.1;exact(hu10.block x (by have:=hb8.size;have:=hu9.size;omega) (fun e=>by omega)).trans ((hu9.block x (by have:=hb8.size;omega) hxq).trans (hb8.block x hx))
              have r10:Rw w10.drew (Zp w2.heap.size) w2.heap.size N (JV X N):=by
                have:=HS.out.row;rw[hX] at this;exact this.same (W:=w10.drew) fun _=>keep _ (this.ty rfl).lt HGR.out.1
              have y10':Sx w10.drew p9 S:=y10.same (W:=w10.drew) rfl;obtain⟨ax,hx⟩:=Ze (if N=e then some (⟨w2.heap.size,0,none⟩:Addr) else some (⟨w2.heap.size,e,none⟩:Addr))
              have hfirst:(Builtin.firstCells 1 c0 (.slice (Zp p9) 64 64)).run prog w10.drew= .ok (cY (S.take c0)).toArray w10.drew:=by
                have hl:=y10'.len;refine run_firstCells_some w10.drew 1 c0 _ 64 64 (cY (S.take c0)) (by rw[Qo];simp;omega) (fun t u hu=> ?_)
                rw[Addr.add_mid];refine y10'.rng t u ?_
                rw[cY,NK,LT] at hu
                split at hu
                · exact hu
                · cases hu
              have HC:=Qay w10.drew 3 127 (d:=ax) (gd:=w2.heap.size) (od:=e) (dLen:=N-e) (dCap:=N-e) (x := .slice (Zp p9) 64 64) (t:=S.take c0) (fun w'=>rfl) hc0 (by have:=y10'.len;simp;omega) hfirst
                (fun h0=>⟨by rw[<-hx,Le (by omega)],fun t ht=>by
                  have:=r10.thr rfl (e+t) (by omega)
                  rwa [Ll] at this⟩)
              have HNX:Hid (Sy w w.heap.size w2.heap.size q (.slice a n c) (.slice b m d) s ao kc ks ⟨l,l2⟩ i1 N (k+1) (w10.drew.setCells w2.heap.size e (cY (S.take c0)))):=by
                have hl:=y10'.len;have hsg:sgo ks ⟨l,l2⟩ i1 (k+1)=(X++S,j2):=by
                  obtain⟨hA,hB,_,_⟩:=HAB.out;simp only[sgo];rw[hA,hB,hX,HJ.out.1,<-HSS.out,<-HJ.out.2,<-HJ2.out]
                  by_cases eab:A=B
                  · simp[eab]
                  · simp[eab]
                have hu:Upo (fun x=>x=q∨x=w2.heap.size) wr (w10.drew.setCells w2.heap.size e (cY (S.take c0))):=by
                  obtain⟨_,_,h5,h6,_,hb8⟩:=HX8.out;have hu9:=HC9.out.2.1;refine Ui (.inl (.inr rfl)) _ _ _ (Upo.drew ⟨hu10.os.trans (hu9.os.trans hb8.os),hu10.tape.trans (hu9.tape.trans hb8.tape),hu10.output.trans (hu9.output.trans hb8.output),by have:=hb8.size;have:=hu9.size;have:=hu10.size;omega,fun x hx hn=>keep x hx (fun e=>hn (.inl e))⟩)
                have h0:=HS0.out.2;have hgr:=HGR.out;refine⟨HS.out.up.trans hu (fun x hx hq=>hq.resolve_right (by omega)),(hu.block _ (Array.getElem?_eq_some_iff.1 HS.out.box).1 (fun e=>by have:=HH.out.2.2.2.2.2.2.2.2;rcases e with e|e <;> omega)).trans HS.out.box,?_,?_⟩
                · rw[hsg];have:=r10.over e (S.take c0) (by rw[QlK];simp;omega)
                  have hlc:(S.take c0).length=c0:=by simp;omega
                  rw[hlc,Qje X S N e c0 (by rw[hXl];exact he) (by rw[hl];exact hc0')] at this
                  exact this
                · rw[hsg];have hch:=HC9.out.1;refine hch.same ?_
                  refine((Ui (S:=fun x=>x=w2.heap.size) (.inl rfl) _ _ _ (Upo.refl _ w10.drew)).block q ?_ (fun e=>hgr.1 e.symm)).trans (hu10.block q hch.lt (fun e=>by have:=HX8.out.2.2.2.1;have:=HC9.out.2.2;omega))
                  have:=hu10.size;have:=hch.lt
                  show q<w10.heap.size
                  omega
              have hkk:IntKind.i64.wrap ((kk:Int)+64)=((64*(k+1):Nat):Int):=by
                have h1:=HM.out;have h2:=HH.out.2.2.2.2.2.2.1;have h3:=HH.out.2.2.2.2.2.2.2.1;have h4:=HKK.out;rw[Lq];omega
              have HF:Hid (k<NS):=HM.out.2.1;clear hXl he hc0 hc0' keep r10 y10' hfirst y10 hu10 HX8 HC9 HGR HJ HJ2 HAB HSS HS HU8 HC8 y8 y9 hX
              go_upto_region 11 with (fail)
              go_region_law (first
                | (refine Qdr (by rfl) _ _ _ _ (by rfl) (by rfl) (by rfl) HC ?_))
              all_goals
                obtain⟨w11,hw11⟩:=Ze (w10.drew.setCells w2.heap.size e (cY (S.take c0)));rw[hw11] at HNX ⊢;clear hw11 HC hx;go_wp2
                go_roundg (NS-(k+1))
                case rel=>go_light;exact⟨k+1,by have:=HF.out;omega,rfl,by go_num,HNX.out⟩
                case measure=>go_light;have:=HF.out;omega
        · have hc1:¬((kk:Int)<(M:Int)):=by omega
          obtain rfl:k=NS:=by omega
          have HP:Hid (P.1.length=N∧JV (sgo ks ⟨l,l2⟩ i1 k).1 N=P.1∧(sgo ks ⟨l,l2⟩ i1 k).2=P.2):=by
            have e1:=hP.out;simp only[stay,HN.out.1,HNS.out] at e1;have hNM:N<=64*k:=by
              have:=HN.out.2
              cases r
              · simp at this;omega
              · simp at this;omega
            have e2:P.1=(sgo ks ⟨l,l2⟩ i1 k).1.take N:=by rw[<-e1]
            refine⟨by rw[e2,Lx,QaD];omega,by rw[Qjd _ _ (by rw[QaD];exact hNM),e2],by rw[<-e1]⟩
          clear hkk hM hNS hlt hk;go_wp2
          go_ret
          obtain⟨e1,e2,e3⟩:=HP.out;refine⟨w2.heap.size,by rw[e1];rfl,by have:=HS0.out.2;omega,?_,?_,HS.out.up⟩
          · rw[e1,<-e2];exact HS.out.row
          · rw[<-e3];exact HS.out.chs
end St
end Go.Proofs.YtoblgjledefdbaaGreatDoor
