/- Own work. -/
import Derived.Test.YtoblgjledefdbaaGreatDoorQc10
set_option maxRecDepth 100000
set_option maxHeartbeats 2000000
namespace Go.Proofs.YtoblgjledefdbaaGreatDoor
open Go.RowKit
open Go.Proofs.Tryz
namespace St
def fv(a:OA)(n c:Nat)(b:OA)(m d:Nat)(s:Nat):Value := .agg #[.slice a n c,.slice b m d,.int .i64 s]
def wr(l:List UInt8)(k:Nat)(t:List UInt8):List UInt8:=l.take k++t++l.drop (k+t.length)
theorem Qlx(l:List UInt8)(k:Nat)(t:List UInt8)(hk:k<=l.length)(c:Nat)(hc:min t.length (l.length-k)=c):(l.take k++t.take c++l.drop (k+(t.take c).length))++t.drop c=wr l k t:=by
 unfold wr;have hl:(t.take c).length=c:=by simp;omega
 rw[hl]
 by_cases h:t.length<=l.length-k
 ·have e:c=t.length:=by omega
  subst e;simp
 ·have e1:l.drop (k+c)=[]:=Nk (by omega)
  have e2:l.drop (k+t.length)=[]:=Nk (by omega)
  rw[e1,e2];simp
theorem Qpi(l:List UInt8)(k:Nat)(t:List UInt8)(hk:k<=l.length):(wr l k t).length=max l.length (k+t.length):=by
 simp only[wr,List.length_append,List.length_take,List.length_drop];omega
theorem Qf3{w:World}{a:OA}{g c k n:Nat}{l:List UInt8}(h:Rw w a g c l)(hk:k<=l.length){ax:OA}(hx:(if c=k then a else a.map (·.add k))=ax)(hn:l.length=n):(ax=a∨ax=a.map (·.add k))∧(ax=a->k=0∨n-k=0):=by
 have:=h.le
 by_cases e:c=k
 ·rw[Lm e] at hx;exact⟨.inl hx.symm,fun _=> .inr (by omega)⟩
 ·rw[Ld e] at hx;refine⟨.inr hx.symm,fun q=> ?_⟩
  rw[<-hx] at q
  rcases h.ptr with p|p
  ·have:=h.empty p;rw[this] at hn;exact .inr (by simp at hn;omega)
  ·rw[p,IL,Addr.add_mid,Lo] at q;injection q with q
   injection q with _ q _
   exact .inl q
theorem Qbf(w:World)(a:OA)(g n c:Nat)(l:List UInt8)(b:OA)(m d s k r:Nat)(t:BA)(h:Rw w a g c l)(hn:l.length=n)(hk:k<=n)(hr:min s k=r)(hl:n+t.size<=140737488355328) :
  Calls prog 344 #[.agg #[.slice a n c,.slice b m d,.int .i64 s],.int .i64 k,.string t] w fun e w'=> ∃a' g' c',e= .returned (fv a' (wr l k t.data.toList).length c' b m d r)∧Rw w' a' g' c' (wr l k t.data.toList)∧Upo (fun b=>a=Zp g∧b=g) w w'∧((a'=a∧g'=g)∨(w.heap.size<=g'∧g'<w'.heap.size))∧(a=Zp g->Ty w' g 5):=by
 have h1:(0:Int)<=(k:Int):=by omega
 have h2:(k:Int)<=(n:Int):=by omega
 have h3:Hid (min s k=r):=hr;obtain⟨ax,hx⟩:∃ax,(if c=k then a else a.map (·.add k))=ax:=⟨_,rfl⟩
 obtain⟨cc,hcc⟩:∃cc,Nat.min t.size (n-k)=cc:=⟨_,rfl⟩;have hax:=Qf3 h (by omega) hx hn
 have HC:=fun(W:World) (hW:Rw W a g c l) (ty:TypeId)=>QbV (n:=n-k) W ty (by omega) hW hax.1 hax.2 hcc (c-k)
 have HH:Hid (Rw w a g c l):=h;clear hr h hax
 go_enter func344,ntmps344;have r1:Rw ((w.alloc (.cells #[.slice a n c,.slice b m d,.int .i64 s] 129)).alloc (.cells #[.slice none 0 0,.slice none 0 0,.int .i64 0] 129)) a g c l:=HH.out.next (bal (bal (Lb _ _) _) _) (La _);have HC1:=fun ty=>HC _ r1 ty
 clear HC r1
 go_upto_region 2 with (fail)
 obtain⟨w1,hw1⟩:∃W,((w.alloc (.cells #[.slice a n c,.slice b m d,.int .i64 s] 129)).alloc (.cells #[.slice none 0 0,.slice none 0 0,.int .i64 0] 129))=W:=⟨_,rfl⟩;have hb1:Below w.heap.size w w1:=by rw[<-hw1];exact bal (bal (Lb _ _) _) _
 have hz1:w1.heap.size=w.heap.size+2:=by rw[<-hw1];simp
 have k1:w1.heap[w.heap.size]? = some (.cells #[.slice a n c,.slice b m d,.int .i64 s] 129 (0,0)):=by rw[<-hw1];exact new0 _ _ _
 have k2:w1.heap[w.heap.size+1]? = some (.cells #[.slice none 0 0,.slice none 0 0,.int .i64 0] 129 (0,0)):=by rw[<-hw1];exact new2 _ _ _
 rw[hw1];clear hw1 HC1;have r1:Rw w1 a g c l:=HH.out.next hb1 (La _);have hcc2:cc<=t.size∧cc<=n-k∧min t.size (n-k)=cc:=⟨by rw[<-hcc];exact I0 _ _,by rw[<-hcc];exact Wp _ _,hcc⟩
 have q0:(0:Int)<=(cc:Int):=by omega
 have q1:(cc:Int)<=(t.size:Int):=by omega
 have hlt:(t.data.toList.take cc).length=cc:=by rw[LA,Qe];omega
 have r2:=r1.over k (t.data.toList.take cc) (by omega)
 have hu:Upo (fun b=>a=Zp g∧b=g) w (w1.setCells g k (cY (t.data.toList.take cc)))∧Upo (fun b=>a=Zp g∧b=g) w1 (w1.setCells g k (cY (t.data.toList.take cc))):=by
  rcases r1.ptr with e|e
  ·have:t.data.toList.take cc=[]:=List.length_eq_zero_iff.1 (by rw[hlt];have:=r1.empty e;rw[this] at hn;simp at hn;omega)
   rw[this];exact⟨Upo.of hb1,Upo.refl _ _⟩
  ·exact⟨O6 (.inl ⟨e,rfl⟩) _ _ _ (Upo.of hb1),O6 (.inl ⟨e,rfl⟩) _ _ _ (Upo.refl _ _)⟩
 obtain⟨w2,hw2⟩:∃W,w1.setCells g k (cY (t.data.toList.take cc))=W:=⟨_,rfl⟩;rw[hw2] at r2 hu ⊢;clear hw2;have ng:a=Zp g->g<w.heap.size:=fun e=>(HH.out.ty e).lt
 have j1:w2.heap[w.heap.size]? = _:=(hu.2.block _ (by omega) (fun q=>by have:=ng q.1;omega)).trans k1
 have j2:w2.heap[w.heap.size+1]? = _:=(hu.2.block _ (by omega) (fun q=>by have:=ng q.1;omega)).trans k2
 obtain⟨t2,ht2⟩:∃t2,t.extract cc t.size=t2:=⟨_,rfl⟩;have e2:t2.data.toList=t.data.toList.drop cc:=by rw[<-ht2];exact UO t cc
 have r3:Rw w2.drew a g c _:=r2.same (fun _=>rfl)
 have hln:(l.take k++t.data.toList.take cc++l.drop (k+(t.data.toList.take cc).length)).length=n:=by simp only[List.length_append,List.length_take,List.length_drop,Qe];omega
 obtain⟨a',g',c',w3,hr,r4,u3,hloc,ty3⟩:=r3.app 9 127 (.string t2) t2.data.toList (Qld _ t2) (by rw[hln,e2,LS,Qe];omega)
 rw[hln] at hr;rw[e2,Qlx l k t.data.toList (by omega) cc (by rw[Qe];omega)] at hr r4
 obtain⟨N,hN⟩:∃N,(wr l k t.data.toList).length=N:=⟨_,rfl⟩;rw[hN] at hr;have HN:Hid ((wr l k t.data.toList).length=N):=hN;have hc0:w2.cell? ⟨w.heap.size,0,none⟩=some (.slice a n c):=by rw[cell_of_row w2 w.heap.size 0 _ _ (0,0) j1];rfl
 have y1:w3.heap[w.heap.size]? = _:=(u3.block _ (by have:=hu.2.size;show _<w2.heap.size;omega) (fun q=>by have:=ng q.1;omega)).trans j1
 have hfz:w3.frozen? ⟨w.heap.size,0,none⟩=false:=frozen_of_row w3 w.heap.size 0 _ _ y1;have hs3:w3.cell? ⟨w.heap.size,0,none⟩=some (.slice a n c):=by rw[cell_of_row w3 w.heap.size 0 _ _ (0,0) y1];rfl
 have y2:w3.heap[w.heap.size+1]? = _:=(u3.block _ (by have:=hu.2.size;show _<w2.heap.size;omega) (fun q=>by have:=ng q.1;omega)).trans j2
 have z1:(w3.setCell ⟨w.heap.size,0,none⟩ (.slice a' N c')).heap[w.heap.size]? = some (.cells #[.slice a' N c',.slice b m d,.int .i64 s] 129 (0,0)):=Lp w3 w.heap.size 0 _ _ _ y1;have z2:(w3.setCell ⟨w.heap.size,0,none⟩ (.slice a' N c')).heap[w.heap.size+1]? = _:=(Below.heap_setCell _ _ _ _ (by simp)).trans y2
 have HF:Hid (Rw w3 a' g' c' (wr l k t.data.toList)∧Upo (fun b=>a=Zp g∧b=g) w w3∧((a'=a∧g'=g)∨(w2.heap.size<=g'∧g'<w3.heap.size))∧w.heap.size+2<=w2.heap.size∧(a=Zp g->g<w.heap.size)∧(a=Zp g->Ty w3 g 5)):=⟨r4,hu.1.trans (show Upo _ w2 w3 from⟨u3.os,u3.tape,u3.output,u3.size,u3.block⟩) (fun _ _ q=>q),hloc.imp id (fun q=>⟨If q.1.symm,q.2⟩),by have:=hu.2.size;omega,ng,ty3⟩
 clear r4 hu u3 hloc ty3 ng r1 r2 r3 k1 k2 j1 j2 hN hln e2 HH hcc2 hlt hb1 hz1
 go_region_law (first
  | (refine QeV (by rfl) _ _ _ _ (by rfl) (by rfl) (by rfl) hr ?_))
 obtain⟨w4,hw4⟩:∃W,w3.setCell ⟨w.heap.size,0,none⟩ (.slice a' N c')=W:=⟨_,rfl⟩;have HW4:Hid (w3.setCell ⟨w.heap.size,0,none⟩ (.slice a' N c')=w4):=hw4;rw[hw4] at z1 z2;have b0:w4.cell? ⟨w.heap.size,0,none⟩=some (.slice a' N c'):=by rw[cell_of_row w4 w.heap.size 0 _ _ (0,0) z1];rfl
 have b1:w4.cell? ⟨w.heap.size,1,none⟩=some (.slice b m d):=by rw[cell_of_row w4 w.heap.size 1 _ _ (0,0) z1];rfl
 have b2:w4.cell? ⟨w.heap.size,2,none⟩=some (.int .i64 s):=by rw[cell_of_row w4 w.heap.size 2 _ _ (0,0) z1];rfl
 have fz:=fun j=>frozen_of_row w4 w.heap.size j _ _ z1
 have fy:=fun j=>frozen_of_row w4 (w.heap.size+1) j _ _ z2
 have d0:w4.cell? ⟨w.heap.size+1,0,none⟩=some (.slice none 0 0):=by rw[cell_of_row w4 (w.heap.size+1) 0 _ _ (0,0) z2];rfl
 have d1:w4.cell? ⟨w.heap.size+1,1,none⟩=some (.slice none 0 0):=by rw[cell_of_row w4 (w.heap.size+1) 1 _ _ (0,0) z2];rfl
 have d2:w4.cell? ⟨w.heap.size+1,2,none⟩=some (.int .i64 0):=by rw[cell_of_row w4 (w.heap.size+1) 2 _ _ (0,0) z2];rfl
 rw[hw4];clear hw4 z1 hs3 hfz hc0 y1 y2 hr hx ht2;have Z2:Hid (w4.heap[w.heap.size+1]? = some (.cells #[.slice none 0 0,.slice none 0 0,.int .i64 0] 129 (0,0))):=z2;have HE:∀x:Nat,Hid (∀w5:World,(((w4.setCell ⟨w.heap.size,2,none⟩ (.int .i64 x)).setCell ⟨w.heap.size+1,0,none⟩ (.slice a' N c')).setCell ⟨w.heap.size+1,1,none⟩ (.slice b m d)).setCell ⟨w.heap.size+1,2,none⟩ (.int .i64 x)=w5->(w5.cell? ⟨w.heap.size+1,0,none⟩=some (.slice a' N c')∧w5.cell? ⟨w.heap.size+1,1,none⟩=some (.slice b m d)∧w5.cell? ⟨w.heap.size+1,2,none⟩=some (.int .i64 x))∧Rw w5 a' g' c' (wr l k t.data.toList)∧Upo (fun b=>a=Zp g∧b=g) w w5∧((a'=a∧g'=g)∨(w.heap.size<=g'∧g'<w5.heap.size))∧(a=Zp g->Ty w5 g 5)):=fun x w5 h5=>by
  obtain⟨r4,u4,hloc,hz,ng,ty3⟩:=HF.out;have q:=QP (Qdv ((Below.heap_setCell w4 ⟨w.heap.size,2,none⟩ (.int .i64 x) (w.heap.size+1) (by simp)).trans Z2.out) (.slice a' N c') (.slice b m d) (.int .i64 x))
  subst h5;refine⟨q,?_⟩
  rw[<-HW4.out];have n1:a'=Zp g'->g'≠w.heap.size∧g'≠w.heap.size+1:=fun e=>by
   rcases hloc with ⟨q1,q2⟩|q
   ·have:=ng (by rw[<-q1,e,q2]);omega
   ·omega
  exact⟨((((r4.off _ _ fun e=>(n1 e).1).off _ _ fun e=>(n1 e).1).off _ _ fun e=>(n1 e).2).off _ _ fun e=>(n1 e).2).off _ _ fun e=>(n1 e).2,((((u4.set _ _ _ (.inr (by omega))).set _ _ _ (.inr (by omega))).set _ _ _ (.inr (by omega))).set _ _ _ (.inr (by omega))).set _ _ _ (.inr (by omega)),hloc.imp id fun q=>⟨by omega,by simpa using q.2⟩,fun e=>(((((ty3 e).set _ _ _).set _ _ _).set _ _ _).set _ _ _).set _ _ _⟩
 clear z2;go_wp2
 ·have e:k=r:=by have:=h3.out;omega
  subst e;obtain⟨w5,hw5⟩:∃W,(((w4.setCell ⟨w.heap.size,2,none⟩ (.int .i64 k)).setCell ⟨w.heap.size+1,0,none⟩ (.slice a' N c')).setCell ⟨w.heap.size+1,1,none⟩ (.slice b m d)).setCell ⟨w.heap.size+1,2,none⟩ (.int .i64 k)=W:=⟨_,rfl⟩;obtain⟨⟨s0,s1,s2⟩,q⟩:=(HE k).out w5 hw5;rw[hw5];refine LK (v:=fv a' N c' b m d k) (by simp[results,results344,go_sem,fv,s0,s1,s2]) rfl ⟨a',g',c',by rw[HN.out],q⟩
 ·have e:s=r:=by have:=h3.out;omega
  subst e;obtain⟨w5,hw5⟩:∃W,(((w4.setCell ⟨w.heap.size,2,none⟩ (.int .i64 s)).setCell ⟨w.heap.size+1,0,none⟩ (.slice a' N c')).setCell ⟨w.heap.size+1,1,none⟩ (.slice b m d)).setCell ⟨w.heap.size+1,2,none⟩ (.int .i64 s)=W:=⟨_,rfl⟩;obtain⟨⟨s0,s1,s2⟩,q⟩:=(HE s).out w5 hw5;rw[hw5];refine LK (v:=fv a' N c' b m d s) (by simp[results,results344,go_sem,fv,s0,s1,s2]) rfl ⟨a',g',c',by rw[HN.out],q⟩
theorem QhC(w:World)(a:OA)(g n c:Nat)(l:List UInt8)(b:OA)(h m d s:Nat)(l2:List UInt8)(ra:Rw w a g c l)(rb:Rw w b h d l2)(hn:l.length=n)(hm:l2.length=m)(hs1:s<=n)(hs2:s<=m)(hsame:l2.take s=l.take s)(hl:n<=140737488355328) :
  Calls prog 101 #[.agg #[.slice a n c,.slice b m d,.int .i64 s]] w fun e w'=> ∃b' h' d',e= .returned (fv a n c b' n d' n)∧Rw w' b' h' d' l∧Upo (fun x=>b=Zp h∧x=h) w w'∧((b'=b∧h'=h)∨(w.heap.size<=h'∧h'<w'.heap.size))∧(b=Zp h->Ty w' h 5):=by
 have h1:(0:Int)<=(s:Int):=by omega
 have h2:(s:Int)<=(n:Int):=by omega
 have h3:(s:Int)<=(d:Int):=by have:=rb.le;omega
 obtain⟨ax,hx⟩:∃ax,(if c=s then a else a.map (·.add s))=ax:=⟨_,rfl⟩
 obtain⟨hx1,hx2⟩:=Qf3 ra (by omega) hx hn
 have HH:Hid (Rw w a g c l∧Rw w b h d l2):=⟨ra,rb⟩;clear ra rb
 go_enter func101,ntmps101
 go_upto_region 1 with (fail)
 obtain⟨w1,hw1⟩:∃W,((w.alloc (.cells #[.slice a n c,.slice b m d,.int .i64 s] 129)).alloc (.cells #[.slice none 0 0,.slice none 0 0,.int .i64 0] 129))=W:=⟨_,rfl⟩;have hb1:Below w.heap.size w w1:=by rw[<-hw1];exact bal (bal (Lb _ _) _) _
 have hz1:w1.heap.size=w.heap.size+2:=by rw[<-hw1];simp
 have k1:w1.heap[w.heap.size]? = some (.cells #[.slice a n c,.slice b m d,.int .i64 s] 129 (0,0)):=by rw[<-hw1];exact new0 _ _ _
 have k2:w1.heap[w.heap.size+1]? = some (.cells #[.slice none 0 0,.slice none 0 0,.int .i64 0] 129 (0,0)):=by rw[<-hw1];exact new2 _ _ _
 rw[hw1];clear hw1;have r1:Rw w1.drew a g c l:=(HH.out.1.next hb1 (La _)).same (fun _=>rfl)
 have r2:Rw w1.drew b h d (l2.take s):=((HH.out.2.next hb1 (La _)).cut (k:=s) (by omega)).same (W:=w1.drew) (fun _=>rfl)
 have ng:b=Zp h->h<w.heap.size:=fun e=>(HH.out.2.ty e).lt
 have hl2:(l2.take s).length=s:=by simp;omega
 have hl3:(l.drop s).length=n-s:=by simp;omega
 have hsrc:=r1.src (k:=s) (by omega) hx1 (fun e=>(hx2 e).imp id (fun q=>by omega)) (c-s)
 rw[hn] at hsrc;obtain⟨b',h',d',w3,hr,r4,u3,hloc,ty3⟩:=r2.app 127 127 (.slice ax (n-s) (c-s)) (l.drop s) hsrc (by rw[hl2,hl3];omega)
 have el:l2.take s++l.drop s=l:=by rw[hsame,NA]
 rw[el,hn,hl2] at hr;rw[el] at r4;obtain⟨c0,c1,c2⟩:=QP k1;have y1:w3.heap[w.heap.size]? = _:=(u3.block _ (by show _<w1.heap.size;omega) (fun q=>by have:=ng q.1;omega)).trans k1
 have y2:w3.heap[w.heap.size+1]? = _:=(u3.block _ (by show _<w1.heap.size;omega) (fun q=>by have:=ng q.1;omega)).trans k2
 have hfz:w3.frozen? ⟨w.heap.size,1,none⟩=false:=frozen_of_row w3 w.heap.size 1 _ _ y1;obtain⟨_,hs3,_⟩:=QP y1;have z1:(w3.setCell ⟨w.heap.size,1,none⟩ (.slice b' n d')).heap[w.heap.size]? = some (.cells #[.slice a n c,.slice b' n d',.int .i64 s] 129 (0,0)):=Lp w3 w.heap.size 1 _ _ _ y1;have z2:(w3.setCell ⟨w.heap.size,1,none⟩ (.slice b' n d')).heap[w.heap.size+1]? = _:=(Below.heap_setCell _ _ _ _ (by simp)).trans y2
 have HF:Hid (Rw w3 b' h' d' l∧Upo (fun x=>b=Zp h∧x=h) w w3∧((b'=b∧h'=h)∨(w.heap.size+2<=h'∧h'<w3.heap.size))∧(b=Zp h->h<w.heap.size)∧(b=Zp h->Ty w3 h 5)):=⟨r4,(Upo.of hb1).trans (show Upo _ w1 w3 from⟨u3.os,u3.tape,u3.output,u3.size,u3.block⟩) (fun _ _ q=>q),hloc.imp id (fun q=>⟨by have:=q.1;show _<=_;rw[this];show _<=w1.heap.size;omega,q.2⟩),ng,ty3⟩
 clear r4 u3 hloc ty3 ng r1 r2 k1 k2 HH hb1 hz1 hsrc hsame el hl2 hl3 hx1 hx2 hm hs1 hs2
 go_region_law (first
  | (refine QeV (by rfl) _ _ _ _ (by rfl) (by rfl) (by rfl) hr ?_))
 all_goals
  obtain⟨w4,hw4⟩:∃W,w3.setCell ⟨w.heap.size,1,none⟩ (.slice b' n d')=W:=⟨_,rfl⟩;have HW4:Hid (w3.setCell ⟨w.heap.size,1,none⟩ (.slice b' n d')=w4):=hw4;rw[hw4] at z1 z2;obtain⟨b0,b1,b2⟩:=QP z1;have fz:=fun j=>frozen_of_row w4 w.heap.size j _ _ z1
  have fy:=fun j=>frozen_of_row w4 (w.heap.size+1) j _ _ z2
  obtain⟨d0,d1,d2⟩:=QP z2;rw[hw4];clear hw4 z1 hs3 hfz c0 c1 c2 y1 y2 hr hx;have Z2:Hid (w4.heap[w.heap.size+1]? = some (.cells #[.slice none 0 0,.slice none 0 0,.int .i64 0] 129 (0,0))):=z2;clear z2;go_wp2;obtain⟨w5,hw5⟩:∃W,(((w4.setCell ⟨w.heap.size,2,none⟩ (.int .i64 n)).setCell ⟨w.heap.size+1,0,none⟩ (.slice a n c)).setCell ⟨w.heap.size+1,1,none⟩ (.slice b' n d')).setCell ⟨w.heap.size+1,2,none⟩ (.int .i64 n)=W:=⟨_,rfl⟩;obtain⟨r4,u4,hloc,ng,ty3⟩:=HF.out;have q:=QP (Qdv ((Below.heap_setCell w4 ⟨w.heap.size,2,none⟩ (.int .i64 n) (w.heap.size+1) (by simp)).trans Z2.out) (.slice a n c) (.slice b' n d') (.int .i64 n))
  rw[hw5] at q;rw[hw5];obtain⟨s0,s1,s2⟩:=q;refine LK (v:=fv a n c b' n d' n) (by simp[results,results101,go_sem,fv,s0,s1,s2]) rfl ⟨b',h',d',rfl,?_⟩
  rw[<-hw5,<-HW4.out];have n1:b'=Zp h'->h'≠w.heap.size∧h'≠w.heap.size+1:=fun e=>by
   rcases hloc with ⟨q1,q2⟩|q
   ·have:=ng (by rw[<-q1,e,q2]);omega
   ·omega
  exact⟨((((r4.off _ _ fun e=>(n1 e).1).off _ _ fun e=>(n1 e).1).off _ _ fun e=>(n1 e).2).off _ _ fun e=>(n1 e).2).off _ _ fun e=>(n1 e).2,((((u4.set _ _ _ (.inr (by omega))).set _ _ _ (.inr (by omega))).set _ _ _ (.inr (by omega))).set _ _ _ (.inr (by omega))).set _ _ _ (.inr (by omega)),hloc.imp id fun q=>⟨by omega,by simpa using q.2⟩,fun e=>(((((ty3 e).set _ _ _).set _ _ _).set _ _ _).set _ _ _).set _ _ _⟩
structure RdL(w:World)(ao:OA)(b off:Nat)(ks:List Bool):Prop where
 ptr:0<ks.length->ao=some ⟨b,off,none⟩
 cell:∀j,j<ks.length->w.cell? ⟨b,off+j,none⟩=some (.bool (ks.getD j false))
theorem RdL.same{w W:World}{ao:OA}{b off:Nat}{ks:List Bool}(h:RdL w ao b off ks)(hb:0<ks.length->W.heap[b]? = w.heap[b]?):RdL W ao b off ks :=
 ⟨h.ptr,fun j hj=>(LI (a:=⟨b,off+j,none⟩) (hb (by omega))).trans (h.cell j hj)⟩
theorem QgW(w:World)(ao:OA)(b off:Nat):RdL w ao b off []:=⟨fun h=>by simp at h,fun j hj=>by simp at hj⟩
structure FR where
 a:OA
 g:Nat
 c:Nat
 b:OA
 h:Nat
 d:Nat
 s:Nat
def fr0:FR:=⟨none,0,0,none,0,0,0⟩
def Ju(f:FV)(r:FR):Value:=fv r.a f.now.length r.c r.b f.syn.length r.d r.s
structure Fil(w:World)(f:FV)(r:FR):Prop where
 now:Rw w r.a r.g r.c f.now
 syn:Rw w r.b r.h r.d f.syn
 s1:r.s<=f.now.length
 s2:r.s<=f.syn.length
 sm:f.syn.take r.s=f.now.take r.s
 ap:r.a=Zp r.g->r.b=Zp r.h->r.g≠r.h
 b1:f.now.length<=268435456
 b2:f.syn.length<=268435456
def Blk(r:FR)(x:Nat):Prop:=(r.a=Zp r.g∧x=r.g)∨(r.b=Zp r.h∧x=r.h)
theorem Fil.same{w W:World}{f:FV}{r:FR}(h:Fil w f r)(hb:∀x,Blk r x->W.heap[x]? = w.heap[x]?):Fil W f r :=
 ⟨h.now.same fun e=>hb _ (.inl ⟨e,rfl⟩),h.syn.same fun e=>hb _ (.inr ⟨e,rfl⟩),h.s1,h.s2,h.sm,h.ap,h.b1,h.b2⟩
theorem Fil.blk{w:World}{f:FV}{r:FR}(h:Fil w f r){x:Nat}(hx:Blk r x):Ty w x 5:=by
 rcases hx with ⟨e,rfl⟩|⟨e,rfl⟩
 ·exact h.now.ty e
 ·exact h.syn.ty e
theorem Qjt(w:World):Fil w fz fr0:=⟨Qf0 w 0,Qf0 w 0,La _,La _,rfl,fun e=>(by cases e),Ln _,Ln _⟩
theorem QiN{x:Nat}(h:Blk fr0 x):False:=by
 rcases h with ⟨e,_⟩|⟨e,_⟩ <;> cases e
structure DV where
 free:Nat
 L:List (List UInt8×FV)
 acts:Nat
 fa:Int
 fk:Int
 ks:List Bool
 down:Bool
def QA(L:List (List UInt8×FV)):List (List UInt8):=L.map (·.1)
def mapF(L:List (List UInt8×FV))(R:List UInt8->FR):List UInt8->Option Value:=fun s=>if s∈QA L then some (Ju (Qh L s) (R s)) else none
structure Dk(w:World)(p m:Nat)(R:List UInt8->FR)(ka:OA)(kb ko kc:Nat)(D:DV)(ex:Option (List UInt8)):Prop where
 blk:w.heap[p]? = some (.cells #[.int .i64 D.free,.map (some m),.int .i64 D.acts,.int .i64 D.fa,.int .i64 D.fk,.slice ka D.ks.length kc,.bool D.down] 98 (0,0))
 mp:Mv w m (mapF D.L R)
 ord:Ord D.L
 fil:∀s∈QA D.L,some s≠ex->Fil w (Qh D.L s) (R s)
 low:∀s∈QA D.L,∀x,Blk (R s) x->Ty w x 5
 apart:∀s∈QA D.L,∀t∈QA D.L,s≠t -> ∀x,Blk (R s) x->Blk (R t) x->False
 nm:∀s∈QA D.L,s.length<=maxLen
 cnt:D.L.length<=1099511627776
 kp:RdL w ka kb ko D.ks
 kt:0<D.ks.length->Ty w kb 4
 kl:D.ks.length<=140737488355328
 fr:D.free<=9223372036854775807
 ac:D.acts<=4611686018427387904
 ft:D.fk=0
def Ut(p m:Nat)(R:List UInt8->FR)(kb:Nat)(D:DV)(x:Nat):Prop:=x=p∨x=m∨(∃s∈QA D.L,Blk (R s) x)∨(0<D.ks.length∧x=kb)
section
variable {w W:World} {p m:Nat} {R:List UInt8->FR} {ka:OA} {kb ko kc:Nat} {D:DV} {ex:Option (List UInt8)}
theorem Dk.lt(h:Dk w p m R ka kb ko kc D ex){x:Nat}(hx:Ut p m R kb D x):x<w.heap.size:=by
 rcases hx with rfl|rfl|⟨s,hs,hx⟩|⟨h0,rfl⟩
 ·exact(Array.getElem?_eq_some_iff.1 h.blk).1
 ·exact h.mp.lt
 ·exact(h.low s hs x hx).lt
 ·exact(h.kt h0).lt
theorem Dk.same(h:Dk w p m R ka kb ko kc D ex)(hb:∀x,Ut p m R kb D x->W.heap[x]? = w.heap[x]?):Dk W p m R ka kb ko kc D ex :=
 ⟨(hb p (.inl rfl)).trans h.blk,h.mp.same (hb m (.inr (.inl rfl))),h.ord,fun s hs he=>(h.fil s hs he).same fun x hx=>hb x (.inr (.inr (.inl ⟨s,hs,hx⟩))),fun s hs x hx=>(h.low s hs x hx).same (hb x (.inr (.inr (.inl ⟨s,hs,hx⟩)))),h.apart,h.nm,h.cnt,h.kp.same fun h0=>hb kb (.inr (.inr (.inr ⟨h0,rfl⟩))),fun h0=>(h.kt h0).same (hb kb (.inr (.inr (.inr ⟨h0,rfl⟩)))),h.kl,h.fr,h.ac,h.ft⟩
theorem Dk.next(h:Dk w p m R ka kb ko kc D ex)(hb:Below w.heap.size w W):Dk W p m R ka kb ko kc D ex:=h.same fun x hx=>hb.block x (h.lt hx)
theorem Dk.cells(h:Dk w p m R ka kb ko kc D ex):w.cell? ⟨p,0,none⟩=some (.int .i64 D.free)∧w.cell? ⟨p,1,none⟩=some (.map (some m))∧w.cell? ⟨p,2,none⟩=some (.int .i64 D.acts)∧w.cell? ⟨p,3,none⟩=some (.int .i64 D.fa)∧w.cell? ⟨p,4,none⟩=some (.int .i64 D.fk)∧w.cell? ⟨p,5,none⟩=some (.slice ka D.ks.length kc)∧w.cell? ⟨p,6,none⟩=some (.bool D.down) :=
 ⟨by rw[cell_of_row w p 0 _ _ (0,0) h.blk];rfl,by rw[cell_of_row w p 1 _ _ (0,0) h.blk];rfl,by rw[cell_of_row w p 2 _ _ (0,0) h.blk];rfl,by rw[cell_of_row w p 3 _ _ (0,0) h.blk];rfl,by rw[cell_of_row w p 4 _ _ (0,0) h.blk];rfl,by rw[cell_of_row w p 5 _ _ (0,0) h.blk];rfl,by rw[cell_of_row w p 6 _ _ (0,0) h.blk];rfl⟩
theorem Dk.frz(h:Dk w p m R ka kb ko kc D ex)(j:Nat):w.frozen? ⟨p,j,none⟩=false:=frozen_of_row w p j _ _ h.blk
theorem Dk.pm(h:Dk w p m R ka kb ko kc D ex):p≠m:=by
 rintro rfl;obtain⟨D0,⟨es,c,h1,_⟩,_⟩:=h.mp;rw[h.blk] at h1
 cases h1
theorem Ty.mv{w:World}{x m:Nat}{T:TypeId}{F:List UInt8->Option Value}(h:Ty w x T)(hm:Mv w m F):x≠m:=by
 rintro rfl;obtain⟨cs,fr,h⟩:=h;obtain⟨D0,⟨es,c,h1,_⟩,_⟩:=hm;rw[h] at h1
 cases h1
theorem Dk.other(h:Dk w p m R ka kb ko kc D ex){x:Nat}(hx:Ty w x 5):x≠p∧x≠m∧(0<D.ks.length->x≠kb) :=
 ⟨hx.ne ⟨_,_,h.blk⟩ (by decide),hx.mv h.mp,fun h0=>hx.ne (h.kt h0) (by decide)⟩
theorem Dk.kbp(h:Dk w p m R ka kb ko kc D ex)(h0:0<D.ks.length):kb≠p∧kb≠m:=⟨(h.kt h0).ne ⟨_,_,h.blk⟩ (by decide),(h.kt h0).mv h.mp⟩
theorem Qfv{L:List (List UInt8×FV)}(h:Ord L):(QA L).Nodup:=by
 refine List.pairwise_map.2 (h.1.imp fun {a b} hlt e=> ?_)
 rw[e] at hlt;exact Ij _ hlt
theorem QjX(L:List (List UInt8×FV))(R:List UInt8->FR)(s:List UInt8):s∈QA L↔(mapF L R s).isSome=true:=by
 unfold mapF
 split
 ·simp[*]
 ·simp[*]
theorem Qbp{L:List (List UInt8×FV)}(h:Ord L)(s:List UInt8)(f:FV)(t:List UInt8):t∈QA (Yn L s f)↔(if t=s then f.gone=false else t∈QA L):=by
 have e:=Qai (YZ h s f) (s:=t);rw[Q8 h] at e
 by_cases hts:t=s
 ·subst hts;rw[Lm rfl] at e ⊢
  constructor
  ·intro hm
   cases hg:f.gone
   ·rfl
   ·exact absurd hm (e.1 hg)
  ·intro hg
   rcases Decidable.em (t∈QA (Yn L t f)) with q|q
   ·exact q
   ·rw[e.2 q] at hg;cases hg
 ·rw[Ld hts] at e ⊢;have e2:=Qai h (s:=t);rw[e] at e2
  constructor
  ·intro hm
   rcases Decidable.em (t∈QA L) with q|q
   ·exact q
   ·exact absurd hm (e2.2 q)
  ·intro hm
   rcases Decidable.em (t∈QA (Yn L s f)) with q|q
   ·exact q
   ·exact absurd hm (e2.1 q)
theorem OG{L:List (List UInt8×FV)}(s:List UInt8)(f:FV):(Yn L s f).length<=L.length+1:=by
 induction L with
 | nil=>rw[Yn];split <;> simp
 | cons q r ih=>
  obtain⟨t,g⟩:=q;rw[Yn]
  split
  ·split <;> simp
   omega
  ·split
   ·split <;> simp
   ·simp;omega
theorem Dk.look(h:Dk w p m R ka kb ko kc D ex)(s:BA)(hs:s.size<=maxLen):∃r,(∀W,W.heap[m]? = w.heap[m]? -> (Instr.lookup 96 (.map (some m)) (.string s) false).run prog W= .ok (Ju (Qh D.L s.data.toList) r) W) ∧
  ((s.data.toList∈QA D.L∧r=R s.data.toList)∨(s.data.toList ∉ QA D.L∧r=fr0∧Qh D.L s.data.toList=fz)):=by
 have hz:∀W,(zeroValue 129).run prog W= .ok (Ju fz fr0) W:=fun W=>by kernel_rfl
 by_cases hm:s.data.toList∈QA D.L
 ·refine⟨R s.data.toList,fun W hW=> ?_,.inl ⟨hm,rfl⟩⟩
  rw[(h.mp.same hW).look underlying96 (hz W) hs,mapF,Lm hm,Option.getD_some]
 ·refine⟨fr0,fun W hW=> ?_,.inr ⟨hm,rfl,YF hm⟩⟩
  rw[(h.mp.same hW).look underlying96 (hz W) hs,mapF,Ld hm,Option.getD_none,YF hm]
end
def updR(R:List UInt8->FR)(s:List UInt8)(r:FR):List UInt8->FR:=fun t=>if t=s then r else R t
def Ua(D:DV)(s:List UInt8)(f:FV):DV := { D with L:=Yn D.L s f,free:=D.free+(Qh D.L s).now.length-f.now.length }
theorem Qj9{L:List (List UInt8×FV)}(h:Ord L)(R:List UInt8->FR)(s:List UInt8)(f:FV)(r:FR):mapF (Yn L s f) (updR R s r)=updF (mapF L R) s (if f.gone then none else some (Ju f r)):=by
 funext t
 simp only[mapF,updF,Qbp h,Q8 h,updR]
 by_cases e:t=s
 ·simp only[e,if_true]
  cases f.gone <;> simp
 ·simp only[e,if_false]
theorem Dk.put{w W:World}{p m:Nat}{R:List UInt8->FR}{ka:OA}{kb ko kc:Nat}{D:DV}{s:List UInt8}{f:FV}{r:FR}(h:Dk w p m R ka kb ko kc D (some s))(hf:Fil w f r)(hs:s.length<=maxLen)
  (hap:∀t∈QA D.L,t≠s -> ∀x,Blk (R t) x->Blk r x->False) (hc:D.L.length<1099511627776) (hfr:D.free+(Qh D.L s).now.length-f.now.length<=9223372036854775807)
  (hblk:W.heap[p]? = some (.cells #[.int .i64 ((D.free+(Qh D.L s).now.length-f.now.length:Nat):Int),.map (some m),.int .i64 D.acts,.int .i64 D.fa,.int .i64 D.fk,.slice ka D.ks.length kc,.bool D.down] 98 (0,0)))
  (hmp:Mv W m (updF (mapF D.L R) s (if f.gone then none else some (Ju f r)))) (hu:Upo (fun x=>x=p∨x=m) w W):Dk W p m (updR R s r) ka kb ko kc (Ua D s f) none:=by
 have kt:∀x,Ty w x 5->W.heap[x]? = w.heap[x]? := fun x hx=>hu.block x hx.lt (fun e=>by
  obtain⟨h1,h2,_⟩:=h.other hx
  rcases e with e|e
  ·exact h1 e
  ·exact h2 e)
 have kk:0<D.ks.length->W.heap[kb]? = w.heap[kb]? := fun h0=>hu.block kb (h.kt h0).lt (fun e=>by
  obtain⟨h1,h2⟩:=h.kbp h0
  rcases e with e|e
  ·exact h1 e
  ·exact h2 e)
 have hfW:Fil W f r:=hf.same fun x hx=>kt x (hf.blk hx)
 have inl:∀t,t∈QA (Yn D.L s f)->t≠s->t∈QA D.L:=fun t ht hne=>by
  have:=(Qbp h.ord s f t).1 ht
  rwa [Ld hne] at this
 refine⟨hblk,by rw[show(Ua D s f).L=Yn D.L s f from rfl,Qj9 h.ord];exact hmp,YZ h.ord s f,fun t ht _=> ?_,fun t ht x hx=> ?_,fun t ht u hu' hne x hx hy=> ?_,fun t ht=> ?_,?_,h.kp.same kk,fun h0=>(h.kt h0).same (kk h0),h.kl,hfr,h.ac,h.ft⟩
 ·show Fil W (Qh (Yn D.L s f) t) (updR R s r t)
  rw[Q8 h.ord,updR]
  by_cases e:t=s
  ·rw[Lm e,Lm e];exact hfW
  ·rw[Ld e,Ld e];have hk:=inl t ht e;exact(h.fil t hk (fun q=>e (by injection q))).same fun x hx=>kt x (h.low t hk x hx)
 ·simp only[updR] at hx
  by_cases e:t=s
  ·rw[Lm e] at hx;exact hfW.blk hx
  ·rw[Ld e] at hx;have:=h.low t (inl t ht e) x hx;exact this.same (kt x this)
 ·simp only[updR] at hx hy
  by_cases e:t=s
  ·rw[Lm e] at hx;have e2:u≠s:=fun q=>hne (e.trans q.symm)
   rw[Ld e2] at hy;exact hap u (inl u hu' e2) e2 x hy hx
  ·rw[Ld e] at hx
   by_cases e2:u=s
   ·rw[Lm e2] at hy;exact hap t (inl t ht e) e x hx hy
   ·rw[Ld e2] at hy;exact h.apart t (inl t ht e) u (inl u hu' e2) hne x hx hy
 ·by_cases e:t=s
  ·rw[e];exact hs
  ·exact h.nm t (inl t ht e)
 ·have:=OG (L:=D.L) s f
  show(Yn D.L s f).length<=_
  omega
theorem QcH(w:World)(u v x:Value):(Instr.field 129 (.agg #[u,v,x]) 0).run prog w= .ok u w:=by kernel_rfl
theorem Qgd{w w':World}{ops:Array Oper}{rest:List Oper}{o:Oper}{a:Act}{Q:Exit->Act->World->Prop}(hg:o.guard=none)(x y:Operand)(t u:TypeId)(hop:o.op=Op.call { callee:=Callee.builtin Builtin.delete,args:=#[x,y],argTypes:=#[t,u] })
  {vx vy v':Value} (hx:a.eval x=vx) (hy:a.eval y=vy) (hr:(Builtin.delete_ #[t,u] o.type #[vx,vy]).run prog w= .ok v' w') (hK:wpList prog ops Q rest (a.put o.dst v') w'):wpList prog ops Q (o::rest) a w:=by
 refine wpList_plain hg fun K hK'=> ?_
 unfold Oper.wp;simp[execOp,hop,resolve,invoke,builtin,hx,hy,hr,Result.andThen];exact hK' _ _ hK
theorem UA(w:World)(p m:Nat)(R:List UInt8->FR)(ka:OA)(kb ko kc:Nat)(D:DV)(s:BA)(f:FV)(r:FR)(h:Dk w p m R ka kb ko kc D (some s.data.toList))(hf:Fil w f r)(hs:s.size<=maxLen)
  (hap:∀t∈QA D.L,t≠s.data.toList -> ∀x,Blk (R t) x->Blk r x->False) (hc:D.L.length<1099511627776) (hfr:D.free+(Qh D.L s.data.toList).now.length<=9223372036854775807) (hle:f.now.length<=D.free+(Qh D.L s.data.toList).now.length) :
  Calls prog 248 #[Pq p,.string s,Ju f r] w fun e w'=>e= .returned (.tuple #[])∧Dk w' p m (updR R s.data.toList r) ka kb ko kc (Ua D s.data.toList f) none∧Upo (fun x=>x=p∨x=m) w w':=by
 obtain⟨r0,hl,_⟩:=h.look s hs;obtain⟨N0,hN0⟩:∃n,(Qh D.L s.data.toList).now.length=n:=⟨_,rfl⟩;obtain⟨N,hN⟩:∃n,f.now.length=n:=⟨_,rfl⟩;obtain⟨M,hM⟩:∃n,f.syn.length=n:=⟨_,rfl⟩;obtain⟨M0,hM0⟩:∃n,(Qh D.L s.data.toList).syn.length=n:=⟨_,rfl⟩;obtain⟨F,hF⟩:∃n,D.free=n:=⟨_,rfl⟩;obtain⟨G,hG⟩:∃n,D.free+(Qh D.L s.data.toList).now.length-f.now.length=n:=⟨_,rfl⟩;have HG:Hid (D.free+(Qh D.L s.data.toList).now.length-f.now.length=G∧(Qh D.L s.data.toList).now.length=N0∧f.now.length=N∧f.syn.length=M):=⟨hG,hN0,hN,hM⟩;have HH:Hid (Dk w p m R ka kb ko kc D (some s.data.toList)∧Fil w f r∧(∀t∈QA D.L,t≠s.data.toList -> ∀x,Blk (R t) x->Blk r x->False)∧D.L.length<1099511627776∧D.free+(Qh D.L s.data.toList).now.length-f.now.length<=9223372036854775807):=⟨h,hf,hap,hc,by omega⟩
 simp only[Ju,fv,hN0,hM0] at hl;have e1:IntKind.i64.wrap ((N0:Int)-(N:Int))=(N0:Int)-(N:Int):=by
  have:=hf.b1;rw[Lz];omega
 have e2:IntKind.i64.wrap ((F:Int)+((N0:Int)-(N:Int)))=(G:Int):=by rw[Lz];omega
 have hb:Below w.heap.size w (w.alloc (.cells #[.slice r.a N r.c,.slice r.b M r.d,.int .i64 r.s] 129)):=bal (Lb _ _) _;have h1:=h.next hb;rw[Ju,fv,hN,hM];obtain⟨ra,rg,rc,rb,rh,rd,rs⟩:=r;simp only at hb h1 ⊢;obtain⟨w1,hw1⟩:∃W,w.alloc (.cells #[.slice ra N rc,.slice rb M rd,.int .i64 rs] 129)=W:=⟨_,rfl⟩;have k1:w1.heap[w.heap.size]? = some (.cells #[.slice ra N rc,.slice rb M rd,.int .i64 rs] 129 (0,0)):=by rw[<-hw1];exact Ja _ _
 rw[hw1] at hb h1;obtain⟨c0,c1,c2,c3,c4,c5,c6⟩:=h1.cells;have f0:=h1.frz 0;rw[hF] at c0;have hl1:=hl w1.drew (hb.block m h.mp.lt);have HW:Hid (w.alloc (.cells #[.slice ra N rc,.slice rb M rd,.int .i64 rs] 129)=w1):=hw1;have HB:Hid (Below w.heap.size w w1∧Dk w1 p m R ka kb ko kc D (some s.data.toList)∧p≠w.heap.size∧p≠m):=⟨hb,h1,by have:=h.lt (.inl rfl);omega,h.pm⟩
 obtain⟨b0,b1,b2⟩:=QP k1;have hfld:=QcH;clear h hf hap hc hfr hle hl hN0 hN hM hM0 hF hG hb h1 hw1
 go_enter func248,ntmps248
 go_upto_region 1 with (fail)
 rw[HW.out]
 go_region
 obtain⟨w2,hw2⟩:∃W,(w1.setCell ⟨p,0,none⟩ (.int .i64 G)).drew=W:=⟨_,rfl⟩;have hu2:Upo (fun x=>x=p) w1 w2:=by rw[<-hw2];exact((Upo.refl (fun x=>x=p) w1).set p 0 _ (.inl rfl)).drew
 have j2:w2.heap[p]? = some (.cells #[.int .i64 G,.map (some m),.int .i64 D.acts,.int .i64 D.fa,.int .i64 D.fk,.slice ka D.ks.length kc,.bool D.down] 98 (0,0)):=by
  rw[<-hw2];exact Lp w1 p 0 _ _ _ HB.out.2.1.blk
 have k2:w2.heap[w.heap.size]? = some (.cells #[.slice ra N rc,.slice rb M rd,.int .i64 rs] 129 (0,0)):=(hu2.block _ (Array.getElem?_eq_some_iff.1 k1).1 (fun e=>HB.out.2.2.1 e.symm)).trans k1
 have m2:Mv w2 m (mapF D.L R):=HB.out.2.1.mp.same (hu2.block m HB.out.2.1.mp.lt (fun e=>HB.out.2.2.2 e.symm))
 have HU2:Hid (Upo (fun x=>x=p) w w2):=(Upo.of HB.out.1).trans hu2 (fun _ _ q=>q)
 rw[hw2];clear hw2 hl1 c0 c1 c2 c3 c4 c5 c6 f0 b0 b1 b2 k1 e1 e2;obtain⟨b0,b1,b2⟩:=QP k2;have c1:w2.cell? ⟨p,1,none⟩=some (.map (some m)):=by rw[cell_of_row w2 p 1 _ _ (0,0) j2];rfl
 have J2:Hid (w2.heap[p]? = some (.cells #[.int .i64 G,.map (some m),.int .i64 D.acts,.int .i64 D.fa,.int .i64 D.fk,.slice ka D.ks.length kc,.bool D.down] 98 (0,0))∧Mv w2 m (mapF D.L R)):=⟨j2,m2⟩;have hfin:Hid (∀W,Mv W m (updF (mapF D.L R) s.data.toList (if f.gone then none else some (Ju f ⟨ra,rg,rc,rb,rh,rd,rs⟩)))->w2.grownBy W (some m)->Dk W p m (updR R s.data.toList ⟨ra,rg,rc,rb,rh,rd,rs⟩) ka kb ko kc (Ua D s.data.toList f) none∧Upo (fun x=>x=p∨x=m) w W):=fun W hm hg=>by
  have hu:Upo (fun x=>x=p∨x=m) w W:=(HU2.out.mono (T:=fun x=>x=p∨x=m) (fun _ _ q=> .inl q)).trans (Upo.grown (S:=fun x=>x=m) hg (fun b e=>by injection e with e;exact e.symm)) (fun _ _ q=> .inr q)
  refine⟨HH.out.1.put HH.out.2.1 (by rw[Qe];exact hs) HH.out.2.2.1 HH.out.2.2.2.1 HH.out.2.2.2.2 ?_ hm hu,hu⟩
  rw[HG.out.1];exact(hg.block p (Array.getElem?_eq_some_iff.1 J2.out.1).1 (fun e=>HB.out.2.2.2 (by injection e))).trans J2.out.1
 clear j2 k2 m2 hu2
 by_cases hgo:f.gone=true
 ·have hg2:=Jv.1 hgo;obtain⟨rfl,rfl⟩:N=0∧M=0:=⟨HG.out.2.2.1.symm.trans hg2.1,HG.out.2.2.2.symm.trans hg2.2⟩;obtain⟨w3,hd,m3,g3⟩:=J2.out.2.drop underlying96 hs 0;have HQ:Hid _:=hfin.out w3 (by rw[hgo];exact m3) g3
  clear hgo hg2 m3 g3
  go_wp2_with (refine Qgd (by rfl) _ _ _ _ (by rfl) (by rfl) (by rfl) hd ?_)
  refine LK (v := .tuple #[]) (by simp[results,results248,go_sem]) rfl ⟨rfl,HQ.out⟩
 ·obtain⟨w3,hd,m3,g3⟩:=(J2.out.2.same (W:=w2.drew) rfl).write underlying96 (Qfv HH.out.1.ord) (QjX D.L R) (by have:=HH.out.2.2.2.1;simp only[QA,List.length_map];unfold maxLen;omega) hs (Ju f ⟨ra,rg,rc,rb,rh,rd,rs⟩)
  have hg':f.gone=false:=by simpa using hgo
  have HQ:Hid _:=hfin.out w3 (by rw[hg'];exact m3) ⟨g3.os,g3.tape,g3.output,g3.size,g3.block⟩
  have hcond:(((N:Int) == 0) && ((M:Int) == 0))=false:=by
   have:¬(N=0∧M=0):=fun e=>hgo (Jv.2 ⟨HG.out.2.2.1.trans e.1,HG.out.2.2.2.trans e.2⟩)
   by_cases h1:N=0
   ·have h2:M≠0:=fun e=>this ⟨h1,e⟩
    simp[h1,h2]
   ·simp[h1]
  simp only[Ju,fv,HG.out.2.2.1,HG.out.2.2.2] at hd;clear hgo hg' m3 g3
  by_cases hN0:N=0
  ·have hM0:((M:Int) == 0)=false:=by simpa [hN0] using hcond
   have hM1:¬((M:Int)=0):=by simpa using hM0
   subst hN0;clear hcond
   go_upto_region 4 with (fail)
   go_region
   all_goals
    go_wp2
    go_end0
    exact⟨rfl,HQ.out⟩
  ·have hN1:((N:Int) == 0)=false:=by simpa using hN0
   have hN2:¬((N:Int)=0):=by omega
   clear hcond hN0
   go_upto_region 4 with (fail)
   go_region
   all_goals
    go_wp2
    go_end0
    exact⟨rfl,HQ.out⟩
theorem Qd{p:Prop}(h:p):Hid p:=h
section
variable {w W:World} {p m:Nat} {R:List UInt8->FR} {ka:OA} {kb ko kc:Nat} {D:DV}
theorem Qjn(w:World)(h:Dk w p m R ka kb ko kc D none):Calls prog 15 #[Pq p] w fun e w'=>e= .returned (.bool D.down)∧w'=w:=by
 obtain⟨c0,c1,c2,c3,c4,c5,c6⟩:=h.cells;clear h
 go_enter func15,ntmps15;go_wp2
 go_ret
 exact⟨rfl,rfl⟩
theorem QbJ(w:World)(h:Dk w p m R ka kb ko kc D none)(s:BA)(hs:s.size<=maxLen)(n:Nat)(hn:Hid ((if D.down then 0 else (Qh D.L s.data.toList).now.length)=n)) :
  Calls prog 151 #[Pq p,.string s] w fun e w'=>e= .returned (.int .i64 n)∧w'=w:=by
 obtain⟨c0,c1,c2,c3,c4,c5,c6⟩:=h.cells;obtain⟨r,hl,_⟩:=h.look s hs;have hl1:=hl w rfl;have hfld:=QcH
 cases hd:D.down
 ·have hn2:(Qh D.L s.data.toList).now.length=n:=by have:=hn.out;simpa [hd] using this
  simp only[Ju,fv,hn2] at hl1;rw[hd] at c6;clear h hd hl hn hn2
  go_enter func151,ntmps151;go_wp2
  go_ret
  exact⟨rfl,rfl⟩
 ·have hn2:0=n:=by have:=hn.out;simpa [hd] using this
  subst hn2;rw[hd] at c6;clear h hd hl hn hl1
  go_enter func151,ntmps151;go_wp2
  go_ret
  exact⟨rfl,rfl⟩
theorem Dk.re{ex:Option (List UInt8)}(h:Dk w p m R ka kb ko kc D ex)(hu:Upo (fun x=>x=p) w W){D':DV}(hL:D'.L=D.L){ka':OA}{kc':Nat}
  (hblk:W.heap[p]? = some (.cells #[.int .i64 D'.free,.map (some m),.int .i64 D'.acts,.int .i64 D'.fa,.int .i64 D'.fk,.slice ka' D'.ks.length kc',.bool D'.down] 98 (0,0)))
  (hk:(D'.ks=D.ks∧ka'=ka)∨D'.ks=[]) (fr:D'.free<=9223372036854775807) (ac:D'.acts<=4611686018427387904) (ft:D'.fk=0):Dk W p m R ka' kb ko kc' D' ex:=by
 have ky:∀x,Ty w x 5->W.heap[x]? = w.heap[x]? := fun x hx=>hu.block x hx.lt (h.other hx).1
 have kk:0<D.ks.length->W.heap[kb]? = w.heap[kb]? := fun h0=>hu.block kb (h.kt h0).lt (h.kbp h0).1
 refine⟨hblk,by rw[hL];exact h.mp.same (hu.block m h.mp.lt fun e=>h.pm e.symm),by rw[hL];exact h.ord,by rw[hL];exact fun s hs he=>(h.fil s hs he).same fun x hx=>ky x (h.low s hs x hx),by rw[hL];exact fun s hs x hx=>(h.low s hs x hx).same (ky x (h.low s hs x hx)),by rw[hL];exact h.apart,by rw[hL];exact h.nm,by rw[hL];exact h.cnt,?_,?_,?_,fr,ac,ft⟩
 ·rcases hk with ⟨e1,e2⟩|e1
  ·rw[e1,e2];exact h.kp.same kk
  ·rw[e1];exact QgW _ _ _ _
 ·rcases hk with ⟨e1,e2⟩|e1
  ·rw[e1];exact fun h0=>(h.kt h0).same (kk h0)
  ·rw[e1];intro h0;simp at h0
 ·rcases hk with ⟨e1,e2⟩|e1
  ·rw[e1];exact h.kl
  ·rw[e1];simp
def Qgv(a k:Int)(ka:OA)(n kc:Nat):Value := .agg #[.int .i64 a,.int .i64 k,.slice ka n kc]
theorem QmB(w:World)(h:Dk w p m R ka kb ko kc D none):Calls prog 329 #[Pq p] w fun e w'=>e= .returned (Qgv 0 0 none 0 0)∧Below w.heap.size w w':=by
 obtain⟨w1,hw1⟩:∃W,w.alloc (.cells #[.int .i64 0,.int .i64 0,.slice none 0 0] 37)=W:=⟨_,rfl⟩;have HW:Hid (w.alloc (.cells #[.int .i64 0,.int .i64 0,.slice none 0 0] 37)=w1):=hw1;have hb:Below w.heap.size w w1:=by rw[<-hw1];exact bal (Lb _ _) _
 have k1:w1.heap[w.heap.size]? = some (.cells #[.int .i64 0,.int .i64 0,.slice none 0 0] 37 (0,0)):=by rw[<-hw1];exact Ja _ _
 have h1:=h.next hb;obtain⟨c0,c1,c2,c3,c4,c5,c6⟩:=h1.cells;have fz:=fun j=>h1.frz j
 have fy:=fun j=>frozen_of_row w1 w.heap.size j _ _ k1
 obtain⟨b0,b1,b2⟩:=QP k1;have HB:Hid (Below w.heap.size w w1∧w1.heap[w.heap.size]? = some (.cells #[.int .i64 0,.int .i64 0,.slice none 0 0] 37 (0,0))):=⟨hb,k1⟩;rw[h.ft] at c4;clear h hb h1 k1 hw1
 go_enter func329,ntmps329
 go_upto_region 1 with (fail)
 rw[HW.out];go_wp2;obtain⟨w5,hw5⟩:∃W,((w1.setCell ⟨w.heap.size,0,none⟩ (.int .i64 0)).setCell ⟨w.heap.size,1,none⟩ (.int .i64 0)).setCell ⟨w.heap.size,2,none⟩ (.slice none 0 0)=W:=⟨_,rfl⟩;have q:=QP (Qdv HB.out.2 (.int .i64 0) (.int .i64 0) (.slice none 0 0));rw[hw5] at q;rw[hw5];obtain⟨s0,s1,s2⟩:=q;have hb5:Below w.heap.size w w5:=by
  rw[<-hw5];exact((HB.out.1.setCell (p:=⟨w.heap.size,0,none⟩) (La _) _).setCell (p:=⟨w.heap.size,1,none⟩) (La _) _).setCell (p:=⟨w.heap.size,2,none⟩) (La _) _
 exact LK (v:=Qgv 0 0 none 0 0) (by simp[results,results329,go_sem,Qgv,s0,s1,s2]) rfl ⟨rfl,hb5⟩
end
section
variable {p m:Nat} {R:List UInt8->FR} {ka:OA} {kb ko kc:Nat} {D:DV}
def O8(D:DV)(s:List UInt8)(f:FV):DV×Int:=(Ua { D with acts:=D.acts+1 } s f,0)
structure Do(w:World)(p m:Nat)(R:List UInt8->FR)(kb ko:Nat)(D:DV)(fn:Nat)(caps:Array Value)(s:List UInt8)(f:FV):Prop where
 call:∀(W:World) ka2 kc2 (D2:DV),Dk W p m R ka2 kb ko kc2 D2 none->D2.L=D.L->D2.free=D.free->Upo (fun x=>x=p) w W->Calls prog fn caps W fun e w'=>e= .returned (.tuple #[]) ∧ ∃R',Dk w' p m R' ka2 kb ko kc2 (Ua D2 s f) none∧(∀x,(∃t∈QA (Ua D2 s f).L,Blk (R' t) x)->(∃t∈QA D.L,Blk (R t) x)∨W.heap.size<=x)∧Upo (fun x=>x=p∨x=m ∨ ∃t∈QA D.L,Blk (R t) x) W w'
theorem Qge(w:World)(h:Dk w p m R ka kb ko kc D none)(hac:D.acts+1<=4611686018427387904)(fn:Nat)(caps:Array Value)(s:List UInt8)(f:FV)(hD:Do w p m R kb ko D fn caps s f)(hfn:fn=343∨fn=247∨fn=250) :
  Calls prog 246 #[Pq p,.func (.func fn) #[] caps] w fun e w'=> ∃m' R' ka' kc',e= .returned (.int .i64 (O8 D s f).2)∧Dk w' p m' R' ka' kb ko kc' (O8 D s f).1 none∧(∀x,Ut p m' R' kb (O8 D s f).1 x->Ut p m R kb D x∨w.heap.size<=x)∧Upo (Ut p m R kb D) w w':=by
 obtain⟨c0,c1,c2,c3,c4,c5,c6⟩:=h.cells;have fz:=h.frz;have e0:IntKind.i64.wrap ((D.acts:Int)+1)=((D.acts+1:Nat):Int):=by rw[Lz];omega
 obtain⟨ac,hac2⟩:∃ac,D.acts+1=ac:=⟨_,rfl⟩;rw[hac2] at e0;obtain⟨D2,hD2e⟩:∃D2:DV,{ D with acts:=ac } = D2:=⟨_,rfl⟩
 have hE:O8 D s f=(Ua D2 s f,0):=by unfold O8;rw[hac2,hD2e]
 rw[hE];obtain⟨w1,hw1⟩:∃W,w.setCell ⟨p,2,none⟩ (.int .i64 ac)=W:=⟨_,rfl⟩;have HW1:Hid (w.setCell ⟨p,2,none⟩ (.int .i64 ac)=w1):=hw1;have u1:Upo (fun x=>x=p) w w1:=by rw[<-hw1];exact(Upo.refl (fun x=>x=p) w).set _ _ _ (.inl rfl)
 have h1:Dk w1 p m R ka kb ko kc D2 none:=by
  rw[<-hD2e];refine h.re (D' := { D with acts:=ac }) u1 rfl ?_ (.inl ⟨rfl,rfl⟩) h.fr (by show ac<=_;omega) h.ft
  rw[<-hw1];exact Lp w p 2 _ _ _ h.blk
 have HM:=Qd (QmB w1 h1);have m1:D2.L=D.L:=by rw[<-hD2e]
 have m2:D2.free=D.free:=by rw[<-hD2e]
 have m5:D2.ks=D.ks:=by rw[<-hD2e]
 have HH:Hid (Dk w1 p m R ka kb ko kc D2 none∧Upo (fun x=>x=p) w w1∧D2.L=D.L∧D2.free=D.free∧D2.ks=D.ks∧Do w p m R kb ko D fn caps s f∧Dk w p m R ka kb ko kc D none):=⟨h1,u1,m1,m2,m5,hD,h⟩
 simp only[Qgv] at HM;clear h u1 h1 hac hac2 hw1 m1 m2 m5 hD hE hD2e
 go_enter func246,ntmps246
 go_upto_region 2 with (fail)
 rw[HW1.out]
 go_upto_region 3 with (go_at_call 329;with_reducible refine HM.out.mono ?_;rintro e w2 ⟨rfl,hu2⟩)
 obtain⟨w3,hw3⟩:∃W,w2.alloc (.cells #[.int .i64 0,.int .i64 0,.slice none 0 0] 37)=W:=⟨_,rfl⟩;have hb3:Below w2.heap.size w2 w3:=by rw[<-hw3];exact bal (Lb _ _) _
 have k3:w3.heap[w2.heap.size]? = some (.cells #[.int .i64 0,.int .i64 0,.slice none 0 0] 37 (0,0)):=by rw[<-hw3];exact Ja _ _
 rw[hw3];obtain⟨b0,b1,b2⟩:=QP k3;have hb13:=Qa hu2 hb3;have HG:Hid (Dk w3 p m R ka kb ko kc D2 none∧Upo (fun x=>x=p) w w3∧w3.heap[w2.heap.size]? = some (.cells #[.int .i64 0,.int .i64 0,.slice none 0 0] 37 (0,0))∧w.heap.size<=w2.heap.size) :=
  ⟨HH.out.1.next hb13,HH.out.2.1.next hb13,k3,Lu HH.out.2.1.size hu2.size⟩
 have HDh:=Qd (HH.out.2.2.2.2.2.1.call w3 ka kc D2 HG.out.1 HH.out.2.2.1 HH.out.2.2.2.1 HG.out.2.1);clear hw3 hb3 k3 hu2 hb13 HM c0 c1 c2 c3 c4 c5 c6 fz e0 HW1
 go_upto_region 10 with (fail)
 go_cut [28] from 29 to 29 (fun x wx=> ∃R',Dk wx p m R' ka kb ko kc (Ua D2 s f) none∧(∀x,(∃t∈QA (Ua D2 s f).L,Blk (R' t) x)->(∃t∈QA D.L,Blk (R t) x)∨w3.heap.size<=x)∧Upo (fun x=>x=p∨x=m ∨ ∃t∈QA D.L,Blk (R t) x) w3 wx)
 case first=>
  rcases hfn with rfl|rfl|rfl
  ·go_wp2_with (go_at_call 343;(with_reducible refine HDh.out.mono ?_);rintro e w4 ⟨rfl,R',hD4,hf4,hu4⟩)
   go_meet
   case rel=>exact⟨R',hD4,hf4,hu4⟩
  ·go_wp2_with (go_at_call 247;(with_reducible refine HDh.out.mono ?_);rintro e w4 ⟨rfl,R',hD4,hf4,hu4⟩)
   go_meet
   case rel=>exact⟨R',hD4,hf4,hu4⟩
  ·go_wp2_with (go_at_call 250;(with_reducible refine HDh.out.mono ?_);rintro e w4 ⟨rfl,R',hD4,hf4,hu4⟩)
   go_meet
   case rel=>exact⟨R',hD4,hf4,hu4⟩
 case rest=>
  obtain⟨R',hD4,hf4,hu4⟩:=hcut;obtain⟨w4,hw4⟩:∃W,W=wc:=⟨_,rfl⟩;subst hw4;obtain⟨_,_,m1,m2,m5,_,h0⟩:=HH.out;obtain⟨g1,g3,g5,g6⟩:=HG.out;have hfw:∀x,(x=p∨x=m ∨ ∃t∈QA D.L,Blk (R t) x)->Ut p m R kb D x:=fun x hx=>hx.elim .inl (fun q=>q.elim (fun e=> .inr (.inl e)) (fun e=> .inr (.inr (.inl e))))
  have k4:=(hu4.block w2.heap.size (Array.getElem?_eq_some_iff.1 g5).1 (fun q=>by have:=h0.lt (hfw _ q);omega)).trans g5
  obtain⟨b0,b1,b2⟩:=QP k4;have hU4:Upo (Ut p m R kb D) w w4:=(g3.mono (fun _ _ e=> .inl e)).trans hu4 (fun x _ q=>hfw x q)
  have hf5:∀x,Ut p m R' kb (Ua D2 s f) x->Ut p m R kb D x∨w.heap.size<=x:=fun y hy=>by
   rcases hy with q|q|q|⟨q0,q⟩
   ·exact .inl (.inl q)
   ·exact .inl (.inr (.inl q))
   ·rcases hf4 y q with q|q
    ·exact .inl (.inr (.inr (.inl q)))
    ·exact .inr (Lu g3.size q)
   ·exact .inl (.inr (.inr (.inr ⟨by rw[<-m5];exact q0,q⟩)))
  have HZ:Hid (Dk w4 p m R' ka kb ko kc (Ua D2 s f) none∧(∀x,Ut p m R' kb (Ua D2 s f) x->Ut p m R kb D x∨w.heap.size<=x)∧Upo (Ut p m R kb D) w w4):=⟨hD4,hf5,hU4⟩;clear h0 m1 m2 m5 g1 g3 g5 g6 hfw k4 hU4 hf5 hD4 hf4 hu4 HG HH HDh hfn;go_wp2
  go_ret
  exact⟨m,R',ka,kc,rfl,HZ.out⟩
end
end St
end Go.Proofs.YtoblgjledefdbaaGreatDoor
