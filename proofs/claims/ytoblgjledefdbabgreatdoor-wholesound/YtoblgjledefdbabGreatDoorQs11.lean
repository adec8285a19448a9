/- Own work. -/
import Derived.Test.YtoblgjledefdbabGreatDoorQs10
set_option maxRecDepth 100000
set_option maxHeartbeats 2000000
namespace Go.Proofs.YtoblgjledefdbabGreatDoor
open Go.RowKit
open Go.Proofs.Tryz
namespace St
theorem Qc{p:Prop}(h:p):Hid p:=h
section
variable {w W:World} {p m:Nat} {R:List UInt8->FR} {ka:OA} {kb ko kc:Nat} {D:DV}
theorem Qjb(w:World)(h:Dk w p m R ka kb ko kc D none):Calls prog 69 #[Zv p] w fun e w'=>e= .returned (.bool D.down)∧w'=w:=by
 obtain⟨c0,c1,c2,c3,c4,c5,c6⟩:=h.cells;clear h
 go_enter func69,ntmps69;go_wp2
 go_ret
 exact⟨rfl,rfl⟩
theorem QbU(w:World)(h:Dk w p m R ka kb ko kc D none)(s:BA)(hs:s.size<=maxLen)(n:Nat)(hn:Hid ((if D.down then 0 else (Qh D.L s.data.toList).now.length)=n)) :
  Calls prog 114 #[Zv p,.string s] w fun e w'=>e= .returned (.int .i64 n)∧w'=w:=by
 obtain⟨c0,c1,c2,c3,c4,c5,c6⟩:=h.cells;obtain⟨r,hl,_⟩:=h.look s hs;have hl1:=hl w rfl;have hfld:=Qc5
 cases hd:D.down
 ·have hn2:(Qh D.L s.data.toList).now.length=n:=by have:=hn.out;simpa [hd] using this
  simp only[Jx,fv,hn2] at hl1;rw[hd] at c6;clear h hd hl hn hn2
  go_enter func114,ntmps114;go_wp2
  go_ret
  exact⟨rfl,rfl⟩
 ·have hn2:0=n:=by have:=hn.out;simpa [hd] using this
  subst hn2;rw[hd] at c6;clear h hd hl hn hl1
  go_enter func114,ntmps114;go_wp2
  go_ret
  exact⟨rfl,rfl⟩
theorem Dk.re{ex:Option (List UInt8)}(h:Dk w p m R ka kb ko kc D ex)(hu:Upo (fun x=>x=p) w W){D':DV}(hL:D'.L=D.L){ka':OA}{kc':Nat}
  (hblk:W.heap[p]? = some (.cells #[.int .i64 D'.free,.map (some m),.int .i64 D'.acts,.int .i64 D'.fa,.int .i64 D'.fk,.slice ka' D'.ks.length kc',.bool D'.down] 95 (0,0)))
  (hk:(D'.ks=D.ks∧ka'=ka)∨D'.ks=[]) (fr:D'.free<=9223372036854775807) (ac:D'.acts<=4611686018427387904) (ft:D'.fk=0):Dk W p m R ka' kb ko kc' D' ex:=by
 have ky:∀x,Ty w x 5->W.heap[x]? = w.heap[x]? := fun x hx=>hu.block x hx.lt (h.other hx).1
 have kk:0<D.ks.length->W.heap[kb]? = w.heap[kb]? := fun h0=>hu.block kb (h.kt h0).lt (h.kbp h0).1
 refine⟨hblk,by rw[hL];exact h.mp.same (hu.block m h.mp.lt fun e=>h.pm e.symm),by rw[hL];exact h.ord,by rw[hL];exact fun s hs he=>(h.fil s hs he).same fun x hx=>ky x (h.low s hs x hx),by rw[hL];exact fun s hs x hx=>(h.low s hs x hx).same (ky x (h.low s hs x hx)),by rw[hL];exact h.apart,by rw[hL];exact h.nm,by rw[hL];exact h.cnt,?_,?_,?_,fr,ac,ft⟩
 ·rcases hk with ⟨e1,e2⟩|e1
  ·rw[e1,e2];exact h.kp.same kk
  ·rw[e1];exact Qg4 _ _ _ _
 ·rcases hk with ⟨e1,e2⟩|e1
  ·rw[e1];exact fun h0=>(h.kt h0).same (kk h0)
  ·rw[e1];intro h0;simp at h0
 ·rcases hk with ⟨e1,e2⟩|e1
  ·rw[e1];exact h.kl
  ·rw[e1];simp
def QgD(a k:Int)(ka:OA)(n kc:Nat):Value := .agg #[.int .i64 a,.int .i64 k,.slice ka n kc]
theorem Qml(w:World)(h:Dk w p m R ka kb ko kc D none):Calls prog 226 #[Zv p] w fun e w'=>e= .returned (QgD 0 0 none 0 0)∧Below w.heap.size w w':=by
 obtain⟨w1,hw1⟩:∃W,w.alloc (.cells #[.int .i64 0,.int .i64 0,.slice none 0 0] 93)=W:=⟨_,rfl⟩;have HW:Hid (w.alloc (.cells #[.int .i64 0,.int .i64 0,.slice none 0 0] 93)=w1):=hw1;have hb:Below w.heap.size w w1:=by rw[<-hw1];exact bal (Lc _ _) _
 have k1:w1.heap[w.heap.size]? = some (.cells #[.int .i64 0,.int .i64 0,.slice none 0 0] 93 (0,0)):=by rw[<-hw1];exact U7 _ _
 have h1:=h.next hb;obtain⟨c0,c1,c2,c3,c4,c5,c6⟩:=h1.cells;have fz:=fun j=>h1.frz j
 have fy:=fun j=>frozen_of_row w1 w.heap.size j _ _ k1
 obtain⟨b0,b1,b2⟩:=QP k1;have HB:Hid (Below w.heap.size w w1∧w1.heap[w.heap.size]? = some (.cells #[.int .i64 0,.int .i64 0,.slice none 0 0] 93 (0,0))):=⟨hb,k1⟩;rw[h.ft] at c4;clear h hb h1 k1 hw1
 go_enter func226,ntmps226
 go_upto_region 1 with (fail)
 rw[HW.out];go_wp2;obtain⟨w5,hw5⟩:∃W,((w1.setCell ⟨w.heap.size,0,none⟩ (.int .i64 0)).setCell ⟨w.heap.size,1,none⟩ (.int .i64 0)).setCell ⟨w.heap.size,2,none⟩ (.slice none 0 0)=W:=⟨_,rfl⟩;have q:=QP (QdM HB.out.2 (.int .i64 0) (.int .i64 0) (.slice none 0 0));rw[hw5] at q;rw[hw5];obtain⟨s0,s1,s2⟩:=q;have hb5:Below w.heap.size w w5:=by
  rw[<-hw5];exact((HB.out.1.setCell (p:=⟨w.heap.size,0,none⟩) (Lb _) _).setCell (p:=⟨w.heap.size,1,none⟩) (Lb _) _).setCell (p:=⟨w.heap.size,2,none⟩) (Lb _) _
 exact LA (v:=QgD 0 0 none 0 0) (by simp[results,results226,go_sem,QgD,s0,s1,s2]) rfl ⟨rfl,hb5⟩
end
section
variable {p m:Nat} {R:List UInt8->FR} {ka:OA} {kb ko kc:Nat} {D:DV}
def actD(D:DV)(s:List UInt8)(f:FV):DV×Int:=(Y6 { D with acts:=D.acts+1 } s f,0)
structure Do(w:World)(p m:Nat)(R:List UInt8->FR)(kb ko:Nat)(D:DV)(fn:Nat)(caps:Array Value)(s:List UInt8)(f:FV):Prop where
 call:∀(W:World) ka2 kc2 (D2:DV),Dk W p m R ka2 kb ko kc2 D2 none->D2.L=D.L->D2.free=D.free->Upo (fun x=>x=p) w W->Calls prog fn caps W fun e w'=>e= .returned (.tuple #[]) ∧ ∃R',Dk w' p m R' ka2 kb ko kc2 (Y6 D2 s f) none∧(∀x,(∃t∈QC (Y6 D2 s f).L,Blk (R' t) x)->(∃t∈QC D.L,Blk (R t) x)∨W.heap.size<=x)∧Upo (fun x=>x=p∨x=m ∨ ∃t∈QC D.L,Blk (R t) x) W w'
theorem Qgm(w:World)(h:Dk w p m R ka kb ko kc D none)(hac:D.acts+1<=4611686018427387904)(fn:Nat)(caps:Array Value)(s:List UInt8)(f:FV)(hD:Do w p m R kb ko D fn caps s f)(hfn:fn=232∨fn=186∨fn=189) :
  Calls prog 185 #[Zv p,.func (.func fn) #[] caps] w fun e w'=> ∃m' R' ka' kc',e= .returned (.int .i64 (actD D s f).2)∧Dk w' p m' R' ka' kb ko kc' (actD D s f).1 none∧(∀x,Ui p m' R' kb (actD D s f).1 x->Ui p m R kb D x∨w.heap.size<=x)∧Upo (Ui p m R kb D) w w':=by
 obtain⟨c0,c1,c2,c3,c4,c5,c6⟩:=h.cells;have fz:=h.frz;have e0:IntKind.i64.wrap ((D.acts:Int)+1)=((D.acts+1:Nat):Int):=by rw[LE];omega
 obtain⟨ac,hac2⟩:∃ac,D.acts+1=ac:=⟨_,rfl⟩;rw[hac2] at e0;obtain⟨D2,hD2e⟩:∃D2:DV,{ D with acts:=ac } = D2:=⟨_,rfl⟩
 have hE:actD D s f=(Y6 D2 s f,0):=by unfold actD;rw[hac2,hD2e]
 rw[hE];obtain⟨w1,hw1⟩:∃W,w.setCell ⟨p,2,none⟩ (.int .i64 ac)=W:=⟨_,rfl⟩;have HW1:Hid (w.setCell ⟨p,2,none⟩ (.int .i64 ac)=w1):=hw1;have u1:Upo (fun x=>x=p) w w1:=by rw[<-hw1];exact(Upo.refl (fun x=>x=p) w).set _ _ _ (.inl rfl)
 have h1:Dk w1 p m R ka kb ko kc D2 none:=by
  rw[<-hD2e];refine h.re (D' := { D with acts:=ac }) u1 rfl ?_ (.inl ⟨rfl,rfl⟩) h.fr (by show ac<=_;omega) h.ft
  rw[<-hw1];exact Ln w p 2 _ _ _ h.blk
 have HM:=Qc (Qml w1 h1);have m1:D2.L=D.L:=by rw[<-hD2e]
 have m2:D2.free=D.free:=by rw[<-hD2e]
 have m5:D2.ks=D.ks:=by rw[<-hD2e]
 have HH:Hid (Dk w1 p m R ka kb ko kc D2 none∧Upo (fun x=>x=p) w w1∧D2.L=D.L∧D2.free=D.free∧D2.ks=D.ks∧Do w p m R kb ko D fn caps s f∧Dk w p m R ka kb ko kc D none):=⟨h1,u1,m1,m2,m5,hD,h⟩
 simp only[QgD] at HM;clear h u1 h1 hac hac2 hw1 m1 m2 m5 hD hE hD2e
 go_enter func185,ntmps185
 go_upto_region 2 with (fail)
 rw[HW1.out]
 go_upto_region 3 with (go_at_call 226;with_reducible refine HM.out.mono ?_;rintro e w2 ⟨rfl,hu2⟩)
 obtain⟨w3,hw3⟩:∃W,w2.alloc (.cells #[.int .i64 0,.int .i64 0,.slice none 0 0] 93)=W:=⟨_,rfl⟩;have hb3:Below w2.heap.size w2 w3:=by rw[<-hw3];exact bal (Lc _ _) _
 have k3:w3.heap[w2.heap.size]? = some (.cells #[.int .i64 0,.int .i64 0,.slice none 0 0] 93 (0,0)):=by rw[<-hw3];exact U7 _ _
 rw[hw3];obtain⟨b0,b1,b2⟩:=QP k3;have hb13:=Qa hu2 hb3;have HG:Hid (Dk w3 p m R ka kb ko kc D2 none∧Upo (fun x=>x=p) w w3∧w3.heap[w2.heap.size]? = some (.cells #[.int .i64 0,.int .i64 0,.slice none 0 0] 93 (0,0))∧w.heap.size<=w2.heap.size) :=
  ⟨HH.out.1.next hb13,HH.out.2.1.next hb13,k3,Lt HH.out.2.1.size hu2.size⟩
 have HDh:=Qc (HH.out.2.2.2.2.2.1.call w3 ka kc D2 HG.out.1 HH.out.2.2.1 HH.out.2.2.2.1 HG.out.2.1);clear hw3 hb3 k3 hu2 hb13 HM c0 c1 c2 c3 c4 c5 c6 fz e0 HW1
 go_upto_region 10 with (fail)
 go_cut [28] from 29 to 29 (fun x wx=> ∃R',Dk wx p m R' ka kb ko kc (Y6 D2 s f) none∧(∀x,(∃t∈QC (Y6 D2 s f).L,Blk (R' t) x)->(∃t∈QC D.L,Blk (R t) x)∨w3.heap.size<=x)∧Upo (fun x=>x=p∨x=m ∨ ∃t∈QC D.L,Blk (R t) x) w3 wx)
 case first=>
  rcases hfn with rfl|rfl|rfl
  ·go_wp2_with (go_at_call 232;(with_reducible refine HDh.out.mono ?_);rintro e w4 ⟨rfl,R',hD4,hf4,hu4⟩)
   go_meet
   case rel=>exact⟨R',hD4,hf4,hu4⟩
  ·go_wp2_with (go_at_call 186;(with_reducible refine HDh.out.mono ?_);rintro e w4 ⟨rfl,R',hD4,hf4,hu4⟩)
   go_meet
   case rel=>exact⟨R',hD4,hf4,hu4⟩
  ·go_wp2_with (go_at_call 189;(with_reducible refine HDh.out.mono ?_);rintro e w4 ⟨rfl,R',hD4,hf4,hu4⟩)
   go_meet
   case rel=>exact⟨R',hD4,hf4,hu4⟩
 case rest=>
  obtain⟨R',hD4,hf4,hu4⟩:=hcut;obtain⟨w4,hw4⟩:∃W,W=wc:=⟨_,rfl⟩;subst hw4;obtain⟨_,_,m1,m2,m5,_,h0⟩:=HH.out;obtain⟨g1,g3,g5,g6⟩:=HG.out;have hfw:∀x,(x=p∨x=m ∨ ∃t∈QC D.L,Blk (R t) x)->Ui p m R kb D x:=fun x hx=>hx.elim .inl (fun q=>q.elim (fun e=> .inr (.inl e)) (fun e=> .inr (.inr (.inl e))))
  have k4:=(hu4.block w2.heap.size (Array.getElem?_eq_some_iff.1 g5).1 (fun q=>by have:=h0.lt (hfw _ q);omega)).trans g5
  obtain⟨b0,b1,b2⟩:=QP k4;have hU4:Upo (Ui p m R kb D) w w4:=(g3.mono (fun _ _ e=> .inl e)).trans hu4 (fun x _ q=>hfw x q)
  have hf5:∀x,Ui p m R' kb (Y6 D2 s f) x->Ui p m R kb D x∨w.heap.size<=x:=fun y hy=>by
   rcases hy with q|q|q|⟨q0,q⟩
   ·exact .inl (.inl q)
   ·exact .inl (.inr (.inl q))
   ·rcases hf4 y q with q|q
    ·exact .inl (.inr (.inr (.inl q)))
    ·exact .inr (Lt g3.size q)
   ·exact .inl (.inr (.inr (.inr ⟨by rw[<-m5];exact q0,q⟩)))
  have HZ:Hid (Dk w4 p m R' ka kb ko kc (Y6 D2 s f) none∧(∀x,Ui p m R' kb (Y6 D2 s f) x->Ui p m R kb D x∨w.heap.size<=x)∧Upo (Ui p m R kb D) w w4):=⟨hD4,hf5,hU4⟩;clear h0 m1 m2 m5 g1 g3 g5 g6 hfw k4 hU4 hf5 hD4 hf4 hu4 HG HH HDh hfn;go_wp2
  go_ret
  exact⟨m,R',ka,kc,rfl,HZ.out⟩
end
section
variable {w W:World} {p m:Nat} {R:List UInt8->FR} {ka:OA} {kb ko kc:Nat} {D:DV}
theorem Dk.stale(h:Dk w p m R ka kb ko kc D none){s:List UInt8}{T:Nat->Prop}(hT:∀x,T x->s∈QC D.L∧Blk (R s) x)(hu:Upo T w W)(ht:∀x,T x->Ty W x 5):Dk W p m R ka kb ko kc D (some s):=by
 have hty:∀x,T x->Ty w x 5:=fun x hx=>h.low s (hT x hx).1 x (hT x hx).2
 have hp:¬T p:=fun q=>(h.other (hty p q)).1 rfl
 have hm:¬T m:=fun q=>(h.other (hty m q)).2.1 rfl
 have hk:0<D.ks.length -> ¬T kb:=fun h0 q=>(h.other (hty kb q)).2.2 h0 rfl
 have kk:0<D.ks.length->W.heap[kb]? = w.heap[kb]? := fun h0=>hu.block kb (h.kt h0).lt (hk h0)
 refine⟨(hu.block p (h.lt (.inl rfl)) hp).trans h.blk,h.mp.same (hu.block m h.mp.lt hm),h.ord,fun t ht' hne=> ?_,fun t ht' x hx=> ?_,h.apart,h.nm,h.cnt,h.kp.same kk,fun h0=>(h.kt h0).same (kk h0),h.kl,h.fr,h.ac,h.ft⟩
 ·refine(h.fil t ht' (by simp)).same fun x hx=>hu.block x (h.low t ht' x hx).lt (fun q=> ?_)
  obtain⟨q1,q2⟩:=hT x q;exact h.apart t ht' s q1 (fun e=>hne (by rw[e])) x hx q2
 ·rcases Classical.em (T x) with q|q
  ·exact ht x q
  ·exact(h.low t ht' x hx).same (hu.block x (h.low t ht' x hx).lt q)
theorem Dk.file(h:Dk w p m R ka kb ko kc D none){s:List UInt8}{r:FR}(hr:(s∈QC D.L∧r=R s)∨(s ∉ QC D.L∧r=fr0∧Qh D.L s=fz)):Fil w (Qh D.L s) r ∧ ∀x,Blk r x->s∈QC D.L∧Blk (R s) x:=by
 rcases hr with ⟨h1,rfl⟩|⟨h1,rfl,h3⟩
 ·exact⟨h.fil s h1 (by simp),fun x hx=>⟨h1,hx⟩⟩
 ·exact⟨by rw[h3];exact Qjj w,fun x hx=>(QiJ hx).elim⟩
theorem Qi9{w2 w3:World}{s:List UInt8}{f:FV}{r r':FR}{T:Nat->Prop}(h:Dk w p m R ka kb ko kc D none)(hr:(s∈QC D.L∧r=R s)∨(s ∉ QC D.L∧r=fr0∧Qh D.L s=fz))
  (hT:∀x,T x->Blk r x) (hu:Upo T w w2) (hb':∀x,Blk r' x->Blk r x∨w.heap.size<=x) (hD:Dk w3 p m (updR R s r') ka kb ko kc (Y6 D s f) none) (hu3:Upo (fun x=>x=p∨x=m) w2 w3) :
  ∃R',Dk w3 p m R' ka kb ko kc (Y6 D s f) none∧(∀x,(∃t∈QC (Y6 D s f).L,Blk (R' t) x)->(∃t∈QC D.L,Blk (R t) x)∨w.heap.size<=x)∧Upo (fun x=>x=p∨x=m ∨ ∃t∈QC D.L,Blk (R t) x) w w3:=by
 have hf:=(h.file hr).2;refine⟨_,hD,fun x hx=> ?_,?_⟩
 ·obtain⟨t,ht,hx⟩:=hx;simp only[updR] at hx
  by_cases e:t=s
  ·rw[Lo e] at hx
   rcases hb' x hx with q|q
   ·exact .inl ⟨s,(hf x q).1,(hf x q).2⟩
   ·exact .inr q
  ·rw[Le e] at hx;have:=(Qbx h.ord s f t).1 ht;rw[Le e] at this;exact .inl ⟨t,this,hx⟩
 ·refine(hu.mono (T:=fun x=>x=p∨x=m ∨ ∃t∈QC D.L,Blk (R t) x) (fun x _ q=> .inr (.inr ⟨s,hf x (hT x q)⟩))).trans hu3 (fun x _ q=> ?_)
  rcases q with q|q
  ·exact .inl q
  ·exact .inr (.inl q)
theorem Qej{s:List UInt8}{r r':FR}(h:Dk w p m R ka kb ko kc D none)(hr:(s∈QC D.L∧r=R s)∨(s ∉ QC D.L∧r=fr0∧Qh D.L s=fz))(hb':∀x,Blk r' x->Blk r x∨w.heap.size<=x) :
  ∀t∈QC D.L,t≠s -> ∀x,Blk (R t) x->Blk r' x->False:=fun t ht hne x h1 h2=>by
 rcases hb' x h2 with q|q
 ·obtain⟨q1,q2⟩:=(h.file hr).2 x q;exact h.apart t ht s q1 hne x h1 q2
 ·have:=(h.low t ht x h1).lt;omega
end
def Bx1(w:World)(b:Nat)(v:Value)(T:TypeId):Prop:=w.heap[b]? = some (.cells #[v] T (0,0))
theorem Bx1.at{w:World}{b:Nat}{v:Value}{T:TypeId}(h:Bx1 w b v T):w.cell? ⟨b,0,none⟩=some v:=by rw[cell_of_row w b 0 _ _ (0,0) h];rfl
section
variable {p m:Nat} {R:List UInt8->FR} {ka:OA} {kb ko kc:Nat} {D:DV}
theorem Qja(w:World)(h:Dk w p m R ka kb ko kc D none)(s t:BA)(hs:s.size<=maxLen)(k:Nat)(hk:k<=(Qh D.L s.data.toList).now.length)(hl:k+t.size<=268435456)(r:FR)(hr:(s.data.toList∈QC D.L∧r=R s.data.toList)∨(s.data.toList ∉ QC D.L∧r=fr0∧Qh D.L s.data.toList=fz))
  (hcnt:D.L.length<1099511627776) (hroom:k+t.size<=D.free+(Qh D.L s.data.toList).now.length) (hfr:D.free+(Qh D.L s.data.toList).now.length<=9223372036854775807)
  (bd bn bf bo bt:Nat) (x1:Bx1 w bd (Zv p) 27) (x2:Bx1 w bn (.string s) 9) (x3:w.heap[bf]? = some (.cells #[.slice r.a (Qh D.L s.data.toList).now.length r.c,.slice r.b (Qh D.L s.data.toList).syn.length r.d,.int .i64 r.s] 234 (0,0))) (x4:Bx1 w bo (.int .i64 k) 3) (x5:Bx1 w bt (.string t) 9) :
  Do w p m R kb ko D 232 #[Zv bd,Zv bn,Zv bf,Zv bo,Zv bt] s.data.toList ⟨wr (Qh D.L s.data.toList).now k t.data.toList,(Qh D.L s.data.toList).syn⟩:=by
 have tyD:∀ {b:Nat} {cs:Array Value} {T:TypeId},w.heap[b]? = some (.cells cs T (0,0))->T≠95->b≠p:=fun {b cs T} hb hT e=>by
  rw[e,h.blk] at hb;injection hb with hb
  injection hb with _ hb _
  exact hT hb.symm
 refine⟨fun W ka2 kc2 D2 hD2 hL hF hW=> ?_⟩
 have y1:Bx1 W bd _ _:=(hW.block bd (Array.getElem?_eq_some_iff.1 x1).1 (tyD x1 (by decide))).trans x1
 have y2:Bx1 W bn _ _:=(hW.block bn (Array.getElem?_eq_some_iff.1 x2).1 (tyD x2 (by decide))).trans x2
 have y3:=(hW.block bf (Array.getElem?_eq_some_iff.1 x3).1 (tyD x3 (by decide))).trans x3
 have y4:Bx1 W bo _ _:=(hW.block bo (Array.getElem?_eq_some_iff.1 x4).1 (tyD x4 (by decide))).trans x4
 have y5:Bx1 W bt _ _:=(hW.block bt (Array.getElem?_eq_some_iff.1 x5).1 (tyD x5 (by decide))).trans x5
 rw[<-hL] at hr y3 hk ⊢;rw[<-hL,<-hF] at hroom hfr;rw[<-hL] at hcnt;obtain⟨hfil,hblk⟩:=hD2.file hr;obtain⟨f0,hf0⟩:∃f0,Qh D2.L s.data.toList=f0:=⟨_,rfl⟩;have HF0:=Qc hf0;rw[hf0] at hfil y3 hk hroom hfr ⊢;obtain⟨ra,rg,rc,rb,rh,rd,rs⟩:=r;obtain⟨n,hn⟩:∃n,f0.now.length=n:=⟨_,rfl⟩;obtain⟨n2,hn2⟩:∃n,f0.syn.length=n:=⟨_,rfl⟩;simp only[hn,hn2] at y3;have b1:=hfil.b1;have HA:=Qbl W ra rg n rc f0.now rb n2 rd rs k (min rs k) t hfil.now hn (by omega) rfl (by omega)
 have HP:Hid (∀w2 a' g' c',Rw w2 a' g' c' (wr f0.now k t.data.toList)->Upo (fun b=>ra=Zp rg∧b=rg) W w2->((a'=ra∧g'=rg)∨(W.heap.size<=g'∧g'<w2.heap.size))->(ra=Zp rg->Ty w2 rg 5) ->
   Calls prog 187 #[Zv p,.string s,fv a' (wr f0.now k t.data.toList).length c' rb n2 rd (min rs k)] w2 fun e w'=>e= .returned (.tuple #[])∧(∃R',Dk w' p m R' ka2 kb ko kc2 (Y6 D2 s.data.toList ⟨wr f0.now k t.data.toList,f0.syn⟩) none∧(∀x,(∃t'∈QC (Y6 D2 s.data.toList ⟨wr f0.now k t.data.toList,f0.syn⟩).L,Blk (R' t') x)->(∃t'∈QC D2.L,Blk (R t') x)∨W.heap.size<=x)∧Upo (fun x=>x=p∨x=m ∨ ∃t'∈QC D2.L,Blk (R t') x) W w')∧Upo (fun x=>x=p∨x=m) w2 w'):=fun w2 a' g' c' rw2 u2 loc ty2=>by
  have hT:∀x,(ra=Zp rg∧x=rg)->Blk ⟨ra,rg,rc,rb,rh,rd,rs⟩ x:=fun x q=> .inl q
  have hst:=hD2.stale (s:=s.data.toList) (fun x q=>hblk x (hT x q)) u2 (fun x q=>by rw[q.2];exact ty2 q.1)
  have hb':∀x,Blk ⟨a',g',c',rb,rh,rd,min rs k⟩ x->Blk ⟨ra,rg,rc,rb,rh,rd,rs⟩ x∨W.heap.size<=x:=fun x q=>by
   rcases q with ⟨q1,q2⟩|q
   ·simp only at q1 q2
    rcases loc with ⟨l1,l2⟩|l
    ·exact .inl (.inl ⟨by rw[<-l1,q1,l2],by rw[q2,l2]⟩)
    ·exact .inr (by omega)
   ·exact .inl (.inr q)
  have hsynW:Rw w2 rb rh rd f0.syn:=hfil.syn.same fun e=>u2.block rh (hfil.syn.ty e).lt (fun q=>hfil.ap q.1 e q.2.symm)
  have hln:=Qpi f0.now k t.data.toList (by omega)
  rw[Qe] at hln;have hfil2:Fil w2 ⟨wr f0.now k t.data.toList,f0.syn⟩ ⟨a',g',c',rb,rh,rd,min rs k⟩:=by
   have s1:=hfil.s1;have s2:=hfil.s2;simp only at s1 s2;refine⟨rw2,hsynW,by simp only[hln];omega,by simp only;omega,?_,fun e1 e2=> ?_,by simp only[hln];omega,hfil.b2⟩
   ·show f0.syn.take (min rs k)=(wr f0.now k t.data.toList).take (min rs k)
    have e:=LZ (List.take (min rs k)) hfil.sm;simp only[List.take_take] at e;rw[show min (min rs k) rs=min rs k by omega] at e
    rw[e,wr,LP,LH (by simp;omega),Wz,show min (min rs k) k=min rs k by omega]
   ·simp only at e1 e2 ⊢
    rcases loc with ⟨l1,l2⟩|l
    ·rw[l2];exact hfil.ap (by rw[<-l1,e1,l2]) e2
    ·have:=(hfil.syn.ty e2).lt;simp only at this;omega
  have hc:=Uo w2 p m R ka2 kb ko kc2 D2 s ⟨wr f0.now k t.data.toList,f0.syn⟩ ⟨a',g',c',rb,rh,rd,min rs k⟩ hst hfil2 hs (Qej hD2 hr hb') hcnt (by rw[hf0];omega) (by rw[hf0];simp only[hln];omega)
  simp only[Jx,hn2] at hc;refine hc.mono fun e w3 q=>⟨q.1,Qi9 hD2 hr hT u2 hb' q.2.1 q.2.2,q.2.2⟩
 have ne:∀ {b:Nat} {cs:Array Value} {T:TypeId},W.heap[b]? = some (.cells cs T (0,0))->T≠5->T≠95->(¬(ra=Zp rg∧b=rg))∧b≠p∧b≠m:=fun {b cs T} hb h1 h2=>
  ⟨fun q=>(Ty.ne ⟨_,_,hb⟩ (hfil.now.ty q.1) h1) q.2,Ty.ne ⟨_,_,hb⟩ ⟨_,_,hD2.blk⟩ h2,Ty.mv ⟨_,_,hb⟩ hD2.mp⟩
 have keep:∀ {b:Nat} {cs:Array Value} {T:TypeId} (Z Z':World),W.heap[b]? = some (.cells cs T (0,0))->T≠5->T≠95->Upo (fun b=>ra=Zp rg∧b=rg) W Z->Upo (fun x=>x=p∨x=m) Z Z'->Z'.heap[b]? = some (.cells cs T (0,0)):=fun {b cs T} Z Z' hb h1 h2 hu hu'=>by
  obtain⟨n1,n2,n3⟩:=ne hb h1 h2;have hlt:=(Array.getElem?_eq_some_iff.1 hb).1
  exact(hu'.block b (by have:=hu.size;omega) (fun q=>q.elim n2 n3)).trans ((hu.block b hlt n1).trans hb)
 have HCl:Hid (∀Z Z',Upo (fun b=>ra=Zp rg∧b=rg) W Z->Upo (fun x=>x=p∨x=m) Z Z'->Z'.cell? ⟨bd,0,none⟩=some (Zv p)∧Z'.cell? ⟨bn,0,none⟩=some (.string s)∧Z'.cell? ⟨bf,0,none⟩=some (.slice ra n rc)∧Z'.cell? ⟨bf,1,none⟩=some (.slice rb n2 rd)∧Z'.cell? ⟨bf,2,none⟩=some (.int .i64 rs)∧Z'.cell? ⟨bo,0,none⟩=some (.int .i64 k)∧Z'.cell? ⟨bt,0,none⟩=some (.string t)):=fun Z Z' hu hu'=>by
  obtain⟨a0,a1,a2⟩:=QP (keep Z Z' y3 (by decide) (by decide) hu hu')
  exact⟨Bx1.at (keep Z Z' y1 (by decide) (by decide) hu hu'),Bx1.at (keep Z Z' y2 (by decide) (by decide) hu hu'),a0,a1,a2,Bx1.at (keep Z Z' y4 (by decide) (by decide) hu hu'),Bx1.at (keep Z Z' y5 (by decide) (by decide) hu hu')⟩
 obtain⟨c1,c2,c3,c4,c5,c6,c7⟩:=HCl.out W W (Upo.refl _ _) (Upo.refl _ _);obtain⟨mk,hmk⟩:∃mk,min rs k=mk:=⟨_,rfl⟩;rw[hmk] at HA HP;have HAd:Hid (∀Z,Upo (fun b=>ra=Zp rg∧b=rg) W Z->Upo (fun b=>ra=Zp rg∧b=rg) W.drew Z):=fun Z q=>⟨q.os,q.tape,q.output,q.size,q.block⟩
 have HA2:Calls prog 233 #[.agg #[.slice ra n rc,.slice rb n2 rd,.int .i64 rs],.int .i64 k,.string t] W.drew fun e w'=> ∃a' g' c',e= .returned (fv a' (wr f0.now k t.data.toList).length c' rb n2 rd mk)∧Rw w' a' g' c' (wr f0.now k t.data.toList)∧Upo (fun b=>ra=Zp rg∧b=rg) W w'∧((a'=ra∧g'=rg)∨(W.heap.size<=g'∧g'<w'.heap.size))∧(ra=Zp rg->Ty w' rg 5):=by
  have q:=Qbl W.drew ra rg n rc f0.now rb n2 rd rs k mk t (hfil.now.same (W:=W.drew) fun _=>rfl) hn (by omega) hmk (by omega)
  exact q.mono fun e w' q=>by
   obtain⟨a',g',c',q1,q2,q3,q4⟩:=q;exact⟨a',g',c',q1,q2,⟨q3.os,q3.tape,q3.output,q3.size,q3.block⟩,q4⟩
 clear HA x1 x2 x3 x4 x5 y1 y2 y3 y4 y5 hfil hblk hr hk hl hn hn2 hroom hfr hcnt hf0 hD2 hW h tyD ne keep hmk hs b1 HAd
 go_enter func232,ntmps232
 go_upto_region 0 with (fail)
 go_region_held3 (fun Z=>Z.cell? ⟨bd,0,none⟩=some (Zv p)∧Z.cell? ⟨bn,0,none⟩=some (.string s)∧Z.cell? ⟨bf,0,none⟩=some (.slice ra n rc)∧Z.cell? ⟨bf,1,none⟩=some (.slice rb n2 rd)∧Z.cell? ⟨bf,2,none⟩=some (.int .i64 rs)∧Z.cell? ⟨bo,0,none⟩=some (.int .i64 k)∧Z.cell? ⟨bt,0,none⟩=some (.string t)) (first|assumption|(exact⟨c1,c2,c3,c4,c5,c6,c7⟩)|(exact HCl.out _ _ u2 (Upo.refl _ _))|(exact HCl.out _ _ u2 u3)) (first
  | (go_at_call 233;(with_reducible refine HA2.mono ?_);rintro e w2 ⟨a',g',c',rfl,rw2,u2,loc,ty2⟩)
  | (go_at_call 187;(with_reducible refine(HP.out w2 a' g' c' rw2 u2 loc ty2).mono ?_);rintro e w3 ⟨rfl,hfin,u3⟩))
 go_wp2
 go_end0
 exact⟨rfl,hfin⟩
end
section
variable {p m:Nat} {R:List UInt8->FR} {ka:OA} {kb ko kc:Nat} {D:DV}
theorem QlP(w:World)(h:Dk w p m R ka kb ko kc D none)(s:BA)(hs:s.size<=maxLen)(hcnt:D.L.length<1099511627776)(hfr:D.free+(Qh D.L s.data.toList).now.length<=9223372036854775807)
  (bd bn:Nat) (x1:Bx1 w bd (Zv p) 27) (x2:Bx1 w bn (.string s) 9) :
  Do w p m R kb ko D 189 #[Zv bd,Zv bn] s.data.toList ⟨(Qh D.L s.data.toList).now,(Qh D.L s.data.toList).now⟩:=by
 have tyD:∀ {b:Nat} {cs:Array Value} {T:TypeId},w.heap[b]? = some (.cells cs T (0,0))->T≠95->b≠p:=fun {b cs T} hb hT e=>by
  rw[e,h.blk] at hb;injection hb with hb
  injection hb with _ hb _
  exact hT hb.symm
 refine⟨fun W ka2 kc2 D2 hD2 hL hF hW=> ?_⟩
 have y1:Bx1 W bd _ _:=(hW.block bd (Array.getElem?_eq_some_iff.1 x1).1 (tyD x1 (by decide))).trans x1
 have y2:Bx1 W bn _ _:=(hW.block bn (Array.getElem?_eq_some_iff.1 x2).1 (tyD x2 (by decide))).trans x2
 rw[<-hL,<-hF] at hfr;rw[<-hL] at hcnt ⊢;obtain⟨r,hl,hr⟩:=hD2.look s hs;obtain⟨hfil,hblk⟩:=hD2.file hr;obtain⟨f0,hf0⟩:∃f0,Qh D2.L s.data.toList=f0:=⟨_,rfl⟩;rw[hf0] at hfil hfr hl ⊢;obtain⟨ra,rg,rc,rb,rh,rd,rs⟩:=r;obtain⟨n,hn⟩:∃n,f0.now.length=n:=⟨_,rfl⟩;obtain⟨n2,hn2⟩:∃n,f0.syn.length=n:=⟨_,rfl⟩;simp only[Jx,fv,hn,hn2] at hl;have b1:=hfil.b1;have s1:=hfil.s1;have s2:=hfil.s2;simp only at s1 s2;have HP:Hid (∀w2 b' h' d',Rw w2 b' h' d' f0.now->Upo (fun b=>rb=Zp rh∧b=rh) W w2->((b'=rb∧h'=rh)∨(W.heap.size<=h'∧h'<w2.heap.size))->(rb=Zp rh->Ty w2 rh 5) ->
   Calls prog 187 #[Zv p,.string s,fv ra n rc b' n d' n] w2 fun e w'=>e= .returned (.tuple #[])∧(∃R',Dk w' p m R' ka2 kb ko kc2 (Y6 D2 s.data.toList ⟨f0.now,f0.now⟩) none∧(∀x,(∃t'∈QC (Y6 D2 s.data.toList ⟨f0.now,f0.now⟩).L,Blk (R' t') x)->(∃t'∈QC D2.L,Blk (R t') x)∨W.heap.size<=x)∧Upo (fun x=>x=p∨x=m ∨ ∃t'∈QC D2.L,Blk (R t') x) W w')∧Upo (fun x=>x=p∨x=m) w2 w'∧w'.cell? ⟨p,1,none⟩=some (.map (some m))):=fun w2 b' h' d' rw2 u2 loc ty2=>by
  have hT:∀x,(rb=Zp rh∧x=rh)->Blk ⟨ra,rg,rc,rb,rh,rd,rs⟩ x:=fun x q=> .inr q
  have hst:=hD2.stale (s:=s.data.toList) (fun x q=>hblk x (hT x q)) u2 (fun x q=>by rw[q.2];exact ty2 q.1)
  have hb':∀x,Blk ⟨ra,rg,rc,b',h',d',n⟩ x->Blk ⟨ra,rg,rc,rb,rh,rd,rs⟩ x∨W.heap.size<=x:=fun x q=>by
   rcases q with q|⟨q1,q2⟩
   ·exact .inl (.inl q)
   ·simp only at q1 q2
    rcases loc with ⟨l1,l2⟩|l
    ·exact .inl (.inr ⟨by rw[<-l1,q1,l2],by rw[q2,l2]⟩)
    ·exact .inr (by omega)
  have hnowW:Rw w2 ra rg rc f0.now:=hfil.now.same fun e=>u2.block rg (hfil.now.ty e).lt (fun q=>hfil.ap e q.1 q.2)
  have hfil2:Fil w2 ⟨f0.now,f0.now⟩ ⟨ra,rg,rc,b',h',d',n⟩:=by
   refine⟨hnowW,rw2,by simp only;omega,by simp only;omega,rfl,fun e1 e2=> ?_,hfil.b1,hfil.b1⟩
   simp only at e1 e2 ⊢
   rcases loc with ⟨l1,l2⟩|l
   ·rw[l2];exact hfil.ap e1 (by rw[<-l1,e2,l2])
   ·have:=(hfil.now.ty e1).lt;simp only at this;omega
  have hc:=Uo w2 p m R ka2 kb ko kc2 D2 s ⟨f0.now,f0.now⟩ ⟨ra,rg,rc,b',h',d',n⟩ hst hfil2 hs (Qej hD2 hr hb') hcnt (by rw[hf0];omega) (by rw[hf0];simp only;omega)
  simp only[Jx,hn] at hc;refine hc.mono fun e w3 q=>⟨q.1,Qi9 hD2 hr hT u2 hb' q.2.1 q.2.2,q.2.2,q.2.1.cells.2.1⟩
 have ne:∀ {b:Nat} {cs:Array Value} {T:TypeId},W.heap[b]? = some (.cells cs T (0,0))->T≠5->(¬(rb=Zp rh∧b=rh))∧b≠m:=fun {b cs T} hb h1=>
  ⟨fun q=>(Ty.ne ⟨_,_,hb⟩ (hfil.syn.ty q.1) h1) q.2,Ty.mv ⟨_,_,hb⟩ hD2.mp⟩
 have keep:∀ {b:Nat} {cs:Array Value} {T:TypeId} (Z Z':World),W.heap[b]? = some (.cells cs T (0,0))->T≠5->T≠95->Upo (fun b=>rb=Zp rh∧b=rh) W Z->Upo (fun x=>x=p∨x=m) Z Z'->Z'.heap[b]? = some (.cells cs T (0,0)):=fun {b cs T} Z Z' hb h1 h2 hu hu'=>by
  obtain⟨n1,n3⟩:=ne hb h1;have n2:b≠p:=Ty.ne ⟨_,_,hb⟩ ⟨_,_,hD2.blk⟩ h2;have hlt:=(Array.getElem?_eq_some_iff.1 hb).1
  exact(hu'.block b (by have:=hu.size;omega) (fun q=>q.elim n2 n3)).trans ((hu.block b hlt n1).trans hb)
 have HCl:Hid (∀Z Z',Upo (fun b=>rb=Zp rh∧b=rh) W Z->Upo (fun x=>x=p∨x=m) Z Z'->Z'.cell? ⟨bd,0,none⟩=some (Zv p)∧Z'.cell? ⟨bn,0,none⟩=some (.string s)):=fun Z Z' hu hu'=>
  ⟨Bx1.at (keep Z Z' y1 (by decide) (by decide) hu hu'),Bx1.at (keep Z Z' y2 (by decide) (by decide) hu hu')⟩
 have HCm:Hid (∀Z,Upo (fun b=>rb=Zp rh∧b=rh) W Z->Z.cell? ⟨p,1,none⟩=some (.map (some m))):=fun Z hu=>by
  have e:=(hu.block p (Array.getElem?_eq_some_iff.1 hD2.blk).1 (ne hD2.blk (by decide)).1).trans hD2.blk
  rw[cell_of_row Z p 1 _ _ (0,0) e];rfl
 obtain⟨c1,c2⟩:=HCl.out W W (Upo.refl _ _) (Upo.refl _ _);have c3:=HCm.out W (Upo.refl _ _);have HA2:Calls prog 190 #[.agg #[.slice ra n rc,.slice rb n2 rd,.int .i64 rs]] W.drew fun e w'=> ∃b' h' d',e= .returned (fv ra n rc b' n d' n)∧Rw w' b' h' d' f0.now∧Upo (fun x=>rb=Zp rh∧x=rh) W w'∧((b'=rb∧h'=rh)∨(W.heap.size<=h'∧h'<w'.heap.size))∧(rb=Zp rh->Ty w' rh 5):=by
  have q:=QhK W.drew ra rg n rc f0.now rb rh n2 rd rs f0.syn (hfil.now.same (W:=W.drew) fun _=>rfl) (hfil.syn.same (W:=W.drew) fun _=>rfl) hn hn2 (by omega) (by omega) hfil.sm (by omega)
  exact q.mono fun e w' q=>by
   obtain⟨b',h',d',q1,q2,q3,q4⟩:=q;exact⟨b',h',d',q1,q2,⟨q3.os,q3.tape,q3.output,q3.size,q3.block⟩,q4⟩
 have hl1:=hl W.drew rfl;clear x1 x2 y1 y2 hfil hblk hr hn hn2 hfr hcnt hf0 hD2 hW h tyD ne keep hs b1 s1 s2 hl
 go_enter func189,ntmps189
 go_upto_region 0 with (fail)
 go_region_held3 (fun Z=>Z.cell? ⟨bd,0,none⟩=some (Zv p)∧Z.cell? ⟨bn,0,none⟩=some (.string s)∧Z.cell? ⟨p,1,none⟩=some (.map (some m))) (first|assumption|(exact⟨c1,c2,c3⟩)|(exact⟨(HCl.out _ _ u2 (Upo.refl _ _)).1,(HCl.out _ _ u2 (Upo.refl _ _)).2,HCm.out _ u2⟩)|(exact⟨(HCl.out _ _ u2 u3).1,(HCl.out _ _ u2 u3).2,cm3⟩)) (first
  | (go_at_call 190;(with_reducible refine HA2.mono ?_);rintro e w2 ⟨b',h',d',rfl,rw2,u2,loc,ty2⟩)
  | (go_at_call 187;(with_reducible refine(HP.out w2 b' h' d' rw2 u2 loc ty2).mono ?_);rintro e w3 ⟨rfl,hfin,u3,cm3⟩))
 go_wp2
 go_end0
 exact⟨rfl,hfin⟩
end
theorem Jq{w:World}{i:Nat}(o:Obj)(h:i<w.heap.size):(w.alloc o).heap[i]? = w.heap[i]? := (MapKept.heap_alloc w o).2 i h
theorem Qff{w:World}{n:Nat}(o:Obj)(h:w.heap.size=n):(w.alloc o).heap[n]? = some o:=by rw[<-h];exact U7 w o
theorem JJ(w:World)(o:Obj):(w.alloc o).heap.size=w.heap.size+1:=by simp
theorem Qlm(w:World)(o1 o2 o3 o4:Obj):((((w.alloc o1).alloc o2).alloc o3).alloc o4).heap[w.heap.size]? = some o1∧((((w.alloc o1).alloc o2).alloc o3).alloc o4).heap[w.heap.size+1]? = some o2∧((((w.alloc o1).alloc o2).alloc o3).alloc o4).heap[w.heap.size+2]? = some o3∧((((w.alloc o1).alloc o2).alloc o3).alloc o4).heap[w.heap.size+3]? = some o4:=by
 have s1:=JJ w o1;have s2:=JJ (w.alloc o1) o2;have s3:=JJ ((w.alloc o1).alloc o2) o3;refine⟨?_,?_,?_,Qff _ (by omega)⟩
 ·rw[Jq _ (by omega),Jq _ (by omega),Jq _ (by omega)];exact U7 w o1
 ·rw[Jq _ (by omega),Jq _ (by omega)];exact Qff _ (by omega)
 ·rw[Jq _ (by omega)];exact Qff _ (by omega)
def Left(w w':World)(p m:Nat)(R:List UInt8->FR)(kb ko:Nat)(D D':DV):Prop :=
 ∃m' R' ka' kc',Dk w' p m' R' ka' kb ko kc' D' none∧(∀x,Ui p m' R' kb D' x->Ui p m R kb D x∨w.heap.size<=x)∧Upo (Ui p m R kb D) w w'
def wrD(D:DV)(s:List UInt8)(off:Int)(t:List UInt8):DV×Int :=
 if D.down then (D,170) else
 if off<0∨((Qh D.L s).now.length:Int)<off∨268435456-off<(t.length:Int) then (D,173) else
 if (D.free:Int)<off+(t.length:Int)-((Qh D.L s).now.length:Int) then (D,172) else
 actD D s ⟨wr (Qh D.L s).now off.toNat t,(Qh D.L s).syn⟩
theorem Left.drew{w w':World}{p m:Nat}{R:List UInt8->FR}{kb ko:Nat}{D D':DV}(h:Left w w' p m R kb ko D D'):Left w w'.drew p m R kb ko D D':=by
 obtain⟨m',R',ka',kc',h1,h2,h3⟩:=h;exact⟨m',R',ka',kc',h1.same (fun _ _=>rfl),h2,h3.drew⟩
section
variable {p m:Nat} {R:List UInt8->FR} {ka:OA} {kb ko kc:Nat} {D:DV}
theorem Qcs{w w':World}(h:Dk w p m R ka kb ko kc D none)(hb:Below w.heap.size w w'):Left w w' p m R kb ko D D:=⟨m,R,ka,kc,h.next hb,fun _ hx=> .inl hx,Upo.of hb⟩
theorem Qcr{w w1 w':World}{D':DV}(hb:Below w.heap.size w w1)(hl:∃m' R' ka' kc',Dk w' p m' R' ka' kb ko kc' D' none∧(∀x,Ui p m' R' kb D' x->Ui p m R kb D x∨w1.heap.size<=x)∧Upo (Ui p m R kb D) w1 w'):Left w w' p m R kb ko D D':=by
 obtain⟨m',R',ka',kc',h1,h2,h3⟩:=hl;exact⟨m',R',ka',kc',h1,fun x hx=>(h2 x hx).imp id (fun q=>Lt hb.size q),(Upo.of hb).trans h3 (fun _ _ q=>q)⟩
theorem Qau(w:World)(h:Dk w p m R ka kb ko kc D none)(s t:BA)(hs:s.size<=maxLen)(off:Int)(ho1 : -9223372036854775808<=off)(ho2:off<=9223372036854775807)(ht:t.size<=140737488355328)(hac:D.acts+1<=4611686018427387904)(hcnt:D.L.length<1099511627776)(hfr:D.down=false->D.free+(Qh D.L s.data.toList).now.length<=9223372036854775807) :
  Calls prog 199 #[Zv p,.string s,.int .i64 off,.string t] w fun e w'=>e= .returned (.int .i64 (wrD D s.data.toList off t.data.toList).2)∧Left w w' p m R kb ko D (wrD D s.data.toList off t.data.toList).1:=by
 obtain⟨r,hl,hr⟩:=h.look s hs;obtain⟨hfil,_⟩:=h.file hr;have hb1:=hfil.b1;obtain⟨f0,hf0⟩:∃f0,Qh D.L s.data.toList=f0:=⟨_,rfl⟩;rw[hf0] at hl hb1 hfr;obtain⟨n,hn⟩:∃n,f0.now.length=n:=⟨_,rfl⟩;obtain⟨n2,hn2⟩:∃n,f0.syn.length=n:=⟨_,rfl⟩;simp only[Jx,fv,hn,hn2] at hl;have hwr:wrD D s.data.toList off t.data.toList=if D.down then (D,170) else if off<0∨(n:Int)<off∨268435456-off<(t.size:Int) then (D,173) else if (D.free:Int)<off+(t.size:Int)-(n:Int) then (D,172) else actD D s.data.toList ⟨wr f0.now off.toNat t.data.toList,f0.syn⟩:=by
  simp only[wrD,hf0,hn,Qe]
 obtain⟨w4,hw4⟩:∃W,(((w.alloc (.cells #[Zv p] 27)).alloc (.cells #[.string s] 9)).alloc (.cells #[.int .i64 off] 3)).alloc (.cells #[.string t] 9)=W:=⟨_,rfl⟩;have hb4:Below w.heap.size w w4:=by rw[<-hw4];exact bal (bal (bal (bal (Lc _ _) _) _) _) _
 have hz4:w4.heap.size=w.heap.size+4:=by rw[<-hw4];simp
 have hq4:=Qlm w (.cells #[Zv p] 27) (.cells #[.string s] 9) (.cells #[.int .i64 off] 3) (.cells #[.string t] 9);rw[hw4] at hq4;obtain⟨n1,n2',n3,n4⟩:=hq4;have hr2:=r;obtain⟨ra,rg,rc,rb,rh,rd,rs⟩:=r;simp only at hl;obtain⟨w5,hw5⟩:∃W,w4.alloc (.cells #[.slice ra n rc,.slice rb n2 rd,.int .i64 rs] 234)=W:=⟨_,rfl⟩;have h4:=h.next hb4;obtain⟨c0,c1,c2,c3,c4,c5,c6⟩:=h4.cells;have a1:=Bx1.at n1;have a2:=Bx1.at n2';have hl4:=hl w4.drew (hb4.block m h.mp.lt);have hl5:=hl (w4.alloc (.cells #[.slice none 0 0,.slice none 0 0,.int .i64 0] 234)).drew ((Jq _ h4.mp.lt).trans (hb4.block m h.mp.lt));have hb5:Below w4.heap.size w4 w5:=by rw[<-hw5];exact bal (Lc _ _) _
 have HG:Hid (Dk w p m R ka kb ko kc D none∧Below w.heap.size w w4∧Below w4.heap.size w4 w5∧w4.heap.size=w.heap.size+4∧n<=268435456∧(D.down=false->D.free+n<=9223372036854775807)∧t.size<=140737488355328∧D.acts+1<=4611686018427387904∧D.L.length<1099511627776∧Qh D.L s.data.toList=f0∧f0.now.length=n∧f0.syn.length=n2):=⟨h,hb4,hb5,hz4,by omega,fun q=>by have:=hfr q;omega,ht,hac,hcnt,hf0,hn,hn2⟩
 have HWr:=Qc hwr;have hp4:¬(p=w4.heap.size):=by have:=h.lt (.inl rfl);omega
 have a0:∀i j v,i<w4.heap.size->w4.cell? ⟨i,j,none⟩=some v->(w4.alloc (.cells #[.slice none 0 0,.slice none 0 0,.int .i64 0] 234)).cell? ⟨i,j,none⟩=some v:=fun i j v hi hv=>by
  unfold World.cell? at hv ⊢;rw[Jq _ hi];exact hv
 have a3:=a0 _ _ _ (by omega) a1
 have a4:=a0 _ _ _ (by omega) a2
 have a5:=a0 _ _ _ (h4.lt (.inl rfl)) c1;clear a0;have HW4:Hid ((((w.alloc (.cells #[Zv p] 27)).alloc (.cells #[.string s] 9)).alloc (.cells #[.int .i64 off] 3)).alloc (.cells #[.string t] 9)=w4):=hw4;have HW5:Hid (w4.alloc (.cells #[.slice ra n rc,.slice rb n2 rd,.int .i64 rs] 234)=w5):=hw5;have HN:Hid (Bx1 w4 w.heap.size (Zv p) 27∧Bx1 w4 (w.heap.size+1) (.string s) 9∧Bx1 w4 (w.heap.size+2) (.int .i64 off) 3∧Bx1 w4 (w.heap.size+3) (.string t) 9∧((s.data.toList∈QC D.L∧(⟨ra,rg,rc,rb,rh,rd,rs⟩:FR)=R s.data.toList)∨(s.data.toList ∉ QC D.L∧(⟨ra,rg,rc,rb,rh,rd,rs⟩:FR)=fr0∧Qh D.L s.data.toList=fz))):=⟨n1,n2',n3,n4,hr⟩;clear h hb4 hz4 hb5 hn hn2 hf0 hfr hac hcnt ht hb1 hfil hwr hr n1 n2' n3 n4 h4 c0 c2 c3 c4 c5 c6 hw4 hw5 hl hr2
 go_enter func199,ntmps199
 go_upto_region 1 with (fail)
 rw[show(w.heap.size+1+1:Nat)=w.heap.size+2 from rfl,HW4.out]
 go_region
 all_goals
  rw[HW5.out];obtain⟨w6,hw6⟩:∃W,w5.drew=W:=⟨_,rfl⟩;rw[hw6];obtain⟨h,hb4,hb5,hz4,hn0,hfr,ht,hac,hcnt,hf0,hn,hn2⟩:=HG.out;obtain⟨x1,x2,x4,x5,hr⟩:=HN.out;have hb6:Below w4.heap.size w4 w6:=by rw[<-hw6];exact⟨hb5.os,hb5.tape,hb5.output,hb5.size,hb5.block⟩
  have x3:w6.heap[w4.heap.size]? = some (.cells #[.slice ra n rc,.slice rb n2 rd,.int .i64 rs] 234 (0,0)):=by rw[<-hw6,<-HW5.out];exact U7 w4 _
  have y1:Bx1 w6 w.heap.size _ _:=(hb6.block _ (by omega)).trans x1
  have y2:Bx1 w6 (w.heap.size+1) _ _:=(hb6.block _ (by omega)).trans x2
  have y4:Bx1 w6 (w.heap.size+2) _ _:=(hb6.block _ (by omega)).trans x4
  have y5:Bx1 w6 (w.heap.size+3) _ _:=(hb6.block _ (by omega)).trans x5
  have hbw:=Qa hb4 hb6;have h6:=h.next hbw;obtain⟨c0,c1',c2,c3,c4,c5,c6⟩:=h6.cells;obtain⟨b0,b1,b2⟩:=QP x3;have z1:=y1.at;have z2:=y2.at;have z4:=y4.at;have z5:=y5.at;have hwr:=HWr.out;have HS:Hid (Left w w6 p m R kb ko D D):=Qcs h hbw;have HQ:Hid (Dk w6 p m R ka kb ko kc D none∧Below w.heap.size w w6∧Bx1 w6 w.heap.size (Zv p) 27∧Bx1 w6 (w.heap.size+1) (.string s) 9∧Bx1 w6 (w.heap.size+2) (.int .i64 off) 3∧Bx1 w6 (w.heap.size+3) (.string t) 9∧w6.heap[w4.heap.size]? = some (.cells #[.slice ra n rc,.slice rb n2 rd,.int .i64 rs] 234 (0,0))):=⟨h6,hbw,y1,y2,y4,y5,x3⟩;clear hw6 h hb4 hb5 hz4 hf0 hn hn2 x1 x2 x4 x5 hr hb6 x3 y1 y2 y4 y5 hbw h6 c1' c2 c3 c4 c5 b1 b2 a1 a2 a3 a4 a5 c1 hl4 hl5 hp4 HW5 HW4 HWr hac hcnt
  by_cases hd:D.down=true
  ·rw[Lo hd] at hwr;have HE:=Qc hwr;clear hwr;rw[hd] at c6;go_wp2
   go_ret
   rw[HE.out];exact⟨rfl,HS.out⟩
  rw[Le hd] at hwr;have hd2:D.down=false:=by simpa using hd
  rw[hd2] at c6;have HDn:=Qc hd2;clear hd hd2
  by_cases hc:off<0∨(n:Int)<off∨268435456-off<(t.size:Int)
  ·rw[Lo hc] at hwr;have HE:=Qc hwr;clear hwr
   by_cases k1:off<0
   ·clear hc;go_wp2
    go_ret
    rw[HE.out];exact⟨rfl,HS.out⟩
   by_cases k2:(n:Int)<off
   ·clear hc;go_wp2
    go_ret
    rw[HE.out];exact⟨rfl,HS.out⟩
   have k3:268435456-off<(t.size:Int):=by omega
   have e1:IntKind.i64.wrap (268435456-off)=268435456-off:=by rw[LE];omega
   clear hc;go_wp2
   go_ret
   rw[HE.out];exact⟨rfl,HS.out⟩
  rw[Le hc] at hwr;have k1:¬off<0:=fun e=>hc (.inl e)
  have k2:¬(n:Int)<off:=fun e=>hc (.inr (.inl e))
  have k3:¬268435456-off<(t.size:Int):=fun e=>hc (.inr (.inr e))
  obtain⟨k,rfl⟩:∃k:Nat,off=(k:Int):=⟨off.toNat,by omega⟩
  have e1:IntKind.i64.wrap (268435456-(k:Int))=268435456-(k:Int):=by rw[LE];omega
  have e2:IntKind.i64.wrap ((k:Int)+(t.size:Int))=(k:Int)+(t.size:Int):=by rw[LE];omega
  have e3:IntKind.i64.wrap ((k:Int)+(t.size:Int)-(n:Int))=(k:Int)+(t.size:Int)-(n:Int):=by rw[LE];omega
  go_upto_region 6 with (fail)
  by_cases hm:(D.free:Int)<(k:Int)+(t.size:Int)-(n:Int)
  ·rw[Lo hm] at hwr;have HE:=Qc hwr;clear hwr
   go_region
   go_wp2
   go_ret
   rw[HE.out];exact⟨rfl,(HS.out.drew)⟩
  rw[Le hm] at hwr;have HE:=Qc hwr;have HAct:Hid (Calls prog 185 #[Zv p,.func (.func 232) #[] #[Zv w.heap.size,.pointer (some ⟨w.heap.size+1,0,none⟩),Zv w4.heap.size,.pointer (some ⟨w.heap.size+2,0,none⟩),.pointer (some ⟨w.heap.size+3,0,none⟩)]] w6.drew fun e w'=>e= .returned (.int .i64 (wrD D s.data.toList (k:Int) t.data.toList).2)∧Left w w' p m R kb ko D (wrD D s.data.toList (k:Int) t.data.toList).1):=by
   obtain⟨h,hb4,hb5,hz4,hn0,hfr,ht,hac,hcnt,hf0,hn,hn2⟩:=HG.out;obtain⟨x1,x2,x4,x5,hr⟩:=HN.out;have hfr:=hfr HDn.out;obtain⟨q1,q2,q3,q4,q5,q6,q7⟩:=HQ.out;have hf:Qh D.L s.data.toList=f0:=hf0;have hbd:Below w.heap.size w w6.drew:=⟨q2.os,q2.tape,q2.output,q2.size,q2.block⟩;have hD6:Dk w6.drew p m R ka kb ko kc D none:=q1.same (fun _ _=>rfl)
   have HD:=Qja w6.drew hD6 s t hs k (by rw[hf,hn];omega) (by omega) ⟨ra,rg,rc,rb,rh,rd,rs⟩ hr hcnt (by rw[hf,hn];omega) (by rw[hf,hn];omega) w.heap.size (w.heap.size+1) w4.heap.size (w.heap.size+2) (w.heap.size+3) q3 q4 (by rw[hf,hn,hn2];exact q7) q5 q6
   have HZ:=Qgm w6.drew hD6 hac _ _ _ _ HD (.inl rfl);rw[hf] at HZ;refine HZ.mono ?_
   rintro e w' ⟨m',R',ka',kc',rfl,hl⟩;rw[HE.out,Ni];exact⟨rfl,Qcr hbd ⟨m',R',ka',kc',hl⟩⟩
  clear HE hwr HS HQ HG HN
  go_region
  go_wp2_with (go_at_call 185;(with_reducible refine HAct.out.mono ?_);rintro e w7 ⟨rfl,hl⟩)
  go_ret
  exact⟨rfl,hl⟩
end
def YE(D:DV)(s:List UInt8):DV×Int:=if D.down then (D,170) else actD D s ⟨(Qh D.L s).now,(Qh D.L s).now⟩
section
variable {p m:Nat} {R:List UInt8->FR} {ka:OA} {kb ko kc:Nat} {D:DV}
theorem QkR(w:World)(h:Dk w p m R ka kb ko kc D none)(s:BA)(hs:s.size<=maxLen)(hac:D.acts+1<=4611686018427387904)(hcnt:D.L.length<1099511627776)(hfr:D.down=false->D.free+(Qh D.L s.data.toList).now.length<=9223372036854775807) :
  Calls prog 119 #[Zv p,.string s] w fun e w'=>e= .returned (.int .i64 (YE D s.data.toList).2)∧Left w w' p m R kb ko D (YE D s.data.toList).1:=by
 obtain⟨w4,hw4⟩:∃W,(w.alloc (.cells #[Zv p] 27)).alloc (.cells #[.string s] 9)=W:=⟨_,rfl⟩;have HW4:Hid ((w.alloc (.cells #[Zv p] 27)).alloc (.cells #[.string s] 9)=w4):=hw4;have hb4:Below w.heap.size w w4:=by rw[<-hw4];exact bal (bal (Lc _ _) _) _
 have x1:Bx1 w4 w.heap.size (Zv p) 27:=by rw[<-hw4];exact new0 _ _ _
 have x2:Bx1 w4 (w.heap.size+1) (.string s) 9:=by rw[<-hw4];exact new2 _ _ _
 have h4:=h.next hb4;have HS:Hid (Left w w4 p m R kb ko D D):=Qcs h hb4;obtain⟨_,_,_,_,_,_,c6⟩:=h4.cells;have z1:=x1.at;have z2:=x2.at;have hsd:YE D s.data.toList=if D.down then (D,170) else actD D s.data.toList ⟨(Qh D.L s.data.toList).now,(Qh D.L s.data.toList).now⟩:=rfl
 have HAct:Hid (D.down=false->Calls prog 185 #[Zv p,.func (.func 189) #[] #[Zv w.heap.size,.pointer (some ⟨w.heap.size+1,0,none⟩)]] w4 fun e w'=>e= .returned (.int .i64 (YE D s.data.toList).2)∧Left w w' p m R kb ko D (YE D s.data.toList).1):=fun hd=>by
  refine(Qgm w4 h4 hac _ _ _ _ (QlP w4 h4 s hs hcnt (hfr hd) w.heap.size (w.heap.size+1) x1 x2) (.inr (.inr rfl))).mono ?_
  rintro e w' ⟨m',R',ka',kc',rfl,hl⟩;rw[hsd,Le (by simp[hd])]
  exact⟨rfl,Qcr hb4 ⟨m',R',ka',kc',hl⟩⟩
 have HSD:=Qc hsd;clear h hb4 h4 x1 x2 hw4 hac hcnt hfr hsd
 by_cases hd:D.down=true
 ·rw[hd] at c6;have HE:Hid (YE D s.data.toList=(D,170)):=by show _=_;rw[HSD.out,Lo hd]
  clear hd HSD HAct
  go_enter func119,ntmps119
  go_upto_region 1 with (fail)
  rw[HW4.out];go_wp2
  go_ret
  rw[HE.out];exact⟨rfl,HS.out⟩
 ·have hd2:D.down=false:=by simpa using hd
  have HA2:=Qc (HAct.out hd2);rw[hd2] at c6;clear hd hd2 HSD HAct HS
  go_enter func119,ntmps119
  go_upto_region 1 with (fail)
  rw[HW4.out]
  go_wp2_with (go_at_call 185;(with_reducible refine HA2.out.mono ?_);rintro e w7 ⟨rfl,hl⟩)
  go_ret
  exact⟨rfl,hl⟩
end
def rdD(D:DV)(s:List UInt8)(off n:Int):List UInt8×Int :=
 if D.down then ([],170) else
 if off<0∨n<0∨((Qh D.L s).now.length:Int)<off∨((Qh D.L s).now.length:Int)-off<n then ([],173) else
 (((Qh D.L s).now.drop off.toNat).take n.toNat,0)
section
variable {p m:Nat} {R:List UInt8->FR} {ka:OA} {kb ko kc:Nat} {D:DV}
theorem Qkx(w:World)(h:Dk w p m R ka kb ko kc D none)(s:BA)(hs:s.size<=maxLen)(off q:Int)(ho1 : -9223372036854775808<=off)(ho2:off<=9223372036854775807)(hq1 : -9223372036854775808<=q)(hq2:q<=9223372036854775807) :
  Calls prog 94 #[Zv p,.string s,.int .i64 off,.int .i64 q] w fun e w'=>e= .returned (.tuple #[.string ⟨(rdD D s.data.toList off q).1.toArray⟩,.int .i64 (rdD D s.data.toList off q).2])∧Below w.heap.size w w':=by
 obtain⟨c0,c1,c2,c3,c4,c5,c6⟩:=h.cells;obtain⟨r,hl,hr⟩:=h.look s hs;have hl1:=hl w rfl;obtain⟨hfil,_⟩:=h.file hr;have hb1:=hfil.b1;have hnow:=hfil.now;have hfld:=Qc5;obtain⟨f0,hf0⟩:∃f0,Qh D.L s.data.toList=f0:=⟨_,rfl⟩;rw[hf0] at hl1 hb1 hnow;obtain⟨n,hn⟩:∃n,f0.now.length=n:=⟨_,rfl⟩;obtain⟨n2,hn2⟩:∃n,f0.syn.length=n:=⟨_,rfl⟩;simp only[Jx,fv,hn,hn2] at hl1;have hrd:rdD D s.data.toList off q=if D.down then ([],170) else if off<0∨q<0∨(n:Int)<off∨(n:Int)-off<q then ([],173) else ((f0.now.drop off.toNat).take q.toNat,0):=by
  simp only[rdD,hf0,hn]
 obtain⟨ra,rg,rc,rb,rh,rd,rs⟩:=r;simp only at hl1 hnow;obtain⟨w1,hw1⟩:∃W,w.alloc (.cells #[.slice ra n rc,.slice rb n2 rd,.int .i64 rs] 234)=W:=⟨_,rfl⟩;have hb:Below w.heap.size w w1:=by rw[<-hw1];exact bal (Lc _ _) _
 have x3:w1.heap[w.heap.size]? = some (.cells #[.slice ra n rc,.slice rb n2 rd,.int .i64 rs] 234 (0,0)):=by rw[<-hw1];exact U7 w _
 have HW:Hid (w.alloc (.cells #[.slice ra n rc,.slice rb n2 rd,.int .i64 rs] 234)=w1):=hw1;have HB:=Qc hb;have d6:=(h.next hb).cells.2.2.2.2.2.2;have HN:Hid (Rw w1 ra rg rc f0.now∧f0.now.length=n):=⟨hnow.next hb (Lb _),hn⟩;have hle:=hnow.le;rw[hn] at hle hb1;obtain⟨b0,b1,b2⟩:=QP x3;clear hw1 hb h hl hr hfil hnow hf0 hn hn2 x3 c0 c2 c3 c4 c5 c6
 by_cases hd:D.down=true
 ·rw[Lo hd] at hrd;rw[hd] at d6;have HE:=Qc hrd;clear hrd hd
  go_enter func94,ntmps94
  go_upto_region 2 with (fail)
  rw[HW.out];go_wp2
  go_ret2
  rw[HE.out];exact⟨rfl,HB.out⟩
 rw[Le hd] at hrd;have hd2:D.down=false:=by simpa using hd
 rw[hd2] at d6;clear hd hd2
 go_enter func94,ntmps94
 go_upto_region 2 with (fail)
 rw[HW.out]
 by_cases hc:off<0∨q<0∨(n:Int)<off∨(n:Int)-off<q
 ·rw[Lo hc] at hrd;have HE:=Qc hrd;clear hrd
  by_cases k1:off<0
  ·clear hc;go_wp2
   go_ret2
   rw[HE.out];exact⟨rfl,HB.out⟩
  by_cases k2:q<0
  ·clear hc;go_wp2
   go_ret2
   rw[HE.out];exact⟨rfl,HB.out⟩
  by_cases k3:(n:Int)<off
  ·clear hc;go_wp2
   go_ret2
   rw[HE.out];exact⟨rfl,HB.out⟩
  have k4:(n:Int)-off<q:=by omega
  have e1:IntKind.i64.wrap ((n:Int)-off)=(n:Int)-off:=by rw[LE];omega
  clear hc;go_wp2
  go_ret2
  rw[HE.out];exact⟨rfl,HB.out⟩
 rw[Le hc] at hrd;have k1:¬off<0:=fun e=>hc (.inl e)
 have k2:¬q<0:=fun e=>hc (.inr (.inl e))
 have k3:¬(n:Int)<off:=fun e=>hc (.inr (.inr (.inl e)))
 have k4:¬(n:Int)-off<q:=fun e=>hc (.inr (.inr (.inr e)))
 obtain⟨k,rfl⟩:∃k:Nat,off=(k:Int):=⟨off.toNat,by omega⟩
 obtain⟨j,rfl⟩:∃k:Nat,q=(k:Int):=⟨q.toNat,by omega⟩
 have e1:IntKind.i64.wrap ((n:Int)-(k:Int))=(n:Int)-(k:Int):=by rw[LE];omega
 have e2:IntKind.i64.wrap ((k:Int)+(j:Int))=((k+j:Nat):Int):=by rw[LE];omega
 have HE:=Qc hrd;clear hrd hc
 by_cases hrc:rc=k
 ·have j0:j=0:=by omega
  have hcv:∀x,(convert 83 9 (.slice ra j x)).run prog w1= .ok (.string ⟨((f0.now.drop k).take j).toArray⟩) w1:=fun x=>HN.out.1.conv (by rw[HN.out.2];omega) (.inl rfl) (fun _=> .inr j0) x
  clear j0;go_wp2
  go_ret2
  rw[HE.out];exact⟨rfl,HB.out⟩
 ·have hcv:∀x,(convert 83 9 (.slice (ra.map (·.add k)) j x)).run prog w1= .ok (.string ⟨((f0.now.drop k).take j).toArray⟩) w1:=fun x=>HN.out.1.conv (by rw[HN.out.2];omega) (.inr rfl) (fun q=>((Qgb HN.out.1 (by rw[HN.out.2];omega) (Le hrc) HN.out.2).2 q).imp id (fun e=>by omega)) x
  go_wp2
  go_ret2
  rw[HE.out];exact⟨rfl,HB.out⟩
end
end St
end Go.Proofs.YtoblgjledefdbabGreatDoor
