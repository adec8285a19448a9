/- Own work. -/
import Derived.Test.YtoblgjledefdbaaGreatDoorQm16
set_option maxRecDepth 100000
set_option maxHeartbeats 1000000
namespace Go.Proofs.YtoblgjledefdbaaGreatDoor
open Go.RowKit
open Go.Proofs.Tryz
namespace St
section
variable {w W:World} {p m:Nat} {R:List UInt8->FR} {ka:OA} {kb ko kc:Nat} {D:DV}
theorem Dk.stale(h:Dk w p m R ka kb ko kc D none){s:List UInt8}{T:Nat->Prop}(hT : ∀x,T x->s∈Qh D.L∧Blk (R s) x)(hu:Upo T w W)(ht : ∀x,T x->Ty W x 5):Dk W p m R ka kb ko kc D (some s):=by
 have xA : ∀x,T x->Ty w x 5:=fun x hx=>h.low s (hT x hx).1 x (hT x hx).2
 have hp : ¬T p:=fun q=>(h.other (xA p q)).1 rfl
 have hm : ¬T m:=fun q=>(h.other (xA m q)).2.1 rfl
 have hk:0<D.ks.length -> ¬T kb:=fun h0 q=>(h.other (xA kb q)).2.2 h0 rfl
 have kk:0<D.ks.length->W.heap[kb]? = w.heap[kb]? := fun h0=>hu.block kb (h.kt h0).lt (hk h0)
 refine⟨(hu.block p (h.lt (.inl rfl)) hp).trans h.blk,h.mp.same (hu.block m h.mp.lt hm),h.ord,fun t ht' hne => ?_,fun t ht' x hx => ?_,h.apart,h.nm,h.cnt,h.kp.same kk,fun h0=>(h.kt h0).same (kk h0),h.kl,h.fr,h.ac,h.ft⟩
 ·refine(h.fil t ht' (by simp)).same fun x hx=>hu.block x (h.low t ht' x hx).lt (fun q => ?_)
  obtain⟨q1,q2⟩:=hT x q;exact h.apart t ht' s q1 (fun e=>hne (by rw[e])) x hx q2
 ·rcases Classical.em (T x) with q|q
  ·exact ht x q
  ·exact(h.low t ht' x hx).same (hu.block x (h.low t ht' x hx).lt q)
theorem Dk.file(h:Dk w p m R ka kb ko kc D none){s:List UInt8}{r:FR}(hr:(s∈Qh D.L∧r=R s)∨(s ∉ Qh D.L∧r=fr0∧Qe D.L s=fz)):Fil w (Qe D.L s) r ∧ ∀x,Blk r x->s∈Qh D.L∧Blk (R s) x:=by
 rcases hr with ⟨h1,rfl⟩|⟨h1,rfl,h3⟩
 ·exact⟨h.fil s h1 (by simp),fun x hx=>⟨h1,hx⟩⟩
 ·exact⟨by rw[h3];exact QjN w,fun x hx=>(Qjh hx).elim⟩
theorem QfI{w2 w3:World}{s:List UInt8}{f:FV}{r r':FR}{T:Nat->Prop}(h:Dk w p m R ka kb ko kc D none)(hr:(s∈Qh D.L∧r=R s)∨(s ∉ Qh D.L∧r=fr0∧Qe D.L s=fz))
  (hT : ∀x,T x->Blk r x) (hu:Upo T w w2) (hb' : ∀x,Blk r' x->Blk r x∨w.heap.size<=x) (hD:Dk w3 p m (J5 R s r') ka kb ko kc (Q9 D s f) none) (hu3:Upo (fun x=>x=p∨x=m) w2 w3) :
  ∃R',Dk w3 p m R' ka kb ko kc (Q9 D s f) none∧(∀x,(∃t∈Qh (Q9 D s f).L,Blk (R' t) x)->(∃t∈Qh D.L,Blk (R t) x)∨w.heap.size<=x)∧Upo (fun x=>x=p∨x=m ∨ ∃t∈Qh D.L,Blk (R t) x) w w3:=by
 have hf:=(h.file hr).2;refine⟨_,hD,fun x hx => ?_,?_⟩
 ·obtain⟨t,ht,hx⟩:=hx;simp only[J5] at hx
  by_cases e:t=s
  ·rw[Lk e] at hx
   rcases hb' x hx with q|q
   ·exact .inl ⟨s,(hf x q).1,(hf x q).2⟩
   ·exact .inr q
  ·rw[Le e] at hx;have:=(Jo h.ord s f t).1 ht;rw[Le e] at this;exact .inl ⟨t,this,hx⟩
 ·refine(hu.mono (T:=fun x=>x=p∨x=m ∨ ∃t∈Qh D.L,Blk (R t) x) (fun x _ q => .inr (.inr ⟨s,hf x (hT x q)⟩))).trans hu3 (fun x _ q => ?_)
  rcases q with q|q
  ·exact .inl q
  ·exact .inr (.inl q)
theorem Qbk{s:List UInt8}{r r':FR}(h:Dk w p m R ka kb ko kc D none)(hr:(s∈Qh D.L∧r=R s)∨(s ∉ Qh D.L∧r=fr0∧Qe D.L s=fz))(hb' : ∀x,Blk r' x->Blk r x∨w.heap.size<=x) :
  ∀t∈Qh D.L,t≠s -> ∀x,Blk (R t) x->Blk r' x->False:=fun t ht hne x h1 h2=>by
 rcases hb' x h2 with q|q
 ·obtain⟨q1,q2⟩:=(h.file hr).2 x q;exact h.apart t ht s q1 hne x h1 q2
 ·have:=(h.low t ht x h1).lt;omega
end
def Bx1(w:World)(b:Nat)(v:Value)(T:TypeId):Prop:=w.heap[b]? = some (.cells #[v] T (0,0))
theorem Bx1.at{w:World}{b:Nat}{v:Value}{T:TypeId}(h:Bx1 w b v T):w.cell? ⟨b,0,none⟩=some v:=by rw[cell_of_row w b 0 _ _ (0,0) h];rfl
section
variable {p m:Nat} {R:List UInt8->FR} {ka:OA} {kb ko kc:Nat} {D:DV}
theorem QjE(w:World)(h:Dk w p m R ka kb ko kc D none)(s t:BA)(hs:s.size<=maxLen)(k:Nat)(hk:k<=(Qe D.L s.data.toList).now.length)(hl:k+t.size<=268435456)(r:FR)(hr:(s.data.toList∈Qh D.L∧r=R s.data.toList)∨(s.data.toList ∉ Qh D.L∧r=fr0∧Qe D.L s.data.toList=fz))
  (hcnt:D.L.length<1099511627776) (hroom:k+t.size<=D.free+(Qe D.L s.data.toList).now.length) (hfr:D.free+(Qe D.L s.data.toList).now.length<=9223372036854775807)
  (bd bn bf bo bt:Nat) (x1:Bx1 w bd (.pointer (some ⟨p,0,none⟩)) 25) (x2:Bx1 w bn (.string s) 9) (x3:w.heap[bf]? = some (.cells #[.slice r.a (Qe D.L s.data.toList).now.length r.c,.slice r.b (Qe D.L s.data.toList).syn.length r.d,.int .i64 (r.s:Int)] 129 (0,0))) (x4:Bx1 w bo (.int .i64 (k:Int)) 3) (x5:Bx1 w bt (.string t) 9) :
  Do w p m R kb ko D 343 #[.pointer (some ⟨bd,0,none⟩),.pointer (some ⟨bn,0,none⟩),.pointer (some ⟨bf,0,none⟩),.pointer (some ⟨bo,0,none⟩),.pointer (some ⟨bt,0,none⟩)] s.data.toList ⟨wr (Qe D.L s.data.toList).now k t.data.toList,(Qe D.L s.data.toList).syn⟩:=by
 have xC : ∀ {b:Nat} {cs:Array Value} {T:TypeId},w.heap[b]? = some (.cells cs T (0,0))->T≠98->b≠p:=fun {b cs T} hb hT e=>by
  rw[e,h.blk] at hb;injection hb with hb
  injection hb with _ hb _
  exact hT hb.symm
 refine⟨fun W ka2 kc2 D2 hD2 hL hF hW => ?_⟩
 have y1:Bx1 W bd _ _:=(hW.block bd (Array.getElem?_eq_some_iff.1 x1).1 (xC x1 (by decide))).trans x1
 have y2:Bx1 W bn _ _:=(hW.block bn (Array.getElem?_eq_some_iff.1 x2).1 (xC x2 (by decide))).trans x2
 have y3:=(hW.block bf (Array.getElem?_eq_some_iff.1 x3).1 (xC x3 (by decide))).trans x3
 have y4:Bx1 W bo _ _:=(hW.block bo (Array.getElem?_eq_some_iff.1 x4).1 (xC x4 (by decide))).trans x4
 have y5:Bx1 W bt _ _:=(hW.block bt (Array.getElem?_eq_some_iff.1 x5).1 (xC x5 (by decide))).trans x5
 rw[<-hL] at hr y3 hk ⊢;rw[<-hL,<-hF] at hroom hfr;rw[<-hL] at hcnt;obtain⟨xA,xD⟩:=hD2.file hr;obtain⟨f0,xE⟩:=Ze (Qe D2.L s.data.toList);have xR:=Qd xE;rw[xE] at xA y3 hk hroom hfr ⊢;obtain⟨ra,rg,rc,rb,rh,rd,rs⟩:=r;obtain⟨n,hn⟩:=Ze f0.now.length;obtain⟨n2,xL⟩:=Ze f0.syn.length;simp only[hn,xL] at y3;have b1:=xA.b1;have HA:=Qbq W ra rg n rc f0.now rb n2 rd rs k (min rs k) t xA.now hn (by omega) rfl (by omega)
 have HP:Hid (∀w2 a' g' c',Rw w2 a' g' c' (wr f0.now k t.data.toList)->Upo (fun b=>ra=some ⟨rg,0,none⟩∧b=rg) W w2->((a'=ra∧g'=rg)∨(W.heap.size<=g'∧g'<w2.heap.size))->(ra=some ⟨rg,0,none⟩->Ty w2 rg 5) ->
   Calls prog 248 #[.pointer (some ⟨p,0,none⟩),.string s,fv a' (wr f0.now k t.data.toList).length c' rb n2 rd (min rs k)] w2 fun e w'=>e = .returned (.tuple #[])∧(∃R',Dk w' p m R' ka2 kb ko kc2 (Q9 D2 s.data.toList ⟨wr f0.now k t.data.toList,f0.syn⟩) none∧(∀x,(∃t'∈Qh (Q9 D2 s.data.toList ⟨wr f0.now k t.data.toList,f0.syn⟩).L,Blk (R' t') x)->(∃t'∈Qh D2.L,Blk (R t') x)∨W.heap.size<=x)∧Upo (fun x=>x=p∨x=m ∨ ∃t'∈Qh D2.L,Blk (R t') x) W w')∧Upo (fun x=>x=p∨x=m) w2 w'):=fun w2 a' g' c' rw2 u2 loc ty2=>by
  have hT : ∀x,(ra=some ⟨rg,0,none⟩∧x=rg)->Blk ⟨ra,rg,rc,rb,rh,rd,rs⟩ x:=fun x q => .inl q
  have xQ:=hD2.stale (s:=s.data.toList) (fun x q=>xD x (hT x q)) u2 (fun x q=>by rw[q.2];exact ty2 q.1)
  have xM : ∀x,Blk ⟨a',g',c',rb,rh,rd,min rs k⟩ x->Blk ⟨ra,rg,rc,rb,rh,rd,rs⟩ x∨W.heap.size<=x:=fun x q=>by
   rcases q with ⟨q1,q2⟩|q
   ·simp only at q1 q2
    rcases loc with ⟨l1,l2⟩|l
    ·exact .inl (.inl ⟨by rw[<-l1,q1,l2],by rw[q2,l2]⟩)
    ·exact .inr (by omega)
   ·exact .inl (.inr q)
  have xG:Rw w2 rb rh rd f0.syn:=xA.syn.same fun e=>u2.block rh (xA.syn.ty e).lt (fun q=>xA.ap q.1 e q.2.symm)
  have xH:=QoS f0.now k t.data.toList (by omega)
  rw[Qb] at xH;have xF:Fil w2 ⟨wr f0.now k t.data.toList,f0.syn⟩ ⟨a',g',c',rb,rh,rd,min rs k⟩:=by
   have s1:=xA.s1;have s2:=xA.s2;simp only at s1 s2;refine⟨rw2,xG,by simp only[xH];omega,by simp only;omega,?_,fun e1 e2 => ?_,by simp only[xH];omega,xA.b2⟩
   ·show f0.syn.take (min rs k)=(wr f0.now k t.data.toList).take (min rs k)
    have e:=Lw (List.take (min rs k)) xA.sm;simp only[List.take_take] at e;rw[show min (min rs k) rs=min rs k by omega] at e
    rw[e,wr,Lq,Lt (by simp;omega),IE,show min (min rs k) k=min rs k by omega]
   ·simp only at e1 e2 ⊢
    rcases loc with ⟨l1,l2⟩|l
    ·rw[l2];exact xA.ap (by rw[<-l1,e1,l2]) e2
    ·have:=(xA.syn.ty e2).lt;simp only at this;omega
  have hc:=Un w2 p m R ka2 kb ko kc2 D2 s ⟨wr f0.now k t.data.toList,f0.syn⟩ ⟨a',g',c',rb,rh,rd,min rs k⟩ xQ xF hs (Qbk hD2 hr xM) hcnt (by rw[xE];omega) (by rw[xE];simp only[xH];omega)
  simp only[Y6,xL] at hc;refine hc.mono fun e w3 q=>⟨q.1,QfI hD2 hr hT u2 xM q.2.1 q.2.2,q.2.2⟩
 have ne : ∀ {b:Nat} {cs:Array Value} {T:TypeId},W.heap[b]? = some (.cells cs T (0,0))->T≠5->T≠98->(¬(ra=some ⟨rg,0,none⟩∧b=rg))∧b≠p∧b≠m:=fun {b cs T} hb h1 h2 =>
  ⟨fun q=>(Ty.ne ⟨_,_,hb⟩ (xA.now.ty q.1) h1) q.2,Ty.ne ⟨_,_,hb⟩ ⟨_,_,hD2.blk⟩ h2,Ty.mv ⟨_,_,hb⟩ hD2.mp⟩
 have xB : ∀ {b:Nat} {cs:Array Value} {T:TypeId} (Z Z':World),W.heap[b]? = some (.cells cs T (0,0))->T≠5->T≠98->Upo (fun b=>ra=some ⟨rg,0,none⟩∧b=rg) W Z->Upo (fun x=>x=p∨x=m) Z Z'->Z'.heap[b]? = some (.cells cs T (0,0)):=fun {b cs T} Z Z' hb h1 h2 hu hu'=>by
  obtain⟨n1,n2,n3⟩:=ne hb h1 h2;have xP:=(Array.getElem?_eq_some_iff.1 hb).1
  exact(hu'.block b (by have:=hu.size;omega) (fun q=>q.elim n2 n3)).trans ((hu.block b xP n1).trans hb)
 have xI:Hid (∀Z Z',Upo (fun b=>ra=some ⟨rg,0,none⟩∧b=rg) W Z->Upo (fun x=>x=p∨x=m) Z Z'->Z'.cell? ⟨bd,0,none⟩=some (.pointer (some ⟨p,0,none⟩))∧Z'.cell? ⟨bn,0,none⟩=some (.string s)∧Z'.cell? ⟨bf,0,none⟩=some (.slice ra n rc)∧Z'.cell? ⟨bf,1,none⟩=some (.slice rb n2 rd)∧Z'.cell? ⟨bf,2,none⟩=some (.int .i64 (rs:Int))∧Z'.cell? ⟨bo,0,none⟩=some (.int .i64 (k:Int))∧Z'.cell? ⟨bt,0,none⟩=some (.string t)):=fun Z Z' hu hu'=>by
  obtain⟨a0,a1,a2⟩:=Qs (xB Z Z' y3 (by decide) (by decide) hu hu')
  exact⟨Bx1.at (xB Z Z' y1 (by decide) (by decide) hu hu'),Bx1.at (xB Z Z' y2 (by decide) (by decide) hu hu'),a0,a1,a2,Bx1.at (xB Z Z' y4 (by decide) (by decide) hu hu'),Bx1.at (xB Z Z' y5 (by decide) (by decide) hu hu')⟩
 obtain⟨c1,c2,c3,c4,c5,c6,c7⟩:=xI.out W W (Upo.refl _ _) (Upo.refl _ _);obtain⟨mk,xK⟩:=Ze (min rs k);rw[xK] at HA HP;have xO:Hid (∀Z,Upo (fun b=>ra=some ⟨rg,0,none⟩∧b=rg) W Z->Upo (fun b=>ra=some ⟨rg,0,none⟩∧b=rg) W.drew Z):=fun Z q=>⟨q.os,q.tape,q.output,q.size,q.block⟩
 have xN:Calls prog 344 #[.agg #[.slice ra n rc,.slice rb n2 rd,.int .i64 (rs:Int)],.int .i64 (k:Int),.string t] W.drew fun e w' => ∃a' g' c',e = .returned (fv a' (wr f0.now k t.data.toList).length c' rb n2 rd mk)∧Rw w' a' g' c' (wr f0.now k t.data.toList)∧Upo (fun b=>ra=some ⟨rg,0,none⟩∧b=rg) W w'∧((a'=ra∧g'=rg)∨(W.heap.size<=g'∧g'<w'.heap.size))∧(ra=some ⟨rg,0,none⟩->Ty w' rg 5):=by
  have q:=Qbq W.drew ra rg n rc f0.now rb n2 rd rs k mk t (xA.now.same (W:=W.drew) fun _=>rfl) hn (by omega) xK (by omega)
  exact q.mono fun e w' q=>by
   obtain⟨a',g',c',q1,q2,q3,q4⟩:=q;exact⟨a',g',c',q1,q2,⟨q3.os,q3.tape,q3.output,q3.size,q3.block⟩,q4⟩
 clear HA x1 x2 x3 x4 x5 y1 y2 y3 y4 y5 xA xD hr hk hl hn xL hroom hfr hcnt xE hD2 hW h xC ne xB xK hs b1 xO
 go_enter func343,ntmps343
 go_upto_region 0 with (fail)
 go_region_held3 (fun Z=>Z.cell? ⟨bd,0,none⟩=some (.pointer (some ⟨p,0,none⟩))∧Z.cell? ⟨bn,0,none⟩=some (.string s)∧Z.cell? ⟨bf,0,none⟩=some (.slice ra n rc)∧Z.cell? ⟨bf,1,none⟩=some (.slice rb n2 rd)∧Z.cell? ⟨bf,2,none⟩=some (.int .i64 (rs:Int))∧Z.cell? ⟨bo,0,none⟩=some (.int .i64 (k:Int))∧Z.cell? ⟨bt,0,none⟩=some (.string t)) (first|assumption|(exact⟨c1,c2,c3,c4,c5,c6,c7⟩)|(exact xI.out _ _ u2 (Upo.refl _ _))|(exact xI.out _ _ u2 u3)) (first
  | (go_at_call 344;(with_reducible refine xN.mono ?_);rintro e w2 ⟨a',g',c',rfl,rw2,u2,loc,ty2⟩)
  | (go_at_call 248;(with_reducible refine(HP.out w2 a' g' c' rw2 u2 loc ty2).mono ?_);rintro e w3 ⟨rfl,xJ,u3⟩))
 go_wp2
 go_end0
 exact⟨rfl,xJ⟩
end
section
variable {p m:Nat} {R:List UInt8->FR} {ka:OA} {kb ko kc:Nat} {D:DV}
theorem Qn1(w:World)(h:Dk w p m R ka kb ko kc D none)(s:BA)(hs:s.size<=maxLen)(k:Nat)(hk:k<=(Qe D.L s.data.toList).now.length)(r:FR)(hr:(s.data.toList∈Qh D.L∧r=R s.data.toList)∨(s.data.toList ∉ Qh D.L∧r=fr0∧Qe D.L s.data.toList=fz))
  (hcnt:D.L.length<1099511627776) (hfr:D.free+(Qe D.L s.data.toList).now.length<=9223372036854775807)
  (bd bn bf bo:Nat) (x1:Bx1 w bd (.pointer (some ⟨p,0,none⟩)) 25) (x2:Bx1 w bn (.string s) 9) (x3:w.heap[bf]? = some (.cells #[.slice r.a (Qe D.L s.data.toList).now.length r.c,.slice r.b (Qe D.L s.data.toList).syn.length r.d,.int .i64 (r.s:Int)] 129 (0,0))) (x4:Bx1 w bo (.int .i64 (k:Int)) 3) :
  Do w p m R kb ko D 247 #[.pointer (some ⟨bd,0,none⟩),.pointer (some ⟨bn,0,none⟩),.pointer (some ⟨bf,0,none⟩),.pointer (some ⟨bo,0,none⟩)] s.data.toList ⟨(Qe D.L s.data.toList).now.take k,(Qe D.L s.data.toList).syn⟩:=by
 have xF : ∀ {b:Nat} {cs:Array Value} {T:TypeId},w.heap[b]? = some (.cells cs T (0,0))->T≠98->b≠p:=fun {b cs T} hb hT e=>by
  rw[e,h.blk] at hb;injection hb with hb
  injection hb with _ hb _
  exact hT hb.symm
 refine⟨fun W ka2 kc2 D2 hD2 hL hF hW => ?_⟩
 have y1:Bx1 W bd _ _:=(hW.block bd (Array.getElem?_eq_some_iff.1 x1).1 (xF x1 (by decide))).trans x1
 have y2:Bx1 W bn _ _:=(hW.block bn (Array.getElem?_eq_some_iff.1 x2).1 (xF x2 (by decide))).trans x2
 have y3:=(hW.block bf (Array.getElem?_eq_some_iff.1 x3).1 (xF x3 (by decide))).trans x3
 have y4:Bx1 W bo _ _:=(hW.block bo (Array.getElem?_eq_some_iff.1 x4).1 (xF x4 (by decide))).trans x4
 rw[<-hL] at hr y3 hk ⊢;rw[<-hL,<-hF] at hfr;rw[<-hL] at hcnt;obtain⟨xA,xH⟩:=hD2.file hr;obtain⟨f0,xD⟩:=Ze (Qe D2.L s.data.toList);have xO:=Qd xD;rw[xD] at xA y3 hk hfr ⊢;obtain⟨ra,rg,rc,rb,rh,rd,rs⟩:=r;obtain⟨n,hn⟩:=Ze f0.now.length;obtain⟨n2,xK⟩:=Ze f0.syn.length;simp only[hn,xK] at y3;have b1:=xA.b1;have HA:=Qeo W ra n rc rb n2 rd rs k (min rs k) (by omega) (by have:=xA.now.le;simp only at this;omega) rfl
 have HP:Hid (∀w2,Below W.heap.size W w2->Calls prog 248 #[.pointer (some ⟨p,0,none⟩),.string s,fv ra k rc rb n2 rd (min rs k)] w2 fun e w'=>e = .returned (.tuple #[])∧(∃R',Dk w' p m R' ka2 kb ko kc2 (Q9 D2 s.data.toList ⟨f0.now.take k,f0.syn⟩) none∧(∀x,(∃t'∈Qh (Q9 D2 s.data.toList ⟨f0.now.take k,f0.syn⟩).L,Blk (R' t') x)->(∃t'∈Qh D2.L,Blk (R t') x)∨W.heap.size<=x)∧Upo (fun x=>x=p∨x=m ∨ ∃t'∈Qh D2.L,Blk (R t') x) W w')∧Upo (fun x=>x=p∨x=m) w2 w'):=fun w2 hb2=>by
  have u2:Upo (fun _=>False) W w2:=Upo.of hb2
  have xN:=hD2.stale (s:=s.data.toList) (T:=fun _=>False) (fun x q=>q.elim) u2 (fun x q=>q.elim)
  have xL : ∀x,Blk ⟨ra,rg,rc,rb,rh,rd,min rs k⟩ x->Blk ⟨ra,rg,rc,rb,rh,rd,rs⟩ x∨W.heap.size<=x:=fun x q => .inl q
  have xC:(f0.now.take k).length=k:=by simp;omega
  have xE:Fil w2 ⟨f0.now.take k,f0.syn⟩ ⟨ra,rg,rc,rb,rh,rd,min rs k⟩:=by
   have s1:=xA.s1;have s2:=xA.s2;simp only at s1 s2;refine⟨(xA.now.cut (k:=k) (by omega)).next hb2 (La _),xA.syn.next hb2 (La _),by simp only[xC];omega,by simp only;omega,?_,xA.ap,by simp only[xC];omega,xA.b2⟩
   show f0.syn.take (min rs k)=(f0.now.take k).take (min rs k)
   have e:=Lw (List.take (min rs k)) xA.sm;simp only[List.take_take] at e;rw[show min (min rs k) rs=min rs k by omega] at e
   rw[e,IE,show min (min rs k) k=min rs k by omega]
  have hc:=Un w2 p m R ka2 kb ko kc2 D2 s ⟨f0.now.take k,f0.syn⟩ ⟨ra,rg,rc,rb,rh,rd,min rs k⟩ xN xE hs (Qbk hD2 hr xL) hcnt (by rw[xD];omega) (by rw[xD];simp only[xC];omega)
  simp only[Y6,xK,xC] at hc;refine hc.mono fun e w3 q=>⟨q.1,QfI hD2 hr (T:=fun _=>False) (fun x q=>q.elim) u2 xL q.2.1 q.2.2,q.2.2⟩
 have ne : ∀ {b:Nat} {cs:Array Value} {T:TypeId},W.heap[b]? = some (.cells cs T (0,0))->T≠5->T≠98->True∧b≠p∧b≠m:=fun {b cs T} hb h1 h2 =>
  ⟨trivial,Ty.ne ⟨_,_,hb⟩ ⟨_,_,hD2.blk⟩ h2,Ty.mv ⟨_,_,hb⟩ hD2.mp⟩
 have xB : ∀ {b:Nat} {cs:Array Value} {T:TypeId} (Z Z':World),W.heap[b]? = some (.cells cs T (0,0))->T≠5->T≠98->Below W.heap.size W Z->Upo (fun x=>x=p∨x=m) Z Z'->Z'.heap[b]? = some (.cells cs T (0,0)):=fun {b cs T} Z Z' hb h1 h2 hu hu'=>by
  obtain⟨n1,n2,n3⟩:=ne hb h1 h2;have xC:=(Array.getElem?_eq_some_iff.1 hb).1
  exact(hu'.block b (by have:=hu.size;omega) (fun q=>q.elim n2 n3)).trans ((hu.block b xC).trans hb)
 have xG:Hid (∀Z Z',Below W.heap.size W Z->Upo (fun x=>x=p∨x=m) Z Z'->Z'.cell? ⟨bd,0,none⟩=some (.pointer (some ⟨p,0,none⟩))∧Z'.cell? ⟨bn,0,none⟩=some (.string s)∧Z'.cell? ⟨bf,0,none⟩=some (.slice ra n rc)∧Z'.cell? ⟨bf,1,none⟩=some (.slice rb n2 rd)∧Z'.cell? ⟨bf,2,none⟩=some (.int .i64 (rs:Int))∧Z'.cell? ⟨bo,0,none⟩=some (.int .i64 (k:Int))):=fun Z Z' hu hu'=>by
  obtain⟨a0,a1,a2⟩:=Qs (xB Z Z' y3 (by decide) (by decide) hu hu')
  exact⟨Bx1.at (xB Z Z' y1 (by decide) (by decide) hu hu'),Bx1.at (xB Z Z' y2 (by decide) (by decide) hu hu'),a0,a1,a2,Bx1.at (xB Z Z' y4 (by decide) (by decide) hu hu')⟩
 obtain⟨c1,c2,c3,c4,c5,c6⟩:=xG.out W W (Lb _ _) (Upo.refl _ _);obtain⟨mk,xJ⟩:=Ze (min rs k);rw[xJ] at HA HP;have xM:Calls prog 249 #[.agg #[.slice ra n rc,.slice rb n2 rd,.int .i64 (rs:Int)],.int .i64 (k:Int)] W.drew fun e w'=>e = .returned (fv ra k rc rb n2 rd mk)∧Below W.heap.size W w':=by
  have q:=Qeo W.drew ra n rc rb n2 rd rs k mk (by omega) (by have:=xA.now.le;simp only at this;omega) xJ
  exact q.mono fun e w' q=>⟨q.1,q.2.os,q.2.tape,q.2.output,q.2.size,q.2.block⟩
 clear HA x1 x2 x3 x4 y1 y2 y3 y4 xA xH hr hk hn xK hfr hcnt xD hD2 hW h xF ne xB xJ hs b1
 go_enter func247,ntmps247
 go_upto_region 0 with (fail)
 go_region_held3 (fun Z=>Z.cell? ⟨bd,0,none⟩=some (.pointer (some ⟨p,0,none⟩))∧Z.cell? ⟨bn,0,none⟩=some (.string s)∧Z.cell? ⟨bf,0,none⟩=some (.slice ra n rc)∧Z.cell? ⟨bf,1,none⟩=some (.slice rb n2 rd)∧Z.cell? ⟨bf,2,none⟩=some (.int .i64 (rs:Int))∧Z.cell? ⟨bo,0,none⟩=some (.int .i64 (k:Int))) (first|assumption|(exact⟨c1,c2,c3,c4,c5,c6⟩)|(exact xG.out _ _ u2 (Upo.refl _ _))|(exact xG.out _ _ u2 u3)) (first
  | (go_at_call 249;(with_reducible refine xM.mono ?_);rintro e w2 ⟨rfl,u2⟩)
  | (go_at_call 248;(with_reducible refine(HP.out w2 u2).mono ?_);rintro e w3 ⟨rfl,xI,u3⟩))
 go_wp2
 go_end0
 exact⟨rfl,xI⟩
end
section
variable {p m:Nat} {R:List UInt8->FR} {ka:OA} {kb ko kc:Nat} {D:DV}
theorem QlT(w:World)(h:Dk w p m R ka kb ko kc D none)(s:BA)(hs:s.size<=maxLen)(hcnt:D.L.length<1099511627776)(hfr:D.free+(Qe D.L s.data.toList).now.length<=9223372036854775807)
  (bd bn:Nat) (x1:Bx1 w bd (.pointer (some ⟨p,0,none⟩)) 25) (x2:Bx1 w bn (.string s) 9) :
  Do w p m R kb ko D 250 #[.pointer (some ⟨bd,0,none⟩),.pointer (some ⟨bn,0,none⟩)] s.data.toList ⟨(Qe D.L s.data.toList).now,(Qe D.L s.data.toList).now⟩:=by
 have xJ : ∀ {b:Nat} {cs:Array Value} {T:TypeId},w.heap[b]? = some (.cells cs T (0,0))->T≠98->b≠p:=fun {b cs T} hb hT e=>by
  rw[e,h.blk] at hb;injection hb with hb
  injection hb with _ hb _
  exact hT hb.symm
 refine⟨fun W ka2 kc2 D2 hD2 hL hF hW => ?_⟩
 have y1:Bx1 W bd _ _:=(hW.block bd (Array.getElem?_eq_some_iff.1 x1).1 (xJ x1 (by decide))).trans x1
 have y2:Bx1 W bn _ _:=(hW.block bn (Array.getElem?_eq_some_iff.1 x2).1 (xJ x2 (by decide))).trans x2
 rw[<-hL,<-hF] at hfr;rw[<-hL] at hcnt ⊢;obtain⟨r,hl,hr⟩:=hD2.look s hs;obtain⟨xA,xD⟩:=hD2.file hr;obtain⟨f0,xG⟩:=Ze (Qe D2.L s.data.toList);rw[xG] at xA hfr hl ⊢;obtain⟨ra,rg,rc,rb,rh,rd,rs⟩:=r;obtain⟨n,hn⟩:=Ze f0.now.length;obtain⟨n2,xI⟩:=Ze f0.syn.length;simp only[Y6,fv,hn,xI] at hl;have b1:=xA.b1;have s1:=xA.s1;have s2:=xA.s2;simp only at s1 s2;have HP:Hid (∀w2 b' h' d',Rw w2 b' h' d' f0.now->Upo (fun b=>rb=some ⟨rh,0,none⟩∧b=rh) W w2->((b'=rb∧h'=rh)∨(W.heap.size<=h'∧h'<w2.heap.size))->(rb=some ⟨rh,0,none⟩->Ty w2 rh 5) ->
   Calls prog 248 #[.pointer (some ⟨p,0,none⟩),.string s,fv ra n rc b' n d' n] w2 fun e w'=>e = .returned (.tuple #[])∧(∃R',Dk w' p m R' ka2 kb ko kc2 (Q9 D2 s.data.toList ⟨f0.now,f0.now⟩) none∧(∀x,(∃t'∈Qh (Q9 D2 s.data.toList ⟨f0.now,f0.now⟩).L,Blk (R' t') x)->(∃t'∈Qh D2.L,Blk (R t') x)∨W.heap.size<=x)∧Upo (fun x=>x=p∨x=m ∨ ∃t'∈Qh D2.L,Blk (R t') x) W w')∧Upo (fun x=>x=p∨x=m) w2 w'∧w'.cell? ⟨p,1,none⟩=some (.map (some m))):=fun w2 b' h' d' rw2 u2 loc ty2=>by
  have hT : ∀x,(rb=some ⟨rh,0,none⟩∧x=rh)->Blk ⟨ra,rg,rc,rb,rh,rd,rs⟩ x:=fun x q => .inr q
  have xO:=hD2.stale (s:=s.data.toList) (fun x q=>xD x (hT x q)) u2 (fun x q=>by rw[q.2];exact ty2 q.1)
  have xL : ∀x,Blk ⟨ra,rg,rc,b',h',d',n⟩ x->Blk ⟨ra,rg,rc,rb,rh,rd,rs⟩ x∨W.heap.size<=x:=fun x q=>by
   rcases q with q|⟨q1,q2⟩
   ·exact .inl (.inl q)
   ·simp only at q1 q2
    rcases loc with ⟨l1,l2⟩|l
    ·exact .inl (.inr ⟨by rw[<-l1,q1,l2],by rw[q2,l2]⟩)
    ·exact .inr (by omega)
  have xF:Rw w2 ra rg rc f0.now:=xA.now.same fun e=>u2.block rg (xA.now.ty e).lt (fun q=>xA.ap e q.1 q.2)
  have xE:Fil w2 ⟨f0.now,f0.now⟩ ⟨ra,rg,rc,b',h',d',n⟩:=by
   refine⟨xF,rw2,by simp only;omega,by simp only;omega,rfl,fun e1 e2 => ?_,xA.b1,xA.b1⟩
   simp only at e1 e2 ⊢
   rcases loc with ⟨l1,l2⟩|l
   ·rw[l2];exact xA.ap e1 (by rw[<-l1,e2,l2])
   ·have:=(xA.now.ty e1).lt;simp only at this;omega
  have hc:=Un w2 p m R ka2 kb ko kc2 D2 s ⟨f0.now,f0.now⟩ ⟨ra,rg,rc,b',h',d',n⟩ xO xE hs (Qbk hD2 hr xL) hcnt (by rw[xG];omega) (by rw[xG];simp only;omega)
  simp only[Y6,hn] at hc;refine hc.mono fun e w3 q=>⟨q.1,QfI hD2 hr hT u2 xL q.2.1 q.2.2,q.2.2,q.2.1.cells.2.1⟩
 have ne : ∀ {b:Nat} {cs:Array Value} {T:TypeId},W.heap[b]? = some (.cells cs T (0,0))->T≠5->(¬(rb=some ⟨rh,0,none⟩∧b=rh))∧b≠m:=fun {b cs T} hb h1 =>
  ⟨fun q=>(Ty.ne ⟨_,_,hb⟩ (xA.syn.ty q.1) h1) q.2,Ty.mv ⟨_,_,hb⟩ hD2.mp⟩
 have xB : ∀ {b:Nat} {cs:Array Value} {T:TypeId} (Z Z':World),W.heap[b]? = some (.cells cs T (0,0))->T≠5->T≠98->Upo (fun b=>rb=some ⟨rh,0,none⟩∧b=rh) W Z->Upo (fun x=>x=p∨x=m) Z Z'->Z'.heap[b]? = some (.cells cs T (0,0)):=fun {b cs T} Z Z' hb h1 h2 hu hu'=>by
  obtain⟨n1,n3⟩:=ne hb h1;have n2:b≠p:=Ty.ne ⟨_,_,hb⟩ ⟨_,_,hD2.blk⟩ h2;have xN:=(Array.getElem?_eq_some_iff.1 hb).1
  exact(hu'.block b (by have:=hu.size;omega) (fun q=>q.elim n2 n3)).trans ((hu.block b xN n1).trans hb)
 have xC:Hid (∀Z Z',Upo (fun b=>rb=some ⟨rh,0,none⟩∧b=rh) W Z->Upo (fun x=>x=p∨x=m) Z Z'->Z'.cell? ⟨bd,0,none⟩=some (.pointer (some ⟨p,0,none⟩))∧Z'.cell? ⟨bn,0,none⟩=some (.string s)):=fun Z Z' hu hu' =>
  ⟨Bx1.at (xB Z Z' y1 (by decide) (by decide) hu hu'),Bx1.at (xB Z Z' y2 (by decide) (by decide) hu hu')⟩
 have xK:Hid (∀Z,Upo (fun b=>rb=some ⟨rh,0,none⟩∧b=rh) W Z->Z.cell? ⟨p,1,none⟩=some (.map (some m))):=fun Z hu=>by
  have e:=(hu.block p (Array.getElem?_eq_some_iff.1 hD2.blk).1 (ne hD2.blk (by decide)).1).trans hD2.blk
  rw[cell_of_row Z p 1 _ _ (0,0) e];rfl
 obtain⟨c1,c2⟩:=xC.out W W (Upo.refl _ _) (Upo.refl _ _);have c3:=xK.out W (Upo.refl _ _);have xM:Calls prog 101 #[.agg #[.slice ra n rc,.slice rb n2 rd,.int .i64 (rs:Int)]] W.drew fun e w' => ∃b' h' d',e = .returned (fv ra n rc b' n d' n)∧Rw w' b' h' d' f0.now∧Upo (fun x=>rb=some ⟨rh,0,none⟩∧x=rh) W w'∧((b'=rb∧h'=rh)∨(W.heap.size<=h'∧h'<w'.heap.size))∧(rb=some ⟨rh,0,none⟩->Ty w' rh 5):=by
  have q:=Qcw W.drew ra rg n rc f0.now rb rh n2 rd rs f0.syn (xA.now.same (W:=W.drew) fun _=>rfl) (xA.syn.same (W:=W.drew) fun _=>rfl) hn xI (by omega) (by omega) xA.sm (by omega)
  exact q.mono fun e w' q=>by
   obtain⟨b',h',d',q1,q2,q3,q4⟩:=q;exact⟨b',h',d',q1,q2,⟨q3.os,q3.tape,q3.output,q3.size,q3.block⟩,q4⟩
 have xP:=hl W.drew rfl;clear x1 x2 y1 y2 xA xD hr hn xI hfr hcnt xG hD2 hW h xJ ne xB hs b1 s1 s2 hl
 go_enter func250,ntmps250
 go_upto_region 0 with (fail)
 go_region_held3 (fun Z=>Z.cell? ⟨bd,0,none⟩=some (.pointer (some ⟨p,0,none⟩))∧Z.cell? ⟨bn,0,none⟩=some (.string s)∧Z.cell? ⟨p,1,none⟩=some (.map (some m))) (first|assumption|(exact⟨c1,c2,c3⟩)|(exact⟨(xC.out _ _ u2 (Upo.refl _ _)).1,(xC.out _ _ u2 (Upo.refl _ _)).2,xK.out _ u2⟩)|(exact⟨(xC.out _ _ u2 u3).1,(xC.out _ _ u2 u3).2,cm3⟩)) (first
  | (go_at_call 101;(with_reducible refine xM.mono ?_);rintro e w2 ⟨b',h',d',rfl,rw2,u2,loc,ty2⟩)
  | (go_at_call 248;(with_reducible refine(HP.out w2 b' h' d' rw2 u2 loc ty2).mono ?_);rintro e w3 ⟨rfl,xH,u3,cm3⟩))
 go_wp2
 go_end0
 exact⟨rfl,xH⟩
end
end St
end Go.Proofs.YtoblgjledefdbaaGreatDoor
