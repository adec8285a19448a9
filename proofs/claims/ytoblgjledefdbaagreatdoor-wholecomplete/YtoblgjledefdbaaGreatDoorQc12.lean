/- Own work. -/
import Derived.Test.YtoblgjledefdbaaGreatDoorQc11
set_option maxRecDepth 100000
set_option maxHeartbeats 2000000
namespace Go.Proofs.YtoblgjledefdbaaGreatDoor
open Go.RowKit
open Go.Proofs.Tryz
namespace St
section
variable {w W:World} {p m:Nat} {R:List UInt8->FR} {ka:OA} {kb ko kc:Nat} {D:DV}
theorem Dk.stale(h:Dk w p m R ka kb ko kc D none){s:List UInt8}{T:Nat->Prop}(hT:∀x,T x->s∈QA D.L∧Blk (R s) x)(hu:Upo T w W)(ht:∀x,T x->Ty W x 5):Dk W p m R ka kb ko kc D (some s):=by
 have hty:∀x,T x->Ty w x 5:=fun x hx=>h.low s (hT x hx).1 x (hT x hx).2
 have hp:¬T p:=fun q=>(h.other (hty p q)).1 rfl
 have hm:¬T m:=fun q=>(h.other (hty m q)).2.1 rfl
 have hk:0<D.ks.length -> ¬T kb:=fun h0 q=>(h.other (hty kb q)).2.2 h0 rfl
 have kk:0<D.ks.length->W.heap[kb]? = w.heap[kb]? := fun h0=>hu.block kb (h.kt h0).lt (hk h0)
 refine⟨(hu.block p (h.lt (.inl rfl)) hp).trans h.blk,h.mp.same (hu.block m h.mp.lt hm),h.ord,fun t ht' hne=> ?_,fun t ht' x hx=> ?_,h.apart,h.nm,h.cnt,h.kp.same kk,fun h0=>(h.kt h0).same (kk h0),h.kl,h.fr,h.ac,h.ft⟩
 ·refine(h.fil t ht' (by simp)).same fun x hx=>hu.block x (h.low t ht' x hx).lt (fun q=> ?_)
  obtain⟨q1,q2⟩:=hT x q;exact h.apart t ht' s q1 (fun e=>hne (by rw[e])) x hx q2
 ·rcases Classical.em (T x) with q|q
  ·exact ht x q
  ·exact(h.low t ht' x hx).same (hu.block x (h.low t ht' x hx).lt q)
theorem Dk.file(h:Dk w p m R ka kb ko kc D none){s:List UInt8}{r:FR}(hr:(s∈QA D.L∧r=R s)∨(s ∉ QA D.L∧r=fr0∧Qh D.L s=fz)):Fil w (Qh D.L s) r ∧ ∀x,Blk r x->s∈QA D.L∧Blk (R s) x:=by
 rcases hr with ⟨h1,rfl⟩|⟨h1,rfl,h3⟩
 ·exact⟨h.fil s h1 (by simp),fun x hx=>⟨h1,hx⟩⟩
 ·exact⟨by rw[h3];exact Qjt w,fun x hx=>(QiN hx).elim⟩
theorem Qjl{w2 w3:World}{s:List UInt8}{f:FV}{r r':FR}{T:Nat->Prop}(h:Dk w p m R ka kb ko kc D none)(hr:(s∈QA D.L∧r=R s)∨(s ∉ QA D.L∧r=fr0∧Qh D.L s=fz))
  (hT:∀x,T x->Blk r x) (hu:Upo T w w2) (hb':∀x,Blk r' x->Blk r x∨w.heap.size<=x) (hD:Dk w3 p m (updR R s r') ka kb ko kc (Ua D s f) none) (hu3:Upo (fun x=>x=p∨x=m) w2 w3) :
  ∃R',Dk w3 p m R' ka kb ko kc (Ua D s f) none∧(∀x,(∃t∈QA (Ua D s f).L,Blk (R' t) x)->(∃t∈QA D.L,Blk (R t) x)∨w.heap.size<=x)∧Upo (fun x=>x=p∨x=m ∨ ∃t∈QA D.L,Blk (R t) x) w w3:=by
 have hf:=(h.file hr).2;refine⟨_,hD,fun x hx=> ?_,?_⟩
 ·obtain⟨t,ht,hx⟩:=hx;simp only[updR] at hx
  by_cases e:t=s
  ·rw[Lm e] at hx
   rcases hb' x hx with q|q
   ·exact .inl ⟨s,(hf x q).1,(hf x q).2⟩
   ·exact .inr q
  ·rw[Ld e] at hx;have:=(Qbp h.ord s f t).1 ht;rw[Ld e] at this;exact .inl ⟨t,this,hx⟩
 ·refine(hu.mono (T:=fun x=>x=p∨x=m ∨ ∃t∈QA D.L,Blk (R t) x) (fun x _ q=> .inr (.inr ⟨s,hf x (hT x q)⟩))).trans hu3 (fun x _ q=> ?_)
  rcases q with q|q
  ·exact .inl q
  ·exact .inr (.inl q)
theorem Qd2{s:List UInt8}{r r':FR}(h:Dk w p m R ka kb ko kc D none)(hr:(s∈QA D.L∧r=R s)∨(s ∉ QA D.L∧r=fr0∧Qh D.L s=fz))(hb':∀x,Blk r' x->Blk r x∨w.heap.size<=x) :
  ∀t∈QA D.L,t≠s -> ∀x,Blk (R t) x->Blk r' x->False:=fun t ht hne x h1 h2=>by
 rcases hb' x h2 with q|q
 ·obtain⟨q1,q2⟩:=(h.file hr).2 x q;exact h.apart t ht s q1 hne x h1 q2
 ·have:=(h.low t ht x h1).lt;omega
end
def Bx1(w:World)(b:Nat)(v:Value)(T:TypeId):Prop:=w.heap[b]? = some (.cells #[v] T (0,0))
theorem Bx1.at{w:World}{b:Nat}{v:Value}{T:TypeId}(h:Bx1 w b v T):w.cell? ⟨b,0,none⟩=some v:=by rw[cell_of_row w b 0 _ _ (0,0) h];rfl
section
variable {p m:Nat} {R:List UInt8->FR} {ka:OA} {kb ko kc:Nat} {D:DV}
theorem Qjm(w:World)(h:Dk w p m R ka kb ko kc D none)(s t:BA)(hs:s.size<=maxLen)(k:Nat)(hk:k<=(Qh D.L s.data.toList).now.length)(hl:k+t.size<=268435456)(r:FR)(hr:(s.data.toList∈QA D.L∧r=R s.data.toList)∨(s.data.toList ∉ QA D.L∧r=fr0∧Qh D.L s.data.toList=fz))
  (hcnt:D.L.length<1099511627776) (hroom:k+t.size<=D.free+(Qh D.L s.data.toList).now.length) (hfr:D.free+(Qh D.L s.data.toList).now.length<=9223372036854775807)
  (bd bn bf bo bt:Nat) (x1:Bx1 w bd (Pq p) 25) (x2:Bx1 w bn (.string s) 9) (x3:w.heap[bf]? = some (.cells #[.slice r.a (Qh D.L s.data.toList).now.length r.c,.slice r.b (Qh D.L s.data.toList).syn.length r.d,.int .i64 r.s] 129 (0,0))) (x4:Bx1 w bo (.int .i64 k) 3) (x5:Bx1 w bt (.string t) 9) :
  Do w p m R kb ko D 343 #[Pq bd,Pq bn,Pq bf,Pq bo,Pq bt] s.data.toList ⟨wr (Qh D.L s.data.toList).now k t.data.toList,(Qh D.L s.data.toList).syn⟩:=by
 have tyD:∀ {b:Nat} {cs:Array Value} {T:TypeId},w.heap[b]? = some (.cells cs T (0,0))->T≠98->b≠p:=fun {b cs T} hb hT e=>by
  rw[e,h.blk] at hb;injection hb with hb
  injection hb with _ hb _
  exact hT hb.symm
 refine⟨fun W ka2 kc2 D2 hD2 hL hF hW=> ?_⟩
 have y1:Bx1 W bd _ _:=(hW.block bd (Array.getElem?_eq_some_iff.1 x1).1 (tyD x1 (by decide))).trans x1
 have y2:Bx1 W bn _ _:=(hW.block bn (Array.getElem?_eq_some_iff.1 x2).1 (tyD x2 (by decide))).trans x2
 have y3:=(hW.block bf (Array.getElem?_eq_some_iff.1 x3).1 (tyD x3 (by decide))).trans x3
 have y4:Bx1 W bo _ _:=(hW.block bo (Array.getElem?_eq_some_iff.1 x4).1 (tyD x4 (by decide))).trans x4
 have y5:Bx1 W bt _ _:=(hW.block bt (Array.getElem?_eq_some_iff.1 x5).1 (tyD x5 (by decide))).trans x5
 rw[<-hL] at hr y3 hk ⊢;rw[<-hL,<-hF] at hroom hfr;rw[<-hL] at hcnt;obtain⟨hfil,hblk⟩:=hD2.file hr;obtain⟨f0,hf0⟩:∃f0,Qh D2.L s.data.toList=f0:=⟨_,rfl⟩;have HF0:=Qd hf0;rw[hf0] at hfil y3 hk hroom hfr ⊢;obtain⟨ra,rg,rc,rb,rh,rd,rs⟩:=r;obtain⟨n,hn⟩:∃n,f0.now.length=n:=⟨_,rfl⟩;obtain⟨n2,hn2⟩:∃n,f0.syn.length=n:=⟨_,rfl⟩;simp only[hn,hn2] at y3;have b1:=hfil.b1;have HA:=Qbf W ra rg n rc f0.now rb n2 rd rs k (min rs k) t hfil.now hn (by omega) rfl (by omega)
 have HP:Hid (∀w2 a' g' c',Rw w2 a' g' c' (wr f0.now k t.data.toList)->Upo (fun b=>ra=Zp rg∧b=rg) W w2->((a'=ra∧g'=rg)∨(W.heap.size<=g'∧g'<w2.heap.size))->(ra=Zp rg->Ty w2 rg 5) ->
   Calls prog 248 #[Pq p,.string s,fv a' (wr f0.now k t.data.toList).length c' rb n2 rd (min rs k)] w2 fun e w'=>e= .returned (.tuple #[])∧(∃R',Dk w' p m R' ka2 kb ko kc2 (Ua D2 s.data.toList ⟨wr f0.now k t.data.toList,f0.syn⟩) none∧(∀x,(∃t'∈QA (Ua D2 s.data.toList ⟨wr f0.now k t.data.toList,f0.syn⟩).L,Blk (R' t') x)->(∃t'∈QA D2.L,Blk (R t') x)∨W.heap.size<=x)∧Upo (fun x=>x=p∨x=m ∨ ∃t'∈QA D2.L,Blk (R t') x) W w')∧Upo (fun x=>x=p∨x=m) w2 w'):=fun w2 a' g' c' rw2 u2 loc ty2=>by
  have hT:∀x,(ra=Zp rg∧x=rg)->Blk ⟨ra,rg,rc,rb,rh,rd,rs⟩ x:=fun x q=> .inl q
  have hst:=hD2.stale (s:=s.data.toList) (fun x q=>hblk x (hT x q)) u2 (fun x q=>by rw[q.2];exact ty2 q.1)
  have hb':∀x,Blk ⟨a',g',c',rb,rh,rd,min rs k⟩ x->Blk ⟨ra,rg,rc,rb,rh,rd,rs⟩ x∨W.heap.size<=x:=fun x q=>by
   rcases q with ⟨q1,q2⟩|q
   ·simp only at q1 q2
    rcases loc with ⟨l1,l2⟩|l
    ·exact .inl (.inl ⟨by rw[<-l1,q1,l2],by rw[q2,l2]⟩)
    ·exact .inr (by omega)
   ·exact .inl (.inr q)
  have hsynW:Rw w2 rb rh rd f0.syn:=hfil.syn.same fun e=>u2.block rh (hfil.syn.ty e).lt (fun q=>hfil.ap q.1 e q.2.symm)
  have hln:=Qpi f0.now k t.data.toList (by omega)
  rw[Qe] at hln;have hfil2:Fil w2 ⟨wr f0.now k t.data.toList,f0.syn⟩ ⟨a',g',c',rb,rh,rd,min rs k⟩:=by
   have s1:=hfil.s1;have s2:=hfil.s2;simp only at s1 s2;refine⟨rw2,hsynW,by simp only[hln];omega,by simp only;omega,?_,fun e1 e2=> ?_,by simp only[hln];omega,hfil.b2⟩
   ·show f0.syn.take (min rs k)=(wr f0.now k t.data.toList).take (min rs k)
    have e:=LW (List.take (min rs k)) hfil.sm;simp only[List.take_take] at e;rw[show min (min rs k) rs=min rs k by omega] at e
    rw[e,wr,LH,LG (by simp;omega),Wd,show min (min rs k) k=min rs k by omega]
   ·simp only at e1 e2 ⊢
    rcases loc with ⟨l1,l2⟩|l
    ·rw[l2];exact hfil.ap (by rw[<-l1,e1,l2]) e2
    ·have:=(hfil.syn.ty e2).lt;simp only at this;omega
  have hc:=UA w2 p m R ka2 kb ko kc2 D2 s ⟨wr f0.now k t.data.toList,f0.syn⟩ ⟨a',g',c',rb,rh,rd,min rs k⟩ hst hfil2 hs (Qd2 hD2 hr hb') hcnt (by rw[hf0];omega) (by rw[hf0];simp only[hln];omega)
  simp only[Ju,hn2] at hc;refine hc.mono fun e w3 q=>⟨q.1,Qjl hD2 hr hT u2 hb' q.2.1 q.2.2,q.2.2⟩
 have ne:∀ {b:Nat} {cs:Array Value} {T:TypeId},W.heap[b]? = some (.cells cs T (0,0))->T≠5->T≠98->(¬(ra=Zp rg∧b=rg))∧b≠p∧b≠m:=fun {b cs T} hb h1 h2=>
  ⟨fun q=>(Ty.ne ⟨_,_,hb⟩ (hfil.now.ty q.1) h1) q.2,Ty.ne ⟨_,_,hb⟩ ⟨_,_,hD2.blk⟩ h2,Ty.mv ⟨_,_,hb⟩ hD2.mp⟩
 have keep:∀ {b:Nat} {cs:Array Value} {T:TypeId} (Z Z':World),W.heap[b]? = some (.cells cs T (0,0))->T≠5->T≠98->Upo (fun b=>ra=Zp rg∧b=rg) W Z->Upo (fun x=>x=p∨x=m) Z Z'->Z'.heap[b]? = some (.cells cs T (0,0)):=fun {b cs T} Z Z' hb h1 h2 hu hu'=>by
  obtain⟨n1,n2,n3⟩:=ne hb h1 h2;have hlt:=(Array.getElem?_eq_some_iff.1 hb).1
  exact(hu'.block b (by have:=hu.size;omega) (fun q=>q.elim n2 n3)).trans ((hu.block b hlt n1).trans hb)
 have HCl:Hid (∀Z Z',Upo (fun b=>ra=Zp rg∧b=rg) W Z->Upo (fun x=>x=p∨x=m) Z Z'->Z'.cell? ⟨bd,0,none⟩=some (Pq p)∧Z'.cell? ⟨bn,0,none⟩=some (.string s)∧Z'.cell? ⟨bf,0,none⟩=some (.slice ra n rc)∧Z'.cell? ⟨bf,1,none⟩=some (.slice rb n2 rd)∧Z'.cell? ⟨bf,2,none⟩=some (.int .i64 rs)∧Z'.cell? ⟨bo,0,none⟩=some (.int .i64 k)∧Z'.cell? ⟨bt,0,none⟩=some (.string t)):=fun Z Z' hu hu'=>by
  obtain⟨a0,a1,a2⟩:=QP (keep Z Z' y3 (by decide) (by decide) hu hu')
  exact⟨Bx1.at (keep Z Z' y1 (by decide) (by decide) hu hu'),Bx1.at (keep Z Z' y2 (by decide) (by decide) hu hu'),a0,a1,a2,Bx1.at (keep Z Z' y4 (by decide) (by decide) hu hu'),Bx1.at (keep Z Z' y5 (by decide) (by decide) hu hu')⟩
 obtain⟨c1,c2,c3,c4,c5,c6,c7⟩:=HCl.out W W (Upo.refl _ _) (Upo.refl _ _);obtain⟨mk,hmk⟩:∃mk,min rs k=mk:=⟨_,rfl⟩;rw[hmk] at HA HP;have HAd:Hid (∀Z,Upo (fun b=>ra=Zp rg∧b=rg) W Z->Upo (fun b=>ra=Zp rg∧b=rg) W.drew Z):=fun Z q=>⟨q.os,q.tape,q.output,q.size,q.block⟩
 have HA2:Calls prog 344 #[.agg #[.slice ra n rc,.slice rb n2 rd,.int .i64 rs],.int .i64 k,.string t] W.drew fun e w'=> ∃a' g' c',e= .returned (fv a' (wr f0.now k t.data.toList).length c' rb n2 rd mk)∧Rw w' a' g' c' (wr f0.now k t.data.toList)∧Upo (fun b=>ra=Zp rg∧b=rg) W w'∧((a'=ra∧g'=rg)∨(W.heap.size<=g'∧g'<w'.heap.size))∧(ra=Zp rg->Ty w' rg 5):=by
  have q:=Qbf W.drew ra rg n rc f0.now rb n2 rd rs k mk t (hfil.now.same (W:=W.drew) fun _=>rfl) hn (by omega) hmk (by omega)
  exact q.mono fun e w' q=>by
   obtain⟨a',g',c',q1,q2,q3,q4⟩:=q;exact⟨a',g',c',q1,q2,⟨q3.os,q3.tape,q3.output,q3.size,q3.block⟩,q4⟩
 clear HA x1 x2 x3 x4 x5 y1 y2 y3 y4 y5 hfil hblk hr hk hl hn hn2 hroom hfr hcnt hf0 hD2 hW h tyD ne keep hmk hs b1 HAd
 go_enter func343,ntmps343
 go_upto_region 0 with (fail)
 go_region_held3 (fun Z=>Z.cell? ⟨bd,0,none⟩=some (Pq p)∧Z.cell? ⟨bn,0,none⟩=some (.string s)∧Z.cell? ⟨bf,0,none⟩=some (.slice ra n rc)∧Z.cell? ⟨bf,1,none⟩=some (.slice rb n2 rd)∧Z.cell? ⟨bf,2,none⟩=some (.int .i64 rs)∧Z.cell? ⟨bo,0,none⟩=some (.int .i64 k)∧Z.cell? ⟨bt,0,none⟩=some (.string t)) (first|assumption|(exact⟨c1,c2,c3,c4,c5,c6,c7⟩)|(exact HCl.out _ _ u2 (Upo.refl _ _))|(exact HCl.out _ _ u2 u3)) (first
  | (go_at_call 344;(with_reducible refine HA2.mono ?_);rintro e w2 ⟨a',g',c',rfl,rw2,u2,loc,ty2⟩)
  | (go_at_call 248;(with_reducible refine(HP.out w2 a' g' c' rw2 u2 loc ty2).mono ?_);rintro e w3 ⟨rfl,hfin,u3⟩))
 go_wp2
 go_end0
 exact⟨rfl,hfin⟩
end
section
variable {p m:Nat} {R:List UInt8->FR} {ka:OA} {kb ko kc:Nat} {D:DV}
theorem Ql6(w:World)(h:Dk w p m R ka kb ko kc D none)(s:BA)(hs:s.size<=maxLen)(hcnt:D.L.length<1099511627776)(hfr:D.free+(Qh D.L s.data.toList).now.length<=9223372036854775807)
  (bd bn:Nat) (x1:Bx1 w bd (Pq p) 25) (x2:Bx1 w bn (.string s) 9) :
  Do w p m R kb ko D 250 #[Pq bd,Pq bn] s.data.toList ⟨(Qh D.L s.data.toList).now,(Qh D.L s.data.toList).now⟩:=by
 have tyD:∀ {b:Nat} {cs:Array Value} {T:TypeId},w.heap[b]? = some (.cells cs T (0,0))->T≠98->b≠p:=fun {b cs T} hb hT e=>by
  rw[e,h.blk] at hb;injection hb with hb
  injection hb with _ hb _
  exact hT hb.symm
 refine⟨fun W ka2 kc2 D2 hD2 hL hF hW=> ?_⟩
 have y1:Bx1 W bd _ _:=(hW.block bd (Array.getElem?_eq_some_iff.1 x1).1 (tyD x1 (by decide))).trans x1
 have y2:Bx1 W bn _ _:=(hW.block bn (Array.getElem?_eq_some_iff.1 x2).1 (tyD x2 (by decide))).trans x2
 rw[<-hL,<-hF] at hfr;rw[<-hL] at hcnt ⊢;obtain⟨r,hl,hr⟩:=hD2.look s hs;obtain⟨hfil,hblk⟩:=hD2.file hr;obtain⟨f0,hf0⟩:∃f0,Qh D2.L s.data.toList=f0:=⟨_,rfl⟩;rw[hf0] at hfil hfr hl ⊢;obtain⟨ra,rg,rc,rb,rh,rd,rs⟩:=r;obtain⟨n,hn⟩:∃n,f0.now.length=n:=⟨_,rfl⟩;obtain⟨n2,hn2⟩:∃n,f0.syn.length=n:=⟨_,rfl⟩;simp only[Ju,fv,hn,hn2] at hl;have b1:=hfil.b1;have s1:=hfil.s1;have s2:=hfil.s2;simp only at s1 s2;have HP:Hid (∀w2 b' h' d',Rw w2 b' h' d' f0.now->Upo (fun b=>rb=Zp rh∧b=rh) W w2->((b'=rb∧h'=rh)∨(W.heap.size<=h'∧h'<w2.heap.size))->(rb=Zp rh->Ty w2 rh 5) ->
   Calls prog 248 #[Pq p,.string s,fv ra n rc b' n d' n] w2 fun e w'=>e= .returned (.tuple #[])∧(∃R',Dk w' p m R' ka2 kb ko kc2 (Ua D2 s.data.toList ⟨f0.now,f0.now⟩) none∧(∀x,(∃t'∈QA (Ua D2 s.data.toList ⟨f0.now,f0.now⟩).L,Blk (R' t') x)->(∃t'∈QA D2.L,Blk (R t') x)∨W.heap.size<=x)∧Upo (fun x=>x=p∨x=m ∨ ∃t'∈QA D2.L,Blk (R t') x) W w')∧Upo (fun x=>x=p∨x=m) w2 w'∧w'.cell? ⟨p,1,none⟩=some (.map (some m))):=fun w2 b' h' d' rw2 u2 loc ty2=>by
  have hT:∀x,(rb=Zp rh∧x=rh)->Blk ⟨ra,rg,rc,rb,rh,rd,rs⟩ x:=fun x q=> .inr q
  have hst:=hD2.stale (s:=s.data.toList) (fun x q=>hblk x (hT x q)) u2 (fun x q=>by rw[q.2];exact ty2 q.1)
  have hb':∀x,Blk ⟨ra,rg,rc,b',h',d',n⟩ x->Blk ⟨ra,rg,rc,rb,rh,rd,rs⟩ x∨W.heap.size<=x:=fun x q=>by
   rcases q with q|⟨q1,q2⟩
   ·exact .inl (.inl q)
   ·simp only at q1 q2
    rcases loc with ⟨l1,l2⟩|l
    ·exact .inl (.inr ⟨by rw[<-l1,q1,l2],by rw[q2,l2]⟩)
    ·exact .inr (by omega)
  have hnowW:Rw w2 ra rg rc f0.now:=hfil.now.same fun e=>u2.block rg (hfil.now.ty e).lt (fun q=>hfil.ap e q.1 q.2)
  have hfil2:Fil w2 ⟨f0.now,f0.now⟩ ⟨ra,rg,rc,b',h',d',n⟩:=by
   refine⟨hnowW,rw2,by simp only;omega,by simp only;omega,rfl,fun e1 e2=> ?_,hfil.b1,hfil.b1⟩
   simp only at e1 e2 ⊢
   rcases loc with ⟨l1,l2⟩|l
   ·rw[l2];exact hfil.ap e1 (by rw[<-l1,e2,l2])
   ·have:=(hfil.now.ty e1).lt;simp only at this;omega
  have hc:=UA w2 p m R ka2 kb ko kc2 D2 s ⟨f0.now,f0.now⟩ ⟨ra,rg,rc,b',h',d',n⟩ hst hfil2 hs (Qd2 hD2 hr hb') hcnt (by rw[hf0];omega) (by rw[hf0];simp only;omega)
  simp only[Ju,hn] at hc;refine hc.mono fun e w3 q=>⟨q.1,Qjl hD2 hr hT u2 hb' q.2.1 q.2.2,q.2.2,q.2.1.cells.2.1⟩
 have ne:∀ {b:Nat} {cs:Array Value} {T:TypeId},W.heap[b]? = some (.cells cs T (0,0))->T≠5->(¬(rb=Zp rh∧b=rh))∧b≠m:=fun {b cs T} hb h1=>
  ⟨fun q=>(Ty.ne ⟨_,_,hb⟩ (hfil.syn.ty q.1) h1) q.2,Ty.mv ⟨_,_,hb⟩ hD2.mp⟩
 have keep:∀ {b:Nat} {cs:Array Value} {T:TypeId} (Z Z':World),W.heap[b]? = some (.cells cs T (0,0))->T≠5->T≠98->Upo (fun b=>rb=Zp rh∧b=rh) W Z->Upo (fun x=>x=p∨x=m) Z Z'->Z'.heap[b]? = some (.cells cs T (0,0)):=fun {b cs T} Z Z' hb h1 h2 hu hu'=>by
  obtain⟨n1,n3⟩:=ne hb h1;have n2:b≠p:=Ty.ne ⟨_,_,hb⟩ ⟨_,_,hD2.blk⟩ h2;have hlt:=(Array.getElem?_eq_some_iff.1 hb).1
  exact(hu'.block b (by have:=hu.size;omega) (fun q=>q.elim n2 n3)).trans ((hu.block b hlt n1).trans hb)
 have HCl:Hid (∀Z Z',Upo (fun b=>rb=Zp rh∧b=rh) W Z->Upo (fun x=>x=p∨x=m) Z Z'->Z'.cell? ⟨bd,0,none⟩=some (Pq p)∧Z'.cell? ⟨bn,0,none⟩=some (.string s)):=fun Z Z' hu hu'=>
  ⟨Bx1.at (keep Z Z' y1 (by decide) (by decide) hu hu'),Bx1.at (keep Z Z' y2 (by decide) (by decide) hu hu')⟩
 have HCm:Hid (∀Z,Upo (fun b=>rb=Zp rh∧b=rh) W Z->Z.cell? ⟨p,1,none⟩=some (.map (some m))):=fun Z hu=>by
  have e:=(hu.block p (Array.getElem?_eq_some_iff.1 hD2.blk).1 (ne hD2.blk (by decide)).1).trans hD2.blk
  rw[cell_of_row Z p 1 _ _ (0,0) e];rfl
 obtain⟨c1,c2⟩:=HCl.out W W (Upo.refl _ _) (Upo.refl _ _);have c3:=HCm.out W (Upo.refl _ _);have HA2:Calls prog 101 #[.agg #[.slice ra n rc,.slice rb n2 rd,.int .i64 rs]] W.drew fun e w'=> ∃b' h' d',e= .returned (fv ra n rc b' n d' n)∧Rw w' b' h' d' f0.now∧Upo (fun x=>rb=Zp rh∧x=rh) W w'∧((b'=rb∧h'=rh)∨(W.heap.size<=h'∧h'<w'.heap.size))∧(rb=Zp rh->Ty w' rh 5):=by
  have q:=QhC W.drew ra rg n rc f0.now rb rh n2 rd rs f0.syn (hfil.now.same (W:=W.drew) fun _=>rfl) (hfil.syn.same (W:=W.drew) fun _=>rfl) hn hn2 (by omega) (by omega) hfil.sm (by omega)
  exact q.mono fun e w' q=>by
   obtain⟨b',h',d',q1,q2,q3,q4⟩:=q;exact⟨b',h',d',q1,q2,⟨q3.os,q3.tape,q3.output,q3.size,q3.block⟩,q4⟩
 have hl1:=hl W.drew rfl;clear x1 x2 y1 y2 hfil hblk hr hn hn2 hfr hcnt hf0 hD2 hW h tyD ne keep hs b1 s1 s2 hl
 go_enter func250,ntmps250
 go_upto_region 0 with (fail)
 go_region_held3 (fun Z=>Z.cell? ⟨bd,0,none⟩=some (Pq p)∧Z.cell? ⟨bn,0,none⟩=some (.string s)∧Z.cell? ⟨p,1,none⟩=some (.map (some m))) (first|assumption|(exact⟨c1,c2,c3⟩)|(exact⟨(HCl.out _ _ u2 (Upo.refl _ _)).1,(HCl.out _ _ u2 (Upo.refl _ _)).2,HCm.out _ u2⟩)|(exact⟨(HCl.out _ _ u2 u3).1,(HCl.out _ _ u2 u3).2,cm3⟩)) (first
  | (go_at_call 101;(with_reducible refine HA2.mono ?_);rintro e w2 ⟨b',h',d',rfl,rw2,u2,loc,ty2⟩)
  | (go_at_call 248;(with_reducible refine(HP.out w2 b' h' d' rw2 u2 loc ty2).mono ?_);rintro e w3 ⟨rfl,hfin,u3,cm3⟩))
 go_wp2
 go_end0
 exact⟨rfl,hfin⟩
end
theorem Jo{w:World}{i:Nat}(o:Obj)(h:i<w.heap.size):(w.alloc o).heap[i]? = w.heap[i]? := (MapKept.heap_alloc w o).2 i h
theorem Qe7{w:World}{n:Nat}(o:Obj)(h:w.heap.size=n):(w.alloc o).heap[n]? = some o:=by rw[<-h];exact Ja w o
theorem JE(w:World)(o:Obj):(w.alloc o).heap.size=w.heap.size+1:=by simp
theorem QlE(w:World)(o1 o2 o3 o4:Obj):((((w.alloc o1).alloc o2).alloc o3).alloc o4).heap[w.heap.size]? = some o1∧((((w.alloc o1).alloc o2).alloc o3).alloc o4).heap[w.heap.size+1]? = some o2∧((((w.alloc o1).alloc o2).alloc o3).alloc o4).heap[w.heap.size+2]? = some o3∧((((w.alloc o1).alloc o2).alloc o3).alloc o4).heap[w.heap.size+3]? = some o4:=by
 have s1:=JE w o1;have s2:=JE (w.alloc o1) o2;have s3:=JE ((w.alloc o1).alloc o2) o3;refine⟨?_,?_,?_,Qe7 _ (by omega)⟩
 ·rw[Jo _ (by omega),Jo _ (by omega),Jo _ (by omega)];exact Ja w o1
 ·rw[Jo _ (by omega),Jo _ (by omega)];exact Qe7 _ (by omega)
 ·rw[Jo _ (by omega)];exact Qe7 _ (by omega)
def Left(w w':World)(p m:Nat)(R:List UInt8->FR)(kb ko:Nat)(D D':DV):Prop :=
 ∃m' R' ka' kc',Dk w' p m' R' ka' kb ko kc' D' none∧(∀x,Ut p m' R' kb D' x->Ut p m R kb D x∨w.heap.size<=x)∧Upo (Ut p m R kb D) w w'
def wrD(D:DV)(s:List UInt8)(off:Int)(t:List UInt8):DV×Int :=
 if D.down then (D,170) else
 if off<0∨((Qh D.L s).now.length:Int)<off∨268435456-off<(t.length:Int) then (D,173) else
 if (D.free:Int)<off+(t.length:Int)-((Qh D.L s).now.length:Int) then (D,172) else
 O8 D s ⟨wr (Qh D.L s).now off.toNat t,(Qh D.L s).syn⟩
theorem Left.drew{w w':World}{p m:Nat}{R:List UInt8->FR}{kb ko:Nat}{D D':DV}(h:Left w w' p m R kb ko D D'):Left w w'.drew p m R kb ko D D':=by
 obtain⟨m',R',ka',kc',h1,h2,h3⟩:=h;exact⟨m',R',ka',kc',h1.same (fun _ _=>rfl),h2,h3.drew⟩
section
variable {p m:Nat} {R:List UInt8->FR} {ka:OA} {kb ko kc:Nat} {D:DV}
theorem Qcc{w w':World}(h:Dk w p m R ka kb ko kc D none)(hb:Below w.heap.size w w'):Left w w' p m R kb ko D D:=⟨m,R,ka,kc,h.next hb,fun _ hx=> .inl hx,Upo.of hb⟩
theorem Qcb{w w1 w':World}{D':DV}(hb:Below w.heap.size w w1)(hl:∃m' R' ka' kc',Dk w' p m' R' ka' kb ko kc' D' none∧(∀x,Ut p m' R' kb D' x->Ut p m R kb D x∨w1.heap.size<=x)∧Upo (Ut p m R kb D) w1 w'):Left w w' p m R kb ko D D':=by
 obtain⟨m',R',ka',kc',h1,h2,h3⟩:=hl;exact⟨m',R',ka',kc',h1,fun x hx=>(h2 x hx).imp id (fun q=>Lu hb.size q),(Upo.of hb).trans h3 (fun _ _ q=>q)⟩
theorem Qax(w:World)(h:Dk w p m R ka kb ko kc D none)(s t:BA)(hs:s.size<=maxLen)(off:Int)(ho1 : -9223372036854775808<=off)(ho2:off<=9223372036854775807)(ht:t.size<=140737488355328)(hac:D.acts+1<=4611686018427387904)(hcnt:D.L.length<1099511627776)(hfr:D.down=false->D.free+(Qh D.L s.data.toList).now.length<=9223372036854775807) :
  Calls prog 268 #[Pq p,.string s,.int .i64 off,.string t] w fun e w'=>e= .returned (.int .i64 (wrD D s.data.toList off t.data.toList).2)∧Left w w' p m R kb ko D (wrD D s.data.toList off t.data.toList).1:=by
 obtain⟨r,hl,hr⟩:=h.look s hs;obtain⟨hfil,_⟩:=h.file hr;have hb1:=hfil.b1;obtain⟨f0,hf0⟩:∃f0,Qh D.L s.data.toList=f0:=⟨_,rfl⟩;rw[hf0] at hl hb1 hfr;obtain⟨n,hn⟩:∃n,f0.now.length=n:=⟨_,rfl⟩;obtain⟨n2,hn2⟩:∃n,f0.syn.length=n:=⟨_,rfl⟩;simp only[Ju,fv,hn,hn2] at hl;have hwr:wrD D s.data.toList off t.data.toList=if D.down then (D,170) else if off<0∨(n:Int)<off∨268435456-off<(t.size:Int) then (D,173) else if (D.free:Int)<off+(t.size:Int)-(n:Int) then (D,172) else O8 D s.data.toList ⟨wr f0.now off.toNat t.data.toList,f0.syn⟩:=by
  simp only[wrD,hf0,hn,Qe]
 obtain⟨w4,hw4⟩:∃W,(((w.alloc (.cells #[Pq p] 25)).alloc (.cells #[.string s] 9)).alloc (.cells #[.int .i64 off] 3)).alloc (.cells #[.string t] 9)=W:=⟨_,rfl⟩;have hb4:Below w.heap.size w w4:=by rw[<-hw4];exact bal (bal (bal (bal (Lb _ _) _) _) _) _
 have hz4:w4.heap.size=w.heap.size+4:=by rw[<-hw4];simp
 have hq4:=QlE w (.cells #[Pq p] 25) (.cells #[.string s] 9) (.cells #[.int .i64 off] 3) (.cells #[.string t] 9);rw[hw4] at hq4;obtain⟨n1,n2',n3,n4⟩:=hq4;have hr2:=r;obtain⟨ra,rg,rc,rb,rh,rd,rs⟩:=r;simp only at hl;obtain⟨w5,hw5⟩:∃W,w4.alloc (.cells #[.slice ra n rc,.slice rb n2 rd,.int .i64 rs] 129)=W:=⟨_,rfl⟩;have h4:=h.next hb4;obtain⟨c0,c1,c2,c3,c4,c5,c6⟩:=h4.cells;have a1:=Bx1.at n1;have a2:=Bx1.at n2';have hl4:=hl w4.drew (hb4.block m h.mp.lt);have hl5:=hl (w4.alloc (.cells #[.slice none 0 0,.slice none 0 0,.int .i64 0] 129)).drew ((Jo _ h4.mp.lt).trans (hb4.block m h.mp.lt));have hb5:Below w4.heap.size w4 w5:=by rw[<-hw5];exact bal (Lb _ _) _
 have HG:Hid (Dk w p m R ka kb ko kc D none∧Below w.heap.size w w4∧Below w4.heap.size w4 w5∧w4.heap.size=w.heap.size+4∧n<=268435456∧(D.down=false->D.free+n<=9223372036854775807)∧t.size<=140737488355328∧D.acts+1<=4611686018427387904∧D.L.length<1099511627776∧Qh D.L s.data.toList=f0∧f0.now.length=n∧f0.syn.length=n2):=⟨h,hb4,hb5,hz4,by omega,fun q=>by have:=hfr q;omega,ht,hac,hcnt,hf0,hn,hn2⟩
 have HWr:=Qd hwr;have hp4:¬(p=w4.heap.size):=by have:=h.lt (.inl rfl);omega
 have a0:∀i j v,i<w4.heap.size->w4.cell? ⟨i,j,none⟩=some v->(w4.alloc (.cells #[.slice none 0 0,.slice none 0 0,.int .i64 0] 129)).cell? ⟨i,j,none⟩=some v:=fun i j v hi hv=>by
  unfold World.cell? at hv ⊢;rw[Jo _ hi];exact hv
 have a3:=a0 _ _ _ (by omega) a1
 have a4:=a0 _ _ _ (by omega) a2
 have a5:=a0 _ _ _ (h4.lt (.inl rfl)) c1;clear a0;have HW4:Hid ((((w.alloc (.cells #[Pq p] 25)).alloc (.cells #[.string s] 9)).alloc (.cells #[.int .i64 off] 3)).alloc (.cells #[.string t] 9)=w4):=hw4;have HW5:Hid (w4.alloc (.cells #[.slice ra n rc,.slice rb n2 rd,.int .i64 rs] 129)=w5):=hw5;have HN:Hid (Bx1 w4 w.heap.size (Pq p) 25∧Bx1 w4 (w.heap.size+1) (.string s) 9∧Bx1 w4 (w.heap.size+2) (.int .i64 off) 3∧Bx1 w4 (w.heap.size+3) (.string t) 9∧((s.data.toList∈QA D.L∧(⟨ra,rg,rc,rb,rh,rd,rs⟩:FR)=R s.data.toList)∨(s.data.toList ∉ QA D.L∧(⟨ra,rg,rc,rb,rh,rd,rs⟩:FR)=fr0∧Qh D.L s.data.toList=fz))):=⟨n1,n2',n3,n4,hr⟩;clear h hb4 hz4 hb5 hn hn2 hf0 hfr hac hcnt ht hb1 hfil hwr hr n1 n2' n3 n4 h4 c0 c2 c3 c4 c5 c6 hw4 hw5 hl hr2
 go_enter func268,ntmps268
 go_upto_region 1 with (fail)
 rw[show(w.heap.size+1+1:Nat)=w.heap.size+2 from rfl,HW4.out]
 go_region
 all_goals
  rw[HW5.out];obtain⟨w6,hw6⟩:∃W,w5.drew=W:=⟨_,rfl⟩;rw[hw6];obtain⟨h,hb4,hb5,hz4,hn0,hfr,ht,hac,hcnt,hf0,hn,hn2⟩:=HG.out;obtain⟨x1,x2,x4,x5,hr⟩:=HN.out;have hb6:Below w4.heap.size w4 w6:=by rw[<-hw6];exact⟨hb5.os,hb5.tape,hb5.output,hb5.size,hb5.block⟩
  have x3:w6.heap[w4.heap.size]? = some (.cells #[.slice ra n rc,.slice rb n2 rd,.int .i64 rs] 129 (0,0)):=by rw[<-hw6,<-HW5.out];exact Ja w4 _
  have y1:Bx1 w6 w.heap.size _ _:=(hb6.block _ (by omega)).trans x1
  have y2:Bx1 w6 (w.heap.size+1) _ _:=(hb6.block _ (by omega)).trans x2
  have y4:Bx1 w6 (w.heap.size+2) _ _:=(hb6.block _ (by omega)).trans x4
  have y5:Bx1 w6 (w.heap.size+3) _ _:=(hb6.block _ (by omega)).trans x5
  have hbw:=Qa hb4 hb6;have h6:=h.next hbw;obtain⟨c0,c1',c2,c3,c4,c5,c6⟩:=h6.cells;obtain⟨b0,b1,b2⟩:=QP x3;have z1:=y1.at;have z2:=y2.at;have z4:=y4.at;have z5:=y5.at;have hwr:=HWr.out;have HS:Hid (Left w w6 p m R kb ko D D):=Qcc h hbw;have HQ:Hid (Dk w6 p m R ka kb ko kc D none∧Below w.heap.size w w6∧Bx1 w6 w.heap.size (Pq p) 25∧Bx1 w6 (w.heap.size+1) (.string s) 9∧Bx1 w6 (w.heap.size+2) (.int .i64 off) 3∧Bx1 w6 (w.heap.size+3) (.string t) 9∧w6.heap[w4.heap.size]? = some (.cells #[.slice ra n rc,.slice rb n2 rd,.int .i64 rs] 129 (0,0))):=⟨h6,hbw,y1,y2,y4,y5,x3⟩;clear hw6 h hb4 hb5 hz4 hf0 hn hn2 x1 x2 x4 x5 hr hb6 x3 y1 y2 y4 y5 hbw h6 c1' c2 c3 c4 c5 b1 b2 a1 a2 a3 a4 a5 c1 hl4 hl5 hp4 HW5 HW4 HWr hac hcnt
  by_cases hd:D.down=true
  ·rw[Lm hd] at hwr;have HE:=Qd hwr;clear hwr;rw[hd] at c6;go_wp2
   go_ret
   rw[HE.out];exact⟨rfl,HS.out⟩
  rw[Ld hd] at hwr;have hd2:D.down=false:=by simpa using hd
  rw[hd2] at c6;have HDn:=Qd hd2;clear hd hd2
  by_cases hc:off<0∨(n:Int)<off∨268435456-off<(t.size:Int)
  ·rw[Lm hc] at hwr;have HE:=Qd hwr;clear hwr
   by_cases k1:off<0
   ·clear hc;go_wp2
    go_ret
    rw[HE.out];exact⟨rfl,HS.out⟩
   by_cases k2:(n:Int)<off
   ·clear hc;go_wp2
    go_ret
    rw[HE.out];exact⟨rfl,HS.out⟩
   have k3:268435456-off<(t.size:Int):=by omega
   have e1:IntKind.i64.wrap (268435456-off)=268435456-off:=by rw[Lz];omega
   clear hc;go_wp2
   go_ret
   rw[HE.out];exact⟨rfl,HS.out⟩
  rw[Ld hc] at hwr;have k1:¬off<0:=fun e=>hc (.inl e)
  have k2:¬(n:Int)<off:=fun e=>hc (.inr (.inl e))
  have k3:¬268435456-off<(t.size:Int):=fun e=>hc (.inr (.inr e))
  obtain⟨k,rfl⟩:∃k:Nat,off=(k:Int):=⟨off.toNat,by omega⟩
  have e1:IntKind.i64.wrap (268435456-(k:Int))=268435456-(k:Int):=by rw[Lz];omega
  have e2:IntKind.i64.wrap ((k:Int)+(t.size:Int))=(k:Int)+(t.size:Int):=by rw[Lz];omega
  have e3:IntKind.i64.wrap ((k:Int)+(t.size:Int)-(n:Int))=(k:Int)+(t.size:Int)-(n:Int):=by rw[Lz];omega
  go_upto_region 6 with (fail)
  by_cases hm:(D.free:Int)<(k:Int)+(t.size:Int)-(n:Int)
  ·rw[Lm hm] at hwr;have HE:=Qd hwr;clear hwr
   go_region
   go_wp2
   go_ret
   rw[HE.out];exact⟨rfl,(HS.out.drew)⟩
  rw[Ld hm] at hwr;have HE:=Qd hwr;have HAct:Hid (Calls prog 246 #[Pq p,.func (.func 343) #[] #[Pq w.heap.size,.pointer (some ⟨w.heap.size+1,0,none⟩),Pq w4.heap.size,.pointer (some ⟨w.heap.size+2,0,none⟩),.pointer (some ⟨w.heap.size+3,0,none⟩)]] w6.drew fun e w'=>e= .returned (.int .i64 (wrD D s.data.toList (k:Int) t.data.toList).2)∧Left w w' p m R kb ko D (wrD D s.data.toList (k:Int) t.data.toList).1):=by
   obtain⟨h,hb4,hb5,hz4,hn0,hfr,ht,hac,hcnt,hf0,hn,hn2⟩:=HG.out;obtain⟨x1,x2,x4,x5,hr⟩:=HN.out;have hfr:=hfr HDn.out;obtain⟨q1,q2,q3,q4,q5,q6,q7⟩:=HQ.out;have hf:Qh D.L s.data.toList=f0:=hf0;have hbd:Below w.heap.size w w6.drew:=⟨q2.os,q2.tape,q2.output,q2.size,q2.block⟩;have hD6:Dk w6.drew p m R ka kb ko kc D none:=q1.same (fun _ _=>rfl)
   have HD:=Qjm w6.drew hD6 s t hs k (by rw[hf,hn];omega) (by omega) ⟨ra,rg,rc,rb,rh,rd,rs⟩ hr hcnt (by rw[hf,hn];omega) (by rw[hf,hn];omega) w.heap.size (w.heap.size+1) w4.heap.size (w.heap.size+2) (w.heap.size+3) q3 q4 (by rw[hf,hn,hn2];exact q7) q5 q6
   have HZ:=Qge w6.drew hD6 hac _ _ _ _ HD (.inl rfl);rw[hf] at HZ;refine HZ.mono ?_
   rintro e w' ⟨m',R',ka',kc',rfl,hl⟩;rw[HE.out,Ni];exact⟨rfl,Qcb hbd ⟨m',R',ka',kc',hl⟩⟩
  clear HE hwr HS HQ HG HN
  go_region
  go_wp2_with (go_at_call 246;(with_reducible refine HAct.out.mono ?_);rintro e w7 ⟨rfl,hl⟩)
  go_ret
  exact⟨rfl,hl⟩
end
def YI(D:DV)(s:List UInt8):DV×Int:=if D.down then (D,170) else O8 D s ⟨(Qh D.L s).now,(Qh D.L s).now⟩
section
variable {p m:Nat} {R:List UInt8->FR} {ka:OA} {kb ko kc:Nat} {D:DV}
theorem Qlg(w:World)(h:Dk w p m R ka kb ko kc D none)(s:BA)(hs:s.size<=maxLen)(hac:D.acts+1<=4611686018427387904)(hcnt:D.L.length<1099511627776)(hfr:D.down=false->D.free+(Qh D.L s.data.toList).now.length<=9223372036854775807) :
  Calls prog 157 #[Pq p,.string s] w fun e w'=>e= .returned (.int .i64 (YI D s.data.toList).2)∧Left w w' p m R kb ko D (YI D s.data.toList).1:=by
 obtain⟨w4,hw4⟩:∃W,(w.alloc (.cells #[Pq p] 25)).alloc (.cells #[.string s] 9)=W:=⟨_,rfl⟩;have HW4:Hid ((w.alloc (.cells #[Pq p] 25)).alloc (.cells #[.string s] 9)=w4):=hw4;have hb4:Below w.heap.size w w4:=by rw[<-hw4];exact bal (bal (Lb _ _) _) _
 have x1:Bx1 w4 w.heap.size (Pq p) 25:=by rw[<-hw4];exact new0 _ _ _
 have x2:Bx1 w4 (w.heap.size+1) (.string s) 9:=by rw[<-hw4];exact new2 _ _ _
 have h4:=h.next hb4;have HS:Hid (Left w w4 p m R kb ko D D):=Qcc h hb4;obtain⟨_,_,_,_,_,_,c6⟩:=h4.cells;have z1:=x1.at;have z2:=x2.at;have hsd:YI D s.data.toList=if D.down then (D,170) else O8 D s.data.toList ⟨(Qh D.L s.data.toList).now,(Qh D.L s.data.toList).now⟩:=rfl
 have HAct:Hid (D.down=false->Calls prog 246 #[Pq p,.func (.func 250) #[] #[Pq w.heap.size,.pointer (some ⟨w.heap.size+1,0,none⟩)]] w4 fun e w'=>e= .returned (.int .i64 (YI D s.data.toList).2)∧Left w w' p m R kb ko D (YI D s.data.toList).1):=fun hd=>by
  refine(Qge w4 h4 hac _ _ _ _ (Ql6 w4 h4 s hs hcnt (hfr hd) w.heap.size (w.heap.size+1) x1 x2) (.inr (.inr rfl))).mono ?_
  rintro e w' ⟨m',R',ka',kc',rfl,hl⟩;rw[hsd,Ld (by simp[hd])]
  exact⟨rfl,Qcb hb4 ⟨m',R',ka',kc',hl⟩⟩
 have HSD:=Qd hsd;clear h hb4 h4 x1 x2 hw4 hac hcnt hfr hsd
 by_cases hd:D.down=true
 ·rw[hd] at c6;have HE:Hid (YI D s.data.toList=(D,170)):=by show _=_;rw[HSD.out,Lm hd]
  clear hd HSD HAct
  go_enter func157,ntmps157
  go_upto_region 1 with (fail)
  rw[HW4.out];go_wp2
  go_ret
  rw[HE.out];exact⟨rfl,HS.out⟩
 ·have hd2:D.down=false:=by simpa using hd
  have HA2:=Qd (HAct.out hd2);rw[hd2] at c6;clear hd hd2 HSD HAct HS
  go_enter func157,ntmps157
  go_upto_region 1 with (fail)
  rw[HW4.out]
  go_wp2_with (go_at_call 246;(with_reducible refine HA2.out.mono ?_);rintro e w7 ⟨rfl,hl⟩)
  go_ret
  exact⟨rfl,hl⟩
end
def rdD(D:DV)(s:List UInt8)(off n:Int):List UInt8×Int :=
 if D.down then ([],170) else
 if off<0∨n<0∨((Qh D.L s).now.length:Int)<off∨((Qh D.L s).now.length:Int)-off<n then ([],173) else
 (((Qh D.L s).now.drop off.toNat).take n.toNat,0)
section
variable {p m:Nat} {R:List UInt8->FR} {ka:OA} {kb ko kc:Nat} {D:DV}
theorem QkT(w:World)(h:Dk w p m R ka kb ko kc D none)(s:BA)(hs:s.size<=maxLen)(off q:Int)(ho1 : -9223372036854775808<=off)(ho2:off<=9223372036854775807)(hq1 : -9223372036854775808<=q)(hq2:q<=9223372036854775807) :
  Calls prog 152 #[Pq p,.string s,.int .i64 off,.int .i64 q] w fun e w'=>e= .returned (.tuple #[.string ⟨(rdD D s.data.toList off q).1.toArray⟩,.int .i64 (rdD D s.data.toList off q).2])∧Below w.heap.size w w':=by
 obtain⟨c0,c1,c2,c3,c4,c5,c6⟩:=h.cells;obtain⟨r,hl,hr⟩:=h.look s hs;have hl1:=hl w rfl;obtain⟨hfil,_⟩:=h.file hr;have hb1:=hfil.b1;have hnow:=hfil.now;have hfld:=QcH;obtain⟨f0,hf0⟩:∃f0,Qh D.L s.data.toList=f0:=⟨_,rfl⟩;rw[hf0] at hl1 hb1 hnow;obtain⟨n,hn⟩:∃n,f0.now.length=n:=⟨_,rfl⟩;obtain⟨n2,hn2⟩:∃n,f0.syn.length=n:=⟨_,rfl⟩;simp only[Ju,fv,hn,hn2] at hl1;have hrd:rdD D s.data.toList off q=if D.down then ([],170) else if off<0∨q<0∨(n:Int)<off∨(n:Int)-off<q then ([],173) else ((f0.now.drop off.toNat).take q.toNat,0):=by
  simp only[rdD,hf0,hn]
 obtain⟨ra,rg,rc,rb,rh,rd,rs⟩:=r;simp only at hl1 hnow;obtain⟨w1,hw1⟩:∃W,w.alloc (.cells #[.slice ra n rc,.slice rb n2 rd,.int .i64 rs] 129)=W:=⟨_,rfl⟩;have hb:Below w.heap.size w w1:=by rw[<-hw1];exact bal (Lb _ _) _
 have x3:w1.heap[w.heap.size]? = some (.cells #[.slice ra n rc,.slice rb n2 rd,.int .i64 rs] 129 (0,0)):=by rw[<-hw1];exact Ja w _
 have HW:Hid (w.alloc (.cells #[.slice ra n rc,.slice rb n2 rd,.int .i64 rs] 129)=w1):=hw1;have HB:=Qd hb;have d6:=(h.next hb).cells.2.2.2.2.2.2;have HN:Hid (Rw w1 ra rg rc f0.now∧f0.now.length=n):=⟨hnow.next hb (La _),hn⟩;have hle:=hnow.le;rw[hn] at hle hb1;obtain⟨b0,b1,b2⟩:=QP x3;clear hw1 hb h hl hr hfil hnow hf0 hn hn2 x3 c0 c2 c3 c4 c5 c6
 by_cases hd:D.down=true
 ·rw[Lm hd] at hrd;rw[hd] at d6;have HE:=Qd hrd;clear hrd hd
  go_enter func152,ntmps152
  go_upto_region 2 with (fail)
  rw[HW.out];go_wp2
  go_ret2
  rw[HE.out];exact⟨rfl,HB.out⟩
 rw[Ld hd] at hrd;have hd2:D.down=false:=by simpa using hd
 rw[hd2] at d6;clear hd hd2
 go_enter func152,ntmps152
 go_upto_region 2 with (fail)
 rw[HW.out]
 by_cases hc:off<0∨q<0∨(n:Int)<off∨(n:Int)-off<q
 ·rw[Lm hc] at hrd;have HE:=Qd hrd;clear hrd
  by_cases k1:off<0
  ·clear hc;go_wp2
   go_ret2
   rw[HE.out];exact⟨rfl,HB.out⟩
  by_cases k2:q<0
  ·clear hc;go_wp2
   go_ret2
   rw[HE.out];exact⟨rfl,HB.out⟩
  by_cases k3:(n:Int)<off
  ·clear hc;go_wp2
   go_ret2
   rw[HE.out];exact⟨rfl,HB.out⟩
  have k4:(n:Int)-off<q:=by omega
  have e1:IntKind.i64.wrap ((n:Int)-off)=(n:Int)-off:=by rw[Lz];omega
  clear hc;go_wp2
  go_ret2
  rw[HE.out];exact⟨rfl,HB.out⟩
 rw[Ld hc] at hrd;have k1:¬off<0:=fun e=>hc (.inl e)
 have k2:¬q<0:=fun e=>hc (.inr (.inl e))
 have k3:¬(n:Int)<off:=fun e=>hc (.inr (.inr (.inl e)))
 have k4:¬(n:Int)-off<q:=fun e=>hc (.inr (.inr (.inr e)))
 obtain⟨k,rfl⟩:∃k:Nat,off=(k:Int):=⟨off.toNat,by omega⟩
 obtain⟨j,rfl⟩:∃k:Nat,q=(k:Int):=⟨q.toNat,by omega⟩
 have e1:IntKind.i64.wrap ((n:Int)-(k:Int))=(n:Int)-(k:Int):=by rw[Lz];omega
 have e2:IntKind.i64.wrap ((k:Int)+(j:Int))=((k+j:Nat):Int):=by rw[Lz];omega
 have HE:=Qd hrd;clear hrd hc
 by_cases hrc:rc=k
 ·have j0:j=0:=by omega
  have hcv:∀x,(convert 127 9 (.slice ra j x)).run prog w1= .ok (.string ⟨((f0.now.drop k).take j).toArray⟩) w1:=fun x=>HN.out.1.conv (by rw[HN.out.2];omega) (.inl rfl) (fun _=> .inr j0) x
  clear j0;go_wp2
  go_ret2
  rw[HE.out];exact⟨rfl,HB.out⟩
 ·have hcv:∀x,(convert 127 9 (.slice (ra.map (·.add k)) j x)).run prog w1= .ok (.string ⟨((f0.now.drop k).take j).toArray⟩) w1:=fun x=>HN.out.1.conv (by rw[HN.out.2];omega) (.inr rfl) (fun q=>((Qf3 HN.out.1 (by rw[HN.out.2];omega) (Ld hrc) HN.out.2).2 q).imp id (fun e=>by omega)) x
  go_wp2
  go_ret2
  rw[HE.out];exact⟨rfl,HB.out⟩
end
def Jb(room:Nat):DV:=⟨room,[],0,0,0,[],false⟩
def Dsk(w:World)(p:Nat)(S:Nat->Prop)(D:DV):Prop := ∃m R ka kb ko kc,Dk w p m R ka kb ko kc D none ∧ ∀x,Ut p m R kb D x↔S x
theorem QcZ(w:World)(room:Int)(n:Nat)(hn:n=room.toNat)(h2:room<=9223372036854775807) :
  Calls prog 10 #[.int .i64 room] w fun e w'=> ∃p S,e= .returned (Pq p)∧Dsk w' p S (Jb n)∧(∀x,S x->w.heap.size<=x)∧Below w.heap.size w w':=by
 have hmm := @run_makeMap prog;have e1:(if room<0 then 0 else room)=(n:Int):=by split <;> omega
 go_enter func10,ntmps10;go_wp2
 go_ret
 have hm:max room 0=(n:Int):=by omega
 rw[hm];have k0:=new0 w (.map #[] 0) (.cells #[.int .i64 n,.map (some w.heap.size),.int .i64 0,.int .i64 0,.int .i64 0,.slice none 0 0,.bool false] 98);have k1:=new2 w (.map #[] 0) (.cells #[.int .i64 n,.map (some w.heap.size),.int .i64 0,.int .i64 0,.int .i64 0,.slice none 0 0,.bool false] 98);have hM:=(QoL w).same (k0.trans (Ja w (.map #[] 0)).symm);refine⟨w.heap.size+1,Ut (w.heap.size+1) w.heap.size (fun _=>fr0) 0 (Jb n),rfl,⟨w.heap.size,fun _=>fr0,none,0,0,0,⟨k1,hM,?_,?_,?_,?_,?_,?_,?_,?_,?_,?_,?_,?_⟩,fun x=>Iff.rfl⟩,fun x hx=> ?_,bal (bal (Lb _ _) _) _⟩
 ·exact Uy
 ·intro s hs;simp[QA,Jb] at hs
 ·intro s hs;simp[QA,Jb] at hs
 ·intro s hs;simp[QA,Jb] at hs
 ·intro s hs;simp[QA,Jb] at hs
 ·simp[Jb]
 ·exact QgW _ _ _ _
 ·intro h0;simp[Jb] at h0
 ·simp[Jb]
 ·show n<=_;omega
 ·simp[Jb]
 ·exact rfl
 ·rcases hx with rfl|rfl|⟨s,hs,_⟩|⟨h0,_⟩
  ·omega
  ·omega
  ·simp[QA,Jb] at hs
  ·simp[Jb] at h0
def Mvd(w w':World)(p:Nat)(S:Nat->Prop)(D':DV):Prop := ∃S',Dsk w' p S' D'∧(∀x,S' x->S x∨w.heap.size<=x)∧Upo S w w'
section
variable {w W:World} {p:Nat} {S:Nat->Prop} {D:DV}
theorem Dsk.same(h:Dsk w p S D)(hb:∀x,S x->W.heap[x]? = w.heap[x]?):Dsk W p S D:=by
 obtain⟨m,R,ka,kb,ko,kc,h1,h2⟩:=h;exact⟨m,R,ka,kb,ko,kc,h1.same (fun x hx=>hb x ((h2 x).1 hx)),h2⟩
theorem Dsk.lt(h:Dsk w p S D){x:Nat}(hx:S x):x<w.heap.size:=by
 obtain⟨m,R,ka,kb,ko,kc,h1,h2⟩:=h;exact h1.lt ((h2 x).2 hx)
theorem Dsk.next(h:Dsk w p S D)(hb:Below w.heap.size w W):Dsk W p S D:=h.same fun x hx=>hb.block x (h.lt hx)
theorem Dsk.keep{T:Nat->Prop}(h:Dsk w p S D)(hu:Upo T w W)(hd:∀x,S x -> ¬T x):Dsk W p S D:=h.same fun x hx=>hu.block x (h.lt hx) (hd x hx)
theorem Dsk.mvd{m:Nat}{R:List UInt8->FR}{kb ko:Nat}{D':DV}(hi:∀x,Ut p m R kb D x↔S x)(h:Left w W p m R kb ko D D'):Mvd w W p S D':=by
 obtain⟨m',R',ka',kc',h1,h2,h3⟩:=h;exact⟨Ut p m' R' kb D',⟨m',R',ka',kb,ko,kc',h1,fun _=>Iff.rfl⟩,fun x hx=>(h2 x hx).imp (hi x).1 id,h3.mono (fun x _ q=>(hi x).1 q)⟩
theorem Dsk.write(h:Dsk w p S D)(s t:BA)(hs:s.size<=maxLen)(off:Int)(ho1 : -9223372036854775808<=off)(ho2:off<=9223372036854775807)(ht:t.size<=140737488355328)(hac:D.acts+1<=4611686018427387904)(hcnt:D.L.length<1099511627776)(hfr:D.down=false->D.free+(Qh D.L s.data.toList).now.length<=9223372036854775807) :
  Calls prog 268 #[Pq p,.string s,.int .i64 off,.string t] w fun e w'=>e= .returned (.int .i64 (wrD D s.data.toList off t.data.toList).2)∧Mvd w w' p S (wrD D s.data.toList off t.data.toList).1:=by
 obtain⟨m,R,ka,kb,ko,kc,h1,h2⟩:=h;exact(Qax w h1 s t hs off ho1 ho2 ht hac hcnt hfr).mono fun e w' q=>⟨q.1,Dsk.mvd h2 q.2⟩
theorem Dsk.sync(h:Dsk w p S D)(s:BA)(hs:s.size<=maxLen)(hac:D.acts+1<=4611686018427387904)(hcnt:D.L.length<1099511627776)(hfr:D.down=false->D.free+(Qh D.L s.data.toList).now.length<=9223372036854775807) :
  Calls prog 157 #[Pq p,.string s] w fun e w'=>e= .returned (.int .i64 (YI D s.data.toList).2)∧Mvd w w' p S (YI D s.data.toList).1:=by
 obtain⟨m,R,ka,kb,ko,kc,h1,h2⟩:=h;exact(Qlg w h1 s hs hac hcnt hfr).mono fun e w' q=>⟨q.1,Dsk.mvd h2 q.2⟩
theorem Dsk.read(h:Dsk w p S D)(s:BA)(hs:s.size<=maxLen)(off q:Int)(ho1 : -9223372036854775808<=off)(ho2:off<=9223372036854775807)(hq1 : -9223372036854775808<=q)(hq2:q<=9223372036854775807) :
  Calls prog 152 #[Pq p,.string s,.int .i64 off,.int .i64 q] w fun e w'=>e= .returned (.tuple #[.string ⟨(rdD D s.data.toList off q).1.toArray⟩,.int .i64 (rdD D s.data.toList off q).2])∧Below w.heap.size w w':=by
 obtain⟨m,R,ka,kb,ko,kc,h1,h2⟩:=h;exact QkT w h1 s hs off q ho1 ho2 hq1 hq2
def sizD(D:DV)(s:List UInt8):Nat:=if D.down then 0 else (Qh D.L s).now.length
theorem Dsk.size(h:Dsk w p S D)(s:BA)(hs:s.size<=maxLen):Calls prog 151 #[Pq p,.string s] w fun e w'=>e= .returned (.int .i64 (sizD D s.data.toList:Int))∧w'=w:=by
 obtain⟨m,R,ka,kb,ko,kc,h1,h2⟩:=h;exact QbJ w h1 s hs _ rfl
theorem Dsk.down(h:Dsk w p S D):Calls prog 15 #[Pq p] w fun e w'=>e= .returned (.bool D.down)∧w'=w:=by
 obtain⟨m,R,ka,kb,ko,kc,h1,h2⟩:=h;exact Qjn w h1
end
end St
namespace St.Pl
def Qv:Nat->Nat->Nat
 | 0,_=>0
 | k+1,n=>n%2+Qv k (n/2)
theorem Y9(n k:Nat):n/2^(k+1)=n/2^k/2:=by
 rw[LJ,L3]
theorem Qc9(k n:Nat):Qv k n<=k:=by
 induction k generalizing n with
 | zero=>exact La _
 | succ k ih=>have:=ih (n/2);simp only[Qv];omega
theorem Qak(k n:Nat)(hk:k<64):Qv (64-k) (n/2^k)=n/2^k%2+Qv (64-(k+1)) (n/2^(k+1)):=by
 rw[show 64-k=(64-(k+1))+1 by omega,Qv,Y9]
def N(n:Nat):Nat:=2*n-Qv 64 n
def pw(h:Nat):Nat:=2^h
def at'(h k:Nat):Nat:=2*pw h*(k+1)-2-Qv 64 k
def fr(h k:Nat):Nat:=2*pw h*k-Qv 64 k
theorem QF(h:Nat):pw (h+1)=2*pw h:=by simp[pw,Nat.pow_succ,Nat.mul_comm]
theorem UB:pw 0=1:=rfl
theorem Qw(h:Nat):0<pw h:=LP h
theorem Od(a b:Nat):pw (a+b)=pw a*pw b:=Im 2 a b
theorem J3{a b:Nat}(h:a<=b):pw a<=pw b:=Nc (by decide) h
theorem JM(j k:Nat):Qv j k<=k:=by
 induction j generalizing k with
 | zero=>exact Ln _
 | succ j ih=>have:=ih (k/2);simp only[Qv];omega
theorem UU(j k:Nat)(h:k<2^j):Qv (j+1) k=Qv j k:=by
 induction j generalizing k with
 | zero=>simp at h;subst h;rfl
 | succ j ih=>
  rw[Qv,ih (k/2) (by rw[LJ] at h;omega)];rfl
theorem Qbx(k:Nat)(h:k<2^63):Qv 64 (2*k)=Qv 64 k:=by
 rw[UU 63 k h,Qv];have e1:2*k%2=0:=by omega
 have e2:2*k/2=k:=by omega
 rw[e1,e2];omega
theorem Qet(k:Nat)(h:k<2^63):Qv 64 (2*k+1)=Qv 64 k+1:=by
 rw[UU 63 k h,Qv];have e1:(2*k+1)%2=1:=by omega
 have e2:(2*k+1)/2=k:=by omega
 rw[e1,e2];omega
theorem QfJ(h k:Nat)(hb:k*pw h<2^63):Qv 64 (k*pw h)=Qv 64 k:=by
 induction h with
 | zero=>simp[pw]
 | succ h ih=>
  rw[QF] at hb ⊢;have e:k*(2*pw h)=2*(k*pw h):=by rw[NX]
  rw[e] at hb ⊢;rw[Qbx _ (by omega),ih (by omega)]
theorem QhX(h k:Nat)(hb:(k+1)*pw h<2^63):Qv 64 ((k+1)*pw h-1)=Qv 64 k+h:=by
 induction h with
 | zero=>simp[pw]
 | succ h ih=>
  rw[QF] at hb ⊢;have e:(k+1)*(2*pw h)=2*((k+1)*pw h):=by rw[NX]
  have hp:0<(k+1)*pw h:=Nat.mul_pos (by omega) (Qw h)
  rw[e] at hb ⊢;have e2:2*((k+1)*pw h)-1=2*((k+1)*pw h-1)+1:=by omega
  rw[e2,Qet _ (by omega),ih (by omega)];omega
theorem QnQ(h k:Nat):at' h k+2+Qv 64 k=2*pw h*(k+1):=by
 have h1:=JM 64 k;have h2:1*(2*(k+1))<=pw h*(2*(k+1)):=LM _ (Qw h);have e:2*pw h*(k+1)=pw h*(2*(k+1)):=by rw[LU 2,L5]
 simp only[at'];rw[e];omega
theorem Qb7(h k:Nat):fr h k+Qv 64 k=2*pw h*k:=by
 have h1:=JM 64 k;have h2:1*(2*k)<=pw h*(2*k):=LM _ (Qw h);have e:2*pw h*k=pw h*(2*k):=by rw[LU 2,L5]
 simp only[fr];rw[e];omega
theorem Qpm(h k:Nat):at' h k=fr h k+(2*pw h-2):=by
 have h1:=QnQ h k;have h2:=Qb7 h k;have h3:=Qw h;rw[N6,Nj] at h1;omega
theorem N_eq(n:Nat):N n+Qv 64 n=2*n:=by
 have:=JM 64 n;simp only[N];omega
theorem N_at(h k:Nat)(hb:(k+1)*pw h<2^63):N ((k+1)*pw h-1)+h=at' h k:=by
 have h1:=QnQ h k;have h2:=N_eq ((k+1)*pw h-1);have h3:=QhX h k hb;have hp:0<(k+1)*pw h:=Nat.mul_pos (by omega) (Qw h)
 have e:2*pw h*(k+1)=2*((k+1)*pw h):=by rw[L5,LU (pw h)]
 omega
theorem N_fr(h k:Nat)(hb:k*pw h<2^63):N (k*pw h)=fr h k:=by
 have h1:=Qb7 h k;have h2:=N_eq (k*pw h);have h3:=QfJ h k hb;have e:2*pw h*k=2*(k*pw h):=by rw[L5,LU (pw h)]
 omega
theorem QgB(h k:Nat)(hk:k<2^63):fr h (2*k)=fr (h+1) k:=by
 have h1:=Qb7 (h+1) k;have h2:=Qb7 h (2*k);have h3:=Qbx k hk;have e:2*pw (h+1)*k=2*pw h*(2*k):=by rw[QF,L5 2 (2*pw h) k,L5 2 (pw h) (2*k),L5 2 (pw h) k,NX (pw h) 2 k]
 omega
theorem Qjy(h k:Nat)(hk:k<2^63):fr h (2*k+1)=fr (h+1) k+(2*pw h-1):=by
 have h1:=QgB h k hk;have h2:=Qb7 h (2*k);have h3:=Qb7 h (2*k+1);have h4:=Qbx k hk;have h5:=Qet k hk;have h6:=Qw h;rw[N6,Nj] at h3;omega
theorem QmA{h k:Nat}(hk:k<pw (40-h)):k<2^40 :=
 Lv hk (J3 (by omega))
theorem QlH(h k:Nat)(hk:k<2^63)(ho:k%2=1):at' h (k-1)+1=fr h k:=by
 have e:k=2*(k/2)+1:=by omega
 have h1:=Qjy h (k/2) (by omega)
 have h2:=QgB h (k/2) (by omega)
 have h3:=Qpm h (k-1);have h4:=Qw h;rw[<-e] at h1;rw[show 2*(k/2)=k-1 by omega] at h2
 omega
theorem Qer(t n:Nat)(h:n%pw t=pw t-1):n+1=(n/pw t+1)*pw t:=by
 have h1:=Ia n (pw t);have h2:=Qw t;rw[LT,Na,LU (n/pw t)];omega
theorem QbT(t n:Nat)(h:n%pw t=pw t-1)(ho:n/pw t%2=1):n%pw (t+1)=pw (t+1)-1:=by
 have h2:=Qw t;have e:n%pw (t+1)=n%pw t+pw t*(n/pw t%2):=by rw[QF,LU,Il]
 rw[e,h,ho,QF];omega
theorem Qes(t n:Nat)(h:n%pw t=pw t-1)(hn:n<2^40):t<=40:=by
 have h1:pw t-1<=n:=by rw[<-h];exact Nat.mod_le _ _
 have h2:=Qw t
 by_cases ht:t<=40
 ·exact ht
 ·have:pw 41<=pw t:=J3 (by omega)
  have:pw 41=2^41:=rfl;omega
theorem QoQ(t n:Nat)(h:n%pw t=pw t-1)(hn:n<2^40):at' t (n/pw t)=N n+t∧n/pw t<pw (40-t)∧t<=40:=by
 have e:=Qer t n h;have ht:=Qes t n h hn;have hx:=N_at t (n/pw t) (by rw[<-e];omega)
 rw[<-e,Nx] at hx;refine⟨hx.symm,?_,ht⟩
 rw[IX (Qw t),<-Od,show 40-t+t=40 by omega]
 exact hn
theorem new_N(t n:Nat)(h:n%pw t=pw t-1)(ho:¬n/pw t%2=1)(hn:n<2^40):N (n+1)=N n+t+1:=by
 have e:=Qer t n h;obtain⟨h1,h2,ht⟩:=QoQ t n h hn;have hb:=QmA h2;have h4:=N_fr t (n/pw t+1) (by rw[<-e];omega)
 rw[<-e] at h4;have h5:=QlH t (n/pw t+1) (by omega) (by omega)
 rw[Nx] at h5;omega
end St.Pl
namespace St
open Rc
def nmI:List UInt8:=[105,116,101,109,115]
def nmN:List UInt8:=[110,111,100,101,115]
def nmM:List UInt8:=[109,97,114,107,115]
def nn(n:Nat):Nat:=Pl.N n
def lst(l:List Nat):Nat:=l.getLastD 0
def UN(l:List Nat)(n:Nat):Nat:=if n=0 then 0 else l.getD (n-1) 0
theorem Qbc(l:List Nat):UN l l.length=lst l:=by
 unfold UN lst
 rcases List.eq_nil_or_concat l with rfl|⟨a,b,rfl⟩
 ·rfl
 ·simp
structure SV where
 k:Nat
 ends:List Nat
 chain:BitVec 32
 lame:Bool
def tx(l:List UInt8):BA:=⟨l.toArray⟩
theorem QdC(l:List UInt8):(tx l).data.toList=l:=rfl
theorem Ji(l:List UInt8):(tx l).size=l.length:=by show l.toArray.size=_;simp
instance decMV:DecidableEq MV:=fun a b=>decidable_of_iff (a.k=b.k∧a.size=b.size∧a.items=b.items∧a.nodes=b.nodes∧a.chain=b.chain) ⟨fun h=>MV.ext' h.1 h.2.1 h.2.2.1 h.2.2.2.1 h.2.2.2.2,fun h=>by subst h;exact⟨rfl,rfl,rfl,rfl,rfl⟩⟩
def nxM(k:Nat)(ends:List Nat)(c:BitVec 32)(pl:List UInt8)(rows:LB):MV :=
 ⟨(k:Int),ends.length+1,lst ends+pl.length,nn (ends.length+1)*40,BitVec.ofNat 32 (chn c pl rows)⟩
def whl(pl:List UInt8):Bool:=match rpay pl with
 | none=>false
 | some x=>x.length+8 == pl.length
def Yc:List (DV->DV×Int)->DV->DV×Int
 | [],D=>(D,0)
 | f::r,D=>if (f D).2=0 then Yc r (f D).1 else f D
def now(D:DV)(s:List UInt8):List UInt8:=(Qh D.L s).now
def nxt(S:SV)(ds:LB):Bool:=ds.length == nn (S.ends.length+1)-nn S.ends.length && ds.all fun d=>d.size == S.k
def YH(p:Nat)(ds:LB):LB:=ds.mapIdx fun i d=>tx (nod (p+i) d.data.toList)
def six(S:SV)(pl jn mk:List UInt8):List (DV->DV×Int) :=
 [fun D=>wrD D nmI (lst S.ends:Int) pl,fun D=>wrD D nmN ((nn S.ends.length*40:Nat):Int) jn,fun D=>YI D nmI,fun D=>YI D nmN,fun D=>wrD D nmM ((S.ends.length*64:Nat):Int) mk,fun D=>YI D nmM]
def addM(S:SV)(item:List UInt8)(ds:LB):MV:=nxM S.k S.ends S.chain (pay item) (YH (nn S.ends.length) ds)
def addA(S:SV)(item:List UInt8)(ds:LB):List (DV->DV×Int):=six S (pay item) (Rc.Qk (YH (nn S.ends.length) ds)) (mrk (addM S item ds))
def refD(S:SV)(item:List UInt8)(ds:LB):Int :=
 if S.lame then 191 else if 1048576<item.length then 100 else if 65536<=S.ends.length then 101 else if nxt S ds=false then 192 else if 268435456<lst S.ends+(item.length+8) then 172 else 0
def UD(D:DV)(S:SV)(item:List UInt8)(ds:LB):DV×SV×Int :=
 if refD S item ds≠0 then (D,S,refD S item ds) else
 if (Yc (addA S item ds) D).2=0 then ((Yc (addA S item ds) D).1,{ S with ends:=S.ends++[(addM S item ds).items],chain:=(addM S item ds).chain },0) else
 ((Yc (addA S item ds) D).1,{ S with lame:=true },(Yc (addA S item ds) D).2)
def rdS(D:DV)(s:List UInt8)(off n:Int):List UInt8×Int:=if (rdD D s off n).2=173 then ([],190) else rdD D s off n
def OE(D:DV)(S:SV)(i:Nat):List UInt8×Int:=rdS D nmI (UN S.ends i:Int) ((S.ends.getD i 0:Int)-(UN S.ends i:Int))
def JY(D:DV)(S:SV)(i:Nat):List UInt8×Int :=
 if S.ends.length<=i then ([],31) else if (OE D S i).2≠0 then ([],(OE D S i).2) else
 if whl (OE D S i).1 then ((rpay (OE D S i).1).getD [],0) else ([],190)
end St
end Go.Proofs.YtoblgjledefdbaaGreatDoor
