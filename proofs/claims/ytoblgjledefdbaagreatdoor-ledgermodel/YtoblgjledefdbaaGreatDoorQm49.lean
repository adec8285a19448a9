import Derived.Test.YtoblgjledefdbaaGreatDoorQm47
/- Own work. -/
namespace Go.Proofs.YtoblgjledefdbaaGreatDoor
open Go.RowKit
attribute [local go_sem ↓] Go.wp_at_zero Go.wp_at_succ
open Go.Proofs.Tryz
section
open Cv (QI)
def UF(T:BA)(a:Nat):List UInt8:=T.data.toList.drop a
theorem JC(T:BA)(a:Nat):(UF T a).length=T.size - a:=by rw[UF,Nb,Qb]
theorem Qfa(T:BA)(a k:Nat):UF T (a+k)=(UF T a).drop k:=by rw[UF,UF,IB]
theorem Qa3{T:BA}{a n:Nat}{r:List UInt8}(h:UF T a=num n++r)(hn:n<2^64):rnb T a 0=(a+(num n).length,0,n)∧UF T (a+(num n).length)=r:=by
 have hs:=QbX r n 0 0 (by decide) (by simpa using hn) (by decide) (.inl rfl)
 refine⟨?_,by rw[Qfa,h];simp⟩
 refine Qgh ?_
 rw[UF] at h;rw[h,hs];simp
theorem Qa1(T:BA)(a e:Nat)(ha:a<=T.size):(rnb T a e).1<=T.size∧(rnb T a e).2.2<18446744073709551616:=by
 by_cases he:e=0
 ·subst he;obtain⟨n,e',k,hc⟩ : ∃n e' k,YL (T.data.toList.drop a) 0 0=(n,e',k):=⟨_,_,_,rfl⟩
  by_cases h0:e'=0
  ·subst h0;rw[Qgh hc];obtain⟨m,h1,h2,h3,h4,h5,h6,h7⟩:=Qaz _ 0 0 n k (by decide) (by decide) hc
   rw[Nb,Qb] at h5;exact⟨by simp only;omega,h7⟩
  ·rw[Qa2 hc h0]
   rcases Qk0 (T.data.toList.drop a) 0 0 with h|h|h
   ·rw[hc] at h;exact absurd h h0
   ·rw[hc] at h;cases h;exact⟨ha,by simp only;omega⟩
   ·rw[hc] at h;cases h;exact⟨ha,by simp only;omega⟩
 ·simp[rnb,he,ha]
theorem QmW{T:BA}{a k:Nat}{d:BA}{r:List UInt8}(h:UF T a=d.data.toList++r)(hk:d.size=k):rtk T a 0 (k:Int)=(a+k,0,d)∧UF T (a+k)=r:=by
 have hl:=Lw List.length h;rw[JC,Lc,Qb,hk] at hl;refine⟨?_,by rw[Qfa,h,LI (by rw[Qb];omega),List.drop_of_length_le (by rw[Qb];omega),Nd]⟩
 rw[rtk,Le (by simp),Le (by omega),LM]
 have:T.extract a (a+k)=d:=by
  apply Ji
  have e1:(T.extract a (a+k)).data.toList=(T.data.toList.drop a).take k:=by
   rw[Nz,Ie,NV,Iw]
  rw[e1];rw[UF] at h;rw[h,Lt (by rw[Qb];omega),Lo (by rw[Qb];omega)]
 rw[this]
end
def Tri(w:World)(s:Nat)(T:BA)(a e:Nat):Prop:=w.heap[s]? = some (.cells #[.string T,.int .i64 (a:Int),.int .i64 (e:Int)] 256 (0,0))
theorem Tri.cells{w:World}{s a e:Nat}{T:BA}(h:Tri w s T a e):w.cell? ⟨s,0,none⟩=some (.string T)∧w.cell? ⟨s,1,none⟩=some (.int .i64 (a:Int))∧w.cell? ⟨s,2,none⟩=some (.int .i64 (e:Int)) :=
 ⟨by rw[cell_of_row w s 0 _ _ (0,0) h];rfl,by rw[cell_of_row w s 1 _ _ (0,0) h];rfl,by rw[cell_of_row w s 2 _ _ (0,0) h];rfl⟩
theorem Tri.fz{w:World}{s a e:Nat}{T:BA}(h:Tri w s T a e)(j:Nat):w.frozen? ⟨s,j,none⟩=false:=frozen_of_row w s j _ _ h
theorem Tri.lt{w:World}{s a e:Nat}{T:BA}(h:Tri w s T a e):s<w.heap.size:=(Array.getElem?_eq_some_iff.1 h).1
theorem Tri.same{w W:World}{s a e:Nat}{T:BA}(h:Tri w s T a e)(hb:W.heap[s]? = w.heap[s]?):Tri W s T a e:=hb.trans h
theorem Tri.next{w W:World}{s a e:Nat}{T:BA}(h:Tri w s T a e)(hb:Below w.heap.size w W):Tri W s T a e:=h.same (hb.block s h.lt)
theorem Qnq(w:World)(T:BA)(a e:Nat):Tri (w.alloc (.cells #[.string T,.int .i64 (a:Int),.int .i64 (e:Int)] 256)) w.heap.size T a e:=LH w _
def put3(w:World)(s:Nat)(T:BA)(a e:Nat):World:=((w.setCell ⟨s,0,none⟩ (.string T)).setCell ⟨s,1,none⟩ (.int .i64 (a:Int))).setCell ⟨s,2,none⟩ (.int .i64 (e:Int))
theorem Tri.put{w:World}{s a e:Nat}{T:BA}(h:Tri w s T a e)(T':BA)(a' e':Nat):Tri (put3 w s T' a' e') s T' a' e':=by
 have h1:=Lp w s 0 _ _ (.string T') h;have h2:=Lp _ s 1 _ _ (.int .i64 (a':Int)) h1;exact Lp _ s 2 _ _ (.int .i64 (e':Int)) h2
theorem Qhf(w:World)(s:Nat)(T:BA)(a e:Nat):ChT (fun x=>x=s) w (put3 w s T a e) :=
 (((ChT.refl (fun x=>x=s) w).set s 0 (.string T) rfl).set s 1 (.int .i64 (a:Int)) rfl).set s 2 (.int .i64 (e:Int)) rfl
structure RSC(w wr:World)(T:BA)(a e:Nat)(kd k:Int)(old size:Nat)(sv dv:Value):Prop where
 res:Six wr w.heap.size (.int .i64 0) (.int .i64 0) (.int .u64 0) (.int .u64 0) (.slice none 0 0) (.slice none 0 0)
 pr:Six wr (w.heap.size+1) (.int .i64 kd) (.int .i64 k) (.int .u64 (old:Int)) (.int .u64 (size:Int)) sv dv
 rd:Tri wr (w.heap.size+2) T a e
 below:Below w.heap.size w wr
section
variable {w wr W:World} {T:BA} {a e:Nat} {kd k:Int} {old size:Nat} {sv dv:Value}
theorem RSC.next(h:RSC w wr T a e kd k old size sv dv)(hb:Below wr.heap.size wr W):RSC w W T a e kd k old size sv dv :=
 ⟨h.res.next hb,h.pr.next hb,h.rd.next hb,Qa h.below hb⟩
theorem RSC.put(h:RSC w wr T a e kd k old size sv dv)(a' e':Nat):RSC w (put3 wr (w.heap.size+2) T a' e') T a' e' kd k old size sv dv:=by
 have hc:=Qhf wr (w.heap.size+2) T a' e';exact⟨h.res.same (hc.block _ (by show ¬_=_;omega)),h.pr.same (hc.block _ (by show ¬_=_;omega)),h.rd.put T a' e',h.below.trans (hc.below (by rintro b rfl;omega))⟩
theorem RSC.keep(h:RSC w wr T a e kd k old size sv dv){kd' k':Int}{old' size':Nat}{sv' dv':Value}(hp:Six W (w.heap.size+1) (.int .i64 kd') (.int .i64 k') (.int .u64 (old':Int)) (.int .u64 (size':Int)) sv' dv')(hc:ChT (fun x=>x=w.heap.size+1) wr W):RSC w W T a e kd' k' old' size' sv' dv' :=
 ⟨h.res.same (hc.block _ (by show ¬_=_;omega)),hp,h.rd.same (hc.block _ (by show ¬_=_;omega)),h.below.trans (hc.below (by rintro b rfl;omega))⟩
theorem RSC.putOld(h:RSC w wr T a e kd k old size sv dv)(n:Nat):RSC w (wr.setCell ⟨w.heap.size+1,2,none⟩ (.int .u64 (n:Int))) T a e kd k n size sv dv :=
 h.keep (h.pr.set2 _) ((ChT.refl (fun x=>x=w.heap.size+1) wr).set _ _ _ rfl)
theorem RSC.putSize(h:RSC w wr T a e kd k old size sv dv)(n:Nat):RSC w (wr.setCell ⟨w.heap.size+1,3,none⟩ (.int .u64 (n:Int))) T a e kd k old n sv dv :=
 h.keep (h.pr.set3 _) ((ChT.refl (fun x=>x=w.heap.size+1) wr).set _ _ _ rfl)
theorem RSC.putSet(h:RSC w wr T a e kd k old size sv dv)(v:Value):RSC w (wr.setCell ⟨w.heap.size+1,4,none⟩ v) T a e kd k old size v dv :=
 h.keep (h.pr.set4 _) ((ChT.refl (fun x=>x=w.heap.size+1) wr).set _ _ _ rfl)
theorem RSC.putDig(h:RSC w wr T a e kd k old size sv dv)(v:Value):RSC w (wr.setCell ⟨w.heap.size+1,5,none⟩ v) T a e kd k old size sv v :=
 h.keep (h.pr.set5 _) ((ChT.refl (fun x=>x=w.heap.size+1) wr).set _ _ _ rfl)
end
def RdQ(w:World)(s:BA)(e:Ending)(w':World):Prop :=
 (∃(kd k old size:Int) (sa:OA) (sl sc:Nat) (da:OA) (dl dc:Nat),e = .returned (.tuple #[.agg #[.int .i64 kd,.int .i64 k,.int .u64 old,.int .u64 size,.slice sa sl sc,.slice da dl dc],.bool false])∧dec s.data.toList=none∧Below w.heap.size w w') ∨
 (∃Q sa sb sc da db dc,e = .returned (.tuple #[pvP Q sa sc da dc,.bool true])∧RdPC w' sa sb 0 sc da db 0 dc Q∧(Cv.Own w' w.heap.size (.slice sa Q.S.length sc) Q.S∧Qi w' w.heap.size (.slice da Q.D.length dc) Q.D)∧(∀P,dec s.data.toList=some P->Q=P)∧Below w.heap.size w w')
theorem Qh0{s:BA}{P:PV}(h:dec s.data.toList=some P) : ∃b0 b1:UInt8,s.data.toList=b0::b1::(num P.size++((if P.kd=3 then num P.old else if P.kd=2 then num P.S.length else [])++(Qj 0 P.S++Qu P.D)))∧P.kd=b0.toNat∧P.k=b1.toNat∧Yk P:=by
 obtain⟨hw,he,_⟩:=QgQ h;have ho:=Yh hw.1;rw[QgR ho] at he;have h1:=ho.kd1;have h3:=ho.kd3;have k1:=ho.k1;have k3:=ho.k32;refine⟨UInt8.ofNat P.kd.toNat,UInt8.ofNat P.k.toNat,?_,?_,?_,hw⟩
 ·rw[<-he,pre];simp[List.append_assoc]
 ·rw[QC (by omega)];omega
 ·rw[QC (by omega)];omega
section
open Cv (QI)
def Ag(s:BA)(y0 y1 z:Nat)(R:PV->Prop):Prop := ∀P,dec s.data.toList=some P->(P.kd=(y0:Int)∧P.k=(y1:Int)∧P.size=z∧Yk P)∧R P
def Sp1(s T:BA)(y0 y1 z a e:Nat):Prop:=Ag s y0 y1 z fun P=>e=0∧UF T a=(if P.kd=3 then num P.old else if P.kd=2 then num P.S.length else [])++(Qj 0 P.S++Qu P.D)
def SpA(s T:BA)(y0 y1 z old a e:Nat):Prop:=Ag s y0 y1 z fun P=>e=0∧P.old=old∧UF T a=(if P.kd=2 then num P.S.length else [])++(Qj 0 P.S++Qu P.D)
def SpB(s T:BA)(y0 y1 z old a e m:Nat):Prop:=Ag s y0 y1 z fun P=>e=0∧P.old=old∧P.S.length=m∧UF T a=Qj 0 P.S++Qu P.D
def SpC(s T:BA)(y0 y1 z old m a:Nat)(L:List Nat):Prop:=Ag s y0 y1 z fun P=>P.old=old∧P.S.length=m∧L=P.S.take L.length∧UF T a=Qj (nxt 0 L) (P.S.drop L.length)++Qu P.D
def SpD(s T:BA)(y0 y1 z old a:Nat)(L:List Nat)(D:LB):Prop:=Ag s y0 y1 z fun P=>P.old=old∧P.S=L∧D=P.D.take D.length∧UF T a=Qu (P.D.drop D.length)
variable {s T:BA} {y0 y1 z old a e m:Nat} {L:List Nat} {D:LB}
theorem Qc5{R:PV->Prop}(h:Ag s y0 y1 z R)(hn : ∀P,P.kd=(y0:Int)->P.k=(y1:Int)->Yk P->R P->False):dec s.data.toList=none:=by
 cases hd:dec s.data.toList with
 | none=>rfl
 | some P=>obtain⟨⟨h1,h2,h3,h4⟩,h5⟩:=h P hd;exact(hn P h1 h2 h4 h5).elim
theorem QiQ{b0 b1:UInt8}{l:List UInt8}(hl:s.data.toList=b0::b1::l)(hT:T.data.toList=l)(h0:b0.toNat=y0)(h1:b1.toNat=y1)(hr:rnb T 0 0=(a,e,z)):Sp1 s T y0 y1 z a e:=by
 intro P hP;obtain⟨c0,c1,hb,k0,k1,hw⟩:=Qh0 hP;rw[hl] at hb;injection hb with e0 hb
 injection hb with e1 hb
 subst e0 e1;have ho:=Yh hw.1;have i1:=ho.hsz;have hq:UF T 0=num P.size++((if P.kd=3 then num P.old else if P.kd=2 then num P.S.length else [])++(Qj 0 P.S++Qu P.D)):=by rw[UF,ND,hT,hb]
 obtain⟨r1,r2⟩:=Qa3 hq (by omega)
 rw[hr,Lm] at r1;rw[Lm] at r2;injection r1 with r3 r4
 injection r4 with r4 r5
 subst r3 r4 r5;exact⟨⟨by omega,by omega,rfl,hw⟩,rfl,r2⟩
theorem Qm7{a' e' n:Nat}(h:Sp1 s T y0 y1 z a 0)(hk:y0=3)(hr:rnb T a 0=(a',e',n)):SpA s T y0 y1 z n a' e':=by
 intro P hP;obtain⟨⟨h1,h2,h3,h4⟩,_,h5⟩:=h P hP;have ho:=Yh h4.1;have i1:=ho.hsz;have i2:=ho.hold;rw[Lk (by omega)] at h5
 obtain⟨r1,r2⟩:=Qa3 h5 (by omega)
 rw[hr] at r1;injection r1 with r3 r4
 injection r4 with r4 r5
 subst r3 r4 r5;exact⟨⟨h1,h2,h3,h4⟩,rfl,rfl,by rw[Le (by omega)];exact r2⟩
theorem QiR(h:Sp1 s T y0 y1 z a e)(hk:y0=3->e≠0):SpA s T y0 y1 z 0 a e:=by
 intro P hP;obtain⟨⟨h1,h2,h3,h4⟩,h6,h5⟩:=h P hP;have ho:=Yh h4.1;have i1:=ho.kd1;have i2:=ho.kd3;have i3:y0≠3:=fun h=>hk h h6
 rw[Le (by omega)] at h5
 refine⟨⟨h1,h2,h3,h4⟩,h6,?_,h5⟩
 rcases(show P.kd=1∨P.kd=2 by omega) with e|e
 ·exact(ho.one e).2
 ·exact ho.two e
theorem QiS{a' e' n:Nat}(h:SpA s T y0 y1 z old a 0)(hk:y0=2)(hr:rnb T a 0=(a',e',n)):SpB s T y0 y1 z old a' e' n:=by
 intro P hP;obtain⟨⟨h1,h2,h3,h4⟩,_,h6,h5⟩:=h P hP;have ho:=Yh h4.1;have i1:=ho.hsz;have i2:=ho.len;rw[Lk (by omega)] at h5
 obtain⟨r1,r2⟩:=Qa3 h5 (by omega)
 rw[hr] at r1;injection r1 with r3 r4
 injection r4 with r4 r5
 subst r3 r4 r5;exact⟨⟨h1,h2,h3,h4⟩,rfl,h6,rfl,r2⟩
theorem QiT(h:SpA s T y0 y1 z old a e)(hk:y0=2->e≠0)(hm:m=if y0=1 then 1 else 0):SpB s T y0 y1 z old a e m:=by
 intro P hP;obtain⟨⟨h1,h2,h3,h4⟩,h6,h7,h5⟩:=h P hP;have ho:=Yh h4.1;have i1:=ho.kd1;have i2:=ho.kd3;have i3:y0≠2:=fun h=>hk h h6
 rw[Le (by omega),Nd] at h5
 refine⟨⟨h1,h2,h3,h4⟩,h6,h7,?_,h5⟩
 rcases(show P.kd=1∨P.kd=3 by omega) with e|e
 ·rw[(ho.one e).1,hm,Lk (by omega)]
 ·rw[ho.three e,hm,Le (by omega)];rfl
theorem Qk3(h:SpB s T y0 y1 z old a e m)(hb:e≠0∨T.size - a<m):dec s.data.toList=none:=by
 refine Qc5 h ?_
 rintro P _ _ hw ⟨h1,_,h3,h4⟩;have:=Lw List.length h4;rw[JC,Lc] at this;have:=QcA P.S 0;omega
theorem QiU(h:SpB s T y0 y1 z old a 0 m):SpC s T y0 y1 z old m a []:=by
 intro P hP;obtain⟨h1,_,h3,h4,h5⟩:=h P hP;exact⟨h1,h3,h4,by simp,by simpa [nxt] using h5⟩
theorem Qkp{S:List Nat}{n j:Nat}(hc:QI 0 S n)(hj:j<S.length):nxt 0 (S.take j)<=S.getD j 0∧(0<j->0<nxt 0 (S.take j)):=by
 cases j with
 | zero=>simp[nxt]
 | succ j =>
  rw[YY (by omega),Ux]
  exact⟨(Cv.YQ hc (j+1) hj).2.2 j (by omega),fun _=>by omega⟩
theorem Qfd{P:PV}(hw:Yk P)(hm:P.S.length=m)(hL:L=P.S.take L.length)(hr:UF T a=Qj (nxt 0 L) (P.S.drop L.length)++Qu P.D)(hj:L.length<m) :
  rnb T a 0=(a+(num (P.S.getD L.length 0 - nxt 0 L)).length,0,P.S.getD L.length 0 - nxt 0 L)∧nxt 0 L<=P.S.getD L.length 0∧(0<L.length->0<nxt 0 L)∧P.S.getD L.length 0<1099511627776∧UF T (a+(num (P.S.getD L.length 0 - nxt 0 L)).length)=Qj (P.S.getD L.length 0+1) (P.S.drop (L.length+1))++Qu P.D:=by
 have ho:=Yh hw.1;have i1:=ho.hsz;have hd:=Cv.YQ ho.chain L.length (by omega)
 have hn:=Qkp ho.chain (j:=L.length) (by omega)
 rw[<-hL] at hn;have hs:P.S.drop L.length=P.S.getD L.length 0::P.S.drop (L.length+1):=by
  rw[LN (by omega),Ld,Lh (by omega)];rfl
 rw[hs,Qj,Lq] at hr;obtain⟨r1,r2⟩:=Qa3 hr (by omega)
 exact⟨r1,hn.1,hn.2,by omega,r2⟩
theorem Qb2{a' e' n:Nat}(h:SpC s T y0 y1 z old m a L)(hj:L.length<m)(hr:rnb T a 0=(a',e',n))(hb:e'≠0∨(0<L.length∧(1099511627776<=n∨1099511627776<=nxt 0 L - 1))):dec s.data.toList=none:=by
 refine Qc5 h ?_
 rintro P _ _ hw ⟨_,h3,h4,h5⟩;obtain⟨r1,r2,r3,r4,r5⟩:=Qfd hw h3 h4 h5 hj;rw[hr] at r1;injection r1 with r6 r7
 injection r7 with r7 r8
 omega
theorem Qfe{a' n x:Nat}(h:SpC s T y0 y1 z old m a L)(hj:L.length<m)(hr:rnb T a 0=(a',0,n))(hx:x=if L.length=0 then n else n+(nxt 0 L - 1)+1):SpC s T y0 y1 z old m a' (L++[x]):=by
 intro P hP;obtain⟨⟨h1,h2,h3,hw⟩,h4,h5,h6,h7⟩:=h P hP;obtain⟨r1,r2,r3,r4,r5⟩:=Qfd hw h5 h6 h7 hj;rw[hr] at r1;injection r1 with r6 r7
 injection r7 with r7 r8
 have xA:x=P.S.getD L.length 0:=by
  by_cases h0:L.length=0
  ·have:nxt 0 L=0:=by rw[List.length_eq_zero_iff.1 h0];rfl
   rw[Lk h0] at hx;omega
  ·have:=r3 (by omega);rw[Le h0] at hx;omega
 rw[<-r6] at r5;refine⟨⟨h1,h2,h3,hw⟩,h4,h5,?_,?_⟩
 ·rw[Lc,LF,YY (by omega),<-h6,xA]
 ·rw[Ux,Lc,LF,r5,xA]
theorem Qm8(h:SpC s T y0 y1 z old m a L)(hj:L.length=m):SpD s T y0 y1 z old a L []:=by
 intro P hP;obtain⟨h1,h4,h5,h6,h7⟩:=h P hP;refine⟨h1,h4,?_,by simp,?_⟩
 ·rw[h6,hj,<-h5,L9]
 ·rw[hj,<-h5,II] at h7;simpa [Qj] using h7
theorem Qbo{P:PV}(hw:Yk P)(hk:P.k=(y1:Int))(j:Nat):(Qu (P.D.drop j)).length=(P.D.length - j)*y1:=by
 rw[OH (k:=y1) (fun d hd=>by have:=hw.2 d (NY hd);omega),Nb]
theorem Qk4(h:SpD s T y0 y1 z old a L [])(hb:y1=0∨(T.size - a) % y1≠0):dec s.data.toList=none:=by
 refine Qc5 h ?_
 rintro P _ hk hw ⟨_,_,_,h4⟩;have:=Lw List.length h4;rw[JC,Qbo hw hk] at this;have ho:=Yh hw.1;have:=ho.k1
 rcases hb with hb|hb
 ·omega
 ·rw[‹T.size - a=_›] at hb;simp at hb
theorem Qk5{d:BA}(h:SpD s T y0 y1 z old a L D)(hk:0<y1)(hl:y1<=T.size - a)(hd:d=T.extract a (a+y1)):SpD s T y0 y1 z old (a+y1) L (D++[d]):=by
 intro P hP;obtain⟨⟨h1,h2,h3,hw⟩,h4,h5,h6,h7⟩:=h P hP;have xA:=Lw List.length h7;rw[JC,Qbo hw h2] at xA;have hj:D.length<P.D.length:=by
  rcases Ij D.length P.D.length with h|h
  ·exact h
  ·rw[Nat.sub_eq_zero_of_le h,Nat.zero_mul] at xA;omega
 have hs:P.D.drop D.length=P.D.getD D.length ByteArray.empty::P.D.drop (D.length+1):=by
  rw[LN hj,Ld,Lh hj];rfl
 rw[hs,YF] at h7;have hz:=hw.2 _ (Y7 hj);obtain⟨r1,r2⟩:=QmW (k:=y1) h7 (by omega)
 have xB:d=P.D.getD D.length ByteArray.empty:=by
  rw[rtk,Le (by simp),Le (by omega)] at r1
  injection r1 with _ r1
  injection r1 with _ r1
  rw[hd,<-r1];simp
 refine⟨⟨h1,h2,h3,hw⟩,h4,h5,?_,?_⟩
 ·rw[Lc,LF,Ja hj,<-h6,xB]
 ·rw[Lc,LF,r2]
theorem Qm9(h:SpD s T y0 y1 z old a L D)(hk:0<y1)(hl:T.size - a=0) : ∀P,dec s.data.toList=some P->(⟨y0,y1,old,z,L,D⟩:PV)=P:=by
 intro P hP;obtain⟨⟨h1,h2,h3,hw⟩,h4,h5,h6,h7⟩:=h P hP;have xA:=Lw List.length h7;rw[JC,Qbo hw h2,hl] at xA;have hj:P.D.length<=D.length:=by
  rcases Nat.mul_eq_zero.1 xA.symm with h|h
  ·omega
  ·omega
 obtain⟨kd,k,xB,xC,S,D'⟩:=P;simp only at h1 h2 h3 h4 h5 h6 hj;subst h1 h2 h3 h4 h5;rw[Lo hj] at h6;rw[h6]
theorem RSC.low{w wr W:World}{kd k:Int}{old size:Nat}{sv dv:Value}(h:RSC w wr T a e kd k old size sv dv)(hb:Below (w.heap.size+3) wr W):RSC w W T a e kd k old size sv dv :=
 ⟨h.res.same (hb.block _ (by omega)),h.pr.same (hb.block _ (by omega)),h.rd.same (hb.block _ (by omega)),h.below.trans (hb.mono (by omega))⟩
structure R2(w wr:World)(T:BA)(a y0 y1 old size:Nat)(sv dv:Value)(L:List Nat)(D:LB):Prop where
 rs:RSC w wr T a 0 (y0:Int) (y1:Int) old size sv dv
 os:Cv.Own wr (w.heap.size+3) sv L
 od:Qi wr (w.heap.size+3) dv D
 sz:w.heap.size+3<=wr.heap.size
section
variable {w wr W:World} {size:Nat} {sv dv:Value}
theorem R2.same(h:R2 w wr T a y0 y1 old size sv dv L D){a':Nat}(hr:RSC w W T a' 0 (y0:Int) (y1:Int) old size sv dv)(hb : ∀b,w.heap.size+3<=b->b<wr.heap.size->W.heap[b]? = wr.heap[b]?)(hz:wr.heap.size<=W.heap.size):R2 w W T a' y0 y1 old size sv dv L D :=
 ⟨hr,QZ h.os (fun g hg hB=>hb g hB (h.os.lt g hg).2),QZ h.od (fun g hg hB=>hb g hB (h.od.lt g hg).2),Lu h.sz hz⟩
theorem R2.next(h:R2 w wr T a y0 y1 old size sv dv L D)(hb:Below wr.heap.size wr W):R2 w W T a y0 y1 old size sv dv L D :=
 h.same (h.rs.next hb) (fun b _ hb'=>hb.block b hb') hb.size
theorem R2.put(h:R2 w wr T a y0 y1 old size sv dv L D)(a':Nat):R2 w (put3 wr (w.heap.size+2) T a' 0) T a' y0 y1 old size sv dv L D:=by
 have hc:=Qhf wr (w.heap.size+2) T a' 0;exact h.same (h.rs.put a' 0) (fun b hb _=>hc.block b (by show ¬_=_;omega)) (N9 hc.size.symm)
theorem QcQ{w w':World}{B T s n B' T' s' n':Nat}{x y:Value}{cs cs':List Value}(h:w.ownsRow B T s x n cs)(h2:w.ownsRow B' T' s' y n' cs')(hT:T≠T')(hg:w.grownBy w' y.ownBlock):w'.ownsRow B T s x n cs:=by
 refine QZ h fun g hgx _=>hg.block g (h.lt g hgx).2 ?_
 intro e;obtain⟨_,r1⟩:=h;obtain⟨_,r2⟩:=h2
 rcases r1 with ⟨rfl,_⟩|⟨g1,cap1,cur1,rfl,_,hh1,_⟩
 ·cases hgx
 rcases r2 with ⟨rfl,_⟩|⟨g2,cap2,cur2,rfl,_,hh2,_⟩
 ·cases e
 cases hgx;injection e with e
 subst e;rw[hh1] at hh2;injection hh2 with hh2
 injection hh2 with _ e2 _
 exact hT e2
theorem R2.addS(h:R2 w wr T a y0 y1 old size sv dv L D){x:Nat}{o:Obj}{w3:World}{v':Value}(hg:(wr.alloc o).grownBy w3 sv.ownBlock)(ho:w3.ownsRow (w.heap.size+3) 48 1 v' (L.length+1) ((L++[x]).map fun x:Nat=>Value.int .u64 (x:Int))):R2 w (w3.setCell ⟨w.heap.size+1,4,none⟩ v') T a y0 y1 old size v' dv (L++[x]) D:=by
 have hA:=h.next (bal (Lb _ _) o);have hb:Below (w.heap.size+3) (wr.alloc o) w3:=(Lb _ _).grown hg hA.sz (fun k hk=>(hA.os.lt k hk).1)
 have r3:=hA.rs.low hb;have d3:Qi w3 (w.heap.size+3) dv D:=QcQ hA.od hA.os (by decide) hg
 have hc:=(ChT.refl (fun x=>x=w.heap.size+1) w3).set (w.heap.size+1) 4 v' rfl
 have hq : ∀b,w.heap.size+3<=b->(w3.setCell ⟨w.heap.size+1,4,none⟩ v').heap[b]? = w3.heap[b]? := fun b hb=>hc.block b (by show ¬_=_;omega)
 refine⟨r3.putSet v',?_,QZ d3 (fun g _ hB=>hq g hB),?_⟩
 ·have:=QZ ho (fun g _ hB=>hq g hB)
  rw[Cv.Own,Lc,LF];exact this
 ·rw[hc.size];exact Lu hA.sz hb.size
theorem R2.addD(h:R2 w wr T a y0 y1 old size sv dv L D){x:BA}{o:Obj}{w3:World}{v':Value}(hg:(wr.alloc o).grownBy w3 dv.ownBlock)(ho:w3.ownsRow (w.heap.size+3) 9 1 v' (D.length+1) ((D++[x]).map Value.string)):R2 w (w3.setCell ⟨w.heap.size+1,5,none⟩ v') T a y0 y1 old size sv v' L (D++[x]):=by
 have hA:=h.next (bal (Lb _ _) o);have hb:Below (w.heap.size+3) (wr.alloc o) w3:=(Lb _ _).grown hg hA.sz (fun k hk=>(hA.od.lt k hk).1)
 have r3:=hA.rs.low hb;have d3:Cv.Own w3 (w.heap.size+3) sv L:=QcQ hA.os hA.od (by decide) hg
 have hc:=(ChT.refl (fun x=>x=w.heap.size+1) w3).set (w.heap.size+1) 5 v' rfl
 have hq : ∀b,w.heap.size+3<=b->(w3.setCell ⟨w.heap.size+1,5,none⟩ v').heap[b]? = w3.heap[b]? := fun b hb=>hc.block b (by show ¬_=_;omega)
 refine⟨r3.putDig v',QZ d3 (fun g _ hB=>hq g hB),?_,?_⟩
 ·have:=QZ ho (fun g _ hB=>hq g hB)
  rw[Qi,Lc,LF];exact this
 ·rw[hc.size];exact Lu hA.sz hb.size
theorem R2.no(h:RSC w wr T a e (y0:Int) (y1:Int) old size sv dv){W:World}(hc:ChT (fun x=>x=w.heap.size) wr W):Below w.heap.size w W:=h.below.trans (hc.below (by rintro b rfl;exact La _))
theorem R2.yes(h:R2 w wr T a y0 y1 old size sv dv L D){W:World}(hc:ChT (fun x=>x=w.heap.size) wr W)(h1:old<18446744073709551616)(h2:size<18446744073709551616)(h3:L.length<=8796093021952)(h4:D.length<=8796093021952)(h5 : ∀d∈D,d.size<=9223372036854775807) :
  ∃sa sb sc da db dc,sv = .slice sa L.length sc∧dv = .slice da D.length dc∧RdPC W sa sb 0 sc da db 0 dc ⟨y0,y1,old,size,L,D⟩∧(Cv.Own W w.heap.size (.slice sa L.length sc) L∧Qi W w.heap.size (.slice da D.length dc) D)∧Below w.heap.size w W:=by
 have hq : ∀b,w.heap.size+3<=b->W.heap[b]? = wr.heap[b]? := fun b hb=>hc.block b (by show ¬_=_;omega)
 have o1:Cv.Own W (w.heap.size+3) sv L:=QZ h.os (fun g _ hB=>hq g hB)
 have o2:Qi W (w.heap.size+3) dv D:=QZ h.od (fun g _ hB=>hq g hB)
 obtain⟨sa,sb,sc,rfl,r1,_⟩:=Jx o1;obtain⟨da,db,dc,rfl,r2,r3,_⟩:=QR o2 h5;exact⟨sa,sb,sc,da,db,dc,rfl,rfl,⟨r1,r2,h1,h2,by show L.length<=_;omega,by show D.length<=_;omega,r3⟩,⟨World.ownsRow.mono o1 (by omega),World.ownsRow.mono o2 (by omega)⟩,R2.no h.rs hc⟩
theorem QkI(h:RSC w wr T a 0 (y0:Int) (y1:Int) old size (.slice none 0 0) (.slice none 0 0)):R2 w wr T a y0 y1 old size (.slice none 0 0) (.slice none 0 0) [] [] :=
 ⟨h,Nh _ _ _ _,YK _ _,h.rd.lt⟩
end
end
end Go.Proofs.YtoblgjledefdbaaGreatDoor
/- Own work. -/
set_option maxRecDepth 100000
set_option maxHeartbeats 32000000
namespace Go.Proofs.YtoblgjledefdbaaGreatDoor
open Go.RowKit
attribute [local go_sem ↓] Go.wp_at_zero Go.wp_at_succ
open Go.Proofs.Tryz
theorem QiH(s:BA)(hs:s.size<=8796093021952)(w:World):Calls prog 113 #[.string s] w (RdQ w s):=by
 obtain⟨W0,xK⟩:=Ze ((w.alloc (.cells #[.int .i64 0,.int .i64 0,.int .u64 0,.int .u64 0,.slice none 0 0,.slice none 0 0] 138)).alloc (.cells #[.int .i64 0,.int .i64 0,.int .u64 0,.int .u64 0,.slice none 0 0,.slice none 0 0] 138));have hb:Below w.heap.size w W0:=by rw[<-xK];exact bal (bal (Lb _ _) _) _
 have h6:Six W0 w.heap.size (.int .i64 0) (.int .i64 0) (.int .u64 0) (.int .u64 0) (.slice none 0 0) (.slice none 0 0):=by rw[<-xK];exact(Qaa w _ _ _ _ _ _).next (bal (Lb _ _) _)
 have h7:Six W0 (w.heap.size+1) (.int .i64 0) (.int .i64 0) (.int .u64 0) (.int .u64 0) (.slice none 0 0) (.slice none 0 0):=by
  rw[<-xK];have:=Qaa (w.alloc (.cells #[.int .i64 0,.int .i64 0,.int .u64 0,.int .u64 0,.slice none 0 0,.slice none 0 0] 138)) (.int .i64 0) (.int .i64 0) (.int .u64 0) (.int .u64 0) (.slice none 0 0) (.slice none 0 0)
  rwa [NQ] at this
 have hz:W0.heap.size=w.heap.size+2:=by rw[<-xK];simp
 obtain⟨c0,c1,c2,c3,c4,c5⟩:=h6.cells;obtain⟨d0,d1,d2,d3,d4,d5⟩:=h7.cells;have f6:=h6.fz;have f7:=h7.fz;have kX:(s.size:Int)<=8796093021952:=by omega
 by_cases h2:s.size<2
 ·have zL:(s.size:Int)<2:=by omega
  have hn:dec s.data.toList=none:=by
   have hl:=Qb s
   match hm:s.data.toList with
   | []=>rfl
   | [_]=>rfl
   | a::b::l=>rw[hm] at hl;simp at hl;omega
  have hp:=h6.put (.int .i64 0) (.int .i64 0) (.int .u64 0) (.int .u64 0) (.slice none 0 0) (.slice none 0 0);have hc:=Yy W0 w.heap.size (.int .i64 0) (.int .i64 0) (.int .u64 0) (.int .u64 0) (.slice none 0 0) (.slice none 0 0);unfold Jy at hp hc;have HN:=Qg hn;have HB:=Qg hb;clear h6 h7 hb hz h2 hn
  go_enter func113,ntmps113
  go_upto_region 2 with (fail)
  try rw[xK]
  clear xK;go_wp2;obtain⟨s0,s1,s2,s3,s4,s5⟩:=hp.cells;refine Lv (v := .tuple #[.agg #[.int .i64 0,.int .i64 0,.int .u64 0,.int .u64 0,.slice none 0 0,.slice none 0 0],.bool false]) (by simp[results,results113,go_sem,s0,s1,s2,s3,s4,s5]) rfl ?_
  exact .inl ⟨0,0,0,0,none,0,0,none,0,0,rfl,HN.out,HB.out.trans (hc.below (by rintro b rfl;omega))⟩
 ·have zL : ¬(s.size:Int)<2:=by omega
  obtain⟨b0,b1,l,hl⟩ : ∃b0 b1 l,s.data.toList=b0::b1::l:=by
   have hl:=Qb s
   match hm:s.data.toList with
   | []=>rw[hm] at hl;simp at hl;omega
   | [_]=>rw[hm] at hl;simp at hl;omega
   | a::b::l=>exact⟨a,b,l,rfl⟩
  go_enter func113,ntmps113
  go_upto_region 2 with (fail)
  try rw[xK]
  clear xK
  go_upto_region 6 with (fail)
  have zB:(s[0]'(by omega)).toNat=b0.toNat:=by
   have:s[0]'(by omega)=s.data.toList[0]'(by rw[Qb];omega):=by simp[ByteArray.getElem_eq_getElem_data]
   rw[this];simp[hl]
  have zC:(s[1]'(by omega)).toNat=b1.toNat:=by
   have:s[1]'(by omega)=s.data.toList[1]'(by rw[Qb];omega):=by simp[ByteArray.getElem_eq_getElem_data]
   rw[this];simp[hl]
  obtain⟨y0,zD⟩:=Ze b0.toNat;obtain⟨y1,xS⟩:=Ze b1.toNat;rw[zD] at zB;rw[xS] at zC;have kC:wrap64 (y0:Int)=(y0:Int):=by have:=b0.toNat_lt;unfold wrap64;omega
  have kD:wrap64 (y1:Int)=(y1:Int):=by have:=b1.toNat_lt;unfold wrap64;omega
  rw[zB,zC,kC,kD];have yB:=Qg (L6 zD xS);clear kC kD zB zC zD xS;have g7:=(h7.set0 (.int .i64 (y0:Int))).set1 (.int .i64 (y1:Int));have gc:=((ChT.refl (fun x=>x=w.heap.size+1) W0).set (w.heap.size+1) 0 (.int .i64 (y0:Int)) rfl).set (w.heap.size+1) 1 (.int .i64 (y1:Int)) rfl
  obtain⟨W2,yP⟩:=Ze ((W0.setCell ⟨w.heap.size+1,0,none⟩ (.int .i64 (y0:Int))).setCell ⟨w.heap.size+1,1,none⟩ (.int .i64 (y1:Int)));rw[yP] at g7 gc;rw[yP];have g6:=h6.same (gc.block _ (by show ¬_=_;omega))
  have gb:Below w.heap.size w W2:=hb.trans (gc.below (by rintro b rfl;omega))
  have gz:W2.heap.size=w.heap.size+2:=by rw[gc.size,hz]
  obtain⟨T,hT⟩:=Ze (s.extract 2 s.size);have yO:T.data.toList=l:=by
   rw[<-hT,Nz,Ie,NV,hl];simp[<-Qb,hl]
  have kO:T.size=s.size - 2:=by rw[<-Qb,yO,<-Qb,hl];simp
  have kG:RSC w (W2.alloc (.cells #[.string T,.int .i64 ((0:Nat):Int),.int .i64 ((0:Nat):Int)] 256)) T 0 0 y0 y1 0 0 (.slice none 0 0) (.slice none 0 0):=by
   have yR:=bal (Lb W2.heap.size W2) (.cells #[.string T,.int .i64 ((0:Nat):Int),.int .i64 ((0:Nat):Int)] 256);refine⟨g6.next yR,g7.next yR,?_,Qa gb yR⟩
   have:=Qnq W2 T 0 0
   rwa [gz] at this
  clear yP g6 g7 gc gb h6 h7 hb c0 c1 c2 c3 c4 c5 d0 d1 d2 d3 d4 d5 f6 f7
  go_upto_region 7 with (fail)
  obtain⟨W3,yQ⟩:=Ze (W2.alloc (.cells #[.string T,.int .i64 0,.int .i64 0] 256));have zE:RSC w W3 T 0 0 y0 y1 0 0 (.slice none 0 0) (.slice none 0 0):=by rw[<-yQ];exact kG
  rw[yQ];clear yQ kG;have zI:Hid (∀F,Below W3.heap.size W3 F->RSC w F T 0 0 y0 y1 0 0 (.slice none 0 0) (.slice none 0 0)):=fun F hF=>zE.next hF
  obtain⟨a1,e1,z1,yF⟩ : ∃a1 e1 z1,rnb T 0 0=(a1,e1,z1):=⟨_,_,_,rfl⟩;have xC:=Qa1 T 0 0 (Ll _);rw[yF] at xC;have xA:Calls prog 191 #[.agg #[.string T,.int .i64 0,.int .i64 0]] W3 fun x w'=>x = .returned (.tuple #[.agg #[.string T,.int .i64 (a1:Int),.int .i64 (e1:Int)],.int .u64 (z1:Int),.int .i64 (e1:Int)])∧Below W3.heap.size W3 w':=by
   have:=Uz W3 T 0 0 (Ll _) (by omega)
   rw[yF] at this;exact this
  obtain⟨k0,k1,k2⟩:=zE.rd.cells;have xQ:=Qg (L6 yF xC);clear zE yF xC
  go_upto_region 8 with (go_at_call 191;with_reducible refine xA.mono ?_;rintro x w4 ⟨rfl,zQ⟩;(have r4:=zI.out _ zQ);(obtain⟨n0,n1,n2⟩:=r4.rd.cells);(have nf:=r4.rd.fz))
  have r5:=r4.put a1 e1;unfold put3 at r5;obtain⟨w5,yZ⟩:=Ze (((w4.setCell ⟨w.heap.size+2,0,none⟩ (.string T)).setCell ⟨w.heap.size+2,1,none⟩ (.int .i64 (a1:Int))).setCell ⟨w.heap.size+2,2,none⟩ (.int .i64 (e1:Int)));rw[yZ] at r5;rw[yZ];obtain⟨p0,p1,p2,p3,p4,p5⟩:=r5.pr.cells;have pf:=r5.pr.fz;clear yZ r4 n0 n1 n2 nf k0 k1 k2 xA zI zQ
  go_upto_region 10 with (fail)
  have r6:=r5.putSize z1;obtain⟨w7,zA⟩:=Ze (w5.setCell ⟨w.heap.size+1,3,none⟩ (.int .u64 (z1:Int)));rw[zA] at r6;rw[zA];clear zA p0 p1 p2 p3 p4 p5 pf r5;obtain⟨p0,p1,p2,p3,p4,p5⟩:=r6.pr.cells;have pf:=r6.pr.fz;obtain⟨k0,k1,k2⟩:=r6.rd.cells;have yE:Hid (∀F,Below w7.heap.size w7 F->RSC w F T a1 e1 y0 y1 0 z1 (.slice none 0 0) (.slice none 0 0)):=fun F hF=>r6.next hF
  obtain⟨a2,e2,z2,yG⟩ : ∃a2 e2 z2,rnb T a1 e1=(a2,e2,z2):=⟨_,_,_,rfl⟩;have xC:=Qa1 T a1 e1 xQ.out.2.1;rw[yG] at xC;have xA:Calls prog 191 #[.agg #[.string T,.int .i64 (a1:Int),.int .i64 (e1:Int)]] w7 fun x w'=>x = .returned (.tuple #[.agg #[.string T,.int .i64 (a2:Int),.int .i64 (e2:Int)],.int .u64 (z2:Int),.int .i64 (e2:Int)])∧Below w7.heap.size w7 w':=by
   have:=Uz w7 T a1 e1 xQ.out.2.1 (by omega)
   rw[yG] at this;exact this
  have xT:=Qg (L6 yG xC);have R6:=Qg r6;clear yG xC r6;have yD:Hid (Sp1 s T y0 y1 z1 a1 e1):=QiQ hl yO yB.out.1 yB.out.2 xQ.out.1;have HY:Hid (y1<256∧z1<18446744073709551616∧T.size<=8796093021952∧a1<=T.size):=⟨by rw[<-yB.out.2];exact b1.toNat_lt,xQ.out.2.2,by omega,xQ.out.2.1⟩
  clear hl yO kO yB xQ hT hz h2 zL hs kX
  go_cut [42] from 36 to 41 (fun c wx=>c = .bool (decide (y0=3∧e1=0))∧w7=wx)
  case first =>
   clear xA yE R6 yD xT HY
   by_cases hk:y0=3
   ·subst hk;have p0:w7.cell? ⟨w.heap.size+1,0,none⟩=some (.int .i64 3):=p0
    by_cases he:e1=0
    ·subst he;go_wp2
     go_meet
     case rel=>exact⟨rfl,rfl⟩
    ·have xR:((e1:Int) == 0)=false:=beq_eq_false_iff_ne.2 (by omega)
     have HD:Hid (decide (3=3∧e1=0)=false):=Ls (by omega)
     clear he;go_wp2
     go_meet
     case rel=>exact⟨by rw[HD.out],rfl⟩
   ·have xR:((y0:Int) == 3)=false:=beq_eq_false_iff_ne.2 (by omega)
    have HD:Hid (decide (y0=3∧e1=0)=false):=Ls (by omega)
    clear hk;go_wp2
    go_meet
    case rel=>exact⟨by rw[HD.out],rfl⟩
  case rest =>
   obtain⟨rfl,rfl⟩:=hcut
   go_upto_if 42 with (fail)
   go_cut [7] from 42 to 49 (fun ev wx => ∃a e old:Nat,ev = .int .i64 (e:Int)∧RSC w wx T a e (y0:Int) (y1:Int) old z1 (.slice none 0 0) (.slice none 0 0)∧a<=T.size∧old<18446744073709551616∧SpA s T y0 y1 z1 old a e)
   case first =>
    by_cases hk:y0=3∧e1=0
    ·obtain⟨rfl,rfl⟩:=hk;rw[LA (⟨rfl,rfl⟩:3=3∧0=0)];have xA:Calls prog 191 #[.agg #[.string T,.int .i64 (a1:Int),.int .i64 0]] w7 fun x w'=>x = .returned (.tuple #[.agg #[.string T,.int .i64 (a2:Int),.int .i64 (e2:Int)],.int .u64 (z2:Int),.int .i64 (e2:Int)])∧Below w7.heap.size w7 w':=xA
     have k2:w7.cell? ⟨w.heap.size+2,2,none⟩=some (.int .i64 0):=k2;clear R6
     go_wp2_with (go_at_call 191;with_reducible refine xA.mono ?_;rintro x w8 ⟨rfl,xH⟩;(have r8:=yE.out _ xH);(obtain⟨n0,n1,n2⟩:=r8.rd.cells);(have nf:=r8.rd.fz);(obtain⟨pF,pG,pH,pI,pJ,pK⟩:=r8.pr.cells);(have pL:=r8.pr.fz))
     go_meet
     case rel=>go_light;have r9:=(r8.put a2 e2).putOld z2;unfold put3 at r9;exact⟨a2,e2,z2,rfl,r9,xT.out.2.1,xT.out.2.2,Qm7 yD.out rfl xT.out.1⟩
    ·rw[Ls hk];have HK:=Qg hk;clear hk xA yE p0 p1 p2 p3 p4 p5 pf k0 k1 k2;go_wp2
     go_meet
     case rel=>go_light;exact⟨a1,e1,0,rfl,R6.out,HY.out.2.2.2,by decide,QiR yD.out (fun h h'=>HK.out ⟨h,h'⟩)⟩
   case rest =>
    obtain⟨a3,e3,old,rfl,r9,b9,bo,sA⟩:=hcut;obtain⟨w9,rfl⟩ : ∃w9,w9=wc:=⟨_,rfl⟩;have HA:=Qg (L6 b9 (L6 bo sA));clear xA yE p0 p1 p2 p3 p4 p5 pf k0 k1 k2 yD xT R6 b9 bo sA;obtain⟨p0,p1,p2,p3,p4,p5⟩:=r9.pr.cells;obtain⟨k0,k1,k2⟩:=r9.rd.cells;have xV:Hid (∀F,Below w9.heap.size w9 F->RSC w F T a3 e3 y0 y1 old z1 (.slice none 0 0) (.slice none 0 0)):=fun F hF=>r9.next hF
    have R9:=Qg r9;clear r9
    go_upto_if 52 with (fail)
    go_cut [8] from 50 to 52 (fun mv wx=>mv = .int .u64 (((if y0=1 then 1 else 0:Nat)):Int)∧w9=wx)
    case first =>
     clear xV R9 HA k0 k1 k2 p0 p1 p2 p3 p4 p5
     by_cases hk:y0=1
     ·subst hk;go_wp2
      go_meet
      case rel=>exact⟨rfl,rfl⟩
     ·have xR:((y0:Int) == 1)=false:=beq_eq_false_iff_ne.2 (by omega)
      have HD:=Qg hk;clear hk;go_wp2
      go_meet
      case rel=>exact⟨by rw[Le HD.out];rfl,rfl⟩
    case rest =>
     obtain⟨rfl,rfl⟩:=hcut;obtain⟨m0,yX⟩ : ∃m0:Nat,(if y0=1 then 1 else 0)=m0:=⟨_,rfl⟩
     rw[yX];have yC:=Qg yX;clear yX
     go_upto_region 14 with (fail)
     go_cut [59] from 53 to 58 (fun c wx=>c = .bool (decide (y0=2∧e3=0))∧w9=wx)
     case first =>
      clear xV R9 HA yC
      by_cases hk:y0=2
      ·subst hk;have p0:w9.cell? ⟨w.heap.size+1,0,none⟩=some (.int .i64 2):=p0
       by_cases he:e3=0
       ·subst he;go_wp2
        go_meet
        case rel=>exact⟨rfl,rfl⟩
       ·have xR:((e3:Int) == 0)=false:=beq_eq_false_iff_ne.2 (by omega)
        have HD:Hid (decide (2=2∧e3=0)=false):=Ls (by omega)
        clear he;go_wp2
        go_meet
        case rel=>exact⟨by rw[HD.out],rfl⟩
      ·have xR:((y0:Int) == 2)=false:=beq_eq_false_iff_ne.2 (by omega)
       have HD:Hid (decide (y0=2∧e3=0)=false):=Ls (by omega)
       clear hk;go_wp2
       go_meet
       case rel=>exact⟨by rw[HD.out],rfl⟩
     case rest =>
      obtain⟨rfl,rfl⟩:=hcut
      go_upto_if 59 with (fail)
      go_cut [7,8] from 59 to 65 (fun ev mv wx => ∃a e m:Nat,ev = .int .i64 (e:Int)∧mv = .int .u64 (m:Int)∧RSC w wx T a e (y0:Int) (y1:Int) old z1 (.slice none 0 0) (.slice none 0 0)∧a<=T.size∧m<18446744073709551616∧SpB s T y0 y1 z1 old a e m)
      case first =>
       by_cases hk:y0=2∧e3=0
       ·obtain⟨rfl,rfl⟩:=hk;rw[LA (⟨rfl,rfl⟩:2=2∧0=0)];obtain⟨a4,e4,z4,yH⟩ : ∃a' e' n',rnb T a3 0=(a',e',n'):=⟨_,_,_,rfl⟩;have xC:=Qa1 T a3 0 HA.out.1;rw[yH] at xC;have xA:Calls prog 191 #[.agg #[.string T,.int .i64 (a3:Int),.int .i64 0]] w9 fun x w'=>x = .returned (.tuple #[.agg #[.string T,.int .i64 (a4:Int),.int .i64 (e4:Int)],.int .u64 (z4:Int),.int .i64 (e4:Int)])∧Below w9.heap.size w9 w':=by
         have:=Uz w9 T a3 0 HA.out.1 (by have:=HY.out.2.2.1;omega)
         rw[yH] at this;exact this
        have k2:w9.cell? ⟨w.heap.size+2,2,none⟩=some (.int .i64 0):=k2;have yM:=Qg (L6 yH xC);clear R9 yH xC
        go_wp2_with (go_at_call 191;with_reducible refine xA.mono ?_;rintro x w8 ⟨rfl,xH⟩;(have r8:=xV.out _ xH);(obtain⟨n0,n1,n2⟩:=r8.rd.cells);(have nf:=r8.rd.fz))
        go_meet
        case rel=>go_light;have r9:=r8.put a4 e4;unfold put3 at r9;exact⟨a4,e4,z4,rfl,rfl,r9,yM.out.2.1,yM.out.2.2,QiS HA.out.2.2 rfl yM.out.1⟩
       ·rw[Ls hk];have HK:=Qg hk;clear hk xV p0 p1 p2 p3 p4 p5 k0 k1 k2;go_wp2
        go_meet
        case rel=>go_light;exact⟨a3,e3,m0,rfl,rfl,R9.out,HA.out.1,by rw[<-yC.out];split <;> decide,QiT HA.out.2.2 (fun h h'=>HK.out ⟨h,h'⟩) yC.out.symm⟩
      case rest =>
       obtain⟨a5,e5,m,rfl,rfl,yI,zK,bm,sB⟩:=hcut;obtain⟨xJ,rfl⟩ : ∃xJ,xJ=wc:=⟨_,rfl⟩;have xN:=Qg (L6 zK (L6 bm (L6 HA.out.2.1 sB)));clear xV R9 p0 p1 p2 p3 p4 p5 k0 k1 k2 HA yC zK bm sB;obtain⟨k0,k1,k2⟩:=yI.rd.cells;have xI:Hid (∀F,Below xJ.heap.size xJ F->RSC w F T a5 e5 y0 y1 old z1 (.slice none 0 0) (.slice none 0 0)):=fun F hF=>yI.next hF
       have zJ:=Qg yI;clear yI
       go_upto_region 16 with (fail)
       go_cut [74] from 66 to 73 (fun c wx=>c = .bool (decide (e5≠0∨T.size - a5<m))∧RSC w wx T a5 e5 y0 y1 old z1 (.slice none 0 0) (.slice none 0 0))
       case first =>
        by_cases he:e5=0
        ·subst he;have k2:xJ.cell? ⟨w.heap.size+2,2,none⟩=some (.int .i64 0):=k2;obtain⟨lf,xD⟩:=Ze (T.size - a5);have HL:Calls prog 192 #[.agg #[.string T,.int .i64 (a5:Int),.int .i64 0]] xJ fun x w'=>x = .returned (.int .i64 (lf:Int))∧Below xJ.heap.size xJ w':=JA xJ T a5 0 lf xN.out.1 (by rw[Lk rfl,xD]) (by have:=HY.out.2.2.1;omega)
         have hw:IntKind.u64.wrap (lf:Int)=(lf:Int):=by have:=HY.out.2.2.1;rw[IntKind.wrap_u64];omega
         have xF:=Qg xD;clear xD
         by_cases hm:lf<m
         ·have kS:(lf:Int)<(m:Int):=by omega
          have HM:=Qg hm;clear hm
          go_wp2_with (go_at_call 192;with_reducible refine HL.mono ?_;rintro x w8 ⟨rfl,xH⟩)
          go_meet
          case rel=>exact⟨Lw Value.bool (LA (.inr (by rw[xF.out];exact HM.out))).symm,xI.out _ xH⟩
         ·have kS : ¬(lf:Int)<(m:Int):=by omega
          have HM:=Qg hm;clear hm
          go_wp2_with (go_at_call 192;with_reducible refine HL.mono ?_;rintro x w8 ⟨rfl,xH⟩)
          go_meet
          case rel=>exact⟨Lw Value.bool (by rw[xF.out];exact decide_eq_decide.2 (by omega)),xI.out _ xH⟩
        ·have xR:((e5:Int) == 0)=false:=beq_eq_false_iff_ne.2 (by omega)
         have kP:((e5:Int) != 0)=true:=by simp;omega
         have HM:=Qg he;clear he xI;go_wp2
         go_meet
         case rel=>exact⟨Lw Value.bool (LA (.inl HM.out)).symm,zJ.out⟩
       case rest =>
        obtain⟨rfl,xL⟩:=hcut;obtain⟨yJ,rfl⟩ : ∃yJ,yJ=wc:=⟨_,rfl⟩;clear xI zJ k0 k1 k2
        go_upto_if 74 with (fail)
        by_cases hbad:e5≠0∨T.size - a5<m
        ·rw[LA hbad];have hp:=xL.res.put (.int .i64 (y0:Int)) (.int .i64 (y1:Int)) (.int .u64 (old:Int)) (.int .u64 (z1:Int)) (.slice none 0 0) (.slice none 0 0);have hc:=Yy yJ w.heap.size (.int .i64 (y0:Int)) (.int .i64 (y1:Int)) (.int .u64 (old:Int)) (.int .u64 (z1:Int)) (.slice none 0 0) (.slice none 0 0);have HB:=Qg (R2.no xL hc);unfold Jy at hp HB;have HP:=Qg hp;clear hp;have HN:=Qg (Qk3 xN.out.2.2.2 hbad);obtain⟨p0,p1,p2,p3,p4,p5⟩:=xL.pr.cells;obtain⟨q0,q1,q2,q3,q4,q5⟩:=xL.res.cells;have qf:=xL.res.fz;clear hc xL hbad xN HY
         repeat go_step
         obtain⟨s0,s1,s2,s3,s4,s5⟩:=HP.out.cells;refine Lv (v := .tuple #[.agg #[.int .i64 (y0:Int),.int .i64 (y1:Int),.int .u64 (old:Int),.int .u64 (z1:Int),(.slice none 0 0),(.slice none 0 0)],.bool false]) (by simp[results,results113,go_sem,s0,s1,s2,s3,s4,s5]) rfl ?_
         exact .inl ⟨_,_,_,_,_,_,_,_,_,_,rfl,HN.out,HB.out⟩
        obtain rfl:e5=0:=by omega
        rw[Ls hbad];have xG:Hid (R2 w yJ T a5 y0 y1 old z1 (.slice none 0 0) (.slice none 0 0) [] []∧a5<=T.size∧m<=T.size∧SpC s T y0 y1 z1 old m a5 []):=⟨QkI xL,xN.out.1,by omega,QiU xN.out.2.2.2⟩
        have HO:Hid (old<18446744073709551616):=xN.out.2.2.1;have kT:m<=8796093021952:=by have:=HY.out.2.2.1;omega
        clear hbad xN xL;obtain⟨i0,zR,zS,zT,zU⟩:=Qn8;obtain⟨j0,zV,zW,zX,zY⟩:=info_parts Tryz.infoS;have HI:Hid (prog.info? 48=some i0∧i0.zero=some (.int .u64 0)∧i0.size=1∧i0.bytes=8):=⟨zR,zS,zT,zU⟩;have HJ:Hid (prog.info? 9=some j0∧j0.zero=some (.string ByteArray.empty)∧j0.size=1∧j0.bytes=16):=⟨zV,zW,zX,zY⟩;clear zR zS zT zU zV zW zX zY;go_wp2
        go_loopg [7,9,10,11] m (fun g ev lv iv nv wr => ∃(L:List Nat) (a:Nat) (sv:Value),g=m - L.length∧ev = .int .i64 0∧lv = .int .u64 ((nxt 0 L - 1:Nat):Int)∧iv = .int .u64 (L.length:Int)∧L.length<=m∧a<=T.size∧nxt 0 L - 1<18446744073709551616∧R2 w wr T a y0 y1 old z1 sv (.slice none 0 0) L []∧SpC s T y0 y1 z1 old m a L)
        case atStart=>go_light;exact⟨[],a5,.slice none 0 0,rfl,rfl,rfl,rfl,Ll _,xG.out.2.1,by decide,xG.out.1,xG.out.2.2.2⟩
        case round =>
         obtain⟨L,a,sv,rfl,rfl,rfl,rfl,yN,ha,zZ,hR,hC⟩:=hrel;obtain⟨sa,sn,sc,rfl⟩:=Cv.Qx hR.os;obtain⟨lt,yW⟩:=Ze (nxt 0 L - 1);rw[yW] at zZ ⊢;obtain⟨ll,yV⟩:=Ze L.length;rw[yV] at yN ⊢;have pC:(0:Int)<=(ll:Int):=Lf _;have HQ:=Qg (L6 yW yV);clear yW yV xG
         by_cases hj:ll<m
         ·have kQ:(ll:Int)<(m:Int):=by omega
          have HL:Hid (ll<8796093021952∧ll<m):=⟨by omega,hj⟩
          have HC:=Qg hC;obtain⟨a',e',n,hr⟩ : ∃a' e' n',rnb T a 0=(a',e',n'):=⟨_,_,_,rfl⟩;have xC:=Qa1 T a 0 ha;rw[hr] at xC;have xA:Calls prog 191 #[.agg #[.string T,.int .i64 (a:Int),.int .i64 0]] wr fun x w'=>x = .returned (.tuple #[.agg #[.string T,.int .i64 (a':Int),.int .i64 (e':Int)],.int .u64 (n:Int),.int .i64 (e':Int)])∧Below wr.heap.size wr w':=by
           have:=Uz wr T a 0 ha (by have:=HY.out.2.2.1;omega)
           rw[hr] at this;exact this
          have HX:Hid (∀F,Below wr.heap.size wr F->R2 w F T a y0 y1 old z1 (.slice sa sn sc) (.slice none 0 0) L []):=fun F hF=>hR.next hF
          obtain⟨k0,k1,k2⟩:=hR.rs.rd.cells;have k2:wr.cell? ⟨w.heap.size+2,2,none⟩=some (.int .i64 0):=k2;have HR:=Qg (L6 hr xC);clear hR hC hr xC hj yN ha
          go_upto_region 24 with (go_at_call 191;with_reducible refine xA.mono ?_;rintro x w3 ⟨rfl,xX⟩;(have r3:=HX.out _ xX);(obtain⟨n0,n1,n2⟩:=r3.rs.rd.cells);(have nf:=r3.rs.rd.fz))
          clear k0 k1 k2 xA HX xX;have HZ:Hid (RSC w (put3 w3 (w.heap.size+2) T a' e') T a' e' (y0:Int) (y1:Int) old z1 (.slice sa sn sc) (.slice none 0 0)∧(e'=0->R2 w (put3 w3 (w.heap.size+2) T a' e') T a' y0 y1 old z1 (.slice sa sn sc) (.slice none 0 0) L [])):=⟨r3.rs.put a' e',fun h=>by rw[h];exact r3.put a'⟩
          unfold put3 at HZ;obtain⟨w4,xO⟩:=Ze (((w3.setCell ⟨w.heap.size+2,0,none⟩ (.string T)).setCell ⟨w.heap.size+2,1,none⟩ (.int .i64 (a':Int))).setCell ⟨w.heap.size+2,2,none⟩ (.int .i64 (e':Int)));rw[xO] at HZ ⊢;clear xO r3 n0 n1 n2 nf
          by_cases he:e'=0
          ·subst he;have r4:=HZ.out.2 rfl;have HN:=Qg HR.out.2.2
           by_cases h0:ll=0
           ·have kN : ¬(0:Int)<(ll:Int):=by omega
            have xU:=Qg (Qfe (x:=n) HC.out (by rw[HQ.out.2];exact HL.out.2) HR.out.1 (by rw[Lk (by rw[HQ.out.2];exact h0)]))
            clear h0;obtain⟨g0,g1,g2,g3,g4,g5⟩:=r4.rs.pr.cells;have xE:=r4.os;rw[Cv.Own,HQ.out.2] at xE;have R4:=Qg r4;clear r4 HZ
            go_wp2_with (at_builtin;refine wpList_append_own _ rfl _ _ 66 rfl (w.heap.size+3) 48 i0 (.int .u64 0) 1 8 underlying66 HI.out.1 HI.out.2.1 HI.out.2.2.1 HI.out.2.2.2 rfl (by decide) _ _ _ rfl (xE.alloc _) ⟨w4.heap.size,0,none⟩ 1 1 [.int .u64 (n:Int)] rfl rfl ?cn1 ?cn2 ?cn3 ?cn4 ?cn5 ?_)
            try
             case cn1 =>
              intro j u hj
              match j,hj with
              | 0,hj=>simp at hj;subst hj;simp[Addr.add]
            case cn2=>first|(intro u hu;simp at hu;subst hu;rfl)|rfl
            case cn3=>have:=HL.out.1;unfold maxLen;omega
            case cn4=>have:=HL.out.1;omega
            case cn5=>have:=R4.out.sz;simp;omega
            ·intro v' w6 hown' hgrow _;obtain⟨xa,xn,xc,rfl⟩:=Cv.Qx hown';have HD:=Qg (R2.addS R4.out hgrow (x:=n) (by rw[HQ.out.2,L5];exact hown'))
             have r5:=R4.out.next (bal (Lb w4.heap.size w4) (.cells #[.int .u64 (n:Int)] 48));have r6:=r5.rs.low ((Lb _ _).grown hgrow r5.sz (fun k hk=>(r5.os.lt k hk).1))
             obtain⟨t0,t1,t2,t3,t4,t5⟩:=r6.pr.cells;have tf:=r6.pr.fz;clear hown' hgrow xE g0 g1 g2 g3 g4 g5 r5 r6;have ej:IntKind.u64.wrap ((ll:Int)+1)=((ll+1:Nat):Int):=by have:=HL.out.1;rw[IntKind.wrap_u64];omega
             go_wp2
             go_roundg (m - (ll+1))
             case rel=>go_light;refine⟨L++[n],a',.slice xa xn xc,by rw[Lc,HQ.out.2];rfl,rfl,by rw[Ux];rfl,by rw[Lc,HQ.out.2];first|rfl|(congr 1),by rw[Lc,HQ.out.2];exact HL.out.2,HR.out.2.1,by rw[Ux];exact HN.out,HD.out,xU.out⟩
             case measure=>go_light;have h1:=HL.out.2;have h2:=HQ.out.2;omega
           ·have kN:(0:Int)<(ll:Int):=by omega
            have H0:Hid (0<ll):=by show 0<ll;omega
            by_cases hbn:1099511627776<=n
            ·have yT:(1099511627776:Int)<=(n:Int):=by omega
             have kI:=Qg hbn;clear hbn h0
             go_upto_region 28 with (fail)
             have hp:=r4.rs.res.put (.int .i64 (y0:Int)) (.int .i64 (y1:Int)) (.int .u64 (old:Int)) (.int .u64 (z1:Int)) (.slice sa sn sc) (.slice none 0 0);have hc:=Yy w4 w.heap.size (.int .i64 (y0:Int)) (.int .i64 (y1:Int)) (.int .u64 (old:Int)) (.int .u64 (z1:Int)) (.slice sa sn sc) (.slice none 0 0);have HB:=Qg (R2.no r4.rs hc);unfold Jy at hp HB;have HP:=Qg hp;clear hp;have HN:=Qg (Qb2 HC.out (by rw[HQ.out.2];exact HL.out.2) HR.out.1 (.inr ⟨by rw[HQ.out.2];exact H0.out,.inl kI.out⟩))
             obtain⟨p0,p1,p2,p3,p4,p5⟩:=r4.rs.pr.cells;obtain⟨q0,q1,q2,q3,q4,q5⟩:=r4.rs.res.cells;have qf:=r4.rs.res.fz;clear hc r4 HZ HR
             repeat go_step
             obtain⟨s0,s1,s2,s3,s4,s5⟩:=HP.out.cells;refine Lv (v := .tuple #[.agg #[.int .i64 (y0:Int),.int .i64 (y1:Int),.int .u64 (old:Int),.int .u64 (z1:Int),(.slice sa sn sc),(.slice none 0 0)],.bool false]) (by simp[results,results113,go_sem,s0,s1,s2,s3,s4,s5]) rfl ?_
             exact .inl ⟨_,_,_,_,_,_,_,_,_,_,rfl,HN.out,HB.out⟩
            ·have yT : ¬(1099511627776:Int)<=(n:Int):=by omega
             by_cases hbl:1099511627776<=lt
             ·have yS:(1099511627776:Int)<=(lt:Int):=by omega
              have kH:=Qg hbl;clear h0 hbn hbl
              go_upto_region 28 with (fail)
              have hp:=r4.rs.res.put (.int .i64 (y0:Int)) (.int .i64 (y1:Int)) (.int .u64 (old:Int)) (.int .u64 (z1:Int)) (.slice sa sn sc) (.slice none 0 0);have hc:=Yy w4 w.heap.size (.int .i64 (y0:Int)) (.int .i64 (y1:Int)) (.int .u64 (old:Int)) (.int .u64 (z1:Int)) (.slice sa sn sc) (.slice none 0 0);have HB:=Qg (R2.no r4.rs hc);unfold Jy at hp HB;have HP:=Qg hp;clear hp;have HN:=Qg (Qb2 HC.out (by rw[HQ.out.2];exact HL.out.2) HR.out.1 (.inr ⟨by rw[HQ.out.2];exact H0.out,.inr (by rw[HQ.out.1];exact kH.out)⟩))
              obtain⟨p0,p1,p2,p3,p4,p5⟩:=r4.rs.pr.cells;obtain⟨q0,q1,q2,q3,q4,q5⟩:=r4.rs.res.cells;have qf:=r4.rs.res.fz;clear hc r4 HZ HR
              repeat go_step
              obtain⟨s0,s1,s2,s3,s4,s5⟩:=HP.out.cells;refine Lv (v := .tuple #[.agg #[.int .i64 (y0:Int),.int .i64 (y1:Int),.int .u64 (old:Int),.int .u64 (z1:Int),(.slice sa sn sc),(.slice none 0 0)],.bool false]) (by simp[results,results113,go_sem,s0,s1,s2,s3,s4,s5]) rfl ?_
              exact .inl ⟨_,_,_,_,_,_,_,_,_,_,rfl,HN.out,HB.out⟩
             ·have yS : ¬(1099511627776:Int)<=(lt:Int):=by omega
              obtain⟨x,hx⟩:=Ze (n+lt+1);have kF:(n:Int)+(lt:Int)+1=(x:Int):=by omega
              have kM:=Qg kF;have kE:x<18446744073709551616:=by omega
              have xU:=Qg (Qfe (x:=x) HC.out (by rw[HQ.out.2];exact HL.out.2) HR.out.1 (by rw[Le (by rw[HQ.out.2];exact h0),HQ.out.1,hx]))
              have kL:=Qg kE;clear hx kE hbn hbl h0 kF
              go_upto_region 30 with (fail)
              rw[kM.out];obtain⟨g0,g1,g2,g3,g4,g5⟩:=r4.rs.pr.cells;have xE:=r4.os;rw[Cv.Own,HQ.out.2] at xE;have R4:=Qg r4;clear r4 HZ 
              go_wp2_with (at_builtin;refine wpList_append_own _ rfl _ _ 66 rfl (w.heap.size+3) 48 i0 (.int .u64 0) 1 8 underlying66 HI.out.1 HI.out.2.1 HI.out.2.2.1 HI.out.2.2.2 rfl (by decide) _ _ _ rfl (xE.alloc _) ⟨w4.heap.size,0,none⟩ 1 1 [.int .u64 (x:Int)] rfl rfl ?cx1 ?cx2 ?cx3 ?cx4 ?cx5 ?_)
              try
               case cx1 =>
                intro j u hj
                match j,hj with
                | 0,hj=>simp at hj;subst hj;simp[Addr.add]
              case cx2=>first|(intro u hu;simp at hu;subst hu;rfl)|rfl
              case cx3=>have:=HL.out.1;unfold maxLen;omega
              case cx4=>have:=HL.out.1;omega
              case cx5=>have:=R4.out.sz;simp;omega
              ·intro v' w6 hown' hgrow _;obtain⟨xa,xn,xc,rfl⟩:=Cv.Qx hown';have HD:=Qg (R2.addS R4.out hgrow (x:=x) (by rw[HQ.out.2,L5];exact hown'))
               have r5:=R4.out.next (bal (Lb w4.heap.size w4) (.cells #[.int .u64 (x:Int)] 48));have r6:=r5.rs.low ((Lb _ _).grown hgrow r5.sz (fun k hk=>(r5.os.lt k hk).1))
               obtain⟨t0,t1,t2,t3,t4,t5⟩:=r6.pr.cells;have tf:=r6.pr.fz;clear hown' hgrow xE g0 g1 g2 g3 g4 g5 r5 r6;have ej:IntKind.u64.wrap ((ll:Int)+1)=((ll+1:Nat):Int):=by have:=HL.out.1;rw[IntKind.wrap_u64];omega
               go_wp2
               go_roundg (m - (ll+1))
               case rel=>go_light;refine⟨L++[x],a',.slice xa xn xc,by rw[Lc,HQ.out.2];rfl,rfl,by rw[Ux];rfl,by rw[Lc,HQ.out.2];first|rfl|(congr 1),by rw[Lc,HQ.out.2];exact HL.out.2,HR.out.2.1,by rw[Ux];exact kL.out,HD.out,xU.out⟩
               case measure=>go_light;have h1:=HL.out.2;have h2:=HQ.out.2;omega
          ·have xR:((e':Int) == 0)=false:=beq_eq_false_iff_ne.2 (by omega)
           have kP:((e':Int) != 0)=true:=by simp;omega
           have r4:=HZ.out.1;have kK:=Qg he;clear he
           go_upto_region 25 with (fail)
           have hp:=r4.res.put (.int .i64 (y0:Int)) (.int .i64 (y1:Int)) (.int .u64 (old:Int)) (.int .u64 (z1:Int)) (.slice sa sn sc) (.slice none 0 0);have hc:=Yy w4 w.heap.size (.int .i64 (y0:Int)) (.int .i64 (y1:Int)) (.int .u64 (old:Int)) (.int .u64 (z1:Int)) (.slice sa sn sc) (.slice none 0 0);have HB:=Qg (R2.no r4 hc);unfold Jy at hp HB;have HP:=Qg hp;clear hp;have HN:=Qg (Qb2 HC.out (by rw[HQ.out.2];exact HL.out.2) HR.out.1 (.inl kK.out))
           obtain⟨p0,p1,p2,p3,p4,p5⟩:=r4.pr.cells;obtain⟨q0,q1,q2,q3,q4,q5⟩:=r4.res.cells;have qf:=r4.res.fz;clear hc r4 HZ HR
           repeat go_step
           obtain⟨s0,s1,s2,s3,s4,s5⟩:=HP.out.cells;refine Lv (v := .tuple #[.agg #[.int .i64 (y0:Int),.int .i64 (y1:Int),.int .u64 (old:Int),.int .u64 (z1:Int),(.slice sa sn sc),(.slice none 0 0)],.bool false]) (by simp[results,results113,go_sem,s0,s1,s2,s3,s4,s5]) rfl ?_
           exact .inl ⟨_,_,_,_,_,_,_,_,_,_,rfl,HN.out,HB.out⟩
         ·have kQ : ¬(ll:Int)<(m:Int):=by omega
          have HE:Hid (SpD s T y0 y1 z1 old a L []∧L.length<=8796093021952∧a<=T.size):=⟨Qm8 hC (by rw[HQ.out.2];omega),by rw[HQ.out.2];omega,ha⟩
          obtain⟨k0,k1,k2⟩:=hR.rs.rd.cells;have k2:wr.cell? ⟨w.heap.size+2,2,none⟩=some (.int .i64 0):=k2;obtain⟨p0,p1,p2,p3,p4,p5⟩:=hR.rs.pr.cells;have HX:Hid (∀F,Below wr.heap.size wr F->R2 w F T a y0 y1 old z1 (.slice sa sn sc) (.slice none 0 0) L []):=fun F hF=>hR.next hF
          have RW:=Qg hR;clear hR hC hj yN ha zZ kT HI
          go_upto_region 32 with (fail)
          go_cut [120] from 110 to 119 (fun c wx=>c = .bool (decide (y1=0∨(T.size - a) % y1≠0))∧R2 w wx T a y0 y1 old z1 (.slice sa sn sc) (.slice none 0 0) L [])
          case first =>
           by_cases hk:y1=0
           ·subst hk;have p1:wr.cell? ⟨w.heap.size+1,1,none⟩=some (.int .i64 0):=p1
            go_quiet (fail)
            go_wp2
            go_meet
            case rel=>exact⟨rfl,RW.out.next (Qf (Lb _ _) _)⟩
           ·obtain⟨lf,xD⟩:=Ze (T.size - a);have xP:Hid (∀W,Calls prog 192 #[.agg #[.string T,.int .i64 (a:Int),.int .i64 0]] W fun x w'=>x = .returned (.int .i64 (lf:Int))∧Below W.heap.size W w'):=fun W=>JA W T a 0 lf HE.out.2.2 (by rw[Lk rfl,xD]) (by have:=HY.out.2.2.1;omega)
            have pA:((y1:Int) == 0)=false:=beq_eq_false_iff_ne.2 (by omega)
            have pB : ¬(y1:Int)=0:=by omega
            obtain⟨rm,yY⟩:=Ze (lf % y1);have pD:Int.tmod (lf:Int) (y1:Int)=(rm:Int):=by rw[Int.tmod_eq_emod_of_nonneg (by omega),<-yY];rfl
            have pE:IntKind.i64.wrap (rm:Int)=(rm:Int):=by have h1:=HY.out.2.2.1;have h2:=Nat.mod_le lf y1;rw[Lr];omega
            have zG:Hid ((T.size - a) % y1=rm∧y1≠0):=⟨by rw[xD];exact yY,hk⟩
            have kW:Hid (∀F,Below wr.heap.size wr F->F.cell? ⟨w.heap.size+1,1,none⟩=some (.int .i64 (y1:Int))∧F.cell? ⟨w.heap.size+2,0,none⟩=some (.string T)∧F.cell? ⟨w.heap.size+2,1,none⟩=some (.int .i64 (a:Int))∧F.cell? ⟨w.heap.size+2,2,none⟩=some (.int .i64 0)):=fun F hF=>⟨(HX.out F hF).rs.pr.cells.2.1,(HX.out F hF).rs.rd.cells.1,(HX.out F hF).rs.rd.cells.2.1,(HX.out F hF).rs.rd.cells.2.2⟩
            have zP:Below wr.heap.size wr wr:=Lb _ _;clear xD yY hk RW
            go_region_with (first|(go_at_call 192;with_reducible refine(xP.out _).mono ?_;rintro x w8 ⟨rfl,xY⟩;(have xH:Below wr.heap.size wr w8:=(by first|exact Qa zP.drew xY|exact Qa zP xY));(obtain⟨m1,m2,m3,m4⟩:=kW.out _ xH)))
            all_goals
             go_wp2
             go_meet
             case rel=>exact⟨Lw Value.bool (by rw[zG.out.1];have:=zG.out.2;by_cases hz:rm=0 <;> simp[hz,this]),HX.out _ xH⟩
          case rest =>
           obtain⟨rfl,xM⟩:=hcut;obtain⟨yK,rfl⟩ : ∃yK,yK=wc:=⟨_,rfl⟩;clear HX RW k0 k1 k2 p0 p1 p2 p3 p4 p5
           go_upto_if 120 with (fail)
           by_cases hbad:y1=0∨(T.size - a) % y1≠0
           ·rw[LA hbad];have hp:=xM.rs.res.put (.int .i64 (y0:Int)) (.int .i64 (y1:Int)) (.int .u64 (old:Int)) (.int .u64 (z1:Int)) (.slice sa sn sc) (.slice none 0 0);have hc:=Yy yK w.heap.size (.int .i64 (y0:Int)) (.int .i64 (y1:Int)) (.int .u64 (old:Int)) (.int .u64 (z1:Int)) (.slice sa sn sc) (.slice none 0 0);have HB:=Qg (R2.no xM.rs hc);unfold Jy at hp HB;have HP:=Qg hp;clear hp;have HN:=Qg (Qk4 HE.out.1 hbad);obtain⟨p0,p1,p2,p3,p4,p5⟩:=xM.rs.pr.cells;obtain⟨q0,q1,q2,q3,q4,q5⟩:=xM.rs.res.cells;have qf:=xM.rs.res.fz;clear hc xM hbad
            repeat go_step
            obtain⟨s0,s1,s2,s3,s4,s5⟩:=HP.out.cells;refine Lv (v := .tuple #[.agg #[.int .i64 (y0:Int),.int .i64 (y1:Int),.int .u64 (old:Int),.int .u64 (z1:Int),(.slice sa sn sc),(.slice none 0 0)],.bool false]) (by simp[results,results113,go_sem,s0,s1,s2,s3,s4,s5]) rfl ?_
            exact .inl ⟨_,_,_,_,_,_,_,_,_,_,rfl,HN.out,HB.out⟩
           rw[Ls hbad];have xS:0<y1:=by omega
           have xG:Hid (R2 w yK T a y0 y1 old z1 (.slice sa sn sc) (.slice none 0 0) L []∧(T.size - a) % y1=0∧0<y1):=⟨xM,by omega,xS⟩
           clear hbad xM xS;go_wp2
           go_loopg [12] (T.size - a) (fun g dd wr => ∃(D:LB) (b:Nat) (dv:Value),g=T.size - b∧b<=T.size∧(T.size - b) % y1=0∧D.length<=b∧(∀d∈D,d.size<=T.size)∧R2 w wr T b y0 y1 old z1 (.slice sa sn sc) dv L D∧SpD s T y0 y1 z1 old b L D)
           case atStart=>go_light;exact⟨[],a,.slice none 0 0,rfl,HE.out.2.2,xG.out.2.1,Ll _,(fun d hd=>by cases hd),xG.out.1,HE.out.1⟩
           case round =>
            obtain⟨D,b,dv,rfl,hb,yA,zM,zN,hR,zO⟩:=hrel;obtain⟨da,dn,dc,rfl⟩:=Cv.Qx hR.od;obtain⟨lf,xD⟩:=Ze (T.size - b);have xP:Hid (∀W,Calls prog 192 #[.agg #[.string T,.int .i64 (b:Int),.int .i64 0]] W fun x w'=>x = .returned (.int .i64 (lf:Int))∧Below W.heap.size W w'):=fun W=>JA W T b 0 lf hb (by rw[Lk rfl,xD]) (by have:=HY.out.2.2.1;omega)
            obtain⟨k0,k1,k2⟩:=hR.rs.rd.cells;have k2:wr.cell? ⟨w.heap.size+2,2,none⟩=some (.int .i64 0):=k2;have HX:Hid (∀F,Below wr.heap.size wr F->R2 w F T b y0 y1 old z1 (.slice sa sn sc) (.slice da dn dc) L D):=fun F hF=>hR.next hF
            have xB:Hid (T.size - b=lf∧b<=T.size∧(T.size - b) % y1=0∧D.length<=b∧(∀d∈D,d.size<=T.size)∧SpD s T y0 y1 z1 old b L D):=⟨xD,hb,yA,zM,zN,zO⟩;clear xD hb yA zM zN hR zO
            by_cases hl:0<lf
            ·have kR:(0:Int)<(lf:Int):=by omega
             have xF:Hid (y1<=lf∧0<y1):=⟨Nat.le_of_dvd hl (by have:=xB.out.2.2.1;rw[xB.out.1] at this;exact Nat.dvd_of_mod_eq_zero this),xG.out.2.2⟩
             clear hl;obtain⟨d,hd⟩:=Ze (T.extract b (b+y1));obtain⟨b2,xZ⟩:=Ze (b+y1);have zF:=Qg xZ;have HT:Hid (∀W,Calls prog 193 #[.agg #[.string T,.int .i64 (b:Int),.int .i64 0],.int .i64 (y1:Int)] W fun x w'=>x = .returned (.tuple #[.agg #[.string T,.int .i64 (b2:Int),.int .i64 0],.string d,.int .i64 0])∧Below W.heap.size W w'):=fun W=>by
              have:=Qe3 W T b 0 (y1:Int) xB.out.2.1 (by have:=HY.out.2.2.1;omega)
              have h1:=xF.out.1;have h2:=xB.out.1;rw[rtk,Le (by simp),Le (by omega),LM] at this
              rw[<-hd,<-xZ];exact this
             have xU:=Qg (Qk5 xB.out.2.2.2.2.2 xF.out.2 (by rw[xB.out.1];exact xF.out.1) hd.symm)
             have kJ:Hid (d.size<=T.size):=by show d.size<=T.size;rw[<-hd,Iz];omega
             clear hd xZ
             go_upto_region 36 with (go_at_call 192;with_reducible refine(xP.out _).mono ?_;rintro x w2 ⟨rfl,xW⟩)
             have r2:=HX.out _ xW;have zH:Hid (∀F,Below w2.heap.size w2 F->R2 w F T b y0 y1 old z1 (.slice sa sn sc) (.slice da dn dc) L D):=fun F hF=>r2.next hF
             clear k0 k1 k2 HX xW xP;obtain⟨k0,k1,k2⟩:=r2.rs.rd.cells;have k2:w2.cell? ⟨w.heap.size+2,2,none⟩=some (.int .i64 0):=k2;obtain⟨p0,p1,p2,p3,p4,p5⟩:=r2.rs.pr.cells;clear r2
             go_upto_region 37 with (go_at_call 193;with_reducible refine(HT.out _).mono ?_;rintro x w3 ⟨rfl,xX⟩;(have r3:=zH.out _ xX);(obtain⟨n0,n1,n2⟩:=r3.rs.rd.cells);(have nf:=r3.rs.rd.fz))
             clear k0 k1 k2 p0 p1 p2 p3 p4 p5 zH xX HT;have r4:=r3.put b2;unfold put3 at r4;obtain⟨w4,xO⟩:=Ze (((w3.setCell ⟨w.heap.size+2,0,none⟩ (.string T)).setCell ⟨w.heap.size+2,1,none⟩ (.int .i64 (b2:Int))).setCell ⟨w.heap.size+2,2,none⟩ (.int .i64 ((0:Nat):Int)));rw[xO] at r4
             try rw[show(Value.int .i64 ((0:Nat):Int)) = .int .i64 0 from rfl] at xO
             rw[xO];clear xO r3 n0 n1 n2 nf;obtain⟨g0,g1,g2,g3,g4,g5⟩:=r4.rs.pr.cells;have xE:=r4.od;obtain⟨dl,yU⟩:=Ze D.length;rw[Qi,yU] at xE;have yL:Hid (D.length=dl∧dl<=8796093021952):=⟨yU,by have h1:=xB.out.2.2.2.1;have h2:=xB.out.2.1;have h3:=HY.out.2.2.1;omega⟩
             have R4:=Qg r4;clear r4 yU
             go_wp2_with (at_builtin;refine wpList_append_own _ rfl _ _ 22 rfl (w.heap.size+3) 9 j0 (.string ByteArray.empty) 1 16 underlying22 HJ.out.1 HJ.out.2.1 HJ.out.2.2.1 HJ.out.2.2.2 rfl (by decide) _ _ _ rfl (xE.alloc _) ⟨w4.heap.size,0,none⟩ 1 1 [.string d] rfl rfl ?cd1 ?cd2 ?cd3 ?cd4 ?cd5 ?_)
             try
              case cd1 =>
               intro j u hj
               match j,hj with
               | 0,hj=>simp at hj;subst hj;simp[Addr.add]
             case cd2=>first|(intro u hu;simp at hu;subst hu;rfl)|rfl
             case cd3=>have:=yL.out.2;unfold maxLen;omega
             case cd4=>have:=yL.out.2;omega
             case cd5=>have:=R4.out.sz;simp;omega
             ·intro v' w6 hown' hgrow _;obtain⟨xa,xn,xc,rfl⟩:=Cv.Qx hown';have HD:=Qg (R2.addD R4.out hgrow (x:=d) (by rw[yL.out.1,L5];exact hown'))
              have r5:=R4.out.next (bal (Lb w4.heap.size w4) (.cells #[.string d] 9));have r6:=r5.rs.low ((Lb _ _).grown hgrow r5.sz (fun k hk=>(r5.od.lt k hk).1))
              obtain⟨t0,t1,t2,t3,t4,t5⟩:=r6.pr.cells;have tf:=r6.pr.fz;clear hown' hgrow xE g0 g1 g2 g3 g4 g5 r5 r6;go_wp2
              go_roundg (T.size - b2)
              case rel =>
               go_light;have xZ:=zF.out;refine⟨D++[d],b2,.slice xa xn xc,rfl,?_,?_,?_,?_,HD.out,by rw[<-xZ];exact xU.out⟩
               ·have h1:=xF.out.1;have h2:=xB.out.1;omega
               ·have h1:=xF.out.1;have h2:=xB.out.1;have h3:=xB.out.2.2.1;rw[show T.size - b2=T.size - b - y1 by omega,<-Nat.mod_eq_sub_mod (by omega)];exact h3
               ·rw[Lc,LF];have h1:=xB.out.2.2.2.1;have h2:=xF.out.2;omega
               ·intro x hx
                rcases List.mem_append.1 hx with h|h
                ·exact xB.out.2.2.2.2.1 x h
                ·rw[List.mem_singleton.1 h];exact kJ.out
              case measure=>go_light;have h1:=xF.out;have h2:=xB.out.1;have h3:=zF.out;omega
            ·have kR : ¬(0:Int)<(lf:Int):=by omega
             have HZ:Hid (T.size - b=0):=by have:=xB.out.1;show T.size - b=0;omega
             clear hl
             go_upto_region 38 with (go_at_call 192;with_reducible refine(xP.out _).mono ?_;rintro x w2 ⟨rfl,xW⟩)
             have r3:=HX.out _ xW;clear k0 k1 k2 HX xP xW;have kU:=QbL r3.os;have kV:=QbL r3.od;subst kU kV;obtain⟨pM,sb,pN,kY,db,kZ,kA,kB,q1,q2,q3⟩:=R2.yes r3 (Yy w2 w.heap.size (.int .i64 (y0:Int)) (.int .i64 (y1:Int)) (.int .u64 (old:Int)) (.int .u64 (z1:Int)) (.slice sa L.length sc) (.slice da D.length dc)) HO.out HY.out.2.1 HE.out.2.1 (by have h1:=xB.out.2.2.2.1;have h2:=xB.out.2.1;have h3:=HY.out.2.2.1;omega) (fun d hd=>by have h1:=xB.out.2.2.2.2.1 d hd;have h3:=HY.out.2.2.1;omega)
             obtain⟨e1,_,e2⟩:=Iv kA;obtain⟨e3,_,e4⟩:=Iv kB;subst e1 e2 e3 e4;have hp:=r3.rs.res.put (.int .i64 (y0:Int)) (.int .i64 (y1:Int)) (.int .u64 (old:Int)) (.int .u64 (z1:Int)) (.slice sa L.length sc) (.slice da D.length dc);have HF:=Qg (L6 q1 (L6 q2 (L6 (Qm9 xB.out.2.2.2.2.2 xG.out.2.2 HZ.out) q3)));unfold Jy at hp HF;have HP:=Qg hp;clear hp;obtain⟨p0,p1,p2,p3,p4,p5⟩:=r3.rs.pr.cells;obtain⟨m0,m1,m2,m3,m4,m5⟩:=r3.rs.res.cells;have qf:=r3.rs.res.fz;clear r3 q1 q2 q3 HZ kA kB xB xG HE
             repeat go_step
             obtain⟨s0,s1,s2,s3,s4,s5⟩:=HP.out.cells;refine Lv (v := .tuple #[.agg #[.int .i64 (y0:Int),.int .i64 (y1:Int),.int .u64 (old:Int),.int .u64 (z1:Int),.slice sa L.length sc,.slice da D.length dc],.bool true]) (by simp[results,results113,go_sem,s0,s1,s2,s3,s4,s5]) rfl ?_
             exact .inr ⟨⟨y0,y1,old,z1,L,D⟩,sa,sb,sc,da,db,dc,rfl,HF.out.1,HF.out.2.1,HF.out.2.2.1,HF.out.2.2.2⟩
end Go.Proofs.YtoblgjledefdbaaGreatDoor
