/- Own work. -/
import Derived.Test.YtoblgjledefdbaaGreatDoorQm47
namespace Go.Proofs.YtoblgjledefdbaaGreatDoor
open Go.RowKit
attribute [local go_sem ↓] Go.wp_at_zero Go.wp_at_succ
open Go.Proofs.Tryz
section
open Cv (QI)
def UF(T:BA)(a:Nat):List UInt8:=T.data.toList.drop a
theorem JC(T:BA)(a:Nat):(UF T a).length=T.size - a:=by rw[UF,Nb,Qb]
theorem Qfa(T:BA)(a k:Nat):UF T (a+k)=(UF T a).drop k:=by rw[UF,UF,IB]
theorem Qa3{T:BA}{a n:Nat}{r:List UInt8}(h:UF T a=num n++r)(hn:n<2^64):rnb T a 0=(a+(num n).length,0,n)∧UF T (a+(num n).length)=r:=by
 have hs:=QbX r n 0 0 (by decide) (by simpa using hn) (by decide) (.inl rfl)
 refine⟨?_,by rw[Qfa,h];simp⟩
 refine Qgh ?_
 rw[UF] at h;rw[h,hs];simp
theorem Qa1(T:BA)(a e:Nat)(ha:a<=T.size):(rnb T a e).1<=T.size∧(rnb T a e).2.2<18446744073709551616:=by
 by_cases he:e=0
 ·subst he;obtain⟨n,e',k,hc⟩ : ∃n e' k,YL (T.data.toList.drop a) 0 0=(n,e',k):=⟨_,_,_,rfl⟩
  by_cases h0:e'=0
  ·subst h0;rw[Qgh hc];obtain⟨m,h1,h2,h3,h4,h5,h6,h7⟩:=Qaz _ 0 0 n k (by decide) (by decide) hc
   rw[Nb,Qb] at h5;exact⟨by simp only;omega,h7⟩
  ·rw[Qa2 hc h0]
   rcases Qk0 (T.data.toList.drop a) 0 0 with h|h|h
   ·rw[hc] at h;exact absurd h h0
   ·rw[hc] at h;cases h;exact⟨ha,by simp only;omega⟩
   ·rw[hc] at h;cases h;exact⟨ha,by simp only;omega⟩
 ·simp[rnb,he,ha]
theorem QmW{T:BA}{a k:Nat}{d:BA}{r:List UInt8}(h:UF T a=d.data.toList++r)(hk:d.size=k):rtk T a 0 (k:Int)=(a+k,0,d)∧UF T (a+k)=r:=by
 have hl:=Lw List.length h;rw[JC,Lc,Qb,hk] at hl;refine⟨?_,by rw[Qfa,h,LI (by rw[Qb];omega),List.drop_of_length_le (by rw[Qb];omega),Nd]⟩
 rw[rtk,Le (by simp),Le (by omega),LM]
 have:T.extract a (a+k)=d:=by
  apply Ji
  have e1:(T.extract a (a+k)).data.toList=(T.data.toList.drop a).take k:=by
   rw[Nz,Ie,NV,Iw]
  rw[e1];rw[UF] at h;rw[h,Lt (by rw[Qb];omega),Lo (by rw[Qb];omega)]
 rw[this]
end
def Tri(w:World)(s:Nat)(T:BA)(a e:Nat):Prop:=w.heap[s]? = some (.cells #[.string T,.int .i64 (a:Int),.int .i64 (e:Int)] 256 (0,0))
theorem Tri.cells{w:World}{s a e:Nat}{T:BA}(h:Tri w s T a e):w.cell? ⟨s,0,none⟩=some (.string T)∧w.cell? ⟨s,1,none⟩=some (.int .i64 (a:Int))∧w.cell? ⟨s,2,none⟩=some (.int .i64 (e:Int)) :=
 ⟨by rw[cell_of_row w s 0 _ _ (0,0) h];rfl,by rw[cell_of_row w s 1 _ _ (0,0) h];rfl,by rw[cell_of_row w s 2 _ _ (0,0) h];rfl⟩
theorem Tri.fz{w:World}{s a e:Nat}{T:BA}(h:Tri w s T a e)(j:Nat):w.frozen? ⟨s,j,none⟩=false:=frozen_of_row w s j _ _ h
theorem Tri.lt{w:World}{s a e:Nat}{T:BA}(h:Tri w s T a e):s<w.heap.size:=(Array.getElem?_eq_some_iff.1 h).1
theorem Tri.same{w W:World}{s a e:Nat}{T:BA}(h:Tri w s T a e)(hb:W.heap[s]? = w.heap[s]?):Tri W s T a e:=hb.trans h
theorem Tri.next{w W:World}{s a e:Nat}{T:BA}(h:Tri w s T a e)(hb:Below w.heap.size w W):Tri W s T a e:=h.same (hb.block s h.lt)
theorem Qnq(w:World)(T:BA)(a e:Nat):Tri (w.alloc (.cells #[.string T,.int .i64 (a:Int),.int .i64 (e:Int)] 256)) w.heap.size T a e:=LH w _
def put3(w:World)(s:Nat)(T:BA)(a e:Nat):World:=((w.setCell ⟨s,0,none⟩ (.string T)).setCell ⟨s,1,none⟩ (.int .i64 (a:Int))).setCell ⟨s,2,none⟩ (.int .i64 (e:Int))
theorem Tri.put{w:World}{s a e:Nat}{T:BA}(h:Tri w s T a e)(T':BA)(a' e':Nat):Tri (put3 w s T' a' e') s T' a' e':=by
 have h1:=Lp w s 0 _ _ (.string T') h;have h2:=Lp _ s 1 _ _ (.int .i64 (a':Int)) h1;exact Lp _ s 2 _ _ (.int .i64 (e':Int)) h2
theorem Qhf(w:World)(s:Nat)(T:BA)(a e:Nat):ChT (fun x=>x=s) w (put3 w s T a e) :=
 (((ChT.refl (fun x=>x=s) w).set s 0 (.string T) rfl).set s 1 (.int .i64 (a:Int)) rfl).set s 2 (.int .i64 (e:Int)) rfl
structure RSC(w wr:World)(T:BA)(a e:Nat)(kd k:Int)(old size:Nat)(sv dv:Value):Prop where
 res:Six wr w.heap.size (.int .i64 0) (.int .i64 0) (.int .u64 0) (.int .u64 0) (.slice none 0 0) (.slice none 0 0)
 pr:Six wr (w.heap.size+1) (.int .i64 kd) (.int .i64 k) (.int .u64 (old:Int)) (.int .u64 (size:Int)) sv dv
 rd:Tri wr (w.heap.size+2) T a e
 below:Below w.heap.size w wr
section
variable {w wr W:World} {T:BA} {a e:Nat} {kd k:Int} {old size:Nat} {sv dv:Value}
theorem RSC.next(h:RSC w wr T a e kd k old size sv dv)(hb:Below wr.heap.size wr W):RSC w W T a e kd k old size sv dv :=
 ⟨h.res.next hb,h.pr.next hb,h.rd.next hb,Qa h.below hb⟩
theorem RSC.put(h:RSC w wr T a e kd k old size sv dv)(a' e':Nat):RSC w (put3 wr (w.heap.size+2) T a' e') T a' e' kd k old size sv dv:=by
 have hc:=Qhf wr (w.heap.size+2) T a' e';exact⟨h.res.same (hc.block _ (by show ¬_=_;omega)),h.pr.same (hc.block _ (by show ¬_=_;omega)),h.rd.put T a' e',h.below.trans (hc.below (by rintro b rfl;omega))⟩
theorem RSC.keep(h:RSC w wr T a e kd k old size sv dv){kd' k':Int}{old' size':Nat}{sv' dv':Value}(hp:Six W (w.heap.size+1) (.int .i64 kd') (.int .i64 k') (.int .u64 (old':Int)) (.int .u64 (size':Int)) sv' dv')(hc:ChT (fun x=>x=w.heap.size+1) wr W):RSC w W T a e kd' k' old' size' sv' dv' :=
 ⟨h.res.same (hc.block _ (by show ¬_=_;omega)),hp,h.rd.same (hc.block _ (by show ¬_=_;omega)),h.below.trans (hc.below (by rintro b rfl;omega))⟩
theorem RSC.putOld(h:RSC w wr T a e kd k old size sv dv)(n:Nat):RSC w (wr.setCell ⟨w.heap.size+1,2,none⟩ (.int .u64 (n:Int))) T a e kd k n size sv dv :=
 h.keep (h.pr.set2 _) ((ChT.refl (fun x=>x=w.heap.size+1) wr).set _ _ _ rfl)
theorem RSC.putSize(h:RSC w wr T a e kd k old size sv dv)(n:Nat):RSC w (wr.setCell ⟨w.heap.size+1,3,none⟩ (.int .u64 (n:Int))) T a e kd k old n sv dv :=
 h.keep (h.pr.set3 _) ((ChT.refl (fun x=>x=w.heap.size+1) wr).set _ _ _ rfl)
theorem RSC.putSet(h:RSC w wr T a e kd k old size sv dv)(v:Value):RSC w (wr.setCell ⟨w.heap.size+1,4,none⟩ v) T a e kd k old size v dv :=
 h.keep (h.pr.set4 _) ((ChT.refl (fun x=>x=w.heap.size+1) wr).set _ _ _ rfl)
theorem RSC.putDig(h:RSC w wr T a e kd k old size sv dv)(v:Value):RSC w (wr.setCell ⟨w.heap.size+1,5,none⟩ v) T a e kd k old size sv v :=
 h.keep (h.pr.set5 _) ((ChT.refl (fun x=>x=w.heap.size+1) wr).set _ _ _ rfl)
end
def RdQ(w:World)(s:BA)(e:Ending)(w':World):Prop :=
 (∃(kd k old size:Int) (sa:OA) (sl sc:Nat) (da:OA) (dl dc:Nat),e = .returned (.tuple #[.agg #[.int .i64 kd,.int .i64 k,.int .u64 old,.int .u64 size,.slice sa sl sc,.slice da dl dc],.bool false])∧dec s.data.toList=none∧Below w.heap.size w w') ∨
 (∃Q sa sb sc da db dc,e = .returned (.tuple #[pvP Q sa sc da dc,.bool true])∧RdPC w' sa sb 0 sc da db 0 dc Q∧(Cv.Own w' w.heap.size (.slice sa Q.S.length sc) Q.S∧Qi w' w.heap.size (.slice da Q.D.length dc) Q.D)∧(∀P,dec s.data.toList=some P->Q=P)∧Below w.heap.size w w')
theorem Qh0{s:BA}{P:PV}(h:dec s.data.toList=some P) : ∃b0 b1:UInt8,s.data.toList=b0::b1::(num P.size++((if P.kd=3 then num P.old else if P.kd=2 then num P.S.length else [])++(Qj 0 P.S++Qu P.D)))∧P.kd=b0.toNat∧P.k=b1.toNat∧Yk P:=by
 obtain⟨hw,he,_⟩:=QgQ h;have ho:=Yh hw.1;rw[QgR ho] at he;have h1:=ho.kd1;have h3:=ho.kd3;have k1:=ho.k1;have k3:=ho.k32;refine⟨UInt8.ofNat P.kd.toNat,UInt8.ofNat P.k.toNat,?_,?_,?_,hw⟩
 ·rw[<-he,pre];simp[List.append_assoc]
 ·rw[QC (by omega)];omega
 ·rw[QC (by omega)];omega
section
open Cv (QI)
def Ag(s:BA)(y0 y1 z:Nat)(R:PV->Prop):Prop := ∀P,dec s.data.toList=some P->(P.kd=(y0:Int)∧P.k=(y1:Int)∧P.size=z∧Yk P)∧R P
def Sp1(s T:BA)(y0 y1 z a e:Nat):Prop:=Ag s y0 y1 z fun P=>e=0∧UF T a=(if P.kd=3 then num P.old else if P.kd=2 then num P.S.length else [])++(Qj 0 P.S++Qu P.D)
def SpA(s T:BA)(y0 y1 z old a e:Nat):Prop:=Ag s y0 y1 z fun P=>e=0∧P.old=old∧UF T a=(if P.kd=2 then num P.S.length else [])++(Qj 0 P.S++Qu P.D)
def SpB(s T:BA)(y0 y1 z old a e m:Nat):Prop:=Ag s y0 y1 z fun P=>e=0∧P.old=old∧P.S.length=m∧UF T a=Qj 0 P.S++Qu P.D
def SpC(s T:BA)(y0 y1 z old m a:Nat)(L:List Nat):Prop:=Ag s y0 y1 z fun P=>P.old=old∧P.S.length=m∧L=P.S.take L.length∧UF T a=Qj (nxt 0 L) (P.S.drop L.length)++Qu P.D
def SpD(s T:BA)(y0 y1 z old a:Nat)(L:List Nat)(D:LB):Prop:=Ag s y0 y1 z fun P=>P.old=old∧P.S=L∧D=P.D.take D.length∧UF T a=Qu (P.D.drop D.length)
variable {s T:BA} {y0 y1 z old a e m:Nat} {L:List Nat} {D:LB}
theorem Qc5{R:PV->Prop}(h:Ag s y0 y1 z R)(hn : ∀P,P.kd=(y0:Int)->P.k=(y1:Int)->Yk P->R P->False):dec s.data.toList=none:=by
 cases hd:dec s.data.toList with
 | none=>rfl
 | some P=>obtain⟨⟨h1,h2,h3,h4⟩,h5⟩:=h P hd;exact(hn P h1 h2 h4 h5).elim
theorem QiQ{b0 b1:UInt8}{l:List UInt8}(hl:s.data.toList=b0::b1::l)(hT:T.data.toList=l)(h0:b0.toNat=y0)(h1:b1.toNat=y1)(hr:rnb T 0 0=(a,e,z)):Sp1 s T y0 y1 z a e:=by
 intro P hP;obtain⟨c0,c1,hb,k0,k1,hw⟩:=Qh0 hP;rw[hl] at hb;injection hb with e0 hb
 injection hb with e1 hb
 subst e0 e1;have ho:=Yh hw.1;have i1:=ho.hsz;have hq:UF T 0=num P.size++((if P.kd=3 then num P.old else if P.kd=2 then num P.S.length else [])++(Qj 0 P.S++Qu P.D)):=by rw[UF,ND,hT,hb]
 obtain⟨r1,r2⟩:=Qa3 hq (by omega)
 rw[hr,Lm] at r1;rw[Lm] at r2;injection r1 with r3 r4
 injection r4 with r4 r5
 subst r3 r4 r5;exact⟨⟨by omega,by omega,rfl,hw⟩,rfl,r2⟩
theorem Qm7{a' e' n:Nat}(h:Sp1 s T y0 y1 z a 0)(hk:y0=3)(hr:rnb T a 0=(a',e',n)):SpA s T y0 y1 z n a' e':=by
 intro P hP;obtain⟨⟨h1,h2,h3,h4⟩,_,h5⟩:=h P hP;have ho:=Yh h4.1;have i1:=ho.hsz;have i2:=ho.hold;rw[Lk (by omega)] at h5
 obtain⟨r1,r2⟩:=Qa3 h5 (by omega)
 rw[hr] at r1;injection r1 with r3 r4
 injection r4 with r4 r5
 subst r3 r4 r5;exact⟨⟨h1,h2,h3,h4⟩,rfl,rfl,by rw[Le (by omega)];exact r2⟩
theorem QiR(h:Sp1 s T y0 y1 z a e)(hk:y0=3->e≠0):SpA s T y0 y1 z 0 a e:=by
 intro P hP;obtain⟨⟨h1,h2,h3,h4⟩,h6,h5⟩:=h P hP;have ho:=Yh h4.1;have i1:=ho.kd1;have i2:=ho.kd3;have i3:y0≠3:=fun h=>hk h h6
 rw[Le (by omega)] at h5
 refine⟨⟨h1,h2,h3,h4⟩,h6,?_,h5⟩
 rcases(show P.kd=1∨P.kd=2 by omega) with e|e
 ·exact(ho.one e).2
 ·exact ho.two e
theorem QiS{a' e' n:Nat}(h:SpA s T y0 y1 z old a 0)(hk:y0=2)(hr:rnb T a 0=(a',e',n)):SpB s T y0 y1 z old a' e' n:=by
 intro P hP;obtain⟨⟨h1,h2,h3,h4⟩,_,h6,h5⟩:=h P hP;have ho:=Yh h4.1;have i1:=ho.hsz;have i2:=ho.len;rw[Lk (by omega)] at h5
 obtain⟨r1,r2⟩:=Qa3 h5 (by omega)
 rw[hr] at r1;injection r1 with r3 r4
 injection r4 with r4 r5
 subst r3 r4 r5;exact⟨⟨h1,h2,h3,h4⟩,rfl,h6,rfl,r2⟩
theorem QiT(h:SpA s T y0 y1 z old a e)(hk:y0=2->e≠0)(hm:m=if y0=1 then 1 else 0):SpB s T y0 y1 z old a e m:=by
 intro P hP;obtain⟨⟨h1,h2,h3,h4⟩,h6,h7,h5⟩:=h P hP;have ho:=Yh h4.1;have i1:=ho.kd1;have i2:=ho.kd3;have i3:y0≠2:=fun h=>hk h h6
 rw[Le (by omega),Nd] at h5
 refine⟨⟨h1,h2,h3,h4⟩,h6,h7,?_,h5⟩
 rcases(show P.kd=1∨P.kd=3 by omega) with e|e
 ·rw[(ho.one e).1,hm,Lk (by omega)]
 ·rw[ho.three e,hm,Le (by omega)];rfl
theorem Qk3(h:SpB s T y0 y1 z old a e m)(hb:e≠0∨T.size - a<m):dec s.data.toList=none:=by
 refine Qc5 h ?_
 rintro P _ _ hw ⟨h1,_,h3,h4⟩;have:=Lw List.length h4;rw[JC,Lc] at this;have:=QcA P.S 0;omega
theorem QiU(h:SpB s T y0 y1 z old a 0 m):SpC s T y0 y1 z old m a []:=by
 intro P hP;obtain⟨h1,_,h3,h4,h5⟩:=h P hP;exact⟨h1,h3,h4,by simp,by simpa [nxt] using h5⟩
theorem Qkp{S:List Nat}{n j:Nat}(hc:QI 0 S n)(hj:j<S.length):nxt 0 (S.take j)<=S.getD j 0∧(0<j->0<nxt 0 (S.take j)):=by
 cases j with
 | zero=>simp[nxt]
 | succ j =>
  rw[YY (by omega),Ux]
  exact⟨(Cv.YQ hc (j+1) hj).2.2 j (by omega),fun _=>by omega⟩
theorem Qfd{P:PV}(hw:Yk P)(hm:P.S.length=m)(hL:L=P.S.take L.length)(hr:UF T a=Qj (nxt 0 L) (P.S.drop L.length)++Qu P.D)(hj:L.length<m) :
  rnb T a 0=(a+(num (P.S.getD L.length 0 - nxt 0 L)).length,0,P.S.getD L.length 0 - nxt 0 L)∧nxt 0 L<=P.S.getD L.length 0∧(0<L.length->0<nxt 0 L)∧P.S.getD L.length 0<1099511627776∧UF T (a+(num (P.S.getD L.length 0 - nxt 0 L)).length)=Qj (P.S.getD L.length 0+1) (P.S.drop (L.length+1))++Qu P.D:=by
 have ho:=Yh hw.1;have i1:=ho.hsz;have hd:=Cv.YQ ho.chain L.length (by omega)
 have hn:=Qkp ho.chain (j:=L.length) (by omega)
 rw[<-hL] at hn;have hs:P.S.drop L.length=P.S.getD L.length 0::P.S.drop (L.length+1):=by
  rw[LN (by omega),Ld,Lh (by omega)];rfl
 rw[hs,Qj,Lq] at hr;obtain⟨r1,r2⟩:=Qa3 hr (by omega)
 exact⟨r1,hn.1,hn.2,by omega,r2⟩
theorem Qb2{a' e' n:Nat}(h:SpC s T y0 y1 z old m a L)(hj:L.length<m)(hr:rnb T a 0=(a',e',n))(hb:e'≠0∨(0<L.length∧(1099511627776<=n∨1099511627776<=nxt 0 L - 1))):dec s.data.toList=none:=by
 refine Qc5 h ?_
 rintro P _ _ hw ⟨_,h3,h4,h5⟩;obtain⟨r1,r2,r3,r4,r5⟩:=Qfd hw h3 h4 h5 hj;rw[hr] at r1;injection r1 with r6 r7
 injection r7 with r7 r8
 omega
theorem Qfe{a' n x:Nat}(h:SpC s T y0 y1 z old m a L)(hj:L.length<m)(hr:rnb T a 0=(a',0,n))(hx:x=if L.length=0 then n else n+(nxt 0 L - 1)+1):SpC s T y0 y1 z old m a' (L++[x]):=by
 intro P hP;obtain⟨⟨h1,h2,h3,hw⟩,h4,h5,h6,h7⟩:=h P hP;obtain⟨r1,r2,r3,r4,r5⟩:=Qfd hw h5 h6 h7 hj;rw[hr] at r1;injection r1 with r6 r7
 injection r7 with r7 r8
 have xA:x=P.S.getD L.length 0:=by
  by_cases h0:L.length=0
  ·have:nxt 0 L=0:=by rw[List.length_eq_zero_iff.1 h0];rfl
   rw[Lk h0] at hx;omega
  ·have:=r3 (by omega);rw[Le h0] at hx;omega
 rw[<-r6] at r5;refine⟨⟨h1,h2,h3,hw⟩,h4,h5,?_,?_⟩
 ·rw[Lc,LF,YY (by omega),<-h6,xA]
 ·rw[Ux,Lc,LF,r5,xA]
theorem Qm8(h:SpC s T y0 y1 z old m a L)(hj:L.length=m):SpD s T y0 y1 z old a L []:=by
 intro P hP;obtain⟨h1,h4,h5,h6,h7⟩:=h P hP;refine⟨h1,h4,?_,by simp,?_⟩
 ·rw[h6,hj,<-h5,L9]
 ·rw[hj,<-h5,II] at h7;simpa [Qj] using h7
theorem Qbo{P:PV}(hw:Yk P)(hk:P.k=(y1:Int))(j:Nat):(Qu (P.D.drop j)).length=(P.D.length - j)*y1:=by
 rw[OH (k:=y1) (fun d hd=>by have:=hw.2 d (NY hd);omega),Nb]
theorem Qk4(h:SpD s T y0 y1 z old a L [])(hb:y1=0∨(T.size - a) % y1≠0):dec s.data.toList=none:=by
 refine Qc5 h ?_
 rintro P _ hk hw ⟨_,_,_,h4⟩;have:=Lw List.length h4;rw[JC,Qbo hw hk] at this;have ho:=Yh hw.1;have:=ho.k1
 rcases hb with hb|hb
 ·omega
 ·rw[‹T.size - a=_›] at hb;simp at hb
theorem Qk5{d:BA}(h:SpD s T y0 y1 z old a L D)(hk:0<y1)(hl:y1<=T.size - a)(hd:d=T.extract a (a+y1)):SpD s T y0 y1 z old (a+y1) L (D++[d]):=by
 intro P hP;obtain⟨⟨h1,h2,h3,hw⟩,h4,h5,h6,h7⟩:=h P hP;have xA:=Lw List.length h7;rw[JC,Qbo hw h2] at xA;have hj:D.length<P.D.length:=by
  rcases Ij D.length P.D.length with h|h
  ·exact h
  ·rw[Nat.sub_eq_zero_of_le h,Nat.zero_mul] at xA;omega
 have hs:P.D.drop D.length=P.D.getD D.length ByteArray.empty::P.D.drop (D.length+1):=by
  rw[LN hj,Ld,Lh hj];rfl
 rw[hs,YF] at h7;have hz:=hw.2 _ (Y7 hj);obtain⟨r1,r2⟩:=QmW (k:=y1) h7 (by omega)
 have xB:d=P.D.getD D.length ByteArray.empty:=by
  rw[rtk,Le (by simp),Le (by omega)] at r1
  injection r1 with _ r1
  injection r1 with _ r1
  rw[hd,<-r1];simp
 refine⟨⟨h1,h2,h3,hw⟩,h4,h5,?_,?_⟩
 ·rw[Lc,LF,Ja hj,<-h6,xB]
 ·rw[Lc,LF,r2]
theorem Qm9(h:SpD s T y0 y1 z old a L D)(hk:0<y1)(hl:T.size - a=0) : ∀P,dec s.data.toList=some P->(⟨y0,y1,old,z,L,D⟩:PV)=P:=by
 intro P hP;obtain⟨⟨h1,h2,h3,hw⟩,h4,h5,h6,h7⟩:=h P hP;have xA:=Lw List.length h7;rw[JC,Qbo hw h2,hl] at xA;have hj:P.D.length<=D.length:=by
  rcases Nat.mul_eq_zero.1 xA.symm with h|h
  ·omega
  ·omega
 obtain⟨kd,k,xB,xC,S,D'⟩:=P;simp only at h1 h2 h3 h4 h5 h6 hj;subst h1 h2 h3 h4 h5;rw[Lo hj] at h6;rw[h6]
theorem RSC.low{w wr W:World}{kd k:Int}{old size:Nat}{sv dv:Value}(h:RSC w wr T a e kd k old size sv dv)(hb:Below (w.heap.size+3) wr W):RSC w W T a e kd k old size sv dv :=
 ⟨h.res.same (hb.block _ (by omega)),h.pr.same (hb.block _ (by omega)),h.rd.same (hb.block _ (by omega)),h.below.trans (hb.mono (by omega))⟩
structure R2(w wr:World)(T:BA)(a y0 y1 old size:Nat)(sv dv:Value)(L:List Nat)(D:LB):Prop where
 rs:RSC w wr T a 0 (y0:Int) (y1:Int) old size sv dv
 os:Cv.Own wr (w.heap.size+3) sv L
 od:Qi wr (w.heap.size+3) dv D
 sz:w.heap.size+3<=wr.heap.size
section
variable {w wr W:World} {size:Nat} {sv dv:Value}
theorem R2.same(h:R2 w wr T a y0 y1 old size sv dv L D){a':Nat}(hr:RSC w W T a' 0 (y0:Int) (y1:Int) old size sv dv)(hb : ∀b,w.heap.size+3<=b->b<wr.heap.size->W.heap[b]? = wr.heap[b]?)(hz:wr.heap.size<=W.heap.size):R2 w W T a' y0 y1 old size sv dv L D :=
 ⟨hr,QZ h.os (fun g hg hB=>hb g hB (h.os.lt g hg).2),QZ h.od (fun g hg hB=>hb g hB (h.od.lt g hg).2),Lu h.sz hz⟩
theorem R2.next(h:R2 w wr T a y0 y1 old size sv dv L D)(hb:Below wr.heap.size wr W):R2 w W T a y0 y1 old size sv dv L D :=
 h.same (h.rs.next hb) (fun b _ hb'=>hb.block b hb') hb.size
theorem R2.put(h:R2 w wr T a y0 y1 old size sv dv L D)(a':Nat):R2 w (put3 wr (w.heap.size+2) T a' 0) T a' y0 y1 old size sv dv L D:=by
 have hc:=Qhf wr (w.heap.size+2) T a' 0;exact h.same (h.rs.put a' 0) (fun b hb _=>hc.block b (by show ¬_=_;omega)) (N9 hc.size.symm)
theorem QcQ{w w':World}{B T s n B' T' s' n':Nat}{x y:Value}{cs cs':List Value}(h:w.ownsRow B T s x n cs)(h2:w.ownsRow B' T' s' y n' cs')(hT:T≠T')(hg:w.grownBy w' y.ownBlock):w'.ownsRow B T s x n cs:=by
 refine QZ h fun g hgx _=>hg.block g (h.lt g hgx).2 ?_
 intro e;obtain⟨_,r1⟩:=h;obtain⟨_,r2⟩:=h2
 rcases r1 with ⟨rfl,_⟩|⟨g1,cap1,cur1,rfl,_,hh1,_⟩
 ·cases hgx
 rcases r2 with ⟨rfl,_⟩|⟨g2,cap2,cur2,rfl,_,hh2,_⟩
 ·cases e
 cases hgx;injection e with e
 subst e;rw[hh1] at hh2;injection hh2 with hh2
 injection hh2 with _ e2 _
 exact hT e2
theorem R2.addS(h:R2 w wr T a y0 y1 old size sv dv L D){x:Nat}{o:Obj}{w3:World}{v':Value}(hg:(wr.alloc o).grownBy w3 sv.ownBlock)(ho:w3.ownsRow (w.heap.size+3) 48 1 v' (L.length+1) ((L++[x]).map fun x:Nat=>Value.int .u64 (x:Int))):R2 w (w3.setCell ⟨w.heap.size+1,4,none⟩ v') T a y0 y1 old size v' dv (L++[x]) D:=by
 have hA:=h.next (bal (Lb _ _) o);have hb:Below (w.heap.size+3) (wr.alloc o) w3:=(Lb _ _).grown hg hA.sz (fun k hk=>(hA.os.lt k hk).1)
 have r3:=hA.rs.low hb;have d3:Qi w3 (w.heap.size+3) dv D:=QcQ hA.od hA.os (by decide) hg
 have hc:=(ChT.refl (fun x=>x=w.heap.size+1) w3).set (w.heap.size+1) 4 v' rfl
 have hq : ∀b,w.heap.size+3<=b->(w3.setCell ⟨w.heap.size+1,4,none⟩ v').heap[b]? = w3.heap[b]? := fun b hb=>hc.block b (by show ¬_=_;omega)
 refine⟨r3.putSet v',?_,QZ d3 (fun g _ hB=>hq g hB),?_⟩
 ·have:=QZ ho (fun g _ hB=>hq g hB)
  rw[Cv.Own,Lc,LF];exact this
 ·rw[hc.size];exact Lu hA.sz hb.size
theorem R2.addD(h:R2 w wr T a y0 y1 old size sv dv L D){x:BA}{o:Obj}{w3:World}{v':Value}(hg:(wr.alloc o).grownBy w3 dv.ownBlock)(ho:w3.ownsRow (w.heap.size+3) 9 1 v' (D.length+1) ((D++[x]).map Value.string)):R2 w (w3.setCell ⟨w.heap.size+1,5,none⟩ v') T a y0 y1 old size sv v' L (D++[x]):=by
 have hA:=h.next (bal (Lb _ _) o);have hb:Below (w.heap.size+3) (wr.alloc o) w3:=(Lb _ _).grown hg hA.sz (fun k hk=>(hA.od.lt k hk).1)
 have r3:=hA.rs.low hb;have d3:Cv.Own w3 (w.heap.size+3) sv L:=QcQ hA.os hA.od (by decide) hg
 have hc:=(ChT.refl (fun x=>x=w.heap.size+1) w3).set (w.heap.size+1) 5 v' rfl
 have hq : ∀b,w.heap.size+3<=b->(w3.setCell ⟨w.heap.size+1,5,none⟩ v').heap[b]? = w3.heap[b]? := fun b hb=>hc.block b (by show ¬_=_;omega)
 refine⟨r3.putDig v',QZ d3 (fun g _ hB=>hq g hB),?_,?_⟩
 ·have:=QZ ho (fun g _ hB=>hq g hB)
  rw[Qi,Lc,LF];exact this
 ·rw[hc.size];exact Lu hA.sz hb.size
theorem R2.no(h:RSC w wr T a e (y0:Int) (y1:Int) old size sv dv){W:World}(hc:ChT (fun x=>x=w.heap.size) wr W):Below w.heap.size w W:=h.below.trans (hc.below (by rintro b rfl;exact La _))
theorem R2.yes(h:R2 w wr T a y0 y1 old size sv dv L D){W:World}(hc:ChT (fun x=>x=w.heap.size) wr W)(h1:old<18446744073709551616)(h2:size<18446744073709551616)(h3:L.length<=8796093021952)(h4:D.length<=8796093021952)(h5 : ∀d∈D,d.size<=9223372036854775807) :
  ∃sa sb sc da db dc,sv = .slice sa L.length sc∧dv = .slice da D.length dc∧RdPC W sa sb 0 sc da db 0 dc ⟨y0,y1,old,size,L,D⟩∧(Cv.Own W w.heap.size (.slice sa L.length sc) L∧Qi W w.heap.size (.slice da D.length dc) D)∧Below w.heap.size w W:=by
 have hq : ∀b,w.heap.size+3<=b->W.heap[b]? = wr.heap[b]? := fun b hb=>hc.block b (by show ¬_=_;omega)
 have o1:Cv.Own W (w.heap.size+3) sv L:=QZ h.os (fun g _ hB=>hq g hB)
 have o2:Qi W (w.heap.size+3) dv D:=QZ h.od (fun g _ hB=>hq g hB)
 obtain⟨sa,sb,sc,rfl,r1,_⟩:=Jx o1;obtain⟨da,db,dc,rfl,r2,r3,_⟩:=QR o2 h5;exact⟨sa,sb,sc,da,db,dc,rfl,rfl,⟨r1,r2,h1,h2,by show L.length<=_;omega,by show D.length<=_;omega,r3⟩,⟨World.ownsRow.mono o1 (by omega),World.ownsRow.mono o2 (by omega)⟩,R2.no h.rs hc⟩
theorem QkI(h:RSC w wr T a 0 (y0:Int) (y1:Int) old size (.slice none 0 0) (.slice none 0 0)):R2 w wr T a y0 y1 old size (.slice none 0 0) (.slice none 0 0) [] [] :=
 ⟨h,Nh _ _ _ _,YK _ _,h.rd.lt⟩
end
end
end Go.Proofs.YtoblgjledefdbaaGreatDoor
