/- Own work. -/
import Derived.Test.YtoblgjledefdbabGreatDoorQs24
namespace Go.Proofs.YtoblgjledefdbabGreatDoor
open Go.Proofs.Tryz
section
open Pl (pw QE QA Yw)
open Cv (tno All Til But)
abbrev He:Type:=(Nat×Nat)×BA
def Fn(K:List He):Prop := ∀e∈K,∀e'∈K,e.1=e'.1->e.2=e'.2
def knS(c:Nat)(S:List Nat)(X:LB):List He:=(S.zip X).map fun p=>((0,p.1),dg c (Qw p.2))
theorem QaN(c:Nat)(S:List Nat)(X:LB)(h:X.length=S.length):(knS c S X).length=S.length:=by
 rw[knS,LI,List.length_zip,h,Nat.min_self]
theorem QfF(c:Nat){S:List Nat}{X:LB}(h:X.length=S.length){j:Nat}(hj:j<S.length):(knS c S X)[j]? = some ((0,S.getD j 0),dg c (Qw (X.getD j ByteArray.empty))):=by
 have hz:(S.zip X)[j]? = some (S[j],X[j]'(by omega)):=List.getElem?_zip_eq_some.2 ⟨Ld hj,Ld (show j<X.length by omega)⟩
 rw[knS,No,hz,La,Ld hj,La,Ld (show j<X.length by omega)]
 rfl
theorem Qd1{R:List (Nat×Nat)}{D:LB}(h:D.length=R.length){j:Nat}(hj:j<R.length):(R.zip D)[j]? = some (R.getD j (0,0),D.getD j ByteArray.empty):=by
 have hz:(R.zip D)[j]? = some (R[j],D[j]'(by omega)):=List.getElem?_zip_eq_some.2 ⟨Ld hj,Ld (show j<D.length by omega)⟩
 rw[hz,La,Ld hj,La,Ld (show j<D.length by omega)]
 rfl
theorem Qa0{R:List (Nat×Nat)}{D:LB}(h:D.length=R.length):(R.zip D).length=R.length:=by rw[List.length_zip,h,Nat.min_self]
theorem J1{A:Nat->Prop}{q:Nat} : ∀ {L:List (Nat×Nat)} {p:Nat},Til A q p L -> ∀b∈L,p<=b.2*pw b.1∧All A b.1 b.2
 | [],_,_,b,hb=>by cases hb
 | m::L,p,h,b,hb=>by
  obtain⟨h1,h2,h3,h4,h5,h6⟩:=h
  rcases List.mem_cons.1 hb with rfl|hb
  ·exact⟨h1,h4⟩
  ·have:=J1 h6 b hb;have h7:=Cv.Yx m.1 m.2;exact⟨by omega,this.2⟩
theorem Jg{A:Nat->Prop}{q:Nat} : ∀ {L:List (Nat×Nat)} {p:Nat},Til A q p L -> ∀i j,i<j->j<L.length->L.getD i (0,0)≠L.getD j (0,0)
 | [],_,_,i,j,_,hj=>absurd hj (NS j)
 | m::L,p,h,i,j,hij,hj=>by
  obtain⟨h1,h2,h3,h4,h5,h6⟩:=h
  match i,j,hij with
  | 0,j+1,_=>
   intro e;have hj':j<L.length:=by rw[LJ] at hj;omega
   have hm:L.getD j (0,0)∈L:=by rw[La,Ld hj'];exact LN _
   have h8:=(J1 h6 _ hm).1;have e':m=L.getD j (0,0):=e;rw[<-e'] at h8;have h7:=Cv.Yx m.1 m.2;omega
  | i+1,j+1,hij=>exact Jg h6 i j (by omega) (by rw[LJ] at hj;omega)
section
variable {c n:Nat} {S:List Nat} {X D:LB}
theorem QfG(hX:X.length=S.length){R:List (Nat×Nat)}(hD:D.length=R.length){e:He}(he:e∈knS c S X++R.zip D):(∃j,j<S.length∧e=((0,S.getD j 0),dg c (Qw (X.getD j ByteArray.empty)))) ∨ ∃j,j<R.length∧e=(R.getD j (0,0),D.getD j ByteArray.empty):=by
 rcases List.mem_append.1 he with he|he
 ·obtain⟨j,hj,hv⟩:=L8 he;rw[QaN c S X hX] at hj;refine .inl ⟨j,hj,?_⟩
  have:=QfF c hX hj;rw[Ld (by rw[QaN c S X hX];exact hj),hv] at this
  exact NN this
 ·obtain⟨j,hj,hv⟩:=L8 he;rw[Qa0 hD] at hj;refine .inr ⟨j,hj,?_⟩
  have:=Qd1 hD hj;rw[Ld (by rw[Qa0 hD];exact hj),hv] at this
  exact NN this
theorem Qa1(hp:Asc S){i j:Nat}(hi:i<S.length)(hj:j<S.length)(he:S.getD i 0=S.getD j 0):i=j:=by
 rw[La,Ld hi,La,Ld hj] at he;have he:S[i]=S[j]:=he;have hw:=List.pairwise_iff_getElem.1 hp
 rcases Ie i j with h|h|h
 ·have:=hw i j hi hj h;omega
 ·exact h
 ·have:=hw j i hj hi h;omega
theorem QpE(he:Cv.Ya n S=0)(hX:X.length=S.length)(hD:D.length=(Cv.rst 0 n S).length):Fn (knS c S X++(Cv.rst 0 n S).zip D):=by
 obtain⟨h40,_,_,hc⟩:=Cv.Yt he;have hp:=Y9 hc;have ht:=Cv.Jd n S h40 hc;obtain⟨R,hR⟩:∃R,Cv.rst 0 n S=R:=⟨_,rfl⟩;rw[hR] at hD ht ⊢;have mixed:∀i j,i<S.length->j<R.length->(0,S.getD i 0)≠R.getD j (0,0):=fun i j hi hj e=>by
  have hm:R.getD j (0,0)∈R:=by rw[La,Ld hj];exact LN _
  have:=(J1 ht _ hm).2;rw[<-e] at this;have h2:=this (S.getD i 0) (by simp[pw]) (by simp[pw])
  exact h2.2 (by rw[La,Ld hi];exact LN _)
 intro e h1 e' h2 heq
 rcases QfG hX hD h1 with ⟨i,hi,rfl⟩|⟨i,hi,rfl⟩ <;> rcases QfG hX hD h2 with ⟨j,hj,rfl⟩|⟨j,hj,rfl⟩
 ·obtain rfl:=Qa1 hp hi hj (LZ Prod.snd heq)
  rfl
 ·exact absurd heq (mixed i j hi hj)
 ·exact absurd heq.symm (mixed j i hj hi)
 ·have heq:R.getD i (0,0)=R.getD j (0,0):=heq
  rcases Ie i j with h|h|h
  ·exact absurd heq (Jg ht i j h hj)
  ·rw[h]
  ·exact absurd heq.symm (Jg ht j i h hi)
theorem QpF(he:Cv.Ya n S=0)(hX:X.length=S.length)(hD:D.length=(Cv.rst 0 n S).length):∀j,j<(Cv.dnL 41 0 n).length->Tl c (knS c S X++(Cv.rst 0 n S).zip D) ((Cv.dnL 41 0 n).getD j (0,0)).1 ((Cv.dnL 41 0 n).getD j (0,0)).2 ((pB c (Cv.dnL 41 0 n) S X D).getD j ByteArray.empty):=by
 obtain⟨h40,_,_,hc⟩:=Cv.Yt he;have hp:=Y9 hc;have hrow:Cv.Row n 0 (Cv.dnL 41 0 n):=by rw[<-Cv.Yh n h40];exact Cv.QaH 0 n (Lm _) h40
 have hfr:Fr 0 n S:=fun i hi=>Cv.YL hc i hi
 have ht:=Cv.Jd n S h40 hc;have hfB:fB (Cv.dnL 41 0 n) S=Cv.rst 0 n S:=by rw[Qc3 hrow hp hfr,<-Cv.QbQ n S h40 hc]
 refine QnN c _ _ 0 S X D hrow hp hfr (fun e hm h0 i hi hin=> ?_) (fun j hj=> ?_) (fun j hj=> ?_)
 ·rcases QfG hX hD hm with ⟨j,hj,rfl⟩|⟨j,hj,rfl⟩
  ·exact absurd h0 (NB 0)
  ·have hm:(Cv.rst 0 n S).getD j (0,0)∈Cv.rst 0 n S:=by rw[La,Ld hj];exact LN _
   exact((J1 ht _ hm).2 i hin.1 hin.2).2 hi
 ·exact NH _ (Nk (QfF c hX hj))
 ·rw[hfB] at hj ⊢;exact Id _ (Nk (Qd1 hD hj))
end
end
section
open Pl (pw QE QA Yw Qao OS)
open Cv (dnL cov Yh Row QaH)
theorem QbB{L:List (Nat×Nat)}{j:Nat}(hj:j<L.length):L.getD j (0,0)∈L:=by
 rw[La,Ld hj];exact LN hj
end
section
open Pl (pw QE QA Yw)
section
variable (c:Nat) (L:LB) (M:Nat->Nat->Option Nat) (D:LB) (V:Nat->BA)
def xd:Nat->Nat->BA
 | 0,k=>match M 0 k with
  | some j=>D.getD j ByteArray.empty
  | none=>dg c (Qw (V k))
 | h+1,k=>match M (h+1) k with
  | some j=>D.getD j ByteArray.empty
  | none=>dg c (Qz (xd h (2*k)) (xd h (2*k+1)))
def fp:Nat->Nat->Pq
 | 0,k=>match M 0 k with
  | some _=>none
  | none=>un (Qw (L.getD k ByteArray.empty)) (Qw (V k))
 | h+1,k=>match M (h+1) k with
  | some _=>none
  | none=>(un (Qz (nd c L h (2*k)) (nd c L h (2*k+1))) (Qz (xd c M D V h (2*k)) (xd c M D V h (2*k+1)))).or ((fp h (2*k)).or (fp h (2*k+1)))
def Vis(Q:Nat->Prop):Nat->Nat->Prop
 | 0,k=>M 0 k=none->Q k
 | h+1,k=>M (h+1) k=none->Vis Q h (2*k)∧Vis Q h (2*k+1)
end
section
variable {c:Nat} {L:LB} {M:Nat->Nat->Option Nat} {D:LB} {V:Nat->BA}
theorem Qhh{h k j:Nat}(e:M h k=some j):xd c M D V h k=D.getD j ByteArray.empty:=by
 cases h with
 | zero=>rw[xd,e]
 | succ h=>rw[xd,e]
theorem QaZ{k:Nat}(e:M 0 k=none):xd c M D V 0 k=dg c (Qw (V k)):=by rw[xd,e]
theorem O8{h k:Nat}(e:M (h+1) k=none):xd c M D V (h+1) k=dg c (Qz (xd c M D V h (2*k)) (xd c M D V h (2*k+1))):=by rw[xd,e]
theorem Qel{h k j:Nat}(e:M h k=some j):fp c L M D V h k=none:=by
 cases h with
 | zero=>rw[fp,e]
 | succ h=>rw[fp,e]
theorem QaK{k:Nat}(e:M 0 k=none):fp c L M D V 0 k=un (Qw (L.getD k ByteArray.empty)) (Qw (V k)):=by rw[fp,e]
theorem QaL{h k:Nat}(e:M (h+1) k=none):fp c L M D V (h+1) k=(un (Qz (nd c L h (2*k)) (nd c L h (2*k+1))) (Qz (xd c M D V h (2*k)) (xd c M D V h (2*k+1)))).or ((fp c L M D V h (2*k)).or (fp c L M D V h (2*k+1))):=by rw[fp,e]
theorem Uq(hc:c<=32)(hM:∀h k j,M h k=some j->j<D.length)(hD:∀s∈D,s.size=c)(h k:Nat):(xd c M D V h k).size=c:=by
 cases e:M h k with
 | some j=>rw[Qhh e];exact hD _ (QI (hM h k j e))
 | none=>
  cases h with
  | zero=>rw[QaZ e,Q3 hc]
  | succ h=>rw[O8 e,Q3 hc]
theorem Qjo(hc:c<=32)(hM:∀h k j,M h k=some j->j<D.length)(hD:∀s∈D,s.size=c):∀(h k:Nat) (q:BA×BA),nd c L h k=xd c M D V h k->fp c L M D V h k=some q->Clx c q:=by
 intro h
 induction h with
 | zero=>
  intro k q he hf
  cases e:M 0 k with
  | some j=>rw[Qel e] at hf;cases hf
  | none=>
   rw[QaK e] at hf;rw[QaZ e] at he;obtain⟨h1,rfl⟩:=O6 hf;exact⟨h1,he⟩
 | succ h ih=>
  intro k q he hf
  cases e:M (h+1) k with
  | some j=>rw[Qel e] at hf;cases hf
  | none=>
   rw[QaL e] at hf;rw[O8 e] at he
   rcases YS hf with hf|⟨h0,hf⟩
   ·obtain⟨h1,rfl⟩:=O6 hf;exact⟨h1,he⟩
   ·obtain⟨e1,e2⟩:=Qcx (by rw[QG hc,Uq hc hM hD]) (Jj h0)
    rcases YS hf with hf|⟨_,hf⟩
    ·exact ih _ _ e1 hf
    ·exact ih _ _ e2 hf
theorem Qjn(hc:c<=32)(hM:∀h k j,M h k=some j->j<D.length)(hD:∀s∈D,s.size=c):∀(h k:Nat),nd c L h k=xd c M D V h k->fp c L M D V h k=none -> ∀g i,g<=h->i/2^(h-g)=k->(∀t,g<t->t<=h->M t (i/2^(t-g))=none)->nd c L g i=xd c M D V g i∧(g=0->M 0 i=none->L.getD i ByteArray.empty=V i):=by
 intro h
 induction h with
 | zero=>
  intro k he hf g i hg hi ht;obtain rfl:g=0:=by omega
  obtain rfl:i=k:=by rw[NK,ND,IR] at hi;exact hi
  refine⟨he,fun _ e=> ?_⟩
  rw[QaK e] at hf;exact QhQ (Jj hf)
 | succ h ih=>
  intro k he hf g i hg hi ht
  by_cases hgh:g=h+1
  ·subst hgh;obtain rfl:i=k:=by rw[NK,ND,IR] at hi;exact hi
   exact⟨he,fun h0=>by omega⟩
  ·have e:=ht (h+1) (by omega) (Lb _)
   rw[hi] at e;rw[QaL e] at hf;rw[O8 e] at he;obtain⟨h0,h12⟩:=ON hf;obtain⟨h1,h2⟩:=ON h12;obtain⟨e1,e2⟩:=Qcx (by rw[QG hc,Uq hc hM hD]) (Jj h0)
   have hk:i/2^(h-g)/2=k:=by
    rw[LY,<-LO,show(h-g).succ=h+1-g by omega];exact hi
   have hcase:i/2^(h-g)=2*k∨i/2^(h-g)=2*k+1:=by omega
   rcases hcase with hx|hx
   ·exact ih (2*k) e1 h1 g i (by omega) hx fun t h3 h4=>ht t h3 (by omega)
   ·exact ih (2*k+1) e2 h2 g i (by omega) hx fun t h3 h4=>ht t h3 (by omega)
theorem QpY{Q:Nat->Prop}{K:List He}(h1:∀e∈K,(∃j,M e.1.1 e.1.2=some j∧D.getD j ByteArray.empty=e.2)∨(M e.1.1 e.1.2=none∧e.1.1=0∧Q e.1.2∧e.2=dg c (Qw (V e.1.2))))(h2:∀h k j,M h k=some j -> ∃u,((h,k),u)∈K):∀(h k:Nat) (v:BA),Tl c K h k v->Vis M Q h k∧xd c M D V h k=v:=by
 intro h
 induction h with
 | zero=>
  intro k v ht
  rcases h1 _ ht with ⟨j,e,hv⟩|⟨e,_,hq,hv⟩
  ·exact⟨fun e'=>absurd (e.symm.trans e') (by simp),(Qhh e).trans hv⟩
  ·exact⟨fun _=>hq,(QaZ e).trans hv.symm⟩
 | succ h ih=>
  intro k v ht
  rcases ht with ht|⟨hno,x,y,hx,hy,rfl⟩
  ·rcases h1 _ ht with ⟨j,e,hv⟩|⟨_,e,_⟩
   ·exact⟨fun e'=>absurd (e.symm.trans e') (by simp),(Qhh e).trans hv⟩
   ·cases e
  ·have e:M (h+1) k=none:=by
    cases e:M (h+1) k with
    | none=>rfl
    | some j=>obtain⟨u,hu⟩:=h2 _ _ j e;exact absurd hu (hno u)
   obtain⟨v1,e1⟩:=ih _ _ hx;obtain⟨v2,e2⟩:=ih _ _ hy;exact⟨fun _=>⟨v1,v2⟩,by rw[O8 e,e1,e2]⟩
end
def bg(c:Nat):LB->LB->Pq
 | p::p2::P,q::q2::Q=>(un (Jn p (Qx c (p2::P))) (Jn q (Qx c (q2::Q)))).or (bg c (p2::P) (q2::Q))
 | _,_=>none
def tp(c n:Nat)(P Q:LB):Pq:=(un (QO n (Qx c P)) (QO n (Qx c Q))).or (bg c P Q)
theorem Qd9{c:Nat} : ∀(P Q:LB),P.length=Q.length->(∀s∈P,s.size=c)->(∀s∈Q,s.size=c)->Qx c P=Qx c Q -> ∀q,bg c P Q=some q->Clx c q
 | [],_,_,_,_,_,q,h=>by rw[bg] at h;cases h;all_goals (intros;contradiction)
 | [_],_,_,_,_,_,q,h=>by rw[bg] at h;cases h;all_goals (intros;contradiction)
 | p::p2::P,[],hl,_,_,_,q,h=>by cases hl
 | p::p2::P,[_],hl,_,_,_,q,h=>by simp at hl
 | p::p2::P,q::q2::Q,hl,hP,hQ,he,r,h=>by
  rw[Qx,Qx] at he;rw[bg] at h
  rcases YS h with h|⟨h0,h⟩
  ·obtain⟨h1,rfl⟩:=O6 h;exact⟨h1,he⟩
  ·obtain⟨_,e2⟩:=Qd5 (by rw[hP p (by simp),hQ q (by simp)]) (Jj h0)
   exact Qd9 (p2::P) (q2::Q) (by simpa using hl) (fun s hs=>hP s (LR _ hs)) (fun s hs=>hQ s (LR _ hs)) e2 r h
theorem Qd8{c:Nat} : ∀(P Q:LB),P.length=Q.length->(∀s∈P,s.size=c)->(∀s∈Q,s.size=c)->Qx c P=Qx c Q->bg c P Q=none->P=Q
 | [],[],_,_,_,_,_=>rfl
 | [],_::_,hl,_,_,_,_=>by cases hl
 | [p],[],hl,_,_,_,_=>by cases hl
 | [p],[q],_,_,_,he,_=>by rw[Qx,Qx] at he;rw[he]
 | [p],_::_::_,hl,_,_,_,_=>by simp at hl
 | p::p2::P,[],hl,_,_,_,h=>by cases hl
 | p::p2::P,[_],hl,_,_,_,h=>by simp at hl
 | p::p2::P,q::q2::Q,hl,hP,hQ,he,h=>by
  rw[Qx,Qx] at he;rw[bg] at h;obtain⟨h0,h⟩:=ON h;obtain⟨e1,e2⟩:=Qd5 (by rw[hP p (by simp),hQ q (by simp)]) (Jj h0)
  rw[e1,Qd8 (p2::P) (q2::Q) (by simpa using hl) (fun s hs=>hP s (LR _ hs)) (fun s hs=>hQ s (LR _ hs)) e2 h]
theorem Qk0{c n:Nat}{P Q:LB}(hl:P.length=Q.length)(hP:∀s∈P,s.size=c)(hQ:∀s∈Q,s.size=c)(he:dg c (QO n (Qx c P))=dg c (QO n (Qx c Q))){q:BA×BA}(h:tp c n P Q=some q):Clx c q:=by
 rw[tp] at h
 rcases YS h with h|⟨h0,h⟩
 ·obtain⟨h1,rfl⟩:=O6 h;exact⟨h1,he⟩
 ·exact Qd9 P Q hl hP hQ (QcE (Jj h0)) q h
theorem QkZ{c n:Nat}{P Q:LB}(hl:P.length=Q.length)(hP:∀s∈P,s.size=c)(hQ:∀s∈Q,s.size=c)(h:tp c n P Q=none):P=Q:=by
 rw[tp] at h;obtain⟨h0,h⟩:=ON h;exact Qd8 P Q hl hP hQ (QcE (Jj h0)) h
def fm(f:Nat->Nat->Pq):List (Nat×Nat)->Pq
 | []=>none
 | b::B=>(f b.1 b.2).or (fm f B)
theorem Qc8{f:Nat->Nat->Pq}{q:BA×BA} : ∀ {B:List (Nat×Nat)},fm f B=some q -> ∃b∈B,f b.1 b.2=some q
 | [],h=>by cases h
 | b::B,h=>by
  rcases YS h with h|⟨_,h⟩
  ·exact⟨b,Nt ..,h⟩
  ·obtain⟨b',hb,h'⟩:=Qc8 h;exact⟨b',LR _ hb,h'⟩
theorem QgJ{f:Nat->Nat->Pq} : ∀ {B:List (Nat×Nat)},fm f B=none -> ∀b∈B,f b.1 b.2=none
 | [],_,b,hb=>by cases hb
 | m::B,h,b,hb=>by
  obtain⟨h1,h2⟩:=ON h
  rcases List.mem_cons.1 hb with rfl|hb
  ·exact h1
  ·exact QgJ h2 b hb
def wk(c n:Nat)(L:LB)(M:Nat->Nat->Option Nat)(D:LB)(V:Nat->BA)(B:List (Nat×Nat)):Pq:=(tp c n (B.map fun b=>nd c L b.1 b.2) (B.map fun b=>xd c M D V b.1 b.2)).or (fm (fp c L M D V) B)
theorem Qle{c n:Nat}{L:LB}{M:Nat->Nat->Option Nat}{D:LB}{V:Nat->BA}{B:List (Nat×Nat)}(hc:c<=32)(hM:∀h k j,M h k=some j->j<D.length)(hD:∀s∈D,s.size=c)(he:dg c (QO n (Qx c (B.map fun b=>nd c L b.1 b.2)))=dg c (QO n (Qx c (B.map fun b=>xd c M D V b.1 b.2)))) :
  (∃q,wk c n L M D V B=some q∧Clx c q)∨(wk c n L M D V B=none ∧ ∀b∈B,nd c L b.1 b.2=xd c M D V b.1 b.2∧fp c L M D V b.1 b.2=none):=by
 have hP:∀s∈B.map fun b=>nd c L b.1 b.2,s.size=c:=fun s hs=>by
  obtain⟨b,_,rfl⟩:=List.mem_map.1 hs;exact QG hc _ _ _
 have hQ:∀s∈B.map fun b=>xd c M D V b.1 b.2,s.size=c:=fun s hs=>by
  obtain⟨b,_,rfl⟩:=List.mem_map.1 hs;exact Uq hc hM hD _ _
 have hl:(B.map fun b=>nd c L b.1 b.2).length=(B.map fun b=>xd c M D V b.1 b.2).length:=by rw[LI,LI]
 cases ht:tp c n (B.map fun b=>nd c L b.1 b.2) (B.map fun b=>xd c M D V b.1 b.2) with
 | some q=>exact .inl ⟨q,by rw[wk,ht];rfl,Qk0 hl hP hQ he ht⟩
 | none=>
  have ha:=List.map_inj_left.1 (QkZ hl hP hQ ht)
  cases hf:fm (fp c L M D V) B with
  | some q=>
   obtain⟨b,hb,hq⟩:=Qc8 hf;exact .inl ⟨q,by rw[wk,ht,hf];rfl,Qjo hc hM hD _ _ q (ha b hb) hq⟩
  | none=>exact .inr ⟨by rw[wk,ht,hf];rfl,fun b hb=>⟨ha b hb,QgJ hf b hb⟩⟩
end
theorem Ql6{h i n:Nat}(hi:(i+1)*2^(h+1)<=n):(2*i+1)*2^h<=n∧(2*i+1+1)*2^h<=n:=by
 have e:(i+1)*2^(h+1)=(2*i+1+1)*2^h:=by rw[LO,L3 (2^h),<-L5];congr 1;omega
 rw[e] at hi;exact⟨Lt (LT _ (by omega)) hi,hi⟩
theorem Qbs{h i n:Nat}(hi:(i+1)*2^h<=n):i<n:=by
 have:=IG (i+1) (Nat.one_le_two_pow (n:=h));omega
def ixM(Bs:List (Nat×Nat))(h k:Nat):Option Nat:=if (h,k)∈Bs then some (Bs.idxOf (h,k)) else none
theorem Qma{Bs:List (Nat×Nat)}{b:Nat×Nat}(hb:b ∉ Bs)(h k:Nat):ixM (Bs++[b]) h k=if (h,k)=b then some Bs.length else ixM Bs h k:=by
 unfold ixM
 by_cases h1:(h,k)∈Bs
 ·have h2:(h,k)≠b:=fun e=>hb (e ▸ h1)
  rw[Le h2,Lo h1,Lo (NH _ h1),List.idxOf_append,Lo h1]
 ·by_cases h2:(h,k)=b
  ·rw[Lo h2,Lo (by rw[h2];simp),List.idxOf_append,Le h1,h2,List.idxOf_cons_self,Lp]
  ·rw[Le h2,Le h1,Le (by simp[h1,h2])]
theorem QjE{Bs:List (Nat×Nat)}{h k j:Nat}(e:ixM Bs h k=some j):j<Bs.length:=by
 unfold ixM at e
 split at e
 ·rename_i hm
  cases e;exact N6 hm
 ·cases e
theorem Qoy{Bs:List (Nat×Nat)}{h k j:Nat}(e:ixM Bs h k=some j):Bs.getD j (0,0)=(h,k):=by
 unfold ixM at e
 split at e
 ·rename_i hm
  cases e;have:=N6 hm;rw[La,Ld this];exact Wb this
 ·cases e
theorem OF{Bs:List (Nat×Nat)}{h k:Nat} : ixM Bs h k=none↔(h,k) ∉ Bs:=by
 unfold ixM
 split
 ·rename_i hm;simp[hm]
 ·rename_i hm;simp[hm]
end Go.Proofs.YtoblgjledefdbabGreatDoor
