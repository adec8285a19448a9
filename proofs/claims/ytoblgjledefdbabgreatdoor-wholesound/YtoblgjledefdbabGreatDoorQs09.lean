/- Own work. -/
import Derived.Test.YtoblgjledefdbabGreatDoorQs07
import Derived.Test.YtoblgjledefdbabGreatDoorQs08
set_option maxRecDepth 100000
namespace Go.Proofs.YtoblgjledefdbabGreatDoor
open Go.RowKit
attribute [local go_sem ↓] Go.wp_at_zero Go.wp_at_succ
open Go.Proofs.Tryz
namespace Cv
open Pl
def inb(H K i:Nat):Bool:=decide (K*pw H<=i) && decide (i<(K+1)*pw H)
def tno:Nat->Nat->List Nat->List (Nat×Nat)
 | 0,K,S=>if (S.filter (inb 0 K)).length=0 then [(0,K)] else []
 | H+1,K,S=>if (S.filter (inb (H+1) K)).length=0 then [(H+1,K)] else tno H (2*K) (S.filter (inb (H+1) K))++tno H (2*K+1) (S.filter (inb (H+1) K))
theorem QD{H K i:Nat} : inb H K i=true↔K*pw H<=i∧i<(K+1)*pw H:=by simp[inb]
theorem U0(H K:Nat):(2*K)*pw H=K*pw (H+1):=(Q5 K H).symm
theorem Qbr(H K:Nat):(2*K+1)*pw H=K*pw (H+1)+pw H:=by rw[L4,Na,U0]
theorem Ul(H K:Nat):(2*K+1+1)*pw H=(K+1)*pw (H+1):=by rw[show 2*K+1+1=2*(K+1) by omega,U0]
theorem Qgt(H K:Nat):(K+1)*pw (H+1)=K*pw (H+1)+pw H+pw H:=by rw[L4,Na,QE];omega
theorem Qg8{A:Nat->Prop}{H K:Nat}(ha:All A H K)(hp:¬All A (H+1) (K/2)):Til A ((K+1)*pw H) (K*pw H) [(H,K)] :=
 ⟨Lb _,Lb _,fun i h1 h2=>by dsimp only at h2;omega,ha,hp,Lb _,fun i h1 h2=>by dsimp only at h1;omega⟩
theorem Qnl(A:Nat->Prop):∀H K (S:List Nat),(∀i,K*pw H<=i->i<(K+1)*pw H->(A i↔i ∉ S)) -> ¬All A (H+1) (K/2)->Til A ((K+1)*pw H) (K*pw H) (tno H K S):=by
 intro H
 induction H with
 | zero=>
  intro K S hA hp;rw[tno];have e0:pw 0=1:=rfl
  split
  ·rename_i h
   refine Qg8 (fun i h1 h2=>(hA i h1 h2).2 (fun hi=> ?_)) hp
   have hm:i∈S.filter (inb 0 K):=List.mem_filter.2 ⟨hi,QD.2 ⟨h1,h2⟩⟩;rw[List.length_eq_zero_iff.1 h] at hm
   cases hm
  ·rename_i h
   refine⟨by rw[e0];omega,fun i h1 h2 hr=>h ?_⟩
   cases hm:S.filter (inb 0 K) with
   | nil=>rfl
   | cons s M=>
    have hs:s∈S.filter (inb 0 K):=by rw[hm];exact Nt
    obtain⟨g1,g2⟩:=List.mem_filter.1 hs;obtain⟨g3,g4⟩:=QD.1 g2;rw[e0] at *;obtain rfl:i=s:=by omega
    exact absurd g1 ((hA i h1 h2).1 hr)
 | succ H ih=>
  intro K S hA hp;rw[tno];have hb:=Qgt H K;have hpp:=QA H
  split
  ·rename_i h
   refine Qg8 (fun i h1 h2=>(hA i h1 h2).2 (fun hi=> ?_)) hp
   have hm:i∈S.filter (inb (H+1) K):=List.mem_filter.2 ⟨hi,QD.2 ⟨h1,h2⟩⟩;rw[List.length_eq_zero_iff.1 h] at hm
   cases hm
  ·rename_i h
   have hno:¬All A (H+1) K:=fun hall=>h (by
    cases hm:S.filter (inb (H+1) K) with
    | nil=>rfl
    | cons s M=>
     have hs:s∈S.filter (inb (H+1) K):=by rw[hm];exact Nt
     obtain⟨g1,g2⟩:=List.mem_filter.1 hs;obtain⟨g3,g4⟩:=QD.1 g2;exact absurd g1 ((hA s g3 g4).1 (hall s g3 g4)))
   have hM:∀i,K*pw (H+1)<=i->i<(K+1)*pw (H+1)->(A i↔i ∉ S.filter (inb (H+1) K)):=fun i h1 h2=>by
    rw[hA i h1 h2,List.mem_filter,QD];exact⟨fun h g=>h g.1,fun h g=>h ⟨g,h1,h2⟩⟩
   have e1:=U0 H K;have e2:=Qbr H K;have e3:=Ul H K;have t1:=ih (2*K) (S.filter (inb (H+1) K)) (fun i h1 h2=>hM i (by omega) (by omega)) (by rw[show 2*K/2=K by omega];exact hno)
   have t2:=ih (2*K+1) (S.filter (inb (H+1) K)) (fun i h1 h2=>hM i (by omega) (by omega)) (by rw[show(2*K+1)/2=K by omega];exact hno)
   rw[Ul] at t2;rw[U0] at t1;exact QdR t2 t1
theorem QoF{A:Nat->Prop}{n:Nat}(t:Nat->Nat->List (Nat×Nat))(ht:∀h k,(k+1)*pw h<=n -> ¬All A (h+1) (k/2)->Til A ((k+1)*pw h) (k*pw h) (t h k))(hn:¬A n) :
  ∀h x,(∃c,x=c*pw h)->n-x<pw h->x<=n->Til A n x ((dnL h x n).flatMap (fun b=>t b.1 b.2)):=by
 intro h
 induction h with
 | zero=>
  intro x _ h2 h3;rw[Yw] at h2;exact⟨h3,fun i h5 h6=>by omega⟩
 | succ h ih=>
  intro x h1 h2 h3;obtain⟨c,hc⟩:=h1;have hp:=QA h;have hps:=QE h;rw[Q5] at hc;rw[dnL]
  split
  ·rename_i hfit
   have hk:x/pw h=2*c:=by rw[hc];exact NO _ hp
   have e1:(2*c+1)*pw h=x+pw h:=by rw[L4,Na,<-hc]
   have e2:2*c/2=c:=by omega
   have e3:c*pw (h+1)=x:=by rw[Q5];exact hc.symm
   rw[hk,Iu];have t1:=ht h (2*c) (by omega) (by rw[e2];exact fun hall=>hn (hall n (by omega) (by rw[L4,Na,e3];omega)))
   have t2:=ih (x+pw h) ⟨2*c+1,e1.symm⟩ (by omega) (by omega)
   rw[<-e1] at t2;rw[<-hc] at t1;rw[<-e1];exact QdR t2 t1
  ·exact ih x ⟨2*c,hc⟩ (by omega) h3
theorem mt_all {A:Nat->Prop} {n:Nat} (t:Nat->Nat->List (Nat×Nat)) (ht:∀h k,(k+1)*pw h<=n -> ¬All A (h+1) (k/2)->Til A ((k+1)*pw h) (k*pw h) (t h k)) (hn:¬A n) (h40:n<=2^40) :
    Til A n 0 ((dnL 41 0 n).flatMap (fun b=>t b.1 b.2)) :=
  QoF t ht hn 41 0 ⟨0, by simp⟩ (by have:pw 41=2 ^ 41:=rfl
                                    omega) (Lm _)
theorem QmK(h k:Nat):k/2*pw (h+1)<=k*pw h∧(k+1)*pw h<=(k/2+1)*pw (h+1):=by
 rw[Q5,Q5];exact⟨LT _ (by omega),LT _ (by omega)⟩
theorem Qha{A:Nat->Prop}{lo hi:Nat}(hA:∀j,lo<=j->j<hi->A j)(hl:lo=0 ∨ ¬A (lo-1))(hh:¬A hi):∀ {L:List (Nat×Nat)} {p:Nat},lo<=p->Til (Rg lo hi) hi p L->Til A hi p L:=by
 intro L
 induction L with
 | nil=>intro p h1 h2;exact⟨h2.1,fun i i1 i2=>absurd ⟨by omega,i2⟩ (h2.2 i i1 i2)⟩
 | cons b L ih=>
  intro p h1 h2;obtain⟨a1,a2,a3,a4,a5,a6⟩:=h2;have hlt:=Yx b.1 b.2;refine⟨a1,a2,fun i i1 i2=>absurd ⟨by omega,by omega⟩ (a3 i i1 i2),fun i i1 i2=>hA i (by omega) (by omega),fun hall=>a5 (fun i i1 i2=> ?_),ih (by omega) a6⟩
  obtain⟨p1,p2⟩:=QmK b.1 b.2;refine⟨?_,?_⟩
  ·by_cases hlo:lo<=i
   ·exact hlo
   ·rcases hl with hl|hl
    ·omega
    ·exact absurd (hall (lo-1) (by omega) (by omega)) hl
  ·by_cases hhi:i<hi
   ·exact hhi
   ·exact absurd (hall hi (by omega) (by omega)) hh
theorem YL:∀ {S:List Nat} {x n:Nat},Yf x S n -> ∀s∈S,x<=s∧s<n:=by
 intro S
 induction S with
 | nil=>intro x n _ s hs;cases hs
 | cons i S ih=>
  intro x n h s hs;have h1:=h.1;have h2:=Ov h.2
  rcases List.mem_cons.1 hs with rfl|hs
  ·exact⟨h1,by omega⟩
  ·have:=ih h.2 s hs;omega
theorem Qm1{A:Nat->Prop}{n:Nat}(hn:n<=2^40):∀(S:List Nat) (x:Nat),(∀i,x<=i->(A i↔i<n∧i ∉ S))->(x=0 ∨ ¬A (x-1))->Yf x S n->Til A n x (rst x n S):=by
  intro S
  induction S with
  | nil=>
    intro x hA hx hc;have hc':x<=n:=hc;exact Qha (fun j j1 j2=>(hA j j1).2 ⟨j2,by simp⟩) hx (fun h=>by have:=((hA n hc').1 h).1;omega) (Lb _) (QaI x n hc' hn)
  | cons i S ih=>
    intro x hA hx hc;obtain⟨c1,c2⟩:=hc;have hin:=Ov c2;have hni:¬A i:=fun h=>((hA i c1).1 h).2 Nt
    have t1:Til A i x (cov x i):=Qha (fun j j1 j2=>(hA j j1).2 ⟨by omega,fun hj=>by
      rcases List.mem_cons.1 hj with rfl|hj
      · omega
      · have:=YL c2 j hj;omega⟩) hx hni (Lb _) (QaI x i c1 (by omega))
    have t2:Til A n (i+1) (rst (i+1) n S):=ih (i+1) (fun j j1=>by
      rw[hA j (by omega)]
      refine⟨fun h=>⟨h.1,fun hj=>h.2 (LR _ hj)⟩,fun h=>⟨h.1,fun hj=> ?_⟩⟩
      rcases List.mem_cons.1 hj with rfl|hj
      · omega
      · exact h.2 hj) (.inr (by rw[Ny];exact hni)) c2
    exact QdR (Qg9 t2 (Wj i) (fun j j1 j2=>by obtain rfl:j=i:=by omega
                                              exact hni)) t1
abbrev But(n:Nat)(S:List Nat):Nat->Prop:=fun i=>i<n∧i ∉ S
theorem Jd(n:Nat)(S:List Nat)(hn:n<=2^40)(hc:Yf 0 S n):Til (But n S) n 0 (rst 0 n S):=Qm1 hn S 0 (fun _ _=>Iff.rfl) (.inl rfl) hc
theorem QbQ(n:Nat)(S:List Nat)(hn:n<=2^40)(hc:Yf 0 S n):rst 0 n S=(dnL 41 0 n).flatMap (fun b=>tno b.1 b.2 S) :=
 Qnj (Jd n S hn hc) (mt_all (fun h k=>tno h k S) (fun h k hk hp=>Qnl _ h k S (fun i _ i2=>⟨fun h=>h.2,fun h=>⟨by omega,h⟩⟩) hp) (fun h=>by have:=h.1;omega) hn)
theorem Qkj(H K:Nat):∀M:List Nat,(∀i∈M,inb (H+1) K i=true)->(M.filter (inb H (2*K))).length+(M.filter (inb H (2*K+1))).length=M.length:=by
 have e1:=U0 H K;have e2:=Qbr H K;have e3:=Ul H K;intro M
 induction M with
 | nil=>intro _;rfl
 | cons i M ih=>
  intro h;have h1:=QD.1 (h i Nt);have h2:=ih (fun j hj=>h j (LR _ hj))
  by_cases hm:i<(2*K+1)*pw H
  ·have a1:inb H (2*K) i=true:=QD.2 ⟨by omega,hm⟩
   have a2:inb H (2*K+1) i=false:=by
    cases hb:inb H (2*K+1) i with
    | false=>rfl
    | true=>have:=(QD.1 hb).1;omega
   rw[NP a1,Nv (by rw[a2];decide),LJ,LJ];omega
  ·have a1:inb H (2*K+1) i=true:=QD.2 ⟨by omega,by omega⟩
   have a2:inb H (2*K) i=false:=by
    cases hb:inb H (2*K) i with
    | false=>rfl
    | true=>have:=(QD.1 hb).2;omega
   rw[NP a1,Nv (by rw[a2];decide),LJ,LJ];omega
theorem Qc6(S:List Nat)(H K:Nat):∀i∈S.filter (inb H K),inb H K i=true:=fun _ hi=>(List.mem_filter.1 hi).2
theorem QcP:∀H K (S:List Nat),((S.filter (inb H K)).length=0->(tno H K S).length=1)∧((S.filter (inb H K)).length≠0->(tno H K S).length<=(S.filter (inb H K)).length*H):=by
 intro H
 induction H with
 | zero=>
  intro K S;refine⟨fun h=>by rw[tno,Lo h];rfl,fun h=>by rw[tno,Le h];simp⟩
 | succ H ih=>
  intro K S;refine⟨fun h=>by rw[tno,Lo h];rfl,fun h=> ?_⟩
  rw[tno,Le h,Lh];have hp:=Qkj H K (S.filter (inb (H+1) K)) (Qc6 S (H+1) K);obtain⟨l0,l1⟩:=ih (2*K) (S.filter (inb (H+1) K));obtain⟨r0,r1⟩:=ih (2*K+1) (S.filter (inb (H+1) K));generalize ((S.filter (inb (H+1) K)).filter (inb H (2*K))).length=a at *;generalize ((S.filter (inb (H+1) K)).filter (inb H (2*K+1))).length=b at *;generalize (tno H (2*K) (S.filter (inb (H+1) K))).length=x at *;generalize (tno H (2*K+1) (S.filter (inb (H+1) K))).length=y at *;generalize (S.filter (inb (H+1) K)).length=c at *;subst hp;rw[N9,Nr,L4]
  by_cases ha:a=0
  ·have:=l0 ha;have hb:b≠0:=by omega
   have:=r1 hb;subst ha;omega
  ·have:=l1 ha
   by_cases hb:b=0
   ·have:=r0 hb;subst hb;omega
   ·have:=r1 hb;omega
theorem Qa6:∀ {S:List Nat} {a n:Nat} (_:Yf a S n) (j:Nat),j<S.length->S.getD j 0<n∧a<=S.getD j 0 ∧ ∀t,t<j->S.getD t 0<S.getD j 0:=by
 intro S
 induction S with
 | nil=>intro a n _ j hj;simp at hj
 | cons s r ih=>
  intro a n h j hj;have hle:=Ov h.2
  cases j with
  | zero=>exact⟨by simp;omega,by simpa using h.1,fun t ht=>absurd ht (NS t)⟩
  | succ j=>
   obtain⟨g1,g2,g3⟩:=ih h.2 j (by simp at hj;omega)
   have h1:=h.1;refine⟨by simpa using g1,by simp;simp at g2;omega,fun t ht=> ?_⟩
   cases t with
   | zero=>simp;simp at g2;omega
   | succ t=>have:=g3 t (by omega);simpa using this
theorem Qhw{S:List Nat}{n:Nat}(h:Yf 0 S n)(h0:S≠[])(hn:n<=2^40):Ya n S=0:=by
 have hl:0<S.length:=List.length_pos_iff.2 h0;have hi:Inc S:=⟨hl,fun i hi=>(Qa6 h (i+1) hi).2.2 i (by omega)⟩
 have hlast:=(Qa6 h (S.length-1) (by omega)).1
 rw[Ya,Le (by omega),Le (by rw[(UD S).2 hi];decide),Le (by omega)]
end Cv
section
open Pl (pw QE QA Yw)
open Cv (tno inb QD)
def bl(S:List Nat)(x:Nat):Nat:=(S.filter fun i=>decide (i<x)).length
theorem Qcd(S:List Nat)(x:Nat):bl S x<=S.length:=List.length_filter_le _ _
abbrev Asc(S:List Nat):Prop:=S.Pairwise (· < ·)
theorem Ux(x:Nat):∀ {S:List Nat},Asc S->S.filter (fun i=>decide (i<x))=S.take (bl S x)∧S.filter (fun i=>decide (x<=i))=S.drop (bl S x)
 | [],_=>⟨rfl,rfl⟩
 | a::S,h=>by
  obtain⟨h1,h2⟩:=List.pairwise_cons.1 h;obtain⟨i1,i2⟩:=Ux x h2
  by_cases ha:a<x
  ·have e:bl (a::S) x=bl S x+1:=by simp[bl,ha]
   have hn:¬x<=a:=by omega
   rw[e,List.take_succ_cons,List.drop_succ_cons,<-i1,<-i2]
   constructor
   ·rw[NP (by simpa using ha)]
   ·rw[Nv (by simpa using hn)]
  ·have hn:∀i∈S,¬i<x:=fun i hi=>by have:=h1 i hi;omega
   have e1:S.filter (fun i=>decide (i<x))=[]:=List.filter_eq_nil_iff.2 (by simpa using hn)
   have e:bl (a::S) x=0:=by rw[bl,Nv (by simpa using ha),e1];rfl
   rw[e]
   constructor
   ·rw[Nv (by simpa using ha),e1];rfl
   ·refine List.filter_eq_self.2 fun i hi=> ?_
    rcases List.mem_cons.1 hi with rfl|hi
    ·simpa using ha
    ·simpa using hn i hi
theorem QgV{S:List Nat}{x i:Nat}(h:Asc S)(hi:i∈S.take (bl S x)):i<x:=by
 rw[<-(Ux x h).1] at hi
 simpa using (List.mem_filter.1 hi).2
theorem Qez{S:List Nat}{x i:Nat}(h:Asc S)(hi:i∈S.drop (bl S x)):x<=i:=by
 rw[<-(Ux x h).2] at hi
 simpa using (List.mem_filter.1 hi).2
theorem Oq{S:List Nat}(h:Asc S)(t:Nat):Asc (S.take t):=h.sublist (Iy _ _)
theorem Jr{S:List Nat}(h:Asc S)(t:Nat):Asc (S.drop t):=h.sublist (NY _ _)
theorem QbC{S:List Nat}{t i:Nat}(hi:i∈S.take t):i∈S:=(Iy _ _).subset hi
theorem QbA{S:List Nat}{t i:Nat}(hi:i∈S.drop t):i∈S:=(NY _ _).subset hi
theorem O3(h k:Nat)(S:List Nat):tno h k (S.filter (inb h k))=tno h k S:=by
 cases h <;> simp only[tno,List.filter_filter,Bool.and_self]
theorem O4(h k:Nat):tno h k []=[(h,k)]:=by cases h <;> rfl
abbrev In(h k:Nat)(S:List Nat):Prop := ∀i∈S,k*pw h<=i∧i<(k+1)*pw h
theorem Qdg{h k:Nat}{S:List Nat}(hp:Asc S)(hS:In (h+1) k S):S.filter (inb h (2*k))=S.take (bl S ((2*k+1)*pw h))∧S.filter (inb h (2*k+1))=S.drop (bl S ((2*k+1)*pw h)):=by
 obtain⟨h1,h2⟩:=Ux ((2*k+1)*pw h) hp;rw[<-h1,<-h2];have e1:=Cv.U0 h k;have e2:=Cv.Ul h k
 constructor
 ·refine IT fun i hi=> ?_
  have:=hS i hi;rw[I2,QD,decide_eq_true_iff];omega
 ·refine IT fun i hi=> ?_
  have:=hS i hi;rw[I2,QD,decide_eq_true_iff];omega
theorem Qjz{h k:Nat}{S:List Nat}(hp:Asc S)(hS:In (h+1) k S):In h (2*k) (S.take (bl S ((2*k+1)*pw h))):=fun i hi=>by
 rw[<-(Qdg hp hS).1] at hi;exact QD.1 (List.mem_filter.1 hi).2
theorem QgP{h k:Nat}{S:List Nat}(hp:Asc S)(hS:In (h+1) k S):In h (2*k+1) (S.drop (bl S ((2*k+1)*pw h))):=fun i hi=>by
 rw[<-(Qdg hp hS).2] at hi;exact QD.1 (List.mem_filter.1 hi).2
theorem Qhb{h k:Nat}{S:List Nat}(hp:Asc S)(hS:In (h+1) k S)(h0:S≠[]):tno (h+1) k S=tno h (2*k) (S.take (bl S ((2*k+1)*pw h)))++tno h (2*k+1) (S.drop (bl S ((2*k+1)*pw h))):=by
 have e:S.filter (inb (h+1) k)=S:=List.filter_eq_self.2 fun i hi=>QD.2 (hS i hi)
 rw[tno,e,Le (by simpa [List.length_eq_zero_iff] using h0),<-O3 h (2*k) S,<-O3 h (2*k+1) S,(Qdg hp hS).1,(Qdg hp hS).2]
theorem QkY{k:Nat}{S:List Nat}(hS:In 0 k S)(h0:S≠[]):tno 0 k S=[]:=by
 have e:S.filter (inb 0 k)=S:=List.filter_eq_self.2 fun i hi=>QD.2 (hS i hi)
 rw[tno,e,Le (by simpa [List.length_eq_zero_iff] using h0)]
theorem Qov{k i:Nat}{S:List Nat}(hS:In 0 k (i::S)):i=k:=by
 have:=hS i (Nt ..);rw[Yw] at this;omega
def vB(c:Nat):Nat->Nat->List Nat->LB->LB->BA
 | 0,_,S,X,D=>if S.length=0 then D.getD 0 ByteArray.empty else dg c (Qw (X.getD 0 ByteArray.empty))
 | h+1,k,S,X,D=>if S.length=0 then D.getD 0 ByteArray.empty else dg c (Qz (vB c h (2*k) (S.take (bl S ((2*k+1)*pw h))) (X.take (bl S ((2*k+1)*pw h))) D) (vB c h (2*k+1) (S.drop (bl S ((2*k+1)*pw h))) (X.drop (bl S ((2*k+1)*pw h))) (D.drop (tno h (2*k) (S.take (bl S ((2*k+1)*pw h)))).length)))
theorem QdV(c h k:Nat)(X D:LB):vB c h k [] X D=D.getD 0 ByteArray.empty:=by cases h <;> simp[vB]
theorem QdU(c k:Nat){S:List Nat}(X D:LB)(h0:S≠[]):vB c 0 k S X D=dg c (Qw (X.getD 0 ByteArray.empty)):=by
 rw[vB,Le (by simpa [List.length_eq_zero_iff] using h0)]
theorem Qgf(c h k:Nat){S:List Nat}(X D:LB)(h0:S≠[]){t:Nat}(ht:bl S ((2*k+1)*pw h)=t):vB c (h+1) k S X D=dg c (Qz (vB c h (2*k) (S.take t) (X.take t) D) (vB c h (2*k+1) (S.drop t) (X.drop t) (D.drop (tno h (2*k) (S.take t)).length))):=by
 rw[vB,Le (by simpa [List.length_eq_zero_iff] using h0),ht]
theorem QdW{c:Nat}(hc:c<=32):∀(h k:Nat) (S:List Nat) (X D:LB),(∀s∈D,s.size=c)->0<D.length∨S≠[]->(vB c h k S X D).size=c:=by
 intro h k S X D hD h0
 by_cases hS:S=[]
 ·subst hS;rw[QdV];exact hD _ (QI (by rcases h0 with h0|h0;exact h0;exact absurd rfl h0))
 ·cases h with
  | zero=>rw[QdU c k X D hS];exact Q3 hc _
  | succ h=>rw[Qgf c h k X D hS rfl];exact Q3 hc _
def Tl(c:Nat)(K:List ((Nat×Nat)×BA)):Nat->Nat->BA->Prop
 | 0,k,v=>((0,k),v)∈K
 | h+1,k,v=>((h+1,k),v)∈K∨((∀u,((h+1,k),u) ∉ K) ∧ ∃x y,Tl c K h (2*k) x∧Tl c K h (2*k+1) y∧v=dg c (Qz x y))
theorem Tl.at{c:Nat}{K:List ((Nat×Nat)×BA)}{h k:Nat}{v:BA}(e:((h,k),v)∈K):Tl c K h k v:=by
 cases h with
 | zero=>exact e
 | succ h=>exact .inl e
theorem UC{α:Type}(d:α)(A B:List α)(j:Nat):(A++B).getD (A.length+j) d=B.getD j d:=by
 rw[La,LW (by omega),IQ,La]
theorem Jy{α:Type}(d:α)(A B:List α){j:Nat}(h:j<A.length):(A++B).getD j d=A.getD j d:=by
 rw[La,LG h,La]
theorem UZ{α:Type}(d:α)(A:List α)(t j:Nat):(A.drop t).getD j d=A.getD (t+j) d:=by
 rw[La,Nx,La]
theorem Oz{α:Type}(d:α)(A:List α){t j:Nat}(h:j<t):(A.take t).getD j d=A.getD j d:=by
 rw[La,Nf,Lo h,La]
theorem QpU(c:Nat)(K:List ((Nat×Nat)×BA)):∀(h k:Nat) (S:List Nat) (X D:LB),Asc S->In h k S->(∀e∈K,0<e.1.1 -> ∀i∈S,¬(e.1.2*pw e.1.1<=i∧i<(e.1.2+1)*pw e.1.1))->(∀j,j<S.length->((0,S.getD j 0),dg c (Qw (X.getD j ByteArray.empty)))∈K)->(∀j,j<(tno h k S).length->((tno h k S).getD j (0,0),D.getD j ByteArray.empty)∈K)->Tl c K h k (vB c h k S X D):=by
 intro h
 induction h with
 | zero=>
  intro k S X D hp hS hK hX hD
  cases S with
  | nil=>rw[QdV];exact Tl.at (hD 0 (by rw[O4];exact Nat.zero_lt_one))
  | cons i S=>
   obtain rfl:=Qov hS;rw[QdU c i X D (by simp)]
   exact hX 0 (by simp)
 | succ h ih=>
  intro k S X D hp hS hK hX hD
  by_cases h0:S=[]
  ·subst h0;rw[QdV];exact Tl.at (hD 0 (by rw[O4];exact Nat.zero_lt_one))
  ·obtain⟨t,ht⟩:∃t,bl S ((2*k+1)*pw h)=t:=⟨_,rfl⟩;have htl:t<=S.length:=by rw[<-ht];exact Qcd _ _
   have l1:=Qjz hp hS;have l2:=QgP hp hS;have l3:=Qhb hp hS h0;rw[ht] at l1 l2 l3;rw[Qgf c h k X D h0 ht];refine .inr ⟨fun u hu=> ?_,_,_,?_,?_,rfl⟩
   ·obtain⟨i,hi⟩:=List.exists_mem_of_ne_nil S h0;exact hK _ hu (Nat.succ_pos h) i hi (hS i hi)
   ·refine ih (2*k) _ _ D (Oq hp _) l1 (fun e he h1 i hi=>hK e he h1 i (QbC hi)) (fun j hj=> ?_) (fun j hj=> ?_)
    ·rw[Lv] at hj;rw[Oz _ _ (by omega),Oz _ _ (by omega)]
     exact hX j (by omega)
    ·have:=hD j (by rw[l3,Lh];omega)
     rwa [l3,Jy _ _ _ hj] at this
   ·refine ih (2*k+1) _ _ _ (Jr hp _) l2 (fun e he h1 i hi=>hK e he h1 i (QbA hi)) (fun j hj=> ?_) (fun j hj=> ?_)
    ·rw[LD] at hj;rw[UZ,UZ];exact hX (t+j) (by omega)
    ·have:=hD ((tno h (2*k) (S.take t)).length+j) (by rw[l3,Lh];omega)
     rwa [l3,UC,<-UZ] at this
def pB(c:Nat):List (Nat×Nat)->List Nat->LB->LB->LB
 | [],_,_,_=>[]
 | m::M,S,X,D=>vB c m.1 m.2 (S.take (bl S ((m.2+1)*pw m.1))) (X.take (bl S ((m.2+1)*pw m.1))) D::pB c M (S.drop (bl S ((m.2+1)*pw m.1))) (X.drop (bl S ((m.2+1)*pw m.1))) (D.drop (tno m.1 m.2 (S.take (bl S ((m.2+1)*pw m.1)))).length)
def fB:List (Nat×Nat)->List Nat->List (Nat×Nat)
 | [],_=>[]
 | m::M,S=>tno m.1 m.2 (S.take (bl S ((m.2+1)*pw m.1)))++fB M (S.drop (bl S ((m.2+1)*pw m.1)))
theorem QfR(c:Nat):∀(M:List (Nat×Nat)) (S:List Nat) (X D:LB),(pB c M S X D).length=M.length
 | [],_,_,_=>rfl
 | m::M,S,X,D=>by rw[pB,LJ,QfR,LJ]
theorem QkC{q:Nat} : ∀ {M:List (Nat×Nat)} {p:Nat},Cv.Row q p M->p<=q
 | [],_,h=>IF h
 | m::M,p,h=>by
  have:=QkC h.2.2.2;have h1:=Cv.Yx m.1 m.2;have h2:=h.1;omega
theorem OX{q:Nat} : ∀ {M:List (Nat×Nat)} {p:Nat},Cv.Row q p M -> ∀b∈M,p<=b.2*pw b.1∧(b.2+1)*pw b.1<=q
 | [],_,_,b,hb=>by cases hb
 | m::M,p,h,b,hb=>by
  rcases List.mem_cons.1 hb with rfl|hb
  ·exact⟨IF h.1,QkC h.2.2.2⟩
  ·have:=OX h.2.2.2 b hb;have h1:=Cv.Yx m.1 m.2;have h2:=h.1;exact⟨by omega,this.2⟩
abbrev Fr(p q:Nat)(S:List Nat):Prop := ∀i∈S,p<=i∧i<q
theorem Qjp{p q h k:Nat}{S:List Nat}(hp:Asc S)(hS:Fr p q S)(hk:p=k*pw h):In h k (S.take (bl S ((k+1)*pw h))):=fun i hi=>⟨by have:=(hS i (QbC hi)).1;omega,QgV hp hi⟩
theorem Qc9{p q x:Nat}{S:List Nat}(hp:Asc S)(hS:Fr p q S):Fr x q (S.drop (bl S x)):=fun i hi=>⟨Qez hp hi,(hS i (QbA hi)).2⟩
theorem QlZ{f g:Nat×Nat->List (Nat×Nat)}{M:List (Nat×Nat)}(h:∀b∈M,f b=g b):M.flatMap f=M.flatMap g:=by
 rw[List.flatMap_def,List.flatMap_def,NL h]
theorem Qc3{q:Nat} : ∀ {M:List (Nat×Nat)} {p:Nat} {S:List Nat},Cv.Row q p M->Asc S->Fr p q S->fB M S=M.flatMap fun b=>tno b.1 b.2 S
 | [],_,_,_,_,_=>rfl
 | m::M,p,S,h,hp,hS=>by
  rw[fB,Iu,Qc3 h.2.2.2 (Jr hp _) (Qc9 hp hS)];have e1:S.filter (inb m.1 m.2)=S.take (bl S ((m.2+1)*pw m.1)):=by
   rw[<-(Ux _ hp).1];refine IT fun i hi=> ?_
   have:=hS i hi;have h1:=h.1;rw[I2,QD,decide_eq_true_iff];omega
  rw[<-e1,O3]
  congr 1
  refine QlZ fun b hb=> ?_
  have hb1:=OX h.2.2.2 b hb;rw[<-O3 b.1 b.2 S,<-O3 b.1 b.2 (S.drop _)]
  congr 1
  rw[<-(Ux _ hp).2,List.filter_filter];refine IT fun i hi=> ?_
  rw[I2,Bool.and_eq_true,QD,decide_eq_true_iff];omega
theorem QnN(c:Nat)(K:List ((Nat×Nat)×BA)){q:Nat} : ∀(M:List (Nat×Nat)) (p:Nat) (S:List Nat) (X D:LB),Cv.Row q p M->Asc S->Fr p q S->(∀e∈K,0<e.1.1 -> ∀i∈S,¬(e.1.2*pw e.1.1<=i∧i<(e.1.2+1)*pw e.1.1))->(∀j,j<S.length->((0,S.getD j 0),dg c (Qw (X.getD j ByteArray.empty)))∈K)->(∀j,j<(fB M S).length->((fB M S).getD j (0,0),D.getD j ByteArray.empty)∈K) -> ∀j,j<M.length->Tl c K (M.getD j (0,0)).1 (M.getD j (0,0)).2 ((pB c M S X D).getD j ByteArray.empty)
 | [],_,_,_,_,_,_,_,_,_,_,j,hj=>absurd hj (NS j)
 | m::M,p,S,X,D,h,hp,hS,hK,hX,hD,j,hj=>by
  obtain⟨t,ht⟩:∃t,bl S ((m.2+1)*pw m.1)=t:=⟨_,rfl⟩;have htl:t<=S.length:=by rw[<-ht];exact Qcd _ _
  have l1:=Qjp hp hS h.1;have l2:Fr ((m.2+1)*pw m.1) q (S.drop (bl S ((m.2+1)*pw m.1))):=Qc9 hp hS;rw[ht] at l1 l2;rw[fB,ht] at hD;rw[pB,ht]
  cases j with
  | zero=>
   refine QpU c K m.1 m.2 _ _ D (Oq hp _) l1 (fun e he h1 i hi=>hK e he h1 i (QbC hi)) (fun j hj=> ?_) (fun j hj=> ?_)
   ·rw[Lv] at hj;rw[Oz _ _ (by omega),Oz _ _ (by omega)]
    exact hX j (by omega)
   ·have:=hD j (by rw[Lh];omega)
    rwa [Jy _ _ _ hj] at this
  | succ j=>
   refine QnN c K M _ _ _ _ h.2.2.2 (Jr hp _) l2 (fun e he h1 i hi=>hK e he h1 i (QbA hi)) (fun j hj=> ?_) (fun j hj=> ?_) j (by rw[LJ] at hj;omega)
   ·rw[LD] at hj;rw[UZ,UZ];exact hX (t+j) (by omega)
   ·have:=hD ((tno m.1 m.2 (S.take t)).length+j) (by rw[Lh];omega)
    rwa [UC,<-UZ] at this
theorem Qg2{c:Nat}(hc:c<=32):∀(M:List (Nat×Nat)) (S:List Nat) (X D:LB),(∀s∈D,s.size=c)->(fB M S).length<=D.length -> ∀s∈pB c M S X D,s.size=c
 | [],_,_,_,_,_,s,hs=>by cases hs
 | m::M,S,X,D,hD,hl,s,hs=>by
  rw[fB,Lh] at hl;rw[pB] at hs
  rcases List.mem_cons.1 hs with rfl|hs
  ·refine QdW hc _ _ _ _ _ hD ?_
   by_cases h0:S.take (bl S ((m.2+1)*pw m.1))=[]
   ·rw[h0,O4] at hl;exact .inl (by rw[Nb] at hl;omega)
   ·exact .inr h0
  ·exact Qg2 hc M _ _ _ (fun s hs=>hD s ((NY _ _).subset hs)) (by rw[LD];omega) s hs
theorem Y9:∀ {S:List Nat} {x n:Nat},Cv.Yf x S n->Asc S
 | [],_,_,_=>List.Pairwise.nil
 | _::_,_,_,h=>List.pairwise_cons.2 ⟨fun j hj=>(Cv.YL h.2 j hj).1,Y9 h.2⟩
end
section
open Cv (RdC zl cU)
theorem Qr{w w':World}{B T s n:Nat}{x:Value}{cs:List Value}(h:w.ownsRow B T s x n cs)(hk:∀g,x.ownBlock=some g->B<=g->w'.heap[g]? = w.heap[g]?):w'.ownsRow B T s x n cs:=by
 obtain⟨h1,h2⟩:=h;refine⟨h1,?_⟩
 rcases h2 with h2|⟨g,cap,cur,rfl,hg,hh,h3⟩
 ·exact .inl h2
 ·exact .inr ⟨g,cap,cur,rfl,hg,(hk g rfl hg).trans hh,h3⟩
structure ChT(S:Nat->Prop)(w w':World):Prop where
 os:w'.os=w.os
 tape:w'.tape=w.tape
 output:w'.output=w.output
 size:w'.heap.size=w.heap.size
 block:∀b,¬S b->w'.heap[b]? = w.heap[b]?
theorem ChT.refl(S:Nat->Prop)(w:World):ChT S w w:=⟨rfl,rfl,rfl,rfl,fun _ _=>rfl⟩
theorem ChT.set{S:Nat->Prop}{w w':World}(h:ChT S w w')(b i:Nat)(v:Value)(hb:S b):ChT S w (w'.setCell ⟨b,i,none⟩ v):=by
 have h0:=(Lc 0 w').setCell (p:=⟨b,i,none⟩) (Lm _) v;refine⟨h0.os.trans h.os,h0.tape.trans h.tape,h0.output.trans h.output,by rw[<-h.size];simp,fun c hc=> ?_⟩
 rw[<-h.block c hc];exact Below.heap_setCell _ _ _ _ (by show c≠b;rintro rfl;exact hc hb)
theorem ChT.drew{S:Nat->Prop}{w w':World}(h:ChT S w w'):ChT S w w'.drew:=⟨h.os,h.tape,h.output,h.size,h.block⟩
theorem Yn{w:World}{u:Value}{m:Nat}{news:List Value}(h:RdC w u m news):∃ao cap,u= .slice ao m cap:=by
 obtain⟨ao,cap,e,_⟩:=h;exact⟨ao,cap,e⟩
def Six(w:World)(s:Nat)(a b c d e f:Value):Prop:=w.heap[s]? = some (.cells #[a,b,c,d,e,f] 68 (0,0))
section
variable {w W:World} {s:Nat} {a b c d e f:Value}
theorem Six.cells(h:Six w s a b c d e f):w.cell? ⟨s,0,none⟩=some a∧w.cell? ⟨s,1,none⟩=some b∧w.cell? ⟨s,2,none⟩=some c∧w.cell? ⟨s,3,none⟩=some d∧w.cell? ⟨s,4,none⟩=some e∧w.cell? ⟨s,5,none⟩=some f :=
 ⟨by rw[cell_of_row w s 0 _ _ (0,0) h];rfl,by rw[cell_of_row w s 1 _ _ (0,0) h];rfl,by rw[cell_of_row w s 2 _ _ (0,0) h];rfl,by rw[cell_of_row w s 3 _ _ (0,0) h];rfl,by rw[cell_of_row w s 4 _ _ (0,0) h];rfl,by rw[cell_of_row w s 5 _ _ (0,0) h];rfl⟩
theorem Six.fz(h:Six w s a b c d e f)(j:Nat):w.frozen? ⟨s,j,none⟩=false:=frozen_of_row w s j _ _ h
theorem Six.lt(h:Six w s a b c d e f):s<w.heap.size:=(Array.getElem?_eq_some_iff.1 h).1
theorem Six.same(h:Six w s a b c d e f)(hb:W.heap[s]? = w.heap[s]?):Six W s a b c d e f:=hb.trans h
theorem Six.next(h:Six w s a b c d e f)(hb:Below w.heap.size w W):Six W s a b c d e f:=h.same (hb.block s h.lt)
theorem Jf(w:World)(a b c d e f:Value):Six (w.alloc (.cells #[a,b,c,d,e,f] 68)) w.heap.size a b c d e f:=Lr w _
def Yb(w:World)(s:Nat)(a b c d e f:Value):World:=(((((w.setCell ⟨s,0,none⟩ a).setCell ⟨s,1,none⟩ b).setCell ⟨s,2,none⟩ c).setCell ⟨s,3,none⟩ d).setCell ⟨s,4,none⟩ e).setCell ⟨s,5,none⟩ f
theorem Six.put(h:Six w s a b c d e f)(a' b' c' d' e' f':Value):Six (Yb w s a' b' c' d' e' f') s a' b' c' d' e' f':=by
 have h0:=Ln w s 0 _ _ a' h;have h1:=Ln _ s 1 _ _ b' h0;have h2:=Ln _ s 2 _ _ c' h1;have h3:=Ln _ s 3 _ _ d' h2;have h4:=Ln _ s 4 _ _ e' h3;exact Ln _ s 5 _ _ f' h4
theorem Yv(w:World)(s:Nat)(a b c d e f:Value):ChT (fun x=>x=s) w (Yb w s a b c d e f) :=
 ((((((ChT.refl (fun x=>x=s) w).set s 0 a rfl).set s 1 b rfl).set s 2 c rfl).set s 3 d rfl).set s 4 e rfl).set s 5 f rfl
end
theorem ChT.below{S:Nat->Prop}{w w':World}(h:ChT S w w'){B:Nat}(hS:∀b,S b->B<=b):Below B w w' :=
 ⟨h.os,h.tape,h.output,IF h.size.symm,fun b hb=>h.block b fun hs=>by have:=hS b hs;omega⟩
abbrev noP:Value := .agg #[.int .i64 0,.int .i64 0,.int .u64 0,.int .u64 0,.slice none 0 0,.slice none 0 0]
structure RdU(w:World)(ao:OA)(b off len:Nat)(l:List Nat):Prop where
 hl:l.length=len
 ptr:0<len->ao=some ⟨b,off,none⟩
 rng:w.rangeAt b off (cU l)
theorem RdU.at{w:World}{ao:OA}{b off len:Nat}{l:List Nat}(h:RdU w ao b off len l){j:Nat}(hj:j<len):w.cell? ⟨b,off+j,none⟩=some (.int .u64 (l.getD j 0:Nat)) :=
 h.rng j _ (by have:=h.hl;simp[List.getElem?_eq_getElem (show j<l.length by omega),List.getD_eq_getElem?_getD])
theorem RdU.lt{w:World}{ao:OA}{b off len:Nat}{l:List Nat}(h:RdU w ao b off len l)(h0:0<len):b<w.heap.size:=Ll w _ (h.at h0)
theorem RdU.next{w W:World}{ao:OA}{b off len:Nat}{l:List Nat}(h:RdU w ao b off len l)(hb:Below w.heap.size w W):RdU W ao b off len l:=by
 refine⟨h.hl,h.ptr,fun j v hv=> ?_⟩
 have:=h.rng j v hv;exact(hb.cell (Ll w _ this)).trans this
theorem QmI{w:World}{B g n c:Nat}{l l':List Nat}(o:Cv.Own w B (.slice (Zp g) n c) (l++l')):RdU w (Zp g) g 0 l.length l :=
 ⟨rfl,fun _=>rfl,fun t v hv=>by
  have:=o.cells (g:=g) rfl t v (by rw[show cU (l++l')=cU l++cU l' from Nd,LG (by have:=(List.getElem?_eq_some_iff.1 hv).1;simpa using this)];exact hv)
  rwa [Addr.add_mid] at this⟩
theorem RdU.same{w W:World}{ao:OA}{b off len:Nat}{l:List Nat}(h:RdU w ao b off len l)(hb:W.heap[b]? = w.heap[b]?):RdU W ao b off len l :=
 ⟨h.hl,h.ptr,fun j v hv=>(Lq hb).trans (h.rng j v hv)⟩
theorem RdS.same{w W:World}{ao:OA}{b off len:Nat}{l:LB}(h:RdS w ao b off len l)(hb:W.heap[b]? = w.heap[b]?):RdS W ao b off len l :=
 ⟨h.hl,h.ptr,fun j v hv=>(Lq hb).trans (h.rng j v hv),h.sz⟩
theorem Ud{w:World}{da:OA}{db dO dc H:Nat}{D:LB}(h:RdS w da db dO D.length D)(hc:D.length<=dc)(hH:H<=D.length)(hn:da=none->dc=0){ax:OA}(hx:(if dc=H then da else Option.map (fun x=>x.add H) da)=ax):RdS w ax db (dO+H) (D.drop H).length (D.drop H)∧(ax=none->dc-H=0):=by
 refine⟨⟨rfl,fun h0=> ?_,fun j v hj=> ?_,fun s hs=>h.sz s (Nm hs)⟩,fun e=> ?_⟩
 ·rw[LD] at h0;rw[Le (by omega),h.ptr (by omega)] at hx
  rw[<-hx];simp[Addr.add_mid]
 ·rw[IJ,Nx] at hj;have:=h.rng (H+j) v hj
  rwa [<-NR] at this
 ·rw[e] at hx
  split at hx
  ·omega
  ·have:da=none:=by simpa using hx
   have:=hn this;omega
theorem QbP{w:World}{da:OA}{db dO:Nat}{D:LB}(h:RdS w da db dO D.length D){H:Nat}(hH:H<=D.length):RdS w da db dO (D.take H).length (D.take H):=by
 refine⟨rfl,fun h0=>h.ptr ?_,fun j v hj=> ?_,fun s hs=>h.sz s (Nn hs)⟩
 ·rw[Lv] at h0;omega
 ·refine h.rng j v ?_
  rw[N8,Nf] at hj
  split at hj
  ·exact hj
  ·cases hj
structure Bx(q:Nat)(w w':World):Prop where
 os:w'.os=w.os
 tape:w'.tape=w.tape
 output:w'.output=w.output
 size:w.heap.size<=w'.heap.size
 block:∀b,b<w.heap.size->b≠q->w'.heap[b]? = w.heap[b]?
section
variable {q:Nat} {w w1 w2:World}
theorem Bx.refl(q:Nat)(w:World):Bx q w w:=⟨rfl,rfl,rfl,Lb _,fun _ _ _=>rfl⟩
theorem Bx.next(h:Bx q w w1)(hb:Below w1.heap.size w1 w2):Bx q w w2:=⟨hb.os.trans h.os,hb.tape.trans h.tape,hb.output.trans h.output,Lt h.size hb.size,fun b h1 h2=>(hb.block b (LL h1 h.size)).trans (h.block b h1 h2)⟩
theorem Bx.put(h:Bx q w w1)(hc:ChT (fun b=>b=q) w1 w2):Bx q w w2:=⟨hc.os.trans h.os,hc.tape.trans h.tape,hc.output.trans h.output,by rw[hc.size];exact h.size,fun b h1 h2=>(hc.block b h2).trans (h.block b h1 h2)⟩
theorem Bx.trans{w0:World}(h0:Bx q w0 w)(h:Bx q w w1):Bx q w0 w1:=⟨h.os.trans h0.os,h.tape.trans h0.tape,h.output.trans h0.output,Lt h0.size h.size,fun b h1 h2=>(h.block b (LL h1 h0.size) h2).trans (h0.block b h1 h2)⟩
theorem Bx.below(h:Bx q w w1){B:Nat}(hB:B<=q)(hw:B<=w.heap.size):Below B w w1:=⟨h.os,h.tape,h.output,h.size,fun b hb=>h.block b (by omega) (by omega)⟩
end
end
def num(n:Nat):List UInt8:=if n<128 then [UInt8.ofNat n] else UInt8.ofNat (n%128+128)::num (n/128)
termination_by n
decreasing_by omega
theorem Qmz{n:Nat}(h:n<128):num n=[UInt8.ofNat n]:=by rw[num,Lo h]
theorem Qj4{n:Nat}(h:128<=n):num n=UInt8.ofNat (n%128+128)::num (n/128):=by rw[num,Le (by omega)]
def Uj:List UInt8->Nat->Nat->Nat×Nat×Nat
 | [],_,_=>(0,60,0)
 | b::r,i,n=>
  if i=9∧1<b.toNat then (0,61,0)
  else if b.toNat<128 then (if b.toNat=0∧0<i then (0,61,0) else (n+b.toNat*128^i,0,i+1))
  else Uj r (i+1) (n+(b.toNat%128)*128^i)
theorem Qdx{i:Nat}(h:i<=9):128^i<=128^9:=Ng (by decide) h
theorem Qih:∀(l:List UInt8) (i acc n k:Nat),acc<128^i->i<=9->Uj l i acc=(n,0,k) ->
  ∃m,n=acc+m*128^i∧num m=l.take (k-i)∧i<k∧k<=10∧k-i<=l.length∧(0<i->0<m)∧n<2^64:=by
 intro l
 induction l with
 | nil=>intro i acc n k _ _ h;simp[Uj] at h
 | cons b r ih=>
  intro i acc n k ha hi h;rw[Uj] at h
  by_cases h1:i=9∧1<b.toNat
  ·rw[Lo h1] at h;simp at h
  ·rw[Le h1] at h
   by_cases h2:b.toNat<128
   ·rw[Lo h2] at h
    by_cases h3:b.toNat=0∧0<i
    ·rw[Lo h3] at h;simp at h
    ·rw[Le h3] at h;simp only[Prod.mk.injEq,true_and] at h;obtain⟨rfl,rfl⟩:=h;refine⟨b.toNat,rfl,?_,by omega,by omega,by simp,by omega,?_⟩
     ·rw[Qmz h2,IQ];simp
     ·have e9:(128:Nat)^9=9223372036854775808:=by decide
      rcases Ws i 9 with h9|h9
      ·have hp:128^(i+1)<=128^9:=Qdx (by omega)
       have:b.toNat*128^i<=127*128^i:=LT _ (by omega)
       rw[LO] at hp;omega
      ·obtain rfl:i=9:=by omega
       have:b.toNat*128^9<=1*128^9:=LT _ (by omega)
       omega
   ·rw[Le h2] at h;have h9:i≠9:=by omega
    have hlt:acc+b.toNat%128*128^i<128^(i+1):=by
     rw[LO];have:b.toNat%128*128^i<=127*128^i:=LT _ (by omega)
     omega
    obtain⟨m,rfl,h4,h5,h6,h7,h8,h10⟩:=ih (i+1) _ n k hlt (by omega) h
    have hm:=h8 (by omega)
    have hb:=b.toNat_lt;refine⟨b.toNat%128+128*m,?_,?_,by omega,h6,by simp;omega,by omega,h10⟩
    ·rw[L4,LO,L3 (128^i),<-L5,L3 m,NR]
    ·rw[Qj4 (by omega),show(b.toNat%128+128*m)/128=m by omega,h4,show(b.toNat%128+128*m)%128+128=b.toNat by omega,
      show k-i=(k-(i+1))+1 by omega,List.take_succ_cons]
     simp
structure Rdr(w:World)(p:Nat)(s:BA)(e:Nat):Prop where
 c0:w.cell? ⟨p,0,none⟩=some (.string s)
 c1:w.cell? ⟨p,1,none⟩=some (.int .i64 e)
 f0:w.frozen? ⟨p,0,none⟩=false
 f1:w.frozen? ⟨p,1,none⟩=false
structure Ch(p:Nat)(w w':World):Prop where
 below:Below p w w'
 block:∀q,q<w.heap.size->q≠p->w'.heap[q]? = w.heap[q]?
theorem Ch.refl(p:Nat)(w:World):Ch p w w:=⟨Lc _ _,fun _ _ _=>rfl⟩
theorem Ch.drewN{p:Nat}{w w':World}(h:Ch p w w')(n:Nat):Ch p w (w'.drewN n):=⟨Qi h.below n,h.block⟩
theorem Ch.set{p:Nat}{w w':World}(h:Ch p w w')(i:Nat)(v:Value):Ch p w (w'.setCell ⟨p,i,none⟩ v):=by
 refine⟨h.below.setCell (p:=⟨p,i,none⟩) (Lb _) v,fun q hq hne=> ?_⟩
 rw[<-h.block q hq hne];exact Below.heap_setCell _ _ _ _ hne
theorem Rdr.lt{w:World}{p e:Nat}{s:BA}(h:Rdr w p s e):p<w.heap.size:=Ll _ _ h.c0
theorem Rdr.next{w w':World}{p B e:Nat}{s:BA}(h:Rdr w p s e)(hb:Below B w w')(hp:p<B):Rdr w' p s e :=
 ⟨(hb.cell (p:=⟨p,0,none⟩) hp).trans h.c0,(hb.cell (p:=⟨p,1,none⟩) hp).trans h.c1,(hb.frozen (p:=⟨p,0,none⟩) hp).trans h.f0,(hb.frozen (p:=⟨p,1,none⟩) hp).trans h.f1⟩
theorem Rdr.drewN{w:World}{p e:Nat}{s:BA}(h:Rdr w p s e)(n:Nat):Rdr (w.drewN n) p s e:=h.next (Qi (Lc (p+1) w) n) (by omega)
theorem Rdr.set0{w:World}{p e:Nat}{s:BA}(h:Rdr w p s e)(t:BA):Rdr (w.setCell ⟨p,0,none⟩ (.string t)) p t e :=
 ⟨LU _ _ _ h.c0,(Lz _ _ _ _ (by simp)).trans h.c1,(NV _ _ _ _).trans h.f0,(NV _ _ _ _).trans h.f1⟩
theorem Rdr.set1{w:World}{p e:Nat}{s:BA}(h:Rdr w p s e)(e':Nat):Rdr (w.setCell ⟨p,1,none⟩ (.int .i64 e')) p s e' :=
 ⟨(Lz _ _ _ _ (by simp)).trans h.c0,LU _ _ _ h.c1,(NV _ _ _ _).trans h.f0,(NV _ _ _ _).trans h.f1⟩
theorem QmU(w:World)(s:BA)(t:Nat):Rdr (w.alloc (.cells #[.string s,.int .i64 0] t)) w.heap.size s 0:=by
 refine⟨?_,?_,?_,?_⟩ <;> simp
theorem Qj0(w:World)(s:BA) :
  Calls prog 59 #[.string s] w fun e w'=>e= .returned (Zv w.heap.size)∧w'=w.alloc (.cells #[.string s,.int .i64 0] 184):=by
 go_enter func59,ntmps59;go_wp2
 go_ret
 exact⟨rfl,rfl⟩
theorem JC(w:World)(p e:Nat)(s:BA)(hr:Rdr w p s e) :
  Calls prog 166 #[Zv p] w fun x w'=>x= .returned (.int .i64 s.size)∧w'=w:=by
 have c0:=hr.c0
 go_enter func166,ntmps166;go_wp2
 go_ret
 exact⟨rfl,rfl⟩
theorem Qbk(w:World)(p e:Nat)(s:BA)(hr:Rdr w p s 0) :
  Calls prog 219 #[Zv p,.int .i64 e] w fun x w'=>x= .returned (.int .i64 e)∧Rdr w' p ByteArray.empty e∧Ch p w w':=by
 have c0:=hr.c0;have c1:=hr.c1;have f0:=hr.f0;have f1:=hr.f1;have R1:Hid (Rdr ((w.setCell ⟨p,0,none⟩ (.string ByteArray.empty)).setCell ⟨p,1,none⟩ (.int .i64 e)) p ByteArray.empty e):=(hr.set0 _).set1 e;clear hr
 go_enter func219,ntmps219;go_wp2
 go_ret
 exact⟨rfl,R1.out,((Ch.refl p w).set 0 _).set 1 _⟩
def tkC(s:BA)(e:Nat)(n:Int):BA×Nat×BA :=
 if e≠0 then (ByteArray.empty,e,s) else if n<0∨(s.size:Int)<n then (ByteArray.empty,60,ByteArray.empty) else (s.extract 0 n.toNat,0,s.extract n.toNat s.size)
theorem UR(w:World)(p e:Nat)(s:BA)(n:Int)(hr:Rdr w p s e) :
  Calls prog 164 #[Zv p,.int .i64 n] w fun x w'=>x= .returned (.tuple #[.string (tkC s e n).1,.int .i64 ((tkC s e n).2.1:Int)])∧Rdr w' p (tkC s e n).2.2 (tkC s e n).2.1∧Ch p w w':=by
 have c0:=hr.c0;have c1:=hr.c1;have f0:=hr.f0;have f1:=hr.f1
 by_cases he:e=0
 ·subst he
  by_cases hn:n<0∨(s.size:Int)<n
  ·have ht:tkC s 0 n=(ByteArray.empty,60,ByteArray.empty):=by rw[tkC,Le (by simp),Lo hn]
   rw[ht];have HF:=Qbk w p 60 s hr;clear hr
   by_cases h0:n<0
   ·go_enter func164,ntmps164
    go_wp2_with (go_at_call 219;refine HF.mono ?_;rintro x w' ⟨rfl,h1,h2⟩)
    go_ret2
    exact⟨rfl,h1,h2⟩
   ·have h1:(s.size:Int)<n:=by omega
    go_enter func164,ntmps164
    go_wp2_with (go_at_call 219;refine HF.mono ?_;rintro x w' ⟨rfl,h1,h2⟩)
    go_ret2
    exact⟨rfl,h1,h2⟩
  ·have ht:tkC s 0 n=(s.extract 0 n.toNat,0,s.extract n.toNat s.size):=by rw[tkC,Le (by simp),Le hn]
   rw[ht];obtain⟨k,rfl⟩:∃k:Nat,n=k:=⟨n.toNat,by omega⟩
   have h0:¬(k:Int)<0:=by omega
   have h1:¬(s.size:Int)<(k:Int):=by omega
   have h2:(k:Int)<=(s.size:Int):=by omega
   have R1:Hid (Rdr (w.setCell ⟨p,0,none⟩ (.string (s.extract k s.size))) p (s.extract k s.size) 0):=hr.set0 _;clear hr
   go_enter func164,ntmps164;go_wp2
   go_ret2
   exact⟨rfl,R1.out,(Ch.refl p w).set 0 _⟩
 ·have ht:tkC s e n=(ByteArray.empty,e,s):=by rw[tkC,Lo he]
  rw[ht];have hz:¬(e:Int)=0:=by omega
  go_enter func164,ntmps164;go_wp2
  go_quiet (fail)
  go_wp2
  go_ret2
  exact⟨rfl,hr.drewN _,(Ch.refl p w).drewN _⟩
def nb(s:BA)(e:Nat):Nat×Nat×BA :=
 if e≠0 then (0,e,s) else ((Uj s.data.toList 0 0).1,(Uj s.data.toList 0 0).2.1,if (Uj s.data.toList 0 0).2.1=0 then s.extract (Uj s.data.toList 0 0).2.2 s.size else ByteArray.empty)
theorem QnK{s:BA}{n k:Nat}(h:Uj s.data.toList 0 0=(n,0,k)):nb s 0=(n,0,s.extract k s.size):=by
 simp[nb,h]
theorem Qdi{s:BA}{n e k:Nat}(h:Uj s.data.toList 0 0=(n,e,k))(he:e≠0):nb s 0=(n,e,ByteArray.empty):=by
 simp[nb,h,he]
theorem Qc0(s:BA)(k:Nat)(hk:k<s.size):s.data.toList.drop k=s[k]::s.data.toList.drop (k+1):=by
 rw[LV (by simpa using hk)]
 rfl
theorem YF{q:Prop}(h:q):Hid q:=h
theorem or7(n b k:Nat)(hn:n<128^k)(hk:k<=9)(h:k=9->b<=1) :
  bits .or .u64 (n:Int) (IntKind.u64.wrap ((b:Int)%128*2^(7*k)))=((n+b%128*128^k:Nat):Int)∧n+b%128*128^k<18446744073709551616:=by
 have e9:(128:Nat)^9=9223372036854775808:=by decide
 have hp:128^k<=128^9:=Qdx hk;have hx:b%128*128^k<=9223372036854775808:=by
  rcases Ws k 9 with h9|h9
  ·have hp1:128^(k+1)<=128^9:=Qdx (by omega)
   have:b%128*128^k<=127*128^k:=LT _ (by omega)
   rw[LO] at hp1;omega
  ·obtain rfl:k=9:=by omega
   have:b%128*128^9<=1*128^9:=LT _ (by have:=h rfl;omega)
   omega
 have e1:((b:Int)%128*2^(7*k))=((b%128*128^k:Nat):Int):=by
  rw[Wt,Int.natCast_pow,Int.pow_mul];rfl
 have e2:(2:Nat)^(7*k)=128^k:=by rw[Nat.pow_mul]
 rw[e1,IntKind.wrap_u64,Int.emod_eq_of_lt (by omega) (by omega),u64_or_nat _ _ (by omega) (by omega)]
 refine⟨?_,by omega⟩
 have:=Nat.two_pow_add_eq_or_of_lt (i:=7*k) (b:=n) (by rw[e2];exact hn) (b%128)
 rw[Nat.or_comm,<-e2,L3 (b%128),<-this,Nat.add_comm n]
theorem QkB(w:World)(p e:Nat)(s:BA)(hr:Rdr w p s e)(hs:s.size<=9223372036854775807) :
  Calls prog 165 #[Zv p] w fun x w'=>x= .returned (.tuple #[.int .u64 ((nb s e).1:Int),.int .i64 ((nb s e).2.1:Int)])∧Rdr w' p (nb s e).2.2 (nb s e).2.1∧Ch p w w':=by
 have c0:=hr.c0;have c1:=hr.c1;have f0:=hr.f0;have f1:=hr.f1
 by_cases he:e=0
 ·subst he;have F60:=Qbk w p 60 s hr;have F61:=Qbk w p 61 s hr;have RSC:Hid (∀k,Rdr (w.setCell ⟨p,0,none⟩ (.string (s.extract k s.size))) p (s.extract k s.size) 0):=fun k=>hr.set0 _
  clear hr
  go_enter func165,ntmps165;go_wp2
  go_loopg [4,5] 10 (fun g x i wr=>w=wr ∧ ∃(k n:Nat),k<=s.size∧k<=9∧g=10-k∧x= .int .u64 n∧i= .int .i64 k∧Hid (n<128^k∧Uj (s.data.toList.drop k) k n=Uj s.data.toList 0 0))
  case atStart=>go_light;exact⟨rfl,0,0,Lm _,by omega,rfl,rfl,rfl,by decide,by rw[Ia]⟩
  case round=>
   obtain⟨rfl,k,n,hk,h9,rfl,rfl,rfl,HS⟩:=hrel
   by_cases hlt:k<s.size
   ·have hz:(k:Int)<(s.size:Int):=by omega
    obtain⟨b,hb⟩:∃b,s[k].toNat=b:=⟨_,rfl⟩;have hb8:b<256:=by rw[<-hb];exact s[k].toNat_lt
    obtain⟨hn,hsc⟩:=HS.out;rw[Qc0 s k hlt,Uj,hb] at hsc;clear HS
    by_cases hi:k=9∧1<b
    ·obtain⟨rfl,hi⟩:=hi;rw[Lo ⟨rfl,hi⟩] at hsc;have HT:=YF (Qdi hsc.symm (by decide))
     have hi':(1:Int)<(b:Int):=by omega
     clear hsc hn
     go_wp2_with (go_at_call 219;refine F61.mono ?_;rintro x w' ⟨rfl,h1,h2⟩)
     go_ret2
     rw[HT.out];exact⟨rfl,h1,h2⟩
    ·obtain⟨ho,hlim⟩:=or7 n b k hn h9 (by omega)
     rw[Le hi] at hsc;obtain⟨m,hm⟩:∃m,m=n+b%128*128^k:=⟨_,rfl⟩;rw[<-hm] at ho hlim
     by_cases hl:b<128
     ·rw[Lo hl,<-show b%128=b from NJ hl,<-hm,show b%128=b from NJ hl] at hsc
      have hl':(b:Int)<128:=by omega
      by_cases h0:b=0∧0<k
      ·rw[Lo h0] at hsc;have HT:=YF (Qdi hsc.symm (by decide))
       obtain⟨rfl,h0⟩:=h0;have h0':(0:Int)<(k:Int):=by omega
       clear hsc hn hm
       by_cases hk9:k=9
       ·subst hk9
        go_wp2_with (go_at_call 219;refine F61.mono ?_;rintro x w' ⟨rfl,h1,h2⟩)
        go_ret2
        rw[HT.out];exact⟨rfl,h1,h2⟩
       ·have hq:¬(k:Int)=9:=by omega
        go_wp2_with (go_at_call 219;refine F61.mono ?_;rintro x w' ⟨rfl,h1,h2⟩)
        go_ret2
        rw[HT.out];exact⟨rfl,h1,h2⟩
      ·rw[Le h0] at hsc;have HT:=YF (QnK hsc.symm);clear hsc hn hm;have HC:Hid (Ch p w (w.setCell ⟨p,0,none⟩ (.string (s.extract (k+1) s.size)))):=(Ch.refl p w).set 0 _;have hz1:((k:Int)+1)<=(s.size:Int):=by omega
       by_cases hk9:k=9
       ·subst hk9;have hb1:¬(1:Int)<(b:Int):=by omega
        have hb0:¬(b:Int)=0:=by omega
        have ho9:bits .or .u64 (n:Int) ((b:Int)%128*9223372036854775808)=(m:Int):=by
         rw[<-ho,IntKind.wrap_u64];have e:(2:Int)^(7*9)=9223372036854775808:=by decide
         rw[e,Int.emod_eq_of_lt (a:=(b:Int)%128*9223372036854775808) (by omega) (by omega)]
        go_wp2
        go_ret2
        rw[HT.out];exact⟨rfl,RSC.out _,HC.out⟩
       ·have hq:¬(k:Int)=9:=by omega
        by_cases hb0:b=0
        ·obtain rfl:k=0:=by omega
         subst hb0;have ho0:bits .or .u64 (n:Int) 0=(m:Int):=by rw[<-ho];rfl
         go_wp2
         go_ret2
         rw[HT.out];exact⟨rfl,RSC.out _,HC.out⟩
        ·have hb1:¬(b:Int)=0:=by omega
         go_wp2
         go_ret2
         rw[HT.out];exact⟨rfl,RSC.out _,HC.out⟩
     ·have hq:¬(k:Int)=9:=by omega
      have hl':¬(b:Int)<128:=by omega
      have HS:Hid (m<128^(k+1)∧Uj (s.data.toList.drop (k+1)) (k+1) m=Uj s.data.toList 0 0):=by
       rw[Le hl,<-hm] at hsc;refine⟨?_,hsc⟩
       rw[hm,LO];have:b%128*128^k<=127*128^k:=LT _ (by omega)
       omega
      clear hsc hn hm;go_wp2
      go_roundg (10-(k+1))
      case rel=>go_light;exact⟨rfl,k+1,m,by omega,by omega,rfl,rfl,by go_num,HS.out⟩
      case measure=>go_light;omega
   ·obtain rfl:k=s.size:=by omega
    have hz:¬(s.size:Int)<(s.size:Int):=by omega
    have hsc:=HS.out.2;rw[Nc (by simp),Uj] at hsc
    have HT:=YF (Qdi hsc.symm (by decide))
    clear hsc HS
    go_wp2_with (go_at_call 219;refine F60.mono ?_;rintro x w' ⟨rfl,h1,h2⟩)
    go_ret2
    rw[HT.out];exact⟨rfl,h1,h2⟩
 ·have ht:nb s e=(0,e,s):=by rw[nb,Lo he]
  rw[ht];have hz:¬(e:Int)=0:=by omega
  go_enter func165,ntmps165;go_wp2
  go_quiet (fail)
  go_wp2
  go_ret2
  exact⟨rfl,hr.drewN _,(Ch.refl p w).drewN _⟩
end Go.Proofs.YtoblgjledefdbabGreatDoor
