/- Own work. -/
import Derived.WalkLawsBesides
import Derived.Test.YtoblgjledefdbaaGreatDoorQc09
namespace Go.Proofs.YtoblgjledefdbaaGreatDoor
open Go.RowKit
attribute [local go_sem ↓] Go.wp_at_zero Go.wp_at_succ
open Go.Proofs.Tryz
namespace Cv
open Pl
theorem QkE(H K:Nat):∀M:List Nat,(∀i∈M,inb (H+1) K i=true)->(M.filter (inb H (2*K))).length+(M.filter (inb H (2*K+1))).length=M.length:=by
 have e1:=U8 H K;have e2:=Qbl H K;have e3:=Ux H K;intro M
 induction M with
 | nil=>intro _;rfl
 | cons i M ih=>
  intro h;have h1:=QB.1 (h i NC);have h2:=ih (fun j hj=>h j (Ng _ hj))
  by_cases hm:i<(2*K+1)*pw H
  ·have a1:inb H (2*K) i=true:=QB.2 ⟨by omega,hm⟩
   have a2:inb H (2*K+1) i=false:=by
    cases hb:inb H (2*K+1) i with
    | false=>rfl
    | true=>have:=(QB.1 hb).1;omega
   rw[NU a1,NB (by rw[a2];decide),LD,LD];omega
  ·have a1:inb H (2*K+1) i=true:=QB.2 ⟨by omega,by omega⟩
   have a2:inb H (2*K) i=false:=by
    cases hb:inb H (2*K) i with
    | false=>rfl
    | true=>have:=(QB.1 hb).2;omega
   rw[NU a1,NB (by rw[a2];decide),LD,LD];omega
theorem QcI(S:List Nat)(H K:Nat):∀i∈S.filter (inb H K),inb H K i=true:=fun _ hi=>(List.mem_filter.1 hi).2
theorem Qct:∀H K (S:List Nat),((S.filter (inb H K)).length=0->(tno H K S).length=1)∧((S.filter (inb H K)).length≠0->(tno H K S).length<=(S.filter (inb H K)).length*H):=by
 intro H
 induction H with
 | zero=>
  intro K S;refine⟨fun h=>by rw[tno,Lm h];rfl,fun h=>by rw[tno,Ld h];simp⟩
 | succ H ih=>
  intro K S;refine⟨fun h=>by rw[tno,Lm h];rfl,fun h=> ?_⟩
  rw[tno,Ld h,Le];have hp:=QkE H K (S.filter (inb (H+1) K)) (QcI S (H+1) K);obtain⟨l0,l1⟩:=ih (2*K) (S.filter (inb (H+1) K));obtain⟨r0,r1⟩:=ih (2*K+1) (S.filter (inb (H+1) K));generalize ((S.filter (inb (H+1) K)).filter (inb H (2*K))).length=a at *;generalize ((S.filter (inb (H+1) K)).filter (inb H (2*K+1))).length=b at *;generalize (tno H (2*K) (S.filter (inb (H+1) K))).length=x at *;generalize (tno H (2*K+1) (S.filter (inb (H+1) K))).length=y at *;generalize (S.filter (inb (H+1) K)).length=c at *;subst hp;rw[N6,Nj,LT]
  by_cases ha:a=0
  ·have:=l0 ha;have hb:b≠0:=by omega
   have:=r1 hb;subst ha;omega
  ·have:=l1 ha
   by_cases hb:b=0
   ·have:=r0 hb;subst hb;omega
   ·have:=r1 hb;omega
theorem Qa2:∀ {S:List Nat} {a n:Nat} (_:QQ a S n) (j:Nat),j<S.length->S.getD j 0<n∧a<=S.getD j 0 ∧ ∀t,t<j->S.getD t 0<S.getD j 0:=by
 intro S
 induction S with
 | nil=>intro a n _ j hj;simp at hj
 | cons s r ih=>
  intro a n h j hj;have hle:=Yy h.2
  cases j with
  | zero=>exact⟨by simp;omega,by simpa using h.1,fun t ht=>absurd ht (Ib t)⟩
  | succ j=>
   obtain⟨g1,g2,g3⟩:=ih h.2 j (by simp at hj;omega)
   have h1:=h.1;refine⟨by simpa using g1,by simp;simp at g2;omega,fun t ht=> ?_⟩
   cases t with
   | zero=>simp;simp at g2;omega
   | succ t=>have:=g3 t (by omega);simpa using this
theorem Qho{S:List Nat}{n:Nat}(h:QQ 0 S n)(h0:S≠[])(hn:n<=2^40):QN n S=0:=by
 have hl:0<S.length:=List.length_pos_iff.2 h0;have hi:Inc S:=⟨hl,fun i hi=>(Qa2 h (i+1) hi).2.2 i (by omega)⟩
 have hlast:=(Qa2 h (S.length-1) (by omega)).1
 rw[QN,Ld (by omega),Ld (by rw[(Uk S).2 hi];decide),Ld (by omega)]
end Cv
section
open Pl (pw QF Qw UB)
open Cv (tno inb QB)
def bl(S:List Nat)(x:Nat):Nat:=(S.filter fun i=>decide (i<x)).length
theorem Qgk(S:List Nat)(x:Nat):bl S x<=S.length:=List.length_filter_le _ _
abbrev Asc(S:List Nat):Prop:=S.Pairwise (· < ·)
theorem UI(x:Nat):∀ {S:List Nat},Asc S->S.filter (fun i=>decide (i<x))=S.take (bl S x)∧S.filter (fun i=>decide (x<=i))=S.drop (bl S x)
 | [],_=>⟨rfl,rfl⟩
 | a::S,h=>by
  obtain⟨h1,h2⟩:=List.pairwise_cons.1 h;obtain⟨i1,i2⟩:=UI x h2
  by_cases ha:a<x
  ·have e:bl (a::S) x=bl S x+1:=by simp[bl,ha]
   have hn:¬x<=a:=by omega
   rw[e,I2,List.drop_succ_cons,<-i1,<-i2]
   constructor
   ·rw[NU (by simpa using ha)]
   ·rw[NB (by simpa using hn)]
  ·have hn:∀i∈S,¬i<x:=fun i hi=>by have:=h1 i hi;omega
   have e1:S.filter (fun i=>decide (i<x))=[]:=List.filter_eq_nil_iff.2 (by simpa using hn)
   have e:bl (a::S) x=0:=by rw[bl,NB (by simpa using ha),e1];rfl
   rw[e]
   constructor
   ·rw[NB (by simpa using ha),e1];rfl
   ·refine List.filter_eq_self.2 fun i hi=> ?_
    rcases List.mem_cons.1 hi with rfl|hi
    ·simpa using ha
    ·simpa using hn i hi
theorem QgM{S:List Nat}{x i:Nat}(h:Asc S)(hi:i∈S.take (bl S x)):i<x:=by
 rw[<-(UI x h).1] at hi
 simpa using (List.mem_filter.1 hi).2
theorem Qem{S:List Nat}{x i:Nat}(h:Asc S)(hi:i∈S.drop (bl S x)):x<=i:=by
 rw[<-(UI x h).2] at hi
 simpa using (List.mem_filter.1 hi).2
theorem Om{S:List Nat}(h:Asc S)(t:Nat):Asc (S.take t):=h.sublist (IS _ _)
theorem Jp{S:List Nat}(h:Asc S)(t:Nat):Asc (S.drop t):=h.sublist (NT _ _)
theorem Qke{S:List Nat}{t i:Nat}(hi:i∈S.take t):i∈S:=(IS _ _).subset hi
theorem Qkc{S:List Nat}{t i:Nat}(hi:i∈S.drop t):i∈S:=(NT _ _).subset hi
theorem O3(h k:Nat)(S:List Nat):tno h k (S.filter (inb h k))=tno h k S:=by
 cases h <;> simp only[tno,List.filter_filter,Bool.and_self]
theorem O4(h k:Nat):tno h k []=[(h,k)]:=by cases h <;> rfl
abbrev In(h k:Nat)(S:List Nat):Prop := ∀i∈S,k*pw h<=i∧i<(k+1)*pw h
theorem QcR{h k:Nat}{S:List Nat}(hp:Asc S)(hS:In (h+1) k S):S.filter (inb h (2*k))=S.take (bl S ((2*k+1)*pw h))∧S.filter (inb h (2*k+1))=S.drop (bl S ((2*k+1)*pw h)):=by
 obtain⟨h1,h2⟩:=UI ((2*k+1)*pw h) hp;rw[<-h1,<-h2];have e1:=Cv.U8 h k;have e2:=Cv.Ux h k
 constructor
 ·refine IR fun i hi=> ?_
  have:=hS i hi;rw[IZ,QB,decide_eq_true_iff];omega
 ·refine IR fun i hi=> ?_
  have:=hS i hi;rw[IZ,QB,decide_eq_true_iff];omega
theorem QjK{h k:Nat}{S:List Nat}(hp:Asc S)(hS:In (h+1) k S):In h (2*k) (S.take (bl S ((2*k+1)*pw h))):=fun i hi=>by
 rw[<-(QcR hp hS).1] at hi;exact QB.1 (List.mem_filter.1 hi).2
theorem QgG{h k:Nat}{S:List Nat}(hp:Asc S)(hS:In (h+1) k S):In h (2*k+1) (S.drop (bl S ((2*k+1)*pw h))):=fun i hi=>by
 rw[<-(QcR hp hS).2] at hi;exact QB.1 (List.mem_filter.1 hi).2
theorem Qg4{h k:Nat}{S:List Nat}(hp:Asc S)(hS:In (h+1) k S)(h0:S≠[]):tno (h+1) k S=tno h (2*k) (S.take (bl S ((2*k+1)*pw h)))++tno h (2*k+1) (S.drop (bl S ((2*k+1)*pw h))):=by
 have e:S.filter (inb (h+1) k)=S:=List.filter_eq_self.2 fun i hi=>QB.2 (hS i hi)
 rw[tno,e,Ld (by simpa [List.length_eq_zero_iff] using h0),<-O3 h (2*k) S,<-O3 h (2*k+1) S,(QcR hp hS).1,(QcR hp hS).2]
theorem Qll{k:Nat}{S:List Nat}(hS:In 0 k S)(h0:S≠[]):tno 0 k S=[]:=by
 have e:S.filter (inb 0 k)=S:=List.filter_eq_self.2 fun i hi=>QB.2 (hS i hi)
 rw[tno,e,Ld (by simpa [List.length_eq_zero_iff] using h0)]
theorem QoD{k i:Nat}{S:List Nat}(hS:In 0 k (i::S)):i=k:=by
 have:=hS i (NC ..);rw[UB] at this;omega
def vB(c:Nat):Nat->Nat->List Nat->LB->LB->BA
 | 0,_,S,X,D=>if S.length=0 then D.getD 0 ByteArray.empty else dg c (Yx (X.getD 0 ByteArray.empty))
 | h+1,k,S,X,D=>if S.length=0 then D.getD 0 ByteArray.empty else dg c (Qz (vB c h (2*k) (S.take (bl S ((2*k+1)*pw h))) (X.take (bl S ((2*k+1)*pw h))) D) (vB c h (2*k+1) (S.drop (bl S ((2*k+1)*pw h))) (X.drop (bl S ((2*k+1)*pw h))) (D.drop (tno h (2*k) (S.take (bl S ((2*k+1)*pw h)))).length)))
theorem QdF(c h k:Nat)(X D:LB):vB c h k [] X D=D.getD 0 ByteArray.empty:=by cases h <;> simp[vB]
theorem QdE(c k:Nat){S:List Nat}(X D:LB)(h0:S≠[]):vB c 0 k S X D=dg c (Yx (X.getD 0 ByteArray.empty)):=by
 rw[vB,Ld (by simpa [List.length_eq_zero_iff] using h0)]
theorem Qf8(c h k:Nat){S:List Nat}(X D:LB)(h0:S≠[]){t:Nat}(ht:bl S ((2*k+1)*pw h)=t):vB c (h+1) k S X D=dg c (Qz (vB c h (2*k) (S.take t) (X.take t) D) (vB c h (2*k+1) (S.drop t) (X.drop t) (D.drop (tno h (2*k) (S.take t)).length))):=by
 rw[vB,Ld (by simpa [List.length_eq_zero_iff] using h0),ht]
theorem QdG{c:Nat}(hc:c<=32):∀(h k:Nat) (S:List Nat) (X D:LB),(∀s∈D,s.size=c)->0<D.length∨S≠[]->(vB c h k S X D).size=c:=by
 intro h k S X D hD h0
 by_cases hS:S=[]
 ·subst hS;rw[QdF];exact hD _ (Q1 (by rcases h0 with h0|h0;exact h0;exact absurd rfl h0))
 ·cases h with
  | zero=>rw[QdE c k X D hS];exact Ys hc _
  | succ h=>rw[Qf8 c h k X D hS rfl];exact Ys hc _
theorem QpO(c:Nat)(L:LB):∀(h k:Nat) (S:List Nat) (X D D':LB),Asc S->In h k S->X=S.map (fun i=>L.getD i ByteArray.empty)->D=(tno h k S).map (fun b=>nd c L b.1 b.2)++D'->vB c h k S X D=nd c L h k:=by
 intro h
 induction h with
 | zero=>
  intro k S X D D' hp hS hX hD
  cases S with
  | nil=>rw[QdF,hD,O4];rfl
  | cons i S=>
   obtain rfl:=QoD hS;rw[QdE c i X D (by simp),hX];rfl
 | succ h ih=>
  intro k S X D D' hp hS hX hD
  by_cases h0:S=[]
  ·subst h0;rw[QdF,hD,O4];rfl
  ·rw[Qf8 c h k X D h0 rfl];rw[Qg4 hp hS h0,LL,LH] at hD;rw[ih (2*k) _ _ D _ (Om hp _) (QjK hp hS) (by rw[hX,NN]) hD,ih (2*k+1) _ _ _ D' (Jp hp _) (QgG hp hS) (by rw[hX,Ih]) (by rw[hD];exact IJ (by rw[LC])),nd]
theorem Qmi{α:Type}(d:α)(A:List α)(t j:Nat):(A.drop t).getD j d=A.getD (t+j) d:=by
 rw[Lc,NI,Lc]
theorem Qmj{α:Type}(d:α)(A:List α){t j:Nat}(h:j<t):(A.take t).getD j d=A.getD j d:=by
 rw[Lc,Nb,Lm h,Lc]
def pB(c:Nat):List (Nat×Nat)->List Nat->LB->LB->LB
 | [],_,_,_=>[]
 | m::M,S,X,D=>vB c m.1 m.2 (S.take (bl S ((m.2+1)*pw m.1))) (X.take (bl S ((m.2+1)*pw m.1))) D::pB c M (S.drop (bl S ((m.2+1)*pw m.1))) (X.drop (bl S ((m.2+1)*pw m.1))) (D.drop (tno m.1 m.2 (S.take (bl S ((m.2+1)*pw m.1)))).length)
def fB:List (Nat×Nat)->List Nat->List (Nat×Nat)
 | [],_=>[]
 | m::M,S=>tno m.1 m.2 (S.take (bl S ((m.2+1)*pw m.1)))++fB M (S.drop (bl S ((m.2+1)*pw m.1)))
theorem QkD(c:Nat):∀(M:List (Nat×Nat)) (S:List Nat) (X D:LB),(pB c M S X D).length=M.length
 | [],_,_,_=>rfl
 | m::M,S,X,D=>by rw[pB,LD,QkD,LD]
theorem Qk1{q:Nat} : ∀ {M:List (Nat×Nat)} {p:Nat},Cv.Row q p M->p<=q
 | [],_,h=>If h
 | m::M,p,h=>by
  have:=Qk1 h.2.2.2;have h1:=Cv.YE m.1 m.2;have h2:=h.1;omega
theorem QeO{q:Nat} : ∀ {M:List (Nat×Nat)} {p:Nat},Cv.Row q p M -> ∀b∈M,p<=b.2*pw b.1∧(b.2+1)*pw b.1<=q
 | [],_,_,b,hb=>by cases hb
 | m::M,p,h,b,hb=>by
  rcases List.mem_cons.1 hb with rfl|hb
  ·exact⟨If h.1,Qk1 h.2.2.2⟩
  ·have:=QeO h.2.2.2 b hb;have h1:=Cv.YE m.1 m.2;have h2:=h.1;exact⟨by omega,this.2⟩
abbrev Fr(p q:Nat)(S:List Nat):Prop := ∀i∈S,p<=i∧i<q
theorem Qjx{p q h k:Nat}{S:List Nat}(hp:Asc S)(hS:Fr p q S)(hk:p=k*pw h):In h k (S.take (bl S ((k+1)*pw h))):=fun i hi=>⟨by have:=(hS i (Qke hi)).1;omega,QgM hp hi⟩
theorem QcK{p q x:Nat}{S:List Nat}(hp:Asc S)(hS:Fr p q S):Fr x q (S.drop (bl S x)):=fun i hi=>⟨Qem hp hi,(hS i (Qkc hi)).2⟩
theorem Qmg{f g:Nat×Nat->List (Nat×Nat)}{M:List (Nat×Nat)}(h:∀b∈M,f b=g b):M.flatMap f=M.flatMap g:=by
 rw[List.flatMap_def,List.flatMap_def,NE h]
theorem QcG{q:Nat} : ∀ {M:List (Nat×Nat)} {p:Nat} {S:List Nat},Cv.Row q p M->Asc S->Fr p q S->fB M S=M.flatMap fun b=>tno b.1 b.2 S
 | [],_,_,_,_,_=>rfl
 | m::M,p,S,h,hp,hS=>by
  rw[fB,Ie,QcG h.2.2.2 (Jp hp _) (QcK hp hS)];have e1:S.filter (inb m.1 m.2)=S.take (bl S ((m.2+1)*pw m.1)):=by
   rw[<-(UI _ hp).1];refine IR fun i hi=> ?_
   have:=hS i hi;have h1:=h.1;rw[IZ,QB,decide_eq_true_iff];omega
  rw[<-e1,O3]
  congr 1
  refine Qmg fun b hb=> ?_
  have hb1:=QeO h.2.2.2 b hb;rw[<-O3 b.1 b.2 S,<-O3 b.1 b.2 (S.drop _)]
  congr 1
  rw[<-(UI _ hp).2,List.filter_filter];refine IR fun i hi=> ?_
  rw[IZ,Bool.and_eq_true,QB,decide_eq_true_iff];omega
theorem QnZ(c:Nat)(L:LB){q:Nat} : ∀(M:List (Nat×Nat)) (p:Nat) (S:List Nat) (X D D':LB),Cv.Row q p M->Asc S->Fr p q S->X=S.map (fun i=>L.getD i ByteArray.empty)->D=(fB M S).map (fun b=>nd c L b.1 b.2)++D'->pB c M S X D=M.map fun b=>nd c L b.1 b.2
 | [],_,_,_,_,_,_,_,_,_,_=>rfl
 | m::M,p,S,X,D,D',h,hp,hS,hX,hD=>by
  rw[fB,LL,LH] at hD;rw[pB,Iy,QpO c L m.1 m.2 _ _ D _ (Om hp _) (Qjx hp hS h.1) (by rw[hX,NN]) hD]
  rw[QnZ c L M _ _ _ _ D' h.2.2.2 (Jp hp _) (QcK hp hS) (by rw[hX,Ih]) (by rw[hD];exact IJ (by rw[LC]))]
theorem QgU{c:Nat}(hc:c<=32):∀(M:List (Nat×Nat)) (S:List Nat) (X D:LB),(∀s∈D,s.size=c)->(fB M S).length<=D.length -> ∀s∈pB c M S X D,s.size=c
 | [],_,_,_,_,_,s,hs=>by cases hs
 | m::M,S,X,D,hD,hl,s,hs=>by
  rw[fB,Le] at hl;rw[pB] at hs
  rcases List.mem_cons.1 hs with rfl|hs
  ·refine QdG hc _ _ _ _ _ hD ?_
   by_cases h0:S.take (bl S ((m.2+1)*pw m.1))=[]
   ·rw[h0,O4] at hl;exact .inl (by rw[LR] at hl;omega)
   ·exact .inr h0
  ·exact QgU hc M _ _ _ (fun s hs=>hD s ((NT _ _).subset hs)) (by rw[LS];omega) s hs
theorem Qae:∀ {S:List Nat} {x n:Nat},Cv.QQ x S n->Asc S
 | [],_,_,_=>List.Pairwise.nil
 | _::_,_,_,h=>List.pairwise_cons.2 ⟨fun j hj=>(Cv.UL h.2 j hj).1,Qae h.2⟩
end
section
open Cv (RdC zl cU)
theorem Qj{w w':World}{B T s n:Nat}{x:Value}{cs:List Value}(h:w.ownsRow B T s x n cs)(hk:∀g,x.ownBlock=some g->B<=g->w'.heap[g]? = w.heap[g]?):w'.ownsRow B T s x n cs:=by
 obtain⟨h1,h2⟩:=h;refine⟨h1,?_⟩
 rcases h2 with h2|⟨g,cap,cur,rfl,hg,hh,h3⟩
 ·exact .inl h2
 ·exact .inr ⟨g,cap,cur,rfl,hg,(hk g rfl hg).trans hh,h3⟩
structure ChT(S:Nat->Prop)(w w':World):Prop where
 os:w'.os=w.os
 tape:w'.tape=w.tape
 output:w'.output=w.output
 size:w'.heap.size=w.heap.size
 block:∀b,¬S b->w'.heap[b]? = w.heap[b]?
theorem ChT.refl(S:Nat->Prop)(w:World):ChT S w w:=⟨rfl,rfl,rfl,rfl,fun _ _=>rfl⟩
theorem ChT.set{S:Nat->Prop}{w w':World}(h:ChT S w w')(b i:Nat)(v:Value)(hb:S b):ChT S w (w'.setCell ⟨b,i,none⟩ v):=by
 have h0:=(Lb 0 w').setCell (p:=⟨b,i,none⟩) (Ln _) v;refine⟨h0.os.trans h.os,h0.tape.trans h.tape,h0.output.trans h.output,by rw[<-h.size];simp,fun c hc=> ?_⟩
 rw[<-h.block c hc];exact Below.heap_setCell _ _ _ _ (by show c≠b;rintro rfl;exact hc hb)
theorem ChT.drew{S:Nat->Prop}{w w':World}(h:ChT S w w'):ChT S w w'.drew:=⟨h.os,h.tape,h.output,h.size,h.block⟩
theorem Ui{w:World}{u:Value}{m:Nat}{news:List Value}(h:RdC w u m news):∃ao cap,u= .slice ao m cap:=by
 obtain⟨ao,cap,e,_⟩:=h;exact⟨ao,cap,e⟩
def Six(w:World)(s:Nat)(a b c d e f:Value):Prop:=w.heap[s]? = some (.cells #[a,b,c,d,e,f] 138 (0,0))
section
variable {w W:World} {s:Nat} {a b c d e f:Value}
theorem Six.cells(h:Six w s a b c d e f):w.cell? ⟨s,0,none⟩=some a∧w.cell? ⟨s,1,none⟩=some b∧w.cell? ⟨s,2,none⟩=some c∧w.cell? ⟨s,3,none⟩=some d∧w.cell? ⟨s,4,none⟩=some e∧w.cell? ⟨s,5,none⟩=some f :=
 ⟨by rw[cell_of_row w s 0 _ _ (0,0) h];rfl,by rw[cell_of_row w s 1 _ _ (0,0) h];rfl,by rw[cell_of_row w s 2 _ _ (0,0) h];rfl,by rw[cell_of_row w s 3 _ _ (0,0) h];rfl,by rw[cell_of_row w s 4 _ _ (0,0) h];rfl,by rw[cell_of_row w s 5 _ _ (0,0) h];rfl⟩
theorem Six.fz(h:Six w s a b c d e f)(j:Nat):w.frozen? ⟨s,j,none⟩=false:=frozen_of_row w s j _ _ h
theorem Six.lt(h:Six w s a b c d e f):s<w.heap.size:=(Array.getElem?_eq_some_iff.1 h).1
theorem Six.same(h:Six w s a b c d e f)(hb:W.heap[s]? = w.heap[s]?):Six W s a b c d e f:=hb.trans h
theorem Six.next(h:Six w s a b c d e f)(hb:Below w.heap.size w W):Six W s a b c d e f:=h.same (hb.block s h.lt)
theorem Yl(w:World)(a b c d e f:Value):Six (w.alloc (.cells #[a,b,c,d,e,f] 138)) w.heap.size a b c d e f:=Lt w _
def Yh(w:World)(s:Nat)(a b c d e f:Value):World:=(((((w.setCell ⟨s,0,none⟩ a).setCell ⟨s,1,none⟩ b).setCell ⟨s,2,none⟩ c).setCell ⟨s,3,none⟩ d).setCell ⟨s,4,none⟩ e).setCell ⟨s,5,none⟩ f
theorem Six.put(h:Six w s a b c d e f)(a' b' c' d' e' f':Value):Six (Yh w s a' b' c' d' e' f') s a' b' c' d' e' f':=by
 have h0:=Lp w s 0 _ _ a' h;have h1:=Lp _ s 1 _ _ b' h0;have h2:=Lp _ s 2 _ _ c' h1;have h3:=Lp _ s 3 _ _ d' h2;have h4:=Lp _ s 4 _ _ e' h3;exact Lp _ s 5 _ _ f' h4
theorem Yw(w:World)(s:Nat)(a b c d e f:Value):ChT (fun x=>x=s) w (Yh w s a b c d e f) :=
 ((((((ChT.refl (fun x=>x=s) w).set s 0 a rfl).set s 1 b rfl).set s 2 c rfl).set s 3 d rfl).set s 4 e rfl).set s 5 f rfl
end
theorem ChT.below{S:Nat->Prop}{w w':World}(h:ChT S w w'){B:Nat}(hS:∀b,S b->B<=b):Below B w w' :=
 ⟨h.os,h.tape,h.output,If h.size.symm,fun b hb=>h.block b fun hs=>by have:=hS b hs;omega⟩
abbrev noP:Value := .agg #[.int .i64 0,.int .i64 0,.int .u64 0,.int .u64 0,.slice none 0 0,.slice none 0 0]
structure RdU(w:World)(ao:OA)(b off len:Nat)(l:List Nat):Prop where
 hl:l.length=len
 ptr:0<len->ao=some ⟨b,off,none⟩
 rng:w.rangeAt b off (cU l)
theorem RdU.at{w:World}{ao:OA}{b off len:Nat}{l:List Nat}(h:RdU w ao b off len l){j:Nat}(hj:j<len):w.cell? ⟨b,off+j,none⟩=some (.int .u64 (l.getD j 0:Nat)) :=
 h.rng j _ (by have:=h.hl;simp[List.getElem?_eq_getElem (show j<l.length by omega),List.getD_eq_getElem?_getD])
theorem RdU.lt{w:World}{ao:OA}{b off len:Nat}{l:List Nat}(h:RdU w ao b off len l)(h0:0<len):b<w.heap.size:=Lf w _ (h.at h0)
theorem RdU.next{w W:World}{ao:OA}{b off len:Nat}{l:List Nat}(h:RdU w ao b off len l)(hb:Below w.heap.size w W):RdU W ao b off len l:=by
 refine⟨h.hl,h.ptr,fun j v hv=> ?_⟩
 have:=h.rng j v hv;exact(hb.cell (Lf w _ this)).trans this
theorem Qna{w:World}{ao:OA}{b off len cap:Nat}{l:List Nat}(h:RdU w ao b off len l)(hn:ao=none->cap=0):RdC w (.slice ao len cap) len (cU l):=by
 refine⟨ao,cap,rfl,fun e=>⟨?_,hn e⟩,fun ad ha j c hj=> ?_⟩
 ·apply Classical.byContradiction
  intro h0;have:=h.ptr (by omega)
  rw[e] at this
  cases this
 ·have hj':j<len:=by have:=(List.getElem?_eq_some_iff.1 hj).1;rw[LC,h.hl] at this;exact this
  have:=h.ptr (by omega)
  rw[ha] at this
  cases this;rw[Addr.add_mid];exact h.rng j c hj
theorem Qh0{w:World}{B:Nat}{v:Value}{l:List Nat}(h:Cv.Own w B v l)(h0:0<l.length):∃g cap,v= .slice (Zp g) l.length cap∧B<=g∧l.length<=cap∧cap<=maxLen∧g<w.heap.size:=by
 obtain⟨h1,h2⟩:=h
 rcases h2 with ⟨_,h2⟩|⟨g,cap,cur,hv,hg,hh,hc,hm,_⟩
 ·omega
 ·exact⟨g,cap,hv,hg,hc,hm,(Array.getElem?_eq_some_iff.1 hh).1⟩
theorem QgT{w:World}{B g n c:Nat}{l l':List Nat}(o:Cv.Own w B (.slice (Zp g) n c) (l++l')):RdU w (Zp g) g 0 l.length l :=
 ⟨rfl,fun _=>rfl,fun t v hv=>by
  have:=o.cells (g:=g) rfl t v (by rw[show cU (l++l')=cU l++cU l' from LL,LE (by have:=(List.getElem?_eq_some_iff.1 hv).1;simpa using this)];exact hv)
  rwa [Addr.add_mid] at this⟩
theorem RdU.same{w W:World}{ao:OA}{b off len:Nat}{l:List Nat}(h:RdU w ao b off len l)(hb:W.heap[b]? = w.heap[b]?):RdU W ao b off len l :=
 ⟨h.hl,h.ptr,fun j v hv=>(LI hb).trans (h.rng j v hv)⟩
theorem RdS.same{w W:World}{ao:OA}{b off len:Nat}{l:LB}(h:RdS w ao b off len l)(hb:W.heap[b]? = w.heap[b]?):RdS W ao b off len l :=
 ⟨h.hl,h.ptr,fun j v hv=>(LI hb).trans (h.rng j v hv),h.sz⟩
theorem OR{w:World}{da:OA}{db dO dc H:Nat}{D:LB}(h:RdS w da db dO D.length D)(hc:D.length<=dc)(hH:H<=D.length)(hn:da=none->dc=0){ax:OA}(hx:(if dc=H then da else Option.map (fun x=>x.add H) da)=ax):RdS w ax db (dO+H) (D.drop H).length (D.drop H)∧(ax=none->dc-H=0):=by
 refine⟨⟨rfl,fun h0=> ?_,fun j v hj=> ?_,fun s hs=>h.sz s (Nu hs)⟩,fun e=> ?_⟩
 ·rw[LS] at h0;rw[Ld (by omega),h.ptr (by omega)] at hx
  rw[<-hx];simp[Addr.add_mid]
 ·rw[Ih,NI] at hj;have:=h.rng (H+j) v hj
  rwa [<-Nr] at this
 ·rw[e] at hx
  split at hx
  ·omega
  ·have:da=none:=by simpa using hx
   have:=hn this;omega
theorem OS{w:World}{da:OA}{db dO:Nat}{D:LB}(h:RdS w da db dO D.length D){H:Nat}(hH:H<=D.length):RdS w da db dO (D.take H).length (D.take H):=by
 refine⟨rfl,fun h0=>h.ptr ?_,fun j v hj=> ?_,fun s hs=>h.sz s (Nm hs)⟩
 ·rw[LA] at h0;omega
 ·refine h.rng j v ?_
  rw[NN,Nb] at hj
  split at hj
  ·exact hj
  ·cases hj
structure Bx(q:Nat)(w w':World):Prop where
 os:w'.os=w.os
 tape:w'.tape=w.tape
 output:w'.output=w.output
 size:w.heap.size<=w'.heap.size
 block:∀b,b<w.heap.size->b≠q->w'.heap[b]? = w.heap[b]?
section
variable {q:Nat} {w w1 w2:World}
theorem Bx.refl(q:Nat)(w:World):Bx q w w:=⟨rfl,rfl,rfl,La _,fun _ _ _=>rfl⟩
theorem Bx.next(h:Bx q w w1)(hb:Below w1.heap.size w1 w2):Bx q w w2:=⟨hb.os.trans h.os,hb.tape.trans h.tape,hb.output.trans h.output,Lu h.size hb.size,fun b h1 h2=>(hb.block b (Lv h1 h.size)).trans (h.block b h1 h2)⟩
theorem Bx.put(h:Bx q w w1)(hc:ChT (fun b=>b=q) w1 w2):Bx q w w2:=⟨hc.os.trans h.os,hc.tape.trans h.tape,hc.output.trans h.output,by rw[hc.size];exact h.size,fun b h1 h2=>(hc.block b h2).trans (h.block b h1 h2)⟩
theorem Bx.trans{w0:World}(h0:Bx q w0 w)(h:Bx q w w1):Bx q w0 w1:=⟨h.os.trans h0.os,h.tape.trans h0.tape,h.output.trans h0.output,Lu h0.size h.size,fun b h1 h2=>(h.block b (Lv h1 h0.size) h2).trans (h0.block b h1 h2)⟩
theorem Bx.below(h:Bx q w w1){B:Nat}(hB:B<=q)(hw:B<=w.heap.size):Below B w w1:=⟨h.os,h.tape,h.output,h.size,fun b hb=>h.block b (by omega) (by omega)⟩
end
end
theorem Qdf{B:Nat}{a w:World}(hb:Below B a w){b o:Nat}{cs:List Value}(hlt:b<B)(h:a.rangeAt b o cs):w.rangeAt b o cs:=fun j v hv=>by
 rw[hb.cell (p:=⟨b,o+j,none⟩) hlt];exact h j v hv
open Cv (RdC zl cU)
section
variable {w W:World} {s:Nat} {a b c d e f:Value}
end
section
variable {q:Nat} {w w1 w2:World}
end
section
open Cv (rst cov QQ QN Til)
structure PV where
 kd:Int
 k:Int
 old:Nat
 size:Nat
 S:List Nat
 D:LB
def cnt(kd k:Int)(old size:Nat)(S:List Nat):Option Nat :=
 if 1<=k∧k<=32∧size<=2^40 then
  if kd=1 then (if old=0∧S.length=1∧QN size S=0 then some (rst 0 size S).length else none)
  else if kd=2 then (if old=0∧QN size S=0 then some (rst 0 size S).length else none)
  else if kd=3 then (if old<=size∧S=[] then some ((cov 0 old).length+(cov old size).length) else none)
  else none
 else none
theorem Qnx{A:Nat->Prop}{q:Nat} : ∀ {L:List (Nat×Nat)} {p:Nat},Til A q p L->L.length+p<=q:=by
 intro L
 induction L with
 | nil=>intro p h;have:=h.1;simp;omega
 | cons b L ih=>
  intro p h;obtain⟨h1,h2,h3,h4,h5,h6⟩:=h;have:=ih h6;have:=Cv.YE b.1 b.2;simp;omega
theorem QfW{n:Nat}{S:List Nat}(hn:n<=2^40)(hc:QQ 0 S n):(rst 0 n S).length<=n:=Qnx (Cv.Qdr n S hn hc)
theorem UK:∀ {S:List Nat} {x n:Nat},QQ x S n->S.length+x<=n:=by
 intro S
 induction S with
 | nil=>intro x n h;have:x<=n:=h;simp;omega
 | cons i S ih=>intro x n h;have:=ih h.2;have:=h.1;simp;omega
structure CntOk(kd k:Int)(old size:Nat)(S:List Nat)(c:Nat):Prop where
 kd1:1<=kd
 kd3:kd<=3
 k1:1<=k
 k32:k<=32
 hsz:size<=1099511627776
 hc:c<=1099511627776
 hold:old<=size
 len:S.length<=size
 chain:QQ 0 S size
 one:kd=1->S.length=1∧old=0
 two:kd=2->old=0
 three:kd=3->S=[]
theorem QS{kd k:Int}{old size c:Nat}{S:List Nat}(h:cnt kd k old size S=some c):CntOk kd k old size S c:=by
 unfold cnt at h;have e40:(2:Nat)^40=1099511627776:=by decide
 split at h
 ·rename_i h0
  obtain⟨g1,g2,g3⟩:=h0
  split at h
  ·rename_i hk
   split at h
   ·rename_i h1
    obtain⟨a1,a2,a3⟩:=h1;have hc:=(Cv.Yu a3).2.2.2;have hl:=UK hc;have hr:=QfW g3 hc
    cases h;exact⟨by omega,by omega,g1,g2,by omega,by omega,by omega,by omega,hc,fun _=>⟨a2,a1⟩,fun h=>by omega,fun h=>by omega⟩
   ·cases h
  ·rename_i hk1
   split at h
   ·rename_i hk
    split at h
    ·rename_i h1
     obtain⟨a1,a3⟩:=h1;have hc:=(Cv.Yu a3).2.2.2;have hl:=UK hc;have hr:=QfW g3 hc
     cases h;exact⟨by omega,by omega,g1,g2,by omega,by omega,by omega,by omega,hc,fun h=>by omega,fun _=>a1,fun h=>by omega⟩
    ·cases h
   ·rename_i hk2
    split at h
    ·rename_i hk
     split at h
     ·rename_i h1
      obtain⟨a1,a3⟩:=h1;have h1:=Cv.UM old (by omega)
      have h2:=Cv.U7 old size a1 g3
      cases h;subst a3;exact⟨by omega,by omega,g1,g2,by omega,by omega,a1,by simp,Ln _,fun h=>by omega,fun h=>by omega,fun _=>rfl⟩
     ·cases h
    ·cases h
 ·cases h
def YJ(D:LB):List UInt8:=(D.map (·.data.toList)).flatten
theorem Uh(d:BA)(D:LB):YJ (d::D)=d.data.toList++YJ D:=by simp[YJ]
theorem Qe(d:BA):d.data.toList.length=d.size:=NZ
theorem Qd5{k:Nat} : ∀ {D:LB},(∀d∈D,d.size=k)->(YJ D).length=D.length*k:=by
 intro D
 induction D with
 | nil=>intro _;simp[YJ]
 | cons d D ih=>
  intro h;rw[Uh,Le,Qe,h d (by simp),ih (fun x hx=>h x (by simp[hx])),LD,LT,Na,I5]
def QJ:Nat->List Nat->List UInt8
 | _,[]=>[]
 | x,i::S=>num (i-x)++QJ (i+1) S
def nxt:Nat->List Nat->Nat
 | x,[]=>x
 | _,i::S=>nxt (i+1) S
theorem QhL(i:Nat):∀(S:List Nat) (x:Nat),QJ x (S++[i])=QJ x S++num (i-nxt x S):=by
 intro S
 induction S with
 | nil=>intro x;simp[QJ,nxt]
 | cons a S ih=>intro x;rw[N7,QJ,ih,QJ,LH,nxt]
theorem QmR(i:Nat):∀(S:List Nat) (x:Nat),nxt x (S++[i])=i+1:=by
 intro S
 induction S with
 | nil=>intro x;rfl
 | cons a S ih=>intro x;rw[N7,nxt,ih]
theorem QhM:∀(S:List Nat) (x:Nat),S.length<=(QJ x S).length:=by
 intro S
 induction S with
 | nil=>intro x;simp[QJ]
 | cons a S ih=>intro x;have:=ih (a+1);have:=QmO (a-x);simp[QJ];omega
def mid(p:PV):List UInt8:=if p.kd=1 then num (p.S.getD 0 0) else if p.kd=2 then num p.S.length++QJ 0 p.S else num p.old
def enc(p:PV):List UInt8:=UInt8.ofNat p.kd.toNat::UInt8.ofNat p.k.toNat::(num p.size++(mid p++YJ p.D))
def Uu(p:PV):Prop:=cnt p.kd p.k p.old p.size p.S=some p.D.length ∧ ∀d∈p.D,(d.size:Int)=p.k
instance (p:PV):Decidable (Uu p):=by unfold Uu;infer_instance
def nmb(l:List UInt8):Option (Nat×List UInt8):=if (Y5 l 0 0).2.1=0 then some ((Y5 l 0 0).1,l.drop (Y5 l 0 0).2.2) else none
theorem OK{n:Nat}(hn:n<2^64)(t:List UInt8):nmb (num n++t)=some (n,t):=by
 have h:=QeS t n 0 0 (by decide) (by simpa using hn) (by decide) (.inl rfl)
 rw[nmb,h];simp
theorem Ul{l r:List UInt8}{n:Nat}(h:nmb l=some (n,r)):l=num n++r∧n<2^64:=by
 unfold nmb at h
 split at h
 ·rename_i h0
  obtain⟨a,b,c,hc⟩:∃a b c,Y5 l 0 0=(a,b,c):=⟨_,_,_,rfl⟩;rw[hc] at h h0;simp only at h h0;subst h0;obtain⟨m,h1,h2,h3,h4,h5,h6,h7⟩:=Qcm l 0 0 a _ (by decide) (by decide) hc
  simp only[Option.some.injEq,Prod.mk.injEq] at h;obtain⟨rfl,rfl⟩:=h;rw[Lo,Iv,Nj] at h1;subst h1;rw[h2];exact⟨by simp,h7⟩
 ·cases h
def YM:Nat->Nat->Nat->List UInt8->Option (List Nat×List UInt8)
 | 0,_,_,l=>some ([],l)
 | c+1,x,size,l=>
  match nmb l with
  | none=>none
  | some (d,r)=>if x+d<size then (match YM c (x+d+1) size r with|none=>none|some (S,r')=>some ((x+d)::S,r')) else none
theorem Qim{size:Nat}(hs:size<=2^64)(t:List UInt8):∀(S:List Nat) (x:Nat),QQ x S size->YM S.length x size (QJ x S++t)=some (S,t):=by
 intro S
 induction S with
 | nil=>intro x _;rfl
 | cons i S ih=>
  intro x h;have hl:=Cv.Yy h.2;have h1:=h.1;rw[LD,QJ,LH,YM,OK (by omega)]
  simp only;rw[show x+(i-x)=i by omega,Lm (by omega),ih (i+1) h.2]
theorem Qat{size:Nat} : ∀(c x:Nat) (l:List UInt8) (S:List Nat) (r:List UInt8),x<=size->YM c x size l=some (S,r)->S.length=c∧l=QJ x S++r∧QQ x S size:=by
 intro c
 induction c with
 | zero=>
  intro x l S r hx h;simp only[YM,Option.some.injEq,Prod.mk.injEq] at h;obtain⟨rfl,rfl⟩:=h;exact⟨rfl,rfl,hx⟩
 | succ c ih=>
  intro x l S r hx h;rw[YM] at h
  split at h
  ·cases h
  ·rename_i d r' hn
   split at h
   ·rename_i hlt
    split at h
    ·cases h
    ·rename_i S' r'' hs
     simp only[Option.some.injEq,Prod.mk.injEq] at h;obtain⟨rfl,rfl⟩:=h;obtain⟨g1,g2,g3⟩:=ih _ _ _ _ hlt hs;obtain⟨n1,n2⟩:=Ul hn;refine⟨by simp[g1],?_,by omega,g3⟩
     rw[QJ,LH,<-g2,Wo,<-n1]
   ·cases h
def Yt:Nat->Nat->List UInt8->LB
 | 0,_,_=>[]
 | c+1,k,l=>⟨(l.take k).toArray⟩::Yt c k (l.drop k)
theorem Qhu{k:Nat} : ∀(D:LB),(∀d∈D,d.size=k)->Yt D.length k (YJ D)=D:=by
 intro D
 induction D with
 | nil=>intro _;rfl
 | cons d D ih=>
  intro h;have hd:d.data.toList.length=k:=by rw[Qe];exact h d (by simp)
  rw[LD,Yt,Uh,Iw hd,IJ hd,ih (fun x hx=>h x (by simp[hx]))]
theorem Qht{k:Nat} : ∀(c:Nat) (l:List UInt8),c*k=l.length->YJ (Yt c k l)=l∧(Yt c k l).length=c ∧ ∀d∈Yt c k l,d.size=k:=by
 intro c
 induction c with
 | zero=>intro l h;have:l=[]:=List.length_eq_zero_iff.1 (by omega);subst this;exact⟨rfl,rfl,fun d hd=>by cases hd⟩
 | succ c ih=>
  intro l h;rw[LT,Na] at h;obtain⟨g1,g2,g3⟩:=ih (l.drop k) (by rw[LS];omega)
  refine⟨by rw[Yt,Uh,g1];simp,by rw[Yt,LD,g2],fun d hd=> ?_⟩
  rw[Yt] at hd
  rcases List.mem_cons.1 hd with rfl|hd
  ·simp[ByteArray.size];omega
  ·exact g3 d hd
def UE(kd:Nat)(size:Nat)(l:List UInt8):Option (Nat×List Nat×List UInt8) :=
 if kd=1 then (match nmb l with|none=>none|some (i,r)=>some (0,[i],r))
 else if kd=2 then (match nmb l with|none=>none|some (c,r)=>if c<=r.length then (match YM c 0 size r with|none=>none|some (S,r')=>some (0,S,r')) else none)
 else if kd=3 then (match nmb l with|none=>none|some (o,r)=>some (o,[],r))
 else some (0,[],l)
def Ov(b0 b1 size old:Nat)(S:List Nat)(l:List UInt8):Option PV :=
 match cnt b0 b1 old size S with
 | none=>none
 | some c=>if c*b1=l.length then some ⟨b0,b1,old,size,S,Yt c b1 l⟩ else none
def decA(b0 b1:Nat)(l:List UInt8):Option PV :=
 match nmb l with
 | none=>none
 | some (size,l1)=>match UE b0 size l1 with|none=>none|some (old,S,l2)=>Ov b0 b1 size old S l2
def dec:List UInt8->Option PV
 | b0::b1::l=>decA b0.toNat b1.toNat l
 | _=>none
theorem Ql1{p:PV}(h:Uu p):dec (enc p)=some p:=by
 obtain⟨kd,k,old,size,S,D⟩:=p;obtain⟨h1,h2⟩:=h;simp only at h1 h2;have o:=QS h1;have i1:=o.kd1;have i2:=o.kd3;have i3:=o.k1;have i4:=o.k32;have i5:=o.hsz;have i6:=o.hold;have i7:=o.len;obtain⟨a,rfl⟩:∃a:Nat,kd=a:=⟨kd.toNat,by omega⟩
 obtain⟨b,rfl⟩:∃b:Nat,k=b:=⟨k.toNat,by omega⟩
 have hD:∀d∈D,d.size=b:=fun d hd=>by have:=h2 d hd;omega
 simp only[enc,dec,decA,Int.toNat_natCast];rw[QR (show a<256 by omega),QR (show b<256 by omega),OK (by omega)]
 simp only;have hm:UE a size (mid ⟨a,b,old,size,S,D⟩++YJ D)=some (old,S,YJ D):=by
  have e1:((a:Int)=1)↔a=1:=by omega
  have e2:((a:Int)=2)↔a=2:=by omega
  simp only[UE,mid,e1,e2]
  by_cases ha:a=1
  ·obtain⟨g1,g2⟩:=o.one (by omega)
   obtain⟨i,rfl⟩:=List.length_eq_one_iff.1 g1;have hc:=Cv.Yy o.chain.2;rw[Lm ha,Lm ha,show[i].getD 0 0=i from rfl,OK (by omega),g2]
  ·rw[Ld ha,Ld ha]
   by_cases ha2:a=2
   ·have hl:=QhM S 0;rw[Lm ha2,Lm ha2,LH,OK (by omega)]
    simp only;rw[Lm (by simp;omega),Qim (by omega) _ _ _ o.chain]
    simp only[o.two (by omega)]
   ·rw[Ld ha2,Ld ha2,Lm (by omega),OK (by omega)]
    simp only[o.three (by omega)]
 rw[hm];simp only[Ov,h1];rw[Lm (by rw[Qd5 hD]),Qhu D hD]
theorem QaM{s:List UInt8}{p:PV}(h:dec s=some p):Uu p∧enc p=s∧(∃b0 b1:Nat,p.kd=b0∧p.k=b1):=by
 unfold dec at h
 split at h
 ·rename_i b0 b1 l
  unfold decA at h
  split at h
  ·cases h
  ·rename_i size l1 hn
   split at h
   ·cases h
   ·rename_i old S l2 hm
    unfold Ov at h
    split at h
    ·cases h
    ·rename_i c hc
     split at h
     ·rename_i hlen
      cases h;obtain⟨d1,d2,d3⟩:=Qht c l2 hlen;obtain⟨n1,n2⟩:=Ul hn;have o:=QS hc;have i1:=o.kd1;have i2:=o.kd3;have i5:=o.hsz;refine⟨⟨by simp only[d2];exact hc,fun d hd=>by have:=d3 d hd;simp only;omega⟩,?_,_,_,rfl,rfl⟩
      have hb:∀b:UInt8,UInt8.ofNat b.toNat=b:=fun b=>by simp
      simp only[enc,Int.toNat_natCast,hb,d1];rw[n1]
      congr 3
      have e1:((b0.toNat:Int)=1)↔b0.toNat=1:=by omega
      have e2:((b0.toNat:Int)=2)↔b0.toNat=2:=by omega
      simp only[mid,e1,e2];unfold UE at hm
      split at hm
      ·rename_i h1
       rw[Lm h1]
       split at hm
       ·cases hm
       ·rename_i i r hi
        cases hm;obtain⟨m1,m2⟩:=Ul hi;rw[m1];rfl
      ·rename_i h1
       rw[Ld h1]
       split at hm
       ·rename_i h2
        rw[Lm h2]
        split at hm
        ·cases hm
        ·rename_i c' r hi
         split at hm
         ·split at hm
          ·cases hm
          ·rename_i S' r' hs
           cases hm;obtain⟨m1,m2⟩:=Ul hi;obtain⟨g1,g2,g3⟩:=Qat _ _ _ _ _ (Ln _) hs;rw[m1,g1,LH,<-g2]
         ·cases hm
       ·rename_i h2
        rw[Ld h2]
        split at hm
        ·split at hm
         ·cases hm
         ·rename_i o' r hi
          cases hm;obtain⟨m1,m2⟩:=Ul hi;rw[m1]
        ·rename_i h3
         omega
     ·cases h
 ·cases h
end
abbrev pnc:Ending := .panicked [{ v := .iface 28 (.int .i64 140),recovered:=false }]
theorem Yz(w:World)(b:Bool)(hb:b=true):Calls prog 317 #[.bool b] w fun e w'=>e= .returned (.tuple #[])∧w'=w:=by
 subst hb
 go_enter func317,ntmps317;go_wp2
 go_end0
 exact⟨rfl,rfl⟩
theorem YV(w:World)(b:Bool)(hb:b=false):Calls prog 317 #[.bool b] w fun e w'=>e=pnc∧w'=w:=by
 subst hb
 go_enter func317,ntmps317;go_wp2;exact⟨rfl,rfl,rfl⟩
theorem UO(s:BA)(k:Nat):(s.extract k s.size).data.toList=s.data.toList.drop k:=by
 rw[Io,Array.toList_extract,Wi,Lr (by rw[LS,Qe];omega)]
theorem Oz(s:BA)(k:Nat):(s.extract 0 k).data.toList=s.data.toList.take k:=by
 rw[Io,Array.toList_extract,Wi,IE,Wt]
theorem QmI{s:BA}{n:Nat}{r:List UInt8}(h:nmb s.data.toList=some (n,r)):∃s',s'.data.toList=r∧nb s 0=(n,0,s')∧s'.size<=s.size:=by
 unfold nmb at h
 split at h
 ·rename_i h0
  obtain⟨a,b,c,hc⟩:∃a b c,Y5 s.data.toList 0 0=(a,b,c):=⟨_,_,_,rfl⟩;rw[hc] at h h0;simp only[Option.some.injEq,Prod.mk.injEq] at h h0;subst h0;obtain⟨rfl,rfl⟩:=h;refine⟨_,UO s c,QnX hc,?_⟩
  have:=LW List.length (UO s c);rw[Qe,LS,Qe] at this;omega
 ·cases h
theorem QmH{s:BA}(h:nmb s.data.toList=none):∃n e s',nb s 0=(n,e,s')∧e≠0:=by
 unfold nmb at h
 split at h
 ·cases h
 ·rename_i h0
  obtain⟨a,b,c,hc⟩:∃a b c,Y5 s.data.toList 0 0=(a,b,c):=⟨_,_,_,rfl⟩;rw[hc] at h0;exact⟨_,_,_,QcX hc h0,h0⟩
theorem Jc(w:World)(p:Nat)(s:BA)(hr:Rdr w p s 0)(hs:s.size<=9223372036854775807) :
  Calls prog 315 #[Pq p] w fun e w'=>(∃n s',nmb s.data.toList=some (n,s'.data.toList)∧e= .returned (.int .u64 n)∧Rdr w' p s' 0∧Ch p w w'∧s'.size<=s.size)∨(nmb s.data.toList=none∧e=pnc∧Ch p w w'):=by
 have HR:=QkZ w p 0 s hr hs
 cases hn:nmb s.data.toList with
 | none=>
  obtain⟨n,e,s',h1,h2⟩:=QmH hn;rw[h1] at HR;have h2':((e:Int) == 0)=false:=beq_false_of_ne (by omega)
  clear hr hs h1 hn h2
  go_enter func315,ntmps315
  go_wp2_with (first
   | (go_at_call 386;with_reducible refine HR.mono ?_;rintro x w1 ⟨rfl,h1,h2⟩)
   | (go_at_call 317;refine(YV _ _ rfl).mono ?_;rintro x w2 ⟨rfl,rfl⟩))
  exact⟨rfl,.inr ⟨trivial,rfl,h2⟩⟩
 | some a=>
  obtain⟨n,r⟩:=a;obtain⟨s',rfl,h1,h3⟩:=QmI hn;rw[h1] at HR;clear hr hs h1 hn
  go_enter func315,ntmps315
  go_wp2_with (first
   | (go_at_call 386;with_reducible refine HR.mono ?_;rintro x w1 ⟨rfl,h1,h2⟩)
   | (go_at_call 317;refine(Yz _ _ rfl).mono ?_;rintro x w2 ⟨rfl,rfl⟩))
  go_ret
  exact .inl ⟨n,s',rfl,rfl,h1,h2,h3⟩
theorem QbI(w:World)(p:Nat)(s:BA)(hr:Rdr w p s 0)(hs:s.size<=9223372036854775807) :
  Calls prog 314 #[Pq p] w fun e w'=>(∃b s',s.data.toList=b::s'.data.toList∧e= .returned (.int .i64 b.toNat)∧Rdr w' p s' 0∧Ch p w w'∧s'.size<=s.size)∨(s.data.toList=[]∧e=pnc∧Ch p w w'):=by
 have HR:=U0 w p 0 s 1 hr
 by_cases h0:s.size=0
 ·have ht:tkC s 0 1=(ByteArray.empty,60,ByteArray.empty):=by rw[tkC,Ld (by simp),Lm (by omega)]
  rw[ht] at HR;have hl:s.data.toList=[]:=List.length_eq_zero_iff.1 (by rw[Qe];exact h0)
  clear hr hs ht
  go_enter func314,ntmps314
  go_wp2_with (first
   | (go_at_call 385;with_reducible refine HR.mono ?_;rintro x w1 ⟨rfl,h1,h2⟩)
   | (go_at_call 317;refine(YV _ _ rfl).mono ?_;rintro x w2 ⟨rfl,rfl⟩))
  exact⟨rfl,.inr ⟨hl,rfl,h2⟩⟩
 ·have ht:tkC s 0 1=(s.extract 0 1,0,s.extract 1 s.size):=by rw[tkC,Ld (by simp),Ld (by omega)];rfl
  rw[ht] at HR;obtain⟨b,r,hl⟩:∃b r,s.data.toList=b::r:=by
   cases h:s.data.toList with
   | nil=>exact absurd (by rw[<-Qe,h];rfl) h0
   | cons b r=>exact⟨b,r,rfl⟩
  have h1:(s.extract 0 1).data.toList=[b]:=by rw[Oz,hl];rfl
  have h2:(s.extract 1 s.size).data.toList=r:=by rw[UO,hl];rfl
  have h3:=LW List.length h2;have h4:=LW List.length hl;rw[Qe] at h3 h4;generalize s.extract 0 1=t at *;generalize s.extract 1 s.size=s' at *;subst h2;obtain⟨⟨t⟩⟩:=t;obtain rfl:t=[b]:=h1;have hb:∀W,(Instr.index 9 (.string ⟨⟨[b]⟩⟩) (.int .i64 0)).run prog W= .ok (.int .u8 b.toNat) W:=fun W=>by
   have e:(⟨⟨[b]⟩⟩:BA)[0]? = some b:=rfl;simp[Instr.index,asIntOf,run_underlying underlying9,e]
  clear hr hs ht h0
  go_enter func314,ntmps314
  go_wp2_with (first
   | (go_at_call 385;with_reducible refine HR.mono ?_;rintro x w1 ⟨rfl,h1,h2⟩)
   | (go_at_call 317;refine(Yz _ _ rfl).mono ?_;rintro x w2 ⟨rfl,rfl⟩))
  go_ret
  have e2:wrap64 (b.toNat:Int)=(b.toNat:Int):=by
   have:=b.toNat_lt;unfold wrap64;omega
  exact .inl ⟨b,s',hl,LW (fun x=>Ending.returned (.int .i64 x)) e2,h1,h2,by simp at h4;omega⟩
end Go.Proofs.YtoblgjledefdbaaGreatDoor
