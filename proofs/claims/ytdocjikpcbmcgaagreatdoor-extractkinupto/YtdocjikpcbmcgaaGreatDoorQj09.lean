/- Own work. -/
import Derived.Test.YtdocjikpcbmcgaaGreatDoorQj08
namespace Go.Proofs.YtdocjikpcbmcgaaGreatDoor
open Go.RowKit
attribute [local go_sem ↓] Go.wp_at_zero Go.wp_at_succ
def fr:LB->LB->Pq
 | a::A,b::B=>(un a b).or (fr A B)
 | _,_=>none
theorem Qml(B:LB):fr [] B=none:=by cases B <;> rfl
theorem Qkt(A:LB):fr A []=none:=by cases A <;> rfl
theorem Qdl : ∀ {A B:LB},A.length=B.length -> ∀C D,fr (A++C) (B++D)=(fr A B).or (fr C D)
 | [],[],_,C,D=>rfl
 | a::A,b::B,h,C,D=>by
  rw[NW,NW,fr,fr,Qdl (by simpa using h) C D,Option.or_assoc]
theorem Qks{A B:LB}{j:Nat}(ha:j<A.length)(hb:j<B.length):fr (A.drop j) (B.drop j)=(un (A.getD j ByteArray.empty) (B.getD j ByteArray.empty)).or (fr (A.drop (j+1)) (B.drop (j+1))):=by
 rw[LC ha,LC hb,fr,La,Lc ha,La,Lc hb];rfl
def bx(c:Nat):LB->LB
 | p::p2::P=>UG p (QA c (p2::P))::bx c (p2::P)
 | _=>[]
def tx(c n:Nat)(P:LB):LB:=QN n (QA c P)::bx c P
theorem Qbq(c:Nat) : ∀P,(bx c P).length=P.length - 1
 | []=>rfl
 | [p]=>rfl
 | p::p2::P=>by rw[bx,Lu,Qbq c (p2::P)];simp
theorem Qh1(c:Nat) : ∀(P:LB) (i:Nat),i+1<P.length->(bx c P)[i]? = some (UG (P.getD i ByteArray.empty) (QA c (P.drop (i+1))))
 | [],i,h=>by simp at h
 | [p],i,h=>by simp at h
 | p::p2::P,0,h=>rfl
 | p::p2::P,i+1,h=>by
  rw[bx,Nt,Qh1 c (p2::P) i (by simpa using h)]
  rfl
theorem Qj9(c:Nat)(P:LB)(i:Nat)(h:i+1<P.length):(bx c P).take (i+1)=(bx c P).take i++[UG (P.getD i ByteArray.empty) (QA c (P.drop (i+1)))]:=by
 have hl:i<(bx c P).length:=by rw[Qbq];omega
 have:=Qh1 c P i h;rw[Lc hl] at this;rw[LQ hl,NE this]
theorem QlH(c:Nat) : ∀(P Q:LB),P.length=Q.length->fr (bx c P) (bx c Q)=bg c P Q
 | [],Q,h=>by cases Q with|nil=>rfl|cons q Q=>simp at h
 | [p],Q,h=>by
  match Q,h with
  | [q],_=>rfl
 | p::p2::P,Q,h=>by
  match Q,h with
  | q::q2::Q,h=>rw[bx,bx,fr,bg,QlH c (p2::P) (q2::Q) (by simpa using h)]
theorem QaH(c n:Nat)(P:LB):(tx c n P).length=P.length - 1+1:=by rw[tx,Lu,Qbq]
theorem QlU(c n:Nat){P Q:LB}(h:P.length=Q.length):fr (tx c n P) (tx c n Q)=tp c n P Q:=by rw[tx,tx,fr,tp,QlH c P Q h]
section
variable (c:Nat) (L:LB) (M:Nat->Nat->Option Nat) (D:LB) (V:Nat->BA)
def ra:Nat->Nat->LB
 | 0,k=>match M 0 k with
  | some _=>[]
  | none=>[Qm (L.getD k ByteArray.empty)]
 | h+1,k=>match M (h+1) k with
  | some _=>[]
  | none=>QE (nd c L h (2*k)) (nd c L h (2*k+1))::(ra h (2*k)++ra h (2*k+1))
def rb:Nat->Nat->LB
 | 0,k=>match M 0 k with
  | some _=>[]
  | none=>[Qm (V k)]
 | h+1,k=>match M (h+1) k with
  | some _=>[]
  | none=>QE (xd c M D V h (2*k)) (xd c M D V h (2*k+1))::(rb h (2*k)++rb h (2*k+1))
end
section
variable {c:Nat} {L:LB} {M:Nat->Nat->Option Nat} {D:LB} {V:Nat->BA}
theorem QaN{h k j:Nat}(e:M h k=some j):ra c L M h k=[]:=by
 cases h with
 | zero=>rw[ra,e]
 | succ h=>rw[ra,e]
theorem QcM{h k j:Nat}(e:M h k=some j):rb c M D V h k=[]:=by
 cases h with
 | zero=>rw[rb,e]
 | succ h=>rw[rb,e]
theorem Qa6{k:Nat}(e:M 0 k=none):ra c L M 0 k=[Qm (L.getD k ByteArray.empty)]:=by rw[ra,e]
theorem Qdz{k:Nat}(e:M 0 k=none):rb c M D V 0 k=[Qm (V k)]:=by rw[rb,e]
theorem Qaa{h k:Nat}(e:M (h+1) k=none):ra c L M (h+1) k=QE (nd c L h (2*k)) (nd c L h (2*k+1))::(ra c L M h (2*k)++ra c L M h (2*k+1)):=by rw[ra,e]
theorem Qa7{h k:Nat}(e:M (h+1) k=none):rb c M D V (h+1) k=QE (xd c M D V h (2*k)) (xd c M D V h (2*k+1))::(rb c M D V h (2*k)++rb c M D V h (2*k+1)):=by rw[rb,e]
theorem rab(c:Nat)(L:LB)(M:Nat->Nat->Option Nat)(D:LB)(V:Nat->BA) : ∀h k,(ra c L M h k).length=(rb c M D V h k).length∧fr (ra c L M h k) (rb c M D V h k)=fp c L M D V h k:=by
 intro h
 induction h with
 | zero =>
  intro k
  cases e:M 0 k with
  | some j=>rw[QaN e,QcM e,Qcx e];exact⟨rfl,rfl⟩
  | none=>rw[Qa6 e,Qdz e,Od e];exact⟨rfl,Option.or_none⟩
 | succ h ih =>
  intro k
  cases e:M (h+1) k with
  | some j=>rw[QaN e,QcM e,Qcx e];exact⟨rfl,rfl⟩
  | none =>
   rw[Qaa e,Qa7 e,OX e];obtain⟨l1,f1⟩:=ih (2*k);obtain⟨l2,f2⟩:=ih (2*k+1);refine⟨by rw[Lu,Lu,Ld,Ld,l1,l2],?_⟩
   rw[fr,Qdl l1,f1,f2]
theorem Qgn(c:Nat)(L:LB)(M:Nat->Nat->Option Nat)(D:LB)(V:Nat->BA) : ∀B:List (Nat×Nat),(B.flatMap fun b=>ra c L M b.1 b.2).length=(B.flatMap fun b=>rb c M D V b.1 b.2).length∧fr (B.flatMap fun b=>ra c L M b.1 b.2) (B.flatMap fun b=>rb c M D V b.1 b.2)=fm (fp c L M D V) B:=by
 intro B
 induction B with
 | nil=>exact⟨rfl,rfl⟩
 | cons b B ih =>
  obtain⟨l1,f1⟩:=rab c L M D V b.1 b.2;rw[NP,NP,fm,Ld,Ld,l1,ih.1,Qdl l1,f1,ih.2];exact⟨rfl,rfl⟩
theorem QlC(c n:Nat)(L:LB)(M:Nat->Nat->Option Nat)(D:LB)(V:Nat->BA)(B:List (Nat×Nat)):fr (tx c n (B.map fun b=>nd c L b.1 b.2)++B.flatMap fun b=>ra c L M b.1 b.2) (tx c n (B.map fun b=>xd c M D V b.1 b.2)++B.flatMap fun b=>rb c M D V b.1 b.2)=wk c n L M D V B:=by
 rw[Qdl (by rw[QaH,QaH,Ln,Ln]),QlU c n (by rw[Ln,Ln]),(Qgn c L M D V B).2,wk]
end
theorem Qdq{h i n:Nat}(hi:(i+1)*2^(h+1)<=n):(2*i+1)*2^h<=n∧(2*i+1+1)*2^h<=n:=by
 have e:(i+1)*2^(h+1)=(2*i+1+1)*2^h:=by rw[LA,LY (2^h),<-L4];congr 1;omega
 rw[e] at hi;exact⟨Lm (Lo _ (by omega)) hi,hi⟩
theorem Qaq{h i n:Nat}(hi:(i+1)*2^h<=n):i<n:=by
 have:=NT (i+1) (Ie (n:=h));omega
def ixM(Bs:List (Nat×Nat))(h k:Nat):Option Nat:=if (h,k)∈Bs then some (Bs.idxOf (h,k)) else none
theorem QkB{Bs:List (Nat×Nat)}{b:Nat×Nat}(hb:b ∉ Bs)(h k:Nat):ixM (Bs++[b]) h k=if (h,k)=b then some Bs.length else ixM Bs h k:=by
 unfold ixM
 by_cases h1:(h,k)∈Bs
 ·have h2:(h,k)≠b:=fun e=>hb (e ▸ h1)
  rw[if_neg h2,if_pos h1,if_pos (List.mem_append_left _ h1),List.idxOf_append,if_pos h1]
 ·by_cases h2:(h,k)=b
  ·rw[if_pos h2,if_pos (by rw[h2];simp),List.idxOf_append,if_neg h1,h2,List.idxOf_cons_self,Ll]
  ·rw[if_neg h2,if_neg h1,if_neg (by simp[h1,h2])]
theorem QiP{Bs:List (Nat×Nat)}{h k j:Nat}(e:ixM Bs h k=some j):j<Bs.length:=by
 unfold ixM at e
 split at e
 ·rename_i hm
  cases e;exact NU hm
 ·cases e
theorem Qmt{Bs:List (Nat×Nat)}{h k j:Nat}(e:ixM Bs h k=some j):Bs.getD j (0,0)=(h,k):=by
 unfold ixM at e
 split at e
 ·rename_i hm
  cases e;have:=NU hm;rw[La,Lc this];exact IT this
 ·cases e
theorem JN{Bs:List (Nat×Nat)}{h k:Nat} : ixM Bs h k=none↔(h,k) ∉ Bs:=by
 unfold ixM
 split
 ·rename_i hm;simp[hm]
 ·rename_i hm;simp[hm]
def num(n:Nat):List UInt8:=if n<128 then [UInt8.ofNat n] else UInt8.ofNat (n % 128+128)::num (n / 128)
termination_by n
decreasing_by omega
theorem QaZ{n:Nat}(h:n<128):num n=[UInt8.ofNat n]:=by rw[num,if_pos h]
theorem O5{n:Nat}(h:128<=n):num n=UInt8.ofNat (n % 128+128)::num (n / 128):=by rw[num,if_neg (by omega)]
theorem QkQ(n:Nat):0<(num n).length:=by
 by_cases h:n<128
 ·rw[QaZ h];simp
 ·rw[O5 (by omega)];simp
def Q9:List UInt8->Nat->Nat->Nat×Nat×Nat
 | [],_,_=>(0,60,0)
 | b::r,i,n =>
  if i=9∧1<b.toNat then (0,61,0)
  else if b.toNat<128 then (if b.toNat=0∧0<i then (0,61,0) else (n+b.toNat*128^i,0,i+1))
  else Q9 r (i+1) (n+(b.toNat % 128)*128^i)
theorem QF{x:Nat}(h:x<256):(UInt8.ofNat x).toNat=x:=by
 rw[UInt8.toNat_ofNat'];exact Nx h
theorem Qa4{i:Nat}(h:i<=9):128^i<=128^9:=L5 (by decide) h
theorem Qb8(t:List UInt8) : ∀(m i acc:Nat),acc<128^i->acc+m*128^i<2^64->i<=9->(i=0∨0<m) ->
  Q9 (num m++t) i acc=(acc+m*128^i,0,i+(num m).length):=by
 intro m
 induction m using Nat.strongRecOn with
 | _ m ih =>
  intro i acc ha hn hi h0
  by_cases h:m<128
  ·rw[QaZ h,List.singleton_append,Q9,QF (by omega)]
   have h1 : ¬(i=9∧1<m):=by
    rintro⟨rfl,h1⟩;have:2*128^9<=m*128^9:=Lo _ h1;have e:2*128^9=2^64:=by decide
    omega
   rw[if_neg h1,if_pos h,if_neg (by omega)]
   rfl
  ·rw[O5 (by omega),NW,Q9,QF (by omega)]
   have h1:i≠9:=by
    rintro rfl;have:128*128^9<=m*128^9:=Lo _ (by omega)
    have e:2^64<=128*128^9:=by decide
    omega
   rw[if_neg (by omega),if_neg (by omega)]
   have hs:acc+(m % 128+128) % 128*128^i+m / 128*128^(i+1)=acc+m*128^i:=by
    rw[Nat.add_mod_right,Nat.mod_mod,LA,LY (128^i),<-L4,If,<-LI,Nat.mod_add_div']
   have hlt:acc+(m % 128+128) % 128*128^i<128^(i+1):=by
    rw[Nat.add_mod_right,Nat.mod_mod,LA];have:m % 128*128^i<=127*128^i:=Lo _ (by omega)
    omega
   rw[ih (m / 128) (by omega) (i+1) _ hlt (by rw[hs];exact hn) (by omega) (.inr (by omega)),hs,Lu]
   exact congrArg (fun x=>(acc+m*128^i,0,x)) (by omega)
theorem QaC : ∀(l:List UInt8) (i acc n k:Nat),acc<128^i->i<=9->Q9 l i acc=(n,0,k) ->
  ∃m,n=acc+m*128^i∧num m=l.take (k - i)∧i<k∧k<=10∧k - i<=l.length∧(0<i->0<m)∧n<2^64:=by
 intro l
 induction l with
 | nil=>intro i acc n k _ _ h;simp[Q9] at h
 | cons b r ih =>
  intro i acc n k ha hi h;rw[Q9] at h
  by_cases h1:i=9∧1<b.toNat
  ·rw[if_pos h1] at h;simp at h
  ·rw[if_neg h1] at h
   by_cases h2:b.toNat<128
   ·rw[if_pos h2] at h
    by_cases h3:b.toNat=0∧0<i
    ·rw[if_pos h3] at h;simp at h
    ·rw[if_neg h3] at h;simp only[Prod.mk.injEq,true_and] at h;obtain⟨rfl,rfl⟩:=h;refine⟨b.toNat,rfl,?_,by omega,by omega,by simp,by omega,?_⟩
     ·rw[QaZ h2,Ia];simp
     ·have e9:(128:Nat)^9=9223372036854775808:=by decide
      rcases IR i 9 with h9|h9
      ·have hp:128^(i+1)<=128^9:=Qa4 (by omega)
       have:b.toNat*128^i<=127*128^i:=Lo _ (by omega)
       rw[LA] at hp;omega
      ·obtain rfl:i=9:=by omega
       have:b.toNat*128^9<=1*128^9:=Lo _ (by omega)
       omega
   ·rw[if_neg h2] at h;have h9:i≠9:=by omega
    have hlt:acc+b.toNat % 128*128^i<128^(i+1):=by
     rw[LA];have:b.toNat % 128*128^i<=127*128^i:=Lo _ (by omega)
     omega
    obtain⟨m,rfl,h4,h5,h6,h7,h8,h10⟩:=ih (i+1) _ n k hlt (by omega) h
    have hm:=h8 (by omega)
    have hb:=b.toNat_lt;refine⟨b.toNat % 128+128*m,?_,?_,by omega,h6,by simp;omega,by omega,h10⟩
    ·rw[LI,LA,LY (128^i),<-L4,LY m,If]
    ·rw[O5 (by omega),show(b.toNat % 128+128*m) / 128=m by omega,h4,show(b.toNat % 128+128*m) % 128+128=b.toNat by omega,
      show k - i=(k - (i+1))+1 by omega,List.take_succ_cons]
     simp
theorem Qjy : ∀(l:List UInt8) (i acc:Nat),(Q9 l i acc).2.1=0∨Q9 l i acc=(0,60,0)∨Q9 l i acc=(0,61,0):=by
 intro l
 induction l with
 | nil=>intro i acc;exact .inr (.inl rfl)
 | cons b r ih =>
  intro i acc;rw[Q9]
  split
  ·exact .inr (.inr rfl)
  ·split
   ·split
    ·exact .inr (.inr rfl)
    ·exact .inl rfl
   ·exact ih _ _
theorem Yl{n:Nat}(h:n<2^64):(num n).length<=10:=by
 have:=Qb8 [] n 0 0 (by decide) (by simpa using h) (by omega) (.inl rfl)
 obtain⟨m,h1,h2,h3,h4,h5,_⟩:=QaC _ 0 0 _ _ (by decide) (by omega) this
 omega
section
open Cv (rst cov QX Yh Til)
structure PV where
 kd:Int
 k:Int
 old:Nat
 size:Nat
 S:List Nat
 D:LB
def cnt(kd k:Int)(old size:Nat)(S:List Nat):Option Nat :=
 if 1<=k∧k<=32∧size<=2^40 then
  if kd=1 then (if old=0∧S.length=1∧Yh size S=0 then some (rst 0 size S).length else none)
  else if kd=2 then (if old=0∧Yh size S=0 then some (rst 0 size S).length else none)
  else if kd=3 then (if old<=size∧S=[] then some ((cov 0 old).length+(cov old size).length) else none)
  else none
 else none
theorem Qlo{A:Nat->Prop}{q:Nat} : ∀ {L:List (Nat×Nat)} {p:Nat},Til A q p L->L.length+p<=q:=by
 intro L
 induction L with
 | nil=>intro p h;have:=h.1;simp;omega
 | cons b L ih =>
  intro p h;obtain⟨h1,h2,h3,h4,h5,h6⟩:=h;have:=ih h6;have:=Cv.Yr b.1 b.2;simp;omega
theorem Qjx{n:Nat}{S:List Nat}(hn:n<=2^40)(hc:QX 0 S n):(rst 0 n S).length<=n:=Qlo (Cv.Qgw n S hn hc)
theorem J5 : ∀ {S:List Nat} {x n:Nat},QX x S n->S.length+x<=n:=by
 intro S
 induction S with
 | nil=>intro x n h;have:x<=n:=h;simp;omega
 | cons i S ih=>intro x n h;have:=ih h.2;have:=h.1;simp;omega
structure CntOk(kd k:Int)(old size:Nat)(S:List Nat)(c:Nat):Prop where
 kd1:1<=kd
 kd3:kd<=3
 k1:1<=k
 k32:k<=32
 hsz:size<=1099511627776
 hc:c<=1099511627776
 hold:old<=size
 len:S.length<=size
 chain:QX 0 S size
 one:kd=1->S.length=1∧old=0
 two:kd=2->old=0
 three:kd=3->S=[]
theorem QL{kd k:Int}{old size c:Nat}{S:List Nat}(h:cnt kd k old size S=some c):CntOk kd k old size S c:=by
 unfold cnt at h;have e40:(2:Nat)^40=1099511627776:=by decide
 split at h
 ·rename_i h0
  obtain⟨g1,g2,g3⟩:=h0
  split at h
  ·rename_i hk
   split at h
   ·rename_i h1
    obtain⟨a1,a2,a3⟩:=h1;have hc:=(Cv.Oa a3).2.2.2;have hl:=J5 hc;have hr:=Qjx g3 hc
    cases h;exact⟨by omega,by omega,g1,g2,by omega,by omega,by omega,by omega,hc,fun _=>⟨a2,a1⟩,fun h=>by omega,fun h=>by omega⟩
   ·cases h
  ·rename_i hk1
   split at h
   ·rename_i hk
    split at h
    ·rename_i h1
     obtain⟨a1,a3⟩:=h1;have hc:=(Cv.Oa a3).2.2.2;have hl:=J5 hc;have hr:=Qjx g3 hc
     cases h;exact⟨by omega,by omega,g1,g2,by omega,by omega,by omega,by omega,hc,fun h=>by omega,fun _=>a1,fun h=>by omega⟩
    ·cases h
   ·rename_i hk2
    split at h
    ·rename_i hk
     split at h
     ·rename_i h1
      obtain⟨a1,a3⟩:=h1;have h1:=Cv.Uu old (by omega)
      have h2:=Cv.OQ old size a1 g3
      cases h;subst a3;exact⟨by omega,by omega,g1,g2,by omega,by omega,a1,by simp,Lf _,fun h=>by omega,fun h=>by omega,fun _=>rfl⟩
     ·cases h
    ·cases h
 ·cases h
def QG(D:LB):List UInt8:=(D.map (·.data.toList)).flatten
theorem Ob(d:BA)(D:LB):QG (d::D)=d.data.toList++QG D:=by simp[QG]
theorem OV(D E:LB):QG (D++E)=QG D++QG E:=by simp[QG]
theorem Qo(d:BA):d.data.toList.length=d.size:=Array.length_toList
theorem QbD{k:Nat} : ∀ {D:LB},(∀d∈D,d.size=k)->(QG D).length=D.length*k:=by
 intro D
 induction D with
 | nil=>intro _;simp[QG]
 | cons d D ih =>
  intro h;rw[Ob,Ld,Qo,h d (by simp),ih (fun x hx=>h x (by simp[hx])),Lu,LI,LP,I9]
def Qr:Nat->List Nat->List UInt8
 | _,[]=>[]
 | x,i::S=>num (i - x)++Qr (i+1) S
def nxt:Nat->List Nat->Nat
 | x,[]=>x
 | _,i::S=>nxt (i+1) S
theorem Qhi(i:Nat) : ∀(S:List Nat) (x:Nat),Qr x (S++[i])=Qr x S++num (i - nxt x S):=by
 intro S
 induction S with
 | nil=>intro x;simp[Qr,nxt]
 | cons a S ih=>intro x;rw[NW,Qr,ih,Qr,Lt,nxt]
theorem Jo(i:Nat) : ∀(S:List Nat) (x:Nat),nxt x (S++[i])=i+1:=by
 intro S
 induction S with
 | nil=>intro x;rfl
 | cons a S ih=>intro x;rw[NW,nxt,ih]
theorem Qcz : ∀(S:List Nat) (x:Nat),S.length<=(Qr x S).length:=by
 intro S
 induction S with
 | nil=>intro x;simp[Qr]
 | cons a S ih=>intro x;have:=ih (a+1);have:=QkQ (a - x);simp[Qr];omega
def mid(p:PV):List UInt8:=if p.kd=1 then num (p.S.getD 0 0) else if p.kd=2 then num p.S.length++Qr 0 p.S else num p.old
def enc(p:PV):List UInt8:=UInt8.ofNat p.kd.toNat::UInt8.ofNat p.k.toNat::(num p.size++(mid p++QG p.D))
def Y3(p:PV):Prop:=cnt p.kd p.k p.old p.size p.S=some p.D.length ∧ ∀d∈p.D,(d.size:Int)=p.k
instance (p:PV):Decidable (Y3 p):=by unfold Y3;infer_instance
def nmb(l:List UInt8):Option (Nat×List UInt8):=if (Q9 l 0 0).2.1=0 then some ((Q9 l 0 0).1,l.drop (Q9 l 0 0).2.2) else none
theorem O3{n:Nat}(hn:n<2^64)(t:List UInt8):nmb (num n++t)=some (n,t):=by
 have h:=Qb8 t n 0 0 (by decide) (by simpa using hn) (by decide) (.inl rfl)
 rw[nmb,h];simp
theorem UA{l r:List UInt8}{n:Nat}(h:nmb l=some (n,r)):l=num n++r∧n<2^64:=by
 unfold nmb at h
 split at h
 ·rename_i h0
  obtain⟨a,b,c,hc⟩ : ∃a b c,Q9 l 0 0=(a,b,c):=⟨_,_,_,rfl⟩;rw[hc] at h h0;simp only at h h0;subst h0;obtain⟨m,h1,h2,h3,h4,h5,h6,h7⟩:=QaC l 0 0 a _ (by decide) (by decide) hc
  simp only[Option.some.injEq,Prod.mk.injEq] at h;obtain⟨rfl,rfl⟩:=h;rw[Ll,Nj,NN] at h1;subst h1;rw[h2];exact⟨by simp,h7⟩
 ·cases h
def YZ:Nat->Nat->Nat->List UInt8->Option (List Nat×List UInt8)
 | 0,_,_,l=>some ([],l)
 | c+1,x,size,l =>
  match nmb l with
  | none=>none
  | some (d,r)=>if x+d<size then (match YZ c (x+d+1) size r with|none=>none|some (S,r')=>some ((x+d)::S,r')) else none
theorem QhJ{size:Nat}(hs:size<=2^64)(t:List UInt8) : ∀(S:List Nat) (x:Nat),QX x S size->YZ S.length x size (Qr x S++t)=some (S,t):=by
 intro S
 induction S with
 | nil=>intro x _;rfl
 | cons i S ih =>
  intro x h;have hl:=Cv.Ug h.2;have h1:=h.1;rw[Lu,Qr,Lt,YZ,O3 (by omega)]
  simp only;rw[show x+(i - x)=i by omega,if_pos (by omega),ih (i+1) h.2]
theorem QaD{size:Nat} : ∀(c x:Nat) (l:List UInt8) (S:List Nat) (r:List UInt8),x<=size->YZ c x size l=some (S,r)->S.length=c∧l=Qr x S++r∧QX x S size:=by
 intro c
 induction c with
 | zero =>
  intro x l S r hx h;simp only[YZ,Option.some.injEq,Prod.mk.injEq] at h;obtain⟨rfl,rfl⟩:=h;exact⟨rfl,rfl,hx⟩
 | succ c ih =>
  intro x l S r hx h;rw[YZ] at h
  split at h
  ·cases h
  ·rename_i d r' hn
   split at h
   ·rename_i hlt
    split at h
    ·cases h
    ·rename_i S' r'' hs
     simp only[Option.some.injEq,Prod.mk.injEq] at h;obtain⟨rfl,rfl⟩:=h;obtain⟨g1,g2,g3⟩:=ih _ _ _ _ hlt hs;obtain⟨n1,n2⟩:=UA hn;refine⟨by simp[g1],?_,by omega,g3⟩
     rw[Qr,Lt,<-g2,Ia,<-n1]
   ·cases h
def YB:Nat->Nat->List UInt8->LB
 | 0,_,_=>[]
 | c+1,k,l=>⟨(l.take k).toArray⟩::YB c k (l.drop k)
theorem QgZ{k:Nat} : ∀(D:LB),(∀d∈D,d.size=k)->YB D.length k (QG D)=D:=by
 intro D
 induction D with
 | nil=>intro _;rfl
 | cons d D ih =>
  intro h;have hd:d.data.toList.length=k:=by rw[Qo];exact h d (by simp)
  rw[Lu,YB,Ob,List.take_left' hd,List.drop_left' hd,ih (fun x hx=>h x (by simp[hx]))]
theorem QgY{k:Nat} : ∀(c:Nat) (l:List UInt8),c*k=l.length->QG (YB c k l)=l∧(YB c k l).length=c ∧ ∀d∈YB c k l,d.size=k:=by
 intro c
 induction c with
 | zero=>intro l h;have:l=[]:=LG.1 (by omega);subst this;exact⟨rfl,rfl,fun d hd=>by cases hd⟩
 | succ c ih =>
  intro l h;rw[LI,LP] at h;obtain⟨g1,g2,g3⟩:=ih (l.drop k) (by rw[LD];omega)
  refine⟨by rw[YB,Ob,g1];simp,by rw[YB,Lu,g2],fun d hd => ?_⟩
  rw[YB] at hd
  rcases LH.1 hd with rfl|hd
  ·simp[ByteArray.size];omega
  ·exact g3 d hd
def UU(kd:Nat)(size:Nat)(l:List UInt8):Option (Nat×List Nat×List UInt8) :=
 if kd=1 then (match nmb l with|none=>none|some (i,r)=>some (0,[i],r))
 else if kd=2 then (match nmb l with|none=>none|some (c,r)=>if c<=r.length then (match YZ c 0 size r with|none=>none|some (S,r')=>some (0,S,r')) else none)
 else if kd=3 then (match nmb l with|none=>none|some (o,r)=>some (o,[],r))
 else some (0,[],l)
def OS(b0 b1 size old:Nat)(S:List Nat)(l:List UInt8):Option PV :=
 match cnt b0 b1 old size S with
 | none=>none
 | some c=>if c*b1=l.length then some ⟨b0,b1,old,size,S,YB c b1 l⟩ else none
def decA(b0 b1:Nat)(l:List UInt8):Option PV :=
 match nmb l with
 | none=>none
 | some (size,l1)=>match UU b0 size l1 with|none=>none|some (old,S,l2)=>OS b0 b1 size old S l2
def dec:List UInt8->Option PV
 | b0::b1::l=>decA b0.toNat b1.toNat l
 | _=>none
theorem Qkh{p:PV}(h:Y3 p):dec (enc p)=some p:=by
 obtain⟨kd,k,old,size,S,D⟩:=p;obtain⟨h1,h2⟩:=h;simp only at h1 h2;have o:=QL h1;have i1:=o.kd1;have i2:=o.kd3;have i3:=o.k1;have i4:=o.k32;have i5:=o.hsz;have i6:=o.hold;have i7:=o.len;obtain⟨a,rfl⟩ : ∃a:Nat,kd=a:=⟨kd.toNat,by omega⟩
 obtain⟨b,rfl⟩ : ∃b:Nat,k=b:=⟨k.toNat,by omega⟩
 have hD : ∀d∈D,d.size=b:=fun d hd=>by have:=h2 d hd;omega
 simp only[enc,dec,decA,Int.toNat_natCast];rw[QF (show a<256 by omega),QF (show b<256 by omega),O3 (by omega)]
 simp only;have hm:UU a size (mid ⟨a,b,old,size,S,D⟩++QG D)=some (old,S,QG D):=by
  have e1:((a:Int)=1)↔a=1:=by omega
  have e2:((a:Int)=2)↔a=2:=by omega
  simp only[UU,mid,e1,e2]
  by_cases ha:a=1
  ·obtain⟨g1,g2⟩:=o.one (by omega)
   obtain⟨i,rfl⟩:=Iw.1 g1;have hc:=Cv.Ug o.chain.2;rw[if_pos ha,if_pos ha,show[i].getD 0 0=i from rfl,O3 (by omega),g2]
  ·rw[if_neg ha,if_neg ha]
   by_cases ha2:a=2
   ·have hl:=Qcz S 0;rw[if_pos ha2,if_pos ha2,Lt,O3 (by omega)]
    simp only;rw[if_pos (by simp;omega),QhJ (by omega) _ _ _ o.chain]
    simp only[o.two (by omega)]
   ·rw[if_neg ha2,if_neg ha2,if_pos (by omega),O3 (by omega)]
    simp only[o.three (by omega)]
 rw[hm];simp only[OS,h1];rw[if_pos (by rw[QbD hD]),QgZ D hD]
theorem J9{s:List UInt8}{p:PV}(h:dec s=some p):Y3 p∧enc p=s∧(∃b0 b1:Nat,p.kd=b0∧p.k=b1):=by
 unfold dec at h
 split at h
 ·rename_i b0 b1 l
  unfold decA at h
  split at h
  ·cases h
  ·rename_i size l1 hn
   split at h
   ·cases h
   ·rename_i old S l2 hm
    unfold OS at h
    split at h
    ·cases h
    ·rename_i c hc
     split at h
     ·rename_i hlen
      cases h;obtain⟨d1,d2,d3⟩:=QgY c l2 hlen;obtain⟨n1,n2⟩:=UA hn;have o:=QL hc;have i1:=o.kd1;have i2:=o.kd3;have i5:=o.hsz;refine⟨⟨by simp only[d2];exact hc,fun d hd=>by have:=d3 d hd;simp only;omega⟩,?_,_,_,rfl,rfl⟩
      have hb : ∀b:UInt8,UInt8.ofNat b.toNat=b:=fun b=>by simp
      simp only[enc,Int.toNat_natCast,hb,d1];rw[n1]
      congr 3
      have e1:((b0.toNat:Int)=1)↔b0.toNat=1:=by omega
      have e2:((b0.toNat:Int)=2)↔b0.toNat=2:=by omega
      simp only[mid,e1,e2];unfold UU at hm
      split at hm
      ·rename_i h1
       rw[if_pos h1]
       split at hm
       ·cases hm
       ·rename_i i r hi
        cases hm;obtain⟨m1,m2⟩:=UA hi;rw[m1];rfl
      ·rename_i h1
       rw[if_neg h1]
       split at hm
       ·rename_i h2
        rw[if_pos h2]
        split at hm
        ·cases hm
        ·rename_i c' r hi
         split at hm
         ·split at hm
          ·cases hm
          ·rename_i S' r' hs
           cases hm;obtain⟨m1,m2⟩:=UA hi;obtain⟨g1,g2,g3⟩:=QaD _ _ _ _ _ (Lf _) hs;rw[m1,g1,Lt,<-g2]
         ·cases hm
       ·rename_i h2
        rw[if_neg h2]
        split at hm
        ·split at hm
         ·cases hm
         ·rename_i o' r hi
          cases hm;obtain⟨m1,m2⟩:=UA hi;rw[m1]
        ·rename_i h3
         omega
     ·cases h
 ·cases h
end
section
open Cv (rst cov QX dnL tno inb)
open Pl (pw)
theorem QlG(m:Nat):(2*m+1) ^^^ (2*m)=1:=by
 have h1:((2*m+1) ^^^ (2*m)) / 2=0:=by
  have e:((2*m+1) ^^^ (2*m)) >>> 1=((2*m+1) >>> 1) ^^^ ((2*m) >>> 1):=IZ;rw[Ny,Ny,Ny,show(2*m+1) / 2^1=m by omega,show 2*m / 2^1=m by omega,Nat.xor_self] at e
  simpa using e
 have h2:((2*m+1) ^^^ (2*m)) % 2=1:=by
  have e:((2*m+1) ^^^ (2*m)) % 2^1=((2*m+1) % 2^1) ^^^ ((2*m) % 2^1):=Nat.xor_mod_two_pow;rw[show(2*m+1) % 2^1=1 by omega,show 2*m % 2^1=0 by omega] at e
  exact e
 omega
theorem QjZ{n i H q:Nat}(hq:q % 2=0)(h1:n / 2^H=q+1)(h2:i / 2^H=q):2^H<=n ^^^ i∧n ^^^ i<2^(H+1):=by
 have e:(n ^^^ i) / 2^H=1:=by
  have e:(n ^^^ i) >>> H=(n >>> H) ^^^ (i >>> H):=IZ;rw[Ny,Ny,Ny,h1,h2] at e;obtain⟨m,rfl⟩ : ∃m,q=2*m:=⟨q / 2,by omega⟩
  rw[e,QlG]
 have hp:0<2^H:=LL H
 constructor
 ·have:=I_ (n ^^^ i) (2^H);rw[e] at this;omega
 ·have:=Nat.lt_mul_of_div_lt (show(n ^^^ i) / 2^H<2 by omega) hp
  rw[LA];omega
theorem QmV(i:Nat) : ∀H K,K*pw H<=i->i<(K+1)*pw H->(tno H K [i]).length=H:=by
 intro H
 induction H with
 | zero =>
  intro K h1 h2;have hb:inb 0 K i=true:=Cv.Yj.2 ⟨h1,h2⟩;rw[tno,NG hb];simp
 | succ H ih =>
  intro K h1 h2;have hb:inb (H+1) K i=true:=Cv.Yj.2 ⟨h1,h2⟩;have e1:=Cv.Ua H K;have e2:=Cv.U4 H K;have e3:=Cv.Jm H K;have e4:=Cv.ON H K;rw[tno,NG hb,List.filter_nil,if_neg (by simp),Ld]
  have out : ∀K',¬(K' * pw H<=i∧i<(K'+1)*pw H)->(tno H K' [i]).length=1:=fun K' h=>by
   have hb : ¬inb H K' i=true:=fun e=>h (Cv.Yj.1 e)
   exact(Cv.QaF H K' [i]).1 (by rw[Nl hb];rfl)
  by_cases hm:i<K*pw (H+1)+pw H
  ·rw[ih (2*K) (by omega) (by rw[e2];exact hm),out (2*K+1) (by omega)]
  ·rw[out (2*K) (by omega),ih (2*K+1) (by omega) (by omega)]
   omega
theorem QgC{i H K:Nat}(h : ¬(K*pw H<=i∧i<(K+1)*pw H)):(tno H K [i]).length=1:=by
 have hb : ¬inb H K i=true:=fun e=>h (Cv.Yj.1 e)
 exact(Cv.QaF H K [i]).1 (by rw[Nl hb];rfl)
theorem Qiq(n i:Nat) : ∀h lo,(∃c,lo=c*pw h)->i<lo->((dnL h lo n).flatMap fun b=>tno b.1 b.2 [i]).length=(dnL h lo n).length:=by
 intro h
 induction h with
 | zero=>intro lo _ _;rfl
 | succ h ih =>
  intro lo hc hi;obtain⟨c,rfl⟩:=hc;have e:=Cv.QJ c h;rw[dnL]
  split
  ·rw[NP,Ld,Lu,ih _ ⟨2*c+1,by rw[LI,LP,e]⟩ (by omega),QgC (by
    intro hx
    dsimp only at hx
    rw[e,Ng _ (Pl.QB h)] at hx;omega)]
   omega
  ·exact ih _ ⟨2*c,e⟩ hi
theorem Qjk(n i:Nat)(hin:i<n) : ∀h lo,(∃c,lo=c*pw h)->lo<=i->n - lo<pw h ->
  ∃H,((dnL h lo n).flatMap fun b=>tno b.1 b.2 [i]).length+1=H+(dnL h lo n).length∧2^H<=n ^^^ i∧n ^^^ i<2^(H+1)∧H<h:=by
 intro h
 induction h with
 | zero=>intro lo _ h1 h2;have:pw 0=1:=rfl;omega
 | succ h ih =>
  intro lo hc h1 h2;obtain⟨c,rfl⟩:=hc;have e:=Cv.QJ c h;have hp:=Pl.QB h;have hs:=Pl.QK h;rw[dnL]
  split
  ·rename_i hfit
   have hq:c*pw (h+1) / pw h=2*c:=by rw[e,Ng _ hp]
   rw[NP,Ld,Lu,hq]
   by_cases hm:i<c*pw (h+1)+pw h
   ·refine⟨h,?_,?_⟩
    ·rw[QmV i h (2*c) (by omega) (by rw[LI,LP];omega),Qiq n i h _ ⟨2*c+1,by rw[LI,LP,e]⟩ hm]
     omega
    ·have a1:n / 2^h=2*c+1:=by
      have:n / pw h=2*c+1:=by
       apply IN
       ·rw[LI,LP];omega
       ·rw[LI,LI,LP];omega
      exact this
     have a2:i / 2^h=2*c:=by
      have:i / pw h=2*c:=by
       apply IN
       ·omega
       ·rw[LI,LP];omega
      exact this
     obtain⟨b1,b2⟩:=QjZ (q:=2*c) (by omega) a1 a2
     exact⟨b1,b2,by omega⟩
   ·obtain⟨H,g1,g2,g3,g4⟩:=ih (c*pw (h+1)+pw h) ⟨2*c+1,by rw[LI,LP,e]⟩ (by omega) (by omega)
    refine⟨H,?_,g2,g3,by omega⟩
    rw[QgC (by intro hx;dsimp only at hx;rw[LI,LP,<-e] at hx;omega)]
    omega
  ·rename_i hfit
   obtain⟨H,g1,g2,g3,g4⟩:=ih (c*pw (h+1)) ⟨2*c,e⟩ h1 (by omega)
   exact⟨H,g1,g2,g3,by omega⟩
theorem Qjj{n i:Nat}(hn:n<=2^40)(hin:i<n) : ∃H,(rst 0 n [i]).length+1=H+Pl.Y5 64 n∧2^H<=n ^^^ i∧n ^^^ i<2^(H+1)∧H<=40:=by
 have hp:n<pw 41:=by
  have:pw 41=2*2^40:=rfl;omega
 obtain⟨H,g1,g2,g3,g4⟩:=Qjk n i hin 41 0 ⟨0,by simp⟩ (Lf _) (by simpa using hp)
 have hc:QX 0 [i] n:=⟨Lf _,hin⟩;refine⟨H,?_,g2,g3,by omega⟩
 rw[Cv.QeH n [i] hn hc,g1,<-Cv.QH n hn,Cv.OR n hn]
end
section
open Pl (Qar pw)
theorem Qi0(n k:Nat):n % 2^(k+1)=n % 2^k+2^k*(n / 2^k % 2):=by rw[LA,Wf]
theorem QkE(n:Nat)(w:World)(hn:n<2^64) :
  Calls Tryz.prog 179 #[.int .u64 (n:Int)] w fun e w' => ∃c:Nat,e = .returned (.int .i64 ((c:Int) - 1))∧n<2^c∧c<=64∧(0<c->2^(c - 1)<=n)∧w=w':=by
 go_enter Tryz.func179,Tryz.ntmps179;go_wp2
 go_loopg [3,4,5] 64 (fun g r i4 i wr => ∃k c:Nat,k<=64∧g=64 - k∧i = .int .i64 (k:Int)∧r = .int .i64 ((c:Int) - 1)∧c<=k∧n % 2^k<2^c∧(0<c->2^(c - 1)<=n % 2^k)∧w=wr)
 case atStart =>
  go_light;exact⟨0,0,Lf _,rfl,rfl,rfl,Lf _,by simp[Nat.mod_one],fun h=>absurd h (NB 0),rfl⟩
 case round =>
  obtain⟨k,c,hk,rfl,rfl,rfl,hc,hs,hs2,rfl⟩:=hrel;have hk0:(0:Int)<=(k:Int):=Le _
  by_cases hlt:k<64
  ·have hk8:(k:Int)<64:=by omega
   have HM:=Qi0 n k;have HC:=Qar n k w hn hlt;have hlt2:n % 2^k<2^k:=IK _ (LL k)
   by_cases hb:n / 2^k % 2=1
   ·rw[decide_eq_true hb] at HC;rw[hb,NN] at HM;have HX:Hid (n % 2^(k+1)<2^(k+1)∧2^k<=n % 2^(k+1)):=⟨IK _ (LL _),by omega⟩
    clear hs hs2 hc HM hlt2
    go_wp2_with (go_at_call 130;refine HC.mono ?_;rintro e w' ⟨rfl,rfl⟩)
    go_roundg (64 - (k+1))
    case rel =>
     go_light;exact⟨k+1,k+1,by omega,rfl,by go_num,by congr 1;omega,Lb _,HX.out.1,fun _=>HX.out.2,rfl⟩
    case measure=>go_light;omega
   ·rw[decide_eq_false hb] at HC;have hb0:n / 2^k % 2=0:=by omega
    rw[hb0,Nat.mul_zero,IQ] at HM;have HX:Hid (n % 2^(k+1)<2^c∧c<=k+1∧(0<c->2^(c - 1)<=n % 2^(k+1))):=⟨by rw[HM];exact hs,by omega,by rw[HM];exact hs2⟩
    clear hs hs2 hc HM hlt2
    go_wp2_with (go_at_call 130;refine HC.mono ?_;rintro e w' ⟨rfl,rfl⟩)
    go_roundg (64 - (k+1))
    case rel =>
     go_light;exact⟨k+1,c,by omega,rfl,by go_num,rfl,HX.out.2.1,HX.out.1,HX.out.2.2,rfl⟩
    case measure=>go_light;omega
  ·obtain rfl:k=64:=by omega
   have HX:Hid (n<2^c∧c<=64∧(0<c->2^(c - 1)<=n)):=by
    rw[Nx hn] at hs hs2;exact⟨hs,hc,hs2⟩
   clear hs hs2 hc hlt;go_wp2
   go_ret
   exact⟨c,rfl,HX.out.1,HX.out.2.1,HX.out.2.2,rfl⟩
theorem Qmx(n H:Nat)(w:World)(hn:n<2^64)(h1:2^H<=n)(h2:n<2^(H+1)) :
  Calls Tryz.prog 179 #[.int .u64 (n:Int)] w fun e w'=>e = .returned (.int .i64 (H:Int))∧w'=w:=by
 refine(QkE n w hn).mono ?_
 rintro e w' ⟨c,rfl,g1,g2,g3,rfl⟩;have hc:c=H+1:=by
  have a1:H<c:=by
   apply Classical.byContradiction
   intro h;have:=L5 (n:=2) (by decide) (show c<=H by omega)
   omega
  have a2:c - 1<H+1:=by
   apply Classical.byContradiction
   intro h;have:=L5 (n:=2) (by decide) (show H+1<=c - 1 by omega)
   have:=g3 (by omega)
   omega
  omega
 subst hc;exact⟨by congr 2;omega,rfl⟩
theorem QfS(a b:Nat)(w:World)(h:a+b<18446744073709551616) :
  Calls Tryz.prog 154 #[.int .u64 (a:Int),.int .u64 (b:Int)] w fun e w'=>e = .returned (.tuple #[.int .u64 ((a+b:Nat):Int),.bool true])∧w'=w:=by
 have e1:IntKind.u64.wrap ((a:Int)+(b:Int))=((a+b:Nat):Int):=by rw[IntKind.wrap_u64];omega
 have e2 : ¬((a+b:Nat):Int)<(a:Int):=by omega
 generalize a+b=c at *
 go_enter Tryz.func154,Tryz.ntmps154;go_wp2
 go_ret2
 exact⟨rfl,rfl⟩
theorem QlX(a b:Nat)(w:World)(ha:a<18446744073709551616)(hb:b<18446744073709551616)(h : ¬a+b<18446744073709551616) :
  Calls Tryz.prog 154 #[.int .u64 (a:Int),.int .u64 (b:Int)] w fun e w'=>e = .returned (.tuple #[.int .u64 0,.bool false])∧w'=w:=by
 obtain⟨c,hc⟩:=Ze (a+b - 18446744073709551616);have e1:IntKind.u64.wrap ((a:Int)+(b:Int))=(c:Int):=by rw[IntKind.wrap_u64];omega
 have e2:(c:Int)<(a:Int):=by omega
 clear hc ha hb h
 go_enter Tryz.func154,Tryz.ntmps154;go_wp2
 go_ret2
 exact⟨rfl,rfl⟩
end
structure Rdr(w:World)(p:Nat)(s:BA)(e:Nat):Prop where
 c0:w.cell? ⟨p,0,none⟩=some (.string s)
 c1:w.cell? ⟨p,1,none⟩=some (.int .i64 (e:Int))
 f0:w.frozen? ⟨p,0,none⟩=false
 f1:w.frozen? ⟨p,1,none⟩=false
structure Ch(p:Nat)(w w':World):Prop where
 below:Below p w w'
 block : ∀q,q<w.heap.size->q≠p->w'.heap[q]? = w.heap[q]?
theorem Ch.refl(p:Nat)(w:World):Ch p w w:=⟨Below.refl _ _,fun _ _ _=>rfl⟩
theorem Ch.drewN{p:Nat}{w w':World}(h:Ch p w w')(n:Nat):Ch p w (w'.drewN n):=⟨Qd h.below n,h.block⟩
theorem Ch.set{p:Nat}{w w':World}(h:Ch p w w')(i:Nat)(v:Value):Ch p w (w'.setCell ⟨p,i,none⟩ v):=by
 refine⟨h.below.setCell (p:=⟨p,i,none⟩) (Lb _) v,fun q hq hne => ?_⟩
 rw[<-h.block q hq hne];exact Below.heap_setCell _ _ _ _ hne
theorem Rdr.lt{w:World}{p e:Nat}{s:BA}(h:Rdr w p s e):p<w.heap.size:=Lh _ _ h.c0
theorem Rdr.next{w w':World}{p B e:Nat}{s:BA}(h:Rdr w p s e)(hb:Below B w w')(hp:p<B):Rdr w' p s e :=
 ⟨(hb.cell (p:=⟨p,0,none⟩) hp).trans h.c0,(hb.cell (p:=⟨p,1,none⟩) hp).trans h.c1,(hb.frozen (p:=⟨p,0,none⟩) hp).trans h.f0,(hb.frozen (p:=⟨p,1,none⟩) hp).trans h.f1⟩
theorem Rdr.drewN{w:World}{p e:Nat}{s:BA}(h:Rdr w p s e)(n:Nat):Rdr (w.drewN n) p s e:=h.next (Qd (Below.refl (p+1) w) n) (by omega)
theorem Rdr.set0{w:World}{p e:Nat}{s:BA}(h:Rdr w p s e)(t:BA):Rdr (w.setCell ⟨p,0,none⟩ (.string t)) p t e :=
 ⟨LT _ _ _ h.c0,(Lj _ _ _ _ (by simp)).trans h.c1,(NZ _ _ _ _).trans h.f0,(NZ _ _ _ _).trans h.f1⟩
theorem Rdr.set1{w:World}{p e:Nat}{s:BA}(h:Rdr w p s e)(e':Nat):Rdr (w.setCell ⟨p,1,none⟩ (.int .i64 (e':Int))) p s e' :=
 ⟨(Lj _ _ _ _ (by simp)).trans h.c0,LT _ _ _ h.c1,(NZ _ _ _ _).trans h.f0,(NZ _ _ _ _).trans h.f1⟩
theorem Qk1(w:World)(s:BA)(t:Nat):Rdr (w.alloc (.cells #[.string s,.int .i64 0] t)) w.heap.size s 0:=by
 refine⟨?_,?_,?_,?_⟩ <;> simp
theorem Qi4(w:World)(s:BA) :
  Calls Tryz.prog 59 #[.string s] w fun e w'=>e = .returned (.pointer (some ⟨w.heap.size,0,none⟩))∧w'=w.alloc (.cells #[.string s,.int .i64 0] 150):=by
 go_enter Tryz.func59,Tryz.ntmps59;go_wp2
 go_ret
 exact⟨rfl,rfl⟩
theorem JP(w:World)(p e:Nat)(s:BA)(hr:Rdr w p s e) :
  Calls Tryz.prog 153 #[.pointer (some ⟨p,0,none⟩)] w fun x w'=>x = .returned (.int .i64 (s.size:Int))∧w'=w:=by
 have c0:=hr.c0
 go_enter Tryz.func153,Tryz.ntmps153;go_wp2
 go_ret
 exact⟨rfl,rfl⟩
theorem QbC(w:World)(p e:Nat)(s:BA)(hr:Rdr w p s 0) :
  Calls Tryz.prog 178 #[.pointer (some ⟨p,0,none⟩),.int .i64 (e:Int)] w fun x w'=>x = .returned (.int .i64 (e:Int))∧Rdr w' p ByteArray.empty e∧Ch p w w':=by
 have c0:=hr.c0;have c1:=hr.c1;have f0:=hr.f0;have f1:=hr.f1;have R1:Hid (Rdr ((w.setCell ⟨p,0,none⟩ (.string ByteArray.empty)).setCell ⟨p,1,none⟩ (.int .i64 (e:Int))) p ByteArray.empty e):=(hr.set0 _).set1 e;clear hr
 go_enter Tryz.func178,Tryz.ntmps178;go_wp2
 go_ret
 exact⟨rfl,R1.out,((Ch.refl p w).set 0 _).set 1 _⟩
end Go.Proofs.YtdocjikpcbmcgaaGreatDoor
