/- Own work. -/
import Derived.WalkLawsBesides
import Derived.Test.YtdocjikpcbmcgaaGreatDoorQn07
set_option maxRecDepth 100000
namespace Go.Proofs.YtdocjikpcbmcgaaGreatDoor
open Go.RowKit
attribute [local go_sem ↓] Go.wp_at_zero Go.wp_at_succ
open Go.Proofs.Tryz
section
open Cv (rst cov QT QR Til)
structure PV where
 kd:Int
 k:Int
 old:Nat
 size:Nat
 S:List Nat
 D:LB
def cnt(kd k:Int)(old size:Nat)(S:List Nat):Option Nat :=
 if 1<=k∧k<=32∧size<=2^40 then
  if kd=1 then (if old=0∧S.length=1∧QR size S=0 then some (rst 0 size S).length else none)
  else if kd=2 then (if old=0∧QR size S=0 then some (rst 0 size S).length else none)
  else if kd=3 then (if old<=size∧S=[] then some ((cov 0 old).length+(cov old size).length) else none)
  else none
 else none
theorem Qmn{A:Nat->Prop}{q:Nat} : ∀ {L:List (Nat×Nat)} {p:Nat},Til A q p L->L.length+p<=q:=by
 intro L
 induction L with
 | nil=>intro p h;have:=h.1;simp;omega
 | cons b L ih =>
  intro p h;obtain⟨h1,h2,h3,h4,h5,h6⟩:=h;have:=ih h6;have:=Cv.YR b.1 b.2;simp;omega
theorem Qkp{n:Nat}{S:List Nat}(hn:n<=2^40)(hc:QT 0 S n):(rst 0 n S).length<=n:=Qmn (Cv.YP n S hn hc)
theorem JY : ∀ {S:List Nat} {x n:Nat},QT x S n->S.length+x<=n:=by
 intro S
 induction S with
 | nil=>intro x n h;have:x<=n:=h;simp;omega
 | cons i S ih=>intro x n h;have:=ih h.2;have:=h.1;simp;omega
structure CntOk(kd k:Int)(old size:Nat)(S:List Nat)(c:Nat):Prop where
 kd1:1<=kd
 kd3:kd<=3
 k1:1<=k
 k32:k<=32
 hsz:size<=1099511627776
 hc:c<=1099511627776
 hold:old<=size
 len:S.length<=size
 chain:QT 0 S size
 one:kd=1->S.length=1∧old=0
 two:kd=2->old=0
 three:kd=3->S=[]
theorem QK{kd k:Int}{old size c:Nat}{S:List Nat}(h:cnt kd k old size S=some c):CntOk kd k old size S c:=by
 unfold cnt at h;have xA:(2:Nat)^40=1099511627776:=by decide
 split at h
 ·rename_i h0
  obtain⟨g1,g2,g3⟩:=h0
  split at h
  ·rename_i hk
   split at h
   ·rename_i h1
    obtain⟨a1,a2,a3⟩:=h1;have hc:=(Cv.QJ a3).2.2.2;have hl:=JY hc;have hr:=Qkp g3 hc
    cases h;exact⟨by omega,by omega,g1,g2,by omega,by omega,by omega,by omega,hc,fun _=>⟨a2,a1⟩,fun h=>by omega,fun h=>by omega⟩
   ·cases h
  ·rename_i hk1
   split at h
   ·rename_i hk
    split at h
    ·rename_i h1
     obtain⟨a1,a3⟩:=h1;have hc:=(Cv.QJ a3).2.2.2;have hl:=JY hc;have hr:=Qkp g3 hc
     cases h;exact⟨by omega,by omega,g1,g2,by omega,by omega,by omega,by omega,hc,fun h=>by omega,fun _=>a1,fun h=>by omega⟩
    ·cases h
   ·rename_i hk2
    split at h
    ·rename_i hk
     split at h
     ·rename_i h1
      obtain⟨a1,a3⟩:=h1;have h1:=Cv.QcU old (by omega)
      have h2:=Cv.OH old size a1 g3
      cases h;subst a3;exact⟨by omega,by omega,g1,g2,by omega,by omega,a1,by simp,Ll _,fun h=>by omega,fun h=>by omega,fun _=>rfl⟩
     ·cases h
    ·cases h
 ·cases h
def QD(D:LB):List UInt8:=(D.map (·.data.toList)).flatten
theorem J5(d:BA)(D:LB):QD (d::D)=d.data.toList++QD D:=by simp[QD]
theorem OL(D E:LB):QD (D++E)=QD D++QD E:=by simp[QD]
theorem Qn(d:BA):d.data.toList.length=d.size:=Array.length_toList
theorem QbO{k:Nat} : ∀ {D:LB},(∀d∈D,d.size=k)->(QD D).length=D.length*k:=by
 intro D
 induction D with
 | nil=>intro _;simp[QD]
 | cons d D ih =>
  intro h;rw[J5,Lg,Qn,h d (by simp),ih (fun x hx=>h x (by simp[hx])),Lt,LR,LX,Wn]
def Qq:Nat->List Nat->List UInt8
 | _,[]=>[]
 | x,i::S=>num (i - x)++Qq (i+1) S
def nxt:Nat->List Nat->Nat
 | x,[]=>x
 | _,i::S=>nxt (i+1) S
theorem QhV(i:Nat) : ∀(S:List Nat) (x:Nat),Qq x (S++[i])=Qq x S++num (i - nxt x S):=by
 intro S
 induction S with
 | nil=>intro x;simp[Qq,nxt]
 | cons a S ih=>intro x;rw[Im,Qq,ih,Qq,LH,nxt]
theorem Jl(i:Nat) : ∀(S:List Nat) (x:Nat),nxt x (S++[i])=i+1:=by
 intro S
 induction S with
 | nil=>intro x;rfl
 | cons a S ih=>intro x;rw[Im,nxt,ih]
theorem QcY : ∀(S:List Nat) (x:Nat),S.length<=(Qq x S).length:=by
 intro S
 induction S with
 | nil=>intro x;simp[Qq]
 | cons a S ih=>intro x;have:=ih (a+1);have:=QlJ (a - x);simp[Qq];omega
def mid(p:PV):List UInt8:=if p.kd=1 then num (p.S.getD 0 0) else if p.kd=2 then num p.S.length++Qq 0 p.S else num p.old
def enc(p:PV):List UInt8:=UInt8.ofNat p.kd.toNat::UInt8.ofNat p.k.toNat::(num p.size++(mid p++QD p.D))
def Y7(p:PV):Prop:=cnt p.kd p.k p.old p.size p.S=some p.D.length ∧ ∀d∈p.D,(d.size:Int)=p.k
instance (p:PV):Decidable (Y7 p):=by unfold Y7;infer_instance
def nmb(l:List UInt8):Option (Nat×List UInt8):=if (Yf l 0 0).2.1=0 then some ((Yf l 0 0).1,l.drop (Yf l 0 0).2.2) else none
theorem OR{n:Nat}(hn:n<2^64)(t:List UInt8):nmb (num n++t)=some (n,t):=by
 have h:=Qct t n 0 0 (by decide) (by simpa using hn) (by decide) (.inl rfl)
 rw[nmb,h];simp
theorem UG{l r:List UInt8}{n:Nat}(h:nmb l=some (n,r)):l=num n++r∧n<2^64:=by
 unfold nmb at h
 split at h
 ·rename_i h0
  obtain⟨a,b,c,hc⟩ : ∃a b c,Yf l 0 0=(a,b,c):=⟨_,_,_,rfl⟩;rw[hc] at h h0;simp only at h h0;subst h0;obtain⟨m,h1,h2,h3,h4,h5,h6,h7⟩:=QaA l 0 0 a _ (by decide) (by decide) hc
  simp only[Option.some.injEq,Prod.mk.injEq] at h;obtain⟨rfl,rfl⟩:=h;rw[Lr,NC,Iw] at h1;subst h1;rw[h2];exact⟨by simp,h7⟩
 ·cases h
def Y5:Nat->Nat->Nat->List UInt8->Option (List Nat×List UInt8)
 | 0,_,_,l=>some ([],l)
 | c+1,x,size,l =>
  match nmb l with
  | none=>none
  | some (d,r)=>if x+d<size then (match Y5 c (x+d+1) size r with|none=>none|some (S,r')=>some ((x+d)::S,r')) else none
theorem Qiw{size:Nat}(hs:size<=2^64)(t:List UInt8) : ∀(S:List Nat) (x:Nat),QT x S size->Y5 S.length x size (Qq x S++t)=some (S,t):=by
 intro S
 induction S with
 | nil=>intro x _;rfl
 | cons i S ih =>
  intro x h;have hl:=Cv.YW h.2;have h1:=h.1;rw[Lt,Qq,LH,Y5,OR (by omega)]
  simp only;rw[show x+(i - x)=i by omega,Lm (by omega),ih (i+1) h.2]
theorem QaB{size:Nat} : ∀(c x:Nat) (l:List UInt8) (S:List Nat) (r:List UInt8),x<=size->Y5 c x size l=some (S,r)->S.length=c∧l=Qq x S++r∧QT x S size:=by
 intro c
 induction c with
 | zero =>
  intro x l S r hx h;simp only[Y5,Option.some.injEq,Prod.mk.injEq] at h;obtain⟨rfl,rfl⟩:=h;exact⟨rfl,rfl,hx⟩
 | succ c ih =>
  intro x l S r hx h;rw[Y5] at h
  split at h
  ·cases h
  ·rename_i d r' hn
   split at h
   ·rename_i hlt
    split at h
    ·cases h
    ·rename_i S' r'' hs
     simp only[Option.some.injEq,Prod.mk.injEq] at h;obtain⟨rfl,rfl⟩:=h;obtain⟨g1,g2,g3⟩:=ih _ _ _ _ hlt hs;obtain⟨n1,n2⟩:=UG hn;refine⟨by simp[g1],?_,by omega,g3⟩
     rw[Qq,LH,<-g2,Io,<-n1]
   ·cases h
def YA:Nat->Nat->List UInt8->LB
 | 0,_,_=>[]
 | c+1,k,l=>⟨(l.take k).toArray⟩::YA c k (l.drop k)
theorem QhK{k:Nat} : ∀(D:LB),(∀d∈D,d.size=k)->YA D.length k (QD D)=D:=by
 intro D
 induction D with
 | nil=>intro _;rfl
 | cons d D ih =>
  intro h;have hd:d.data.toList.length=k:=by rw[Qn];exact h d (by simp)
  rw[Lt,YA,J5,List.take_left' hd,List.drop_left' hd,ih (fun x hx=>h x (by simp[hx]))]
theorem QhJ{k:Nat} : ∀(c:Nat) (l:List UInt8),c*k=l.length->QD (YA c k l)=l∧(YA c k l).length=c ∧ ∀d∈YA c k l,d.size=k:=by
 intro c
 induction c with
 | zero=>intro l h;have:l=[]:=List.length_eq_zero_iff.1 (by omega);subst this;exact⟨rfl,rfl,fun d hd=>by cases hd⟩
 | succ c ih =>
  intro l h;rw[LR,LX] at h;obtain⟨g1,g2,g3⟩:=ih (l.drop k) (by rw[Lv];omega)
  refine⟨by rw[YA,J5,g1];simp,by rw[YA,Lt,g2],fun d hd => ?_⟩
  rw[YA] at hd
  rcases List.mem_cons.1 hd with rfl|hd
  ·simp[ByteArray.size];omega
  ·exact g3 d hd
def UX(kd:Nat)(size:Nat)(l:List UInt8):Option (Nat×List Nat×List UInt8) :=
 if kd=1 then (match nmb l with|none=>none|some (i,r)=>some (0,[i],r))
 else if kd=2 then (match nmb l with|none=>none|some (c,r)=>if c<=r.length then (match Y5 c 0 size r with|none=>none|some (S,r')=>some (0,S,r')) else none)
 else if kd=3 then (match nmb l with|none=>none|some (o,r)=>some (o,[],r))
 else some (0,[],l)
def OJ(b0 b1 size old:Nat)(S:List Nat)(l:List UInt8):Option PV :=
 match cnt b0 b1 old size S with
 | none=>none
 | some c=>if c*b1=l.length then some ⟨b0,b1,old,size,S,YA c b1 l⟩ else none
def decA(b0 b1:Nat)(l:List UInt8):Option PV :=
 match nmb l with
 | none=>none
 | some (size,l1)=>match UX b0 size l1 with|none=>none|some (old,S,l2)=>OJ b0 b1 size old S l2
def dec:List UInt8->Option PV
 | b0::b1::l=>decA b0.toNat b1.toNat l
 | _=>none
theorem Qle{p:PV}(h:Y7 p):dec (enc p)=some p:=by
 obtain⟨kd,k,xB,xA,S,D⟩:=p;obtain⟨h1,h2⟩:=h;simp only at h1 h2;have o:=QK h1;have i1:=o.kd1;have i2:=o.kd3;have i3:=o.k1;have i4:=o.k32;have i5:=o.hsz;have i6:=o.hold;have i7:=o.len;obtain⟨a,rfl⟩ : ∃a:Nat,kd=a:=⟨kd.toNat,by omega⟩
 obtain⟨b,rfl⟩ : ∃b:Nat,k=b:=⟨k.toNat,by omega⟩
 have hD : ∀d∈D,d.size=b:=fun d hd=>by have:=h2 d hd;omega
 simp only[enc,dec,decA,Int.toNat_natCast];rw[QB (show a<256 by omega),QB (show b<256 by omega),OR (by omega)]
 simp only;have hm:UX a xA (mid ⟨a,b,xB,xA,S,D⟩++QD D)=some (xB,S,QD D):=by
  have e1:((a:Int)=1)↔a=1:=by omega
  have e2:((a:Int)=2)↔a=2:=by omega
  simp only[UX,mid,e1,e2]
  by_cases ha:a=1
  ·obtain⟨g1,g2⟩:=o.one (by omega)
   obtain⟨i,rfl⟩:=List.length_eq_one_iff.1 g1;have hc:=Cv.YW o.chain.2;rw[Lm ha,Lm ha,show[i].getD 0 0=i from rfl,OR (by omega),g2]
  ·rw[Le ha,Le ha]
   by_cases ha2:a=2
   ·have hl:=QcY S 0;rw[Lm ha2,Lm ha2,LH,OR (by omega)]
    simp only;rw[Lm (by simp;omega),Qiw (by omega) _ _ _ o.chain]
    simp only[o.two (by omega)]
   ·rw[Le ha2,Le ha2,Lm (by omega),OR (by omega)]
    simp only[o.three (by omega)]
 rw[hm];simp only[OJ,h1];rw[Lm (by rw[QbO hD]),QhK D hD]
theorem J3{s:List UInt8}{p:PV}(h:dec s=some p):Y7 p∧enc p=s∧(∃b0 b1:Nat,p.kd=b0∧p.k=b1):=by
 unfold dec at h
 split at h
 ·rename_i b0 b1 l
  unfold decA at h
  split at h
  ·cases h
  ·rename_i size l1 hn
   split at h
   ·cases h
   ·rename_i old S l2 hm
    unfold OJ at h
    split at h
    ·cases h
    ·rename_i c hc
     split at h
     ·rename_i hlen
      cases h;obtain⟨d1,d2,d3⟩:=QhJ c l2 hlen;obtain⟨n1,n2⟩:=UG hn;have o:=QK hc;have i1:=o.kd1;have i2:=o.kd3;have i5:=o.hsz;refine⟨⟨by simp only[d2];exact hc,fun d hd=>by have:=d3 d hd;simp only;omega⟩,?_,_,_,rfl,rfl⟩
      have hb : ∀b:UInt8,UInt8.ofNat b.toNat=b:=fun b=>by simp
      simp only[enc,Int.toNat_natCast,hb,d1];rw[n1]
      congr 3
      have e1:((b0.toNat:Int)=1)↔b0.toNat=1:=by omega
      have e2:((b0.toNat:Int)=2)↔b0.toNat=2:=by omega
      simp only[mid,e1,e2];unfold UX at hm
      split at hm
      ·rename_i h1
       rw[Lm h1]
       split at hm
       ·cases hm
       ·rename_i i r hi
        cases hm;obtain⟨m1,m2⟩:=UG hi;rw[m1];rfl
      ·rename_i h1
       rw[Le h1]
       split at hm
       ·rename_i h2
        rw[Lm h2]
        split at hm
        ·cases hm
        ·rename_i c' r hi
         split at hm
         ·split at hm
          ·cases hm
          ·rename_i S' r' hs
           cases hm;obtain⟨m1,m2⟩:=UG hi;obtain⟨g1,g2,g3⟩:=QaB _ _ _ _ _ (Ll _) hs;rw[m1,g1,LH,<-g2]
         ·cases hm
       ·rename_i h2
        rw[Le h2]
        split at hm
        ·split at hm
         ·cases hm
         ·rename_i o' r hi
          cases hm;obtain⟨m1,m2⟩:=UG hi;rw[m1]
        ·rename_i h3
         omega
     ·cases h
 ·cases h
end
section
open Cv (rst cov QT dnL tno inb)
open Pl (pw)
theorem QmE(m:Nat):(2*m+1) ^^^ (2*m)=1:=by
 have h1:((2*m+1) ^^^ (2*m)) / 2=0:=by
  have e:((2*m+1) ^^^ (2*m)) >>> 1=((2*m+1) >>> 1) ^^^ ((2*m) >>> 1):=Wg;rw[NK,NK,NK,show(2*m+1) / 2^1=m by omega,show 2*m / 2^1=m by omega,Nat.xor_self] at e
  simpa using e
 have h2:((2*m+1) ^^^ (2*m)) % 2=1:=by
  have e:((2*m+1) ^^^ (2*m)) % 2^1=((2*m+1) % 2^1) ^^^ ((2*m) % 2^1):=Nat.xor_mod_two_pow;rw[show(2*m+1) % 2^1=1 by omega,show 2*m % 2^1=0 by omega] at e
  exact e
 omega
theorem QkV{n i H q:Nat}(hq:q % 2=0)(h1:n / 2^H=q+1)(h2:i / 2^H=q):2^H<=n ^^^ i∧n ^^^ i<2^(H+1):=by
 have e:(n ^^^ i) / 2^H=1:=by
  have e:(n ^^^ i) >>> H=(n >>> H) ^^^ (i >>> H):=Wg;rw[NK,NK,NK,h1,h2] at e;obtain⟨m,rfl⟩ : ∃m,q=2*m:=⟨q / 2,by omega⟩
  rw[e,QmE]
 have hp:0<2^H:=LQ H
 constructor
 ·have:=NY (n ^^^ i) (2^H);rw[e] at this;omega
 ·have:=Ii (show(n ^^^ i) / 2^H<2 by omega) hp
  rw[LM];omega
theorem QnM(i:Nat) : ∀H K,K*pw H<=i->i<(K+1)*pw H->(tno H K [i]).length=H:=by
 intro H
 induction H with
 | zero =>
  intro K h1 h2;have hb:inb 0 K i=true:=Cv.QL.2 ⟨h1,h2⟩;rw[tno,NE hb];simp
 | succ H ih =>
  intro K h1 h2;have hb:inb (H+1) K i=true:=Cv.QL.2 ⟨h1,h2⟩;have e1:=Cv.YY H K;have e2:=Cv.U6 H K;have e3:=Cv.YX H K;have e4:=Cv.OE H K;rw[tno,NE hb,List.filter_nil,Le (by simp),Lg]
  have xA : ∀K',¬(K' * pw H<=i∧i<(K'+1)*pw H)->(tno H K' [i]).length=1:=fun K' h=>by
   have hb : ¬inb H K' i=true:=fun e=>h (Cv.QL.1 e)
   exact(Cv.QaG H K' [i]).1 (by rw[Ng hb];rfl)
  by_cases hm:i<K*pw (H+1)+pw H
  ·rw[ih (2*K) (by omega) (by rw[e2];exact hm),xA (2*K+1) (by omega)]
  ·rw[xA (2*K) (by omega),ih (2*K+1) (by omega) (by omega)]
   omega
theorem Qhh{i H K:Nat}(h : ¬(K*pw H<=i∧i<(K+1)*pw H)):(tno H K [i]).length=1:=by
 have hb : ¬inb H K i=true:=fun e=>h (Cv.QL.1 e)
 exact(Cv.QaG H K [i]).1 (by rw[Ng hb];rfl)
theorem Qja(n i:Nat) : ∀h lo,(∃c,lo=c*pw h)->i<lo->((dnL h lo n).flatMap fun b=>tno b.1 b.2 [i]).length=(dnL h lo n).length:=by
 intro h
 induction h with
 | zero=>intro lo _ _;rfl
 | succ h ih =>
  intro lo hc hi;obtain⟨c,rfl⟩:=hc;have e:=Cv.Yc c h;rw[dnL]
  split
  ·rw[NN,Lg,Lt,ih _ ⟨2*c+1,by rw[LR,LX,e]⟩ (by omega),Qhh (by
    intro hx
    dsimp only at hx
    rw[e,NF _ (Pl.QF h)] at hx;omega)]
   omega
  ·exact ih _ ⟨2*c,e⟩ hi
theorem Qj4(n i:Nat)(hin:i<n) : ∀h lo,(∃c,lo=c*pw h)->lo<=i->n - lo<pw h ->
  ∃H,((dnL h lo n).flatMap fun b=>tno b.1 b.2 [i]).length+1=H+(dnL h lo n).length∧2^H<=n ^^^ i∧n ^^^ i<2^(H+1)∧H<h:=by
 intro h
 induction h with
 | zero=>intro lo _ h1 h2;have:pw 0=1:=rfl;omega
 | succ h ih =>
  intro lo hc h1 h2;obtain⟨c,rfl⟩:=hc;have e:=Cv.Yc c h;have hp:=Pl.QF h;have hs:=Pl.QM h;rw[dnL]
  split
  ·rename_i hfit
   have hq:c*pw (h+1) / pw h=2*c:=by rw[e,NF _ hp]
   rw[NN,Lg,Lt,hq]
   by_cases hm:i<c*pw (h+1)+pw h
   ·refine⟨h,?_,?_⟩
    ·rw[QnM i h (2*c) (by omega) (by rw[LR,LX];omega),Qja n i h _ ⟨2*c+1,by rw[LR,LX,e]⟩ hm]
     omega
    ·have a1:n / 2^h=2*c+1:=by
      have:n / pw h=2*c+1:=by
       apply I6
       ·rw[LR,LX];omega
       ·rw[LR,LR,LX];omega
      exact this
     have a2:i / 2^h=2*c:=by
      have:i / pw h=2*c:=by
       apply I6
       ·omega
       ·rw[LR,LX];omega
      exact this
     obtain⟨b1,b2⟩:=QkV (q:=2*c) (by omega) a1 a2
     exact⟨b1,b2,by omega⟩
   ·obtain⟨H,g1,g2,g3,g4⟩:=ih (c*pw (h+1)+pw h) ⟨2*c+1,by rw[LR,LX,e]⟩ (by omega) (by omega)
    refine⟨H,?_,g2,g3,by omega⟩
    rw[Qhh (by intro hx;dsimp only at hx;rw[LR,LX,<-e] at hx;omega)]
    omega
  ·rename_i hfit
   obtain⟨H,g1,g2,g3,g4⟩:=ih (c*pw (h+1)) ⟨2*c,e⟩ h1 (by omega)
   exact⟨H,g1,g2,g3,by omega⟩
theorem Qj2{n i:Nat}(hn:n<=2^40)(hin:i<n) : ∃H,(rst 0 n [i]).length+1=H+Pl.Ub 64 n∧2^H<=n ^^^ i∧n ^^^ i<2^(H+1)∧H<=40:=by
 have hp:n<pw 41:=by
  have:pw 41=2*2^40:=rfl;omega
 obtain⟨H,g1,g2,g3,g4⟩:=Qj4 n i hin 41 0 ⟨0,by simp⟩ (Ll _) (by simpa using hp)
 have hc:QT 0 [i] n:=⟨Ll _,hin⟩;refine⟨H,?_,g2,g3,by omega⟩
 rw[Cv.JS n [i] hn hc,g1,<-Cv.QX n hn,Cv.QbE n hn]
end
section
open Pl (Qar pw)
theorem QjK(n k:Nat):n % 2^(k+1)=n % 2^k+2^k*(n / 2^k % 2):=by rw[LM,Ws]
theorem Qlx(n:Nat)(w:World)(hn:n<2^64) :
  Calls prog 179 #[.int .u64 (n:Int)] w fun e w' => ∃c:Nat,e = .returned (.int .i64 ((c:Int) - 1))∧n<2^c∧c<=64∧(0<c->2^(c - 1)<=n)∧w=w':=by
 go_enter func179,ntmps179;go_wp2
 go_loopg [3,4,5] 64 (fun g r i4 i wr => ∃k c:Nat,k<=64∧g=64 - k∧i = .int .i64 (k:Int)∧r = .int .i64 ((c:Int) - 1)∧c<=k∧n % 2^k<2^c∧(0<c->2^(c - 1)<=n % 2^k)∧w=wr)
 case atStart=>go_light;exact⟨0,0,Ll _,rfl,rfl,rfl,Ll _,by simp[Nat.mod_one],fun h=>absurd h (NG 0),rfl⟩
 case round =>
  obtain⟨k,c,hk,rfl,rfl,rfl,hc,hs,xA,rfl⟩:=hrel;have xD:(0:Int)<=(k:Int):=Lf _
  by_cases hlt:k<64
  ·have xE:(k:Int)<64:=by omega
   have HM:=QjK n k;have HC:=Qar n k w hn hlt;have xB:n % 2^k<2^k:=ID _ (LQ k)
   by_cases hb:n / 2^k % 2=1
   ·rw[Ln hb] at HC;rw[hb,Iw] at HM;have HX:Hid (n % 2^(k+1)<2^(k+1)∧2^k<=n % 2^(k+1)):=⟨ID _ (LQ _),by omega⟩
    clear hs xA hc HM xB
    go_wp2_with (go_at_call 130;refine HC.mono ?_;rintro e w' ⟨rfl,rfl⟩)
    go_roundg (64 - (k+1))
    case rel=>go_light;exact⟨k+1,k+1,by omega,rfl,by go_num,by congr 1;omega,Ld _,HX.out.1,fun _=>HX.out.2,rfl⟩
    case measure=>go_light;omega
   ·rw[Lj hb] at HC;have xC:n / 2^k % 2=0:=by omega
    rw[xC,Nat.mul_zero,Ix] at HM;have HX:Hid (n % 2^(k+1)<2^c∧c<=k+1∧(0<c->2^(c - 1)<=n % 2^(k+1))):=⟨by rw[HM];exact hs,by omega,by rw[HM];exact xA⟩
    clear hs xA hc HM xB
    go_wp2_with (go_at_call 130;refine HC.mono ?_;rintro e w' ⟨rfl,rfl⟩)
    go_roundg (64 - (k+1))
    case rel=>go_light;exact⟨k+1,c,by omega,rfl,by go_num,rfl,HX.out.2.1,HX.out.1,HX.out.2.2,rfl⟩
    case measure=>go_light;omega
  ·obtain rfl:k=64:=by omega
   have HX:Hid (n<2^c∧c<=64∧(0<c->2^(c - 1)<=n)):=by
    rw[NI hn] at hs xA;exact⟨hs,hc,xA⟩
   clear hs xA hc hlt;go_wp2
   go_ret
   exact⟨c,rfl,HX.out.1,HX.out.2.1,HX.out.2.2,rfl⟩
theorem Qnt(n H:Nat)(w:World)(hn:n<2^64)(h1:2^H<=n)(h2:n<2^(H+1)) :
  Calls prog 179 #[.int .u64 (n:Int)] w fun e w'=>e = .returned (.int .i64 (H:Int))∧w'=w:=by
 refine(Qlx n w hn).mono ?_
 rintro e w' ⟨c,rfl,g1,g2,g3,rfl⟩;have hc:c=H+1:=by
  have a1:H<c:=by
   apply Classical.byContradiction
   intro h;have:=L7 (n:=2) (by decide) (show c<=H by omega)
   omega
  have a2:c - 1<H+1:=by
   apply Classical.byContradiction
   intro h;have:=L7 (n:=2) (by decide) (show H+1<=c - 1 by omega)
   have:=g3 (by omega)
   omega
  omega
 subst hc;exact⟨by congr 2;omega,rfl⟩
theorem Qgr(a b:Nat)(w:World)(h:a+b<18446744073709551616) :
  Calls prog 154 #[.int .u64 (a:Int),.int .u64 (b:Int)] w fun e w'=>e = .returned (.tuple #[.int .u64 ((a+b:Nat):Int),.bool true])∧w'=w:=by
 have e1:IntKind.u64.wrap ((a:Int)+(b:Int))=((a+b:Nat):Int):=by rw[IntKind.wrap_u64];omega
 have e2 : ¬((a+b:Nat):Int)<(a:Int):=by omega
 generalize a+b=c at *
 go_enter func154,ntmps154;go_wp2
 go_ret2
 exact⟨rfl,rfl⟩
theorem QmX(a b:Nat)(w:World)(ha:a<18446744073709551616)(hb:b<18446744073709551616)(h : ¬a+b<18446744073709551616) :
  Calls prog 154 #[.int .u64 (a:Int),.int .u64 (b:Int)] w fun e w'=>e = .returned (.tuple #[.int .u64 0,.bool false])∧w'=w:=by
 obtain⟨c,hc⟩:=Ze (a+b - 18446744073709551616);have e1:IntKind.u64.wrap ((a:Int)+(b:Int))=(c:Int):=by rw[IntKind.wrap_u64];omega
 have e2:(c:Int)<(a:Int):=by omega
 clear hc ha hb h
 go_enter func154,ntmps154;go_wp2
 go_ret2
 exact⟨rfl,rfl⟩
end
structure Rdr(w:World)(p:Nat)(s:BA)(e:Nat):Prop where
 c0:w.cell? ⟨p,0,none⟩=some (.string s)
 c1:w.cell? ⟨p,1,none⟩=some (.int .i64 (e:Int))
 f0:w.frozen? ⟨p,0,none⟩=false
 f1:w.frozen? ⟨p,1,none⟩=false
structure Ch(p:Nat)(w w':World):Prop where
 below:Below p w w'
 block : ∀q,q<w.heap.size->q≠p->w'.heap[q]? = w.heap[q]?
theorem Ch.refl(p:Nat)(w:World):Ch p w w:=⟨Lb _ _,fun _ _ _=>rfl⟩
theorem Ch.drewN{p:Nat}{w w':World}(h:Ch p w w')(n:Nat):Ch p w (w'.drewN n):=⟨Qd h.below n,h.block⟩
theorem Ch.set{p:Nat}{w w':World}(h:Ch p w w')(i:Nat)(v:Value):Ch p w (w'.setCell ⟨p,i,none⟩ v):=by
 refine⟨h.below.setCell (p:=⟨p,i,none⟩) (Ld _) v,fun q hq hne => ?_⟩
 rw[<-h.block q hq hne];exact Below.heap_setCell _ _ _ _ hne
theorem Rdr.lt{w:World}{p e:Nat}{s:BA}(h:Rdr w p s e):p<w.heap.size:=Lh _ _ h.c0
theorem Rdr.next{w w':World}{p B e:Nat}{s:BA}(h:Rdr w p s e)(hb:Below B w w')(hp:p<B):Rdr w' p s e :=
 ⟨(hb.cell (p:=⟨p,0,none⟩) hp).trans h.c0,(hb.cell (p:=⟨p,1,none⟩) hp).trans h.c1,(hb.frozen (p:=⟨p,0,none⟩) hp).trans h.f0,(hb.frozen (p:=⟨p,1,none⟩) hp).trans h.f1⟩
theorem Rdr.drewN{w:World}{p e:Nat}{s:BA}(h:Rdr w p s e)(n:Nat):Rdr (w.drewN n) p s e:=h.next (Qd (Lb (p+1) w) n) (by omega)
theorem Rdr.set0{w:World}{p e:Nat}{s:BA}(h:Rdr w p s e)(t:BA):Rdr (w.setCell ⟨p,0,none⟩ (.string t)) p t e :=
 ⟨LZ _ _ _ h.c0,(LJ _ _ _ _ (by simp)).trans h.c1,(Ib _ _ _ _).trans h.f0,(Ib _ _ _ _).trans h.f1⟩
theorem Rdr.set1{w:World}{p e:Nat}{s:BA}(h:Rdr w p s e)(e':Nat):Rdr (w.setCell ⟨p,1,none⟩ (.int .i64 (e':Int))) p s e' :=
 ⟨(LJ _ _ _ _ (by simp)).trans h.c0,LZ _ _ _ h.c1,(Ib _ _ _ _).trans h.f0,(Ib _ _ _ _).trans h.f1⟩
theorem Ql1(w:World)(s:BA)(t:Nat):Rdr (w.alloc (.cells #[.string s,.int .i64 0] t)) w.heap.size s 0:=by
 refine⟨?_,?_,?_,?_⟩ <;> simp
theorem QjO(w:World)(s:BA) :
  Calls prog 59 #[.string s] w fun e w'=>e = .returned (.pointer (some ⟨w.heap.size,0,none⟩))∧w'=w.alloc (.cells #[.string s,.int .i64 0] 150):=by
 go_enter func59,ntmps59;go_wp2
 go_ret
 exact⟨rfl,rfl⟩
theorem JL(w:World)(p e:Nat)(s:BA)(hr:Rdr w p s e) :
  Calls prog 153 #[.pointer (some ⟨p,0,none⟩)] w fun x w'=>x = .returned (.int .i64 (s.size:Int))∧w'=w:=by
 have c0:=hr.c0
 go_enter func153,ntmps153;go_wp2
 go_ret
 exact⟨rfl,rfl⟩
theorem QbM(w:World)(p e:Nat)(s:BA)(hr:Rdr w p s 0) :
  Calls prog 178 #[.pointer (some ⟨p,0,none⟩),.int .i64 (e:Int)] w fun x w'=>x = .returned (.int .i64 (e:Int))∧Rdr w' p ByteArray.empty e∧Ch p w w':=by
 have c0:=hr.c0;have c1:=hr.c1;have f0:=hr.f0;have f1:=hr.f1;have R1:Hid (Rdr ((w.setCell ⟨p,0,none⟩ (.string ByteArray.empty)).setCell ⟨p,1,none⟩ (.int .i64 (e:Int))) p ByteArray.empty e):=(hr.set0 _).set1 e;clear hr
 go_enter func178,ntmps178;go_wp2
 go_ret
 exact⟨rfl,R1.out,((Ch.refl p w).set 0 _).set 1 _⟩
def tkC(s:BA)(e:Nat)(n:Int):BA×Nat×BA :=
 if e≠0 then (ByteArray.empty,e,s) else if n<0∨(s.size:Int)<n then (ByteArray.empty,60,ByteArray.empty) else (s.extract 0 n.toNat,0,s.extract n.toNat s.size)
theorem Qac(w:World)(p e:Nat)(s:BA)(n:Int)(hr:Rdr w p s e) :
  Calls prog 151 #[.pointer (some ⟨p,0,none⟩),.int .i64 n] w fun x w'=>x = .returned (.tuple #[.string (tkC s e n).1,.int .i64 ((tkC s e n).2.1:Int)])∧Rdr w' p (tkC s e n).2.2 (tkC s e n).2.1∧Ch p w w':=by
 have c0:=hr.c0;have c1:=hr.c1;have f0:=hr.f0;have f1:=hr.f1
 by_cases he:e=0
 ·subst he
  by_cases hn:n<0∨(s.size:Int)<n
  ·have ht:tkC s 0 n=(ByteArray.empty,60,ByteArray.empty):=by rw[tkC,Le (by simp),Lm hn]
   rw[ht];have HF:=QbM w p 60 s hr;clear hr
   by_cases h0:n<0
   ·go_enter func151,ntmps151
    go_wp2_with (go_at_call 178;refine HF.mono ?_;rintro x w' ⟨rfl,h1,h2⟩)
    go_ret2
    exact⟨rfl,h1,h2⟩
   ·have h1:(s.size:Int)<n:=by omega
    go_enter func151,ntmps151
    go_wp2_with (go_at_call 178;refine HF.mono ?_;rintro x w' ⟨rfl,h1,h2⟩)
    go_ret2
    exact⟨rfl,h1,h2⟩
  ·have ht:tkC s 0 n=(s.extract 0 n.toNat,0,s.extract n.toNat s.size):=by rw[tkC,Le (by simp),Le hn]
   rw[ht];obtain⟨k,rfl⟩ : ∃k:Nat,n=k:=⟨n.toNat,by omega⟩
   have h0 : ¬(k:Int)<0:=by omega
   have h1 : ¬(s.size:Int)<(k:Int):=by omega
   have h2:(k:Int)<=(s.size:Int):=by omega
   have R1:Hid (Rdr (w.setCell ⟨p,0,none⟩ (.string (s.extract k s.size))) p (s.extract k s.size) 0):=hr.set0 _;clear hr
   go_enter func151,ntmps151;go_wp2
   go_ret2
   exact⟨rfl,R1.out,(Ch.refl p w).set 0 _⟩
 ·have ht:tkC s e n=(ByteArray.empty,e,s):=by rw[tkC,Lm he]
  rw[ht];have hz : ¬(e:Int)=0:=by omega
  go_enter func151,ntmps151;go_wp2
  go_quiet (fail)
  go_wp2
  go_ret2
  exact⟨rfl,hr.drewN _,(Ch.refl p w).drewN _⟩
def nb(s:BA)(e:Nat):Nat×Nat×BA :=
 if e≠0 then (0,e,s) else ((Yf s.data.toList 0 0).1,(Yf s.data.toList 0 0).2.1,if (Yf s.data.toList 0 0).2.1=0 then s.extract (Yf s.data.toList 0 0).2.2 s.size else ByteArray.empty)
theorem QmO{s:BA}{n k:Nat}(h:Yf s.data.toList 0 0=(n,0,k)):nb s 0=(n,0,s.extract k s.size):=by
 simp[nb,h]
theorem QdO{s:BA}{n e k:Nat}(h:Yf s.data.toList 0 0=(n,e,k))(he:e≠0):nb s 0=(n,e,ByteArray.empty):=by
 simp[nb,h,he]
theorem Qa5(s:BA)(k:Nat)(hk:k<s.size):s.data.toList.drop k=s[k]::s.data.toList.drop (k+1):=by
 rw[LO (by simpa using hk)]
 rfl
theorem Qg{q:Prop}(h:q):Hid q:=h
theorem or7(n b k:Nat)(hn:n<128^k)(hk:k<=9)(h:k=9->b<=1) :
  bits .or .u64 (n:Int) (IntKind.u64.wrap ((b:Int) % 128*2^(7*k)))=((n+b % 128*128^k:Nat):Int)∧n+b % 128*128^k<18446744073709551616:=by
 have e9:(128:Nat)^9=9223372036854775808:=by decide
 have hp:128^k<=128^9:=Qbf hk;have hx:b % 128*128^k<=9223372036854775808:=by
  rcases I8 k 9 with h9|h9
  ·have xA:128^(k+1)<=128^9:=Qbf (by omega)
   have:b % 128*128^k<=127*128^k:=LE _ (by omega)
   rw[LM] at xA;omega
  ·obtain rfl:k=9:=by omega
   have:b % 128*128^9<=1*128^9:=LE _ (by have:=h rfl;omega)
   omega
 have e1:((b:Int) % 128*2^(7*k))=((b % 128*128^k:Nat):Int):=by
  rw[Id,Int.natCast_pow,Int.pow_mul];rfl
 have e2:(2:Nat)^(7*k)=128^k:=by rw[Nat.pow_mul]
 rw[e1,IntKind.wrap_u64,Int.emod_eq_of_lt (by omega) (by omega),u64_or_nat _ _ (by omega) (by omega)]
 refine⟨?_,by omega⟩
 have:=Nat.two_pow_add_eq_or_of_lt (i:=7*k) (b:=n) (by rw[e2];exact hn) (b % 128)
 rw[Nat.or_comm,<-e2,Nb (b % 128),<-this,Wn n]
theorem Qkk(w:World)(p e:Nat)(s:BA)(hr:Rdr w p s e)(hs:s.size<=9223372036854775807) :
  Calls prog 152 #[.pointer (some ⟨p,0,none⟩)] w fun x w'=>x = .returned (.tuple #[.int .u64 ((nb s e).1:Int),.int .i64 ((nb s e).2.1:Int)])∧Rdr w' p (nb s e).2.2 (nb s e).2.1∧Ch p w w':=by
 have c0:=hr.c0;have c1:=hr.c1;have f0:=hr.f0;have f1:=hr.f1
 by_cases he:e=0
 ·subst he;have xF:=QbM w p 60 s hr;have xB:=QbM w p 61 s hr;have xC:Hid (∀k,Rdr (w.setCell ⟨p,0,none⟩ (.string (s.extract k s.size))) p (s.extract k s.size) 0):=fun k=>hr.set0 _
  clear hr
  go_enter func152,ntmps152;go_wp2
  go_loopg [4,5] 10 (fun g x i wr=>w=wr ∧ ∃(k n:Nat),k<=s.size∧k<=9∧g=10 - k∧x = .int .u64 (n:Int)∧i = .int .i64 k∧Hid (n<128^k∧Yf (s.data.toList.drop k) k n=Yf s.data.toList 0 0))
  case atStart=>go_light;exact⟨rfl,0,0,Ll _,by omega,rfl,rfl,rfl,by decide,by rw[It]⟩
  case round =>
   obtain⟨rfl,k,n,hk,h9,rfl,rfl,rfl,HS⟩:=hrel
   by_cases hlt:k<s.size
   ·have hz:(k:Int)<(s.size:Int):=by omega
    obtain⟨b,hb⟩:=Ze (s[k].toNat);have xJ:b<256:=by rw[<-hb];exact s[k].toNat_lt
    obtain⟨hn,xA⟩:=HS.out;rw[Qa5 s k hlt,Yf,hb] at xA;clear HS
    by_cases hi:k=9∧1<b
    ·obtain⟨rfl,hi⟩:=hi;rw[Lm ⟨rfl,hi⟩] at xA;have HT:=Qg (QdO xA.symm (by decide))
     have xK:(1:Int)<(b:Int):=by omega
     clear xA hn
     go_wp2_with (go_at_call 178;refine xB.mono ?_;rintro x w' ⟨rfl,h1,h2⟩)
     go_ret2
     rw[HT.out];exact⟨rfl,h1,h2⟩
    ·obtain⟨ho,xD⟩:=or7 n b k hn h9 (by omega)
     rw[Le hi] at xA;obtain⟨m,hm⟩ : ∃m,m=n+b % 128*128^k:=⟨_,rfl⟩;rw[<-hm] at ho xD
     by_cases hl:b<128
     ·rw[Lm hl,<-show b % 128=b from NI hl,<-hm,show b % 128=b from NI hl] at xA
      have xH:(b:Int)<128:=by omega
      by_cases h0:b=0∧0<k
      ·rw[Lm h0] at xA;have HT:=Qg (QdO xA.symm (by decide))
       obtain⟨rfl,h0⟩:=h0;have xI:(0:Int)<(k:Int):=by omega
       clear xA hn hm
       by_cases hk9:k=9
       ·subst hk9
        go_wp2_with (go_at_call 178;refine xB.mono ?_;rintro x w' ⟨rfl,h1,h2⟩)
        go_ret2
        rw[HT.out];exact⟨rfl,h1,h2⟩
       ·have hq : ¬(k:Int)=9:=by omega
        go_wp2_with (go_at_call 178;refine xB.mono ?_;rintro x w' ⟨rfl,h1,h2⟩)
        go_ret2
        rw[HT.out];exact⟨rfl,h1,h2⟩
      ·rw[Le h0] at xA;have HT:=Qg (QmO xA.symm);clear xA hn hm;have HC:Hid (Ch p w (w.setCell ⟨p,0,none⟩ (.string (s.extract (k+1) s.size)))):=(Ch.refl p w).set 0 _;have xN:((k:Int)+1)<=(s.size:Int):=by omega
       by_cases hk9:k=9
       ·subst hk9;have xG : ¬(1:Int)<(b:Int):=by omega
        have xE : ¬(b:Int)=0:=by omega
        have xM:bits .or .u64 (n:Int) ((b:Int) % 128*9223372036854775808)=(m:Int):=by
         rw[<-ho,IntKind.wrap_u64];have e:(2:Int)^(7*9)=9223372036854775808:=by decide
         rw[e,Int.emod_eq_of_lt (a:=(b:Int) % 128*9223372036854775808) (by omega) (by omega)]
        go_wp2
        go_ret2
        rw[HT.out];exact⟨rfl,xC.out _,HC.out⟩
       ·have hq : ¬(k:Int)=9:=by omega
        by_cases xE:b=0
        ·obtain rfl:k=0:=by omega
         subst xE;have xL:bits .or .u64 (n:Int) 0=(m:Int):=by rw[<-ho];rfl
         go_wp2
         go_ret2
         rw[HT.out];exact⟨rfl,xC.out _,HC.out⟩
        ·have xG : ¬(b:Int)=0:=by omega
         go_wp2
         go_ret2
         rw[HT.out];exact⟨rfl,xC.out _,HC.out⟩
     ·have hq : ¬(k:Int)=9:=by omega
      have xH : ¬(b:Int)<128:=by omega
      have HS:Hid (m<128^(k+1)∧Yf (s.data.toList.drop (k+1)) (k+1) m=Yf s.data.toList 0 0):=by
       rw[Le hl,<-hm] at xA;refine⟨?_,xA⟩
       rw[hm,LM];have:b % 128*128^k<=127*128^k:=LE _ (by omega)
       omega
      clear xA hn hm;go_wp2
      go_roundg (10 - (k+1))
      case rel=>go_light;exact⟨rfl,k+1,m,by omega,by omega,rfl,rfl,by go_num,HS.out⟩
      case measure=>go_light;omega
   ·obtain rfl:k=s.size:=by omega
    have hz : ¬(s.size:Int)<(s.size:Int):=by omega
    have xA:=HS.out.2;rw[Nm (by simp),Yf] at xA
    have HT:=Qg (QdO xA.symm (by decide))
    clear xA HS
    go_wp2_with (go_at_call 178;refine xF.mono ?_;rintro x w' ⟨rfl,h1,h2⟩)
    go_ret2
    rw[HT.out];exact⟨rfl,h1,h2⟩
 ·have ht:nb s e=(0,e,s):=by rw[nb,Lm he]
  rw[ht];have hz : ¬(e:Int)=0:=by omega
  go_enter func152,ntmps152;go_wp2
  go_quiet (fail)
  go_wp2
  go_ret2
  exact⟨rfl,hr.drewN _,(Ch.refl p w).drewN _⟩
def cY(l:List UInt8):List Value:=l.map fun b=>Value.int .u8 (b.toNat:Int)
theorem Tryz.infoY:(prog.info? 5).map (fun i=>(i.zero,i.size,i.bytes))=some (some (.int .u8 0),1,1):=by kernel_rfl
def OwnY(w:World)(B:Nat)(v:Value)(l:List UInt8):Prop:=w.ownsRow B 5 1 v l.length (cY l)
theorem Qh5{w:World}{B:Nat}{v:Value}{l:List UInt8}(h:OwnY w B v l):(convert 95 9 v).run prog w = .ok (.string ⟨l.toArray⟩) w:=by
 have hc:=fun g=>h.cells (g:=g)
 obtain⟨h1,h2⟩:=h
 rcases h2 with ⟨rfl,h0⟩|⟨g,cap,cur,rfl,hg,hh,r⟩
 ·have:l=[]:=List.length_eq_zero_iff.1 h0;subst this;exact run_convert_bytes_nil w 95 5 underlying95 underlying5 0 0 9 underlying9
 ·refine run_convert_bytes_back _ 95 9 5 ⟨g,0,none⟩ cap l underlying95 underlying5 underlying9 fun j hj => ?_
  exact hc g rfl j _ (by simp[cY,List.getElem?_eq_getElem hj])
theorem QjZ{w:World}{B:Nat}{v:Value}{l:List UInt8}(h:OwnY w B v l) : ∀k,v.ownBlock=some k->B<=k:=by
 obtain⟨_,h2⟩:=h
 rcases h2 with ⟨rfl,_⟩|⟨g,cp,cur,rfl,hg,_⟩
 ·intro k hk;cases hk
 ·intro k hk;cases hk;exact hg
theorem JA(w:World){ops:Array Oper}{rest:List Oper}{o:Oper}{a:Act}{Q:Exit->Act->World->Prop}
  (hg:o.guard=none) (s x:Operand) (hop:o.op=Op.call { callee:=Callee.builtin Builtin.append,args:=#[s,x],argTypes:=#[95,95] })
  (B:Nat) (v:Value) (L:List UInt8) (hs:a.eval s=v) (hown:OwnY w B v L) (y:Nat) (b:UInt8) (hb:y=b.toNat) (hx:a.eval x = .slice (some ⟨w.heap.size,0,none⟩) 1 1)
  (hlen:L.length<=1000) (hB:B<=w.heap.size)
  (hK : ∀v' w',OwnY w' B v' (L++[b])->Below B w w'->wpList prog ops Q rest (a.put o.dst v') w'):wpList prog ops Q (o::rest) a (w.alloc (.cells #[.int .u8 (y:Int)] 5)):=by
 obtain⟨i0,hi,xB,xC,xD⟩:=info_parts Tryz.infoY;subst hb;refine wpList_append_own _ hg s x _ hop B 5 i0 (.int .u8 0) 1 1 underlying95 hi xB xC xD rfl (by decide) _ _ _ hs (NP hown _) ⟨w.heap.size,0,none⟩ 1 1 (cY [b]) hx (by simp[cY]) ?_ (by intro u hu;simp[cY] at hu;subst hu;rfl) (by unfold maxLen;omega) (by omega) (by simp;omega) ?_
 ·intro j u hu;have hj:j=0:=by have:=(List.getElem?_eq_some_iff.1 hu).1;simp[cY] at this;exact this
  subst hj;have xA:Value.int .u8 (b.toNat:Int)=u:=Nx hu;subst xA;rw[Addr.add_mid,Ia]
  rfl
 ·intro v' w' h1 h2 _;refine hK v' w' ?_ (((Lb _ _).alloc hB _).trans ((Lb _ _).grown h2 (by simp;omega) (QjZ hown)))
  rw[OwnY,Lg,cY,L8];exact h1
abbrev pnc:Ending := .panicked [{ v := .iface 31 (.int .i64 140),recovered:=false }]
theorem YI(w:World)(b:Bool)(hb:b=true):Calls prog 106 #[.bool b] w fun e w'=>e = .returned (.tuple #[])∧w'=w:=by
 subst hb
 go_enter func106,ntmps106;go_wp2
 go_end0
 exact⟨rfl,rfl⟩
theorem Ug(w:World)(b:Bool)(hb:b=false):Calls prog 106 #[.bool b] w fun e w'=>e=pnc∧w'=w:=by
 subst hb
 go_enter func106,ntmps106;go_wp2;exact⟨rfl,rfl,rfl⟩
theorem JG(s:BA)(k:Nat):(s.extract k s.size).data.toList=s.data.toList.drop k:=by
 rw[NH,Ig,Ic,LD (by rw[Lv,Qn];omega)]
theorem QeL(s:BA)(k:Nat):(s.extract 0 k).data.toList=s.data.toList.take k:=by
 rw[NH,Ig,Ic,It,I9]
theorem QlF{s:BA}{n:Nat}{r:List UInt8}(h:nmb s.data.toList=some (n,r)) : ∃s',s'.data.toList=r∧nb s 0=(n,0,s')∧s'.size<=s.size:=by
 unfold nmb at h
 split at h
 ·rename_i h0
  obtain⟨a,b,c,hc⟩ : ∃a b c,Yf s.data.toList 0 0=(a,b,c):=⟨_,_,_,rfl⟩;rw[hc] at h h0;simp only[Option.some.injEq,Prod.mk.injEq] at h h0;subst h0;obtain⟨rfl,rfl⟩:=h;refine⟨_,JG s c,QmO hc,?_⟩
  have:=LU List.length (JG s c);rw[Qn,Lv,Qn] at this;omega
 ·cases h
theorem QlE{s:BA}(h:nmb s.data.toList=none) : ∃n e s',nb s 0=(n,e,s')∧e≠0:=by
 unfold nmb at h
 split at h
 ·cases h
 ·rename_i h0
  obtain⟨a,b,c,hc⟩ : ∃a b c,Yf s.data.toList 0 0=(a,b,c):=⟨_,_,_,rfl⟩;rw[hc] at h0;exact⟨_,_,_,QdO hc h0,h0⟩
theorem Qb8(w:World)(p:Nat)(s:BA)(hr:Rdr w p s 0)(hs:s.size<=9223372036854775807) :
  Calls prog 103 #[.pointer (some ⟨p,0,none⟩)] w fun e w'=>(∃n s',nmb s.data.toList=some (n,s'.data.toList)∧e = .returned (.int .u64 (n:Int))∧Rdr w' p s' 0∧Ch p w w'∧s'.size<=s.size)∨(nmb s.data.toList=none∧e=pnc∧Ch p w w'):=by
 have HR:=Qkk w p 0 s hr hs
 cases hn:nmb s.data.toList with
 | none =>
  obtain⟨n,e,s',h1,h2⟩:=QlE hn;rw[h1] at HR;have xA:((e:Int) == 0)=false:=beq_false_of_ne (by omega)
  clear hr hs h1 hn h2
  go_enter func103,ntmps103
  go_wp2_with (first
   | (go_at_call 152;with_reducible refine HR.mono ?_;rintro x w1 ⟨rfl,h1,h2⟩)
   | (go_at_call 106;refine(Ug _ _ rfl).mono ?_;rintro x w2 ⟨rfl,rfl⟩))
  exact⟨rfl,.inr ⟨trivial,rfl,h2⟩⟩
 | some a =>
  obtain⟨n,r⟩:=a;obtain⟨s',rfl,h1,h3⟩:=QlF hn;rw[h1] at HR;clear hr hs h1 hn
  go_enter func103,ntmps103
  go_wp2_with (first
   | (go_at_call 152;with_reducible refine HR.mono ?_;rintro x w1 ⟨rfl,h1,h2⟩)
   | (go_at_call 106;refine(YI _ _ rfl).mono ?_;rintro x w2 ⟨rfl,rfl⟩))
  go_ret
  exact .inl ⟨n,s',rfl,rfl,h1,h2,h3⟩
theorem Qcu(w:World)(p:Nat)(s:BA)(hr:Rdr w p s 0)(hs:s.size<=9223372036854775807) :
  Calls prog 102 #[.pointer (some ⟨p,0,none⟩)] w fun e w'=>(∃b s',s.data.toList=b::s'.data.toList∧e = .returned (.int .i64 (b.toNat:Int))∧Rdr w' p s' 0∧Ch p w w'∧s'.size<=s.size)∨(s.data.toList=[]∧e=pnc∧Ch p w w'):=by
 have HR:=Qac w p 0 s 1 hr
 by_cases h0:s.size=0
 ·have ht:tkC s 0 1=(ByteArray.empty,60,ByteArray.empty):=by rw[tkC,Le (by simp),Lm (by omega)]
  rw[ht] at HR;have hl:s.data.toList=[]:=List.length_eq_zero_iff.1 (by rw[Qn];exact h0)
  clear hr hs ht
  go_enter func102,ntmps102
  go_wp2_with (first
   | (go_at_call 151;with_reducible refine HR.mono ?_;rintro x w1 ⟨rfl,h1,h2⟩)
   | (go_at_call 106;refine(Ug _ _ rfl).mono ?_;rintro x w2 ⟨rfl,rfl⟩))
  exact⟨rfl,.inr ⟨hl,rfl,h2⟩⟩
 ·have ht:tkC s 0 1=(s.extract 0 1,0,s.extract 1 s.size):=by rw[tkC,Le (by simp),Le (by omega)];rfl
  rw[ht] at HR;obtain⟨b,r,hl⟩ : ∃b r,s.data.toList=b::r:=by
   cases h:s.data.toList with
   | nil=>exact absurd (by rw[<-Qn,h];rfl) h0
   | cons b r=>exact⟨b,r,rfl⟩
  have h1:(s.extract 0 1).data.toList=[b]:=by rw[QeL,hl];rfl
  have h2:(s.extract 1 s.size).data.toList=r:=by rw[JG,hl];rfl
  have h3:=LU List.length h2;have h4:=LU List.length hl;rw[Qn] at h3 h4;generalize s.extract 0 1=t at *;generalize s.extract 1 s.size=s' at *;subst h2;obtain⟨⟨t⟩⟩:=t;obtain rfl:t=[b]:=h1;have hb : ∀W,(Instr.index 9 (.string ⟨⟨[b]⟩⟩) (.int .i64 0)).run prog W = .ok (.int .u8 (b.toNat:Int)) W:=fun W=>by
   have e:(⟨⟨[b]⟩⟩:BA)[0]? = some b:=rfl;simp[Instr.index,asIntOf,run_underlying underlying9,e]
  clear hr hs ht h0
  go_enter func102,ntmps102
  go_wp2_with (first
   | (go_at_call 151;with_reducible refine HR.mono ?_;rintro x w1 ⟨rfl,h1,h2⟩)
   | (go_at_call 106;refine(YI _ _ rfl).mono ?_;rintro x w2 ⟨rfl,rfl⟩))
  go_ret
  have e2:wrap64 (b.toNat:Int)=(b.toNat:Int):=by
   have:=b.toNat_lt;unfold wrap64;omega
  exact .inl ⟨b,s',hl,LU (fun x=>Ending.returned (.int .i64 x)) e2,h1,h2,by simp at h4;omega⟩
end Go.Proofs.YtdocjikpcbmcgaaGreatDoor
