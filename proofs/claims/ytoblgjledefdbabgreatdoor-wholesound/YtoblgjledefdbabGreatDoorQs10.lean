/- Own work. -/
import Derived.WalkLawsBesides
import Derived.Test.YtoblgjledefdbabGreatDoorQs09
set_option maxRecDepth 100000
set_option maxHeartbeats 1000000
namespace Go.Proofs.YtoblgjledefdbabGreatDoor
open Go.RowKit
attribute [local go_sem ↓] Go.wp_at_zero Go.wp_at_succ
open Go.Proofs.Tryz
section
open Cv (rst cov Yf Ya Til)
structure PV where
 kd:Int
 k:Int
 old:Nat
 size:Nat
 S:List Nat
 D:LB
def cnt(kd k:Int)(old size:Nat)(S:List Nat):Option Nat :=
 if 1<=k∧k<=32∧size<=2^40 then
  if kd=1 then (if old=0∧S.length=1∧Ya size S=0 then some (rst 0 size S).length else none)
  else if kd=2 then (if old=0∧Ya size S=0 then some (rst 0 size S).length else none)
  else if kd=3 then (if old<=size∧S=[] then some ((cov 0 old).length+(cov old size).length) else none)
  else none
 else none
theorem Qnh{A:Nat->Prop}{q:Nat} : ∀ {L:List (Nat×Nat)} {p:Nat},Til A q p L->L.length+p<=q:=by
 intro L
 induction L with
 | nil=>intro p h;have:=h.1;simp;omega
 | cons b L ih=>
  intro p h;obtain⟨h1,h2,h3,h4,h5,h6⟩:=h;have:=ih h6;have:=Cv.Yx b.1 b.2;simp;omega
theorem QkE{n:Nat}{S:List Nat}(hn:n<=2^40)(hc:Yf 0 S n):(rst 0 n S).length<=n:=Qnh (Cv.Jd n S hn hc)
theorem JM:∀ {S:List Nat} {x n:Nat},Yf x S n->S.length+x<=n:=by
 intro S
 induction S with
 | nil=>intro x n h;have:x<=n:=h;simp;omega
 | cons i S ih=>intro x n h;have:=ih h.2;have:=h.1;simp;omega
structure CntOk(kd k:Int)(old size:Nat)(S:List Nat)(c:Nat):Prop where
 kd1:1<=kd
 kd3:kd<=3
 k1:1<=k
 k32:k<=32
 hsz:size<=1099511627776
 hc:c<=1099511627776
 hold:old<=size
 len:S.length<=size
 chain:Yf 0 S size
 one:kd=1->S.length=1∧old=0
 two:kd=2->old=0
 three:kd=3->S=[]
theorem Yy{kd k:Int}{old size c:Nat}{S:List Nat}(h:cnt kd k old size S=some c):CntOk kd k old size S c:=by
 unfold cnt at h;have e40:(2:Nat)^40=1099511627776:=by decide
 split at h
 ·rename_i h0
  obtain⟨g1,g2,g3⟩:=h0
  split at h
  ·rename_i hk
   split at h
   ·rename_i h1
    obtain⟨a1,a2,a3⟩:=h1;have hc:=(Cv.Yt a3).2.2.2;have hl:=JM hc;have hr:=QkE g3 hc
    cases h;exact⟨by omega,by omega,g1,g2,by omega,by omega,by omega,by omega,hc,fun _=>⟨a2,a1⟩,fun h=>by omega,fun h=>by omega⟩
   ·cases h
  ·rename_i hk1
   split at h
   ·rename_i hk
    split at h
    ·rename_i h1
     obtain⟨a1,a3⟩:=h1;have hc:=(Cv.Yt a3).2.2.2;have hl:=JM hc;have hr:=QkE g3 hc
     cases h;exact⟨by omega,by omega,g1,g2,by omega,by omega,by omega,by omega,hc,fun h=>by omega,fun _=>a1,fun h=>by omega⟩
    ·cases h
   ·rename_i hk2
    split at h
    ·rename_i hk
     split at h
     ·rename_i h1
      obtain⟨a1,a3⟩:=h1;have h1:=Cv.Qcl old (by omega)
      have h2:=Cv.QaG old size a1 g3
      cases h;subst a3;exact⟨by omega,by omega,g1,g2,by omega,by omega,a1,by simp,Lm _,fun h=>by omega,fun h=>by omega,fun _=>rfl⟩
     ·cases h
    ·cases h
 ·cases h
def Qek(D:LB):List UInt8:=(D.map (·.data.toList)).flatten
theorem Qah(d:BA)(D:LB):Qek (d::D)=d.data.toList++Qek D:=by simp[Qek]
theorem Qe(d:BA):d.data.toList.length=d.size:=Ih
def QgQ:Nat->List Nat->List UInt8
 | _,[]=>[]
 | x,i::S=>num (i-x)++QgQ (i+1) S
def mid(p:PV):List UInt8:=if p.kd=1 then num (p.S.getD 0 0) else if p.kd=2 then num p.S.length++QgQ 0 p.S else num p.old
def enc(p:PV):List UInt8:=UInt8.ofNat p.kd.toNat::UInt8.ofNat p.k.toNat::(num p.size++(mid p++Qek p.D))
def Well(p:PV):Prop:=cnt p.kd p.k p.old p.size p.S=some p.D.length ∧ ∀d∈p.D,(d.size:Int)=p.k
instance (p:PV):Decidable (Well p):=by unfold Well;infer_instance
def nmb(l:List UInt8):Option (Nat×List UInt8):=if (Uj l 0 0).2.1=0 then some ((Uj l 0 0).1,l.drop (Uj l 0 0).2.2) else none
theorem Ub{l r:List UInt8}{n:Nat}(h:nmb l=some (n,r)):l=num n++r∧n<2^64:=by
 unfold nmb at h
 split at h
 ·rename_i h0
  obtain⟨a,b,c,hc⟩:∃a b c,Uj l 0 0=(a,b,c):=⟨_,_,_,rfl⟩;rw[hc] at h h0;simp only at h h0;subst h0;obtain⟨m,h1,h2,h3,h4,h5,h6,h7⟩:=Qih l 0 0 a _ (by decide) (by decide) hc
  simp only[Option.some.injEq,Prod.mk.injEq] at h;obtain⟨rfl,rfl⟩:=h;rw[Lp,ND,Nr] at h1;subst h1;rw[h2];exact⟨by simp,h7⟩
 ·cases h
def Y0:Nat->Nat->Nat->List UInt8->Option (List Nat×List UInt8)
 | 0,_,_,l=>some ([],l)
 | c+1,x,size,l=>
  match nmb l with
  | none=>none
  | some (d,r)=>if x+d<size then (match Y0 c (x+d+1) size r with|none=>none|some (S,r')=>some ((x+d)::S,r')) else none
theorem Qar{size:Nat} : ∀(c x:Nat) (l:List UInt8) (S:List Nat) (r:List UInt8),x<=size->Y0 c x size l=some (S,r)->S.length=c∧l=QgQ x S++r∧Yf x S size:=by
 intro c
 induction c with
 | zero=>
  intro x l S r hx h;simp only[Y0,Option.some.injEq,Prod.mk.injEq] at h;obtain⟨rfl,rfl⟩:=h;exact⟨rfl,rfl,hx⟩
 | succ c ih=>
  intro x l S r hx h;rw[Y0] at h
  split at h
  ·cases h
  ·rename_i d r' hn
   split at h
   ·rename_i hlt
    split at h
    ·cases h
    ·rename_i S' r'' hs
     simp only[Option.some.injEq,Prod.mk.injEq] at h;obtain⟨rfl,rfl⟩:=h;obtain⟨g1,g2,g3⟩:=ih _ _ _ _ hlt hs;obtain⟨n1,n2⟩:=Ub hn;refine⟨by simp[g1],?_,by omega,g3⟩
     rw[QgQ,LP,<-g2,IQ,<-n1]
   ·cases h
def Yq:Nat->Nat->List UInt8->LB
 | 0,_,_=>[]
 | c+1,k,l=>⟨(l.take k).toArray⟩::Yq c k (l.drop k)
theorem QhD{k:Nat} : ∀(c:Nat) (l:List UInt8),c*k=l.length->Qek (Yq c k l)=l∧(Yq c k l).length=c ∧ ∀d∈Yq c k l,d.size=k:=by
 intro c
 induction c with
 | zero=>intro l h;have:l=[]:=List.length_eq_zero_iff.1 (by omega);subst this;exact⟨rfl,rfl,fun d hd=>by cases hd⟩
 | succ c ih=>
  intro l h;rw[L4,Na] at h;obtain⟨g1,g2,g3⟩:=ih (l.drop k) (by rw[LD];omega)
  refine⟨by rw[Yq,Qah,g1];simp,by rw[Yq,LJ,g2],fun d hd=> ?_⟩
  rw[Yq] at hd
  rcases List.mem_cons.1 hd with rfl|hd
  ·simp[ByteArray.size];omega
  ·exact g3 d hd
def U5(kd:Nat)(size:Nat)(l:List UInt8):Option (Nat×List Nat×List UInt8) :=
 if kd=1 then (match nmb l with|none=>none|some (i,r)=>some (0,[i],r))
 else if kd=2 then (match nmb l with|none=>none|some (c,r)=>if c<=r.length then (match Y0 c 0 size r with|none=>none|some (S,r')=>some (0,S,r')) else none)
 else if kd=3 then (match nmb l with|none=>none|some (o,r)=>some (o,[],r))
 else some (0,[],l)
def decB(b0 b1 size old:Nat)(S:List Nat)(l:List UInt8):Option PV :=
 match cnt b0 b1 old size S with
 | none=>none
 | some c=>if c*b1=l.length then some ⟨b0,b1,old,size,S,Yq c b1 l⟩ else none
def decA(b0 b1:Nat)(l:List UInt8):Option PV :=
 match nmb l with
 | none=>none
 | some (size,l1)=>match U5 b0 size l1 with|none=>none|some (old,S,l2)=>decB b0 b1 size old S l2
def dec:List UInt8->Option PV
 | b0::b1::l=>decA b0.toNat b1.toNat l
 | _=>none
theorem Qc1{s:List UInt8}{p:PV}(h:dec s=some p):Well p∧enc p=s∧(∃b0 b1:Nat,p.kd=b0∧p.k=b1):=by
 unfold dec at h
 split at h
 ·rename_i b0 b1 l
  unfold decA at h
  split at h
  ·cases h
  ·rename_i size l1 hn
   split at h
   ·cases h
   ·rename_i old S l2 hm
    unfold decB at h
    split at h
    ·cases h
    ·rename_i c hc
     split at h
     ·rename_i hlen
      cases h;obtain⟨d1,d2,d3⟩:=QhD c l2 hlen;obtain⟨n1,n2⟩:=Ub hn;have o:=Yy hc;have i1:=o.kd1;have i2:=o.kd3;have i5:=o.hsz;refine⟨⟨by simp only[d2];exact hc,fun d hd=>by have:=d3 d hd;simp only;omega⟩,?_,_,_,rfl,rfl⟩
      have hb:∀b:UInt8,UInt8.ofNat b.toNat=b:=fun b=>by simp
      simp only[enc,Int.toNat_natCast,hb,d1];rw[n1]
      congr 3
      have e1:((b0.toNat:Int)=1)↔b0.toNat=1:=by omega
      have e2:((b0.toNat:Int)=2)↔b0.toNat=2:=by omega
      simp only[mid,e1,e2];unfold U5 at hm
      split at hm
      ·rename_i h1
       rw[Lo h1]
       split at hm
       ·cases hm
       ·rename_i i r hi
        cases hm;obtain⟨m1,m2⟩:=Ub hi;rw[m1];rfl
      ·rename_i h1
       rw[Le h1]
       split at hm
       ·rename_i h2
        rw[Lo h2]
        split at hm
        ·cases hm
        ·rename_i c' r hi
         split at hm
         ·split at hm
          ·cases hm
          ·rename_i S' r' hs
           cases hm;obtain⟨m1,m2⟩:=Ub hi;obtain⟨g1,g2,g3⟩:=Qar _ _ _ _ _ (Lm _) hs;rw[m1,g1,LP,<-g2]
         ·cases hm
       ·rename_i h2
        rw[Le h2]
        split at hm
        ·split at hm
         ·cases hm
         ·rename_i o' r hi
          cases hm;obtain⟨m1,m2⟩:=Ub hi;rw[m1]
        ·rename_i h3
         omega
     ·cases h
 ·cases h
end
abbrev pnc:Ending := .panicked [{ v := .iface 34 (.int .i64 140),recovered:=false }]
theorem Yr(w:World)(b:Bool)(hb:b=true):Calls prog 102 #[.bool b] w fun e w'=>e= .returned (.tuple #[])∧w'=w:=by
 subst hb
 go_enter func102,ntmps102;go_wp2
 go_end0
 exact⟨rfl,rfl⟩
theorem YR(w:World)(b:Bool)(hb:b=false):Calls prog 102 #[.bool b] w fun e w'=>e=pnc∧w'=w:=by
 subst hb
 go_enter func102,ntmps102;go_wp2;exact⟨rfl,rfl,rfl⟩
theorem UA(s:BA)(k:Nat):(s.extract k s.size).data.toList=s.data.toList.drop k:=by
 rw[Il,Array.toList_extract,Wh,Lu (by rw[LD,Qe];omega)]
theorem Ox(s:BA)(k:Nat):(s.extract 0 k).data.toList=s.data.toList.take k:=by
 rw[Il,Array.toList_extract,Wh,Ia,Nat.sub_zero]
theorem Qmt{s:BA}{n:Nat}{r:List UInt8}(h:nmb s.data.toList=some (n,r)):∃s',s'.data.toList=r∧nb s 0=(n,0,s')∧s'.size<=s.size:=by
 unfold nmb at h
 split at h
 ·rename_i h0
  obtain⟨a,b,c,hc⟩:∃a b c,Uj s.data.toList 0 0=(a,b,c):=⟨_,_,_,rfl⟩;rw[hc] at h h0;simp only[Option.some.injEq,Prod.mk.injEq] at h h0;subst h0;obtain⟨rfl,rfl⟩:=h;refine⟨_,UA s c,QnK hc,?_⟩
  have:=LZ List.length (UA s c);rw[Qe,LD,Qe] at this;omega
 ·cases h
theorem Qms{s:BA}(h:nmb s.data.toList=none):∃n e s',nb s 0=(n,e,s')∧e≠0:=by
 unfold nmb at h
 split at h
 ·cases h
 ·rename_i h0
  obtain⟨a,b,c,hc⟩:∃a b c,Uj s.data.toList 0 0=(a,b,c):=⟨_,_,_,rfl⟩;rw[hc] at h0;exact⟨_,_,_,Qdi hc h0,h0⟩
theorem U9(w:World)(p:Nat)(s:BA)(hr:Rdr w p s 0)(hs:s.size<=9223372036854775807) :
  Calls prog 99 #[Zv p] w fun e w'=>(∃n s',nmb s.data.toList=some (n,s'.data.toList)∧e= .returned (.int .u64 n)∧Rdr w' p s' 0∧Ch p w w'∧s'.size<=s.size)∨(nmb s.data.toList=none∧e=pnc∧Ch p w w'):=by
 have HR:=QkB w p 0 s hr hs
 cases hn:nmb s.data.toList with
 | none=>
  obtain⟨n,e,s',h1,h2⟩:=Qms hn;rw[h1] at HR;have h2':((e:Int) == 0)=false:=beq_false_of_ne (by omega)
  clear hr hs h1 hn h2
  go_enter func99,ntmps99
  go_wp2_with (first
   | (go_at_call 165;with_reducible refine HR.mono ?_;rintro x w1 ⟨rfl,h1,h2⟩)
   | (go_at_call 102;refine(YR _ _ rfl).mono ?_;rintro x w2 ⟨rfl,rfl⟩))
  exact⟨rfl,.inr ⟨trivial,rfl,h2⟩⟩
 | some a=>
  obtain⟨n,r⟩:=a;obtain⟨s',rfl,h1,h3⟩:=Qmt hn;rw[h1] at HR;clear hr hs h1 hn
  go_enter func99,ntmps99
  go_wp2_with (first
   | (go_at_call 165;with_reducible refine HR.mono ?_;rintro x w1 ⟨rfl,h1,h2⟩)
   | (go_at_call 102;refine(Yr _ _ rfl).mono ?_;rintro x w2 ⟨rfl,rfl⟩))
  go_ret
  exact .inl ⟨n,s',rfl,rfl,h1,h2,h3⟩
theorem QbT(w:World)(p:Nat)(s:BA)(hr:Rdr w p s 0)(hs:s.size<=9223372036854775807) :
  Calls prog 98 #[Zv p] w fun e w'=>(∃b s',s.data.toList=b::s'.data.toList∧e= .returned (.int .i64 b.toNat)∧Rdr w' p s' 0∧Ch p w w'∧s'.size<=s.size)∨(s.data.toList=[]∧e=pnc∧Ch p w w'):=by
 have HR:=UR w p 0 s 1 hr
 by_cases h0:s.size=0
 ·have ht:tkC s 0 1=(ByteArray.empty,60,ByteArray.empty):=by rw[tkC,Le (by simp),Lo (by omega)]
  rw[ht] at HR;have hl:s.data.toList=[]:=List.length_eq_zero_iff.1 (by rw[Qe];exact h0)
  clear hr hs ht
  go_enter func98,ntmps98
  go_wp2_with (first
   | (go_at_call 164;with_reducible refine HR.mono ?_;rintro x w1 ⟨rfl,h1,h2⟩)
   | (go_at_call 102;refine(YR _ _ rfl).mono ?_;rintro x w2 ⟨rfl,rfl⟩))
  exact⟨rfl,.inr ⟨hl,rfl,h2⟩⟩
 ·have ht:tkC s 0 1=(s.extract 0 1,0,s.extract 1 s.size):=by rw[tkC,Le (by simp),Le (by omega)];rfl
  rw[ht] at HR;obtain⟨b,r,hl⟩:∃b r,s.data.toList=b::r:=by
   cases h:s.data.toList with
   | nil=>exact absurd (by rw[<-Qe,h];rfl) h0
   | cons b r=>exact⟨b,r,rfl⟩
  have h1:(s.extract 0 1).data.toList=[b]:=by rw[Ox,hl];rfl
  have h2:(s.extract 1 s.size).data.toList=r:=by rw[UA,hl];rfl
  have h3:=LZ List.length h2;have h4:=LZ List.length hl;rw[Qe] at h3 h4;generalize s.extract 0 1=t at *;generalize s.extract 1 s.size=s' at *;subst h2;obtain⟨⟨t⟩⟩:=t;obtain rfl:t=[b]:=h1;have hb:∀W,(Instr.index 9 (.string ⟨⟨[b]⟩⟩) (.int .i64 0)).run prog W= .ok (.int .u8 b.toNat) W:=fun W=>by
   have e:(⟨⟨[b]⟩⟩:BA)[0]? = some b:=rfl;simp[Instr.index,asIntOf,run_underlying underlying9,e]
  clear hr hs ht h0
  go_enter func98,ntmps98
  go_wp2_with (first
   | (go_at_call 164;with_reducible refine HR.mono ?_;rintro x w1 ⟨rfl,h1,h2⟩)
   | (go_at_call 102;refine(Yr _ _ rfl).mono ?_;rintro x w2 ⟨rfl,rfl⟩))
  go_ret
  have e2:wrap64 (b.toNat:Int)=(b.toNat:Int):=by
   have:=b.toNat_lt;unfold wrap64;omega
  exact .inl ⟨b,s',hl,LZ (fun x=>Ending.returned (.int .i64 x)) e2,h1,h2,by simp at h4;omega⟩
namespace St
def fv(a:OA)(n c:Nat)(b:OA)(m d:Nat)(s:Nat):Value := .agg #[.slice a n c,.slice b m d,.int .i64 s]
def wr(l:List UInt8)(k:Nat)(t:List UInt8):List UInt8:=l.take k++t++l.drop (k+t.length)
theorem Qlf(l:List UInt8)(k:Nat)(t:List UInt8)(hk:k<=l.length)(c:Nat)(hc:min t.length (l.length-k)=c):(l.take k++t.take c++l.drop (k+(t.take c).length))++t.drop c=wr l k t:=by
 unfold wr;have hl:(t.take c).length=c:=by simp;omega
 rw[hl]
 by_cases h:t.length<=l.length-k
 ·have e:c=t.length:=by omega
  subst e;simp
 ·have e1:l.drop (k+c)=[]:=Nc (by omega)
  have e2:l.drop (k+t.length)=[]:=Nc (by omega)
  rw[e1,e2];simp
theorem Qpi(l:List UInt8)(k:Nat)(t:List UInt8)(hk:k<=l.length):(wr l k t).length=max l.length (k+t.length):=by
 simp only[wr,List.length_append,List.length_take,List.length_drop];omega
theorem Qgb{w:World}{a:OA}{g c k n:Nat}{l:List UInt8}(h:Rw w a g c l)(hk:k<=l.length){ax:OA}(hx:(if c=k then a else a.map (·.add k))=ax)(hn:l.length=n):(ax=a∨ax=a.map (·.add k))∧(ax=a->k=0∨n-k=0):=by
 have:=h.le
 by_cases e:c=k
 ·rw[Lo e] at hx;exact⟨.inl hx.symm,fun _=> .inr (by omega)⟩
 ·rw[Le e] at hx;refine⟨.inr hx.symm,fun q=> ?_⟩
  rw[<-hx] at q
  rcases h.ptr with p|p
  ·have:=h.empty p;rw[this] at hn;exact .inr (by simp at hn;omega)
  ·rw[p,IL,Addr.add_mid,Lp] at q;injection q with q
   injection q with _ q _
   exact .inl q
theorem Qbl(w:World)(a:OA)(g n c:Nat)(l:List UInt8)(b:OA)(m d s k r:Nat)(t:BA)(h:Rw w a g c l)(hn:l.length=n)(hk:k<=n)(hr:min s k=r)(hl:n+t.size<=140737488355328) :
  Calls prog 233 #[.agg #[.slice a n c,.slice b m d,.int .i64 s],.int .i64 k,.string t] w fun e w'=> ∃a' g' c',e= .returned (fv a' (wr l k t.data.toList).length c' b m d r)∧Rw w' a' g' c' (wr l k t.data.toList)∧Upo (fun b=>a=Zp g∧b=g) w w'∧((a'=a∧g'=g)∨(w.heap.size<=g'∧g'<w'.heap.size))∧(a=Zp g->Ty w' g 5):=by
 have h1:(0:Int)<=(k:Int):=by omega
 have h2:(k:Int)<=(n:Int):=by omega
 have h3:Hid (min s k=r):=hr;obtain⟨ax,hx⟩:∃ax,(if c=k then a else a.map (·.add k))=ax:=⟨_,rfl⟩
 obtain⟨cc,hcc⟩:∃cc,Nat.min t.size (n-k)=cc:=⟨_,rfl⟩;have hax:=Qgb h (by omega) hx hn
 have HC:=fun(W:World) (hW:Rw W a g c l) (ty:TypeId)=>Qb6 (n:=n-k) W ty (by omega) hW hax.1 hax.2 hcc (c-k)
 have HH:Hid (Rw w a g c l):=h;clear hr h hax
 go_enter func233,ntmps233;have r1:Rw ((w.alloc (.cells #[.slice a n c,.slice b m d,.int .i64 s] 234)).alloc (.cells #[.slice none 0 0,.slice none 0 0,.int .i64 0] 234)) a g c l:=HH.out.next (bal (bal (Lc _ _) _) _) (Lb _);have HC1:=fun ty=>HC _ r1 ty
 clear HC r1
 go_upto_region 2 with (fail)
 obtain⟨w1,hw1⟩:∃W,((w.alloc (.cells #[.slice a n c,.slice b m d,.int .i64 s] 234)).alloc (.cells #[.slice none 0 0,.slice none 0 0,.int .i64 0] 234))=W:=⟨_,rfl⟩;have hb1:Below w.heap.size w w1:=by rw[<-hw1];exact bal (bal (Lc _ _) _) _
 have hz1:w1.heap.size=w.heap.size+2:=by rw[<-hw1];simp
 have k1:w1.heap[w.heap.size]? = some (.cells #[.slice a n c,.slice b m d,.int .i64 s] 234 (0,0)):=by rw[<-hw1];exact new0 _ _ _
 have k2:w1.heap[w.heap.size+1]? = some (.cells #[.slice none 0 0,.slice none 0 0,.int .i64 0] 234 (0,0)):=by rw[<-hw1];exact new2 _ _ _
 rw[hw1];clear hw1 HC1;have r1:Rw w1 a g c l:=HH.out.next hb1 (Lb _);have hcc2:cc<=t.size∧cc<=n-k∧min t.size (n-k)=cc:=⟨by rw[<-hcc];exact I4 _ _,by rw[<-hcc];exact Wo _ _,hcc⟩
 have q0:(0:Int)<=(cc:Int):=by omega
 have q1:(cc:Int)<=(t.size:Int):=by omega
 have hlt:(t.data.toList.take cc).length=cc:=by rw[Lv,Qe];omega
 have r2:=r1.over k (t.data.toList.take cc) (by omega)
 have hu:Upo (fun b=>a=Zp g∧b=g) w (w1.setCells g k (cY (t.data.toList.take cc)))∧Upo (fun b=>a=Zp g∧b=g) w1 (w1.setCells g k (cY (t.data.toList.take cc))):=by
  rcases r1.ptr with e|e
  ·have:t.data.toList.take cc=[]:=List.length_eq_zero_iff.1 (by rw[hlt];have:=r1.empty e;rw[this] at hn;simp at hn;omega)
   rw[this];exact⟨Upo.of hb1,Upo.refl _ _⟩
  ·exact⟨O7 (.inl ⟨e,rfl⟩) _ _ _ (Upo.of hb1),O7 (.inl ⟨e,rfl⟩) _ _ _ (Upo.refl _ _)⟩
 obtain⟨w2,hw2⟩:∃W,w1.setCells g k (cY (t.data.toList.take cc))=W:=⟨_,rfl⟩;rw[hw2] at r2 hu ⊢;clear hw2;have ng:a=Zp g->g<w.heap.size:=fun e=>(HH.out.ty e).lt
 have j1:w2.heap[w.heap.size]? = _:=(hu.2.block _ (by omega) (fun q=>by have:=ng q.1;omega)).trans k1
 have j2:w2.heap[w.heap.size+1]? = _:=(hu.2.block _ (by omega) (fun q=>by have:=ng q.1;omega)).trans k2
 obtain⟨t2,ht2⟩:∃t2,t.extract cc t.size=t2:=⟨_,rfl⟩;have e2:t2.data.toList=t.data.toList.drop cc:=by rw[<-ht2];exact UA t cc
 have r3:Rw w2.drew a g c _:=r2.same (fun _=>rfl)
 have hln:(l.take k++t.data.toList.take cc++l.drop (k+(t.data.toList.take cc).length)).length=n:=by simp only[List.length_append,List.length_take,List.length_drop,Qe];omega
 obtain⟨a',g',c',w3,hr,r4,u3,hloc,ty3⟩:=r3.app 9 83 (.string t2) t2.data.toList (QkQ _ t2) (by rw[hln,e2,LD,Qe];omega)
 rw[hln] at hr;rw[e2,Qlf l k t.data.toList (by omega) cc (by rw[Qe];omega)] at hr r4
 obtain⟨N,hN⟩:∃N,(wr l k t.data.toList).length=N:=⟨_,rfl⟩;rw[hN] at hr;have HN:Hid ((wr l k t.data.toList).length=N):=hN;have hc0:w2.cell? ⟨w.heap.size,0,none⟩=some (.slice a n c):=by rw[cell_of_row w2 w.heap.size 0 _ _ (0,0) j1];rfl
 have y1:w3.heap[w.heap.size]? = _:=(u3.block _ (by have:=hu.2.size;show _<w2.heap.size;omega) (fun q=>by have:=ng q.1;omega)).trans j1
 have hfz:w3.frozen? ⟨w.heap.size,0,none⟩=false:=frozen_of_row w3 w.heap.size 0 _ _ y1;have hs3:w3.cell? ⟨w.heap.size,0,none⟩=some (.slice a n c):=by rw[cell_of_row w3 w.heap.size 0 _ _ (0,0) y1];rfl
 have y2:w3.heap[w.heap.size+1]? = _:=(u3.block _ (by have:=hu.2.size;show _<w2.heap.size;omega) (fun q=>by have:=ng q.1;omega)).trans j2
 have z1:(w3.setCell ⟨w.heap.size,0,none⟩ (.slice a' N c')).heap[w.heap.size]? = some (.cells #[.slice a' N c',.slice b m d,.int .i64 s] 234 (0,0)):=Ln w3 w.heap.size 0 _ _ _ y1;have z2:(w3.setCell ⟨w.heap.size,0,none⟩ (.slice a' N c')).heap[w.heap.size+1]? = _:=(Below.heap_setCell _ _ _ _ (by simp)).trans y2
 have HF:Hid (Rw w3 a' g' c' (wr l k t.data.toList)∧Upo (fun b=>a=Zp g∧b=g) w w3∧((a'=a∧g'=g)∨(w2.heap.size<=g'∧g'<w3.heap.size))∧w.heap.size+2<=w2.heap.size∧(a=Zp g->g<w.heap.size)∧(a=Zp g->Ty w3 g 5)):=⟨r4,hu.1.trans (show Upo _ w2 w3 from⟨u3.os,u3.tape,u3.output,u3.size,u3.block⟩) (fun _ _ q=>q),hloc.imp id (fun q=>⟨IF q.1.symm,q.2⟩),by have:=hu.2.size;omega,ng,ty3⟩
 clear r4 hu u3 hloc ty3 ng r1 r2 r3 k1 k2 j1 j2 hN hln e2 HH hcc2 hlt hb1 hz1
 go_region_law (first
  | (refine Qe1 (by rfl) _ _ _ _ (by rfl) (by rfl) (by rfl) hr ?_))
 obtain⟨w4,hw4⟩:∃W,w3.setCell ⟨w.heap.size,0,none⟩ (.slice a' N c')=W:=⟨_,rfl⟩;have HW4:Hid (w3.setCell ⟨w.heap.size,0,none⟩ (.slice a' N c')=w4):=hw4;rw[hw4] at z1 z2;have b0:w4.cell? ⟨w.heap.size,0,none⟩=some (.slice a' N c'):=by rw[cell_of_row w4 w.heap.size 0 _ _ (0,0) z1];rfl
 have b1:w4.cell? ⟨w.heap.size,1,none⟩=some (.slice b m d):=by rw[cell_of_row w4 w.heap.size 1 _ _ (0,0) z1];rfl
 have b2:w4.cell? ⟨w.heap.size,2,none⟩=some (.int .i64 s):=by rw[cell_of_row w4 w.heap.size 2 _ _ (0,0) z1];rfl
 have fz:=fun j=>frozen_of_row w4 w.heap.size j _ _ z1
 have fy:=fun j=>frozen_of_row w4 (w.heap.size+1) j _ _ z2
 have d0:w4.cell? ⟨w.heap.size+1,0,none⟩=some (.slice none 0 0):=by rw[cell_of_row w4 (w.heap.size+1) 0 _ _ (0,0) z2];rfl
 have d1:w4.cell? ⟨w.heap.size+1,1,none⟩=some (.slice none 0 0):=by rw[cell_of_row w4 (w.heap.size+1) 1 _ _ (0,0) z2];rfl
 have d2:w4.cell? ⟨w.heap.size+1,2,none⟩=some (.int .i64 0):=by rw[cell_of_row w4 (w.heap.size+1) 2 _ _ (0,0) z2];rfl
 rw[hw4];clear hw4 z1 hs3 hfz hc0 y1 y2 hr hx ht2;have Z2:Hid (w4.heap[w.heap.size+1]? = some (.cells #[.slice none 0 0,.slice none 0 0,.int .i64 0] 234 (0,0))):=z2;have HE:∀x:Nat,Hid (∀w5:World,(((w4.setCell ⟨w.heap.size,2,none⟩ (.int .i64 x)).setCell ⟨w.heap.size+1,0,none⟩ (.slice a' N c')).setCell ⟨w.heap.size+1,1,none⟩ (.slice b m d)).setCell ⟨w.heap.size+1,2,none⟩ (.int .i64 x)=w5->(w5.cell? ⟨w.heap.size+1,0,none⟩=some (.slice a' N c')∧w5.cell? ⟨w.heap.size+1,1,none⟩=some (.slice b m d)∧w5.cell? ⟨w.heap.size+1,2,none⟩=some (.int .i64 x))∧Rw w5 a' g' c' (wr l k t.data.toList)∧Upo (fun b=>a=Zp g∧b=g) w w5∧((a'=a∧g'=g)∨(w.heap.size<=g'∧g'<w5.heap.size))∧(a=Zp g->Ty w5 g 5)):=fun x w5 h5=>by
  obtain⟨r4,u4,hloc,hz,ng,ty3⟩:=HF.out;have q:=QP (QdM ((Below.heap_setCell w4 ⟨w.heap.size,2,none⟩ (.int .i64 x) (w.heap.size+1) (by simp)).trans Z2.out) (.slice a' N c') (.slice b m d) (.int .i64 x))
  subst h5;refine⟨q,?_⟩
  rw[<-HW4.out];have n1:a'=Zp g'->g'≠w.heap.size∧g'≠w.heap.size+1:=fun e=>by
   rcases hloc with ⟨q1,q2⟩|q
   ·have:=ng (by rw[<-q1,e,q2]);omega
   ·omega
  exact⟨((((r4.off _ _ fun e=>(n1 e).1).off _ _ fun e=>(n1 e).1).off _ _ fun e=>(n1 e).2).off _ _ fun e=>(n1 e).2).off _ _ fun e=>(n1 e).2,((((u4.set _ _ _ (.inr (by omega))).set _ _ _ (.inr (by omega))).set _ _ _ (.inr (by omega))).set _ _ _ (.inr (by omega))).set _ _ _ (.inr (by omega)),hloc.imp id fun q=>⟨by omega,by simpa using q.2⟩,fun e=>(((((ty3 e).set _ _ _).set _ _ _).set _ _ _).set _ _ _).set _ _ _⟩
 clear z2;go_wp2
 ·have e:k=r:=by have:=h3.out;omega
  subst e;obtain⟨w5,hw5⟩:∃W,(((w4.setCell ⟨w.heap.size,2,none⟩ (.int .i64 k)).setCell ⟨w.heap.size+1,0,none⟩ (.slice a' N c')).setCell ⟨w.heap.size+1,1,none⟩ (.slice b m d)).setCell ⟨w.heap.size+1,2,none⟩ (.int .i64 k)=W:=⟨_,rfl⟩;obtain⟨⟨s0,s1,s2⟩,q⟩:=(HE k).out w5 hw5;rw[hw5];refine LA (v:=fv a' N c' b m d k) (by simp[results,results233,go_sem,fv,s0,s1,s2]) rfl ⟨a',g',c',by rw[HN.out],q⟩
 ·have e:s=r:=by have:=h3.out;omega
  subst e;obtain⟨w5,hw5⟩:∃W,(((w4.setCell ⟨w.heap.size,2,none⟩ (.int .i64 s)).setCell ⟨w.heap.size+1,0,none⟩ (.slice a' N c')).setCell ⟨w.heap.size+1,1,none⟩ (.slice b m d)).setCell ⟨w.heap.size+1,2,none⟩ (.int .i64 s)=W:=⟨_,rfl⟩;obtain⟨⟨s0,s1,s2⟩,q⟩:=(HE s).out w5 hw5;rw[hw5];refine LA (v:=fv a' N c' b m d s) (by simp[results,results233,go_sem,fv,s0,s1,s2]) rfl ⟨a',g',c',by rw[HN.out],q⟩
theorem QhK(w:World)(a:OA)(g n c:Nat)(l:List UInt8)(b:OA)(h m d s:Nat)(l2:List UInt8)(ra:Rw w a g c l)(rb:Rw w b h d l2)(hn:l.length=n)(hm:l2.length=m)(hs1:s<=n)(hs2:s<=m)(hsame:l2.take s=l.take s)(hl:n<=140737488355328) :
  Calls prog 190 #[.agg #[.slice a n c,.slice b m d,.int .i64 s]] w fun e w'=> ∃b' h' d',e= .returned (fv a n c b' n d' n)∧Rw w' b' h' d' l∧Upo (fun x=>b=Zp h∧x=h) w w'∧((b'=b∧h'=h)∨(w.heap.size<=h'∧h'<w'.heap.size))∧(b=Zp h->Ty w' h 5):=by
 have h1:(0:Int)<=(s:Int):=by omega
 have h2:(s:Int)<=(n:Int):=by omega
 have h3:(s:Int)<=(d:Int):=by have:=rb.le;omega
 obtain⟨ax,hx⟩:∃ax,(if c=s then a else a.map (·.add s))=ax:=⟨_,rfl⟩
 obtain⟨hx1,hx2⟩:=Qgb ra (by omega) hx hn
 have HH:Hid (Rw w a g c l∧Rw w b h d l2):=⟨ra,rb⟩;clear ra rb
 go_enter func190,ntmps190
 go_upto_region 1 with (fail)
 obtain⟨w1,hw1⟩:∃W,((w.alloc (.cells #[.slice a n c,.slice b m d,.int .i64 s] 234)).alloc (.cells #[.slice none 0 0,.slice none 0 0,.int .i64 0] 234))=W:=⟨_,rfl⟩;have hb1:Below w.heap.size w w1:=by rw[<-hw1];exact bal (bal (Lc _ _) _) _
 have hz1:w1.heap.size=w.heap.size+2:=by rw[<-hw1];simp
 have k1:w1.heap[w.heap.size]? = some (.cells #[.slice a n c,.slice b m d,.int .i64 s] 234 (0,0)):=by rw[<-hw1];exact new0 _ _ _
 have k2:w1.heap[w.heap.size+1]? = some (.cells #[.slice none 0 0,.slice none 0 0,.int .i64 0] 234 (0,0)):=by rw[<-hw1];exact new2 _ _ _
 rw[hw1];clear hw1;have r1:Rw w1.drew a g c l:=(HH.out.1.next hb1 (Lb _)).same (fun _=>rfl)
 have r2:Rw w1.drew b h d (l2.take s):=((HH.out.2.next hb1 (Lb _)).cut (k:=s) (by omega)).same (W:=w1.drew) (fun _=>rfl)
 have ng:b=Zp h->h<w.heap.size:=fun e=>(HH.out.2.ty e).lt
 have hl2:(l2.take s).length=s:=by simp;omega
 have hl3:(l.drop s).length=n-s:=by simp;omega
 have hsrc:=r1.src (k:=s) (by omega) hx1 (fun e=>(hx2 e).imp id (fun q=>by omega)) (c-s)
 rw[hn] at hsrc;obtain⟨b',h',d',w3,hr,r4,u3,hloc,ty3⟩:=r2.app 83 83 (.slice ax (n-s) (c-s)) (l.drop s) hsrc (by rw[hl2,hl3];omega)
 have el:l2.take s++l.drop s=l:=by rw[hsame,Nu]
 rw[el,hn,hl2] at hr;rw[el] at r4;obtain⟨c0,c1,c2⟩:=QP k1;have y1:w3.heap[w.heap.size]? = _:=(u3.block _ (by show _<w1.heap.size;omega) (fun q=>by have:=ng q.1;omega)).trans k1
 have y2:w3.heap[w.heap.size+1]? = _:=(u3.block _ (by show _<w1.heap.size;omega) (fun q=>by have:=ng q.1;omega)).trans k2
 have hfz:w3.frozen? ⟨w.heap.size,1,none⟩=false:=frozen_of_row w3 w.heap.size 1 _ _ y1;obtain⟨_,hs3,_⟩:=QP y1;have z1:(w3.setCell ⟨w.heap.size,1,none⟩ (.slice b' n d')).heap[w.heap.size]? = some (.cells #[.slice a n c,.slice b' n d',.int .i64 s] 234 (0,0)):=Ln w3 w.heap.size 1 _ _ _ y1;have z2:(w3.setCell ⟨w.heap.size,1,none⟩ (.slice b' n d')).heap[w.heap.size+1]? = _:=(Below.heap_setCell _ _ _ _ (by simp)).trans y2
 have HF:Hid (Rw w3 b' h' d' l∧Upo (fun x=>b=Zp h∧x=h) w w3∧((b'=b∧h'=h)∨(w.heap.size+2<=h'∧h'<w3.heap.size))∧(b=Zp h->h<w.heap.size)∧(b=Zp h->Ty w3 h 5)):=⟨r4,(Upo.of hb1).trans (show Upo _ w1 w3 from⟨u3.os,u3.tape,u3.output,u3.size,u3.block⟩) (fun _ _ q=>q),hloc.imp id (fun q=>⟨by have:=q.1;show _<=_;rw[this];show _<=w1.heap.size;omega,q.2⟩),ng,ty3⟩
 clear r4 u3 hloc ty3 ng r1 r2 k1 k2 HH hb1 hz1 hsrc hsame el hl2 hl3 hx1 hx2 hm hs1 hs2
 go_region_law (first
  | (refine Qe1 (by rfl) _ _ _ _ (by rfl) (by rfl) (by rfl) hr ?_))
 all_goals
  obtain⟨w4,hw4⟩:∃W,w3.setCell ⟨w.heap.size,1,none⟩ (.slice b' n d')=W:=⟨_,rfl⟩;have HW4:Hid (w3.setCell ⟨w.heap.size,1,none⟩ (.slice b' n d')=w4):=hw4;rw[hw4] at z1 z2;obtain⟨b0,b1,b2⟩:=QP z1;have fz:=fun j=>frozen_of_row w4 w.heap.size j _ _ z1
  have fy:=fun j=>frozen_of_row w4 (w.heap.size+1) j _ _ z2
  obtain⟨d0,d1,d2⟩:=QP z2;rw[hw4];clear hw4 z1 hs3 hfz c0 c1 c2 y1 y2 hr hx;have Z2:Hid (w4.heap[w.heap.size+1]? = some (.cells #[.slice none 0 0,.slice none 0 0,.int .i64 0] 234 (0,0))):=z2;clear z2;go_wp2;obtain⟨w5,hw5⟩:∃W,(((w4.setCell ⟨w.heap.size,2,none⟩ (.int .i64 n)).setCell ⟨w.heap.size+1,0,none⟩ (.slice a n c)).setCell ⟨w.heap.size+1,1,none⟩ (.slice b' n d')).setCell ⟨w.heap.size+1,2,none⟩ (.int .i64 n)=W:=⟨_,rfl⟩;obtain⟨r4,u4,hloc,ng,ty3⟩:=HF.out;have q:=QP (QdM ((Below.heap_setCell w4 ⟨w.heap.size,2,none⟩ (.int .i64 n) (w.heap.size+1) (by simp)).trans Z2.out) (.slice a n c) (.slice b' n d') (.int .i64 n))
  rw[hw5] at q;rw[hw5];obtain⟨s0,s1,s2⟩:=q;refine LA (v:=fv a n c b' n d' n) (by simp[results,results190,go_sem,fv,s0,s1,s2]) rfl ⟨b',h',d',rfl,?_⟩
  rw[<-hw5,<-HW4.out];have n1:b'=Zp h'->h'≠w.heap.size∧h'≠w.heap.size+1:=fun e=>by
   rcases hloc with ⟨q1,q2⟩|q
   ·have:=ng (by rw[<-q1,e,q2]);omega
   ·omega
  exact⟨((((r4.off _ _ fun e=>(n1 e).1).off _ _ fun e=>(n1 e).1).off _ _ fun e=>(n1 e).2).off _ _ fun e=>(n1 e).2).off _ _ fun e=>(n1 e).2,((((u4.set _ _ _ (.inr (by omega))).set _ _ _ (.inr (by omega))).set _ _ _ (.inr (by omega))).set _ _ _ (.inr (by omega))).set _ _ _ (.inr (by omega)),hloc.imp id fun q=>⟨by omega,by simpa using q.2⟩,fun e=>(((((ty3 e).set _ _ _).set _ _ _).set _ _ _).set _ _ _).set _ _ _⟩
structure RdL(w:World)(ao:OA)(b off:Nat)(ks:List Bool):Prop where
 ptr:0<ks.length->ao=some ⟨b,off,none⟩
 cell:∀j,j<ks.length->w.cell? ⟨b,off+j,none⟩=some (.bool (ks.getD j false))
theorem RdL.same{w W:World}{ao:OA}{b off:Nat}{ks:List Bool}(h:RdL w ao b off ks)(hb:0<ks.length->W.heap[b]? = w.heap[b]?):RdL W ao b off ks :=
 ⟨h.ptr,fun j hj=>(Lq (a:=⟨b,off+j,none⟩) (hb (by omega))).trans (h.cell j hj)⟩
theorem Qg4(w:World)(ao:OA)(b off:Nat):RdL w ao b off []:=⟨fun h=>by simp at h,fun j hj=>by simp at hj⟩
structure FR where
 a:OA
 g:Nat
 c:Nat
 b:OA
 h:Nat
 d:Nat
 s:Nat
def fr0:FR:=⟨none,0,0,none,0,0,0⟩
def Jx(f:FV)(r:FR):Value:=fv r.a f.now.length r.c r.b f.syn.length r.d r.s
structure Fil(w:World)(f:FV)(r:FR):Prop where
 now:Rw w r.a r.g r.c f.now
 syn:Rw w r.b r.h r.d f.syn
 s1:r.s<=f.now.length
 s2:r.s<=f.syn.length
 sm:f.syn.take r.s=f.now.take r.s
 ap:r.a=Zp r.g->r.b=Zp r.h->r.g≠r.h
 b1:f.now.length<=268435456
 b2:f.syn.length<=268435456
def Blk(r:FR)(x:Nat):Prop:=(r.a=Zp r.g∧x=r.g)∨(r.b=Zp r.h∧x=r.h)
theorem Fil.same{w W:World}{f:FV}{r:FR}(h:Fil w f r)(hb:∀x,Blk r x->W.heap[x]? = w.heap[x]?):Fil W f r :=
 ⟨h.now.same fun e=>hb _ (.inl ⟨e,rfl⟩),h.syn.same fun e=>hb _ (.inr ⟨e,rfl⟩),h.s1,h.s2,h.sm,h.ap,h.b1,h.b2⟩
theorem Fil.blk{w:World}{f:FV}{r:FR}(h:Fil w f r){x:Nat}(hx:Blk r x):Ty w x 5:=by
 rcases hx with ⟨e,rfl⟩|⟨e,rfl⟩
 ·exact h.now.ty e
 ·exact h.syn.ty e
theorem Qjj(w:World):Fil w fz fr0:=⟨Qf6 w 0,Qf6 w 0,Lb _,Lb _,rfl,fun e=>(by cases e),Lm _,Lm _⟩
theorem QiJ{x:Nat}(h:Blk fr0 x):False:=by
 rcases h with ⟨e,_⟩|⟨e,_⟩ <;> cases e
structure DV where
 free:Nat
 L:List (List UInt8×FV)
 acts:Nat
 fa:Int
 fk:Int
 ks:List Bool
 down:Bool
def QC(L:List (List UInt8×FV)):List (List UInt8):=L.map (·.1)
def mapF(L:List (List UInt8×FV))(R:List UInt8->FR):List UInt8->Option Value:=fun s=>if s∈QC L then some (Jx (Qh L s) (R s)) else none
structure Dk(w:World)(p m:Nat)(R:List UInt8->FR)(ka:OA)(kb ko kc:Nat)(D:DV)(ex:Option (List UInt8)):Prop where
 blk:w.heap[p]? = some (.cells #[.int .i64 D.free,.map (some m),.int .i64 D.acts,.int .i64 D.fa,.int .i64 D.fk,.slice ka D.ks.length kc,.bool D.down] 95 (0,0))
 mp:Mv w m (mapF D.L R)
 ord:Ord D.L
 fil:∀s∈QC D.L,some s≠ex->Fil w (Qh D.L s) (R s)
 low:∀s∈QC D.L,∀x,Blk (R s) x->Ty w x 5
 apart:∀s∈QC D.L,∀t∈QC D.L,s≠t -> ∀x,Blk (R s) x->Blk (R t) x->False
 nm:∀s∈QC D.L,s.length<=maxLen
 cnt:D.L.length<=1099511627776
 kp:RdL w ka kb ko D.ks
 kt:0<D.ks.length->Ty w kb 4
 kl:D.ks.length<=140737488355328
 fr:D.free<=9223372036854775807
 ac:D.acts<=4611686018427387904
 ft:D.fk=0
def Ui(p m:Nat)(R:List UInt8->FR)(kb:Nat)(D:DV)(x:Nat):Prop:=x=p∨x=m∨(∃s∈QC D.L,Blk (R s) x)∨(0<D.ks.length∧x=kb)
section
variable {w W:World} {p m:Nat} {R:List UInt8->FR} {ka:OA} {kb ko kc:Nat} {D:DV} {ex:Option (List UInt8)}
theorem Dk.lt(h:Dk w p m R ka kb ko kc D ex){x:Nat}(hx:Ui p m R kb D x):x<w.heap.size:=by
 rcases hx with rfl|rfl|⟨s,hs,hx⟩|⟨h0,rfl⟩
 ·exact(Array.getElem?_eq_some_iff.1 h.blk).1
 ·exact h.mp.lt
 ·exact(h.low s hs x hx).lt
 ·exact(h.kt h0).lt
theorem Dk.same(h:Dk w p m R ka kb ko kc D ex)(hb:∀x,Ui p m R kb D x->W.heap[x]? = w.heap[x]?):Dk W p m R ka kb ko kc D ex :=
 ⟨(hb p (.inl rfl)).trans h.blk,h.mp.same (hb m (.inr (.inl rfl))),h.ord,fun s hs he=>(h.fil s hs he).same fun x hx=>hb x (.inr (.inr (.inl ⟨s,hs,hx⟩))),fun s hs x hx=>(h.low s hs x hx).same (hb x (.inr (.inr (.inl ⟨s,hs,hx⟩)))),h.apart,h.nm,h.cnt,h.kp.same fun h0=>hb kb (.inr (.inr (.inr ⟨h0,rfl⟩))),fun h0=>(h.kt h0).same (hb kb (.inr (.inr (.inr ⟨h0,rfl⟩)))),h.kl,h.fr,h.ac,h.ft⟩
theorem Dk.next(h:Dk w p m R ka kb ko kc D ex)(hb:Below w.heap.size w W):Dk W p m R ka kb ko kc D ex:=h.same fun x hx=>hb.block x (h.lt hx)
theorem Dk.cells(h:Dk w p m R ka kb ko kc D ex):w.cell? ⟨p,0,none⟩=some (.int .i64 D.free)∧w.cell? ⟨p,1,none⟩=some (.map (some m))∧w.cell? ⟨p,2,none⟩=some (.int .i64 D.acts)∧w.cell? ⟨p,3,none⟩=some (.int .i64 D.fa)∧w.cell? ⟨p,4,none⟩=some (.int .i64 D.fk)∧w.cell? ⟨p,5,none⟩=some (.slice ka D.ks.length kc)∧w.cell? ⟨p,6,none⟩=some (.bool D.down) :=
 ⟨by rw[cell_of_row w p 0 _ _ (0,0) h.blk];rfl,by rw[cell_of_row w p 1 _ _ (0,0) h.blk];rfl,by rw[cell_of_row w p 2 _ _ (0,0) h.blk];rfl,by rw[cell_of_row w p 3 _ _ (0,0) h.blk];rfl,by rw[cell_of_row w p 4 _ _ (0,0) h.blk];rfl,by rw[cell_of_row w p 5 _ _ (0,0) h.blk];rfl,by rw[cell_of_row w p 6 _ _ (0,0) h.blk];rfl⟩
theorem Dk.frz(h:Dk w p m R ka kb ko kc D ex)(j:Nat):w.frozen? ⟨p,j,none⟩=false:=frozen_of_row w p j _ _ h.blk
theorem Dk.pm(h:Dk w p m R ka kb ko kc D ex):p≠m:=by
 rintro rfl;obtain⟨D0,⟨es,c,h1,_⟩,_⟩:=h.mp;rw[h.blk] at h1
 cases h1
theorem Ty.mv{w:World}{x m:Nat}{T:TypeId}{F:List UInt8->Option Value}(h:Ty w x T)(hm:Mv w m F):x≠m:=by
 rintro rfl;obtain⟨cs,fr,h⟩:=h;obtain⟨D0,⟨es,c,h1,_⟩,_⟩:=hm;rw[h] at h1
 cases h1
theorem Dk.other(h:Dk w p m R ka kb ko kc D ex){x:Nat}(hx:Ty w x 5):x≠p∧x≠m∧(0<D.ks.length->x≠kb) :=
 ⟨hx.ne ⟨_,_,h.blk⟩ (by decide),hx.mv h.mp,fun h0=>hx.ne (h.kt h0) (by decide)⟩
theorem Dk.kbp(h:Dk w p m R ka kb ko kc D ex)(h0:0<D.ks.length):kb≠p∧kb≠m:=⟨(h.kt h0).ne ⟨_,_,h.blk⟩ (by decide),(h.kt h0).mv h.mp⟩
theorem QfE{L:List (List UInt8×FV)}(h:Ord L):(QC L).Nodup:=by
 refine List.pairwise_map.2 (h.1.imp fun {a b} hlt e=> ?_)
 rw[e] at hlt;exact Ii _ hlt
theorem QjH(L:List (List UInt8×FV))(R:List UInt8->FR)(s:List UInt8):s∈QC L↔(mapF L R s).isSome=true:=by
 unfold mapF
 split
 ·simp[*]
 ·simp[*]
theorem Qbx{L:List (List UInt8×FV)}(h:Ord L)(s:List UInt8)(f:FV)(t:List UInt8):t∈QC (Yi L s f)↔(if t=s then f.gone=false else t∈QC L):=by
 have e:=Qag (YX h s f) (s:=t);rw[QY h] at e
 by_cases hts:t=s
 ·subst hts;rw[Lo rfl] at e ⊢
  constructor
  ·intro hm
   cases hg:f.gone
   ·rfl
   ·exact absurd hm (e.1 hg)
  ·intro hg
   rcases Decidable.em (t∈QC (Yi L t f)) with q|q
   ·exact q
   ·rw[e.2 q] at hg;cases hg
 ·rw[Le hts] at e ⊢;have e2:=Qag h (s:=t);rw[e] at e2
  constructor
  ·intro hm
   rcases Decidable.em (t∈QC L) with q|q
   ·exact q
   ·exact absurd hm (e2.2 q)
  ·intro hm
   rcases Decidable.em (t∈QC (Yi L s f)) with q|q
   ·exact q
   ·exact absurd hm (e2.1 q)
theorem OG{L:List (List UInt8×FV)}(s:List UInt8)(f:FV):(Yi L s f).length<=L.length+1:=by
 induction L with
 | nil=>rw[Yi];split <;> simp
 | cons q r ih=>
  obtain⟨t,g⟩:=q;rw[Yi]
  split
  ·split <;> simp
   omega
  ·split
   ·split <;> simp
   ·simp;omega
theorem Dk.look(h:Dk w p m R ka kb ko kc D ex)(s:BA)(hs:s.size<=maxLen):∃r,(∀W,W.heap[m]? = w.heap[m]? -> (Instr.lookup 90 (.map (some m)) (.string s) false).run prog W= .ok (Jx (Qh D.L s.data.toList) r) W) ∧
  ((s.data.toList∈QC D.L∧r=R s.data.toList)∨(s.data.toList ∉ QC D.L∧r=fr0∧Qh D.L s.data.toList=fz)):=by
 have hz:∀W,(zeroValue 234).run prog W= .ok (Jx fz fr0) W:=fun W=>by kernel_rfl
 by_cases hm:s.data.toList∈QC D.L
 ·refine⟨R s.data.toList,fun W hW=> ?_,.inl ⟨hm,rfl⟩⟩
  rw[(h.mp.same hW).look underlying90 (hz W) hs,mapF,Lo hm,Option.getD_some]
 ·refine⟨fr0,fun W hW=> ?_,.inr ⟨hm,rfl,YB hm⟩⟩
  rw[(h.mp.same hW).look underlying90 (hz W) hs,mapF,Le hm,Option.getD_none,YB hm]
end
def updR(R:List UInt8->FR)(s:List UInt8)(r:FR):List UInt8->FR:=fun t=>if t=s then r else R t
def Y6(D:DV)(s:List UInt8)(f:FV):DV := { D with L:=Yi D.L s f,free:=D.free+(Qh D.L s).now.length-f.now.length }
theorem QjR{L:List (List UInt8×FV)}(h:Ord L)(R:List UInt8->FR)(s:List UInt8)(f:FV)(r:FR):mapF (Yi L s f) (updR R s r)=updF (mapF L R) s (if f.gone then none else some (Jx f r)):=by
 funext t
 simp only[mapF,updF,Qbx h,QY h,updR]
 by_cases e:t=s
 ·simp only[e,if_true]
  cases f.gone <;> simp
 ·simp only[e,if_false]
theorem Dk.put{w W:World}{p m:Nat}{R:List UInt8->FR}{ka:OA}{kb ko kc:Nat}{D:DV}{s:List UInt8}{f:FV}{r:FR}(h:Dk w p m R ka kb ko kc D (some s))(hf:Fil w f r)(hs:s.length<=maxLen)
  (hap:∀t∈QC D.L,t≠s -> ∀x,Blk (R t) x->Blk r x->False) (hc:D.L.length<1099511627776) (hfr:D.free+(Qh D.L s).now.length-f.now.length<=9223372036854775807)
  (hblk:W.heap[p]? = some (.cells #[.int .i64 ((D.free+(Qh D.L s).now.length-f.now.length:Nat):Int),.map (some m),.int .i64 D.acts,.int .i64 D.fa,.int .i64 D.fk,.slice ka D.ks.length kc,.bool D.down] 95 (0,0)))
  (hmp:Mv W m (updF (mapF D.L R) s (if f.gone then none else some (Jx f r)))) (hu:Upo (fun x=>x=p∨x=m) w W):Dk W p m (updR R s r) ka kb ko kc (Y6 D s f) none:=by
 have kt:∀x,Ty w x 5->W.heap[x]? = w.heap[x]? := fun x hx=>hu.block x hx.lt (fun e=>by
  obtain⟨h1,h2,_⟩:=h.other hx
  rcases e with e|e
  ·exact h1 e
  ·exact h2 e)
 have kk:0<D.ks.length->W.heap[kb]? = w.heap[kb]? := fun h0=>hu.block kb (h.kt h0).lt (fun e=>by
  obtain⟨h1,h2⟩:=h.kbp h0
  rcases e with e|e
  ·exact h1 e
  ·exact h2 e)
 have hfW:Fil W f r:=hf.same fun x hx=>kt x (hf.blk hx)
 have inl:∀t,t∈QC (Yi D.L s f)->t≠s->t∈QC D.L:=fun t ht hne=>by
  have:=(Qbx h.ord s f t).1 ht
  rwa [Le hne] at this
 refine⟨hblk,by rw[show(Y6 D s f).L=Yi D.L s f from rfl,QjR h.ord];exact hmp,YX h.ord s f,fun t ht _=> ?_,fun t ht x hx=> ?_,fun t ht u hu' hne x hx hy=> ?_,fun t ht=> ?_,?_,h.kp.same kk,fun h0=>(h.kt h0).same (kk h0),h.kl,hfr,h.ac,h.ft⟩
 ·show Fil W (Qh (Yi D.L s f) t) (updR R s r t)
  rw[QY h.ord,updR]
  by_cases e:t=s
  ·rw[Lo e,Lo e];exact hfW
  ·rw[Le e,Le e];have hk:=inl t ht e;exact(h.fil t hk (fun q=>e (by injection q))).same fun x hx=>kt x (h.low t hk x hx)
 ·simp only[updR] at hx
  by_cases e:t=s
  ·rw[Lo e] at hx;exact hfW.blk hx
  ·rw[Le e] at hx;have:=h.low t (inl t ht e) x hx;exact this.same (kt x this)
 ·simp only[updR] at hx hy
  by_cases e:t=s
  ·rw[Lo e] at hx;have e2:u≠s:=fun q=>hne (e.trans q.symm)
   rw[Le e2] at hy;exact hap u (inl u hu' e2) e2 x hy hx
  ·rw[Le e] at hx
   by_cases e2:u=s
   ·rw[Lo e2] at hy;exact hap t (inl t ht e) e x hx hy
   ·rw[Le e2] at hy;exact h.apart t (inl t ht e) u (inl u hu' e2) hne x hx hy
 ·by_cases e:t=s
  ·rw[e];exact hs
  ·exact h.nm t (inl t ht e)
 ·have:=OG (L:=D.L) s f
  show(Yi D.L s f).length<=_
  omega
theorem Qc5(w:World)(u v x:Value):(Instr.field 234 (.agg #[u,v,x]) 0).run prog w= .ok u w:=by kernel_rfl
theorem Qgl{w w':World}{ops:Array Oper}{rest:List Oper}{o:Oper}{a:Act}{Q:Exit->Act->World->Prop}(hg:o.guard=none)(x y:Operand)(t u:TypeId)(hop:o.op=Op.call { callee:=Callee.builtin Builtin.delete,args:=#[x,y],argTypes:=#[t,u] })
  {vx vy v':Value} (hx:a.eval x=vx) (hy:a.eval y=vy) (hr:(Builtin.delete_ #[t,u] o.type #[vx,vy]).run prog w= .ok v' w') (hK:wpList prog ops Q rest (a.put o.dst v') w'):wpList prog ops Q (o::rest) a w:=by
 refine wpList_plain hg fun K hK'=> ?_
 unfold Oper.wp;simp[execOp,hop,resolve,invoke,builtin,hx,hy,hr,Result.andThen];exact hK' _ _ hK
theorem Uo(w:World)(p m:Nat)(R:List UInt8->FR)(ka:OA)(kb ko kc:Nat)(D:DV)(s:BA)(f:FV)(r:FR)(h:Dk w p m R ka kb ko kc D (some s.data.toList))(hf:Fil w f r)(hs:s.size<=maxLen)
  (hap:∀t∈QC D.L,t≠s.data.toList -> ∀x,Blk (R t) x->Blk r x->False) (hc:D.L.length<1099511627776) (hfr:D.free+(Qh D.L s.data.toList).now.length<=9223372036854775807) (hle:f.now.length<=D.free+(Qh D.L s.data.toList).now.length) :
  Calls prog 187 #[Zv p,.string s,Jx f r] w fun e w'=>e= .returned (.tuple #[])∧Dk w' p m (updR R s.data.toList r) ka kb ko kc (Y6 D s.data.toList f) none∧Upo (fun x=>x=p∨x=m) w w':=by
 obtain⟨r0,hl,_⟩:=h.look s hs;obtain⟨N0,hN0⟩:∃n,(Qh D.L s.data.toList).now.length=n:=⟨_,rfl⟩;obtain⟨N,hN⟩:∃n,f.now.length=n:=⟨_,rfl⟩;obtain⟨M,hM⟩:∃n,f.syn.length=n:=⟨_,rfl⟩;obtain⟨M0,hM0⟩:∃n,(Qh D.L s.data.toList).syn.length=n:=⟨_,rfl⟩;obtain⟨F,hF⟩:∃n,D.free=n:=⟨_,rfl⟩;obtain⟨G,hG⟩:∃n,D.free+(Qh D.L s.data.toList).now.length-f.now.length=n:=⟨_,rfl⟩;have HG:Hid (D.free+(Qh D.L s.data.toList).now.length-f.now.length=G∧(Qh D.L s.data.toList).now.length=N0∧f.now.length=N∧f.syn.length=M):=⟨hG,hN0,hN,hM⟩;have HH:Hid (Dk w p m R ka kb ko kc D (some s.data.toList)∧Fil w f r∧(∀t∈QC D.L,t≠s.data.toList -> ∀x,Blk (R t) x->Blk r x->False)∧D.L.length<1099511627776∧D.free+(Qh D.L s.data.toList).now.length-f.now.length<=9223372036854775807):=⟨h,hf,hap,hc,by omega⟩
 simp only[Jx,fv,hN0,hM0] at hl;have e1:IntKind.i64.wrap ((N0:Int)-(N:Int))=(N0:Int)-(N:Int):=by
  have:=hf.b1;rw[LE];omega
 have e2:IntKind.i64.wrap ((F:Int)+((N0:Int)-(N:Int)))=(G:Int):=by rw[LE];omega
 have hb:Below w.heap.size w (w.alloc (.cells #[.slice r.a N r.c,.slice r.b M r.d,.int .i64 r.s] 234)):=bal (Lc _ _) _;have h1:=h.next hb;rw[Jx,fv,hN,hM];obtain⟨ra,rg,rc,rb,rh,rd,rs⟩:=r;simp only at hb h1 ⊢;obtain⟨w1,hw1⟩:∃W,w.alloc (.cells #[.slice ra N rc,.slice rb M rd,.int .i64 rs] 234)=W:=⟨_,rfl⟩;have k1:w1.heap[w.heap.size]? = some (.cells #[.slice ra N rc,.slice rb M rd,.int .i64 rs] 234 (0,0)):=by rw[<-hw1];exact U7 _ _
 rw[hw1] at hb h1;obtain⟨c0,c1,c2,c3,c4,c5,c6⟩:=h1.cells;have f0:=h1.frz 0;rw[hF] at c0;have hl1:=hl w1.drew (hb.block m h.mp.lt);have HW:Hid (w.alloc (.cells #[.slice ra N rc,.slice rb M rd,.int .i64 rs] 234)=w1):=hw1;have HB:Hid (Below w.heap.size w w1∧Dk w1 p m R ka kb ko kc D (some s.data.toList)∧p≠w.heap.size∧p≠m):=⟨hb,h1,by have:=h.lt (.inl rfl);omega,h.pm⟩
 obtain⟨b0,b1,b2⟩:=QP k1;have hfld:=Qc5;clear h hf hap hc hfr hle hl hN0 hN hM hM0 hF hG hb h1 hw1
 go_enter func187,ntmps187
 go_upto_region 1 with (fail)
 rw[HW.out]
 go_region
 obtain⟨w2,hw2⟩:∃W,(w1.setCell ⟨p,0,none⟩ (.int .i64 G)).drew=W:=⟨_,rfl⟩;have hu2:Upo (fun x=>x=p) w1 w2:=by rw[<-hw2];exact((Upo.refl (fun x=>x=p) w1).set p 0 _ (.inl rfl)).drew
 have j2:w2.heap[p]? = some (.cells #[.int .i64 G,.map (some m),.int .i64 D.acts,.int .i64 D.fa,.int .i64 D.fk,.slice ka D.ks.length kc,.bool D.down] 95 (0,0)):=by
  rw[<-hw2];exact Ln w1 p 0 _ _ _ HB.out.2.1.blk
 have k2:w2.heap[w.heap.size]? = some (.cells #[.slice ra N rc,.slice rb M rd,.int .i64 rs] 234 (0,0)):=(hu2.block _ (Array.getElem?_eq_some_iff.1 k1).1 (fun e=>HB.out.2.2.1 e.symm)).trans k1
 have m2:Mv w2 m (mapF D.L R):=HB.out.2.1.mp.same (hu2.block m HB.out.2.1.mp.lt (fun e=>HB.out.2.2.2 e.symm))
 have HU2:Hid (Upo (fun x=>x=p) w w2):=(Upo.of HB.out.1).trans hu2 (fun _ _ q=>q)
 rw[hw2];clear hw2 hl1 c0 c1 c2 c3 c4 c5 c6 f0 b0 b1 b2 k1 e1 e2;obtain⟨b0,b1,b2⟩:=QP k2;have c1:w2.cell? ⟨p,1,none⟩=some (.map (some m)):=by rw[cell_of_row w2 p 1 _ _ (0,0) j2];rfl
 have J2:Hid (w2.heap[p]? = some (.cells #[.int .i64 G,.map (some m),.int .i64 D.acts,.int .i64 D.fa,.int .i64 D.fk,.slice ka D.ks.length kc,.bool D.down] 95 (0,0))∧Mv w2 m (mapF D.L R)):=⟨j2,m2⟩;have hfin:Hid (∀W,Mv W m (updF (mapF D.L R) s.data.toList (if f.gone then none else some (Jx f ⟨ra,rg,rc,rb,rh,rd,rs⟩)))->w2.grownBy W (some m)->Dk W p m (updR R s.data.toList ⟨ra,rg,rc,rb,rh,rd,rs⟩) ka kb ko kc (Y6 D s.data.toList f) none∧Upo (fun x=>x=p∨x=m) w W):=fun W hm hg=>by
  have hu:Upo (fun x=>x=p∨x=m) w W:=(HU2.out.mono (T:=fun x=>x=p∨x=m) (fun _ _ q=> .inl q)).trans (Upo.grown (S:=fun x=>x=m) hg (fun b e=>by injection e with e;exact e.symm)) (fun _ _ q=> .inr q)
  refine⟨HH.out.1.put HH.out.2.1 (by rw[Qe];exact hs) HH.out.2.2.1 HH.out.2.2.2.1 HH.out.2.2.2.2 ?_ hm hu,hu⟩
  rw[HG.out.1];exact(hg.block p (Array.getElem?_eq_some_iff.1 J2.out.1).1 (fun e=>HB.out.2.2.2 (by injection e))).trans J2.out.1
 clear j2 k2 m2 hu2
 by_cases hgo:f.gone=true
 ·have hg2:=Jz.1 hgo;obtain⟨rfl,rfl⟩:N=0∧M=0:=⟨HG.out.2.2.1.symm.trans hg2.1,HG.out.2.2.2.symm.trans hg2.2⟩;obtain⟨w3,hd,m3,g3⟩:=J2.out.2.drop underlying90 hs 0;have HQ:Hid _:=hfin.out w3 (by rw[hgo];exact m3) g3
  clear hgo hg2 m3 g3
  go_wp2_with (refine Qgl (by rfl) _ _ _ _ (by rfl) (by rfl) (by rfl) hd ?_)
  refine LA (v := .tuple #[]) (by simp[results,results187,go_sem]) rfl ⟨rfl,HQ.out⟩
 ·obtain⟨w3,hd,m3,g3⟩:=(J2.out.2.same (W:=w2.drew) rfl).write underlying90 (QfE HH.out.1.ord) (QjH D.L R) (by have:=HH.out.2.2.2.1;simp only[QC,List.length_map];unfold maxLen;omega) hs (Jx f ⟨ra,rg,rc,rb,rh,rd,rs⟩)
  have hg':f.gone=false:=by simpa using hgo
  have HQ:Hid _:=hfin.out w3 (by rw[hg'];exact m3) ⟨g3.os,g3.tape,g3.output,g3.size,g3.block⟩
  have hcond:(((N:Int) == 0) && ((M:Int) == 0))=false:=by
   have:¬(N=0∧M=0):=fun e=>hgo (Jz.2 ⟨HG.out.2.2.1.trans e.1,HG.out.2.2.2.trans e.2⟩)
   by_cases h1:N=0
   ·have h2:M≠0:=fun e=>this ⟨h1,e⟩
    simp[h1,h2]
   ·simp[h1]
  simp only[Jx,fv,HG.out.2.2.1,HG.out.2.2.2] at hd;clear hgo hg' m3 g3
  by_cases hN0:N=0
  ·have hM0:((M:Int) == 0)=false:=by simpa [hN0] using hcond
   have hM1:¬((M:Int)=0):=by simpa using hM0
   subst hN0;clear hcond
   go_upto_region 4 with (fail)
   go_region
   all_goals
    go_wp2
    go_end0
    exact⟨rfl,HQ.out⟩
  ·have hN1:((N:Int) == 0)=false:=by simpa using hN0
   have hN2:¬((N:Int)=0):=by omega
   clear hcond hN0
   go_upto_region 4 with (fail)
   go_region
   all_goals
    go_wp2
    go_end0
    exact⟨rfl,HQ.out⟩
end St
end Go.Proofs.YtoblgjledefdbabGreatDoor
