/- Own work. -/
import Derived.Test.YtoblgjledefdbaaGreatDoorQc28
set_option maxRecDepth 100000
set_option maxHeartbeats 2000000
namespace Go.Proofs.YtoblgjledefdbaaGreatDoor
open Go.RowKit
attribute [local go_sem ↓] Go.wp_at_zero Go.wp_at_succ
open Go.Proofs.Tryz
section
open Cv (RdC zl cU cov)
open Pl (pw)
theorem Ql2(c:Nat)(L:LB)(m n:Nat){j:Nat}(hj:j<(kb m n).length):(Ow c L m n).getD j ⟨#[]⟩=nd c L ((kb m n).getD j (0,0)).1 ((kb m n).getD j (0,0)).2:=by
 rw[Ow,Lc,No,Lc,Ll hj];rfl
theorem Qpz{c:Nat}(hc:c<=32)(L:LB)(m n:Nat):Jn c (kb m n) (Ow c L m n) (nd c L) :=
 ⟨fun j hj=>(Ql2 c L m n hj).symm,fun h k _=>by rw[nd],fun h k=>by rw[Ye hc];exact hc⟩
theorem Qmp(c:Nat)(L:LB)(m n:Nat)(hm:m<=L.length)(h40:m<=2^40):kOld c m (Ow c L m n)=rtD c L m:=by
 rw[kOld,rtD,<-(Ug c L m hm h40).1,Ow,kb,LL,Iw (LC ..)]
theorem Qmo(c:Nat)(L:LB)(n:Nat)(hn:n<=L.length)(h40:n<=2^40):kNow c n (nd c L)=rtD c L n:=by
 rw[kNow,rtD,<-(Ug c L n hn h40).1]
theorem Qag{c:Nat}(hc:c<=32)(L:LB)(m n:Nat):∀s∈Ow c L m n,s.size=c:=fun s hs=>by
 obtain⟨b,_,rfl⟩:=List.mem_map.1 hs;exact Ye hc _ _ _
theorem QoU{k:Int}(k1:1<=k)(k2:k<=32)(L:LB){m n:Nat}(hm:m<=n)(hn:n<=2^40):okK 3 k m n 0 (Ow (clk k) L m n) :=
 ⟨⟨⟨rfl,k1,k2⟩,hn,hm,rfl⟩,QdZ _ _ _ _,fun d hd=>by rw[Qag (Qs k) _ _ _ d hd];exact YP k1 k2⟩
theorem QhJ(w:World)(f:Nat)(K:Int)(L:LB)(hF:Frs w f K L)(hL:L.length<=5000)(m n:Nat)(hn:n<=L.length)(hmn:m<=n)(D:LB)(hD:Ow (clk K) L m n=D) :
  Calls prog 78 #[.pointer (some ⟨f+1,0,none⟩),.int .u64 m,.int .u64 n] w fun e w'=> ∃ad bd cd,e= .returned (.tuple #[.agg #[.int .i64 3,.int .i64 K,.int .u64 m,.int .u64 n,.slice none 0 0,.slice ad D.length cd],.int .i64 0])∧RdS w' ad bd 0 D.length D∧D.length<=cd∧(ad=none->cd=0)∧Qg w' w.heap.size (.slice ad D.length cd) D∧Below w.heap.size w w' :=
 (QhI w f K L hF hL m n hn hmn D hD).mono fun e w' ⟨vd,e1,e2,e3⟩=>by
  obtain⟨ad,bd,cd,rfl,r3,hcd,hnd⟩:=QH e2 (fun s hs=>by rw[<-hD] at hs;rw[Qag (Qs K) _ _ _ s hs];have:=Qs K;omega)
  exact⟨ad,bd,cd,e1,r3,hcd,hnd,e2,e3⟩
theorem Qfw(w:World)(ht:Tb w)(K:Int)(k1:1<=K)(k2:K<=32)(L:LB)(hL:L.length<=5000)(m n:Nat)(hn:n<=L.length)(hmn:m<=n)(D:LB)(hD:Ow (clk K) L m n=D)(sa:OA)(sc:Nat)(da:OA)(db dO dc:Nat)(hr:RdS w da db dO D.length D)(hdc:D.length<=dc)(r1 r2:BA)(h1:rtD (clk K) L m=r1)(h2:rtD (clk K) L n=r2) :
  Calls prog 80 #[vP 3 K m n (.slice sa 0 sc) (.slice da D.length dc)] w fun e w'=>e= .returned (.tuple #[.agg #[.int .u64 m,.string r1],.agg #[.int .u64 n,.string r2],.int .i64 0])∧Below w.heap.size w w':=by
 subst hD;exact kroots_ok w ht K m n sa sc da db dO dc _ hr hdc (QoU k1 k2 L hmn (by omega)) (nd (clk K) L) (Qpz (Qs K) L m n) r1 r2 (by rw[Qmp _ _ _ _ (by omega) (by omega)];exact h1) (by rw[Qmo _ _ _ hn (by omega)];exact h2)
end
def pvK(k:Int)(L:LB)(m n:Nat):PV:=⟨3,k,m,n,[],Ow (clk k) L m n⟩
theorem Qlw{k:Int}(k1:1<=k)(k2:k<=32)(L:LB){m n:Nat}(hm:m<=n)(hn:n<=2^40):Uu (pvK k L m n):=by
 refine⟨?_,fun d hd=> ?_⟩
 ·show cnt 3 k m n []=some (Ow (clk k) L m n).length
  rw[QdZ,cnt,Lm ⟨k1,k2,hn⟩,Ld (by decide),Ld (by decide),Lm rfl,Lm ⟨hm,rfl⟩,kb,Le]
 ·show(d.size:Int)=k
  rw[Qag (Qs k) L m n d hd];exact YP k1 k2
theorem Qbb{P:PV}(h:Uu P){s:BA}(hs:(⟨(enc P).toArray⟩:BA)=s):dec s.data.toList=some P∧s.size<=70368744177664:=by
 subst hs;refine⟨by rw[show(⟨(enc P).toArray⟩:BA).data.toList=enc P by simp];exact Ql1 h,?_⟩
 show(enc P).toArray.size<=_
 rw[ID];exact Ql7 h
section
variable {w:World} {a p:Nat} {U:Nat->Prop} {D:St.DV} {S:St.SV} {L:LB}
theorem Qmx(hk1:1<=S.k)(hk2:S.k<=32)(hL:L.length<=5000)(m n:Nat)(hmn:m<=n)(hn:n<=L.length)(rm rr:BA)(hrm:rtD S.k L m=rm)(hrr:rtD S.k L n=rr) :
  ∃t,(∀w p U D,Tb w->Lg w 0 a p U D S L->Calls prog 35 #[Pq a,.int .u64 m,.int .u64 n] w fun e w'=>e= .returned (.tuple #[.string t,.int .i64 0])∧Below w.heap.size w w') ∧
   (∀W,Tb W->Calls prog 36 #[.int .i64 S.k,.agg #[.int .u64 m,.string rm],.agg #[.int .u64 n,.string rr],.string t] W fun e w'=>e= .returned (.int .i64 0)∧Below W.heap.size W w'):=by
 have k1:(1:Int)<=S.k:=by omega
 have k2:(S.k:Int)<=32:=by omega
 have hc:clk (S.k:Int)=S.k:=by have:=YP k1 k2;omega
 have h40:n<=2^40:=by omega
 obtain⟨E,hE⟩:∃E,Ow (clk (S.k:Int)) L m n=E:=⟨_,rfl⟩;have hwK:Uu ⟨3,S.k,m,n,[],E⟩:=by rw[<-hE];exact Qlw k1 k2 L hmn h40
 obtain⟨t,ht⟩:∃t,(⟨(enc ⟨3,S.k,m,n,[],E⟩).toArray⟩:BA)=t:=⟨_,rfl⟩;obtain⟨hdt,hst⟩:=Qbb hwK ht;have hoK:=QS hwK.1;have hEl:E.length<=8796093022208:=Lu (show E.length<=1099511627776 from hoK.hc) (by decide)
 have hst2:t.size<=281474976710656:=Lu hst (by decide)
 refine⟨t,fun w p U D hT hl=>Qj2 w hT hl m n t 0 fun W f hT2 hbW hF=> ?_,fun W hT=> ?_⟩
 ·refine(QhJ W f S.k L hF hL m n hn hmn E hE).mono fun e w' z=> ?_
  obtain⟨ad,bd,cd,rfl,h2,h3,_,_,h4⟩:=z;refine⟨_,_,rfl,h4,fun W' hW'=> ?_⟩
  have hp:RdPC w' none 0 0 0 ad bd 0 cd (⟨3,S.k,m,n,[],E⟩:PV):=⟨⟨rfl,fun h=>absurd h (Ns 0),fun j v h=>by cases h⟩,h2,(by show m<18446744073709551616;omega),(by show n<18446744073709551616;omega),Ln _,hEl,h3⟩
  exact Jt W' (hp.next hW') hwK t ht
 ·exact Qms W S.k k1 k2 m rm n rr t hst2 _ hdt rfl m rm n rr 0 (fun V sa sb sc da db dc hb hF=>Qfw V (hT.next hb) S.k k1 k2 L hL m n hn hmn E hE sa sc da db 0 dc hF.p.rd hF.p.cD rm rr (by rw[hc];exact hrm) (by rw[hc];exact hrr)) _ (by rw[kinD,Lm ⟨rfl,⟨rfl,rfl⟩,rfl,rfl⟩])
end
def cK(l:List (Nat×BA)):List Value:=l.flatMap fun c=>[.int .u64 c.1,.string c.2]
theorem Qcx(c:Nat×BA)(l:List (Nat×BA)):cK (c::l)= .int .u64 c.1 :: .string c.2::cK l:=rfl
theorem QiR(l m:List (Nat×BA)):cK (l++m)=cK l++cK m:=by simp[cK]
theorem Qod(l:List (Nat×BA)):(cK l).length=2*l.length:=by
 induction l with
 | nil=>rfl
 | cons c l ih=>rw[Qcx,LD,LD,LD,ih];omega
abbrev noC:Nat×BA:=(0,ByteArray.empty)
theorem Qpq(l:List (Nat×BA)):∀j,j<l.length->(cK l)[j*2]? = some (.int .u64 ((l.getD j noC).1:Int))∧(cK l)[j*2+1]? = some (.string (l.getD j noC).2):=by
 induction l with
 | nil=>intro j hj;exact absurd hj (by simp)
 | cons c l ih=>
  intro j hj
  cases j with
  | zero=>exact⟨rfl,rfl⟩
  | succ j=>
   have:=ih j (by simpa using hj)
   rw[Qcx,show(j+1)*2=j*2+1+1 by omega,NV,NV,NV,NV,List.getD_cons_succ]
   exact this
structure RdK(w:World)(ao:OA)(b off n:Nat)(l:List (Nat×BA)):Prop where
 hl:l.length=n
 ptr:0<n->ao=some ⟨b,off,none⟩
 rng:w.rangeAt b off (cK l)
 sz:∀c∈l,c.2.size<=9223372036854775807
theorem RdK.at{w:World}{ao:OA}{b off n:Nat}{l:List (Nat×BA)}(h:RdK w ao b off n l){j:Nat}(hj:j<n):w.cell? ⟨b,off+j*2,none⟩=some (.int .u64 ((l.getD j noC).1:Int))∧w.cell? ⟨b,off+j*2+1,none⟩=some (.string (l.getD j noC).2):=by
 have:=Qpq l j (by rw[h.hl];exact hj)
 exact⟨h.rng _ _ this.1,by rw[Nr];exact h.rng _ _ this.2⟩
theorem RdK.lt{w:World}{ao:OA}{b off n:Nat}{l:List (Nat×BA)}(h:RdK w ao b off n l)(h0:0<n):b<w.heap.size:=Lf w _ (h.at h0).1
theorem RdK.next{w W:World}{ao:OA}{b off n:Nat}{l:List (Nat×BA)}(h:RdK w ao b off n l)(hb:Below w.heap.size w W):RdK W ao b off n l:=by
 refine⟨h.hl,h.ptr,?_,h.sz⟩
 by_cases h0:0<n
 ·exact Qm hb (h.lt h0) h.rng
 ·have:l=[]:=List.length_eq_zero_iff.1 (by rw[h.hl];omega)
  rw[this];intro j v hv;cases hv
theorem Qm7(w:World)(ao:OA):RdK w ao 0 0 0 []:=⟨rfl,fun h=>absurd h (Ns 0),(fun j v h=>by cases h),(fun c h=>by cases h)⟩
theorem Qm8(w:World)(i:Nat)(s:BA)(hs:s.size<=9223372036854775807):RdK (w.alloc (.cells #[.int .u64 i,.string s] 93)) (Zp w.heap.size) w.heap.size 0 1 [(i,s)] :=
 ⟨rfl,fun _=>rfl,Qp w [.int .u64 i,.string s] 93,fun c hc=>by rw[List.mem_singleton.1 hc];exact hs⟩
abbrev ixs(l:List (Nat×BA)):List Nat:=l.map Prod.fst
abbrev vls(l:List (Nat×BA)):LB:=l.map Prod.snd
theorem QjS(l:List (Nat×BA))(j:Nat):(ixs l).getD j 0=(l.getD j noC).1:=by
 rw[Lc,Lc,No]
 cases l[j]? <;> rfl
theorem QoG{S:List Nat}{l:List (Nat×BA)}(h:S.length=l.length)(he:∀j,j<S.length->S.getD j 0=(l.getD j noC).1):S=ixs l:=by
 refine List.ext_getElem (by rw[h,LC]) fun j h1 h2=> ?_
 have:=he j h1;rw[<-QjS,Lc,Lc,Ll h1,Ll h2] at this;exact this
theorem Qhb(w:World)(sa:OA)(sb so sc:Nat)(S:List Nat)(hs:RdU w sa sb so S.length S)(hm:S.length<=17592186044416)(ca:OA)(cb co cn cc:Nat)(l:List (Nat×BA))(hc:RdK w ca cb co cn l)(r:Bool)(hr:decide (S=ixs l)=r) :
  Calls prog 148 #[.slice sa S.length sc,.slice ca cn cc] w fun e w'=>e= .returned (.bool r)∧Below w.heap.size w w':=by
 have hcl:=hc.hl
 by_cases hl:S.length=cn
 ·have HR:Hid (∀W,Below w.heap.size w W->RdU W sa sb so S.length S∧RdK W ca cb co cn l):=fun W hb=>⟨hs.next hb,hc.next hb⟩
  have HE:Hid (decide (S=ixs l)=r∧S.length=l.length):=⟨hr,by omega⟩
  have hm5:(S.length:Int)<=17592186044416:=by omega
  clear hs hc hr hm;obtain⟨n,hn⟩:∃n,S.length=n:=⟨_,rfl⟩;rw[hn] at hl hm5 HR ⊢;have HN:=Qd hn;clear hn hcl;subst hl
  go_enter func148,ntmps148;go_wp2
  go_loopg [14] n (fun g i wr=> ∃k:Nat,k<=n∧g=n-k∧i= .int .i64 k∧(∀j,j<k->S.getD j 0=(l.getD j noC).1)∧Below w.heap.size w wr)
  case atStart=>go_light;exact⟨0,Ln _,rfl,rfl,fun j hj=>absurd hj (Ib j),Lb _ _⟩
  case round=>
   obtain⟨k,hk,rfl,rfl,he,hb⟩:=hrel;have hk0:(0:Int)<=(k:Int):=Lh _
   by_cases hlt:k<n
   ·obtain⟨r1,r2⟩:=HR.out wr hb;obtain rfl:=r1.ptr (by omega)
    obtain rfl:=r2.ptr (by omega)
    have c1:=r1.at hlt;have c2:=(r2.at hlt).1;have hz:(k:Int)<(n:Int):=by omega
    obtain⟨x,hx⟩:∃x,S.getD k 0=x:=⟨_,rfl⟩;obtain⟨y,hy⟩:∃y,(l.getD k noC).1=y:=⟨_,rfl⟩;rw[hx] at c1;rw[hy] at c2;have HX:Hid (S.getD k 0=x∧(l.getD k noC).1=y):=⟨hx,hy⟩;have H0:Hid ((∀j,j<k->S.getD j 0=(l.getD j noC).1)∧Below w.heap.size w wr):=⟨he,hb⟩;clear hx hy r1 r2 he hb
    by_cases hxy:y=x
    ·subst hxy;go_wp2
     go_roundg (n-(k+1))
     case rel=>
      go_light;refine⟨k+1,by omega,rfl,by go_num,fun j hj=> ?_,H0.out.2⟩
      by_cases hjk:j=k
      ·subst hjk;rw[HX.out.1,HX.out.2]
      ·exact H0.out.1 j (by omega)
     case measure=>go_light;omega
    ·have hxz:¬(y:Int)=(x:Int):=by omega
     have hxb:((y:Int) == (x:Int))=false:=by simpa using hxz
     have HF:Hid (false=r):=by
      rw[<-HE.out.1];refine(Lx fun he=>hxy ?_).symm
      have:=LW (fun t=>List.getD t k 0) he
      simp only[QjS] at this;rw[HX.out.1,HX.out.2] at this;exact this.symm
     go_wp2
     go_ret
     obtain rfl:=HF.out;exact⟨rfl,H0.out.2⟩
   ·have hz:¬(k:Int)<(n:Int):=by omega
    have HF:Hid (true=r):=by
     rw[<-HE.out.1];exact(LV (QoG HE.out.2 fun j hj=>he j (by have:=HN.out;omega))).symm
    go_wp2
    go_ret
    obtain rfl:=HF.out;exact⟨rfl,hb⟩
 ·have HF:false=r:=by
   rw[<-hr];exact(Lx fun he=>hl (by rw[he,LC,hcl])).symm
  subst HF;have hz:¬(S.length:Int)=(cn:Int):=by omega
  have hzb:((S.length:Int) == (cn:Int))=false:=by simpa using hz
  clear hs hc hr hm
  go_enter func148,ntmps148;go_wp2
  go_ret
  exact⟨rfl,Lb _ _⟩
theorem QjO(w:World)(kd k:Int)(old size:Nat)(sa:OA)(sb so sc:Nat)(S:List Nat)(hs:RdU w sa sb so S.length S)(hm:S.length<=17592186044416)(da:OA)(dn dc:Nat)(ca:OA)(cb co cn cc:Nat)(l:List (Nat×BA))(hc:RdK w ca cb co cn l)(r:Bool)(hr:decide ((kd=1∨kd=2)∧S=ixs l)=r) :
  Calls prog 88 #[vP kd k old size (.slice sa S.length sc) (.slice da dn dc),.slice ca cn cc] w fun e w'=>e= .returned (.bool r)∧Below w.heap.size w w':=by
 obtain⟨W0,hW0,h6,hb0,_⟩:=Jq w (.int .i64 kd) (.int .i64 k) (.int .u64 old) (.int .u64 size) (.slice sa S.length sc) (.slice da dn dc);obtain⟨m0,m1,m2,m3,m4,m5⟩:=h6.cells;have HA:Hid (∀q,decide (S=ixs l)=q->Calls prog 148 #[.slice sa S.length sc,.slice ca cn cc] W0 fun e w'=>e= .returned (.bool q)∧Below W0.heap.size W0 w'):=fun q hq=>Qhb W0 sa sb so sc S (hs.next hb0) hm ca cb co cn cc l (hc.next hb0) q hq
 clear hs hc hm h6;unfold vP
 by_cases h1:kd=1
 ·subst h1;have HA':=HA.out r (by rw[<-hr];simp)
  clear hr HA
  go_enter func88,ntmps88
  go_upto_region 1 with (fail)
  try rw[hW0]
  clear hW0
  go_wp2_with (go_at_call 148;with_reducible refine HA'.mono ?_;rintro e w1 ⟨rfl,hb1⟩)
  go_ret
  exact⟨rfl,Qa hb0 hb1⟩
 ·have h1b:(kd == 1)=false:=by simpa using h1
  by_cases h2:kd=2
  ·subst h2;have HA':=HA.out r (by rw[<-hr];simp)
   clear hr HA
   go_enter func88,ntmps88
   go_upto_region 1 with (fail)
   try rw[hW0]
   clear hW0
   go_wp2_with (go_at_call 148;with_reducible refine HA'.mono ?_;rintro e w1 ⟨rfl,hb1⟩)
   go_ret
   exact⟨rfl,Qa hb0 hb1⟩
  ·have h2b:(kd == 2)=false:=by simpa using h2
   obtain rfl:false=r:=by rw[<-hr];exact(Lx fun h=>h.1.elim h1 h2).symm
   clear hr HA
   go_enter func88,ntmps88
   go_upto_region 1 with (fail)
   try rw[hW0]
   clear hW0;go_wp2
   go_ret
   exact⟨rfl,hb0⟩
theorem Qls(l:List (Nat×BA)){j:Nat}(h:j<l.length):vls (l.take (j+1))=vls (l.take j)++[(l.getD j noC).2]:=by
 unfold vls;rw[NW,LL,Lc,Ll h];rfl
theorem Qf9(w:World)(ca:OA)(cb co cn cc:Nat)(l:List (Nat×BA))(hc:RdK w ca cb co cn l)(hm:cn<=8796093021952) :
  Calls prog 90 #[.slice ca cn cc] w fun e w'=> ∃v,e= .returned v∧Qg w' w.heap.size v (vls l)∧Below w.heap.size w w':=by
 have HR:Hid (∀W,Below w.heap.size w W->RdK W ca cb co cn l):=fun W hb=>hc.next hb
 have HL:Hid (l.length=cn ∧ ∀c∈l,c.2.size<=9223372036854775807):=⟨hc.hl,hc.sz⟩;have hM:=QfC w cn (by omega)
 have hO:=QbA w cn (by omega)
 have hm5:(cn:Int)<=8796093021952:=by omega
 have hb0:=bal (Lb w.heap.size w) (.cells (madeCells #[.string ByteArray.empty] cn) 9);obtain⟨W0,hW0⟩:∃W0,w.alloc (.cells (madeCells #[.string ByteArray.empty] cn) 9)=W0:=⟨_,rfl⟩;rw[hW0] at hM hO hb0;have HS:Hid (Qg W0 w.heap.size (.slice (Zp w.heap.size) 0 cn) []∧Below w.heap.size w W0):=⟨hO,hb0⟩;clear hc hm hO hb0 hW0
 go_enter func90,ntmps90;go_wp2
 go_loopg [3,11] cn (fun g v i wr=> ∃k:Nat,k<=cn∧g=cn-k∧i= .int .i64 k∧Qg wr w.heap.size v (vls (l.take k))∧Below w.heap.size w wr)
 case atStart=>go_light;exact⟨0,Ln _,rfl,rfl,HS.out.1,HS.out.2⟩
 case round=>
  obtain⟨k,hk,rfl,rfl,ho,hb⟩:=hrel;have hk0:(0:Int)<=(k:Int):=Lh _
  by_cases hlt:k<cn
  ·have r2:=HR.out wr hb;obtain rfl:=r2.ptr (by omega)
   obtain⟨c1,c2⟩:=r2.at hlt;have hz:(k:Int)<(cn:Int):=by omega
   have HV:Hid (vls (l.take (k+1))=vls (l.take k)++[(l.getD k noC).2]∧(l.getD k noC).2.size<=9223372036854775807):=⟨Qls l (by have:=HL.out.1;omega),by
    have hk':k<l.length:=by have:=HL.out.1;omega
    refine HL.out.2 _ ?_
    rw[Lc,Ll hk'];exact LZ _⟩
   have HLn:Hid ((vls (l.take k)).length<=8796093021952):=by
    show(vls (l.take k)).length<=8796093021952
    rw[LC,LA];omega
   obtain⟨x,hx⟩:∃x,(l.getD k noC).1=x:=⟨_,rfl⟩;obtain⟨y,hy⟩:∃y,(l.getD k noC).2=y:=⟨_,rfl⟩;rw[hx] at c1;rw[hy] at c2 HV;have H0:=Qd (LO ho hb);generalize vls (l.take k)=Lk at *;clear hx hy r2 ho hb
   go_upto_region 5 with (fail)
   obtain⟨w5,hw5⟩:∃w5,wr.alloc (.cells #[.int .u64 x,.string y] 93)=w5:=⟨_,rfl⟩
   try rw[hw5]
   have H5:Hid (Qg w5 w.heap.size u3 Lk∧Below w.heap.size w w5):=by rw[<-hw5];exact⟨Yf H0.out.1 _,bal H0.out.2 _⟩
   have k5:=((Qm8 wr x y HV.out.2).at (j:=0) (by decide)).2
   rw[hw5] at k5;simp only[Nat.zero_mul,Nat.add_zero,Nat.zero_add] at k5;clear hw5 H0 c1 c2
   go_wp2_with (at_builtin;refine QY _ rfl _ _ rfl w.heap.size _ Lk rfl (Yf H5.out.1 _) (Zp w5.heap.size) w5.heap.size 0 1 [y] rfl (Uf w5 y HV.out.2) (fun h=>by cases h) ?c1 ?c2 ?_)
   case c1=>have:=HLn.out;simp;omega
   case c2=>have:=H5.out.2.size;simp;omega
   intro v' w3 o3 hb3;have HO3:=Qd (LO o3 ((bal H5.out.2 (.cells #[.string y] 9)).trans hb3));clear o3 hb3;go_wp2
   go_roundg (cn-(k+1))
   case rel=>go_light;exact⟨k+1,by omega,rfl,by go_num,by rw[HV.out.1];exact HO3.out.1,HO3.out.2⟩
   case measure=>go_light;omega
  ·have hz:¬(k:Int)<(cn:Int):=by omega
   obtain rfl:k=cn:=by omega
   have HO:=Qd (LO ho hb);clear ho hb;go_wp2
   go_ret
   refine⟨_,rfl,?_,HO.out.2⟩
   have:=HO.out.1;rw[Lr (by have:=HL.out.1;omega)] at this
   exact this
theorem Qeh(w:World)(kd k:Int)(h1:kd≠1)(old size:Nat)(sa:OA)(ns sc:Nat)(da:OA)(dn dc:Nat)(xa:OA)(xn xc:Nat)(n:Nat)(d:BA)(er:Int)
  (hR:∀W,Below w.heap.size w W->Calls prog 150 #[vP kd k old size (.slice sa ns sc) (.slice da dn dc),.slice xa xn xc] W fun e w'=>e= .returned (.tuple #[.agg #[.int .u64 n,.string d],.int .i64 er])∧Below W.heap.size W w') :
  Calls prog 89 #[vP kd k old size (.slice sa ns sc) (.slice da dn dc),.slice xa xn xc] w fun e w'=>e= .returned (.tuple #[.agg #[.int .u64 n,.string d],.int .i64 er])∧Below w.heap.size w w':=by
 obtain⟨W0,hW0⟩:∃W0,(w.alloc (.cells #[.int .i64 kd,.int .i64 k,.int .u64 old,.int .u64 size,.slice sa ns sc,.slice da dn dc] 138)).alloc (.cells #[.int .u64 0,.string ⟨#[]⟩] 50)=W0:=⟨_,rfl⟩;obtain⟨hb0,h6,hR0,hz0⟩:=Oe hW0;obtain⟨m0,m1,m2,m3,m4,m5⟩:=h6.cells;have h1b:(kd == 1)=false:=by simpa using h1
 have HC:=(hR W0 hb0);have HR0:Hid (Rt W0 (w.heap.size+1) 0 ⟨#[]⟩∧Below w.heap.size w W0∧w.heap.size+1<W0.heap.size):=⟨hR0,hb0,by omega⟩
 clear hR hb0 h6 hR0 hz0;unfold vP at HC;unfold vP
 go_enter func89,ntmps89
 go_upto_region 1 with (fail)
 try rw[hW0]
 clear hW0
 go_wp2_with (go_at_call 150;with_reducible refine HC.mono ?_;rintro e w1 ⟨rfl,hb1⟩;have hR:=HR0.out.1.below hb1 HR0.out.2.2;have k0:=hR.c0;have k1:=hR.c1;have f0:=hR.f0;have f1:=hR.f1)
 obtain⟨s0,s1,hch⟩:=QfY hR (n:Int) d;refine LK (v := .tuple #[.agg #[.int .u64 n,.string d],.int .i64 er]) (by simp[results,results89,go_sem,s0,s1]) rfl ⟨rfl,?_⟩
 exact(Qa HR0.out.2.1 hb1).trans (hch.below (by rintro b rfl;omega))
structure CF(W:World)(q5 q9:Nat)(k:Int)(pv:Value)(pk:Int)(s:BA)(ca:OA)(cn cc:Nat)(X:LB)(tp rt:Value)(n:Nat)(d:BA)(er:Int)(L:Nat->Bool)(a:Act)(w:World):Prop where
 sz:a.tmps.size=39
 df:a.defers=[]
 i2:a.tmps.getD 2 undef= .slice ca cn cc
 i5:a.tmps.getD 5 undef=Pq q5
 i9:a.tmps.getD 9 undef=Pq q9
 be:Below W.heap.size W w
 a0:L 0=true->a.tmps.getD 26 undef=pv
 a1:L 1=true->a.tmps.getD 27 undef= .slice ca cn cc
 a2:L 2=true->L 3=false -> ∃ao m c,a.tmps.getD 28 undef= .slice ao m c∧Qg w W.heap.size (.slice ao m c) X
 a3:L 3=true->a.tmps.getD 29 undef=tp
 a4:L 4=true->a.tmps.getD 25 undef=tp
 a5:L 5=true->a.tmps.getD 30 undef=rt
 a6:L 6=true->a.tmps.getD 31 undef= .int .i64 er
 a7:L 7=true -> ∃q,a.tmps.getD 11 undef=Pq q∧W.heap.size<=q∧q<w.heap.size∧(∃n' d',Rh w q n' d')∧(L 8=true->Rh w q n d)
 a9:L 9=true->a.tmps.getD 10 undef= .int .i64 er
-- steps
section
variable {W:World} {q5 q9:Nat} {k:Int} {pv:Value} {pk:Int} {s:BA} {ca:OA} {cn cc:Nat} {X:LB} {tp rt:Value} {n:Nat} {d:BA} {er:Int} {Q:Exit->Act->World->Prop} {ops:List Oper} {ty:TypeId} {ps:String} {af:Array Edge}
theorem cf0(hq:∀w,Below W.heap.size W w -> ∃v0 v1 v2 v3 v4 v5,pv= .agg #[v0,v1,v2,v3,v4,v5]∧Six w q9 v0 v1 v2 v3 v4 v5):QV prog Q ops (CF W q5 q9 k pv pk s ca cn cc X tp rt n d er) 0 { dst:=some 26,op:=Op.load 138 (Operand.tmp 9),type:=ty,pos:=ps,after:=af,guard:=none } := by
 intro L a w K hI hj hcl hdep hK;have hs:26<a.tmps.size:=by rw[hI.sz];decide
 obtain⟨v0,v1,v2,v3,v4,v5,rfl,h6⟩:=hq w hI.be;obtain⟨m0,m1,m2,m3,m4,m5⟩:=h6.cells;have t9:=hI.i9
 show Oper.wp _ _ a w K _
 go_simp
 exact hK _ _ { sz:=(by simp[Act.put,hI.sz]),df:=(hI.df),i2:=(by rw[Qb a 26 2 _ hs,Ld (by decide)];exact hI.i2),i5:=(by rw[Qb a 26 5 _ hs,Ld (by decide)];exact hI.i5),i9:=(by rw[Qb a 26 9 _ hs,Ld (by decide)];exact hI.i9),be:=(hI.be),a0:=(fun _=>by rw[Qb a 26 26 _ hs,Lm rfl]),a1:=(fun h=>by rw[Qb a 26 27 _ hs,Ld (by decide)];exact hI.a1 h),a2:=(fun h h3=>by rw[Qb a 26 28 _ hs,Ld (by decide)];exact hI.a2 h h3),a3:=(fun h=>by rw[Qb a 26 29 _ hs,Ld (by decide)];exact hI.a3 h),a4:=(fun h=>by rw[Qb a 26 25 _ hs,Ld (by decide)];exact hI.a4 h),a5:=(fun h=>by rw[Qb a 26 30 _ hs,Ld (by decide)];exact hI.a5 h),a6:=(fun h=>by rw[Qb a 26 31 _ hs,Ld (by decide)];exact hI.a6 h),a7:=(fun h=>by rw[Qb a 26 11 _ hs,Ld (by decide)];exact hI.a7 h),a9:=(fun h=>by rw[Qb a 26 10 _ hs,Ld (by decide)];exact hI.a9 h) }
theorem cf1  : QV prog Q ops (CF W q5 q9 k pv pk s ca cn cc X tp rt n d er) 1 { dst:=some 27,op:=Op.move (Operand.tmp 2),type:=ty,pos:=ps,after:=af,guard:=none } := by
 intro L a w K hI hj hcl hdep hK;have hs:27<a.tmps.size:=by rw[hI.sz];decide
 have t2:=hI.i2
 show Oper.wp _ _ a w K _
 go_simp
 exact hK _ _ { sz:=(by simp[Act.put,hI.sz]),df:=(hI.df),i2:=(by rw[Qb a 27 2 _ hs,Ld (by decide)];exact hI.i2),i5:=(by rw[Qb a 27 5 _ hs,Ld (by decide)];exact hI.i5),i9:=(by rw[Qb a 27 9 _ hs,Ld (by decide)];exact hI.i9),be:=(hI.be),a0:=(fun h=>by rw[Qb a 27 26 _ hs,Ld (by decide)];exact hI.a0 h),a1:=(fun _=>by rw[Qb a 27 27 _ hs,Lm rfl]),a2:=(fun h h3=>by rw[Qb a 27 28 _ hs,Ld (by decide)];exact hI.a2 h h3),a3:=(fun h=>by rw[Qb a 27 29 _ hs,Ld (by decide)];exact hI.a3 h),a4:=(fun h=>by rw[Qb a 27 25 _ hs,Ld (by decide)];exact hI.a4 h),a5:=(fun h=>by rw[Qb a 27 30 _ hs,Ld (by decide)];exact hI.a5 h),a6:=(fun h=>by rw[Qb a 27 31 _ hs,Ld (by decide)];exact hI.a6 h),a7:=(fun h=>by rw[Qb a 27 11 _ hs,Ld (by decide)];exact hI.a7 h),a9:=(fun h=>by rw[Qb a 27 10 _ hs,Ld (by decide)];exact hI.a9 h) }
theorem cf2(d1:(af.toList.any fun e=>e.on == 1 && Region.binds .any e)=true)(hV:∀w,Below W.heap.size W w->Calls prog 90 #[.slice ca cn cc] w fun e w'=> ∃v,e= .returned v∧Qg w' w.heap.size v X∧Below w.heap.size w w'):QV prog Q ops (CF W q5 q9 k pv pk s ca cn cc X tp rt n d er) 2 { dst:=some 28,op:=Op.call { callee:=Callee.value (Operand.func 90),args:=#[Operand.tmp 27],argTypes:=#[90] },type:=ty,pos:=ps,after:=af,guard:=none } := by
 intro L a w K hI hj hcl hdep hK;have hs:28<a.tmps.size:=by rw[hI.sz];decide
 have t27:=hI.a1 (hdep 1 d1)
 show Oper.wp _ _ a w K _
 go_simp
 refine(hV w hI.be).mono ?_
 rintro e w' ⟨v,rfl,ho,hb⟩;obtain⟨ao,m,c,rfl⟩:=Cv.Ql ho;exact hK _ _ { sz:=(by simp[Act.put,hI.sz]),df:=(hI.df),i2:=(by rw[Qb a 28 2 _ hs,Ld (by decide)];exact hI.i2),i5:=(by rw[Qb a 28 5 _ hs,Ld (by decide)];exact hI.i5),i9:=(by rw[Qb a 28 9 _ hs,Ld (by decide)];exact hI.i9),be:=(Qa hI.be hb),a0:=(fun h=>by rw[Qb a 28 26 _ hs,Ld (by decide)];exact hI.a0 h),a1:=(fun h=>by rw[Qb a 28 27 _ hs,Ld (by decide)];exact hI.a1 h),a2:=(fun _ _=>⟨ao,m,c,by rw[Qb a 28 28 _ hs,Lm rfl],QO ho hI.be.size⟩),a3:=(fun h=>by rw[Qb a 28 29 _ hs,Ld (by decide)];exact hI.a3 h),a4:=(fun h=>by rw[Qb a 28 25 _ hs,Ld (by decide)];exact hI.a4 h),a5:=(fun h=>by rw[Qb a 28 30 _ hs,Ld (by decide)];exact hI.a5 h),a6:=(fun h=>by rw[Qb a 28 31 _ hs,Ld (by decide)];exact hI.a6 h),a7:=(fun h=>by rw[Qb a 28 11 _ hs,Ld (by decide)];obtain⟨q,g1,g2,g3,⟨n9,d9,g4⟩,g5⟩:=hI.a7 h;exact⟨q,g1,g2,Lv g3 hb.size,⟨n9,d9,g4.next hb⟩,fun h8=>(g5 h8).next hb⟩),a9:=(fun h=>by rw[Qb a 28 10 _ hs,Ld (by decide)];exact hI.a9 h) }
theorem cf3(d0:(af.toList.any fun e=>e.on == 0 && Region.binds .any e)=true)(d2:(af.toList.any fun e=>e.on == 2 && Region.binds .any e)=true)(hL:∀w ao m c,Below W.heap.size W w->Qg w W.heap.size (.slice ao m c) X->Calls prog 89 #[pv,.slice ao m c] w fun e w'=>e= .returned tp∧Below w.heap.size w w'):QV prog Q ops (CF W q5 q9 k pv pk s ca cn cc X tp rt n d er) 3 { dst:=some 29,op:=Op.call { callee:=Callee.value (Operand.func 89),args:=#[Operand.tmp 26,Operand.tmp 28],argTypes:=#[138,22] },type:=ty,pos:=ps,after:=af,guard:=none } := by
 intro L a w K hI hj hcl hdep hK;have hs:29<a.tmps.size:=by rw[hI.sz];decide
 have t26:=hI.a0 (hdep 0 d0);obtain⟨ao,m,c,t28,ho⟩:=hI.a2 (hdep 2 d2) hj
 show Oper.wp _ _ a w K _
 go_simp
 refine(hL w ao m c hI.be ho).mono ?_
 rintro e w' ⟨rfl,hb⟩;exact hK _ _ { sz:=(by simp[Act.put,hI.sz]),df:=(hI.df),i2:=(by rw[Qb a 29 2 _ hs,Ld (by decide)];exact hI.i2),i5:=(by rw[Qb a 29 5 _ hs,Ld (by decide)];exact hI.i5),i9:=(by rw[Qb a 29 9 _ hs,Ld (by decide)];exact hI.i9),be:=(Qa hI.be hb),a0:=(fun h=>by rw[Qb a 29 26 _ hs,Ld (by decide)];exact hI.a0 h),a1:=(fun h=>by rw[Qb a 29 27 _ hs,Ld (by decide)];exact hI.a1 h),a2:=(fun _ h=>by cases h),a3:=(fun _=>by rw[Qb a 29 29 _ hs,Lm rfl]),a4:=(fun h=>by rw[Qb a 29 25 _ hs,Ld (by decide)];exact hI.a4 h),a5:=(fun h=>by rw[Qb a 29 30 _ hs,Ld (by decide)];exact hI.a5 h),a6:=(fun h=>by rw[Qb a 29 31 _ hs,Ld (by decide)];exact hI.a6 h),a7:=(fun h=>by rw[Qb a 29 11 _ hs,Ld (by decide)];obtain⟨q,g1,g2,g3,⟨n9,d9,g4⟩,g5⟩:=hI.a7 h;exact⟨q,g1,g2,Lv g3 hb.size,⟨n9,d9,g4.next hb⟩,fun h8=>(g5 h8).next hb⟩),a9:=(fun h=>by rw[Qb a 29 10 _ hs,Ld (by decide)];exact hI.a9 h) }
theorem cf4(d3:(af.toList.any fun e=>e.on == 3 && Region.binds .any e)=true):QV prog Q ops (CF W q5 q9 k pv pk s ca cn cc X tp rt n d er) 4 { dst:=some 25,op:=Op.move (Operand.tmp 29),type:=ty,pos:=ps,after:=af,guard:=none } := by
 intro L a w K hI hj hcl hdep hK;have hs:25<a.tmps.size:=by rw[hI.sz];decide
 have t29:=hI.a3 (hdep 3 d3)
 show Oper.wp _ _ a w K _
 go_simp
 exact hK _ _ { sz:=(by simp[Act.put,hI.sz]),df:=(hI.df),i2:=(by rw[Qb a 25 2 _ hs,Ld (by decide)];exact hI.i2),i5:=(by rw[Qb a 25 5 _ hs,Ld (by decide)];exact hI.i5),i9:=(by rw[Qb a 25 9 _ hs,Ld (by decide)];exact hI.i9),be:=(hI.be),a0:=(fun h=>by rw[Qb a 25 26 _ hs,Ld (by decide)];exact hI.a0 h),a1:=(fun h=>by rw[Qb a 25 27 _ hs,Ld (by decide)];exact hI.a1 h),a2:=(fun h h3=>by rw[Qb a 25 28 _ hs,Ld (by decide)];exact hI.a2 h h3),a3:=(fun h=>by rw[Qb a 25 29 _ hs,Ld (by decide)];exact hI.a3 h),a4:=(fun _=>by rw[Qb a 25 25 _ hs,Lm rfl]),a5:=(fun h=>by rw[Qb a 25 30 _ hs,Ld (by decide)];exact hI.a5 h),a6:=(fun h=>by rw[Qb a 25 31 _ hs,Ld (by decide)];exact hI.a6 h),a7:=(fun h=>by rw[Qb a 25 11 _ hs,Ld (by decide)];exact hI.a7 h),a9:=(fun h=>by rw[Qb a 25 10 _ hs,Ld (by decide)];exact hI.a9 h) }
theorem cf5(d4:(af.toList.any fun e=>e.on == 4 && Region.binds .any e)=true)(ht:tp= .tuple #[rt,.int .i64 er]):QV prog Q ops (CF W q5 q9 k pv pk s ca cn cc X tp rt n d er) 5 { dst:=some 30,op:=Op.extract (Operand.tmp 25) 0,type:=ty,pos:=ps,after:=af,guard:=none } := by
 intro L a w K hI hj hcl hdep hK;have hs:30<a.tmps.size:=by rw[hI.sz];decide
 have t25:=hI.a4 (hdep 4 d4);rw[ht] at t25
 show Oper.wp _ _ a w K _
 go_simp
 exact hK _ _ { sz:=(by simp[Act.put,hI.sz]),df:=(hI.df),i2:=(by rw[Qb a 30 2 _ hs,Ld (by decide)];exact hI.i2),i5:=(by rw[Qb a 30 5 _ hs,Ld (by decide)];exact hI.i5),i9:=(by rw[Qb a 30 9 _ hs,Ld (by decide)];exact hI.i9),be:=(hI.be),a0:=(fun h=>by rw[Qb a 30 26 _ hs,Ld (by decide)];exact hI.a0 h),a1:=(fun h=>by rw[Qb a 30 27 _ hs,Ld (by decide)];exact hI.a1 h),a2:=(fun h h3=>by rw[Qb a 30 28 _ hs,Ld (by decide)];exact hI.a2 h h3),a3:=(fun h=>by rw[Qb a 30 29 _ hs,Ld (by decide)];exact hI.a3 h),a4:=(fun h=>by rw[Qb a 30 25 _ hs,Ld (by decide)];exact hI.a4 h),a5:=(fun _=>by rw[Qb a 30 30 _ hs,Lm rfl]),a6:=(fun h=>by rw[Qb a 30 31 _ hs,Ld (by decide)];exact hI.a6 h),a7:=(fun h=>by rw[Qb a 30 11 _ hs,Ld (by decide)];exact hI.a7 h),a9:=(fun h=>by rw[Qb a 30 10 _ hs,Ld (by decide)];exact hI.a9 h) }
theorem cf6(d4:(af.toList.any fun e=>e.on == 4 && Region.binds .any e)=true)(ht:tp= .tuple #[rt,.int .i64 er]):QV prog Q ops (CF W q5 q9 k pv pk s ca cn cc X tp rt n d er) 6 { dst:=some 31,op:=Op.extract (Operand.tmp 25) 1,type:=ty,pos:=ps,after:=af,guard:=none } := by
 intro L a w K hI hj hcl hdep hK;have hs:31<a.tmps.size:=by rw[hI.sz];decide
 have t25:=hI.a4 (hdep 4 d4);rw[ht] at t25
 show Oper.wp _ _ a w K _
 go_simp
 exact hK _ _ { sz:=(by simp[Act.put,hI.sz]),df:=(hI.df),i2:=(by rw[Qb a 31 2 _ hs,Ld (by decide)];exact hI.i2),i5:=(by rw[Qb a 31 5 _ hs,Ld (by decide)];exact hI.i5),i9:=(by rw[Qb a 31 9 _ hs,Ld (by decide)];exact hI.i9),be:=(hI.be),a0:=(fun h=>by rw[Qb a 31 26 _ hs,Ld (by decide)];exact hI.a0 h),a1:=(fun h=>by rw[Qb a 31 27 _ hs,Ld (by decide)];exact hI.a1 h),a2:=(fun h h3=>by rw[Qb a 31 28 _ hs,Ld (by decide)];exact hI.a2 h h3),a3:=(fun h=>by rw[Qb a 31 29 _ hs,Ld (by decide)];exact hI.a3 h),a4:=(fun h=>by rw[Qb a 31 25 _ hs,Ld (by decide)];exact hI.a4 h),a5:=(fun h=>by rw[Qb a 31 30 _ hs,Ld (by decide)];exact hI.a5 h),a6:=(fun _=>by rw[Qb a 31 31 _ hs,Lm rfl]),a7:=(fun h=>by rw[Qb a 31 11 _ hs,Ld (by decide)];exact hI.a7 h),a9:=(fun h=>by rw[Qb a 31 10 _ hs,Ld (by decide)];exact hI.a9 h) }
theorem cf7(hd8:dep ops 8 7=true):QV prog Q ops (CF W q5 q9 k pv pk s ca cn cc X tp rt n d er) 7 { dst:=some 11,op:=Op.alloc 50,type:=ty,pos:=ps,after:=af,guard:=none } := by
 intro L a w K hI hj hcl hdep hK;have hs:11<a.tmps.size:=by rw[hI.sz];decide
 have h8:=QT hcl hj hd8
 show Oper.wp _ _ a w K _
 go_simp
 exact hK _ _ { sz:=(by simp[Act.put,hI.sz]),df:=(hI.df),i2:=(by rw[Qb a 11 2 _ hs,Ld (by decide)];exact hI.i2),i5:=(by rw[Qb a 11 5 _ hs,Ld (by decide)];exact hI.i5),i9:=(by rw[Qb a 11 9 _ hs,Ld (by decide)];exact hI.i9),be:=(bal hI.be _),a0:=(fun h=>by rw[Qb a 11 26 _ hs,Ld (by decide)];exact hI.a0 h),a1:=(fun h=>by rw[Qb a 11 27 _ hs,Ld (by decide)];exact hI.a1 h),a2:=(fun h h3=>by rw[Qb a 11 28 _ hs,Ld (by decide)];obtain⟨ao,m,c,g1,g2⟩:=hI.a2 h h3;exact⟨ao,m,c,g1,Yf g2 _⟩),a3:=(fun h=>by rw[Qb a 11 29 _ hs,Ld (by decide)];exact hI.a3 h),a4:=(fun h=>by rw[Qb a 11 25 _ hs,Ld (by decide)];exact hI.a4 h),a5:=(fun h=>by rw[Qb a 11 30 _ hs,Ld (by decide)];exact hI.a5 h),a6:=(fun h=>by rw[Qb a 11 31 _ hs,Ld (by decide)];exact hI.a6 h),a7:=(fun _=>⟨w.heap.size,by rw[Qb a 11 11 _ hs,Lm rfl],hI.be.size,by simp,⟨0,⟨#[]⟩,Lt w _⟩,fun h=>by rw[Ld (by decide),h8] at h;cases h⟩),a9:=(fun h=>by rw[Qb a 11 10 _ hs,Ld (by decide)];exact hI.a9 h) }
theorem cf8(d5:(af.toList.any fun e=>e.on == 5 && Region.binds .any e)=true)(d7:(af.toList.any fun e=>e.on == 7 && Region.binds .any e)=true)(hd3:(af.toList.any fun e=>e.on == 3 && Region.binds .any e)=true)(hr:rt= .agg #[.int .u64 n,.string d]):QV prog Q ops (CF W q5 q9 k pv pk s ca cn cc X tp rt n d er) 8 { dst:=none,op:=Op.store 50 (Operand.tmp 11) (Operand.tmp 30),type:=ty,pos:=ps,after:=af,guard:=none } := by
 intro L a w K hI hj hcl hdep hK;have t30:=hI.a5 (hdep 5 d5);rw[hr] at t30;obtain⟨q,t11,g2,g3,⟨n9,d9,g4⟩,_⟩:=hI.a7 (hdep 7 d7);have h3:=hdep 3 hd3;obtain⟨k0,k1⟩:=g4.cells;have fz:=g4.fz;have hch:=Uz w q n d;have hpt:=g4.put n d;unfold putR at hch hpt
 show Oper.wp _ _ a w K _
 go_simp
 exact hK undef _ { sz:=(hI.sz),df:=(hI.df),i2:=(by exact hI.i2),i5:=(by exact hI.i5),i9:=(by exact hI.i9),be:=(hI.be.trans (hch.below (by rintro b rfl;exact g2))),a0:=(fun h=>by exact hI.a0 h),a1:=(fun h=>by exact hI.a1 h),a2:=(fun _ h=>by have h3':L 3=false:=h;rw[h3] at h3';cases h3'),a3:=(fun h=>by exact hI.a3 h),a4:=(fun h=>by exact hI.a4 h),a5:=(fun h=>by exact hI.a5 h),a6:=(fun h=>by exact hI.a6 h),a7:=(fun _=>⟨q,t11,g2,by rw[hch.size];exact g3,⟨n,d,hpt⟩,fun _=>hpt⟩),a9:=(fun h=>by exact hI.a9 h) }
theorem cf9(d6:(af.toList.any fun e=>e.on == 6 && Region.binds .any e)=true):QV prog Q ops (CF W q5 q9 k pv pk s ca cn cc X tp rt n d er) 9 { dst:=some 10,op:=Op.assign (Operand.tmp 31),type:=ty,pos:=ps,after:=af,guard:=none } := by
 intro L a w K hI hj hcl hdep hK;have hs:10<a.tmps.size:=by rw[hI.sz];decide
 have t31:=hI.a6 (hdep 6 d6)
 show Oper.wp _ _ a w K _
 go_simp
 exact hK _ _ { sz:=(by simp[Act.put,hI.sz]),df:=(hI.df),i2:=(by rw[Qb a 10 2 _ hs,Ld (by decide)];exact hI.i2),i5:=(by rw[Qb a 10 5 _ hs,Ld (by decide)];exact hI.i5),i9:=(by rw[Qb a 10 9 _ hs,Ld (by decide)];exact hI.i9),be:=(hI.be),a0:=(fun h=>by rw[Qb a 10 26 _ hs,Ld (by decide)];exact hI.a0 h),a1:=(fun h=>by rw[Qb a 10 27 _ hs,Ld (by decide)];exact hI.a1 h),a2:=(fun h h3=>by rw[Qb a 10 28 _ hs,Ld (by decide)];exact hI.a2 h h3),a3:=(fun h=>by rw[Qb a 10 29 _ hs,Ld (by decide)];exact hI.a3 h),a4:=(fun h=>by rw[Qb a 10 25 _ hs,Ld (by decide)];exact hI.a4 h),a5:=(fun h=>by rw[Qb a 10 30 _ hs,Ld (by decide)];exact hI.a5 h),a6:=(fun h=>by rw[Qb a 10 31 _ hs,Ld (by decide)];exact hI.a6 h),a7:=(fun h=>by rw[Qb a 10 11 _ hs,Ld (by decide)];exact hI.a7 h),a9:=(fun _=>by rw[Qb a 10 10 _ hs,Lm rfl]) }
end
theorem Qf{α:Type}{l:List α}{n:Nat}(h:l.length=n+1):∃x t,l=x::t∧t.length=n:=by
 cases l with
 | nil=>cases h
 | cons x t=>exact⟨x,t,rfl,by simpa using h⟩
def clmD(n:Nat)(d:BA)(er:Int)(o1:Nat)(c1:BA):Int:=if er=0∧n=o1∧d=c1 then 0 else 150
theorem Qa3(w:World)(k:Int)(k1:1<=k)(k2:k<=32)(o1:Nat)(c1:BA)(ca:OA)(cb co cn cc:Nat)(l:List (Nat×BA))(hc:RdK w ca cb co cn l)(hcm:cn<=8796093021952)(s:BA)(hs:s.size<=281474976710656)(P:PV)(hd:dec s.data.toList=some P)(hk:P.k=k)(hyes:(P.kd=1∨P.kd=2)∧P.S=ixs l)
  (n:Nat) (d:BA) (er:Int)
  (hL:∀W sa sb sc da db dc ao m c,Below w.heap.size w W->RdF W sa sb sc da db dc P->Qg W w.heap.size (.slice ao m c) (vls l)->Calls prog 89 #[vP P.kd k P.old P.size (.slice sa P.S.length sc) (.slice da P.D.length dc),.slice ao m c] W fun e w'=>e= .returned (.tuple #[.agg #[.int .u64 n,.string d],.int .i64 er])∧Below W.heap.size W w')
  (r:Int) (hr:clmD n d er o1 c1=r) :
  Calls prog 41 #[.int .i64 k,.agg #[.int .u64 o1,.string c1],.slice ca cn cc,.string s] w fun e w'=>e= .returned (.int .i64 r)∧Below w.heap.size w w':=by
 have HT:Hid (∀W,Calls prog 79 #[.int .i64 k,.string s] W fun e w'=> ∃sa sb sc da db dc,e= .returned (.tuple #[.agg #[.int .i64 P.kd,.int .i64 k,.int .u64 P.old,.int .u64 P.size,.slice sa P.S.length sc,.slice da P.D.length dc],.int .i64 0])∧RdF w' sa sb sc da db dc P∧Below W.heap.size W w'):=fun W=>QeX W k k1 k2 s hs P hd hk
 have HO:Hid (∀W sa sb sc da db dc,Below w.heap.size w W->RdF W sa sb sc da db dc P->Calls prog 88 #[vP P.kd k P.old P.size (.slice sa P.S.length sc) (.slice da P.D.length dc),.slice ca cn cc] W fun e w'=>e= .returned (.bool true)∧Below W.heap.size W w'):=fun W sa sb sc da db dc hb hF=>QjO W P.kd k P.old P.size sa sb 0 sc P.S hF.p.rs hF.p.mS da P.D.length dc ca cb co cn cc l (hc.next hb) true (LV hyes)
 have HV:Hid (∀W,Below w.heap.size w W->Calls prog 90 #[.slice ca cn cc] W fun e w'=> ∃v,e= .returned v∧Qg w' W.heap.size v (vls l)∧Below W.heap.size W w'):=fun W hb=>Qf9 W ca cb co cn cc l (hc.next hb) hcm
 have HL:=Qd hL;unfold vP at HO HL;obtain⟨W0,hW0⟩:∃W0,w.alloc (.cells #[.int .u64 o1,.string c1] 50)=W0:=⟨_,rfl⟩;have hq:Rh W0 w.heap.size o1 c1∧Below w.heap.size w W0:=by rw[<-hW0];exact⟨Lt w _,bal (Lb _ _) _⟩
 have HX:Hid (∀F,Below W0.heap.size W0 F->Rh F w.heap.size o1 c1∧Below w.heap.size w F):=fun F hF=>⟨hq.1.next hF,Qa hq.2 hF⟩
 clear hs hd hk hyes k1 k2 hc hcm hL hq;obtain⟨kd,kk,old,size,S,D⟩:=P;simp only at HT HO HL
 go_enter func41,ntmps41
 go_upto_region 1 with (fail)
 try rw[hW0]
 clear hW0
 go_upto_region 4 with (go_at_call 79;with_reducible refine(HT.out _).mono ?_;rintro e w1 ⟨sa,sb,sc,da,db,dc,rfl,hF,hb1⟩)
 obtain⟨F,hFe,h7,hb2,_⟩:=Jq w1 (.int .i64 kd) (.int .i64 k) (.int .u64 old) (.int .u64 size) (.slice sa S.length sc) (.slice da D.length dc)
 try rw[hFe]
 clear hFe;obtain⟨m0,m1,m2,m3,m4,m5⟩:=h7.cells;have hF2:=hF.next hb2;have xb:=(HX.out _ (Qa hb1 hb2)).2
 go_upto_region 6 with (go_at_call 88;with_reducible refine(HO.out _ _ _ _ _ _ _ xb hF2).mono ?_;rintro e w3 ⟨rfl,hb3⟩)
 have x7:=h7.next hb3;have HF3:=Qd (hF2.next hb3);obtain⟨xr,xb3⟩:=HX.out _ (Qa (Qa hb1 hb2) hb3);have HB3:=Qd (LO xr xb3);clear hF2 hF xb m0 m1 m2 m3 m4 m5 hb2 hb1 hb3 HT HO HX xr xb3;refine YD (by kernel_rfl) (by kernel_rfl) (CF w3 w.heap.size w1.heap.size k (.agg #[.int .i64 kd,.int .i64 k,.int .u64 old,.int .u64 size,.slice sa S.length sc,.slice da D.length dc]) k s ca cn cc (vls l) (.tuple #[.agg #[.int .u64 n,.string d],.int .i64 er]) (.agg #[.int .u64 n,.string d]) n d er)
  (fun Z _ hZ=> { sz:=rfl,df:=rfl,i2:=rfl,i5:=rfl,i9:=rfl,be:=hZ,a0:=(fun h=>by cases h),a1:=(fun h=>by cases h),a2:=(fun h=>by cases h),a3:=(fun h=>by cases h),a4:=(fun h=>by cases h),a5:=(fun h=>by cases h),a6:=(fun h=>by cases h),a7:=(fun h=>by cases h),a9:=(fun h=>by cases h) })
  ⟨cf0 (fun Z hZ=>⟨_,_,_,_,_,_,rfl,x7.next hZ⟩),cf1,cf2 rfl (fun Z hZ=>HV.out Z (Qa HB3.out.2 hZ)),cf3 rfl rfl (fun Z ao m c hZ ho=>HL.out Z sa sb sc da db dc ao m c (Qa HB3.out.2 hZ) (HF3.out.next hZ) (QO ho HB3.out.2.size)),cf4 rfl,cf5 rfl rfl,cf6 rfl rfl,cf7 rfl,cf8 rfl rfl rfl rfl,cf9 rfl,trivial⟩ ?_
 intro L a7 w7 hall hI;obtain⟨⟨tl⟩,df⟩:=a7;have hl0:tl.length=39:=hI.sz;obtain⟨u0,t0,rfl,hl1⟩:=Qf hl0;obtain⟨u1,t1,rfl,hl2⟩:=Qf hl1;obtain⟨u2,t2,rfl,hl3⟩:=Qf hl2;obtain⟨u3,t3,rfl,hl4⟩:=Qf hl3;obtain⟨u4,t4,rfl,hl5⟩:=Qf hl4;obtain⟨u5,t5,rfl,hl6⟩:=Qf hl5;obtain⟨u6,t6,rfl,hl7⟩:=Qf hl6;obtain⟨u7,t7,rfl,hl8⟩:=Qf hl7;obtain⟨u8,t8,rfl,hl9⟩:=Qf hl8;obtain⟨u9,t9,rfl,hl10⟩:=Qf hl9;obtain⟨u10,t10,rfl,hl11⟩:=Qf hl10;obtain⟨u11,t11,rfl,hl12⟩:=Qf hl11;obtain⟨u12,t12,rfl,hl13⟩:=Qf hl12;obtain⟨u13,t13,rfl,hl14⟩:=Qf hl13;obtain⟨u14,t14,rfl,hl15⟩:=Qf hl14;obtain⟨u15,t15,rfl,hl16⟩:=Qf hl15;obtain⟨u16,t16,rfl,hl17⟩:=Qf hl16;obtain⟨u17,t17,rfl,hl18⟩:=Qf hl17;obtain⟨u18,t18,rfl,hl19⟩:=Qf hl18;obtain⟨u19,t19,rfl,hl20⟩:=Qf hl19;obtain⟨u20,t20,rfl,hl21⟩:=Qf hl20;obtain⟨u21,t21,rfl,hl22⟩:=Qf hl21;obtain⟨u22,t22,rfl,hl23⟩:=Qf hl22;obtain⟨u23,t23,rfl,hl24⟩:=Qf hl23;obtain⟨u24,t24,rfl,hl25⟩:=Qf hl24;obtain⟨u25,t25,rfl,hl26⟩:=Qf hl25;obtain⟨u26,t26,rfl,hl27⟩:=Qf hl26;obtain⟨u27,t27,rfl,hl28⟩:=Qf hl27;obtain⟨u28,t28,rfl,hl29⟩:=Qf hl28;obtain⟨u29,t29,rfl,hl30⟩:=Qf hl29;obtain⟨u30,t30,rfl,hl31⟩:=Qf hl30;obtain⟨u31,t31,rfl,hl32⟩:=Qf hl31;obtain⟨u32,t32,rfl,hl33⟩:=Qf hl32;obtain⟨u33,t33,rfl,hl34⟩:=Qf hl33;obtain⟨u34,t34,rfl,hl35⟩:=Qf hl34;obtain⟨u35,t35,rfl,hl36⟩:=Qf hl35;obtain⟨u36,t36,rfl,hl37⟩:=Qf hl36;obtain⟨u37,t37,rfl,hl38⟩:=Qf hl37;obtain⟨u38,t38,rfl,hl39⟩:=Qf hl38;obtain rfl:=List.length_eq_zero_iff.1 hl39;obtain rfl:df=[]:=hI.df;obtain rfl:u5=Pq w.heap.size:=hI.i5;obtain rfl:u10= .int .i64 er:=hI.a9 (hall 9 (by decide))
 obtain⟨q,e11,_,_,_,g8⟩:=hI.a7 (hall 7 (by decide))
 obtain rfl:u11=Pq q:=e11;obtain⟨b0,b1⟩:=(g8 (hall 8 (by decide))).cells
 have xB:=Qa HB3.out.2 hI.be;obtain⟨a0,a1⟩:=(HB3.out.1.next hI.be).cells;have HB:=Qd xB;clear hl0 hl1 hl2 hl3 hl4 hl5 hl6 hl7 hl8 hl9 hl10 hl11 hl12 hl13 hl14 hl15 hl16 hl17 hl18 hl19 hl20 hl21 hl22 hl23 hl24 hl25 hl26 hl27 hl28 hl29 hl30 hl31 hl32 hl33 hl34 hl35 hl36 hl37 hl38 hl39;clear xB hI hall g8 HB3 HF3 HL HV x7 h7;unfold clmD at hr
 by_cases h1:er=0
 ·subst h1
  by_cases h2:n=o1∧d=c1
  ·obtain⟨rfl,rfl⟩:=h2;rw[Lm ⟨rfl,rfl,rfl⟩] at hr;subst hr;go_wp2
   go_ret
   exact⟨rfl,HB.out⟩
  ·rw[Ld (fun h=>h2 h.2)] at hr
   subst hr
   rcases Qdm h2 with hn|⟨rfl,hd⟩
   ·have hz:¬(n:Int)=(o1:Int):=by omega
    have hzb:((n:Int) == (o1:Int))=false:=by simpa using hz
    clear h2 hn;go_wp2
    go_ret
    exact⟨rfl,HB.out⟩
   ·have hz:=QcV hd;have hzb:=OJ hd;clear h2 hd;go_wp2
    go_ret
    exact⟨rfl,HB.out⟩
 ·rw[Ld (fun h=>h1 h.1)] at hr
  subst hr;have hzb:(er == 0)=false:=by simpa using h1
  go_wp2
  go_ret
  exact⟨rfl,HB.out⟩
end Go.Proofs.YtoblgjledefdbaaGreatDoor
