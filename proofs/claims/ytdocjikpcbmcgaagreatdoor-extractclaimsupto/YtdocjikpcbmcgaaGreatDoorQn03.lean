/- Own work. -/
import Derived.Test.YtdocjikpcbmcgaaGreatDoorQn02
set_option maxRecDepth 100000
set_option maxHeartbeats 4000000
namespace Go.Proofs.YtdocjikpcbmcgaaGreatDoor
open Go.RowKit
attribute [local go_sem ↓] Go.wp_at_zero Go.wp_at_succ
open Go.Proofs.Tryz
theorem Uf(x:Int)(h0:0<=x)(h1:x<18446744073709551616):IntKind.u64.wrap x=x:=by
 simp[IntKind.wrap,IntKind.signed,IntKind.bits];omega
theorem Qbx(w:World)(ao:OA)(len cap h:Nat)(hh:h<=40)(hm:len<=8796093022208)(m:Nat)(hq:len / 2^h=m) :
  Calls prog 68 #[.slice ao len cap,.int .i64 (h:Int)] w fun e w'=>e = .returned (.int .u64 (m:Int))∧w'=w:=by
 have h0:(0:Int)<=(h:Int):=by omega
 have h1:(h:Int)<64:=by omega
 have e0:IntKind.u64.wrap (len:Int)=(len:Int):=Uf _ (by omega) (by omega)
 have e1:(len:Int) / 2^h=(m:Int):=by rw[<-hq];simp
 clear hm hh hq
 go_enter func68,ntmps68;go_wp2
 go_ret
 exact⟨rfl,rfl⟩
theorem Qc5(k:Int)(ao:OA)(b off len cap:Nat)(L:LB)(hsz : ∀s∈L,s.size<=140737488351232)(hmx:len<=8796093022208) : ∀h:Nat,h<=40 -> ∀(i:Nat) (w:World) (r:BA),Tb w->RdS w ao b off len L->(i+1)*2^h<=len->nd (clk k) L h i=r ->
  Zr 69 #[.int .i64 k,.slice ao len cap,.agg #[.int .i64 (h:Int),.int .u64 (i:Int)]] w (.string r):=by
 intro h
 induction h with
 | zero =>
  intro _ i w r ht hr hw hq;rw[NC,Iw] at hw;have hi:(i:Int)<(len:Int):=by omega
  have xD:(0:Int)<=(i:Int):=by omega
  obtain rfl:=hr.ptr (by omega)
  have HL:Hr w 116 #[.int .i64 k,.string (L.getD i ByteArray.empty)] (.string r):=fun W hb=>Qb1 W (ht.next hb) k _ (N7 (hsz _ (Qv (by rw[hr.hl];omega))) (by decide)) r hq
  have hb:=Lb w.heap.size w;have ci:=fun o=>((hr.next (bal hb o) (Ld _)).at (k:=i) (by omega))
  generalize L.getD i ByteArray.empty=s at *;rw[show((0:Nat):Int)=0 from rfl]
  clear hq ht hr hw hmx hsz
  go_enter func69,ntmps69
  go_wp2_with (go_at_call 116;with_reducible refine(HL.out _ (bal hb _)).mono ?_;rintro e w1 ⟨rfl,xA⟩)
  go_ret
  exact⟨rfl,Qa (bal hb _) xA⟩
 | succ h ih =>
  intro hh i w r ht hr hw hq;have hp:2^(h+1)=2*2^h:=by rw[LM];omega
  have h1:(2*i+1+1)*2^h<=len:=by
   rw[hp] at hw;rw[show 2*i+1+1=(i+1)*2 by omega,L9];exact hw
  have h2:(2*i+1)*2^h<=len:=Lz (LE _ (by omega)) h1
  have hi:i<len:=by
   have:=LQ (h+1);have:(i+1)*1<=(i+1)*2^(h+1):=NZ _ this;omega
  obtain⟨x,hx⟩:=Ze (nd (clk k) L h (2*i));obtain⟨y,hy⟩:=Ze (nd (clk k) L h (2*i+1));have zx:=Q7 (Qp k) L h (2*i);have zy:=Q7 (Qp k) L h (2*i+1);have hc:=Qp k;rw[nd,hx,hy] at hq;rw[hx] at zx;rw[hy] at zy;obtain⟨j,hj⟩:=Ze (2*i);have e1:IntKind.u64.wrap (2*(i:Int))=(j:Int):=by rw[Uf _ (by omega) (by omega)];omega
  have e2:IntKind.u64.wrap ((j:Int)+1)=((j:Int)+1):=Uf _ (by omega) (by omega)
  have e3:IntKind.i64.wrap (h:Int)=(h:Int):=by simp[IntKind.wrap,IntKind.signed,IntKind.bits];omega
  rw[hj] at h1 h2 hx hy;have H1:Hr w 69 #[.int .i64 k,.slice ao len cap,.agg #[.int .i64 (h:Int),.int .u64 (j:Int)]] (.string x):=fun W hb=>ih (by omega) j W x (ht.next hb) (hr.next hb (Ld _)) h2 hx
  have H2:Hr w 69 #[.int .i64 k,.slice ao len cap,.agg #[.int .i64 (h:Int),.int .u64 ((j:Int)+1)]] (.string y):=fun W hb=>by
   have:=ih (by omega) (j+1) W y (ht.next hb) (hr.next hb (Ld _)) h1 hy
   rwa [show((j+1:Nat):Int)=(j:Int)+1 from rfl] at this
  have H3:Hr w 125 #[.int .i64 k,.string x,.string y] (.string r):=fun W hb=>OS W (ht.next hb) k x y (by omega) (by omega) r hq
  have hb:=Lb w.heap.size w;have xE : ¬((h:Int)+1=0):=by omega
  rw[show((h+1:Nat):Int)=(h:Int)+1 from rfl]
  clear ih hh hw hq hp h1 h2 hi hx hy zx zy hc hj ht hr hmx hsz
  go_enter func69,ntmps69
  go_wp2_with (first
   | (go_at_call 69;with_reducible refine(H1.out _ (bal hb _)).mono ?_;rintro e w1 ⟨rfl,xA⟩;have c0:=xA.cell (p:=⟨w.heap.size,0,none⟩) (by simp);have c1:=xA.cell (p:=⟨w.heap.size,1,none⟩) (by simp);rw[Ia] at c0 c1;replace hb:=Qa (bal hb _) xA;clear xA)
   | (go_at_call 69;with_reducible refine(H2.out _ hb).mono ?_;rintro e w2 ⟨rfl,xB⟩;clear c0 c1;replace hb:=Qa hb xB;clear xB)
   | (go_at_call 125;with_reducible refine(H3.out _ hb).mono ?_;rintro e w3 ⟨rfl,xC⟩;replace hb:=Qa hb xC;clear xC))
  go_ret
  exact⟨rfl,hb⟩
theorem QkN(w:World)(ht:Tb w)(k:Int)(ao:OA)(b off len cap:Nat)(L:LB)(hr:RdS w ao b off len L)(hsz : ∀s∈L,s.size<=140737488351232)(hmx:len<=8796093022208)(h i:Nat)(hh:h<=40)(hi:(i+1)*2^h<=len)(r:BA)(hq:nd (clk k) L h i=r) :
  Zr 215 #[.int .i64 k,.slice ao len cap,.agg #[.int .i64 (h:Int),.int .u64 (i:Int)]] w (.tuple #[.string r,.bool true]):=by
 obtain⟨m,hm⟩:=Ze (len / 2^h);have xA:=QkS.2 hi;rw[hm] at xA;have HB:=fun W=>Qbx W ao len cap h hh hmx m hm
 have HN:Hr w 69 #[.int .i64 k,.slice ao len cap,.agg #[.int .i64 (h:Int),.int .u64 (i:Int)]] (.string r):=fun W hb=>Qc5 k ao b off len cap L hsz hmx h hh i W r (ht.next hb) (hr.next hb (Ld _)) hi hq
 have hb:=Lb w.heap.size w;have t1 : ¬((h:Int)<0):=by omega
 have t2 : ¬((40:Int)<(h:Int)):=by omega
 have t3 : ¬((m:Int)<=(i:Int)):=by omega
 clear hm xA hi hh hq hr ht hsz hmx
 go_enter func215,ntmps215;go_wp2
 go_quiet ((go_at_call 68;refine Calls.quiet_of_same (HB _)))
 go_wp2_with (go_at_call 69;with_reducible refine(HN.out _ (Qd (bal hb _) _)).mono ?_;rintro e w1 ⟨rfl,xB⟩)
 go_ret2
 exact⟨rfl,Qa (Qd (bal hb _) _) xB⟩
theorem RdS.take{w:World}{ao:OA}{b off len:Nat}{ss:LB}(h:RdS w ao b off len ss){n:Nat}(hn:n<=len):RdS w ao b off n (ss.take n):=by
 refine⟨by rw[Lq,h.hl];omega,fun h0=>h.ptr (by omega),fun j v hv => ?_,fun s hs=>h.sz s (Nf hs)⟩
 rw[IX,Nc] at hv
 split at hv
 ·exact h.rng j v hv
 ·cases hv
theorem QmT{c:Nat}(hc:c<=32){L:LB}{h:Nat} : ∀s∈pks c L h,s.size<=140737488351232:=fun s hs=>by rw[Qcf hc L h s hs];omega
theorem Qj5(w:World)(ht:Tb w)(k:Int)(ao:OA)(b off len cap:Nat)(L:LB)(hr:RdS w ao b off len L)(hsz : ∀s∈L,s.size<=140737488351232)(hmx:len<=8796093022208)(P:LB)(q:Nat)(hq:q=41)(hP:Hid (pks (clk k) L q=P)) :
  Ro 33 #[.int .i64 k,.slice ao len cap] w P:=by
 have HT:Hid (Tb w∧RdS w ao b off len L∧(∀s∈L,s.size<=140737488351232)∧len<=8796093022208):=⟨ht,hr,hsz,hmx⟩;have hb:=Lb w.heap.size w;have HS:Hid ([]++pks (clk k) L 41=P):=by rw[<-hq];exact hP
 have xF:P.length<=41:=by rw[<-hP.out,<-hq];exact Qbd (clk k) L q
 have xH:=Qe xF;clear ht hr hsz hmx hq hP xF
 go_enter func33,ntmps33;go_wp2
 go_loopg [5,6] 41 (fun g v i wr => ∃(j:Nat) (A:LB),j=g∧i = .int .i64 ((j:Int) - 1)∧j<=41∧A.length<=41∧Hid (A++pks (clk k) L j=P)∧Qk wr w.heap.size v A∧Zb w wr)
 case atStart=>go_light;exact⟨41,[],rfl,by go_num,Ld _,by simp,HS.out,Um w _,hb⟩
 case round =>
  clear hb;obtain⟨j,A,hg,rfl,hj,hA,HE,ho,hb⟩:=hrel;subst hg
  cases j with
  | zero =>
   have hz : ¬((0:Int) <= -1):=by decide
   rw[show((0:Nat):Int) - 1 = -1 from rfl]
   have HF:Hid (A=P):=by
    have:=HE.out;rw[pks,Na] at this;exact this
   clear HE HT;go_wp2
   go_ret
   exact⟨_,rfl,by rw[<-HF.out];exact ho,hb⟩
  | succ j =>
   have e1:((j+1:Nat):Int) - 1=(j:Int):=by omega
   have hz:(0:Int)<=(j:Int):=by omega
   rw[e1];obtain⟨m,hm⟩:=Ze (len / 2^j);have xG:m<=len:=by rw[<-hm];exact Nt _ _
   have xD:Hid (∀W,Calls prog 68 #[.slice ao len cap,.int .i64 (j:Int)] W fun e w'=>e = .returned (.int .u64 (m:Int))∧w'=W):=fun W=>Qbx W ao len cap j (by omega) HT.out.2.2.2 m hm
   have HO:Hid (Qk wr w.heap.size _ A):=ho;have hL:=HT.out.2.1.hl
   by_cases hodd:m % 2=1
   ·obtain⟨x,hx⟩:=Ze (nd (clk k) L j (m - 1));have xB:Hid ((A++[x])++pks (clk k) L j=P):=by
     show _=_
     rw[<-HE.out,Qbe (by rw[hL,hm];exact hodd),hL,hm,hx];simp
    have zx:x.size<=9223372036854775807:=by rw[<-hx,Q7 (Qp k)];have:=Qp k;omega
    have xA:A.length+1<=41:=by
     have:=LU List.length xB.out;have xK:=xH.out;simp at *;omega
    obtain⟨p,rfl⟩ : ∃p,m=p+1:=⟨m - 1,by omega⟩
    rw[Nv] at hx;have HN:Hr w 69 #[.int .i64 k,.slice ao len cap,.agg #[.int .i64 (j:Int),.int .u64 (p:Int)]] (.string x):=fun W hb=>by
     obtain⟨t1,t2,t3,t4⟩:=HT.out;exact Qc5 k ao b off len cap L t3 t4 j (by omega) p W x (t1.next hb) (t2.next hb (Ld _)) (QkS.1 (by omega)) hx
    have hp:IntKind.u64.wrap (p:Int)=(p:Int):=Uf _ (by omega) (by have:=HT.out.2.2.2;omega)
    have xI:((p:Int)+1) % 2=1:=by omega
    have xJ:Hid (Zb w wr):=hb;have xE:Hid (A.length+1<=41):=xA;have HZ:Hid (x.size<=9223372036854775807):=zx;clear HE hx hm xG hodd zx hL ho xA hA
    go_wp2_with (first
     | (go_at_call 68;with_reducible refine(xD.out _).mono ?_;rintro e w1 ⟨rfl,rfl⟩)
     | (go_at_call 69;with_reducible refine(HN.out _ hb).mono ?_;rintro e w2 ⟨rfl,xC⟩)
     | (at_builtin;refine QE _ rfl _ _ rfl w.heap.size _ A rfl (Y0 (Qm HO.out xC (Ld _)) _) (some ⟨w2.heap.size,0,none⟩) w2.heap.size 0 1 [x] rfl (YO w2 x HZ.out) (fun h=>by cases h) ?c1 ?c2 ?_))
    case c1=>have:=xE.out;simp;omega
    case c2=>have:=(Qa hb xC).size;simp;omega
    intro v2 w3 h3 hb3;have HX:Hid (Qk w3 w.heap.size v2 (A++[x])∧Zb w w3):=⟨h3,(bal (Qa hb xC) _).trans hb3⟩;clear h3 hb3 xC;go_wp2
    go_roundg j
    case rel=>go_light;exact⟨j,A++[x],rfl,by go_num,by omega,by have:=xE.out;simp;omega,xB,HX.out.1,HX.out.2⟩
    case measure=>go_light;omega
   ·have xI : ¬((m:Int) % 2=1):=by omega
    have xB:Hid (A++pks (clk k) L j=P):=by
     show _=_
     rw[<-HE.out,OZ (by rw[hL,hm];exact hodd)]
    clear HE hm xG hodd hL ho
    go_wp2_with (go_at_call 68;with_reducible refine(xD.out _).mono ?_;rintro e w1 ⟨rfl,rfl⟩)
    go_roundg j
    case rel=>go_light;exact⟨j,A,rfl,by go_num,by omega,hA,xB,HO.out,hb⟩
    case measure=>go_light;omega
theorem Qh8(w:World)(ht:Tb w)(k:Int)(ao:OA)(b off len cap:Nat)(L:LB)(hr:RdS w ao b off len L)(hsz : ∀s∈L,s.size<=140737488351232)(hmx:len<=8796093022208)(P:LB)(hP:Hid (pks (clk k) L 41=P)) :
  Ro 33 #[.int .i64 k,.slice ao len cap] w P:=Qj5 w ht k ao b off len cap L hr hsz hmx P 41 rfl hP
theorem QiY{k:Int}(h1:1<=k)(h2:k<=32):chk k=0:=by rw[chk,Le (by omega)]
theorem QiX{k:Int}(h:k<1∨32<k):chk k=70:=by rw[chk,Lm h]
structure Rt(w:World)(g n:Nat)(d:BA):Prop where
 c0:w.cell? ⟨g,0,none⟩=some (.int .u64 (n:Int))
 c1:w.cell? ⟨g,1,none⟩=some (.string d)
 f0:w.frozen? ⟨g,0,none⟩=false
 f1:w.frozen? ⟨g,1,none⟩=false
theorem Rt.below{w w':World}{B g n:Nat}{d:BA}(t:Rt w g n d)(hb:Below B w w')(hg:g<B):Rt w' g n d :=
 ⟨(hb.cell (p:=⟨g,0,none⟩) hg).trans t.c0,(hb.cell (p:=⟨g,1,none⟩) hg).trans t.c1,(hb.frozen (p:=⟨g,0,none⟩) hg).trans t.f0,(hb.frozen (p:=⟨g,1,none⟩) hg).trans t.f1⟩
theorem Qea(w:World)(n:Nat)(d:BA)(t:Nat):Rt (w.alloc (.cells #[.int .u64 (n:Int),.string d] t)) w.heap.size n d:=by
 refine⟨?_,?_,?_,?_⟩ <;> simp
theorem Qia(w:World)(k:Int)(hk:k<1∨32<k)(ao:OA)(len cap n:Nat) :
  Zr 56 #[.int .i64 k,.slice ao len cap,.int .u64 (n:Int)] w (.tuple #[.agg #[.int .u64 0,.string ⟨#[]⟩],.int .i64 70]):=by
 have HC:=fun W=>QV W k
 rw[QiX hk] at HC;have hb:=Lb w.heap.size w;clear hk
 go_enter func56,ntmps56
 go_wp2_with (go_at_call 61;with_reducible refine(HC _).mono ?_;rintro e w1 ⟨rfl,rfl⟩)
 refine Lp (v := .tuple #[.agg #[.int .u64 0,.string ⟨#[]⟩],.int .i64 70]) (by simp[results,results56,go_sem]) rfl ⟨rfl,?_⟩
 exact bal hb _
def rtD(c:Nat)(L:LB)(n:Nat):BA:=dg c (QI n (Qr c (pks c (L.take n) 41)))
theorem Qkc(w:World)(ht:Tb w)(k:Int)(h1:1<=k)(h2:k<=32)(ao:OA)(b off len cap:Nat)(L:LB)(hr:RdS w ao b off len L)(hsz : ∀s∈L,s.size<=140737488351232)(hmx:len<=8796093022208)(hc:len<=cap)(n:Nat)(hn:n<=len)(r:BA)(hq:Hid (rtD (clk k) L n=r)) :
  Zr 56 #[.int .i64 k,.slice ao len cap,.int .u64 (n:Int)] w (.tuple #[.agg #[.int .u64 (n:Int),.string r],.int .i64 0]):=by
 have HC:=fun W=>QV W k
 rw[QiY h1 h2] at HC;have e0:IntKind.u64.wrap (len:Int)=(len:Int):=Uf _ (by omega) (by omega)
 have xF : ¬((len:Int)<(n:Int)):=by omega
 have xG:(n:Int)<=(cap:Int):=by omega
 obtain⟨P,hP⟩ : ∃P,Hid (pks (clk k) (L.take n) 41=P):=⟨_,rfl⟩;have xD:Hid (∀W,Zb w W->Ro 33 #[.int .i64 k,.slice ao n cap] W P):=fun W hb=>Qh8 W (ht.next hb) k ao b off n cap (L.take n) ((hr.next hb (Ld _)).take hn) (fun s hs=>hsz s (Nf hs)) (by omega) P hP
 have zP : ∀s∈P,s.size<=140737488351232:=by rw[<-hP.out];exact QmT (Qp k)
 have lP:P.length<=41:=by rw[<-hP.out];exact Qbd _ _ _
 have HQ:Hid (dg (clk k) (QI n (Qr (clk k) P))=r):=by rw[<-hP.out];exact hq
 have xE:Hid (∀W,Zb w W -> ∀ao' b' cap',RdS W ao' b' 0 P.length P->Zr 81 #[.int .i64 k,.int .u64 (n:Int),.slice ao' P.length cap'] W (.string r)):=fun W hb ao' b' cap' hr'=>Qcr W (ht.next hb) k n ao' b' 0 P.length cap' P hr' zP (by omega) r HQ.out
 have HZ:Hid (∀s∈P,s.size<=9223372036854775807):=fun s hs=>Lz (zP s hs) (by decide)
 have hb:=Lb w.heap.size w;have HN:=Qea w 0 ⟨#[]⟩ 30;rw[show((0:Nat):Int)=0 from rfl] at HN
 have xC:=Qe HN;clear h1 h2 hn hmx hc hr hsz ht hq hP zP lP HQ HN
 go_enter func56,ntmps56
 go_wp2_with (first
  | (go_at_call 61;with_reducible refine(HC _).mono ?_;rintro e w1 ⟨rfl,rfl⟩)
  | (go_at_call 33;with_reducible refine(xD.out _ (bal hb _)).mono ?_;rintro e w2 ⟨v,rfl,ho,xA⟩;obtain⟨ao',b',cap',rfl,hr',_,_⟩:=Qt ho HZ.out)
  | (go_at_call 81;with_reducible refine(xE.out _ (Qa (bal hb _) xA) _ _ _ hr').mono ?_;rintro e w3 ⟨rfl,xB⟩;have hR:=(xC.out.below xA (by simp)).below xB (by have:=xA.size;simp at this;omega);have k0:=hR.c0;have k1:=hR.c1;have f0:=hR.f0;have f1:=hR.f1))
 have s0:(w3.setCell ⟨w.heap.size,0,none⟩ (.int .u64 (n:Int))).cell? ⟨w.heap.size,0,none⟩=some (.int .u64 (n:Int)):=LZ _ _ _ k0;have s1:((w3.setCell ⟨w.heap.size,0,none⟩ (.int .u64 (n:Int))).setCell ⟨w.heap.size,1,none⟩ (.string r)).cell? ⟨w.heap.size,1,none⟩=some (.string r) :=
  LZ _ _ _ ((LJ _ _ _ _ (by simp)).trans k1)
 refine Lp (v := .tuple #[.agg #[.int .u64 (n:Int),.string r],.int .i64 0]) (by simp[results,results56,go_sem,s0,s1]) rfl ⟨rfl,?_⟩
 exact((Qa (Qa (bal hb _) xA) xB).setCell (p:=⟨w.heap.size,0,none⟩) (Ld _) _).setCell (p:=⟨w.heap.size,1,none⟩) (Ld _) _
namespace Cv
open Pl
def dnL:Nat->Nat->Nat->List (Nat×Nat)
 | 0,_,_=>[]
 | h+1,lo,hi=>if pw h<=hi - lo then (h,lo / pw h)::dnL h (lo+pw h) hi else dnL h lo hi
def upL:Nat->Nat->Nat->Nat->List (Nat×Nat)
 | 0,_,_,_=>[]
 | f+1,h,lo,hi=>if pw h<=hi - lo then (if lo / pw h % 2=1 then (h,lo / pw h)::upL f (h+1) (lo+pw h) hi else upL f (h+1) lo hi) else dnL (h+1) lo hi
def cov(lo hi:Nat):List (Nat×Nat):=upL 42 0 lo hi
def rst:Nat->Nat->List Nat->List (Nat×Nat)
 | x,n,[]=>cov x n
 | x,n,i::S=>cov x i++rst (i+1) n S
def All(A:Nat->Prop)(h k:Nat):Prop := ∀i,k*pw h<=i->i<(k+1)*pw h->A i
def Til(A:Nat->Prop)(q:Nat):Nat->List (Nat×Nat)->Prop
 | p,[]=>p<=q ∧ ∀i,p<=i->i<q -> ¬A i
 | p,b::L=>p<=b.2*pw b.1∧(b.2+1)*pw b.1<=q∧(∀i,p<=i->i<b.2*pw b.1 -> ¬A i)∧All A b.1 b.2 ∧ ¬All A (b.1+1) (b.2 / 2)∧Til A q ((b.2+1)*pw b.1) L
theorem YR(h k:Nat):k*pw h<(k+1)*pw h:=by
 have:=QF h;rw[LR,LX];omega
theorem QbX(A:Nat->Prop)(h k h' k':Nat)(he:k*pw h=k' * pw h')(hl:h<h')(ha:All A h' k'):All A (h+1) (k / 2):=by
 obtain⟨d,rfl⟩ : ∃d,h'=h+1+d:=⟨h' - (h+1),by omega⟩
 have e1:pw (h+1+d)=2*pw d*pw h:=by rw[Qcj,QM,Nb (2*pw h),<-L9,Nb (pw d)]
 have hp:=QF h;have hd:=QF d;have hk:k=k' * (2*pw d):=by
  rw[e1,<-L9] at he;exact We hp he
 have xA:k / 2=k' * pw d:=by
  rw[hk,show k' * (2*pw d)=k' * pw d*2 by rw[Nb 2,L9]]
  exact NF _ (by decide)
 intro i h1 h2;have e2:pw (h+1+d)=pw d*pw (h+1):=by rw[Qcj,Nb]
 refine ha i ?_ ?_
 ·rw[e2,<-L9,<-xA];exact h1
 ·refine L5 h2 ?_
  rw[e2,<-L9,xA];refine LE _ ?_
  rw[LR];omega
theorem QnL{A:Nat->Prop}{q p:Nat}{L:List (Nat×Nat)}(h:Til A q p L):p<=q:=by
 cases L with
 | nil=>exact h.1
 | cons b L=>have:=YR b.1 b.2;have h1:=h.1;have h2:=h.2.1;omega
theorem Qhc{A:Nat->Prop}{q:Nat} : ∀ {L L':List (Nat×Nat)} {p:Nat},Til A q p L->Til A q p L'->L=L':=by
 intro L
 induction L with
 | nil =>
  intro L' p h h'
  cases L' with
  | nil=>rfl
  | cons b L' =>
   obtain⟨a1,a2,a3,a4,a5,a6⟩:=h';have:=YR b.1 b.2;exact absurd (a4 _ (Ld _) this) (h.2 _ a1 (by omega))
 | cons c L ih =>
  intro L' p h h'
  cases L' with
  | nil =>
   obtain⟨a1,a2,a3,a4,a5,a6⟩:=h;have:=YR c.1 c.2;exact absurd (a4 _ (Ld _) this) (h'.2 _ a1 (by omega))
  | cons b L' =>
   obtain⟨a1,a2,a3,a4,a5,a6⟩:=h;obtain⟨b1,b2,b3,b4,b5,b6⟩:=h';obtain⟨h,k⟩:=c;obtain⟨h',k'⟩:=b;simp only at *;have x1:=YR h k;have x2:=YR h' k';have he:k*pw h=k' * pw h':=by
    rcases NO (k*pw h) (k' * pw h') with hh|hh|hh
    ·exact absurd (a4 _ (Ld _) x1) (b3 _ a1 hh)
    ·exact hh
    ·exact absurd (b4 _ (Ld _) x2) (a3 _ b1 hh)
   have hh:h=h':=by
    rcases NO h h' with hh|hh|hh
    ·exact absurd (QbX A h k h' k' he hh b4) a5
    ·exact hh
    ·exact absurd (QbX A h' k' h k he.symm hh a4) b5
   subst hh;have hk:k=k':=We (QF h) he;subst hk;rw[ih a6 b6]
theorem Qei{A:Nat->Prop}{q p p':Nat}{L:List (Nat×Nat)}(h:Til A q p' L)(hp:p<=p')(hn : ∀i,p<=i->i<p' -> ¬A i):Til A q p L:=by
 cases L with
 | nil=>exact⟨Lz hp h.1,fun i h1 h2=>if hi:i<p' then hn i h1 hi else h.2 i (by omega) h2⟩
 | cons b L=>exact⟨Lz hp h.1,h.2.1,fun i h1 h2=>if hi:i<p' then hn i h1 hi else h.2.2.1 i (by omega) h2,h.2.2.2⟩
theorem Qad{A:Nat->Prop}{q m:Nat}{L':List (Nat×Nat)}(h':Til A q m L') : ∀ {L:List (Nat×Nat)} {p:Nat},Til A m p L->Til A q p (L++L'):=by
 intro L
 induction L with
 | nil=>intro p h;exact Qei h' h.1 h.2
 | cons b L ih =>
  intro p h;have:=QnL h';exact⟨h.1,Lz h.2.1 this,h.2.2.1,h.2.2.2.1,h.2.2.2.2.1,ih h.2.2.2.2.2⟩
theorem Qmp{A:Nat->Prop}{q q' p:Nat}{L:List (Nat×Nat)}(h:Til A q p L)(hq:q<=q')(hn : ∀i,q<=i->i<q' -> ¬A i):Til A q' p L:=by
 have:=Qad (A:=A) (q:=q') (m:=q) (L':=[]) ⟨hq,hn⟩ h
 rwa [Na] at this
abbrev Rg(lo hi:Nat):Nat->Prop:=fun i=>lo<=i∧i<hi
theorem Yc(c h:Nat):c*pw (h+1)=2*c*pw h:=by rw[QM,<-L9,Nb c]
theorem Qng(lo0 hi:Nat) : ∀h lo,(∃c,lo=c*pw h)->hi - lo<pw h->lo0<=lo->lo<=hi->Til (Rg lo0 hi) hi lo (dnL h lo hi):=by
 intro h
 induction h with
 | zero =>
  intro lo _ h2 h3 h4;rw[Ui] at h2;exact⟨h4,fun i h5 h6 _=>by omega⟩
 | succ h ih =>
  intro lo h1 h2 h3 h4;obtain⟨c,hc⟩:=h1;have hp:=QF h;have xA:=QM h;rw[Yc] at hc;rw[dnL]
  split
  ·rename_i hfit
   have hk:lo / pw h=2*c:=by rw[hc];exact NF _ hp
   have e1:(2*c+1)*pw h=lo+pw h:=by rw[LR,LX,<-hc]
   have e2:2*c / 2=c:=by omega
   have e3:c*pw (h+1)=lo:=by rw[Yc];exact hc.symm
   rw[hk];refine⟨by show lo<=2*c*pw h;omega,by show(2*c+1)*pw h<=hi;omega,fun i i1 i2=>by dsimp only at i2;omega,fun i i1 i2 => ?_,fun hall => ?_,?_⟩
   ·dsimp only at i1 i2;exact⟨by omega,by omega⟩
   ·dsimp only at hall
    rw[e2] at hall;have:=hall hi (by omega) (by rw[LR,LX,e3];omega)
    exact absurd this.2 (NG _)
   ·dsimp only
    rw[e1];exact ih (lo+pw h) ⟨2*c+1,e1.symm⟩ (by omega) (by omega) (by omega)
  ·exact ih lo ⟨2*c,hc⟩ (by omega) h3 h4
theorem pw40{h:Nat}(hh:pw h<=2^40):h<=40:=by
 by_cases h1:h<=40
 ·exact h1
 ·have h2:pw 41<=pw h:=JP (by omega)
  have h3:pw 41=2^41:=rfl;omega
theorem J2{lo hi h:Nat}(hl:hi - lo<pw h):dnL (h+1) lo hi=dnL h lo hi:=by
 rw[dnL,Le (by omega)]
theorem QnS(lo0 hi:Nat)(hhi:hi<=2^40) : ∀f h lo,f+h=42->h<=41->(∃c,lo=c*pw h)->lo0<=lo->lo<lo0+pw h->lo<=hi->Til (Rg lo0 hi) hi lo (upL f h lo hi):=by
 intro f
 induction f with
 | zero=>intro h lo h1 h2;omega
 | succ f ih =>
  intro h lo h1 h2 h3 h4 h5 h6;obtain⟨c,hc⟩:=h3;have hp:=QF h;have xA:=QM h;rw[upL]
  split
  ·rename_i hfit
   have hh:h<=40:=pw40 (by omega)
   have hk:lo / pw h=c:=by rw[hc];exact NF _ hp
   rw[hk];have e1:(c+1)*pw h=lo+pw h:=by rw[LR,LX,<-hc]
   split
   ·rename_i hodd
    have e2:c / 2*pw (h+1)+pw h=lo:=by
     rw[Yc,hc];have:c=2*(c / 2)+1:=by omega
     conv=>rhs;rw[this,LR,LX]
    have e3:(c+1) / 2*pw (h+1)=lo+pw h:=by
     rw[Yc,<-e1];have:c+1=2*((c+1) / 2):=by omega
     conv=>rhs;rw[this]
    refine⟨by show lo<=c*pw h;omega,by show(c+1)*pw h<=hi;omega,fun i i1 i2=>by dsimp only at i2;omega,fun i i1 i2 => ?_,fun hall => ?_,?_⟩
    ·dsimp only at i1 i2;exact⟨by omega,by omega⟩
    ·dsimp only at hall
     have:=hall _ (Ld _) (YR _ _);have:=this.1;omega
    ·dsimp only
     rw[e1];exact ih (h+1) (lo+pw h) (by omega) (by omega) ⟨_,e3.symm⟩ (by omega) (by omega) (by omega)
   ·rename_i hev
    refine ih (h+1) lo (by omega) (by omega) ⟨c / 2,?_⟩ h4 (by omega) h6
    rw[Yc,hc];have:c=2*(c / 2):=by omega
    conv=>lhs;rw[this]
  ·rename_i hno
   rw[J2 (by omega)]
   exact Qng lo0 hi h lo ⟨c,hc⟩ (by omega) h4 h6
theorem J0(lo hi:Nat)(h:lo<=hi)(hhi:hi<=2^40):Til (Rg lo hi) hi lo (cov lo hi) :=
 QnS lo hi hhi 42 0 lo rfl (by decide) ⟨lo,by simp[pw]⟩ (Ld _) (by rw[Ui];omega) h
theorem YS : ∀h lo hi,(dnL h lo hi).length<=h:=by
 intro h
 induction h with
 | zero=>intro lo hi;exact Ld _
 | succ h ih =>
  intro lo hi;rw[dnL]
  split
  ·have:=ih (lo+pw h) hi;simp;omega
  ·have:=ih lo hi;omega
theorem QnQ(hi:Nat)(hhi:hi<=2^40) : ∀f h lo,f+h=42->h<=40->lo<=hi->(upL f h lo hi).length<=80 - h:=by
 intro f
 induction f with
 | zero=>intro h lo h1 h2;omega
 | succ f ih =>
  intro h lo h1 h2 h3
  by_cases h40:h=40
  ·subst h40;obtain rfl:f=1:=by omega
   by_cases hfit:pw 40<=hi - lo
   ·have e:pw 40=2^40:=rfl;obtain rfl:lo=0:=by omega
    obtain rfl:hi=2^40:=by omega
    decide
   ·rw[upL,Le hfit,J2 (by omega)]
    have:=YS 40 lo hi;omega
  ·rw[upL]
   split
   ·split
    ·have:=ih (h+1) (lo+pw h) (by omega) (by omega) (by omega)
     simp;omega
    ·have:=ih (h+1) lo (by omega) (by omega) h3
     omega
   ·rw[J2 (by omega)]
    have:=YS h lo hi;omega
theorem OH(lo hi:Nat)(h:lo<=hi)(hhi:hi<=2^40):(cov lo hi).length<=80:=QnQ hi hhi 42 0 lo rfl (by decide) h
theorem Qlg{lo hi h:Nat}(hl:hi - lo<pw h) : ∀d,dnL (h+d) lo hi=dnL h lo hi:=by
 intro d
 induction d with
 | zero=>rfl
 | succ d ih =>
  have:pw h<=pw (h+d):=JP (by omega)
  rw[<-Ik,J2 (by omega),ih]
theorem Qmy(n:Nat)(hn:n<=2^40) : ∀f h,f+h=42->h<=41->upL f h 0 n=dnL 41 0 n:=by
 intro f
 induction f with
 | zero=>intro h h1 h2;omega
 | succ f ih =>
  intro h h1 h2;rw[upL]
  split
  ·rename_i hfit
   have:=pw40 (h:=h) (by omega)
   rw[Nat.zero_div,Le (by decide)]
   exact ih (h+1) (by omega) (by omega)
  ·rename_i hno
   rw[J2 (by omega),show 41=h+(41 - h) by omega,Qlg (by omega)]
theorem QX(n:Nat)(hn:n<=2^40):cov 0 n=dnL 41 0 n:=Qmy n hn 42 0 rfl (by decide)
theorem QjS : ∀h d,d<pw (h+1)->Ub (h+1) d=d / pw h+Ub h (d % pw h):=by
 intro h
 induction h with
 | zero=>intro d hd;simp[Ub,pw] at *;omega
 | succ h ih =>
  intro d hd;have e1:d % pw (h+1)=d % 2+2*(d / 2 % pw h):=by rw[QM,Ws]
  have e2:d / pw (h+1)=d / 2 / pw h:=by rw[QM,Nh]
  rw[Ub,ih (d / 2) (by rw[QM] at hd;omega),e1,e2,Ub]
  have e3:(d % 2+2*(d / 2 % pw h)) % 2=d % 2:=by omega
  have e4:(d % 2+2*(d / 2 % pw h)) / 2=d / 2 % pw h:=by omega
  rw[e3,e4];omega
theorem Qlh : ∀h lo hi,hi - lo<pw h->(dnL h lo hi).length=Ub h (hi - lo):=by
 intro h
 induction h with
 | zero=>intro lo hi _;rfl
 | succ h ih =>
  intro lo hi hl;have hp:=QF h;have xA:=QM h;rw[QjS h _ hl,dnL]
  split
  ·rename_i hfit
   have e1:(hi - lo) / pw h=1:=by rw[Wr hp];omega
   have e2:(hi - lo) % pw h=hi - (lo+pw h):=by rw[Nat.mod_eq_sub_mod hfit,NI (by omega)];omega
   rw[e1,e2,Lt,ih (lo+pw h) hi (by omega)];omega
  ·rename_i hno
   rw[Wk (by omega),NI (by omega),ih lo hi (by omega)];omega
theorem QlM(j d n:Nat)(h:n<2^j):Ub (j+d) n=Ub j n:=by
 induction d with
 | zero=>rfl
 | succ d ih=>rw[<-Ik,Qh0 _ _ (L5 h (L7 (by decide) (by omega))),ih]
theorem QbE(n:Nat)(hn:n<=2^40):(cov 0 n).length=Ub 64 n:=by
 rw[QX n hn, Qlh 41 0 n (by have : pw 41 = 2 ^ 41:=rfl
                            omega)]
 exact(QlM 41 23 n (by omega)).symm
theorem QcU(n:Nat)(hn:n<=2^40):(cov 0 n).length<=40:=by
 by_cases h:n=2^40
 ·subst h;decide
 ·rw[QX n hn, show(41 : Nat) = 40+1 from rfl, J2 (by have : pw 40 = 2 ^ 40:=rfl
                                                     omega)]
  exact YS 40 0 n
end Cv
namespace Cv
open Pl
theorem Tryz.infoU:(prog.info? 28).map (fun i=>(i.zero,i.size,i.bytes))=some (some (.int .u64 0),1,8):=by kernel_rfl
theorem Tryz.infoB:(prog.info? 83).map (fun i=>(i.zero,i.size,i.bytes))=some (some (.agg #[.int .i64 0,.int .u64 0]),2,16):=by kernel_rfl
theorem Qa{w W w2:World}(h:Zb w W)(h2:Zb W w2):Zb w w2:=h.trans (h2.mono h.size)
theorem bal{w W:World}(h:Zb w W)(o:Obj):Zb w (W.alloc o):=h.alloc h.size o
theorem Qd{B:Nat}{a w:World}(h:Below B a w)(n:Nat):Below B a (w.drewN n):=⟨h.os,h.tape,h.output,h.size,h.block⟩
abbrev cU(l:List Nat):List Value:=l.map (fun x:Nat=>Value.int .u64 (x:Int))
def cB:List (Int×Nat)->List Value
 | []=>[]
 | b::r => .int .i64 b.1 :: .int .u64 (b.2:Int)::cB r
def zl(L:List (Nat×Nat)):List (Int×Nat):=L.map (fun b=>((b.1:Int),b.2))
theorem UO(L M:List (Nat×Nat)):zl (L++M)=zl L++zl M:=L8
theorem QC(L:List (Nat×Nat)):(zl L).length=L.length:=Lx _
theorem QnY(h k:Nat):zl [(h,k)]=[((h:Int),k)]:=rfl
theorem Qw(l:List (Int×Nat)):(cB l).length=l.length*2:=by
 induction l with
 | nil=>rfl
 | cons b r ih=>simp[cB,ih];omega
theorem Qao(l m:List (Int×Nat)):cB (l++m)=cB l++cB m:=by
 induction l with
 | nil=>rfl
 | cons b r ih=>simp[cB,ih]
theorem JD(l:List (Int×Nat)) : ∀u∈cB l,u.oneCell'=true:=by
 induction l with
 | nil=>intro u hu;cases hu
 | cons b r ih =>
  intro u hu;simp[cB] at hu
  rcases hu with rfl|rfl|hu
  ·rfl
  ·rfl
  ·exact ih u hu
theorem QfF(l:List Nat) : ∀u∈cU l,u.oneCell'=true:=by
 intro u hu;simp[cU] at hu;obtain⟨y,_,rfl⟩:=hu;rfl
theorem QfD(l:List (Int×Nat))(j:Nat)(h:Int)(k:Nat)(hj:l[j]? = some (h,k)):(cB l)[2*j]? = some (.int .i64 h)∧(cB l)[2*j+1]? = some (.int .u64 (k:Int)):=by
 induction l generalizing j with
 | nil=>simp at hj
 | cons b r ih =>
  cases j with
  | zero=>simp at hj;subst hj;exact⟨rfl,rfl⟩
  | succ j =>
   have:=ih j (by simpa using hj)
   rw[show 2*(j+1)=2*j+1+1 by omega]
   simpa [cB] using this
abbrev Qx(w:World)(base:Nat)(v:Value)(l:List (Int×Nat)):Prop:=w.ownsRow base 83 2 v l.length (cB l)
abbrev Own(w:World)(base:Nat)(v:Value)(l:List Nat):Prop:=w.ownsRow base 28 1 v l.length (cU l)
def RdC(w:World)(u:Value)(m:Nat)(news:List Value):Prop :=
 ∃ao cap,u = .slice ao m cap∧(ao=none->m=0∧cap=0) ∧ ∀ad,ao=some ad -> ∀j c,news[j]? = some c->w.cell? (ad.add j)=some c
theorem O3{w:World}{B e size:Nat}{v:Value}{n:Nat}{xs:List Value}(h:w.ownsRow B e size v n xs):RdC w v n xs:=by
 have h0:=h;obtain⟨h1,h2⟩:=h
 rcases h2 with ⟨rfl,rfl⟩|⟨g,cap,cur,rfl,hg,hh,hc⟩
 ·exact⟨none,0,rfl,fun _=>⟨rfl,rfl⟩,fun ad h=>by cases h⟩
 ·exact⟨some ⟨g,0,none⟩,cap,rfl,(fun h=>by cases h),fun ad h=>by cases h;exact h0.cells rfl⟩
theorem O2{w w':World}{u:Value}{m:Nat}{news:List Value}(h:RdC w u m news)(hb:Zb w w'):RdC w' u m news:=by
 obtain⟨ao,xA,h1,h2,h3⟩:=h;exact⟨ao,xA,h1,h2,fun ad ha j c hj=>(hb.cell (Lh w _ (h3 ad ha j c hj))).trans (h3 ad ha j c hj)⟩
structure Ap(w w':World)(B e size:Nat)(v v':Value)(n:Nat)(xs:List Value):Prop where
 own:w'.ownsRow B e size v' n xs
 grown:w.grownBy w' v.ownBlock
 fresh:v'.ownBlock=v.ownBlock ∨ ∀g,v'.ownBlock=some g->w.heap.size<=g
theorem QG(w:World){ops:Array Oper}{rest:List Oper}{o:Oper}{a:Act}{Q:Exit->Act->World->Prop}
  (hg:o.guard=none) (s x:Operand) (t:TypeId) (hop:o.op=Op.call { callee:=Callee.builtin Builtin.append,args:=#[s,x],argTypes:=#[t,t] })
  (B:Nat) (e:TypeId) (i:TypeInfo) (z:Value) (size bytes:Nat) (h1:prog.underlying t=some (.slice e)) (h2:prog.info? e=some i) (h3:i.zero=some z) (h4:i.size=size) (h5:i.bytes=bytes) (h6:z.cells.size=size) (h7:0<size)
  (v:Value) (n:Nat) (xs:List Value) (hs:a.eval s=v) (hown:w.ownsRow B e size v n xs) (u:Value) (m:Nat) (news:List Value) (hx:a.eval x=u) (hr:RdC w u m news) (hn:news.length=m*size) (h1c : ∀u∈news,u.oneCell'=true)
  (b1:n+m<=maxLen) (b2:(n+m)*bytes<=140737488355328) (hB:B<=w.heap.size)
  (hK : ∀v' w',Ap w w' B e size v v' (n+m) (xs++news)->wpList prog ops Q rest (a.put o.dst v') w'):wpList prog ops Q (o::rest) a w:=by
 obtain⟨ao,xD,rfl,xC,xA⟩:=hr
 cases ao with
 | none =>
  obtain⟨rfl,rfl⟩:=xC rfl;have xE:news=[]:=List.length_eq_zero_iff.1 (by rw[hn];omega)
  subst xE;exact wpList_append_own_none hg s x _ hop B e i size h1 h2 v n xs hs hown hx (hK _ w ⟨by simpa using hown,World.grownBy.refl w _,.inl rfl⟩)
 | some ad =>
  have xB:=hown;obtain⟨g1,g2⟩:=hown
  rcases g2 with ⟨rfl,rfl⟩|⟨g,cp,cur,rfl,hgb,hh,hc⟩
  ·have xF:xs=[]:=List.length_eq_zero_iff.1 (by omega)
   subst xF;refine wpList_append_own w hg s x _ hop w.heap.size e i z size bytes h1 h2 h3 h4 h5 h6 h7 _ 0 [] hs (LT _ _ _ _) ad m xD news hx hn (xA ad rfl) h1c b1 b2 (Ld _) ?_
   intro v' w' r1 r2 _;exact hK v' w' ⟨r1.mono hB,r2,.inr fun k hk=>(r1.lt k hk).1⟩
  ·by_cases hfit:n+m<=cp
   ·refine wpList_append_fits w hg s x _ hop B e i size h1 h2 h4 g n cp xs hs xB ad m xD news hx hn (xA ad rfl) h1c hfit ?_
    intro w' r1 r2;exact hK _ w' ⟨r1,r2,.inl rfl⟩
   ·refine wpList_append_grows w hg s x _ hop e i z size bytes h1 h2 h3 h4 h5 h6 h7 (some ⟨g,0,none⟩) n cp xs hs (fun h=>by cases h) g1 (fun b hb=>by cases hb;exact xB.cells rfl) ad m xD news hx hn (xA ad rfl) h1c (by omega) b1 b2 ?_
    intro v' w' r1 r2;exact hK v' w' ⟨r1.mono hB,⟨r2.os,r2.tape,r2.output,r2.size,fun k hk _=>r2.block k hk (by simp)⟩,.inr fun k hk=>(r1.lt k hk).1⟩
theorem QP(w:World){ops:Array Oper}{rest:List Oper}{o:Oper}{a:Act}{Q:Exit->Act->World->Prop}
  (hg:o.guard=none) (s x:Operand) (hop:o.op=Op.call { callee:=Callee.builtin Builtin.append,args:=#[s,x],argTypes:=#[77,77] })
  (B:Nat) (v:Value) (L:List (Int×Nat)) (hs:a.eval s=v) (hown:Qx w B v L) (u:Value) (M:List (Int×Nat)) (hx:a.eval x=u) (hr:RdC w u M.length (cB M))
  (hlen:L.length+M.length<=1048576) (hB:B<=w.heap.size)
  (hK : ∀v' w',Qx w' B v' (L++M)->w.grownBy w' v.ownBlock->(v'.ownBlock=v.ownBlock ∨ ∀g,v'.ownBlock=some g->w.heap.size<=g)->wpList prog ops Q rest (a.put o.dst v') w'):wpList prog ops Q (o::rest) a w:=by
 obtain⟨i0,hi,xA,xB,xC⟩:=info_parts Tryz.infoB;refine QG w hg s x _ hop B 83 i0 (.agg #[.int .i64 0,.int .u64 0]) 2 16 underlying77 hi xA xB xC rfl (by decide) v L.length (cB L) hs hown u M.length (cB M) hx hr (Qw M) (JD M) (by unfold maxLen;omega) (by omega) hB ?_
 intro v' w' h;refine hK v' w' ?_ h.grown h.fresh
 rw[Qx,Qao,Lg];exact h.own
theorem Qa1(w:World){ops:Array Oper}{rest:List Oper}{o:Oper}{a:Act}{Q:Exit->Act->World->Prop}
  (hg:o.guard=none) (s x:Operand) (hop:o.op=Op.call { callee:=Callee.builtin Builtin.append,args:=#[s,x],argTypes:=#[53,53] })
  (B:Nat) (v:Value) (L:List Nat) (hs:a.eval s=v) (hown:Own w B v L) (u:Value) (M:List Nat) (hx:a.eval x=u) (hr:RdC w u M.length (cU M))
  (hlen:L.length+M.length<=1048576) (hB:B<=w.heap.size)
  (hK : ∀v' w',Own w' B v' (L++M)->w.grownBy w' v.ownBlock->(v'.ownBlock=v.ownBlock ∨ ∀g,v'.ownBlock=some g->w.heap.size<=g)->wpList prog ops Q rest (a.put o.dst v') w'):wpList prog ops Q (o::rest) a w:=by
 obtain⟨i0,hi,xA,xB,xC⟩:=info_parts Tryz.infoU;refine QG w hg s x _ hop B 28 i0 (.int .u64 0) 1 8 underlying53 hi xA xB xC rfl (by decide) v L.length (cU L) hs hown u M.length (cU M) hx hr (by simp[cU]) (QfF M) (by unfold maxLen;omega) (by omega) hB ?_
 intro v' w' h;refine hK v' w' ?_ h.grown h.fresh
 have:=h.own;rw[Own,Lg]
 simpa [cU] using this
theorem YU(w:World)(h:Int)(k t:Nat):RdC (w.alloc (.cells #[.int .i64 h,.int .u64 (k:Int)] t)) (.slice (some ⟨w.heap.size,0,none⟩) 1 1) [(h,k)].length (cB [(h,k)]):=by
 refine⟨some ⟨w.heap.size,0,none⟩,1,rfl,(fun h=>by cases h),fun ad ha j c hj => ?_⟩
 cases ha
 match j,hj with
 | 0,hj=>simp[cB] at hj;subst hj;simp[Addr.add,World.cell?_alloc_at]
 | 1,hj=>simp[cB] at hj;subst hj;simp[Addr.add,World.cell?_alloc_at]
theorem QdY(w:World)(k t:Nat):RdC (w.alloc (.cells #[.int .u64 (k:Int)] t)) (.slice (some ⟨w.heap.size,0,none⟩) 1 1) [k].length (cU [k]):=by
 refine⟨some ⟨w.heap.size,0,none⟩,1,rfl,(fun h=>by cases h),fun ad ha j c hj => ?_⟩
 cases ha
 match j,hj with
 | 0,hj=>simp[cU] at hj;subst hj;simp[Addr.add,World.cell?_alloc_at]
theorem Uc{w w':World}{B e size n:Nat}{v:Value}{l:List Value}(h:w.ownsRow B e size v n l)(hb:Zb w w'):w'.ownsRow B e size v n l:=by
 obtain⟨h1,h2⟩:=h;refine⟨h1,?_⟩
 rcases h2 with h2|⟨g,cap,cur,hv,hg,hh,h3⟩
 ·exact .inl h2
 ·exact .inr ⟨g,cap,cur,hv,hg,(hb.block g (by have:=(Array.getElem?_eq_some_iff.1 hh).1;exact this)).trans hh,h3⟩
theorem Ja{B:Nat}{w wr w1:World}{v:Value}{o:Obj}{e size n:Nat}{xs:List Value}(hB:Below B w wr)(hs:B<=wr.heap.size)(hown:wr.ownsRow B e size v n xs)(hg:(wr.alloc o).grownBy w1 v.ownBlock):Below B w w1∧B<=w1.heap.size:=by
 have h1:=hg.size;rw[LA] at h1;exact⟨(hB.alloc hs o).grown hg (by simp;omega) (fun j hj=>(hown.lt j hj).1),by omega⟩
theorem Jm{B:Nat}{w wr w1:World}{v:Value}{e size n:Nat}{xs:List Value}(hB:Below B w wr)(hs:B<=wr.heap.size)(hown:wr.ownsRow B e size v n xs)(hg:wr.grownBy w1 v.ownBlock):Below B w w1∧B<=w1.heap.size:=by
 have h1:=hg.size;exact⟨hB.grown hg hs (fun j hj=>(hown.lt j hj).1),by omega⟩
theorem Qb2(h:Nat)(w:World)(hh:h<64):Calls prog 182 #[.int .i64 (h:Int)] w fun e w'=>e = .returned (.int .u64 (pw h:Nat))∧w=w':=by
 have xC:(0:Int)<=(h:Int):=Lf _;have xD:(h:Int)<64:=by omega
 have xE : ¬(h:Int)<0:=by omega
 obtain⟨p,hp⟩ : ∃p:Nat,pw h=p:=⟨_,rfl⟩;have e1:IntKind.u64.wrap ((2:Int)^h)=(p:Int):=by
  have xB:pw h<=pw 63:=JP (by omega)
  have xA:pw 63=2^63:=rfl;have e:((2:Int)^h)=(p:Int):=by rw[<-hp];simp[pw]
  rw[e,IntKind.wrap_u64];omega
 rw[hp];clear hp hh
 go_enter func182,ntmps182;go_wp2
 go_ret
 exact⟨rfl,rfl⟩
theorem Q0{w:World}{b:Nat}(o:Obj)(hb:b<w.heap.size):(w.alloc o).heap[b]? = w.heap[b]? := (World.grownBy_alloc w o none).block b hb (by simp)
theorem OX{w w':World}{B e size n:Nat}{v:Value}{xs:List Value}(h:w.ownsRow B e size v n xs)(hb : ∀g,v.ownBlock=some g->w'.heap[g]? = w.heap[g]?):w'.ownsRow B e size v n xs:=by
 obtain⟨h1,h2⟩:=h;refine⟨h1,?_⟩
 rcases h2 with h2|⟨g,cap,cur,hv,hg,hh,h3⟩
 ·exact .inl h2
 ·subst hv;exact .inr ⟨g,cap,cur,rfl,hg,(hb g rfl).trans hh,h3⟩
theorem Qj{w:World}{B e size n:Nat}{v:Value}{xs:List Value}(h:w.ownsRow B e size v n xs) : ∃ao m c,v = .slice ao m c:=by
 rcases h.2 with ⟨rfl,_⟩|⟨g,cap,cur,rfl,_⟩
 ·exact⟨_,_,_,rfl⟩
 ·exact⟨_,_,_,rfl⟩
structure Give(k B0 M:Nat)(I:(Nat->Prop)->List (Nat×Nat)->World->Prop):Prop where
 give : ∀X acc (h q:Nat) w,I X acc w->(∀x,X x->x<w.heap.size)->acc.length<M ->
  Calls prog k #[.agg #[.int .i64 (h:Int),.int .u64 (q:Int)],.pointer (some ⟨B0,0,none⟩)] w fun e w'=>e = .returned (.tuple #[])∧I X (acc++[(h,q)]) w'∧Below B0 w w' ∧ ∀x,X x->w'.heap[x]? = w.heap[x]?
 stay : ∀X X' acc w w',I X acc w->(∀b,b<w.heap.size -> ¬X b->w'.heap[b]? = w.heap[b]?)->(∀x,X' x->X x∨w.heap.size<=x)->I X' acc w'
 lt : ∀X acc w,I X acc w->B0<w.heap.size
structure IA(B0:Nat)(X:Nat->Prop)(acc:List (Nat×Nat))(w:World):Prop where
 ex : ∃v,w.heap[B0]? = some (.cells #[v] 77 (0,0))∧Qx w (B0+1) v (zl acc) ∧ ∀g,v.ownBlock=some g -> ¬X g
 nx : ¬X B0
theorem QgR(B0:Nat)(X X':Nat->Prop)(acc:List (Nat×Nat))(w w':World)(h:IA B0 X acc w)(hb : ∀b,b<w.heap.size -> ¬X b->w'.heap[b]? = w.heap[b]?)(hx : ∀x,X' x->X x∨w.heap.size<=x):IA B0 X' acc w':=by
 obtain⟨⟨v,h1,h2,h3⟩,h4⟩:=h;have xA:B0<w.heap.size:=(Array.getElem?_eq_some_iff.1 h1).1
 refine⟨⟨v,(hb B0 xA h4).trans h1,OX h2 (fun g hg=>hb g (h2.lt g hg).2 (h3 g hg)),fun g hg hxg => ?_⟩,fun hx0 => ?_⟩
 ·rcases hx g hxg with h|h
  ·exact h3 g hg h
  ·have:=(h2.lt g hg).2;omega
 ·rcases hx B0 hx0 with h|h
  ·exact h4 h
  ·omega
theorem QmK(B0:Nat)(X:Nat->Prop)(acc:List (Nat×Nat))(w:World)(h:IA B0 X acc w):B0<w.heap.size:=by
 obtain⟨⟨v,h1,h2,h3⟩,h4⟩:=h;exact(Array.getElem?_eq_some_iff.1 h1).1
theorem QeS{B0 h q:Nat}{X:Nat->Prop}{acc:List (Nat×Nat)}{w w1:World}{v v':Value}{o1 o2:Obj}(h1:w.heap[B0]? = some (.cells #[v] 77 (0,0)))(h2:Qx w (B0+1) v (zl acc))(h3 : ∀g,v.ownBlock=some g -> ¬X g)(h4 : ¬X B0)(hX : ∀x,X x->x<w.heap.size)
  (hown:Qx w1 (B0+1) v' (zl acc++[((h:Int),q)])) (hg:((w.alloc o1).alloc o2).grownBy w1 v.ownBlock) (hf:v'.ownBlock=v.ownBlock ∨ ∀g,v'.ownBlock=some g->w.heap.size+1+1<=g) :
  IA B0 X (acc++[(h,q)]) (w1.setCell ⟨B0,0,none⟩ v')∧Below B0 w (w1.setCell ⟨B0,0,none⟩ v') ∧ ∀x,X x->(w1.setCell ⟨B0,0,none⟩ v').heap[x]? = w.heap[x]? := by
 have xD:B0<w.heap.size:=(Array.getElem?_eq_some_iff.1 h1).1
 have xC : ∀b,b<w.heap.size->some b≠v.ownBlock->w1.heap[b]? = w.heap[b]? := fun b hb hne=>by
  rw[hg.block b (by simp;omega) hne,Q0 _ (by simp;omega),Q0 _ hb]
 have xB:some B0≠v.ownBlock:=fun e=>by have:=(h2.lt B0 e.symm).1;omega
 have c1:w1.heap[B0]? = some (.cells #[v] 77 (0,0)):=(xC B0 xD xB).trans h1;have xA : ∀b,b≠B0->(w1.setCell ⟨B0,0,none⟩ v').heap[b]? = w1.heap[b]? := fun b hb=>Below.heap_setCell _ _ _ _ hb
 refine⟨⟨⟨v',one_setCell c1,?_,?_⟩,h4⟩,?_,?_⟩
 ·rw[UO,QnY];exact OX hown (fun g hgg=>xA g (by have:=(hown.lt g hgg).1;omega))
 ·intro g hgg hxg
  rcases hf with hf|hf
  ·exact h3 g (hf ▸ hgg) hxg
  ·have:=hf g hgg;have:=hX g hxg;simp at *;omega
 ·have b1:Below B0 w w1:=by
   have:=((Lb B0 w).alloc (by omega) o1).alloc (by simp;omega) o2
   exact this.grown hg (by simp;omega) (fun j hj=>by have:=(h2.lt j hj).1;omega)
  exact b1.setCell (Ld _) _
 ·intro x hx;have hne:x≠B0:=fun e=>h4 (e ▸ hx)
  rw[xA x hne];exact xC x (hX x hx) (fun e=>h3 x e.symm hx)
theorem QfU(B0:Nat):Give 162 B0 1000000 (IA B0):=by
 refine⟨fun X acc h q w hI hX hl => ?_,QgR B0,QmK B0⟩
 obtain⟨⟨v,h1,h2,h3⟩,h4⟩:=hI;have xB:B0<w.heap.size:=(Array.getElem?_eq_some_iff.1 h1).1
 have cV:=cell_of_one h1;have HH:Hid (w.heap[B0]? = some (.cells #[v] 77 (0,0))∧Qx w (B0+1) v (zl acc)∧(∀g,v.ownBlock=some g -> ¬X g) ∧ ¬X B0∧(∀x,X x->x<w.heap.size)∧acc.length<1000000):=⟨h1,h2,h3,h4,hX,hl⟩;have xG : ¬B0=w.heap.size:=by omega
 have xF:B0+1<=w.heap.size:=xB;have xC : ∀o:Obj,(w.alloc o).cell? ⟨B0,0,none⟩=some v:=fun o=>(LC (Q0 o xB)).trans cV
 clear h1 h3 h4 hX hl xB cV;have xD:B0+1<=w.heap.size+1+1:=by omega
 have xA:=fun(o1 o2:Obj)=>(h2.alloc o1).alloc o2
 clear h2
 go_enter func162,ntmps162
 go_wp2_with (at_builtin;refine QP _ rfl _ _ rfl (B0+1) v (zl acc) rfl (xA _ _) (.slice (some ⟨w.heap.size+1,0,none⟩) 1 1) [((h:Int),q)] rfl ?c1 ?c2 ?c3 ?_)
 case c1=>have:=YU (w.alloc (.cells #[.int .i64 (h:Int),.int .u64 (q:Int)] 83)) h q 83;rw[LA] at this;exact this
 case c2=>have:=HH.out.2.2.2.2.2;simp[QC];omega
 case c3=>simp;omega
 intro v' w1 r1 r2 r3;obtain⟨ao,n1,xE,rfl⟩:=Qj r1;have R:=QeS HH.out.1 HH.out.2.1 HH.out.2.2.1 HH.out.2.2.2.1 HH.out.2.2.2.2.1 r1 r2 r3;have c1:w1.heap[B0]? = some (.cells #[v] 77 (0,0)):=by
  rw[r2.block B0 (by simp;omega) (fun e=>by have:=(HH.out.2.1.lt B0 e.symm).1;omega),Q0 _ (by simp;omega),Q0 _ (by omega)];exact HH.out.1
 have cW:=cell_of_one c1;have fW:=free_of_one c1;clear r1 r2 r3 c1 xC;go_wp2
 go_end0
 exact⟨rfl,R⟩
theorem QhP(B0:Nat):Give 160 B0 1000000 (IA B0):=by
 refine⟨fun X acc h q w hI hX hl => ?_,QgR B0,QmK B0⟩
 obtain⟨⟨v,h1,h2,h3⟩,h4⟩:=hI;have xB:B0<w.heap.size:=(Array.getElem?_eq_some_iff.1 h1).1
 have cV:=cell_of_one h1;have HH:Hid (w.heap[B0]? = some (.cells #[v] 77 (0,0))∧Qx w (B0+1) v (zl acc)∧(∀g,v.ownBlock=some g -> ¬X g) ∧ ¬X B0∧(∀x,X x->x<w.heap.size)∧acc.length<1000000):=⟨h1,h2,h3,h4,hX,hl⟩;have xG : ¬B0=w.heap.size:=by omega
 have xF:B0+1<=w.heap.size:=xB;have xC : ∀o:Obj,(w.alloc o).cell? ⟨B0,0,none⟩=some v:=fun o=>(LC (Q0 o xB)).trans cV
 clear h1 h3 h4 hX hl xB cV;have xD:B0+1<=w.heap.size+1+1:=by omega
 have xA:=fun(o1 o2:Obj)=>(h2.alloc o1).alloc o2
 clear h2
 go_enter func160,ntmps160
 go_wp2_with (at_builtin;refine QP _ rfl _ _ rfl (B0+1) v (zl acc) rfl (xA _ _) (.slice (some ⟨w.heap.size+1,0,none⟩) 1 1) [((h:Int),q)] rfl ?c1 ?c2 ?c3 ?_)
 case c1=>have:=YU (w.alloc (.cells #[.int .i64 (h:Int),.int .u64 (q:Int)] 83)) h q 83;rw[LA] at this;exact this
 case c2=>have:=HH.out.2.2.2.2.2;simp[QC];omega
 case c3=>simp;omega
 intro v' w1 r1 r2 r3;obtain⟨ao,n1,xE,rfl⟩:=Qj r1;have R:=QeS HH.out.1 HH.out.2.1 HH.out.2.2.1 HH.out.2.2.2.1 HH.out.2.2.2.2.1 r1 r2 r3;have c1:w1.heap[B0]? = some (.cells #[v] 77 (0,0)):=by
  rw[r2.block B0 (by simp;omega) (fun e=>by have:=(HH.out.2.1.lt B0 e.symm).1;omega),Q0 _ (by simp;omega),Q0 _ (by omega)];exact HH.out.1
 have cW:=cell_of_one c1;have fW:=free_of_one c1;clear r1 r2 r3 c1 xC;go_wp2
 go_end0
 exact⟨rfl,R⟩
structure IC(B0:Nat)(X:Nat->Prop)(acc:List (Nat×Nat))(w:World):Prop where
 at0:w.heap[B0]? = some (.cells #[.int .u64 (acc.length:Int)] 28 (0,0))
 nx : ¬X B0
theorem QfT(B0:Nat):Give 183 B0 4611686018427387904 (IC B0):=by
 refine⟨fun X acc h q w hI hX hl => ?_,fun X X' acc w w' hI hb hx => ?_,fun X acc w hI=>(Array.getElem?_eq_some_iff.1 hI.at0).1⟩
 ·obtain⟨h1,h4⟩:=hI;have xA:B0<w.heap.size:=(Array.getElem?_eq_some_iff.1 h1).1
  have cV:=cell_of_one h1;have fV:=free_of_one h1;have xF : ∀o:Obj,(w.alloc o).cell? ⟨B0,0,none⟩=some (.int .u64 (acc.length:Int)):=fun o=>(LC (Q0 o xA)).trans cV
  have xG : ∀o:Obj,(w.alloc o).frozen? ⟨B0,0,none⟩=false:=fun o=>(IP (Q0 o xA)).trans fV
  have HH:Hid (w.heap[B0]? = some (.cells #[.int .u64 (acc.length:Int)] 28 (0,0)) ∧ ¬X B0∧(∀x,X x->x<w.heap.size)∧B0<w.heap.size):=⟨h1,h4,hX,xA⟩;have e1:IntKind.u64.wrap ((acc.length:Int)+1)=((acc.length+1:Nat):Int):=by rw[IntKind.wrap_u64];omega
  have xC : ¬B0=w.heap.size:=by omega
  clear h1 h4 hX xA cV fV hl
  go_enter func183,ntmps183;go_wp2
  go_end0
  obtain⟨h1,h4,hX,xA⟩:=HH.out;refine⟨rfl,?_⟩
  have e2:((acc.length:Int)+1)=((acc.length+1:Nat):Int):=by omega
  have xD : ∀o:Obj,(w.alloc o).heap[B0]? = some (.cells #[.int .u64 (acc.length:Int)] 28 (0,0)):=fun o=>(Q0 o xA).trans h1
  have xE : ∀o:Obj,((w.alloc o).setCell ⟨B0,0,none⟩ (.int .u64 ((acc.length:Int)+1))).heap[B0]? = some (.cells #[.int .u64 ((acc.length+1:Nat):Int)] 28 (0,0)):=fun o=>by
   rw[e2];exact one_setCell (xD o)
  have xB : ∀(o:Obj) b,b<w.heap.size->b≠B0->((w.alloc o).setCell ⟨B0,0,none⟩ (.int .u64 ((acc.length:Int)+1))).heap[b]? = w.heap[b]? := fun o b hb xC=>by
   rw[Below.heap_setCell _ _ _ _ xC];exact Q0 o hb
  refine⟨⟨?_,h4⟩,?_,fun x hx=>xB _ x (hX x hx) (fun e=>h4 (e ▸ hx))⟩
  ·rw[Lg];exact xE _
  ·exact((Lb B0 w).alloc (by omega) _).setCell (Ld B0) _
 ·have xA:=(Array.getElem?_eq_some_iff.1 hI.at0).1
  refine⟨(hb B0 xA hI.nx).trans hI.at0,fun hx0 => ?_⟩
  rcases hx B0 hx0 with h|h
  ·exact hI.nx h
  ·omega
abbrev gv(k B0:Nat):Value := .func (.func k) #[] #[.pointer (some ⟨B0,0,none⟩)]
theorem Qac{k B0 M:Nat}(hk:k=162∨k=160∨k=183){I:(Nat->Prop)->List (Nat×Nat)->World->Prop}(G:Give k B0 M I)(c:Nat)(X:Nat->Prop)(acc:List (Nat×Nat))(h lo:Nat)(w:World)
  (hI:I X acc w) (hX : ∀x,X x->x<w.heap.size) (hl:acc.length<M) (x0:X c) (x1:X (c+1)) (hc:B0<c)
  (c0:w.heap[c]? = some (.cells #[.int .u64 (lo:Int)] 28 (0,0))) (c1:w.heap[c+1]? = some (.cells #[gv k B0] 198 (0,0))) (hh:h<41) (hlo:lo<=2^40) :
  Calls prog 181 #[.int .i64 (h:Int),.pointer (some ⟨c+1,0,none⟩),.pointer (some ⟨c,0,none⟩)] w fun e w'=>e = .returned (.tuple #[])∧I X (acc++[(h,lo / pw h)]) w'∧Below B0 w w' ∧
   w'.heap[c]? = some (.cells #[.int .u64 ((lo+pw h:Nat):Int)] 28 (0,0)) ∧ ∀x,X x->x≠c->w'.heap[x]? = w.heap[x]? := by
 have d0:=cell_of_one c0;have d1:=cell_of_one c1;obtain⟨q,hq⟩:=Ze (lo / pw h);have eq:(lo:Int) / 2^h=(q:Int):=by rw[<-hq];simp[pw]
 have HG:Calls prog k #[.agg #[.int .i64 (h:Int),.int .u64 (q:Int)],.pointer (some ⟨B0,0,none⟩)] w.drew fun e w'=>e = .returned (.tuple #[])∧I X (acc++[(h,q)]) w'∧Below B0 w w' ∧ ∀x,X x->w'.heap[x]? = w.heap[x]? :=
  (G.give X acc h q w.drew (G.stay X X acc w w.drew hI (fun _ _ _=>rfl) (fun x hx => .inl hx)) hX hl).mono fun e w' r=>⟨r.1,r.2.1,⟨r.2.2.1.os,r.2.2.1.tape,r.2.2.1.output,r.2.2.1.size,r.2.2.1.block⟩,r.2.2.2⟩
 have HL:=fun w'=>Qb2 h w' (by omega)
 have hp:pw h<=pw 40:=JP (by omega)
 have xG:pw 40=2^40:=rfl;rw[hq];obtain⟨p,xC⟩:=Ze (pw h);rw[xC] at hp ⊢;simp only[xC] at HL;have es:IntKind.u64.wrap ((lo:Int)+(p:Int))=((lo+p:Nat):Int):=by rw[IntKind.wrap_u64];omega
 have xH:(0:Int)<=(h:Int):=Lf _;have xI:(h:Int)<64:=by omega
 have xJ : ¬(h:Int)<0:=by omega
 have HH:Hid (I X acc w∧(∀x,X x->x<w.heap.size)∧X c∧X (c+1)∧B0<c∧w.heap[c]? = some (.cells #[.int .u64 (lo:Int)] 28 (0,0))):=⟨hI,hX,x0,x1,hc,c0⟩;clear hI hX hl x0 x1 hc c0 c1 hh hlo hq hp xG xC
 rcases hk with rfl|rfl|rfl
 all_goals
  go_enter func181,ntmps181;go_wp2
  go_region_with (with_reducible refine HG.mono ?_;rintro e w1 ⟨rfl,xE,xF,xD⟩)
  all_goals
   have xB:w1.heap[c]? = some (.cells #[.int .u64 (lo:Int)] 28 (0,0)):=(xD c HH.out.2.2.1).trans HH.out.2.2.2.2.2;have k0:=cell_of_one xB;have k1:=free_of_one xB;have R : ∀W:World,W.heap=(w1.setCell ⟨c,0,none⟩ (.int .u64 ((lo+p:Nat):Int))).heap->Below B0 w W->I X (acc++[(h,q)]) W∧Below B0 w W ∧
     W.heap[c]? = some (.cells #[.int .u64 ((lo+p:Nat):Int)] 28 (0,0)) ∧ ∀x,X x->x≠c->W.heap[x]? = w.heap[x]? := fun W hW hbW=>by
    refine⟨G.stay X X _ w1 W xE (fun b hb hnx => ?_) (fun x hx => .inl hx),hbW,?_,fun x hx hne => ?_⟩
    ·rw[hW];exact Below.heap_setCell _ _ _ _ (fun e=>hnx (e ▸ HH.out.2.2.1))
    ·rw[hW];exact one_setCell xB
    ·rw[hW];exact(Below.heap_setCell _ _ _ _ hne).trans (xD x hx)
   have xA:Below B0 w (w1.setCell ⟨c,0,none⟩ (.int .u64 ((lo+p:Nat):Int))):=xF.setCell (Nat.le_of_lt HH.out.2.2.2.2.1) _;clear xB xE xF xD d0 d1 HG;go_wp2
   go_region_with (go_at_call 182;with_reducible refine(HL _).mono ?_;rintro e w2 ⟨rfl,rfl⟩)
   all_goals
    go_wp2
    go_end0
    exact⟨rfl,R _ rfl ⟨xA.os,xA.tape,xA.output,xA.size,xA.block⟩⟩
end Cv
end Go.Proofs.YtdocjikpcbmcgaaGreatDoor
