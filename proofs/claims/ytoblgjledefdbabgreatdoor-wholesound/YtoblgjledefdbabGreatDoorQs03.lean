/- Own work. -/
import Derived.Test.YtoblgjledefdbabGreatDoorQs02
set_option maxRecDepth 100000
namespace Go.Proofs.YtoblgjledefdbabGreatDoor
open Go.RowKit
attribute [local go_sem ↓] Go.wp_at_zero Go.wp_at_succ
open Go.Proofs.Tryz
namespace Pl
theorem Qfh(n k:Nat)(hn:n<2^64):(bits BinOp.and IntKind.u64 ((n:Int)/2^k) 1 == 1)=decide (n/2^k%2=1):=by
 have e:((n:Int)/2^k)=((n/2^k:Nat):Int):=by simp
 rw[e];have hm:n/2^k<18446744073709551616:=Ib (NI _ _) hn
 revert hm
 generalize n/2^k=m;intro hm;have:=bits_and_u64_nat m 1 hm (by decide)
 rw[show(1:Int)=((1:Nat):Int) from rfl,this,IN]
 by_cases h:m%2=1
 ·simp[h]
 ·have:m%2=0:=by omega
  simp[this]
theorem YM(n k:Nat)(w:World)(hn:n<2^64)(hk:k<64) :
  Calls prog 191 #[.int .u64 n,.int .i64 k] w fun e w'=>e= .returned (.bool (decide (n/2^k%2=1)))∧w'=w:=by
 have hk0:(0:Int)<=(k:Int):=Lf _
 go_enter func191,ntmps191;go_wp2
 go_ret
 refine⟨?_,rfl⟩
 rw[<-Qfh n k hn]
 rfl
theorem JE(n:Nat)(w:World)(hn:n<2^64) :
  Calls prog 120 #[.int .u64 n] w fun e w'=>e= .returned (.int .i64 (Qy 64 n:Nat))∧w'=w:=by
 go_enter func120,ntmps120;go_wp2
 go_loopg [3,5] 64 (fun g c i wr=> ∃k m:Nat,k<=64∧g=64-k∧i= .int .i64 k∧c= .int .i64 m∧m<=k∧m+Qy (64-k) (n/2^k)=Qy 64 n∧w=wr)
 case atStart=>go_light;exact⟨0,0,Lm _,rfl,rfl,rfl,Lm _,by simp,rfl⟩
 case round=>
  obtain⟨k,m,hk,rfl,rfl,rfl,hm,hs,rfl⟩:=hrel;have hk0:(0:Int)<=(k:Int):=Lf _;have hm0:(0:Int)<=(m:Int):=Lf _;have hm1:(m:Int)<=64:=by omega
  by_cases hlt:k<64
  ·have hk8:(k:Int)<64:=by omega
   have HS:=Qam k n hlt;have HC:=YM n k w hn hlt
   by_cases hb:n/2^k%2=1
   ·rw[LS hb] at HC
    go_wp2_with (go_at_call 191;refine HC.mono ?_;rintro e w' ⟨rfl,rfl⟩)
    go_roundg (64-(k+1))
    case rel=>go_light;exact⟨k+1,m+1,by omega,rfl,by go_num,by go_num,by omega,by omega,rfl⟩
    case measure=>go_light;omega
   ·rw[LC hb] at HC
    go_wp2_with (go_at_call 191;refine HC.mono ?_;rintro e w' ⟨rfl,rfl⟩)
    go_roundg (64-(k+1))
    case rel=>go_light;exact⟨k+1,m,by omega,rfl,by go_num,rfl,by omega,by omega,rfl⟩
    case measure=>go_light;omega
  ·obtain rfl:k=64:=by omega
   clear hk hlt;go_wp2
   go_ret
   refine⟨?_,rfl⟩
   rw[<-hs]
   rfl
end Pl
namespace Kp
open Pl (Qy)
theorem J4(n:Nat)(w:World)(hn:n<2^64)(t:Nat)(ht:tr 64 n=t) :
  Calls prog 194 #[.int .u64 n] w fun e w'=>e= .returned (.int .i64 t)∧w'=w:=by
 subst ht
 go_enter func194,ntmps194;go_wp2
 go_loopg [4] 64 (fun g i wr=> ∃k:Nat,k<=64∧g=64-k∧i= .int .i64 k∧k+tr (64-k) (n/2^k)=tr 64 n∧w=wr)
 case atStart=>go_light;exact⟨0,Lm _,rfl,rfl,by simp,rfl⟩
 case round=>
  obtain⟨k,hk,rfl,rfl,hs,rfl⟩:=hrel;have hk0:(0:Int)<=(k:Int):=Lf _
  by_cases hlt:k<64
  ·have hk8:(k:Int)<64:=by omega
   have HC:=Pl.YM n k w hn hlt;have HS:=Qhf k n hlt
   by_cases hb:n/2^k%2=1
   ·rw[Lo hb] at HS;rw[LS hb] at HC
    go_wp2_with (go_at_call 191;refine HC.mono ?_;rintro e w' ⟨rfl,rfl⟩)
    go_ret
    refine⟨?_,rfl⟩
    rw[<-hs,HS]
    rfl
   ·rw[Le hb] at HS;rw[LC hb] at HC
    go_wp2_with (go_at_call 191;refine HC.mono ?_;rintro e w' ⟨rfl,rfl⟩)
    go_roundg (64-(k+1))
    case rel=>go_light;exact⟨k+1,by omega,rfl,by go_num,by omega,rfl⟩
    case measure=>go_light;omega
  ·obtain rfl:k=64:=by omega
   clear hk hlt;go_wp2
   go_ret
   refine⟨?_,rfl⟩
   rw[<-hs]
   rfl
theorem QmN(h:Nat)(w:World)(hh:h<64)(p:Nat)(hp:2^h=p) :
  Calls prog 245 #[.int .i64 h] w fun e w'=>e= .returned (.tuple #[.int .u64 p,.bool true])∧w'=w:=by
 have hk0:(0:Int)<=(h:Int):=Lf _;have hk1:(h:Int)<64:=by omega
 have e1:IntKind.u64.wrap ((2:Int)^h)=(p:Int):=by
  have:=Nat.pow_lt_pow_right (a:=2) (by decide) hh
  have e:((2:Int)^h)=(p:Int):=by rw[<-hp];simp
  rw[hp] at this;rw[e,IntKind.wrap_u64];omega
 clear hp
 go_enter func245,ntmps245;go_wp2
 go_ret2
 exact⟨rfl,rfl⟩
theorem Qcq(h:Nat)(w:World)(hh:h<=40)(p:Nat)(hp:2^h=p) :
  Calls prog 228 #[.int .i64 h] w fun e w'=>e= .returned (.int .u64 p)∧w'=w:=by
 have HP:=QmN h w (by omega) p hp
 clear hp
 go_enter func228,ntmps228
 go_wp2_with (go_at_call 245;refine HP.mono ?_;rintro e w' ⟨rfl,rfl⟩)
 go_ret
 exact⟨rfl,rfl⟩
theorem Qh0(w:World):Qg (w.alloc (.cells #[] 9)) w.heap.size (.slice (Zp w.heap.size) 0 0) [] :=
 ⟨rfl,.inr ⟨w.heap.size,0,#[],rfl,Lb _,Lr w _,Lb _,Lm _,rfl,rfl⟩⟩
theorem Qdv(w:World)(s:BA):Qg (w.alloc (.cells #[.string s] 9)) w.heap.size (.slice (Zp w.heap.size) 1 1) [s] :=
 ⟨rfl,.inr ⟨w.heap.size,1,#[.string s],rfl,Lb _,Lr w _,Lb _,by unfold maxLen;omega,rfl,rfl⟩⟩
theorem QN{w:World}{B B':Nat}{v:Value}{l:LB}(h:Qg w B v l)(hB:B'<=B):Qg w B' v l:=by
 obtain⟨h1,h2⟩:=h;refine⟨h1,?_⟩
 rcases h2 with h2|⟨g,cap,cur,hv,hg,h3⟩
 ·exact .inl h2
 ·exact .inr ⟨g,cap,cur,hv,by omega,h3⟩
theorem Qch(w:World)(ao:OA)(b off cap:Nat)(P:LB)(hr:RdS w ao b off P.length P)(hn:ao=none->cap=0)(hmx:P.length<=8796093022208) :
  Calls prog 121 #[.slice ao P.length cap] w fun e w'=> ∃v,e= .returned v∧Qg w' w.heap.size v P∧Below w.heap.size w w':=by
 have qT:∀(w:World) (a:OA) (n c n' c':Nat),(binOp .eql 22 (.slice a n c) (.slice none n' c')).run prog w= .ok (.bool a.isNone) w:=fun w a n c n' c'=>Lib.run_eql_slice_nil w _ _ a n c n' c' underlying22
 cases ao with
 | none=>
  obtain rfl:=hn rfl;have hP:P=[]:=by
   cases P with
   | nil=>rfl
   | cons m r=>exact absurd (hr.ptr (by simp)) (by simp)
  subst hP;clear hr hmx hn
  go_enter func121,ntmps121;go_wp2
  go_ret
  exact⟨_,rfl,Uc w _,Lc _ _⟩
 | some ad=>
  have HR:Hid (∀o,RdS (w.alloc o) (some ad) b off P.length P):=fun o=>hr.next (bal (Lc _ _) o) (Lb _)
  have HM:=Qc hmx;clear hr hn hmx
  go_enter func121,ntmps121
  go_wp2_with (at_builtin;refine QM _ rfl _ _ rfl w.heap.size _ [] rfl (Qh0 w) (some ad) b off cap P rfl (HR.out _) (fun h=>by cases h) ?c1 ?c2 ?_)
  case c1=>have:=HM.out;simp;omega
  case c2=>simp
  intro v1 w1 h1 hb1;have HX:Hid (Qg w1 w.heap.size v1 P∧Below w.heap.size w w1):=⟨by simpa using h1,(bal (Lc _ _) _).trans hb1⟩
  clear h1 hb1;go_wp2
  go_ret
  exact⟨_,rfl,HX.out.1,HX.out.2⟩
theorem QiU(w:World)(ao:OA)(len cap:Nat)(hc:len<=cap) :
  Calls prog 229 #[.slice ao len cap] w fun e w'=>e= .returned (.slice ao len len)∧w'=w:=by
 have hc':(len:Int)<=(cap:Int):=by omega
 clear hc
 go_enter func229,ntmps229;go_wp2
 go_ret
 exact⟨rfl,rfl⟩
theorem On(w:World){ops:Array Oper}{rest:List Oper}{o:Oper}{a:Act}{Q:Exit->Act->World->Prop}
  (hg:o.guard=none) (s x:Operand) (hop:o.op=Op.call { callee:=Callee.builtin Builtin.append,args:=#[s,x],argTypes:=#[22,22] })
  (ao:OA) (b:Nat) (P:LB) (hs:a.eval s= .slice ao P.length P.length) (hr:RdS w ao b 0 P.length P) (ad:Addr) (d:BA) (hx:a.eval x= .slice (some ad) 1 1) (hc:w.cell? ad=some (.string d))
  (hlen:P.length<=1000)
  (hK:∀v' w',Qg w' w.heap.size v' (P++[d])->Below w.heap.size w w'->wpList prog ops Q rest (a.put o.dst v') w'):wpList prog ops Q (o::rest) a w:=by
 obtain⟨i0,hi,hz0,hz1,hz2⟩:=info_parts Tryz.infoS;have hnews:∀j u,[Value.string d][j]? = some u->w.cell? (ad.add j)=some u:=by
  intro j u hj
  match j,hj with
  | 0,hj=>simp at hj;subst hj;simpa [Addr.add] using hc
 refine wpList_append_grows w hg s x _ hop 9 i0 (.string ByteArray.empty) 1 16 underlying22 hi hz0 hz1 hz2 rfl (by decide) ao P.length P.length (P.map Value.string) hs (fun h=> ?_) (by simp) (fun ad' h j u hu=> ?_) ad 1 1 [.string d] hx rfl hnews (by intro u hu;simp at hu;subst hu;rfl) (by omega) (by unfold maxLen;omega) (by omega) ?_
 ·by_cases h0:0<P.length
  ·have:=hr.ptr h0;rw[h] at this;cases this
  ·omega
 ·have hj:j<P.length:=by have:=(List.getElem?_eq_some_iff.1 hu).1;rwa [LI] at this
  have e:=hr.ptr (by omega)
  rw[h] at e
  cases e;rw[Addr.add_mid];exact hr.rng j u hu
 ·intro v' w' h1 h2;refine hK v' w' ?_ ((Lc _ _).grown h2 (Lb _) (fun k hk=>by cases hk))
  rw[Qg,Lh,Nd];exact h1
structure Rg(w:World)(p:Nat)(v:Value)(k:Int)(n:Nat)(P:LB):Prop where
 blk:w.heap[p]? = some (.cells #[.int .i64 k,.int .u64 n,v] 203 (0,0))
 own:Qg w 0 v P
 k1:1<=k
 k2:k<=32
 hn:n<=1099511627776
 hl:P.length=(hts n).length
 hs:∀s∈P,s.size=clk k
section
variable {w W:World} {p q:Nat} {v u:Value} {k k':Int} {n n':Nat} {P P':LB}
theorem Rg.lt(h:Rg w p v k n P):p<w.heap.size:=(Array.getElem?_eq_some_iff.1 h.blk).1
theorem Rg.c0(h:Rg w p v k n P):w.cell? ⟨p,0,none⟩=some (.int .i64 k):=by rw[cell_of_row w p 0 _ _ (0,0) h.blk];rfl
theorem Rg.c1(h:Rg w p v k n P):w.cell? ⟨p,1,none⟩=some (.int .u64 n):=by rw[cell_of_row w p 1 _ _ (0,0) h.blk];rfl
theorem Rg.c2(h:Rg w p v k n P):w.cell? ⟨p,2,none⟩=some v:=by rw[cell_of_row w p 2 _ _ (0,0) h.blk];rfl
theorem Rg.fz(h:Rg w p v k n P)(j:Nat):w.frozen? ⟨p,j,none⟩=false:=frozen_of_row w p j _ _ h.blk
theorem Rg.short(h:Rg w p v k n P):P.length<=41:=by rw[h.hl];exact Qjx n
theorem Rg.small(h:Rg w p v k n P):∀s∈P,s.size<=140737488351232:=fun s hs=>by rw[h.hs s hs];have:=Qn k;omega
theorem Rg.next{B:Nat}(h:Rg w p v k n P)(hb:Below B w W)(hB:w.heap.size<=B):Rg W p v k n P :=
 ⟨by rw[hb.block p (LL h.lt hB)];exact h.blk,Qv h.own hb hB,h.k1,h.k2,h.hn,h.hl,h.hs⟩
theorem Rg.rd(h:Rg w p v k n P):∃ao b cap,v= .slice ao P.length cap∧RdS w ao b 0 P.length P∧P.length<=cap∧(ao=none->cap=0) :=
 QJ h.own (fun s hs=>Lt (h.small s hs) (by decide))
end
structure Ch(p:Nat)(w w':World):Prop where
 below:Below p w w'
 block:∀q,q<w.heap.size->q≠p->w'.heap[q]? = w.heap[q]?
theorem Ch.of{p:Nat}{w w':World}(h:Below w.heap.size w w')(hp:p<w.heap.size):Ch p w w':=⟨h.mono (I8 hp),fun q hq _=>h.block q hq⟩
theorem Ch.set{p:Nat}{w w':World}(h:Ch p w w')(i:Nat)(v:Value):Ch p w (w'.setCell ⟨p,i,none⟩ v):=by
 refine⟨h.below.setCell (p:=⟨p,i,none⟩) (Lb _) v,fun q hq hne=> ?_⟩
 rw[<-h.block q hq hne];exact Below.heap_setCell _ _ _ _ hne
end Kp
def nd(c:Nat)(L:LB):Nat->Nat->BA
 | 0,i=>dg c (Qw (L.getD i ByteArray.empty))
 | h+1,i=>dg c (Qz (nd c L h (2*i)) (nd c L h (2*i+1)))
theorem QG{c:Nat}(hc:c<=32)(L:LB)(h i:Nat):(nd c L h i).size=c:=by
 cases h with
 | zero=>rw[nd,Q3 hc]
 | succ h=>rw[nd,Q3 hc]
theorem JD{c:Nat}{L M:LB} : ∀(h i j:Nat),(∀t,t<2^h->L.getD (i*2^h+t) ByteArray.empty=M.getD (j*2^h+t) ByteArray.empty)->nd c L h i=nd c M h j
 | 0,i,j,e=>by
  have:=e 0 (by decide)
  simp only[Nat.pow_zero,Nat.mul_one,Nat.add_zero] at this;rw[nd,nd,this]
 | h+1,i,j,e=>by
  have p:2^(h+1)=2*2^h:=by rw[LO];omega
  rw[nd,nd,JD h (2*i) (2*j),JD h (2*i+1) (2*j+1)]
  ·intro t ht;have:=e (2^h+t) (by omega)
   rw[p] at this;rw[show(2*i+1)*2^h+t=i*(2*2^h)+(2^h+t) by rw[L4,L5,N4];omega,show(2*j+1)*2^h+t=j*(2*2^h)+(2^h+t) by rw[L4,L5,N4];omega]
   exact this
  ·intro t ht;have:=e t (by omega)
   rw[p] at this;rw[show 2*i*2^h+t=i*(2*2^h)+t by rw[L5,N4],show 2*j*2^h+t=j*(2*2^h)+t by rw[L5,N4]]
   exact this
theorem Qjw(L:LB)(a n t:Nat)(h:t<n):((L.drop a).take n).getD t ByteArray.empty=L.getD (a+t) ByteArray.empty:=by
 rw[La,La,Ig h,Nx]
theorem QoJ(c:Nat)(L:LB)(h i:Nat):nd c ((L.drop (i*2^h)).take (2^h)) h 0=nd c L h i :=
 JD h 0 i fun t ht=>by rw[Nat.zero_mul,Lp,Qjw _ _ _ _ ht]
def pks(c:Nat)(L:LB):Nat->LB
 | 0=>[]
 | h+1=>(if L.length/2^h%2=1 then [nd c L h (L.length/2^h-1)] else [])++pks c L h
theorem QaT{c:Nat}{L:LB}{h:Nat}(e:L.length/2^h%2=1):pks c L (h+1)=nd c L h (L.length/2^h-1)::pks c L h:=by rw[pks,Lo e];rfl
theorem OR{c:Nat}{L:LB}{h:Nat}(e:L.length/2^h%2≠1):pks c L (h+1)=pks c L h:=by rw[pks,Le e];rfl
theorem OQ(c:Nat)(L:LB):∀h,(pks c L h).length<=h
 | 0=>Lb _
 | h+1=>by
  have:=OQ c L h
  by_cases e:L.length/2^h%2=1
  ·rw[QaT e,LJ];omega
  ·rw[OR e];omega
theorem QbN{c:Nat}(hc:c<=32)(L:LB):∀h,∀s∈pks c L h,s.size=c
 | 0=>by intro s hs;cases hs
 | h+1=>by
  intro s hs;have:=QbN hc L h
  by_cases e:L.length/2^h%2=1
  ·rw[QaT e] at hs
   rcases List.mem_cons.1 hs with rfl|hs
   ·exact QG hc _ _ _
   ·exact this s hs
  ·rw[OR e] at hs;exact this s hs
theorem Qho{n h:Nat}(e:n<2^h):n/2^h%2≠1:=by rw[IE e];decide
theorem Qgs{n g s:Nat}(h:s<g):n%2^g/2^s%2=n/2^s%2:=by
 obtain⟨d,rfl⟩:∃d,g=s+(d+1):=⟨g-s-1,by omega⟩
 rw[If,Nat.mod_mul_right_div_self,LO,L3,Nat.mod_mul_right_mod]
theorem Qhe{n g s:Nat}(h1:2^s<=n%2^g)(h2:n%2^g<2^(s+1)):s<g∧n/2^s%2=1∧n%2^g=n%2^(s+1)∧n%2^(s+1)=2^s+n%2^s:=by
 have hsg:s<g:=by
  apply Nat.lt_of_not_le
  intro hle;have:=Ng (n:=2) (by decide) hle
  have:=ID n (LM g);omega
 have e1:n%2^g=n%2^(s+1):=by
  have:=Nat.mod_mod_of_dvd n (Wv 2 (show s+1<=g by omega))
  rw[<-this,NJ h2]
 rw[e1] at h1 h2;have e2:n/2^s%2=1:=by
  rw[<-Qgs (show s<s+1 by omega)]
  have:n%2^(s+1)/2^s=1:=by
   have hp:2^(s+1)=2^s*2:=LO ..;rw[WA (LM s)];generalize n%2^(s+1)=m at *;omega
  rw[this]
 refine⟨hsg,e2,e1,?_⟩
 rw[LO,Ik,e2];omega
theorem QeB{n s:Nat}(e:n/2^s%2=1):(n/2^s-1)*2^s=n-n%2^(s+1)∧1<=n/2^s:=by
 have h1:1<=n/2^s:=by
  generalize n/2^s=x at *;omega
 refine⟨?_,h1⟩
 have:=Iq n (2^s);rw[LO,Ik,e,Nat.sub_mul,L3 (n/2^s)];omega
theorem Qld{n h k:Nat} : k<n/2^h↔(k+1)*2^h<=n:=by
 rw[Nat.lt_iff_add_one_le,Nat.le_div_iff_mul_le (LM h)]
def Y2(c:Nat)(L:LB)(h m:Nat):LB:=(List.range m).map (nd c L h)
theorem Ys(c:Nat)(L:LB)(h m:Nat):(Y2 c L h m).length=m:=by simp[Y2]
theorem QdG(c:Nat)(L:LB)(h m:Nat){j:Nat}(hj:j<m):(Y2 c L h m).getD j ByteArray.empty=nd c L h j:=by
 simp[Y2,List.getD_eq_getElem?_getD,hj]
theorem QcF(c:Nat)(L:LB)(h m:Nat):Y2 c L h m++[nd c L h m]=Y2 c L h (m+1):=by
 simp[Y2,List.range_succ]
namespace Cv
open Pl
def dnL:Nat->Nat->Nat->List (Nat×Nat)
 | 0,_,_=>[]
 | h+1,lo,hi=>if pw h<=hi-lo then (h,lo/pw h)::dnL h (lo+pw h) hi else dnL h lo hi
def upL:Nat->Nat->Nat->Nat->List (Nat×Nat)
 | 0,_,_,_=>[]
 | f+1,h,lo,hi=>if pw h<=hi-lo then (if lo/pw h%2=1 then (h,lo/pw h)::upL f (h+1) (lo+pw h) hi else upL f (h+1) lo hi) else dnL (h+1) lo hi
def cov(lo hi:Nat):List (Nat×Nat):=upL 42 0 lo hi
def rst:Nat->Nat->List Nat->List (Nat×Nat)
 | x,n,[]=>cov x n
 | x,n,i::S=>cov x i++rst (i+1) n S
def All(A:Nat->Prop)(h k:Nat):Prop := ∀i,k*pw h<=i->i<(k+1)*pw h->A i
def Til(A:Nat->Prop)(q:Nat):Nat->List (Nat×Nat)->Prop
 | p,[]=>p<=q ∧ ∀i,p<=i->i<q -> ¬A i
 | p,b::L=>p<=b.2*pw b.1∧(b.2+1)*pw b.1<=q∧(∀i,p<=i->i<b.2*pw b.1 -> ¬A i)∧All A b.1 b.2 ∧ ¬All A (b.1+1) (b.2/2)∧Til A q ((b.2+1)*pw b.1) L
theorem Yx(h k:Nat):k*pw h<(k+1)*pw h:=by
 have:=QA h;rw[L4,Na];omega
theorem Qbt(A:Nat->Prop)(h k h' k':Nat)(he:k*pw h=k' * pw h')(hl:h<h')(ha:All A h' k'):All A (h+1) (k/2):=by
 obtain⟨d,rfl⟩:∃d,h'=h+1+d:=⟨h'-(h+1),by omega⟩
 have e1:pw (h+1+d)=2*pw d*pw h:=by rw[Qao,QE,L3 (2*pw h),<-L5,L3 (pw d)]
 have hp:=QA h;have hd:=QA d;have hk:k=k' * (2*pw d):=by
  rw[e1,<-L5] at he;exact We hp he
 have hk2:k/2=k' * pw d:=by
  rw[hk,show k' * (2*pw d)=k' * pw d*2 by rw[L3 2,L5]]
  exact NO _ (by decide)
 intro i h1 h2;have e2:pw (h+1+d)=pw d*pw (h+1):=by rw[Qao,L3]
 refine ha i ?_ ?_
 ·rw[e2,<-L5,<-hk2];exact h1
 ·refine LL h2 ?_
  rw[e2,<-L5,hk2];refine LT _ ?_
  rw[L4];omega
theorem Qo8{A:Nat->Prop}{q p:Nat}{L:List (Nat×Nat)}(h:Til A q p L):p<=q:=by
 cases L with
 | nil=>exact h.1
 | cons b L=>have:=Yx b.1 b.2;have h1:=h.1;have h2:=h.2.1;omega
theorem Qnj{A:Nat->Prop}{q:Nat} : ∀ {L L':List (Nat×Nat)} {p:Nat},Til A q p L->Til A q p L'->L=L':=by
 intro L
 induction L with
 | nil=>
  intro L' p h h'
  cases L' with
  | nil=>rfl
  | cons b L'=>
   obtain⟨a1,a2,a3,a4,a5,a6⟩:=h';have:=Yx b.1 b.2;exact absurd (a4 _ (Lb _) this) (h.2 _ a1 (by omega))
 | cons c L ih=>
  intro L' p h h'
  cases L' with
  | nil=>
   obtain⟨a1,a2,a3,a4,a5,a6⟩:=h;have:=Yx c.1 c.2;exact absurd (a4 _ (Lb _) this) (h'.2 _ a1 (by omega))
  | cons b L'=>
   obtain⟨a1,a2,a3,a4,a5,a6⟩:=h;obtain⟨b1,b2,b3,b4,b5,b6⟩:=h';obtain⟨h,k⟩:=c;obtain⟨h',k'⟩:=b;simp only at *;have x1:=Yx h k;have x2:=Yx h' k';have he:k*pw h=k' * pw h':=by
    rcases Ie (k*pw h) (k' * pw h') with hh|hh|hh
    ·exact absurd (a4 _ (Lb _) x1) (b3 _ a1 hh)
    ·exact hh
    ·exact absurd (b4 _ (Lb _) x2) (a3 _ b1 hh)
   have hh:h=h':=by
    rcases Ie h h' with hh|hh|hh
    ·exact absurd (Qbt A h k h' k' he hh b4) a5
    ·exact hh
    ·exact absurd (Qbt A h' k' h k he.symm hh a4) b5
   subst hh;have hk:k=k':=We (QA h) he;subst hk;rw[ih a6 b6]
theorem Qg9{A:Nat->Prop}{q p p':Nat}{L:List (Nat×Nat)}(h:Til A q p' L)(hp:p<=p')(hn:∀i,p<=i->i<p' -> ¬A i):Til A q p L:=by
 cases L with
 | nil=>exact⟨Lt hp h.1,fun i h1 h2=>if hi:i<p' then hn i h1 hi else h.2 i (by omega) h2⟩
 | cons b L=>exact⟨Lt hp h.1,h.2.1,fun i h1 h2=>if hi:i<p' then hn i h1 hi else h.2.2.1 i (by omega) h2,h.2.2.2⟩
theorem QdR{A:Nat->Prop}{q m:Nat}{L':List (Nat×Nat)}(h':Til A q m L'):∀ {L:List (Nat×Nat)} {p:Nat},Til A m p L->Til A q p (L++L'):=by
 intro L
 induction L with
 | nil=>intro p h;exact Qg9 h' h.1 h.2
 | cons b L ih=>
  intro p h;have:=Qo8 h';exact⟨h.1,Lt h.2.1 this,h.2.2.1,h.2.2.2.1,h.2.2.2.2.1,ih h.2.2.2.2.2⟩
abbrev Rg(lo hi:Nat):Nat->Prop:=fun i=>lo<=i∧i<hi
theorem Q5(c h:Nat):c*pw (h+1)=2*c*pw h:=by rw[QE,<-L5,L3 c]
theorem Qok(lo0 hi:Nat):∀h lo,(∃c,lo=c*pw h)->hi-lo<pw h->lo0<=lo->lo<=hi->Til (Rg lo0 hi) hi lo (dnL h lo hi):=by
 intro h
 induction h with
 | zero=>
  intro lo _ h2 h3 h4;rw[Yw] at h2;exact⟨h4,fun i h5 h6 _=>by omega⟩
 | succ h ih=>
  intro lo h1 h2 h3 h4;obtain⟨c,hc⟩:=h1;have hp:=QA h;have hps:=QE h;rw[Q5] at hc;rw[dnL]
  split
  ·rename_i hfit
   have hk:lo/pw h=2*c:=by rw[hc];exact NO _ hp
   have e1:(2*c+1)*pw h=lo+pw h:=by rw[L4,Na,<-hc]
   have e2:2*c/2=c:=by omega
   have e3:c*pw (h+1)=lo:=by rw[Q5];exact hc.symm
   rw[hk];refine⟨by show lo<=2*c*pw h;omega,by show(2*c+1)*pw h<=hi;omega,fun i i1 i2=>by dsimp only at i2;omega,fun i i1 i2=> ?_,fun hall=> ?_,?_⟩
   ·dsimp only at i1 i2;exact⟨by omega,by omega⟩
   ·dsimp only at hall
    rw[e2] at hall;have:=hall hi (by omega) (by rw[L4,Na,e3];omega)
    exact absurd this.2 (NB _)
   ·dsimp only
    rw[e1];exact ih (lo+pw h) ⟨2*c+1,e1.symm⟩ (by omega) (by omega) (by omega)
  ·exact ih lo ⟨2*c,hc⟩ (by omega) h3 h4
theorem pw40{h:Nat}(hh:pw h<=2^40):h<=40:=by
 by_cases h1:h<=40
 ·exact h1
 ·have h2:pw 41<=pw h:=OS (by omega)
  have h3:pw 41=2^41:=rfl;omega
theorem JN{lo hi h:Nat}(hl:hi-lo<pw h):dnL (h+1) lo hi=dnL h lo hi:=by
 rw[dnL,Le (by omega)]
theorem Qpf(lo0 hi:Nat)(hhi:hi<=2^40):∀f h lo,f+h=42->h<=41->(∃c,lo=c*pw h)->lo0<=lo->lo<lo0+pw h->lo<=hi->Til (Rg lo0 hi) hi lo (upL f h lo hi):=by
 intro f
 induction f with
 | zero=>intro h lo h1 h2;omega
 | succ f ih=>
  intro h lo h1 h2 h3 h4 h5 h6;obtain⟨c,hc⟩:=h3;have hp:=QA h;have hps:=QE h;rw[upL]
  split
  ·rename_i hfit
   have hh:h<=40:=pw40 (by omega)
   have hk:lo/pw h=c:=by rw[hc];exact NO _ hp
   rw[hk];have e1:(c+1)*pw h=lo+pw h:=by rw[L4,Na,<-hc]
   split
   ·rename_i hodd
    have e2:c/2*pw (h+1)+pw h=lo:=by
     rw[Q5,hc];have:c=2*(c/2)+1:=by omega
     conv=>rhs;rw[this,L4,Na]
    have e3:(c+1)/2*pw (h+1)=lo+pw h:=by
     rw[Q5,<-e1];have:c+1=2*((c+1)/2):=by omega
     conv=>rhs;rw[this]
    refine⟨by show lo<=c*pw h;omega,by show(c+1)*pw h<=hi;omega,fun i i1 i2=>by dsimp only at i2;omega,fun i i1 i2=> ?_,fun hall=> ?_,?_⟩
    ·dsimp only at i1 i2;exact⟨by omega,by omega⟩
    ·dsimp only at hall
     have:=hall _ (Lb _) (Yx _ _);have:=this.1;omega
    ·dsimp only
     rw[e1];exact ih (h+1) (lo+pw h) (by omega) (by omega) ⟨_,e3.symm⟩ (by omega) (by omega) (by omega)
   ·rename_i hev
    refine ih (h+1) lo (by omega) (by omega) ⟨c/2,?_⟩ h4 (by omega) h6
    rw[Q5,hc];have:c=2*(c/2):=by omega
    conv=>lhs;rw[this]
  ·rename_i hno
   rw[JN (by omega)]
   exact Qok lo0 hi h lo ⟨c,hc⟩ (by omega) h4 h6
theorem QaI(lo hi:Nat)(h:lo<=hi)(hhi:hi<=2^40):Til (Rg lo hi) hi lo (cov lo hi) :=
 Qpf lo hi hhi 42 0 lo rfl (by decide) ⟨lo,by simp[pw]⟩ (Lb _) (by rw[Yw];omega) h
theorem Jv:∀h lo hi,(dnL h lo hi).length<=h:=by
 intro h
 induction h with
 | zero=>intro lo hi;exact Lb _
 | succ h ih=>
  intro lo hi;rw[dnL]
  split
  ·have:=ih (lo+pw h) hi;simp;omega
  ·have:=ih lo hi;omega
theorem Qpd(hi:Nat)(hhi:hi<=2^40):∀f h lo,f+h=42->h<=40->lo<=hi->(upL f h lo hi).length<=80-h:=by
 intro f
 induction f with
 | zero=>intro h lo h1 h2;omega
 | succ f ih=>
  intro h lo h1 h2 h3
  by_cases h40:h=40
  ·subst h40;obtain rfl:f=1:=by omega
   by_cases hfit:pw 40<=hi-lo
   ·have e:pw 40=2^40:=rfl;obtain rfl:lo=0:=by omega
    obtain rfl:hi=2^40:=by omega
    decide
   ·rw[upL,Le hfit,JN (by omega)]
    have:=Jv 40 lo hi;omega
  ·rw[upL]
   split
   ·split
    ·have:=ih (h+1) (lo+pw h) (by omega) (by omega) (by omega)
     simp;omega
    ·have:=ih (h+1) lo (by omega) (by omega) h3
     omega
   ·rw[JN (by omega)]
    have:=Jv h lo hi;omega
theorem QaG(lo hi:Nat)(h:lo<=hi)(hhi:hi<=2^40):(cov lo hi).length<=80:=Qpd hi hhi 42 0 lo rfl (by decide) h
theorem QlN{lo hi h:Nat}(hl:hi-lo<pw h):∀d,dnL (h+d) lo hi=dnL h lo hi:=by
 intro d
 induction d with
 | zero=>rfl
 | succ d ih=>
  have:pw h<=pw (h+d):=OS (by omega)
  rw[<-NR,JN (by omega),ih]
theorem Qns(n:Nat)(hn:n<=2^40):∀f h,f+h=42->h<=41->upL f h 0 n=dnL 41 0 n:=by
 intro f
 induction f with
 | zero=>intro h h1 h2;omega
 | succ f ih=>
  intro h h1 h2;rw[upL]
  split
  ·rename_i hfit
   have:=pw40 (h:=h) (by omega)
   rw[Nat.zero_div,Le (by decide)]
   exact ih (h+1) (by omega) (by omega)
  ·rename_i hno
   rw[JN (by omega),show 41=h+(41-h) by omega,QlN (by omega)]
theorem Yh(n:Nat)(hn:n<=2^40):cov 0 n=dnL 41 0 n:=Qns n hn 42 0 rfl (by decide)
theorem OM:∀h d,d<pw (h+1)->Qy (h+1) d=d/pw h+Qy h (d%pw h):=by
 intro h
 induction h with
 | zero=>intro d hd;simp[Qy,pw] at *;omega
 | succ h ih=>
  intro d hd;have e1:d%pw (h+1)=d%2+2*(d/2%pw h):=by rw[QE,Ik]
  have e2:d/pw (h+1)=d/2/pw h:=by rw[QE,LY]
  rw[Qy,ih (d/2) (by rw[QE] at hd;omega),e1,e2,Qy]
  have e3:(d%2+2*(d/2%pw h))%2=d%2:=by omega
  have e4:(d%2+2*(d/2%pw h))/2=d/2%pw h:=by omega
  rw[e3,e4];omega
theorem QlO:∀h lo hi,hi-lo<pw h->(dnL h lo hi).length=Qy h (hi-lo):=by
 intro h
 induction h with
 | zero=>intro lo hi _;rfl
 | succ h ih=>
  intro lo hi hl;have hp:=QA h;have hps:=QE h;rw[OM h _ hl,dnL]
  split
  ·rename_i hfit
   have e1:(hi-lo)/pw h=1:=by rw[WA hp];omega
   have e2:(hi-lo)%pw h=hi-(lo+pw h):=by rw[Nat.mod_eq_sub_mod hfit,NJ (by omega)];omega
   rw[e1,e2,LJ,ih (lo+pw h) hi (by omega)];omega
  ·rename_i hno
   rw[IE (by omega),NJ (by omega),ih lo hi (by omega)];omega
theorem QmD(j d n:Nat)(h:n<2^j):Qy (j+d) n=Qy j n:=by
 induction d with
 | zero=>rfl
 | succ d ih=>rw[<-NR,UI _ _ (LL h (Ng (by decide) (by omega))),ih]
theorem Qbd(n:Nat)(hn:n<=2^40):(cov 0 n).length=Qy 64 n:=by
 rw[Yh n hn, QlO 41 0 n (by have:pw 41=2 ^ 41:=rfl
                            omega)]
 exact(QmD 41 23 n (by omega)).symm
theorem Qcl(n:Nat)(hn:n<=2^40):(cov 0 n).length<=40:=by
 by_cases h:n=2^40
 ·subst h;decide
 ·rw[Yh n hn, show(41:Nat)=40+1 from rfl, JN (by have:pw 40=2 ^ 40:=rfl
                                                 omega)]
  exact Jv 40 0 n
end Cv
theorem Tryz.laidOut:laidOutB prog=true:=by kernel_rfl
theorem Tryz.rowB:(131:TypeId)<prog.types.size:=NG (by kernel_rfl)
theorem Tryz.deepB:prog.keyTypeAt 2 131=true:=by kernel_rfl
theorem Tryz.keyed:Maps.Keyed prog 131:=Maps.Keyed.of_law (deep_law_laid Tryz.laidOut (m:=2) (by omega) Tryz.rowB Tryz.deepB (by rw[underlying131]))
def kv(h:Int)(k:Nat):Value := .agg #[.int .i64 h,.int .u64 k]
def nv(s:BA):Value := .agg #[.string s]
theorem Qaj{h h':Int}{k k':Nat}(e:kv h k=kv h' k'):h=h'∧k=k':=by
 have h1:Value.int .i64 h=Value.int .i64 h'∧Value.int .u64 k=Value.int .u64 k':=by
  unfold kv at e;injection e with e
  have:=LZ Array.toList e;injection this with a b
  injection b with b _
  exact⟨a,b⟩
 obtain⟨a,b⟩:=h1;injection a with _ a
 injection b with _ b
 exact⟨a,by omega⟩
theorem Qj7{s s':BA}(e:nv s=nv s'):s=s':=by
 unfold nv at e;injection e with e
 have:=LZ Array.toList e;injection this with a _
 injection a
def US(h:Int)(k:Nat):Prop:=(-9223372036854775808<=h∧h<=9223372036854775807)∧k<18446744073709551616
theorem keyT:prog.keyType 131=true:=by kernel_rfl
theorem QiP:prog.cellsOf 131=2:=by kernel_rfl
theorem QlH:prog.cellsOf 3=1:=by kernel_rfl
theorem QlI:prog.cellsOf 31=1:=by kernel_rfl
theorem Qpb:∃n,prog.types.size+1=n+2:=by
 have h:0<prog.types.size:=Ib (Lm _) Tryz.rowB;generalize prog.types.size=z at *;exact⟨z-1,by omega⟩
theorem Qmf(n:Nat)(h u:Int)(w1:(Lit.int .i64 h).wf=true)(w2:(Lit.int .u64 u).wf=true):prog.keyLits (n+2) 131 [.int .i64 h,.int .u64 u]=some [.int .i64 h,.int .u64 u]:=by
 simp[Program.keyLits,underlying131,w1,w2,QiP,QlH,QlI,underlying3,underlying31]
theorem QhP(h:Int)(k:Nat):(kv h k).formed prog 131=true:=by
 simp[Value.formed,underlying131,QiP,kv]
theorem U3{h:Int}{k:Nat}(hf:US h k):∃l,keyOf prog 131 (kv h k)=some l:=by
 obtain⟨n,hn⟩:=Qpb;obtain⟨h1,h3⟩:=hf;have e:=Qmf n h k (WalkArith.wf_i64 h1) (WalkArith.wf_u64 ⟨by omega,by omega⟩)
 have e2:(kv h k).cells.toList=[.int .i64 h,.int .u64 k]:=rfl;rw[<-hn,<-e2] at e;unfold keyOf;rw[underlying131];simp only[keyT,QhP,Bool.and_self,if_true,e,Option.map_some];exact⟨_,rfl⟩
def Mp(w:World)(b:Nat)(f:Int->Nat->Option BA):Prop :=
 ∃es clock,w.heap[b]? = some (.map es clock)∧(∀e∈es.toList,∃h k s,US h k∧e.key=kv h k∧e.val=nv s)∧es.toList.Pairwise (fun x y=>x.key≠y.key) ∧
  ∀h k s,US h k->(f h k=some s ↔ ∃e∈es.toList,e.key=kv h k∧e.val=nv s)
theorem Mp.lt{w:World}{b:Nat}{f:Int->Nat->Option BA}(h:Mp w b f):b<w.heap.size:=by
 obtain⟨es,c,h1,_⟩:=h;exact(Array.getElem?_eq_some_iff.1 h1).1
theorem Mp.same{w W:World}{b:Nat}{f:Int->Nat->Option BA}(h:Mp w b f)(hb:W.heap[b]? = w.heap[b]?):Mp W b f:=by
 obtain⟨es,c,h1,h2⟩:=h;exact⟨es,c,hb.trans h1,h2⟩
theorem QoE(w:World):Mp (w.alloc (.map #[] 0)) w.heap.size (fun _ _=>none):=by
 refine⟨#[],0,(MapKept.heap_alloc w _).1,?_,?_,?_⟩
 ·intro e he;simp at he
 ·simp
 ·intro h k s _;simp
theorem Mp.find{w:World}{b:Nat}{f:Int->Nat->Option BA}(hm:Mp w b f){h:Int}{k:Nat}(hf:US h k) :
  ∃es clock,w.heap[b]? = some (.map es clock)∧((f h k=none∧(Instr.findKey 131 (kv h k) es.toList).run prog w= .ok none w ∧ ∀e∈es.toList,e.key≠kv h k) ∨
   ∃j e s,f h k=some s∧(Instr.findKey 131 (kv h k) es.toList).run prog w= .ok (some (j,nv s)) w∧es.toList[j]? = some e∧e.key=kv h k):=by
 obtain⟨es,c,h1,h2,h3,h4⟩:=hm;obtain⟨l,hl⟩:=U3 hf;refine⟨es,c,h1,?_⟩
 rcases Tryz.keyed.find w hl es.toList (fun e he=>by obtain⟨h',k',s,hf',e1,_⟩:=h2 e he;rw[e1];exact U3 hf') with ⟨r1,r2⟩|⟨j,e,r1,r2,r3⟩
 ·refine .inl ⟨?_,r1,r2⟩
  cases hx:f h k with
  | none=>rfl
  | some s=>
   obtain⟨e,he,ek,_⟩:=(h4 h k s hf).1 hx;exact absurd ek (r2 e he)
 ·have hm:=Nk r2;obtain⟨h',k',s,hf',e1,e2⟩:=h2 e hm;rw[e2] at r1;exact .inr ⟨j,e,s,(h4 h k s hf).2 ⟨e,hm,r3,e2⟩,r1,r2,r3⟩
theorem Mp.look{w:World}{b:Nat}{f:Int->Nat->Option BA}(hm:Mp w b f){h:Int}{k:Nat}(hf:US h k)(c:Bool) :
  (Instr.lookup 106 (.map (some b)) (kv h k) c).run prog w= .ok (if c then .tuple #[nv ((f h k).getD ByteArray.empty),.bool (f h k).isSome] else nv ((f h k).getD ByteArray.empty)) w:=by
 obtain⟨l,hl⟩:=U3 hf;obtain⟨es,cl,h1,⟨e0,e1,_⟩|⟨j,e,s,e0,e1,_⟩⟩:=hm.find hf
 ·rw[e0];simp[Instr.lookup,run_underlying underlying106,MapKept.run_getObj_map h1,Tryz.keyed.check w _ hl,e1,Result.andThen]
  rfl
 ·rw[e0];simp[Instr.lookup,run_underlying underlying106,MapKept.run_getObj_map h1,Tryz.keyed.check w _ hl,e1,Result.andThen]
def put(f:Int->Nat->Option BA)(h:Int)(k:Nat)(s:BA):Int->Nat->Option BA:=fun h' k'=>if h'=h∧k'=k then some s else f h' k'
theorem Mp.write{w:World}{b:Nat}{f:Int->Nat->Option BA}(hm:Mp w b f){h:Int}{k:Nat}(hf:US h k)(s:BA) :
  ∃es clock,(Instr.mapUpdate 106 (.map (some b)) (kv h k) (nv s)).run prog w= .ok () (ChangeMaps.setBlock w b (.map es clock))∧Mp (ChangeMaps.setBlock w b (.map es clock)) b (put f h k s):=by
 have hb:=hm.lt;obtain⟨l,hl⟩:=U3 hf;have sz:∀o,(ChangeMaps.setBlock w b o).heap[b]? = some o:=fun o=>by simp[ChangeMaps.setBlock,hb]
 obtain⟨es,cl,h1,hor⟩:=hm.find hf;obtain⟨es',cl',g1,g2,g3,g4⟩:=hm;rw[h1] at g1;injection g1 with g1
 injection g1 with g1 g1'
 subst g1 g1'
 rcases hor with ⟨e0,e1,e2⟩|⟨j,e,s0,e0,e1,e2,e3⟩
 ·refine⟨es.push ⟨kv h k,nv s,cl⟩,cl+1,?_,_,_,sz _,?_,?_,?_⟩
  ·simp[Instr.mapUpdate,run_underlying underlying106,MapKept.run_getObj_map h1,Tryz.keyed.check w false hl,e1,MapKept.run_setObj_map _ h1,Result.andThen,ChangeMaps.setBlock]
  ·intro x hx;simp only[Array.toList_push,List.mem_append,List.mem_singleton] at hx
   rcases hx with hx|rfl
   ·exact g2 x hx
   ·exact⟨h,k,s,hf,rfl,rfl⟩
  ·rw[Array.toList_push,List.pairwise_append];refine⟨g3,by simp,fun x hx y hy=> ?_⟩
   simp only[List.mem_singleton] at hy;subst hy;exact e2 x hx
  ·intro h' k' s' hf';simp only[put,Array.toList_push,List.mem_append,List.mem_singleton]
   by_cases hq:h'=h∧k'=k
   ·obtain⟨rfl,rfl⟩:=hq;rw[Lo ⟨rfl,rfl⟩];refine⟨fun hs=> ?_,?_⟩
    ·injection hs with hs
     subst hs;exact⟨_,.inr rfl,rfl,rfl⟩
    ·rintro⟨x,hx|rfl,ex,ey⟩
     ·exact absurd ex (e2 x hx)
     ·rw[Qj7 ey]
   ·rw[Le hq,g4 h' k' s' hf'];refine⟨fun⟨x,hx,r⟩=>⟨x,.inl hx,r⟩,?_⟩
    rintro⟨x,hx|rfl,ex,ey⟩
    ·exact⟨x,hx,ex,ey⟩
    ·obtain⟨q1,q2⟩:=Qaj ex;exact absurd ⟨q1.symm,q2.symm⟩ hq
 ·have hj:es[j]? = some e:=by simpa using e2
  have hlist:(es.modify j (fun e'=> { e' with key:=kv h k,val:=nv s })).toList=es.toList.set j { e with key:=kv h k,val:=nv s } := by rw[Array.toList_modify,ChangeMaps.modify_eq_set _ _ _ _ e2]
  have hjl:j<es.toList.length:=(List.getElem?_eq_some_iff.1 e2).1
  have hne:∀i x,es.toList[i]? = some x->i≠j->x.key≠kv h k:=fun i x hx hij=>by
   have hil:=(List.getElem?_eq_some_iff.1 hx).1
   have pw:=List.pairwise_iff_getElem.1 g3;have ei:es.toList[i]=x:=(List.getElem?_eq_some_iff.1 hx).2
   have ej:es.toList[j]=e:=(List.getElem?_eq_some_iff.1 e2).2
   rcases Nat.lt_or_gt_of_ne hij with hlt|hlt
   ·have:=pw i j hil hjl hlt;rw[ei,ej,e3] at this;exact this
   ·have:=pw j i hjl hil hlt;rw[ei,ej,e3] at this;exact fun q=>this q.symm
  have who:∀x,x∈es.toList.set j { e with key:=kv h k,val:=nv s } ↔ x = { e with key:=kv h k,val:=nv s } ∨ (x∈es.toList∧x.key≠kv h k):=by
   intro x
   constructor
   ·intro hx;obtain⟨i,hi,ex⟩:=L8 hx;rw[IZ] at ex
    split at ex
    ·exact .inl ex.symm
    ·rename_i hn
     have hi':i<es.toList.length:=by simpa using hi
     exact .inr ⟨ex ▸ LN hi',hne i x (by rw[Ld hi',ex]) (fun q=>hn q.symm)⟩
   ·rintro(rfl|⟨hx,hk⟩)
    ·exact List.mem_iff_getElem.2 ⟨j,by simpa using hjl,by simp⟩
    ·obtain⟨i,hi,ex⟩:=L8 hx;refine List.mem_iff_getElem.2 ⟨i,by simpa using hi,?_⟩
     rw[List.getElem_set_ne]
     ·exact ex
     ·rintro rfl
      apply hk
      rw[<-ex,(List.getElem?_eq_some_iff.1 e2).2,e3]
  refine⟨es.modify j (fun e'=> { e' with key:=kv h k,val:=nv s }),cl,?_,_,_,sz _,?_,?_,?_⟩
  ·simp[Instr.mapUpdate,run_underlying underlying106,MapKept.run_getObj_map h1,Tryz.keyed.check w false hl,e1,hj,e3,Tryz.keyed.stays w hl,MapKept.run_setObj_map _ h1,Result.andThen,ChangeMaps.setBlock]
  ·intro x hx;rw[hlist] at hx
   rcases(who x).1 hx with rfl|⟨hx,_⟩
   ·exact⟨h,k,s,hf,rfl,rfl⟩
   ·exact g2 x hx
  ·rw[hlist,Wi];have pw:=List.pairwise_iff_getElem.1 g3;have ky:∀i (hi:i<(es.toList.set j { e with key:=kv h k,val:=nv s }).length),((es.toList.set j { e with key:=kv h k,val:=nv s })[i]).key=(es.toList[i]'(by simpa using hi)).key:=by
    intro i hi;rw[IZ]
    split
    ·rename_i q
     subst q;rw[(List.getElem?_eq_some_iff.1 e2).2,e3]
    ·rfl
   intro i i' hi hi' hlt;rw[ky i hi,ky i' hi'];exact pw i i' _ _ hlt
  ·intro h' k' s' hf';rw[hlist]
   by_cases hq:h'=h∧k'=k
   ·obtain⟨rfl,rfl⟩:=hq;rw[put,Lo ⟨rfl,rfl⟩];refine⟨fun hs=> ?_,?_⟩
    ·injection hs with hs
     subst hs;exact⟨_,(who _).2 (.inl rfl),rfl,rfl⟩
    ·rintro⟨x,hx,ex,ey⟩
     rcases(who x).1 hx with rfl|⟨_,hk⟩
     ·rw[Qj7 ey]
     ·exact absurd ex hk
   ·rw[put,Le hq,g4 h' k' s' hf']
    constructor
    ·rintro⟨x,hx,ex,ey⟩;refine⟨x,(who x).2 (.inr ⟨hx,fun q=>hq ?_⟩),ex,ey⟩
     obtain⟨q1,q2⟩:=Qaj (ex.symm.trans q);exact⟨q1,q2⟩
    ·rintro⟨x,hx,ex,ey⟩
     rcases(who x).1 hx with rfl|⟨hx,_⟩
     ·obtain⟨q1,q2⟩:=Qaj ex;exact absurd ⟨q1.symm,q2.symm⟩ hq
     ·exact⟨x,hx,ex,ey⟩
section
open Pl (Qy pw)
def ff(c:Nat)(L:LB)(h:Int)(k:Nat):Option BA:=if 0<=h∧(k+1)*2^h.toNat<=L.length then some (nd c L h.toNat k) else none
def fj(c:Nat)(L:LB)(x:BA)(j:Nat)(h:Int)(k:Nat):Option BA:=if 0<=h∧h<=(j:Int)∧(k+1)*2^h.toNat=L.length+1 then some (nd c (L++[x]) h.toNat k) else ff c L h k
theorem QfN(c:Nat)(L M:LB)(h k:Nat)(hk:(k+1)*2^h<=L.length):nd c (L++M) h k=nd c L h k:=by
 refine JD h k k fun t ht=> ?_
 rw[La,La,LG];rw[L4,Na] at hk;omega
theorem QoK(c:Nat)(L:LB)(n h k:Nat)(hk:(k+1)*2^h<=n)(hn:n<=L.length):nd c (L.take n) h k=nd c L h k:=by
 have:=QfN c (L.take n) (L.drop n) h k (by rw[Lv];omega)
 rw[Nu] at this;exact this.symm
theorem Qfz(c:Nat)(L:LB)(h k:Nat)(hk:(k+1)*2^h<=L.length):ff c L (h:Int) k=some (nd c L h k):=by
 rw[ff,Lo ⟨Lf _,by rw[Ni];exact hk⟩,Ni]
theorem Qpy(c:Nat)(L:LB)(h k:Nat)(hk:¬(k+1)*2^h<=L.length):ff c L (h:Int) k=none:=by
 rw[ff,Le];rw[Ni];exact fun x=>hk x.2
theorem QlV{c:Nat}(hc:c<=32){L:LB}{h:Int}{k:Nat}{s:BA}(e:ff c L h k=some s):s.size=c:=by
 rw[ff] at e
 split at e
 ·injection e with e
  rw[<-e,QG hc]
 ·cases e
theorem Qjl(c:Nat)(L:LB)(x:BA):put (ff c L) 0 L.length (nd c (L++[x]) 0 L.length)=fj c L x 0:=by
 funext h k
 rw[put,fj]
 by_cases e:h=0∧k=L.length
 ·obtain⟨rfl,rfl⟩:=e;rw[Lo ⟨rfl,rfl⟩,Lo ⟨by decide,by decide,by simp⟩]
  rfl
 ·rw[Le e,Le];rintro⟨h0,h1,h2⟩;obtain rfl:h=0:=by simp at h1;omega
  simp at h2;exact e ⟨rfl,h2⟩
theorem QgR{n j q:Nat}(hq:n=2^j*q):n/2^j=q:=by
 rw[hq,IS _ (LM j)]
theorem QlY(c:Nat)(L:LB)(x:BA)(j q:Nat)(hq:L.length+1=2^(j+1)*(q+1)):put (fj c L x j) ((j+1:Nat):Int) q (nd c (L++[x]) (j+1) q)=fj c L x (j+1):=by
 funext h k
 rw[put]
 by_cases e:h=((j+1:Nat):Int)∧k=q
 ·obtain⟨rfl,rfl⟩:=e;rw[Lo ⟨rfl,rfl⟩,fj,Ni,Lo ⟨by omega,Int.le_refl _,by rw[hq,L3]⟩]
 ·rw[Le e,fj,fj]
  by_cases g:0<=h∧h<=(j:Int)∧(k+1)*2^h.toNat=L.length+1
  ·rw[Lo g,Lo ⟨g.1,by omega,g.2.2⟩]
  ·rw[Le g,Le];rintro⟨h0,h1,h2⟩
   by_cases hj:h<=(j:Int)
   ·exact g ⟨h0,hj,h2⟩
   ·obtain rfl:h=((j+1:Nat):Int):=by omega
    rw[Ni,hq,L3] at h2;have:=Nat.eq_of_mul_eq_mul_left (LM (j+1)) h2;exact e ⟨rfl,by omega⟩
theorem Qoo(c:Nat)(L:LB)(x:BA)(t:Nat)(hn:L.length<65536)(ht:tr 64 (L.length+1)=t):fj c L x t=ff c (L++[x]):=by
 funext h k
 rw[fj,show ff c (L++[x]) h k=if 0<=h∧(k+1)*2^h.toNat<=L.length+1 then some (nd c (L++[x]) h.toNat k) else none by rw[ff,Lh,Nb]]
 by_cases h0:0<=h
 ·obtain⟨i,rfl⟩:∃i:Nat,h=(i:Int):=⟨h.toNat,by omega⟩
  rw[Ni]
  by_cases g:(k+1)*2^i<=L.length
  ·rw[Le (by rintro⟨_,_,e⟩;omega),Lo ⟨h0,by omega⟩,Qfz c L i k g,QfN c L _ i k g]
  ·by_cases g2:(k+1)*2^i=L.length+1
   ·have hi:i<=64:=by
     apply NW
     intro hlt;have h1:2^64<=2^i:=Ng (by decide) (by omega)
     have h2:2^i<=(k+1)*2^i:=Io _ (by omega)
     omega
    have:=(Qk3 64 i (L.length+1) hi).1;rw[ht,<-g2,Nat.mul_mod_left] at this;have hit:(i:Int)<=(t:Int):=Int.ofNat_le.2 (NW fun hx=>this hx rfl)
    rw[Lo ⟨h0,hit,g2⟩,Lo ⟨h0,by omega⟩]
   ·rw[Le (by rintro⟨_,_,e⟩;exact g2 e),Le (by rintro⟨_,e⟩;omega),Qpy c L i k g]
 ·rw[Le (by rintro⟨e,_⟩;exact h0 e),Le (by rintro⟨e,_⟩;exact h0 e),ff,Le (by rintro⟨e,_⟩;exact h0 e)]
theorem QlX(c:Nat)(L:LB)(x:BA)(j q:Nat)(hq:L.length+1=2^(j+1)*(q+1)):fj c L x j (j:Int) (2*q)=some (nd c (L++[x]) j (2*q)):=by
 have hp:=LM j;rw[LO,L5,L3] at hq;have e1:(2*q+1)*2^j+2^j=L.length+1:=by
  rw[hq];have:2*(q+1)=2*q+1+1:=by omega
  rw[this,L4 (2*q+1),Na]
 rw[fj,Le,Qfz c L j (2*q) (by omega),QfN c L _ j (2*q) (by omega)]
 rw[Ni];rintro⟨_,_,e⟩;omega
def nw(c:Nat)(M:LB)(t:Nat):LB:=(List.range (t+1)).map fun j=>nd c M j (M.length/2^j-1)
theorem QoO(c:Nat)(M:LB)(t:Nat):(nw c M t).length=t+1:=by simp[nw]
theorem QmA(c:Nat)(M:LB)(t:Nat):nw c M (t+1)=nw c M t++[nd c M (t+1) (M.length/2^(t+1)-1)]:=by
 simp[nw,List.range_succ]
theorem QmB(c:Nat)(M:LB):nw c M 0=[nd c M 0 (M.length-1)]:=by
 simp[nw,List.range_succ]
theorem Qk1{n t j:Nat}(ht:tr 64 n=t)(hj:j<=t):∃q,n=2^j*q:=by
 have h64:=QpT 64 n;have h1:=(Qk3 64 j n (by omega)).2
 have hm:n%2^j=0:=by
  apply Classical.byContradiction
  intro h;have:=h1 h;omega
 exact⟨n/2^j,(Nat.mul_div_cancel' (Nat.dvd_of_mod_eq_zero hm)).symm⟩
theorem Qk4{n:Nat}(h1:0<n)(h2:n<=65536):tr 64 n<=16:=by
 apply NW
 intro h;obtain⟨q,hq⟩:=Qk1 (n:=n) (t:=tr 64 n) (j:=17) rfl (by omega)
 have:(2:Nat)^17=131072:=by decide
 rw[this] at hq;omega
theorem Qbh(c:Nat)(L:LB):∀(h lo:Nat),lo=L.length/2^h*2^h->(Cv.dnL h lo L.length).map (fun b=>nd c L b.1 b.2)=pks c L h ∧ ∀b∈Cv.dnL h lo L.length,(b.2+1)*2^b.1<=L.length
 | 0,lo,_=>⟨rfl,fun b hb=>by cases hb⟩
 | h+1,lo,hlo=>by
  have hp:=LM h;have e2:2^(h+1)=2*2^h:=by rw[LO,L3]
  have d1:=Iq L.length (2^h);have d2:=Iq (L.length/2^h) 2;have d3:L.length/2^(h+1)=L.length/2^h/2:=by rw[LO,LY]
  have m1:=ID L.length hp;rw[d3,e2] at hlo;generalize hX:L.length/2^h=X at *;have hlo2:lo=(2*(X/2))*2^h:=by rw[hlo,L3 2 (X/2),L5]
  have e3:2^h*X=X*2^h:=L3 _ _;rw[Cv.dnL,show pw h=2^h from rfl]
  by_cases hb:X%2=1
  ·have hX2:X=2*(X/2)+1:=by omega
   have e4:X*2^h=lo+2^h:=by rw[hlo2];conv=>lhs;rw[hX2,L4,Na]
   have hlt:2^h<=L.length-lo:=by omega
   have e5:lo/2^h=2*(X/2):=by rw[hlo2,NO _ hp]
   obtain⟨r1,r2⟩:=Qbh c L h (lo+2^h) (by rw[hX,<-e4])
   rw[Lo hlt,QaT (by rw[hX];exact hb),WB,r1,e5,hX]
   refine⟨by rw[show X-1=2*(X/2) by omega],fun b hbm=> ?_⟩
   rcases List.mem_cons.1 hbm with rfl|hbm
   ·show(2*(X/2)+1)*2^h<=_
    rw[<-hX2];omega
   ·exact r2 b hbm
  ·have hX2:X=2*(X/2):=by omega
   have e4:X*2^h=lo:=by rw[hlo2];conv=>lhs;rw[hX2]
   have hlt:¬2^h<=L.length-lo:=by omega
   obtain⟨r1,r2⟩:=Qbh c L h lo (by rw[hX,<-e4])
   rw[Le hlt,OR (by rw[hX];exact hb)]
   exact⟨r1,r2⟩
theorem Qaf(c:Nat)(L:LB)(n:Nat)(hn:n<=L.length)(h40:n<=2^40):(Cv.cov 0 n).map (fun b=>nd c L b.1 b.2)=pks c (L.take n) 41 ∧ ∀b∈Cv.cov 0 n,(b.2+1)*2^b.1<=n:=by
 have hl:(L.take n).length=n:=by rw[Lv];omega
 have hz:0=(L.take n).length/2^41*2^41:=by rw[hl,IE (by omega),Nat.zero_mul]
 obtain⟨r1,r2⟩:=Qbh c (L.take n) 41 0 hz;rw[hl] at r1 r2;rw[Cv.Yh n h40];refine⟨?_,r2⟩
 rw[<-r1];refine NL fun b hb=> ?_
 exact(QoK c L n b.1 b.2 (r2 b hb) hn).symm
end
end Go.Proofs.YtoblgjledefdbabGreatDoor
