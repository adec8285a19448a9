/- Own work. -/
import Derived.Test.YtdocjikpcbmcgaaGreatDoorQj03
set_option maxRecDepth 100000
namespace Go.Proofs.YtdocjikpcbmcgaaGreatDoor
open Go.RowKit
attribute [local go_sem ↓] Go.wp_at_zero Go.wp_at_succ
def nd(c:Nat)(L:LB):Nat->Nat->BA
 | 0,i=>dg c (Qm (L.getD i ByteArray.empty))
 | h+1,i=>dg c (QE (nd c L h (2*i)) (nd c L h (2*i+1)))
theorem QD{c:Nat}(hc:c<=32)(L:LB)(h i:Nat):(nd c L h i).size=c:=by
 cases h with
 | zero=>rw[nd,YS hc]
 | succ h=>rw[nd,YS hc]
theorem O2{c:Nat}{L M:LB} : ∀(h i j:Nat),(∀t,t<2^h->L.getD (i*2^h+t) ByteArray.empty=M.getD (j*2^h+t) ByteArray.empty)->nd c L h i=nd c M h j
 | 0,i,j,e=>by
  have:=e 0 (by decide)
  simp only[Nat.pow_zero,Nat.mul_one,Nat.add_zero] at this;rw[nd,nd,this]
 | h+1,i,j,e=>by
  have p:2^(h+1)=2*2^h:=by rw[LA];omega
  rw[nd,nd,O2 h (2*i) (2*j),O2 h (2*i+1) (2*j+1)]
  ·intro t ht;have:=e (2^h+t) (by omega)
   rw[p] at this;rw[show(2*i+1)*2^h+t=i*(2*2^h)+(2^h+t) by rw[LI,L4,Iz];omega,show(2*j+1)*2^h+t=j*(2*2^h)+(2^h+t) by rw[LI,L4,Iz];omega]
   exact this
  ·intro t ht;have:=e t (by omega)
   rw[p] at this;rw[show 2*i*2^h+t=i*(2*2^h)+t by rw[L4,Iz],show 2*j*2^h+t=j*(2*2^h)+t by rw[L4,Iz]]
   exact this
theorem QiJ(L:LB)(a n t:Nat)(h:t<n):((L.drop a).take n).getD t ByteArray.empty=L.getD (a+t) ByteArray.empty:=by
 rw[La,La,Ip h,NL]
theorem Qi2(c:Nat)(L:LB)(h i:Nat):nd c ((L.drop (i*2^h)).take (2^h)) h 0=nd c L h i :=
 O2 h 0 i fun t ht=>by rw[IS,Ll,QiJ _ _ _ _ ht]
def pks(c:Nat)(L:LB):Nat->LB
 | 0=>[]
 | h+1=>(if L.length / 2^h % 2=1 then [nd c L h (L.length / 2^h - 1)] else [])++pks c L h
theorem Qa3{c:Nat}{L:LB}{h:Nat}(e:L.length / 2^h % 2=1):pks c L (h+1)=nd c L h (L.length / 2^h - 1)::pks c L h:=by rw[pks,if_pos e];rfl
theorem O8{c:Nat}{L:LB}{h:Nat}(e:L.length / 2^h % 2≠1):pks c L (h+1)=pks c L h:=by rw[pks,if_neg e];rfl
theorem Qa2(c:Nat)(L:LB) : ∀h,(pks c L h).length<=h
 | 0=>Lb _
 | h+1=>by
  have:=Qa2 c L h
  by_cases e:L.length / 2^h % 2=1
  ·rw[Qa3 e,Lu];omega
  ·rw[O8 e];omega
theorem Qb0{c:Nat}(hc:c<=32)(L:LB) : ∀h,∀s∈pks c L h,s.size=c
 | 0=>by intro s hs;cases hs
 | h+1=>by
  intro s hs;have:=Qb0 hc L h
  by_cases e:L.length / 2^h % 2=1
  ·rw[Qa3 e] at hs
   rcases LH.1 hs with rfl|hs
   ·exact QD hc _ _ _
   ·exact this s hs
  ·rw[O8 e] at hs;exact this s hs
theorem QgO{n h:Nat}(e:n<2^h):n / 2^h % 2≠1:=by rw[Il e];decide
theorem QfW{n g s:Nat}(h:s<g):n % 2^g / 2^s % 2=n / 2^s % 2:=by
 obtain⟨d,rfl⟩ : ∃d,g=s+(d+1):=⟨g - s - 1,by omega⟩
 rw[I0,Nat.mod_mul_right_div_self,LA,LY,Nat.mod_mul_right_mod]
theorem QgD{n g s:Nat}(h1:2^s<=n % 2^g)(h2:n % 2^g<2^(s+1)):s<g∧n / 2^s % 2=1∧n % 2^g=n % 2^(s+1)∧n % 2^(s+1)=2^s+n % 2^s:=by
 have hsg:s<g:=by
  apply Nat.lt_of_not_le
  intro hle;have:=L5 (n:=2) (by decide) hle
  have:=IK n (LL g);omega
 have e1:n % 2^g=n % 2^(s+1):=by
  have:=Nat.mod_mod_of_dvd n (Wd 2 (show s+1<=g by omega))
  rw[<-this,Nx h2]
 rw[e1] at h1 h2;have e2:n / 2^s % 2=1:=by
  rw[<-QfW (show s<s+1 by omega)]
  have:n % 2^(s+1) / 2^s=1:=by
   have hp:2^(s+1)=2^s*2:=LA ..;rw[We (LL s)];generalize n % 2^(s+1)=m at *;omega
  rw[this]
 refine⟨hsg,e2,e1,?_⟩
 rw[LA,Wf,e2];omega
theorem Qep{n s:Nat}(e:n / 2^s % 2=1):(n / 2^s - 1)*2^s=n - n % 2^(s+1)∧1<=n / 2^s:=by
 have h1:1<=n / 2^s:=by
  generalize n / 2^s=x at *;omega
 refine⟨?_,h1⟩
 have:=Wb n (2^s);rw[LA,Wf,e,Nat.sub_mul,LY (n / 2^s)];omega
theorem QjX{n h k:Nat} : k<n / 2^h↔(k+1)*2^h<=n:=by
 rw[Nat.lt_iff_add_one_le,Ih (LL h)]
def Ul(c:Nat)(L:LB)(h m:Nat):LB:=(List.range m).map (nd c L h)
theorem YE(c:Nat)(L:LB)(h m:Nat):(Ul c L h m).length=m:=by simp[Ul]
theorem QdE(c:Nat)(L:LB)(h m:Nat){j:Nat}(hj:j<m):(Ul c L h m).getD j ByteArray.empty=nd c L h j:=by
 simp[Ul,List.getD_eq_getElem?_getD,hj]
theorem QcP(c:Nat)(L:LB)(h m:Nat):Ul c L h m++[nd c L h m]=Ul c L h (m+1):=by
 simp[Ul,List.range_succ]
theorem Y9(x:Int)(h0:0<=x)(h1:x<18446744073709551616):IntKind.u64.wrap x=x:=by
 simp[IntKind.wrap,IntKind.signed,IntKind.bits];omega
theorem Qbp(w:World)(ao:OA)(len cap h:Nat)(hh:h<=40)(hm:len<=8796093022208)(m:Nat)(hq:len / 2^h=m) :
  Calls Tryz.prog 68 #[.slice ao len cap,.int .i64 (h:Int)] w fun e w'=>e = .returned (.int .u64 (m:Int))∧w'=w:=by
 have h0:(0:Int)<=(h:Int):=by omega
 have h1:(h:Int)<64:=by omega
 have e0:IntKind.u64.wrap (len:Int)=(len:Int):=Y9 _ (by omega) (by omega)
 have e1:(len:Int) / 2^h=(m:Int):=by rw[<-hq];simp
 clear hm hh hq
 go_enter Tryz.func68,Tryz.ntmps68;go_wp2
 go_ret
 exact⟨rfl,rfl⟩
theorem QcH(k:Int)(ao:OA)(b off len cap:Nat)(L:LB)(hsz : ∀s∈L,s.size<=140737488351232)(hmx:len<=8796093022208) : ∀h:Nat,h<=40 -> ∀(i:Nat) (w:World) (r:BA),Tb w->RdS w ao b off len L->(i+1)*2^h<=len->nd (clk k) L h i=r ->
  Zr 69 #[.int .i64 k,.slice ao len cap,.agg #[.int .i64 (h:Int),.int .u64 (i:Int)]] w (.string r):=by
 intro h
 induction h with
 | zero =>
  intro _ i w r ht hr hw hq;rw[Nj,NN] at hw;have hi:(i:Int)<(len:Int):=by omega
  have hi0:(0:Int)<=(i:Int):=by omega
  obtain rfl:=hr.ptr (by omega)
  have HL:Hid (∀W,Zb w W->Zr 116 #[.int .i64 k,.string (L.getD i ByteArray.empty)] W (.string r)):=fun W hb=>Qel W (ht.next hb) k _ (NX (hsz _ (QI (by rw[hr.hl];omega))) (by decide)) r hq
  have hb:=Below.refl w.heap.size w;have ci:=fun o=>((hr.next (bal hb o) (Lb _)).at (k:=i) (by omega))
  generalize L.getD i ByteArray.empty=s at *;rw[show((0:Nat):Int)=0 from rfl]
  clear hq ht hr hw hmx hsz
  go_enter Tryz.func69,Tryz.ntmps69
  go_wp2_with (go_at_call 116;with_reducible refine(HL.out _ (bal hb _)).mono ?_;rintro e w1 ⟨rfl,hb1⟩)
  go_ret
  exact⟨rfl,Qa (bal hb _) hb1⟩
 | succ h ih =>
  intro hh i w r ht hr hw hq;have hp:2^(h+1)=2*2^h:=by rw[LA];omega
  have h1:(2*i+1+1)*2^h<=len:=by
   rw[hp] at hw;rw[show 2*i+1+1=(i+1)*2 by omega,L4];exact hw
  have h2:(2*i+1)*2^h<=len:=Lm (Lo _ (by omega)) h1
  have hi:i<len:=by
   have:=LL (h+1);have:(i+1)*1<=(i+1)*2^(h+1):=NT _ this;omega
  obtain⟨x,hx⟩:=Ze (nd (clk k) L h (2*i));obtain⟨y,hy⟩:=Ze (nd (clk k) L h (2*i+1));have zx:=QD (Qx k) L h (2*i);have zy:=QD (Qx k) L h (2*i+1);have hc:=Qx k;rw[nd,hx,hy] at hq;rw[hx] at zx;rw[hy] at zy;obtain⟨j,hj⟩:=Ze (2*i);have e1:IntKind.u64.wrap (2*(i:Int))=(j:Int):=by rw[Y9 _ (by omega) (by omega)];omega
  have e2:IntKind.u64.wrap ((j:Int)+1)=((j:Int)+1):=Y9 _ (by omega) (by omega)
  have e3:IntKind.i64.wrap (h:Int)=(h:Int):=by simp[IntKind.wrap,IntKind.signed,IntKind.bits];omega
  rw[hj] at h1 h2 hx hy;have H1:Hid (∀W,Zb w W->Zr 69 #[.int .i64 k,.slice ao len cap,.agg #[.int .i64 (h:Int),.int .u64 (j:Int)]] W (.string x)):=fun W hb=>ih (by omega) j W x (ht.next hb) (hr.next hb (Lb _)) h2 hx
  have H2:Hid (∀W,Zb w W->Zr 69 #[.int .i64 k,.slice ao len cap,.agg #[.int .i64 (h:Int),.int .u64 ((j:Int)+1)]] W (.string y)):=fun W hb=>by
   have:=ih (by omega) (j+1) W y (ht.next hb) (hr.next hb (Lb _)) h1 hy
   rwa [show((j+1:Nat):Int)=(j:Int)+1 from rfl] at this
  have H3:Hid (∀W,Zb w W->Zr 125 #[.int .i64 k,.string x,.string y] W (.string r)):=fun W hb=>O4 W (ht.next hb) k x y (by omega) (by omega) r hq
  have hb:=Below.refl w.heap.size w;have hne : ¬((h:Int)+1=0):=by omega
  rw[show((h+1:Nat):Int)=(h:Int)+1 from rfl]
  clear ih hh hw hq hp h1 h2 hi hx hy zx zy hc hj ht hr hmx hsz
  go_enter Tryz.func69,Tryz.ntmps69
  go_wp2_with (first
   | (go_at_call 69;with_reducible refine(H1.out _ (bal hb _)).mono ?_;rintro e w1 ⟨rfl,hb1⟩;have c0:=hb1.cell (p:=⟨w.heap.size,0,none⟩) (by simp);have c1:=hb1.cell (p:=⟨w.heap.size,1,none⟩) (by simp);rw[NY] at c0 c1;replace hb:=Qa (bal hb _) hb1;clear hb1)
   | (go_at_call 69;with_reducible refine(H2.out _ hb).mono ?_;rintro e w2 ⟨rfl,hb2⟩;clear c0 c1;replace hb:=Qa hb hb2;clear hb2)
   | (go_at_call 125;with_reducible refine(H3.out _ hb).mono ?_;rintro e w3 ⟨rfl,hb3⟩;replace hb:=Qa hb hb3;clear hb3))
  go_ret
  exact⟨rfl,hb⟩
theorem QjQ(w:World)(ht:Tb w)(k:Int)(ao:OA)(b off len cap:Nat)(L:LB)(hr:RdS w ao b off len L)(hsz : ∀s∈L,s.size<=140737488351232)(hmx:len<=8796093022208)(h i:Nat)(hh:h<=40)(hi:(i+1)*2^h<=len)(r:BA)(hq:nd (clk k) L h i=r) :
  Zr 215 #[.int .i64 k,.slice ao len cap,.agg #[.int .i64 (h:Int),.int .u64 (i:Int)]] w (.tuple #[.string r,.bool true]):=by
 obtain⟨m,hm⟩:=Ze (len / 2^h);have hlt:=QjX.2 hi;rw[hm] at hlt;have HB:=fun W=>Qbp W ao len cap h hh hmx m hm
 have HN:Hid (∀W,Zb w W->Zr 69 #[.int .i64 k,.slice ao len cap,.agg #[.int .i64 (h:Int),.int .u64 (i:Int)]] W (.string r)):=fun W hb=>QcH k ao b off len cap L hsz hmx h hh i W r (ht.next hb) (hr.next hb (Lb _)) hi hq
 have hb:=Below.refl w.heap.size w;have t1 : ¬((h:Int)<0):=by omega
 have t2 : ¬((40:Int)<(h:Int)):=by omega
 have t3 : ¬((m:Int)<=(i:Int)):=by omega
 clear hm hlt hi hh hq hr ht hsz hmx
 go_enter Tryz.func215,Tryz.ntmps215;go_wp2
 go_quiet ((go_at_call 68;refine Calls.quiet_of_same (HB _)))
 go_wp2_with (go_at_call 69;with_reducible refine(HN.out _ (Qd (bal hb _) _)).mono ?_;rintro e w1 ⟨rfl,hb1⟩)
 go_ret2
 exact⟨rfl,Qa (Qd (bal hb _) _) hb1⟩
theorem RdS.take{w:World}{ao:OA}{b off len:Nat}{ss:LB}(h:RdS w ao b off len ss){n:Nat}(hn:n<=len):RdS w ao b off n (ss.take n):=by
 refine⟨by rw[Lv,h.hl];omega,fun h0=>h.ptr (by omega),fun j v hv => ?_,fun s hs=>h.sz s (LJ hs)⟩
 rw[I4,Nf] at hv
 split at hv
 ·exact h.rng j v hv
 ·cases hv
theorem QlS{c:Nat}(hc:c<=32){L:LB}{h:Nat} : ∀s∈pks c L h,s.size<=140737488351232:=fun s hs=>by rw[Qb0 hc L h s hs];omega
theorem Qjl(w:World)(ht:Tb w)(k:Int)(ao:OA)(b off len cap:Nat)(L:LB)(hr:RdS w ao b off len L)(hsz : ∀s∈L,s.size<=140737488351232)(hmx:len<=8796093022208)(P:LB)(q:Nat)(hq:q=41)(hP:Hid (pks (clk k) L q=P)) :
  Calls Tryz.prog 33 #[.int .i64 k,.slice ao len cap] w fun e w' => ∃v,e = .returned v∧Qk w' w.heap.size v P∧Zb w w':=by
 have HT:Hid (Tb w∧RdS w ao b off len L∧(∀s∈L,s.size<=140737488351232)∧len<=8796093022208):=⟨ht,hr,hsz,hmx⟩;have hb:=Below.refl w.heap.size w;have HS:Hid ([]++pks (clk k) L 41=P):=by rw[<-hq];exact hP
 have hPl:P.length<=41:=by rw[<-hP.out,<-hq];exact Qa2 (clk k) L q
 have HPl:=Qc hPl;clear ht hr hsz hmx hq hP hPl
 go_enter Tryz.func33,Tryz.ntmps33;go_wp2
 go_loopg [5,6] 41 (fun g v i wr => ∃(j:Nat) (A:LB),j=g∧i = .int .i64 ((j:Int) - 1)∧j<=41∧A.length<=41∧Hid (A++pks (clk k) L j=P)∧Qk wr w.heap.size v A∧Zb w wr)
 case atStart =>
  go_light;exact⟨41,[],rfl,by go_num,Lb _,by simp,HS.out,YV w _,hb⟩
 case round =>
  clear hb;obtain⟨j,A,hg,rfl,hj,hA,HE,ho,hb⟩:=hrel;subst hg
  cases j with
  | zero =>
   have hz : ¬((0:Int) <= -1):=by decide
   rw[show((0:Nat):Int) - 1 = -1 from rfl]
   have HF:Hid (A=P):=by
    have:=HE.out;rw[pks,L6] at this;exact this
   clear HE HT;go_wp2
   go_ret
   exact⟨_,rfl,by rw[<-HF.out];exact ho,hb⟩
  | succ j =>
   have e1:((j+1:Nat):Int) - 1=(j:Int):=by omega
   have hz:(0:Int)<=(j:Int):=by omega
   rw[e1];obtain⟨m,hm⟩:=Ze (len / 2^j);have hml:m<=len:=by rw[<-hm];exact Nv _ _
   have HBk:Hid (∀W,Calls Tryz.prog 68 #[.slice ao len cap,.int .i64 (j:Int)] W fun e w'=>e = .returned (.int .u64 (m:Int))∧w'=W):=fun W=>Qbp W ao len cap j (by omega) HT.out.2.2.2 m hm
   have HO:Hid (Qk wr w.heap.size _ A):=ho;have hL:=HT.out.2.1.hl
   by_cases hodd:m % 2=1
   ·obtain⟨x,hx⟩:=Ze (nd (clk k) L j (m - 1));have HE2:Hid ((A++[x])++pks (clk k) L j=P):=by
     show _=_
     rw[<-HE.out,Qa3 (by rw[hL,hm];exact hodd),hL,hm,hx];simp
    have zx:x.size<=9223372036854775807:=by rw[<-hx,QD (Qx k)];have:=Qx k;omega
    have hlen2:A.length+1<=41:=by
     have:=congrArg List.length HE2.out;have h41:=HPl.out;simp at *;omega
    obtain⟨p,rfl⟩ : ∃p,m=p+1:=⟨m - 1,by omega⟩
    rw[Ni] at hx;have HN:Hid (∀W,Zb w W->Zr 69 #[.int .i64 k,.slice ao len cap,.agg #[.int .i64 (j:Int),.int .u64 (p:Int)]] W (.string x)):=fun W hb=>by
     obtain⟨t1,t2,t3,t4⟩:=HT.out;exact QcH k ao b off len cap L t3 t4 j (by omega) p W x (t1.next hb) (t2.next hb (Lb _)) (QjX.1 (by omega)) hx
    have hp:IntKind.u64.wrap (p:Int)=(p:Int):=Y9 _ (by omega) (by have:=HT.out.2.2.2;omega)
    have ho2:((p:Int)+1) % 2=1:=by omega
    have HB0:Hid (Zb w wr):=hb;have HL2:Hid (A.length+1<=41):=hlen2;have HZ:Hid (x.size<=9223372036854775807):=zx;clear HE hx hm hml hodd zx hL ho hlen2 hA
    go_wp2_with (first
     | (go_at_call 68;with_reducible refine(HBk.out _).mono ?_;rintro e w1 ⟨rfl,rfl⟩)
     | (go_at_call 69;with_reducible refine(HN.out _ hb).mono ?_;rintro e w2 ⟨rfl,hb2⟩)
     | (at_builtin;refine QS _ rfl _ _ rfl w.heap.size _ A rfl (UW (QC HO.out hb2 (Lb _)) _) (some ⟨w2.heap.size,0,none⟩) w2.heap.size 0 1 [x] rfl (UN w2 x HZ.out) (fun h=>by cases h) ?c1 ?c2 ?_))
    case c1=>have:=HL2.out;simp;omega
    case c2=>have:=(Qa hb hb2).size;simp;omega
    intro v2 w3 h3 hb3;have HX:Hid (Qk w3 w.heap.size v2 (A++[x])∧Zb w w3):=⟨h3,(bal (Qa hb hb2) _).trans hb3⟩;clear h3 hb3 hb2;go_wp2
    go_roundg j
    case rel =>
     go_light;exact⟨j,A++[x],rfl,by go_num,by omega,by have:=HL2.out;simp;omega,HE2,HX.out.1,HX.out.2⟩
    case measure=>go_light;omega
   ·have ho2 : ¬((m:Int) % 2=1):=by omega
    have HE2:Hid (A++pks (clk k) L j=P):=by
     show _=_
     rw[<-HE.out,O8 (by rw[hL,hm];exact hodd)]
    clear HE hm hml hodd hL ho
    go_wp2_with (go_at_call 68;with_reducible refine(HBk.out _).mono ?_;rintro e w1 ⟨rfl,rfl⟩)
    go_roundg j
    case rel =>
     go_light;exact⟨j,A,rfl,by go_num,by omega,hA,HE2,HO.out,hb⟩
    case measure=>go_light;omega
theorem QcG(w:World)(ht:Tb w)(k:Int)(ao:OA)(b off len cap:Nat)(L:LB)(hr:RdS w ao b off len L)(hsz : ∀s∈L,s.size<=140737488351232)(hmx:len<=8796093022208)(P:LB)(hP:Hid (pks (clk k) L 41=P)) :
  Calls Tryz.prog 33 #[.int .i64 k,.slice ao len cap] w fun e w' => ∃v,e = .returned v∧Qk w' w.heap.size v P∧Zb w w':=Qjl w ht k ao b off len cap L hr hsz hmx P 41 rfl hP
theorem Qib{k:Int}(h1:1<=k)(h2:k<=32):chk k=0:=by rw[chk,if_neg (by omega)]
theorem Qia{k:Int}(h:k<1∨32<k):chk k=70:=by rw[chk,if_pos h]
structure Rt(w:World)(g n:Nat)(d:BA):Prop where
 c0:w.cell? ⟨g,0,none⟩=some (.int .u64 (n:Int))
 c1:w.cell? ⟨g,1,none⟩=some (.string d)
 f0:w.frozen? ⟨g,0,none⟩=false
 f1:w.frozen? ⟨g,1,none⟩=false
theorem Rt.below{w w':World}{B g n:Nat}{d:BA}(t:Rt w g n d)(hb:Below B w w')(hg:g<B):Rt w' g n d :=
 ⟨(hb.cell (p:=⟨g,0,none⟩) hg).trans t.c0,(hb.cell (p:=⟨g,1,none⟩) hg).trans t.c1,(hb.frozen (p:=⟨g,0,none⟩) hg).trans t.f0,(hb.frozen (p:=⟨g,1,none⟩) hg).trans t.f1⟩
theorem QfM(w:World)(n:Nat)(d:BA)(t:Nat):Rt (w.alloc (.cells #[.int .u64 (n:Int),.string d] t)) w.heap.size n d:=by
 refine⟨?_,?_,?_,?_⟩ <;> simp
theorem Qhw(w:World)(k:Int)(hk:k<1∨32<k)(ao:OA)(len cap n:Nat) :
  Zr 56 #[.int .i64 k,.slice ao len cap,.int .u64 (n:Int)] w (.tuple #[.agg #[.int .u64 0,.string ⟨#[]⟩],.int .i64 70]):=by
 have HC:=fun W=>QW W k
 rw[Qia hk] at HC;have hb:=Below.refl w.heap.size w;clear hk
 go_enter Tryz.func56,Tryz.ntmps56
 go_wp2_with (go_at_call 61;with_reducible refine(HC _).mono ?_;rintro e w1 ⟨rfl,rfl⟩)
 refine bodyPost_ret (v := .tuple #[.agg #[.int .u64 0,.string ⟨#[]⟩],.int .i64 70]) (by simp[results,Tryz.results56,go_sem]) rfl ⟨rfl,?_⟩
 exact bal hb _
def rtD(c:Nat)(L:LB)(n:Nat):BA:=dg c (QN n (QA c (pks c (L.take n) 41)))
theorem Qjo(w:World)(ht:Tb w)(k:Int)(h1:1<=k)(h2:k<=32)(ao:OA)(b off len cap:Nat)(L:LB)(hr:RdS w ao b off len L)(hsz : ∀s∈L,s.size<=140737488351232)(hmx:len<=8796093022208)(hc:len<=cap)(n:Nat)(hn:n<=len)(r:BA)(hq:Hid (rtD (clk k) L n=r)) :
  Zr 56 #[.int .i64 k,.slice ao len cap,.int .u64 (n:Int)] w (.tuple #[.agg #[.int .u64 (n:Int),.string r],.int .i64 0]):=by
 have HC:=fun W=>QW W k
 rw[Qib h1 h2] at HC;have e0:IntKind.u64.wrap (len:Int)=(len:Int):=Y9 _ (by omega) (by omega)
 have hn' : ¬((len:Int)<(n:Int)):=by omega
 have hn2:(n:Int)<=(cap:Int):=by omega
 obtain⟨P,hP⟩ : ∃P,Hid (pks (clk k) (L.take n) 41=P):=⟨_,rfl⟩;have HPk:Hid (∀W,Zb w W->Calls Tryz.prog 33 #[.int .i64 k,.slice ao n cap] W fun e w' => ∃v,e = .returned v∧Qk w' W.heap.size v P∧Zb W w'):=fun W hb=>QcG W (ht.next hb) k ao b off n cap (L.take n) ((hr.next hb (Lb _)).take hn) (fun s hs=>hsz s (LJ hs)) (by omega) P hP
 have zP : ∀s∈P,s.size<=140737488351232:=by rw[<-hP.out];exact QlS (Qx k)
 have lP:P.length<=41:=by rw[<-hP.out];exact Qa2 _ _ _
 have HQ:Hid (dg (clk k) (QN n (QA (clk k) P))=r):=by rw[<-hP.out];exact hq
 have HRo:Hid (∀W,Zb w W -> ∀ao' b' cap',RdS W ao' b' 0 P.length P->Zr 81 #[.int .i64 k,.int .u64 (n:Int),.slice ao' P.length cap'] W (.string r)):=fun W hb ao' b' cap' hr'=>Qad W (ht.next hb) k n ao' b' 0 P.length cap' P hr' zP (by omega) r HQ.out
 have HZ:Hid (∀s∈P,s.size<=9223372036854775807):=fun s hs=>Lm (zP s hs) (by decide)
 have hb:=Below.refl w.heap.size w;have HN:=QfM w 0 ⟨#[]⟩ 30;rw[show((0:Nat):Int)=0 from rfl] at HN
 have HN2:=Qc HN;clear h1 h2 hn hmx hc hr hsz ht hq hP zP lP HQ HN
 go_enter Tryz.func56,Tryz.ntmps56
 go_wp2_with (first
  | (go_at_call 61;with_reducible refine(HC _).mono ?_;rintro e w1 ⟨rfl,rfl⟩)
  | (go_at_call 33;with_reducible refine(HPk.out _ (bal hb _)).mono ?_;rintro e w2 ⟨v,rfl,ho,hb2⟩;obtain⟨ao',b',cap',rfl,hr',_,_⟩:=Qn ho HZ.out)
  | (go_at_call 81;with_reducible refine(HRo.out _ (Qa (bal hb _) hb2) _ _ _ hr').mono ?_;rintro e w3 ⟨rfl,hb3⟩;have hR:=(HN2.out.below hb2 (by simp)).below hb3 (by have:=hb2.size;simp at this;omega);have k0:=hR.c0;have k1:=hR.c1;have f0:=hR.f0;have f1:=hR.f1))
 have s0:(w3.setCell ⟨w.heap.size,0,none⟩ (.int .u64 (n:Int))).cell? ⟨w.heap.size,0,none⟩=some (.int .u64 (n:Int)):=LT _ _ _ k0;have s1:((w3.setCell ⟨w.heap.size,0,none⟩ (.int .u64 (n:Int))).setCell ⟨w.heap.size,1,none⟩ (.string r)).cell? ⟨w.heap.size,1,none⟩=some (.string r) :=
  LT _ _ _ ((Lj _ _ _ _ (by simp)).trans k1)
 refine bodyPost_ret (v := .tuple #[.agg #[.int .u64 (n:Int),.string r],.int .i64 0]) (by simp[results,Tryz.results56,go_sem,s0,s1]) rfl ⟨rfl,?_⟩
 exact((Qa (Qa (bal hb _) hb2) hb3).setCell (p:=⟨w.heap.size,0,none⟩) (Lb _) _).setCell (p:=⟨w.heap.size,1,none⟩) (Lb _) _
namespace Cv
open Pl
def dnL:Nat->Nat->Nat->List (Nat×Nat)
 | 0,_,_=>[]
 | h+1,lo,hi=>if pw h<=hi - lo then (h,lo / pw h)::dnL h (lo+pw h) hi else dnL h lo hi
def upL:Nat->Nat->Nat->Nat->List (Nat×Nat)
 | 0,_,_,_=>[]
 | f+1,h,lo,hi=>if pw h<=hi - lo then (if lo / pw h % 2=1 then (h,lo / pw h)::upL f (h+1) (lo+pw h) hi else upL f (h+1) lo hi) else dnL (h+1) lo hi
def cov(lo hi:Nat):List (Nat×Nat):=upL 42 0 lo hi
def rst:Nat->Nat->List Nat->List (Nat×Nat)
 | x,n,[]=>cov x n
 | x,n,i::S=>cov x i++rst (i+1) n S
def All(A:Nat->Prop)(h k:Nat):Prop := ∀i,k*pw h<=i->i<(k+1)*pw h->A i
def Til(A:Nat->Prop)(q:Nat):Nat->List (Nat×Nat)->Prop
 | p,[]=>p<=q ∧ ∀i,p<=i->i<q -> ¬A i
 | p,b::L=>p<=b.2*pw b.1∧(b.2+1)*pw b.1<=q∧(∀i,p<=i->i<b.2*pw b.1 -> ¬A i)∧All A b.1 b.2 ∧ ¬All A (b.1+1) (b.2 / 2)∧Til A q ((b.2+1)*pw b.1) L
theorem Yr(h k:Nat):k*pw h<(k+1)*pw h:=by
 have:=QB h;rw[LI,LP];omega
theorem QbM(A:Nat->Prop)(h k h' k':Nat)(he:k*pw h=k' * pw h')(hl:h<h')(ha:All A h' k'):All A (h+1) (k / 2):=by
 obtain⟨d,rfl⟩ : ∃d,h'=h+1+d:=⟨h' - (h+1),by omega⟩
 have e1:pw (h+1+d)=2*pw d*pw h:=by rw[Qax,QK,LY (2*pw h),<-L4,LY (pw d)]
 have hp:=QB h;have hd:=QB d;have hk:k=k' * (2*pw d):=by
  rw[e1,<-L4] at he;exact IY hp he
 have hk2:k / 2=k' * pw d:=by
  rw[hk,show k' * (2*pw d)=k' * pw d*2 by rw[LY 2,L4]]
  exact Ng _ (by decide)
 intro i h1 h2;have e2:pw (h+1+d)=pw d*pw (h+1):=by rw[Qax,LY]
 refine ha i ?_ ?_
 ·rw[e2,<-L4,<-hk2];exact h1
 ·refine LS h2 ?_
  rw[e2,<-L4,hk2];refine Lo _ ?_
  rw[LI];omega
theorem QmU{A:Nat->Prop}{q p:Nat}{L:List (Nat×Nat)}(h:Til A q p L):p<=q:=by
 cases L with
 | nil=>exact h.1
 | cons b L=>have:=Yr b.1 b.2;have h1:=h.1;have h2:=h.2.1;omega
theorem Qgy{A:Nat->Prop}{q:Nat} : ∀ {L L':List (Nat×Nat)} {p:Nat},Til A q p L->Til A q p L'->L=L':=by
 intro L
 induction L with
 | nil =>
  intro L' p h h'
  cases L' with
  | nil=>rfl
  | cons b L' =>
   obtain⟨a1,a2,a3,a4,a5,a6⟩:=h';have:=Yr b.1 b.2;exact absurd (a4 _ (Lb _) this) (h.2 _ a1 (by omega))
 | cons c L ih =>
  intro L' p h h'
  cases L' with
  | nil =>
   obtain⟨a1,a2,a3,a4,a5,a6⟩:=h;have:=Yr c.1 c.2;exact absurd (a4 _ (Lb _) this) (h'.2 _ a1 (by omega))
  | cons b L' =>
   obtain⟨a1,a2,a3,a4,a5,a6⟩:=h;obtain⟨b1,b2,b3,b4,b5,b6⟩:=h';obtain⟨h,k⟩:=c;obtain⟨h',k'⟩:=b;simp only at *;have x1:=Yr h k;have x2:=Yr h' k';have he:k*pw h=k' * pw h':=by
    rcases Ii (k*pw h) (k' * pw h') with hh|hh|hh
    ·exact absurd (a4 _ (Lb _) x1) (b3 _ a1 hh)
    ·exact hh
    ·exact absurd (b4 _ (Lb _) x2) (a3 _ b1 hh)
   have hh:h=h':=by
    rcases Ii h h' with hh|hh|hh
    ·exact absurd (QbM A h k h' k' he hh b4) a5
    ·exact hh
    ·exact absurd (QbM A h' k' h k he.symm hh a4) b5
   subst hh;have hk:k=k':=IY (QB h) he;subst hk;rw[ih a6 b6]
theorem QdO{A:Nat->Prop}{q p p':Nat}{L:List (Nat×Nat)}(h:Til A q p' L)(hp:p<=p')(hn : ∀i,p<=i->i<p' -> ¬A i):Til A q p L:=by
 cases L with
 | nil=>exact⟨Lm hp h.1,fun i h1 h2=>if hi:i<p' then hn i h1 hi else h.2 i (by omega) h2⟩
 | cons b L=>exact⟨Lm hp h.1,h.2.1,fun i h1 h2=>if hi:i<p' then hn i h1 hi else h.2.2.1 i (by omega) h2,h.2.2.2⟩
theorem Qal{A:Nat->Prop}{q m:Nat}{L':List (Nat×Nat)}(h':Til A q m L') : ∀ {L:List (Nat×Nat)} {p:Nat},Til A m p L->Til A q p (L++L'):=by
 intro L
 induction L with
 | nil=>intro p h;exact QdO h' h.1 h.2
 | cons b L ih =>
  intro p h;have:=QmU h';exact⟨h.1,Lm h.2.1 this,h.2.2.1,h.2.2.2.1,h.2.2.2.2.1,ih h.2.2.2.2.2⟩
theorem Qlr{A:Nat->Prop}{q q' p:Nat}{L:List (Nat×Nat)}(h:Til A q p L)(hq:q<=q')(hn : ∀i,q<=i->i<q' -> ¬A i):Til A q' p L:=by
 have:=Qal (A:=A) (q:=q') (m:=q) (L':=[]) ⟨hq,hn⟩ h
 rwa [L6] at this
abbrev Rg(lo hi:Nat):Nat->Prop:=fun i=>lo<=i∧i<hi
theorem QJ(c h:Nat):c*pw (h+1)=2*c*pw h:=by rw[QK,<-L4,LY c]
theorem Qmf(lo0 hi:Nat) : ∀h lo,(∃c,lo=c*pw h)->hi - lo<pw h->lo0<=lo->lo<=hi->Til (Rg lo0 hi) hi lo (dnL h lo hi):=by
 intro h
 induction h with
 | zero =>
  intro lo _ h2 h3 h4;rw[Ue] at h2;exact⟨h4,fun i h5 h6 _=>by omega⟩
 | succ h ih =>
  intro lo h1 h2 h3 h4;obtain⟨c,hc⟩:=h1;have hp:=QB h;have hps:=QK h;rw[QJ] at hc;rw[dnL]
  split
  ·rename_i hfit
   have hk:lo / pw h=2*c:=by rw[hc];exact Ng _ hp
   have e1:(2*c+1)*pw h=lo+pw h:=by rw[LI,LP,<-hc]
   have e2:2*c / 2=c:=by omega
   have e3:c*pw (h+1)=lo:=by rw[QJ];exact hc.symm
   rw[hk];refine⟨by show lo<=2*c*pw h;omega,by show(2*c+1)*pw h<=hi;omega,fun i i1 i2=>by dsimp only at i2;omega,fun i i1 i2 => ?_,fun hall => ?_,?_⟩
   ·dsimp only at i1 i2;exact⟨by omega,by omega⟩
   ·dsimp only at hall
    rw[e2] at hall;have:=hall hi (by omega) (by rw[LI,LP,e3];omega)
    exact absurd this.2 (NB _)
   ·dsimp only
    rw[e1];exact ih (lo+pw h) ⟨2*c+1,e1.symm⟩ (by omega) (by omega) (by omega)
  ·exact ih lo ⟨2*c,hc⟩ (by omega) h3 h4
theorem pw40{h:Nat}(hh:pw h<=2^40):h<=40:=by
 by_cases h1:h<=40
 ·exact h1
 ·have h2:pw 41<=pw h:=JV (by omega)
  have h3:pw 41=2^41:=rfl;omega
theorem J8{lo hi h:Nat}(hl:hi - lo<pw h):dnL (h+1) lo hi=dnL h lo hi:=by
 rw[dnL,if_neg (by omega)]
theorem Qm3(lo0 hi:Nat)(hhi:hi<=2^40) : ∀f h lo,f+h=42->h<=41->(∃c,lo=c*pw h)->lo0<=lo->lo<lo0+pw h->lo<=hi->Til (Rg lo0 hi) hi lo (upL f h lo hi):=by
 intro f
 induction f with
 | zero=>intro h lo h1 h2;omega
 | succ f ih =>
  intro h lo h1 h2 h3 h4 h5 h6;obtain⟨c,hc⟩:=h3;have hp:=QB h;have hps:=QK h;rw[upL]
  split
  ·rename_i hfit
   have hh:h<=40:=pw40 (by omega)
   have hk:lo / pw h=c:=by rw[hc];exact Ng _ hp
   rw[hk];have e1:(c+1)*pw h=lo+pw h:=by rw[LI,LP,<-hc]
   split
   ·rename_i hodd
    have e2:c / 2*pw (h+1)+pw h=lo:=by
     rw[QJ,hc];have:c=2*(c / 2)+1:=by omega
     conv=>rhs;rw[this,LI,LP]
    have e3:(c+1) / 2*pw (h+1)=lo+pw h:=by
     rw[QJ,<-e1];have:c+1=2*((c+1) / 2):=by omega
     conv=>rhs;rw[this]
    refine⟨by show lo<=c*pw h;omega,by show(c+1)*pw h<=hi;omega,fun i i1 i2=>by dsimp only at i2;omega,fun i i1 i2 => ?_,fun hall => ?_,?_⟩
    ·dsimp only at i1 i2;exact⟨by omega,by omega⟩
    ·dsimp only at hall
     have:=hall _ (Lb _) (Yr _ _);have:=this.1;omega
    ·dsimp only
     rw[e1];exact ih (h+1) (lo+pw h) (by omega) (by omega) ⟨_,e3.symm⟩ (by omega) (by omega) (by omega)
   ·rename_i hev
    refine ih (h+1) lo (by omega) (by omega) ⟨c / 2,?_⟩ h4 (by omega) h6
    rw[QJ,hc];have:c=2*(c / 2):=by omega
    conv=>lhs;rw[this]
  ·rename_i hno
   rw[J8 (by omega)]
   exact Qmf lo0 hi h lo ⟨c,hc⟩ (by omega) h4 h6
theorem J7(lo hi:Nat)(h:lo<=hi)(hhi:hi<=2^40):Til (Rg lo hi) hi lo (cov lo hi) :=
 Qm3 lo hi hhi 42 0 lo rfl (by decide) ⟨lo,by simp[pw]⟩ (Lb _) (by rw[Ue];omega) h
theorem Qih(lo:Nat):cov lo lo=[]:=by simp[cov,upL,pw,dnL]
theorem YI : ∀h lo hi,(dnL h lo hi).length<=h:=by
 intro h
 induction h with
 | zero=>intro lo hi;exact Lb _
 | succ h ih =>
  intro lo hi;rw[dnL]
  split
  ·have:=ih (lo+pw h) hi;simp;omega
  ·have:=ih lo hi;omega
theorem Qm1(hi:Nat)(hhi:hi<=2^40) : ∀f h lo,f+h=42->h<=40->lo<=hi->(upL f h lo hi).length<=80 - h:=by
 intro f
 induction f with
 | zero=>intro h lo h1 h2;omega
 | succ f ih =>
  intro h lo h1 h2 h3
  by_cases h40:h=40
  ·subst h40;obtain rfl:f=1:=by omega
   by_cases hfit:pw 40<=hi - lo
   ·have e:pw 40=2^40:=rfl;obtain rfl:lo=0:=by omega
    obtain rfl:hi=2^40:=by omega
    decide
   ·rw[upL,if_neg hfit,J8 (by omega)]
    have:=YI 40 lo hi;omega
  ·rw[upL]
   split
   ·split
    ·have:=ih (h+1) (lo+pw h) (by omega) (by omega) (by omega)
     simp;omega
    ·have:=ih (h+1) lo (by omega) (by omega) h3
     omega
   ·rw[J8 (by omega)]
    have:=YI h lo hi;omega
theorem OQ(lo hi:Nat)(h:lo<=hi)(hhi:hi<=2^40):(cov lo hi).length<=80:=Qm1 hi hhi 42 0 lo rfl (by decide) h
theorem Qkj{lo hi h:Nat}(hl:hi - lo<pw h) : ∀d,dnL (h+d) lo hi=dnL h lo hi:=by
 intro d
 induction d with
 | zero=>rfl
 | succ d ih =>
  have:pw h<=pw (h+d):=JV (by omega)
  rw[<-If,J8 (by omega),ih]
theorem Qlz(n:Nat)(hn:n<=2^40) : ∀f h,f+h=42->h<=41->upL f h 0 n=dnL 41 0 n:=by
 intro f
 induction f with
 | zero=>intro h h1 h2;omega
 | succ f ih =>
  intro h h1 h2;rw[upL]
  split
  ·rename_i hfit
   have:=pw40 (h:=h) (by omega)
   rw[Nat.zero_div,if_neg (by decide)]
   exact ih (h+1) (by omega) (by omega)
  ·rename_i hno
   rw[J8 (by omega),show 41=h+(41 - h) by omega,Qkj (by omega)]
theorem QH(n:Nat)(hn:n<=2^40):cov 0 n=dnL 41 0 n:=Qlz n hn 42 0 rfl (by decide)
theorem Qi8 : ∀h d,d<pw (h+1)->Y5 (h+1) d=d / pw h+Y5 h (d % pw h):=by
 intro h
 induction h with
 | zero=>intro d hd;simp[Y5,pw] at *;omega
 | succ h ih =>
  intro d hd;have e1:d % pw (h+1)=d % 2+2*(d / 2 % pw h):=by rw[QK,Wf]
  have e2:d / pw (h+1)=d / 2 / pw h:=by rw[QK,Nc]
  rw[Y5,ih (d / 2) (by rw[QK] at hd;omega),e1,e2,Y5]
  have e3:(d % 2+2*(d / 2 % pw h)) % 2=d % 2:=by omega
  have e4:(d % 2+2*(d / 2 % pw h)) / 2=d / 2 % pw h:=by omega
  rw[e3,e4];omega
theorem Qkk : ∀h lo hi,hi - lo<pw h->(dnL h lo hi).length=Y5 h (hi - lo):=by
 intro h
 induction h with
 | zero=>intro lo hi _;rfl
 | succ h ih =>
  intro lo hi hl;have hp:=QB h;have hps:=QK h;rw[Qi8 h _ hl,dnL]
  split
  ·rename_i hfit
   have e1:(hi - lo) / pw h=1:=by rw[We hp];omega
   have e2:(hi - lo) % pw h=hi - (lo+pw h):=by rw[Nat.mod_eq_sub_mod hfit,Nx (by omega)];omega
   rw[e1,e2,Lu,ih (lo+pw h) hi (by omega)];omega
  ·rename_i hno
   rw[Il (by omega),Nx (by omega),ih lo hi (by omega)];omega
theorem QkS(j d n:Nat)(h:n<2^j):Y5 (j+d) n=Y5 j n:=by
 induction d with
 | zero=>rfl
 | succ d ih=>rw[<-If,Qhn _ _ (LS h (L5 (by decide) (by omega))),ih]
theorem OR(n:Nat)(hn:n<=2^40):(cov 0 n).length=Y5 64 n:=by
 rw[QH n hn, Qkk 41 0 n (by have : pw 41 = 2 ^ 41:=rfl
                            omega)]
 exact(QkS 41 23 n (by omega)).symm
theorem Uu(n:Nat)(hn:n<=2^40):(cov 0 n).length<=40:=by
 by_cases h:n=2^40
 ·subst h;decide
 ·rw[QH n hn, show(41 : Nat) = 40+1 from rfl, J8 (by have : pw 40 = 2 ^ 40:=rfl
                                                     omega)]
  exact YI 40 0 n
end Cv
end Go.Proofs.YtdocjikpcbmcgaaGreatDoor
