/- Own work. -/
import Derived.Test.YtdocjikpcbmcgaaGreatDoorQn15
set_option maxRecDepth 100000
set_option maxHeartbeats 4000000
namespace Go.Proofs.YtdocjikpcbmcgaaGreatDoor
open Go.RowKit
attribute [local go_sem ↓] Go.wp_at_zero Go.wp_at_succ
open Go.Proofs.Tryz
structure Tr(w:World):Prop where
 rr:w.rangeAt 1 0 (cW RS)
 iv:w.rangeAt 0 0 (cW IV)
theorem Tr.next{w W:World}(h:Tr w)(hb:Zb w W):Tr W :=
 ⟨Ql hb (QU h.rr (QiT (by rw[Qdo];decide))) h.rr,Ql hb (QU h.iv (QiT (by decide))) h.iv⟩
theorem Qd1(w:World)(ht:Tr w)(t:BA)(hs:t.size<1152921504606846976)(r:BA)(hr:Jd RS (tB t)=r) :
  Calls prog 31 #[.slice (some ⟨w.heap.size,0,none⟩) 1 1] (w.alloc (.cells #[.string t] 9)) fun e w'=>e = .returned (.string r)∧Zb w w':=by
 subst hr;have e:Yl [t]=tB t:=by simp[Yl]
 refine(Qih _ (some ⟨w.heap.size,0,none⟩) w.heap.size 0 1 1 [t] rfl (fun _=>rfl) (Qu w [.string t] 9) (by decide) RS Qdo (World.rangeAt_alloc ht.rr _) (World.rangeAt_alloc ht.iv _) (by rw[e,Yz];exact hs)).mono fun e' w' ⟨he,hb'⟩=>⟨?_,?_⟩
 ·rw[he,e]
 ·exact((Lb _ _).alloc (Ld _) _).trans (hb'.mono (by simp))
theorem J9(w:World)(ht:Tr w)(k:Int)(t:BA)(hs:t.size<1152921504606846976)(r:BA)(hr:dg (clk k) t=r) :
  Zr 51 #[.int .i64 k,.string t] w (.string r):=by
 subst hr;have HS:=Qd1 w ht t hs _ rfl;unfold dg;have hz:=Je RS (tB t);generalize Jd RS (tB t)=z at *;clear ht hs;unfold clk
 go_enter func51,ntmps51
 by_cases h1:k<1
 ·rw[Lm h1]
  go_wp2_with (go_at_call 31;with_reducible refine HS.mono ?_;rintro e w1 ⟨rfl,xA⟩)
  go_ret
  exact⟨rfl,xA⟩
 ·by_cases h2:32<k
  ·rw[Le h1,Lm h2]
   go_wp2_with (go_at_call 31;with_reducible refine HS.mono ?_;rintro e w1 ⟨rfl,xA⟩)
   go_ret
   exact⟨rfl,xA⟩
  ·rw[Le h1,Le h2];obtain⟨c,rfl⟩ : ∃c:Nat,k=(c:Int):=⟨k.toNat,by omega⟩
   have h3:(0:Int)<=(c:Int):=by omega
   have h4:(c:Int)<=32:=by omega
   rw[IJ]
   go_wp2_with (go_at_call 31;with_reducible refine HS.mono ?_;rintro e w1 ⟨rfl,xA⟩)
   go_ret
   exact⟨rfl,xA⟩
theorem Qy(w:World)(k:Int):Calls prog 20 #[.int .i64 k] w fun e w'=>e = .returned (.int .i64 (chk k))∧w'=w:=by
 unfold chk
 go_enter func20,ntmps20
 by_cases h1:k<1
 ·rw[Lm (.inl h1)];go_wp2
  go_ret
  simp
 ·by_cases h2:32<k
  ·rw[Lm (.inr h2)];go_wp2
   go_ret
   simp
  ·rw[Le (by omega)]
   go_wp2
   go_ret
   simp
theorem UU(w:World)(f:Int)(a b:BA)(hs:a.size<2305843009213693952)(hs2:b.size<2305843009213693952)(r:BA)(hr:(Q4 [f]++a)++b=r) :
  Zr 100 #[.int .u8 f,.string a,.string b] w (.string r):=by
 subst hr;have cv:=JE w f;have hz:=Uk f;generalize Q4 [f]=z at *;have xB : ¬(9223372036854775807<1+a.size):=by omega
 have xA : ¬(9223372036854775807<1+a.size+b.size):=by omega
 go_enter func100,ntmps100;go_wp2
 go_ret
 exact⟨rfl,bal (Lb _ _) _⟩
theorem QkZ(a:BA):a++(⟨#[]⟩:BA)=a:=by
 have:=ByteArray.append_empty (b:=a);exact this
theorem Jn(w:World)(s:BA)(hs:s.size<2305843009213693952) :
  Zr 93 #[.string s] w (.string (Qh s)):=by
 have HT:=UU w 0 s ⟨#[]⟩ hs (by decide) (Qh s) (by rw[QkZ];rfl)
 generalize Qh s=r at *
 go_enter func93,ntmps93
 go_wp2_with (go_at_call 100;with_reducible refine HT.mono ?_;rintro e w1 ⟨rfl,xA⟩)
 go_ret
 exact⟨rfl,xA⟩
theorem Jo(w:World)(a b:BA)(hs:a.size<2305843009213693952)(hs2:b.size<2305843009213693952) :
  Zr 91 #[.string a,.string b] w (.string (QH a b)):=by
 have HT:=UU w 1 a b hs hs2 (QH a b) rfl;generalize QH a b=r at *
 go_enter func91,ntmps91
 go_wp2_with (go_at_call 100;with_reducible refine HT.mono ?_;rintro e w1 ⟨rfl,xA⟩)
 go_ret
 exact⟨rfl,xA⟩
theorem QaR(w:World)(a b:BA)(hs:a.size<2305843009213693952)(hs2:b.size<2305843009213693952)(r:BA)(hr:Uq a b=r) :
  Zr 88 #[.string a,.string b] w (.string r):=by
 have HT:=UU w 2 a b hs hs2 r hr
 go_enter func88,ntmps88
 go_wp2_with (go_at_call 100;with_reducible refine HT.mono ?_;rintro e w1 ⟨rfl,xA⟩)
 go_ret
 exact⟨rfl,xA⟩
theorem JQ(w:World)(ht:Tr w)(k:Int)(s:BA)(hs:s.size<140737488355328)(r:BA)(hr:dg (clk k) (Qh s)=r) :
  Zr 98 #[.int .i64 k,.string s] w (.string r):=by
 have HL:=Jn w s (by omega)
 have HO:Hr w 51 #[.int .i64 k,.string (Qh s)] (.string r):=fun W hb=>J9 W (ht.next hb) k _ (by rw[Yu];omega) r hr
 clear hr ht hs;generalize Qh s=t at *
 go_enter func98,ntmps98
 go_wp2_with (first
  | (go_at_call 93;with_reducible refine HL.mono ?_;rintro e w1 ⟨rfl,xA⟩)
  | (go_at_call 51;with_reducible refine(HO.out _ xA).mono ?_;rintro e w2 ⟨rfl,xB⟩))
 go_ret
 exact⟨rfl,Qa xA xB⟩
theorem QaS(w:World)(ht:Tr w)(k:Int)(a b:BA)(hs:a.size<140737488355328)(hs2:b.size<140737488355328)(r:BA)(hr:dg (clk k) (QH a b)=r) :
  Zr 101 #[.int .i64 k,.string a,.string b] w (.string r):=by
 have HL:=Jo w a b (by omega) (by omega)
 have HO:Hr w 51 #[.int .i64 k,.string (QH a b)] (.string r):=fun W hb=>J9 W (ht.next hb) k _ (by rw[Yw];omega) r hr
 clear hr ht hs hs2;generalize QH a b=t at *
 go_enter func101,ntmps101
 go_wp2_with (first
  | (go_at_call 91;with_reducible refine HL.mono ?_;rintro e w1 ⟨rfl,xA⟩)
  | (go_at_call 51;with_reducible refine(HO.out _ xA).mono ?_;rintro e w2 ⟨rfl,xB⟩))
 go_ret
 exact⟨rfl,Qa xA xB⟩
theorem Qcm(w:World)(n:Nat)(hn:n<18446744073709551616) :
  Calls prog 140 #[.int .u64 (n:Int)] w fun x w'=>x = .returned (.string ⟨(num n).toArray⟩)∧Zb w w':=by
 have HL:=Qg (Ym (n:=n) hn)
 go_enter func140,ntmps140;go_wp2
 go_loopg [0,3] n (fun g x v wr => ∃(m:Nat) (pre:List UInt8),m=g∧x = .int .u64 (m:Int)∧OwnY wr w.heap.size v pre∧Hid (pre++num m=num n∧m<=n)∧Zb w wr)
 case atStart=>go_light;exact⟨n,[],rfl,rfl,LT _ _ _ _,⟨rfl,Ld _⟩,Lb _ _⟩
 case round =>
  obtain⟨m,pre,hg,rfl,xA,HP,hb⟩:=hrel;subst hg;have HS:Hid (pre.length<=10∧w.heap.size<=wr.heap.size):=by
   have:=LU List.length HP.out.1;rw[Lg] at this;have:=HL.out;exact⟨by omega,hb.size⟩
  by_cases hm:m<128
  ·have xD:(m:Int)<128:=by omega
   have HY:=Qg (QB (x:=m) (by omega)).symm
   have HR:Hid (pre++[UInt8.ofNat m]=num n):=by
    have:=HP.out.1;rw[Qba hm] at this;exact this
   go_wp2_with (at_builtin;refine JA _ rfl _ _ rfl w.heap.size _ pre rfl xA m (UInt8.ofNat m) HY.out rfl ?c1 ?c2 ?_)
   case c1=>have:=HS.out;omega
   case c2=>exact HS.out.2
   intro v' w2 r1 r2;have xC:=Qh5 r1;rw[HR.out] at xC;go_wp2
   go_ret
   exact⟨rfl,hb.trans r2⟩
  ·have xD : ¬(m:Int)<128:=by omega
   have xE:(128:Int)<=(m:Int):=by omega
   obtain⟨c,hc⟩ : ∃c,c=UInt8.ofNat (m % 128+128):=⟨_,rfl⟩;obtain⟨y,hy⟩ : ∃y,y=c.toNat:=⟨_,rfl⟩;have ey:(m:Int) % 128+128=(y:Int):=by rw[hy,hc,QB (by omega)];omega
   have HY:=Qg hy;clear hy;have HR:Hid ((pre++[c])++num (m / 128)=num n∧m / 128<=n):=by
    have:=HP.out;rw[OT (by omega),<-hc] at this
    exact⟨by rw[<-this.1];simp,by omega⟩
   clear hc;have ew:IntKind.u64.wrap ((m:Int) / 128)=(m:Int) / 128:=by
    have:=HP.out.2;rw[IntKind.wrap_u64];omega
   have HQ:Hid ((m:Int) / 128=((m / 128:Nat):Int)∧m / 128<m):=⟨by omega,by omega⟩
   go_wp2_with (at_builtin;refine JA _ rfl _ _ rfl w.heap.size _ pre rfl xA y c HY.out rfl ?c1 ?c2 ?_)
   case c1=>have:=HS.out;omega
   case c2=>exact HS.out.2
   intro v' w2 r1 r2;have xB:=hb.trans r2;clear r2 hb xA;go_wp2
   go_roundg (m / 128)
   case rel=>go_light;exact⟨m / 128,_,rfl,by rw[<-HQ.out.1],r1,HR.out,xB⟩
   case measure=>go_light;exact HQ.out.2
abbrev rv(T:BA)(a e:Nat):Value := .agg #[.string T,.int .i64 (a:Int),.int .i64 (e:Int)]
theorem Ys{B:Nat}{a w:World}(h:Below B a w):Below B a w.drew:=⟨h.os,h.tape,h.output,h.size,h.block⟩
theorem QW(w:World)(o o':Obj):Zb w ((w.alloc o).alloc o'):=bal (bal (Lb _ _) o) o'
theorem JR(w:World)(T:BA)(a e n:Nat)(ha:a<=T.size)(hn:n=if e=0 then T.size - a else 0)(hT:T.size<=9223372036854775807) :
  Calls prog 137 #[rv T a e] w fun x w'=>x = .returned (.int .i64 (n:Int))∧Zb w w':=by
 by_cases he:e=0
 ·subst he;rw[Lm rfl] at hn;have eq:(T.size:Int) - (a:Int)=(n:Int):=by omega
  clear hn
  go_enter func137,ntmps137;go_wp2
  go_ret
  exact⟨rfl,(Lb _ _).alloc (Ld _) _⟩
 ·rw[Le he] at hn;subst hn;have hz : ¬(e:Int)=0:=by omega
  go_enter func137,ntmps137;go_wp2
  go_ret
  exact⟨rfl,(Lb _ _).alloc (Ld _) _⟩
def rtk(T:BA)(a e:Nat)(n:Int):Nat×Nat×BA :=
 if e≠0 then (a,e,ByteArray.empty) else if n<0∨((T.size - a:Nat):Int)<n then (a,60,ByteArray.empty) else (a+n.toNat,0,T.extract a (a+n.toNat))
theorem Qff(w:World)(T:BA)(a e:Nat)(n:Int)(ha:a<=T.size)(hT:T.size<=9223372036854775807) :
  Calls prog 138 #[rv T a e,.int .i64 n] w fun x w'=>x = .returned (.tuple #[rv T (rtk T a e n).1 (rtk T a e n).2.1,.string (rtk T a e n).2.2,.int .i64 ((rtk T a e n).2.1:Int)])∧Zb w w':=by
 by_cases he:e=0
 ·subst he
  by_cases hn:n<0∨((T.size - a:Nat):Int)<n
  ·have ht:rtk T a 0 n=(a,60,ByteArray.empty):=by rw[rtk,Le (by simp),Lm hn]
   rw[ht];have hd:(T.size:Int) - (a:Int)=((T.size - a:Nat):Int):=by omega
   generalize T.size - a=q at *
   by_cases h0:n<0
   ·go_enter func138,ntmps138;go_wp2
    go_region
    go_wp2;refine Lp (v := .tuple #[rv T a 60,.string ByteArray.empty,.int .i64 60]) (by simp[results,results138,go_sem];rfl) rfl ⟨rfl,?_⟩
    exact Ys (QW w _ _)
   ·have h1:(q:Int)<n:=by omega
    go_enter func138,ntmps138;go_wp2
    go_region
    go_wp2;refine Lp (v := .tuple #[rv T a 60,.string ByteArray.empty,.int .i64 60]) (by simp[results,results138,go_sem];rfl) rfl ⟨rfl,?_⟩
    exact Ys (QW w _ _)
  ·obtain⟨k,rfl⟩ : ∃k:Nat,n=k:=⟨n.toNat,by omega⟩
   have ht:rtk T a 0 (k:Int)=(a+k,0,T.extract a (a+k)):=by rw[rtk,Le (by simp),Le hn];simp
   rw[ht];have hd:(T.size:Int) - (a:Int)=((T.size - a:Nat):Int):=by omega
   have h0 : ¬(k:Int)<0:=by omega
   have h1 : ¬((T.size - a:Nat):Int)<(k:Int):=by omega
   obtain⟨b,hb⟩ : ∃b,b=a+k:=⟨_,rfl⟩;have e1:(a:Int)+(k:Int)=(b:Int):=by omega
   have e2:(a:Int)<=(b:Int):=by omega
   have e3:(b:Int)<=(T.size:Int):=by omega
   rw[<-hb];clear ht hn hb;generalize T.size - a=q at *
   go_enter func138,ntmps138;go_wp2;refine Lp (v := .tuple #[rv T b 0,.string (T.extract a b),.int .i64 0]) (by simp[results,results138,go_sem]) rfl ⟨rfl,?_⟩
   exact QW w _ _
 ·have ht:rtk T a e n=(a,e,ByteArray.empty):=by rw[rtk,Lm he]
  rw[ht];have hz : ¬(e:Int)=0:=by omega
  go_enter func138,ntmps138;go_wp2
  go_region
  go_wp2;refine Lp (v := .tuple #[rv T a e,.string ByteArray.empty,.int .i64 e]) (by simp[results,results138,go_sem];rfl) rfl ⟨rfl,?_⟩
  exact Ys (QW w _ _)
def rnb(T:BA)(a e:Nat):Nat×Nat×Nat :=
 if e≠0 then (a,e,0) else (if (Yf (T.data.toList.drop a) 0 0).2.1=0 then a+(Yf (T.data.toList.drop a) 0 0).2.2 else a,(Yf (T.data.toList.drop a) 0 0).2.1,(Yf (T.data.toList.drop a) 0 0).1)
theorem Qgf{T:BA}{a n k:Nat}(h:Yf (T.data.toList.drop a) 0 0=(n,0,k)):rnb T a 0=(a+k,0,n):=by
 simp[rnb,h]
theorem Qbk{T:BA}{a n e k:Nat}(h:Yf (T.data.toList.drop a) 0 0=(n,e,k))(he:e≠0):rnb T a 0=(a,e,n):=by
 simp[rnb,h,he]
theorem mul7(n b k o:Nat)(ho:o=128^k)(hn:n<128^k)(hk:k<=9)(h:k=9->b<=1) :
  ∃x m,IntKind.u64.wrap ((o:Int)*((b:Int) % 128))=((x:Nat):Int)∧IntKind.u64.wrap ((n:Int)+(x:Int))=((m:Nat):Int)∧m=n+b % 128*128^k∧x<18446744073709551616∧m<18446744073709551616:=by
 obtain⟨_,h2⟩:=or7 n b k hn hk h;subst ho;have e:((128^k:Nat):Int)*((b:Int) % 128)=((b % 128*128^k:Nat):Int):=by
  rw[Int.mul_comm,Id];rfl
 refine⟨b % 128*128^k,n+b % 128*128^k,?_,?_,rfl,by omega,h2⟩
 ·rw[e,IntKind.wrap_u64];omega
 ·rw[IntKind.wrap_u64];omega
theorem pow7(k:Nat)(hk:k<9)(o:Nat)(ho:o=128^k):IntKind.u64.wrap ((o:Int)*128)=((o*128:Nat):Int)∧o*128=128^(k+1):=by
 subst ho;have hp:128^(k+1)<=128^9:=Qbf (by omega)
 have e9:(128:Nat)^9=9223372036854775808:=by decide
 rw[LM] at hp;refine⟨?_,(LM ..).symm⟩
 rw[IntKind.wrap_u64];omega
theorem UT(w:World)(T:BA)(a e:Nat)(ha:a<=T.size)(hT:T.size<=9223372036854775000) :
  Calls prog 136 #[rv T a e] w fun x w'=>x = .returned (.tuple #[rv T (rnb T a e).1 (rnb T a e).2.1,.int .u64 ((rnb T a e).2.2:Int),.int .i64 ((rnb T a e).2.1:Int)])∧Zb w w':=by
 by_cases he:e=0
 ·subst he
  go_enter func136,ntmps136;go_wp2
  go_loopg [5,6,7] 10 (fun g x o i wr=>(w.alloc (.cells #[.string T,.int .i64 (a:Int),.int .i64 0] 181)).alloc (.cells #[.string ByteArray.empty,.int .i64 0,.int .i64 0] 181)=wr ∧
   ∃(k n p:Nat),a+k<=T.size∧k<=9∧10 - k=g∧x = .int .u64 (n:Int)∧o = .int .u64 (p:Int)∧i = .int .i64 k∧Hid (p=128^k∧n<128^k∧Yf (T.data.toList.drop (a+k)) k n=Yf (T.data.toList.drop a) 0 0))
  case atStart=>go_light;exact⟨rfl,0,0,1,by omega,by omega,rfl,rfl,rfl,rfl,rfl,by decide,rfl⟩
  case round =>
   obtain⟨rfl,k,n,p,hk,h9,rfl,rfl,rfl,rfl,HS⟩:=hrel;obtain⟨j,hj⟩ : ∃j,j=a+k:=⟨_,rfl⟩;have ej:(a:Int)+(k:Int)=(j:Int):=by omega
   obtain⟨hp,hn,xA⟩:=HS.out;rw[<-hj] at xA hk;have HJ:=Qg hj;clear HS hj
   by_cases hlt:j<T.size
   ·have hz : ¬(T.size:Int)<=(j:Int):=by omega
    have xL:(j:Int)<(T.size:Int):=by omega
    obtain⟨b,hb⟩:=Ze (T[j].toNat);have xJ:b<256:=by rw[<-hb];exact T[j].toNat_lt
    rw[Qa5 T j hlt,Yf,hb] at xA
    by_cases hi:k=9∧1<b
    ·obtain⟨rfl,hi⟩:=hi;have xD:(a:Int)+9=(j:Int):=ej;clear ej;rw[Lm ⟨rfl,hi⟩] at xA;have HT:=Qg (Qbk xA.symm (by decide))
     have xK:(1:Int)<(b:Int):=by omega
     clear xA hn hp;go_wp2
     go_region
     go_wp2;refine Lp (v := .tuple #[rv T a 61,.int .u64 0,.int .i64 61]) (by simp[results,results136,go_sem]) rfl ?_
     rw[HT.out];exact⟨rfl,Ys (QW w _ _)⟩
    ·obtain⟨x,m,ex,em,hm,hx,xC⟩:=mul7 n b k p hp hn h9 (by omega)
     rw[Le hi] at xA
     by_cases hl:b<128
     ·rw[Lm hl,<-show b % 128=b from NI hl,<-hm,show b % 128=b from NI hl] at xA
      have xG:(b:Int)<128:=by omega
      by_cases h0:b=0∧0<k
      ·rw[Lm h0] at xA;have HT:=Qg (Qbk xA.symm (by decide))
       obtain⟨rfl,h0⟩:=h0;have xH:(0:Int)<(k:Int):=by omega
       clear xA hn hm hp ex em hx xC
       by_cases hk9:k=9
       ·subst hk9;have xD:(a:Int)+9=(j:Int):=ej;clear ej;go_wp2
        go_region
        go_wp2;refine Lp (v := .tuple #[rv T a 61,.int .u64 0,.int .i64 61]) (by simp[results,results136,go_sem]) rfl ?_
        rw[HT.out];exact⟨rfl,Ys (QW w _ _)⟩
       ·have hq : ¬(k:Int)=9:=by omega
        go_wp2
        go_region
        go_wp2;refine Lp (v := .tuple #[rv T a 61,.int .u64 0,.int .i64 61]) (by simp[results,results136,go_sem]) rfl ?_
        rw[HT.out];exact⟨rfl,Ys (QW w _ _)⟩
      ·rw[Le h0] at xA;have HT:Hid (rnb T a 0=(j+1,0,m)):=by show _=_;rw[Qgf xA.symm,HJ.out];rfl
       clear xA hn hm hp
       by_cases hk9:k=9
       ·subst hk9;have xD:(a:Int)+9=(j:Int):=ej;clear ej;have xI : ¬(1:Int)<(b:Int):=by omega
        have xE : ¬(b:Int)=0:=by omega
        go_wp2;refine Lp (v := .tuple #[rv T (j+1) 0,.int .u64 (m:Int),.int .i64 0]) (by simp[results,results136,go_sem]) rfl ?_
        rw[HT.out];exact⟨rfl,QW w _ _⟩
       ·have hq : ¬(k:Int)=9:=by omega
        by_cases hk0:k=0
        ·subst hk0;obtain rfl:j=a:=by have:=HJ.out;omega
         clear ej;go_wp2;refine Lp (v := .tuple #[rv T (j+1) 0,.int .u64 (m:Int),.int .i64 0]) (by simp[results,results136,go_sem]) rfl ?_
         rw[HT.out];exact⟨rfl,QW w _ _⟩
        ·have xB:(0:Int)<(k:Int):=by omega
         have xE : ¬(b:Int)=0:=by omega
         go_wp2;refine Lp (v := .tuple #[rv T (j+1) 0,.int .u64 (m:Int),.int .i64 0]) (by simp[results,results136,go_sem]) rfl ?_
         rw[HT.out];exact⟨rfl,QW w _ _⟩
     ·have hq : ¬(k:Int)=9:=by omega
      have xG : ¬(b:Int)<128:=by omega
      have xE : ¬(b:Int)=0:=by omega
      obtain⟨ep,xF⟩:=pow7 k (by omega) p hp
      have HS:Hid (p*128=128^(k+1)∧m<128^(k+1)∧Yf (T.data.toList.drop (a+(k+1))) (k+1) m=Yf (T.data.toList.drop a) 0 0):=by
       rw[Le hl,<-hm] at xA;refine⟨xF,?_,by have:=HJ.out;rw[show a+(k+1)=j+1 by omega];exact xA⟩
       rw[hm,LM];have:b % 128*128^k<=127*128^k:=LE _ (by omega)
       omega
      clear xA hn hm hp xF
      by_cases hk0:k=0
      ·subst hk0;obtain rfl:j=a:=by have:=HJ.out;omega
       clear ej;go_wp2
       go_roundg (10 - (0+1))
       case rel=>go_light;exact⟨rfl,0+1,m,p*128,by have:=HJ.out;omega,by omega,rfl,rfl,rfl,by go_num,HS.out⟩
       case measure=>go_light;omega
      ·have xB:(0:Int)<(k:Int):=by omega
       go_wp2
       go_roundg (10 - (k+1))
       case rel=>go_light;exact⟨rfl,k+1,m,p*128,by have:=HJ.out;omega,by omega,rfl,rfl,rfl,by go_num,HS.out⟩
       case measure=>go_light;omega
   ·obtain rfl:j=T.size:=by omega
    rw[Nm (by simp),Yf] at xA
    have HT:=Qg (Qbk xA.symm (by decide))
    clear xA hn hp;go_wp2
    go_region
    go_wp2;refine Lp (v := .tuple #[rv T a 60,.int .u64 0,.int .i64 60]) (by simp[results,results136,go_sem]) rfl ?_
    rw[HT.out];exact⟨rfl,Ys (QW w _ _)⟩
 ·have ht:rnb T a e=(a,e,0):=by rw[rnb,Lm he]
  rw[ht];have hz : ¬(e:Int)=0:=by omega
  go_enter func136,ntmps136;go_wp2
  go_region
  go_wp2;refine Lp (v := .tuple #[rv T a e,.int .u64 0,.int .i64 e]) (by simp[results,results136,go_sem]) rfl ⟨rfl,?_⟩
  exact Ys (QW w _ _)
section
open Cv Pl
def OkN(size:Nat)(S:List Nat)(j:Nat):Prop := ∀i,i<j->S.getD i 0<size∧(0<i->S.getD (i - 1) 0<S.getD i 0)
theorem Qe1{size j:Nat}{S:List Nat}(h:OkN size S j)(h1:S.getD j 0<size)(h2:0<j->S.getD (j - 1) 0<S.getD j 0):OkN size S (j+1):=by
 intro i hi
 by_cases e:i=j
 ·subst e;exact⟨h1,h2⟩
 ·exact h i (by omega)
theorem Qjj{size:Nat}{S:List Nat}(h:QR size S=0):OkN size S S.length:=by
 obtain⟨h1,h2,h3,h4⟩:=QJ h;intro i hi;have hc:=Y9 h4 i hi;refine⟨hc.1,fun h0=>hc.2.2 (i - 1) (by omega)⟩
theorem QjR{size:Nat}{S:List Nat}(hn:size<=2^40)(h0:0<S.length)(h:OkN size S S.length):QR size S=0:=by
 refine QcO (QeE S 0 size (fun i hi => ?_) (fun _=>Ll _) (fun hl=>(h _ (by omega)).1) (Ll _)) (fun e=>by rw[e] at h0;exact absurd h0 (by decide)) hn
 have:=(h (i+1) hi).2 (by omega)
 simpa using this
theorem Qlc{kd k:Int}{old size:Nat}{S:List Nat}(hk:1<=k∧k<=32∧size<=2^40)(hkd:kd=1∨kd=2):(cnt kd k old size S).isSome=decide (old=0∧(kd=1->S.length=1)∧QR size S=0):=by
 rcases hkd with rfl|rfl
 ·rw[cnt,Lm hk,Lm rfl]
  by_cases h:old=0∧S.length=1∧QR size S=0
  ·rw[Lm h,Ln ⟨h.1,fun _=>h.2.1,h.2.2⟩];rfl
  ·rw[Le h,Lj (fun g=>h ⟨g.1,g.2.1 rfl,g.2.2⟩)];rfl
 ·rw[Qap hk]
  by_cases h:old=0∧QR size S=0
  ·rw[Lm h,Ln ⟨h.1,fun e=>absurd e (by decide),h.2⟩];rfl
  ·rw[Le h,Lj (fun g=>h ⟨g.1,g.2.2⟩)];rfl
theorem Qji{size:Nat}{S:List Nat}(h:QR size S=0):0<S.length:=(QJ h).2.1.1
section
variable (w:World) (kd k:Int) (old size:Nat) (sa:OA) (sb so sc:Nat) (S:List Nat) (dv:Value)
theorem Jp(rs:RdU w sa sb so S.length S)(hS:S.length<=17592186044416) :
  Zr 187 #[pv6 kd k old size (.slice sa S.length sc) dv] w (.bool (cnt kd k old size S).isSome):=by
 obtain⟨W0,hW,h6,hb,hz⟩:=Yk w (.int .i64 kd) (.int .i64 k) (.int .u64 (old:Int)) (.int .u64 (size:Int)) (.slice sa S.length sc) dv;have HX:Hid (∀W,Zb W0 W->Six W w.heap.size (.int .i64 kd) (.int .i64 k) (.int .u64 (old:Int)) (.int .u64 (size:Int)) (.slice sa S.length sc) dv∧RdU W sa sb so S.length S∧Zb w W):=fun W hw=>⟨h6.next hw,rs.next (Qa hb hw),Qa hb hw⟩
 obtain⟨e0,e1,e2,e3,e4,e5⟩:=h6.cells;have HB:=Qg hb;have xW:(S.length:Int)<=17592186044416:=by omega
 clear h6 hb hz rs
 show Calls prog 187 #[pv6 kd k old size (.slice sa S.length sc) dv] w _
 by_cases hk0:1<=kd∧kd<=3∧1<=k∧k<=32∧size<=1099511627776
 rotate_left
 ·have xK:(cnt kd k old size S).isSome=false:=by
   by_cases h1:kd=1∨kd=2∨kd=3
   ·rw[Qdw (by have : (2:Nat) ^ 40 = 1099511627776:=by decide
               omega)];rfl
   ·rw[JZ (by omega) (by omega) (by omega)];rfl
  rw[xK];clear xK HX;have hc:kd<1∨(¬kd<1∧kd > 3)∨(¬kd<1 ∧ ¬kd > 3∧k<1)∨(¬kd<1 ∧ ¬kd > 3 ∧ ¬k<1∧k > 32)∨(¬kd<1 ∧ ¬kd > 3 ∧ ¬k<1 ∧ ¬k > 32∧(size:Int) > 1099511627776):=by omega
  clear hk0
  rcases hc with g1|⟨g1,g2⟩|⟨g1,g2,g3⟩|⟨g1,g2,g3,g4⟩|⟨g1,g2,g3,g4,g5⟩ <;>
  ·go_enter func187,ntmps187
   go_upto_region 1 with (fail)
   try rw[hW]
   clear hW;go_wp2
   go_ret
   exact⟨rfl,HB.out⟩
 have g1 : ¬kd<1:=by omega
 have g2 : ¬kd > 3:=by omega
 have g3 : ¬k<1:=by omega
 have g4 : ¬k > 32:=by omega
 have g5 : ¬(size:Int) > 1099511627776:=by omega
 have hk:1<=k∧k<=32∧size<=2^40:=⟨hk0.2.2.1,hk0.2.2.2.1,hk0.2.2.2.2⟩
 by_cases h3:kd=3
 ·subst h3
  by_cases h4:S.length=0
  ·have xG:S=[]:=List.eq_nil_of_length_eq_zero h4;have xI:((S.length:Int) == 0)=true:=beq_iff_eq.2 (by omega)
   by_cases h5:old<=size
   ·rw[OG hk,Lm ⟨h5,xG⟩];have xF:(old:Int)<=(size:Int):=by omega
    clear hk hk0 xG h4 h5 HX;generalize S.length=ms at *
    go_enter func187,ntmps187
    go_upto_region 1 with (fail)
    try rw[hW]
    clear hW;go_wp2
    go_ret
    exact⟨rfl,HB.out⟩
   ·rw[OG hk,Le (fun h=>h5 h.1)]
    have xF : ¬(old:Int)<=(size:Int):=by omega
    clear hk hk0 xG h4 h5 HX;generalize S.length=ms at *
    go_enter func187,ntmps187
    go_upto_region 1 with (fail)
    try rw[hW]
    clear hW;go_wp2
    go_ret
    exact⟨rfl,HB.out⟩
  ·rw[OG hk,Le (fun h=>h4 (by rw[h.2];rfl))]
   have xI:((S.length:Int) == 0)=false:=beq_eq_false_iff_ne.2 (by omega)
   clear hk hk0 h4 HX;generalize S.length=ms at *
   go_enter func187,ntmps187
   go_upto_region 1 with (fail)
   try rw[hW]
   clear hW;go_wp2
   go_ret
   exact⟨rfl,HB.out⟩
 have xA:kd=1∨kd=2:=by omega
 have f3:(kd == 3)=false:=beq_eq_false_iff_ne.2 h3;rw[Qlc hk xA]
 by_cases h4:old=0
 rotate_left
 ·rw[Lj (fun h=>h4 h.1)]
  have xI:((old:Int) != 0)=true:=bne_iff_ne.2 (by omega)
  clear hk hk0 h4 HX xA h3
  go_enter func187,ntmps187
  go_upto_region 1 with (fail)
  try rw[hW]
  clear hW;go_wp2
  go_ret
  exact⟨rfl,HB.out⟩
 subst h4;have xL:((0:Nat):Int)=0:=rfl;rw[xL] at hW e2;clear xL
 by_cases h5:S.length=0
 ·rw[Lj (fun h=>by have:=Qji h.2.2;omega)]
  have xF:((S.length:Int) == 0)=true:=beq_iff_eq.2 (by omega)
  clear hk hk0 h5 HX xA h3;generalize S.length=ms at *
  go_enter func187,ntmps187
  go_upto_region 1 with (fail)
  try rw[hW]
  clear hW;go_wp2
  go_ret
  exact⟨rfl,HB.out⟩
 have xF:((S.length:Int) == 0)=false:=beq_eq_false_iff_ne.2 (by omega)
 by_cases h6:kd=1∧S.length≠1
 ·obtain⟨rfl,h6⟩:=h6;rw[Lj (fun h=>h6 (h.2.1 rfl))]
  have xV:((S.length:Int) != 1)=true:=bne_iff_ne.2 (by omega)
  clear hk hk0 h5 HX xA h3 h6;generalize S.length=ms at *
  go_enter func187,ntmps187
  go_upto_region 1 with (fail)
  try rw[hW]
  clear hW;go_wp2
  go_ret
  exact⟨rfl,HB.out⟩
 have hq:kd=1->S.length=1:=fun h=>by
  by_cases h7:S.length=1
  ·exact h7
  ·exact absurd ⟨h,h7⟩ h6
 have HE:Hid ((OkN size S S.length->decide (0=0∧(kd=1->S.length=1)∧QR size S=0)=true)∧(¬OkN size S S.length->decide (0=0∧(kd=1->S.length=1)∧QR size S=0)=false)):=⟨fun h=>Ln ⟨rfl,hq,QjR hk.2.2 (by omega) h⟩,fun h=>Lj (fun g=>h (Qjj g.2.2))⟩
 generalize decide (0=0∧(kd=1->S.length=1)∧QR size S=0)=ans at *
 have hc:((kd == 1)=true∧((S.length:Int) != 1)=false)∨(kd == 1)=false:=by
  rcases xA with h|h
  ·exact .inl ⟨beq_iff_eq.2 h,bne_eq_false_iff_eq.2 (by have:=hq h;omega)⟩
  ·exact .inr (beq_eq_false_iff_ne.2 (by omega))
 clear hk hk0 h5 xA h3 h6 hq
 rcases hc with ⟨hc1,hc2⟩|hc1 <;>
 ·go_enter func187,ntmps187
  go_upto_region 1 with (fail)
  try rw[hW]
  clear hW;go_wp2;clear e0 e1 e2 e3 e4 e5
  go_loopg [3] S.length (fun gk i wr => ∃j:Nat,j<=S.length∧gk=S.length - j∧i = .int .i64 (j:Int)∧Hid (OkN size S j)∧Hid (Zb W0 wr))
  case atStart=>go_light;exact⟨0,Ll _,rfl,rfl,(show OkN size S 0 from fun i hi=>absurd hi (by omega)),Lb _ _⟩
  case round =>
   obtain⟨j,hj,rfl,rfl,HK,HI⟩:=hrel;obtain⟨x6,v1,xJ⟩:=HX.out wr HI.out;obtain⟨_,_,_,e3,e4,_⟩:=x6.cells;have xX:(0:Int)<=(j:Int):=Lf _;have xB:=Qg xJ;clear xJ x6
   by_cases hlt:j<S.length
   ·have xH:(j:Int)<(S.length:Int):=by omega
    obtain rfl:=v1.ptr (by omega)
    have c1:=v1.at (j:=j) hlt;obtain⟨x,hx⟩:=Ze (S.getD j 0);rw[hx] at c1
    by_cases b1:x<size
    rotate_left
    ·have xN:(size:Int)<=(x:Int):=by omega
     have HN:Hid (ans=false):=HE.out.2 (fun h=>b1 (hx ▸ (h j hlt).1))
     clear b1 hx v1;go_wp2;have xD:decide ((size:Int)<=(x:Int))=true:=Ln (by omega)
     have xE:decide (size<=x)=true:=Ln (by omega)
     go_quiet (fail)
     go_wp2
     go_ret
     exact⟨by rw[HN.out];try rfl,Qd xB.out _⟩
    have xN:(x:Int)<(size:Int):=by omega
    by_cases j1:j=0
    ·have xS:(j:Int)<=0:=by omega
     have xC:Hid (OkN size S (j+1)):=Qe1 HK.out (hx ▸ b1) (fun h=>absurd h (by omega))
     clear b1 hx v1 HK j1;go_wp2;have xD:decide ((size:Int)<=(x:Int))=false:=Lj (by omega)
     have xE:decide (size<=x)=false:=Lj (by omega)
     have j2:decide ((0:Int)<(j:Int))=false:=Lj (by omega)
     have xM:decide (0<j)=false:=Lj (by omega)
     go_quiet (fail)
     go_wp2
     go_roundg (S.length - (j+1))
     case rel=>go_light;exact⟨j+1,hlt,rfl,by go_num,xC,Qd HI.out _⟩
     case measure=>go_light;omega
    ·obtain⟨t,rfl⟩ : ∃t,j=t+1:=⟨j - 1,by omega⟩
     have c2:=v1.at (j:=t) (by omega)
     obtain⟨y,hy⟩:=Ze (S.getD t 0);rw[hy] at c2;have xS:(0:Int)<((t+1:Nat):Int):=by omega
     have et:((t+1:Nat):Int) - 1=(t:Int):=by omega
     have xU:(t:Int)<(S.length:Int):=by omega
     have xT:(0:Int)<=(t:Int):=Lf _;have xY:t<=17592186044416:=by omega
     by_cases b2:y<x
     ·have xQ:(y:Int)<(x:Int):=by omega
      have xC:Hid (OkN size S (t+1+1)):=Qe1 HK.out (hx ▸ b1) (fun _=>by rw[Nv,hx,hy];exact b2)
      clear b1 hx hy v1 HK b2;go_wp2;have xD:decide ((size:Int)<=(x:Int))=false:=Lj (by omega)
      have xE:decide (size<=x)=false:=Lj (by omega)
      have j2:decide ((0:Int)<((t+1:Nat):Int))=true:=Ln (by omega)
      have xM:decide (0<t+1)=true:=Ln (by omega)
      have xR:decide ((0:Int)<(t:Int)+1)=true:=Ln (by omega)
      have xO:decide ((x:Int)<=(y:Int))=false:=Lj (by omega)
      have xP:decide (x<=y)=false:=Lj (by omega)
      go_quiet (fail)
      go_wp2
      go_roundg (S.length - (t+1+1))
      case rel=>go_light;exact⟨t+1+1,hlt,rfl,by go_num,xC,Qd HI.out _⟩
      case measure=>go_light;omega
     ·have xQ:(x:Int)<=(y:Int):=by omega
      have HN:Hid (ans=false):=HE.out.2 (fun h=>b2 (by have:=(h (t+1) hlt).2 (by omega);rwa [Nv,hx,hy] at this))
      clear b1 hx hy v1 HK b2;go_wp2;have xD:decide ((size:Int)<=(x:Int))=false:=Lj (by omega)
      have xE:decide (size<=x)=false:=Lj (by omega)
      have j2:decide ((0:Int)<((t+1:Nat):Int))=true:=Ln (by omega)
      have xM:decide (0<t+1)=true:=Ln (by omega)
      have xR:decide ((0:Int)<(t:Int)+1)=true:=Ln (by omega)
      have xO:decide ((x:Int)<=(y:Int))=true:=Ln (by omega)
      have xP:decide (x<=y)=true:=Ln (by omega)
      go_quiet (fail)
      go_wp2
      go_ret
      exact⟨by rw[HN.out];try rfl,Qd xB.out _⟩
   ·obtain hje:j=S.length:=by omega
    have xH : ¬(j:Int)<(S.length:Int):=by omega
    have HN:Hid (ans=true):=HE.out.1 (by rw[<-hje];exact HK.out)
    clear hje v1 HK;go_wp2
    go_ret
    exact⟨by rw[HN.out];try rfl,xB.out⟩
end
end
theorem Jc(w:World)(h:Nat)(hh:h<=40)(p:Nat)(hp:2^h=p) :
  Calls prog 190 #[.int .i64 (h:Int)] w fun e w'=>e = .returned (.int .u64 (p:Int))∧w=w':=by
 have HP:=Qg hp;clear hp;have xA:(h:Int)<=40:=by omega
 go_enter func190,ntmps190;go_wp2
 go_loopg [3,4] h (fun g n i wr => ∃j:Nat,j<=h∧g=h - j∧n = .int .u64 ((2^j:Nat):Int)∧i = .int .i64 (j:Int)∧w=wr)
 case atStart=>go_light;exact⟨0,Ll _,rfl,rfl,rfl,rfl⟩
 case round =>
  obtain⟨j,hj,rfl,rfl,rfl,rfl⟩:=hrel
  by_cases hlt:j<h
  ·have hz:(j:Int)<(h:Int):=by omega
   obtain⟨q,hq⟩:=Ze (2^j);have hb:2^j<=2^40:=L7 (by decide) (by omega)
   rw[hq] at hb ⊢;have e1:IntKind.u64.wrap (2*(q:Int))=2*(q:Int):=by rw[IntKind.wrap_u64];omega
   have HQ:Hid (2*(q:Int)=((2^(j+1):Nat):Int)):=by show _=_;rw[LM,hq];omega
   clear hq hb;go_wp2
   go_roundg (h - (j+1))
   case rel=>go_light;exact⟨j+1,by omega,rfl,by rw[HQ.out],by go_num,rfl⟩
   case measure=>go_light;omega
  ·obtain rfl:j=h:=by omega
   have hz : ¬((j:Int)<(j:Int)):=by omega
   rw[HP.out];clear hlt;go_wp2
   go_ret
   exact⟨rfl,rfl⟩
open Cv (cU RdC) in
theorem OB(w:World)(sa:OA)(sb so sc:Nat)(S:List Nat)(lo hi:Nat)(rs:RdU w sa sb so S.length S)(hS:S.length<=17592186043904) :
  Calls prog 191 #[.slice sa S.length sc,.int .u64 (lo:Int),.int .u64 (hi:Int)] w fun e w' => ∃v,e = .returned v∧Cv.Own w' w.heap.size v (S.filter fun i=>decide (lo<=i) && decide (i<hi))∧Zb w w':=by
 obtain⟨u0,xF,xG,xH,xI⟩:=info_parts Cv.Tryz.infoU;have HU:Hid (prog.info? 28=some u0∧u0.zero=some (.int .u64 0)∧u0.size=1∧u0.bytes=8):=⟨xF,xG,xH,xI⟩;have HS:Hid (∀F,Zb w F->RdU F sa sb so S.length S):=fun F hF=>rs.next hF
 have HL:Hid (S.length<=17592186043904):=hS;have xL:(S.length:Int)<=17592186043904:=by omega
 clear rs hS xF xG xH xI
 go_enter func191,ntmps191;go_wp2
 go_loopg [7,8] S.length (fun g l ix wr => ∃j:Nat,j<=S.length∧g=S.length - j∧ix = .int .i64 (j:Int)∧Cv.Own wr w.heap.size l ((S.take j).filter fun i=>decide (lo<=i) && decide (i<hi))∧Zb w wr)
 case atStart=>go_light;exact⟨0,Ll _,rfl,rfl,LT _ _ _ _,Lb _ _⟩
 case round =>
  obtain⟨j,hj,rfl,rfl,ho,hb⟩:=hrel;have xM:(0:Int)<=(j:Int):=Lf _
  by_cases hlt:j<S.length
  ·have xD:(j:Int)<(S.length:Int):=by omega
   have R:=HS.out _ hb;obtain rfl:=R.ptr (by omega)
   have cj:=R.at (j:=j) hlt;have xB:=UN (S:=S) (j:=j) hlt;obtain⟨i,xC⟩:=Ze (S.getD j 0);rw[xC] at cj xB
   by_cases hin:lo<=i∧i<hi
   ·have h1:(lo:Int)<=(i:Int):=by omega
    have h2:(i:Int)<(hi:Int):=by omega
    have hf:(S.take (j+1)).filter (fun i=>decide (lo<=i) && decide (i<hi))=(S.take j).filter (fun i=>decide (lo<=i) && decide (i<hi))++[i]:=by
     rw[xB,N5]
     congr 1
     simp[hin.1,hin.2]
    have xA:((S.take j).filter fun i=>decide (lo<=i) && decide (i<hi)).length<=j:=Lz (NM _ _) (by rw[Lq];omega)
    generalize hX:(S.take j).filter (fun i=>decide (lo<=i) && decide (i<hi))=X at *
    have HX:Hid ((S.take (j+1)).filter (fun i=>decide (lo<=i) && decide (i<hi))=X++[i]∧X.length<=j∧Zb w wr):=⟨hf,xA,hb⟩
    have HO:Hid (Cv.Own wr w.heap.size _ X):=ho;clear hf xA xB xC hin R hX ho hb
    go_wp2_with (at_builtin;refine Cv.QG _ rfl _ _ _ rfl w.heap.size 28 u0 (.int .u64 0) 1 8 underlying53 HU.out.1 HU.out.2.1 HU.out.2.2.1 HU.out.2.2.2 rfl (by decide) _ X.length (cU X) rfl (HO.out.alloc _) _ 1 (cU [i]) rfl (QdY wr i) rfl (Cv.QfF [i]) ?c1 ?c2 ?c3 ?_)
    case c1=>have:=HX.out.2.1;have:=HL.out;unfold maxLen;omega
    case c2=>have:=HX.out.2.1;have:=HL.out;omega
    case c3=>have:=HX.out.2.2.size;simp;omega
    intro v2 w2 a2;have xE:=(Cv.Ja HX.out.2.2 HX.out.2.2.size HO.out a2.grown).1;have o2:Cv.Own w2 w.heap.size v2 (X++[i]):=by
     have:=a2.own;rw[Cv.Own,Lg]
     simpa [cU] using this
    have H2:Hid (Cv.Own w2 w.heap.size v2 (X++[i])∧Zb w w2):=⟨o2,xE⟩;clear a2 o2 xE;go_wp2
    go_roundg (S.length - (j+1))
    case rel =>
     go_light;refine⟨j+1,hlt,rfl,by go_num,?_,H2.out.2⟩
     rw[HX.out.1];exact H2.out.1
    case measure=>go_light;omega
   ·have hf:(S.take (j+1)).filter (fun i=>decide (lo<=i) && decide (i<hi))=(S.take j).filter (fun i=>decide (lo<=i) && decide (i<hi)):=by
     rw[xB,N5,Ng (by simp;omega),List.filter_nil,Na]
    have HX:=Qg hf;have HB:=Qg hb;have HO:=Qg ho;clear xB xC R hf hb ho
    by_cases h1:lo<=i
    ·have xJ:(lo:Int)<=(i:Int):=by omega
     have xK : ¬(i:Int)<(hi:Int):=by omega
     clear hin;go_wp2
     go_roundg (S.length - (j+1))
     case rel =>
      go_light;refine⟨j+1,hlt,rfl,by go_num,?_,HB.out⟩
      rw[HX.out];exact HO.out
     case measure=>go_light;omega
    ·have xJ : ¬(lo:Int)<=(i:Int):=by omega
     clear hin;go_wp2
     go_roundg (S.length - (j+1))
     case rel =>
      go_light;refine⟨j+1,hlt,rfl,by go_num,?_,HB.out⟩
      rw[HX.out];exact HO.out
     case measure=>go_light;omega
  ·obtain hje:j=S.length:=by omega
   have xD : ¬(j:Int)<(S.length:Int):=by omega
   rw[hje,LY] at ho;obtain⟨av,mv,cv,rfl⟩:=Cv.Qj ho;have HO:Hid (Cv.Own wr w.heap.size (.slice av mv cv) (S.filter fun i=>decide (lo<=i) && decide (i<hi))∧Zb w wr):=⟨ho,hb⟩
   clear ho hb;go_wp2
   go_ret
   exact⟨_,rfl,HO.out.1,HO.out.2⟩
namespace Cv
open Pl
theorem Qd4(n:Nat)(w:World)(hn:n<=2^40) :
  Calls prog 188 #[.int .u64 (n:Int)] w fun e w' => ∃v,e = .returned v∧Qx w' w.heap.size v (zl (dnL 41 0 n))∧Zb w w':=by
 have HN:Hid (n<=2^40):=hn;clear hn
 go_enter func188,ntmps188;go_wp2
 go_loopg [3,4,5] 41 (fun g v f h wr => ∃(m x:Nat) (acc:List (Nat×Nat)),m<=41∧m=g∧h = .int .i64 ((m:Int) - 1)∧f = .int .u64 (x:Int)∧x<=n∧Qx wr w.heap.size v (zl acc)∧acc++dnL m x n=dnL 41 0 n∧acc.length+m<=41∧Zb w wr)
 case atStart=>go_light;exact⟨41,0,[],by decide,rfl,rfl,rfl,Ll _,LT _ _ _ _,rfl,by decide,Lb _ _⟩
 case round =>
  obtain⟨m,x,acc,hm,rfl,rfl,rfl,hx,xB,xA,xC,hb⟩:=hrel;have hn:=HN.out
  by_cases hm0:m=0
  ·subst hm0;have ht : ¬(0:Int)<=((0:Nat):Int) - 1:=by omega
   have HF:Hid (Qx wr w.heap.size u3 (zl (dnL 41 0 n))∧Zb w wr):=⟨by
    rw[<-xA];simpa [dnL] using xB,hb⟩
   clear hx xB xA xC hb hn hm;go_wp2
   go_ret
   exact⟨_,rfl,HF.out⟩
  ·obtain⟨i,rfl⟩ : ∃i,m=i+1:=⟨m - 1,by omega⟩
   have ei:(((i+1:Nat):Int) - 1)=(i:Int):=by omega
   rw[ei];have xM:(0:Int)<=(i:Int):=Lf _;have xN:(i:Int)<=40:=by omega
   obtain⟨p,hp⟩:=Ze (pw i);have xE:=fun W=>Jc W i (by omega) p hp
   have xD:pw i<=pw 40:=JP (by omega)
   have xH:pw 40=2^40:=rfl;have xF:=QF i;rw[hp] at xD xF;obtain⟨d,hd⟩:=Ze (n - x);have ed:IntKind.u64.wrap ((n:Int) - (x:Int))=(d:Int):=by rw[IntKind.wrap_u64];omega
   have xO : ¬(p:Int)=0:=by omega
   have xG:=hb.size
   by_cases hfit:p<=d
   ·have xJ:(p:Int)<=(d:Int):=by omega
    obtain⟨q,hq⟩:=Ze (x / pw i);have xI:x / p=q:=by rw[<-hp];exact hq
    have xK:q<=x:=by rw[<-hq];exact Nt _ _
    have eq:(x:Int) / (p:Int)=(q:Int):=by rw[<-xI];rfl
    have xL:IntKind.u64.wrap (q:Int)=(q:Int):=by rw[IntKind.wrap_u64];omega
    have ef:IntKind.u64.wrap ((x:Int)+(p:Int))=((x+p:Nat):Int):=by rw[IntKind.wrap_u64];omega
    have hu:=QbJ (h:=i) (lo:=x) (hi:=n) (by omega)
    rw[hq,hp] at hu;have HX:Hid (acc++[(i,q)]++dnL i (x+p) n=dnL 41 0 n∧x+p<=n∧(acc++[(i,q)]).length+i<=41∧Zb w wr∧w.heap.size<=wr.heap.size∧acc.length<=41):=by
     refine⟨?_,by omega,by simp;omega,hb,xG,by omega⟩
     rw[LH,<-xA,hu];rfl
    have HO:Hid (Qx wr w.heap.size _ (zl acc)):=xB;clear hx xA xC hb hn hm hm0 hp hd hq xI xK hu xH xD xF xG hfit xB
    go_wp2_with (first
     | (go_at_call 190;(refine(xE _).mono ?_);rintro e w' ⟨rfl,rfl⟩)
     | (at_builtin;refine QP _ rfl _ _ rfl w.heap.size _ (zl acc) rfl (HO.out.alloc _) _ [((i:Int),q)] rfl (YU _ (i:Int) q 83) ?c1 ?c2 ?_))
    case c1=>have:=HX.out.2.2.2.2.2;rw[QC];simp;omega
    case c2=>have:=HX.out.2.2.2.2.1;simp;omega
    intro v' w1 r1 r2 _;have R:=Ja HX.out.2.2.2.1 HX.out.2.2.2.2.1 HO.out r2;clear r2
    go_wp2_with (go_at_call 190;(refine(xE _).mono ?_);rintro e w' ⟨rfl,rfl⟩)
    go_roundg i
    case rel =>
     go_light;obtain⟨x1,x2,x3,x4,x5,x6⟩:=HX.out;refine⟨i,x+p,acc++[(i,q)],by omega,rfl,by go_num,by go_num,x2,?_,x1,x3,R.1⟩
     rw[UO];exact r1
    case measure=>go_light;omega
   ·have xJ : ¬(p:Int)<=(d:Int):=by omega
    have hu:=QeK (h:=i) (lo:=x) (hi:=n) (by omega)
    rw[hu] at xA;have HX:Hid (acc++dnL i x n=dnL 41 0 n∧x<=n∧acc.length+i<=41∧Zb w wr):=⟨xA,hx,by omega,hb⟩
    clear hx xA xC hb hn hm hm0 hp hd hu xH xD xF xG
    go_wp2_with (go_at_call 190;(refine(xE _).mono ?_);rintro e w' ⟨rfl,rfl⟩)
    go_roundg i
    case rel=>go_light;obtain⟨x1,x2,x3,x4⟩:=HX.out;exact⟨i,x,acc,by omega,rfl,by go_num,rfl,x2,xB,x1,x3,x4⟩
    case measure=>go_light;omega
theorem Qfs{lo hi H K:Nat}(h:(K+1)*pw H<=lo∨hi<=K*pw H):tin lo hi H K=[]:=by
 have hp:=QF H;have e:(K+1)*pw H=K*pw H+pw H:=by rw[LR,LX]
 cases H with
 | zero=>rw[tin,Le (by omega)]
 | succ H=>rw[tin,Le (by omega),Lm h]
theorem Qdl{lo hi H K:Nat}(h:lo<=K*pw H∧(K+1)*pw H<=hi):(tin lo hi H K).length=1:=by
 cases H with
 | zero=>rw[tin,Lm h];rfl
 | succ H=>rw[tin,Lm h];rfl
theorem Qgi(lo hi:Nat) : ∀(H K:Nat) (w:World),H<=40->(K+1)*pw H<=2^40 ->
  Calls prog 189 #[.int .i64 (H:Int),.int .u64 (K:Int),.int .u64 (lo:Int),.int .u64 (hi:Int)] w fun e w'=>e = .returned (.int .u64 ((tin lo hi H K).length:Nat))∧w'=w:=by
 intro H
 induction H with
 | zero =>
  intro K w hH hK;have xA:=fun W=>Jc W 0 (by omega) 1 rfl
  have e0:pw 0=1:=rfl;rw[e0] at hK;have ea:IntKind.u64.wrap (K:Int)=(K:Int):=by rw[IntKind.wrap_u64];omega
  have eb:IntKind.u64.wrap ((K:Int)+1)=(K:Int)+1:=by rw[IntKind.wrap_u64];omega
  by_cases h1:K+1<=lo∨hi<=K
  ·rw[Qfs (by rw[e0];omega)]
   by_cases h2:K+1<=lo
   ·have xC:(K:Int)+1<=(lo:Int):=by omega
    clear h1 hK hH
    go_enter func189,ntmps189
    go_wp2_with (go_at_call 190;(refine(xA _).mono ?_);rintro e w' ⟨rfl,rfl⟩)
    go_ret
    exact⟨rfl,rfl⟩
   ·have xC : ¬(K:Int)+1<=(lo:Int):=by omega
    have xG:(hi:Int)<=(K:Int):=by omega
    clear h1 hK hH
    go_enter func189,ntmps189
    go_wp2_with (go_at_call 190;(refine(xA _).mono ?_);rintro e w' ⟨rfl,rfl⟩)
    go_ret
    exact⟨rfl,rfl⟩
  ·rw[Qdl (by rw[e0];omega)]
   have xC : ¬(K:Int)+1<=(lo:Int):=by omega
   have xG : ¬(hi:Int)<=(K:Int):=by omega
   have xD:(lo:Int)<=(K:Int):=by omega
   have xH:(K:Int)+1<=(hi:Int):=by omega
   clear h1 hK hH
   go_enter func189,ntmps189
   go_wp2_with (go_at_call 190;(refine(xA _).mono ?_);rintro e w' ⟨rfl,rfl⟩)
   go_ret
   exact⟨rfl,rfl⟩
 | succ H ih =>
  intro K w hH hK;obtain⟨p,hp⟩:=Ze (pw (H+1));have xA:=fun W=>Jc W (H+1) hH p hp
  have g2:=U6 H K;have g3:=YX H K;have g1:=YY H K;have g4:=OE H K;have xF:=QF H;have I1:=fun w'=>ih (2*K) w' (by omega) (by rw[g2];omega)
  have I2:=fun w'=>ih (2*K+1) w' (by omega) (by rw[g3];omega)
  obtain⟨a,ha⟩:=Ze (K*pw (H+1));have hb:(K+1)*pw (H+1)=a+p:=by rw[LR,LX,ha,hp]
  have xE:K<=a:=by rw[<-ha];exact Ny _ (QF _)
  have l1:=Qhe lo hi H (2*K);have l2:=Qhe lo hi H (2*K+1);have xB:pw H<=2^40:=by omega
  rw[hb] at hK;have ea:IntKind.u64.wrap ((K:Int)*(p:Int))=(a:Int):=by rw[show(K:Int)*(p:Int)=(a:Int) by rw[<-ha,hp,Id],IntKind.wrap_u64];omega
  have eb:IntKind.u64.wrap ((a:Int)+(p:Int))=(a:Int)+(p:Int):=by rw[IntKind.wrap_u64];omega
  by_cases h1:a+p<=lo∨hi<=a
  ·rw[Qfs (by rw[hb,ha];omega)]
   by_cases h2:a+p<=lo
   ·have xC:(a:Int)+(p:Int)<=(lo:Int):=by omega
    clear h1 hK hH ih I1 I2 g1 g2 g3 g4 xF ha hb xE l1 l2 hp xB
    go_enter func189,ntmps189
    go_wp2_with (go_at_call 190;(refine(xA _).mono ?_);rintro e w' ⟨rfl,rfl⟩)
    go_ret
    exact⟨rfl,rfl⟩
   ·have xC : ¬(a:Int)+(p:Int)<=(lo:Int):=by omega
    have xG:(hi:Int)<=(a:Int):=by omega
    clear h1 hK hH ih I1 I2 g1 g2 g3 g4 xF ha hb xE l1 l2 hp xB
    go_enter func189,ntmps189
    go_wp2_with (go_at_call 190;(refine(xA _).mono ?_);rintro e w' ⟨rfl,rfl⟩)
    go_ret
    exact⟨rfl,rfl⟩
  ·have xC : ¬(a:Int)+(p:Int)<=(lo:Int):=by omega
   have xG : ¬(hi:Int)<=(a:Int):=by omega
   by_cases h4:lo<=a∧a+p<=hi
   ·rw[Qdl (by rw[hb,ha];exact h4)]
    have xD:(lo:Int)<=(a:Int):=by omega
    have xH:(a:Int)+(p:Int)<=(hi:Int):=by omega
    clear h1 hK hH ih I1 I2 g1 g2 g3 g4 xF ha hb xE l1 l2 hp xB h4
    go_enter func189,ntmps189
    go_wp2_with (go_at_call 190;(refine(xA _).mono ?_);rintro e w' ⟨rfl,rfl⟩)
    go_ret
    exact⟨rfl,rfl⟩
   ·have ht:(tin lo hi (H+1) K).length=(tin lo hi H (2*K)).length+(tin lo hi H (2*K+1)).length:=by
     rw[tin,Le (by rw[hb,ha];exact h4),Le (by rw[hb,ha];exact h1),Lg]
    rw[ht];generalize (tin lo hi H (2*K)).length=x at *;generalize (tin lo hi H (2*K+1)).length=y at *;have e1:IntKind.u64.wrap (2*(K:Int))=((2*K:Nat):Int):=by rw[IntKind.wrap_u64];omega
    have e2:IntKind.u64.wrap (((2*K:Nat):Int)+1)=((2*K+1:Nat):Int):=by rw[IntKind.wrap_u64];omega
    have e3:((H+1:Nat):Int) - 1=(H:Int):=by omega
    have e4:IntKind.u64.wrap ((x:Int)+(y:Int))=((x+y:Nat):Int):=by rw[IntKind.wrap_u64];omega
    have xI:(H:Int)<=40:=by omega
    have xD : ¬(lo:Int)<=(a:Int) ∨ ¬(a:Int)+(p:Int)<=(hi:Int):=by omega
    clear h1 hK hH ih g1 g2 g3 g4 xF ha hb xE l1 l2 hp xB h4 ht;generalize 2*K=k2 at *;generalize k2+1=k3 at *;generalize x+y=z at *
    rcases xD with xD|xD
    ·go_enter func189,ntmps189
     go_upto_region 7 with (go_at_call 190;(refine(xA _).mono ?_);rintro e w' ⟨rfl,rfl⟩)
     go_wp2_with (first
      | (go_at_call 189;with_reducible refine(I1 _).mono ?_;rintro e w' ⟨rfl,rfl⟩)
      | (go_at_call 189;with_reducible refine(I2 _).mono ?_;rintro e w' ⟨rfl,rfl⟩))
     all_goals go_ret
     all_goals exact⟨rfl,rfl⟩
    ·go_enter func189,ntmps189
     go_upto_region 7 with (go_at_call 190;(refine(xA _).mono ?_);rintro e w' ⟨rfl,rfl⟩)
     go_wp2_with (first
      | (go_at_call 189;with_reducible refine(I1 _).mono ?_;rintro e w' ⟨rfl,rfl⟩)
      | (go_at_call 189;with_reducible refine(I2 _).mono ?_;rintro e w' ⟨rfl,rfl⟩))
     all_goals go_ret
     all_goals exact⟨rfl,rfl⟩
end Cv
end Go.Proofs.YtdocjikpcbmcgaaGreatDoor
