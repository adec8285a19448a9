/- Own work. -/
import Derived.Sort.KeysCollected
import Derived.Deep.Upon
import Derived.Test.YtoblgjledefdbaaGreatDoorQt02
set_option maxRecDepth 100000
namespace Go.Proofs.YtoblgjledefdbaaGreatDoor
open Go.RowKit
attribute [local go_sem ↓] Go.wp_at_zero Go.wp_at_succ
open Go.Proofs.Tryz
namespace Kp
open Pl (Qz)
variable{n p:Nat}{h k:Int}
theorem Did.none{w w':World}{v:Value}{P:LB}(hr:Rg w p v k n P)(hb:Bl w w'):Did w w' p v k n P (.slice none 0 0) [] v :=
 ⟨hr.next hb (La _),Ug _ _,Ch.of hb hr.lt,.inl rfl,fun g h _=>by cases h⟩
theorem Qhm{s:BA}(h1:(s.size:Int)=k)(h2:0<=h)(h3:h<=40)(h4:n%2^h.toNat=0)(h5:n+2^h.toNat<=1099511627776):er k n h s=0:=by
 rw[er,Le (by omega),Le (by omega),Le (by omega)]
theorem OZ(w:World)(ht:Tb w)(p:Nat)(v:Value)(k:Int)(n:Nat)(P:LB)(hr:Rg w p v k n P)(s:BA)(e0 n':Nat)(P' A:LB)(he:Hid (er k n 0 s=e0∧nxN k n 0 s=n'∧nxP k n P 0 s=P'∧an k n P 0 s=A)) :
  Calls prog 161 #[Pq p,.string s] w fun e w'=> ∃vm v',e= .returned (.tuple #[vm,.int .i64 e0])∧Did w w' p v k n' P' vm A v':=by
 obtain⟨q1,q2,q3,q4⟩:=he.out;have c0:=hr.c0;have c1:=hr.c1
 by_cases hs:(s.size:Int)=k
 ·by_cases hn:n<1099511627776
  ·have xA:er k n 0 s=0:=Qhm hs (by decide) (by decide) (by show n%1=0;omega) (by show n+1<=_;omega)
   rw[xA] at q1;rw[nxN,Lf xA] at q2;rw[nxP,Lf xA] at q3;rw[an,Lf xA] at q4;have xC:=JF hr.k1 hr.k2;have HL:Hid (Calls prog 251 #[Pq p,.int .i64 0,.string s] w fun e w'=> ∃vm v',e= .returned vm∧Did w w' p v k n' P' vm A v') :=
    QdX w ht p v k n P hr 0 (by decide) s (by omega) (by show n%1=0;omega) n' q2 (by rw[<-q2];show n+1<=_;omega) A P' (by show mk (clk k) n P 0 s=(A,P');rw[<-q3,<-q4];rfl)
   have xD:decide ((1099511627776:Int)<=(n:Int))=false:=by simp;omega
   subst q1;subst hs;clear he xA q2 q3 q4 xC ht hr hn
   go_enter func161,ntmps161
   go_wp2_with (go_at_call 251;with_reducible refine HL.out.mono ?_;rintro e w1 ⟨vm,v',rfl,hd⟩)
   go_ret2
   exact⟨vm,v',rfl,hd⟩
  ·have xB:=hr.hn;have xA:er k n 0 s=30:=by rw[er,Le (by omega),Le (by rw[show(0:Int).toNat=0 from rfl,Iw];omega),Lf (by rw[show(0:Int).toNat=0 from rfl,Iw];omega)]
   rw[xA] at q1;rw[nxN,Le (by rw[xA];decide)] at q2
   rw[nxP,Le (by rw[xA];decide)] at q3
   rw[an,Le (by rw[xA];decide)] at q4
   have xD:decide ((1099511627776:Int)<=(n:Int))=true:=by simp;omega
   have HR:=Qc hr;subst q1 q2 q3 q4;subst hs;clear he xA ht hr hn xB
   go_enter func161,ntmps161;go_wp2
   go_ret2
   exact⟨_,v,rfl,Did.none HR.out (Lb _ _)⟩
 ·have xA:er k n 0 s=90:=by rw[er,Lf (by omega)]
  rw[xA] at q1;rw[nxN,Le (by rw[xA];decide)] at q2
  rw[nxP,Le (by rw[xA];decide)] at q3
  rw[an,Le (by rw[xA];decide)] at q4
  have HR:=Qc hr;subst q1 q2 q3 q4;clear he xA ht hr
  go_enter func161,ntmps161;go_wp2
  go_ret2
  exact⟨_,v,rfl,Did.none HR.out (Lb _ _)⟩
end Kp
namespace Kp
theorem Qgq(L M:LB)(n t:Nat)(hn:n<=L.length)(h:t<n):(L.take n).getD t ByteArray.empty=(L++M).getD t ByteArray.empty:=by
 rw[Ld,Ld,IB h,Ly (by omega)]
def gN(c:Nat)(L:LB)(h x:Nat):BA:=nd c L h (x-1)
theorem Qnu(c:Nat)(L:LB)(m h i:Nat)(hm:m<=L.length)(hi:(i+1)*2^h<=m):nd c (L.take m) h i=nd c L h i:=by
 refine JO h i i fun t ht=> ?_
 have xA:i*2^h+t<m:=by rw[LS] at hi;omega
 have:=Qgq L [] m (i*2^h+t) hm xA
 rwa [LU] at this
theorem QgL(c:Nat)(L:LB)(m:Nat)(hm:m<=L.length):∀F,pks c (L.take m) F=ol (gN c L) F m
 | 0=>rfl
 | F+1=>by
  have hl:(L.take m).length=m:=by rw[Lx];omega
  rw[pks,ol,QgL c L m hm F,hl]
  by_cases e:m/2^F%2=1
  ·rw[Lf e,Lf e,gN,Qnu c L m F _ hm];have h1:1<=m/2^F:=by generalize m/2^F=x at *;omega
   rw[show m/2^F-1+1=m/2^F by omega]
   exact Iz _ _
  ·rw[Le e,Le e]
theorem Qhr(c:Nat)(L:LB)(h t:Nat)(ho:t%2=1):dg c (QN (gN c L h t) (gN c L h (t+1)))=gN c L (h+1) (t/2+1):=by
 obtain⟨q,rfl⟩:∃q,t=2*q+1:=⟨t/2,by omega⟩
 rw[gN,gN,gN,show(2*q+1)/2+1-1=q by omega,nd,show 2*q+1-1=2*q by omega,show 2*q+1+1-1=2*q+1 by omega]
theorem Qno(c:Nat)(L:LB)(h t m:Nat)(hm:m=2^h*t)(hh:h<=40)(hl:m+2^h<=1099511627776) :
  mk c m (ol (gN c L) 41 m) h (nd c L h t)=((List.range (Pl.trl (40-h) t+1)).map (fun j=>nd c L (h+j) (t/2^j)),ol (gN c L) 41 (m+2^h)):=by
 have ht:t<2^(40-h):=by
  have h1:2^h*(t+1)<=2^h*2^(40-h):=by
   rw[<-II,show h+(40-h)=40 by omega,NV,Nd,<-hm];exact hl
  exact Nat.le_of_mul_le_mul_left h1 (LN h)
 have e0:nd c L h t=gN c L h (t+1):=by rw[gN,Nm]
 have a:=Qij c 41 (gN c L) (m+2^h) (fun h t _ ho=>Qhr c L h t ho) (40-h) h t (by omega) ht (by omega)
 have b:=Qj0 c 41 (gN c L) (m+2^h) (fun h t _ ho=>Qhr c L h t ho) (40-h) h t (by omega) ht (by omega)
 rw[<-hm] at a b;rw[mk,show m/2^h=t by rw[hm];exact(Ju h t).2,e0]
 refine Prod.ext ?_ b
 rw[a];refine NG fun j _=> ?_
 rw[gN,Nm]
theorem QmZ{K:Int}(k1:1<=K)(k2:K<=32)(M:LB)(h t m:Nat)(hm:m=2^h*t)(hh:h<=40)(hl:m+2^h<=1099511627776):er K m (h:Int) (nd (clk K) M h t)=0:=by
 have hc:=JF k1 k2;refine Qhm (by rw[Yt (QK K)];exact hc) (by omega) (by omega) ?_ ?_
 ·rw[LP,hm];exact(Ju h t).1
 ·rw[LP];exact hl
theorem Qki{K:Int}(k1:1<=K)(k2:K<=32)(M:LB)(h t m:Nat)(hm:m=2^h*t)(hh:h<=40)(hl:m+2^h<=1099511627776) :
  Hid (er K m (h:Int) (nd (clk K) M h t)=0∧nxN K m (h:Int) (nd (clk K) M h t)=m+2^h∧nxP K m (ol (gN (clk K) M) 41 m) (h:Int) (nd (clk K) M h t)=ol (gN (clk K) M) 41 (m+2^h) ∧
   an K m (ol (gN (clk K) M) 41 m) (h:Int) (nd (clk K) M h t)=(List.range (Pl.trl (40-h) t+1)).map (fun j=>nd (clk K) M (h+j) (t/2^j))):=by
 have e:=QmZ k1 k2 M h t m hm hh hl;have q:=Qno (clk K) M h t m hm hh hl;refine⟨e,?_,?_,?_⟩
 ·rw[nxN,Lf e,LP]
 ·rw[nxP,Lf e,LP,q]
 ·rw[an,Lf e,LP,q]
end Kp
def mdL(c:Nat)(L:LB)(x:BA):LB:=(List.range (Pl.trl 40 L.length+1)).map fun j=>nd c (L++[x]) j (L.length/2^j)
def pkL(c:Nat)(L:LB):LB:=ol (Kp.gN c L) 41 L.length
theorem Qlt(c:Nat)(L:LB)(x:BA):ol (Kp.gN c (L++[x])) 41 L.length=pkL c L:=by
 have e:=Kp.QgL c (L++[x]) L.length (by simp) 41
 have e2:=Kp.QgL c L L.length (La _) 41;rw[I1] at e;rw[NJ] at e2;rw[<-e,e2];rfl
theorem Qf0:∀(f n:Nat),n<2^f->n%2^Pl.trl f n=2^Pl.trl f n-1 ∧ ¬n/2^Pl.trl f n%2=1
 | 0,n,h=>by
  obtain rfl:n=0:=by simpa using h
  exact⟨rfl,by decide⟩
 | f+1,n,h=>by
  by_cases ho:n%2=1
  ·rw[Pl.Qf1 f n ho];obtain⟨i1,i2⟩:=Qf0 f (n/2) (by rw[LH] at h;omega)
   have hp:=LN (Pl.trl f (n/2));rw[LH];refine⟨?_,?_⟩
   ·rw[LF,Ih,ho,i1];omega
   ·rw[LF,<-L4];exact i2
  ·rw[Pl.QfZ f n ho];exact⟨by simp[Nat.mod_one],by simpa using ho⟩
theorem Qak(c:Nat)(L:LB)(x:BA):(mdL c L x).length=Pl.trl 40 L.length+1:=by simp[mdL]
theorem QgD{c:Nat}(hc:c<=32)(L:LB)(x:BA):∀d∈mdL c L x,d.size=c:=fun d hd=>by
 obtain⟨j,_,rfl⟩:=List.mem_map.1 hd;exact Yt hc ..
namespace St.Rc
def PL:BitVec 32:=0x82f63b78#32
def st(c:BitVec 32):BitVec 32:=(c >>> 1) ^^^ (if c.getLsbD 0 then PL else 0#32)
def stN:Nat->BitVec 32->BitVec 32
 | 0,c=>c
 | n+1,c=>st (stN n c)
theorem xor4(a b c d:BitVec 32):(a ^^^ b) ^^^ (c ^^^ d)=(a ^^^ c) ^^^ (b ^^^ d):=by
 apply BitVec.eq_of_getLsbD_eq
 intro i _;simp only[BitVec.getLsbD_xor]
 cases a.getLsbD i <;> cases b.getLsbD i <;> cases c.getLsbD i <;> cases d.getLsbD i <;> rfl
theorem Qjz(a:BitVec 32):a ^^^ 0#32=a:=BitVec.xor_zero
theorem Qof(a b:BitVec 32)(n:Nat):(a ^^^ b) >>> n=(a >>> n) ^^^ (b >>> n):=by
 apply BitVec.eq_of_getLsbD_eq
 intro i _;simp only[BitVec.getLsbD_xor,BitVec.getLsbD_ushiftRight]
theorem Qp5(a b:BitVec 32):st (a ^^^ b)=st a ^^^ st b:=by
 unfold st;rw[xor4,Qof]
 congr 1
 rw[BitVec.getLsbD_xor]
 cases a.getLsbD 0 <;> cases b.getLsbD 0 <;> simp
theorem Qok(n:Nat)(a b:BitVec 32):stN n (a ^^^ b)=stN n a ^^^ stN n b:=by
 induction n with
 | zero=>rfl
 | succ n ih=>simp only[stN,ih,Qp5]
theorem Qoi(m n:Nat)(c:BitVec 32):stN (m+n) c=stN n (stN m c):=by
 induction n with
 | zero=>rfl
 | succ n ih=>rw[<-Ns,stN,stN,ih]
theorem Qoe(x:BitVec 32)(h:x.getLsbD 31=false):(x <<< 1) >>> 1=x:=by
 apply BitVec.eq_of_getLsbD_eq
 intro i hi;rw[BitVec.getLsbD_ushiftRight,BitVec.getLsbD_shiftLeft]
 by_cases h31:i=31
 ·subst h31;rw[h];rfl
 ·have e:1+i-1=i:=by omega
  have e2:(1+i<32):=by omega
  simp[e,e2]
def bw(b:UInt8):BitVec 32:=BitVec.ofNat 32 b.toNat
def by8(c:BitVec 32)(b:UInt8):BitVec 32:=stN 8 (c ^^^ bw b)
def run(c:BitVec 32)(l:List UInt8):BitVec 32:=l.foldl by8 c
theorem QgV(c:BitVec 32)(l m:List UInt8):run c (l++m)=run (run c l) m:=by simp[run]
theorem QlQ(c:BitVec 32)(l:List UInt8)(b:UInt8):run c (l++[b])=by8 (run c l) b:=by simp[run]
def mor(c:BitVec 32)(l:List UInt8):BitVec 32 := ~~~ (run (~~~ c) l)
theorem QhC(c:BitVec 32):mor c []=c:=by simp[mor,run]
theorem OP(c:BitVec 32)(l m:List UInt8):mor c (l++m)=mor (mor c l) m:=by simp[mor,QgV]
def TB:List (BitVec 32):=[0x00000000#32,0x105ec76f#32,0x20bd8ede#32,0x30e349b1#32,0x417b1dbc#32,0x5125dad3#32,0x61c69362#32,0x7198540d#32,
 0x82f63b78#32,0x92a8fc17#32,0xa24bb5a6#32,0xb21572c9#32,0xc38d26c4#32,0xd3d3e1ab#32,0xe330a81a#32,0xf36e6f75#32]
theorem Qp7:∀n,n<16->TB.getD n 0#32=stN 4 (BitVec.ofNat 32 n):=by decide
theorem Qp4(x:BitVec 32)(h:x.getLsbD 31=false):st (x <<< 1)=x:=by
 have h0:((x <<< 1).getLsbD 0)=false:=by simp
 rw[st,h0,Le (by decide),Qjz,Qoe x h]
theorem Qps(x:BitVec 32):(x >>> 4) ^^^ TB.getD (x.toNat%16) 0#32=stN 4 x:=by
 have hs:∀k,k<=4->stN k ((x >>> 4) <<< 4)=(x >>> 4) <<< (4-k):=by
  intro k hk
  induction k with
  | zero=>rfl
  | succ k ih=>
   rw[stN,ih (by omega)]
   have e:(x >>> 4) <<< (4-k)=((x >>> 4) <<< (4-(k+1))) <<< 1:=by
    rw[<-BitVec.shiftLeft_add,show 4-(k+1)+1=4-k by omega]
   rw[e,Qp4];rw[BitVec.getLsbD_shiftLeft,BitVec.getLsbD_ushiftRight];have:x.getLsbD (4+(31-(4-(k+1))))=false:=BitVec.getLsbD_of_ge _ _ (by omega)
   rw[this,Bool.and_false]
 have h4:=hs 4 (La _);have hx:x=(x >>> 4) <<< 4 ^^^ BitVec.ofNat 32 (x.toNat%16):=by
  apply BitVec.eq_of_getLsbD_eq
  intro i hi;rw[BitVec.getLsbD_xor,BitVec.getLsbD_shiftLeft,BitVec.getLsbD_ushiftRight,BitVec.getLsbD_ofNat,show(16:Nat)=2^4 from rfl,Nat.testBit_mod_two_pow]
  by_cases h:i<4
  ·simp[h,hi,BitVec.getLsbD]
  ·have:4+(i-4)=i:=by omega
   simp[h,hi,this]
 rw[Qp7 _ (Ia _ (by decide))]
 conv=>rhs;rw[hx]
 rw[Qok,h4,NL,BitVec.shiftLeft_zero]
end St.Rc
namespace St.Rc
variable{B b o:Nat}{cs:List Value}
def cW(l:List (BitVec 32)):List Value:=l.map fun c=>Value.int .u32 c.toNat
def tabO:Obj := .cells (cW TB).toArray 419
theorem Qv(w:World)(cs:List Value)(t:TypeId):(w.alloc (.cells cs.toArray t)).rangeAt w.heap.size 0 cs:=fun j v hv=>by
 rw[Ll,Nc]
 simpa using hv
theorem QfU(w:World)(n:Nat)(hn:n<16):(w.alloc tabO).cell? ⟨w.heap.size,n,none⟩=some (.int .u32 ((TB.getD n 0#32).toNat:Int)):=by
 have hl:n<TB.length:=hn;have:=Qv w (cW TB) 419 n (.int .u32 ((TB.getD n 0#32).toNat:Int)) (by simp[cW,List.getElem?_eq_getElem hl,List.getD_eq_getElem?_getD])
 rwa [Ll] at this
theorem Qms(a b:BitVec 32):bits .xor .u32 (a.toNat:Int) (b.toNat:Int)=((a ^^^ b).toNat:Int):=by
 rw[u32_xor_nat _ _ a.isLt b.isLt,BitVec.toNat_xor]
theorem QoT(a:BitVec 32):bits .xor .u32 IntKind.u32.max (a.toNat:Int)=((~~~ a).toNat:Int):=by
 have e:IntKind.u32.max=((BitVec.allOnes 32).toNat:Int):=by decide
 rw[e,Qms,BitVec.allOnes_xor]
theorem Qo4(a:BitVec 32)(b:UInt8):bits .xor .u32 (a.toNat:Int) ((b.toNat:Int)%4294967296)=((a ^^^ bw b).toNat:Int):=by
 have hb:b.toNat<256:=b.toNat_lt;have e:(b.toNat:Int)%4294967296=((bw b).toNat:Int):=by
  rw[bw,BitVec.toNat_ofNat,Nt (by omega)];omega
 rw[e,Qms]
theorem half(X:BitVec 32):∃q n t y:Nat,(X.toNat:Int)/16=(q:Int)∧bits .and .u32 (X.toNat:Int) 15=(n:Int)∧n<16∧(TB.getD n 0#32).toNat=t∧bits .xor .u32 (q:Int) (t:Int)=(y:Int)∧y=(stN 4 X).toNat:=by
 refine⟨X.toNat/16,X.toNat%16,_,_,by omega,?_,Ia _ (by decide),rfl,?_,rfl⟩
 ·have:=u32_and_nat X.toNat 15 X.isLt (by decide)
  rw[show((15:Nat):Int)=15 from rfl] at this
  rw[this];have:X.toNat &&& 15=X.toNat%2^4:=Nat.and_two_pow_sub_one_eq_mod _ 4;rw[this]
 ·have e:X.toNat/16=(X >>> 4).toNat:=by rw[BitVec.toNat_ushiftRight,Nr]
  rw[e,Qms,Qps]
theorem Qjt(s:BA)(k:Nat)(hk:k<s.size):s.data.toList.take (k+1)=s.data.toList.take k++[s[k]]:=by
 rw[LM (by simpa using hk)]
 rfl
theorem QkZ(w:World)(c:BitVec 32)(s:BA)(hs:s.size<=9223372036854775807) :
  Calls prog 342 #[.int .u32 c.toNat,.string s] w fun e w'=>e= .returned (.int .u32 ((mor c s.data.toList).toNat:Int))∧w'=w.alloc tabO:=by
 have HN:Hid (bits .xor .u32 IntKind.u32.max (c.toNat:Int)=((~~~ c).toNat:Int)):=QoT c
 go_enter func342,ntmps342;go_wp2
 go_loopg [6,13] s.size (fun g x i wr=>w.alloc tabO=wr ∧ ∃(k m:Nat),k<=s.size∧g=s.size-k∧x= .int .u32 m∧i= .int .i64 k∧Hid (m=(run (~~~ c) (s.data.toList.take k)).toNat))
 case atStart=>go_light;exact⟨rfl,0,(~~~ c).toNat,Ln _,rfl,by rw[HN.out],rfl,rfl⟩
 case round=>
  obtain⟨rfl,k,d,hk,rfl,rfl,rfl,HD⟩:=hrel
  by_cases hlt:k<s.size
  ·have hz:(k:Int)<(s.size:Int):=by omega
   have e0:=Qo4 (run (~~~ c) (s.data.toList.take k)) s[k];rw[<-HD.out] at e0;obtain⟨q,n,t,y,e1,e2,hn,ht,e3,hy⟩:=half (run (~~~ c) (s.data.toList.take k) ^^^ bw s[k]);obtain⟨q',n',t',y',xD,xE,xA,xB,xF,xC⟩:=half (stN 4 (run (~~~ c) (s.data.toList.take k) ^^^ bw s[k]));have HY:Hid (y'=(run (~~~ c) (s.data.toList.take (k+1))).toNat):=by
    show _=_
    rw[xC,Qjt s k hlt,QlQ,by8,<-Qoi]
   rw[<-hy] at xD xE;have c1:=QfU w n hn;have c2:=QfU w n' xA;rw[ht] at c1;rw[xB] at c2;have n0:(0:Int)<=(n:Int):=Lh _;have n1:(n:Int)<16:=by omega
   have xG:(0:Int)<=(n':Int):=Lh _;have xH:(n':Int)<16:=by omega
   generalize (run (~~~ c) (s.data.toList.take k) ^^^ bw s[k]).toNat=x at e0 e1 e2;clear hy xC ht xB HD hn xA;go_wp2
   go_roundg (s.size-(k+1))
   case rel=>go_light;exact⟨rfl,k+1,y',by omega,rfl,rfl,by go_num,HY.out⟩
   case measure=>go_light;omega
  ·obtain rfl:k=s.size:=by omega
   have hz:¬(s.size:Int)<(s.size:Int):=by omega
   have e0:=QoT (run (~~~ c) (s.data.toList.take s.size));rw[<-HD.out] at e0;have HE:Hid ((~~~ (run (~~~ c) (s.data.toList.take s.size))).toNat=(mor c s.data.toList).toNat):=by
    show _=_
    rw[Lp (by simp),mor]
   generalize (~~~ (run (~~~ c) (s.data.toList.take s.size))).toNat=x at e0 HE;clear HD;go_wp2
   go_ret
   exact⟨by rw[HE.out];rfl,rfl⟩
theorem QF{w:World}(h:w.rangeAt b o cs)(hc:cs≠[]):b<w.heap.size:=by
 obtain⟨v,r,rfl⟩:=List.exists_cons_of_ne_nil hc;have:=h 0 v rfl;exact Lo _ _ this
theorem Qn{a w:World}(hb:Below B a w)(hlt:b<B)(h:a.rangeAt b o cs):w.rangeAt b o cs:=fun j v hv=>by
 rw[hb.cell (p:=⟨b,o+j,none⟩) hlt];exact h j v hv
theorem Qk0(w:World)(c:BitVec 32)(m:Nat)(hm:m=c.toNat)(s:BA)(hs:s.size<=9223372036854775807) :
  Zr 342 #[.int .u32 m,.string s] w (.int .u32 ((mor c s.data.toList).toNat:Int)):=by
 subst hm;refine(QkZ w c s hs).mono ?_
 rintro e w' ⟨rfl,rfl⟩;exact⟨rfl,(Lb _ _).alloc (La _) _⟩
def Qj(ss:LB):List UInt8:=ss.flatMap fun s=>s.data.toList
def sumL(ss:LB):BitVec 32:=mor 0#32 (Qj ss)
theorem U0(ss:LB)(k:Nat)(hk:k<ss.length):Qj (ss.take (k+1))=Qj (ss.take k)++(ss.getD k ByteArray.empty).data.toList:=by
 have e:ss.getD k ByteArray.empty=ss[k]:=by rw[Ld,Lk hk];rfl
 unfold Qj;rw[LM hk,List.flatMap_append,e];simp
theorem _root_.Go.Proofs.YtoblgjledefdbaaGreatDoor.RdS.szAt{w:World}{ao:OA}{off len:Nat}{ss:LB}(h:RdS w ao b off len ss){k:Nat}(hk:k<len):(ss.getD k ByteArray.empty).size<=9223372036854775807:=by
 have hl:k<ss.length:=by have:=h.hl;omega
 have e:ss.getD k ByteArray.empty=ss[k]:=by rw[Ld,Lk hl];rfl
 rw[e];exact h.sz _ (L8 _)
theorem Qd8(w:World)(ao:OA)(b off len cap:Nat)(ss:LB)(hr:RdS w ao b off len ss)(hmx:len<=9223372036854775807) :
  Zr 341 #[.slice ao len cap] w (.int .u32 ((sumL ss).toNat:Int)):=by
 go_enter func341,ntmps341;go_wp2
 go_loopg [3,8] len (fun g x i wr=> ∃(k m:Nat),k<=len∧g=len-k∧x= .int .u32 m∧i= .int .i64 k∧Hid (m=(mor 0#32 (Qj (ss.take k))).toNat)∧Bl w wr)
 case atStart=>go_light;exact⟨0,0,Ln _,rfl,rfl,rfl,by show _=_;rw[IL,show Qj []=[] from rfl,QhC];rfl,Lb _ _⟩
 case round=>
  obtain⟨k,m,hk,rfl,rfl,rfl,HM,hb⟩:=hrel
  by_cases hlt:k<len
  ·have hz:(k:Int)<(len:Int):=by omega
   obtain rfl:=hr.ptr (by omega)
   have xB:=hr.next hb (La _);have ck:=xB.at hlt;have xA:=Qk0 wr _ m HM.out (ss.getD k ByteArray.empty) (hr.szAt hlt);rw[<-OP,<-U0 ss k (by rw[hr.hl];exact hlt)] at xA
   have HB:Hid (∀w',Bl wr w'->Bl w w'):=fun w' h=>Qa hb h
   obtain⟨y,hy⟩:∃y,y=(mor 0#32 (Qj (ss.take (k+1)))).toNat:=⟨_,rfl⟩;rw[<-hy] at xA;have HY:Hid (y=(mor 0#32 (Qj (ss.take (k+1)))).toNat):=hy;clear hy HM hb hr xB;generalize ss.getD k ByteArray.empty=part at *
   go_wp2_with (go_at_call 342;refine xA.mono ?_;rintro e w' ⟨rfl,xC⟩)
   go_roundg (len-(k+1))
   case rel=>go_light;exact⟨k+1,y,by omega,rfl,rfl,by go_num,HY.out,HB.out _ xC⟩
   case measure=>go_light;omega
  ·obtain rfl:k=len:=by omega
   have hz:¬(k:Int)<(k:Int):=by omega
   have HE:Hid (m=(sumL ss).toNat):=by
    show _=_
    rw[HM.out,sumL,Lp (by rw[hr.hl];exact La _)]
   clear HM;go_wp2
   go_ret
   exact⟨by rw[<-HE.out];rfl,hb⟩
end St.Rc
namespace St.Rc
def big:Nat->Nat->List UInt8
 | 0,_=>[]
 | k+1,n=>big k (n/256)++[UInt8.ofNat n]
theorem Qk(k n:Nat):(big k n).length=k:=by
 induction k generalizing n with
 | zero=>rfl
 | succ k ih=>simp[big,ih]
theorem QjM(k n:Nat):big (k+1) n=UInt8.ofNat (n/256^k)::big k n:=by
 induction k generalizing n with
 | zero=>simp[big]
 | succ k ih=>
  rw[big,ih,L4,<-Nat.pow_succ',NW]
  rfl
def num(l:List UInt8):Nat:=l.foldl (fun n b=>n*256+b.toNat) 0
theorem Qap(l:List UInt8)(b:UInt8):num (l++[b])=num l*256+b.toNat:=by simp[num]
theorem UN{P:List UInt8->Prop}(h0:P [])(hs:∀l b,P l->P (l++[b]))(l:List UInt8):P l:=by
 have:∀l:List UInt8,P l.reverse:=by
  intro l
  induction l with
  | nil=>exact h0
  | cons b l ih=>rw[Ip];exact hs _ _ ih
 have h:=this l.reverse
 rwa [List.reverse_reverse] at h
theorem QpJ(l:List UInt8):num l<256^l.length:=by
 induction l using UN with
 | h0=>simp[num]
 | hs l b ih=>
  rw[Qap,Lc,LK,LH];have:=b.toNat_lt;omega
theorem OR(l:List UInt8)(k:Nat)(h:l.length<=k):num l<256^k:=Lz (QpJ l) (Na (by decide) h)
theorem QnA(k n:Nat):num (big k n)=n%256^k:=by
 induction k generalizing n with
 | zero=>simp[big,num,Nat.mod_one]
 | succ k ih=>
  rw[big,Qap,ih,UInt8.toNat_ofNat',show(256:Nat)^(k+1)=256*256^k from Nat.pow_succ',Ih]
  omega
theorem YZ(k n:Nat)(h:n<256^k):num (big k n)=n:=by rw[QnA,Nt h]
theorem Qmz(l:List UInt8):big l.length (num l)=l:=by
 induction l using UN with
 | h0=>rfl
 | hs l b ih=>
  have hb:=b.toNat_lt;rw[Lc,LK,big,Qap,show(num l*256+b.toNat)/256=num l by omega,ih]
  congr 2
  apply UInt8.toNat_inj.1
  rw[UInt8.toNat_ofNat'];omega
theorem QjN(l:List UInt8)(k:Nat)(h:l.length=k):big k (num l)=l:=by subst h;exact Qmz l
def zer(n:Nat):List UInt8:=List.replicate n 0
theorem Qw(n:Nat):(zer n).length=n:=by simp[zer]
def crc(l:List UInt8):Nat:=(mor 0#32 l).toNat
theorem Qkf(l:List UInt8):crc l<256^4:=(mor 0#32 l).isLt
def sld(l:List UInt8):List UInt8:=l++big 4 (crc l)
theorem Oj(l:List UInt8):(sld l).length=l.length+4:=by simp[sld,Qk]
def pay(s:List UInt8):List UInt8:=sld (big 4 s.length++s)
def nod(p:Nat)(d:List UInt8):List UInt8:=sld (d++zer (32-d.length)++big 4 p)
structure MV where
 k:Int
 size:Nat
 items:Nat
 nodes:Nat
 chain:BitVec 32
def MV.z:MV:=⟨0,0,0,0,0#32⟩
def UT(k a b c d:Nat):List UInt8:=[109,115,102,1]++big 1 k++zer 3++big 8 a++big 8 b++big 8 c++big 4 d++zer 24
theorem J5(k a b c d:Nat):(UT k a b c d).length=60:=by simp[UT,Qk,Qw]
def mrk(m:MV):List UInt8:=if 1<=m.k∧m.k<=32 then sld (UT m.k.toNat m.size m.items m.nodes m.chain.toNat) else []
theorem pay_len(s:List UInt8):(pay s).length=s.length+8:=by simp[pay,Oj,Qk];omega
theorem Qam(p:Nat)(d:List UInt8)(h:d.length<=32):(nod p d).length=40:=by simp[nod,Oj,Qk,Qw];omega
theorem Qd0(m:MV)(h:1<=m.k∧m.k<=32):(mrk m).length=64:=by rw[mrk,Lf h,Oj,J5]
def payS(s:List UInt8):List UInt8:=if s.length<=1048576 then pay s else []
def nodS(p:Nat)(d:List UInt8):List UInt8:=if d.length<=32 then nod p d else []
def rpay(s:List UInt8):Option (List UInt8) :=
 if 4<=s.length∧num (s.take 4)<=1048576∧num (s.take 4)+8<=s.length∧pay ((s.drop 4).take (num (s.take 4)))=s.take (num (s.take 4)+8) then some ((s.drop 4).take (num (s.take 4))) else none
theorem QnQ(s:List UInt8)(n:Nat)(h4:4<=s.length)(hn:num (s.take 4)=n)(h8:n+8<=s.length):pay ((s.drop 4).take n)=sld (s.take (n+4)):=by
 have e1:((s.drop 4).take n).length=n:=by simp;omega
 have e2:big 4 n=s.take 4:=by rw[<-hn,QjN _ _ (by simp;omega)]
 rw[pay,e1,e2]
 congr 1
 have:s.take (n+4)=s.take 4++(s.drop 4).take n:=by rw[Wj,List.take_add]
 rw[this]
theorem QfJ(x t:List UInt8)(h:x.length<=1048576):rpay (pay x++t)=some x:=by
 have hl:=pay_len x;have e0:(pay x++t).take 4=big 4 x.length:=by
  rw[Lu (by omega),pay,sld,Lw,Lu (by rw[Qk];exact La _),Lp (by rw[Qk];exact La _)]
 have e1:num ((pay x++t).take 4)=x.length:=by rw[e0,YZ _ _ (by omega)]
 have e2:((pay x++t).drop 4).take x.length=x:=by
  rw[LR (by omega),Lu (by simp;omega),pay,sld,Lw,LR (by rw[Qk];exact La _),L3 (by rw[Qk];exact La _),Nj,Lu (La _),Lp (La _)]
 rw[rpay,e1,e2];refine Lf ⟨by simp;omega,h,by simp;omega,?_⟩
 rw[Lu (by omega),Lp (by omega)]
theorem rpay_len{s x:List UInt8}(h:rpay s=some x):x.length<=1048576∧x.length+8<=s.length∧pay x=s.take (x.length+8)∧num (s.take 4)=x.length:=by
 unfold rpay at h
 split at h
 ·rename_i hc
  cases h;have e:(List.take (num (List.take 4 s)) (List.drop 4 s)).length=num (List.take 4 s):=by simp;omega
  rw[e];exact⟨hc.2.1,hc.2.2.1,hc.2.2.2,rfl⟩
 ·cases h
def rnod(k p:Nat)(s:List UInt8):Option (List UInt8):=if s.length=40∧nod p (s.take k)=s then some (s.take k) else none
theorem Qk7(p:Nat)(d:List UInt8):(nod p d).take d.length=d:=by
 rw[nod,sld,Lw,Lw,Lu (La _),Lp (La _)]
theorem QfH(p:Nat)(d:List UInt8)(h:d.length<=32):rnod d.length p (nod p d)=some d:=by
 rw[rnod,Qk7];exact Lf ⟨Qam p d h,rfl⟩
def mOf(s:List UInt8):MV:=⟨(num ((s.drop 4).take 1):Int),num ((s.drop 8).take 8),num ((s.drop 16).take 8),num ((s.drop 24).take 8),BitVec.ofNat 32 (num ((s.drop 32).take 4))⟩
def rmrk(s:List UInt8):Option MV:=if s.length=64∧mrk (mOf s)=s then some (mOf s) else none
theorem MV.ext'{a b:MV}(h1:a.k=b.k)(h2:a.size=b.size)(h3:a.items=b.items)(h4:a.nodes=b.nodes)(h5:a.chain=b.chain):a=b:=by
 cases a;cases b;simp only at h1 h2 h3 h4 h5;subst h1 h2 h3 h4 h5;rfl
structure MV.Ok(m:MV):Prop where
 k1:1<=m.k
 k2:m.k<=32
 size:m.size<256^8
 items:m.items<256^8
 nodes:m.nodes<256^8
theorem OJ(a b c:List UInt8)(i n:Nat)(ha:a.length=i)(hb:b.length=n):((a++b++c).drop i).take n=b:=by
 subst ha hb;rw[Lw,LR (La _),L3 (La _),Nj,Lu (La _),Lp (La _)]
theorem Qnk(m:MV)(h:m.Ok):mOf (mrk m)=m:=by
 have e:mrk m=sld (UT m.k.toNat m.size m.items m.nodes m.chain.toNat):=Lf ⟨h.k1,h.k2⟩;obtain⟨T,hT⟩:=Ze (big 4 (crc (UT m.k.toNat m.size m.items m.nodes m.chain.toNat)));rw[e,sld,hT,UT];have h1:=h.k1;have h2:=h.k2;refine MV.ext' ?_ ?_ ?_ ?_ ?_
 ·show((num _:Nat):Int)=_
  have:=OJ [109,115,102,1] (big 1 m.k.toNat) (zer 3++big 8 m.size++big 8 m.items++big 8 m.nodes++big 4 m.chain.toNat++zer 24++T) 4 1 rfl (Qk _ _);simp only[List.append_assoc] at this ⊢;rw[this,YZ _ _ (by omega)]
  omega
 ·show num _=_
  have:=OJ ([109,115,102,1]++big 1 m.k.toNat++zer 3) (big 8 m.size) (big 8 m.items++big 8 m.nodes++big 4 m.chain.toNat++zer 24++T) 8 8 (by simp[Qk,Qw]) (Qk _ _)
  simp only[List.append_assoc] at this ⊢;rw[this,YZ _ _ h.size]
 ·show num _=_
  have:=OJ ([109,115,102,1]++big 1 m.k.toNat++zer 3++big 8 m.size) (big 8 m.items) (big 8 m.nodes++big 4 m.chain.toNat++zer 24++T) 16 8 (by simp[Qk,Qw]) (Qk _ _)
  simp only[List.append_assoc] at this ⊢;rw[this,YZ _ _ h.items]
 ·show num _=_
  have:=OJ ([109,115,102,1]++big 1 m.k.toNat++zer 3++big 8 m.size++big 8 m.items) (big 8 m.nodes) (big 4 m.chain.toNat++zer 24++T) 24 8 (by simp[Qk,Qw]) (Qk _ _)
  simp only[List.append_assoc] at this ⊢;rw[this,YZ _ _ h.nodes]
 ·show BitVec.ofNat 32 (num _)=_
  have:=OJ ([109,115,102,1]++big 1 m.k.toNat++zer 3++big 8 m.size++big 8 m.items++big 8 m.nodes) (big 4 m.chain.toNat) (zer 24++T) 32 4 (by simp[Qk,Qw]) (Qk _ _)
  simp only[List.append_assoc] at this ⊢;rw[this,YZ _ _ (show m.chain.toNat<256^4 from m.chain.isLt)]
  simp
theorem QlH(m:MV)(h:m.Ok):rmrk (mrk m)=some m:=by
 rw[rmrk,Qnk m h];exact Lf ⟨Qd0 m ⟨h.k1,h.k2⟩,rfl⟩
end St.Rc
namespace St
variable{W a w w2:World}
theorem Qa(h:Bl w W)(h2:Bl W w2):Bl w w2:=h.trans (h2.mono h.size)
theorem bal(h:Bl w W)(o:Obj):Bl w (W.alloc o):=h.alloc h.size o
theorem Qi{B:Nat}(h:Below B a w)(n:Nat):Below B a (w.drewN n):=⟨h.os,h.tape,h.output,h.size,h.block⟩
structure Upo(S:Nat->Prop)(w w':World):Prop where
 os:w'.os=w.os
 tape:w'.tape=w.tape
 output:w'.output=w.output
 size:w.heap.size<=w'.heap.size
 block:∀b,b<w.heap.size -> ¬S b->w'.heap[b]? = w.heap[b]?
section
variable {S T:Nat->Prop} {w w' w1 w2:World}
theorem Upo.refl(S:Nat->Prop)(w:World):Upo S w w:=⟨rfl,rfl,rfl,La _,fun _ _ _=>rfl⟩
theorem Upo.of(h:Bl w w'):Upo S w w':=⟨h.os,h.tape,h.output,h.size,fun b hb _=>h.block b hb⟩
theorem Upo.trans(h:Upo S w w1)(h2:Upo T w1 w2)(hT:∀b,b<w.heap.size->T b->S b):Upo S w w2 :=
 ⟨h2.os.trans h.os,h2.tape.trans h.tape,h2.output.trans h.output,Lr h.size h2.size,fun b hb hs=>(h2.block b (Lz hb h.size) fun ht=>hs (hT b hb ht)).trans (h.block b hb hs)⟩
theorem Upo.mono(h:Upo S w w1)(hT:∀b,b<w.heap.size->S b->T b):Upo T w w1:=⟨h.os,h.tape,h.output,h.size,fun b hb hs=>h.block b hb fun q=>hs (hT b hb q)⟩
theorem Upo.next(h:Upo S w w1)(h2:Bl w1 w2):Upo S w w2:=h.trans (Upo.of (S:=S) h2) fun _ _ q=>q
theorem Upo.below(h:Upo S w w'){B:Nat}(hB:B<=w.heap.size)(hS:∀b,S b->B<=b):Below B w w' :=
 ⟨h.os,h.tape,h.output,h.size,fun b hb=>h.block b (by omega) fun hs=>by have:=hS b hs;omega⟩
theorem Upo.grown{o:Option Nat}(h:w.grownBy w' o)(hS:∀b,o=some b->S b):Upo S w w' :=
 ⟨h.os,h.tape,h.output,h.size,fun b hb hs=>h.block b hb fun e=>hs (hS b e.symm)⟩
theorem Upo.set(h:Upo S w w')(b i:Nat)(v:Value)(hb:S b∨w.heap.size<=b):Upo S w (w'.setCell ⟨b,i,none⟩ v):=by
 refine⟨h.os,h.tape,h.output,by simpa using h.size,fun c hc hs=> ?_⟩
 rw[<-h.block c hc hs];exact Below.heap_setCell _ _ _ _ (by show c≠b;rintro rfl;rcases hb with hb|hb;exact hs hb;omega)
theorem Upo.alloc(h:Upo S w w')(o:Obj):Upo S w (w'.alloc o):=h.next (bal (Lb _ _) o)
theorem Upo.drew(h:Upo S w w'):Upo S w w'.drew:=⟨h.os,h.tape,h.output,h.size,h.block⟩
end
theorem Yc(w:World)(o:Obj):(w.alloc o).heap[w.heap.size]? = some o:=(MapKept.heap_alloc w o).1
theorem new0(w:World)(o p:Obj):((w.alloc o).alloc p).heap[w.heap.size]? = some o:=((MapKept.heap_alloc (w.alloc o) p).2 _ (by simp)).trans (Yc w o)
theorem new2(w:World)(o p:Obj):((w.alloc o).alloc p).heap[w.heap.size+1]? = some p:=by
 have:=Yc (w.alloc o) p
 simpa using this
theorem QaC{q:Nat}{x0 x1 x2:Value}{T:TypeId}(h:W.heap[q]? = some (.cells #[x0,x1,x2] T (0,0)))(a b c:Value) :
  (((W.setCell ⟨q,0,none⟩ a).setCell ⟨q,1,none⟩ b).setCell ⟨q,2,none⟩ c).heap[q]? = some (.cells #[a,b,c] T (0,0)):=by
 have h1:(W.setCell ⟨q,0,none⟩ a).heap[q]? = some (.cells #[a,x1,x2] T (0,0)):=Lm W q 0 _ _ a h;have h2:((W.setCell ⟨q,0,none⟩ a).setCell ⟨q,1,none⟩ b).heap[q]? = some (.cells #[a,b,x2] T (0,0)):=Lm _ q 1 _ _ b h1;exact Lm _ q 2 _ _ c h2
theorem Qp{q:Nat}{a b c:Value}{T:TypeId}(h:W.heap[q]? = some (.cells #[a,b,c] T (0,0))):W.cell? ⟨q,0,none⟩=some a∧W.cell? ⟨q,1,none⟩=some b∧W.cell? ⟨q,2,none⟩=some c :=
 ⟨by rw[cell_of_row W q 0 _ _ (0,0) h];rfl,by rw[cell_of_row W q 1 _ _ (0,0) h];rfl,by rw[cell_of_row W q 2 _ _ (0,0) h];rfl⟩
def hv(v:Value):Option (DataW Value×List MemPlace):=some (.held v,[])
theorem Tryz.keyS:Maps.Keyed prog 9:=Maps.string_keyed underlying9
theorem keyS{s:BA}(hs:s.size<=maxLen):keyOf prog 9 (.string s)=some (.string s.data.toList):=WideMaps.keyOf_string_mk underlying9 hs
def Mv(w:World)(m:Nat)(F:List UInt8->Option Value):Prop :=
 ∃D:DataW Value,w.ownsMap prog 9 hv m (Maps.size D) D ∧ ∀s,(F s=none->Maps.has D (.string s)=false) ∧ ∀v,F s=some v -> ∀z,D.atKey (.string s) z= .held v
section
variable {w W:World} {m:Nat} {F G:List UInt8->Option Value}
theorem Mv.lt(h:Mv w m F):m<w.heap.size:=by
 obtain⟨D,h1,_⟩:=h;exact h1.lt
theorem Mv.same(h:Mv w m F)(hb:W.heap[m]? = w.heap[m]?):Mv W m F:=by
 obtain⟨D,⟨es,c,h1,h2⟩,h3⟩:=h;exact⟨D,⟨es,c,hb.trans h1,h2⟩,h3⟩
theorem QgF(w:World):Mv (w.alloc (.map #[] 0)) w.heap.size (fun _=>none) :=
 ⟨.map [],World.ownsMap_made _ _ _ _,fun s=>⟨fun _=>rfl,fun v h=>by cases h⟩⟩
theorem Mv.has(h:Mv w m F):∃D:DataW Value,w.ownsMap prog 9 hv m (Maps.size D) D∧(∀s,Maps.has D (.string s)=(F s).isSome) ∧ ∀s v,F s=some v -> ∀z,D.atKey (.string s) z= .held v:=by
 obtain⟨D,h1,h2⟩:=h;refine⟨D,h1,fun s=> ?_,fun s=>(h2 s).2⟩
 cases e:F s with
 | none=>exact(h2 s).1 e
 | some v=>exact Maps.has_true_of_atKey ((h2 s).2 v e)
theorem QoQ{D:DataW Value}{n:Nat}(h:w.ownsMap prog 9 hv m n D)(h2:∀s,(F s=none->Maps.has D (.string s)=false) ∧ ∀v,F s=some v -> ∀z,D.atKey (.string s) z= .held v):Mv w m F:=by
 obtain⟨es,c,g1,g2,g3,rfl⟩:=h;refine⟨_,⟨es,c,g1,g2,?_,rfl⟩,h2⟩
 simp only[Maps.size,length_read];exact La _
theorem Mv.look(h:Mv w m F){t e:TypeId}(ht:prog.underlying t=some (.map 9 e)){z:Value}(hz:(zeroValue e).run prog w= .ok z w){s:BA}(hs:s.size<=maxLen) :
  (Instr.lookup t (.map (some m)) (.string s) false).run prog w= .ok ((F s.data.toList).getD z) w:=by
 obtain⟨D,h1,h2⟩:=h;obtain⟨v,ps,hr,xA⟩:=h1.lookup Tryz.keyS ht hz (zd := .held z) (zp:=[]) rfl (keyS hs);rw[hr];simp only[hv,Option.some.injEq,Prod.mk.injEq] at xA
 cases e1:F s.data.toList with
 | none=>
  rw[Maps.atKey_of_not_has ((h2 _).1 e1)] at xA;have e2:v=z:=by injection xA.1
  rw[e2,We]
 | some u=>
  rw[(h2 _).2 u e1] at xA;have e2:v=u:=by injection xA.1
  rw[e2,Wf]
theorem Mv.look_ok(h:Mv w m F){t e:TypeId}(ht:prog.underlying t=some (.map 9 e)){z:Value}(hz:(zeroValue e).run prog w= .ok z w){s:BA}(hs:s.size<=maxLen) :
  (Instr.lookup t (.map (some m)) (.string s) true).run prog w= .ok (.tuple #[(F s.data.toList).getD z,.bool (F s.data.toList).isSome]) w:=by
 obtain⟨D,h1,h3,h2⟩:=h.has;obtain⟨v,ps,hr,xA⟩:=h1.look_ok Tryz.keyS ht hz (zd := .held z) (zp:=[]) rfl (keyS hs);rw[hr,h3];simp only[hv,Option.some.injEq,Prod.mk.injEq] at xA
 cases e1:F s.data.toList with
 | none=>
  have e2:=h3 s.data.toList;rw[e1] at e2;rw[Maps.atKey_of_not_has e2] at xA;have e2:v=z:=by injection xA.1
  rw[e2,We,Option.isSome_none]
 | some u=>
  rw[h2 _ u e1] at xA;have e2:v=u:=by injection xA.1
  rw[e2,Wf]
def Ou(F:List UInt8->Option Value)(s:List UInt8)(o:Option Value):List UInt8->Option Value:=fun t=>if t=s then o else F t
theorem Mv.perm(h:Mv w m F){N:List (List UInt8)}(hn:N.Nodup)(hN:∀s,s∈N↔(F s).isSome=true):∃D:DataW Value,w.ownsMap prog 9 hv m N.length D∧Maps.size D=N.length∧N.Perm (strKeys D):=by
 obtain⟨D,h1,h3,h2⟩:=h.has;obtain⟨es,rfl,xD,_⟩:=h1.entries Tryz.keyS;obtain⟨xA,xB,xC⟩:=h1.keysOf;obtain rfl:es=xA:=by simpa using xB
 have hp:=perm_strKeys xD (fun p hp=>by obtain⟨v,hv⟩:=xC p hp;obtain⟨x,_,hx,_⟩:=Maps.keyOf_str underlying9 hv;exact⟨x,hx⟩) hn (fun x=>by rw[hN,h3])
 have hl:N.length=Maps.size (.map es:DataW Value):=by rw[hp.length_eq];simp[strKeys,Maps.size]
 exact⟨_,by rw[hl];exact h1,hl.symm,hp⟩
theorem Mv.write(h:Mv w m F){t e:TypeId}(ht:prog.underlying t=some (.map 9 e)){N:List (List UInt8)}(hn:N.Nodup)(hN:∀s,s∈N↔(F s).isSome=true)(hl:N.length<maxLen){s:BA}(hs:s.size<=maxLen)(v:Value) :
  ∃w',(Instr.mapUpdate t (.map (some m)) (.string s) v).run prog w= .ok () w'∧Mv w' m (Ou F s.data.toList (some v))∧w.grownBy w' (some m):=by
 obtain⟨D0,_,e0,hp⟩:=h.perm hn hN;obtain⟨D,h1,h3,h2⟩:=h.has;have hz:Maps.size D<maxLen:=by
  obtain⟨es,hD,xD,_⟩:=h1.entries Tryz.keyS;obtain⟨xB,xA,xC⟩:=h1.keysOf;obtain rfl:es=xB:=by rw[hD] at xA;simpa using xA
  subst hD;have hp:=perm_strKeys xD (fun p hp=>by obtain⟨v,hv⟩:=xC p hp;obtain⟨x,_,hx,_⟩:=Maps.keyOf_str underlying9 hv;exact⟨x,hx⟩) hn (fun x=>by rw[hN,h3])
  have:Maps.size (.map es:DataW Value)=N.length:=by rw[hp.length_eq];simp[strKeys,Maps.size]
  omega
 obtain⟨w',hr,g1,g2⟩:=h1.update (val:=v) (d := .held v) (ps:=[]) Tryz.keyS ht hz (keyS hs) rfl;refine⟨w',hr,QoQ g1 fun u=> ?_,g2⟩
 by_cases e:u=s.data.toList
 ·subst e;refine⟨fun q=>by simp[Ou] at q,fun x hx z=> ?_⟩
  simp[Ou] at hx;subst hx;exact Maps.atKey_put_same h1.isMap (by trivial) _ _
 ·have e':(Lit.string u) ≠ .string s.data.toList:=fun q=>e (by injection q)
  refine⟨fun q=> ?_,fun x hx z=> ?_⟩
  ·rw[Maps.has_put_other e',h3];simp only[Ou,if_neg e] at q;rw[q];rfl
  ·rw[Maps.atKey_put_other e'];simp only[Ou,if_neg e] at hx;exact h2 u x hx z
theorem Mv.drop(h:Mv w m F){t e:TypeId}(ht:prog.underlying t=some (.map 9 e)){s:BA}(hs:s.size<=maxLen)(ty:TypeId) :
  ∃w',(Builtin.delete_ #[t,9] ty #[.map (some m),.string s]).run prog w= .ok (.tuple #[]) w'∧Mv w' m (Ou F s.data.toList none)∧w.grownBy w' (some m):=by
 obtain⟨D,h1,h3,h2⟩:=h.has;obtain⟨w',hr,g1,g2⟩:=h1.drop Tryz.keyS ht (keyS hs) ty;refine⟨w',hr,QoQ g1 fun u=> ?_,g2.grown⟩
 by_cases e:u=s.data.toList
 ·subst e;refine⟨fun _=>Maps.has_del_same,fun x hx z=> ?_⟩
  simp[Ou] at hx
 ·have e':(Lit.string u) ≠ .string s.data.toList:=fun q=>e (by injection q)
  refine⟨fun q=> ?_,fun x hx z=> ?_⟩
  ·rw[Maps.has_del_other e',h3];simp only[Ou,if_neg e] at q;rw[q];rfl
  ·rw[Maps.atKey_del_other e'];simp only[Ou,if_neg e] at hx;exact h2 u x hx z
end
end St
namespace St
structure FV where
 now:List UInt8
 syn:List UInt8
def fz:FV:=⟨[],[]⟩
instance:Inhabited FV:=⟨fz⟩
def FV.gone(f:FV):Bool:=f.now.isEmpty && f.syn.isEmpty
theorem JI{f:FV} : f.gone=true↔f=fz:=by
 obtain⟨a,b⟩:=f;simp[FV.gone,fz,List.isEmpty_iff]
theorem U3{f:FV} : f.gone=true↔f.now.length=0∧f.syn.length=0:=by
 obtain⟨a,b⟩:=f;simp[FV.gone,List.isEmpty_iff]
def Qe:List (List UInt8×FV)->List UInt8->FV
 | [],_=>fz
 | (t,f)::r,s=>if t=s then f else Qe r s
def QL:List (List UInt8×FV)->List UInt8->FV->List (List UInt8×FV)
 | [],s,f=>if f.gone then [] else [(s,f)]
 | (t,g)::r,s,f=>if t=s then (if f.gone then r else (s,f)::r) else if s<t then (if f.gone then (t,g)::r else (s,f)::(t,g)::r) else (t,g)::QL r s f
def Ord(L:List (List UInt8×FV)):Prop:=L.Pairwise (fun a b=>a.1<b.1) ∧ ∀p∈L,p.2.gone=false
variable{s t:List UInt8}{L M:List (List UInt8×FV)}
theorem Ut:Ord []:=⟨.nil,by simp⟩
theorem QqC(h1:¬t=s)(h2:¬s<t):t<s:=by
 rcases Decidable.em (t<s) with h|h
 ·exact h
 ·exact absurd (List.le_antisymm (List.not_lt.1 h2) (List.not_lt.1 h)) h1
theorem YG(h:s ∉ L.map (·.1)):Qe L s=fz:=by
 induction L with
 | nil=>rfl
 | cons p r ih=>
  obtain⟨t,g⟩:=p;simp only[List.map_cons,List.mem_cons,not_or] at h;rw[Qe,Le (fun e=>h.1 e.symm)]
  exact ih h.2
theorem Qac(ho:Ord L){f:FV}(h:(s,f)∈L):Qe L s=f:=by
 induction L with
 | nil=>simp at h
 | cons p r ih=>
  obtain⟨t,g⟩:=p;obtain⟨h1,h2⟩:=ho;obtain⟨h3,h4⟩:=List.pairwise_cons.1 h1;rw[Qe]
  rcases List.mem_cons.1 h with e|e
  ·injection e with e1 e2
   rw[Lf e1.symm,e2]
  ·have:=h3 _ e;rw[Le (fun q=>by simp only[q] at this;exact absurd this (NB _))]
   exact ih ⟨h4,fun p hp=>h2 p (LV _ hp)⟩ e
theorem Qhn(h:s∈L.map (·.1)):(s,Qe L s)∈L:=by
 induction L with
 | nil=>simp at h
 | cons p r ih=>
  obtain⟨t,g⟩:=p;rw[Qe]
  by_cases e:t=s
  ·rw[Lf e,e];simp
  ·rw[Le e];simp only[List.map_cons,List.mem_cons] at h
   rcases h with h|h
   ·exact absurd h.symm e
   ·exact LV _ (ih h)
theorem QaS(ho:Ord L) : (Qe L s).gone=true↔s ∉ L.map (·.1):=by
 constructor
 ·intro h hs;have:=ho.2 _ (Qhn hs);rw[h] at this;cases this
 ·intro h;rw[YG h];rfl
theorem Qe2{f:FV}{p:List UInt8×FV}(h:p∈QL L s f):p∈L∨(p=(s,f)∧f.gone=false):=by
 induction L with
 | nil=>
  rw[QL] at h
  split at h
  ·simp at h
  ·rename_i hg
   exact .inr ⟨by simpa using h,by simpa using hg⟩
 | cons q r ih=>
  obtain⟨t,g⟩:=q;rw[QL] at h
  split at h
  ·split at h
   ·exact .inl (LV _ h)
   ·rename_i hg
    rcases List.mem_cons.1 h with h|h
    ·exact .inr ⟨h,by simpa using hg⟩
    ·exact .inl (LV _ h)
  ·split at h
   ·split at h
    ·exact .inl h
    ·rename_i hg
     rcases List.mem_cons.1 h with h|h
     ·exact .inr ⟨h,by simpa using hg⟩
     ·exact .inl h
   ·rcases List.mem_cons.1 h with h|h
    ·exact .inl (by rw[h];simp)
    ·rcases ih h with h|h
     ·exact .inl (LV _ h)
     ·exact .inr h
theorem Q3(ho:Ord L)(s:List UInt8)(f:FV):Ord (QL L s f):=by
 refine⟨?_,fun p hp=> ?_⟩
 ·induction L with
  | nil=>rw[QL];split <;> simp
  | cons q r ih=>
   obtain⟨t,g⟩:=q;obtain⟨h1,h2⟩:=ho;obtain⟨h3,h4⟩:=List.pairwise_cons.1 h1;have hr:Ord r:=⟨h4,fun p hp=>h2 p (LV _ hp)⟩
   rw[QL]
   split
   ·rename_i e
    split
    ·exact h4
    ·exact List.pairwise_cons.2 ⟨fun p hp=>by have:=h3 p hp;rw[e] at this;exact this,h4⟩
   ·rename_i e
    split
    ·rename_i hlt
     split
     ·exact h1
     ·exact List.pairwise_cons.2 ⟨fun p hp=>by
       rcases List.mem_cons.1 hp with rfl|hp
       ·exact hlt
       ·exact IP hlt (h3 p hp),h1⟩
    ·rename_i hlt
     refine List.pairwise_cons.2 ⟨fun p hp=> ?_,ih hr⟩
     rcases Qe2 hp with hp|⟨rfl,_⟩
     ·exact h3 p hp
     ·exact QqC e hlt
 ·rcases Qe2 hp with hp|⟨rfl,hg⟩
  ·exact ho.2 p hp
  ·exact hg
theorem Qs(ho:Ord L)(s:List UInt8)(f:FV)(t:List UInt8):Qe (QL L s f) t=if t=s then f else Qe L t:=by
 induction L with
 | nil=>
  rw[QL]
  split
  ·rename_i hg
   rw[JI.1 hg];simp[Qe]
  ·simp only[Qe]
   by_cases e:t=s
   ·rw[Lf e,Lf e.symm]
   ·rw[Le e,Le (fun q=>e q.symm)]
 | cons q r ih=>
  obtain⟨u,g⟩:=q;obtain⟨h1,h2⟩:=ho;obtain⟨h3,h4⟩:=List.pairwise_cons.1 h1;have hr:Ord r:=⟨h4,fun p hp=>h2 p (LV _ hp)⟩
  have xA:∀ {x:List UInt8},¬u<x->x ∉ r.map (·.1):=fun {x} hx hm=>by
   obtain⟨p,hp,rfl⟩:=List.mem_map.1 hm;exact hx (h3 p hp)
  rw[QL]
  split
  ·rename_i e
   subst e
   split
   ·rename_i hg
    rw[JI.1 hg]
    by_cases e:t=u
    ·rw[Lf e,YG (by rw[e];exact xA (NB _))]
    ·rw[Le e,Qe,Le (fun q=>e q.symm)]
   ·simp only[Qe]
    by_cases e:t=u
    ·rw[Lf e,Lf e.symm]
    ·rw[Le e,Le (fun q=>e q.symm)];simp only[if_neg (fun q:u=t=>e q.symm)]
  ·rename_i e
   split
   ·rename_i hlt
    have xB:s ∉ ((u,g)::r).map (·.1):=by
     simp only[List.map_cons,List.mem_cons,not_or];exact⟨fun q=>e q.symm,xA (fun h=>absurd (IP hlt h) (NB _))⟩
    split
    ·rename_i hg
     rw[JI.1 hg]
     by_cases e:t=s
     ·rw[Lf e,e,YG xB]
     ·rw[Le e]
    ·rw[Qe]
     by_cases e:t=s
     ·rw[Lf e,Lf e.symm]
     ·rw[Le e,Le (fun q=>e q.symm)]
   ·rw[Qe,ih hr,Qe]
    by_cases e2:u=t
    ·rw[Lf e2,Le (fun q=>e (e2.trans q)),Lf e2]
    ·rw[Le e2,Le e2]
theorem QnJ(hL:Ord L)(hM:Ord M)(h:∀s,Qe L s=Qe M s):L=M:=by
 have xA:∀ {A B:List (List UInt8×FV)},Ord A->Ord B->(∀s,Qe A s=Qe B s) -> ∀p∈A,p∈B:=fun {A B} hA hB hh p hp=>by
  obtain⟨s,f⟩:=p;have e:=Qac hA hp;have xB:s∈B.map (·.1):=by
   rcases Decidable.em (s∈B.map (·.1)) with h|h
   ·exact h
   ·have:=(QaS hB).2 h;rw[<-hh,e] at this;have q:=hA.2 _ hp;simp only[this] at q;cases q
  have:=Qhn xB;rw[<-hh,e] at this;exact this
 have nd:∀ {A:List (List UInt8×FV)},Ord A->A.Nodup:=fun {A} hA=>hA.1.imp fun {a b} hlt e=>by rw[e] at hlt;exact NB _ hlt
 refine List.Perm.eq_of_pairwise (le:=fun a b=>a.1<b.1) (fun a b _ _ h1 h2=>absurd (IP h1 h2) (NB _)) hL.1 hM.1 ((List.perm_ext_iff_of_nodup (nd hL) (nd hM)).2 fun p=>⟨xA hL hM h p,xA hM hL (fun s=>(h s).symm) p⟩)
def ch(keep:List Bool)(i:Nat):Bool:=keep.getD (i%keep.length) false
def sec(l:List UInt8)(s:Nat):List UInt8:=(List.range 64).map fun j=>l.getD (64*s+j) 0
theorem Yv(l:List UInt8)(s:Nat):(sec l s).length=64:=by simp[sec]
def sgo(keep:List Bool)(f:FV)(i:Nat):Nat->List UInt8×Nat
 | 0=>([],i)
 | s+1=>let r:=sgo keep f i s
  if sec f.now s=sec f.syn s then (r.1++sec f.syn s,r.2) else (r.1++(if ch keep r.2 then sec f.now s else sec f.syn s),r.2+1)
theorem QaD(keep:List Bool)(f:FV)(i s:Nat):(sgo keep f i s).1.length=64*s:=by
 induction s with
 | zero=>rfl
 | succ s ih=>
  simp only[sgo]
  split
  ·simp only[List.length_append,ih,Yv];omega
  ·simp only[List.length_append,ih]
   split <;> simp only[Yv] <;> omega
def nsec(f:FV):Nat:=(max f.now.length f.syn.length+63)/64
def UK(keep:List Bool)(f:FV)(i:Nat):Nat×Nat :=
 if f.now.length=f.syn.length then (f.syn.length,i) else (if ch keep i then f.now.length else f.syn.length,i+1)
def stay(keep:List Bool)(f:FV)(i:Nat):List UInt8×Nat :=
 let n:=UK keep f i
 let r:=sgo keep f n.2 (nsec f)
 (r.1.take n.1,r.2)
theorem QaF(keep:List Bool)(f:FV)(i:Nat):(stay keep f i).1.length=(UK keep f i).1:=by
 simp only[stay,List.length_take,QaD,nsec];have:(UK keep f i).1<=max f.now.length f.syn.length:=by
  unfold UK
  split
  ·exact Nat.le_max_right _ _
  ·split
   ·exact Nat.le_max_left _ _
   ·exact Nat.le_max_right _ _
 omega
def aft(keep:List Bool):List (List UInt8×FV)->Nat->List (List UInt8×List UInt8)
 | [],_=>[]
 | (s,f)::r,i=>let x:=stay keep f i
  if x.1=[] then aft keep r x.2 else (s,x.1)::aft keep r x.2
end St
def num(n:Nat):List UInt8:=if n<128 then [UInt8.ofNat n] else UInt8.ofNat (n%128+128)::num (n/128)
termination_by n
decreasing_by omega
theorem Qby{n:Nat}(h:n<128):num n=[UInt8.ofNat n]:=by rw[num,Lf h]
theorem Qao{n:Nat}(h:128<=n):num n=UInt8.ofNat (n%128+128)::num (n/128):=by rw[num,Le (by omega)]
theorem QnB(n:Nat):0<(num n).length:=by
 by_cases h:n<128
 ·rw[Qby h];simp
 ·rw[Qao (by omega)];simp
def Um:List UInt8->Nat->Nat->Nat×Nat×Nat
 | [],_,_=>(0,60,0)
 | b::r,i,n=>
  if i=9∧1<b.toNat then (0,61,0)
  else if b.toNat<128 then (if b.toNat=0∧0<i then (0,61,0) else (n+b.toNat*128^i,0,i+1))
  else Um r (i+1) (n+(b.toNat%128)*128^i)
theorem QQ{x:Nat}(h:x<256):(UInt8.ofNat x).toNat=x:=by
 rw[UInt8.toNat_ofNat'];exact Nt h
theorem Qei{i:Nat}(h:i<=9):128^i<=128^9:=Na (by decide) h
theorem QfL(t:List UInt8):∀(m i acc:Nat),acc<128^i->acc+m*128^i<2^64->i<=9->(i=0∨0<m) ->
  Um (num m++t) i acc=(acc+m*128^i,0,i+(num m).length):=by
 intro m
 induction m using Nat.strongRecOn with
 | _ m ih=>
  intro i acc ha hn hi h0
  by_cases h:m<128
  ·rw[Qby h,List.singleton_append,Um,QQ (by omega)]
   have h1:¬(i=9∧1<m):=by
    rintro⟨rfl,h1⟩;have:2*128^9<=m*128^9:=LJ _ h1;have e:2*128^9=2^64:=by decide
    omega
   rw[Le h1,Lf h,Le (by omega)]
   rfl
  ·rw[Qao (by omega),NW,Um,QQ (by omega)]
   have h1:i≠9:=by
    rintro rfl;have:128*128^9<=m*128^9:=LJ _ (by omega)
    have e:2^64<=128*128^9:=by decide
    omega
   rw[Le (by omega),Le (by omega)]
   have hs:acc+(m%128+128)%128*128^i+m/128*128^(i+1)=acc+m*128^i:=by
    rw[Nat.add_mod_right,Nat.mod_mod,LH,LF (128^i),<-LZ,Ns,<-LS,Nat.mod_add_div']
   have xA:acc+(m%128+128)%128*128^i<128^(i+1):=by
    rw[Nat.add_mod_right,Nat.mod_mod,LH];have:m%128*128^i<=127*128^i:=LJ _ (by omega)
    omega
   rw[ih (m/128) (by omega) (i+1) _ xA (by rw[hs];exact hn) (by omega) (.inr (by omega)),hs,LG]
   exact Lv (fun x=>(acc+m*128^i,0,x)) (by omega)
theorem Qdl:∀(l:List UInt8) (i acc n k:Nat),acc<128^i->i<=9->Um l i acc=(n,0,k) ->
  ∃m,n=acc+m*128^i∧num m=l.take (k-i)∧i<k∧k<=10∧k-i<=l.length∧(0<i->0<m)∧n<2^64:=by
 intro l
 induction l with
 | nil=>intro i acc n k _ _ h;simp[Um] at h
 | cons b r ih=>
  intro i acc n k ha hi h;rw[Um] at h
  by_cases h1:i=9∧1<b.toNat
  ·rw[Lf h1] at h;simp at h
  ·rw[Le h1] at h
   by_cases h2:b.toNat<128
   ·rw[Lf h2] at h
    by_cases h3:b.toNat=0∧0<i
    ·rw[Lf h3] at h;simp at h
    ·rw[Le h3] at h;simp only[Prod.mk.injEq,true_and] at h;obtain⟨rfl,rfl⟩:=h;refine⟨b.toNat,rfl,?_,by omega,by omega,by simp,by omega,?_⟩
     ·rw[Qby h2,I9];simp
     ·have e9:(128:Nat)^9=9223372036854775808:=by decide
      rcases Iv i 9 with h9|h9
      ·have hp:128^(i+1)<=128^9:=Qei (by omega)
       have:b.toNat*128^i<=127*128^i:=LJ _ (by omega)
       rw[LH] at hp;omega
      ·obtain rfl:i=9:=by omega
       have:b.toNat*128^9<=1*128^9:=LJ _ (by omega)
       omega
   ·rw[Le h2] at h;have h9:i≠9:=by omega
    have xB:acc+b.toNat%128*128^i<128^(i+1):=by
     rw[LH];have:b.toNat%128*128^i<=127*128^i:=LJ _ (by omega)
     omega
    obtain⟨m,rfl,h4,h5,h6,h7,h8,xA⟩:=ih (i+1) _ n k xB (by omega) h
    have hm:=h8 (by omega)
    have hb:=b.toNat_lt;refine⟨b.toNat%128+128*m,?_,?_,by omega,h6,by simp;omega,by omega,xA⟩
    ·rw[LS,LH,LF (128^i),<-LZ,LF m,Ns]
    ·rw[Qao (by omega),show(b.toNat%128+128*m)/128=m by omega,h4,show(b.toNat%128+128*m)%128+128=b.toNat by omega,
      show k-i=(k-(i+1))+1 by omega,IX]
     simp
theorem Yu{n:Nat}(h:n<2^64):(num n).length<=10:=by
 have:=QfL [] n 0 0 (by decide) (by simpa using h) (by omega) (.inl rfl)
 obtain⟨m,h1,h2,h3,h4,h5,_⟩:=Qdl _ 0 0 _ _ (by decide) (by omega) this
 omega
structure Rdr(w:World)(p:Nat)(s:BA)(e:Nat):Prop where
 c0:w.cell? ⟨p,0,none⟩=some (.string s)
 c1:w.cell? ⟨p,1,none⟩=some (.int .i64 e)
 f0:w.frozen? ⟨p,0,none⟩=false
 f1:w.frozen? ⟨p,1,none⟩=false
structure Ch(p:Nat)(w w':World):Prop where
 below:Below p w w'
 block:∀q,q<w.heap.size->q≠p->w'.heap[q]? = w.heap[q]?
variable{B e k n p:Nat}{w w':World}{s:BA}
theorem Ch.refl(p:Nat)(w:World):Ch p w w:=⟨Lb _ _,fun _ _ _=>rfl⟩
theorem Ch.drewN(h:Ch p w w')(n:Nat):Ch p w (w'.drewN n):=⟨Qi h.below n,h.block⟩
theorem Ch.set(h:Ch p w w')(i:Nat)(v:Value):Ch p w (w'.setCell ⟨p,i,none⟩ v):=by
 refine⟨h.below.setCell (p:=⟨p,i,none⟩) (La _) v,fun q hq hne=> ?_⟩
 rw[<-h.block q hq hne];exact Below.heap_setCell _ _ _ _ hne
theorem Rdr.lt(h:Rdr w p s e):p<w.heap.size:=Lo _ _ h.c0
theorem Rdr.next(h:Rdr w p s e)(hb:Below B w w')(hp:p<B):Rdr w' p s e :=
 ⟨(hb.cell (p:=⟨p,0,none⟩) hp).trans h.c0,(hb.cell (p:=⟨p,1,none⟩) hp).trans h.c1,(hb.frozen (p:=⟨p,0,none⟩) hp).trans h.f0,(hb.frozen (p:=⟨p,1,none⟩) hp).trans h.f1⟩
theorem Rdr.drewN(h:Rdr w p s e)(n:Nat):Rdr (w.drewN n) p s e:=h.next (Qi (Lb (p+1) w) n) (by omega)
theorem Rdr.set0(h:Rdr w p s e)(t:BA):Rdr (w.setCell ⟨p,0,none⟩ (.string t)) p t e :=
 ⟨Nf _ _ _ h.c0,(Lt _ _ _ _ (by simp)).trans h.c1,(NI _ _ _ _).trans h.f0,(NI _ _ _ _).trans h.f1⟩
theorem Rdr.set1(h:Rdr w p s e)(e':Nat):Rdr (w.setCell ⟨p,1,none⟩ (.int .i64 e')) p s e' :=
 ⟨(Lt _ _ _ _ (by simp)).trans h.c0,Nf _ _ _ h.c1,(NI _ _ _ _).trans h.f0,(NI _ _ _ _).trans h.f1⟩
theorem QnW(w:World)(s:BA)(t:Nat):Rdr (w.alloc (.cells #[.string s,.int .i64 0] t)) w.heap.size s 0:=by
 refine⟨?_,?_,?_,?_⟩ <;> simp
theorem Qk3(w:World)(s:BA) :
  Calls prog 223 #[.string s] w fun e w'=>e= .returned (Pq w.heap.size)∧w'=w.alloc (.cells #[.string s,.int .i64 0] 374):=by
 go_enter func223,ntmps223;go_wp2
 go_ret
 exact⟨rfl,rfl⟩
theorem JN(w:World)(p e:Nat)(s:BA)(hr:Rdr w p s e) :
  Calls prog 387 #[Pq p] w fun x w'=>x= .returned (.int .i64 s.size)∧w'=w:=by
 have c0:=hr.c0
 go_enter func387,ntmps387;go_wp2
 go_ret
 exact⟨rfl,rfl⟩
theorem QbZ(w:World)(p e:Nat)(s:BA)(hr:Rdr w p s 0) :
  Calls prog 409 #[Pq p,.int .i64 e] w fun x w'=>x= .returned (.int .i64 e)∧Rdr w' p ByteArray.empty e∧Ch p w w':=by
 have c0:=hr.c0;have c1:=hr.c1;have f0:=hr.f0;have f1:=hr.f1;have R1:Hid (Rdr ((w.setCell ⟨p,0,none⟩ (.string ByteArray.empty)).setCell ⟨p,1,none⟩ (.int .i64 e)) p ByteArray.empty e):=(hr.set0 _).set1 e;clear hr
 go_enter func409,ntmps409;go_wp2
 go_ret
 exact⟨rfl,R1.out,((Ch.refl p w).set 0 _).set 1 _⟩
def tkC(s:BA)(e:Nat)(n:Int):BA×Nat×BA :=
 if e≠0 then (ByteArray.empty,e,s) else if n<0∨(s.size:Int)<n then (ByteArray.empty,60,ByteArray.empty) else (s.extract 0 n.toNat,0,s.extract n.toNat s.size)
theorem UH(w:World)(p e:Nat)(s:BA)(n:Int)(hr:Rdr w p s e) :
  Calls prog 385 #[Pq p,.int .i64 n] w fun x w'=>x= .returned (.tuple #[.string (tkC s e n).1,.int .i64 ((tkC s e n).2.1:Int)])∧Rdr w' p (tkC s e n).2.2 (tkC s e n).2.1∧Ch p w w':=by
 have c0:=hr.c0;have c1:=hr.c1;have f0:=hr.f0;have f1:=hr.f1
 by_cases he:e=0
 ·subst he
  by_cases hn:n<0∨(s.size:Int)<n
  ·have ht:tkC s 0 n=(ByteArray.empty,60,ByteArray.empty):=by rw[tkC,Le (by simp),Lf hn]
   rw[ht];have HF:=QbZ w p 60 s hr;clear hr
   by_cases h0:n<0
   ·go_enter func385,ntmps385
    go_wp2_with (go_at_call 409;refine HF.mono ?_;rintro x w' ⟨rfl,h1,h2⟩)
    go_ret2
    exact⟨rfl,h1,h2⟩
   ·have h1:(s.size:Int)<n:=by omega
    go_enter func385,ntmps385
    go_wp2_with (go_at_call 409;refine HF.mono ?_;rintro x w' ⟨rfl,h1,h2⟩)
    go_ret2
    exact⟨rfl,h1,h2⟩
  ·have ht:tkC s 0 n=(s.extract 0 n.toNat,0,s.extract n.toNat s.size):=by rw[tkC,Le (by simp),Le hn]
   rw[ht];obtain⟨k,rfl⟩:∃k:Nat,n=k:=⟨n.toNat,by omega⟩
   have h0:¬(k:Int)<0:=by omega
   have h1:¬(s.size:Int)<(k:Int):=by omega
   have h2:(k:Int)<=(s.size:Int):=by omega
   have R1:Hid (Rdr (w.setCell ⟨p,0,none⟩ (.string (s.extract k s.size))) p (s.extract k s.size) 0):=hr.set0 _;clear hr
   go_enter func385,ntmps385;go_wp2
   go_ret2
   exact⟨rfl,R1.out,(Ch.refl p w).set 0 _⟩
 ·have ht:tkC s e n=(ByteArray.empty,e,s):=by rw[tkC,Lf he]
  rw[ht];have hz:¬(e:Int)=0:=by omega
  go_enter func385,ntmps385;go_wp2
  go_quiet (fail)
  go_wp2
  go_ret2
  exact⟨rfl,hr.drewN _,(Ch.refl p w).drewN _⟩
def nb(s:BA)(e:Nat):Nat×Nat×BA :=
 if e≠0 then (0,e,s) else ((Um s.data.toList 0 0).1,(Um s.data.toList 0 0).2.1,if (Um s.data.toList 0 0).2.1=0 then s.extract (Um s.data.toList 0 0).2.2 s.size else ByteArray.empty)
theorem QoR(h:Um s.data.toList 0 0=(n,0,k)):nb s 0=(n,0,s.extract k s.size):=by
 simp[nb,h]
theorem Qd2(h:Um s.data.toList 0 0=(n,e,k))(he:e≠0):nb s 0=(n,e,ByteArray.empty):=by
 simp[nb,h,he]
theorem QmW(s:BA)(k:Nat)(hk:k<s.size):s.data.toList.drop k=s[k]::s.data.toList.drop (k+1):=by
 rw[LX (by simpa using hk)]
 rfl
theorem QU{q:Prop}(h:q):Hid q:=h
theorem or7(n b k:Nat)(hn:n<128^k)(hk:k<=9)(h:k=9->b<=1) :
  bits .or .u64 (n:Int) (IntKind.u64.wrap ((b:Int)%128*2^(7*k)))=((n+b%128*128^k:Nat):Int)∧n+b%128*128^k<18446744073709551616:=by
 have e9:(128:Nat)^9=9223372036854775808:=by decide
 have hp:128^k<=128^9:=Qei hk;have hx:b%128*128^k<=9223372036854775808:=by
  rcases Iv k 9 with h9|h9
  ·have xA:128^(k+1)<=128^9:=Qei (by omega)
   have:b%128*128^k<=127*128^k:=LJ _ (by omega)
   rw[LH] at xA;omega
  ·obtain rfl:k=9:=by omega
   have:b%128*128^9<=1*128^9:=LJ _ (by have:=h rfl;omega)
   omega
 have e1:((b:Int)%128*2^(7*k))=((b%128*128^k:Nat):Int):=by
  rw[Wn,Int.natCast_pow,Int.pow_mul];rfl
 have e2:(2:Nat)^(7*k)=128^k:=by rw[Nat.pow_mul]
 rw[e1,IntKind.wrap_u64,Int.emod_eq_of_lt (by omega) (by omega),u64_or_nat _ _ (by omega) (by omega)]
 refine⟨?_,by omega⟩
 have:=Nat.two_pow_add_eq_or_of_lt (i:=7*k) (b:=n) (by rw[e2];exact hn) (b%128)
 rw[Nat.or_comm,<-e2,LF (b%128),<-this,Wj n]
theorem QlI(w:World)(p e:Nat)(s:BA)(hr:Rdr w p s e)(hs:s.size<=9223372036854775807) :
  Calls prog 386 #[Pq p] w fun x w'=>x= .returned (.tuple #[.int .u64 ((nb s e).1:Int),.int .i64 ((nb s e).2.1:Int)])∧Rdr w' p (nb s e).2.2 (nb s e).2.1∧Ch p w w':=by
 have c0:=hr.c0;have c1:=hr.c1;have f0:=hr.f0;have f1:=hr.f1
 by_cases he:e=0
 ·subst he;have xF:=QbZ w p 60 s hr;have xB:=QbZ w p 61 s hr;have xC:Hid (∀k,Rdr (w.setCell ⟨p,0,none⟩ (.string (s.extract k s.size))) p (s.extract k s.size) 0):=fun k=>hr.set0 _
  clear hr
  go_enter func386,ntmps386;go_wp2
  go_loopg [4,5] 10 (fun g x i wr=>w=wr ∧ ∃(k n:Nat),k<=s.size∧k<=9∧g=10-k∧x= .int .u64 n∧i= .int .i64 k∧Hid (n<128^k∧Um (s.data.toList.drop k) k n=Um s.data.toList 0 0))
  case atStart=>go_light;exact⟨rfl,0,0,Ln _,by omega,rfl,rfl,rfl,by decide,by rw[NM]⟩
  case round=>
   obtain⟨rfl,k,n,hk,h9,rfl,rfl,rfl,HS⟩:=hrel
   by_cases hlt:k<s.size
   ·have hz:(k:Int)<(s.size:Int):=by omega
    obtain⟨b,hb⟩:=Ze (s[k].toNat);have xJ:b<256:=by rw[<-hb];exact s[k].toNat_lt
    obtain⟨hn,xA⟩:=HS.out;rw[QmW s k hlt,Um,hb] at xA;clear HS
    by_cases hi:k=9∧1<b
    ·obtain⟨rfl,hi⟩:=hi;rw[Lf ⟨rfl,hi⟩] at xA;have HT:=QU (Qd2 xA.symm (by decide))
     have xK:(1:Int)<(b:Int):=by omega
     clear xA hn
     go_wp2_with (go_at_call 409;refine xB.mono ?_;rintro x w' ⟨rfl,h1,h2⟩)
     go_ret2
     rw[HT.out];exact⟨rfl,h1,h2⟩
    ·obtain⟨ho,xD⟩:=or7 n b k hn h9 (by omega)
     rw[Le hi] at xA;obtain⟨m,hm⟩:∃m,m=n+b%128*128^k:=⟨_,rfl⟩;rw[<-hm] at ho xD
     by_cases hl:b<128
     ·rw[Lf hl,<-show b%128=b from Nt hl,<-hm,show b%128=b from Nt hl] at xA
      have xH:(b:Int)<128:=by omega
      by_cases h0:b=0∧0<k
      ·rw[Lf h0] at xA;have HT:=QU (Qd2 xA.symm (by decide))
       obtain⟨rfl,h0⟩:=h0;have xI:(0:Int)<(k:Int):=by omega
       clear xA hn hm
       by_cases hk9:k=9
       ·subst hk9
        go_wp2_with (go_at_call 409;refine xB.mono ?_;rintro x w' ⟨rfl,h1,h2⟩)
        go_ret2
        rw[HT.out];exact⟨rfl,h1,h2⟩
       ·have hq:¬(k:Int)=9:=by omega
        go_wp2_with (go_at_call 409;refine xB.mono ?_;rintro x w' ⟨rfl,h1,h2⟩)
        go_ret2
        rw[HT.out];exact⟨rfl,h1,h2⟩
      ·rw[Le h0] at xA;have HT:=QU (QoR xA.symm);clear xA hn hm;have HC:Hid (Ch p w (w.setCell ⟨p,0,none⟩ (.string (s.extract (k+1) s.size)))):=(Ch.refl p w).set 0 _;have xN:((k:Int)+1)<=(s.size:Int):=by omega
       by_cases hk9:k=9
       ·subst hk9;have xG:¬(1:Int)<(b:Int):=by omega
        have xE:¬(b:Int)=0:=by omega
        have xM:bits .or .u64 (n:Int) ((b:Int)%128*9223372036854775808)=(m:Int):=by
         rw[<-ho,IntKind.wrap_u64];have e:(2:Int)^(7*9)=9223372036854775808:=by decide
         rw[e,Int.emod_eq_of_lt (a:=(b:Int)%128*9223372036854775808) (by omega) (by omega)]
        go_wp2
        go_ret2
        rw[HT.out];exact⟨rfl,xC.out _,HC.out⟩
       ·have hq:¬(k:Int)=9:=by omega
        by_cases xE:b=0
        ·obtain rfl:k=0:=by omega
         subst xE;have xL:bits .or .u64 (n:Int) 0=(m:Int):=by rw[<-ho];rfl
         go_wp2
         go_ret2
         rw[HT.out];exact⟨rfl,xC.out _,HC.out⟩
        ·have xG:¬(b:Int)=0:=by omega
         go_wp2
         go_ret2
         rw[HT.out];exact⟨rfl,xC.out _,HC.out⟩
     ·have hq:¬(k:Int)=9:=by omega
      have xH:¬(b:Int)<128:=by omega
      have HS:Hid (m<128^(k+1)∧Um (s.data.toList.drop (k+1)) (k+1) m=Um s.data.toList 0 0):=by
       rw[Le hl,<-hm] at xA;refine⟨?_,xA⟩
       rw[hm,LH];have:b%128*128^k<=127*128^k:=LJ _ (by omega)
       omega
      clear xA hn hm;go_wp2
      go_roundg (10-(k+1))
      case rel=>go_light;exact⟨rfl,k+1,m,by omega,by omega,rfl,rfl,by go_num,HS.out⟩
      case measure=>go_light;omega
   ·obtain rfl:k=s.size:=by omega
    have hz:¬(s.size:Int)<(s.size:Int):=by omega
    have xA:=HS.out.2;rw[L3 (by simp),Um] at xA
    have HT:=QU (Qd2 xA.symm (by decide))
    clear xA HS
    go_wp2_with (go_at_call 409;refine xF.mono ?_;rintro x w' ⟨rfl,h1,h2⟩)
    go_ret2
    rw[HT.out];exact⟨rfl,h1,h2⟩
 ·have ht:nb s e=(0,e,s):=by rw[nb,Lf he]
  rw[ht];have hz:¬(e:Int)=0:=by omega
  go_enter func386,ntmps386;go_wp2
  go_quiet (fail)
  go_wp2
  go_ret2
  exact⟨rfl,hr.drewN _,(Ch.refl p w).drewN _⟩
def cY(l:List UInt8):List Value:=l.map fun b=>Value.int .u8 b.toNat
theorem Qo(l:List UInt8):(cY l).length=l.length:=by simp[cY]
theorem Tryz.infoY:(prog.info? 5).map (fun i=>(i.zero,i.size,i.bytes))=some (some (.int .u8 0),1,1):=by kernel_rfl
def OwnY(w:World)(B:Nat)(v:Value)(l:List UInt8):Prop:=w.ownsRow B 5 1 v l.length (cY l)
variable{l:List UInt8}
theorem Qi1{v:Value}(h:OwnY w B v l):(convert 127 9 v).run prog w= .ok (.string ⟨l.toArray⟩) w:=by
 have hc:=fun g=>h.cells (g:=g)
 obtain⟨h1,h2⟩:=h
 rcases h2 with ⟨rfl,h0⟩|⟨g,cap,cur,rfl,hg,hh,r⟩
 ·have:l=[]:=List.length_eq_zero_iff.1 h0;subst this;exact run_convert_bytes_nil w 127 5 underlying127 underlying5 0 0 9 underlying9
 ·refine run_convert_bytes_back _ 127 9 5 ⟨g,0,none⟩ cap l underlying127 underlying5 underlying9 fun j hj=> ?_
  exact hc g rfl j _ (by simp[cY,List.getElem?_eq_getElem hj])
theorem Qlp{v:Value}(h:OwnY w B v l):∀k,v.ownBlock=some k->B<=k:=by
 obtain⟨_,h2⟩:=h
 rcases h2 with ⟨rfl,_⟩|⟨g,cp,cur,rfl,hg,_⟩
 ·intro k hk;cases hk
 ·intro k hk;cases hk;exact hg
theorem Qlo(w:World):OwnY (w.alloc (.cells #[] 5)) w.heap.size (.slice (Zp w.heap.size) 0 0) [] :=
 ⟨rfl,.inr ⟨w.heap.size,0,#[],rfl,La _,LC w _,La _,by unfold maxLen;omega,rfl,rfl⟩⟩
theorem JD(w:World){ops:Array Oper}{rest:List Oper}{o:Oper}{a:Act}{Q:Exit->Act->World->Prop}
  (hg:o.guard=none) (s x:Operand) (hop:o.op=Op.call { callee:=Callee.builtin Builtin.append,args:=#[s,x],argTypes:=#[127,127] })
  (B:Nat) (v:Value) (L:List UInt8) (hs:a.eval s=v) (hown:OwnY w B v L) (y:Nat) (b:UInt8) (hb:y=b.toNat) (hx:a.eval x= .slice (Zp w.heap.size) 1 1)
  (hlen:L.length<=1000) (hB:B<=w.heap.size)
  (hK:∀v' w',OwnY w' B v' (L++[b])->Below B w w'->wpList prog ops Q rest (a.put o.dst v') w'):wpList prog ops Q (o::rest) a (w.alloc (.cells #[.int .u8 y] 5)):=by
 obtain⟨i0,hi,xB,xC,xD⟩:=info_parts Tryz.infoY;subst hb;refine wpList_append_own _ hg s x _ hop B 5 i0 (.int .u8 0) 1 1 underlying127 hi xB xC xD rfl (by decide) _ _ _ hs (World.ownsRow.alloc hown _) ⟨w.heap.size,0,none⟩ 1 1 (cY [b]) hx (by simp[cY]) ?_ (by intro u hu;simp[cY] at hu;subst hu;rfl) (by unfold maxLen;omega) (by omega) (by simp;omega) ?_
 ·intro j u hu;have hj:j=0:=by have:=(List.getElem?_eq_some_iff.1 hu).1;simp[cY] at this;exact this
  subst hj;have xA:Value.int .u8 b.toNat=u:=NR hu;subst xA;rw[Addr.add_mid,Nc]
  rfl
 ·intro v' w' h1 h2 _;refine hK v' w' ?_ (((Lb _ _).alloc hB _).trans ((Lb _ _).grown h2 (by simp;omega) (Qlp hown)))
  rw[OwnY,Lc,cY,LQ];exact h1
theorem QqE:∀x:Nat,x<256->x ||| 128=x%128+128:=by decide
theorem QmE(n:Nat):bits .or .u8 ((n:Int)%256) 128=((UInt8.ofNat (n%128+128)).toNat:Int):=by
 rw[QQ (by omega)]
 have:=u8_or_nat (n%256) 128 (by omega) (by decide)
 rw[show((n%256:Nat):Int)=(n:Int)%256 by omega,show((128:Nat):Int)=128 from rfl] at this
 rw[this,QqE _ (by omega)]
 omega
theorem Qan(w:World)(n:Nat)(hn:n<18446744073709551616) :
  Calls prog 311 #[.int .u64 n] w fun x w'=>x= .returned (.string ⟨(num n).toArray⟩)∧Bl w w':=by
 have HL:=QU (Yu (n:=n) hn)
 go_enter func311,ntmps311;go_wp2
 go_loopg [0,3] n (fun g x v wr=> ∃(m:Nat) (pre:List UInt8),m=g∧x= .int .u64 m∧OwnY wr w.heap.size v pre∧Hid (pre++num m=num n∧m<=n)∧Bl w wr)
 case atStart=>go_light;exact⟨n,[],rfl,rfl,Qlo w,⟨rfl,La _⟩,(Lb _ _).alloc (La _) _⟩
 case round=>
  obtain⟨m,pre,hg,rfl,xA,HP,hb⟩:=hrel;subst hg;have HS:Hid (pre.length<=10∧w.heap.size<=wr.heap.size):=by
   have:=Lv List.length HP.out.1;rw[Lc] at this;have:=HL.out;exact⟨by omega,hb.size⟩
  by_cases hm:m<128
  ·have xD:(m:Int)<128:=by omega
   have HY:=QU (QQ (x:=m) (by omega)).symm
   have HR:Hid (pre++[UInt8.ofNat m]=num n):=by
    have:=HP.out.1;rw[Qby hm] at this;exact this
   go_wp2_with (at_builtin;refine JD _ rfl _ _ rfl w.heap.size _ pre rfl xA m (UInt8.ofNat m) HY.out rfl ?c1 ?c2 ?_)
   case c1=>have:=HS.out;omega
   case c2=>exact HS.out.2
   intro v' w2 r1 r2;have xC:=Qi1 r1;rw[HR.out] at xC;go_wp2
   go_ret
   exact⟨rfl,hb.trans r2⟩
  ·have xD:¬(m:Int)<128:=by omega
   have xE:(128:Int)<=(m:Int):=by omega
   obtain⟨c,hc⟩:∃c,c=UInt8.ofNat (m%128+128):=⟨_,rfl⟩;obtain⟨y,hy⟩:∃y,y=c.toNat:=⟨_,rfl⟩;have ey:=QmE m;rw[<-hc,<-hy] at ey;have HY:=QU hy;clear hy;have HR:Hid ((pre++[c])++num (m/128)=num n∧m/128<=n):=by
    have:=HP.out;rw[Qao (by omega),<-hc] at this
    exact⟨by rw[<-this.1];simp,by omega⟩
   clear hc;have HQ:Hid ((m:Int)/128=((m/128:Nat):Int)∧m/128<m):=⟨by omega,by omega⟩
   go_wp2_with (at_builtin;refine JD _ rfl _ _ rfl w.heap.size _ pre rfl xA y c HY.out rfl ?c1 ?c2 ?_)
   case c1=>have:=HS.out;omega
   case c2=>exact HS.out.2
   intro v' w2 r1 r2;have xB:=hb.trans r2;clear r2 hb xA;go_wp2
   go_roundg (m/128)
   case rel=>go_light;exact⟨m/128,_,rfl,by rw[<-HQ.out.1],r1,HR.out,xB⟩
   case measure=>go_light;exact HQ.out.2
namespace St
theorem Qb(s:BA):s.data.toList.length=s.size:=NF
def cY(l:List UInt8):List Value:=l.map fun b=>Value.int .u8 b.toNat
theorem Qo(l:List UInt8):(cY l).length=l.length:=by simp[cY]
theorem UP(l m:List UInt8):cY (l++m)=cY l++cY m:=by simp[cY]
theorem QaN(l:List UInt8):∀u∈cY l,u.oneCell'=true:=fun u hu=>by obtain⟨_,_,rfl⟩:=List.mem_map.1 hu;rfl
def Ty(w:World)(g:Nat)(T:TypeId):Prop := ∃cs fr,w.heap[g]? = some (.cells cs T fr)
variable{g:Nat}{T U:TypeId}
theorem Ty.lt(h:Ty w g T):g<w.heap.size:=by
 obtain⟨cs,fr,h⟩:=h;exact(Array.getElem?_eq_some_iff.1 h).1
theorem Ty.same{W:World}(h:Ty w g T)(hb:W.heap[g]? = w.heap[g]?):Ty W g T:=by
 obtain⟨cs,fr,h⟩:=h;exact⟨cs,fr,hb.trans h⟩
theorem Ty.set(h:Ty w g T)(b i:Nat)(v:Value):Ty (w.setCell ⟨b,i,none⟩ v) g T:=by
 by_cases e:g=b
 ·subst e;obtain⟨cs,fr,h⟩:=h;exact⟨cs.setIfInBounds i v,fr,by simp[World.setCell,Array.getElem?_modify,h]⟩
 ·exact h.same (Below.heap_setCell _ _ _ _ e)
theorem Ty.sets(b:Nat):∀(vs:List Value) (o:Nat) (w:World),Ty w g T->Ty (w.setCells b o vs) g T
 | [],_,_,h=>h
 | v::r,o,_,h=>Ty.sets b r (o+1) _ (h.set b o v)
theorem Ty.ne(h:Ty w g T)(h2:Ty w k U)(hT:T≠U):g≠k:=by
 rintro rfl;obtain⟨_,_,h⟩:=h;obtain⟨_,_,h2⟩:=h2;rw[h] at h2;injection h2 with h2
 injection h2 with _ h2 _
 exact hT h2
theorem Ui{S:Nat->Prop}(hg:S g∨w.heap.size<=g):∀(vs:List Value) (o:Nat) (w':World),Upo S w w'->Upo S w (w'.setCells g o vs)
 | [],_,_,h=>h
 | v::r,o,_,h=>Ui hg r (o+1) _ (h.set g o v hg)
structure Rw(w:World)(ao:OA)(g cap:Nat)(l:List UInt8):Prop where
 ptr:ao=none∨ao=Zp g
 nil:ao=none->cap=0
 ty:ao=Zp g->Ty w g 5
 le:l.length<=cap
 rng:ao=Zp g->w.rangeAt g 0 (cY l)
 thr:ao=Zp g->w.there g 0 cap
section
variable {w W:World} {ao:OA} {g cap:Nat} {l:List UInt8}
variable{b c j o:Nat}{cs:List Value}{ax:OA}
theorem Qey(w:World)(g:Nat):Rw w none g 0 []:=⟨.inl rfl,fun _=>rfl,fun h=>(by cases h),La _,fun h=>(by cases h),fun h=>by cases h⟩
theorem Rw.empty(h:Rw w ao g cap l)(e:ao=none):l=[]:=List.length_eq_zero_iff.1 (by have:=h.nil e;have:=h.le;omega)
theorem Rw.sm(h:Rw w ao g cap l)(h0:0<l.length):ao=Zp g:=by
 rcases h.ptr with e|e
 ·rw[h.empty e] at h0;simp at h0
 ·exact e
theorem Qcq(h:w.rangeAt b o cs)(hb:W.heap[b]? = w.heap[b]?):W.rangeAt b o cs:=fun j v hv=>by
 rw[LE (a:=⟨b,o+j,none⟩) hb];exact h j v hv
theorem QcC(h:w.there b o n)(hb:W.heap[b]? = w.heap[b]?):W.there b o n:=fun j hj=>by
 rw[LE (a:=⟨b,o+j,none⟩) hb,NU (a:=⟨b,o+j,none⟩) hb];exact h j hj
theorem Rw.same(h:Rw w ao g cap l)(hb:ao=Zp g->W.heap[g]? = w.heap[g]?):Rw W ao g cap l :=
 ⟨h.ptr,h.nil,fun e=>(h.ty e).same (hb e),h.le,fun e=>Qcq (h.rng e) (hb e),fun e=>QcC (h.thr e) (hb e)⟩
theorem Rw.next(h:Rw w ao g cap l)(hb:Below B w W)(hB:w.heap.size<=B):Rw W ao g cap l :=
 h.same fun e=>hb.block g (by have:=(h.ty e).lt;omega)
theorem Rw.off(h:Rw w ao g cap l)(i:Nat)(v:Value)(hp:ao=Zp g->g≠p):Rw (w.setCell ⟨p,i,none⟩ v) ao g cap l :=
 h.same fun e=>Below.heap_setCell _ _ _ _ (hp e)
theorem Rw.cut(h:Rw w ao g cap l)(hk:k<=l.length):Rw w ao g cap (l.take k) :=
 ⟨h.ptr,h.nil,h.ty,by have:=h.le;simp;omega,fun e j v hv=>h.rng e j v (by
  rw[cY,NK] at hv;rw[LT] at hv
  split at hv
  ·exact hv
  ·cases hv),h.thr⟩
theorem Rw.at(h:Rw w ao g cap l)(hj:j<l.length):w.cell? ⟨g,j,none⟩=some (.int .u8 ((l.getD j 0).toNat:Int)):=by
 have:=h.rng (h.sm (by omega)) j (.int .u8 ((l.getD j 0).toNat:Int)) (by simp[cY,List.getElem?_eq_getElem hj,List.getD_eq_getElem?_getD])
 rwa [Ll] at this
theorem Jh(h:w.rangeAt b o cs)(k:Nat)(vs:List Value)(hk:k+vs.length<=cs.length)(ht:w.there b (o+k) vs.length) :
  (w.setCells b (o+k) vs).rangeAt b o (cs.take k++vs++cs.drop (k+vs.length)):=fun j u hu=>by
 have hlen:(cs.take k).length=k:=by simp;omega
 by_cases hj:j<k
 ·rw[Lw,Ly (by omega),LT,Lf hj] at hu
  rw[World.cell?_setCells_out b vs (o+k) w ⟨b,o+j,none⟩ (fun _ _=>Or.inl (by show o+j<o+k;omega))]
  exact h j u hu
 ·by_cases hj2:j<k+vs.length
  ·rw[Ly (by simp;omega),LI (by omega),hlen] at hu
   have:=World.cell?_setCells_in b vs (o+k) w (fun i hi=>(ht i hi).1) (j-k) (by omega)
   rw[show o+k+(j-k)=o+j by omega] at this
   rw[this,<-hu,Lk (by omega)]
  ·rw[LI (by simp;omega)] at hu
   rw[NC,show k+vs.length+(j-(cs.take k++vs).length)=j by simp;omega] at hu
   rw[World.cell?_setCells_out b vs (o+k) w ⟨b,o+j,none⟩ (fun _ _=>Or.inr (by show o+k+vs.length<=o+j;omega))]
   exact h j u hu
theorem Rw.over(h:Rw w ao g cap l)(k:Nat)(t:List UInt8)(hk:k+t.length<=l.length):Rw (w.setCells g k (cY t)) ao g cap (l.take k++t++l.drop (k+t.length)):=by
 refine⟨h.ptr,h.nil,fun e=>Ty.sets g _ _ _ (h.ty e),by have:=h.le;simp;omega,fun e=> ?_,fun e=>World.there_setCells (h.thr e) _ _ _⟩
 have:=Jh (h.rng e) k (cY t) (by rw[Qo,Qo];exact hk) (fun j hj=>by
  rw[Ll];have:=h.thr e (k+j) (by rw[Qo] at hj;have:=h.le;omega)
  rwa [Ll] at this)
 rw[Ll] at this;rw[UP,UP]
 simpa [cY,List.map_take,List.map_drop] using this
theorem QcL(W:World)(ty:TypeId){t:BA}(hn:k+n<=l.length)(h:Rw W ao g cap l)(hx:ax=ao∨ax=ao.map (·.add k))(h0:ax=ao->k=0∨n=0)(hc:Nat.min t.size n=c)(m:Nat) :
  (Builtin.copy_ #[127,9] ty #[.slice ax n m,.string t]).run prog W= .ok (goInt c) (W.setCells g k (cY (t.data.toList.take c))):=by
 have hs:∀W,(Go.sizeOf 5).run prog W= .ok 1 W:=fun W=>by kernel_rfl
 have hl:(cY (t.data.toList.take c)).length=c:=by
  rw[Qo,Lx,Qb];have:c<=t.size:=by rw[<-hc];exact IU _ _
  omega
 have he:List.take c (List.map (fun x:UInt8=>Value.int IntKind.u8 (x.toNat:Int)) t.data.toList)=cY (t.data.toList.take c):=by rw[cY,NK]
 have xD:c<=n:=by rw[<-hc];exact Wb _ _
 by_cases z:c=0
 ·subst z;have e0:cY (t.data.toList.take 0)=[]:=by simp[cY]
  rw[e0]
  cases ax with
  | none=>simp[Builtin.copy_,run_underlying underlying127,Builtin.lenOf,Builtin.firstCells,hs,hc];rfl
  | some a=>simp[Builtin.copy_,run_underlying underlying127,Builtin.lenOf,Builtin.firstCells,hs,hc];rfl
 ·have ea:=h.sm (by omega)
  have xC:ax=some ⟨g,k,none⟩:=by
   rcases hx with e|e
   ·rcases h0 e with q|q
    ·rw[e,ea,q]
    ·omega
   ·rw[e,ea,N7,Addr.add_mid,Ll]
  have xB:=h.thr ea;have xA:=run_storeCells_cells (P:=prog) g k (cY (t.data.toList.take c)) 0 W (by rw[hl];intro j hj;have:=xB (k+j) (by have:=h.le;omega);simpa using this.1) (by rw[hl];intro j hj;have:=xB (k+j) (by have:=h.le;omega);simpa using this.2) (QaN _)
  simp only[Nat.add_zero] at xA;rw[xC];simp[Builtin.copy_,run_underlying underlying127,Builtin.lenOf,Builtin.firstCells,hs,hc];rw[he,xA]
  rfl
theorem Ql(w:World)(cs:Array Value)(t:TypeId)(n:Nat)(hn:n<=cs.size):(w.alloc (.cells cs t)).there w.heap.size 0 n:=fun j hj=>by
 refine⟨?_,Wh _ _ _ _⟩
 rw[Nc,Ll,L6 (by omega)];rfl
theorem Rw.app(h:Rw w ao g cap l)(tx ty:TypeId)(x:Value)(t:List UInt8)(hs:Src prog 1 tx x t.length (cY t) w)(hl:l.length+t.length<=140737488355328) :
  ∃ao' g' cap' w',(Builtin.append_ #[127,tx] ty #[.slice ao l.length cap,x]).run prog w= .ok (.slice ao' (l++t).length cap') w'∧Rw w' ao' g' cap' (l++t)∧Upo (fun b=>ao=Zp g∧b=g) w w'∧((ao'=ao∧g'=g)∨(g'=w.heap.size∧g'<w'.heap.size))∧(ao=Zp g->Ty w' g 5):=by
 obtain⟨i0,hi,xG,xA,xH⟩:=info_parts Tryz.infoY
 by_cases hroom:l.length+t.length<=cap
 ·rcases h.ptr with e|e
  ·have hc:=h.nil e;have el:=h.empty e;have et:t=[]:=List.length_eq_zero_iff.1 (by omega)
   subst et el hc e;refine⟨none,g,0,w,?_,Qey w g,Upo.refl _ _,.inl ⟨rfl,rfl⟩,fun e=>(by cases e)⟩
   have hk:=hs.kind;have xE:=hs.cells;simp only[List.length_nil] at xE
   rcases hk with ⟨e',hk⟩|hk <;> simp[Builtin.append_,run_underlying underlying127,run_underlying hk,Go.sizeOf,typeInfo,hi,hs.len,xE,xA]
  ·subst e;have hr:=run_append_room_src (P:=prog) w 127 tx ty 5 i0 underlying127 hi g 0 l.length cap x t.length (cY t) (by rw[xA];exact hs) hroom
    (fun j hj=>by rw[xA,Nd,Ns];rw[Qo] at hj;exact(h.thr rfl (l.length+j) (by omega)).1) (fun j hj=>by rw[xA,Nd,Ns];rw[Qo] at hj;exact(h.thr rfl (l.length+j) (by omega)).2)
   rw[xA,Nd,Ll] at hr;refine⟨_,g,cap,_,by rw[hr,Lc],⟨.inr rfl,fun e=>(by cases e),fun _=>Ty.sets g _ _ _ (h.ty rfl),by rw[Lc];exact hroom,fun _=> ?_,fun _=>World.there_setCells (h.thr rfl) _ _ _⟩,Ui (.inl ⟨rfl,rfl⟩) _ _ _ (Upo.refl _ _),.inl ⟨rfl,rfl⟩,fun _=>Ty.sets g _ _ _ (h.ty rfl)⟩
   rw[UP];intro j u hu
   by_cases hj:j<l.length
   ·rw[Ly (by rw[Qo];exact hj)] at hu
    exact World.rangeAt_setCells_apart (h.rng rfl) g l.length (cY t) (.inr (.inl (by rw[Qo,Ll];exact La _))) j u hu
   ·rw[LI (by rw[Qo];omega),Qo] at hu
    have:=World.rangeAt_setCells_same w g l.length (cY t) (fun j hj=>by have:=h.thr rfl (l.length+j) (by rw[Qo] at hj;omega);rwa [Ll] at this) (j-l.length) u hu
    rwa [show l.length+(j-l.length)=0+j by omega] at this
 ·have xB:(Builtin.firstCells i0.size l.length (.slice ao l.length cap)).run prog w.drew= .ok (cY l).toArray w.drew:=by
   rcases h.ptr with e|e
   ·rw[e,h.empty e];exact run_firstCells_none w.drew _ 0 0 cap
   ·rw[e,xA];exact run_firstCells_some w.drew 1 l.length _ l.length cap (cY l) (by rw[Qo,Nd]) (fun j u hu=>by rw[Addr.add_mid];exact h.rng e j u hu)
  have hr:=run_append_grow_src (P:=prog) w 127 tx ty 5 i0 (.int .u8 0) underlying127 hi xG ao l.length cap (cY l) xB x t.length (cY t) (by rw[xA];exact hs) (by omega) (by omega) (by rw[xH];exact growslice_fits (by omega) (by omega))
  have xD:=grownCap_ge w (l.length+t.length) cap 5;obtain⟨cc,xF⟩:=Ze (grownCap w (l.length+t.length) cap 5);rw[xF] at hr xD;refine⟨Zp w.heap.size,w.heap.size,cc,w.drew.alloc (.cells ((cY l++cY t).toArray++Builtin.zeroCells (Value.int IntKind.u8 0).cells (cc-(l.length+t.length))) 5),by rw[hr,Lc],⟨.inr rfl,fun e=>(by cases e),fun _=>⟨_,_,LC w.drew _⟩,by rw[Lc];exact xD,fun _=> ?_,fun _=> ?_⟩,(Upo.refl _ w).drew.alloc _,.inr ⟨rfl,by simp⟩,fun e=>(h.ty e).same ((MapKept.heap_alloc w.drew _).2 g (h.ty e).lt)⟩
  ·intro j u hu
   show(w.drew.alloc _).cell? ⟨w.drew.heap.size,0+j,none⟩=some u
   rw[Nc,Ll];rw[UP] at hu;rw[IY (by have:=(List.getElem?_eq_some_iff.1 hu).1;simpa using this)]
   simpa using hu
  ·refine Ql w.drew _ 5 _ ?_
   have xC:(Value.int IntKind.u8 0).cells.size=1:=rfl;simp only[Array.size_append,List.size_toArray,size_zeroCells,xC,Qo,List.length_append];omega
theorem Ql0(w:World)(t:BA):Src prog 1 9 (.string t) t.data.toList.length (cY t.data.toList) w:=by
 rw[Qb];exact Src.ofString w underlying9 t
theorem Rw.src(h:Rw w ao g cap l)(hk:k<=l.length)(hx:ax=ao∨ax=ao.map (·.add k))(h0:ax=ao->k=0∨k=l.length)(m:Nat):Src prog 1 127 (.slice ax (l.length-k) m) (l.drop k).length (cY (l.drop k)) w:=by
 have xA:(l.drop k).length=l.length-k:=by simp
 rw[xA]
 rcases IG (l.length-k) with z|z
 ·have e:l.drop k=[]:=List.length_eq_zero_iff.1 (by omega)
  rw[e,z]
  cases ax with
  | none=>exact Src.ofNil w underlying127 m
  | some a=>exact Src.ofSlice w underlying127 a 0 m _ (by simp[cY]) (fun j u hu=>by simp[cY] at hu) (fun u hu=>by simp[cY] at hu)
 ·have ea:=h.sm (by omega)
  have xB:ax=some ⟨g,k,none⟩:=by
   rcases hx with e|e
   ·rcases h0 e with q|q
    ·rw[e,ea,q]
    ·omega
   ·rw[e,ea,N7,Addr.add_mid,Ll]
  rw[xB];refine Src.ofSlice w underlying127 _ _ m _ (by rw[Qo,xA,Nd]) (fun j u hu=> ?_) (QaN _)
  rw[cY,IQ,NC] at hu;have:=h.rng ea (k+j) u hu;rw[Ll] at this;rw[Addr.add_mid];exact this
theorem Rw.conv(h:Rw w ao g cap l)(hk:k+n<=l.length)(hx:ax=ao∨ax=ao.map (·.add k))(h0:ax=ao->k=0∨n=0)(m:Nat) :
  (convert 127 9 (.slice ax n m)).run prog w= .ok (.string ⟨((l.drop k).take n).toArray⟩) w:=by
 have xA:((l.drop k).take n).length=n:=by simp;omega
 cases hax:ax with
 | none=>
  have z:n=0:=by
   rcases hx with e|e
   ·have:=h.empty (e.symm.trans hax);rw[this] at hk;simp at hk;omega
   ·have ea:ao=none:=by cases ao with
     | none=>rfl
     | some a=>rw[hax] at e;cases e
    have:=h.empty ea;rw[this] at hk;simp at hk;omega
  subst z;rw[IL];have:∀W:World,(convert 127 9 (.slice none 0 m)).run prog W= .ok (.string ⟨#[]⟩) W:=fun W=>by
   simp[convert,run_underlying underlying127,run_underlying underlying9,run_underlying underlying5,Conv.bytesToString]
   rfl
  exact this w
 | some a=>
  have hr:=run_convert_bytes_back w 127 9 5 a m ((l.drop k).take n) underlying127 underlying5 underlying9 fun j hj=> ?_
  ·rw[xA] at hr;exact hr
  ·rw[xA] at hj;have ea:=h.sm (by omega)
   have xB:a=⟨g,k,none⟩:=by
    rcases hx with e|e
    ·rcases h0 e with q|q
     ·rw[hax,ea] at e;injection e with e;rw[e,q]
     ·omega
    ·rw[hax,ea,N7,Addr.add_mid,Ll] at e;injection e
   rw[xB,Addr.add_mid,h.at (by omega)]
   have:(List.take n (List.drop k l))[j]'(by omega)=l.getD (k+j) 0:=by
    rw[List.getElem_take,List.getElem_drop,Ld,Lk (by omega)];rfl
   rw[this]
end
variable{ops:Array Oper}{o:Oper}{a:Act}{K:Act->World->Prop}{Q:Exit->Act->World->Prop}{E:Prop}{v' vs vx:Value}
theorem QfT(hgd:o.guard=none)(s x:Operand)(t u:TypeId)
  (hop:o.op=Op.call { callee:=Callee.builtin Builtin.append,args:=#[s,x],argTypes:=#[t,u] })  (hs:a.eval s=vs) (hx:a.eval x=vx) (hr:(Builtin.append_ #[t,u] o.type #[vs,vx]).run prog w= .ok v' w')
  (hK:K (a.put o.dst v') w'):if Region.wanted o (yielded ops a.tmps)=true then Oper.wp prog o a w K Q else E:=by
 have hw:Region.wanted o (yielded ops a.tmps)=true:=by simp[Region.wanted,hgd]
 rw[Lf hw];unfold Oper.wp;simp[execOp,hop,resolve,invoke,builtin,hs,hx,hr,Result.andThen];exact hK
theorem Qdr(hgd:o.guard=none)(s x:Operand)(t u:TypeId)
  (hop:o.op=Op.call { callee:=Callee.builtin Builtin.copy,args:=#[s,x],argTypes:=#[t,u] })  (hs:a.eval s=vs) (hx:a.eval x=vx) (hr:(Builtin.copy_ #[t,u] o.type #[vs,vx]).run prog w= .ok v' w')
  (hK:K (a.put o.dst v') w'):if Region.wanted o (yielded ops a.tmps)=true then Oper.wp prog o a w K Q else E:=by
 have hw:Region.wanted o (yielded ops a.tmps)=true:=by simp[Region.wanted,hgd]
 rw[Lf hw];unfold Oper.wp;simp[execOp,hop,resolve,invoke,builtin,hs,hx,hr,Result.andThen];exact hK
end St
namespace St.Rc
section
variable {S T:Nat->Prop} {w w' w1 w2:World}
theorem _root_.Go.Proofs.YtoblgjledefdbaaGreatDoor.St.Upo.on(h:Upo S w w1)(h2:Upo S w1 w2):Upo S w w2:=h.trans h2 fun _ _ q=>q
theorem _root_.Go.Proofs.YtoblgjledefdbaaGreatDoor.St.Upo.sets{g:Nat}(hg:S g∨w.heap.size<=g):∀(vs:List Value) (o:Nat) (w':World),Upo S w w'->Upo S w (w'.setCells g o vs)
 | [],_,_,h=>h
 | v::r,o,_,h=>Upo.sets hg r (o+1) _ (h.set g o v hg)
theorem _root_.Go.Proofs.YtoblgjledefdbaaGreatDoor.St.Upo.since{g:Nat}(h:Upo (fun b=>b=g) w1 w2)(h1:Bl w w1)(hg:w.heap.size<=g):Bl w w2 :=
 h1.trans (h.below h1.size fun b hb=>by omega)
end
structure Byt(w:World)(g:Nat)(l:List UInt8):Prop where
 rng:w.rangeAt g 0 (cY l)
 thr:w.there g 0 l.length
section
variable {w W:World} {g:Nat} {l:List UInt8}
variable{b j m o:Nat}
theorem Byt.at(h:Byt w g l)(hj:j<l.length):w.cell? ⟨g,j,none⟩=some (.int .u8 ((l.getD j 0).toNat:Int)):=by
 have:=h.rng j (.int .u8 ((l.getD j 0).toNat:Int)) (by simp[cY,List.getElem?_eq_getElem hj,List.getD_eq_getElem?_getD])
 rwa [Ll] at this
theorem Byt.free(h:Byt w g l)(hj:j<l.length):w.frozen? ⟨g,j,none⟩=false:=by
 have:=(h.thr j hj).2
 rwa [Ll] at this
theorem Byt.lt(h:Byt w g l)(h0:0<l.length):g<w.heap.size:=Lo _ _ (h.at h0)
theorem QJ(h:w.there b o n)(a:Addr)(v:Value):(w.setCell a v).there b o n:=fun j hj=>by
 obtain⟨h1,h2⟩:=h j hj;refine⟨?_,by rw[NI];exact h2⟩
 by_cases e:a=⟨b,o+j,none⟩
 ·subst e;obtain⟨u,hu⟩:=Option.isSome_iff_exists.1 h1;rw[Nf w _ v hu];rfl
 ·rw[Lt _ _ _ _ e];exact h1
theorem YH{cs:List Value}(h:w.rangeAt b o cs)(i:Nat)(v:Value):(w.setCell ⟨b,o+i,none⟩ v).rangeAt b o (cs.set i v):=fun j u hu=>by
 rw[List.getElem?_set] at hu
 split at hu
 ·rename_i e
  subst e
  split at hu
  ·rename_i hl
   cases hu;have:=h i cs[i] (Lk hl);exact Nf w _ _ this
  ·cases hu
 ·rename_i e
  rw[Lt _ _ _ _ (fun e'=>e (by have:=Lv Addr.off e';simp at this;omega))]
  exact h j u hu
theorem Byt.set(h:Byt w g l)(j:Nat)(b:UInt8)(x:Int)(hx:x=(b.toNat:Int)):Byt (w.setCell ⟨g,j,none⟩ (.int .u8 x)) g (l.set j b):=by
 subst hx;refine⟨?_,by rw[IE];exact QJ h.thr _ _⟩
 have:=YH h.rng j (.int .u8 b.toNat);rw[Ll] at this;rw[cY,List.map_set];exact this
theorem Byt.same(h:Byt w g l)(hb:W.heap[g]? = w.heap[g]?):Byt W g l:=by
 refine⟨fun j v hv=> ?_,fun j hj=> ?_⟩
 ·rw[LE (a:=⟨g,0+j,none⟩) hb];exact h.rng j v hv
 ·rw[LE (a:=⟨g,0+j,none⟩) hb,NU (a:=⟨g,0+j,none⟩) hb];exact h.thr j hj
theorem Byt.next(h:Byt w g l)(hb:Below B w W)(hg:g<B):Byt W g l:=h.same (hb.block g hg)
theorem QmD(w:World)(s:BA)(cap:Nat)(t:TypeId):Byt (w.alloc (.cells (bytesRow s cap) t ((bytesRow s cap).size,(bytesRow s cap).size+1))) w.heap.size s.data.toList:=by
 have xA:s.data.size<=(bytesRow s cap).size:=by simp[bytesRow]
 have hc:∀j,(hj:j<s.data.size)->(w.alloc (.cells (bytesRow s cap) t ((bytesRow s cap).size,(bytesRow s cap).size+1))).cell? ⟨w.heap.size,j,none⟩=some (.int .u8 (s.data[j].toNat:Int)):=fun j hj=>by
  rw[World.cell?_alloc_mark,bytesRow_at s cap j hj]
 refine⟨fun j v hv=> ?_,fun j hj=> ?_⟩
 ·have hj:j<s.data.size:=by have:=(List.getElem?_eq_some_iff.1 hv).1;rw[Qo,NF] at this;exact this
  rw[Ll,hc j hj,<-hv];simp[cY,Array.getElem?_eq_getElem hj]
 ·rw[NF] at hj;rw[Ll,hc j hj,World.frozen?_alloc_mark]
  refine⟨rfl,?_⟩
  rw[LA (by omega)];rfl
theorem O3(w:World)(n:Nat):Byt (w.alloc (.cells (Array.replicate n (Value.int .u8 0)) 5)) w.heap.size (zer n):=by
 refine⟨fun j v hv=> ?_,Ql w _ _ _ (by simp[zer])⟩
 rw[Nc,Ll];have:cY (zer n)=List.replicate n (Value.int .u8 0):=by simp[cY,zer]
 rw[this] at hv;rw[<-hv];simp[Array.getElem?_replicate,List.getElem?_replicate]
theorem Byt.conv(h:Byt w g l)(hk:k+n<=l.length)(o:Nat)(ho:0<n->o=k)(m:Nat)(t:BA)(ht:(⟨((l.drop k).take n).toArray⟩:BA)=t) :
  (convert 127 9 (.slice (some ⟨g,o,none⟩) n m)).run prog w= .ok (.string t) w:=by
 subst ht;have xA:((l.drop k).take n).length=n:=by simp;omega
 have hr:=run_convert_bytes_back w 127 9 5 ⟨g,o,none⟩ m ((l.drop k).take n) underlying127 underlying5 underlying9 fun j hj=> ?_
 ·rw[xA] at hr;exact hr
 ·rw[xA] at hj;obtain rfl:=ho (by omega)
  rw[Addr.add_mid,h.at (by omega)]
  have:(List.take n (List.drop o l))[j]'(by omega)=l.getD (o+j) 0:=by
   rw[List.getElem_take,List.getElem_drop,Ld,Lk (by omega)];rfl
  rw[this]
def ovr(l:List UInt8)(k:Nat)(t:List UInt8):List UInt8:=l.take k++t++l.drop (k+t.length)
theorem QbB(l:List UInt8)(k:Nat)(t:List UInt8)(h:k+t.length<=l.length):(ovr l k t).length=l.length:=by
 simp only[ovr,List.length_append,List.length_take,List.length_drop];omega
theorem Byt.over(h:Byt w g l)(k:Nat)(t:List UInt8)(hk:k+t.length<=l.length):Byt (w.setCells g k (cY t)) g (ovr l k t):=by
 refine⟨?_,by rw[QbB l k t hk];exact World.there_setCells h.thr _ _ _⟩
 have:=Jh h.rng k (cY t) (by rw[Qo,Qo];exact hk) (fun j hj=>by
  rw[Ll];have:=h.thr (k+j) (by rw[Qo] at hj;omega)
  rwa [Ll] at this)
 rw[Ll] at this;rw[ovr,UP,UP]
 simpa [cY,List.map_take,List.map_drop] using this
theorem Qcw(ty:TypeId){t:BA}(h:Byt w g l)(hn:k+n<=l.length)(ho:0<t.size->o=k)(ht:t.size<=n) :
  (Builtin.copy_ #[127,9] ty #[.slice (some ⟨g,o,none⟩) n m,.string t]).run prog w= .ok (goInt t.size) (w.setCells g k (cY t.data.toList)):=by
 have hs:∀W,(Go.sizeOf 5).run prog W= .ok 1 W:=fun W=>by kernel_rfl
 have hc:Nat.min t.size n=t.size:=IT ht;have hl:(cY t.data.toList).length=t.size:=by rw[Qo,Qb]
 have he:List.take t.size (List.map (fun x:UInt8=>Value.int IntKind.u8 (x.toNat:Int)) t.data.toList)=cY t.data.toList:=by
  rw[cY,<-NK,Lp (by rw[Qb];exact La _)]
 by_cases z:t.size=0
 ·have e0:cY t.data.toList=[]:=List.length_eq_zero_iff.1 (by rw[hl,z])
  rw[e0];simp[Builtin.copy_,run_underlying underlying127,Builtin.lenOf,Builtin.firstCells,hs,z]
  rfl
 ·obtain rfl:=ho (by omega)
  have xA:=run_storeCells_cells (P:=prog) g o (cY t.data.toList) 0 w (by rw[hl];intro j hj;have:=h.thr (o+j) (by omega);simpa using this.1) (by rw[hl];intro j hj;have:=h.thr (o+j) (by omega);simpa using this.2) (QaN _)
  simp only[Nat.add_zero] at xA;simp[Builtin.copy_,run_underlying underlying127,Builtin.lenOf,Builtin.firstCells,hs,hc];rw[he,xA]
  rfl
end
theorem UI{ops:Array Oper}{rest:List Oper}{o:Oper}{a:Act}{Q:Exit->Act->World->Prop}(hgd:o.guard=none)(d s:Operand)(t u:TypeId)
  (ho:o.op= .call { callee := .builtin .copy,args:=#[d,s],argTypes:=#[t,u] }) {v x v':Value} (hd:a.eval d=v) (hs:a.eval s=x)
  (hr:(Builtin.copy_ #[t,u] o.type #[v,x]).run prog w= .ok v' w') (h:wpList prog ops Q rest (a.put o.dst v') w'):wpList prog ops Q (o::rest) a w:=by
 refine wpList_plain hgd fun K hK=> ?_
 unfold Oper.wp;simp[execOp,ho,resolve,invoke,builtin,hd,hs,hr,Result.andThen];exact hK _ _ h
end St.Rc
end Go.Proofs.YtoblgjledefdbaaGreatDoor
