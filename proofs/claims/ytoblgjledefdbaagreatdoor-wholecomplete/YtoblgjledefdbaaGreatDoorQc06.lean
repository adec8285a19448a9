/- Own work. -/
import Derived.Sort.KeysCollected
import Derived.Test.YtoblgjledefdbaaGreatDoorQc05
set_option maxRecDepth 100000
namespace Go.Proofs.YtoblgjledefdbaaGreatDoor
open Go.RowKit
attribute [local go_sem ↓] Go.wp_at_zero Go.wp_at_succ
open Go.Proofs.Tryz
namespace Kp
theorem Qfq(L M:LB)(n t:Nat)(hn:n<=L.length)(h:t<n):(L.take n).getD t ByteArray.empty=(L++M).getD t ByteArray.empty:=by
 rw[Lc,Lc,Ig h,LE (by omega)]
def gN(c:Nat)(L:LB)(h x:Nat):BA:=nd c L h (x-1)
theorem QmJ(c:Nat)(L:LB)(m h i:Nat)(hm:m<=L.length)(hi:(i+1)*2^h<=m):nd c (L.take m) h i=nd c L h i:=by
 refine Jy h i i fun t ht=> ?_
 have hlt:i*2^h+t<m:=by rw[LT] at hi;omega
 have:=Qfq L [] m (i*2^h+t) hm hlt
 rwa [Nd] at this
theorem QfL(c:Nat)(L:LB)(m:Nat)(hm:m<=L.length):∀F,pks c (L.take m) F=ol (gN c L) F m
 | 0=>rfl
 | F+1=>by
  have hl:(L.take m).length=m:=by rw[LA];omega
  rw[pks,ol,QfL c L m hm F,hl]
  by_cases e:m/2^F%2=1
  ·rw[Lm e,Lm e,gN,QmJ c L m F _ hm];have h1:1<=m/2^F:=by generalize m/2^F=x at *;omega
   rw[show m/2^F-1+1=m/2^F by omega]
   exact Ii _ _
  ·rw[Ld e,Ld e]
theorem QgC(c:Nat)(L:LB)(h t:Nat)(ho:t%2=1):dg c (Qz (gN c L h t) (gN c L h (t+1)))=gN c L (h+1) (t/2+1):=by
 obtain⟨q,rfl⟩:∃q,t=2*q+1:=⟨t/2,by omega⟩
 rw[gN,gN,gN,show(2*q+1)/2+1-1=q by omega,nd,show 2*q+1-1=2*q by omega,show 2*q+1+1-1=2*q+1 by omega]
theorem QmC(c:Nat)(L:LB)(h t m:Nat)(hm:m=2^h*t)(hh:h<=40)(hl:m+2^h<=1099511627776) :
  mk c m (ol (gN c L) 41 m) h (nd c L h t)=((List.range (Pl.trl (40-h) t+1)).map (fun j=>nd c L (h+j) (t/2^j)),ol (gN c L) 41 (m+2^h)):=by
 have ht:t<2^(40-h):=by
  have h1:2^h*(t+1)<=2^h*2^(40-h):=by
   rw[<-Im,show h+(40-h)=40 by omega,N6,Nj,<-hm];exact hl
  exact Nat.le_of_mul_le_mul_left h1 (LP h)
 have e0:nd c L h t=gN c L h (t+1):=by rw[gN,Nx]
 have a:=Qhj c 41 (gN c L) (m+2^h) (fun h t _ ho=>QgC c L h t ho) (40-h) h t (by omega) ht (by omega)
 have b:=QiT c 41 (gN c L) (m+2^h) (fun h t _ ho=>QgC c L h t ho) (40-h) h t (by omega) ht (by omega)
 rw[<-hm] at a b;rw[mk,show m/2^h=t by rw[hm];exact(Je h t).2,e0]
 refine Prod.ext ?_ b
 rw[a];refine NE fun j _=> ?_
 rw[gN,Nx]
theorem Ql9{K:Int}(k1:1<=K)(k2:K<=32)(M:LB)(h t m:Nat)(hm:m=2^h*t)(hh:h<=40)(hl:m+2^h<=1099511627776):er K m (h:Int) (nd (clk K) M h t)=0:=by
 have hc:=YP k1 k2;refine Qgu (by rw[Ye (Qs K)];exact hc) (by omega) (by omega) ?_ ?_
 ·rw[Ni,hm];exact(Je h t).1
 ·rw[Ni];exact hl
theorem Qjd{K:Int}(k1:1<=K)(k2:K<=32)(M:LB)(h t m:Nat)(hm:m=2^h*t)(hh:h<=40)(hl:m+2^h<=1099511627776) :
  Hid (er K m (h:Int) (nd (clk K) M h t)=0∧nxN K m (h:Int) (nd (clk K) M h t)=m+2^h∧nxP K m (ol (gN (clk K) M) 41 m) (h:Int) (nd (clk K) M h t)=ol (gN (clk K) M) 41 (m+2^h) ∧
   an K m (ol (gN (clk K) M) 41 m) (h:Int) (nd (clk K) M h t)=(List.range (Pl.trl (40-h) t+1)).map (fun j=>nd (clk K) M (h+j) (t/2^j))):=by
 have e:=Ql9 k1 k2 M h t m hm hh hl;have q:=QmC (clk K) M h t m hm hh hl;refine⟨e,?_,?_,?_⟩
 ·rw[nxN,Lm e,Ni]
 ·rw[nxP,Lm e,Ni,q]
 ·rw[an,Lm e,Ni,q]
end Kp
def mdL(c:Nat)(L:LB)(x:BA):LB:=(List.range (Pl.trl 40 L.length+1)).map fun j=>nd c (L++[x]) j (L.length/2^j)
def pkL(c:Nat)(L:LB):LB:=ol (Kp.gN c L) 41 L.length
theorem QkI(c:Nat)(L:LB)(x:BA):ol (Kp.gN c (L++[x])) 41 L.length=pkL c L:=by
 have e:=Kp.QfL c (L++[x]) L.length (by simp) 41
 have e2:=Kp.QfL c L L.length (La _) 41;rw[Wb] at e;rw[NK] at e2;rw[<-e,e2];rfl
theorem Qe0:∀(f n:Nat),n<2^f->n%2^Pl.trl f n=2^Pl.trl f n-1 ∧ ¬n/2^Pl.trl f n%2=1
 | 0,n,h=>by
  obtain rfl:n=0:=by simpa using h
  exact⟨rfl,by decide⟩
 | f+1,n,h=>by
  by_cases ho:n%2=1
  ·rw[Pl.Qe1 f n ho];obtain⟨i1,i2⟩:=Qe0 f (n/2) (by rw[LJ] at h;omega)
   have hp:=LP (Pl.trl f (n/2));rw[LJ];refine⟨?_,?_⟩
   ·rw[LU,Il,ho,i1];omega
   ·rw[LU,<-L3];exact i2
  ·rw[Pl.QeZ f n ho];exact⟨by simp[Nat.mod_one],by simpa using ho⟩
theorem QgL(c:Nat)(L:LB)(x:BA):(mdL c L x).length=Pl.trl 40 L.length+1:=by simp[mdL]
theorem Qkb{c:Nat}(hc:c<=32)(L:LB)(x:BA):∀d∈mdL c L x,d.size=c:=fun d hd=>by
 obtain⟨j,_,rfl⟩:=List.mem_map.1 hd;exact Ye hc ..
namespace St.Rc
def PL:BitVec 32:=0x82f63b78#32
def st(c:BitVec 32):BitVec 32:=(c >>> 1) ^^^ (if c.getLsbD 0 then PL else 0#32)
def stN:Nat->BitVec 32->BitVec 32
 | 0,c=>c
 | n+1,c=>st (stN n c)
theorem xor4(a b c d:BitVec 32):(a ^^^ b) ^^^ (c ^^^ d)=(a ^^^ c) ^^^ (b ^^^ d):=by
 apply BitVec.eq_of_getLsbD_eq
 intro i _;simp only[BitVec.getLsbD_xor]
 cases a.getLsbD i <;> cases b.getLsbD i <;> cases c.getLsbD i <;> cases d.getLsbD i <;> rfl
theorem Qix(a:BitVec 32):a ^^^ 0#32=a:=BitVec.xor_zero
theorem Qno(a b:BitVec 32)(n:Nat):(a ^^^ b) >>> n=(a >>> n) ^^^ (b >>> n):=by
 apply BitVec.eq_of_getLsbD_eq
 intro i _;simp only[BitVec.getLsbD_xor,BitVec.getLsbD_ushiftRight]
theorem Qo7(a b:BitVec 32):st (a ^^^ b)=st a ^^^ st b:=by
 unfold st;rw[xor4,Qno]
 congr 1
 rw[BitVec.getLsbD_xor]
 cases a.getLsbD 0 <;> cases b.getLsbD 0 <;> simp
theorem Qns(n:Nat)(a b:BitVec 32):stN n (a ^^^ b)=stN n a ^^^ stN n b:=by
 induction n with
 | zero=>rfl
 | succ n ih=>simp only[stN,ih,Qo7]
theorem Qnq(m n:Nat)(c:BitVec 32):stN (m+n) c=stN n (stN m c):=by
 induction n with
 | zero=>rfl
 | succ n ih=>rw[<-Nr,stN,stN,ih]
theorem Qnn(x:BitVec 32)(h:x.getLsbD 31=false):(x <<< 1) >>> 1=x:=by
 apply BitVec.eq_of_getLsbD_eq
 intro i hi;rw[BitVec.getLsbD_ushiftRight,BitVec.getLsbD_shiftLeft]
 by_cases h31:i=31
 ·subst h31;rw[h];rfl
 ·have e:1+i-1=i:=by omega
  have e2:(1+i<32):=by omega
  simp[e,e2]
def bw(b:UInt8):BitVec 32:=BitVec.ofNat 32 b.toNat
def by8(c:BitVec 32)(b:UInt8):BitVec 32:=stN 8 (c ^^^ bw b)
def run(c:BitVec 32)(l:List UInt8):BitVec 32:=l.foldl by8 c
theorem QfZ(c:BitVec 32)(l m:List UInt8):run c (l++m)=run (run c l) m:=by simp[run]
theorem Qk5(c:BitVec 32)(l:List UInt8)(b:UInt8):run c (l++[b])=by8 (run c l) b:=by simp[run]
def mor(c:BitVec 32)(l:List UInt8):BitVec 32 := ~~~ (run (~~~ c) l)
theorem QgO(c:BitVec 32):mor c []=c:=by simp[mor,run]
theorem Oa(c:BitVec 32)(l m:List UInt8):mor c (l++m)=mor (mor c l) m:=by simp[mor,QfZ]
def TB:List (BitVec 32):=[0x00000000#32,0x105ec76f#32,0x20bd8ede#32,0x30e349b1#32,0x417b1dbc#32,0x5125dad3#32,0x61c69362#32,0x7198540d#32,
 0x82f63b78#32,0x92a8fc17#32,0xa24bb5a6#32,0xb21572c9#32,0xc38d26c4#32,0xd3d3e1ab#32,0xe330a81a#32,0xf36e6f75#32]
theorem Qo9:∀n,n<16->TB.getD n 0#32=stN 4 (BitVec.ofNat 32 n):=by decide
theorem Qo6(x:BitVec 32)(h:x.getLsbD 31=false):st (x <<< 1)=x:=by
 have h0:((x <<< 1).getLsbD 0)=false:=by simp
 rw[st,h0,Ld (by decide),Qix,Qnn x h]
theorem QoA(x:BitVec 32):(x >>> 4) ^^^ TB.getD (x.toNat%16) 0#32=stN 4 x:=by
 have hs:∀k,k<=4->stN k ((x >>> 4) <<< 4)=(x >>> 4) <<< (4-k):=by
  intro k hk
  induction k with
  | zero=>rfl
  | succ k ih=>
   rw[stN,ih (by omega)]
   have e:(x >>> 4) <<< (4-k)=((x >>> 4) <<< (4-(k+1))) <<< 1:=by
    rw[<-BitVec.shiftLeft_add,show 4-(k+1)+1=4-k by omega]
   rw[e,Qo6];rw[BitVec.getLsbD_shiftLeft,BitVec.getLsbD_ushiftRight];have:x.getLsbD (4+(31-(4-(k+1))))=false:=BitVec.getLsbD_of_ge _ _ (by omega)
   rw[this,Bool.and_false]
 have h4:=hs 4 (La _);have hx:x=(x >>> 4) <<< 4 ^^^ BitVec.ofNat 32 (x.toNat%16):=by
  apply BitVec.eq_of_getLsbD_eq
  intro i hi;rw[BitVec.getLsbD_xor,BitVec.getLsbD_shiftLeft,BitVec.getLsbD_ushiftRight,BitVec.getLsbD_ofNat,show(16:Nat)=2^4 from rfl,Nat.testBit_mod_two_pow]
  by_cases h:i<4
  ·simp[h,hi,BitVec.getLsbD]
  ·have:4+(i-4)=i:=by omega
   simp[h,hi,this]
 rw[Qo9 _ (Iu _ (by decide))]
 conv=>rhs;rw[hx]
 rw[Qns,h4,NH,BitVec.shiftLeft_zero]
end St.Rc
namespace St.Rc
def cW(l:List (BitVec 32)):List Value:=l.map fun c=>Value.int .u32 c.toNat
def tabO:Obj := .cells (cW TB).toArray 419
theorem Qp(w:World)(cs:List Value)(t:TypeId):(w.alloc (.cells cs.toArray t)).rangeAt w.heap.size 0 cs:=fun j v hv=>by
 rw[Lo,Nq]
 simpa using hv
theorem QeW(w:World)(n:Nat)(hn:n<16):(w.alloc tabO).cell? ⟨w.heap.size,n,none⟩=some (.int .u32 ((TB.getD n 0#32).toNat:Int)):=by
 have hl:n<TB.length:=hn;have:=Qp w (cW TB) 419 n (.int .u32 ((TB.getD n 0#32).toNat:Int)) (by simp[cW,List.getElem?_eq_getElem hl,List.getD_eq_getElem?_getD])
 rwa [Lo] at this
theorem Qlz(a b:BitVec 32):bits .xor .u32 (a.toNat:Int) (b.toNat:Int)=((a ^^^ b).toNat:Int):=by
 rw[u32_xor_nat _ _ a.isLt b.isLt,BitVec.toNat_xor]
theorem QnY(a:BitVec 32):bits .xor .u32 IntKind.u32.max (a.toNat:Int)=((~~~ a).toNat:Int):=by
 have e:IntKind.u32.max=((BitVec.allOnes 32).toNat:Int):=by decide
 rw[e,Qlz,BitVec.allOnes_xor]
theorem Qob(a:BitVec 32)(b:UInt8):bits .xor .u32 (a.toNat:Int) ((b.toNat:Int)%4294967296)=((a ^^^ bw b).toNat:Int):=by
 have hb:b.toNat<256:=b.toNat_lt;have e:(b.toNat:Int)%4294967296=((bw b).toNat:Int):=by
  rw[bw,BitVec.toNat_ofNat,Nz (by omega)];omega
 rw[e,Qlz]
theorem half(X:BitVec 32):∃q n t y:Nat,(X.toNat:Int)/16=(q:Int)∧bits .and .u32 (X.toNat:Int) 15=(n:Int)∧n<16∧(TB.getD n 0#32).toNat=t∧bits .xor .u32 (q:Int) (t:Int)=(y:Int)∧y=(stN 4 X).toNat:=by
 refine⟨X.toNat/16,X.toNat%16,_,_,by omega,?_,Iu _ (by decide),rfl,?_,rfl⟩
 ·have:=u32_and_nat X.toNat 15 X.isLt (by decide)
  rw[show((15:Nat):Int)=15 from rfl] at this
  rw[this];have:X.toNat &&& 15=X.toNat%2^4:=Nat.and_two_pow_sub_one_eq_mod _ 4;rw[this]
 ·have e:X.toNat/16=(X >>> 4).toNat:=by rw[BitVec.toNat_ushiftRight,Nv]
  rw[e,Qlz,QoA]
theorem Qis(s:BA)(k:Nat)(hk:k<s.size):s.data.toList.take (k+1)=s.data.toList.take k++[s[k]]:=by
 rw[L4 (by simpa using hk)]
 rfl
theorem Qkg(w:World)(c:BitVec 32)(s:BA)(hs:s.size<=9223372036854775807) :
  Calls prog 342 #[.int .u32 c.toNat,.string s] w fun e w'=>e= .returned (.int .u32 ((mor c s.data.toList).toNat:Int))∧w'=w.alloc tabO:=by
 have HN:Hid (bits .xor .u32 IntKind.u32.max (c.toNat:Int)=((~~~ c).toNat:Int)):=QnY c
 go_enter func342,ntmps342;go_wp2
 go_loopg [6,13] s.size (fun g x i wr=>w.alloc tabO=wr ∧ ∃(k m:Nat),k<=s.size∧g=s.size-k∧x= .int .u32 m∧i= .int .i64 k∧Hid (m=(run (~~~ c) (s.data.toList.take k)).toNat))
 case atStart=>go_light;exact⟨rfl,0,(~~~ c).toNat,Ln _,rfl,by rw[HN.out],rfl,rfl⟩
 case round=>
  obtain⟨rfl,k,d,hk,rfl,rfl,rfl,HD⟩:=hrel
  by_cases hlt:k<s.size
  ·have hz:(k:Int)<(s.size:Int):=by omega
   have e0:=Qob (run (~~~ c) (s.data.toList.take k)) s[k];rw[<-HD.out] at e0;obtain⟨q,n,t,y,e1,e2,hn,ht,e3,hy⟩:=half (run (~~~ c) (s.data.toList.take k) ^^^ bw s[k]);obtain⟨q',n',t',y',e1',e2',hn',ht',e3',hy'⟩:=half (stN 4 (run (~~~ c) (s.data.toList.take k) ^^^ bw s[k]));have HY:Hid (y'=(run (~~~ c) (s.data.toList.take (k+1))).toNat):=by
    show _=_
    rw[hy',Qis s k hlt,Qk5,by8,<-Qnq]
   rw[<-hy] at e1' e2';have c1:=QeW w n hn;have c2:=QeW w n' hn';rw[ht] at c1;rw[ht'] at c2;have n0:(0:Int)<=(n:Int):=Lh _;have n1:(n:Int)<16:=by omega
   have n0':(0:Int)<=(n':Int):=Lh _;have n1':(n':Int)<16:=by omega
   generalize (run (~~~ c) (s.data.toList.take k) ^^^ bw s[k]).toNat=x at e0 e1 e2;clear hy hy' ht ht' HD hn hn';go_wp2
   go_roundg (s.size-(k+1))
   case rel=>go_light;exact⟨rfl,k+1,y',by omega,rfl,rfl,by go_num,HY.out⟩
   case measure=>go_light;omega
  ·obtain rfl:k=s.size:=by omega
   have hz:¬(s.size:Int)<(s.size:Int):=by omega
   have e0:=QnY (run (~~~ c) (s.data.toList.take s.size));rw[<-HD.out] at e0;have HE:Hid ((~~~ (run (~~~ c) (s.data.toList.take s.size))).toNat=(mor c s.data.toList).toNat):=by
    show _=_
    rw[Lr (by simp),mor]
   generalize (~~~ (run (~~~ c) (s.data.toList.take s.size))).toNat=x at e0 HE;clear HD;go_wp2
   go_ret
   exact⟨by rw[HE.out];rfl,rfl⟩
theorem QI{w:World}{b o:Nat}{cs:List Value}(h:w.rangeAt b o cs)(hc:cs≠[]):b<w.heap.size:=by
 obtain⟨v,r,rfl⟩:=List.exists_cons_of_ne_nil hc;have:=h 0 v rfl;exact Lf _ _ this
theorem Qm{B:Nat}{a w:World}(hb:Below B a w){b o:Nat}{cs:List Value}(hlt:b<B)(h:a.rangeAt b o cs):w.rangeAt b o cs:=fun j v hv=>by
 rw[hb.cell (p:=⟨b,o+j,none⟩) hlt];exact h j v hv
theorem Qkh(w:World)(c:BitVec 32)(m:Nat)(hm:m=c.toNat)(s:BA)(hs:s.size<=9223372036854775807) :
  Calls prog 342 #[.int .u32 m,.string s] w fun e w'=>e= .returned (.int .u32 ((mor c s.data.toList).toNat:Int))∧Below w.heap.size w w':=by
 subst hm;refine(Qkg w c s hs).mono ?_
 rintro e w' ⟨rfl,rfl⟩;exact⟨rfl,(Lb _ _).alloc (La _) _⟩
def Qk(ss:LB):List UInt8:=ss.flatMap fun s=>s.data.toList
def sumL(ss:LB):BitVec 32:=mor 0#32 (Qk ss)
theorem UP(ss:LB)(k:Nat)(hk:k<ss.length):Qk (ss.take (k+1))=Qk (ss.take k)++(ss.getD k ByteArray.empty).data.toList:=by
 have e:ss.getD k ByteArray.empty=ss[k]:=by rw[Lc,Ll hk];rfl
 unfold Qk;rw[L4 hk,List.flatMap_append,e];simp
theorem _root_.Go.Proofs.YtoblgjledefdbaaGreatDoor.RdS.szAt{w:World}{ao:OA}{b off len:Nat}{ss:LB}(h:RdS w ao b off len ss){k:Nat}(hk:k<len):(ss.getD k ByteArray.empty).size<=9223372036854775807:=by
 have hl:k<ss.length:=by have:=h.hl;omega
 have e:ss.getD k ByteArray.empty=ss[k]:=by rw[Lc,Ll hl];rfl
 rw[e];exact h.sz _ (LZ _)
theorem Qc5(w:World)(ao:OA)(b off len cap:Nat)(ss:LB)(hr:RdS w ao b off len ss)(hmx:len<=9223372036854775807) :
  Calls prog 341 #[.slice ao len cap] w fun e w'=>e= .returned (.int .u32 ((sumL ss).toNat:Int))∧Below w.heap.size w w':=by
 go_enter func341,ntmps341;go_wp2
 go_loopg [3,8] len (fun g x i wr=> ∃(k m:Nat),k<=len∧g=len-k∧x= .int .u32 m∧i= .int .i64 k∧Hid (m=(mor 0#32 (Qk (ss.take k))).toNat)∧Below w.heap.size w wr)
 case atStart=>go_light;exact⟨0,0,Ln _,rfl,rfl,rfl,by show _=_;rw[We,show Qk []=[] from rfl,QgO];rfl,Lb _ _⟩
 case round=>
  obtain⟨k,m,hk,rfl,rfl,rfl,HM,hb⟩:=hrel
  by_cases hlt:k<len
  ·have hz:(k:Int)<(len:Int):=by omega
   obtain rfl:=hr.ptr (by omega)
   have hr':=hr.next hb (La _);have ck:=hr'.at hlt;have hcall:=Qkh wr _ m HM.out (ss.getD k ByteArray.empty) (hr.szAt hlt);rw[<-Oa,<-UP ss k (by rw[hr.hl];exact hlt)] at hcall
   have HB:Hid (∀w',Below wr.heap.size wr w'->Below w.heap.size w w'):=fun w' h=>Qa hb h
   obtain⟨y,hy⟩:∃y,y=(mor 0#32 (Qk (ss.take (k+1)))).toNat:=⟨_,rfl⟩;rw[<-hy] at hcall;have HY:Hid (y=(mor 0#32 (Qk (ss.take (k+1)))).toNat):=hy;clear hy HM hb hr hr';generalize ss.getD k ByteArray.empty=part at *
   go_wp2_with (go_at_call 342;refine hcall.mono ?_;rintro e w' ⟨rfl,hb'⟩)
   go_roundg (len-(k+1))
   case rel=>go_light;exact⟨k+1,y,by omega,rfl,rfl,by go_num,HY.out,HB.out _ hb'⟩
   case measure=>go_light;omega
  ·obtain rfl:k=len:=by omega
   have hz:¬(k:Int)<(k:Int):=by omega
   have HE:Hid (m=(sumL ss).toNat):=by
    show _=_
    rw[HM.out,sumL,Lr (by rw[hr.hl];exact La _)]
   clear HM;go_wp2
   go_ret
   exact⟨by rw[<-HE.out];rfl,hb⟩
end St.Rc
namespace St.Rc
def big:Nat->Nat->List UInt8
 | 0,_=>[]
 | k+1,n=>big k (n/256)++[UInt8.ofNat n]
theorem Qr(k n:Nat):(big k n).length=k:=by
 induction k generalizing n with
 | zero=>rfl
 | succ k ih=>simp[big,ih]
theorem QiJ(k n:Nat):big (k+1) n=UInt8.ofNat (n/256^k)::big k n:=by
 induction k generalizing n with
 | zero=>simp[big]
 | succ k ih=>
  rw[big,ih,L3,<-Nat.pow_succ',N7]
  rfl
def num(l:List UInt8):Nat:=l.foldl (fun n b=>n*256+b.toNat) 0
theorem ON(l:List UInt8)(b:UInt8):num (l++[b])=num l*256+b.toNat:=by simp[num]
theorem Jf{P:List UInt8->Prop}(h0:P [])(hs:∀l b,P l->P (l++[b]))(l:List UInt8):P l:=by
 have:∀l:List UInt8,P l.reverse:=by
  intro l
  induction l with
  | nil=>exact h0
  | cons b l ih=>rw[IB];exact hs _ _ ih
 have h:=this l.reverse
 rwa [List.reverse_reverse] at h
theorem QoS(l:List UInt8):num l<256^l.length:=by
 induction l using Jf with
 | h0=>simp[num]
 | hs l b ih=>
  rw[ON,Le,LR,LJ];have:=b.toNat_lt;omega
theorem Qkn(l:List UInt8)(k:Nat)(h:l.length<=k):num l<256^k:=Lv (QoS l) (Nc (by decide) h)
theorem QmN(k n:Nat):num (big k n)=n%256^k:=by
 induction k generalizing n with
 | zero=>simp[big,num,Nat.mod_one]
 | succ k ih=>
  rw[big,ON,ih,UInt8.toNat_ofNat',show(256:Nat)^(k+1)=256*256^k from Nat.pow_succ',Il]
  omega
theorem QfI(k n:Nat)(h:n<256^k):num (big k n)=n:=by rw[QmN,Nz h]
theorem QlJ(l:List UInt8):big l.length (num l)=l:=by
 induction l using Jf with
 | h0=>rfl
 | hs l b ih=>
  have hb:=b.toNat_lt;rw[Le,LR,big,ON,show(num l*256+b.toNat)/256=num l by omega,ih]
  congr 2
  apply UInt8.toNat_inj.1
  rw[UInt8.toNat_ofNat'];omega
theorem QiK(l:List UInt8)(k:Nat)(h:l.length=k):big k (num l)=l:=by subst h;exact QlJ l
def zer(n:Nat):List UInt8:=List.replicate n 0
theorem QC(n:Nat):(zer n).length=n:=by simp[zer]
def crc(l:List UInt8):Nat:=(mor 0#32 l).toNat
theorem Qja(l:List UInt8):crc l<256^4:=(mor 0#32 l).isLt
def sld(l:List UInt8):List UInt8:=l++big 4 (crc l)
theorem JR(l:List UInt8):(sld l).length=l.length+4:=by simp[sld,Qr]
def pay(s:List UInt8):List UInt8:=sld (big 4 s.length++s)
def nod(p:Nat)(d:List UInt8):List UInt8:=sld (d++zer (32-d.length)++big 4 p)
structure MV where
 k:Int
 size:Nat
 items:Nat
 nodes:Nat
 chain:BitVec 32
def Oo(k a b c d:Nat):List UInt8:=[109,115,102,1]++big 1 k++zer 3++big 8 a++big 8 b++big 8 c++big 4 d++zer 24
theorem JG(k a b c d:Nat):(Oo k a b c d).length=60:=by simp[Oo,Qr,QC]
def mrk(m:MV):List UInt8:=if 1<=m.k∧m.k<=32 then sld (Oo m.k.toNat m.size m.items m.nodes m.chain.toNat) else []
theorem pay_len(s:List UInt8):(pay s).length=s.length+8:=by simp[pay,JR,Qr];omega
theorem Qc2(p:Nat)(d:List UInt8)(h:d.length<=32):(nod p d).length=40:=by simp[nod,JR,Qr,QC];omega
theorem QmE(m:MV)(h:1<=m.k∧m.k<=32):(mrk m).length=64:=by rw[mrk,Lm h,JR,JG]
def payS(s:List UInt8):List UInt8:=if s.length<=1048576 then pay s else []
def nodS(p:Nat)(d:List UInt8):List UInt8:=if d.length<=32 then nod p d else []
def rpay(s:List UInt8):Option (List UInt8) :=
 if 4<=s.length∧num (s.take 4)<=1048576∧num (s.take 4)+8<=s.length∧pay ((s.drop 4).take (num (s.take 4)))=s.take (num (s.take 4)+8) then some ((s.drop 4).take (num (s.take 4))) else none
theorem Qm0(s:List UInt8)(n:Nat)(h4:4<=s.length)(hn:num (s.take 4)=n)(h8:n+8<=s.length):pay ((s.drop 4).take n)=sld (s.take (n+4)):=by
 have e1:((s.drop 4).take n).length=n:=by simp;omega
 have e2:big 4 n=s.take 4:=by rw[<-hn,QiK _ _ (by simp;omega)]
 rw[pay,e1,e2]
 congr 1
 have:s.take (n+4)=s.take 4++(s.drop 4).take n:=by rw[I5,List.take_add]
 rw[this]
theorem QeP(x t:List UInt8)(h:x.length<=1048576):rpay (pay x++t)=some x:=by
 have hl:=pay_len x;have e0:(pay x++t).take 4=big 4 x.length:=by
  rw[LG (by omega),pay,sld,LH,LG (by rw[Qr];exact La _),Lr (by rw[Qr];exact La _)]
 have e1:num ((pay x++t).take 4)=x.length:=by rw[e0,QfI _ _ (by omega)]
 have e2:((pay x++t).drop 4).take x.length=x:=by
  rw[L9 (by omega),LG (by simp;omega),pay,sld,LH,L9 (by rw[Qr];exact La _),Nk (by rw[Qr];exact La _),Ny,LG (La _),Lr (La _)]
 rw[rpay,e1,e2];refine Lm ⟨by simp;omega,h,by simp;omega,?_⟩
 rw[LG (by omega),Lr (by omega)]
theorem rpay_len{s x:List UInt8}(h:rpay s=some x):x.length<=1048576∧x.length+8<=s.length∧pay x=s.take (x.length+8)∧num (s.take 4)=x.length:=by
 unfold rpay at h
 split at h
 ·rename_i hc
  cases h;have e:(List.take (num (List.take 4 s)) (List.drop 4 s)).length=num (List.take 4 s):=by simp;omega
  rw[e];exact⟨hc.2.1,hc.2.2.1,hc.2.2.2,rfl⟩
 ·cases h
theorem MV.ext'{a b:MV}(h1:a.k=b.k)(h2:a.size=b.size)(h3:a.items=b.items)(h4:a.nodes=b.nodes)(h5:a.chain=b.chain):a=b:=by
 cases a;cases b;simp only at h1 h2 h3 h4 h5;subst h1 h2 h3 h4 h5;rfl
end St.Rc
namespace St
theorem Qa{w W w2:World}(h:Below w.heap.size w W)(h2:Below W.heap.size W w2):Below w.heap.size w w2:=h.trans (h2.mono h.size)
theorem bal{w W:World}(h:Below w.heap.size w W)(o:Obj):Below w.heap.size w (W.alloc o):=h.alloc h.size o
theorem Qi{B:Nat}{a w:World}(h:Below B a w)(n:Nat):Below B a (w.drewN n):=⟨h.os,h.tape,h.output,h.size,h.block⟩
structure Upo(S:Nat->Prop)(w w':World):Prop where
 os:w'.os=w.os
 tape:w'.tape=w.tape
 output:w'.output=w.output
 size:w.heap.size<=w'.heap.size
 block:∀b,b<w.heap.size -> ¬S b->w'.heap[b]? = w.heap[b]?
section
variable {S T:Nat->Prop} {w w' w1 w2:World}
theorem Upo.refl(S:Nat->Prop)(w:World):Upo S w w:=⟨rfl,rfl,rfl,La _,fun _ _ _=>rfl⟩
theorem Upo.of(h:Below w.heap.size w w'):Upo S w w':=⟨h.os,h.tape,h.output,h.size,fun b hb _=>h.block b hb⟩
theorem Upo.trans(h:Upo S w w1)(h2:Upo T w1 w2)(hT:∀b,b<w.heap.size->T b->S b):Upo S w w2 :=
 ⟨h2.os.trans h.os,h2.tape.trans h.tape,h2.output.trans h.output,Lu h.size h2.size,fun b hb hs=>(h2.block b (Lv hb h.size) fun ht=>hs (hT b hb ht)).trans (h.block b hb hs)⟩
theorem Upo.mono(h:Upo S w w1)(hT:∀b,b<w.heap.size->S b->T b):Upo T w w1:=⟨h.os,h.tape,h.output,h.size,fun b hb hs=>h.block b hb fun q=>hs (hT b hb q)⟩
theorem Upo.next(h:Upo S w w1)(h2:Below w1.heap.size w1 w2):Upo S w w2:=h.trans (Upo.of (S:=S) h2) fun _ _ q=>q
theorem Upo.below(h:Upo S w w'){B:Nat}(hB:B<=w.heap.size)(hS:∀b,S b->B<=b):Below B w w' :=
 ⟨h.os,h.tape,h.output,h.size,fun b hb=>h.block b (by omega) fun hs=>by have:=hS b hs;omega⟩
theorem Upo.grown{o:Option Nat}(h:w.grownBy w' o)(hS:∀b,o=some b->S b):Upo S w w' :=
 ⟨h.os,h.tape,h.output,h.size,fun b hb hs=>h.block b hb fun e=>hs (hS b e.symm)⟩
theorem Upo.set(h:Upo S w w')(b i:Nat)(v:Value)(hb:S b∨w.heap.size<=b):Upo S w (w'.setCell ⟨b,i,none⟩ v):=by
 refine⟨h.os,h.tape,h.output,by simpa using h.size,fun c hc hs=> ?_⟩
 rw[<-h.block c hc hs];exact Below.heap_setCell _ _ _ _ (by show c≠b;rintro rfl;rcases hb with hb|hb;exact hs hb;omega)
theorem Upo.alloc(h:Upo S w w')(o:Obj):Upo S w (w'.alloc o):=h.next (bal (Lb _ _) o)
theorem Upo.drew(h:Upo S w w'):Upo S w w'.drew:=⟨h.os,h.tape,h.output,h.size,h.block⟩
end
theorem Ja(w:World)(o:Obj):(w.alloc o).heap[w.heap.size]? = some o:=(MapKept.heap_alloc w o).1
theorem new0(w:World)(o p:Obj):((w.alloc o).alloc p).heap[w.heap.size]? = some o:=((MapKept.heap_alloc (w.alloc o) p).2 _ (by simp)).trans (Ja w o)
theorem new2(w:World)(o p:Obj):((w.alloc o).alloc p).heap[w.heap.size+1]? = some p:=by
 have:=Ja (w.alloc o) p
 simpa using this
theorem Qdv{W:World}{q:Nat}{x0 x1 x2:Value}{T:TypeId}(h:W.heap[q]? = some (.cells #[x0,x1,x2] T (0,0)))(a b c:Value) :
  (((W.setCell ⟨q,0,none⟩ a).setCell ⟨q,1,none⟩ b).setCell ⟨q,2,none⟩ c).heap[q]? = some (.cells #[a,b,c] T (0,0)):=by
 have h1:(W.setCell ⟨q,0,none⟩ a).heap[q]? = some (.cells #[a,x1,x2] T (0,0)):=Lp W q 0 _ _ a h;have h2:((W.setCell ⟨q,0,none⟩ a).setCell ⟨q,1,none⟩ b).heap[q]? = some (.cells #[a,b,x2] T (0,0)):=Lp _ q 1 _ _ b h1;exact Lp _ q 2 _ _ c h2
theorem QP{W:World}{q:Nat}{a b c:Value}{T:TypeId}(h:W.heap[q]? = some (.cells #[a,b,c] T (0,0))):W.cell? ⟨q,0,none⟩=some a∧W.cell? ⟨q,1,none⟩=some b∧W.cell? ⟨q,2,none⟩=some c :=
 ⟨by rw[cell_of_row W q 0 _ _ (0,0) h];rfl,by rw[cell_of_row W q 1 _ _ (0,0) h];rfl,by rw[cell_of_row W q 2 _ _ (0,0) h];rfl⟩
def hv(v:Value):Option (DataW Value×List MemPlace):=some (.held v,[])
theorem Tryz.keyS:Maps.Keyed prog 9:=Maps.string_keyed underlying9
theorem keyS{s:BA}(hs:s.size<=maxLen):keyOf prog 9 (.string s)=some (.string s.data.toList):=WideMaps.keyOf_string_mk underlying9 hs
def Mv(w:World)(m:Nat)(F:List UInt8->Option Value):Prop :=
 ∃D:DataW Value,w.ownsMap prog 9 hv m (Maps.size D) D ∧ ∀s,(F s=none->Maps.has D (.string s)=false) ∧ ∀v,F s=some v -> ∀z,D.atKey (.string s) z= .held v
section
variable {w W:World} {m:Nat} {F G:List UInt8->Option Value}
theorem Mv.lt(h:Mv w m F):m<w.heap.size:=by
 obtain⟨D,h1,_⟩:=h;exact h1.lt
theorem Mv.same(h:Mv w m F)(hb:W.heap[m]? = w.heap[m]?):Mv W m F:=by
 obtain⟨D,⟨es,c,h1,h2⟩,h3⟩:=h;exact⟨D,⟨es,c,hb.trans h1,h2⟩,h3⟩
theorem QoL(w:World):Mv (w.alloc (.map #[] 0)) w.heap.size (fun _=>none) :=
 ⟨.map [],World.ownsMap_made _ _ _ _,fun s=>⟨fun _=>rfl,fun v h=>by cases h⟩⟩
theorem Mv.has(h:Mv w m F):∃D:DataW Value,w.ownsMap prog 9 hv m (Maps.size D) D∧(∀s,Maps.has D (.string s)=(F s).isSome) ∧ ∀s v,F s=some v -> ∀z,D.atKey (.string s) z= .held v:=by
 obtain⟨D,h1,h2⟩:=h;refine⟨D,h1,fun s=> ?_,fun s=>(h2 s).2⟩
 cases e:F s with
 | none=>exact(h2 s).1 e
 | some v=>exact Maps.has_true_of_atKey ((h2 s).2 v e)
theorem QnW{D:DataW Value}{n:Nat}(h:w.ownsMap prog 9 hv m n D)(h2:∀s,(F s=none->Maps.has D (.string s)=false) ∧ ∀v,F s=some v -> ∀z,D.atKey (.string s) z= .held v):Mv w m F:=by
 obtain⟨es,c,g1,g2,g3,rfl⟩:=h;refine⟨_,⟨es,c,g1,g2,?_,rfl⟩,h2⟩
 simp only[Maps.size,length_read];exact La _
theorem Mv.look(h:Mv w m F){t e:TypeId}(ht:prog.underlying t=some (.map 9 e)){z:Value}(hz:(zeroValue e).run prog w= .ok z w){s:BA}(hs:s.size<=maxLen) :
  (Instr.lookup t (.map (some m)) (.string s) false).run prog w= .ok ((F s.data.toList).getD z) w:=by
 obtain⟨D,h1,h2⟩:=h;obtain⟨v,ps,hr,hv'⟩:=h1.lookup Tryz.keyS ht hz (zd := .held z) (zp:=[]) rfl (keyS hs);rw[hr];simp only[hv,Option.some.injEq,Prod.mk.injEq] at hv'
 cases e1:F s.data.toList with
 | none=>
  rw[Maps.atKey_of_not_has ((h2 _).1 e1)] at hv';have e2:v=z:=by injection hv'.1
  rw[e2,Option.getD_none]
 | some u=>
  rw[(h2 _).2 u e1] at hv';have e2:v=u:=by injection hv'.1
  rw[e2,Option.getD_some]
def updF(F:List UInt8->Option Value)(s:List UInt8)(o:Option Value):List UInt8->Option Value:=fun t=>if t=s then o else F t
theorem Mv.perm(h:Mv w m F){N:List (List UInt8)}(hn:N.Nodup)(hN:∀s,s∈N↔(F s).isSome=true):∃D:DataW Value,w.ownsMap prog 9 hv m N.length D∧Maps.size D=N.length∧N.Perm (strKeys D):=by
 obtain⟨D,h1,h3,h2⟩:=h.has;obtain⟨es,rfl,hpw,_⟩:=h1.entries Tryz.keyS;obtain⟨es',hD',hko⟩:=h1.keysOf;obtain rfl:es=es':=by simpa using hD'
 have hp:=perm_strKeys hpw (fun p hp=>by obtain⟨v,hv⟩:=hko p hp;obtain⟨x,_,hx,_⟩:=Maps.keyOf_str underlying9 hv;exact⟨x,hx⟩) hn (fun x=>by rw[hN,h3])
 have hl:N.length=Maps.size (.map es:DataW Value):=by rw[hp.length_eq];simp[strKeys,Maps.size]
 exact⟨_,by rw[hl];exact h1,hl.symm,hp⟩
theorem Mv.write(h:Mv w m F){t e:TypeId}(ht:prog.underlying t=some (.map 9 e)){N:List (List UInt8)}(hn:N.Nodup)(hN:∀s,s∈N↔(F s).isSome=true)(hl:N.length<maxLen){s:BA}(hs:s.size<=maxLen)(v:Value) :
  ∃w',(Instr.mapUpdate t (.map (some m)) (.string s) v).run prog w= .ok () w'∧Mv w' m (updF F s.data.toList (some v))∧w.grownBy w' (some m):=by
 obtain⟨D0,_,e0,hp⟩:=h.perm hn hN;obtain⟨D,h1,h3,h2⟩:=h.has;have hz:Maps.size D<maxLen:=by
  obtain⟨es,hD,hpw,_⟩:=h1.entries Tryz.keyS;obtain⟨es',hD',hko⟩:=h1.keysOf;obtain rfl:es=es':=by rw[hD] at hD';simpa using hD'
  subst hD;have hp:=perm_strKeys hpw (fun p hp=>by obtain⟨v,hv⟩:=hko p hp;obtain⟨x,_,hx,_⟩:=Maps.keyOf_str underlying9 hv;exact⟨x,hx⟩) hn (fun x=>by rw[hN,h3])
  have:Maps.size (.map es:DataW Value)=N.length:=by rw[hp.length_eq];simp[strKeys,Maps.size]
  omega
 obtain⟨w',hr,g1,g2⟩:=h1.update (val:=v) (d := .held v) (ps:=[]) Tryz.keyS ht hz (keyS hs) rfl;refine⟨w',hr,QnW g1 fun u=> ?_,g2⟩
 by_cases e:u=s.data.toList
 ·subst e;refine⟨fun q=>by simp[updF] at q,fun x hx z=> ?_⟩
  simp[updF] at hx;subst hx;exact Maps.atKey_put_same h1.isMap (by trivial) _ _
 ·have e':(Lit.string u) ≠ .string s.data.toList:=fun q=>e (by injection q)
  refine⟨fun q=> ?_,fun x hx z=> ?_⟩
  ·rw[Maps.has_put_other e',h3];simp only[updF,if_neg e] at q;rw[q];rfl
  ·rw[Maps.atKey_put_other e'];simp only[updF,if_neg e] at hx;exact h2 u x hx z
theorem Mv.drop(h:Mv w m F){t e:TypeId}(ht:prog.underlying t=some (.map 9 e)){s:BA}(hs:s.size<=maxLen)(ty:TypeId) :
  ∃w',(Builtin.delete_ #[t,9] ty #[.map (some m),.string s]).run prog w= .ok (.tuple #[]) w'∧Mv w' m (updF F s.data.toList none)∧w.grownBy w' (some m):=by
 obtain⟨D,h1,h3,h2⟩:=h.has;obtain⟨w',hr,g1,g2⟩:=h1.drop Tryz.keyS ht (keyS hs) ty;refine⟨w',hr,QnW g1 fun u=> ?_,g2.grown⟩
 by_cases e:u=s.data.toList
 ·subst e;refine⟨fun _=>Maps.has_del_same,fun x hx z=> ?_⟩
  simp[updF] at hx
 ·have e':(Lit.string u) ≠ .string s.data.toList:=fun q=>e (by injection q)
  refine⟨fun q=> ?_,fun x hx z=> ?_⟩
  ·rw[Maps.has_del_other e',h3];simp only[updF,if_neg e] at q;rw[q];rfl
  ·rw[Maps.atKey_del_other e'];simp only[updF,if_neg e] at hx;exact h2 u x hx z
end
end St
namespace St
structure FV where
 now:List UInt8
 syn:List UInt8
def fz:FV:=⟨[],[]⟩
instance:Inhabited FV:=⟨fz⟩
def FV.gone(f:FV):Bool:=f.now.isEmpty && f.syn.isEmpty
theorem Qbj{f:FV} : f.gone=true↔f=fz:=by
 obtain⟨a,b⟩:=f;simp[FV.gone,fz,List.isEmpty_iff]
theorem Jv{f:FV} : f.gone=true↔f.now.length=0∧f.syn.length=0:=by
 obtain⟨a,b⟩:=f;simp[FV.gone,List.isEmpty_iff]
def Qh:List (List UInt8×FV)->List UInt8->FV
 | [],_=>fz
 | (t,f)::r,s=>if t=s then f else Qh r s
def Yn:List (List UInt8×FV)->List UInt8->FV->List (List UInt8×FV)
 | [],s,f=>if f.gone then [] else [(s,f)]
 | (t,g)::r,s,f=>if t=s then (if f.gone then r else (s,f)::r) else if s<t then (if f.gone then (t,g)::r else (s,f)::(t,g)::r) else (t,g)::Yn r s f
def Ord(L:List (List UInt8×FV)):Prop:=L.Pairwise (fun a b=>a.1<b.1) ∧ ∀p∈L,p.2.gone=false
theorem Uy:Ord []:=⟨.nil,by simp⟩
theorem QpC{s t:List UInt8}(h1:¬t=s)(h2:¬s<t):t<s:=by
 rcases Decidable.em (t<s) with h|h
 ·exact h
 ·exact absurd (List.le_antisymm (List.not_lt.1 h2) (List.not_lt.1 h)) h1
theorem YF{L:List (List UInt8×FV)}{s:List UInt8}(h:s ∉ L.map (·.1)):Qh L s=fz:=by
 induction L with
 | nil=>rfl
 | cons p r ih=>
  obtain⟨t,g⟩:=p;simp only[List.map_cons,List.mem_cons,not_or] at h;rw[Qh,Ld (fun e=>h.1 e.symm)]
  exact ih h.2
theorem Qjs{L:List (List UInt8×FV)}(ho:Ord L){s:List UInt8}{f:FV}(h:(s,f)∈L):Qh L s=f:=by
 induction L with
 | nil=>simp at h
 | cons p r ih=>
  obtain⟨t,g⟩:=p;obtain⟨h1,h2⟩:=ho;obtain⟨h3,h4⟩:=List.pairwise_cons.1 h1;rw[Qh]
  rcases List.mem_cons.1 h with e|e
  ·injection e with e1 e2
   rw[Lm e1.symm,e2]
  ·have:=h3 _ e;rw[Ld (fun q=>by simp only[q] at this;exact absurd this (Ij _))]
   exact ih ⟨h4,fun p hp=>h2 p (Ng _ hp)⟩ e
theorem Qgw{L:List (List UInt8×FV)}{s:List UInt8}(h:s∈L.map (·.1)):(s,Qh L s)∈L:=by
 induction L with
 | nil=>simp at h
 | cons p r ih=>
  obtain⟨t,g⟩:=p;rw[Qh]
  by_cases e:t=s
  ·rw[Lm e,e];simp
  ·rw[Ld e];simp only[List.map_cons,List.mem_cons] at h
   rcases h with h|h
   ·exact absurd h.symm e
   ·exact Ng _ (ih h)
theorem Qai{L:List (List UInt8×FV)}(ho:Ord L){s:List UInt8} : (Qh L s).gone=true↔s ∉ L.map (·.1):=by
 constructor
 ·intro h hs;have:=ho.2 _ (Qgw hs);rw[h] at this;cases this
 ·intro h;rw[YF h];rfl
theorem Qd6{L:List (List UInt8×FV)}{s:List UInt8}{f:FV}{p:List UInt8×FV}(h:p∈Yn L s f):p∈L∨(p=(s,f)∧f.gone=false):=by
 induction L with
 | nil=>
  rw[Yn] at h
  split at h
  ·simp at h
  ·rename_i hg
   exact .inr ⟨by simpa using h,by simpa using hg⟩
 | cons q r ih=>
  obtain⟨t,g⟩:=q;rw[Yn] at h
  split at h
  ·split at h
   ·exact .inl (Ng _ h)
   ·rename_i hg
    rcases List.mem_cons.1 h with h|h
    ·exact .inr ⟨h,by simpa using hg⟩
    ·exact .inl (Ng _ h)
  ·split at h
   ·split at h
    ·exact .inl h
    ·rename_i hg
     rcases List.mem_cons.1 h with h|h
     ·exact .inr ⟨h,by simpa using hg⟩
     ·exact .inl h
   ·rcases List.mem_cons.1 h with h|h
    ·exact .inl (by rw[h];simp)
    ·rcases ih h with h|h
     ·exact .inl (Ng _ h)
     ·exact .inr h
theorem YZ{L:List (List UInt8×FV)}(ho:Ord L)(s:List UInt8)(f:FV):Ord (Yn L s f):=by
 refine⟨?_,fun p hp=> ?_⟩
 ·induction L with
  | nil=>rw[Yn];split <;> simp
  | cons q r ih=>
   obtain⟨t,g⟩:=q;obtain⟨h1,h2⟩:=ho;obtain⟨h3,h4⟩:=List.pairwise_cons.1 h1;have hr:Ord r:=⟨h4,fun p hp=>h2 p (Ng _ hp)⟩
   rw[Yn]
   split
   ·rename_i e
    split
    ·exact h4
    ·exact List.pairwise_cons.2 ⟨fun p hp=>by have:=h3 p hp;rw[e] at this;exact this,h4⟩
   ·rename_i e
    split
    ·rename_i hlt
     split
     ·exact h1
     ·exact List.pairwise_cons.2 ⟨fun p hp=>by
       rcases List.mem_cons.1 hp with rfl|hp
       ·exact hlt
       ·exact Wm hlt (h3 p hp),h1⟩
    ·rename_i hlt
     refine List.pairwise_cons.2 ⟨fun p hp=> ?_,ih hr⟩
     rcases Qd6 hp with hp|⟨rfl,_⟩
     ·exact h3 p hp
     ·exact QpC e hlt
 ·rcases Qd6 hp with hp|⟨rfl,hg⟩
  ·exact ho.2 p hp
  ·exact hg
theorem Q8{L:List (List UInt8×FV)}(ho:Ord L)(s:List UInt8)(f:FV)(t:List UInt8):Qh (Yn L s f) t=if t=s then f else Qh L t:=by
 induction L with
 | nil=>
  rw[Yn]
  split
  ·rename_i hg
   rw[Qbj.1 hg];simp[Qh]
  ·simp only[Qh]
   by_cases e:t=s
   ·rw[Lm e,Lm e.symm]
   ·rw[Ld e,Ld (fun q=>e q.symm)]
 | cons q r ih=>
  obtain⟨u,g⟩:=q;obtain⟨h1,h2⟩:=ho;obtain⟨h3,h4⟩:=List.pairwise_cons.1 h1;have hr:Ord r:=⟨h4,fun p hp=>h2 p (Ng _ hp)⟩
  have low:∀ {x:List UInt8},¬u<x->x ∉ r.map (·.1):=fun {x} hx hm=>by
   obtain⟨p,hp,rfl⟩:=List.mem_map.1 hm;exact hx (h3 p hp)
  rw[Yn]
  split
  ·rename_i e
   subst e
   split
   ·rename_i hg
    rw[Qbj.1 hg]
    by_cases e:t=u
    ·rw[Lm e,YF (by rw[e];exact low (Ij _))]
    ·rw[Ld e,Qh,Ld (fun q=>e q.symm)]
   ·simp only[Qh]
    by_cases e:t=u
    ·rw[Lm e,Lm e.symm]
    ·rw[Ld e,Ld (fun q=>e q.symm)];simp only[if_neg (fun q:u=t=>e q.symm)]
  ·rename_i e
   split
   ·rename_i hlt
    have hno:s ∉ ((u,g)::r).map (·.1):=by
     simp only[List.map_cons,List.mem_cons,not_or];exact⟨fun q=>e q.symm,low (fun h=>absurd (Wm hlt h) (Ij _))⟩
    split
    ·rename_i hg
     rw[Qbj.1 hg]
     by_cases e:t=s
     ·rw[Lm e,e,YF hno]
     ·rw[Ld e]
    ·rw[Qh]
     by_cases e:t=s
     ·rw[Lm e,Lm e.symm]
     ·rw[Ld e,Ld (fun q=>e q.symm)]
   ·rw[Qh,ih hr,Qh]
    by_cases e2:u=t
    ·rw[Lm e2,Ld (fun q=>e (e2.trans q)),Lm e2]
    ·rw[Ld e2,Ld e2]
theorem QmU{L M:List (List UInt8×FV)}(hL:Ord L)(hM:Ord M)(h:∀s,Qh L s=Qh M s):L=M:=by
 have side:∀ {A B:List (List UInt8×FV)},Ord A->Ord B->(∀s,Qh A s=Qh B s) -> ∀p∈A,p∈B:=fun {A B} hA hB hh p hp=>by
  obtain⟨s,f⟩:=p;have e:=Qjs hA hp;have hin:s∈B.map (·.1):=by
   rcases Decidable.em (s∈B.map (·.1)) with h|h
   ·exact h
   ·have:=(Qai hB).2 h;rw[<-hh,e] at this;have q:=hA.2 _ hp;simp only[this] at q;cases q
  have:=Qgw hin;rw[<-hh,e] at this;exact this
 have nd:∀ {A:List (List UInt8×FV)},Ord A->A.Nodup:=fun {A} hA=>hA.1.imp fun {a b} hlt e=>by rw[e] at hlt;exact Ij _ hlt
 refine List.Perm.eq_of_pairwise (le:=fun a b=>a.1<b.1) (fun a b _ _ h1 h2=>absurd (Wm h1 h2) (Ij _)) hL.1 hM.1 ((List.perm_ext_iff_of_nodup (nd hL) (nd hM)).2 fun p=>⟨side hL hM h p,side hM hL (fun s=>(h s).symm) p⟩)
end St
def num(n:Nat):List UInt8:=if n<128 then [UInt8.ofNat n] else UInt8.ofNat (n%128+128)::num (n/128)
termination_by n
decreasing_by omega
theorem QaQ{n:Nat}(h:n<128):num n=[UInt8.ofNat n]:=by rw[num,Lm h]
theorem OM{n:Nat}(h:128<=n):num n=UInt8.ofNat (n%128+128)::num (n/128):=by rw[num,Ld (by omega)]
theorem QmO(n:Nat):0<(num n).length:=by
 by_cases h:n<128
 ·rw[QaQ h];simp
 ·rw[OM (by omega)];simp
def Y5:List UInt8->Nat->Nat->Nat×Nat×Nat
 | [],_,_=>(0,60,0)
 | b::r,i,n=>
  if i=9∧1<b.toNat then (0,61,0)
  else if b.toNat<128 then (if b.toNat=0∧0<i then (0,61,0) else (n+b.toNat*128^i,0,i+1))
  else Y5 r (i+1) (n+(b.toNat%128)*128^i)
theorem QR{x:Nat}(h:x<256):(UInt8.ofNat x).toNat=x:=by
 rw[UInt8.toNat_ofNat'];exact Nz h
theorem Qde{i:Nat}(h:i<=9):128^i<=128^9:=Nc (by decide) h
theorem QeS(t:List UInt8):∀(m i acc:Nat),acc<128^i->acc+m*128^i<2^64->i<=9->(i=0∨0<m) ->
  Y5 (num m++t) i acc=(acc+m*128^i,0,i+(num m).length):=by
 intro m
 induction m using Nat.strongRecOn with
 | _ m ih=>
  intro i acc ha hn hi h0
  by_cases h:m<128
  ·rw[QaQ h,List.singleton_append,Y5,QR (by omega)]
   have h1:¬(i=9∧1<m):=by
    rintro⟨rfl,h1⟩;have:2*128^9<=m*128^9:=LM _ h1;have e:2*128^9=2^64:=by decide
    omega
   rw[Ld h1,Lm h,Ld (by omega)]
   rfl
  ·rw[OM (by omega),N7,Y5,QR (by omega)]
   have h1:i≠9:=by
    rintro rfl;have:128*128^9<=m*128^9:=LM _ (by omega)
    have e:2^64<=128*128^9:=by decide
    omega
   rw[Ld (by omega),Ld (by omega)]
   have hs:acc+(m%128+128)%128*128^i+m/128*128^(i+1)=acc+m*128^i:=by
    rw[Nat.add_mod_right,Nat.mod_mod,LJ,LU (128^i),<-L5,Nr,<-LT,Nat.mod_add_div']
   have hlt:acc+(m%128+128)%128*128^i<128^(i+1):=by
    rw[Nat.add_mod_right,Nat.mod_mod,LJ];have:m%128*128^i<=127*128^i:=LM _ (by omega)
    omega
   rw[ih (m/128) (by omega) (i+1) _ hlt (by rw[hs];exact hn) (by omega) (.inr (by omega)),hs,LD]
   exact LW (fun x=>(acc+m*128^i,0,x)) (by omega)
theorem Qcm:∀(l:List UInt8) (i acc n k:Nat),acc<128^i->i<=9->Y5 l i acc=(n,0,k) ->
  ∃m,n=acc+m*128^i∧num m=l.take (k-i)∧i<k∧k<=10∧k-i<=l.length∧(0<i->0<m)∧n<2^64:=by
 intro l
 induction l with
 | nil=>intro i acc n k _ _ h;simp[Y5] at h
 | cons b r ih=>
  intro i acc n k ha hi h;rw[Y5] at h
  by_cases h1:i=9∧1<b.toNat
  ·rw[Lm h1] at h;simp at h
  ·rw[Ld h1] at h
   by_cases h2:b.toNat<128
   ·rw[Lm h2] at h
    by_cases h3:b.toNat=0∧0<i
    ·rw[Lm h3] at h;simp at h
    ·rw[Ld h3] at h;simp only[Prod.mk.injEq,true_and] at h;obtain⟨rfl,rfl⟩:=h;refine⟨b.toNat,rfl,?_,by omega,by omega,by simp,by omega,?_⟩
     ·rw[QaQ h2,Wo];simp
     ·have e9:(128:Nat)^9=9223372036854775808:=by decide
      rcases IU i 9 with h9|h9
      ·have hp:128^(i+1)<=128^9:=Qde (by omega)
       have:b.toNat*128^i<=127*128^i:=LM _ (by omega)
       rw[LJ] at hp;omega
      ·obtain rfl:i=9:=by omega
       have:b.toNat*128^9<=1*128^9:=LM _ (by omega)
       omega
   ·rw[Ld h2] at h;have h9:i≠9:=by omega
    have hlt:acc+b.toNat%128*128^i<128^(i+1):=by
     rw[LJ];have:b.toNat%128*128^i<=127*128^i:=LM _ (by omega)
     omega
    obtain⟨m,rfl,h4,h5,h6,h7,h8,h10⟩:=ih (i+1) _ n k hlt (by omega) h
    have hm:=h8 (by omega)
    have hb:=b.toNat_lt;refine⟨b.toNat%128+128*m,?_,?_,by omega,h6,by simp;omega,by omega,h10⟩
    ·rw[LT,LJ,LU (128^i),<-L5,LU m,Nr]
    ·rw[OM (by omega),show(b.toNat%128+128*m)/128=m by omega,h4,show(b.toNat%128+128*m)%128+128=b.toNat by omega,
      show k-i=(k-(i+1))+1 by omega,I2]
     simp
theorem Yv{n:Nat}(h:n<2^64):(num n).length<=10:=by
 have:=QeS [] n 0 0 (by decide) (by simpa using h) (by omega) (.inl rfl)
 obtain⟨m,h1,h2,h3,h4,h5,_⟩:=Qcm _ 0 0 _ _ (by decide) (by omega) this
 omega
structure Rdr(w:World)(p:Nat)(s:BA)(e:Nat):Prop where
 c0:w.cell? ⟨p,0,none⟩=some (.string s)
 c1:w.cell? ⟨p,1,none⟩=some (.int .i64 e)
 f0:w.frozen? ⟨p,0,none⟩=false
 f1:w.frozen? ⟨p,1,none⟩=false
structure Ch(p:Nat)(w w':World):Prop where
 below:Below p w w'
 block:∀q,q<w.heap.size->q≠p->w'.heap[q]? = w.heap[q]?
theorem Ch.refl(p:Nat)(w:World):Ch p w w:=⟨Lb _ _,fun _ _ _=>rfl⟩
theorem Ch.drewN{p:Nat}{w w':World}(h:Ch p w w')(n:Nat):Ch p w (w'.drewN n):=⟨Qi h.below n,h.block⟩
theorem Ch.set{p:Nat}{w w':World}(h:Ch p w w')(i:Nat)(v:Value):Ch p w (w'.setCell ⟨p,i,none⟩ v):=by
 refine⟨h.below.setCell (p:=⟨p,i,none⟩) (La _) v,fun q hq hne=> ?_⟩
 rw[<-h.block q hq hne];exact Below.heap_setCell _ _ _ _ hne
theorem Rdr.lt{w:World}{p e:Nat}{s:BA}(h:Rdr w p s e):p<w.heap.size:=Lf _ _ h.c0
theorem Rdr.next{w w':World}{p B e:Nat}{s:BA}(h:Rdr w p s e)(hb:Below B w w')(hp:p<B):Rdr w' p s e :=
 ⟨(hb.cell (p:=⟨p,0,none⟩) hp).trans h.c0,(hb.cell (p:=⟨p,1,none⟩) hp).trans h.c1,(hb.frozen (p:=⟨p,0,none⟩) hp).trans h.f0,(hb.frozen (p:=⟨p,1,none⟩) hp).trans h.f1⟩
theorem Rdr.drewN{w:World}{p e:Nat}{s:BA}(h:Rdr w p s e)(n:Nat):Rdr (w.drewN n) p s e:=h.next (Qi (Lb (p+1) w) n) (by omega)
theorem Rdr.set0{w:World}{p e:Nat}{s:BA}(h:Rdr w p s e)(t:BA):Rdr (w.setCell ⟨p,0,none⟩ (.string t)) p t e :=
 ⟨LX _ _ _ h.c0,(Lq _ _ _ _ (by simp)).trans h.c1,(NR _ _ _ _).trans h.f0,(NR _ _ _ _).trans h.f1⟩
theorem Rdr.set1{w:World}{p e:Nat}{s:BA}(h:Rdr w p s e)(e':Nat):Rdr (w.setCell ⟨p,1,none⟩ (.int .i64 e')) p s e' :=
 ⟨(Lq _ _ _ _ (by simp)).trans h.c0,LX _ _ _ h.c1,(NR _ _ _ _).trans h.f0,(NR _ _ _ _).trans h.f1⟩
theorem Qm9(w:World)(s:BA)(t:Nat):Rdr (w.alloc (.cells #[.string s,.int .i64 0] t)) w.heap.size s 0:=by
 refine⟨?_,?_,?_,?_⟩ <;> simp
theorem Qkk(w:World)(s:BA) :
  Calls prog 223 #[.string s] w fun e w'=>e= .returned (Pq w.heap.size)∧w'=w.alloc (.cells #[.string s,.int .i64 0] 374):=by
 go_enter func223,ntmps223;go_wp2
 go_ret
 exact⟨rfl,rfl⟩
theorem Jx(w:World)(p e:Nat)(s:BA)(hr:Rdr w p s e) :
  Calls prog 387 #[Pq p] w fun x w'=>x= .returned (.int .i64 s.size)∧w'=w:=by
 have c0:=hr.c0
 go_enter func387,ntmps387;go_wp2
 go_ret
 exact⟨rfl,rfl⟩
theorem Qbd(w:World)(p e:Nat)(s:BA)(hr:Rdr w p s 0) :
  Calls prog 409 #[Pq p,.int .i64 e] w fun x w'=>x= .returned (.int .i64 e)∧Rdr w' p ByteArray.empty e∧Ch p w w':=by
 have c0:=hr.c0;have c1:=hr.c1;have f0:=hr.f0;have f1:=hr.f1;have R1:Hid (Rdr ((w.setCell ⟨p,0,none⟩ (.string ByteArray.empty)).setCell ⟨p,1,none⟩ (.int .i64 e)) p ByteArray.empty e):=(hr.set0 _).set1 e;clear hr
 go_enter func409,ntmps409;go_wp2
 go_ret
 exact⟨rfl,R1.out,((Ch.refl p w).set 0 _).set 1 _⟩
def tkC(s:BA)(e:Nat)(n:Int):BA×Nat×BA :=
 if e≠0 then (ByteArray.empty,e,s) else if n<0∨(s.size:Int)<n then (ByteArray.empty,60,ByteArray.empty) else (s.extract 0 n.toNat,0,s.extract n.toNat s.size)
theorem U0(w:World)(p e:Nat)(s:BA)(n:Int)(hr:Rdr w p s e) :
  Calls prog 385 #[Pq p,.int .i64 n] w fun x w'=>x= .returned (.tuple #[.string (tkC s e n).1,.int .i64 ((tkC s e n).2.1:Int)])∧Rdr w' p (tkC s e n).2.2 (tkC s e n).2.1∧Ch p w w':=by
 have c0:=hr.c0;have c1:=hr.c1;have f0:=hr.f0;have f1:=hr.f1
 by_cases he:e=0
 ·subst he
  by_cases hn:n<0∨(s.size:Int)<n
  ·have ht:tkC s 0 n=(ByteArray.empty,60,ByteArray.empty):=by rw[tkC,Ld (by simp),Lm hn]
   rw[ht];have HF:=Qbd w p 60 s hr;clear hr
   by_cases h0:n<0
   ·go_enter func385,ntmps385
    go_wp2_with (go_at_call 409;refine HF.mono ?_;rintro x w' ⟨rfl,h1,h2⟩)
    go_ret2
    exact⟨rfl,h1,h2⟩
   ·have h1:(s.size:Int)<n:=by omega
    go_enter func385,ntmps385
    go_wp2_with (go_at_call 409;refine HF.mono ?_;rintro x w' ⟨rfl,h1,h2⟩)
    go_ret2
    exact⟨rfl,h1,h2⟩
  ·have ht:tkC s 0 n=(s.extract 0 n.toNat,0,s.extract n.toNat s.size):=by rw[tkC,Ld (by simp),Ld hn]
   rw[ht];obtain⟨k,rfl⟩:∃k:Nat,n=k:=⟨n.toNat,by omega⟩
   have h0:¬(k:Int)<0:=by omega
   have h1:¬(s.size:Int)<(k:Int):=by omega
   have h2:(k:Int)<=(s.size:Int):=by omega
   have R1:Hid (Rdr (w.setCell ⟨p,0,none⟩ (.string (s.extract k s.size))) p (s.extract k s.size) 0):=hr.set0 _;clear hr
   go_enter func385,ntmps385;go_wp2
   go_ret2
   exact⟨rfl,R1.out,(Ch.refl p w).set 0 _⟩
 ·have ht:tkC s e n=(ByteArray.empty,e,s):=by rw[tkC,Lm he]
  rw[ht];have hz:¬(e:Int)=0:=by omega
  go_enter func385,ntmps385;go_wp2
  go_quiet (fail)
  go_wp2
  go_ret2
  exact⟨rfl,hr.drewN _,(Ch.refl p w).drewN _⟩
end Go.Proofs.YtoblgjledefdbaaGreatDoor
