/- Own work. -/
import Derived.Sort.KeysCollected
import Derived.Deep.Upon
import Derived.Test.YtoblgjledefdbabGreatDoorQs02
set_option maxRecDepth 100000
namespace Go.Proofs.YtoblgjledefdbabGreatDoor
open Go.RowKit
attribute [local go_sem ↓] Go.wp_at_zero Go.wp_at_succ
open Go.Proofs.Tryz
namespace St.Rc
def PL:BitVec 32:=0x82f63b78#32
def st(c:BitVec 32):BitVec 32:=(c >>> 1) ^^^ (if c.getLsbD 0 then PL else 0#32)
def stN:Nat->BitVec 32->BitVec 32
 | 0,c=>c
 | n+1,c=>st (stN n c)
theorem xor4(a b c d:BitVec 32):(a ^^^ b) ^^^ (c ^^^ d)=(a ^^^ c) ^^^ (b ^^^ d):=by
 apply BitVec.eq_of_getLsbD_eq
 intro i _;simp only[BitVec.getLsbD_xor]
 cases a.getLsbD i <;> cases b.getLsbD i <;> cases c.getLsbD i <;> cases d.getLsbD i <;> rfl
theorem Qiu(a:BitVec 32):a ^^^ 0#32=a:=BitVec.xor_zero
theorem Qm9(a b:BitVec 32)(n:Nat):(a ^^^ b) >>> n=(a >>> n) ^^^ (b >>> n):=by
 apply BitVec.eq_of_getLsbD_eq
 intro i _;simp only[BitVec.getLsbD_xor,BitVec.getLsbD_ushiftRight]
theorem Qo5(a b:BitVec 32):st (a ^^^ b)=st a ^^^ st b:=by
 unfold st;rw[xor4,Qm9]
 congr 1
 rw[BitVec.getLsbD_xor]
 cases a.getLsbD 0 <;> cases b.getLsbD 0 <;> simp
theorem Qnc(n:Nat)(a b:BitVec 32):stN n (a ^^^ b)=stN n a ^^^ stN n b:=by
 induction n with
 | zero=>rfl
 | succ n ih=>simp only[stN,ih,Qo5]
theorem Qna(m n:Nat)(c:BitVec 32):stN (m+n) c=stN n (stN m c):=by
 induction n with
 | zero=>rfl
 | succ n ih=>rw[<-NR,stN,stN,ih]
theorem Qm8(x:BitVec 32)(h:x.getLsbD 31=false):(x <<< 1) >>> 1=x:=by
 apply BitVec.eq_of_getLsbD_eq
 intro i hi;rw[BitVec.getLsbD_ushiftRight,BitVec.getLsbD_shiftLeft]
 by_cases h31:i=31
 ·subst h31;rw[h];rfl
 ·have e:1+i-1=i:=by omega
  have e2:(1+i<32):=by omega
  simp[e,e2]
def bw(b:UInt8):BitVec 32:=BitVec.ofNat 32 b.toNat
def by8(c:BitVec 32)(b:UInt8):BitVec 32:=stN 8 (c ^^^ bw b)
def run(c:BitVec 32)(l:List UInt8):BitVec 32:=l.foldl by8 c
theorem Qf5(c:BitVec 32)(l m:List UInt8):run c (l++m)=run (run c l) m:=by simp[run]
theorem QkG(c:BitVec 32)(l:List UInt8)(b:UInt8):run c (l++[b])=by8 (run c l) b:=by simp[run]
def mor(c:BitVec 32)(l:List UInt8):BitVec 32 := ~~~ (run (~~~ c) l)
theorem QgX(c:BitVec 32):mor c []=c:=by simp[mor,run]
theorem Oh(c:BitVec 32)(l m:List UInt8):mor c (l++m)=mor (mor c l) m:=by simp[mor,Qf5]
def TB:List (BitVec 32):=[0x00000000#32,0x105ec76f#32,0x20bd8ede#32,0x30e349b1#32,0x417b1dbc#32,0x5125dad3#32,0x61c69362#32,0x7198540d#32,
 0x82f63b78#32,0x92a8fc17#32,0xa24bb5a6#32,0xb21572c9#32,0xc38d26c4#32,0xd3d3e1ab#32,0xe330a81a#32,0xf36e6f75#32]
theorem Qo7:∀n,n<16->TB.getD n 0#32=stN 4 (BitVec.ofNat 32 n):=by decide
theorem Qo4(x:BitVec 32)(h:x.getLsbD 31=false):st (x <<< 1)=x:=by
 have h0:((x <<< 1).getLsbD 0)=false:=by simp
 rw[st,h0,Le (by decide),Qiu,Qm8 x h]
theorem Qos(x:BitVec 32):(x >>> 4) ^^^ TB.getD (x.toNat%16) 0#32=stN 4 x:=by
 have hs:∀k,k<=4->stN k ((x >>> 4) <<< 4)=(x >>> 4) <<< (4-k):=by
  intro k hk
  induction k with
  | zero=>rfl
  | succ k ih=>
   rw[stN,ih (by omega)]
   have e:(x >>> 4) <<< (4-k)=((x >>> 4) <<< (4-(k+1))) <<< 1:=by
    rw[<-BitVec.shiftLeft_add,show 4-(k+1)+1=4-k by omega]
   rw[e,Qo4];rw[BitVec.getLsbD_shiftLeft,BitVec.getLsbD_ushiftRight];have:x.getLsbD (4+(31-(4-(k+1))))=false:=BitVec.getLsbD_of_ge _ _ (by omega)
   rw[this,Bool.and_false]
 have h4:=hs 4 (Lb _);have hx:x=(x >>> 4) <<< 4 ^^^ BitVec.ofNat 32 (x.toNat%16):=by
  apply BitVec.eq_of_getLsbD_eq
  intro i hi;rw[BitVec.getLsbD_xor,BitVec.getLsbD_shiftLeft,BitVec.getLsbD_ushiftRight,BitVec.getLsbD_ofNat,show(16:Nat)=2^4 from rfl,Nat.testBit_mod_two_pow]
  by_cases h:i<4
  ·simp[h,hi,BitVec.getLsbD]
  ·have:4+(i-4)=i:=by omega
   simp[h,hi,this]
 rw[Qo7 _ (ID _ (by decide))]
 conv=>rhs;rw[hx]
 rw[Qnc,h4,NK,BitVec.shiftLeft_zero]
end St.Rc
namespace St.Rc
def cW(l:List (BitVec 32)):List Value:=l.map fun c=>Value.int .u32 c.toNat
def tabO:Obj := .cells (cW TB).toArray 319
theorem Qq(w:World)(cs:List Value)(t:TypeId):(w.alloc (.cells cs.toArray t)).rangeAt w.heap.size 0 cs:=fun j v hv=>by
 rw[Lp,Nz]
 simpa using hv
theorem Qe2(w:World)(n:Nat)(hn:n<16):(w.alloc tabO).cell? ⟨w.heap.size,n,none⟩=some (.int .u32 ((TB.getD n 0#32).toNat:Int)):=by
 have hl:n<TB.length:=hn;have:=Qq w (cW TB) 319 n (.int .u32 ((TB.getD n 0#32).toNat:Int)) (by simp[cW,List.getElem?_eq_getElem hl,List.getD_eq_getElem?_getD])
 rwa [Lp] at this
theorem Qlh(a b:BitVec 32):bits .xor .u32 (a.toNat:Int) (b.toNat:Int)=((a ^^^ b).toNat:Int):=by
 rw[u32_xor_nat _ _ a.isLt b.isLt,BitVec.toNat_xor]
theorem QnL(a:BitVec 32):bits .xor .u32 IntKind.u32.max (a.toNat:Int)=((~~~ a).toNat:Int):=by
 have e:IntKind.u32.max=((BitVec.allOnes 32).toNat:Int):=by decide
 rw[e,Qlh,BitVec.allOnes_xor]
theorem Qn2(a:BitVec 32)(b:UInt8):bits .xor .u32 (a.toNat:Int) ((b.toNat:Int)%4294967296)=((a ^^^ bw b).toNat:Int):=by
 have hb:b.toNat<256:=b.toNat_lt;have e:(b.toNat:Int)%4294967296=((bw b).toNat:Int):=by
  rw[bw,BitVec.toNat_ofNat,NJ (by omega)];omega
 rw[e,Qlh]
theorem half(X:BitVec 32):∃q n t y:Nat,(X.toNat:Int)/16=(q:Int)∧bits .and .u32 (X.toNat:Int) 15=(n:Int)∧n<16∧(TB.getD n 0#32).toNat=t∧bits .xor .u32 (q:Int) (t:Int)=(y:Int)∧y=(stN 4 X).toNat:=by
 refine⟨X.toNat/16,X.toNat%16,_,_,by omega,?_,ID _ (by decide),rfl,?_,rfl⟩
 ·have:=u32_and_nat X.toNat 15 X.isLt (by decide)
  rw[show((15:Nat):Int)=15 from rfl] at this
  rw[this];have:X.toNat &&& 15=X.toNat%2^4:=Nat.and_two_pow_sub_one_eq_mod _ 4;rw[this]
 ·have e:X.toNat/16=(X >>> 4).toNat:=by rw[BitVec.toNat_ushiftRight,NC]
  rw[e,Qlh,Qos]
theorem Qin(s:BA)(k:Nat)(hk:k<s.size):s.data.toList.take (k+1)=s.data.toList.take k++[s[k]]:=by
 rw[LQ (by simpa using hk)]
 rfl
theorem QjW(w:World)(c:BitVec 32)(s:BA)(hs:s.size<=9223372036854775807) :
  Calls prog 231 #[.int .u32 c.toNat,.string s] w fun e w'=>e= .returned (.int .u32 ((mor c s.data.toList).toNat:Int))∧w'=w.alloc tabO:=by
 have HN:Hid (bits .xor .u32 IntKind.u32.max (c.toNat:Int)=((~~~ c).toNat:Int)):=QnL c
 go_enter func231,ntmps231;go_wp2
 go_loopg [6,13] s.size (fun g x i wr=>w.alloc tabO=wr ∧ ∃(k m:Nat),k<=s.size∧g=s.size-k∧x= .int .u32 m∧i= .int .i64 k∧Hid (m=(run (~~~ c) (s.data.toList.take k)).toNat))
 case atStart=>go_light;exact⟨rfl,0,(~~~ c).toNat,Lm _,rfl,by rw[HN.out],rfl,rfl⟩
 case round=>
  obtain⟨rfl,k,d,hk,rfl,rfl,rfl,HD⟩:=hrel
  by_cases hlt:k<s.size
  ·have hz:(k:Int)<(s.size:Int):=by omega
   have e0:=Qn2 (run (~~~ c) (s.data.toList.take k)) s[k];rw[<-HD.out] at e0;obtain⟨q,n,t,y,e1,e2,hn,ht,e3,hy⟩:=half (run (~~~ c) (s.data.toList.take k) ^^^ bw s[k]);obtain⟨q',n',t',y',e1',e2',hn',ht',e3',hy'⟩:=half (stN 4 (run (~~~ c) (s.data.toList.take k) ^^^ bw s[k]));have HY:Hid (y'=(run (~~~ c) (s.data.toList.take (k+1))).toNat):=by
    show _=_
    rw[hy',Qin s k hlt,QkG,by8,<-Qna]
   rw[<-hy] at e1' e2';have c1:=Qe2 w n hn;have c2:=Qe2 w n' hn';rw[ht] at c1;rw[ht'] at c2;have n0:(0:Int)<=(n:Int):=Lf _;have n1:(n:Int)<16:=by omega
   have n0':(0:Int)<=(n':Int):=Lf _;have n1':(n':Int)<16:=by omega
   generalize (run (~~~ c) (s.data.toList.take k) ^^^ bw s[k]).toNat=x at e0 e1 e2;clear hy hy' ht ht' HD hn hn';go_wp2
   go_roundg (s.size-(k+1))
   case rel=>go_light;exact⟨rfl,k+1,y',by omega,rfl,rfl,by go_num,HY.out⟩
   case measure=>go_light;omega
  ·obtain rfl:k=s.size:=by omega
   have hz:¬(s.size:Int)<(s.size:Int):=by omega
   have e0:=QnL (run (~~~ c) (s.data.toList.take s.size));rw[<-HD.out] at e0;have HE:Hid ((~~~ (run (~~~ c) (s.data.toList.take s.size))).toNat=(mor c s.data.toList).toNat):=by
    show _=_
    rw[Lu (by simp),mor]
   generalize (~~~ (run (~~~ c) (s.data.toList.take s.size))).toNat=x at e0 HE;clear HD;go_wp2
   go_ret
   exact⟨by rw[HE.out];rfl,rfl⟩
theorem QH{w:World}{b o:Nat}{cs:List Value}(h:w.rangeAt b o cs)(hc:cs≠[]):b<w.heap.size:=by
 obtain⟨v,r,rfl⟩:=List.exists_cons_of_ne_nil hc;have:=h 0 v rfl;exact Ll _ _ this
theorem Qk{B:Nat}{a w:World}(hb:Below B a w){b o:Nat}{cs:List Value}(hlt:b<B)(h:a.rangeAt b o cs):w.rangeAt b o cs:=fun j v hv=>by
 rw[hb.cell (p:=⟨b,o+j,none⟩) hlt];exact h j v hv
theorem QjX(w:World)(c:BitVec 32)(m:Nat)(hm:m=c.toNat)(s:BA)(hs:s.size<=9223372036854775807) :
  Calls prog 231 #[.int .u32 m,.string s] w fun e w'=>e= .returned (.int .u32 ((mor c s.data.toList).toNat:Int))∧Below w.heap.size w w':=by
 subst hm;refine(QjW w c s hs).mono ?_
 rintro e w' ⟨rfl,rfl⟩;exact⟨rfl,(Lc _ _).alloc (Lb _) _⟩
def Qj(ss:LB):List UInt8:=ss.flatMap fun s=>s.data.toList
def sumL(ss:LB):BitVec 32:=mor 0#32 (Qj ss)
theorem UB(ss:LB)(k:Nat)(hk:k<ss.length):Qj (ss.take (k+1))=Qj (ss.take k)++(ss.getD k ByteArray.empty).data.toList:=by
 have e:ss.getD k ByteArray.empty=ss[k]:=by rw[La,Ld hk];rfl
 unfold Qj;rw[LQ hk,List.flatMap_append,e];simp
theorem _root_.Go.Proofs.YtoblgjledefdbabGreatDoor.RdS.szAt{w:World}{ao:OA}{b off len:Nat}{ss:LB}(h:RdS w ao b off len ss){k:Nat}(hk:k<len):(ss.getD k ByteArray.empty).size<=9223372036854775807:=by
 have hl:k<ss.length:=by have:=h.hl;omega
 have e:ss.getD k ByteArray.empty=ss[k]:=by rw[La,Ld hl];rfl
 rw[e];exact h.sz _ (LN _)
theorem Qdq(w:World)(ao:OA)(b off len cap:Nat)(ss:LB)(hr:RdS w ao b off len ss)(hmx:len<=9223372036854775807) :
  Calls prog 218 #[.slice ao len cap] w fun e w'=>e= .returned (.int .u32 ((sumL ss).toNat:Int))∧Below w.heap.size w w':=by
 go_enter func218,ntmps218;go_wp2
 go_loopg [3,8] len (fun g x i wr=> ∃(k m:Nat),k<=len∧g=len-k∧x= .int .u32 m∧i= .int .i64 k∧Hid (m=(mor 0#32 (Qj (ss.take k))).toNat)∧Below w.heap.size w wr)
 case atStart=>go_light;exact⟨0,0,Lm _,rfl,rfl,rfl,by show _=_;rw[Ij,show Qj []=[] from rfl,QgX];rfl,Lc _ _⟩
 case round=>
  obtain⟨k,m,hk,rfl,rfl,rfl,HM,hb⟩:=hrel
  by_cases hlt:k<len
  ·have hz:(k:Int)<(len:Int):=by omega
   obtain rfl:=hr.ptr (by omega)
   have hr':=hr.next hb (Lb _);have ck:=hr'.at hlt;have hcall:=QjX wr _ m HM.out (ss.getD k ByteArray.empty) (hr.szAt hlt);rw[<-Oh,<-UB ss k (by rw[hr.hl];exact hlt)] at hcall
   have HB:Hid (∀w',Below wr.heap.size wr w'->Below w.heap.size w w'):=fun w' h=>Qa hb h
   obtain⟨y,hy⟩:∃y,y=(mor 0#32 (Qj (ss.take (k+1)))).toNat:=⟨_,rfl⟩;rw[<-hy] at hcall;have HY:Hid (y=(mor 0#32 (Qj (ss.take (k+1)))).toNat):=hy;clear hy HM hb hr hr';generalize ss.getD k ByteArray.empty=part at *
   go_wp2_with (go_at_call 231;refine hcall.mono ?_;rintro e w' ⟨rfl,hb'⟩)
   go_roundg (len-(k+1))
   case rel=>go_light;exact⟨k+1,y,by omega,rfl,rfl,by go_num,HY.out,HB.out _ hb'⟩
   case measure=>go_light;omega
  ·obtain rfl:k=len:=by omega
   have hz:¬(k:Int)<(k:Int):=by omega
   have HE:Hid (m=(sumL ss).toNat):=by
    show _=_
    rw[HM.out,sumL,Lu (by rw[hr.hl];exact Lb _)]
   clear HM;go_wp2
   go_ret
   exact⟨by rw[<-HE.out];rfl,hb⟩
end St.Rc
namespace St.Rc
def big:Nat->Nat->List UInt8
 | 0,_=>[]
 | k+1,n=>big k (n/256)++[UInt8.ofNat n]
theorem Qp(k n:Nat):(big k n).length=k:=by
 induction k generalizing n with
 | zero=>rfl
 | succ k ih=>simp[big,ih]
theorem QiF(k n:Nat):big (k+1) n=UInt8.ofNat (n/256^k)::big k n:=by
 induction k generalizing n with
 | zero=>simp[big]
 | succ k ih=>
  rw[big,ih,LY,<-Nat.pow_succ',Wl]
  rfl
def num(l:List UInt8):Nat:=l.foldl (fun n b=>n*256+b.toNat) 0
theorem OL(l:List UInt8)(b:UInt8):num (l++[b])=num l*256+b.toNat:=by simp[num]
theorem Jb{P:List UInt8->Prop}(h0:P [])(hs:∀l b,P l->P (l++[b]))(l:List UInt8):P l:=by
 have:∀l:List UInt8,P l.reverse:=by
  intro l
  induction l with
  | nil=>exact h0
  | cons b l ih=>rw[Iw];exact hs _ _ ih
 have h:=this l.reverse
 rwa [List.reverse_reverse] at h
theorem QoN(l:List UInt8):num l<256^l.length:=by
 induction l using Jb with
 | h0=>simp[num]
 | hs l b ih=>
  rw[OL,Lh,Nb,LO];have:=b.toNat_lt;omega
theorem Qj5(l:List UInt8)(k:Nat)(h:l.length<=k):num l<256^k:=LL (QoN l) (Ng (by decide) h)
theorem Qmy(k n:Nat):num (big k n)=n%256^k:=by
 induction k generalizing n with
 | zero=>simp[big,num,Nat.mod_one]
 | succ k ih=>
  rw[big,OL,ih,UInt8.toNat_ofNat',show(256:Nat)^(k+1)=256*256^k from Nat.pow_succ',Ik]
  omega
theorem QfP(k n:Nat)(h:n<256^k):num (big k n)=n:=by rw[Qmy,NJ h]
theorem Qlt(l:List UInt8):big l.length (num l)=l:=by
 induction l using Jb with
 | h0=>rfl
 | hs l b ih=>
  have hb:=b.toNat_lt;rw[Lh,Nb,big,OL,show(num l*256+b.toNat)/256=num l by omega,ih]
  congr 2
  apply UInt8.toNat_inj.1
  rw[UInt8.toNat_ofNat'];omega
theorem QiG(l:List UInt8)(k:Nat)(h:l.length=k):big k (num l)=l:=by subst h;exact Qlt l
def zer(n:Nat):List UInt8:=List.replicate n 0
theorem QF(n:Nat):(zer n).length=n:=by simp[zer]
def crc(l:List UInt8):Nat:=(mor 0#32 l).toNat
theorem Qi1(l:List UInt8):crc l<256^4:=(mor 0#32 l).isLt
def sld(l:List UInt8):List UInt8:=l++big 4 (crc l)
theorem JY(l:List UInt8):(sld l).length=l.length+4:=by simp[sld,Qp]
def pay(s:List UInt8):List UInt8:=sld (big 4 s.length++s)
def nod(p:Nat)(d:List UInt8):List UInt8:=sld (d++zer (32-d.length)++big 4 p)
structure MV where
 k:Int
 size:Nat
 items:Nat
 nodes:Nat
 chain:BitVec 32
def Ot(k a b c d:Nat):List UInt8:=[109,115,102,1]++big 1 k++zer 3++big 8 a++big 8 b++big 8 c++big 4 d++zer 24
theorem JL(k a b c d:Nat):(Ot k a b c d).length=60:=by simp[Ot,Qp,QF]
def mrk(m:MV):List UInt8:=if 1<=m.k∧m.k<=32 then sld (Ot m.k.toNat m.size m.items m.nodes m.chain.toNat) else []
theorem pay_len(s:List UInt8):(pay s).length=s.length+8:=by simp[pay,JY,Qp];omega
theorem Qdn(p:Nat)(d:List UInt8)(h:d.length<=32):(nod p d).length=40:=by simp[nod,JY,Qp,QF];omega
theorem Qmo(m:MV)(h:1<=m.k∧m.k<=32):(mrk m).length=64:=by rw[mrk,Lo h,JY,JL]
def payS(s:List UInt8):List UInt8:=if s.length<=1048576 then pay s else []
def nodS(p:Nat)(d:List UInt8):List UInt8:=if d.length<=32 then nod p d else []
def rpay(s:List UInt8):Option (List UInt8) :=
 if 4<=s.length∧num (s.take 4)<=1048576∧num (s.take 4)+8<=s.length∧pay ((s.drop 4).take (num (s.take 4)))=s.take (num (s.take 4)+8) then some ((s.drop 4).take (num (s.take 4))) else none
theorem QmL(s:List UInt8)(n:Nat)(h4:4<=s.length)(hn:num (s.take 4)=n)(h8:n+8<=s.length):pay ((s.drop 4).take n)=sld (s.take (n+4)):=by
 have e1:((s.drop 4).take n).length=n:=by simp;omega
 have e2:big 4 n=s.take 4:=by rw[<-hn,QiG _ _ (by simp;omega)]
 rw[pay,e1,e2]
 congr 1
 have:s.take (n+4)=s.take 4++(s.drop 4).take n:=by rw[Nat.add_comm,List.take_add]
 rw[this]
theorem QeY(x t:List UInt8)(h:x.length<=1048576):rpay (pay x++t)=some x:=by
 have hl:=pay_len x;have e0:(pay x++t).take 4=big 4 x.length:=by
  rw[LH (by omega),pay,sld,LP,LH (by rw[Qp];exact Lb _),Lu (by rw[Qp];exact Lb _)]
 have e1:num ((pay x++t).take 4)=x.length:=by rw[e0,QfP _ _ (by omega)]
 have e2:((pay x++t).drop 4).take x.length=x:=by
  rw[L9 (by omega),LH (by simp;omega),pay,sld,LP,L9 (by rw[Qp];exact Lb _),Nc (by rw[Qp];exact Lb _),NE,LH (Lb _),Lu (Lb _)]
 rw[rpay,e1,e2];refine Lo ⟨by simp;omega,h,by simp;omega,?_⟩
 rw[LH (by omega),Lu (by omega)]
theorem rpay_len{s x:List UInt8}(h:rpay s=some x):x.length<=1048576∧x.length+8<=s.length∧pay x=s.take (x.length+8)∧num (s.take 4)=x.length:=by
 unfold rpay at h
 split at h
 ·rename_i hc
  cases h;have e:(List.take (num (List.take 4 s)) (List.drop 4 s)).length=num (List.take 4 s):=by simp;omega
  rw[e];exact⟨hc.2.1,hc.2.2.1,hc.2.2.2,rfl⟩
 ·cases h
theorem MV.ext'{a b:MV}(h1:a.k=b.k)(h2:a.size=b.size)(h3:a.items=b.items)(h4:a.nodes=b.nodes)(h5:a.chain=b.chain):a=b:=by
 cases a;cases b;simp only at h1 h2 h3 h4 h5;subst h1 h2 h3 h4 h5;rfl
end St.Rc
namespace St
theorem Qa{w W w2:World}(h:Below w.heap.size w W)(h2:Below W.heap.size W w2):Below w.heap.size w w2:=h.trans (h2.mono h.size)
theorem bal{w W:World}(h:Below w.heap.size w W)(o:Obj):Below w.heap.size w (W.alloc o):=h.alloc h.size o
theorem Qi{B:Nat}{a w:World}(h:Below B a w)(n:Nat):Below B a (w.drewN n):=⟨h.os,h.tape,h.output,h.size,h.block⟩
structure Upo(S:Nat->Prop)(w w':World):Prop where
 os:w'.os=w.os
 tape:w'.tape=w.tape
 output:w'.output=w.output
 size:w.heap.size<=w'.heap.size
 block:∀b,b<w.heap.size -> ¬S b->w'.heap[b]? = w.heap[b]?
section
variable {S T:Nat->Prop} {w w' w1 w2:World}
theorem Upo.refl(S:Nat->Prop)(w:World):Upo S w w:=⟨rfl,rfl,rfl,Lb _,fun _ _ _=>rfl⟩
theorem Upo.of(h:Below w.heap.size w w'):Upo S w w':=⟨h.os,h.tape,h.output,h.size,fun b hb _=>h.block b hb⟩
theorem Upo.trans(h:Upo S w w1)(h2:Upo T w1 w2)(hT:∀b,b<w.heap.size->T b->S b):Upo S w w2 :=
 ⟨h2.os.trans h.os,h2.tape.trans h.tape,h2.output.trans h.output,Lt h.size h2.size,fun b hb hs=>(h2.block b (LL hb h.size) fun ht=>hs (hT b hb ht)).trans (h.block b hb hs)⟩
theorem Upo.mono(h:Upo S w w1)(hT:∀b,b<w.heap.size->S b->T b):Upo T w w1:=⟨h.os,h.tape,h.output,h.size,fun b hb hs=>h.block b hb fun q=>hs (hT b hb q)⟩
theorem Upo.next(h:Upo S w w1)(h2:Below w1.heap.size w1 w2):Upo S w w2:=h.trans (Upo.of (S:=S) h2) fun _ _ q=>q
theorem Upo.below(h:Upo S w w'){B:Nat}(hB:B<=w.heap.size)(hS:∀b,S b->B<=b):Below B w w' :=
 ⟨h.os,h.tape,h.output,h.size,fun b hb=>h.block b (by omega) fun hs=>by have:=hS b hs;omega⟩
theorem Upo.grown{o:Option Nat}(h:w.grownBy w' o)(hS:∀b,o=some b->S b):Upo S w w' :=
 ⟨h.os,h.tape,h.output,h.size,fun b hb hs=>h.block b hb fun e=>hs (hS b e.symm)⟩
theorem Upo.set(h:Upo S w w')(b i:Nat)(v:Value)(hb:S b∨w.heap.size<=b):Upo S w (w'.setCell ⟨b,i,none⟩ v):=by
 refine⟨h.os,h.tape,h.output,by simpa using h.size,fun c hc hs=> ?_⟩
 rw[<-h.block c hc hs];exact Below.heap_setCell _ _ _ _ (by show c≠b;rintro rfl;rcases hb with hb|hb;exact hs hb;omega)
theorem Upo.alloc(h:Upo S w w')(o:Obj):Upo S w (w'.alloc o):=h.next (bal (Lc _ _) o)
theorem Upo.drew(h:Upo S w w'):Upo S w w'.drew:=⟨h.os,h.tape,h.output,h.size,h.block⟩
end
theorem U7(w:World)(o:Obj):(w.alloc o).heap[w.heap.size]? = some o:=(MapKept.heap_alloc w o).1
theorem new0(w:World)(o p:Obj):((w.alloc o).alloc p).heap[w.heap.size]? = some o:=((MapKept.heap_alloc (w.alloc o) p).2 _ (by simp)).trans (U7 w o)
theorem new2(w:World)(o p:Obj):((w.alloc o).alloc p).heap[w.heap.size+1]? = some p:=by
 have:=U7 (w.alloc o) p
 simpa using this
theorem QdM{W:World}{q:Nat}{x0 x1 x2:Value}{T:TypeId}(h:W.heap[q]? = some (.cells #[x0,x1,x2] T (0,0)))(a b c:Value) :
  (((W.setCell ⟨q,0,none⟩ a).setCell ⟨q,1,none⟩ b).setCell ⟨q,2,none⟩ c).heap[q]? = some (.cells #[a,b,c] T (0,0)):=by
 have h1:(W.setCell ⟨q,0,none⟩ a).heap[q]? = some (.cells #[a,x1,x2] T (0,0)):=Ln W q 0 _ _ a h;have h2:((W.setCell ⟨q,0,none⟩ a).setCell ⟨q,1,none⟩ b).heap[q]? = some (.cells #[a,b,x2] T (0,0)):=Ln _ q 1 _ _ b h1;exact Ln _ q 2 _ _ c h2
theorem QP{W:World}{q:Nat}{a b c:Value}{T:TypeId}(h:W.heap[q]? = some (.cells #[a,b,c] T (0,0))):W.cell? ⟨q,0,none⟩=some a∧W.cell? ⟨q,1,none⟩=some b∧W.cell? ⟨q,2,none⟩=some c :=
 ⟨by rw[cell_of_row W q 0 _ _ (0,0) h];rfl,by rw[cell_of_row W q 1 _ _ (0,0) h];rfl,by rw[cell_of_row W q 2 _ _ (0,0) h];rfl⟩
def hv(v:Value):Option (DataW Value×List MemPlace):=some (.held v,[])
theorem Tryz.keyS:Maps.Keyed prog 9:=Maps.string_keyed underlying9
theorem keyS{s:BA}(hs:s.size<=maxLen):keyOf prog 9 (.string s)=some (.string s.data.toList):=WideMaps.keyOf_string_mk underlying9 hs
def Mv(w:World)(m:Nat)(F:List UInt8->Option Value):Prop :=
 ∃D:DataW Value,w.ownsMap prog 9 hv m (Maps.size D) D ∧ ∀s,(F s=none->Maps.has D (.string s)=false) ∧ ∀v,F s=some v -> ∀z,D.atKey (.string s) z= .held v
section
variable {w W:World} {m:Nat} {F G:List UInt8->Option Value}
theorem Mv.lt(h:Mv w m F):m<w.heap.size:=by
 obtain⟨D,h1,_⟩:=h;exact h1.lt
theorem Mv.same(h:Mv w m F)(hb:W.heap[m]? = w.heap[m]?):Mv W m F:=by
 obtain⟨D,⟨es,c,h1,h2⟩,h3⟩:=h;exact⟨D,⟨es,c,hb.trans h1,h2⟩,h3⟩
theorem QoG(w:World):Mv (w.alloc (.map #[] 0)) w.heap.size (fun _=>none) :=
 ⟨.map [],World.ownsMap_made _ _ _ _,fun s=>⟨fun _=>rfl,fun v h=>by cases h⟩⟩
theorem Mv.has(h:Mv w m F):∃D:DataW Value,w.ownsMap prog 9 hv m (Maps.size D) D∧(∀s,Maps.has D (.string s)=(F s).isSome) ∧ ∀s v,F s=some v -> ∀z,D.atKey (.string s) z= .held v:=by
 obtain⟨D,h1,h2⟩:=h;refine⟨D,h1,fun s=> ?_,fun s=>(h2 s).2⟩
 cases e:F s with
 | none=>exact(h2 s).1 e
 | some v=>exact Maps.has_true_of_atKey ((h2 s).2 v e)
theorem QnJ{D:DataW Value}{n:Nat}(h:w.ownsMap prog 9 hv m n D)(h2:∀s,(F s=none->Maps.has D (.string s)=false) ∧ ∀v,F s=some v -> ∀z,D.atKey (.string s) z= .held v):Mv w m F:=by
 obtain⟨es,c,g1,g2,g3,rfl⟩:=h;refine⟨_,⟨es,c,g1,g2,?_,rfl⟩,h2⟩
 simp only[Maps.size,length_read];exact Lb _
theorem Mv.look(h:Mv w m F){t e:TypeId}(ht:prog.underlying t=some (.map 9 e)){z:Value}(hz:(zeroValue e).run prog w= .ok z w){s:BA}(hs:s.size<=maxLen) :
  (Instr.lookup t (.map (some m)) (.string s) false).run prog w= .ok ((F s.data.toList).getD z) w:=by
 obtain⟨D,h1,h2⟩:=h;obtain⟨v,ps,hr,hv'⟩:=h1.lookup Tryz.keyS ht hz (zd := .held z) (zp:=[]) rfl (keyS hs);rw[hr];simp only[hv,Option.some.injEq,Prod.mk.injEq] at hv'
 cases e1:F s.data.toList with
 | none=>
  rw[Maps.atKey_of_not_has ((h2 _).1 e1)] at hv';have e2:v=z:=by injection hv'.1
  rw[e2,Option.getD_none]
 | some u=>
  rw[(h2 _).2 u e1] at hv';have e2:v=u:=by injection hv'.1
  rw[e2,Option.getD_some]
def updF(F:List UInt8->Option Value)(s:List UInt8)(o:Option Value):List UInt8->Option Value:=fun t=>if t=s then o else F t
theorem Mv.perm(h:Mv w m F){N:List (List UInt8)}(hn:N.Nodup)(hN:∀s,s∈N↔(F s).isSome=true):∃D:DataW Value,w.ownsMap prog 9 hv m N.length D∧Maps.size D=N.length∧N.Perm (strKeys D):=by
 obtain⟨D,h1,h3,h2⟩:=h.has;obtain⟨es,rfl,hpw,_⟩:=h1.entries Tryz.keyS;obtain⟨es',hD',hko⟩:=h1.keysOf;obtain rfl:es=es':=by simpa using hD'
 have hp:=perm_strKeys hpw (fun p hp=>by obtain⟨v,hv⟩:=hko p hp;obtain⟨x,_,hx,_⟩:=Maps.keyOf_str underlying9 hv;exact⟨x,hx⟩) hn (fun x=>by rw[hN,h3])
 have hl:N.length=Maps.size (.map es:DataW Value):=by rw[hp.length_eq];simp[strKeys,Maps.size]
 exact⟨_,by rw[hl];exact h1,hl.symm,hp⟩
theorem Mv.write(h:Mv w m F){t e:TypeId}(ht:prog.underlying t=some (.map 9 e)){N:List (List UInt8)}(hn:N.Nodup)(hN:∀s,s∈N↔(F s).isSome=true)(hl:N.length<maxLen){s:BA}(hs:s.size<=maxLen)(v:Value) :
  ∃w',(Instr.mapUpdate t (.map (some m)) (.string s) v).run prog w= .ok () w'∧Mv w' m (updF F s.data.toList (some v))∧w.grownBy w' (some m):=by
 obtain⟨D0,_,e0,hp⟩:=h.perm hn hN;obtain⟨D,h1,h3,h2⟩:=h.has;have hz:Maps.size D<maxLen:=by
  obtain⟨es,hD,hpw,_⟩:=h1.entries Tryz.keyS;obtain⟨es',hD',hko⟩:=h1.keysOf;obtain rfl:es=es':=by rw[hD] at hD';simpa using hD'
  subst hD;have hp:=perm_strKeys hpw (fun p hp=>by obtain⟨v,hv⟩:=hko p hp;obtain⟨x,_,hx,_⟩:=Maps.keyOf_str underlying9 hv;exact⟨x,hx⟩) hn (fun x=>by rw[hN,h3])
  have:Maps.size (.map es:DataW Value)=N.length:=by rw[hp.length_eq];simp[strKeys,Maps.size]
  omega
 obtain⟨w',hr,g1,g2⟩:=h1.update (val:=v) (d := .held v) (ps:=[]) Tryz.keyS ht hz (keyS hs) rfl;refine⟨w',hr,QnJ g1 fun u=> ?_,g2⟩
 by_cases e:u=s.data.toList
 ·subst e;refine⟨fun q=>by simp[updF] at q,fun x hx z=> ?_⟩
  simp[updF] at hx;subst hx;exact Maps.atKey_put_same h1.isMap (by trivial) _ _
 ·have e':(Lit.string u) ≠ .string s.data.toList:=fun q=>e (by injection q)
  refine⟨fun q=> ?_,fun x hx z=> ?_⟩
  ·rw[Maps.has_put_other e',h3];simp only[updF,if_neg e] at q;rw[q];rfl
  ·rw[Maps.atKey_put_other e'];simp only[updF,if_neg e] at hx;exact h2 u x hx z
theorem Mv.drop(h:Mv w m F){t e:TypeId}(ht:prog.underlying t=some (.map 9 e)){s:BA}(hs:s.size<=maxLen)(ty:TypeId) :
  ∃w',(Builtin.delete_ #[t,9] ty #[.map (some m),.string s]).run prog w= .ok (.tuple #[]) w'∧Mv w' m (updF F s.data.toList none)∧w.grownBy w' (some m):=by
 obtain⟨D,h1,h3,h2⟩:=h.has;obtain⟨w',hr,g1,g2⟩:=h1.drop Tryz.keyS ht (keyS hs) ty;refine⟨w',hr,QnJ g1 fun u=> ?_,g2.grown⟩
 by_cases e:u=s.data.toList
 ·subst e;refine⟨fun _=>Maps.has_del_same,fun x hx z=> ?_⟩
  simp[updF] at hx
 ·have e':(Lit.string u) ≠ .string s.data.toList:=fun q=>e (by injection q)
  refine⟨fun q=> ?_,fun x hx z=> ?_⟩
  ·rw[Maps.has_del_other e',h3];simp only[updF,if_neg e] at q;rw[q];rfl
  ·rw[Maps.atKey_del_other e'];simp only[updF,if_neg e] at hx;exact h2 u x hx z
end
end St
namespace St
structure FV where
 now:List UInt8
 syn:List UInt8
def fz:FV:=⟨[],[]⟩
instance:Inhabited FV:=⟨fz⟩
def FV.gone(f:FV):Bool:=f.now.isEmpty && f.syn.isEmpty
theorem Qbp{f:FV} : f.gone=true↔f=fz:=by
 obtain⟨a,b⟩:=f;simp[FV.gone,fz,List.isEmpty_iff]
theorem Jz{f:FV} : f.gone=true↔f.now.length=0∧f.syn.length=0:=by
 obtain⟨a,b⟩:=f;simp[FV.gone,List.isEmpty_iff]
def Qh:List (List UInt8×FV)->List UInt8->FV
 | [],_=>fz
 | (t,f)::r,s=>if t=s then f else Qh r s
def Yi:List (List UInt8×FV)->List UInt8->FV->List (List UInt8×FV)
 | [],s,f=>if f.gone then [] else [(s,f)]
 | (t,g)::r,s,f=>if t=s then (if f.gone then r else (s,f)::r) else if s<t then (if f.gone then (t,g)::r else (s,f)::(t,g)::r) else (t,g)::Yi r s f
def Ord(L:List (List UInt8×FV)):Prop:=L.Pairwise (fun a b=>a.1<b.1) ∧ ∀p∈L,p.2.gone=false
theorem Un:Ord []:=⟨.nil,by simp⟩
theorem QpG{s t:List UInt8}(h1:¬t=s)(h2:¬s<t):t<s:=by
 rcases Decidable.em (t<s) with h|h
 ·exact h
 ·exact absurd (List.le_antisymm (List.not_lt.1 h2) (List.not_lt.1 h)) h1
theorem YB{L:List (List UInt8×FV)}{s:List UInt8}(h:s ∉ L.map (·.1)):Qh L s=fz:=by
 induction L with
 | nil=>rfl
 | cons p r ih=>
  obtain⟨t,g⟩:=p;simp only[List.map_cons,List.mem_cons,not_or] at h;rw[Qh,Le (fun e=>h.1 e.symm)]
  exact ih h.2
theorem Qji{L:List (List UInt8×FV)}(ho:Ord L){s:List UInt8}{f:FV}(h:(s,f)∈L):Qh L s=f:=by
 induction L with
 | nil=>simp at h
 | cons p r ih=>
  obtain⟨t,g⟩:=p;obtain⟨h1,h2⟩:=ho;obtain⟨h3,h4⟩:=List.pairwise_cons.1 h1;rw[Qh]
  rcases List.mem_cons.1 h with e|e
  ·injection e with e1 e2
   rw[Lo e1.symm,e2]
  ·have:=h3 _ e;rw[Le (fun q=>by simp only[q] at this;exact absurd this (Ii _))]
   exact ih ⟨h4,fun p hp=>h2 p (LR _ hp)⟩ e
theorem QgE{L:List (List UInt8×FV)}{s:List UInt8}(h:s∈L.map (·.1)):(s,Qh L s)∈L:=by
 induction L with
 | nil=>simp at h
 | cons p r ih=>
  obtain⟨t,g⟩:=p;rw[Qh]
  by_cases e:t=s
  ·rw[Lo e,e];simp
  ·rw[Le e];simp only[List.map_cons,List.mem_cons] at h
   rcases h with h|h
   ·exact absurd h.symm e
   ·exact LR _ (ih h)
theorem Qag{L:List (List UInt8×FV)}(ho:Ord L){s:List UInt8} : (Qh L s).gone=true↔s ∉ L.map (·.1):=by
 constructor
 ·intro h hs;have:=ho.2 _ (QgE hs);rw[h] at this;cases this
 ·intro h;rw[YB h];rfl
theorem Qem{L:List (List UInt8×FV)}{s:List UInt8}{f:FV}{p:List UInt8×FV}(h:p∈Yi L s f):p∈L∨(p=(s,f)∧f.gone=false):=by
 induction L with
 | nil=>
  rw[Yi] at h
  split at h
  ·simp at h
  ·rename_i hg
   exact .inr ⟨by simpa using h,by simpa using hg⟩
 | cons q r ih=>
  obtain⟨t,g⟩:=q;rw[Yi] at h
  split at h
  ·split at h
   ·exact .inl (LR _ h)
   ·rename_i hg
    rcases List.mem_cons.1 h with h|h
    ·exact .inr ⟨h,by simpa using hg⟩
    ·exact .inl (LR _ h)
  ·split at h
   ·split at h
    ·exact .inl h
    ·rename_i hg
     rcases List.mem_cons.1 h with h|h
     ·exact .inr ⟨h,by simpa using hg⟩
     ·exact .inl h
   ·rcases List.mem_cons.1 h with h|h
    ·exact .inl (by rw[h];simp)
    ·rcases ih h with h|h
     ·exact .inl (LR _ h)
     ·exact .inr h
theorem YX{L:List (List UInt8×FV)}(ho:Ord L)(s:List UInt8)(f:FV):Ord (Yi L s f):=by
 refine⟨?_,fun p hp=> ?_⟩
 ·induction L with
  | nil=>rw[Yi];split <;> simp
  | cons q r ih=>
   obtain⟨t,g⟩:=q;obtain⟨h1,h2⟩:=ho;obtain⟨h3,h4⟩:=List.pairwise_cons.1 h1;have hr:Ord r:=⟨h4,fun p hp=>h2 p (LR _ hp)⟩
   rw[Yi]
   split
   ·rename_i e
    split
    ·exact h4
    ·exact List.pairwise_cons.2 ⟨fun p hp=>by have:=h3 p hp;rw[e] at this;exact this,h4⟩
   ·rename_i e
    split
    ·rename_i hlt
     split
     ·exact h1
     ·exact List.pairwise_cons.2 ⟨fun p hp=>by
       rcases List.mem_cons.1 hp with rfl|hp
       ·exact hlt
       ·exact Wk hlt (h3 p hp),h1⟩
    ·rename_i hlt
     refine List.pairwise_cons.2 ⟨fun p hp=> ?_,ih hr⟩
     rcases Qem hp with hp|⟨rfl,_⟩
     ·exact h3 p hp
     ·exact QpG e hlt
 ·rcases Qem hp with hp|⟨rfl,hg⟩
  ·exact ho.2 p hp
  ·exact hg
theorem QY{L:List (List UInt8×FV)}(ho:Ord L)(s:List UInt8)(f:FV)(t:List UInt8):Qh (Yi L s f) t=if t=s then f else Qh L t:=by
 induction L with
 | nil=>
  rw[Yi]
  split
  ·rename_i hg
   rw[Qbp.1 hg];simp[Qh]
  ·simp only[Qh]
   by_cases e:t=s
   ·rw[Lo e,Lo e.symm]
   ·rw[Le e,Le (fun q=>e q.symm)]
 | cons q r ih=>
  obtain⟨u,g⟩:=q;obtain⟨h1,h2⟩:=ho;obtain⟨h3,h4⟩:=List.pairwise_cons.1 h1;have hr:Ord r:=⟨h4,fun p hp=>h2 p (LR _ hp)⟩
  have low:∀ {x:List UInt8},¬u<x->x ∉ r.map (·.1):=fun {x} hx hm=>by
   obtain⟨p,hp,rfl⟩:=List.mem_map.1 hm;exact hx (h3 p hp)
  rw[Yi]
  split
  ·rename_i e
   subst e
   split
   ·rename_i hg
    rw[Qbp.1 hg]
    by_cases e:t=u
    ·rw[Lo e,YB (by rw[e];exact low (Ii _))]
    ·rw[Le e,Qh,Le (fun q=>e q.symm)]
   ·simp only[Qh]
    by_cases e:t=u
    ·rw[Lo e,Lo e.symm]
    ·rw[Le e,Le (fun q=>e q.symm)];simp only[if_neg (fun q:u=t=>e q.symm)]
  ·rename_i e
   split
   ·rename_i hlt
    have hno:s ∉ ((u,g)::r).map (·.1):=by
     simp only[List.map_cons,List.mem_cons,not_or];exact⟨fun q=>e q.symm,low (fun h=>absurd (Wk hlt h) (Ii _))⟩
    split
    ·rename_i hg
     rw[Qbp.1 hg]
     by_cases e:t=s
     ·rw[Lo e,e,YB hno]
     ·rw[Le e]
    ·rw[Qh]
     by_cases e:t=s
     ·rw[Lo e,Lo e.symm]
     ·rw[Le e,Le (fun q=>e q.symm)]
   ·rw[Qh,ih hr,Qh]
    by_cases e2:u=t
    ·rw[Lo e2,Le (fun q=>e (e2.trans q)),Lo e2]
    ·rw[Le e2,Le e2]
theorem QmF{L M:List (List UInt8×FV)}(hL:Ord L)(hM:Ord M)(h:∀s,Qh L s=Qh M s):L=M:=by
 have side:∀ {A B:List (List UInt8×FV)},Ord A->Ord B->(∀s,Qh A s=Qh B s) -> ∀p∈A,p∈B:=fun {A B} hA hB hh p hp=>by
  obtain⟨s,f⟩:=p;have e:=Qji hA hp;have hin:s∈B.map (·.1):=by
   rcases Decidable.em (s∈B.map (·.1)) with h|h
   ·exact h
   ·have:=(Qag hB).2 h;rw[<-hh,e] at this;have q:=hA.2 _ hp;simp only[this] at q;cases q
  have:=QgE hin;rw[<-hh,e] at this;exact this
 have nd:∀ {A:List (List UInt8×FV)},Ord A->A.Nodup:=fun {A} hA=>hA.1.imp fun {a b} hlt e=>by rw[e] at hlt;exact Ii _ hlt
 refine List.Perm.eq_of_pairwise (le:=fun a b=>a.1<b.1) (fun a b _ _ h1 h2=>absurd (Wk h1 h2) (Ii _)) hL.1 hM.1 ((List.perm_ext_iff_of_nodup (nd hL) (nd hM)).2 fun p=>⟨side hL hM h p,side hM hL (fun s=>(h s).symm) p⟩)
end St
namespace St
theorem Qe(s:BA):s.data.toList.length=s.size:=Ih
def cY(l:List UInt8):List Value:=l.map fun b=>Value.int .u8 b.toNat
theorem Q2(l:List UInt8):(cY l).length=l.length:=by simp[cY]
theorem Qad(l m:List UInt8):cY (l++m)=cY l++cY m:=by simp[cY]
theorem Qfo(l:List UInt8):∀u∈cY l,u.oneCell'=true:=fun u hu=>by obtain⟨_,_,rfl⟩:=List.mem_map.1 hu;rfl
theorem Tryz.infoY:(prog.info? 5).map (fun i=>(i.zero,i.size,i.bytes))=some (some (.int .u8 0),1,1):=by kernel_rfl
def Ty(w:World)(g:Nat)(T:TypeId):Prop := ∃cs fr,w.heap[g]? = some (.cells cs T fr)
theorem Ty.lt{w:World}{g:Nat}{T:TypeId}(h:Ty w g T):g<w.heap.size:=by
 obtain⟨cs,fr,h⟩:=h;exact(Array.getElem?_eq_some_iff.1 h).1
theorem Ty.same{w W:World}{g:Nat}{T:TypeId}(h:Ty w g T)(hb:W.heap[g]? = w.heap[g]?):Ty W g T:=by
 obtain⟨cs,fr,h⟩:=h;exact⟨cs,fr,hb.trans h⟩
theorem Ty.set{w:World}{g:Nat}{T:TypeId}(h:Ty w g T)(b i:Nat)(v:Value):Ty (w.setCell ⟨b,i,none⟩ v) g T:=by
 by_cases e:g=b
 ·subst e;obtain⟨cs,fr,h⟩:=h;exact⟨cs.setIfInBounds i v,fr,by simp[World.setCell,Array.getElem?_modify,h]⟩
 ·exact h.same (Below.heap_setCell _ _ _ _ e)
theorem Ty.sets{g:Nat}{T:TypeId}(b:Nat):∀(vs:List Value) (o:Nat) (w:World),Ty w g T->Ty (w.setCells b o vs) g T
 | [],_,_,h=>h
 | v::r,o,_,h=>Ty.sets b r (o+1) _ (h.set b o v)
theorem Ty.ne{w:World}{g k:Nat}{T U:TypeId}(h:Ty w g T)(h2:Ty w k U)(hT:T≠U):g≠k:=by
 rintro rfl;obtain⟨_,_,h⟩:=h;obtain⟨_,_,h2⟩:=h2;rw[h] at h2;injection h2 with h2
 injection h2 with _ h2 _
 exact hT h2
theorem O7{S:Nat->Prop}{w:World}{g:Nat}(hg:S g∨w.heap.size<=g):∀(vs:List Value) (o:Nat) (w':World),Upo S w w'->Upo S w (w'.setCells g o vs)
 | [],_,_,h=>h
 | v::r,o,_,h=>O7 hg r (o+1) _ (h.set g o v hg)
structure Rw(w:World)(ao:OA)(g cap:Nat)(l:List UInt8):Prop where
 ptr:ao=none∨ao=Zp g
 nil:ao=none->cap=0
 ty:ao=Zp g->Ty w g 5
 le:l.length<=cap
 rng:ao=Zp g->w.rangeAt g 0 (cY l)
 thr:ao=Zp g->w.there g 0 cap
section
variable {w W:World} {ao:OA} {g cap:Nat} {l:List UInt8}
theorem Qf6(w:World)(g:Nat):Rw w none g 0 []:=⟨.inl rfl,fun _=>rfl,fun h=>(by cases h),Lb _,fun h=>(by cases h),fun h=>by cases h⟩
theorem Rw.empty(h:Rw w ao g cap l)(e:ao=none):l=[]:=List.length_eq_zero_iff.1 (by have:=h.nil e;have:=h.le;omega)
theorem Rw.sm(h:Rw w ao g cap l)(h0:0<l.length):ao=Zp g:=by
 rcases h.ptr with e|e
 ·rw[h.empty e] at h0;simp at h0
 ·exact e
theorem QfZ{b o:Nat}{cs:List Value}(h:w.rangeAt b o cs)(hb:W.heap[b]? = w.heap[b]?):W.rangeAt b o cs:=fun j v hv=>by
 rw[Lq (a:=⟨b,o+j,none⟩) hb];exact h j v hv
theorem Qgd{b o n:Nat}(h:w.there b o n)(hb:W.heap[b]? = w.heap[b]?):W.there b o n:=fun j hj=>by
 rw[Lq (a:=⟨b,o+j,none⟩) hb,N7 (a:=⟨b,o+j,none⟩) hb];exact h j hj
theorem Rw.same(h:Rw w ao g cap l)(hb:ao=Zp g->W.heap[g]? = w.heap[g]?):Rw W ao g cap l :=
 ⟨h.ptr,h.nil,fun e=>(h.ty e).same (hb e),h.le,fun e=>QfZ (h.rng e) (hb e),fun e=>Qgd (h.thr e) (hb e)⟩
theorem Rw.next{B:Nat}(h:Rw w ao g cap l)(hb:Below B w W)(hB:w.heap.size<=B):Rw W ao g cap l :=
 h.same fun e=>hb.block g (by have:=(h.ty e).lt;omega)
theorem Rw.off(h:Rw w ao g cap l){p:Nat}(i:Nat)(v:Value)(hp:ao=Zp g->g≠p):Rw (w.setCell ⟨p,i,none⟩ v) ao g cap l :=
 h.same fun e=>Below.heap_setCell _ _ _ _ (hp e)
theorem Rw.cut(h:Rw w ao g cap l){k:Nat}(hk:k<=l.length):Rw w ao g cap (l.take k) :=
 ⟨h.ptr,h.nil,h.ty,by have:=h.le;simp;omega,fun e j v hv=>h.rng e j v (by
  rw[cY,N8] at hv;rw[Nf] at hv
  split at hv
  ·exact hv
  ·cases hv),h.thr⟩
theorem Rw.at(h:Rw w ao g cap l){j:Nat}(hj:j<l.length):w.cell? ⟨g,j,none⟩=some (.int .u8 ((l.getD j 0).toNat:Int)):=by
 have:=h.rng (h.sm (by omega)) j (.int .u8 ((l.getD j 0).toNat:Int)) (by simp[cY,List.getElem?_eq_getElem hj,List.getD_eq_getElem?_getD])
 rwa [Lp] at this
theorem JW{b o:Nat}{cs:List Value}(h:w.rangeAt b o cs)(k:Nat)(vs:List Value)(hk:k+vs.length<=cs.length)(ht:w.there b (o+k) vs.length) :
  (w.setCells b (o+k) vs).rangeAt b o (cs.take k++vs++cs.drop (k+vs.length)):=fun j u hu=>by
 have hlen:(cs.take k).length=k:=by simp;omega
 by_cases hj:j<k
 ·rw[LP,LG (by omega),Nf,Lo hj] at hu
  rw[World.cell?_setCells_out b vs (o+k) w ⟨b,o+j,none⟩ (fun _ _=>Or.inl (by show o+j<o+k;omega))]
  exact h j u hu
 ·by_cases hj2:j<k+vs.length
  ·rw[LG (by simp;omega),LW (by omega),hlen] at hu
   have:=World.cell?_setCells_in b vs (o+k) w (fun i hi=>(ht i hi).1) (j-k) (by omega)
   rw[show o+k+(j-k)=o+j by omega] at this
   rw[this,<-hu,Ld (by omega)]
  ·rw[LW (by simp;omega)] at hu
   rw[Nx,show k+vs.length+(j-(cs.take k++vs).length)=j by simp;omega] at hu
   rw[World.cell?_setCells_out b vs (o+k) w ⟨b,o+j,none⟩ (fun _ _=>Or.inr (by show o+k+vs.length<=o+j;omega))]
   exact h j u hu
theorem Rw.over(h:Rw w ao g cap l)(k:Nat)(t:List UInt8)(hk:k+t.length<=l.length):Rw (w.setCells g k (cY t)) ao g cap (l.take k++t++l.drop (k+t.length)):=by
 refine⟨h.ptr,h.nil,fun e=>Ty.sets g _ _ _ (h.ty e),by have:=h.le;simp;omega,fun e=> ?_,fun e=>World.there_setCells (h.thr e) _ _ _⟩
 have:=JW (h.rng e) k (cY t) (by rw[Q2,Q2];exact hk) (fun j hj=>by
  rw[Lp];have:=h.thr e (k+j) (by rw[Q2] at hj;have:=h.le;omega)
  rwa [Lp] at this)
 rw[Lp] at this;rw[Qad,Qad]
 simpa [cY,List.map_take,List.map_drop] using this
theorem Qb6(W:World)(ty:TypeId){ax:OA}{k n c:Nat}{t:BA}(hn:k+n<=l.length)(h:Rw W ao g cap l)(hx:ax=ao∨ax=ao.map (·.add k))(h0:ax=ao->k=0∨n=0)(hc:Nat.min t.size n=c)(m:Nat) :
  (Builtin.copy_ #[83,9] ty #[.slice ax n m,.string t]).run prog W= .ok (goInt c) (W.setCells g k (cY (t.data.toList.take c))):=by
 have hs:∀W,(Go.sizeOf 5).run prog W= .ok 1 W:=fun W=>by kernel_rfl
 have hl:(cY (t.data.toList.take c)).length=c:=by
  rw[Q2,Lv,Qe];have:c<=t.size:=by rw[<-hc];exact I4 _ _
  omega
 have he:List.take c (List.map (fun x:UInt8=>Value.int IntKind.u8 (x.toNat:Int)) t.data.toList)=cY (t.data.toList.take c):=by rw[cY,N8]
 have hcn:c<=n:=by rw[<-hc];exact Wo _ _
 by_cases z:c=0
 ·subst z;have e0:cY (t.data.toList.take 0)=[]:=by simp[cY]
  rw[e0]
  cases ax with
  | none=>simp[Builtin.copy_,run_underlying underlying83,Builtin.lenOf,Builtin.firstCells,hs,hc];rfl
  | some a=>simp[Builtin.copy_,run_underlying underlying83,Builtin.lenOf,Builtin.firstCells,hs,hc];rfl
 ·have ea:=h.sm (by omega)
  have eax:ax=some ⟨g,k,none⟩:=by
   rcases hx with e|e
   ·rcases h0 e with q|q
    ·rw[e,ea,q]
    ·omega
   ·rw[e,ea,IL,Addr.add_mid,Lp]
  have hth:=h.thr ea;have hst:=run_storeCells_cells (P:=prog) g k (cY (t.data.toList.take c)) 0 W (by rw[hl];intro j hj;have:=hth (k+j) (by have:=h.le;omega);simpa using this.1) (by rw[hl];intro j hj;have:=hth (k+j) (by have:=h.le;omega);simpa using this.2) (Qfo _)
  simp only[Nat.add_zero] at hst;rw[eax];simp[Builtin.copy_,run_underlying underlying83,Builtin.lenOf,Builtin.firstCells,hs,hc];rw[he,hst]
  rfl
theorem Qm(w:World)(cs:Array Value)(t:TypeId)(n:Nat)(hn:n<=cs.size):(w.alloc (.cells cs t)).there w.heap.size 0 n:=fun j hj=>by
 refine⟨?_,Wr _ _ _ _⟩
 rw[Nz,Lp,Nq (by omega)];rfl
theorem Rw.app(h:Rw w ao g cap l)(tx ty:TypeId)(x:Value)(t:List UInt8)(hs:Src prog 1 tx x t.length (cY t) w)(hl:l.length+t.length<=140737488355328) :
  ∃ao' g' cap' w',(Builtin.append_ #[83,tx] ty #[.slice ao l.length cap,x]).run prog w= .ok (.slice ao' (l++t).length cap') w'∧Rw w' ao' g' cap' (l++t)∧Upo (fun b=>ao=Zp g∧b=g) w w'∧((ao'=ao∧g'=g)∨(g'=w.heap.size∧g'<w'.heap.size))∧(ao=Zp g->Ty w' g 5):=by
 obtain⟨i0,hi,hz0,hz1,hz2⟩:=info_parts Tryz.infoY
 by_cases hroom:l.length+t.length<=cap
 ·rcases h.ptr with e|e
  ·have hc:=h.nil e;have el:=h.empty e;have et:t=[]:=List.length_eq_zero_iff.1 (by omega)
   subst et el hc e;refine⟨none,g,0,w,?_,Qf6 w g,Upo.refl _ _,.inl ⟨rfl,rfl⟩,fun e=>(by cases e)⟩
   have hk:=hs.kind;have hs2:=hs.cells;simp only[List.length_nil] at hs2
   rcases hk with ⟨e',hk⟩|hk <;> simp[Builtin.append_,run_underlying underlying83,run_underlying hk,Go.sizeOf,typeInfo,hi,hs.len,hs2,hz1]
  ·subst e;have hr:=run_append_room_src (P:=prog) w 83 tx ty 5 i0 underlying83 hi g 0 l.length cap x t.length (cY t) (by rw[hz1];exact hs) hroom
    (fun j hj=>by rw[hz1,Nr,NR];rw[Q2] at hj;exact(h.thr rfl (l.length+j) (by omega)).1) (fun j hj=>by rw[hz1,Nr,NR];rw[Q2] at hj;exact(h.thr rfl (l.length+j) (by omega)).2)
   rw[hz1,Nr,Lp] at hr;refine⟨_,g,cap,_,by rw[hr,Lh],⟨.inr rfl,fun e=>(by cases e),fun _=>Ty.sets g _ _ _ (h.ty rfl),by rw[Lh];exact hroom,fun _=> ?_,fun _=>World.there_setCells (h.thr rfl) _ _ _⟩,O7 (.inl ⟨rfl,rfl⟩) _ _ _ (Upo.refl _ _),.inl ⟨rfl,rfl⟩,fun _=>Ty.sets g _ _ _ (h.ty rfl)⟩
   rw[Qad];intro j u hu
   by_cases hj:j<l.length
   ·rw[LG (by rw[Q2];exact hj)] at hu
    exact World.rangeAt_setCells_apart (h.rng rfl) g l.length (cY t) (.inr (.inl (by rw[Q2,Lp];exact Lb _))) j u hu
   ·rw[LW (by rw[Q2];omega),Q2] at hu
    have:=World.rangeAt_setCells_same w g l.length (cY t) (fun j hj=>by have:=h.thr rfl (l.length+j) (by rw[Q2] at hj;omega);rwa [Lp] at this) (j-l.length) u hu
    rwa [show l.length+(j-l.length)=0+j by omega] at this
 ·have hold:(Builtin.firstCells i0.size l.length (.slice ao l.length cap)).run prog w.drew= .ok (cY l).toArray w.drew:=by
   rcases h.ptr with e|e
   ·rw[e,h.empty e];exact run_firstCells_none w.drew _ 0 0 cap
   ·rw[e,hz1];exact run_firstCells_some w.drew 1 l.length _ l.length cap (cY l) (by rw[Q2,Nr]) (fun j u hu=>by rw[Addr.add_mid];exact h.rng e j u hu)
  have hr:=run_append_grow_src (P:=prog) w 83 tx ty 5 i0 (.int .u8 0) underlying83 hi hz0 ao l.length cap (cY l) hold x t.length (cY t) (by rw[hz1];exact hs) (by omega) (by omega) (by rw[hz2];exact growslice_fits (by omega) (by omega))
  have hge:=grownCap_ge w (l.length+t.length) cap 5;obtain⟨cc,hcc⟩:∃cc,grownCap w (l.length+t.length) cap 5=cc:=⟨_,rfl⟩;rw[hcc] at hr hge;refine⟨Zp w.heap.size,w.heap.size,cc,w.drew.alloc (.cells ((cY l++cY t).toArray++Builtin.zeroCells (Value.int IntKind.u8 0).cells (cc-(l.length+t.length))) 5),by rw[hr,Lh],⟨.inr rfl,fun e=>(by cases e),fun _=>⟨_,_,Lr w.drew _⟩,by rw[Lh];exact hge,fun _=> ?_,fun _=> ?_⟩,(Upo.refl _ w).drew.alloc _,.inr ⟨rfl,by simp⟩,fun e=>(h.ty e).same ((MapKept.heap_alloc w.drew _).2 g (h.ty e).lt)⟩
  ·intro j u hu
   show(w.drew.alloc _).cell? ⟨w.drew.heap.size,0+j,none⟩=some u
   rw[Nz,Lp];rw[Qad] at hu;rw[Array.getElem?_append_left (by have:=(List.getElem?_eq_some_iff.1 hu).1;simpa using this)]
   simpa using hu
  ·refine Qm w.drew _ 5 _ ?_
   have hz1':(Value.int IntKind.u8 0).cells.size=1:=rfl;simp only[Array.size_append,List.size_toArray,size_zeroCells,hz1',Q2,List.length_append];omega
theorem QkQ(w:World)(t:BA):Src prog 1 9 (.string t) t.data.toList.length (cY t.data.toList) w:=by
 rw[Qe];exact Src.ofString w underlying9 t
theorem Rw.src(h:Rw w ao g cap l){k:Nat}(hk:k<=l.length){ax:OA}(hx:ax=ao∨ax=ao.map (·.add k))(h0:ax=ao->k=0∨k=l.length)(m:Nat):Src prog 1 83 (.slice ax (l.length-k) m) (l.drop k).length (cY (l.drop k)) w:=by
 have hlen:(l.drop k).length=l.length-k:=by simp
 rw[hlen]
 rcases Nat.eq_zero_or_pos (l.length-k) with z|z
 ·have e:l.drop k=[]:=List.length_eq_zero_iff.1 (by omega)
  rw[e,z]
  cases ax with
  | none=>exact Src.ofNil w underlying83 m
  | some a=>exact Src.ofSlice w underlying83 a 0 m _ (by simp[cY]) (fun j u hu=>by simp[cY] at hu) (fun u hu=>by simp[cY] at hu)
 ·have ea:=h.sm (by omega)
  have eax:ax=some ⟨g,k,none⟩:=by
   rcases hx with e|e
   ·rcases h0 e with q|q
    ·rw[e,ea,q]
    ·omega
   ·rw[e,ea,IL,Addr.add_mid,Lp]
  rw[eax];refine Src.ofSlice w underlying83 _ _ m _ (by rw[Q2,hlen,Nr]) (fun j u hu=> ?_) (Qfo _)
  rw[cY,IJ,Nx] at hu;have:=h.rng ea (k+j) u hu;rw[Lp] at this;rw[Addr.add_mid];exact this
theorem Rw.conv(h:Rw w ao g cap l){k n:Nat}(hk:k+n<=l.length){ax:OA}(hx:ax=ao∨ax=ao.map (·.add k))(h0:ax=ao->k=0∨n=0)(m:Nat) :
  (convert 83 9 (.slice ax n m)).run prog w= .ok (.string ⟨((l.drop k).take n).toArray⟩) w:=by
 have hlen:((l.drop k).take n).length=n:=by simp;omega
 cases hax:ax with
 | none=>
  have z:n=0:=by
   rcases hx with e|e
   ·have:=h.empty (e.symm.trans hax);rw[this] at hk;simp at hk;omega
   ·have ea:ao=none:=by cases ao with
     | none=>rfl
     | some a=>rw[hax] at e;cases e
    have:=h.empty ea;rw[this] at hk;simp at hk;omega
  subst z;rw[Ij];have:∀W:World,(convert 83 9 (.slice none 0 m)).run prog W= .ok (.string ⟨#[]⟩) W:=fun W=>by
   simp[convert,run_underlying underlying83,run_underlying underlying9,run_underlying underlying5,Conv.bytesToString]
   rfl
  exact this w
 | some a=>
  have hr:=run_convert_bytes_back w 83 9 5 a m ((l.drop k).take n) underlying83 underlying5 underlying9 fun j hj=> ?_
  ·rw[hlen] at hr;exact hr
  ·rw[hlen] at hj;have ea:=h.sm (by omega)
   have eax:a=⟨g,k,none⟩:=by
    rcases hx with e|e
    ·rcases h0 e with q|q
     ·rw[hax,ea] at e;injection e with e;rw[e,q]
     ·omega
    ·rw[hax,ea,IL,Addr.add_mid,Lp] at e;injection e
   rw[eax,Addr.add_mid,h.at (by omega)]
   have:(List.take n (List.drop k l))[j]'(by omega)=l.getD (k+j) 0:=by
    rw[List.getElem_take,List.getElem_drop,La,Ld (by omega)];rfl
   rw[this]
end
theorem Qe1{w w':World}{ops:Array Oper}{o:Oper}{a:Act}{K:Act->World->Prop}{Q:Exit->Act->World->Prop}{E:Prop}(hgd:o.guard=none)(s x:Operand)(t u:TypeId)
  (hop:o.op=Op.call { callee:=Callee.builtin Builtin.append,args:=#[s,x],argTypes:=#[t,u] }) {vs vx v':Value} (hs:a.eval s=vs) (hx:a.eval x=vx) (hr:(Builtin.append_ #[t,u] o.type #[vs,vx]).run prog w= .ok v' w')
  (hK:K (a.put o.dst v') w'):if Region.wanted o (yielded ops a.tmps)=true then Oper.wp prog o a w K Q else E:=by
 have hw:Region.wanted o (yielded ops a.tmps)=true:=by simp[Region.wanted,hgd]
 rw[Lo hw];unfold Oper.wp;simp[execOp,hop,resolve,invoke,builtin,hs,hx,hr,Result.andThen];exact hK
end St
end Go.Proofs.YtoblgjledefdbabGreatDoor
