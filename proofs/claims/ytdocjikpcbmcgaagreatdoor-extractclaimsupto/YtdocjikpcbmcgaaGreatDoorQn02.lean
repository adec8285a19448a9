/- Own work. -/
import Derived.Deep.Onto
import Derived.Laws.AppendOwnNone
import Derived.Handy
import Derived.Test.YtdocjikpcbmcgaaGreatDoorRows
import Derived.BigQuiet
import Derived.Test.YtdocjikpcbmcgaaGreatDoorQn01
set_option maxRecDepth 100000
set_option maxHeartbeats 2000000
namespace Go.Proofs.YtdocjikpcbmcgaaGreatDoor
open Go.RowKit
attribute [local go_sem ↓] Go.wp_at_zero Go.wp_at_succ
open Go.Proofs.Tryz
theorem Qdz{blk:List Int}(h:blk.length=64){u:Nat}(hu:u<64):U5 blk u=(blk.take u++[128])++List.replicate (64 - (u+1)) 0:=by
 unfold U5
 congr 1
 apply IK
 intro i
 by_cases hi:i<u
 ·rw[Nc,Lm (by omega),Iu (by omega),LL (by simp;omega),Nc,Lm hi]
 ·by_cases hi2:i=u
  ·subst hi2;rw[Nc,Lm (by omega),List.getElem?_set_self (by omega),LN (by simp;omega)]
   have:(blk.take i).length=i:=by simp;omega
   rw[this,NJ];rfl
  ·rw[Nc,Le (by omega),N8]
   simp;omega
theorem Qdv{rs st blk blk':List Int}{n:Nat}(h:blk.length=64)(h':blk'.length=64)(he:blk.take (n % 64)=blk'.take (n % 64)):Q9 rs st blk n=Q9 rs st blk' n:=by
 have:U5 blk (n % 64)=U5 blk' (n % 64):=by rw[Qdz h (ID _ (by decide)),Qdz h' (ID _ (by decide)),he]
 unfold Q9;rw[this]
def shaT(rs t:List Int):List Int:=UY (Q9 rs (stN rs IV t (t.length / 64)) (pad (t.drop (64*(t.length / 64)))) t.length) 8
def Jd(rs t:List Int):BA:=Q4 (shaT rs t)
theorem Qmm(w:World)(p:Nat)(rs t:List Int)(hh:Hst w p rs IV t)(hrl:rs.length=64)(hr:w.rangeAt 2 0 (cW rs)) :
  Zr 186 #[.pointer (some ⟨p,0,none⟩)] w (.string (Jd rs t)):=by
 obtain⟨st,xA,h1,h2,h3⟩:=hh;refine(Qml w p st xA t.length h1 rs hrl hr).mono fun e w' ⟨he,hb⟩=>⟨?_,hb⟩
 have hd:(t.drop (64*(t.length / 64))).length=t.length % 64:=by rw[Lv];omega
 have e:Q9 rs st xA t.length=Q9 rs (stN rs IV t (t.length / 64)) (pad (t.drop (64*(t.length / 64)))) t.length:=by
  rw[<-h2];refine Qdv h1.blkl (Uv (by omega)) ?_
  rw[h3,pad,Ns (by omega),LD (by omega)]
 rw[he,Jd,shaT,e]
theorem QlH(w:World)(rs:List Int):Hst (w.alloc (.cells ((cW IV++cB (List.replicate 64 0))++[Value.int .u64 0]).toArray 223)) w.heap.size rs IV []:=by
 have r:=Qu w ((cW IV++cB (List.replicate 64 0))++[Value.int .u64 0]) 223;have q:=Qz w ((cW IV++cB (List.replicate 64 0))++[Value.int .u64 0]).toArray 223 73 (by simp[Qo,Qw,IV])
 refine⟨IV,List.replicate 64 0,⟨rfl,by simp,?_,?_,?_,q⟩,rfl,rfl⟩
 ·intro j v hv;have hj:j<8:=(List.getElem?_eq_some_iff.1 hv).1
  exact r j v (by rw[LL (by simp[Qo,Qw,IV];omega),LL (by simp[Qo,IV];omega)];exact hv)
 ·intro j v hv;have hj:j<64:=by have:=(List.getElem?_eq_some_iff.1 hv).1;simpa [Qw] using this
  have:=r (8+j) v (by rw[LL (by simp[Qo,Qw,IV];omega),LN (by simp[Qo,IV])];simpa [Qo,IV] using hv)
  rwa [Lr] at this
 ·exact r 72 _ rfl
def QdP:Obj := .cells ((cW IV++cB (List.replicate 64 0))++[Value.int .u64 0]).toArray 223
theorem QlI(w:World):Calls prog 184 #[] w fun e w'=>e = .returned (.pointer (some ⟨w.heap.size,0,none⟩))∧w'=w.alloc QdP:=QlG w
def Yl(ss:LB):List Int:=(ss.map tB).flatten
theorem QcW(ss:LB)(k:Nat)(hk:k<ss.length):Yl (ss.take (k+1))=Yl (ss.take k)++tB (ss.getD k ByteArray.empty):=by
 have e:ss.getD k ByteArray.empty=ss[k]:=by rw[La,Lc hk];rfl
 unfold Yl;rw[LW hk,L8,NX,e];simp only[List.map_cons,List.map_nil,List.flatten_cons,List.flatten_nil,List.append_nil]
theorem OM(ss:LB)(k:Nat):(Yl (ss.take k)).length<=(Yl ss).length:=by
 have:Yl ss=Yl (ss.take k)++Yl (ss.drop k):=by
  unfold Yl;rw[<-NX,<-L8,Nk]
 rw[this,Lg];omega
theorem QnA(w:World)(ao:OA)(b off len cap:Nat)(ss:LB)(hl:ss.length=len)(hao:0<len->ao=some ⟨b,off,none⟩)(hs:w.rangeAt b off (ss.map Value.string))
  (hmx:len<=9223372036854775807) (rs:List Int) (hrl:rs.length=64) (hr:w.rangeAt 2 0 (cW rs)) (hlen:(Yl ss).length<4611686018427387904) :
  Zr 168 #[.slice ao len cap] w (.string (Jd rs (Yl ss))):=by
 have xI:2<w.heap.size:=QU hr (by intro h;have:=LU List.length h;simp[Qo,hrl] at this)
 have xF:Hst (w.alloc QdP) w.heap.size rs IV []:=QlH w rs;have xC:Zb w (w.alloc QdP):=(Lb _ _).alloc (Ld _) _
 go_enter func168,ntmps168
 go_wp2_with (go_at_call 184;refine(QlI _).mono ?_;rintro e w' ⟨rfl,rfl⟩)
 generalize w.alloc QdP=w1 at *
 go_loopg [9] len (fun g i wr => ∃k:Nat,k<=len∧g=len - k∧i = .int .i64 k∧Hst wr w.heap.size rs IV (Yl (ss.take k))∧Zb w wr)
 case atStart=>go_light;exact⟨0,Ll _,rfl,rfl,xF,xC⟩
 case round =>
  clear xF xC;obtain⟨k,hk,rfl,rfl,hh,hb⟩:=hrel;have xG:wr.rangeAt 2 0 (cW rs):=Ql hb xI hr
  by_cases hlt:k<len
  ·obtain rfl:=hao (by omega)
   have xD:k<ss.length:=by omega
   have xK:b<w.heap.size:=QU hs (by intro h;have:=LU List.length h;rw[Lx,IZ] at this;omega)
   have ck:wr.cell? ⟨b,off+k,none⟩=some (.string (ss.getD k ByteArray.empty)):=by
    rw[hb.cell (p:=⟨b,off+k,none⟩) xK];exact hs k _ (by simp[List.getElem?_eq_getElem xD,List.getD_eq_getElem?_getD])
   have hz:(k:Int)<(len:Int):=by omega
   have xH:(Yl (ss.take (k+1))).length<=(Yl ss).length:=OM _ _;have xB:=QcW ss k xD;have xE:(Yl (ss.take k)).length+(ss.getD k ByteArray.empty).size<4611686018427387904:=by
    rw[xB,Lg,Yz] at xH;omega
   have hw:=QiN wr w.heap.size rs IV (Yl (ss.take k)) (ss.getD k ByteArray.empty) hrl xG hh xE;rw[<-xB] at hw;have HB:Hid (Zb w wr):=hb;have HZ:Hid (w.heap.size<=wr.heap.size):=hb.size;clear xB xH xE hh hb hs hao;generalize ss.getD k ByteArray.empty=part at *
   go_wp2_with (go_at_call 185;refine hw.mono ?_;rintro e w' ⟨rfl,xM,xL⟩)
   go_roundg (len - (k+1))
   case rel=>go_light;exact⟨k+1,by omega,rfl,by go_num,xM,HB.out.grown xL HZ.out (fun j hj=>by cases hj;exact Ld _)⟩
   case measure=>go_light;omega
  ·obtain rfl:k=len:=by omega
   have hz : ¬(k:Int)<(k:Int):=by omega
   have xA:=Qmm wr w.heap.size rs _ hh hrl xG;rw[LD (by omega)] at xA
   have HB:Hid (Zb w wr):=hb;have HZ:Hid (w.heap.size<=wr.heap.size):=hb.size;clear hh hb
   go_wp2_with (go_at_call 186;refine xA.mono ?_;rintro e w' ⟨rfl,xJ⟩)
   go_ret
   exact⟨rfl,HB.out.trans (xJ.mono HZ.out)⟩
def QfS{α:Type}(n:Nat)(k:Nat->α):α :=
 match n with
 | 0=>k 0
 | m+1=>k (m+1)
theorem QcX{α:Type}(n:Nat)(k:Nat->α):QfS n k=k n:=by cases n <;> rfl
def QbR{α:Type}(x:Int)(k:Int->α):α :=
 match x with
 | .ofNat n=>QfS n fun n=>k (.ofNat n)
 | .negSucc n=>QfS n fun n=>k (.negSucc n)
theorem J6{α:Type}(x:Int)(k:Int->α):QbR x k=k x:=by
 cases x with
 | ofNat n=>exact QcX n fun n=>k (.ofNat n)
 | negSucc n=>exact QcX n fun n=>k (.negSucc n)
def Jj{α:Type}(l:List Int)(k:List Int->α):α :=
 match l with
 | []=>k []
 | x::r=>QbR x fun x=>Jj r fun r=>k (x::r)
theorem UA{α:Type}(l:List Int)(k:List Int->α):Jj l k=k l:=by
 induction l generalizing k with
 | nil=>rfl
 | cons x r ih=>rw[Jj,J6,ih]
def Qhb:Nat->Nat->List Int->List Int
 | 0,_,l=>l
 | f+1,k,l=>Jj (l++[QeY (l.getD k 0) (l.getD (k+1) 0) (l.getD (k+9) 0) (l.getD (k+14) 0)]) fun l=>Qhb f (k+1) l
theorem Qks(blk:List Int)(f k:Nat):Qhb f k (Yd blk k)=Yd blk (k+f):=by
 induction f generalizing k with
 | zero=>rfl
 | succ f ih =>
  rw[Qhb,UA];have:=ih (k+1);rw[Yd] at this;rw[this,show k+1+f=k+(f+1) by omega]
def Qg7(rs ws:List Int):Nat->Nat->S8->S8
 | 0,_,v=>v
 | f+1,k,⟨a,b,c,d,e,g,h,i⟩ =>
  QbR (oneI e g h i (rs.getD k 0) (ws.getD k 0)) fun one=>QbR (IntKind.u32.wrap (one+twoI a b c)) fun x=>QbR (IntKind.u32.wrap (d+one)) fun y=>Qg7 rs ws f (k+1) ⟨x,a,b,c,y,e,g,h⟩
theorem Qkj(rs ws:List Int)(v:S8)(f k:Nat):Qg7 rs ws f k (rnds v rs ws k)=rnds v rs ws (k+f):=by
 induction f generalizing k with
 | zero=>cases rnds v rs ws k;rfl
 | succ f ih =>
  have h:=ih (k+1);rw[rnds] at h;rw[show k+(f+1)=k+1+f by omega,<-h]
  cases rnds v rs ws k;rw[Qg7,J6,J6,J6]
  rfl
def QeO(rs st blk:List Int):List Int :=
 Jj blk fun blk=>Jj (sch0 blk 16) fun l=>Jj (Qhb 48 0 l) fun ws=>Jj (sumI (Uw st) (Qg7 rs ws 64 0 (Uw st))) fun r=>r
theorem Qjn(rs st blk:List Int):QeO rs st blk=YT rs st blk:=by
 rw[QeO,UA,UA,UA,UA,YT];have h1:=Qks blk 48 0;rw[Lr] at h1;have h2:=Qkj rs (Yd blk 48) (Uw st) 64 0;rw[Lr] at h2;rw[<-h2,<-h1]
 rfl
def QfM(rs st blk:List Int)(n:Nat):List Int :=
 if 55<n % 64 then QeO rs (QeO rs st (U5 blk (n % 64))) (Y6 (List.replicate 64 0) (IntKind.u64.wrap ((n:Int)*8)) 8)
 else QeO rs st (Y6 (U5 blk (n % 64)) (IntKind.u64.wrap ((n:Int)*8)) 8)
theorem QhE(rs st blk:List Int)(n:Nat):QfM rs st blk n=Q9 rs st blk n:=by
 unfold QfM Q9;simp only[Qjn]
def Ov(rs t:List Int):List Int:=Jj (QfM rs IV (pad t) t.length) fun h=>UY h 8
theorem Qee(rs t:List Int)(h:t.length<64):Ov rs t=shaT rs t:=by
 have e:t.length / 64=0:=by omega
 rw[Ov,UA,QhE,shaT,e]
 rfl
def RS:List Int:=[1116352408,1899447441,3049323471,3921009573,961987163,1508970993,2453635748,2870763221,3624381080,310598401,607225278,1426881987,1925078388,2162078206,2614888103,3248222580,3835390401,4022224774,264347078,604807628,770255983,1249150122,1555081692,1996064986,2554220882,2821834349,2952996808,3210313671,3336571891,3584528711,113926993,338241895,666307205,773529912,1294757372,1396182291,1695183700,1986661051,2177026350,2456956037,2730485921,2820302411,3259730800,3345764771,3516065817,3600352804,4094571909,275423344,430227734,506948616,659060556,883997877,958139571,1322822218,1537002063,1747873779,1955562222,2024104815,2227730452,2361852424,2428436474,2756734187,3204031479,3329325298]
theorem Qdo:RS.length=64:=rfl
theorem Qa{w W w2:World}(h:Zb w W)(h2:Zb W w2):Zb w w2:=h.trans (h2.mono h.size)
theorem bal{w W:World}(h:Zb w W)(o:Obj):Zb w (W.alloc o):=h.alloc h.size o
theorem Qd{B:Nat}{a w:World}(h:Below B a w)(n:Nat):Below B a (w.drewN n):=⟨h.os,h.tape,h.output,h.size,h.block⟩
theorem QiT{l:List Int}(h:0<l.length):cW l≠[]:=by
 intro e;have:=LU List.length e;rw[Qo,IZ] at this;omega
structure Tb(w:World):Prop where
 rs:w.rangeAt 2 0 (cW RS)
theorem Tb.next{w W:World}(h:Tb w)(hb:Zb w W):Tb W :=
 ⟨Ql hb (QU h.rs (QiT (by rw[Qdo];decide))) h.rs⟩
def clk(k:Int):Nat:=if k<1 then 1 else if 32<k then 32 else k.toNat
theorem Qnb(k:Int):1<=clk k:=by
 unfold clk
 split
 ·omega
 ·split <;> omega
theorem Qp(k:Int):clk k<=32:=by
 unfold clk
 split
 ·omega
 ·split <;> omega
theorem QeA(w:World)(k:Int)(x:Int)(hx:(clk k:Int)=x) :
  Calls prog 169 #[.int .i64 k] w fun e w'=>e = .returned (.int .i64 x)∧w'=w:=by
 subst hx;unfold clk
 go_enter func169,ntmps169
 by_cases h1:k<1
 ·have e1 : ¬(1<=k):=by omega
  rw[Lm h1];clear h1;go_wp2
  go_ret
  simp
 ·by_cases h2:32<k
  ·have e1:1<=k:=by omega
   have e2 : ¬(k<=32):=by omega
   rw[Le h1,Lm h2];clear h1 h2;go_wp2
   go_ret
   simp
  ·have e1:1<=k:=by omega
   have e2:k<=32:=by omega
   have e3:(k.toNat:Int)=k:=by omega
   rw[Le h1,Le h2,e3];clear h1 h2;go_wp2
   go_ret
   simp
theorem Uk(x:Int):(Q4 [x]).size=1:=rfl
theorem JE(w:World)(x:Int):(convert 95 9 (.slice (some ⟨w.heap.size,0,none⟩) 1 1)).run prog (w.alloc (.cells #[.int .u8 x] 5)) = .ok (.string (Q4 [x])) (w.alloc (.cells #[.int .u8 x] 5)) :=
 QbD _ _ [x] 1 rfl (Qu w (cB [x]) 5)
theorem QaF(l:List Int):(Q4 l).size=l.length:=by
 have : ∀(l:List Int) (r:BA),(l.foldl (fun r n=>r.push (UInt8.ofNat n.toNat)) r).size=r.size+l.length:=by
  intro l
  induction l with
  | nil=>intro r;rfl
  | cons x t ih=>intro r;rw[List.foldl_cons,ih,ByteArray.size_push,Lt];omega
 rw[Q4,this];simp
theorem Je(rs t:List Int):(Jd rs t).size=32:=by rw[Jd,QaF,shaT,Qca]
def Qh(s:BA):BA:=Q4 [0]++s
def QH(a b:BA):BA:=(Q4 [1]++a)++b
def Uq(a b:BA):BA:=(Q4 [2]++a)++b
theorem Yu(s:BA):(Qh s).size=1+s.size:=by rw[Qh,L3,Uk]
theorem Yw(a b:BA):(QH a b).size=1+a.size+b.size:=by rw[QH,L3,L3,Uk]
theorem JX(a b:BA):(Uq a b).size=1+a.size+b.size:=by rw[Uq,L3,L3,Uk]
def dg(c:Nat)(t:BA):BA:=(Jd RS (tB t)).extract 0 c
theorem Q6{c:Nat}(hc:c<=32)(t:BA):(dg c t).size=c:=by
 rw[dg,II,Je];omega
theorem Qmf(w:World)(ht:Tb w)(t:BA)(hs:t.size<4611686018427387904) :
  Calls prog 168 #[.slice (some ⟨w.heap.size,0,none⟩) 1 1] (w.alloc (.cells #[.string t] 9)) fun e w'=>e = .returned (.string (Jd RS (tB t)))∧Zb w w':=by
 have e:Yl [t]=tB t:=by simp[Yl]
 refine(QnA _ (some ⟨w.heap.size,0,none⟩) w.heap.size 0 1 1 [t] rfl (fun _=>rfl) (Qu w [.string t] 9) (by decide) RS Qdo (World.rangeAt_alloc ht.rs _) (by rw[e,Yz];exact hs)).mono fun e' w' ⟨he,hb'⟩=>⟨?_,?_⟩
 ·rw[he,e]
 ·exact((Lb _ _).alloc (Ld _) _).trans (hb'.mono (by simp))
theorem OP(w:World)(ht:Tb w)(k:Int)(t:BA)(hs:t.size<4611686018427387904)(r:BA)(hr:dg (clk k) t=r) :
  Zr 126 #[.int .i64 k,.string t] w (.string r):=by
 subst hr;have HS:=Qmf w ht t hs;unfold dg;have hz:=Je RS (tB t);generalize Jd RS (tB t)=z at *;have c1:=Qnb k;have c2:=Qp k;have HC:=fun W=>QeA W k (clk k) rfl
 generalize clk k=c at *;have h1:(0:Int)<=(c:Int):=by omega
 have h2:(c:Int)<=32:=by omega
 clear ht hs c1
 go_enter func126,ntmps126
 go_wp2_with (first
  | (go_at_call 168;with_reducible refine HS.mono ?_;rintro e w1 ⟨rfl,xA⟩)
  | (go_at_call 169;with_reducible refine(HC _).mono ?_;rintro e w2 ⟨rfl,rfl⟩))
 go_ret
 exact⟨rfl,xA⟩
theorem Qat(w:World)(s:BA)(hs:s.size<2305843009213693952) :
  Zr 164 #[.string s] w (.string (Qh s)):=by
 have cv:=JE w 0;unfold Qh;have hz:=Uk 0;generalize Q4 [0]=z at *;have xA : ¬(9223372036854775807<1+s.size):=by omega
 go_enter func164,ntmps164;go_wp2
 go_ret
 exact⟨rfl,bal (Lb _ _) _⟩
theorem Qau(w:World)(a b:BA)(hs:a.size<2305843009213693952)(hs2:b.size<2305843009213693952) :
  Zr 128 #[.string a,.string b] w (.string (QH a b)):=by
 have cv:=JE w 1;unfold QH;have hz:=Uk 1;generalize Q4 [1]=z at *;have xB : ¬(9223372036854775807<1+a.size):=by omega
 have xA : ¬(9223372036854775807<1+a.size+b.size):=by omega
 go_enter func128,ntmps128;go_wp2
 go_ret
 exact⟨rfl,bal (Lb _ _) _⟩
theorem Qev(w:World)(a b:BA)(hs:a.size<2305843009213693952)(hs2:b.size<2305843009213693952)(r:BA)(hr:Uq a b=r) :
  Zr 127 #[.string a,.string b] w (.string r):=by
 subst hr;have cv:=JE w 2;unfold Uq;have hz:=Uk 2;generalize Q4 [2]=z at *;have xB : ¬(9223372036854775807<1+a.size):=by omega
 have xA : ¬(9223372036854775807<1+a.size+b.size):=by omega
 go_enter func127,ntmps127;go_wp2
 go_ret
 exact⟨rfl,bal (Lb _ _) _⟩
def chk(k:Int):Int:=if k<1∨32<k then 70 else 0
theorem QV(w:World)(k:Int):Calls prog 61 #[.int .i64 k] w fun e w'=>e = .returned (.int .i64 (chk k))∧w'=w:=by
 unfold chk
 go_enter func61,ntmps61
 by_cases h1:k<1
 ·rw[Lm (.inl h1)];go_wp2
  go_ret
  simp
 ·by_cases h2:32<k
  ·rw[Lm (.inr h2)];go_wp2
   go_ret
   simp
  ·rw[Le (by omega)]
   go_wp2
   go_ret
   simp
theorem Qe{p:Prop}(h:p):Hid p:=h
theorem Tryz.infoI:(prog.info? 5).map (fun i=>(i.zero,i.size,i.bytes))=some (some (.int .u8 0),1,1):=by kernel_rfl
def OwnI(w:World)(B:Nat)(v:Value)(l:List Int):Prop:=w.ownsRow B 5 1 v l.length (cB l)
theorem Qh3{w:World}{B:Nat}{v:Value}{l:List Int}(h:OwnI w B v l)(h0:0<l.length):(convert 95 9 v).run prog w = .ok (.string (Q4 l)) w:=by
 have hc:=fun g=>h.cells (g:=g)
 obtain⟨h1,h2⟩:=h
 rcases h2 with ⟨rfl,h2⟩|⟨g,cap,cur,rfl,hg,hh,r⟩
 ·omega
 ·rw[run_convert_bytes_string w 95 9 5 _ _ _ underlying95 underlying5 underlying9];refine run_bytesToString w ⟨g,0,none⟩ l.length cap l ?_
  have:=run_loadCells_list (P:=prog) w ⟨g,0,none⟩ (cB l) (fun j v hv=>hc g rfl j v hv)
  rwa [Qw] at this
theorem QjY{w:World}{B:Nat}{v:Value}{l:List Int}(h:OwnI w B v l) : ∀k,v.ownBlock=some k->B<=k:=by
 obtain⟨_,h2⟩:=h
 rcases h2 with ⟨rfl,_⟩|⟨g,cp,cur,rfl,hg,_⟩
 ·intro k hk;cases hk
 ·intro k hk;cases hk;exact hg
theorem QjX(w:World)(x:Int):OwnI (w.alloc (.cells #[.int .u8 x] 5)) w.heap.size (.slice (some ⟨w.heap.size,0,none⟩) 1 1) [x] :=
 ⟨rfl,.inr ⟨w.heap.size,1,#[.int .u8 x],rfl,Ld _,Lu w _,Ld _,by unfold maxLen;omega,rfl,rfl⟩⟩
theorem QaY(w:World){ops:Array Oper}{rest:List Oper}{o:Oper}{a:Act}{Q:Exit->Act->World->Prop}
  (hg:o.guard=none) (s x:Operand) (hop:o.op=Op.call { callee:=Callee.builtin Builtin.append,args:=#[s,x],argTypes:=#[95,95] })
  (B:Nat) (v:Value) (L:List Int) (hs:a.eval s=v) (hown:OwnI w B v L) (y:Int) (hx:a.eval x = .slice (some ⟨w.heap.size,0,none⟩) 1 1)
  (hlen:L.length<=1000) (hB:B<=w.heap.size)
  (hK : ∀v' w',OwnI w' B v' (L++[y])->Below B w w'->wpList prog ops Q rest (a.put o.dst v') w'):wpList prog ops Q (o::rest) a (w.alloc (.cells #[.int .u8 y] 5)):=by
 obtain⟨i0,hi,xB,xC,xD⟩:=info_parts Tryz.infoI;refine wpList_append_own _ hg s x _ hop B 5 i0 (.int .u8 0) 1 1 underlying95 hi xB xC xD rfl (by decide) _ _ _ hs (NP hown _) ⟨w.heap.size,0,none⟩ 1 1 (cB [y]) hx (by simp[cB]) ?_ (by intro u hu;simp[cB] at hu;subst hu;rfl) (by unfold maxLen;omega) (by omega) (by simp;omega) ?_
 ·intro j u hu;have hj:j=0:=by have:=(List.getElem?_eq_some_iff.1 hu).1;simp[cB] at this;exact this
  subst hj;have xA:Value.int .u8 y=u:=Nx hu;subst xA;rw[Addr.add_mid,Ia]
  rfl
 ·intro v' w' h1 h2 _;refine hK v' w' ?_ (((Lb _ _).alloc hB _).trans ((Lb _ _).grown h2 (by simp;omega) (QjY hown)))
  rw[OwnI,Lg,cB,L8];exact h1
def nbL(n:Nat)(j:Nat):List Int:=(List.range j).map fun i=>((n / 256^(7 - i) % 256:Nat):Int)
theorem Qa9(n j:Nat):(nbL n j).length=j:=by simp[nbL]
theorem QjM(n j:Nat):nbL n (j+1)=nbL n j++[((n / 256^(7 - j) % 256:Nat):Int)]:=by
 simp[nbL,List.range_succ]
theorem Qku(n k:Nat):(n:Int) / 2^(8*(7 - k)) % 256=((n / 256^(7 - k) % 256:Nat):Int):=by
 rw[Int.natCast_emod,Int.natCast_ediv,Int.natCast_pow,Int.pow_mul]
 rfl
def Qda(n:Nat):List Int:=3::nbL n 8
def QI(n:Nat)(d:BA):BA:=Q4 (Qda n)++d
theorem Qcq(n:Nat):(Q4 (Qda n)).size=9:=by rw[QaF,Qda,Lt,Qa9]
theorem Jq(n:Nat)(d:BA):(QI n d).size=9+d.size:=by rw[QI,L3,Qcq]
theorem Qaz(w:World)(n:Nat)(d:BA)(hs:d.size<2305843009213693952)(r:BA)(hr:QI n d=r) :
  Zr 71 #[.int .u64 (n:Int),.string d] w (.string r):=by
 subst hr;have xC : ¬(9223372036854775807<9+d.size):=by omega
 have HS:=Qcq n;unfold QI;obtain⟨z,HE⟩ : ∃z,Hid (Q4 (Qda n)=z):=⟨_,rfl⟩;rw[HE.out] at HS ⊢
 go_enter func71,ntmps71;go_wp2
 go_loopg [5,8] 8 (fun g v i wr => ∃k:Nat,k<=8∧g=8 - k∧i = .int .i64 (k:Int)∧OwnI wr w.heap.size v (3::nbL n k)∧Zb w wr)
 case atStart=>go_light;exact⟨0,Ll _,rfl,rfl,QjX w 3,bal (Lb _ _) _⟩
 case round =>
  obtain⟨k,hk,rfl,rfl,xA,hb⟩:=hrel
  by_cases hlt:k<8
  ·have hz:(k:Int)<8:=by omega
   have HZ:Hid (w.heap.size<=wr.heap.size):=hb.size;have HL:Hid ((3::nbL n k).length<=1000):=by show _<=_;rw[Lt,Qa9];omega
   have HN:=Qe (QjM n k)
   go_wp2_with (at_builtin;refine QaY _ rfl _ _ rfl w.heap.size _ (3::nbL n k) rfl xA _ rfl HL.out HZ.out ?_)
   intro v' w2 r1 r2;have HO:Hid (OwnI w2 w.heap.size v' (3::nbL n (k+1))):=by
    show OwnI _ _ _ _
    rw[HN.out,<-Qku n k];exact r1
   have HB:Hid (Zb w w2):=hb.trans r2;clear r1 r2 hb xA HN;go_wp2
   go_roundg (8 - (k+1))
   case rel=>go_light;exact⟨k+1,by omega,rfl,by go_num,HO.out,HB.out⟩
   case measure=>go_light;omega
  ·obtain rfl:k=8:=by omega
   have xB:=Qh3 xA (by simp)
   have HB:Hid (Zb w wr):=hb;clear xA hb hlt hk;rw[show(3::nbL n 8)=Qda n from rfl,HE.out] at xB
   go_wp2
   go_ret
   exact⟨rfl,HB.out⟩
structure RdS(w:World)(ao:OA)(b off len:Nat)(ss:LB):Prop where
 hl:ss.length=len
 ptr:0<len->ao=some ⟨b,off,none⟩
 rng:w.rangeAt b off (ss.map Value.string)
 sz : ∀s∈ss,s.size<=9223372036854775807
theorem RdS.lt{w:World}{ao:OA}{b off len:Nat}{ss:LB}(h:RdS w ao b off len ss)(h0:0<len):b<w.heap.size :=
 QU h.rng (by intro e;have:=LU List.length e;rw[Lx,IZ,h.hl] at this;omega)
theorem RdS.next{w W:World}{ao:OA}{b off len B:Nat}{ss:LB}(h:RdS w ao b off len ss)(hb:Below B w W)(hB:w.heap.size<=B):RdS W ao b off len ss:=by
 refine⟨h.hl,h.ptr,?_,h.sz⟩
 by_cases h0:0<len
 ·exact Ql hb (L5 (h.lt h0) hB) h.rng
 ·have:ss=[]:=List.length_eq_zero_iff.1 (by rw[h.hl];omega)
  rw[this];intro j v hv;cases hv
theorem RdS.at{w:World}{ao:OA}{b off len:Nat}{ss:LB}(h:RdS w ao b off len ss){k:Nat}(hk:k<len):w.cell? ⟨b,off+k,none⟩=some (.string (ss.getD k ByteArray.empty)) :=
 h.rng k _ (by have:=h.hl;simp[List.getElem?_eq_getElem (show k<ss.length by omega),List.getD_eq_getElem?_getD])
theorem Qv{ss:LB}{k:Nat}(hk:k<ss.length):ss.getD k ByteArray.empty∈ss:=by
 rw[La,Lc hk];exact LG _
theorem Qb1(w:World)(ht:Tb w)(k:Int)(s:BA)(hs:s.size<2305843009213693952)(r:BA)(hr:dg (clk k) (Qh s)=r) :
  Zr 116 #[.int .i64 k,.string s] w (.string r):=by
 have HL:=Qat w s hs;have HO:Hr w 126 #[.int .i64 k,.string (Qh s)] (.string r):=fun W hb=>OP W (ht.next hb) k _ (by rw[Yu];omega) r hr
 clear hr ht hs;generalize Qh s=t at *
 go_enter func116,ntmps116
 go_wp2_with (first
  | (go_at_call 164;with_reducible refine HL.mono ?_;rintro e w1 ⟨rfl,xA⟩)
  | (go_at_call 126;with_reducible refine(HO.out _ xA).mono ?_;rintro e w2 ⟨rfl,xB⟩))
 go_ret
 exact⟨rfl,Qa xA xB⟩
theorem OS(w:World)(ht:Tb w)(k:Int)(a b:BA)(hs:a.size<2305843009213693952)(hs2:b.size<2305843009213693952)(r:BA)(hr:dg (clk k) (QH a b)=r) :
  Zr 125 #[.int .i64 k,.string a,.string b] w (.string r):=by
 have HL:=Qau w a b hs hs2;have HO:Hr w 126 #[.int .i64 k,.string (QH a b)] (.string r):=fun W hb=>OP W (ht.next hb) k _ (by rw[Yw];omega) r hr
 clear hr ht hs hs2;generalize QH a b=t at *
 go_enter func125,ntmps125
 go_wp2_with (first
  | (go_at_call 128;with_reducible refine HL.mono ?_;rintro e w1 ⟨rfl,xA⟩)
  | (go_at_call 126;with_reducible refine(HO.out _ xA).mono ?_;rintro e w2 ⟨rfl,xB⟩))
 go_ret
 exact⟨rfl,Qa xA xB⟩
def Qr(c:Nat):LB->BA
 | []=>ByteArray.empty
 | [p]=>p
 | p::q::r=>dg c (Uq p (Qr c (q::r)))
theorem Q3{c:Nat}(hc:c<=32){M:Nat}(hM:32<=M) : ∀(ss:LB),(∀s∈ss,s.size<=M)->(Qr c ss).size<=M
 | [],_=>by simp[Qr]
 | [p],h=>h p (by simp)
 | p::q::r,_=>by rw[Qr,Q6 hc];omega
theorem Qak(c:Nat)(ss:LB)(i:Nat)(h:i+1<ss.length):Qr c (ss.drop i)=dg c (Uq (ss.getD i ByteArray.empty) (Qr c (ss.drop (i+1)))):=by
 rw[LO (by omega),LO h,Qr,La,Lc (by omega)]
 rfl
theorem Qal(c:Nat)(ss:LB)(h:0<ss.length):Qr c (ss.drop (ss.length - 1))=ss.getD (ss.length - 1) ByteArray.empty:=by
 rw[LO (by omega),show ss.length - 1+1=ss.length by omega,IT,Qr,La,Lc (by omega)]
 rfl
theorem Jf(w:World)(ht:Tb w)(k:Int)(ao:OA)(b off len cap:Nat)(ss:LB)(hr:RdS w ao b off len ss)(hsz : ∀s∈ss,s.size<=140737488351232)(hmx:len<=8796093022208)(r:BA)(hq:Qr (clk k) ss=r) :
  Zr 72 #[.int .i64 k,.slice ao len cap] w (.string r):=by
 by_cases h0:len=0
 ·subst h0;have:ss=[]:=List.length_eq_zero_iff.1 hr.hl;subst this;subst hq
  go_enter func72,ntmps72;go_wp2
  go_ret
  exact⟨rfl,Lb _ _⟩
 ·have xA:0<len:=by omega
  obtain rfl:=hr.ptr xA;obtain⟨m,rfl⟩ : ∃m,len=m+1:=⟨len - 1,by omega⟩
  have hc:=Qp k;have xJ : ¬((m:Int)+1=0):=by omega
  have cm:=hr.at (k:=m) (by omega)
  have HL:Hid (Qr (clk k) (ss.drop m)=ss.getD m ByteArray.empty):=by
   have:=Qal (clk k) ss (by rw[hr.hl];omega)
   rw[hr.hl] at this;exact this
  have xH:Hid (∀d,d=Qr (clk k) ss->True):=fun _ _=>trivial
  have HM:Hid (∀j,j<m+1->(ss.getD j ByteArray.empty).size<=140737488351232):=fun j hj=>hsz _ (Qv (by rw[hr.hl];exact hj))
  have HD:Hid (∀j,(Qr (clk k) (ss.drop j)).size<=140737488351232):=fun j=>Q3 hc (by decide) _ (fun s hs=>hsz s (LV hs))
  have HN:Hid (∀j,j<m->Qr (clk k) (ss.drop j)=dg (clk k) (Uq (ss.getD j ByteArray.empty) (Qr (clk k) (ss.drop (j+1))))):=fun j hj=>Qak _ _ _ (by rw[hr.hl];omega)
  have HT:Hid (Tb w):=ht;have HR:Hid (RdS w (some ⟨b,off,none⟩) b off (m+1) ss):=hr;have HQ:Hid (Qr (clk k) (ss.drop 0)=r):=hq;obtain⟨d0,xC⟩:=Ze (ss.getD m ByteArray.empty);rw[xC] at cm;have xD:Hid (Qr (clk k) (ss.drop m)=d0):=by rw[<-xC];exact HL
  clear xC HL ht hr hq hsz xH h0 xA
  go_enter func72,ntmps72;go_wp2
  go_loopg [6,7] m (fun g x i wr => ∃(j:Nat) (d:BA),j=g∧x = .string d∧i = .int .i64 ((j:Int) - 1)∧j<=m∧Hid (Qr (clk k) (ss.drop j)=d)∧Zb w wr)
  case atStart=>go_light;exact⟨m,d0,rfl,rfl,rfl,Ld _,xD,Lb _ _⟩
  case round =>
   obtain⟨j,d,hg,rfl,rfl,hj,HE,hb⟩:=hrel;subst hg
   cases j with
   | zero =>
    have hz : ¬((0:Int) <= -1):=by decide
    rw[show((0:Nat):Int) - 1 = -1 from rfl]
    have HF:Hid (d=r):=HE.out.symm.trans HQ.out;clear HE HN HQ HM HD HR HT cm;obtain rfl:=HF.out;go_wp2
    go_ret
    exact⟨rfl,hb⟩
   | succ j =>
    have e1:((j+1:Nat):Int) - 1=(j:Int):=by omega
    have hz:(0:Int)<=(j:Int):=by omega
    have xK:(j:Int)<(m:Int)+1:=by omega
    have xI:j<m:=by omega
    have cj:=(HR.out.next hb (Ld _)).at (k:=j) (by omega)
    have z1:=HM.out j (by omega)
    have z2:=HD.out (j+1);have hn:=HN.out j xI;rw[HE.out] at z2 hn;generalize ss.getD j ByteArray.empty=p at *;have HG:=fun W=>Qev W p d (by omega) (by omega) _ rfl
    obtain⟨t,ht⟩:=Ze (Uq p d);have zt:=JX p d;rw[ht] at zt;simp only[ht] at HG hn;obtain⟨d',xB⟩ : ∃d',dg (clk k) t=d':=⟨_,rfl⟩;have HO:Hr w 126 #[.int .i64 k,.string t] (.string d'):=fun W hb=>OP W (HT.out.next hb) k t (by omega) d' xB
    have xG:Hid (Qr (clk k) (ss.drop j)=d'):=hn.trans xB;rw[e1];clear HE hn xB ht zt z1 z2 e1 cm xD
    go_wp2_with (first
     | (go_at_call 127;with_reducible refine(HG _).mono ?_;rintro e w1 ⟨rfl,xE⟩;replace hb:=Qa hb xE;clear xE)
     | (go_at_call 126;with_reducible refine(HO.out _ hb).mono ?_;rintro e w2 ⟨rfl,xF⟩;replace hb:=Qa hb xF;clear xF))
    go_roundg j
    case rel=>go_light;exact⟨j,d',rfl,rfl,by go_num,by omega,xG.out,hb⟩
    case measure=>go_light;omega
theorem Qcr(w:World)(ht:Tb w)(k:Int)(n:Nat)(ao:OA)(b off len cap:Nat)(ss:LB)(hr:RdS w ao b off len ss)(hsz : ∀s∈ss,s.size<=140737488351232)(hmx:len<=8796093022208)(r:BA)(hq:dg (clk k) (QI n (Qr (clk k) ss))=r) :
  Zr 81 #[.int .i64 k,.int .u64 (n:Int),.slice ao len cap] w (.string r):=by
 have hz:(Qr (clk k) ss).size<=140737488351232:=Q3 (Qp k) (by decide) _ hsz
 obtain⟨d,hd⟩:=Ze (Qr (clk k) ss);have xD:=Jf w ht k ao b off len cap ss hr hsz hmx d hd;rw[hd] at hq hz;obtain⟨t,xB⟩:=Ze (QI n d);have xE:=fun W=>Qaz W n d (by omega) t xB
 have zt:=Jq n d;rw[xB] at hq zt;have HO:Hr w 126 #[.int .i64 k,.string t] (.string r):=fun W hb=>OP W (ht.next hb) k t (by omega) r hq
 have hb:=Lb w.heap.size w;clear hq ht hd xB zt hz hr hsz hmx
 go_enter func81,ntmps81
 go_wp2_with (first
  | (go_at_call 72;with_reducible refine xD.mono ?_;rintro e w1 ⟨rfl,xA⟩;replace hb:=Qa hb xA;clear xA)
  | (go_at_call 71;with_reducible refine(xE _).mono ?_;rintro e w1 ⟨rfl,xA⟩;replace hb:=Qa hb xA;clear xA)
  | (go_at_call 126;with_reducible refine(HO.out _ hb).mono ?_;rintro e w2 ⟨rfl,xC⟩;replace hb:=Qa hb xC;clear xC))
 go_ret
 exact⟨rfl,hb⟩
theorem Qaj{a b x y:BA}(hs:a.size=b.size)(h:a++x=b++y):a=b∧x=y:=by
 have h1:=LU (fun z:BA=>z.data.toList) h
 simp only[ByteArray.data_append,Array.toList_append] at h1;have hl:a.data.toList.length=b.data.toList.length:=by simpa using hs
 obtain⟨e1,e2⟩:=List.append_inj h1 hl;exact⟨Iz (Array.toList_inj.1 e1),Iz (Array.toList_inj.1 e2)⟩
theorem Qc2{a b x y:BA}(hs:a.size=b.size)(h:QH a x=QH b y):a=b∧x=y:=by
 obtain⟨h1,h2⟩:=Qaj (by rw[L3,L3,hs]) h
 exact⟨(Qaj rfl h1).2,h2⟩
theorem Qeu{a b x y:BA}(hs:a.size=b.size)(h:Uq a x=Uq b y):a=b∧x=y:=by
 obtain⟨h1,h2⟩:=Qaj (by rw[L3,L3,hs]) h
 exact⟨(Qaj rfl h1).2,h2⟩
theorem QcZ{x y:BA}(h:Qh x=Qh y):x=y:=(Qaj rfl h).2
theorem Qdb{n:Nat}{x y:BA}(h:QI n x=QI n y):x=y:=(Qaj rfl h).2
abbrev Pq:Type:=Option (BA×BA)
def un(a b:BA):Pq:=if a=b then none else some (a,b)
theorem Jw{a b:BA}(h:un a b=none):a=b:=by
 unfold un at h
 split at h
 ·assumption
 ·cases h
theorem Qbr{a b:BA}{q:BA×BA}(h:un a b=some q):a≠b∧q=(a,b):=by
 unfold un at h
 split at h
 ·cases h
 ·rename_i hn;exact⟨hn,(Nx h).symm⟩
theorem Qem(a:BA):un a a=none:=Lm rfl
theorem or_none{x y:Pq}(h:x.or y=none):x=none∧y=none:=by
 cases x with
 | none=>exact⟨rfl,h⟩
 | some q=>cases h
theorem OU{x y:Pq}{q:BA×BA}(h:x.or y=some q):x=some q∨(x=none∧y=some q):=by
 cases x with
 | none=>exact .inr ⟨rfl,h⟩
 | some p=>exact .inl h
def Clx(c:Nat)(q:BA×BA):Prop:=q.1≠q.2∧dg c q.1=dg c q.2
namespace Pl
def Ub:Nat->Nat->Nat
 | 0,_=>0
 | k+1,n=>n % 2+Ub k (n / 2)
theorem Qdy(n k:Nat):n / 2^(k+1)=n / 2^k / 2:=by
 rw[LM,Nh]
theorem QlL(k n:Nat):Ub k n<=k:=by
 induction k generalizing n with
 | zero=>exact Ld _
 | succ k ih=>have:=ih (n / 2);simp only[Ub];omega
theorem Qh1(k n:Nat)(hk:k<64):Ub (64 - k) (n / 2^k)=n / 2^k % 2+Ub (64 - (k+1)) (n / 2^(k+1)):=by
 rw[show 64 - k=(64 - (k+1))+1 by omega,Ub,Qdy]
def pw(h:Nat):Nat:=2^h
theorem QM(h:Nat):pw (h+1)=2*pw h:=by simp[pw,Nat.pow_succ,Nat.mul_comm]
theorem Ui:pw 0=1:=rfl
theorem QF(h:Nat):0<pw h:=LQ h
theorem Qcj(a b:Nat):pw (a+b)=pw a*pw b:=Wh 2 a b
theorem JP{a b:Nat}(h:a<=b):pw a<=pw b:=L7 (by decide) h
theorem Qh0(j k:Nat)(h:k<2^j):Ub (j+1) k=Ub j k:=by
 induction j generalizing k with
 | zero=>simp at h;subst h;rfl
 | succ j ih =>
  rw[Ub,ih (k / 2) (by rw[LM] at h;omega)];rfl
theorem QlA{h k:Nat}(hh:h<40)(hk:k<pw (40 - (h+1))):2*k+1<pw (40 - h):=by
 rw[show 40 - h=(40 - (h+1))+1 by omega,QM];omega
theorem QgV{h k:Nat}(hk:k<pw (40 - h)):k<2^40 :=
 L5 hk (JP (by omega))
theorem Qlz{h k:Nat}(hh:h<=40)(hk:k<pw (40 - h)):(k+1)*pw h<=2^40:=by
 have h1:(k+1)*pw h<=pw (40 - h)*pw h:=LE _ hk;rw[<-Qcj,show 40 - h+h=40 by omega] at h1
 exact h1
end Pl
namespace Pl
theorem Qm0(n k:Nat)(hn:n<2^64):(bits BinOp.and IntKind.u64 ((n:Int) / 2^k) 1 == 1)=decide (n / 2^k % 2=1):=by
 have e:((n:Int) / 2^k)=((n / 2^k:Nat):Int):=by simp
 rw[e];have hm:n / 2^k<18446744073709551616:=N7 (Nt _ _) hn
 revert hm
 generalize n / 2^k=m;intro hm;have:=bits_and_u64_nat m 1 hm (by decide)
 rw[show(1:Int)=((1:Nat):Int) from rfl,this,Wd]
 by_cases h:m % 2=1
 ·simp[h]
 ·have:m % 2=0:=by omega
  simp[this]
theorem Qar(n k:Nat)(w:World)(hn:n<2^64)(hk:k<64) :
  Calls prog 130 #[.int .u64 n,.int .i64 k] w fun e w'=>e = .returned (.bool (decide (n / 2^k % 2=1)))∧w'=w:=by
 have xA:(0:Int)<=(k:Int):=Lf _
 go_enter func130,ntmps130;go_wp2
 go_ret
 refine⟨?_,rfl⟩
 rw[<-Qm0 n k hn]
 rfl
theorem Qe3(n:Nat)(w:World)(hn:n<2^64) :
  Calls prog 80 #[.int .u64 n] w fun e w'=>e = .returned (.int .i64 (Ub 64 n:Nat))∧w'=w:=by
 go_enter func80,ntmps80;go_wp2
 go_loopg [3,5] 64 (fun g c i wr => ∃k m:Nat,k<=64∧g=64 - k∧i = .int .i64 k∧c = .int .i64 m∧m<=k∧m+Ub (64 - k) (n / 2^k)=Ub 64 n∧w=wr)
 case atStart=>go_light;exact⟨0,0,Ll _,rfl,rfl,rfl,Ll _,by simp,rfl⟩
 case round =>
  obtain⟨k,m,hk,rfl,rfl,rfl,hm,hs,rfl⟩:=hrel;have xA:(0:Int)<=(k:Int):=Lf _;have xC:(0:Int)<=(m:Int):=Lf _;have xD:(m:Int)<=64:=by omega
  by_cases hlt:k<64
  ·have xB:(k:Int)<64:=by omega
   have HS:=Qh1 k n hlt;have HC:=Qar n k w hn hlt
   by_cases hb:n / 2^k % 2=1
   ·rw[Ln hb] at HC
    go_wp2_with (go_at_call 130;refine HC.mono ?_;rintro e w' ⟨rfl,rfl⟩)
    go_roundg (64 - (k+1))
    case rel=>go_light;exact⟨k+1,m+1,by omega,rfl,by go_num,by go_num,by omega,by omega,rfl⟩
    case measure=>go_light;omega
   ·rw[Lj hb] at HC
    go_wp2_with (go_at_call 130;refine HC.mono ?_;rintro e w' ⟨rfl,rfl⟩)
    go_roundg (64 - (k+1))
    case rel=>go_light;exact⟨k+1,m,by omega,rfl,by go_num,rfl,by omega,by omega,rfl⟩
    case measure=>go_light;omega
  ·obtain rfl:k=64:=by omega
   clear hk hlt;go_wp2
   go_ret
   refine⟨?_,rfl⟩
   rw[<-hs]
   rfl
end Pl
def cntU(p:Nat->Bool):Nat->Nat
 | 0=>0
 | n+1=>cntU p n+(if p n then 0 else 1)
theorem QcS{p:Nat->Bool}{n:Nat}(h:cntU p n=0) : ∀k,k<n->p k=true:=by
 induction n with
 | zero=>intro k hk;omega
 | succ n ih =>
  intro k hk;simp only[cntU] at h
  by_cases hp:p n=true
  ·by_cases e:k=n
   ·rw[e];exact hp
   ·exact ih (by omega) k (by omega)
  ·rw[Le hp] at h;omega
theorem Om{p q:Nat->Bool}{n:Nat}(h : ∀k,k<n->p k=q k):cntU p n=cntU q n:=by
 induction n with
 | zero=>rfl
 | succ n ih=>simp only[cntU];rw[ih (fun k hk=>h k (by omega)),h n (by omega)]
theorem QbC{p q:Nat->Bool}{i:Nat}(hp:p i=false)(hq:q i=true)(hne : ∀k,k≠i->q k=p k) : ∀n,i<n->cntU q n+1=cntU p n
 | 0,h=>by omega
 | n+1,h=>by
  simp only[cntU]
  by_cases e:i=n
  ·subst e;rw[hp,hq,Om (fun k hk=>hne k (by omega))]
   simp
  ·have:=QbC hp hq hne n (by omega)
   rw[hne n (fun h=>e h.symm)];omega
theorem QcR(n:Nat):cntU (fun _=>false) n=n:=by
 induction n with
 | zero=>rfl
 | succ n ih=>simp only[cntU,ih];rfl
def Qa2(St:Nat->Oper->Prop):Nat->List Oper->Prop
 | _,[]=>True
 | n,o::r=>St n o∧Qa2 St (n+1) r
theorem Ox{St:Nat->Oper->Prop} : ∀ {l:List Oper} {n j:Nat} {o:Oper},Qa2 St n l->l[j]? = some o->St (n+j) o
 | _::_,n,0,o,h,e=>by simp at e;subst e;exact h.1
 | _::r,n,j+1,o,h,e=>by
  have:=Ox (l:=r) (j:=j) h.2 (by simpa using e)
  rw[show n+(j+1)=n+1+j by omega];exact this
 | [],_,_,_,_,e=>by simp at e
theorem Qdq{xs:Array Edge}{p:Edge->Bool}(h:xs.toList.any p=true) : ∃e,e∈xs∧p e=true:=by
 obtain⟨e,he,hp⟩:=List.any_eq_true.1 h;exact⟨e,by simpa using he,hp⟩
theorem QbU(a:Act)(d:Nat)(v:Value)(h:d<a.tmps.size):(a.put (some d) v).tmps.getD d undef=v:=by
 simp[Act.put,h]
theorem UQ(a:Act)(d t:Nat)(v:Value)(h:d≠t):(a.put (some d) v).tmps.getD t undef=a.tmps.getD t undef:=by
 simp only[Act.put]
 by_cases ht:t<a.tmps.size
 ·simp[Array.getD,ht,h]
 ·simp[Array.getD,ht]
def UI(a:Act):List Nat->List Value->Act
 | t::sl,v::vs=>UI (a.put (some t) v) sl vs
 | _,_=>a
theorem QaO : ∀(sl:List Nat) (vs:List Value) (a:Act),(UI a sl vs).defers=a.defers
 | [],_,_=>rfl
 | _::_,[],_=>rfl
 | t::sl,v::vs,a=>by rw[UI,QaO sl vs];rfl
theorem Qc6 : ∀(sl:List Nat) (vs:List Value) (a:Act),(UI a sl vs).tmps.size=a.tmps.size
 | [],_,_=>rfl
 | _::_,[],_=>rfl
 | t::sl,v::vs,a=>by rw[UI,Qc6 sl vs];simp[Act.put]
theorem Ou : ∀(sl:List Nat) (vs:List Value) (a:Act) (t:Nat),sl.contains t=false->(UI a sl vs).tmps.getD t undef=a.tmps.getD t undef
 | [],_,_,_,_=>rfl
 | _::_,[],_,_,_=>rfl
 | u::sl,v::vs,a,t,h=>by
  simp only[List.contains_cons,Bool.or_eq_false_iff,beq_eq_false_iff_ne] at h;rw[UI,Ou sl vs _ t h.2,UQ _ _ _ _ (fun e=>h.1 e.symm)]
theorem Tryz.infoS:(prog.info? 9).map (fun i=>(i.zero,i.size,i.bytes))=some (some (.string ByteArray.empty),1,16):=by kernel_rfl
theorem YO(w:World)(s:BA)(hs:s.size<=9223372036854775807):RdS (w.alloc (.cells #[.string s] 9)) (some ⟨w.heap.size,0,none⟩) w.heap.size 0 1 [s] :=
 ⟨rfl,fun _=>rfl,Qu w [.string s] 9,fun x hx=>by simp at hx;subst hx;exact hs⟩
def Qk(w:World)(B:Nat)(v:Value)(ss:LB):Prop:=w.ownsRow B 9 1 v ss.length (ss.map Value.string)
abbrev Ro(f:FuncId)(a:Array Value)(W:World)(X:LB):Prop:=Calls prog f a W fun e w'=>∃v,e = .returned v∧Qk w' W.heap.size v X∧Zb W w'
theorem Qt{w:World}{B:Nat}{v:Value}{ss:LB}(h:Qk w B v ss)(hs : ∀s∈ss,s.size<=9223372036854775807) : ∃ao b cap,v = .slice ao ss.length cap∧RdS w ao b 0 ss.length ss∧ss.length<=cap∧(ao=none->cap=0):=by
 obtain⟨h1,h2⟩:=h
 rcases h2 with ⟨hv,h0⟩|⟨g,cap,cur,rfl,hg,hh,hc1,hc,hsz,ht⟩
 ·have:ss=[]:=List.length_eq_zero_iff.1 h0;subst this;exact⟨none,0,0,by rw[hv];rfl,⟨rfl,fun h=>absurd h (NG 0),(fun j v h=>by cases h),hs⟩,Ld _,fun _=>rfl⟩
 ·refine⟨some ⟨g,0,none⟩,g,cap,rfl,⟨rfl,fun _=>rfl,fun j v hj => ?_,hs⟩,hc1,fun h=>by cases h⟩
  rw[Lr,cell_of_row w g j cur 9 (0,0) hh];rw[<-ht,Nc] at hj
  split at hj
  ·simpa using hj
  ·cases hj
theorem QE(w:World){ops:Array Oper}{rest:List Oper}{o:Oper}{a:Act}{Q:Exit->Act->World->Prop}
  (hg:o.guard=none) (s x:Operand) (hop:o.op=Op.call { callee:=Callee.builtin Builtin.append,args:=#[s,x],argTypes:=#[22,22] })
  (B:Nat) (v:Value) (L:LB) (hs:a.eval s=v) (hown:Qk w B v L) (ao:OA) (b off cap:Nat) (M:LB) (hx:a.eval x = .slice ao M.length cap) (hr:RdS w ao b off M.length M) (hn:ao=none->cap=0)
  (hlen:L.length+M.length<=8796093022208) (hB:B<=w.heap.size)
  (hK : ∀v' w',Qk w' B v' (L++M)->Below B w w'->wpList prog ops Q rest (a.put o.dst v') w'):wpList prog ops Q (o::rest) a w:=by
 obtain⟨i0,hi,xC,xD,xE⟩:=info_parts Tryz.infoS;have xB : ∀k,v.ownBlock=some k->B<=k:=by
  obtain⟨_,h2⟩:=hown
  rcases h2 with ⟨rfl,_⟩|⟨g,cp,cur,rfl,hg,_⟩
  ·intro k hk;cases hk
  ·intro k hk;cases hk;exact hg
 cases ao with
 | none =>
  obtain rfl:=hn rfl;have hM:M=[]:=by
   cases M with
   | nil=>rfl
   | cons m r=>exact absurd (hr.ptr (by simp)) (by simp)
  subst hM;refine wpList_append_own_none hg s x _ hop B 9 i0 1 underlying22 hi _ _ _ hs hown hx (hK _ w ?_ (Lb _ _))
  rw[Na];exact hown
 | some ad =>
  have xA : ∀j u,(M.map Value.string)[j]? = some u->w.cell? (ad.add j)=some u:=fun j u hu=>by
   have hj:j<M.length:=by have:=(List.getElem?_eq_some_iff.1 hu).1;rwa [Lx] at this
   have:=Nx (hr.ptr (by omega))
   subst this;rw[Addr.add_mid];exact hr.rng j u hu
  refine wpList_append_own w hg s x _ hop B 9 i0 (.string ByteArray.empty) 1 16 underlying22 hi xC xD xE rfl (by decide) _ _ _ hs hown ad M.length cap (M.map Value.string) hx (by simp) xA (by intro u hu;obtain⟨y,_,rfl⟩:=List.mem_map.1 hu;rfl) (by unfold maxLen;omega) (by omega) hB ?_
  intro v' w' h1 h2 _;refine hK v' w' ?_ ((Lb _ _).grown h2 hB xB)
  rw[Qk,Lg,L8];exact h1
theorem Y0{w:World}{B:Nat}{v:Value}{l:LB}(h:Qk w B v l)(o:Obj):Qk (w.alloc o) B v l:=by
 obtain⟨h1,h2⟩:=h;refine⟨h1,?_⟩
 rcases h2 with h2|⟨g,cap,cur,rfl,hg,hh,r⟩
 ·exact .inl h2
 ·exact .inr ⟨g,cap,cur,rfl,hg,by rw[Below.heap_alloc _ _ _ (Array.getElem?_eq_some_iff.1 hh).1];exact hh,r⟩
theorem Qm{w W:World}{B B':Nat}{v:Value}{l:LB}(h:Qk w B v l)(hb:Below B' w W)(hB:w.heap.size<=B'):Qk W B v l:=by
 obtain⟨h1,h2⟩:=h;refine⟨h1,?_⟩
 rcases h2 with h2|⟨g,cap,cur,rfl,hg,hh,r⟩
 ·exact .inl h2
 ·exact .inr ⟨g,cap,cur,rfl,hg,by rw[hb.block g (L5 (Array.getElem?_eq_some_iff.1 hh).1 hB)];exact hh,r⟩
theorem Qcc{w:World}{B:Nat}{v:Value}{l:LB}(h:Qk w B v l)(h0:0<l.length) : ∃g cap,v = .slice (some ⟨g,0,none⟩) l.length cap∧B<=g∧l.length<=cap∧cap<=maxLen:=by
 obtain⟨h1,h2⟩:=h
 rcases h2 with ⟨_,h2⟩|⟨g,cap,cur,hv,hg,_,hc,hm,_⟩
 ·omega
 ·exact⟨g,cap,hv,hg,hc,hm⟩
theorem Ul{w:World}{B g n cap:Nat}{l:LB}(h:Qk w B (.slice (some ⟨g,0,none⟩) n cap) l){j:Nat}(hj:j<l.length):w.cell? ⟨g,j,none⟩=some (.string (l.getD j ByteArray.empty))∧w.frozen? ⟨g,j,none⟩=false:=by
 obtain⟨h1,h2⟩:=h
 rcases h2 with ⟨h2,_⟩|⟨g',cap',cur,hv,hg,hh,hc,hm,hz,ht⟩
 ·cases h2
 ·obtain⟨e1,e2,e3⟩:=Iq hv
  cases e1;refine⟨?_,frozen_of_row w g j cur 9 hh⟩
  rw[cell_of_row w g j cur 9 (0,0) hh];have:(cur.toList.take (l.length*1))[j]? = some (.string (l.getD j ByteArray.empty)):=by
   rw[ht];simp[List.getElem?_eq_getElem hj,List.getD_eq_getElem?_getD]
  rw[IB (by omega)] at this
  simpa using this
theorem Um(w:World)(B:Nat):Qk w B (.slice none 0 0) []:=⟨rfl,.inl ⟨rfl,rfl⟩⟩
def nd(c:Nat)(L:LB):Nat->Nat->BA
 | 0,i=>dg c (Qh (L.getD i ByteArray.empty))
 | h+1,i=>dg c (QH (nd c L h (2*i)) (nd c L h (2*i+1)))
theorem Q7{c:Nat}(hc:c<=32)(L:LB)(h i:Nat):(nd c L h i).size=c:=by
 cases h with
 | zero=>rw[nd,Q6 hc]
 | succ h=>rw[nd,Q6 hc]
theorem OQ{c:Nat}{L M:LB} : ∀(h i j:Nat),(∀t,t<2^h->L.getD (i*2^h+t) ByteArray.empty=M.getD (j*2^h+t) ByteArray.empty)->nd c L h i=nd c M h j
 | 0,i,j,e=>by
  have:=e 0 (by decide)
  simp only[Nat.pow_zero,Nat.mul_one,Nat.add_zero] at this;rw[nd,nd,this]
 | h+1,i,j,e=>by
  have p:2^(h+1)=2*2^h:=by rw[LM];omega
  rw[nd,nd,OQ h (2*i) (2*j),OQ h (2*i+1) (2*j+1)]
  ·intro t ht;have:=e (2^h+t) (by omega)
   rw[p] at this;rw[show(2*i+1)*2^h+t=i*(2*2^h)+(2^h+t) by rw[LR,L9,IN];omega,show(2*j+1)*2^h+t=j*(2*2^h)+(2^h+t) by rw[LR,L9,IN];omega]
   exact this
  ·intro t ht;have:=e t (by omega)
   rw[p] at this;rw[show 2*i*2^h+t=i*(2*2^h)+t by rw[L9,IN],show 2*j*2^h+t=j*(2*2^h)+t by rw[L9,IN]]
   exact this
theorem Qju(L:LB)(a n t:Nat)(h:t<n):((L.drop a).take n).getD t ByteArray.empty=L.getD (a+t) ByteArray.empty:=by
 rw[La,La,IB h,Np]
theorem QjN(c:Nat)(L:LB)(h i:Nat):nd c ((L.drop (i*2^h)).take (2^h)) h 0=nd c L h i :=
 OQ h 0 i fun t ht=>by rw[Nat.zero_mul,Lr,Qju _ _ _ _ ht]
def pks(c:Nat)(L:LB):Nat->LB
 | 0=>[]
 | h+1=>(if L.length / 2^h % 2=1 then [nd c L h (L.length / 2^h - 1)] else [])++pks c L h
theorem Qbe{c:Nat}{L:LB}{h:Nat}(e:L.length / 2^h % 2=1):pks c L (h+1)=nd c L h (L.length / 2^h - 1)::pks c L h:=by rw[pks,Lm e];rfl
theorem OZ{c:Nat}{L:LB}{h:Nat}(e:L.length / 2^h % 2≠1):pks c L (h+1)=pks c L h:=by rw[pks,Le e];rfl
theorem Qbd(c:Nat)(L:LB) : ∀h,(pks c L h).length<=h
 | 0=>Ld _
 | h+1=>by
  have:=Qbd c L h
  by_cases e:L.length / 2^h % 2=1
  ·rw[Qbe e,Lt];omega
  ·rw[OZ e];omega
theorem Qcf{c:Nat}(hc:c<=32)(L:LB) : ∀h,∀s∈pks c L h,s.size=c
 | 0=>by intro s hs;cases hs
 | h+1=>by
  intro s hs;have:=Qcf hc L h
  by_cases e:L.length / 2^h % 2=1
  ·rw[Qbe e] at hs
   rcases List.mem_cons.1 hs with rfl|hs
   ·exact Q7 hc _ _ _
   ·exact this s hs
  ·rw[OZ e] at hs;exact this s hs
theorem Qhx{n h:Nat}(e:n<2^h):n / 2^h % 2≠1:=by rw[Wk e];decide
theorem Qgv{n g s:Nat}(h:s<g):n % 2^g / 2^s % 2=n / 2^s % 2:=by
 obtain⟨d,rfl⟩ : ∃d,g=s+(d+1):=⟨g - s - 1,by omega⟩
 rw[Wh,Nat.mod_mul_right_div_self,LM,Nb,Nat.mod_mul_right_mod]
theorem Qhk{n g s:Nat}(h1:2^s<=n % 2^g)(h2:n % 2^g<2^(s+1)):s<g∧n / 2^s % 2=1∧n % 2^g=n % 2^(s+1)∧n % 2^(s+1)=2^s+n % 2^s:=by
 have xA:s<g:=by
  apply Nat.lt_of_not_le
  intro hle;have:=L7 (n:=2) (by decide) hle
  have:=ID n (LQ g);omega
 have e1:n % 2^g=n % 2^(s+1):=by
  have:=Nat.mod_mod_of_dvd n (Wq 2 (show s+1<=g by omega))
  rw[<-this,NI h2]
 rw[e1] at h1 h2;have e2:n / 2^s % 2=1:=by
  rw[<-Qgv (show s<s+1 by omega)]
  have:n % 2^(s+1) / 2^s=1:=by
   have hp:2^(s+1)=2^s*2:=LM ..;rw[Wr (LQ s)];generalize n % 2^(s+1)=m at *;omega
  rw[this]
 refine⟨xA,e2,e1,?_⟩
 rw[LM,Ws,e2];omega
theorem QeX{n s:Nat}(e:n / 2^s % 2=1):(n / 2^s - 1)*2^s=n - n % 2^(s+1)∧1<=n / 2^s:=by
 have h1:1<=n / 2^s:=by
  generalize n / 2^s=x at *;omega
 refine⟨?_,h1⟩
 have:=I3 n (2^s);rw[LM,Ws,e,Nat.sub_mul,Nb (n / 2^s)];omega
theorem QkS{n h k:Nat} : k<n / 2^h↔(k+1)*2^h<=n:=by
 rw[Nat.lt_iff_add_one_le,IR (LQ h)]
def Ur(c:Nat)(L:LB)(h m:Nat):LB:=(List.range m).map (nd c L h)
theorem YK(c:Nat)(L:LB)(h m:Nat):(Ur c L h m).length=m:=by simp[Ur]
theorem Qd6(c:Nat)(L:LB)(h m:Nat){j:Nat}(hj:j<m):(Ur c L h m).getD j ByteArray.empty=nd c L h j:=by
 simp[Ur,List.getD_eq_getElem?_getD,hj]
theorem Qdc(c:Nat)(L:LB)(h m:Nat):Ur c L h m++[nd c L h m]=Ur c L h (m+1):=by
 simp[Ur,List.range_succ]
end Go.Proofs.YtdocjikpcbmcgaaGreatDoor
