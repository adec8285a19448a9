/- Own work. -/
import Derived.Deep.Onto
import Derived.Laws.AppendOwnNone
import Derived.Handy
import Derived.Test.YtoblgjledefdbabGreatDoorRows
import Derived.BigQuiet
import Derived.Test.YtoblgjledefdbabGreatDoorQs01
set_option maxRecDepth 100000
set_option maxHeartbeats 2000000
namespace Go.Proofs.YtoblgjledefdbabGreatDoor
open Go.RowKit
attribute [local go_sem ↓] Go.wp_at_zero Go.wp_at_succ
open Go.Proofs.Tryz
theorem Qc2{blk:List Int}(h:blk.length=64){u:Nat}(hu:u<64):Jo blk u=(blk.take u++[128])++List.replicate (64-(u+1)) 0:=by
 unfold Jo
 congr 1
 apply List.ext_getElem?
 intro i
 by_cases hi:i<u
 ·rw[Nf,Lo (by omega),IB (by omega),LG (by simp;omega),Nf,Lo hi]
 ·by_cases hi2:i=u
  ·subst hi2;rw[Nf,Lo (by omega),List.getElem?_set_self (by omega),LW (by simp;omega)]
   have:(blk.take i).length=i:=by simp;omega
   rw[this,NK];rfl
  ·rw[Nf,Le (by omega),NU]
   simp;omega
theorem QcX{rs st blk blk':List Int}{n:Nat}(h:blk.length=64)(h':blk'.length=64)(he:blk.take (n%64)=blk'.take (n%64)):QX rs st blk n=QX rs st blk' n:=by
 have:Jo blk (n%64)=Jo blk' (n%64):=by rw[Qc2 h (ID _ (by decide)),Qc2 h' (ID _ (by decide)),he]
 unfold QX;rw[this]
def shaT(rs t:List Int):List Int:=UJ (QX rs (stN rs IV t (t.length/64)) (pad (t.drop (64*(t.length/64)))) t.length) 8
def JG(rs t:List Int):BA:=QT (shaT rs t)
theorem Qng(w:World)(p:Nat)(rs t:List Int)(hh:Hst w p rs IV t)(hrl:rs.length=64)(hr:w.rangeAt 2 0 (cW rs)) :
  Calls prog 216 #[Zv p] w fun e w'=>e= .returned (.string (JG rs t))∧Below w.heap.size w w':=by
 obtain⟨st,blk,h1,h2,h3⟩:=hh;refine(Qnf w p st blk t.length h1 rs hrl hr).mono fun e w' ⟨he,hb⟩=>⟨?_,hb⟩
 have hd:(t.drop (64*(t.length/64))).length=t.length%64:=by rw[LD];omega
 have e:QX rs st blk t.length=QX rs (stN rs IV t (t.length/64)) (pad (t.drop (64*(t.length/64)))) t.length:=by
  rw[<-h2];refine QcX h1.blkl (Y8 (by omega)) ?_
  rw[h3,pad,LH (by omega),Lu (by omega)]
 rw[he,JG,shaT,e]
theorem Qmv(w:World)(rs:List Int):Hst (w.alloc (.cells ((cW IV++cB (List.replicate 64 0))++[Value.int .u64 0]).toArray 306)) w.heap.size rs IV []:=by
 have r:=Qq w ((cW IV++cB (List.replicate 64 0))++[Value.int .u64 0]) 306;have q:=Qm w ((cW IV++cB (List.replicate 64 0))++[Value.int .u64 0]).toArray 306 73 (by simp[Ql,Qu,IV])
 refine⟨IV,List.replicate 64 0,⟨rfl,by simp,?_,?_,?_,q⟩,rfl,rfl⟩
 ·intro j v hv;have hj:j<8:=(List.getElem?_eq_some_iff.1 hv).1
  exact r j v (by rw[LG (by simp[Ql,Qu,IV];omega),LG (by simp[Ql,IV];omega)];exact hv)
 ·intro j v hv;have hj:j<64:=by have:=(List.getElem?_eq_some_iff.1 hv).1;simpa [Qu] using this
  have:=r (8+j) v (by rw[LG (by simp[Ql,Qu,IV];omega),LW (by simp[Ql,IV])];simpa [Ql,IV] using hv)
  rwa [Lp] at this
 ·exact r 72 _ rfl
def Qdj:Obj := .cells ((cW IV++cB (List.replicate 64 0))++[Value.int .u64 0]).toArray 306
theorem Qmw(w:World):Calls prog 214 #[] w fun e w'=>e= .returned (Zv w.heap.size)∧w'=w.alloc Qdj:=Qdk w
def Qj(ss:LB):List Int:=(ss.map tB).flatten
theorem UB(ss:LB)(k:Nat)(hk:k<ss.length):Qj (ss.take (k+1))=Qj (ss.take k)++tB (ss.getD k ByteArray.empty):=by
 have e:ss.getD k ByteArray.empty=ss[k]:=by rw[La,Ld hk];rfl
 unfold Qj;rw[LQ hk,Nd,N5,e];simp only[List.map_cons,List.map_nil,List.flatten_cons,List.flatten_nil,List.append_nil]
theorem Oy(ss:LB)(k:Nat):(Qj (ss.take k)).length<=(Qj ss).length:=by
 have:Qj ss=Qj (ss.take k)++Qj (ss.drop k):=by
  unfold Qj;rw[<-N5,<-Nd,Nu]
 rw[this,Lh];omega
theorem Qdq(w:World)(ao:OA)(b off len cap:Nat)(ss:LB)(hl:ss.length=len)(hao:0<len->ao=some ⟨b,off,none⟩)(hs:w.rangeAt b off (ss.map Value.string))
  (hmx:len<=9223372036854775807) (rs:List Int) (hrl:rs.length=64) (hr:w.rangeAt 2 0 (cW rs)) (hlen:(Qj ss).length<4611686018427387904) :
  Calls prog 152 #[.slice ao len cap] w fun e w'=>e= .returned (.string (JG rs (Qj ss)))∧Below w.heap.size w w':=by
 have h1w:2<w.heap.size:=QH hr (by intro h;have:=LZ List.length h;simp[Ql,hrl] at this)
 have hn0:Hst (w.alloc Qdj) w.heap.size rs IV []:=Qmv w rs;have hb0:Below w.heap.size w (w.alloc Qdj):=(Lc _ _).alloc (Lb _) _
 go_enter func152,ntmps152
 go_wp2_with (go_at_call 214;refine(Qmw _).mono ?_;rintro e w' ⟨rfl,rfl⟩)
 generalize w.alloc Qdj=w1 at *
 go_loopg [9] len (fun g i wr=> ∃k:Nat,k<=len∧g=len-k∧i= .int .i64 k∧Hst wr w.heap.size rs IV (Qj (ss.take k))∧Below w.heap.size w wr)
 case atStart=>go_light;exact⟨0,Lm _,rfl,rfl,hn0,hb0⟩
 case round=>
  clear hn0 hb0;obtain⟨k,hk,rfl,rfl,hh,hb⟩:=hrel;have hrr:wr.rangeAt 2 0 (cW rs):=Qk hb h1w hr
  by_cases hlt:k<len
  ·obtain rfl:=hao (by omega)
   have hk':k<ss.length:=by omega
   have hbl:b<w.heap.size:=QH hs (by intro h;have:=LZ List.length h;rw[LI,Ip] at this;omega)
   have ck:wr.cell? ⟨b,off+k,none⟩=some (.string (ss.getD k ByteArray.empty)):=by
    rw[hb.cell (p:=⟨b,off+k,none⟩) hbl];exact hs k _ (by simp[List.getElem?_eq_getElem hk',List.getD_eq_getElem?_getD])
   have hz:(k:Int)<(len:Int):=by omega
   have hsz:(Qj (ss.take (k+1))).length<=(Qj ss).length:=Oy _ _;have hfs:=UB ss k hk';have hln:(Qj (ss.take k)).length+(ss.getD k ByteArray.empty).size<4611686018427387904:=by
    rw[hfs,Lh,Yc] at hsz;omega
   have hw:=Qau wr w.heap.size rs IV (Qj (ss.take k)) (ss.getD k ByteArray.empty) hrl hrr hh hln;rw[<-hfs] at hw;have HB:Hid (Below w.heap.size w wr):=hb;have HZ:Hid (w.heap.size<=wr.heap.size):=hb.size;clear hfs hsz hln hh hb hs hao;generalize ss.getD k ByteArray.empty=part at *
   go_wp2_with (go_at_call 215;refine hw.mono ?_;rintro e w' ⟨rfl,hh',hg'⟩)
   go_roundg (len-(k+1))
   case rel=>go_light;exact⟨k+1,by omega,rfl,by go_num,hh',HB.out.grown hg' HZ.out (fun j hj=>by cases hj;exact Lb _)⟩
   case measure=>go_light;omega
  ·obtain rfl:k=len:=by omega
   have hz:¬(k:Int)<(k:Int):=by omega
   have hsum:=Qng wr w.heap.size rs _ hh hrl hrr;rw[Lu (by omega)] at hsum
   have HB:Hid (Below w.heap.size w wr):=hb;have HZ:Hid (w.heap.size<=wr.heap.size):=hb.size;clear hh hb
   go_wp2_with (go_at_call 216;refine hsum.mono ?_;rintro e w' ⟨rfl,hb'⟩)
   go_ret
   exact⟨rfl,HB.out.trans (hb'.mono HZ.out)⟩
def RS:List Int:=[1116352408,1899447441,3049323471,3921009573,961987163,1508970993,2453635748,2870763221,3624381080,310598401,607225278,1426881987,1925078388,2162078206,2614888103,3248222580,3835390401,4022224774,264347078,604807628,770255983,1249150122,1555081692,1996064986,2554220882,2821834349,2952996808,3210313671,3336571891,3584528711,113926993,338241895,666307205,773529912,1294757372,1396182291,1695183700,1986661051,2177026350,2456956037,2730485921,2820302411,3259730800,3345764771,3516065817,3600352804,4094571909,275423344,430227734,506948616,659060556,883997877,958139571,1322822218,1537002063,1747873779,1955562222,2024104815,2227730452,2361852424,2428436474,2756734187,3204031479,3329325298]
theorem Jp:RS.length=64:=rfl
theorem Qa{w W w2:World}(h:Below w.heap.size w W)(h2:Below W.heap.size W w2):Below w.heap.size w w2:=h.trans (h2.mono h.size)
theorem bal{w W:World}(h:Below w.heap.size w W)(o:Obj):Below w.heap.size w (W.alloc o):=h.alloc h.size o
theorem Qi{B:Nat}{a w:World}(h:Below B a w)(n:Nat):Below B a (w.drewN n):=⟨h.os,h.tape,h.output,h.size,h.block⟩
theorem Qee{l:List Int}(h:0<l.length):cW l≠[]:=by
 intro e;have:=LZ List.length e;rw[Ql,Ip] at this;omega
structure Tb(w:World):Prop where
 rs:w.rangeAt 2 0 (cW RS)
theorem Tb.next{w W:World}(h:Tb w)(hb:Below w.heap.size w W):Tb W :=
 ⟨Qk hb (QH h.rs (Qee (by rw[Jp];decide))) h.rs⟩
def clk(k:Int):Nat:=if k<1 then 1 else if 32<k then 32 else k.toNat
theorem Qof(k:Int):1<=clk k:=by
 unfold clk
 split
 ·omega
 ·split <;> omega
theorem Qn(k:Int):clk k<=32:=by
 unfold clk
 split
 ·omega
 ·split <;> omega
theorem Qea(w:World)(k:Int)(x:Int)(hx:(clk k:Int)=x) :
  Calls prog 153 #[.int .i64 k] w fun e w'=>e= .returned (.int .i64 x)∧w'=w:=by
 subst hx;unfold clk
 go_enter func153,ntmps153
 by_cases h1:k<1
 ·have e1:¬(1<=k):=by omega
  rw[Lo h1];clear h1;go_wp2
  go_ret
  simp
 ·by_cases h2:32<k
  ·have e1:1<=k:=by omega
   have e2:¬(k<=32):=by omega
   rw[Le h1,Lo h2];clear h1 h2;go_wp2
   go_ret
   simp
  ·have e1:1<=k:=by omega
   have e2:k<=32:=by omega
   have e3:(k.toNat:Int)=k:=by omega
   rw[Le h1,Le h2,e3];clear h1 h2;go_wp2
   go_ret
   simp
theorem YW(x:Int):(QT [x]).size=1:=rfl
theorem Js(w:World)(x:Int):(convert 83 9 (.slice (Zp w.heap.size) 1 1)).run prog (w.alloc (.cells #[.int .u8 x] 5))= .ok (.string (QT [x])) (w.alloc (.cells #[.int .u8 x] 5)) :=
 Qbc _ _ [x] 1 rfl (Qq w (cB [x]) 5)
theorem QcN(l:List Int):(QT l).size=l.length:=by
 have:∀(l:List Int) (r:BA),(l.foldl (fun r n=>r.push (UInt8.ofNat n.toNat)) r).size=r.size+l.length:=by
  intro l
  induction l with
  | nil=>intro r;rfl
  | cons x t ih=>intro r;rw[List.foldl_cons,ih,ByteArray.size_push,LJ];omega
 rw[QT,this];simp
theorem UP(rs t:List Int):(JG rs t).size=32:=by rw[JG,QcN,shaT,QbI]
def Qw(s:BA):BA:=QT [0]++s
def Qz(a b:BA):BA:=(QT [1]++a)++b
def Jn(a b:BA):BA:=(QT [2]++a)++b
theorem YN(s:BA):(Qw s).size=1+s.size:=by rw[Qw,Np,YW]
theorem YO(a b:BA):(Qz a b).size=1+a.size+b.size:=by rw[Qz,Np,Np,YW]
theorem JK(a b:BA):(Jn a b).size=1+a.size+b.size:=by rw[Jn,Np,Np,YW]
def dg(c:Nat)(t:BA):BA:=(JG RS (tB t)).extract 0 c
theorem Q3{c:Nat}(hc:c<=32)(t:BA):(dg c t).size=c:=by
 rw[dg,ByteArray.size_extract,UP];omega
theorem Qm7(w:World)(ht:Tb w)(t:BA)(hs:t.size<4611686018427387904) :
  Calls prog 152 #[.slice (Zp w.heap.size) 1 1] (w.alloc (.cells #[.string t] 9)) fun e w'=>e= .returned (.string (JG RS (tB t)))∧Below w.heap.size w w':=by
 have e:Qj [t]=tB t:=by simp[Qj]
 refine(Qdq _ (Zp w.heap.size) w.heap.size 0 1 1 [t] rfl (fun _=>rfl) (Qq w [.string t] 9) (by decide) RS Jp (World.rangeAt_alloc ht.rs _) (by rw[e,Yc];exact hs)).mono fun e' w' ⟨he,hb'⟩=>⟨?_,?_⟩
 ·rw[he,e]
 ·exact((Lc _ _).alloc (Lb _) _).trans (hb'.mono (by simp))
theorem OC(w:World)(ht:Tb w)(k:Int)(t:BA)(hs:t.size<4611686018427387904)(r:BA)(hr:dg (clk k) t=r) :
  Calls prog 81 #[.int .i64 k,.string t] w fun e w'=>e= .returned (.string r)∧Below w.heap.size w w':=by
 subst hr;have HS:=Qm7 w ht t hs;unfold dg;have hz:=UP RS (tB t);generalize JG RS (tB t)=z at *;have c1:=Qof k;have c2:=Qn k;have HC:=fun W=>Qea W k (clk k) rfl
 generalize clk k=c at *;have h1:(0:Int)<=(c:Int):=by omega
 have h2:(c:Int)<=32:=by omega
 clear ht hs c1
 go_enter func81,ntmps81
 go_wp2_with (first
  | (go_at_call 152;with_reducible refine HS.mono ?_;rintro e w1 ⟨rfl,hb1⟩)
  | (go_at_call 153;with_reducible refine(HC _).mono ?_;rintro e w2 ⟨rfl,rfl⟩))
 go_ret
 exact⟨rfl,hb1⟩
theorem Qak(w:World)(s:BA)(hs:s.size<2305843009213693952) :
  Calls prog 96 #[.string s] w fun e w'=>e= .returned (.string (Qw s))∧Below w.heap.size w w':=by
 have cv:=Js w 0;unfold Qw;have hz:=YW 0;generalize QT [0]=z at *;have hns:¬(9223372036854775807<1+s.size):=by omega
 go_enter func96,ntmps96;go_wp2
 go_ret
 exact⟨rfl,bal (Lc _ _) _⟩
theorem Qal(w:World)(a b:BA)(hs:a.size<2305843009213693952)(hs2:b.size<2305843009213693952) :
  Calls prog 175 #[.string a,.string b] w fun e w'=>e= .returned (.string (Qz a b))∧Below w.heap.size w w':=by
 have cv:=Js w 1;unfold Qz;have hz:=YW 1;generalize QT [1]=z at *;have hns:¬(9223372036854775807<1+a.size):=by omega
 have hns2:¬(9223372036854775807<1+a.size+b.size):=by omega
 go_enter func175,ntmps175;go_wp2
 go_ret
 exact⟨rfl,bal (Lc _ _) _⟩
theorem Qd6(w:World)(a b:BA)(hs:a.size<2305843009213693952)(hs2:b.size<2305843009213693952)(r:BA)(hr:Jn a b=r) :
  Calls prog 154 #[.string a,.string b] w fun e w'=>e= .returned (.string r)∧Below w.heap.size w w':=by
 subst hr;have cv:=Js w 2;unfold Jn;have hz:=YW 2;generalize QT [2]=z at *;have hns:¬(9223372036854775807<1+a.size):=by omega
 have hns2:¬(9223372036854775807<1+a.size+b.size):=by omega
 go_enter func154,ntmps154;go_wp2
 go_ret
 exact⟨rfl,bal (Lc _ _) _⟩
def chk(k:Int):Int:=if k<1∨32<k then 70 else 0
theorem QB(w:World)(k:Int):Calls prog 47 #[.int .i64 k] w fun e w'=>e= .returned (.int .i64 (chk k))∧w'=w:=by
 unfold chk
 go_enter func47,ntmps47
 by_cases h1:k<1
 ·rw[Lo (.inl h1)];go_wp2
  go_ret
  simp
 ·by_cases h2:32<k
  ·rw[Lo (.inr h2)];go_wp2
   go_ret
   simp
  ·rw[Le (by omega)]
   go_wp2
   go_ret
   simp
theorem Qc{p:Prop}(h:p):Hid p:=h
theorem Tryz.infoI:(prog.info? 5).map (fun i=>(i.zero,i.size,i.bytes))=some (some (.int .u8 0),1,1):=by kernel_rfl
def OwnI(w:World)(B:Nat)(v:Value)(l:List Int):Prop:=w.ownsRow B 5 1 v l.length (cB l)
theorem Qh1{w:World}{B:Nat}{v:Value}{l:List Int}(h:OwnI w B v l)(h0:0<l.length):(convert 83 9 v).run prog w= .ok (.string (QT l)) w:=by
 have hc:=fun g=>h.cells (g:=g)
 obtain⟨h1,h2⟩:=h
 rcases h2 with ⟨rfl,h2⟩|⟨g,cap,cur,rfl,hg,hh,r⟩
 ·omega
 ·rw[run_convert_bytes_string w 83 9 5 _ _ _ underlying83 underlying5 underlying9];refine run_bytesToString w ⟨g,0,none⟩ l.length cap l ?_
  have:=run_loadCells_list (P:=prog) w ⟨g,0,none⟩ (cB l) (fun j v hv=>hc g rfl j v hv)
  rwa [Qu] at this
theorem Qkh{w:World}{B:Nat}{v:Value}{l:List Int}(h:OwnI w B v l):∀k,v.ownBlock=some k->B<=k:=by
 obtain⟨_,h2⟩:=h
 rcases h2 with ⟨rfl,_⟩|⟨g,cp,cur,rfl,hg,_⟩
 ·intro k hk;cases hk
 ·intro k hk;cases hk;exact hg
theorem Qkg(w:World)(x:Int):OwnI (w.alloc (.cells #[.int .u8 x] 5)) w.heap.size (.slice (Zp w.heap.size) 1 1) [x] :=
 ⟨rfl,.inr ⟨w.heap.size,1,#[.int .u8 x],rfl,Lb _,Lr w _,Lb _,by unfold maxLen;omega,rfl,rfl⟩⟩
theorem QaC(w:World){ops:Array Oper}{rest:List Oper}{o:Oper}{a:Act}{Q:Exit->Act->World->Prop}
  (hg:o.guard=none) (s x:Operand) (hop:o.op=Op.call { callee:=Callee.builtin Builtin.append,args:=#[s,x],argTypes:=#[83,83] })
  (B:Nat) (v:Value) (L:List Int) (hs:a.eval s=v) (hown:OwnI w B v L) (y:Int) (hx:a.eval x= .slice (Zp w.heap.size) 1 1)
  (hlen:L.length<=1000) (hB:B<=w.heap.size)
  (hK:∀v' w',OwnI w' B v' (L++[y])->Below B w w'->wpList prog ops Q rest (a.put o.dst v') w'):wpList prog ops Q (o::rest) a (w.alloc (.cells #[.int .u8 y] 5)):=by
 obtain⟨i0,hi,hz0,hz1,hz2⟩:=info_parts Tryz.infoI;refine wpList_append_own _ hg s x _ hop B 5 i0 (.int .u8 0) 1 1 underlying83 hi hz0 hz1 hz2 rfl (by decide) _ _ _ hs (World.ownsRow.alloc hown _) ⟨w.heap.size,0,none⟩ 1 1 (cB [y]) hx (by simp[cB]) ?_ (by intro u hu;simp[cB] at hu;subst hu;rfl) (by unfold maxLen;omega) (by omega) (by simp;omega) ?_
 ·intro j u hu;have hj:j=0:=by have:=(List.getElem?_eq_some_iff.1 hu).1;simp[cB] at this;exact this
  subst hj;have hu':Value.int .u8 y=u:=NN hu;subst hu';rw[Addr.add_mid,Nz]
  rfl
 ·intro v' w' h1 h2 _;refine hK v' w' ?_ (((Lc _ _).alloc hB _).trans ((Lc _ _).grown h2 (by simp;omega) (Qkh hown)))
  rw[OwnI,Lh,cB,Nd];exact h1
def nbL(n:Nat)(j:Nat):List Int:=(List.range j).map fun i=>((n/256^(7-i)%256:Nat):Int)
theorem Qdh(n j:Nat):(nbL n j).length=j:=by simp[nbL]
theorem QjZ(n j:Nat):nbL n (j+1)=nbL n j++[((n/256^(7-j)%256:Nat):Int)]:=by
 simp[nbL,List.range_succ]
theorem QkL(n k:Nat):(n:Int)/2^(8*(7-k))%256=((n/256^(7-k)%256:Nat):Int):=by
 rw[Int.natCast_emod,Int.natCast_ediv,Int.natCast_pow,Int.pow_mul]
 rfl
def QeX(n:Nat):List Int:=3::nbL n 8
def QO(n:Nat)(d:BA):BA:=QT (QeX n)++d
theorem QbR(n:Nat):(QT (QeX n)).size=9:=by rw[QcN,QeX,LJ,Qdh]
theorem Jc(n:Nat)(d:BA):(QO n d).size=9+d.size:=by rw[QO,Np,QbR]
theorem Qaq(w:World)(n:Nat)(d:BA)(hs:d.size<2305843009213693952)(r:BA)(hr:QO n d=r) :
  Calls prog 82 #[.int .u64 n,.string d] w fun e w'=>e= .returned (.string r)∧Below w.heap.size w w':=by
 subst hr;have hns:¬(9223372036854775807<9+d.size):=by omega
 have HS:=QbR n;unfold QO;obtain⟨z,HE⟩:∃z,Hid (QT (QeX n)=z):=⟨_,rfl⟩;rw[HE.out] at HS ⊢
 go_enter func82,ntmps82;go_wp2
 go_loopg [5,8] 8 (fun g v i wr=> ∃k:Nat,k<=8∧g=8-k∧i= .int .i64 k∧OwnI wr w.heap.size v (3::nbL n k)∧Below w.heap.size w wr)
 case atStart=>go_light;exact⟨0,Lm _,rfl,rfl,Qkg w 3,bal (Lc _ _) _⟩
 case round=>
  obtain⟨k,hk,rfl,rfl,hown,hb⟩:=hrel
  by_cases hlt:k<8
  ·have hz:(k:Int)<8:=by omega
   have HZ:Hid (w.heap.size<=wr.heap.size):=hb.size;have HL:Hid ((3::nbL n k).length<=1000):=by show _<=_;rw[LJ,Qdh];omega
   have HN:=Qc (QjZ n k)
   go_wp2_with (at_builtin;refine QaC _ rfl _ _ rfl w.heap.size _ (3::nbL n k) rfl hown _ rfl HL.out HZ.out ?_)
   intro v' w2 r1 r2;have HO:Hid (OwnI w2 w.heap.size v' (3::nbL n (k+1))):=by
    show OwnI _ _ _ _
    rw[HN.out,<-QkL n k];exact r1
   have HB:Hid (Below w.heap.size w w2):=hb.trans r2;clear r1 r2 hb hown HN;go_wp2
   go_roundg (8-(k+1))
   case rel=>go_light;exact⟨k+1,by omega,rfl,by go_num,HO.out,HB.out⟩
   case measure=>go_light;omega
  ·obtain rfl:k=8:=by omega
   have hcv:=Qh1 hown (by simp)
   have HB:Hid (Below w.heap.size w wr):=hb;clear hown hb hlt hk;rw[show(3::nbL n 8)=QeX n from rfl,HE.out] at hcv
   go_wp2
   go_ret
   exact⟨rfl,HB.out⟩
structure RdS(w:World)(ao:OA)(b off len:Nat)(ss:LB):Prop where
 hl:ss.length=len
 ptr:0<len->ao=some ⟨b,off,none⟩
 rng:w.rangeAt b off (ss.map Value.string)
 sz:∀s∈ss,s.size<=9223372036854775807
theorem RdS.lt{w:World}{ao:OA}{b off len:Nat}{ss:LB}(h:RdS w ao b off len ss)(h0:0<len):b<w.heap.size :=
 QH h.rng (by intro e;have:=LZ List.length e;rw[LI,Ip,h.hl] at this;omega)
theorem RdS.next{w W:World}{ao:OA}{b off len B:Nat}{ss:LB}(h:RdS w ao b off len ss)(hb:Below B w W)(hB:w.heap.size<=B):RdS W ao b off len ss:=by
 refine⟨h.hl,h.ptr,?_,h.sz⟩
 by_cases h0:0<len
 ·exact Qk hb (LL (h.lt h0) hB) h.rng
 ·have:ss=[]:=List.length_eq_zero_iff.1 (by rw[h.hl];omega)
  rw[this];intro j v hv;cases hv
theorem RdS.at{w:World}{ao:OA}{b off len:Nat}{ss:LB}(h:RdS w ao b off len ss){k:Nat}(hk:k<len):w.cell? ⟨b,off+k,none⟩=some (.string (ss.getD k ByteArray.empty)) :=
 h.rng k _ (by have:=h.hl;simp[List.getElem?_eq_getElem (show k<ss.length by omega),List.getD_eq_getElem?_getD])
theorem QI{ss:LB}{k:Nat}(hk:k<ss.length):ss.getD k ByteArray.empty∈ss:=by
 rw[La,Ld hk];exact LN _
theorem JB(w:World)(ht:Tb w)(k:Int)(s:BA)(hs:s.size<2305843009213693952)(r:BA)(hr:dg (clk k) (Qw s)=r) :
  Calls prog 55 #[.int .i64 k,.string s] w fun e w'=>e= .returned (.string r)∧Below w.heap.size w w':=by
 have HL:=Qak w s hs;have HO:Hid (∀W,Below w.heap.size w W->Calls prog 81 #[.int .i64 k,.string (Qw s)] W fun e w'=>e= .returned (.string r)∧Below W.heap.size W w'):=fun W hb=>OC W (ht.next hb) k _ (by rw[YN];omega) r hr
 clear hr ht hs;generalize Qw s=t at *
 go_enter func55,ntmps55
 go_wp2_with (first
  | (go_at_call 96;with_reducible refine HL.mono ?_;rintro e w1 ⟨rfl,hb1⟩)
  | (go_at_call 81;with_reducible refine(HO.out _ hb1).mono ?_;rintro e w2 ⟨rfl,hb2⟩))
 go_ret
 exact⟨rfl,Qa hb1 hb2⟩
theorem YU(w:World)(ht:Tb w)(k:Int)(a b:BA)(hs:a.size<2305843009213693952)(hs2:b.size<2305843009213693952)(r:BA)(hr:dg (clk k) (Qz a b)=r) :
  Calls prog 155 #[.int .i64 k,.string a,.string b] w fun e w'=>e= .returned (.string r)∧Below w.heap.size w w':=by
 have HL:=Qal w a b hs hs2;have HO:Hid (∀W,Below w.heap.size w W->Calls prog 81 #[.int .i64 k,.string (Qz a b)] W fun e w'=>e= .returned (.string r)∧Below W.heap.size W w'):=fun W hb=>OC W (ht.next hb) k _ (by rw[YO];omega) r hr
 clear hr ht hs hs2;generalize Qz a b=t at *
 go_enter func155,ntmps155
 go_wp2_with (first
  | (go_at_call 175;with_reducible refine HL.mono ?_;rintro e w1 ⟨rfl,hb1⟩)
  | (go_at_call 81;with_reducible refine(HO.out _ hb1).mono ?_;rintro e w2 ⟨rfl,hb2⟩))
 go_ret
 exact⟨rfl,Qa hb1 hb2⟩
def Qx(c:Nat):LB->BA
 | []=>ByteArray.empty
 | [p]=>p
 | p::q::r=>dg c (Jn p (Qx c (q::r)))
theorem QW{c:Nat}(hc:c<=32){M:Nat}(hM:32<=M):∀(ss:LB),(∀s∈ss,s.size<=M)->(Qx c ss).size<=M
 | [],_=>by simp[Qx]
 | [p],h=>h p (by simp)
 | p::q::r,_=>by rw[Qx,Q3 hc];omega
theorem Qcb(c:Nat)(ss:LB)(i:Nat)(h:i+1<ss.length):Qx c (ss.drop i)=dg c (Jn (ss.getD i ByteArray.empty) (Qx c (ss.drop (i+1)))):=by
 rw[LV (by omega),LV h,Qx,La,Ld (by omega)]
 rfl
theorem Qcc(c:Nat)(ss:LB)(h:0<ss.length):Qx c (ss.drop (ss.length-1))=ss.getD (ss.length-1) ByteArray.empty:=by
 rw[LV (by omega),show ss.length-1+1=ss.length by omega,Wm,Qx,La,Ld (by omega)]
 rfl
theorem UT(w:World)(ht:Tb w)(k:Int)(ao:OA)(b off len cap:Nat)(ss:LB)(hr:RdS w ao b off len ss)(hsz:∀s∈ss,s.size<=140737488351232)(hmx:len<=8796093022208)(r:BA)(hq:Qx (clk k) ss=r) :
  Calls prog 83 #[.int .i64 k,.slice ao len cap] w fun e w'=>e= .returned (.string r)∧Below w.heap.size w w':=by
 by_cases h0:len=0
 ·subst h0;have:ss=[]:=List.length_eq_zero_iff.1 hr.hl;subst this;subst hq
  go_enter func83,ntmps83;go_wp2
  go_ret
  exact⟨rfl,Lc _ _⟩
 ·have hlen:0<len:=by omega
  obtain rfl:=hr.ptr hlen;obtain⟨m,rfl⟩:∃m,len=m+1:=⟨len-1,by omega⟩
  have hc:=Qn k;have hne:¬((m:Int)+1=0):=by omega
  have cm:=hr.at (k:=m) (by omega)
  have HL:Hid (Qx (clk k) (ss.drop m)=ss.getD m ByteArray.empty):=by
   have:=Qcc (clk k) ss (by rw[hr.hl];omega)
   rw[hr.hl] at this;exact this
  have HSZ:Hid (∀d,d=Qx (clk k) ss->True):=fun _ _=>trivial
  have HM:Hid (∀j,j<m+1->(ss.getD j ByteArray.empty).size<=140737488351232):=fun j hj=>hsz _ (QI (by rw[hr.hl];exact hj))
  have HD:Hid (∀j,(Qx (clk k) (ss.drop j)).size<=140737488351232):=fun j=>QW hc (by decide) _ (fun s hs=>hsz s (Nm hs))
  have HN:Hid (∀j,j<m->Qx (clk k) (ss.drop j)=dg (clk k) (Jn (ss.getD j ByteArray.empty) (Qx (clk k) (ss.drop (j+1))))):=fun j hj=>Qcb _ _ _ (by rw[hr.hl];omega)
  have HT:Hid (Tb w):=ht;have HR:Hid (RdS w (some ⟨b,off,none⟩) b off (m+1) ss):=hr;have HQ:Hid (Qx (clk k) (ss.drop 0)=r):=hq;obtain⟨d0,hd0⟩:∃d0,ss.getD m ByteArray.empty=d0:=⟨_,rfl⟩;rw[hd0] at cm;have HL2:Hid (Qx (clk k) (ss.drop m)=d0):=by rw[<-hd0];exact HL
  clear hd0 HL ht hr hq hsz HSZ h0 hlen
  go_enter func83,ntmps83;go_wp2
  go_loopg [6,7] m (fun g x i wr=> ∃(j:Nat) (d:BA),j=g∧x= .string d∧i= .int .i64 ((j:Int)-1)∧j<=m∧Hid (Qx (clk k) (ss.drop j)=d)∧Below w.heap.size w wr)
  case atStart=>go_light;exact⟨m,d0,rfl,rfl,rfl,Lb _,HL2,Lc _ _⟩
  case round=>
   obtain⟨j,d,hg,rfl,rfl,hj,HE,hb⟩:=hrel;subst hg
   cases j with
   | zero=>
    have hz:¬((0:Int) <= -1):=by decide
    rw[show((0:Nat):Int)-1 = -1 from rfl]
    have HF:Hid (d=r):=HE.out.symm.trans HQ.out;clear HE HN HQ HM HD HR HT cm;obtain rfl:=HF.out;go_wp2
    go_ret
    exact⟨rfl,hb⟩
   | succ j=>
    have e1:((j+1:Nat):Int)-1=(j:Int):=by omega
    have hz:(0:Int)<=(j:Int):=by omega
    have hz2:(j:Int)<(m:Int)+1:=by omega
    have hjm:j<m:=by omega
    have cj:=(HR.out.next hb (Lb _)).at (k:=j) (by omega)
    have z1:=HM.out j (by omega)
    have z2:=HD.out (j+1);have hn:=HN.out j hjm;rw[HE.out] at z2 hn;generalize ss.getD j ByteArray.empty=p at *;have HG:=fun W=>Qd6 W p d (by omega) (by omega) _ rfl
    obtain⟨t,ht⟩:∃t,Jn p d=t:=⟨_,rfl⟩;have zt:=JK p d;rw[ht] at zt;simp only[ht] at HG hn;obtain⟨d',hd'⟩:∃d',dg (clk k) t=d':=⟨_,rfl⟩;have HO:Hid (∀W,Below w.heap.size w W->Calls prog 81 #[.int .i64 k,.string t] W fun e w'=>e= .returned (.string d')∧Below W.heap.size W w'):=fun W hb=>OC W (HT.out.next hb) k t (by omega) d' hd'
    have HE2:Hid (Qx (clk k) (ss.drop j)=d'):=hn.trans hd';rw[e1];clear HE hn hd' ht zt z1 z2 e1 cm HL2
    go_wp2_with (first
     | (go_at_call 154;with_reducible refine(HG _).mono ?_;rintro e w1 ⟨rfl,hb1⟩;replace hb:=Qa hb hb1;clear hb1)
     | (go_at_call 81;with_reducible refine(HO.out _ hb).mono ?_;rintro e w2 ⟨rfl,hb2⟩;replace hb:=Qa hb hb2;clear hb2))
    go_roundg j
    case rel=>go_light;exact⟨j,d',rfl,rfl,by go_num,by omega,HE2.out,hb⟩
    case measure=>go_light;omega
theorem OV(w:World)(ht:Tb w)(k:Int)(n:Nat)(ao:OA)(b off len cap:Nat)(ss:LB)(hr:RdS w ao b off len ss)(hsz:∀s∈ss,s.size<=140737488351232)(hmx:len<=8796093022208)(r:BA)(hq:dg (clk k) (QO n (Qx (clk k) ss))=r) :
  Calls prog 46 #[.int .i64 k,.int .u64 n,.slice ao len cap] w fun e w'=>e= .returned (.string r)∧Below w.heap.size w w':=by
 have hz:(Qx (clk k) ss).size<=140737488351232:=QW (Qn k) (by decide) _ hsz
 obtain⟨d,hd⟩:∃d,Qx (clk k) ss=d:=⟨_,rfl⟩;have HBg:=UT w ht k ao b off len cap ss hr hsz hmx d hd;rw[hd] at hq hz;obtain⟨t,hrt⟩:∃t,QO n d=t:=⟨_,rfl⟩;have HRt:=fun W=>Qaq W n d (by omega) t hrt
 have zt:=Jc n d;rw[hrt] at hq zt;have HO:Hid (∀W,Below w.heap.size w W->Calls prog 81 #[.int .i64 k,.string t] W fun e w'=>e= .returned (.string r)∧Below W.heap.size W w'):=fun W hb=>OC W (ht.next hb) k t (by omega) r hq
 have hb:=Lc w.heap.size w;clear hq ht hd hrt zt hz hr hsz hmx
 go_enter func46,ntmps46
 go_wp2_with (first
  | (go_at_call 83;with_reducible refine HBg.mono ?_;rintro e w1 ⟨rfl,hb1⟩;replace hb:=Qa hb hb1;clear hb1)
  | (go_at_call 82;with_reducible refine(HRt _).mono ?_;rintro e w1 ⟨rfl,hb1⟩;replace hb:=Qa hb hb1;clear hb1)
  | (go_at_call 81;with_reducible refine(HO.out _ hb).mono ?_;rintro e w2 ⟨rfl,hb2⟩;replace hb:=Qa hb hb2;clear hb2))
 go_ret
 exact⟨rfl,hb⟩
namespace Pl
def Qy:Nat->Nat->Nat
 | 0,_=>0
 | k+1,n=>n%2+Qy k (n/2)
theorem Y5(n k:Nat):n/2^(k+1)=n/2^k/2:=by
 rw[LO,LY]
theorem Qdu(k n:Nat):Qy k n<=k:=by
 induction k generalizing n with
 | zero=>exact Lb _
 | succ k ih=>have:=ih (n/2);simp only[Qy];omega
theorem Qam(k n:Nat)(hk:k<64):Qy (64-k) (n/2^k)=n/2^k%2+Qy (64-(k+1)) (n/2^(k+1)):=by
 rw[show 64-k=(64-(k+1))+1 by omega,Qy,Y5]
def pw(h:Nat):Nat:=2^h
theorem QE(h:Nat):pw (h+1)=2*pw h:=by simp[pw,Nat.pow_succ,Nat.mul_comm]
theorem Yw:pw 0=1:=rfl
theorem QA(h:Nat):0<pw h:=LM h
theorem Qao(a b:Nat):pw (a+b)=pw a*pw b:=If 2 a b
theorem OS{a b:Nat}(h:a<=b):pw a<=pw b:=Ng (by decide) h
theorem UI(j k:Nat)(h:k<2^j):Qy (j+1) k=Qy j k:=by
 induction j generalizing k with
 | zero=>simp at h;subst h;rfl
 | succ j ih=>
  rw[Qy,ih (k/2) (by rw[LO] at h;omega)];rfl
def trl:Nat->Nat->Nat
 | 0,_=>0
 | f+1,n=>if n%2=1 then trl f (n/2)+1 else 0
theorem Qe8(f n:Nat)(h:n%2=1):trl (f+1) n=trl f (n/2)+1:=by rw[trl,Lo h]
theorem Qe6(f n:Nat)(h:¬n%2=1):trl (f+1) n=0:=by rw[trl,Le h]
end Pl
section
open Pl (Qy)
def tr:Nat->Nat->Nat
 | 0,_=>0
 | k+1,n=>if n%2=1 then 0 else tr k (n/2)+1
theorem QpT(k n:Nat):tr k n<=k:=by
 induction k generalizing n with
 | zero=>exact Lb _
 | succ k ih=>have:=ih (n/2);simp only[tr];split <;> omega
theorem Qhf(k n:Nat)(hk:k<64):tr (64-k) (n/2^k)=if n/2^k%2=1 then 0 else tr (64-(k+1)) (n/2^(k+1))+1:=by
 rw[show 64-k=(64-(k+1))+1 by omega,tr,Pl.Y5]
theorem QgW(n h:Nat):n%2^(h+1)=n%2+2*(n/2%2^h):=by
 rw[LO,L3,Ik]
theorem QcZ(n h:Nat):n/2^(h+1)=n/2/2^h:=by
 rw[LO,L3,LY]
theorem Qk2:∀(F h n:Nat),h<F->(tr F n=h↔n%2^h=0∧n/2^h%2=1)
 | F+1,0,n,_=>by
  simp only[tr,Nat.pow_zero,Nat.mod_one,Nat.div_one,true_and]
  split <;> simp_all
 | F+1,h+1,n,hh=>by
  have ih:=Qk2 F h (n/2) (by omega)
  rw[QgW,QcZ];simp only[tr]
  by_cases e:n%2=1
  ·rw[Lo e,e]
   constructor
   ·intro h;omega
   ·rintro⟨h,_⟩;omega
  ·rw[Le e]
   constructor
   ·intro h1;have:=ih.1 (by omega)
    exact⟨by rw[this.1];omega,this.2⟩
   ·rintro⟨h1,h2⟩;have:=ih.2 ⟨by omega,h2⟩
    omega
theorem Qk3:∀(F h n:Nat),h<=F->(tr F n<h↔n%2^h≠0)
 | F,0,n,_=>by simp[Nat.mod_one]
 | F+1,h+1,n,hh=>by
  have ih:=Qk3 F h (n/2) (by omega)
  rw[QgW];simp only[tr]
  by_cases e:n%2=1
  ·rw[Lo e]
   constructor
   ·intro _;omega
   ·intro _;omega
  ·rw[Le e]
   constructor
   ·intro h1;have:=ih.1 (by omega)
    omega
   ·intro h1;have:=ih.2 (by omega)
    omega
def ol{α:Type}(g:Nat->Nat->α):Nat->Nat->List α
 | 0,_=>[]
 | F+1,m=>(if m/2^F%2=1 then [g F (m/2^F)] else [])++ol g F m
theorem Qmn{m F:Nat}(h:m%2^(F+1)=0):m%2^F=0∧m/2^F%2=0:=by
 rw[LO,Ik] at h;have:=LM F;refine⟨by omega,?_⟩
 rcases Nat.eq_zero_of_add_eq_zero_left h |> Nat.mul_eq_zero.1 with h|h
 ·omega
 ·exact h
theorem Qds{α:Type}(g:Nat->Nat->α):∀F m,m%2^F=0->ol g F m=[]
 | 0,_,_=>rfl
 | F+1,m,h=>by
  obtain⟨h1,h2⟩:=Qmn h;rw[ol,Le (by omega),Qds g F m h1];rfl
theorem Qdr{α:Type}(g:Nat->Nat->α):∀F h m,h<F->m%2^h=0->m/2^h%2=1->ol g F m=ol g F (m-2^h)++[g h (m/2^h)]
 | F+1,h,m,hF,h0,h1=>by
  have hp:=LM h;have hm:2^h<=m:=by
   apply NW
   intro hlt;rw[IE hlt] at h1;omega
  by_cases e:h=F
  ·subst e;have hz:(m-2^h)%2^(h+1)=0:=by
    have e1:m=2^h*(m/2^h):=by have:=Iq m (2^h);omega
    obtain⟨q,hq⟩:∃q,m/2^h=2*q+1:=⟨m/2^h/2,by omega⟩
    rw[hq,N9,Nr,<-L5] at e1;rw[e1,Ny,LO,Nat.mul_mod_right]
   rw[ol,Lo h1,Qds g h m h0,Qds g (h+1) _ hz];rfl
  ·have hlt:h<F:=by omega
   have hd:(m-2^h)/2^F=m/2^F:=by
    obtain⟨d,rfl⟩:∃d,F=h+(d+1):=⟨F-h-1,by omega⟩
    rw[If,<-LY,<-LY,LO,L3 (2^d),<-LY,<-LY];have:(m-2^h)/2^h=m/2^h-1:=by
     have:=Nat.sub_mul_div m (2^h) 1;rw[Nr] at this;exact this
    rw[this]
    congr 1
    generalize m/2^h=x at h1;omega
   rw[ol,ol,hd,Qdr g F h m hlt h0 h1,LP]
theorem JR{α:Type}(g:Nat->Nat->α):∀F m,(ol g F m).length<=F
 | 0,_=>Lb _
 | F+1,m=>by
  have:=JR g F m;rw[ol,Lh]
  split <;> simp <;> omega
theorem OM:∀F m,Qy (F+1) m=m/2^F%2+Qy F m
 | 0,m=>by simp[Qy]
 | F+1,m=>by
  rw[Qy,OM F (m/2),Qy,QcZ];omega
theorem QgZ{α:Type}(g:Nat->Nat->α):∀F m,(ol g F m).length=Qy F m
 | 0,_=>rfl
 | F+1,m=>by
  rw[ol,Lh,OM,QgZ g F m];have:=Wf (m/2^F)
  rcases this with e|e <;> rw[e] <;> simp
theorem QeI(j m:Nat)(h:m<2^j):∀d,Qy (j+d) m=Qy j m
 | 0=>rfl
 | d+1=>by
  rw[<-NR,Pl.UI (j+d) m (LL h (Ng (by decide) (by omega))),QeI j m h d]
def hts(n:Nat):List Nat:=ol (fun h _=>h) 41 n
theorem Qeq{n:Nat}(hn:n<=1099511627776):(hts n).length=Qy 64 n:=by
 rw[hts,QgZ,show 64=41+23 from rfl,QeI 41 n (by omega) 23]
theorem Qjx(n:Nat):(hts n).length<=41:=JR _ _ _
def Ye(c:Nat):Nat->Nat->LB->BA->LB×LB
 | 0,_,P,d=>([d],P++[d])
 | f+1,t,P,d=>
  if t%2=1 then
   (d::(Ye c f (t/2) (P.take (P.length-1)) (dg c (Qz (P.getD (P.length-1) ByteArray.empty) d))).1,(Ye c f (t/2) (P.take (P.length-1)) (dg c (Qz (P.getD (P.length-1) ByteArray.empty) d))).2)
  else ([d],P++[d])
theorem Uy{c f t:Nat}{P:LB}{d:BA}(h:t%2=1){d':BA}(hd:dg c (Qz (P.getD (P.length-1) ByteArray.empty) d)=d') :
  Ye c (f+1) t P d=(d::(Ye c f (t/2) (P.take (P.length-1)) d').1,(Ye c f (t/2) (P.take (P.length-1)) d').2):=by
 rw[Ye,Lo h,hd]
theorem YK{c f t:Nat}{P:LB}{d:BA}(h:t%2≠1):Ye c f t P d=([d],P++[d]):=by
 cases f with
 | zero=>rfl
 | succ f=>rw[Ye,Le h]
theorem Qfp{c:Nat}(hc:c<=32):∀(f t:Nat) (P:LB) (d:BA),(∀s∈P,s.size=c)->d.size=c->(∀s∈(Ye c f t P d).1,s.size=c)∧(∀s∈(Ye c f t P d).2,s.size=c):=by
 intro f
 induction f with
 | zero=>
  intro t P d hP hd;simp only[Ye];refine⟨fun s hs=>by simp at hs;rw[hs];exact hd,fun s hs=> ?_⟩
  rcases List.mem_append.1 hs with h|h
  ·exact hP s h
  ·simp at h;rw[h];exact hd
 | succ f ih=>
  intro t P d hP hd
  by_cases h:t%2=1
  ·rw[Uy h rfl];obtain⟨i1,i2⟩:=ih (t/2) (P.take (P.length-1)) (dg c (Qz (P.getD (P.length-1) ByteArray.empty) d)) (fun s hs=>hP s (Nn hs)) (Q3 hc _)
   refine⟨fun s hs=> ?_,i2⟩
   rcases List.mem_cons.1 hs with h|h
   ·rw[h];exact hd
   ·exact i1 s h
  ·rw[YK h];refine⟨fun s hs=>by simp at hs;rw[hs];exact hd,fun s hs=> ?_⟩
   rcases List.mem_append.1 hs with h|h
   ·exact hP s h
   ·simp at h;rw[h];exact hd
theorem Ug{h t:Nat}(ho:t%2=1):2^h*t-2^h=2^(h+1)*(t/2)∧2^(h+1)*(t/2)+2^(h+1)=2^h*t+2^h:=by
 obtain⟨q,rfl⟩:∃q,t=2*q+1:=⟨t/2,by omega⟩
 rw[show(2*q+1)/2=q by omega,LO,N9,Nr,L5]
 omega
theorem Ja(h t:Nat):2^h*t%2^h=0∧2^h*t/2^h=t:=⟨Nat.mul_mod_right _ _,IS _ (LM h)⟩
theorem QaP{α:Type}(g:Nat->Nat->α){F h t:Nat}(hF:h<F)(he:t%2≠1):ol g F (2^h*t+2^h)=ol g F (2^h*t)++[g h (t+1)]:=by
 have e:2^h*t+2^h=2^h*(t+1):=by rw[N9,Nr]
 obtain⟨a,b⟩:=Ja h (t+1);rw[e,Qdr g F h _ hF a (by rw[b];omega),b,<-e,Ny]
theorem QbF{α:Type}(g:Nat->Nat->α){F h t:Nat}(hF:h<F)(ho:t%2=1):ol g F (2^h*t)=ol g F (2^(h+1)*(t/2))++[g h t]:=by
 obtain⟨a,b⟩:=Ja h t;rw[Qdr g F h _ hF a (by rw[b];exact ho),b,(Ug ho).1]
theorem Qhr(c F:Nat):∀(f h t:Nat) (P:LB) (d:BA),h+f<F->t<2^f->P.length=(ol (fun h _=>h) F (2^h*t)).length->(Ye c f t P d).2.length=(ol (fun h _=>h) F (2^h*t+2^h)).length:=by
 intro f
 induction f with
 | zero=>
  intro h t P d hF ht hl;obtain rfl:t=0:=by simpa using ht
  rw[QaP _ (by omega) (by decide),Ye,Lh,Lh,hl];rfl
 | succ f ih=>
  intro h t P d hF ht hl
  by_cases ho:t%2=1
  ·rw[Uy ho rfl];rw[QbF _ (by omega) ho,Lh,Nb] at hl
   show(Ye c f (t/2) (P.take (P.length-1)) (dg c (Qz (P.getD (P.length-1) ByteArray.empty) d))).2.length=_
   rw[ih (h+1) (t/2) _ _ (by omega) (by rw[LO] at ht;omega) (by rw[Lv];omega),(Ug ho).2]
  ·rw[YK ho,QaP _ (by omega) ho,Lh,Lh,hl];rfl
theorem QiO(c F:Nat)(g:Nat->Nat->BA)(m:Nat)(hg:∀h t,2^h*(t+1)<=m->t%2=1->dg c (Qz (g h t) (g h (t+1)))=g (h+1) (t/2+1)):∀(f h t:Nat),h+f<F->t<2^f->2^h*t+2^h<=m ->
  (Ye c f t (ol g F (2^h*t)) (g h (t+1))).2=ol g F (2^h*t+2^h):=by
 intro f
 induction f with
 | zero=>
  intro h t hF ht hm;obtain rfl:t=0:=by simpa using ht
  rw[QaP _ (by omega) (by decide),Ye]
 | succ f ih=>
  intro h t hF ht hm
  by_cases ho:t%2=1
  ·have e1:=QbF g (F:=F) (h:=h) (t:=t) (by omega) ho
   have e2:(ol g F (2^h*t)).length-1=(ol g F (2^(h+1)*(t/2))).length:=by rw[e1];simp
   have hd:dg c (Qz ((ol g F (2^h*t)).getD ((ol g F (2^h*t)).length-1) ByteArray.empty) (g h (t+1)))=g (h+1) (t/2+1):=by
    rw[e2,e1,<-hg h t (by rw[N9,Nr];exact hm) ho]
    simp[List.getD_eq_getElem?_getD]
   rw[Uy ho hd,e2]
   show(Ye c f (t/2) ((ol g F (2^h*t)).take (ol g F (2^(h+1)*(t/2))).length) (g (h+1) (t/2+1))).2=_
   rw[e1,List.take_left' rfl,ih (h+1) (t/2) (by omega) (by rw[LO] at ht;omega) (by rw[(Ug ho).2];exact hm),(Ug ho).2]
  ·rw[YK ho,QaP _ (by omega) ho]
theorem Qhs(c F:Nat)(g:Nat->Nat->BA)(m:Nat)(hg:∀h t,2^h*(t+1)<=m->t%2=1->dg c (Qz (g h t) (g h (t+1)))=g (h+1) (t/2+1)):∀(f h t:Nat),h+f<F->t<2^f->2^h*t+2^h<=m ->
  (Ye c f t (ol g F (2^h*t)) (g h (t+1))).1=(List.range (Pl.trl f t+1)).map fun j=>g (h+j) (t/2^j+1):=by
 intro f
 induction f with
 | zero=>
  intro h t hF ht hm;obtain rfl:t=0:=by simpa using ht
  simp[Ye,Pl.trl]
 | succ f ih=>
  intro h t hF ht hm
  by_cases ho:t%2=1
  ·have e1:=QbF g (F:=F) (h:=h) (t:=t) (by omega) ho
   have e2:(ol g F (2^h*t)).length-1=(ol g F (2^(h+1)*(t/2))).length:=by rw[e1];simp
   have hd:dg c (Qz ((ol g F (2^h*t)).getD ((ol g F (2^h*t)).length-1) ByteArray.empty) (g h (t+1)))=g (h+1) (t/2+1):=by
    rw[e2,e1,<-hg h t (by rw[N9,Nr];exact hm) ho]
    simp[List.getD_eq_getElem?_getD]
   rw[Uy ho hd,e2]
   show g h (t+1)::(Ye c f (t/2) ((ol g F (2^h*t)).take (ol g F (2^(h+1)*(t/2))).length) (g (h+1) (t/2+1))).1=_
   rw[e1,List.take_left' rfl,ih (h+1) (t/2) (by omega) (by rw[LO] at ht;omega) (by rw[(Ug ho).2];exact hm),Pl.Qe8 f t ho,List.range_succ_eq_map (n:=Pl.trl f (t/2)+1),WB,List.map_map]
   simp only[Nat.pow_zero,Nat.div_one,Nat.add_zero]
   congr 1
   refine NL fun j _=> ?_
   simp only[Function.comp];rw[Nat.succ_eq_add_one,QcZ,show h+1+j=h+(j+1) by omega]
  ·rw[YK ho,Pl.Qe6 f t ho];simp
def er(k:Int)(n:Nat)(h:Int)(s:BA):Nat :=
 if (s.size:Int)≠k then 90 else if h<0∨40<h∨n%2^h.toNat≠0 then 41 else if 1099511627776<n+2^h.toNat then 30 else 0
def mk(c n:Nat)(P:LB)(h:Nat)(s:BA):LB×LB:=Ye c (40-h) (n/2^h) P s
def nxN(k:Int)(n:Nat)(h:Int)(s:BA):Nat:=if er k n h s=0 then n+2^h.toNat else n
def nxP(k:Int)(n:Nat)(P:LB)(h:Int)(s:BA):LB:=if er k n h s=0 then (mk (clk k) n P h.toNat s).2 else P
def an(k:Int)(n:Nat)(P:LB)(h:Int)(s:BA):LB:=if er k n h s=0 then (mk (clk k) n P h.toNat s).1 else []
theorem Ut{k:Int}(h1:1<=k)(h2:k<=32):(clk k:Int)=k:=by
 unfold clk;rw[Le (by omega),Le (by omega)]
 omega
end
def cntU(p:Nat->Bool):Nat->Nat
 | 0=>0
 | n+1=>cntU p n+(if p n then 0 else 1)
theorem Qcj{p:Nat->Bool}{n:Nat}(h:cntU p n=0):∀k,k<n->p k=true:=by
 induction n with
 | zero=>intro k hk;omega
 | succ n ih=>
  intro k hk;simp only[cntU] at h
  by_cases hp:p n=true
  ·by_cases e:k=n
   ·rw[e];exact hp
   ·exact ih (by omega) k (by omega)
  ·rw[Le hp] at h;omega
theorem Od{p q:Nat->Bool}{n:Nat}(h:∀k,k<n->p k=q k):cntU p n=cntU q n:=by
 induction n with
 | zero=>rfl
 | succ n ih=>simp only[cntU];rw[ih (fun k hk=>h k (by omega)),h n (by omega)]
theorem Qbb{p q:Nat->Bool}{i:Nat}(hp:p i=false)(hq:q i=true)(hne:∀k,k≠i->q k=p k):∀n,i<n->cntU q n+1=cntU p n
 | 0,h=>by omega
 | n+1,h=>by
  simp only[cntU]
  by_cases e:i=n
  ·subst e;rw[hp,hq,Od (fun k hk=>hne k (by omega))]
   simp
  ·have:=Qbb hp hq hne n (by omega)
   rw[hne n (fun h=>e h.symm)];omega
theorem Qci(n:Nat):cntU (fun _=>false) n=n:=by
 induction n with
 | zero=>rfl
 | succ n ih=>simp only[cntU,ih];rfl
def QaE(St:Nat->Oper->Prop):Nat->List Oper->Prop
 | _,[]=>True
 | n,o::r=>St n o∧QaE St (n+1) r
theorem Ol{St:Nat->Oper->Prop} : ∀ {l:List Oper} {n j:Nat} {o:Oper},QaE St n l->l[j]? = some o->St (n+j) o
 | _::_,n,0,o,h,e=>by simp at e;subst e;exact h.1
 | _::r,n,j+1,o,h,e=>by
  have:=Ol (l:=r) (j:=j) h.2 (by simpa using e)
  rw[show n+(j+1)=n+1+j by omega];exact this
 | [],_,_,_,_,e=>by simp at e
theorem QcS{xs:Array Edge}{p:Edge->Bool}(h:xs.toList.any p=true):∃e,e∈xs∧p e=true:=by
 obtain⟨e,he,hp⟩:=List.any_eq_true.1 h;exact⟨e,by simpa using he,hp⟩
theorem Qbo(a:Act)(d:Nat)(v:Value)(h:d<a.tmps.size):(a.put (some d) v).tmps.getD d undef=v:=by
 simp[Act.put,h]
theorem Uk(a:Act)(d t:Nat)(v:Value)(h:d≠t):(a.put (some d) v).tmps.getD t undef=a.tmps.getD t undef:=by
 simp only[Act.put]
 by_cases ht:t<a.tmps.size
 ·simp[Array.getD,ht,h]
 ·simp[Array.getD,ht]
def UM(a:Act):List Nat->List Value->Act
 | t::sl,v::vs=>UM (a.put (some t) v) sl vs
 | _,_=>a
theorem QaA:∀(sl:List Nat) (vs:List Value) (a:Act),(UM a sl vs).defers=a.defers
 | [],_,_=>rfl
 | _::_,[],_=>rfl
 | t::sl,v::vs,a=>by rw[UM,QaA sl vs];rfl
theorem QcB:∀(sl:List Nat) (vs:List Value) (a:Act),(UM a sl vs).tmps.size=a.tmps.size
 | [],_,_=>rfl
 | _::_,[],_=>rfl
 | t::sl,v::vs,a=>by rw[UM,QcB sl vs];simp[Act.put]
theorem Oj:∀(sl:List Nat) (vs:List Value) (a:Act) (t:Nat),sl.contains t=false->(UM a sl vs).tmps.getD t undef=a.tmps.getD t undef
 | [],_,_,_,_=>rfl
 | _::_,[],_,_,_=>rfl
 | u::sl,v::vs,a,t,h=>by
  simp only[List.contains_cons,Bool.or_eq_false_iff,beq_eq_false_iff_ne] at h;rw[UM,Oj sl vs _ t h.2,Uk _ _ _ _ (fun e=>h.1 e.symm)]
theorem Tryz.infoS:(prog.info? 9).map (fun i=>(i.zero,i.size,i.bytes))=some (some (.string ByteArray.empty),1,16):=by kernel_rfl
theorem YT(w:World)(s:BA)(hs:s.size<=9223372036854775807):RdS (w.alloc (.cells #[.string s] 9)) (Zp w.heap.size) w.heap.size 0 1 [s] :=
 ⟨rfl,fun _=>rfl,Qq w [.string s] 9,fun x hx=>by simp at hx;subst hx;exact hs⟩
def Qg(w:World)(B:Nat)(v:Value)(ss:LB):Prop:=w.ownsRow B 9 1 v ss.length (ss.map Value.string)
theorem QJ{w:World}{B:Nat}{v:Value}{ss:LB}(h:Qg w B v ss)(hs:∀s∈ss,s.size<=9223372036854775807):∃ao b cap,v= .slice ao ss.length cap∧RdS w ao b 0 ss.length ss∧ss.length<=cap∧(ao=none->cap=0):=by
 obtain⟨h1,h2⟩:=h
 rcases h2 with ⟨hv,h0⟩|⟨g,cap,cur,rfl,hg,hh,hc1,hc,hsz,ht⟩
 ·have:ss=[]:=List.length_eq_zero_iff.1 h0;subst this;exact⟨none,0,0,by rw[hv];rfl,⟨rfl,fun h=>absurd h (NB 0),(fun j v h=>by cases h),hs⟩,Lb _,fun _=>rfl⟩
 ·refine⟨Zp g,g,cap,rfl,⟨rfl,fun _=>rfl,fun j v hj=> ?_,hs⟩,hc1,fun h=>by cases h⟩
  rw[Lp,cell_of_row w g j cur 9 (0,0) hh];rw[<-ht,Nf] at hj
  split at hj
  ·simpa using hj
  ·cases hj
theorem QM(w:World){ops:Array Oper}{rest:List Oper}{o:Oper}{a:Act}{Q:Exit->Act->World->Prop}
  (hg:o.guard=none) (s x:Operand) (hop:o.op=Op.call { callee:=Callee.builtin Builtin.append,args:=#[s,x],argTypes:=#[22,22] })
  (B:Nat) (v:Value) (L:LB) (hs:a.eval s=v) (hown:Qg w B v L) (ao:OA) (b off cap:Nat) (M:LB) (hx:a.eval x= .slice ao M.length cap) (hr:RdS w ao b off M.length M) (hn:ao=none->cap=0)
  (hlen:L.length+M.length<=8796093022208) (hB:B<=w.heap.size)
  (hK:∀v' w',Qg w' B v' (L++M)->Below B w w'->wpList prog ops Q rest (a.put o.dst v') w'):wpList prog ops Q (o::rest) a w:=by
 obtain⟨i0,hi,hz0,hz1,hz2⟩:=info_parts Tryz.infoS;have hlt:∀k,v.ownBlock=some k->B<=k:=by
  obtain⟨_,h2⟩:=hown
  rcases h2 with ⟨rfl,_⟩|⟨g,cp,cur,rfl,hg,_⟩
  ·intro k hk;cases hk
  ·intro k hk;cases hk;exact hg
 cases ao with
 | none=>
  obtain rfl:=hn rfl;have hM:M=[]:=by
   cases M with
   | nil=>rfl
   | cons m r=>exact absurd (hr.ptr (by simp)) (by simp)
  subst hM;refine wpList_append_own_none hg s x _ hop B 9 i0 1 underlying22 hi _ _ _ hs hown hx (hK _ w ?_ (Lc _ _))
  rw[L7];exact hown
 | some ad=>
  have hnews:∀j u,(M.map Value.string)[j]? = some u->w.cell? (ad.add j)=some u:=fun j u hu=>by
   have hj:j<M.length:=by have:=(List.getElem?_eq_some_iff.1 hu).1;rwa [LI] at this
   have:=NN (hr.ptr (by omega))
   subst this;rw[Addr.add_mid];exact hr.rng j u hu
  refine wpList_append_own w hg s x _ hop B 9 i0 (.string ByteArray.empty) 1 16 underlying22 hi hz0 hz1 hz2 rfl (by decide) _ _ _ hs hown ad M.length cap (M.map Value.string) hx (by simp) hnews (by intro u hu;obtain⟨y,_,rfl⟩:=List.mem_map.1 hu;rfl) (by unfold maxLen;omega) (by omega) hB ?_
  intro v' w' h1 h2 _;refine hK v' w' ?_ ((Lc _ _).grown h2 hB hlt)
  rw[Qg,Lh,Nd];exact h1
theorem Q4{w:World}{B:Nat}{v:Value}{l:LB}(h:Qg w B v l)(o:Obj):Qg (w.alloc o) B v l:=by
 obtain⟨h1,h2⟩:=h;refine⟨h1,?_⟩
 rcases h2 with h2|⟨g,cap,cur,rfl,hg,hh,r⟩
 ·exact .inl h2
 ·exact .inr ⟨g,cap,cur,rfl,hg,by rw[Below.heap_alloc _ _ _ (Array.getElem?_eq_some_iff.1 hh).1];exact hh,r⟩
theorem Qv{w W:World}{B B':Nat}{v:Value}{l:LB}(h:Qg w B v l)(hb:Below B' w W)(hB:w.heap.size<=B'):Qg W B v l:=by
 obtain⟨h1,h2⟩:=h;refine⟨h1,?_⟩
 rcases h2 with h2|⟨g,cap,cur,rfl,hg,hh,r⟩
 ·exact .inl h2
 ·exact .inr ⟨g,cap,cur,rfl,hg,by rw[hb.block g (LL (Array.getElem?_eq_some_iff.1 hh).1 hB)];exact hh,r⟩
theorem QeJ{w:World}{B:Nat}{v:Value}{l:LB}(h:Qg w B v l)(h0:0<l.length):∃g cap,v= .slice (Zp g) l.length cap∧B<=g∧l.length<=cap∧cap<=maxLen:=by
 obtain⟨h1,h2⟩:=h
 rcases h2 with ⟨_,h2⟩|⟨g,cap,cur,hv,hg,_,hc,hm,_⟩
 ·omega
 ·exact⟨g,cap,hv,hg,hc,hm⟩
theorem UK{w:World}{B g n cap:Nat}{l:LB}(h:Qg w B (.slice (Zp g) n cap) l){j:Nat}(hj:j<l.length):w.cell? ⟨g,j,none⟩=some (.string (l.getD j ByteArray.empty))∧w.frozen? ⟨g,j,none⟩=false:=by
 obtain⟨h1,h2⟩:=h
 rcases h2 with ⟨h2,_⟩|⟨g',cap',cur,hv,hg,hh,hc,hm,hz,ht⟩
 ·cases h2
 ·obtain⟨e1,e2,e3⟩:=Value.slice.inj hv
  cases e1;refine⟨?_,frozen_of_row w g j cur 9 hh⟩
  rw[cell_of_row w g j cur 9 (0,0) hh];have:(cur.toList.take (l.length*1))[j]? = some (.string (l.getD j ByteArray.empty)):=by
   rw[ht];simp[List.getElem?_eq_getElem hj,List.getD_eq_getElem?_getD]
  rw[Ig (by omega)] at this
  simpa using this
theorem Uc(w:World)(B:Nat):Qg w B (.slice none 0 0) []:=⟨rfl,.inl ⟨rfl,rfl⟩⟩
end Go.Proofs.YtoblgjledefdbabGreatDoor
