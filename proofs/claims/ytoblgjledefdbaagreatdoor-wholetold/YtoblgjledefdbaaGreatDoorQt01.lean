/- Own work. -/
import Derived.Deep.Onto
import Derived.Laws.AppendOwnNone
import Derived.Handy
import Derived.Test.YtoblgjledefdbaaGreatDoorRows
import Derived.BigQuiet
import Derived.Test.YtoblgjledefdbaaGreatDoorQt00
set_option maxRecDepth 100000
set_option maxHeartbeats 2000000
namespace Go.Proofs.YtoblgjledefdbaaGreatDoor
open Go.RowKit
attribute [local go_sem ↓] Go.wp_at_zero Go.wp_at_succ
open Go.Proofs.Tryz
theorem QdN{blk:List Int}(h:blk.length=64){u:Nat}(hu:u<64):JE blk u=(blk.take u++[128])++List.replicate (64-(u+1)) 0:=by
 unfold JE
 congr 1
 apply IK
 intro i
 by_cases hi:i<u
 ·rw[LT,Lf (by omega),Iq (by omega),Ly (by simp;omega),LT,Lf hi]
 ·by_cases hi2:i=u
  ·subst hi2;rw[LT,Lf (by omega),List.getElem?_set_self (by omega),LI (by simp;omega)]
   have:(blk.take i).length=i:=by simp;omega
   rw[this,NL];rfl
  ·rw[LT,Le (by omega),Nn]
   simp;omega
theorem QdG{rs st blk blk':List Int}{n:Nat}(h:blk.length=64)(h':blk'.length=64)(he:blk.take (n%64)=blk'.take (n%64)):Q2 rs st blk n=Q2 rs st blk' n:=by
 have:JE blk (n%64)=JE blk' (n%64):=by rw[QdN h (Ia _ (by decide)),QdN h' (Ia _ (by decide)),he]
 unfold Q2;rw[this]
def shaT(rs t:List Int):List Int:=Jd (Q2 rs (stN rs IV t (t.length/64)) (pad (t.drop (64*(t.length/64)))) t.length) 8
def shaS(rs t:List Int):BA:=QY (shaT rs t)
theorem Qos(w:World)(p:Nat)(rs t:List Int)(hh:Hst w p rs IV t)(hrl:rs.length=64)(hr:w.rangeAt 3 0 (cW rs)) :
  Zr 362 #[Pq p] w (.string (shaS rs t)):=by
 obtain⟨st,xA,h1,h2,h3⟩:=hh;refine(Qor w p st xA t.length h1 rs hrl hr).mono fun e w' ⟨he,hb⟩=>⟨?_,hb⟩
 have hd:(t.drop (64*(t.length/64))).length=t.length%64:=by rw[Ni];omega
 have e:Q2 rs st xA t.length=Q2 rs (stN rs IV t (t.length/64)) (pad (t.drop (64*(t.length/64)))) t.length:=by
  rw[<-h2];refine QdG h1.blkl (Uu (by omega)) ?_
  rw[h3,pad,Lu (by omega),Lp (by omega)]
 rw[he,shaS,shaT,e]
theorem Qnv(w:World)(rs:List Int):Hst (w.alloc (.cells ((cW IV++cB (List.replicate 64 0))++[Value.int .u64 0]).toArray 428)) w.heap.size rs IV []:=by
 have r:=Qv w ((cW IV++cB (List.replicate 64 0))++[Value.int .u64 0]) 428;have q:=Ql w ((cW IV++cB (List.replicate 64 0))++[Value.int .u64 0]).toArray 428 73 (by simp[Qm,QA,IV])
 refine⟨IV,List.replicate 64 0,⟨rfl,by simp,?_,?_,?_,q⟩,rfl,rfl⟩
 ·intro j v hv;have hj:j<8:=(List.getElem?_eq_some_iff.1 hv).1
  exact r j v (by rw[Ly (by simp[Qm,QA,IV];omega),Ly (by simp[Qm,IV];omega)];exact hv)
 ·intro j v hv;have hj:j<64:=by have:=(List.getElem?_eq_some_iff.1 hv).1;simpa [QA] using this
  have:=r (8+j) v (by rw[Ly (by simp[Qm,QA,IV];omega),LI (by simp[Qm,IV])];simpa [Qm,IV] using hv)
  rwa [Ll] at this
 ·exact r 72 _ rfl
def Qd3:Obj := .cells ((cW IV++cB (List.replicate 64 0))++[Value.int .u64 0]).toArray 428
theorem Qnw(w:World):Calls prog 360 #[] w fun e w'=>e= .returned (Pq w.heap.size)∧w'=w.alloc Qd3:=Qd4 w
def Qj(ss:LB):List Int:=(ss.map tB).flatten
theorem U0(ss:LB)(k:Nat)(hk:k<ss.length):Qj (ss.take (k+1))=Qj (ss.take k)++tB (ss.getD k ByteArray.empty):=by
 have e:ss.getD k ByteArray.empty=ss[k]:=by rw[Ld,Lk hk];rfl
 unfold Qj;rw[LM hk,LQ,Ix,e];simp only[List.map_cons,List.map_nil,List.flatten_cons,List.flatten_nil,List.append_nil]
theorem Qad(ss:LB)(k:Nat):(Qj (ss.take k)).length<=(Qj ss).length:=by
 have:Qj ss=Qj (ss.take k)++Qj (ss.drop k):=by
  unfold Qj;rw[<-Ix,<-LQ,Nv]
 rw[this,Lc];omega
theorem Qd8(w:World)(ao:OA)(b off len cap:Nat)(ss:LB)(hl:ss.length=len)(hao:0<len->ao=some ⟨b,off,none⟩)(hs:w.rangeAt b off (ss.map Value.string))
  (hmx:len<=9223372036854775807) (rs:List Int) (hrl:rs.length=64) (hr:w.rangeAt 3 0 (cW rs)) (hlen:(Qj ss).length<4611686018427387904) :
  Zr 278 #[.slice ao len cap] w (.string (shaS rs (Qj ss))):=by
 have xI:3<w.heap.size:=QF hr (by intro h;have:=Lv List.length h;simp[Qm,hrl] at this)
 have xF:Hst (w.alloc Qd3) w.heap.size rs IV []:=Qnv w rs;have xC:Bl w (w.alloc Qd3):=(Lb _ _).alloc (La _) _
 go_enter func278,ntmps278
 go_wp2_with (go_at_call 360;refine(Qnw _).mono ?_;rintro e w' ⟨rfl,rfl⟩)
 generalize w.alloc Qd3=w1 at *
 go_loopg [9] len (fun g i wr=> ∃k:Nat,k<=len∧g=len-k∧i= .int .i64 k∧Hst wr w.heap.size rs IV (Qj (ss.take k))∧Bl w wr)
 case atStart=>go_light;exact⟨0,Ln _,rfl,rfl,xF,xC⟩
 case round=>
  clear xF xC;obtain⟨k,hk,rfl,rfl,hh,hb⟩:=hrel;have xG:wr.rangeAt 3 0 (cW rs):=Qn hb xI hr
  by_cases hlt:k<len
  ·obtain rfl:=hao (by omega)
   have xD:k<ss.length:=by omega
   have xK:b<w.heap.size:=QF hs (by intro h;have:=Lv List.length h;rw[LY,NZ] at this;omega)
   have ck:wr.cell? ⟨b,off+k,none⟩=some (.string (ss.getD k ByteArray.empty)):=by
    rw[hb.cell (p:=⟨b,off+k,none⟩) xK];exact hs k _ (by simp[List.getElem?_eq_getElem xD,List.getD_eq_getElem?_getD])
   have hz:(k:Int)<(len:Int):=by omega
   have xH:(Qj (ss.take (k+1))).length<=(Qj ss).length:=Qad _ _;have xB:=U0 ss k xD;have xE:(Qj (ss.take k)).length+(ss.getD k ByteArray.empty).size<4611686018427387904:=by
    rw[xB,Lc,Yo] at xH;omega
   have hw:=Qbc wr w.heap.size rs IV (Qj (ss.take k)) (ss.getD k ByteArray.empty) hrl xG hh xE;rw[<-xB] at hw;have HB:Hid (Bl w wr):=hb;have HZ:Hid (w.heap.size<=wr.heap.size):=hb.size;clear xB xH xE hh hb hs hao;generalize ss.getD k ByteArray.empty=part at *
   go_wp2_with (go_at_call 361;refine hw.mono ?_;rintro e w' ⟨rfl,xM,xL⟩)
   go_roundg (len-(k+1))
   case rel=>go_light;exact⟨k+1,by omega,rfl,by go_num,xM,HB.out.grown xL HZ.out (fun j hj=>by cases hj;exact La _)⟩
   case measure=>go_light;omega
  ·obtain rfl:k=len:=by omega
   have hz:¬(k:Int)<(k:Int):=by omega
   have xA:=Qos wr w.heap.size rs _ hh hrl xG;rw[Lp (by omega)] at xA
   have HB:Hid (Bl w wr):=hb;have HZ:Hid (w.heap.size<=wr.heap.size):=hb.size;clear hh hb
   go_wp2_with (go_at_call 362;refine xA.mono ?_;rintro e w' ⟨rfl,xJ⟩)
   go_ret
   exact⟨rfl,HB.out.trans (xJ.mono HZ.out)⟩
def RS:List Int:=[1116352408,1899447441,3049323471,3921009573,961987163,1508970993,2453635748,2870763221,3624381080,310598401,607225278,1426881987,1925078388,2162078206,2614888103,3248222580,3835390401,4022224774,264347078,604807628,770255983,1249150122,1555081692,1996064986,2554220882,2821834349,2952996808,3210313671,3336571891,3584528711,113926993,338241895,666307205,773529912,1294757372,1396182291,1695183700,1986661051,2177026350,2456956037,2730485921,2820302411,3259730800,3345764771,3516065817,3600352804,4094571909,275423344,430227734,506948616,659060556,883997877,958139571,1322822218,1537002063,1747873779,1955562222,2024104815,2227730452,2361852424,2428436474,2756734187,3204031479,3329325298]
variable{W a w w2:World}
theorem OG:RS.length=64:=rfl
theorem Qa(h:Bl w W)(h2:Bl W w2):Bl w w2:=h.trans (h2.mono h.size)
theorem bal(h:Bl w W)(o:Obj):Bl w (W.alloc o):=h.alloc h.size o
theorem Qi{B:Nat}(h:Below B a w)(n:Nat):Below B a (w.drewN n):=⟨h.os,h.tape,h.output,h.size,h.block⟩
theorem QeS{l:List Int}(h:0<l.length):cW l≠[]:=by
 intro e;have:=Lv List.length e;rw[Qm,NZ] at this;omega
structure Tb(w:World):Prop where
 rs:w.rangeAt 3 0 (cW RS)
theorem Tb.next(h:Tb w)(hb:Bl w W):Tb W :=
 ⟨Qn hb (QF h.rs (QeS (by rw[OG];decide))) h.rs⟩
def clk(k:Int):Nat:=if k<1 then 1 else if 32<k then 32 else k.toNat
theorem Qph(k:Int):1<=clk k:=by
 unfold clk
 split
 ·omega
 ·split <;> omega
theorem QK(k:Int):clk k<=32:=by
 unfold clk
 split
 ·omega
 ·split <;> omega
theorem QeQ(w:World)(k:Int)(x:Int)(hx:(clk k:Int)=x) :
  Re 279 #[.int .i64 k] w (.int .i64 x):=by
 subst hx;unfold clk
 go_enter func279,ntmps279
 by_cases h1:k<1
 ·have e1:¬(1<=k):=by omega
  rw[Lf h1];clear h1;go_wp2
  go_ret
  simp
 ·by_cases h2:32<k
  ·have e1:1<=k:=by omega
   have e2:¬(k<=32):=by omega
   rw[Le h1,Lf h2];clear h1 h2;go_wp2
   go_ret
   simp
  ·have e1:1<=k:=by omega
   have e2:k<=32:=by omega
   have e3:(k.toNat:Int)=k:=by omega
   rw[Le h1,Le h2,e3];clear h1 h2;go_wp2
   go_ret
   simp
theorem Ue(x:Int):(QY [x]).size=1:=rfl
theorem JG(w:World)(x:Int):(convert 127 9 (.slice (Zp w.heap.size) 1 1)).run prog (w.alloc (.cells #[.int .u8 x] 5))= .ok (.string (QY [x])) (w.alloc (.cells #[.int .u8 x] 5)) :=
 QbS _ _ [x] 1 rfl (Qv w (cB [x]) 5)
theorem Qdt(l:List Int):(QY l).size=l.length:=by
 have:∀(l:List Int) (r:BA),(l.foldl (fun r n=>r.push (UInt8.ofNat n.toNat)) r).size=r.size+l.length:=by
  intro l
  induction l with
  | nil=>intro r;rfl
  | cons x t ih=>intro r;rw[Wo,ih,ByteArray.size_push,LG];omega
 rw[QY,this];simp
theorem Qa6(rs t:List Int):(shaS rs t).size=32:=by rw[shaS,Qdt,shaT,Qcl]
def Up(s:BA):BA:=QY [0]++s
def QN(a b:BA):BA:=(QY [1]++a)++b
def bagT(a b:BA):BA:=(QY [2]++a)++b
theorem Qca(s:BA):(Up s).size=1+s.size:=by rw[Up,NA,Ue]
theorem Qch(a b:BA):(QN a b).size=1+a.size+b.size:=by rw[QN,NA,NA,Ue]
theorem QcS(a b:BA):(bagT a b).size=1+a.size+b.size:=by rw[bagT,NA,NA,Ue]
def dg(c:Nat)(t:BA):BA:=(shaS RS (tB t)).extract 0 c
theorem Jr{c:Nat}(hc:c<=32)(t:BA):(dg c t).size=c:=by
 rw[dg,ByteArray.size_extract,Qa6];omega
theorem Qod(w:World)(ht:Tb w)(t:BA)(hs:t.size<4611686018427387904) :
  Calls prog 278 #[.slice (Zp w.heap.size) 1 1] (w.alloc (.cells #[.string t] 9)) fun e w'=>e= .returned (.string (shaS RS (tB t)))∧Bl w w':=by
 have e:Qj [t]=tB t:=by simp[Qj]
 refine(Qd8 _ (Zp w.heap.size) w.heap.size 0 1 1 [t] rfl (fun _=>rfl) (Qv w [.string t] 9) (by decide) RS OG (World.rangeAt_alloc ht.rs _) (by rw[e,Yo];exact hs)).mono fun e' w' ⟨he,hb'⟩=>⟨?_,?_⟩
 ·rw[he,e]
 ·exact((Lb _ _).alloc (La _) _).trans (hb'.mono (by simp))
theorem Qbv(w:World)(ht:Tb w)(k:Int)(t:BA)(hs:t.size<4611686018427387904)(r:BA)(hr:dg (clk k) t=r) :
  Zr 183 #[.int .i64 k,.string t] w (.string r):=by
 subst hr;have HS:=Qod w ht t hs;unfold dg;have hz:=Qa6 RS (tB t);generalize shaS RS (tB t)=z at *;have c1:=Qph k;have c2:=QK k;have HC:=fun W=>QeQ W k (clk k) rfl
 generalize clk k=c at *;have h1:(0:Int)<=(c:Int):=by omega
 have h2:(c:Int)<=32:=by omega
 clear ht hs c1
 go_enter func183,ntmps183
 go_wp2_with (first
  | (go_at_call 278;with_reducible refine HS.mono ?_;rintro e w1 ⟨rfl,xA⟩)
  | (go_at_call 279;with_reducible refine(HC _).mono ?_;rintro e w2 ⟨rfl,rfl⟩))
 go_ret
 exact⟨rfl,xA⟩
theorem QiN(w:World)(s:BA)(hs:s.size<2305843009213693952) :
  Zr 232 #[.string s] w (.string (Up s)):=by
 have cv:=JG w 0;unfold Up;have hz:=Ue 0;generalize QY [0]=z at *;have xA:¬(9223372036854775807<1+s.size):=by omega
 go_enter func232,ntmps232;go_wp2
 go_ret
 exact⟨rfl,bal (Lb _ _) _⟩
theorem QiS(w:World)(a b:BA)(hs:a.size<2305843009213693952)(hs2:b.size<2305843009213693952) :
  Zr 319 #[.string a,.string b] w (.string (QN a b)):=by
 have cv:=JG w 1;unfold QN;have hz:=Ue 1;generalize QY [1]=z at *;have xB:¬(9223372036854775807<1+a.size):=by omega
 have xA:¬(9223372036854775807<1+a.size+b.size):=by omega
 go_enter func319,ntmps319;go_wp2
 go_ret
 exact⟨rfl,bal (Lb _ _) _⟩
theorem QjL(w:World)(a b:BA)(hs:a.size<2305843009213693952)(hs2:b.size<2305843009213693952)(r:BA)(hr:bagT a b=r) :
  Zr 280 #[.string a,.string b] w (.string r):=by
 subst hr;have cv:=JG w 2;unfold bagT;have hz:=Ue 2;generalize QY [2]=z at *;have xB:¬(9223372036854775807<1+a.size):=by omega
 have xA:¬(9223372036854775807<1+a.size+b.size):=by omega
 go_enter func280,ntmps280;go_wp2
 go_ret
 exact⟨rfl,bal (Lb _ _) _⟩
def chk(k:Int):Int:=if k<1∨32<k then 70 else 0
theorem Yp(w:World)(k:Int):Re 91 #[.int .i64 k] w (.int .i64 (chk k)):=by
 unfold chk
 go_enter func91,ntmps91
 by_cases h1:k<1
 ·rw[Lf (.inl h1)];go_wp2
  go_ret
  simp
 ·by_cases h2:32<k
  ·rw[Lf (.inr h2)];go_wp2
   go_ret
   simp
  ·rw[Le (by omega)]
   go_wp2
   go_ret
   simp
theorem Qc{p:Prop}(h:p):Hid p:=h
theorem Tryz.infoI:(prog.info? 5).map (fun i=>(i.zero,i.size,i.bytes))=some (some (.int .u8 0),1,1):=by kernel_rfl
def OwnI(w:World)(B:Nat)(v:Value)(l:List Int):Prop:=w.ownsRow B 5 1 v l.length (cB l)
variable{l:List Int}
theorem QiY{B:Nat}{v:Value}(h:OwnI w B v l)(h0:0<l.length):(convert 127 9 v).run prog w= .ok (.string (QY l)) w:=by
 have hc:=fun g=>h.cells (g:=g)
 obtain⟨h1,h2⟩:=h
 rcases h2 with ⟨rfl,h2⟩|⟨g,cap,cur,rfl,hg,hh,r⟩
 ·omega
 ·rw[run_convert_bytes_string w 127 9 5 _ _ _ underlying127 underlying5 underlying9];refine run_bytesToString w ⟨g,0,none⟩ l.length cap l ?_
  have:=run_loadCells_list (P:=prog) w ⟨g,0,none⟩ (cB l) (fun j v hv=>hc g rfl j v hv)
  rwa [QA] at this
theorem Qln{B:Nat}{v:Value}(h:OwnI w B v l):∀k,v.ownBlock=some k->B<=k:=by
 obtain⟨_,h2⟩:=h
 rcases h2 with ⟨rfl,_⟩|⟨g,cp,cur,rfl,hg,_⟩
 ·intro k hk;cases hk
 ·intro k hk;cases hk;exact hg
theorem Qlm(w:World)(x:Int):OwnI (w.alloc (.cells #[.int .u8 x] 5)) w.heap.size (.slice (Zp w.heap.size) 1 1) [x] :=
 ⟨rfl,.inr ⟨w.heap.size,1,#[.int .u8 x],rfl,La _,LC w _,La _,by unfold maxLen;omega,rfl,rfl⟩⟩
theorem Qbm(w:World){ops:Array Oper}{rest:List Oper}{o:Oper}{a:Act}{Q:Exit->Act->World->Prop}
  (hg:o.guard=none) (s x:Operand) (hop:o.op=Op.call { callee:=Callee.builtin Builtin.append,args:=#[s,x],argTypes:=#[127,127] })
  (B:Nat) (v:Value) (L:List Int) (hs:a.eval s=v) (hown:OwnI w B v L) (y:Int) (hx:a.eval x= .slice (Zp w.heap.size) 1 1)
  (hlen:L.length<=1000) (hB:B<=w.heap.size)
  (hK:∀v' w',OwnI w' B v' (L++[y])->Below B w w'->wpList prog ops Q rest (a.put o.dst v') w'):wpList prog ops Q (o::rest) a (w.alloc (.cells #[.int .u8 y] 5)):=by
 obtain⟨i0,hi,xB,xC,xD⟩:=info_parts Tryz.infoI;refine wpList_append_own _ hg s x _ hop B 5 i0 (.int .u8 0) 1 1 underlying127 hi xB xC xD rfl (by decide) _ _ _ hs (World.ownsRow.alloc hown _) ⟨w.heap.size,0,none⟩ 1 1 (cB [y]) hx (by simp[cB]) ?_ (by intro u hu;simp[cB] at hu;subst hu;rfl) (by unfold maxLen;omega) (by omega) (by simp;omega) ?_
 ·intro j u hu;have hj:j=0:=by have:=(List.getElem?_eq_some_iff.1 hu).1;simp[cB] at this;exact this
  subst hj;have xA:Value.int .u8 y=u:=NR hu;subst xA;rw[Addr.add_mid,Nc]
  rfl
 ·intro v' w' h1 h2 _;refine hK v' w' ?_ (((Lb _ _).alloc hB _).trans ((Lb _ _).grown h2 (by simp;omega) (Qln hown)))
  rw[OwnI,Lc,cB,LQ];exact h1
def nbL(n:Nat)(j:Nat):List Int:=(List.range j).map fun i=>((n/256^(7-i)%256:Nat):Int)
theorem Qd1(n j:Nat):(nbL n j).length=j:=by simp[nbL]
theorem Qk2(n j:Nat):nbL n (j+1)=nbL n j++[((n/256^(7-j)%256:Nat):Int)]:=by
 simp[nbL,List.range_succ]
theorem QlX(n k:Nat):(n:Int)/2^(8*(7-k))%256=((n/256^(7-k)%256:Nat):Int):=by
 rw[Int.natCast_emod,Int.natCast_ediv,Int.natCast_pow,Int.pow_mul]
 rfl
def QfI(n:Nat):List Int:=3::nbL n 8
def UD(n:Nat)(d:BA):BA:=QY (QfI n)++d
theorem Qcs(n:Nat):(QY (QfI n)).size=9:=by rw[Qdt,QfI,LG,Qd1]
theorem Qct(n:Nat)(d:BA):(UD n d).size=9+d.size:=by rw[UD,NA,Qcs]
theorem Qjc(w:World)(n:Nat)(d:BA)(hs:d.size<2305843009213693952)(r:BA)(hr:UD n d=r) :
  Zr 184 #[.int .u64 n,.string d] w (.string r):=by
 subst hr;have xC:¬(9223372036854775807<9+d.size):=by omega
 have HS:=Qcs n;unfold UD;obtain⟨z,HE⟩:∃z,Hid (QY (QfI n)=z):=⟨_,rfl⟩;rw[HE.out] at HS ⊢
 go_enter func184,ntmps184;go_wp2
 go_loopg [5,8] 8 (fun g v i wr=> ∃k:Nat,k<=8∧g=8-k∧i= .int .i64 k∧OwnI wr w.heap.size v (3::nbL n k)∧Bl w wr)
 case atStart=>go_light;exact⟨0,Ln _,rfl,rfl,Qlm w 3,bal (Lb _ _) _⟩
 case round=>
  obtain⟨k,hk,rfl,rfl,xA,hb⟩:=hrel
  by_cases hlt:k<8
  ·have hz:(k:Int)<8:=by omega
   have HZ:Hid (w.heap.size<=wr.heap.size):=hb.size;have HL:Hid ((3::nbL n k).length<=1000):=by show _<=_;rw[LG,Qd1];omega
   have HN:=Qc (Qk2 n k)
   go_wp2_with (at_builtin;refine Qbm _ rfl _ _ rfl w.heap.size _ (3::nbL n k) rfl xA _ rfl HL.out HZ.out ?_)
   intro v' w2 r1 r2;have HO:Hid (OwnI w2 w.heap.size v' (3::nbL n (k+1))):=by
    show OwnI _ _ _ _
    rw[HN.out,<-QlX n k];exact r1
   have HB:Hid (Bl w w2):=hb.trans r2;clear r1 r2 hb xA HN;go_wp2
   go_roundg (8-(k+1))
   case rel=>go_light;exact⟨k+1,by omega,rfl,by go_num,HO.out,HB.out⟩
   case measure=>go_light;omega
  ·obtain rfl:k=8:=by omega
   have xB:=QiY xA (by simp)
   have HB:Hid (Bl w wr):=hb;clear xA hb hlt hk;rw[show(3::nbL n 8)=QfI n from rfl,HE.out] at xB
   go_wp2
   go_ret
   exact⟨rfl,HB.out⟩
structure RdS(w:World)(ao:OA)(b off len:Nat)(ss:LB):Prop where
 hl:ss.length=len
 ptr:0<len->ao=some ⟨b,off,none⟩
 rng:w.rangeAt b off (ss.map Value.string)
 sz:∀s∈ss,s.size<=9223372036854775807
variable{ao:OA}{B b k len:Nat}{ss:LB}
theorem RdS.lt{off:Nat}(h:RdS w ao b off len ss)(h0:0<len):b<w.heap.size :=
 QF h.rng (by intro e;have:=Lv List.length e;rw[LY,NZ,h.hl] at this;omega)
theorem RdS.next{off:Nat}(h:RdS w ao b off len ss)(hb:Below B w W)(hB:w.heap.size<=B):RdS W ao b off len ss:=by
 refine⟨h.hl,h.ptr,?_,h.sz⟩
 by_cases h0:0<len
 ·exact Qn hb (Lz (h.lt h0) hB) h.rng
 ·have:ss=[]:=List.length_eq_zero_iff.1 (by rw[h.hl];omega)
  rw[this];intro j v hv;cases hv
theorem RdS.at{off:Nat}(h:RdS w ao b off len ss)(hk:k<len):w.cell? ⟨b,off+k,none⟩=some (.string (ss.getD k ByteArray.empty)) :=
 h.rng k _ (by have:=h.hl;simp[List.getElem?_eq_getElem (show k<ss.length by omega),List.getD_eq_getElem?_getD])
theorem Ud(hk:k<ss.length):ss.getD k ByteArray.empty∈ss:=by
 rw[Ld,Lk hk];exact L8 _
theorem Qfa(w:World)(ht:Tb w)(k:Int)(s:BA)(hs:s.size<2305843009213693952)(r:BA)(hr:dg (clk k) (Up s)=r) :
  Zr 145 #[.int .i64 k,.string s] w (.string r):=by
 have HL:=QiN w s hs;have HO:Hr w 183 #[.int .i64 k,.string (Up s)] (.string r):=fun W hb=>Qbv W (ht.next hb) k _ (by rw[Qca];omega) r hr
 clear hr ht hs;generalize Up s=t at *
 go_enter func145,ntmps145
 go_wp2_with (first
  | (go_at_call 232;with_reducible refine HL.mono ?_;rintro e w1 ⟨rfl,xA⟩)
  | (go_at_call 183;with_reducible refine(HO.out _ xA).mono ?_;rintro e w2 ⟨rfl,xB⟩))
 go_ret
 exact⟨rfl,Qa xA xB⟩
theorem U8(w:World)(ht:Tb w)(k:Int)(a b:BA)(hs:a.size<2305843009213693952)(hs2:b.size<2305843009213693952)(r:BA)(hr:dg (clk k) (QN a b)=r) :
  Zr 227 #[.int .i64 k,.string a,.string b] w (.string r):=by
 have HL:=QiS w a b hs hs2;have HO:Hr w 183 #[.int .i64 k,.string (QN a b)] (.string r):=fun W hb=>Qbv W (ht.next hb) k _ (by rw[Qch];omega) r hr
 clear hr ht hs hs2;generalize QN a b=t at *
 go_enter func227,ntmps227
 go_wp2_with (first
  | (go_at_call 319;with_reducible refine HL.mono ?_;rintro e w1 ⟨rfl,xA⟩)
  | (go_at_call 183;with_reducible refine(HO.out _ xA).mono ?_;rintro e w2 ⟨rfl,xB⟩))
 go_ret
 exact⟨rfl,Qa xA xB⟩
def Q4(c:Nat):LB->BA
 | []=>ByteArray.empty
 | [p]=>p
 | p::q::r=>dg c (bagT p (Q4 c (q::r)))
theorem J4{c:Nat}(hc:c<=32){M:Nat}(hM:32<=M):∀(ss:LB),(∀s∈ss,s.size<=M)->(Q4 c ss).size<=M
 | [],_=>by simp[Q4]
 | [p],h=>h p (by simp)
 | p::q::r,_=>by rw[Q4,Jr hc];omega
theorem QcQ(c:Nat)(ss:LB)(i:Nat)(h:i+1<ss.length):Q4 c (ss.drop i)=dg c (bagT (ss.getD i ByteArray.empty) (Q4 c (ss.drop (i+1)))):=by
 rw[LX (by omega),LX h,Q4,Ld,Lk (by omega)]
 rfl
theorem QcR(c:Nat)(ss:LB)(h:0<ss.length):Q4 c (ss.drop (ss.length-1))=ss.getD (ss.length-1) ByteArray.empty:=by
 rw[LX (by omega),show ss.length-1+1=ss.length by omega,IN,Q4,Ld,Lk (by omega)]
 rfl
theorem Qf7(w:World)(ht:Tb w)(k:Int)(ao:OA)(b off len cap:Nat)(ss:LB)(hr:RdS w ao b off len ss)(hsz:∀s∈ss,s.size<=140737488351232)(hmx:len<=8796093022208)(r:BA)(hq:Q4 (clk k) ss=r) :
  Zr 185 #[.int .i64 k,.slice ao len cap] w (.string r):=by
 by_cases h0:len=0
 ·subst h0;have:ss=[]:=List.length_eq_zero_iff.1 hr.hl;subst this;subst hq
  go_enter func185,ntmps185;go_wp2
  go_ret
  exact⟨rfl,Lb _ _⟩
 ·have xA:0<len:=by omega
  obtain rfl:=hr.ptr xA;obtain⟨m,rfl⟩:∃m,len=m+1:=⟨len-1,by omega⟩
  have hc:=QK k;have xJ:¬((m:Int)+1=0):=by omega
  have cm:=hr.at (k:=m) (by omega)
  have HL:Hid (Q4 (clk k) (ss.drop m)=ss.getD m ByteArray.empty):=by
   have:=QcR (clk k) ss (by rw[hr.hl];omega)
   rw[hr.hl] at this;exact this
  have xH:Hid (∀d,d=Q4 (clk k) ss->True):=fun _ _=>trivial
  have HM:Hid (∀j,j<m+1->(ss.getD j ByteArray.empty).size<=140737488351232):=fun j hj=>hsz _ (Ud (by rw[hr.hl];exact hj))
  have HD:Hid (∀j,(Q4 (clk k) (ss.drop j)).size<=140737488351232):=fun j=>J4 hc (by decide) _ (fun s hs=>hsz s (Is hs))
  have HN:Hid (∀j,j<m->Q4 (clk k) (ss.drop j)=dg (clk k) (bagT (ss.getD j ByteArray.empty) (Q4 (clk k) (ss.drop (j+1))))):=fun j hj=>QcQ _ _ _ (by rw[hr.hl];omega)
  have HT:Hid (Tb w):=ht;have HR:Hid (RdS w (some ⟨b,off,none⟩) b off (m+1) ss):=hr;have HQ:Hid (Q4 (clk k) (ss.drop 0)=r):=hq;obtain⟨d0,xC⟩:=Ze (ss.getD m ByteArray.empty);rw[xC] at cm;have xD:Hid (Q4 (clk k) (ss.drop m)=d0):=by rw[<-xC];exact HL
  clear xC HL ht hr hq hsz xH h0 xA
  go_enter func185,ntmps185;go_wp2
  go_loopg [6,7] m (fun g x i wr=> ∃(j:Nat) (d:BA),j=g∧x= .string d∧i= .int .i64 ((j:Int)-1)∧j<=m∧Hid (Q4 (clk k) (ss.drop j)=d)∧Bl w wr)
  case atStart=>go_light;exact⟨m,d0,rfl,rfl,rfl,La _,xD,Lb _ _⟩
  case round=>
   obtain⟨j,d,hg,rfl,rfl,hj,HE,hb⟩:=hrel;subst hg
   cases j with
   | zero=>
    have hz:¬((0:Int) <= -1):=by decide
    rw[show((0:Nat):Int)-1 = -1 from rfl]
    have HF:Hid (d=r):=HE.out.symm.trans HQ.out;clear HE HN HQ HM HD HR HT cm;obtain rfl:=HF.out;go_wp2
    go_ret
    exact⟨rfl,hb⟩
   | succ j=>
    have e1:((j+1:Nat):Int)-1=(j:Int):=by omega
    have hz:(0:Int)<=(j:Int):=by omega
    have xK:(j:Int)<(m:Int)+1:=by omega
    have xI:j<m:=by omega
    have cj:=(HR.out.next hb (La _)).at (k:=j) (by omega)
    have z1:=HM.out j (by omega)
    have z2:=HD.out (j+1);have hn:=HN.out j xI;rw[HE.out] at z2 hn;generalize ss.getD j ByteArray.empty=p at *;have HG:=fun W=>QjL W p d (by omega) (by omega) _ rfl
    obtain⟨t,ht⟩:=Ze (bagT p d);have zt:=QcS p d;rw[ht] at zt;simp only[ht] at HG hn;obtain⟨d',xB⟩:∃d',dg (clk k) t=d':=⟨_,rfl⟩;have HO:Hr w 183 #[.int .i64 k,.string t] (.string d'):=fun W hb=>Qbv W (HT.out.next hb) k t (by omega) d' xB
    have xG:Hid (Q4 (clk k) (ss.drop j)=d'):=hn.trans xB;rw[e1];clear HE hn xB ht zt z1 z2 e1 cm xD
    go_wp2_with (first
     | (go_at_call 280;with_reducible refine(HG _).mono ?_;rintro e w1 ⟨rfl,xE⟩;replace hb:=Qa hb xE;clear xE)
     | (go_at_call 183;with_reducible refine(HO.out _ hb).mono ?_;rintro e w2 ⟨rfl,xF⟩;replace hb:=Qa hb xF;clear xF))
    go_roundg j
    case rel=>go_light;exact⟨j,d',rfl,rfl,by go_num,by omega,xG.out,hb⟩
    case measure=>go_light;omega
theorem Qcu(w:World)(ht:Tb w)(k:Int)(n:Nat)(ao:OA)(b off len cap:Nat)(ss:LB)(hr:RdS w ao b off len ss)(hsz:∀s∈ss,s.size<=140737488351232)(hmx:len<=8796093022208)(r:BA)(hq:dg (clk k) (UD n (Q4 (clk k) ss))=r) :
  Zr 107 #[.int .i64 k,.int .u64 n,.slice ao len cap] w (.string r):=by
 have hz:(Q4 (clk k) ss).size<=140737488351232:=J4 (QK k) (by decide) _ hsz
 obtain⟨d,hd⟩:=Ze (Q4 (clk k) ss);have xD:=Qf7 w ht k ao b off len cap ss hr hsz hmx d hd;rw[hd] at hq hz;obtain⟨t,xB⟩:=Ze (UD n d);have xE:=fun W=>Qjc W n d (by omega) t xB
 have zt:=Qct n d;rw[xB] at hq zt;have HO:Hr w 183 #[.int .i64 k,.string t] (.string r):=fun W hb=>Qbv W (ht.next hb) k t (by omega) r hq
 have hb:=Lb w.heap.size w;clear hq ht hd xB zt hz hr hsz hmx
 go_enter func107,ntmps107
 go_wp2_with (first
  | (go_at_call 185;with_reducible refine xD.mono ?_;rintro e w1 ⟨rfl,xA⟩;replace hb:=Qa hb xA;clear xA)
  | (go_at_call 184;with_reducible refine(xE _).mono ?_;rintro e w1 ⟨rfl,xA⟩;replace hb:=Qa hb xA;clear xA)
  | (go_at_call 183;with_reducible refine(HO.out _ hb).mono ?_;rintro e w2 ⟨rfl,xC⟩;replace hb:=Qa hb xC;clear xC))
 go_ret
 exact⟨rfl,hb⟩
namespace Pl
def Qz:Nat->Nat->Nat
 | 0,_=>0
 | k+1,n=>n%2+Qz k (n/2)
theorem Ur(n k:Nat):n/2^(k+1)=n/2^k/2:=by
 rw[LH,L4]
theorem Qec(k n:Nat):Qz k n<=k:=by
 induction k generalizing n with
 | zero=>exact La _
 | succ k ih=>have:=ih (n/2);simp only[Qz];omega
theorem QaX(k n:Nat)(hk:k<64):Qz (64-k) (n/2^k)=n/2^k%2+Qz (64-(k+1)) (n/2^(k+1)):=by
 rw[show 64-k=(64-(k+1))+1 by omega,Qz,Ur]
def pw(h:Nat):Nat:=2^h
theorem QH(h:Nat):pw (h+1)=2*pw h:=by simp[pw,Nat.pow_succ,Nat.mul_comm]
theorem Oh:pw 0=1:=rfl
theorem QC(h:Nat):0<pw h:=LN h
theorem OT(a b:Nat):pw (a+b)=pw a*pw b:=II 2 a b
theorem OE{a:Nat}(h:a<=b):pw a<=pw b:=Na (by decide) h
theorem Jc(j k:Nat)(h:k<2^j):Qz (j+1) k=Qz j k:=by
 induction j generalizing k with
 | zero=>simp at h;subst h;rfl
 | succ j ih=>
  rw[Qz,ih (k/2) (by rw[LH] at h;omega)];rfl
def trl:Nat->Nat->Nat
 | 0,_=>0
 | f+1,n=>if n%2=1 then trl f (n/2)+1 else 0
theorem Qf1(f n:Nat)(h:n%2=1):trl (f+1) n=trl f (n/2)+1:=by rw[trl,Lf h]
theorem QfZ(f n:Nat)(h:¬n%2=1):trl (f+1) n=0:=by rw[trl,Le h]
end Pl
section
open Pl (Qz)
def tr:Nat->Nat->Nat
 | 0,_=>0
 | k+1,n=>if n%2=1 then 0 else tr k (n/2)+1
theorem QqL(k n:Nat):tr k n<=k:=by
 induction k generalizing n with
 | zero=>exact La _
 | succ k ih=>have:=ih (n/2);simp only[tr];split <;> omega
theorem Qib(k n:Nat)(hk:k<64):tr (64-k) (n/2^k)=if n/2^k%2=1 then 0 else tr (64-(k+1)) (n/2^(k+1))+1:=by
 rw[show 64-k=(64-(k+1))+1 by omega,tr,Pl.Ur]
theorem QhB(n h:Nat):n%2^(h+1)=n%2+2*(n/2%2^h):=by
 rw[LH,LF,Ih]
theorem QdL(n h:Nat):n/2^(h+1)=n/2/2^h:=by
 rw[LH,LF,L4]
theorem Qmf:∀(F h n:Nat),h<F->(tr F n=h↔n%2^h=0∧n/2^h%2=1)
 | F+1,0,n,_=>by
  simp only[tr,Nat.pow_zero,Nat.mod_one,Nat.div_one,true_and]
  split <;> simp_all
 | F+1,h+1,n,hh=>by
  have ih:=Qmf F h (n/2) (by omega)
  rw[QhB,QdL];simp only[tr]
  by_cases e:n%2=1
  ·rw[Lf e,e]
   constructor
   ·intro h;omega
   ·rintro⟨h,_⟩;omega
  ·rw[Le e]
   constructor
   ·intro h1;have:=ih.1 (by omega)
    exact⟨by rw[this.1];omega,this.2⟩
   ·rintro⟨h1,h2⟩;have:=ih.2 ⟨by omega,h2⟩
    omega
theorem Qmg:∀(F h n:Nat),h<=F->(tr F n<h↔n%2^h≠0)
 | F,0,n,_=>by simp[Nat.mod_one]
 | F+1,h+1,n,hh=>by
  have ih:=Qmg F h (n/2) (by omega)
  rw[QhB];simp only[tr]
  by_cases e:n%2=1
  ·rw[Lf e]
   constructor
   ·intro _;omega
   ·intro _;omega
  ·rw[Le e]
   constructor
   ·intro h1;have:=ih.1 (by omega)
    omega
   ·intro h1;have:=ih.2 (by omega)
    omega
def ol{α:Type}(g:Nat->Nat->α):Nat->Nat->List α
 | 0,_=>[]
 | F+1,m=>(if m/2^F%2=1 then [g F (m/2^F)] else [])++ol g F m
theorem Qnp{m F:Nat}(h:m%2^(F+1)=0):m%2^F=0∧m/2^F%2=0:=by
 rw[LH,Ih] at h;have:=LN F;refine⟨by omega,?_⟩
 rcases Nat.eq_zero_of_add_eq_zero_left h |> Nat.mul_eq_zero.1 with h|h
 ·omega
 ·exact h
theorem Qea{α:Type}(g:Nat->Nat->α):∀F m,m%2^F=0->ol g F m=[]
 | 0,_,_=>rfl
 | F+1,m,h=>by
  obtain⟨h1,h2⟩:=Qnp h;rw[ol,Le (by omega),Qea g F m h1];rfl
theorem Qd9{α:Type}(g:Nat->Nat->α):∀F h m,h<F->m%2^h=0->m/2^h%2=1->ol g F m=ol g F (m-2^h)++[g h (m/2^h)]
 | F+1,h,m,hF,h0,h1=>by
  have hp:=LN h;have hm:2^h<=m:=by
   apply Ig
   intro hlt;rw[NX hlt] at h1;omega
  by_cases e:h=F
  ·subst e;have hz:(m-2^h)%2^(h+1)=0:=by
    have e1:m=2^h*(m/2^h):=by have:=N4 m (2^h);omega
    obtain⟨q,hq⟩:∃q,m/2^h=2*q+1:=⟨m/2^h/2,by omega⟩
    rw[hq,NV,Nd,<-LZ] at e1;rw[e1,Nm,LH,Nat.mul_mod_right]
   rw[ol,Lf h1,Qea g h m h0,Qea g (h+1) _ hz];rfl
  ·have hlt:h<F:=by omega
   have hd:(m-2^h)/2^F=m/2^F:=by
    obtain⟨d,rfl⟩:∃d,F=h+(d+1):=⟨F-h-1,by omega⟩
    rw[II,<-L4,<-L4,LH,LF (2^d),<-L4,<-L4];have:(m-2^h)/2^h=m/2^h-1:=by
     have:=Nat.sub_mul_div m (2^h) 1;rw[Nd] at this;exact this
    rw[this]
    congr 1
    generalize m/2^h=x at h1;omega
   rw[ol,ol,hd,Qd9 g F h m hlt h0 h1,Lw]
theorem Oc{α:Type}(g:Nat->Nat->α):∀F m,(ol g F m).length<=F
 | 0,_=>La _
 | F+1,m=>by
  have:=Oc g F m;rw[ol,Lc]
  split <;> simp <;> omega
theorem Qaq:∀F m,Qz (F+1) m=m/2^F%2+Qz F m
 | 0,m=>by simp[Qz]
 | F+1,m=>by
  rw[Qz,Qaq F (m/2),Qz,QdL];omega
theorem QhF{α:Type}(g:Nat->Nat->α):∀F m,(ol g F m).length=Qz F m
 | 0,_=>rfl
 | F+1,m=>by
  rw[ol,Lc,Qaq,QhF g F m];have:=Nat.mod_two_eq_zero_or_one (m/2^F)
  rcases this with e|e <;> rw[e] <;> simp
theorem Qfm(j m:Nat)(h:m<2^j):∀d,Qz (j+d) m=Qz j m
 | 0=>rfl
 | d+1=>by
  rw[<-Ns,Pl.Jc (j+d) m (Lz h (Na (by decide) (by omega))),Qfm j m h d]
def hts(n:Nat):List Nat:=ol (fun h _=>h) 41 n
theorem Qe6{n:Nat}(hn:n<=1099511627776):(hts n).length=Qz 64 n:=by
 rw[hts,QhF,show 64=41+23 from rfl,Qfm 41 n (by omega) 23]
theorem QkG(n:Nat):(hts n).length<=41:=Oc _ _ _
def Yf(c:Nat):Nat->Nat->LB->BA->LB×LB
 | 0,_,P,d=>([d],P++[d])
 | f+1,t,P,d=>
  if t%2=1 then
   (d::(Yf c f (t/2) (P.take (P.length-1)) (dg c (QN (P.getD (P.length-1) ByteArray.empty) d))).1,(Yf c f (t/2) (P.take (P.length-1)) (dg c (QN (P.getD (P.length-1) ByteArray.empty) d))).2)
  else ([d],P++[d])
variable{F c h t:Nat}{P:LB}{d d':BA}
theorem UU{f:Nat}(h:t%2=1)(hd:dg c (QN (P.getD (P.length-1) ByteArray.empty) d)=d') :
  Yf c (f+1) t P d=(d::(Yf c f (t/2) (P.take (P.length-1)) d').1,(Yf c f (t/2) (P.take (P.length-1)) d').2):=by
 rw[Yf,Lf h,hd]
theorem YV{f:Nat}(h:t%2≠1):Yf c f t P d=([d],P++[d]):=by
 cases f with
 | zero=>rfl
 | succ f=>rw[Yf,Le h]
theorem Qge(hc:c<=32):∀(f t:Nat) (P:LB) (d:BA),(∀s∈P,s.size=c)->d.size=c->(∀s∈(Yf c f t P d).1,s.size=c)∧(∀s∈(Yf c f t P d).2,s.size=c):=by
 intro f
 induction f with
 | zero=>
  intro t P d hP hd;simp only[Yf];refine⟨fun s hs=>by simp at hs;rw[hs];exact hd,fun s hs=> ?_⟩
  rcases List.mem_append.1 hs with h|h
  ·exact hP s h
  ·simp at h;rw[h];exact hd
 | succ f ih=>
  intro t P d hP hd
  by_cases h:t%2=1
  ·rw[UU h rfl];obtain⟨i1,i2⟩:=ih (t/2) (P.take (P.length-1)) (dg c (QN (P.getD (P.length-1) ByteArray.empty) d)) (fun s hs=>hP s (Nq hs)) (Jr hc _)
   refine⟨fun s hs=> ?_,i2⟩
   rcases List.mem_cons.1 hs with h|h
   ·rw[h];exact hd
   ·exact i1 s h
  ·rw[YV h];refine⟨fun s hs=>by simp at hs;rw[hs];exact hd,fun s hs=> ?_⟩
   rcases List.mem_append.1 hs with h|h
   ·exact hP s h
   ·simp at h;rw[h];exact hd
theorem UG(ho:t%2=1):2^h*t-2^h=2^(h+1)*(t/2)∧2^(h+1)*(t/2)+2^(h+1)=2^h*t+2^h:=by
 obtain⟨q,rfl⟩:∃q,t=2*q+1:=⟨t/2,by omega⟩
 rw[show(2*q+1)/2=q by omega,LH,NV,Nd,LZ]
 omega
theorem Ju(h t:Nat):2^h*t%2^h=0∧2^h*t/2^h=t:=⟨Nat.mul_mod_right _ _,Wd _ (LN h)⟩
theorem QbA{α:Type}(g:Nat->Nat->α)(hF:h<F)(he:t%2≠1):ol g F (2^h*t+2^h)=ol g F (2^h*t)++[g h (t+1)]:=by
 have e:2^h*t+2^h=2^h*(t+1):=by rw[NV,Nd]
 obtain⟨a,b⟩:=Ju h (t+1);rw[e,Qd9 g F h _ hF a (by rw[b];omega),b,<-e,Nm]
theorem Qcj{α:Type}(g:Nat->Nat->α)(hF:h<F)(ho:t%2=1):ol g F (2^h*t)=ol g F (2^(h+1)*(t/2))++[g h t]:=by
 obtain⟨a,b⟩:=Ju h t;rw[Qd9 g F h _ hF a (by rw[b];exact ho),b,(UG ho).1]
theorem Qii(c F:Nat):∀(f h t:Nat) (P:LB) (d:BA),h+f<F->t<2^f->P.length=(ol (fun h _=>h) F (2^h*t)).length->(Yf c f t P d).2.length=(ol (fun h _=>h) F (2^h*t+2^h)).length:=by
 intro f
 induction f with
 | zero=>
  intro h t P d hF ht hl;obtain rfl:t=0:=by simpa using ht
  rw[QbA _ (by omega) (by decide),Yf,Lc,Lc,hl];rfl
 | succ f ih=>
  intro h t P d hF ht hl
  by_cases ho:t%2=1
  ·rw[UU ho rfl];rw[Qcj _ (by omega) ho,Lc,LK] at hl
   show(Yf c f (t/2) (P.take (P.length-1)) (dg c (QN (P.getD (P.length-1) ByteArray.empty) d))).2.length=_
   rw[ih (h+1) (t/2) _ _ (by omega) (by rw[LH] at ht;omega) (by rw[Lx];omega),(UG ho).2]
  ·rw[YV ho,QbA _ (by omega) ho,Lc,Lc,hl];rfl
theorem Qj0(c F:Nat)(g:Nat->Nat->BA)(m:Nat)(hg:∀h t,2^h*(t+1)<=m->t%2=1->dg c (QN (g h t) (g h (t+1)))=g (h+1) (t/2+1)):∀(f h t:Nat),h+f<F->t<2^f->2^h*t+2^h<=m ->
  (Yf c f t (ol g F (2^h*t)) (g h (t+1))).2=ol g F (2^h*t+2^h):=by
 intro f
 induction f with
 | zero=>
  intro h t hF ht hm;obtain rfl:t=0:=by simpa using ht
  rw[QbA _ (by omega) (by decide),Yf]
 | succ f ih=>
  intro h t hF ht hm
  by_cases ho:t%2=1
  ·have e1:=Qcj g (F:=F) (h:=h) (t:=t) (by omega) ho
   have e2:(ol g F (2^h*t)).length-1=(ol g F (2^(h+1)*(t/2))).length:=by rw[e1];simp
   have hd:dg c (QN ((ol g F (2^h*t)).getD ((ol g F (2^h*t)).length-1) ByteArray.empty) (g h (t+1)))=g (h+1) (t/2+1):=by
    rw[e2,e1,<-hg h t (by rw[NV,Nd];exact hm) ho]
    simp[List.getD_eq_getElem?_getD]
   rw[UU ho hd,e2]
   show(Yf c f (t/2) ((ol g F (2^h*t)).take (ol g F (2^(h+1)*(t/2))).length) (g (h+1) (t/2+1))).2=_
   rw[e1,IS rfl,ih (h+1) (t/2) (by omega) (by rw[LH] at ht;omega) (by rw[(UG ho).2];exact hm),(UG ho).2]
  ·rw[YV ho,QbA _ (by omega) ho]
theorem Qij(c F:Nat)(g:Nat->Nat->BA)(m:Nat)(hg:∀h t,2^h*(t+1)<=m->t%2=1->dg c (QN (g h t) (g h (t+1)))=g (h+1) (t/2+1)):∀(f h t:Nat),h+f<F->t<2^f->2^h*t+2^h<=m ->
  (Yf c f t (ol g F (2^h*t)) (g h (t+1))).1=(List.range (Pl.trl f t+1)).map fun j=>g (h+j) (t/2^j+1):=by
 intro f
 induction f with
 | zero=>
  intro h t hF ht hm;obtain rfl:t=0:=by simpa using ht
  simp[Yf,Pl.trl]
 | succ f ih=>
  intro h t hF ht hm
  by_cases ho:t%2=1
  ·have e1:=Qcj g (F:=F) (h:=h) (t:=t) (by omega) ho
   have e2:(ol g F (2^h*t)).length-1=(ol g F (2^(h+1)*(t/2))).length:=by rw[e1];simp
   have hd:dg c (QN ((ol g F (2^h*t)).getD ((ol g F (2^h*t)).length-1) ByteArray.empty) (g h (t+1)))=g (h+1) (t/2+1):=by
    rw[e2,e1,<-hg h t (by rw[NV,Nd];exact hm) ho]
    simp[List.getD_eq_getElem?_getD]
   rw[UU ho hd,e2]
   show g h (t+1)::(Yf c f (t/2) ((ol g F (2^h*t)).take (ol g F (2^(h+1)*(t/2))).length) (g (h+1) (t/2+1))).1=_
   rw[e1,IS rfl,ih (h+1) (t/2) (by omega) (by rw[LH] at ht;omega) (by rw[(UG ho).2];exact hm),Pl.Qf1 f t ho,List.range_succ_eq_map (n:=Pl.trl f (t/2)+1),ID,Wi]
   simp only[Nat.pow_zero,Nat.div_one,Nat.add_zero]
   congr 1
   refine NG fun j _=> ?_
   simp only[Function.comp];rw[Nat.succ_eq_add_one,QdL,show h+1+j=h+(j+1) by omega]
  ·rw[YV ho,Pl.QfZ f t ho];simp
def er(k:Int)(n:Nat)(h:Int)(s:BA):Nat :=
 if (s.size:Int)≠k then 90 else if h<0∨40<h∨n%2^h.toNat≠0 then 41 else if 1099511627776<n+2^h.toNat then 30 else 0
def mk(c n:Nat)(P:LB)(h:Nat)(s:BA):LB×LB:=Yf c (40-h) (n/2^h) P s
def nxN(k:Int)(n:Nat)(h:Int)(s:BA):Nat:=if er k n h s=0 then n+2^h.toNat else n
def nxP(k:Int)(n:Nat)(P:LB)(h:Int)(s:BA):LB:=if er k n h s=0 then (mk (clk k) n P h.toNat s).2 else P
def an(k:Int)(n:Nat)(P:LB)(h:Int)(s:BA):LB:=if er k n h s=0 then (mk (clk k) n P h.toNat s).1 else []
theorem JF{k:Int}(h1:1<=k)(h2:k<=32):(clk k:Int)=k:=by
 unfold clk;rw[Le (by omega),Le (by omega)]
 omega
end
variable{p q:Nat->Bool}{i n:Nat}
def cntU(p:Nat->Bool):Nat->Nat
 | 0=>0
 | n+1=>cntU p n+(if p n then 0 else 1)
theorem QcX(h:cntU p n=0):∀k,k<n->p k=true:=by
 induction n with
 | zero=>intro k hk;omega
 | succ n ih=>
  intro k hk;simp only[cntU] at h
  by_cases hp:p n=true
  ·by_cases e:k=n
   ·rw[e];exact hp
   ·exact ih (by omega) k (by omega)
  ·rw[Le hp] at h;omega
theorem OI(h:∀k,k<n->p k=q k):cntU p n=cntU q n:=by
 induction n with
 | zero=>rfl
 | succ n ih=>simp only[cntU];rw[ih (fun k hk=>h k (by omega)),h n (by omega)]
theorem QbR(hp:p i=false)(hq:q i=true)(hne:∀k,k≠i->q k=p k):∀n,i<n->cntU q n+1=cntU p n
 | 0,h=>by omega
 | n+1,h=>by
  simp only[cntU]
  by_cases e:i=n
  ·subst e;rw[hp,hq,OI (fun k hk=>hne k (by omega))]
   simp
  ·have:=QbR hp hq hne n (by omega)
   rw[hne n (fun h=>e h.symm)];omega
theorem QcW(n:Nat):cntU (fun _=>false) n=n:=by
 induction n with
 | zero=>rfl
 | succ n ih=>simp only[cntU,ih];rfl
def OY(St:Nat->Oper->Prop):Nat->List Oper->Prop
 | _,[]=>True
 | n,o::r=>St n o∧OY St (n+1) r
theorem OV{St:Nat->Oper->Prop} : ∀ {l:List Oper} {n j:Nat} {o:Oper},OY St n l->l[j]? = some o->St (n+j) o
 | _::_,n,0,o,h,e=>by simp at e;subst e;exact h.1
 | _::r,n,j+1,o,h,e=>by
  have:=OV (l:=r) (j:=j) h.2 (by simpa using e)
  rw[show n+(j+1)=n+1+j by omega];exact this
 | [],_,_,_,_,e=>by simp at e
theorem QdC{xs:Array Edge}{p:Edge->Bool}(h:xs.toList.any p=true):∃e,e∈xs∧p e=true:=by
 obtain⟨e,he,hp⟩:=List.any_eq_true.1 h;exact⟨e,by simpa using he,hp⟩
theorem Qb3(a:Act)(d:Nat)(v:Value)(h:d<a.tmps.size):(a.put (some d) v).tmps.getD d undef=v:=by
 simp[Act.put,h]
theorem UL(a:Act)(d t:Nat)(v:Value)(h:d≠t):(a.put (some d) v).tmps.getD t undef=a.tmps.getD t undef:=by
 simp only[Act.put]
 by_cases ht:t<a.tmps.size
 ·simp[Array.getD,ht,h]
 ·simp[Array.getD,ht]
def Uk(a:Act):List Nat->List Value->Act
 | t::sl,v::vs=>Uk (a.put (some t) v) sl vs
 | _,_=>a
theorem Qbi:∀(sl:List Nat) (vs:List Value) (a:Act),(Uk a sl vs).defers=a.defers
 | [],_,_=>rfl
 | _::_,[],_=>rfl
 | t::sl,v::vs,a=>by rw[Uk,Qbi sl vs];rfl
theorem Qdg:∀(sl:List Nat) (vs:List Value) (a:Act),(Uk a sl vs).tmps.size=a.tmps.size
 | [],_,_=>rfl
 | _::_,[],_=>rfl
 | t::sl,v::vs,a=>by rw[Uk,Qdg sl vs];simp[Act.put]
theorem OS:∀(sl:List Nat) (vs:List Value) (a:Act) (t:Nat),sl.contains t=false->(Uk a sl vs).tmps.getD t undef=a.tmps.getD t undef
 | [],_,_,_,_=>rfl
 | _::_,[],_,_,_=>rfl
 | u::sl,v::vs,a,t,h=>by
  simp only[List.contains_cons,Bool.or_eq_false_iff,beq_eq_false_iff_ne] at h;rw[Uk,OS sl vs _ t h.2,UL _ _ _ _ (fun e=>h.1 e.symm)]
theorem Tryz.infoS:(prog.info? 9).map (fun i=>(i.zero,i.size,i.bytes))=some (some (.string ByteArray.empty),1,16):=by kernel_rfl
theorem Ux(w:World)(s:BA)(hs:s.size<=9223372036854775807):RdS (w.alloc (.cells #[.string s] 9)) (Zp w.heap.size) w.heap.size 0 1 [s] :=
 ⟨rfl,fun _=>rfl,Qv w [.string s] 9,fun x hx=>by simp at hx;subst hx;exact hs⟩
def Qh(w:World)(B:Nat)(v:Value)(ss:LB):Prop:=w.ownsRow B 9 1 v ss.length (ss.map Value.string)
abbrev Ro(f:FuncId)(a:Array Value)(W:World)(X:LB):Prop:=Calls prog f a W fun e w'=>∃v,e= .returned v∧Qh w' W.heap.size v X∧Bl W w'
variable{v:Value}{l:LB}{B' cap g j:Nat}
theorem Ya(h:Qh w B v ss)(hs:∀s∈ss,s.size<=9223372036854775807):∃ao b cap,v= .slice ao ss.length cap∧RdS w ao b 0 ss.length ss∧ss.length<=cap∧(ao=none->cap=0):=by
 obtain⟨h1,h2⟩:=h
 rcases h2 with ⟨hv,h0⟩|⟨g,cap,cur,rfl,hg,hh,hc1,hc,hsz,ht⟩
 ·have:ss=[]:=List.length_eq_zero_iff.1 h0;subst this;exact⟨none,0,0,by rw[hv];rfl,⟨rfl,fun h=>absurd h (Nz 0),(fun j v h=>by cases h),hs⟩,La _,fun _=>rfl⟩
 ·refine⟨Zp g,g,cap,rfl,⟨rfl,fun _=>rfl,fun j v hj=> ?_,hs⟩,hc1,fun h=>by cases h⟩
  rw[Ll,cell_of_row w g j cur 9 (0,0) hh];rw[<-ht,LT] at hj
  split at hj
  ·simpa using hj
  ·cases hj
theorem QR(w:World){ops:Array Oper}{rest:List Oper}{o:Oper}{a:Act}{Q:Exit->Act->World->Prop}
  (hg:o.guard=none) (s x:Operand) (hop:o.op=Op.call { callee:=Callee.builtin Builtin.append,args:=#[s,x],argTypes:=#[22,22] })
  (B:Nat) (v:Value) (L:LB) (hs:a.eval s=v) (hown:Qh w B v L) (ao:OA) (b off cap:Nat) (M:LB) (hx:a.eval x= .slice ao M.length cap) (hr:RdS w ao b off M.length M) (hn:ao=none->cap=0)
  (hlen:L.length+M.length<=8796093022208) (hB:B<=w.heap.size)
  (hK:∀v' w',Qh w' B v' (L++M)->Below B w w'->wpList prog ops Q rest (a.put o.dst v') w'):wpList prog ops Q (o::rest) a w:=by
 obtain⟨i0,hi,xC,xD,xE⟩:=info_parts Tryz.infoS;have xB:∀k,v.ownBlock=some k->B<=k:=by
  obtain⟨_,h2⟩:=hown
  rcases h2 with ⟨rfl,_⟩|⟨g,cp,cur,rfl,hg,_⟩
  ·intro k hk;cases hk
  ·intro k hk;cases hk;exact hg
 cases ao with
 | none=>
  obtain rfl:=hn rfl;have hM:M=[]:=by
   cases M with
   | nil=>rfl
   | cons m r=>exact absurd (hr.ptr (by simp)) (by simp)
  subst hM;refine wpList_append_own_none hg s x _ hop B 9 i0 1 underlying22 hi _ _ _ hs hown hx (hK _ w ?_ (Lb _ _))
  rw[LU];exact hown
 | some ad=>
  have xA:∀j u,(M.map Value.string)[j]? = some u->w.cell? (ad.add j)=some u:=fun j u hu=>by
   have hj:j<M.length:=by have:=(List.getElem?_eq_some_iff.1 hu).1;rwa [LY] at this
   have:=NR (hr.ptr (by omega))
   subst this;rw[Addr.add_mid];exact hr.rng j u hu
  refine wpList_append_own w hg s x _ hop B 9 i0 (.string ByteArray.empty) 1 16 underlying22 hi xC xD xE rfl (by decide) _ _ _ hs hown ad M.length cap (M.map Value.string) hx (by simp) xA (by intro u hu;obtain⟨y,_,rfl⟩:=List.mem_map.1 hu;rfl) (by unfold maxLen;omega) (by omega) hB ?_
  intro v' w' h1 h2 _;refine hK v' w' ?_ ((Lb _ _).grown h2 hB xB)
  rw[Qh,Lc,LQ];exact h1
theorem YD(h:Qh w B v l)(o:Obj):Qh (w.alloc o) B v l:=by
 obtain⟨h1,h2⟩:=h;refine⟨h1,?_⟩
 rcases h2 with h2|⟨g,cap,cur,rfl,hg,hh,r⟩
 ·exact .inl h2
 ·exact .inr ⟨g,cap,cur,rfl,hg,by rw[Below.heap_alloc _ _ _ (Array.getElem?_eq_some_iff.1 hh).1];exact hh,r⟩
theorem QB(h:Qh w B v l)(hb:Below B' w W)(hB:w.heap.size<=B'):Qh W B v l:=by
 obtain⟨h1,h2⟩:=h;refine⟨h1,?_⟩
 rcases h2 with h2|⟨g,cap,cur,rfl,hg,hh,r⟩
 ·exact .inl h2
 ·exact .inr ⟨g,cap,cur,rfl,hg,by rw[hb.block g (Lz (Array.getElem?_eq_some_iff.1 hh).1 hB)];exact hh,r⟩
theorem Qfo(h:Qh w B v l)(h0:0<l.length):∃g cap,v= .slice (Zp g) l.length cap∧B<=g∧l.length<=cap∧cap<=maxLen:=by
 obtain⟨h1,h2⟩:=h
 rcases h2 with ⟨_,h2⟩|⟨g,cap,cur,hv,hg,_,hc,hm,_⟩
 ·omega
 ·exact⟨g,cap,hv,hg,hc,hm⟩
theorem Jf(h:Qh w B (.slice (Zp g) n cap) l)(hj:j<l.length):w.cell? ⟨g,j,none⟩=some (.string (l.getD j ByteArray.empty))∧w.frozen? ⟨g,j,none⟩=false:=by
 obtain⟨h1,h2⟩:=h
 rcases h2 with ⟨h2,_⟩|⟨g',cap',cur,hv,hg,hh,hc,hm,hz,ht⟩
 ·cases h2
 ·obtain⟨e1,e2,e3⟩:=IF hv
  cases e1;refine⟨?_,frozen_of_row w g j cur 9 hh⟩
  rw[cell_of_row w g j cur 9 (0,0) hh];have:(cur.toList.take (l.length*1))[j]? = some (.string (l.getD j ByteArray.empty)):=by
   rw[ht];simp[List.getElem?_eq_getElem hj,List.getD_eq_getElem?_getD]
  rw[IB (by omega)] at this
  simpa using this
theorem Ug(w:World)(B:Nat):Qh w B (.slice none 0 0) []:=⟨rfl,.inl ⟨rfl,rfl⟩⟩
namespace Pl
theorem Qf9(n k:Nat)(hn:n<2^64):(bits BinOp.and IntKind.u64 ((n:Int)/2^k) 1 == 1)=decide (n/2^k%2=1):=by
 have e:((n:Int)/2^k)=((n/2^k:Nat):Int):=by simp
 rw[e];have hm:n/2^k<18446744073709551616:=Im (N5 _ _) hn
 revert hm
 generalize n/2^k=m;intro hm;have:=bits_and_u64_nat m 1 hm (by decide)
 rw[show(1:Int)=((1:Nat):Int) from rfl,this,I2]
 by_cases h:m%2=1
 ·simp[h]
 ·have:m%2=0:=by omega
  simp[this]
theorem YY(n k:Nat)(w:World)(hn:n<2^64)(hk:k<64) :
  Re 224 #[.int .u64 n,.int .i64 k] w (.bool (decide (n/2^k%2=1))):=by
 have xA:(0:Int)<=(k:Int):=Lh _
 go_enter func224,ntmps224;go_wp2
 go_ret
 refine⟨?_,rfl⟩
 rw[<-Qf9 n k hn]
 rfl
theorem Jb(n:Nat)(w:World)(hn:n<2^64) :
  Re 138 #[.int .u64 n] w (.int .i64 (Qz 64 n:Nat)):=by
 go_enter func138,ntmps138;go_wp2
 go_loopg [3,5] 64 (fun g c i wr=> ∃k m:Nat,k<=64∧g=64-k∧i= .int .i64 k∧c= .int .i64 m∧m<=k∧m+Qz (64-k) (n/2^k)=Qz 64 n∧w=wr)
 case atStart=>go_light;exact⟨0,0,Ln _,rfl,rfl,rfl,Ln _,by simp,rfl⟩
 case round=>
  obtain⟨k,m,hk,rfl,rfl,rfl,hm,hs,rfl⟩:=hrel;have xA:(0:Int)<=(k:Int):=Lh _;have xC:(0:Int)<=(m:Int):=Lh _;have xD:(m:Int)<=64:=by omega
  by_cases hlt:k<64
  ·have xB:(k:Int)<64:=by omega
   have HS:=QaX k n hlt;have HC:=YY n k w hn hlt
   by_cases hb:n/2^k%2=1
   ·rw[LW hb] at HC
    go_wp2_with (go_at_call 224;refine HC.mono ?_;rintro e w' ⟨rfl,rfl⟩)
    go_roundg (64-(k+1))
    case rel=>go_light;exact⟨k+1,m+1,by omega,rfl,by go_num,by go_num,by omega,by omega,rfl⟩
    case measure=>go_light;omega
   ·rw[LA hb] at HC
    go_wp2_with (go_at_call 224;refine HC.mono ?_;rintro e w' ⟨rfl,rfl⟩)
    go_roundg (64-(k+1))
    case rel=>go_light;exact⟨k+1,m,by omega,rfl,by go_num,rfl,by omega,by omega,rfl⟩
    case measure=>go_light;omega
  ·obtain rfl:k=64:=by omega
   clear hk hlt;go_wp2
   go_ret
   refine⟨?_,rfl⟩
   rw[<-hs]
   rfl
end Pl
namespace Kp
open Pl (Qz)
theorem Oo(n:Nat)(w:World)(hn:n<2^64)(t:Nat)(ht:tr 64 n=t) :
  Re 253 #[.int .u64 n] w (.int .i64 t):=by
 subst ht
 go_enter func253,ntmps253;go_wp2
 go_loopg [4] 64 (fun g i wr=> ∃k:Nat,k<=64∧g=64-k∧i= .int .i64 k∧k+tr (64-k) (n/2^k)=tr 64 n∧w=wr)
 case atStart=>go_light;exact⟨0,Ln _,rfl,rfl,by simp,rfl⟩
 case round=>
  obtain⟨k,hk,rfl,rfl,hs,rfl⟩:=hrel;have xA:(0:Int)<=(k:Int):=Lh _
  by_cases hlt:k<64
  ·have xB:(k:Int)<64:=by omega
   have HC:=Pl.YY n k w hn hlt;have HS:=Qib k n hlt
   by_cases hb:n/2^k%2=1
   ·rw[Lf hb] at HS;rw[LW hb] at HC
    go_wp2_with (go_at_call 224;refine HC.mono ?_;rintro e w' ⟨rfl,rfl⟩)
    go_ret
    refine⟨?_,rfl⟩
    rw[<-hs,HS]
    rfl
   ·rw[Le hb] at HS;rw[LA hb] at HC
    go_wp2_with (go_at_call 224;refine HC.mono ?_;rintro e w' ⟨rfl,rfl⟩)
    go_roundg (64-(k+1))
    case rel=>go_light;exact⟨k+1,by omega,rfl,by go_num,by omega,rfl⟩
    case measure=>go_light;omega
  ·obtain rfl:k=64:=by omega
   clear hk hlt;go_wp2
   go_ret
   refine⟨?_,rfl⟩
   rw[<-hs]
   rfl
theorem QnS(h:Nat)(w:World)(hh:h<64)(p:Nat)(hp:2^h=p) :
  Re 394 #[.int .i64 h] w (.tuple #[.int .u64 p,.bool true]):=by
 have xA:(0:Int)<=(h:Int):=Lh _;have xB:(h:Int)<64:=by omega
 have e1:IntKind.u64.wrap ((2:Int)^h)=(p:Int):=by
  have:=Nat.pow_lt_pow_right (a:=2) (by decide) hh
  have e:((2:Int)^h)=(p:Int):=by rw[<-hp];simp
  rw[hp] at this;rw[e,IntKind.wrap_u64];omega
 clear hp
 go_enter func394,ntmps394;go_wp2
 go_ret2
 exact⟨rfl,rfl⟩
theorem Qc5(h:Nat)(w:World)(hh:h<=40)(p:Nat)(hp:2^h=p) :
  Re 331 #[.int .i64 h] w (.int .u64 p):=by
 have HP:=QnS h w (by omega) p hp
 clear hp
 go_enter func331,ntmps331
 go_wp2_with (go_at_call 394;refine HP.mono ?_;rintro e w' ⟨rfl,rfl⟩)
 go_ret
 exact⟨rfl,rfl⟩
theorem QiX(w:World):Qh (w.alloc (.cells #[] 9)) w.heap.size (.slice (Zp w.heap.size) 0 0) [] :=
 ⟨rfl,.inr ⟨w.heap.size,0,#[],rfl,La _,LC w _,La _,Ln _,rfl,rfl⟩⟩
theorem Qee(w:World)(s:BA):Qh (w.alloc (.cells #[.string s] 9)) w.heap.size (.slice (Zp w.heap.size) 1 1) [s] :=
 ⟨rfl,.inr ⟨w.heap.size,1,#[.string s],rfl,La _,LC w _,La _,by unfold maxLen;omega,rfl,rfl⟩⟩
theorem QO(h:Qh w B v l)(hB:B'<=B):Qh w B' v l:=by
 obtain⟨h1,h2⟩:=h;refine⟨h1,?_⟩
 rcases h2 with h2|⟨g,cap,cur,hv,hg,h3⟩
 ·exact .inl h2
 ·exact .inr ⟨g,cap,cur,hv,by omega,h3⟩
theorem J6(w:World)(ao:OA)(b off cap:Nat)(P:LB)(hr:RdS w ao b off P.length P)(hn:ao=none->cap=0)(hmx:P.length<=8796093022208) :
  Ro 158 #[.slice ao P.length cap] w P:=by
 have qT:∀(w:World) (a:OA) (n c n' c':Nat),(binOp .eql 22 (.slice a n c) (.slice none n' c')).run prog w= .ok (.bool a.isNone) w:=fun w a n c n' c'=>Lib.run_eql_slice_nil w _ _ a n c n' c' underlying22
 cases ao with
 | none=>
  obtain rfl:=hn rfl;have hP:P=[]:=by
   cases P with
   | nil=>rfl
   | cons m r=>exact absurd (hr.ptr (by simp)) (by simp)
  subst hP;clear hr hmx hn
  go_enter func158,ntmps158;go_wp2
  go_ret
  exact⟨_,rfl,Ug w _,Lb _ _⟩
 | some ad=>
  have HR:Hid (∀o,RdS (w.alloc o) (some ad) b off P.length P):=fun o=>hr.next (bal (Lb _ _) o) (La _)
  have HM:=Qc hmx;clear hr hn hmx
  go_enter func158,ntmps158
  go_wp2_with (at_builtin;refine QR _ rfl _ _ rfl w.heap.size _ [] rfl (QiX w) (some ad) b off cap P rfl (HR.out _) (fun h=>by cases h) ?c1 ?c2 ?_)
  case c1=>have:=HM.out;simp;omega
  case c2=>simp
  intro v1 w1 h1 hb1;have HX:Hid (Qh w1 w.heap.size v1 P∧Bl w w1):=⟨by simpa using h1,(bal (Lb _ _) _).trans hb1⟩
  clear h1 hb1;go_wp2
  go_ret
  exact⟨_,rfl,HX.out.1,HX.out.2⟩
theorem Qj7(w:World)(ao:OA)(len cap:Nat)(hc:len<=cap) :
  Re 332 #[.slice ao len cap] w (.slice ao len len):=by
 have xA:(len:Int)<=(cap:Int):=by omega
 clear hc
 go_enter func332,ntmps332;go_wp2
 go_ret
 exact⟨rfl,rfl⟩
theorem OX(w:World){ops:Array Oper}{rest:List Oper}{o:Oper}{a:Act}{Q:Exit->Act->World->Prop}
  (hg:o.guard=none) (s x:Operand) (hop:o.op=Op.call { callee:=Callee.builtin Builtin.append,args:=#[s,x],argTypes:=#[22,22] })
  (ao:OA) (b:Nat) (P:LB) (hs:a.eval s= .slice ao P.length P.length) (hr:RdS w ao b 0 P.length P) (ad:Addr) (d:BA) (hx:a.eval x= .slice (some ad) 1 1) (hc:w.cell? ad=some (.string d))
  (hlen:P.length<=1000)
  (hK:∀v' w',Qh w' w.heap.size v' (P++[d])->Below w.heap.size w w'->wpList prog ops Q rest (a.put o.dst v') w'):wpList prog ops Q (o::rest) a w:=by
 obtain⟨i0,hi,xB,xC,xD⟩:=info_parts Tryz.infoS;have xA:∀j u,[Value.string d][j]? = some u->w.cell? (ad.add j)=some u:=by
  intro j u hj
  match j,hj with
  | 0,hj=>simp at hj;subst hj;simpa [Addr.add] using hc
 refine wpList_append_grows w hg s x _ hop 9 i0 (.string ByteArray.empty) 1 16 underlying22 hi xB xC xD rfl (by decide) ao P.length P.length (P.map Value.string) hs (fun h=> ?_) (by simp) (fun ad' h j u hu=> ?_) ad 1 1 [.string d] hx rfl xA (by intro u hu;simp at hu;subst hu;rfl) (by omega) (by unfold maxLen;omega) (by omega) ?_
 ·by_cases h0:0<P.length
  ·have:=hr.ptr h0;rw[h] at this;cases this
  ·omega
 ·have hj:j<P.length:=by have:=(List.getElem?_eq_some_iff.1 hu).1;rwa [LY] at this
  have e:=hr.ptr (by omega)
  rw[h] at e
  cases e;rw[Addr.add_mid];exact hr.rng j u hu
 ·intro v' w' h1 h2;refine hK v' w' ?_ ((Lb _ _).grown h2 (La _) (fun k hk=>by cases hk))
  rw[Qh,Lc,LQ];exact h1
structure Rg(w:World)(p:Nat)(v:Value)(k:Int)(n:Nat)(P:LB):Prop where
 blk:w.heap[p]? = some (.cells #[.int .i64 k,.int .u64 n,v] 234 (0,0))
 own:Qh w 0 v P
 k1:1<=k
 k2:k<=32
 hn:n<=1099511627776
 hl:P.length=(hts n).length
 hs:∀s∈P,s.size=clk k
section
variable {w W:World} {p q:Nat} {v u:Value} {k k':Int} {n n':Nat} {P P':LB}
theorem Rg.lt(h:Rg w p v k n P):p<w.heap.size:=(Array.getElem?_eq_some_iff.1 h.blk).1
theorem Rg.c0(h:Rg w p v k n P):w.cell? ⟨p,0,none⟩=some (.int .i64 k):=by rw[cell_of_row w p 0 _ _ (0,0) h.blk];rfl
theorem Rg.c1(h:Rg w p v k n P):w.cell? ⟨p,1,none⟩=some (.int .u64 n):=by rw[cell_of_row w p 1 _ _ (0,0) h.blk];rfl
theorem Rg.c2(h:Rg w p v k n P):w.cell? ⟨p,2,none⟩=some v:=by rw[cell_of_row w p 2 _ _ (0,0) h.blk];rfl
theorem Rg.fz(h:Rg w p v k n P)(j:Nat):w.frozen? ⟨p,j,none⟩=false:=frozen_of_row w p j _ _ h.blk
theorem Rg.short(h:Rg w p v k n P):P.length<=41:=by rw[h.hl];exact QkG n
theorem Rg.small(h:Rg w p v k n P):∀s∈P,s.size<=140737488351232:=fun s hs=>by rw[h.hs s hs];have:=QK k;omega
theorem Rg.next(h:Rg w p v k n P)(hb:Below B w W)(hB:w.heap.size<=B):Rg W p v k n P :=
 ⟨by rw[hb.block p (Lz h.lt hB)];exact h.blk,QB h.own hb hB,h.k1,h.k2,h.hn,h.hl,h.hs⟩
theorem Rg.rd(h:Rg w p v k n P):∃ao b cap,v= .slice ao P.length cap∧RdS w ao b 0 P.length P∧P.length<=cap∧(ao=none->cap=0) :=
 Ya h.own (fun s hs=>Lr (h.small s hs) (by decide))
end
structure Ch(p:Nat)(w w':World):Prop where
 below:Below p w w'
 block:∀q,q<w.heap.size->q≠p->w'.heap[q]? = w.heap[q]?
theorem Ch.of{p:Nat}{w':World}(h:Bl w w')(hp:p<w.heap.size):Ch p w w':=⟨h.mono (Nat.le_of_lt hp),fun q hq _=>h.block q hq⟩
theorem Ch.set{p:Nat}{w':World}(h:Ch p w w')(i:Nat)(v:Value):Ch p w (w'.setCell ⟨p,i,none⟩ v):=by
 refine⟨h.below.setCell (p:=⟨p,i,none⟩) (La _) v,fun q hq hne=> ?_⟩
 rw[<-h.block q hq hne];exact Below.heap_setCell _ _ _ _ hne
end Kp
variable{c h s:Nat}{L M:LB}
def nd(c:Nat)(L:LB):Nat->Nat->BA
 | 0,i=>dg c (Up (L.getD i ByteArray.empty))
 | h+1,i=>dg c (QN (nd c L h (2*i)) (nd c L h (2*i+1)))
theorem Yt(hc:c<=32)(L:LB)(h i:Nat):(nd c L h i).size=c:=by
 cases h with
 | zero=>rw[nd,Jr hc]
 | succ h=>rw[nd,Jr hc]
theorem JO : ∀(h i j:Nat),(∀t,t<2^h->L.getD (i*2^h+t) ByteArray.empty=M.getD (j*2^h+t) ByteArray.empty)->nd c L h i=nd c M h j
 | 0,i,j,e=>by
  have:=e 0 (by decide)
  simp only[Nat.pow_zero,Nat.mul_one,Nat.add_zero] at this;rw[nd,nd,this]
 | h+1,i,j,e=>by
  have p:2^(h+1)=2*2^h:=by rw[LH];omega
  rw[nd,nd,JO h (2*i) (2*j),JO h (2*i+1) (2*j+1)]
  ·intro t ht;have:=e (2^h+t) (by omega)
   rw[p] at this;rw[show(2*i+1)*2^h+t=i*(2*2^h)+(2^h+t) by rw[LS,LZ,NP];omega,show(2*j+1)*2^h+t=j*(2*2^h)+(2^h+t) by rw[LS,LZ,NP];omega]
   exact this
  ·intro t ht;have:=e t (by omega)
   rw[p] at this;rw[show 2*i*2^h+t=i*(2*2^h)+t by rw[LZ,NP],show 2*j*2^h+t=j*(2*2^h)+t by rw[LZ,NP]]
   exact this
theorem QkD(L:LB)(a n t:Nat)(h:t<n):((L.drop a).take n).getD t ByteArray.empty=L.getD (a+t) ByteArray.empty:=by
 rw[Ld,Ld,IB h,NC]
theorem QpF(c:Nat)(L:LB)(h i:Nat):nd c ((L.drop (i*2^h)).take (2^h)) h 0=nd c L h i :=
 JO h 0 i fun t ht=>by rw[Wm,Ll,QkD _ _ _ _ ht]
def pks(c:Nat)(L:LB):Nat->LB
 | 0=>[]
 | h+1=>(if L.length/2^h%2=1 then [nd c L h (L.length/2^h-1)] else [])++pks c L h
theorem Qeh(e:L.length/2^h%2=1):pks c L (h+1)=nd c L h (L.length/2^h-1)::pks c L h:=by rw[pks,Lf e];rfl
theorem Qcn(e:L.length/2^h%2≠1):pks c L (h+1)=pks c L h:=by rw[pks,Le e];rfl
theorem Qeg(c:Nat)(L:LB):∀h,(pks c L h).length<=h
 | 0=>La _
 | h+1=>by
  have:=Qeg c L h
  by_cases e:L.length/2^h%2=1
  ·rw[Qeh e,LG];omega
  ·rw[Qcn e];omega
theorem Qco(hc:c<=32)(L:LB):∀h,∀s∈pks c L h,s.size=c
 | 0=>by intro s hs;cases hs
 | h+1=>by
  intro s hs;have:=Qco hc L h
  by_cases e:L.length/2^h%2=1
  ·rw[Qeh e] at hs
   rcases List.mem_cons.1 hs with rfl|hs
   ·exact Yt hc _ _ _
   ·exact this s hs
  ·rw[Qcn e] at hs;exact this s hs
theorem Qig(e:n<2^h):n/2^h%2≠1:=by rw[NX e];decide
theorem Qhe(h:s<g):n%2^g/2^s%2=n/2^s%2:=by
 obtain⟨d,rfl⟩:∃d,g=s+(d+1):=⟨g-s-1,by omega⟩
 rw[II,Nat.mod_mul_right_div_self,LH,LF,Nat.mod_mul_right_mod]
theorem Qia(h1:2^s<=n%2^g)(h2:n%2^g<2^(s+1)):s<g∧n/2^s%2=1∧n%2^g=n%2^(s+1)∧n%2^(s+1)=2^s+n%2^s:=by
 have xA:s<g:=by
  apply Nat.lt_of_not_le
  intro hle;have:=Na (n:=2) (by decide) hle
  have:=Ia n (LN g);omega
 have e1:n%2^g=n%2^(s+1):=by
  have:=Nat.mod_mod_of_dvd n (Nat.pow_dvd_pow 2 (show s+1<=g by omega))
  rw[<-this,Nt h2]
 rw[e1] at h1 h2;have e2:n/2^s%2=1:=by
  rw[<-Qhe (show s<s+1 by omega)]
  have:n%2^(s+1)/2^s=1:=by
   have hp:2^(s+1)=2^s*2:=LH ..;rw[Nat.div_eq_iff (LN s)];generalize n%2^(s+1)=m at *;omega
  rw[this]
 refine⟨xA,e2,e1,?_⟩
 rw[LH,Ih,e2];omega
theorem Qfg(e:n/2^s%2=1):(n/2^s-1)*2^s=n-n%2^(s+1)∧1<=n/2^s:=by
 have h1:1<=n/2^s:=by
  generalize n/2^s=x at *;omega
 refine⟨?_,h1⟩
 have:=N4 n (2^s);rw[LH,Ih,e,Nat.sub_mul,LF (n/2^s)];omega
def Yd(c:Nat)(L:LB)(h m:Nat):LB:=(List.range m).map (nd c L h)
theorem Yy(c:Nat)(L:LB)(h m:Nat):(Yd c L h m).length=m:=by simp[Yd]
theorem Qet(c:Nat)(L:LB)(h m:Nat)(hj:j<m):(Yd c L h m).getD j ByteArray.empty=nd c L h j:=by
 simp[Yd,List.getD_eq_getElem?_getD,hj]
theorem Qdj(c:Nat)(L:LB)(h m:Nat):Yd c L h m++[nd c L h m]=Yd c L h (m+1):=by
 simp[Yd,List.range_succ]
namespace Cv
open Pl
def dnL:Nat->Nat->Nat->List (Nat×Nat)
 | 0,_,_=>[]
 | h+1,lo,hi=>if pw h<=hi-lo then (h,lo/pw h)::dnL h (lo+pw h) hi else dnL h lo hi
def upL:Nat->Nat->Nat->Nat->List (Nat×Nat)
 | 0,_,_,_=>[]
 | f+1,h,lo,hi=>if pw h<=hi-lo then (if lo/pw h%2=1 then (h,lo/pw h)::upL f (h+1) (lo+pw h) hi else upL f (h+1) lo hi) else dnL (h+1) lo hi
def cov(lo hi:Nat):List (Nat×Nat):=upL 42 0 lo hi
def rst:Nat->Nat->List Nat->List (Nat×Nat)
 | x,n,[]=>cov x n
 | x,n,i::S=>cov x i++rst (i+1) n S
def All(A:Nat->Prop)(h k:Nat):Prop := ∀i,k*pw h<=i->i<(k+1)*pw h->A i
def Til(A:Nat->Prop)(q:Nat):Nat->List (Nat×Nat)->Prop
 | p,[]=>p<=q ∧ ∀i,p<=i->i<q -> ¬A i
 | p,b::L=>p<=b.2*pw b.1∧(b.2+1)*pw b.1<=q∧(∀i,p<=i->i<b.2*pw b.1 -> ¬A i)∧All A b.1 b.2 ∧ ¬All A (b.1+1) (b.2/2)∧Til A q ((b.2+1)*pw b.1) L
variable{A:Nat->Prop}{m p' q:Nat}{L L':List (Nat×Nat)}
theorem YU(h k:Nat):k*pw h<(k+1)*pw h:=by
 have:=QC h;rw[LS,L9];omega
theorem Qb7(A:Nat->Prop)(h k h' k':Nat)(he:k*pw h=k' * pw h')(hl:h<h')(ha:All A h' k'):All A (h+1) (k/2):=by
 obtain⟨d,rfl⟩:∃d,h'=h+1+d:=⟨h'-(h+1),by omega⟩
 have e1:pw (h+1+d)=2*pw d*pw h:=by rw[OT,QH,LF (2*pw h),<-LZ,LF (pw d)]
 have hp:=QC h;have hd:=QC d;have hk:k=k' * (2*pw d):=by
  rw[e1,<-LZ] at he;exact I3 hp he
 have xA:k/2=k' * pw d:=by
  rw[hk,show k' * (2*pw d)=k' * pw d*2 by rw[LF 2,LZ]]
  exact ND _ (by decide)
 intro i h1 h2;have e2:pw (h+1+d)=pw d*pw (h+1):=by rw[OT,LF]
 refine ha i ?_ ?_
 ·rw[e2,<-LZ,<-xA];exact h1
 ·refine Lz h2 ?_
  rw[e2,<-LZ,xA];refine LJ _ ?_
  rw[LS];omega
theorem Qp8{p:Nat}(h:Til A q p L):p<=q:=by
 cases L with
 | nil=>exact h.1
 | cons b L=>have:=YU b.1 b.2;have h1:=h.1;have h2:=h.2.1;omega
theorem Qou : ∀ {L L':List (Nat×Nat)} {p:Nat},Til A q p L->Til A q p L'->L=L':=by
 intro L
 induction L with
 | nil=>
  intro L' p h h'
  cases L' with
  | nil=>rfl
  | cons b L'=>
   obtain⟨a1,a2,a3,a4,a5,a6⟩:=h';have:=YU b.1 b.2;exact absurd (a4 _ (La _) this) (h.2 _ a1 (by omega))
 | cons c L ih=>
  intro L' p h h'
  cases L' with
  | nil=>
   obtain⟨a1,a2,a3,a4,a5,a6⟩:=h;have:=YU c.1 c.2;exact absurd (a4 _ (La _) this) (h'.2 _ a1 (by omega))
  | cons b L'=>
   obtain⟨a1,a2,a3,a4,a5,a6⟩:=h;obtain⟨b1,b2,b3,b4,b5,b6⟩:=h';obtain⟨h,k⟩:=c;obtain⟨h',k'⟩:=b;simp only at *;have x1:=YU h k;have x2:=YU h' k';have he:k*pw h=k' * pw h':=by
    rcases Nat.lt_trichotomy (k*pw h) (k' * pw h') with hh|hh|hh
    ·exact absurd (a4 _ (La _) x1) (b3 _ a1 hh)
    ·exact hh
    ·exact absurd (b4 _ (La _) x2) (a3 _ b1 hh)
   have hh:h=h':=by
    rcases Nat.lt_trichotomy h h' with hh|hh|hh
    ·exact absurd (Qb7 A h k h' k' he hh b4) a5
    ·exact hh
    ·exact absurd (Qb7 A h' k' h k he.symm hh a4) b5
   subst hh;have hk:k=k':=I3 (QC h) he;subst hk;rw[ih a6 b6]
theorem Qh7{p:Nat}(h:Til A q p' L)(hp:p<=p')(hn:∀i,p<=i->i<p' -> ¬A i):Til A q p L:=by
 cases L with
 | nil=>exact⟨Lr hp h.1,fun i h1 h2=>if hi:i<p' then hn i h1 hi else h.2 i (by omega) h2⟩
 | cons b L=>exact⟨Lr hp h.1,h.2.1,fun i h1 h2=>if hi:i<p' then hn i h1 hi else h.2.2.1 i (by omega) h2,h.2.2.2⟩
theorem QeI(h':Til A q m L'):∀ {L:List (Nat×Nat)} {p:Nat},Til A m p L->Til A q p (L++L'):=by
 intro L
 induction L with
 | nil=>intro p h;exact Qh7 h' h.1 h.2
 | cons b L ih=>
  intro p h;have:=Qp8 h';exact⟨h.1,Lr h.2.1 this,h.2.2.1,h.2.2.2.1,h.2.2.2.2.1,ih h.2.2.2.2.2⟩
abbrev Rg(lo hi:Nat):Nat->Prop:=fun i=>lo<=i∧i<hi
theorem QE(c h:Nat):c*pw (h+1)=2*c*pw h:=by rw[QH,<-LZ,LF c]
theorem Qpl(lo0 hi:Nat):∀h lo,(∃c,lo=c*pw h)->hi-lo<pw h->lo0<=lo->lo<=hi->Til (Rg lo0 hi) hi lo (dnL h lo hi):=by
 intro h
 induction h with
 | zero=>
  intro lo _ h2 h3 h4;rw[Oh] at h2;exact⟨h4,fun i h5 h6 _=>by omega⟩
 | succ h ih=>
  intro lo h1 h2 h3 h4;obtain⟨c,hc⟩:=h1;have hp:=QC h;have xA:=QH h;rw[QE] at hc;rw[dnL]
  split
  ·rename_i hfit
   have hk:lo/pw h=2*c:=by rw[hc];exact ND _ hp
   have e1:(2*c+1)*pw h=lo+pw h:=by rw[LS,L9,<-hc]
   have e2:2*c/2=c:=by omega
   have e3:c*pw (h+1)=lo:=by rw[QE];exact hc.symm
   rw[hk];refine⟨by show lo<=2*c*pw h;omega,by show(2*c+1)*pw h<=hi;omega,fun i i1 i2=>by dsimp only at i2;omega,fun i i1 i2=> ?_,fun hall=> ?_,?_⟩
   ·dsimp only at i1 i2;exact⟨by omega,by omega⟩
   ·dsimp only at hall
    rw[e2] at hall;have:=hall hi (by omega) (by rw[LS,L9,e3];omega)
    exact absurd this.2 (Nz _)
   ·dsimp only
    rw[e1];exact ih (lo+pw h) ⟨2*c+1,e1.symm⟩ (by omega) (by omega) (by omega)
  ·exact ih lo ⟨2*c,hc⟩ (by omega) h3 h4
theorem pw40(hh:pw h<=2^40):h<=40:=by
 by_cases h1:h<=40
 ·exact h1
 ·have h2:pw 41<=pw h:=OE (by omega)
  have h3:pw 41=2^41:=rfl;omega
theorem J7{lo hi:Nat}(hl:hi-lo<pw h):dnL (h+1) lo hi=dnL h lo hi:=by
 rw[dnL,Le (by omega)]
theorem Qqf(lo0 hi:Nat)(hhi:hi<=2^40):∀f h lo,f+h=42->h<=41->(∃c,lo=c*pw h)->lo0<=lo->lo<lo0+pw h->lo<=hi->Til (Rg lo0 hi) hi lo (upL f h lo hi):=by
 intro f
 induction f with
 | zero=>intro h lo h1 h2;omega
 | succ f ih=>
  intro h lo h1 h2 h3 h4 h5 h6;obtain⟨c,hc⟩:=h3;have hp:=QC h;have xA:=QH h;rw[upL]
  split
  ·rename_i hfit
   have hh:h<=40:=pw40 (by omega)
   have hk:lo/pw h=c:=by rw[hc];exact ND _ hp
   rw[hk];have e1:(c+1)*pw h=lo+pw h:=by rw[LS,L9,<-hc]
   split
   ·rename_i hodd
    have e2:c/2*pw (h+1)+pw h=lo:=by
     rw[QE,hc];have:c=2*(c/2)+1:=by omega
     conv=>rhs;rw[this,LS,L9]
    have e3:(c+1)/2*pw (h+1)=lo+pw h:=by
     rw[QE,<-e1];have:c+1=2*((c+1)/2):=by omega
     conv=>rhs;rw[this]
    refine⟨by show lo<=c*pw h;omega,by show(c+1)*pw h<=hi;omega,fun i i1 i2=>by dsimp only at i2;omega,fun i i1 i2=> ?_,fun hall=> ?_,?_⟩
    ·dsimp only at i1 i2;exact⟨by omega,by omega⟩
    ·dsimp only at hall
     have:=hall _ (La _) (YU _ _);have:=this.1;omega
    ·dsimp only
     rw[e1];exact ih (h+1) (lo+pw h) (by omega) (by omega) ⟨_,e3.symm⟩ (by omega) (by omega) (by omega)
   ·rename_i hev
    refine ih (h+1) lo (by omega) (by omega) ⟨c/2,?_⟩ h4 (by omega) h6
    rw[QE,hc];have:c=2*(c/2):=by omega
    conv=>lhs;rw[this]
  ·rename_i hno
   rw[J7 (by omega)]
   exact Qpl lo0 hi h lo ⟨c,hc⟩ (by omega) h4 h6
theorem Qbr(lo hi:Nat)(h:lo<=hi)(hhi:hi<=2^40):Til (Rg lo hi) hi lo (cov lo hi) :=
 Qqf lo hi hhi 42 0 lo rfl (by decide) ⟨lo,by simp[pw]⟩ (La _) (by rw[Oh];omega) h
theorem Qkd(lo:Nat):cov lo lo=[]:=by simp[cov,upL,pw,dnL]
theorem Qgl:∀h lo hi,(dnL h lo hi).length<=h:=by
 intro h
 induction h with
 | zero=>intro lo hi;exact La _
 | succ h ih=>
  intro lo hi;rw[dnL]
  split
  ·have:=ih (lo+pw h) hi;simp;omega
  ·have:=ih lo hi;omega
theorem Qqd(hi:Nat)(hhi:hi<=2^40):∀f h lo,f+h=42->h<=40->lo<=hi->(upL f h lo hi).length<=80-h:=by
 intro f
 induction f with
 | zero=>intro h lo h1 h2;omega
 | succ f ih=>
  intro h lo h1 h2 h3
  by_cases h40:h=40
  ·subst h40;obtain rfl:f=1:=by omega
   by_cases hfit:pw 40<=hi-lo
   ·have e:pw 40=2^40:=rfl;obtain rfl:lo=0:=by omega
    obtain rfl:hi=2^40:=by omega
    decide
   ·rw[upL,Le hfit,J7 (by omega)]
    have:=Qgl 40 lo hi;omega
  ·rw[upL]
   split
   ·split
    ·have:=ih (h+1) (lo+pw h) (by omega) (by omega) (by omega)
     simp;omega
    ·have:=ih (h+1) lo (by omega) (by omega) h3
     omega
   ·rw[J7 (by omega)]
    have:=Qgl h lo hi;omega
theorem O5(lo hi:Nat)(h:lo<=hi)(hhi:hi<=2^40):(cov lo hi).length<=80:=Qqd hi hhi 42 0 lo rfl (by decide) h
theorem QmT{lo hi:Nat}(hl:hi-lo<pw h):∀d,dnL (h+d) lo hi=dnL h lo hi:=by
 intro d
 induction d with
 | zero=>rfl
 | succ d ih=>
  have:pw h<=pw (h+d):=OE (by omega)
  rw[<-Ns,J7 (by omega),ih]
theorem QoB(n:Nat)(hn:n<=2^40):∀f h,f+h=42->h<=41->upL f h 0 n=dnL 41 0 n:=by
 intro f
 induction f with
 | zero=>intro h h1 h2;omega
 | succ f ih=>
  intro h h1 h2;rw[upL]
  split
  ·rename_i hfit
   have:=pw40 (h:=h) (by omega)
   rw[Nat.zero_div,Le (by decide)]
   exact ih (h+1) (by omega) (by omega)
  ·rename_i hno
   rw[J7 (by omega),show 41=h+(41-h) by omega,QmT (by omega)]
theorem Ub(n:Nat)(hn:n<=2^40):cov 0 n=dnL 41 0 n:=QoB n hn 42 0 rfl (by decide)
theorem Qaq:∀h d,d<pw (h+1)->Qz (h+1) d=d/pw h+Qz h (d%pw h):=by
 intro h
 induction h with
 | zero=>intro d hd;simp[Qz,pw] at *;omega
 | succ h ih=>
  intro d hd;have e1:d%pw (h+1)=d%2+2*(d/2%pw h):=by rw[QH,Ih]
  have e2:d/pw (h+1)=d/2/pw h:=by rw[QH,L4]
  rw[Qz,ih (d/2) (by rw[QH] at hd;omega),e1,e2,Qz]
  have e3:(d%2+2*(d/2%pw h))%2=d%2:=by omega
  have e4:(d%2+2*(d/2%pw h))/2=d/2%pw h:=by omega
  rw[e3,e4];omega
theorem QmU:∀h lo hi,hi-lo<pw h->(dnL h lo hi).length=Qz h (hi-lo):=by
 intro h
 induction h with
 | zero=>intro lo hi _;rfl
 | succ h ih=>
  intro lo hi hl;have hp:=QC h;have xA:=QH h;rw[Qaq h _ hl,dnL]
  split
  ·rename_i hfit
   have e1:(hi-lo)/pw h=1:=by rw[Nat.div_eq_iff hp];omega
   have e2:(hi-lo)%pw h=hi-(lo+pw h):=by rw[Nat.mod_eq_sub_mod hfit,Nt (by omega)];omega
   rw[e1,e2,LG,ih (lo+pw h) hi (by omega)];omega
  ·rename_i hno
   rw[NX (by omega),Nt (by omega),ih lo hi (by omega)];omega
theorem QnG(j d n:Nat)(h:n<2^j):Qz (j+d) n=Qz j n:=by
 induction d with
 | zero=>rfl
 | succ d ih=>rw[<-Ns,Jc _ _ (Lz h (Na (by decide) (by omega))),ih]
theorem O6(n:Nat)(hn:n<=2^40):(cov 0 n).length=Qz 64 n:=by
 rw[Ub n hn, QmU 41 0 n (by have:pw 41=2 ^ 41:=rfl
                            omega)]
 exact(QnG 41 23 n (by omega)).symm
theorem UW(n:Nat)(hn:n<=2^40):(cov 0 n).length<=40:=by
 by_cases h:n=2^40
 ·subst h;decide
 ·rw[Ub n hn, show(41:Nat)=40+1 from rfl, J7 (by have:pw 40=2 ^ 40:=rfl
                                                 omega)]
  exact Qgl 40 0 n
end Cv
theorem Tryz.laidOut:laidOutB prog=true:=by kernel_rfl
theorem Tryz.rowB:(249:TypeId)<prog.types.size:=NQ (by kernel_rfl)
theorem Tryz.deepB:prog.keyTypeAt 2 249=true:=by kernel_rfl
theorem Tryz.keyed:Maps.Keyed prog 249:=Maps.Keyed.of_law (deep_law_laid Tryz.laidOut (m:=2) (by omega) Tryz.rowB Tryz.deepB (by rw[underlying249]))
def kv(h:Int)(k:Nat):Value := .agg #[.int .i64 h,.int .u64 k]
def nv(s:BA):Value := .agg #[.string s]
theorem Qgy{h h':Int}{k':Nat}(e:kv h k=kv h' k'):h=h'∧k=k':=by
 have h1:Value.int .i64 h=Value.int .i64 h'∧Value.int .u64 k=Value.int .u64 k':=by
  unfold kv at e;injection e with e
  have:=Lv Array.toList e;injection this with a b
  injection b with b _
  exact⟨a,b⟩
 obtain⟨a,b⟩:=h1;injection a with _ a
 injection b with _ b
 exact⟨a,by omega⟩
theorem Qk9{s s':BA}(e:nv s=nv s'):s=s':=by
 unfold nv at e;injection e with e
 have:=Lv Array.toList e;injection this with a _
 injection a
def Fitb(h:Int)(k:Nat):Prop:=(-9223372036854775808<=h∧h<=9223372036854775807)∧k<18446744073709551616
theorem keyT:prog.keyType 249=true:=by kernel_rfl
theorem Qj3:prog.cellsOf 249=2:=by kernel_rfl
theorem QmJ:prog.cellsOf 3=1:=by kernel_rfl
theorem QmK:prog.cellsOf 48=1:=by kernel_rfl
theorem Qqb:∃n,prog.types.size+1=n+2:=by
 have h:0<prog.types.size:=Im (Ln _) Tryz.rowB;generalize prog.types.size=z at *;exact⟨z-1,by omega⟩
theorem Qng(n:Nat)(h u:Int)(w1:(Lit.int .i64 h).wf=true)(w2:(Lit.int .u64 u).wf=true):prog.keyLits (n+2) 249 [.int .i64 h,.int .u64 u]=some [.int .i64 h,.int .u64 u]:=by
 simp[Program.keyLits,underlying249,w1,w2,Qj3,QmJ,QmK,underlying3,underlying48]
theorem QiK(h:Int)(k:Nat):(kv h k).formed prog 249=true:=by
 simp[Value.formed,underlying249,Qj3,kv]
theorem QdW{h:Int}(hf:Fitb h k):∃l,keyOf prog 249 (kv h k)=some l:=by
 obtain⟨n,hn⟩:=Qqb;obtain⟨h1,h3⟩:=hf;have e:=Qng n h k (WalkArith.wf_i64 h1) (WalkArith.wf_u64 ⟨by omega,by omega⟩)
 have e2:(kv h k).cells.toList=[.int .i64 h,.int .u64 k]:=rfl;rw[<-hn,<-e2] at e;unfold keyOf;rw[underlying249];simp only[keyT,QiK,Bool.and_self,if_true,e,Option.map_some];exact⟨_,rfl⟩
def Mp(w:World)(b:Nat)(f:Int->Nat->Option BA):Prop :=
 ∃es clock,w.heap[b]? = some (.map es clock)∧(∀e∈es.toList,∃h k s,Fitb h k∧e.key=kv h k∧e.val=nv s)∧es.toList.Pairwise (fun x y=>x.key≠y.key) ∧
  ∀h k s,Fitb h k->(f h k=some s ↔ ∃e∈es.toList,e.key=kv h k∧e.val=nv s)
variable{h:Int}
theorem Mp.lt{f:Int->Nat->Option BA}(h:Mp w b f):b<w.heap.size:=by
 obtain⟨es,c,h1,_⟩:=h;exact(Array.getElem?_eq_some_iff.1 h1).1
theorem Mp.same{f:Int->Nat->Option BA}(h:Mp w b f)(hb:W.heap[b]? = w.heap[b]?):Mp W b f:=by
 obtain⟨es,c,h1,h2⟩:=h;exact⟨es,c,hb.trans h1,h2⟩
theorem QpC(w:World):Mp (w.alloc (.map #[] 0)) w.heap.size (fun _ _=>none):=by
 refine⟨#[],0,(MapKept.heap_alloc w _).1,?_,?_,?_⟩
 ·intro e he;simp at he
 ·simp
 ·intro h k s _;simp
theorem Mp.find{f:Int->Nat->Option BA}(hm:Mp w b f)(hf:Fitb h k) :
  ∃es clock,w.heap[b]? = some (.map es clock)∧((f h k=none∧(Instr.findKey 249 (kv h k) es.toList).run prog w= .ok none w ∧ ∀e∈es.toList,e.key≠kv h k) ∨
   ∃j e s,f h k=some s∧(Instr.findKey 249 (kv h k) es.toList).run prog w= .ok (some (j,nv s)) w∧es.toList[j]? = some e∧e.key=kv h k):=by
 obtain⟨es,c,h1,h2,h3,h4⟩:=hm;obtain⟨l,hl⟩:=QdW hf;refine⟨es,c,h1,?_⟩
 rcases Tryz.keyed.find w hl es.toList (fun e he=>by obtain⟨h',k',s,xA,e1,_⟩:=h2 e he;rw[e1];exact QdW xA) with ⟨r1,r2⟩|⟨j,e,r1,r2,r3⟩
 ·refine .inl ⟨?_,r1,r2⟩
  cases hx:f h k with
  | none=>rfl
  | some s=>
   obtain⟨e,he,ek,_⟩:=(h4 h k s hf).1 hx;exact absurd ek (r2 e he)
 ·have hm:=N8 r2;obtain⟨h',k',s,xA,e1,e2⟩:=h2 e hm;rw[e2] at r1;exact .inr ⟨j,e,s,(h4 h k s hf).2 ⟨e,hm,r3,e2⟩,r1,r2,r3⟩
theorem Mp.look{f:Int->Nat->Option BA}(hm:Mp w b f)(hf:Fitb h k)(c:Bool) :
  (Instr.lookup 170 (.map (some b)) (kv h k) c).run prog w= .ok (if c then .tuple #[nv ((f h k).getD ByteArray.empty),.bool (f h k).isSome] else nv ((f h k).getD ByteArray.empty)) w:=by
 obtain⟨l,hl⟩:=QdW hf;obtain⟨es,cl,h1,⟨e0,e1,_⟩|⟨j,e,s,e0,e1,_⟩⟩:=hm.find hf
 ·rw[e0];simp[Instr.lookup,run_underlying underlying170,MapKept.run_getObj_map h1,Tryz.keyed.check w _ hl,e1,Result.andThen]
  rfl
 ·rw[e0];simp[Instr.lookup,run_underlying underlying170,MapKept.run_getObj_map h1,Tryz.keyed.check w _ hl,e1,Result.andThen]
def put(f:Int->Nat->Option BA)(h:Int)(k:Nat)(s:BA):Int->Nat->Option BA:=fun h' k'=>if h'=h∧k'=k then some s else f h' k'
theorem Mp.write{f:Int->Nat->Option BA}(hm:Mp w b f)(hf:Fitb h k)(s:BA) :
  ∃es clock,(Instr.mapUpdate 170 (.map (some b)) (kv h k) (nv s)).run prog w= .ok () (ChangeMaps.setBlock w b (.map es clock))∧Mp (ChangeMaps.setBlock w b (.map es clock)) b (put f h k s):=by
 have hb:=hm.lt;obtain⟨l,hl⟩:=QdW hf;have sz:∀o,(ChangeMaps.setBlock w b o).heap[b]? = some o:=fun o=>by simp[ChangeMaps.setBlock,hb]
 obtain⟨es,cl,h1,xG⟩:=hm.find hf;obtain⟨xI,xH,g1,g2,g3,g4⟩:=hm;rw[h1] at g1;injection g1 with g1
 injection g1 with g1 g1'
 subst g1 g1'
 rcases xG with ⟨e0,e1,e2⟩|⟨j,e,s0,e0,e1,e2,e3⟩
 ·refine⟨es.push ⟨kv h k,nv s,cl⟩,cl+1,?_,_,_,sz _,?_,?_,?_⟩
  ·simp[Instr.mapUpdate,run_underlying underlying170,MapKept.run_getObj_map h1,Tryz.keyed.check w false hl,e1,MapKept.run_setObj_map _ h1,Result.andThen,ChangeMaps.setBlock]
  ·intro x hx;simp only[Array.toList_push,List.mem_append,List.mem_singleton] at hx
   rcases hx with hx|rfl
   ·exact g2 x hx
   ·exact⟨h,k,s,hf,rfl,rfl⟩
  ·rw[Array.toList_push,List.pairwise_append];refine⟨g3,by simp,fun x hx y hy=> ?_⟩
   simp only[List.mem_singleton] at hy;subst hy;exact e2 x hx
  ·intro h' k' s' hf';simp only[put,Array.toList_push,List.mem_append,List.mem_singleton]
   by_cases hq:h'=h∧k'=k
   ·obtain⟨rfl,rfl⟩:=hq;rw[Lf ⟨rfl,rfl⟩];refine⟨fun hs=> ?_,?_⟩
    ·injection hs with hs
     subst hs;exact⟨_,.inr rfl,rfl,rfl⟩
    ·rintro⟨x,hx|rfl,ex,ey⟩
     ·exact absurd ex (e2 x hx)
     ·rw[Qk9 ey]
   ·rw[Le hq,g4 h' k' s' hf'];refine⟨fun⟨x,hx,r⟩=>⟨x,.inl hx,r⟩,?_⟩
    rintro⟨x,hx|rfl,ex,ey⟩
    ·exact⟨x,hx,ex,ey⟩
    ·obtain⟨q1,q2⟩:=Qgy ex;exact absurd ⟨q1.symm,q2.symm⟩ hq
 ·have hj:es[j]? = some e:=by simpa using e2
  have xA:(es.modify j (fun e'=> { e' with key:=kv h k,val:=nv s })).toList=es.toList.set j { e with key:=kv h k,val:=nv s } := by rw[Array.toList_modify,ChangeMaps.modify_eq_set _ _ _ _ e2]
  have xD:j<es.toList.length:=(List.getElem?_eq_some_iff.1 e2).1
  have xF:∀i x,es.toList[i]? = some x->i≠j->x.key≠kv h k:=fun i x hx hij=>by
   have xE:=(List.getElem?_eq_some_iff.1 hx).1
   have pw:=List.pairwise_iff_getElem.1 g3;have ei:es.toList[i]=x:=(List.getElem?_eq_some_iff.1 hx).2
   have ej:es.toList[j]=e:=(List.getElem?_eq_some_iff.1 e2).2
   rcases Nat.lt_or_gt_of_ne hij with hlt|hlt
   ·have:=pw i j xE xD hlt;rw[ei,ej,e3] at this;exact this
   ·have:=pw j i xD xE hlt;rw[ei,ej,e3] at this;exact fun q=>this q.symm
  have xB:∀x,x∈es.toList.set j { e with key:=kv h k,val:=nv s } ↔ x = { e with key:=kv h k,val:=nv s } ∨ (x∈es.toList∧x.key≠kv h k):=by
   intro x
   constructor
   ·intro hx;obtain⟨i,hi,ex⟩:=NT hx;rw[List.getElem_set] at ex
    split at ex
    ·exact .inl ex.symm
    ·rename_i hn
     have xC:i<es.toList.length:=by simpa using hi
     exact .inr ⟨ex ▸ L8 xC,xF i x (by rw[Lk xC,ex]) (fun q=>hn q.symm)⟩
   ·rintro(rfl|⟨hx,hk⟩)
    ·exact List.mem_iff_getElem.2 ⟨j,by simpa using xD,by simp⟩
    ·obtain⟨i,hi,ex⟩:=NT hx;refine List.mem_iff_getElem.2 ⟨i,by simpa using hi,?_⟩
     rw[List.getElem_set_ne]
     ·exact ex
     ·rintro rfl
      apply hk
      rw[<-ex,(List.getElem?_eq_some_iff.1 e2).2,e3]
  refine⟨es.modify j (fun e'=> { e' with key:=kv h k,val:=nv s }),cl,?_,_,_,sz _,?_,?_,?_⟩
  ·simp[Instr.mapUpdate,run_underlying underlying170,MapKept.run_getObj_map h1,Tryz.keyed.check w false hl,e1,hj,e3,Tryz.keyed.stays w hl,MapKept.run_setObj_map _ h1,Result.andThen,ChangeMaps.setBlock]
  ·intro x hx;rw[xA] at hx
   rcases(xB x).1 hx with rfl|⟨hx,_⟩
   ·exact⟨h,k,s,hf,rfl,rfl⟩
   ·exact g2 x hx
  ·rw[xA,List.pairwise_iff_getElem];have pw:=List.pairwise_iff_getElem.1 g3;have ky:∀i (hi:i<(es.toList.set j { e with key:=kv h k,val:=nv s }).length),((es.toList.set j { e with key:=kv h k,val:=nv s })[i]).key=(es.toList[i]'(by simpa using hi)).key:=by
    intro i hi;rw[List.getElem_set]
    split
    ·rename_i q
     subst q;rw[(List.getElem?_eq_some_iff.1 e2).2,e3]
    ·rfl
   intro i i' hi xC hlt;rw[ky i hi,ky i' xC];exact pw i i' _ _ hlt
  ·intro h' k' s' hf';rw[xA]
   by_cases hq:h'=h∧k'=k
   ·obtain⟨rfl,rfl⟩:=hq;rw[put,Lf ⟨rfl,rfl⟩];refine⟨fun hs=> ?_,?_⟩
    ·injection hs with hs
     subst hs;exact⟨_,(xB _).2 (.inl rfl),rfl,rfl⟩
    ·rintro⟨x,hx,ex,ey⟩
     rcases(xB x).1 hx with rfl|⟨_,hk⟩
     ·rw[Qk9 ey]
     ·exact absurd ex hk
   ·rw[put,Le hq,g4 h' k' s' hf']
    constructor
    ·rintro⟨x,hx,ex,ey⟩;refine⟨x,(xB x).2 (.inr ⟨hx,fun q=>hq ?_⟩),ex,ey⟩
     obtain⟨q1,q2⟩:=Qgy (ex.symm.trans q);exact⟨q1,q2⟩
    ·rintro⟨x,hx,ex,ey⟩
     rcases(xB x).1 hx with rfl|⟨hx,_⟩
     ·obtain⟨q1,q2⟩:=Qgy ex;exact absurd ⟨q1.symm,q2.symm⟩ hq
     ·exact⟨x,hx,ex,ey⟩
end Go.Proofs.YtoblgjledefdbaaGreatDoor
