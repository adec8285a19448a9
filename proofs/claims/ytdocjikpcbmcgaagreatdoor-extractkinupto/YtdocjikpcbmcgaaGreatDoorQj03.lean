/- Own work. -/
import Derived.Deep.Onto
import Derived.Laws.AppendOwnNone
import Derived.Handy
import Derived.Test.YtdocjikpcbmcgaaGreatDoorRows
import Derived.BigQuiet
import Derived.Test.YtdocjikpcbmcgaaGreatDoorQj02
set_option maxRecDepth 100000
namespace Go.Proofs.YtdocjikpcbmcgaaGreatDoor
open Go.RowKit
attribute [local go_sem ↓] Go.wp_at_zero Go.wp_at_succ
theorem Qa{w W w2:World}(h:Zb w W)(h2:Zb W w2):Zb w w2:=h.trans (h2.mono h.size)
theorem bal{w W:World}(h:Zb w W)(o:Obj):Zb w (W.alloc o):=h.alloc h.size o
theorem Qd{B:Nat}{a w:World}(h:Below B a w)(n:Nat):Below B a (w.drewN n):=⟨h.os,h.tape,h.output,h.size,h.block⟩
theorem Qh5{l:List Int}(h:0<l.length):cW l≠[]:=by
 intro e;have:=congrArg List.length e;rw[Qp,IL] at this;omega
structure Tb(w:World):Prop where
 rs:w.rangeAt 2 0 (cW RS)
theorem Tb.next{w W:World}(h:Tb w)(hb:Zb w W):Tb W :=
 ⟨Ql hb (QM h.rs (Qh5 (by rw[Qc6];decide))) h.rs⟩
def clk(k:Int):Nat:=if k<1 then 1 else if 32<k then 32 else k.toNat
theorem Qma(k:Int):1<=clk k:=by
 unfold clk
 split
 ·omega
 ·split <;> omega
theorem Qx(k:Int):clk k<=32:=by
 unfold clk
 split
 ·omega
 ·split <;> omega
theorem Qd3(w:World)(k:Int)(x:Int)(hx:(clk k:Int)=x) :
  Calls Tryz.prog 169 #[.int .i64 k] w fun e w'=>e = .returned (.int .i64 x)∧w'=w:=by
 subst hx;unfold clk
 go_enter Tryz.func169,Tryz.ntmps169
 by_cases h1:k<1
 ·have e1 : ¬(1<=k):=by omega
  rw[if_pos h1];clear h1;go_wp2
  go_ret
  simp
 ·by_cases h2:32<k
  ·have e1:1<=k:=by omega
   have e2 : ¬(k<=32):=by omega
   rw[if_neg h1,if_pos h2];clear h1 h2;go_wp2
   go_ret
   simp
  ·have e1:1<=k:=by omega
   have e2:k<=32:=by omega
   have e3:(k.toNat:Int)=k:=by omega
   rw[if_neg h1,if_neg h2,e3];clear h1 h2;go_wp2
   go_ret
   simp
theorem Uh(x:Int):(Q7 [x]).size=1:=rfl
theorem JE(w:World)(x:Int):(convert 95 9 (.slice (some ⟨w.heap.size,0,none⟩) 1 1)).run Tryz.prog (w.alloc (.cells #[.int .u8 x] 5)) = .ok (.string (Q7 [x])) (w.alloc (.cells #[.int .u8 x] 5)) :=
 Qbv _ _ [x] 1 rfl (Qv w (cB [x]) 5)
theorem QcZ(l:List Int):(Q7 l).size=l.length:=by
 have : ∀(l:List Int) (r:BA),(l.foldl (fun r n=>r.push (UInt8.ofNat n.toNat)) r).size=r.size+l.length:=by
  intro l
  induction l with
  | nil=>intro r;rfl
  | cons x t ih=>intro r;rw[List.foldl_cons,ih,ByteArray.size_push,Lu];omega
 rw[Q7,this];simp
theorem Ok(rs t:List Int):(Jt rs t).size=32:=by rw[Jt,QcZ,shaT,QbX]
def Qm(s:BA):BA:=Q7 [0]++s
def QE(a b:BA):BA:=(Q7 [1]++a)++b
def UG(a b:BA):BA:=(Q7 [2]++a)++b
theorem Yk(s:BA):(Qm s).size=1+s.size:=by rw[Qm,LV,Uh]
theorem Yx(a b:BA):(QE a b).size=1+a.size+b.size:=by rw[QE,LV,LV,Uh]
theorem Qao(a b:BA):(UG a b).size=1+a.size+b.size:=by rw[UG,LV,LV,Uh]
def dg(c:Nat)(t:BA):BA:=(Jt RS (tB t)).extract 0 c
theorem YS{c:Nat}(hc:c<=32)(t:BA):(dg c t).size=c:=by
 rw[dg,It,Ok];omega
theorem Qlf(w:World)(ht:Tb w)(t:BA)(hs:t.size<4611686018427387904) :
  Calls Tryz.prog 168 #[.slice (some ⟨w.heap.size,0,none⟩) 1 1] (w.alloc (.cells #[.string t] 9)) fun e w'=>e = .returned (.string (Jt RS (tB t)))∧Zb w w':=by
 have e:Yi [t]=tB t:=by simp[Yi]
 refine(QmE _ (some ⟨w.heap.size,0,none⟩) w.heap.size 0 1 1 [t] rfl (fun _=>rfl) (Qv w [.string t] 9) (by decide) RS Qc6 (World.rangeAt_alloc ht.rs _) (by rw[e,Yz];exact hs)).mono fun e' w' ⟨he,hb'⟩=>⟨?_,?_⟩
 ·rw[he,e]
 ·exact((Below.refl _ _).alloc (Lb _) _).trans (hb'.mono (by simp))
theorem OY(w:World)(ht:Tb w)(k:Int)(t:BA)(hs:t.size<4611686018427387904)(r:BA)(hr:dg (clk k) t=r) :
  Zr 126 #[.int .i64 k,.string t] w (.string r):=by
 subst hr;have HS:=Qlf w ht t hs;unfold dg;have hz:=Ok RS (tB t);generalize Jt RS (tB t)=z at *;have c1:=Qma k;have c2:=Qx k;have HC:=fun W=>Qd3 W k (clk k) rfl
 generalize clk k=c at *;have h1:(0:Int)<=(c:Int):=by omega
 have h2:(c:Int)<=32:=by omega
 clear ht hs c1
 go_enter Tryz.func126,Tryz.ntmps126
 go_wp2_with (first
  | (go_at_call 168;with_reducible refine HS.mono ?_;rintro e w1 ⟨rfl,hb1⟩)
  | (go_at_call 169;with_reducible refine(HC _).mono ?_;rintro e w2 ⟨rfl,rfl⟩))
 go_ret
 exact⟨rfl,hb1⟩
theorem Qau(w:World)(s:BA)(hs:s.size<2305843009213693952) :
  Zr 164 #[.string s] w (.string (Qm s)):=by
 have cv:=JE w 0;unfold Qm;have hz:=Uh 0;generalize Q7 [0]=z at *;have hns : ¬(9223372036854775807<1+s.size):=by omega
 go_enter Tryz.func164,Tryz.ntmps164;go_wp2
 go_ret
 exact⟨rfl,bal (Below.refl _ _) _⟩
theorem U7(w:World)(a b:BA)(hs:a.size<2305843009213693952)(hs2:b.size<2305843009213693952) :
  Zr 128 #[.string a,.string b] w (.string (QE a b)):=by
 have cv:=JE w 1;unfold QE;have hz:=Uh 1;generalize Q7 [1]=z at *;have hns : ¬(9223372036854775807<1+a.size):=by omega
 have hns2 : ¬(9223372036854775807<1+a.size+b.size):=by omega
 go_enter Tryz.func128,Tryz.ntmps128;go_wp2
 go_ret
 exact⟨rfl,bal (Below.refl _ _) _⟩
theorem QdZ(w:World)(a b:BA)(hs:a.size<2305843009213693952)(hs2:b.size<2305843009213693952)(r:BA)(hr:UG a b=r) :
  Zr 127 #[.string a,.string b] w (.string r):=by
 subst hr;have cv:=JE w 2;unfold UG;have hz:=Uh 2;generalize Q7 [2]=z at *;have hns : ¬(9223372036854775807<1+a.size):=by omega
 have hns2 : ¬(9223372036854775807<1+a.size+b.size):=by omega
 go_enter Tryz.func127,Tryz.ntmps127;go_wp2
 go_ret
 exact⟨rfl,bal (Below.refl _ _) _⟩
def chk(k:Int):Int:=if k<1∨32<k then 70 else 0
theorem QW(w:World)(k:Int):Calls Tryz.prog 61 #[.int .i64 k] w fun e w'=>e = .returned (.int .i64 (chk k))∧w'=w:=by
 unfold chk
 go_enter Tryz.func61,Tryz.ntmps61
 by_cases h1:k<1
 ·rw[if_pos (.inl h1)];go_wp2
  go_ret
  simp
 ·by_cases h2:32<k
  ·rw[if_pos (.inr h2)];go_wp2
   go_ret
   simp
  ·rw[if_neg (by omega)]
   go_wp2
   go_ret
   simp
theorem Qc{p:Prop}(h:p):Hid p:=h
theorem Tryz.infoI:(Tryz.prog.info? 5).map (fun i=>(i.zero,i.size,i.bytes))=some (some (.int .u8 0),1,1):=by kernel_rfl
def OwnI(w:World)(B:Nat)(v:Value)(l:List Int):Prop:=w.ownsRow B 5 1 v l.length (cB l)
theorem Qhq{w:World}{B:Nat}{v:Value}{l:List Int}(h:OwnI w B v l)(h0:0<l.length):(convert 95 9 v).run Tryz.prog w = .ok (.string (Q7 l)) w:=by
 have hc:=fun g=>h.cells (g:=g)
 obtain⟨h1,h2⟩:=h
 rcases h2 with ⟨rfl,h2⟩|⟨g,cap,cur,rfl,hg,hh,r⟩
 ·omega
 ·rw[run_convert_bytes_string w 95 9 5 _ _ _ Tryz.underlying95 Tryz.underlying5 Tryz.underlying9];refine run_bytesToString w ⟨g,0,none⟩ l.length cap l ?_
  have:=run_loadCells_list (P:=Tryz.prog) w ⟨g,0,none⟩ (cB l) (fun j v hv=>hc g rfl j v hv)
  rwa [Qw] at this
theorem Qjf{w:World}{B:Nat}{v:Value}{l:List Int}(h:OwnI w B v l) : ∀k,v.ownBlock=some k->B<=k:=by
 obtain⟨_,h2⟩:=h
 rcases h2 with ⟨rfl,_⟩|⟨g,cp,cur,rfl,hg,_⟩
 ·intro k hk;cases hk
 ·intro k hk;cases hk;exact hg
theorem Qje(w:World)(x:Int):OwnI (w.alloc (.cells #[.int .u8 x] 5)) w.heap.size (.slice (some ⟨w.heap.size,0,none⟩) 1 1) [x] :=
 ⟨rfl,.inr ⟨w.heap.size,1,#[.int .u8 x],rfl,Lb _,heap_alloc_new w _,Lb _,by unfold maxLen;omega,rfl,rfl⟩⟩
theorem QaU(w:World){ops:Array Oper}{rest:List Oper}{o:Oper}{a:Act}{Q:Exit->Act->World->Prop}
  (hg:o.guard=none) (s x:Operand) (hop:o.op=Op.call { callee:=Callee.builtin Builtin.append,args:=#[s,x],argTypes:=#[95,95] })
  (B:Nat) (v:Value) (L:List Int) (hs:a.eval s=v) (hown:OwnI w B v L) (y:Int) (hx:a.eval x = .slice (some ⟨w.heap.size,0,none⟩) 1 1)
  (hlen:L.length<=1000) (hB:B<=w.heap.size)
  (hK : ∀v' w',OwnI w' B v' (L++[y])->Below B w w'->wpList Tryz.prog ops Q rest (a.put o.dst v') w'):wpList Tryz.prog ops Q (o::rest) a (w.alloc (.cells #[.int .u8 y] 5)):=by
 obtain⟨i0,hi,hz0,hz1,hz2⟩:=info_parts Tryz.infoI;refine wpList_append_own _ hg s x _ hop B 5 i0 (.int .u8 0) 1 1 Tryz.underlying95 hi hz0 hz1 hz2 rfl (by decide) _ _ _ hs (IP hown _) ⟨w.heap.size,0,none⟩ 1 1 (cB [y]) hx (by simp[cB]) ?_ (by intro u hu;simp[cB] at hu;subst hu;rfl) (by unfold maxLen;omega) (by omega) (by simp;omega) ?_
 ·intro j u hu;have hj:j=0:=by have:=(Lw.1 hu).1;simp[cB] at this;exact this
  subst hj;have hu':Value.int .u8 y=u:=NE hu;subst hu';rw[Addr.add_mid,NY]
  rfl
 ·intro v' w' h1 h2 _;refine hK v' w' ?_ (((Below.refl _ _).alloc hB _).trans ((Below.refl _ _).grown h2 (by simp;omega) (Qjf hown)))
  rw[OwnI,Ld,cB,LK];exact h1
def nbL(n:Nat)(j:Nat):List Int:=(List.range j).map fun i=>((n / 256^(7 - i) % 256:Nat):Int)
theorem Qdu(n j:Nat):(nbL n j).length=j:=by simp[nbL]
theorem Qi1(n j:Nat):nbL n (j+1)=nbL n j++[((n / 256^(7 - j) % 256:Nat):Int)]:=by
 simp[nbL,List.range_succ]
theorem QjB(n k:Nat):(n:Int) / 2^(8*(7 - k)) % 256=((n / 256^(7 - k) % 256:Nat):Int):=by
 rw[Int.natCast_emod,Int.natCast_ediv,Int.natCast_pow,Int.pow_mul]
 rfl
def QeK(n:Nat):List Int:=3::nbL n 8
def QN(n:Nat)(d:BA):BA:=Q7 (QeK n)++d
theorem Qb5(n:Nat):(Q7 (QeK n)).size=9:=by rw[QcZ,QeK,Lu,Qdu]
theorem OF(n:Nat)(d:BA):(QN n d).size=9+d.size:=by rw[QN,LV,Qb5]
theorem QaA(w:World)(n:Nat)(d:BA)(hs:d.size<2305843009213693952)(r:BA)(hr:QN n d=r) :
  Zr 71 #[.int .u64 (n:Int),.string d] w (.string r):=by
 subst hr;have hns : ¬(9223372036854775807<9+d.size):=by omega
 have HS:=Qb5 n;unfold QN;obtain⟨z,HE⟩ : ∃z,Hid (Q7 (QeK n)=z):=⟨_,rfl⟩;rw[HE.out] at HS ⊢
 go_enter Tryz.func71,Tryz.ntmps71;go_wp2
 go_loopg [5,8] 8 (fun g v i wr => ∃k:Nat,k<=8∧g=8 - k∧i = .int .i64 (k:Int)∧OwnI wr w.heap.size v (3::nbL n k)∧Zb w wr)
 case atStart =>
  go_light;exact⟨0,Lf _,rfl,rfl,Qje w 3,bal (Below.refl _ _) _⟩
 case round =>
  obtain⟨k,hk,rfl,rfl,hown,hb⟩:=hrel
  by_cases hlt:k<8
  ·have hz:(k:Int)<8:=by omega
   have HZ:Hid (w.heap.size<=wr.heap.size):=hb.size;have HL:Hid ((3::nbL n k).length<=1000):=by show _<=_;rw[Lu,Qdu];omega
   have HN:=Qc (Qi1 n k)
   go_wp2_with (at_builtin;refine QaU _ rfl _ _ rfl w.heap.size _ (3::nbL n k) rfl hown _ rfl HL.out HZ.out ?_)
   intro v' w2 r1 r2;have HO:Hid (OwnI w2 w.heap.size v' (3::nbL n (k+1))):=by
    show OwnI _ _ _ _
    rw[HN.out,<-QjB n k];exact r1
   have HB:Hid (Zb w w2):=hb.trans r2;clear r1 r2 hb hown HN;go_wp2
   go_roundg (8 - (k+1))
   case rel =>
    go_light;exact⟨k+1,by omega,rfl,by go_num,HO.out,HB.out⟩
   case measure=>go_light;omega
  ·obtain rfl:k=8:=by omega
   have hcv:=Qhq hown (by simp)
   have HB:Hid (Zb w wr):=hb;clear hown hb hlt hk;rw[show(3::nbL n 8)=QeK n from rfl,HE.out] at hcv
   go_wp2
   go_ret
   exact⟨rfl,HB.out⟩
structure RdS(w:World)(ao:OA)(b off len:Nat)(ss:LB):Prop where
 hl:ss.length=len
 ptr:0<len->ao=some ⟨b,off,none⟩
 rng:w.rangeAt b off (ss.map Value.string)
 sz : ∀s∈ss,s.size<=9223372036854775807
theorem RdS.lt{w:World}{ao:OA}{b off len:Nat}{ss:LB}(h:RdS w ao b off len ss)(h0:0<len):b<w.heap.size :=
 QM h.rng (by intro e;have:=congrArg List.length e;rw[Ln,IL,h.hl] at this;omega)
theorem RdS.next{w W:World}{ao:OA}{b off len B:Nat}{ss:LB}(h:RdS w ao b off len ss)(hb:Below B w W)(hB:w.heap.size<=B):RdS W ao b off len ss:=by
 refine⟨h.hl,h.ptr,?_,h.sz⟩
 by_cases h0:0<len
 ·exact Ql hb (LS (h.lt h0) hB) h.rng
 ·have:ss=[]:=LG.1 (by rw[h.hl];omega)
  rw[this];intro j v hv;cases hv
theorem RdS.at{w:World}{ao:OA}{b off len:Nat}{ss:LB}(h:RdS w ao b off len ss){k:Nat}(hk:k<len):w.cell? ⟨b,off+k,none⟩=some (.string (ss.getD k ByteArray.empty)) :=
 h.rng k _ (by have:=h.hl;simp[List.getElem?_eq_getElem (show k<ss.length by omega),List.getD_eq_getElem?_getD])
theorem QI{ss:LB}{k:Nat}(hk:k<ss.length):ss.getD k ByteArray.empty∈ss:=by
 rw[La,Lc hk];exact LO _
theorem Qel(w:World)(ht:Tb w)(k:Int)(s:BA)(hs:s.size<2305843009213693952)(r:BA)(hr:dg (clk k) (Qm s)=r) :
  Zr 116 #[.int .i64 k,.string s] w (.string r):=by
 have HL:=Qau w s hs;have HO:Hid (∀W,Zb w W->Zr 126 #[.int .i64 k,.string (Qm s)] W (.string r)):=fun W hb=>OY W (ht.next hb) k _ (by rw[Yk];omega) r hr
 clear hr ht hs;generalize Qm s=t at *
 go_enter Tryz.func116,Tryz.ntmps116
 go_wp2_with (first
  | (go_at_call 164;with_reducible refine HL.mono ?_;rintro e w1 ⟨rfl,hb1⟩)
  | (go_at_call 126;with_reducible refine(HO.out _ hb1).mono ?_;rintro e w2 ⟨rfl,hb2⟩))
 go_ret
 exact⟨rfl,Qa hb1 hb2⟩
theorem O4(w:World)(ht:Tb w)(k:Int)(a b:BA)(hs:a.size<2305843009213693952)(hs2:b.size<2305843009213693952)(r:BA)(hr:dg (clk k) (QE a b)=r) :
  Zr 125 #[.int .i64 k,.string a,.string b] w (.string r):=by
 have HL:=U7 w a b hs hs2;have HO:Hid (∀W,Zb w W->Zr 126 #[.int .i64 k,.string (QE a b)] W (.string r)):=fun W hb=>OY W (ht.next hb) k _ (by rw[Yx];omega) r hr
 clear hr ht hs hs2;generalize QE a b=t at *
 go_enter Tryz.func125,Tryz.ntmps125
 go_wp2_with (first
  | (go_at_call 128;with_reducible refine HL.mono ?_;rintro e w1 ⟨rfl,hb1⟩)
  | (go_at_call 126;with_reducible refine(HO.out _ hb1).mono ?_;rintro e w2 ⟨rfl,hb2⟩))
 go_ret
 exact⟨rfl,Qa hb1 hb2⟩
def QA(c:Nat):LB->BA
 | []=>ByteArray.empty
 | [p]=>p
 | p::q::r=>dg c (UG p (QA c (q::r)))
theorem Yc{c:Nat}(hc:c<=32){M:Nat}(hM:32<=M) : ∀(ss:LB),(∀s∈ss,s.size<=M)->(QA c ss).size<=M
 | [],_=>by simp[QA]
 | [p],h=>h p (by simp)
 | p::q::r,_=>by rw[QA,YS hc];omega
theorem Qcn(c:Nat)(ss:LB)(i:Nat)(h:i+1<ss.length):QA c (ss.drop i)=dg c (UG (ss.getD i ByteArray.empty) (QA c (ss.drop (i+1)))):=by
 rw[LC (by omega),LC h,QA,La,Lc (by omega)]
 rfl
theorem Qco(c:Nat)(ss:LB)(h:0<ss.length):QA c (ss.drop (ss.length - 1))=ss.getD (ss.length - 1) ByteArray.empty:=by
 rw[LC (by omega),show ss.length - 1+1=ss.length by omega,IF,QA,La,Lc (by omega)]
 rfl
theorem Ji(w:World)(ht:Tb w)(k:Int)(ao:OA)(b off len cap:Nat)(ss:LB)(hr:RdS w ao b off len ss)(hsz : ∀s∈ss,s.size<=140737488351232)(hmx:len<=8796093022208)(r:BA)(hq:QA (clk k) ss=r) :
  Zr 72 #[.int .i64 k,.slice ao len cap] w (.string r):=by
 by_cases h0:len=0
 ·subst h0;have:ss=[]:=LG.1 hr.hl;subst this;subst hq
  go_enter Tryz.func72,Tryz.ntmps72;go_wp2
  go_ret
  exact⟨rfl,Below.refl _ _⟩
 ·have hlen:0<len:=by omega
  obtain rfl:=hr.ptr hlen;obtain⟨m,rfl⟩ : ∃m,len=m+1:=⟨len - 1,by omega⟩
  have hc:=Qx k;have hne : ¬((m:Int)+1=0):=by omega
  have cm:=hr.at (k:=m) (by omega)
  have HL:Hid (QA (clk k) (ss.drop m)=ss.getD m ByteArray.empty):=by
   have:=Qco (clk k) ss (by rw[hr.hl];omega)
   rw[hr.hl] at this;exact this
  have HSZ:Hid (∀d,d=QA (clk k) ss->True):=fun _ _=>trivial
  have HM:Hid (∀j,j<m+1->(ss.getD j ByteArray.empty).size<=140737488351232):=fun j hj=>hsz _ (QI (by rw[hr.hl];exact hj))
  have HD:Hid (∀j,(QA (clk k) (ss.drop j)).size<=140737488351232):=fun j=>Yc hc (by decide) _ (fun s hs=>hsz s (LU hs))
  have HN:Hid (∀j,j<m->QA (clk k) (ss.drop j)=dg (clk k) (UG (ss.getD j ByteArray.empty) (QA (clk k) (ss.drop (j+1))))):=fun j hj=>Qcn _ _ _ (by rw[hr.hl];omega)
  have HT:Hid (Tb w):=ht;have HR:Hid (RdS w (some ⟨b,off,none⟩) b off (m+1) ss):=hr;have HQ:Hid (QA (clk k) (ss.drop 0)=r):=hq;obtain⟨d0,hd0⟩:=Ze (ss.getD m ByteArray.empty);rw[hd0] at cm;have HL2:Hid (QA (clk k) (ss.drop m)=d0):=by rw[<-hd0];exact HL
  clear hd0 HL ht hr hq hsz HSZ h0 hlen
  go_enter Tryz.func72,Tryz.ntmps72;go_wp2
  go_loopg [6,7] m (fun g x i wr => ∃(j:Nat) (d:BA),j=g∧x = .string d∧i = .int .i64 ((j:Int) - 1)∧j<=m∧Hid (QA (clk k) (ss.drop j)=d)∧Zb w wr)
  case atStart =>
   go_light;exact⟨m,d0,rfl,rfl,rfl,Lb _,HL2,Below.refl _ _⟩
  case round =>
   obtain⟨j,d,hg,rfl,rfl,hj,HE,hb⟩:=hrel;subst hg
   cases j with
   | zero =>
    have hz : ¬((0:Int) <= -1):=by decide
    rw[show((0:Nat):Int) - 1 = -1 from rfl]
    have HF:Hid (d=r):=HE.out.symm.trans HQ.out;clear HE HN HQ HM HD HR HT cm;obtain rfl:=HF.out;go_wp2
    go_ret
    exact⟨rfl,hb⟩
   | succ j =>
    have e1:((j+1:Nat):Int) - 1=(j:Int):=by omega
    have hz:(0:Int)<=(j:Int):=by omega
    have hz2:(j:Int)<(m:Int)+1:=by omega
    have hjm:j<m:=by omega
    have cj:=(HR.out.next hb (Lb _)).at (k:=j) (by omega)
    have z1:=HM.out j (by omega)
    have z2:=HD.out (j+1);have hn:=HN.out j hjm;rw[HE.out] at z2 hn;generalize ss.getD j ByteArray.empty=p at *;have HG:=fun W=>QdZ W p d (by omega) (by omega) _ rfl
    obtain⟨t,ht⟩:=Ze (UG p d);have zt:=Qao p d;rw[ht] at zt;simp only[ht] at HG hn;obtain⟨d',hd'⟩ : ∃d',dg (clk k) t=d':=⟨_,rfl⟩;have HO:Hid (∀W,Zb w W->Zr 126 #[.int .i64 k,.string t] W (.string d')):=fun W hb=>OY W (HT.out.next hb) k t (by omega) d' hd'
    have HE2:Hid (QA (clk k) (ss.drop j)=d'):=hn.trans hd';rw[e1];clear HE hn hd' ht zt z1 z2 e1 cm HL2
    go_wp2_with (first
     | (go_at_call 127;with_reducible refine(HG _).mono ?_;rintro e w1 ⟨rfl,hb1⟩;replace hb:=Qa hb hb1;clear hb1)
     | (go_at_call 126;with_reducible refine(HO.out _ hb).mono ?_;rintro e w2 ⟨rfl,hb2⟩;replace hb:=Qa hb hb2;clear hb2))
    go_roundg j
    case rel =>
     go_light;exact⟨j,d',rfl,rfl,by go_num,by omega,HE2.out,hb⟩
    case measure=>go_light;omega
theorem Qad(w:World)(ht:Tb w)(k:Int)(n:Nat)(ao:OA)(b off len cap:Nat)(ss:LB)(hr:RdS w ao b off len ss)(hsz : ∀s∈ss,s.size<=140737488351232)(hmx:len<=8796093022208)(r:BA)(hq:dg (clk k) (QN n (QA (clk k) ss))=r) :
  Zr 81 #[.int .i64 k,.int .u64 (n:Int),.slice ao len cap] w (.string r):=by
 have hz:(QA (clk k) ss).size<=140737488351232:=Yc (Qx k) (by decide) _ hsz
 obtain⟨d,hd⟩:=Ze (QA (clk k) ss);have HBg:=Ji w ht k ao b off len cap ss hr hsz hmx d hd;rw[hd] at hq hz;obtain⟨t,hrt⟩:=Ze (QN n d);have HRt:=fun W=>QaA W n d (by omega) t hrt
 have zt:=OF n d;rw[hrt] at hq zt;have HO:Hid (∀W,Zb w W->Zr 126 #[.int .i64 k,.string t] W (.string r)):=fun W hb=>OY W (ht.next hb) k t (by omega) r hq
 have hb:=Below.refl w.heap.size w;clear hq ht hd hrt zt hz hr hsz hmx
 go_enter Tryz.func81,Tryz.ntmps81
 go_wp2_with (first
  | (go_at_call 72;with_reducible refine HBg.mono ?_;rintro e w1 ⟨rfl,hb1⟩;replace hb:=Qa hb hb1;clear hb1)
  | (go_at_call 71;with_reducible refine(HRt _).mono ?_;rintro e w1 ⟨rfl,hb1⟩;replace hb:=Qa hb hb1;clear hb1)
  | (go_at_call 126;with_reducible refine(HO.out _ hb).mono ?_;rintro e w2 ⟨rfl,hb2⟩;replace hb:=Qa hb hb2;clear hb2))
 go_ret
 exact⟨rfl,hb⟩
theorem Qan{a b x y:BA}(hs:a.size=b.size)(h:a++x=b++y):a=b∧x=y:=by
 have h1:=congrArg (fun z:BA=>z.data.toList) h
 simp only[ByteArray.data_append,Array.toList_append] at h1;have hl:a.data.toList.length=b.data.toList.length:=by simpa using hs
 obtain⟨e1,e2⟩:=List.append_inj h1 hl;exact⟨Io (NV.1 e1),Io (NV.1 e2)⟩
theorem QcD{a b x y:BA}(hs:a.size=b.size)(h:QE a x=QE b y):a=b∧x=y:=by
 obtain⟨h1,h2⟩:=Qan (by rw[LV,LV,hs]) h
 exact⟨(Qan rfl h1).2,h2⟩
theorem QdY{a b x y:BA}(hs:a.size=b.size)(h:UG a x=UG b y):a=b∧x=y:=by
 obtain⟨h1,h2⟩:=Qan (by rw[LV,LV,hs]) h
 exact⟨(Qan rfl h1).2,h2⟩
theorem QcA{x y:BA}(h:Qm x=Qm y):x=y:=(Qan rfl h).2
theorem QcO{n:Nat}{x y:BA}(h:QN n x=QN n y):x=y:=(Qan rfl h).2
abbrev Pq:Type:=Option (BA×BA)
def un(a b:BA):Pq:=if a=b then none else some (a,b)
theorem Jw{a b:BA}(h:un a b=none):a=b:=by
 unfold un at h
 split at h
 ·assumption
 ·cases h
theorem Qbj{a b:BA}{q:BA×BA}(h:un a b=some q):a≠b∧q=(a,b):=by
 unfold un at h
 split at h
 ·cases h
 ·rename_i hn;exact⟨hn,(NE h).symm⟩
theorem Qbi(a:BA):un a a=none:=if_pos rfl
theorem or_none{x y:Pq}(h:x.or y=none):x=none∧y=none:=by
 cases x with
 | none=>exact⟨rfl,h⟩
 | some q=>cases h
theorem O6{x y:Pq}{q:BA×BA}(h:x.or y=some q):x=some q∨(x=none∧y=some q):=by
 cases x with
 | none=>exact .inr ⟨rfl,h⟩
 | some p=>exact .inl h
def Clx(c:Nat)(q:BA×BA):Prop:=q.1≠q.2∧dg c q.1=dg c q.2
namespace Pl
def Y5:Nat->Nat->Nat
 | 0,_=>0
 | k+1,n=>n % 2+Y5 k (n / 2)
theorem Qdg(n k:Nat):n / 2^(k+1)=n / 2^k / 2:=by
 rw[LA,Nc]
theorem QkR(k n:Nat):Y5 k n<=k:=by
 induction k generalizing n with
 | zero=>exact Lb _
 | succ k ih=>have:=ih (n / 2);simp only[Y5];omega
theorem Qho(k n:Nat)(hk:k<64):Y5 (64 - k) (n / 2^k)=n / 2^k % 2+Y5 (64 - (k+1)) (n / 2^(k+1)):=by
 rw[show 64 - k=(64 - (k+1))+1 by omega,Y5,Qdg]
def pw(h:Nat):Nat:=2^h
theorem QK(h:Nat):pw (h+1)=2*pw h:=by simp[pw,Nat.pow_succ,Nat.mul_comm]
theorem Ue:pw 0=1:=rfl
theorem QB(h:Nat):0<pw h:=LL h
theorem Qax(a b:Nat):pw (a+b)=pw a*pw b:=I0 2 a b
theorem JV{a b:Nat}(h:a<=b):pw a<=pw b:=L5 (by decide) h
theorem Qhn(j k:Nat)(h:k<2^j):Y5 (j+1) k=Y5 j k:=by
 induction j generalizing k with
 | zero=>simp at h;subst h;rfl
 | succ j ih =>
  rw[Y5,ih (k / 2) (by rw[LA] at h;omega)];rfl
theorem QkI{h k:Nat}(hh:h<40)(hk:k<pw (40 - (h+1))):2*k+1<pw (40 - h):=by
 rw[show 40 - h=(40 - (h+1))+1 by omega,QK];omega
theorem Qgd{h k:Nat}(hk:k<pw (40 - h)):k<2^40 :=
 LS hk (JV (by omega))
theorem QkH{h k:Nat}(hh:h<=40)(hk:k<pw (40 - h)):(k+1)*pw h<=2^40:=by
 have h1:(k+1)*pw h<=pw (40 - h)*pw h:=Lo _ hk;rw[<-Qax,show 40 - h+h=40 by omega] at h1
 exact h1
end Pl
namespace Pl
theorem Ql0(n k:Nat)(hn:n<2^64):(bits BinOp.and IntKind.u64 ((n:Int) / 2^k) 1 == 1)=decide (n / 2^k % 2=1):=by
 have e:((n:Int) / 2^k)=((n / 2^k:Nat):Int):=by simp
 rw[e];have hm:n / 2^k<18446744073709551616:=NX (Nv _ _) hn
 revert hm
 generalize n / 2^k=m;intro hm;have:=bits_and_u64_nat m 1 hm (by decide)
 rw[show(1:Int)=((1:Nat):Int) from rfl,this,IX]
 by_cases h:m % 2=1
 ·simp[h]
 ·have:m % 2=0:=by omega
  simp[this]
theorem Qar(n k:Nat)(w:World)(hn:n<2^64)(hk:k<64) :
  Calls Tryz.prog 130 #[.int .u64 n,.int .i64 k] w fun e w'=>e = .returned (.bool (decide (n / 2^k % 2=1)))∧w'=w:=by
 have hk0:(0:Int)<=(k:Int):=Le _
 go_enter Tryz.func130,Tryz.ntmps130;go_wp2
 go_ret
 refine⟨?_,rfl⟩
 rw[<-Ql0 n k hn]
 rfl
theorem QbW(n:Nat)(w:World)(hn:n<2^64) :
  Calls Tryz.prog 80 #[.int .u64 n] w fun e w'=>e = .returned (.int .i64 (Y5 64 n:Nat))∧w'=w:=by
 go_enter Tryz.func80,Tryz.ntmps80;go_wp2
 go_loopg [3,5] 64 (fun g c i wr => ∃k m:Nat,k<=64∧g=64 - k∧i = .int .i64 k∧c = .int .i64 m∧m<=k∧m+Y5 (64 - k) (n / 2^k)=Y5 64 n∧w=wr)
 case atStart =>
  go_light;exact⟨0,0,Lf _,rfl,rfl,rfl,Lf _,by simp,rfl⟩
 case round =>
  obtain⟨k,m,hk,rfl,rfl,rfl,hm,hs,rfl⟩:=hrel;have hk0:(0:Int)<=(k:Int):=Le _;have hm0:(0:Int)<=(m:Int):=Le _;have hm1:(m:Int)<=64:=by omega
  by_cases hlt:k<64
  ·have hk8:(k:Int)<64:=by omega
   have HS:=Qho k n hlt;have HC:=Qar n k w hn hlt
   by_cases hb:n / 2^k % 2=1
   ·rw[decide_eq_true hb] at HC
    go_wp2_with (go_at_call 130;refine HC.mono ?_;rintro e w' ⟨rfl,rfl⟩)
    go_roundg (64 - (k+1))
    case rel =>
     go_light;exact⟨k+1,m+1,by omega,rfl,by go_num,by go_num,by omega,by omega,rfl⟩
    case measure=>go_light;omega
   ·rw[decide_eq_false hb] at HC
    go_wp2_with (go_at_call 130;refine HC.mono ?_;rintro e w' ⟨rfl,rfl⟩)
    go_roundg (64 - (k+1))
    case rel =>
     go_light;exact⟨k+1,m,by omega,rfl,by go_num,rfl,by omega,by omega,rfl⟩
    case measure=>go_light;omega
  ·obtain rfl:k=64:=by omega
   clear hk hlt;go_wp2
   go_ret
   refine⟨?_,rfl⟩
   rw[<-hs]
   rfl
end Pl
def cntU(p:Nat->Bool):Nat->Nat
 | 0=>0
 | n+1=>cntU p n+(if p n then 0 else 1)
theorem Qcs{p:Nat->Bool}{n:Nat}(h:cntU p n=0) : ∀k,k<n->p k=true:=by
 induction n with
 | zero=>intro k hk;omega
 | succ n ih =>
  intro k hk;simp only[cntU] at h
  by_cases hp:p n=true
  ·by_cases e:k=n
   ·rw[e];exact hp
   ·exact ih (by omega) k (by omega)
  ·rw[if_neg hp] at h;omega
theorem Ow{p q:Nat->Bool}{n:Nat}(h : ∀k,k<n->p k=q k):cntU p n=cntU q n:=by
 induction n with
 | zero=>rfl
 | succ n ih=>simp only[cntU];rw[ih (fun k hk=>h k (by omega)),h n (by omega)]
theorem Qbu{p q:Nat->Bool}{i:Nat}(hp:p i=false)(hq:q i=true)(hne : ∀k,k≠i->q k=p k) : ∀n,i<n->cntU q n+1=cntU p n
 | 0,h=>by omega
 | n+1,h=>by
  simp only[cntU]
  by_cases e:i=n
  ·subst e;rw[hp,hq,Ow (fun k hk=>hne k (by omega))]
   simp
  ·have:=Qbu hp hq hne n (by omega)
   rw[hne n (fun h=>e h.symm)];omega
theorem Qcr(n:Nat):cntU (fun _=>false) n=n:=by
 induction n with
 | zero=>rfl
 | succ n ih=>simp only[cntU,ih];rfl
def QaW(St:Nat->Oper->Prop):Nat->List Oper->Prop
 | _,[]=>True
 | n,o::r=>St n o∧QaW St (n+1) r
theorem OJ{St:Nat->Oper->Prop} : ∀ {l:List Oper} {n j:Nat} {o:Oper},QaW St n l->l[j]? = some o->St (n+j) o
 | _::_,n,0,o,h,e=>by simp at e;subst e;exact h.1
 | _::r,n,j+1,o,h,e=>by
  have:=OJ (l:=r) (j:=j) h.2 (by simpa using e)
  rw[show n+(j+1)=n+1+j by omega];exact this
 | [],_,_,_,_,e=>by simp at e
theorem Qc8{xs:Array Edge}{p:Edge->Bool}(h:xs.toList.any p=true) : ∃e,e∈xs∧p e=true:=by
 obtain⟨e,he,hp⟩:=List.any_eq_true.1 h;exact⟨e,by simpa using he,hp⟩
theorem QbJ(a:Act)(d:Nat)(v:Value)(h:d<a.tmps.size):(a.put (some d) v).tmps.getD d undef=v:=by
 simp[Act.put,h]
theorem UK(a:Act)(d t:Nat)(v:Value)(h:d≠t):(a.put (some d) v).tmps.getD t undef=a.tmps.getD t undef:=by
 simp only[Act.put]
 by_cases ht:t<a.tmps.size
 ·simp[Array.getD,ht,h]
 ·simp[Array.getD,ht]
def Un(a:Act):List Nat->List Value->Act
 | t::sl,v::vs=>Un (a.put (some t) v) sl vs
 | _,_=>a
theorem QaM : ∀(sl:List Nat) (vs:List Value) (a:Act),(Un a sl vs).defers=a.defers
 | [],_,_=>rfl
 | _::_,[],_=>rfl
 | t::sl,v::vs,a=>by rw[Un,QaM sl vs];rfl
theorem QcJ : ∀(sl:List Nat) (vs:List Value) (a:Act),(Un a sl vs).tmps.size=a.tmps.size
 | [],_,_=>rfl
 | _::_,[],_=>rfl
 | t::sl,v::vs,a=>by rw[Un,QcJ sl vs];simp[Act.put]
theorem OD : ∀(sl:List Nat) (vs:List Value) (a:Act) (t:Nat),sl.contains t=false->(Un a sl vs).tmps.getD t undef=a.tmps.getD t undef
 | [],_,_,_,_=>rfl
 | _::_,[],_,_,_=>rfl
 | u::sl,v::vs,a,t,h=>by
  simp only[List.contains_cons,Bool.or_eq_false_iff,beq_eq_false_iff_ne] at h;rw[Un,OD sl vs _ t h.2,UK _ _ _ _ (fun e=>h.1 e.symm)]
theorem Tryz.infoS:(Tryz.prog.info? 9).map (fun i=>(i.zero,i.size,i.bytes))=some (some (.string ByteArray.empty),1,16):=by kernel_rfl
theorem UN(w:World)(s:BA)(hs:s.size<=9223372036854775807):RdS (w.alloc (.cells #[.string s] 9)) (some ⟨w.heap.size,0,none⟩) w.heap.size 0 1 [s] :=
 ⟨rfl,fun _=>rfl,Qv w [.string s] 9,fun x hx=>by simp at hx;subst hx;exact hs⟩
def Qk(w:World)(B:Nat)(v:Value)(ss:LB):Prop:=w.ownsRow B 9 1 v ss.length (ss.map Value.string)
theorem Qn{w:World}{B:Nat}{v:Value}{ss:LB}(h:Qk w B v ss)(hs : ∀s∈ss,s.size<=9223372036854775807) : ∃ao b cap,v = .slice ao ss.length cap∧RdS w ao b 0 ss.length ss∧ss.length<=cap∧(ao=none->cap=0):=by
 obtain⟨h1,h2⟩:=h
 rcases h2 with ⟨hv,h0⟩|⟨g,cap,cur,rfl,hg,hh,hc1,hc,hsz,ht⟩
 ·have:ss=[]:=LG.1 h0;subst this;exact⟨none,0,0,by rw[hv];rfl,⟨rfl,fun h=>absurd h (NB 0),(fun j v h=>by cases h),hs⟩,Lb _,fun _=>rfl⟩
 ·refine⟨some ⟨g,0,none⟩,g,cap,rfl,⟨rfl,fun _=>rfl,fun j v hj => ?_,hs⟩,hc1,fun h=>by cases h⟩
  rw[Ll,cell_of_row w g j cur 9 (0,0) hh];rw[<-ht,Nf] at hj
  split at hj
  ·simpa using hj
  ·cases hj
theorem QS(w:World){ops:Array Oper}{rest:List Oper}{o:Oper}{a:Act}{Q:Exit->Act->World->Prop}
  (hg:o.guard=none) (s x:Operand) (hop:o.op=Op.call { callee:=Callee.builtin Builtin.append,args:=#[s,x],argTypes:=#[22,22] })
  (B:Nat) (v:Value) (L:LB) (hs:a.eval s=v) (hown:Qk w B v L) (ao:OA) (b off cap:Nat) (M:LB) (hx:a.eval x = .slice ao M.length cap) (hr:RdS w ao b off M.length M) (hn:ao=none->cap=0)
  (hlen:L.length+M.length<=8796093022208) (hB:B<=w.heap.size)
  (hK : ∀v' w',Qk w' B v' (L++M)->Below B w w'->wpList Tryz.prog ops Q rest (a.put o.dst v') w'):wpList Tryz.prog ops Q (o::rest) a w:=by
 obtain⟨i0,hi,hz0,hz1,hz2⟩:=info_parts Tryz.infoS;have hlt : ∀k,v.ownBlock=some k->B<=k:=by
  obtain⟨_,h2⟩:=hown
  rcases h2 with ⟨rfl,_⟩|⟨g,cp,cur,rfl,hg,_⟩
  ·intro k hk;cases hk
  ·intro k hk;cases hk;exact hg
 cases ao with
 | none =>
  obtain rfl:=hn rfl;have hM:M=[]:=by
   cases M with
   | nil=>rfl
   | cons m r=>exact absurd (hr.ptr (by simp)) (by simp)
  subst hM;refine wpList_append_own_none hg s x _ hop B 9 i0 1 Tryz.underlying22 hi _ _ _ hs hown hx (hK _ w ?_ (Below.refl _ _))
  rw[L6];exact hown
 | some ad =>
  have hnews : ∀j u,(M.map Value.string)[j]? = some u->w.cell? (ad.add j)=some u:=fun j u hu=>by
   have hj:j<M.length:=by have:=(Lw.1 hu).1;rwa [Ln] at this
   have:=NE (hr.ptr (by omega))
   subst this;rw[Addr.add_mid];exact hr.rng j u hu
  refine wpList_append_own w hg s x _ hop B 9 i0 (.string ByteArray.empty) 1 16 Tryz.underlying22 hi hz0 hz1 hz2 rfl (by decide) _ _ _ hs hown ad M.length cap (M.map Value.string) hx (by simp) hnews (by intro u hu;obtain⟨y,_,rfl⟩:=LE.1 hu;rfl) (by unfold maxLen;omega) (by omega) hB ?_
  intro v' w' h1 h2 _;refine hK v' w' ?_ ((Below.refl _ _).grown h2 hB hlt)
  rw[Qk,Ld,LK];exact h1
theorem UW{w:World}{B:Nat}{v:Value}{l:LB}(h:Qk w B v l)(o:Obj):Qk (w.alloc o) B v l:=by
 obtain⟨h1,h2⟩:=h;refine⟨h1,?_⟩
 rcases h2 with h2|⟨g,cap,cur,rfl,hg,hh,r⟩
 ·exact .inl h2
 ·exact .inr ⟨g,cap,cur,rfl,hg,by rw[Below.heap_alloc _ _ _ (Lg.1 hh).1];exact hh,r⟩
theorem QC{w W:World}{B B':Nat}{v:Value}{l:LB}(h:Qk w B v l)(hb:Below B' w W)(hB:w.heap.size<=B'):Qk W B v l:=by
 obtain⟨h1,h2⟩:=h;refine⟨h1,?_⟩
 rcases h2 with h2|⟨g,cap,cur,rfl,hg,hh,r⟩
 ·exact .inl h2
 ·exact .inr ⟨g,cap,cur,rfl,hg,by rw[hb.block g (LS (Lg.1 hh).1 hB)];exact hh,r⟩
theorem Qeu{w:World}{B:Nat}{v:Value}{l:LB}(h:Qk w B v l)(h0:0<l.length) : ∃g cap,v = .slice (some ⟨g,0,none⟩) l.length cap∧B<=g∧l.length<=cap∧cap<=maxLen:=by
 obtain⟨h1,h2⟩:=h
 rcases h2 with ⟨_,h2⟩|⟨g,cap,cur,hv,hg,_,hc,hm,_⟩
 ·omega
 ·exact⟨g,cap,hv,hg,hc,hm⟩
theorem Jb{w:World}{B g n cap:Nat}{l:LB}(h:Qk w B (.slice (some ⟨g,0,none⟩) n cap) l){j:Nat}(hj:j<l.length):w.cell? ⟨g,j,none⟩=some (.string (l.getD j ByteArray.empty))∧w.frozen? ⟨g,j,none⟩=false:=by
 obtain⟨h1,h2⟩:=h
 rcases h2 with ⟨h2,_⟩|⟨g',cap',cur,hv,hg,hh,hc,hm,hz,ht⟩
 ·cases h2
 ·obtain⟨e1,e2,e3⟩:=NJ hv
  cases e1;refine⟨?_,frozen_of_row w g j cur 9 hh⟩
  rw[cell_of_row w g j cur 9 (0,0) hh];have:(cur.toList.take (l.length*1))[j]? = some (.string (l.getD j ByteArray.empty)):=by
   rw[ht];simp[List.getElem?_eq_getElem hj,List.getD_eq_getElem?_getD]
  rw[Ip (by omega)] at this
  simpa using this
theorem YV(w:World)(B:Nat):Qk w B (.slice none 0 0) []:=⟨rfl,.inl ⟨rfl,rfl⟩⟩
end Go.Proofs.YtdocjikpcbmcgaaGreatDoor
