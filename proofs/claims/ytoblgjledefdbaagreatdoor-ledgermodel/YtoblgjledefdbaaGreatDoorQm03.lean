/- Own work. -/
import Derived.Deep.Onto
import Derived.Laws.AppendOwnNone
import Derived.Handy
import Derived.Test.YtoblgjledefdbaaGreatDoorRows
import Derived.Test.YtoblgjledefdbaaGreatDoorQm02
set_option maxRecDepth 100000
namespace Go.Proofs.YtoblgjledefdbaaGreatDoor
open Go.RowKit
attribute [local go_sem ↓] Go.wp_at_zero Go.wp_at_succ
open Go.Proofs.Tryz
theorem Qa{w W w2:World}(h:Below w.heap.size w W)(h2:Below W.heap.size W w2):Below w.heap.size w w2:=h.trans (h2.mono h.size)
theorem bal{w W:World}(h:Below w.heap.size w W)(o:Obj):Below w.heap.size w (W.alloc o):=h.alloc h.size o
theorem Qf{B:Nat}{a w:World}(h:Below B a w)(n:Nat):Below B a (w.drewN n):=⟨h.os,h.tape,h.output,h.size,h.block⟩
theorem Qef{l:List Int}(h:0<l.length):cW l≠[]:=by
 intro e;have:=Lw List.length e;rw[Qo,NL] at this;omega
structure Tb(w:World):Prop where
 rs:w.rangeAt 3 0 (cW RS)
theorem Tb.next{w W:World}(h:Tb w)(hb:Below w.heap.size w W):Tb W :=
 ⟨Qn hb (QE h.rs (Qef (by rw[Of];decide))) h.rs⟩
def clk(k:Int):Nat:=if k<1 then 1 else if 32<k then 32 else k.toNat
theorem QnW(k:Int):1<=clk k:=by
 unfold clk
 split
 ·omega
 ·split <;> omega
theorem QO(k:Int):clk k<=32:=by
 unfold clk
 split
 ·omega
 ·split <;> omega
theorem Qed(w:World)(k:Int)(x:Int)(hx:(clk k:Int)=x) :
  Calls prog 279 #[.int .i64 k] w fun e w'=>e = .returned (.int .i64 x)∧w'=w:=by
 subst hx;unfold clk
 go_enter func279,ntmps279
 by_cases h1:k<1
 ·have e1 : ¬(1<=k):=by omega
  rw[Lk h1];clear h1;go_wp2
  go_ret
  simp
 ·by_cases h2:32<k
  ·have e1:1<=k:=by omega
   have e2 : ¬(k<=32):=by omega
   rw[Le h1,Lk h2];clear h1 h2;go_wp2
   go_ret
   simp
  ·have e1:1<=k:=by omega
   have e2:k<=32:=by omega
   have e3:(k.toNat:Int)=k:=by omega
   rw[Le h1,Le h2,e3];clear h1 h2;go_wp2
   go_ret
   simp
theorem Y8(x:Int):(QU [x]).size=1:=rfl
theorem Jk(w:World)(x:Int):(convert 127 9 (.slice (some ⟨w.heap.size,0,none⟩) 1 1)).run prog (w.alloc (.cells #[.int .u8 x] 5)) = .ok (.string (QU [x])) (w.alloc (.cells #[.int .u8 x] 5)) :=
 Qbg _ _ [x] 1 rfl (Qq w (cB [x]) 5)
theorem QcW(l:List Int):(QU l).size=l.length:=by
 have : ∀(l:List Int) (r:BA),(l.foldl (fun r n=>r.push (UInt8.ofNat n.toNat)) r).size=r.size+l.length:=by
  intro l
  induction l with
  | nil=>intro r;rfl
  | cons x t ih=>intro r;rw[Wa,ih,ByteArray.size_push,LE];omega
 rw[QU,this];simp
theorem QaA(rs t:List Int):(O9 rs t).size=32:=by rw[O9,QcW,shaT,QbK]
def Uf(s:BA):BA:=QU [0]++s
def QV(a b:BA):BA:=(QU [1]++a)++b
def bagT(a b:BA):BA:=(QU [2]++a)++b
theorem QbB(s:BA):(Uf s).size=1+s.size:=by rw[Uf,L7,Y8]
theorem QbG(a b:BA):(QV a b).size=1+a.size+b.size:=by rw[QV,L7,L7,Y8]
theorem Qcl(a b:BA):(bagT a b).size=1+a.size+b.size:=by rw[bagT,L7,L7,Y8]
def dg(c:Nat)(t:BA):BA:=(O9 RS (tB t)).extract 0 c
theorem U0{c:Nat}(hc:c<=32)(t:BA):(dg c t).size=c:=by
 rw[dg,Iz,QaA];omega
theorem Qm2(w:World)(ht:Tb w)(t:BA)(hs:t.size<4611686018427387904) :
  Calls prog 278 #[.slice (some ⟨w.heap.size,0,none⟩) 1 1] (w.alloc (.cells #[.string t] 9)) fun e w'=>e = .returned (.string (O9 RS (tB t)))∧Below w.heap.size w w':=by
 have e:Qk [t]=tB t:=by simp[Qk]
 refine(Qdu _ (some ⟨w.heap.size,0,none⟩) w.heap.size 0 1 1 [t] rfl (fun _=>rfl) (Qq w [.string t] 9) (by decide) RS Of (World.rangeAt_alloc ht.rs _) (by rw[e,Yj];exact hs)).mono fun e' w' ⟨he,hb'⟩=>⟨?_,?_⟩
 ·rw[he,e]
 ·exact((Lb _ _).alloc (La _) _).trans (hb'.mono (by simp))
theorem QaW(w:World)(ht:Tb w)(k:Int)(t:BA)(hs:t.size<4611686018427387904)(r:BA)(hr:dg (clk k) t=r) :
  Calls prog 183 #[.int .i64 k,.string t] w fun e w'=>e = .returned (.string r)∧Below w.heap.size w w':=by
 subst hr;have HS:=Qm2 w ht t hs;unfold dg;have hz:=QaA RS (tB t);generalize O9 RS (tB t)=z at *;have c1:=QnW k;have c2:=QO k;have HC:=fun W=>Qed W k (clk k) rfl
 generalize clk k=c at *;have h1:(0:Int)<=(c:Int):=by omega
 have h2:(c:Int)<=32:=by omega
 clear ht hs c1
 go_enter func183,ntmps183
 go_wp2_with (first
  | (go_at_call 278;with_reducible refine HS.mono ?_;rintro e w1 ⟨rfl,xA⟩)
  | (go_at_call 279;with_reducible refine(HC _).mono ?_;rintro e w2 ⟨rfl,rfl⟩))
 go_ret
 exact⟨rfl,xA⟩
theorem Qig(w:World)(s:BA)(hs:s.size<2305843009213693952) :
  Calls prog 232 #[.string s] w fun e w'=>e = .returned (.string (Uf s))∧Below w.heap.size w w':=by
 have cv:=Jk w 0;unfold Uf;have hz:=Y8 0;generalize QU [0]=z at *;have xA : ¬(9223372036854775807<1+s.size):=by omega
 go_enter func232,ntmps232;go_wp2
 go_ret
 exact⟨rfl,bal (Lb _ _) _⟩
theorem Qin(w:World)(a b:BA)(hs:a.size<2305843009213693952)(hs2:b.size<2305843009213693952) :
  Calls prog 319 #[.string a,.string b] w fun e w'=>e = .returned (.string (QV a b))∧Below w.heap.size w w':=by
 have cv:=Jk w 1;unfold QV;have hz:=Y8 1;generalize QU [1]=z at *;have xB : ¬(9223372036854775807<1+a.size):=by omega
 have xA : ¬(9223372036854775807<1+a.size+b.size):=by omega
 go_enter func319,ntmps319;go_wp2
 go_ret
 exact⟨rfl,bal (Lb _ _) _⟩
theorem Qjc(w:World)(a b:BA)(hs:a.size<2305843009213693952)(hs2:b.size<2305843009213693952)(r:BA)(hr:bagT a b=r) :
  Calls prog 280 #[.string a,.string b] w fun e w'=>e = .returned (.string r)∧Below w.heap.size w w':=by
 subst hr;have cv:=Jk w 2;unfold bagT;have hz:=Y8 2;generalize QU [2]=z at *;have xB : ¬(9223372036854775807<1+a.size):=by omega
 have xA : ¬(9223372036854775807<1+a.size+b.size):=by omega
 go_enter func280,ntmps280;go_wp2
 go_ret
 exact⟨rfl,bal (Lb _ _) _⟩
def chk(k:Int):Int:=if k<1∨32<k then 70 else 0
theorem Ym(w:World)(k:Int):Calls prog 91 #[.int .i64 k] w fun e w'=>e = .returned (.int .i64 (chk k))∧w'=w:=by
 unfold chk
 go_enter func91,ntmps91
 by_cases h1:k<1
 ·rw[Lk (.inl h1)];go_wp2
  go_ret
  simp
 ·by_cases h2:32<k
  ·rw[Lk (.inr h2)];go_wp2
   go_ret
   simp
  ·rw[Le (by omega)]
   go_wp2
   go_ret
   simp
theorem Qd{p:Prop}(h:p):Hid p:=h
theorem Tryz.infoI:(prog.info? 5).map (fun i=>(i.zero,i.size,i.bytes))=some (some (.int .u8 0),1,1):=by kernel_rfl
def OwnI(w:World)(B:Nat)(v:Value)(l:List Int):Prop:=w.ownsRow B 5 1 v l.length (cB l)
theorem Qis{w:World}{B:Nat}{v:Value}{l:List Int}(h:OwnI w B v l)(h0:0<l.length):(convert 127 9 v).run prog w = .ok (.string (QU l)) w:=by
 have hc:=fun g=>h.cells (g:=g)
 obtain⟨h1,h2⟩:=h
 rcases h2 with ⟨rfl,h2⟩|⟨g,cap,cur,rfl,hg,hh,r⟩
 ·omega
 ·rw[run_convert_bytes_string w 127 9 5 _ _ _ underlying127 underlying5 underlying9];refine run_bytesToString w ⟨g,0,none⟩ l.length cap l ?_
  have:=run_loadCells_list (P:=prog) w ⟨g,0,none⟩ (cB l) (fun j v hv=>hc g rfl j v hv)
  rwa [QA] at this
theorem Qkz{w:World}{B:Nat}{v:Value}{l:List Int}(h:OwnI w B v l) : ∀k,v.ownBlock=some k->B<=k:=by
 obtain⟨_,h2⟩:=h
 rcases h2 with ⟨rfl,_⟩|⟨g,cp,cur,rfl,hg,_⟩
 ·intro k hk;cases hk
 ·intro k hk;cases hk;exact hg
theorem Qky(w:World)(x:Int):OwnI (w.alloc (.cells #[.int .u8 x] 5)) w.heap.size (.slice (some ⟨w.heap.size,0,none⟩) 1 1) [x] :=
 ⟨rfl,.inr ⟨w.heap.size,1,#[.int .u8 x],rfl,La _,LH w _,La _,by unfold maxLen;omega,rfl,rfl⟩⟩
theorem QaO(w:World){ops:Array Oper}{rest:List Oper}{o:Oper}{a:Act}{Q:Exit->Act->World->Prop}
  (hg:o.guard=none) (s x:Operand) (hop:o.op=Op.call { callee:=Callee.builtin Builtin.append,args:=#[s,x],argTypes:=#[127,127] })
  (B:Nat) (v:Value) (L:List Int) (hs:a.eval s=v) (hown:OwnI w B v L) (y:Int) (hx:a.eval x = .slice (some ⟨w.heap.size,0,none⟩) 1 1)
  (hlen:L.length<=1000) (hB:B<=w.heap.size)
  (hK : ∀v' w',OwnI w' B v' (L++[y])->Below B w w'->wpList prog ops Q rest (a.put o.dst v') w'):wpList prog ops Q (o::rest) a (w.alloc (.cells #[.int .u8 y] 5)):=by
 obtain⟨i0,hi,xB,xC,xD⟩:=info_parts Tryz.infoI;refine wpList_append_own _ hg s x _ hop B 5 i0 (.int .u8 0) 1 1 underlying127 hi xB xC xD rfl (by decide) _ _ _ hs (World.ownsRow.alloc hown _) ⟨w.heap.size,0,none⟩ 1 1 (cB [y]) hx (by simp[cB]) ?_ (by intro u hu;simp[cB] at hu;subst hu;rfl) (by unfold maxLen;omega) (by omega) (by simp;omega) ?_
 ·intro j u hu;have hj:j=0:=by have:=(List.getElem?_eq_some_iff.1 hu).1;simp[cB] at this;exact this
  subst hj;have xA:Value.int .u8 y=u:=Ns hu;subst xA;rw[Addr.add_mid,LX]
  rfl
 ·intro v' w' h1 h2 _;refine hK v' w' ?_ (((Lb _ _).alloc hB _).trans ((Lb _ _).grown h2 (by simp;omega) (Qkz hown)))
  rw[OwnI,Lc,cB,L5];exact h1
def nbL(n:Nat)(j:Nat):List Int:=(List.range j).map fun i=>((n / 256^(7 - i) % 256:Nat):Int)
theorem Qdo(n j:Nat):(nbL n j).length=j:=by simp[nbL]
theorem Qkk(n j:Nat):nbL n (j+1)=nbL n j++[((n / 256^(7 - j) % 256:Nat):Int)]:=by
 simp[nbL,List.range_succ]
theorem Qk1(n k:Nat):(n:Int) / 2^(8*(7 - k)) % 256=((n / 256^(7 - k) % 256:Nat):Int):=by
 rw[Int.natCast_emod,Int.natCast_ediv,Int.natCast_pow,Int.pow_mul]
 rfl
def Qe8(n:Nat):List Int:=3::nbL n 8
def UU(n:Nat)(d:BA):BA:=QU (Qe8 n)++d
theorem QbS(n:Nat):(QU (Qe8 n)).size=9:=by rw[QcW,Qe8,LE,Qdo]
theorem QbT(n:Nat)(d:BA):(UU n d).size=9+d.size:=by rw[UU,L7,QbS]
theorem QiE(w:World)(n:Nat)(d:BA)(hs:d.size<2305843009213693952)(r:BA)(hr:UU n d=r) :
  Calls prog 184 #[.int .u64 (n:Int),.string d] w fun e w'=>e = .returned (.string r)∧Below w.heap.size w w':=by
 subst hr;have xC : ¬(9223372036854775807<9+d.size):=by omega
 have HS:=QbS n;unfold UU;obtain⟨z,HE⟩ : ∃z,Hid (QU (Qe8 n)=z):=⟨_,rfl⟩;rw[HE.out] at HS ⊢
 go_enter func184,ntmps184;go_wp2
 go_loopg [5,8] 8 (fun g v i wr => ∃k:Nat,k<=8∧g=8 - k∧i = .int .i64 (k:Int)∧OwnI wr w.heap.size v (3::nbL n k)∧Below w.heap.size w wr)
 case atStart=>go_light;exact⟨0,Ll _,rfl,rfl,Qky w 3,bal (Lb _ _) _⟩
 case round =>
  obtain⟨k,hk,rfl,rfl,xA,hb⟩:=hrel
  by_cases hlt:k<8
  ·have hz:(k:Int)<8:=by omega
   have HZ:Hid (w.heap.size<=wr.heap.size):=hb.size;have HL:Hid ((3::nbL n k).length<=1000):=by show _<=_;rw[LE,Qdo];omega
   have HN:=Qd (Qkk n k)
   go_wp2_with (at_builtin;refine QaO _ rfl _ _ rfl w.heap.size _ (3::nbL n k) rfl xA _ rfl HL.out HZ.out ?_)
   intro v' w2 r1 r2;have HO:Hid (OwnI w2 w.heap.size v' (3::nbL n (k+1))):=by
    show OwnI _ _ _ _
    rw[HN.out,<-Qk1 n k];exact r1
   have HB:Hid (Below w.heap.size w w2):=hb.trans r2;clear r1 r2 hb xA HN;go_wp2
   go_roundg (8 - (k+1))
   case rel=>go_light;exact⟨k+1,by omega,rfl,by go_num,HO.out,HB.out⟩
   case measure=>go_light;omega
  ·obtain rfl:k=8:=by omega
   have xB:=Qis xA (by simp)
   have HB:Hid (Below w.heap.size w wr):=hb;clear xA hb hlt hk;rw[show(3::nbL n 8)=Qe8 n from rfl,HE.out] at xB
   go_wp2
   go_ret
   exact⟨rfl,HB.out⟩
structure RdS(w:World)(ao:OA)(b off len:Nat)(ss:LB):Prop where
 hl:ss.length=len
 ptr:0<len->ao=some ⟨b,off,none⟩
 rng:w.rangeAt b off (ss.map Value.string)
 sz : ∀s∈ss,s.size<=9223372036854775807
theorem RdS.lt{w:World}{ao:OA}{b off len:Nat}{ss:LB}(h:RdS w ao b off len ss)(h0:0<len):b<w.heap.size :=
 QE h.rng (by intro e;have:=Lw List.length e;rw[Nc,NL,h.hl] at this;omega)
theorem RdS.next{w W:World}{ao:OA}{b off len B:Nat}{ss:LB}(h:RdS w ao b off len ss)(hb:Below B w W)(hB:w.heap.size<=B):RdS W ao b off len ss:=by
 refine⟨h.hl,h.ptr,?_,h.sz⟩
 by_cases h0:0<len
 ·exact Qn hb (Lx (h.lt h0) hB) h.rng
 ·have:ss=[]:=List.length_eq_zero_iff.1 (by rw[h.hl];omega)
  rw[this];intro j v hv;cases hv
theorem RdS.at{w:World}{ao:OA}{b off len:Nat}{ss:LB}(h:RdS w ao b off len ss){k:Nat}(hk:k<len):w.cell? ⟨b,off+k,none⟩=some (.string (ss.getD k ByteArray.empty)) :=
 h.rng k _ (by have:=h.hl;simp[List.getElem?_eq_getElem (show k<ss.length by omega),List.getD_eq_getElem?_getD])
theorem Y7{ss:LB}{k:Nat}(hk:k<ss.length):ss.getD k ByteArray.empty∈ss:=by
 rw[Ld,Lh hk];exact L3 _
theorem Qez(w:World)(ht:Tb w)(k:Int)(s:BA)(hs:s.size<2305843009213693952)(r:BA)(hr:dg (clk k) (Uf s)=r) :
  Calls prog 145 #[.int .i64 k,.string s] w fun e w'=>e = .returned (.string r)∧Below w.heap.size w w':=by
 have HL:=Qig w s hs;have HO:Hid (∀W,Below w.heap.size w W->Calls prog 183 #[.int .i64 k,.string (Uf s)] W fun e w'=>e = .returned (.string r)∧Below W.heap.size W w'):=fun W hb=>QaW W (ht.next hb) k _ (by rw[QbB];omega) r hr
 clear hr ht hs;generalize Uf s=t at *
 go_enter func145,ntmps145
 go_wp2_with (first
  | (go_at_call 232;with_reducible refine HL.mono ?_;rintro e w1 ⟨rfl,xA⟩)
  | (go_at_call 183;with_reducible refine(HO.out _ xA).mono ?_;rintro e w2 ⟨rfl,xB⟩))
 go_ret
 exact⟨rfl,Qa xA xB⟩
theorem Ju(w:World)(ht:Tb w)(k:Int)(a b:BA)(hs:a.size<2305843009213693952)(hs2:b.size<2305843009213693952)(r:BA)(hr:dg (clk k) (QV a b)=r) :
  Calls prog 227 #[.int .i64 k,.string a,.string b] w fun e w'=>e = .returned (.string r)∧Below w.heap.size w w':=by
 have HL:=Qin w a b hs hs2;have HO:Hid (∀W,Below w.heap.size w W->Calls prog 183 #[.int .i64 k,.string (QV a b)] W fun e w'=>e = .returned (.string r)∧Below W.heap.size W w'):=fun W hb=>QaW W (ht.next hb) k _ (by rw[QbG];omega) r hr
 clear hr ht hs hs2;generalize QV a b=t at *
 go_enter func227,ntmps227
 go_wp2_with (first
  | (go_at_call 319;with_reducible refine HL.mono ?_;rintro e w1 ⟨rfl,xA⟩)
  | (go_at_call 183;with_reducible refine(HO.out _ xA).mono ?_;rintro e w2 ⟨rfl,xB⟩))
 go_ret
 exact⟨rfl,Qa xA xB⟩
def Q6(c:Nat):LB->BA
 | []=>ByteArray.empty
 | [p]=>p
 | p::q::r=>dg c (bagT p (Q6 c (q::r)))
theorem JI{c:Nat}(hc:c<=32){M:Nat}(hM:32<=M) : ∀(ss:LB),(∀s∈ss,s.size<=M)->(Q6 c ss).size<=M
 | [],_=>by simp[Q6]
 | [p],h=>h p (by simp)
 | p::q::r,_=>by rw[Q6,U0 hc];omega
theorem Qcj(c:Nat)(ss:LB)(i:Nat)(h:i+1<ss.length):Q6 c (ss.drop i)=dg c (bagT (ss.getD i ByteArray.empty) (Q6 c (ss.drop (i+1)))):=by
 rw[LN (by omega),LN h,Q6,Ld,Lh (by omega)]
 rfl
theorem Qck(c:Nat)(ss:LB)(h:0<ss.length):Q6 c (ss.drop (ss.length - 1))=ss.getD (ss.length - 1) ByteArray.empty:=by
 rw[LN (by omega),show ss.length - 1+1=ss.length by omega,II,Q6,Ld,Lh (by omega)]
 rfl
theorem Qfw(w:World)(ht:Tb w)(k:Int)(ao:OA)(b off len cap:Nat)(ss:LB)(hr:RdS w ao b off len ss)(hsz : ∀s∈ss,s.size<=140737488351232)(hmx:len<=8796093022208)(r:BA)(hq:Q6 (clk k) ss=r) :
  Calls prog 185 #[.int .i64 k,.slice ao len cap] w fun e w'=>e = .returned (.string r)∧Below w.heap.size w w':=by
 by_cases h0:len=0
 ·subst h0;have:ss=[]:=List.length_eq_zero_iff.1 hr.hl;subst this;subst hq
  go_enter func185,ntmps185;go_wp2
  go_ret
  exact⟨rfl,Lb _ _⟩
 ·have xA:0<len:=by omega
  obtain rfl:=hr.ptr xA;obtain⟨m,rfl⟩ : ∃m,len=m+1:=⟨len - 1,by omega⟩
  have hc:=QO k;have xJ : ¬((m:Int)+1=0):=by omega
  have cm:=hr.at (k:=m) (by omega)
  have HL:Hid (Q6 (clk k) (ss.drop m)=ss.getD m ByteArray.empty):=by
   have:=Qck (clk k) ss (by rw[hr.hl];omega)
   rw[hr.hl] at this;exact this
  have xH:Hid (∀d,d=Q6 (clk k) ss->True):=fun _ _=>trivial
  have HM:Hid (∀j,j<m+1->(ss.getD j ByteArray.empty).size<=140737488351232):=fun j hj=>hsz _ (Y7 (by rw[hr.hl];exact hj))
  have HD:Hid (∀j,(Q6 (clk k) (ss.drop j)).size<=140737488351232):=fun j=>JI hc (by decide) _ (fun s hs=>hsz s (NY hs))
  have HN:Hid (∀j,j<m->Q6 (clk k) (ss.drop j)=dg (clk k) (bagT (ss.getD j ByteArray.empty) (Q6 (clk k) (ss.drop (j+1))))):=fun j hj=>Qcj _ _ _ (by rw[hr.hl];omega)
  have HT:Hid (Tb w):=ht;have HR:Hid (RdS w (some ⟨b,off,none⟩) b off (m+1) ss):=hr;have HQ:Hid (Q6 (clk k) (ss.drop 0)=r):=hq;obtain⟨d0,xC⟩:=Ze (ss.getD m ByteArray.empty);rw[xC] at cm;have xD:Hid (Q6 (clk k) (ss.drop m)=d0):=by rw[<-xC];exact HL
  clear xC HL ht hr hq hsz xH h0 xA
  go_enter func185,ntmps185;go_wp2
  go_loopg [6,7] m (fun g x i wr => ∃(j:Nat) (d:BA),j=g∧x = .string d∧i = .int .i64 ((j:Int) - 1)∧j<=m∧Hid (Q6 (clk k) (ss.drop j)=d)∧Below w.heap.size w wr)
  case atStart=>go_light;exact⟨m,d0,rfl,rfl,rfl,La _,xD,Lb _ _⟩
  case round =>
   obtain⟨j,d,hg,rfl,rfl,hj,HE,hb⟩:=hrel;subst hg
   cases j with
   | zero =>
    have hz : ¬((0:Int) <= -1):=by decide
    rw[show((0:Nat):Int) - 1 = -1 from rfl]
    have HF:Hid (d=r):=HE.out.symm.trans HQ.out;clear HE HN HQ HM HD HR HT cm;obtain rfl:=HF.out;go_wp2
    go_ret
    exact⟨rfl,hb⟩
   | succ j =>
    have e1:((j+1:Nat):Int) - 1=(j:Int):=by omega
    have hz:(0:Int)<=(j:Int):=by omega
    have xK:(j:Int)<(m:Int)+1:=by omega
    have xI:j<m:=by omega
    have cj:=(HR.out.next hb (La _)).at (k:=j) (by omega)
    have z1:=HM.out j (by omega)
    have z2:=HD.out (j+1);have hn:=HN.out j xI;rw[HE.out] at z2 hn;generalize ss.getD j ByteArray.empty=p at *;have HG:=fun W=>Qjc W p d (by omega) (by omega) _ rfl
    obtain⟨t,ht⟩:=Ze (bagT p d);have zt:=Qcl p d;rw[ht] at zt;simp only[ht] at HG hn;obtain⟨d',xB⟩ : ∃d',dg (clk k) t=d':=⟨_,rfl⟩;have HO:Hid (∀W,Below w.heap.size w W->Calls prog 183 #[.int .i64 k,.string t] W fun e w'=>e = .returned (.string d')∧Below W.heap.size W w'):=fun W hb=>QaW W (HT.out.next hb) k t (by omega) d' xB
    have xG:Hid (Q6 (clk k) (ss.drop j)=d'):=hn.trans xB;rw[e1];clear HE hn xB ht zt z1 z2 e1 cm xD
    go_wp2_with (first
     | (go_at_call 280;with_reducible refine(HG _).mono ?_;rintro e w1 ⟨rfl,xE⟩;replace hb:=Qa hb xE;clear xE)
     | (go_at_call 183;with_reducible refine(HO.out _ hb).mono ?_;rintro e w2 ⟨rfl,xF⟩;replace hb:=Qa hb xF;clear xF))
    go_roundg j
    case rel=>go_light;exact⟨j,d',rfl,rfl,by go_num,by omega,xG.out,hb⟩
    case measure=>go_light;omega
theorem QkR(w:World)(ht:Tb w)(k:Int)(n:Nat)(ao:OA)(b off len cap:Nat)(ss:LB)(hr:RdS w ao b off len ss)(hsz : ∀s∈ss,s.size<=140737488351232)(hmx:len<=8796093022208)(r:BA)(hq:dg (clk k) (UU n (Q6 (clk k) ss))=r) :
  Calls prog 107 #[.int .i64 k,.int .u64 (n:Int),.slice ao len cap] w fun e w'=>e = .returned (.string r)∧Below w.heap.size w w':=by
 have hz:(Q6 (clk k) ss).size<=140737488351232:=JI (QO k) (by decide) _ hsz
 obtain⟨d,hd⟩:=Ze (Q6 (clk k) ss);have xD:=Qfw w ht k ao b off len cap ss hr hsz hmx d hd;rw[hd] at hq hz;obtain⟨t,xB⟩:=Ze (UU n d);have xE:=fun W=>QiE W n d (by omega) t xB
 have zt:=QbT n d;rw[xB] at hq zt;have HO:Hid (∀W,Below w.heap.size w W->Calls prog 183 #[.int .i64 k,.string t] W fun e w'=>e = .returned (.string r)∧Below W.heap.size W w'):=fun W hb=>QaW W (ht.next hb) k t (by omega) r hq
 have hb:=Lb w.heap.size w;clear hq ht hd xB zt hz hr hsz hmx
 go_enter func107,ntmps107
 go_wp2_with (first
  | (go_at_call 185;with_reducible refine xD.mono ?_;rintro e w1 ⟨rfl,xA⟩;replace hb:=Qa hb xA;clear xA)
  | (go_at_call 184;with_reducible refine(xE _).mono ?_;rintro e w1 ⟨rfl,xA⟩;replace hb:=Qa hb xA;clear xA)
  | (go_at_call 183;with_reducible refine(HO.out _ hb).mono ?_;rintro e w2 ⟨rfl,xC⟩;replace hb:=Qa hb xC;clear xC))
 go_ret
 exact⟨rfl,hb⟩
namespace Pl
def Qy:Nat->Nat->Nat
 | 0,_=>0
 | k+1,n=>n % 2+Qy k (n / 2)
theorem Uj(n k:Nat):n / 2^(k+1)=n / 2^k / 2:=by
 rw[LC,L1]
theorem Qdy(k n:Nat):Qy k n<=k:=by
 induction k generalizing n with
 | zero=>exact La _
 | succ k ih=>have:=ih (n / 2);simp only[Qy];omega
theorem Qat(k n:Nat)(hk:k<64):Qy (64 - k) (n / 2^k)=n / 2^k % 2+Qy (64 - (k+1)) (n / 2^(k+1)):=by
 rw[show 64 - k=(64 - (k+1))+1 by omega,Qy,Uj]
def pw(h:Nat):Nat:=2^h
theorem QJ(h:Nat):pw (h+1)=2*pw h:=by simp[pw,Nat.pow_succ,Nat.mul_comm]
theorem OZ:pw 0=1:=rfl
theorem QB(h:Nat):0<pw h:=LJ h
theorem QdC(a b:Nat):pw (a+b)=pw a*pw b:=Ix 2 a b
theorem OY{a b:Nat}(h:a<=b):pw a<=pw b:=LW (by decide) h
theorem UP(j k:Nat)(h:k<2^j):Qy (j+1) k=Qy j k:=by
 induction j generalizing k with
 | zero=>simp at h;subst h;rfl
 | succ j ih =>
  rw[Qy,ih (k / 2) (by rw[LC] at h;omega)];rfl
def trl:Nat->Nat->Nat
 | 0,_=>0
 | f+1,n=>if n % 2=1 then trl f (n / 2)+1 else 0
theorem Qfo(f n:Nat)(h:n % 2=1):trl (f+1) n=trl f (n / 2)+1:=by rw[trl,Lk h]
theorem Qfm(f n:Nat)(h : ¬n % 2=1):trl (f+1) n=0:=by rw[trl,Le h]
end Pl
section
open Pl (Qy)
def tr:Nat->Nat->Nat
 | 0,_=>0
 | k+1,n=>if n % 2=1 then 0 else tr k (n / 2)+1
theorem Qpd(k n:Nat):tr k n<=k:=by
 induction k generalizing n with
 | zero=>exact La _
 | succ k ih=>have:=ih (n / 2);simp only[tr];split <;> omega
theorem Qhy(k n:Nat)(hk:k<64):tr (64 - k) (n / 2^k)=if n / 2^k % 2=1 then 0 else tr (64 - (k+1)) (n / 2^(k+1))+1:=by
 rw[show 64 - k=(64 - (k+1))+1 by omega,tr,Pl.Uj]
theorem Qg6(n h:Nat):n % 2^(h+1)=n % 2+2*(n / 2 % 2^h):=by
 rw[LC,LG,N7]
theorem Qdb(n h:Nat):n / 2^(h+1)=n / 2 / 2^h:=by
 rw[LC,LG,L1]
theorem Qlj : ∀(F h n:Nat),h<F->(tr F n=h↔n % 2^h=0∧n / 2^h % 2=1)
 | F+1,0,n,_=>by
  simp only[tr,Nat.pow_zero,Nat.mod_one,Nat.div_one,true_and]
  split <;> simp_all
 | F+1,h+1,n,hh=>by
  have ih:=Qlj F h (n / 2) (by omega)
  rw[Qg6,Qdb];simp only[tr]
  by_cases e:n % 2=1
  ·rw[Lk e,e]
   constructor
   ·intro h;omega
   ·rintro⟨h,_⟩;omega
  ·rw[Le e]
   constructor
   ·intro h1;have:=ih.1 (by omega)
    exact⟨by rw[this.1];omega,this.2⟩
   ·rintro⟨h1,h2⟩;have:=ih.2 ⟨by omega,h2⟩
    omega
theorem Qlk : ∀(F h n:Nat),h<=F->(tr F n<h↔n % 2^h≠0)
 | F,0,n,_=>by simp[Nat.mod_one]
 | F+1,h+1,n,hh=>by
  have ih:=Qlk F h (n / 2) (by omega)
  rw[Qg6];simp only[tr]
  by_cases e:n % 2=1
  ·rw[Lk e]
   constructor
   ·intro _;omega
   ·intro _;omega
  ·rw[Le e]
   constructor
   ·intro h1;have:=ih.1 (by omega)
    omega
   ·intro h1;have:=ih.2 (by omega)
    omega
def ol{α:Type}(g:Nat->Nat->α):Nat->Nat->List α
 | 0,_=>[]
 | F+1,m=>(if m / 2^F % 2=1 then [g F (m / 2^F)] else [])++ol g F m
theorem Qmj{m F:Nat}(h:m % 2^(F+1)=0):m % 2^F=0∧m / 2^F % 2=0:=by
 rw[LC,N7] at h;have:=LJ F;refine⟨by omega,?_⟩
 rcases Nat.eq_zero_of_add_eq_zero_left h |> Nat.mul_eq_zero.1 with h|h
 ·omega
 ·exact h
theorem Qdw{α:Type}(g:Nat->Nat->α) : ∀F m,m % 2^F=0->ol g F m=[]
 | 0,_,_=>rfl
 | F+1,m,h=>by
  obtain⟨h1,h2⟩:=Qmj h;rw[ol,Le (by omega),Qdw g F m h1];rfl
theorem Qdv{α:Type}(g:Nat->Nat->α) : ∀F h m,h<F->m % 2^h=0->m / 2^h % 2=1->ol g F m=ol g F (m - 2^h)++[g h (m / 2^h)]
 | F+1,h,m,hF,h0,h1=>by
  have hp:=LJ h;have hm:2^h<=m:=by
   apply N6
   intro hlt;rw[Ii hlt] at h1;omega
  by_cases e:h=F
  ·subst e;have hz:(m - 2^h) % 2^(h+1)=0:=by
    have e1:m=2^h*(m / 2^h):=by have:=Ib m (2^h);omega
    obtain⟨q,hq⟩ : ∃q,m / 2^h=2*q+1:=⟨m / 2^h / 2,by omega⟩
    rw[hq,NP,L8,<-LY] at e1;rw[e1,LP,LC,Nat.mul_mod_right]
   rw[ol,Lk h1,Qdw g h m h0,Qdw g (h+1) _ hz];rfl
  ·have hlt:h<F:=by omega
   have hd:(m - 2^h) / 2^F=m / 2^F:=by
    obtain⟨d,rfl⟩ : ∃d,F=h+(d+1):=⟨F - h - 1,by omega⟩
    rw[Ix,<-L1,<-L1,LC,LG (2^d),<-L1,<-L1];have:(m - 2^h) / 2^h=m / 2^h - 1:=by
     have:=Nat.sub_mul_div m (2^h) 1;rw[L8] at this;exact this
    rw[this]
    congr 1
    generalize m / 2^h=x at h1;omega
   rw[ol,ol,hd,Qdv g F h m hlt h0 h1,Lq]
theorem JQ{α:Type}(g:Nat->Nat->α) : ∀F m,(ol g F m).length<=F
 | 0,_=>La _
 | F+1,m=>by
  have:=JQ g F m;rw[ol,Lc]
  split <;> simp <;> omega
theorem OW : ∀F m,Qy (F+1) m=m / 2^F % 2+Qy F m
 | 0,m=>by simp[Qy]
 | F+1,m=>by
  rw[Qy,OW F (m / 2),Qy,Qdb];omega
theorem Qha{α:Type}(g:Nat->Nat->α) : ∀F m,(ol g F m).length=Qy F m
 | 0,_=>rfl
 | F+1,m=>by
  rw[ol,Lc,OW,Qha g F m];have:=Nat.mod_two_eq_zero_or_one (m / 2^F)
  rcases this with e|e <;> rw[e] <;> simp
theorem QeM(j m:Nat)(h:m<2^j) : ∀d,Qy (j+d) m=Qy j m
 | 0=>rfl
 | d+1=>by
  rw[<-Ni,Pl.UP (j+d) m (Lx h (LW (by decide) (by omega))),QeM j m h d]
def hts(n:Nat):List Nat:=ol (fun h _=>h) 41 n
theorem Qeu{n:Nat}(hn:n<=1099511627776):(hts n).length=Qy 64 n:=by
 rw[hts,Qha,show 64=41+23 from rfl,QeM 41 n (by omega) 23]
theorem Qj0(n:Nat):(hts n).length<=41:=JQ _ _ _
def Yd(c:Nat):Nat->Nat->LB->BA->LB×LB
 | 0,_,P,d=>([d],P++[d])
 | f+1,t,P,d =>
  if t % 2=1 then
   (d::(Yd c f (t / 2) (P.take (P.length - 1)) (dg c (QV (P.getD (P.length - 1) ByteArray.empty) d))).1,(Yd c f (t / 2) (P.take (P.length - 1)) (dg c (QV (P.getD (P.length - 1) ByteArray.empty) d))).2)
  else ([d],P++[d])
theorem UI{c f t:Nat}{P:LB}{d:BA}(h:t % 2=1){d':BA}(hd:dg c (QV (P.getD (P.length - 1) ByteArray.empty) d)=d') :
  Yd c (f+1) t P d=(d::(Yd c f (t / 2) (P.take (P.length - 1)) d').1,(Yd c f (t / 2) (P.take (P.length - 1)) d').2):=by
 rw[Yd,Lk h,hd]
theorem YP{c f t:Nat}{P:LB}{d:BA}(h:t % 2≠1):Yd c f t P d=([d],P++[d]):=by
 cases f with
 | zero=>rfl
 | succ f=>rw[Yd,Le h]
theorem QfD{c:Nat}(hc:c<=32) : ∀(f t:Nat) (P:LB) (d:BA),(∀s∈P,s.size=c)->d.size=c->(∀s∈(Yd c f t P d).1,s.size=c)∧(∀s∈(Yd c f t P d).2,s.size=c):=by
 intro f
 induction f with
 | zero =>
  intro t P d hP hd;simp only[Yd];refine⟨fun s hs=>by simp at hs;rw[hs];exact hd,fun s hs => ?_⟩
  rcases List.mem_append.1 hs with h|h
  ·exact hP s h
  ·simp at h;rw[h];exact hd
 | succ f ih =>
  intro t P d hP hd
  by_cases h:t % 2=1
  ·rw[UI h rfl];obtain⟨i1,i2⟩:=ih (t / 2) (P.take (P.length - 1)) (dg c (QV (P.getD (P.length - 1) ByteArray.empty) d)) (fun s hs=>hP s (Ny hs)) (U0 hc _)
   refine⟨fun s hs => ?_,i2⟩
   rcases List.mem_cons.1 hs with h|h
   ·rw[h];exact hd
   ·exact i1 s h
  ·rw[YP h];refine⟨fun s hs=>by simp at hs;rw[hs];exact hd,fun s hs => ?_⟩
   rcases List.mem_append.1 hs with h|h
   ·exact hP s h
   ·simp at h;rw[h];exact hd
theorem Uu{h t:Nat}(ho:t % 2=1):2^h*t - 2^h=2^(h+1)*(t / 2)∧2^(h+1)*(t / 2)+2^(h+1)=2^h*t+2^h:=by
 obtain⟨q,rfl⟩ : ∃q,t=2*q+1:=⟨t / 2,by omega⟩
 rw[show(2*q+1) / 2=q by omega,LC,NP,L8,LY]
 omega
theorem U5(h t:Nat):2^h*t % 2^h=0∧2^h*t / 2^h=t:=⟨Nat.mul_mod_right _ _,I8 _ (LJ h)⟩
theorem QaX{α:Type}(g:Nat->Nat->α){F h t:Nat}(hF:h<F)(he:t % 2≠1):ol g F (2^h*t+2^h)=ol g F (2^h*t)++[g h (t+1)]:=by
 have e:2^h*t+2^h=2^h*(t+1):=by rw[NP,L8]
 obtain⟨a,b⟩:=U5 h (t+1);rw[e,Qdv g F h _ hF a (by rw[b];omega),b,<-e,LP]
theorem QbI{α:Type}(g:Nat->Nat->α){F h t:Nat}(hF:h<F)(ho:t % 2=1):ol g F (2^h*t)=ol g F (2^(h+1)*(t / 2))++[g h t]:=by
 obtain⟨a,b⟩:=U5 h t;rw[Qdv g F h _ hF a (by rw[b];exact ho),b,(Uu ho).1]
theorem QhL(c F:Nat) : ∀(f h t:Nat) (P:LB) (d:BA),h+f<F->t<2^f->P.length=(ol (fun h _=>h) F (2^h*t)).length->(Yd c f t P d).2.length=(ol (fun h _=>h) F (2^h*t+2^h)).length:=by
 intro f
 induction f with
 | zero =>
  intro h t P d hF ht hl;obtain rfl:t=0:=by simpa using ht
  rw[QaX _ (by omega) (by decide),Yd,Lc,Lc,hl];rfl
 | succ f ih =>
  intro h t P d hF ht hl
  by_cases ho:t % 2=1
  ·rw[UI ho rfl];rw[QbI _ (by omega) ho,Lc,LF] at hl
   show(Yd c f (t / 2) (P.take (P.length - 1)) (dg c (QV (P.getD (P.length - 1) ByteArray.empty) d))).2.length=_
   rw[ih (h+1) (t / 2) _ _ (by omega) (by rw[LC] at ht;omega) (by rw[Lz];omega),(Uu ho).2]
  ·rw[YP ho,QaX _ (by omega) ho,Lc,Lc,hl];rfl
theorem Qjn(c F:Nat)(g:Nat->Nat->BA)(m:Nat)(hg : ∀h t,2^h*(t+1)<=m->t % 2=1->dg c (QV (g h t) (g h (t+1)))=g (h+1) (t / 2+1)) : ∀(f h t:Nat),h+f<F->t<2^f->2^h*t+2^h<=m ->
  (Yd c f t (ol g F (2^h*t)) (g h (t+1))).2=ol g F (2^h*t+2^h):=by
 intro f
 induction f with
 | zero =>
  intro h t hF ht hm;obtain rfl:t=0:=by simpa using ht
  rw[QaX _ (by omega) (by decide),Yd]
 | succ f ih =>
  intro h t hF ht hm
  by_cases ho:t % 2=1
  ·have e1:=QbI g (F:=F) (h:=h) (t:=t) (by omega) ho
   have e2:(ol g F (2^h*t)).length - 1=(ol g F (2^(h+1)*(t / 2))).length:=by rw[e1];simp
   have hd:dg c (QV ((ol g F (2^h*t)).getD ((ol g F (2^h*t)).length - 1) ByteArray.empty) (g h (t+1)))=g (h+1) (t / 2+1):=by
    rw[e2,e1,<-hg h t (by rw[NP,L8];exact hm) ho]
    simp[List.getD_eq_getElem?_getD]
   rw[UI ho hd,e2]
   show(Yd c f (t / 2) ((ol g F (2^h*t)).take (ol g F (2^(h+1)*(t / 2))).length) (g (h+1) (t / 2+1))).2=_
   rw[e1,Wb rfl,ih (h+1) (t / 2) (by omega) (by rw[LC] at ht;omega) (by rw[(Uu ho).2];exact hm),(Uu ho).2]
  ·rw[YP ho,QaX _ (by omega) ho]
theorem QhM(c F:Nat)(g:Nat->Nat->BA)(m:Nat)(hg : ∀h t,2^h*(t+1)<=m->t % 2=1->dg c (QV (g h t) (g h (t+1)))=g (h+1) (t / 2+1)) : ∀(f h t:Nat),h+f<F->t<2^f->2^h*t+2^h<=m ->
  (Yd c f t (ol g F (2^h*t)) (g h (t+1))).1=(List.range (Pl.trl f t+1)).map fun j=>g (h+j) (t / 2^j+1):=by
 intro f
 induction f with
 | zero =>
  intro h t hF ht hm;obtain rfl:t=0:=by simpa using ht
  simp[Yd,Pl.trl]
 | succ f ih =>
  intro h t hF ht hm
  by_cases ho:t % 2=1
  ·have e1:=QbI g (F:=F) (h:=h) (t:=t) (by omega) ho
   have e2:(ol g F (2^h*t)).length - 1=(ol g F (2^(h+1)*(t / 2))).length:=by rw[e1];simp
   have hd:dg c (QV ((ol g F (2^h*t)).getD ((ol g F (2^h*t)).length - 1) ByteArray.empty) (g h (t+1)))=g (h+1) (t / 2+1):=by
    rw[e2,e1,<-hg h t (by rw[NP,L8];exact hm) ho]
    simp[List.getD_eq_getElem?_getD]
   rw[UI ho hd,e2]
   show g h (t+1)::(Yd c f (t / 2) ((ol g F (2^h*t)).take (ol g F (2^(h+1)*(t / 2))).length) (g (h+1) (t / 2+1))).1=_
   rw[e1,Wb rfl,ih (h+1) (t / 2) (by omega) (by rw[LC] at ht;omega) (by rw[(Uu ho).2];exact hm),Pl.Qfo f t ho,List.range_succ_eq_map (n:=Pl.trl f (t / 2)+1),Iq,List.map_map]
   simp only[Nat.pow_zero,Nat.div_one,Nat.add_zero]
   congr 1
   refine NA fun j _ => ?_
   simp only[Function.comp];rw[Nat.succ_eq_add_one,Qdb,show h+1+j=h+(j+1) by omega]
  ·rw[YP ho,Pl.Qfm f t ho];simp
def er(k:Int)(n:Nat)(h:Int)(s:BA):Nat :=
 if (s.size:Int)≠k then 90 else if h<0∨40<h∨n % 2^h.toNat≠0 then 41 else if 1099511627776<n+2^h.toNat then 30 else 0
def mk(c n:Nat)(P:LB)(h:Nat)(s:BA):LB×LB:=Yd c (40 - h) (n / 2^h) P s
def nxN(k:Int)(n:Nat)(h:Int)(s:BA):Nat:=if er k n h s=0 then n+2^h.toNat else n
def nxP(k:Int)(n:Nat)(P:LB)(h:Int)(s:BA):LB:=if er k n h s=0 then (mk (clk k) n P h.toNat s).2 else P
def an(k:Int)(n:Nat)(P:LB)(h:Int)(s:BA):LB:=if er k n h s=0 then (mk (clk k) n P h.toNat s).1 else []
theorem Qbd{k:Int}(h1:1<=k)(h2:k<=32):(clk k:Int)=k:=by
 unfold clk;rw[Le (by omega),Le (by omega)]
 omega
end
end Go.Proofs.YtoblgjledefdbaaGreatDoor
