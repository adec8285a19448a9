/- Own work. -/
import Derived.Test.YtoblgjledefdbabGreatDoorQs04
set_option maxRecDepth 100000
set_option maxHeartbeats 1000000
namespace Go.Proofs.YtoblgjledefdbabGreatDoor
open Go.RowKit
attribute [local go_sem ↓] Go.wp_at_zero Go.wp_at_succ
open Go.Proofs.Tryz
theorem QfJ(w:World)(n:Nat)(hn:n<=8796093022208):(Instr.makeSlice 22 (.int .i64 0) (.int .i64 n)).run prog w= .ok (.slice (Zp w.heap.size) 0 n) (w.alloc (.cells (madeCells #[.string ByteArray.empty] n) 9)):=by
 obtain⟨i0,hi,hz0,hz1,hz2⟩:=info_parts Tryz.infoS;have hr:=run_make (P:=prog) w 22 9 i0 _ underlying22 hi hz0 .i64 .i64 0 n (by omega) (by omega) (by rw[hz2];omega) (by omega)
 simp only[Int.toNat_natCast,hz1,Nat.mul_one] at hr;exact hr
theorem QbK(w:World)(n:Nat)(hn:n<=8796093022208):Qg (w.alloc (.cells (madeCells #[.string ByteArray.empty] n) 9)) w.heap.size (.slice (Zp w.heap.size) 0 n) [] :=
 ⟨rfl,.inr ⟨w.heap.size,n,_,rfl,Lb _,Lr w _,Lm _,by unfold maxLen;omega,by rw[size_madeCells,Nr],rfl⟩⟩
structure RdB(w:World)(ao:OA)(g off n:Nat)(l:List (Int×Nat)):Prop where
 len:l.length=n
 addr:0<n->ao=some ⟨g,off,none⟩
 cell:∀j,j<n->w.cell? ⟨g,off+j*2,none⟩=some (.int .i64 (l.getD j (0,0)).1)∧w.cell? ⟨g,off+j*2+1,none⟩=some (.int .u64 ((l.getD j (0,0)).2:Nat))
 fit:∀b∈l,US b.1 b.2
theorem RdB.below{w w':World}{ao:OA}{g off n:Nat}{l:List (Int×Nat)}(r:RdB w ao g off n l)(h:Below w.heap.size w w'):RdB w' ao g off n l :=
 ⟨r.len,r.addr,fun j hj=>⟨(h.cell (p:=⟨g,off+j*2,none⟩) (Ll w _ (r.cell j hj).1)).trans (r.cell j hj).1,(h.cell (p:=⟨g,off+j*2+1,none⟩) (Ll w _ (r.cell j hj).2)).trans (r.cell j hj).2⟩,r.fit⟩
theorem OP{w:World}{base:Nat}{v:Value}{l:List (Int×Nat)}(h:Cv.Yp w base v l)(hf:∀b∈l,US b.1 b.2):∃ao g n cap,v= .slice ao n cap∧RdB w ao g 0 n l∧n<=maxLen:=by
 have h0:=h;obtain⟨h1,h2⟩:=h
 rcases h2 with ⟨rfl,h2⟩|⟨g,cap,cur,rfl,hg,hh,hc1,hc2,hc3,hc4⟩
 ·exact⟨none,0,0,0,rfl,⟨h2,fun h=>absurd h (by omega),fun j hj=>absurd hj (by omega),hf⟩,Lm _⟩
 ·refine⟨Zp g,g,l.length,cap,rfl,⟨rfl,fun _=>rfl,fun j hj=> ?_,hf⟩,by omega⟩
  have hcl:=h0.cells (g:=g) rfl;obtain⟨⟨a,b⟩,hq⟩:∃q,l[j]=q:=⟨_,rfl⟩;have hget:l[j]? = some (a,b):=by rw[Ld hj,hq]
  obtain⟨e1,e2⟩:=Cv.Qn3 l j a b hget;have f1:=hcl _ _ e1;have f2:=hcl _ _ e2;rw[Addr.add_mid,Lp,L3] at f1 f2;rw[La,hget,Lp];exact⟨f1,f2⟩
def dgs(c:Nat)(L:LB):List (Int×Nat)->Option LB
 | []=>some []
 | b::r=>(ff c L b.1 b.2).bind fun x=>(dgs c L r).map fun A=>x::A
theorem QgA{c:Nat}{L:LB}{h:Int}{k:Nat}{x:BA}(hx:ff c L h k=some x):∀ {B:List (Int×Nat)} {A:LB},dgs c L B=some A->dgs c L (B++[(h,k)])=some (A++[x])
 | [],A,e=>by
  simp[dgs] at e;subst e;simp[dgs,hx]
 | b::r,A,e=>by
  rw[dgs] at e;obtain⟨y,hy,e⟩:=Option.bind_eq_some_iff.1 e;obtain⟨A',hA,rfl⟩:=Option.map_eq_some_iff.1 e;rw[Wl,dgs,hy,QgA hx hA]
  rfl
theorem Qei{c:Nat}{L:LB}{b:Int×Nat}(hb:ff c L b.1 b.2=none):∀ {B:List (Int×Nat)},b∈B->dgs c L B=none
 | [],h=>by cases h
 | d::r,h=>by
  rw[dgs]
  rcases List.mem_cons.1 h with rfl|h
  ·rw[hb];rfl
  ·rw[Qei hb h]
   cases ff c L d.1 d.2 <;> rfl
theorem Qgz{c:Nat}{L:LB} : ∀ {B:List (Nat×Nat)},(∀b∈B,(b.2+1)*2^b.1<=L.length)->dgs c L (Cv.zl B)=some (B.map fun b=>nd c L b.1 b.2)
 | [],_=>rfl
 | b::r,h=>by
  show dgs c L (((b.1:Int),b.2)::Cv.zl r)=_
  rw[dgs,Qfz c L b.1 b.2 (h b (by simp)),Qgz (B:=r) (fun d hd=>h d (by simp[hd]))]
  rfl
theorem Qc4(w:World)(m:Nat)(k:Int)(L:LB)(hF:Frs w m k L)(ao:OA)(g off cap:Nat)(B:List (Int×Nat))(hr:RdB w ao g off B.length B)(hmx:B.length<=8796093021952) :
  Calls prog 45 #[.pointer (some ⟨m+1,0,none⟩),.slice ao B.length cap] w fun e w'=>Below w.heap.size w w'∧((dgs (clk k) L B=none∧e= .returned (.tuple #[.slice none 0 0,.bool false]))∨(∃D,dgs (clk k) L B=some D ∧ ∃v,e= .returned (.tuple #[v,.bool true])∧Qg w' w.heap.size v D)):=by
 have HM:=QfJ w B.length (by omega)
 have HF:Hid (∀W,Below w.heap.size w W->Frs W m k L∧RdB W ao g off B.length B):=fun W hb=>⟨hF.next hb (Lb _),hr.below hb⟩
 have HX:=Qc hmx;have HO:Hid (Qg (w.alloc (.cells (madeCells #[.string ByteArray.empty] B.length) 9)) w.heap.size (.slice (Zp w.heap.size) 0 B.length) []):=QbK w _ (by omega)
 have h63:(B.length:Int)<=9223372036854775807:=by omega
 clear hF hr hmx
 go_enter func45,ntmps45;go_wp2
 go_loopg [6,16] B.length (fun g v i wr=> ∃(j:Nat) (A:LB),j<=B.length∧g=B.length-j∧i= .int .i64 j∧A.length=j∧Hid (dgs (clk k) L (B.take j)=some A)∧Qg wr w.heap.size v A∧Below w.heap.size w wr)
 case atStart=>go_light;exact⟨0,[],Lm _,rfl,rfl,rfl,rfl,HO.out,bal (Lc _ _) _⟩
 case round=>
  clear HM HO;obtain⟨j,A,hj,rfl,rfl,hA,HE,ho,hb⟩:=hrel
  by_cases hlt:j<B.length
  ·have hz:(j:Int)<(B.length:Int):=by omega
   have hz0:(0:Int)<=(j:Int):=Lf _;obtain rfl:=(HF.out wr hb).2.addr (by omega)
   obtain⟨c0,c1⟩:=(HF.out wr hb).2.cell j hlt;obtain⟨⟨h,q⟩,hx⟩:∃x,B.getD j (0,0)=x:=⟨_,rfl⟩;rw[hx] at c0 c1;have hmem:(h,q)∈B:=by rw[<-hx,La,Ld hlt];exact LN _
   have htk:B.take (j+1)=B.take j++[(h,q)]:=by
    rw[Ix,<-hx,La,Ld hlt];rfl
   have hfit:=(HF.out wr hb).2.fit _ hmem
   cases hv:ff (clk k) L h q with
   | none=>
    have HD:Hid (∀W,Below w.heap.size w W->Calls prog 80 #[.pointer (some ⟨m+1,0,none⟩),.agg #[.int .i64 h,.int .u64 q]] W fun e w'=>e= .returned (.tuple #[.string ⟨#[]⟩,.bool false])∧Below W.heap.size W w'):=fun W hb=>
     Qay W m k L (HF.out W hb).1 h q hfit ⟨#[]⟩ false (by show _∧_;rw[hv];exact⟨rfl,rfl⟩)
    have HN:Hid (dgs (clk k) L B=none):=Qei (b:=(h,q)) hv hmem;clear HE HF hx hmem htk hfit hv ho hlt hA
    go_wp2_with (go_at_call 80;with_reducible refine(HD.out _ (bal hb _)).mono ?_;rintro e w1 ⟨rfl,hb1⟩)
    go_ret2
    exact⟨Qa (bal hb _) hb1,.inl ⟨HN.out,rfl⟩⟩
   | some x=>
    have HD:Hid (∀W,Below w.heap.size w W->Calls prog 80 #[.pointer (some ⟨m+1,0,none⟩),.agg #[.int .i64 h,.int .u64 q]] W fun e w'=>e= .returned (.tuple #[.string x,.bool true])∧Below W.heap.size W w'):=fun W hb=>
     Qay W m k L (HF.out W hb).1 h q hfit x true (by show _∧_;rw[hv];exact⟨rfl,rfl⟩)
    have HN:Hid (dgs (clk k) L (B.take (j+1))=some (A++[x])):=by rw[htk];exact QgA hv HE.out
    have HZ:Hid (x.size<=9223372036854775807):=by show x.size<=_;rw[QlV (Qn k) hv];have:=Qn k;omega
    have HO:=Qc ho;have HA:=Qc hA;clear HE HF hx hmem htk hfit hv ho hA
    go_wp2_with (first
     | (go_at_call 80;with_reducible refine(HD.out _ (bal hb _)).mono ?_;rintro e w1 ⟨rfl,hb1⟩)
     | (at_builtin;refine QM _ rfl _ _ rfl w.heap.size _ A rfl (Q4 (Qv (Q4 HO.out _) hb1 (Lb _)) _) (Zp w1.heap.size) w1.heap.size 0 1 [x] rfl (YT w1 x HZ.out) (fun h=>by cases h) ?c1 ?c2 ?_))
    case c1=>have:=HX.out;have:=HA.out;simp;omega
    case c2=>have:=(Qa (bal hb _) hb1).size;simp;omega
    intro v2 w3 h3 hb3;have HY:Hid (Qg w3 w.heap.size v2 (A++[x])∧Below w.heap.size w w3):=⟨h3,(bal (Qa (bal hb _) hb1) _).trans hb3⟩;clear h3 hb3 hb1 hb;go_wp2
    go_roundg (B.length-(j+1))
    case rel=>go_light;exact⟨j+1,A++[x],by omega,rfl,by go_num,by have:=HA.out;simp;omega,HN,HY.out.1,HY.out.2⟩
    case measure=>go_light;omega
  ·obtain rfl:j=B.length:=by omega
   have hz:¬((B.length:Int)<(B.length:Int)):=by omega
   have HN:Hid (dgs (clk k) L B=some A):=by have:=HE.out;rwa [NA] at this
   clear HE hlt HF;go_wp2
   go_ret2
   exact⟨hb,.inr ⟨A,HN.out,_,rfl,ho⟩⟩
theorem QjY(n:Nat)(hn:n<=65536):Cv.UY 0 n n=0∧Cv.covR 0 n n=Cv.cov 0 n:=by
 have h:Cv.UY 0 n n=0:=by rw[Cv.UY,Le (by omega),Le (by omega),Le (by omega)]
 exact⟨h,by rw[Cv.covR,Lo h]⟩
theorem Qik{b:Nat×Nat}{n:Nat}(h:(b.2+1)*2^b.1<=n)(hn:n<=65536):US (b.1:Int) b.2:=by
 have hp:=LM b.1;have h1:2^b.1<=(b.2+1)*2^b.1:=Io _ (by omega)
 have h2:b.2+1<=(b.2+1)*2^b.1:=NZ _ hp;have h3:b.1<2^b.1:=Nat.lt_two_pow_self;exact⟨⟨by omega,by omega⟩,by omega⟩
theorem Qjr(w:World)(ht:Tb w)(m:Nat)(k:Int)(L:LB)(hF:Frs w m k L)(n:Nat)(hn:n<=L.length)(r:BA)(hq:Hid (rtD (clk k) L n=r)) :
  Calls prog 17 #[.pointer (some ⟨m+1,0,none⟩),.int .u64 n] w fun e w'=>e= .returned (.tuple #[.agg #[.int .u64 n,.string r],.int .i64 0])∧Below w.heap.size w w':=by
 have hL:=hF.hn;obtain⟨e1,e2⟩:=QjY n (by omega)
 obtain⟨p1,p2⟩:=Qaf (clk k) L n hn (by omega)
 have hds:dgs (clk k) L (Cv.zl (Cv.cov 0 n))=some (pks (clk k) (L.take n) 41):=by rw[Qgz (fun b hb=>Lt (p2 b hb) hn),p1]
 obtain⟨P,hP⟩:∃P,pks (clk k) (L.take n) 41=P:=⟨_,rfl⟩;rw[hP] at hds;have zP:∀s∈P,s.size<=140737488351232:=by rw[<-hP];exact small (Qn k)
 have lP:P.length<=41:=by rw[<-hP];exact OQ _ _ _
 have HQ:dg (clk k) (QO n (Qx (clk k) P))=r:=by rw[<-hP];exact hq.out
 have HM:Hid (∀W,Calls prog 44 #[.int .u64 n] W fun x w'=> ∃ao g cap,x= .returned (.tuple #[.slice ao (Cv.zl (Cv.cov 0 n)).length cap,.int .i64 0])∧RdB w' ao g 0 (Cv.zl (Cv.cov 0 n)).length (Cv.zl (Cv.cov 0 n))∧Below W.heap.size W w'):=fun W=>by
  have:=Cv.Q8 n W;rw[e1,e2] at this;refine this.mono ?_
  rintro x w' ⟨v,rfl,ho,hb⟩;obtain⟨ao,g,n',cap,rfl,hr,_⟩:=OP ho (fun b hb=>by
   obtain⟨b0,hb0,rfl⟩:=List.mem_map.1 hb;exact Qik (p2 b0 hb0) (by omega))
  obtain rfl:=hr.len;exact⟨ao,g,cap,rfl,hr,hb⟩
 have lC:(Cv.zl (Cv.cov 0 n)).length<=80:=by rw[Cv.Yd];exact Cv.QaG 0 n (Lm _) (by omega)
 obtain⟨C,hC⟩:∃C,Cv.zl (Cv.cov 0 n)=C:=⟨_,rfl⟩;rw[hC] at HM hds lC;have HD:Hid (∀W ao g cap,Below w.heap.size w W->RdB W ao g 0 C.length C->Calls prog 45 #[.pointer (some ⟨m+1,0,none⟩),.slice ao C.length cap] W fun e w'=>Below W.heap.size W w' ∧ ∃ao' b' cap',e= .returned (.tuple #[.slice ao' P.length cap',.bool true])∧RdS w' ao' b' 0 P.length P):=fun W ao g cap hb hr=>by
  refine(Qc4 W m k L (hF.next hb (Lb _)) ao g 0 cap C hr (by omega)).mono ?_
  rintro e w' ⟨hb',⟨h1,_⟩|⟨D,h1,v,rfl,ho⟩⟩
  ·rw[hds] at h1;cases h1
  ·rw[hds] at h1;injection h1 with h1
   subst h1;obtain⟨ao',b',cap',rfl,hr',_⟩:=QJ ho (fun s hs=>Lt (zP s hs) (by decide))
   exact⟨hb',ao',b',cap',rfl,hr'⟩
 have HRo:Hid (∀W,Below w.heap.size w W -> ∀ao' b' cap',RdS W ao' b' 0 P.length P->Calls prog 46 #[.int .i64 k,.int .u64 n,.slice ao' P.length cap'] W fun e w'=>e= .returned (.string r)∧Below W.heap.size W w'):=fun W hb ao' b' cap' hr'=>OV W (ht.next hb) k n ao' b' 0 P.length cap' P hr' zP (by omega) r HQ
 have HF:Hid (∀W,Below w.heap.size w W->W.cell? ⟨m+1,0,none⟩=some (.int .i64 k)):=fun W hb=>(hF.next hb (Lb _)).c0
 have c1:(w.alloc (.cells #[.int .u64 0,.string ⟨#[]⟩] 33)).cell? ⟨m+1,1,none⟩=some (.int .u64 L.length):=(hF.next (bal (Lc w.heap.size w) _) (Lb _)).c1;have hn':¬(L.length:Int)<(n:Int):=by omega
 have hb:=bal (Lc w.heap.size w) (.cells #[.int .u64 0,.string ⟨#[]⟩] 33);have HN:=QdJ w 0 ⟨#[]⟩ 33;rw[show((0:Nat):Int)=0 from rfl] at HN
 have HN2:=Qc HN;have HZ:Hid (w.heap.size<(w.alloc (.cells #[.int .u64 0,.string ⟨#[]⟩] 33)).heap.size):=by show _<_;simp
 clear hq hP hds zP lP HQ hC lC e1 e2 p1 p2 hn hL ht hF HN
 go_enter func17,ntmps17
 go_wp2_with (first
  | (go_at_call 44;with_reducible refine(HM.out _).mono ?_;rintro e w1 ⟨ao,g,cap,rfl,hr1,hb1⟩)
  | (go_at_call 45;with_reducible refine(HD.out _ _ _ _ (Qa hb hb1) hr1).mono ?_;rintro e w2 ⟨hb2,ao',b',cap',rfl,hr2⟩;have y0:=HF.out _ (Qa (Qa hb hb1) hb2))
  | (go_at_call 46;with_reducible refine(HRo.out _ (Qa (Qa hb hb1) hb2) _ _ _ hr2).mono ?_;rintro e w3 ⟨rfl,hb3⟩;have hR:=((HN2.out.below hb1 HZ.out).below hb2 (LL HZ.out hb1.size)).below hb3 (LL HZ.out (Lt hb1.size hb2.size));have k0:=hR.c0;have k1:=hR.c1;have f0:=hR.f0;have f1:=hR.f1))
 have s0:(w3.setCell ⟨w.heap.size,0,none⟩ (.int .u64 n)).cell? ⟨w.heap.size,0,none⟩=some (.int .u64 n):=LU _ _ _ k0;have s1:((w3.setCell ⟨w.heap.size,0,none⟩ (.int .u64 n)).setCell ⟨w.heap.size,1,none⟩ (.string r)).cell? ⟨w.heap.size,1,none⟩=some (.string r) :=
  LU _ _ _ ((Lz _ _ _ _ (by simp)).trans k1)
 refine LA (v := .tuple #[.agg #[.int .u64 n,.string r],.int .i64 0]) (by simp[results,results17,go_sem,s0,s1]) rfl ⟨rfl,?_⟩
 exact((Qa (Qa (Qa hb hb1) hb2) hb3).setCell (p:=⟨w.heap.size,0,none⟩) (Lb _) _).setCell (p:=⟨w.heap.size,1,none⟩) (Lb _) _
theorem Qge(x:Int)(h0:0<=x)(h1:x<18446744073709551616):IntKind.u64.wrap x=x:=by
 simp[IntKind.wrap,IntKind.signed,IntKind.bits];omega
theorem J4(n:Nat)(w:World)(hn:n<2^64)(t:Nat)(ht:tr 64 n=t) :
  Calls prog 194 #[.int .u64 n] w fun e w'=>e= .returned (.int .i64 t)∧w'=w:=by
 subst ht
 go_enter func194,ntmps194;go_wp2
 go_loopg [4] 64 (fun g i wr=> ∃k:Nat,k<=64∧g=64-k∧i= .int .i64 k∧k+tr (64-k) (n/2^k)=tr 64 n∧w=wr)
 case atStart=>go_light;exact⟨0,Lm _,rfl,rfl,by simp,rfl⟩
 case round=>
  obtain⟨k,hk,rfl,rfl,hs,rfl⟩:=hrel;have hk0:(0:Int)<=(k:Int):=Lf _
  by_cases hlt:k<64
  ·have hk8:(k:Int)<64:=by omega
   have HC:=Pl.YM n k w hn hlt;have HS:=Qhf k n hlt
   by_cases hb:n/2^k%2=1
   ·rw[Lo hb] at HS;rw[LS hb] at HC
    go_wp2_with (go_at_call 191;refine HC.mono ?_;rintro e w' ⟨rfl,rfl⟩)
    go_ret
    refine⟨?_,rfl⟩
    rw[<-hs,HS]
    rfl
   ·rw[Le hb] at HS;rw[LC hb] at HC
    go_wp2_with (go_at_call 191;refine HC.mono ?_;rintro e w' ⟨rfl,rfl⟩)
    go_roundg (64-(k+1))
    case rel=>go_light;exact⟨k+1,by omega,rfl,by go_num,by omega,rfl⟩
    case measure=>go_light;omega
  ·obtain rfl:k=64:=by omega
   clear hk hlt;go_wp2
   go_ret
   refine⟨?_,rfl⟩
   rw[<-hs]
   rfl
theorem Qdv(w:World)(s:BA):Qg (w.alloc (.cells #[.string s] 9)) w.heap.size (.slice (Zp w.heap.size) 1 1) [s] :=
 ⟨rfl,.inr ⟨w.heap.size,1,#[.string s],rfl,Lb _,Lr w _,Lb _,by unfold maxLen;omega,rfl,rfl⟩⟩
theorem QN{w:World}{B B':Nat}{v:Value}{l:LB}(h:Qg w B v l)(hB:B'<=B):Qg w B' v l:=by
 obtain⟨h1,h2⟩:=h;refine⟨h1,?_⟩
 rcases h2 with h2|⟨g,cap,cur,hv,hg,h3⟩
 ·exact .inl h2
 ·exact .inr ⟨g,cap,cur,hv,by omega,h3⟩
structure Chf(m:Nat)(w w':World):Prop where
 below:Below m w w'
 block:∀q,q<w.heap.size->q≠m->q≠m+1->w'.heap[q]? = w.heap[q]?
theorem Chf.refl(m:Nat)(w:World):Chf m w w:=⟨Lc _ _,fun _ _ _ _=>rfl⟩
theorem Chf.of{m:Nat}{w w':World}(h:Below w.heap.size w w')(hm:m<w.heap.size):Chf m w w':=⟨h.mono (I8 hm),fun q hq _ _=>h.block q hq⟩
theorem Chf.trans{m:Nat}{w w1 w2:World}(h:Chf m w w1)(h2:Chf m w1 w2):Chf m w w2 :=
 ⟨h.below.trans h2.below,fun q hq x y=>(h2.block q (LL hq h.below.size) x y).trans (h.block q hq x y)⟩
theorem Chf.size{m:Nat}{w w':World}(h:Chf m w w'):w.heap.size<=w'.heap.size:=h.below.size
theorem Chf.next{m:Nat}{w w1 w2:World}(h:Chf m w w1)(h2:Below w1.heap.size w1 w2)(hm:m<w.heap.size):Chf m w w2:=h.trans (Chf.of h2 (LL hm h.size))
theorem Chf.set{m b:Nat}{w w':World}(h:Chf m w w')(i:Nat)(v:Value)(hb:b=m+1∨w.heap.size<=b)(hm:m<w.heap.size):Chf m w (w'.setCell ⟨b,i,none⟩ v):=by
 refine⟨h.below.setCell (p:=⟨b,i,none⟩) (by show m<=b;omega) v,fun q hq x y=> ?_⟩
 rw[<-h.block q hq x y];exact Below.heap_setCell _ _ _ _ (by show q≠b;omega)
theorem Chf.put{m:Nat}{w w':World}(h:Chf m w w')(o:Obj):Chf m w (ChangeMaps.setBlock w' m o):=by
 refine⟨⟨h.below.os,h.below.tape,h.below.output,?_,fun q hq=> ?_⟩,fun q hq x _=> ?_⟩
 ·simp[ChangeMaps.setBlock,h.below.size]
 ·rw[<-h.below.block q hq];simp[ChangeMaps.setBlock,show ¬m=q by omega]
 ·rw[<-h.block q hq x (by assumption)]
  simp[ChangeMaps.setBlock,show ¬m=q by omega]
theorem UO{m q:Nat}{w:World}(o:Obj)(h:q≠m):(ChangeMaps.setBlock w m o).heap[q]? = w.heap[q]? := by
 simp[ChangeMaps.setBlock,show ¬m=q by omega]
theorem QpR{w:World}{m g:Nat}{k x:Int}{L:LB}(h0:w.cell? ⟨g,0,none⟩=some (.int .u32 x))(hF:Frs w m k L):g≠m∧g≠m+1:=by
 constructor
 ·rintro rfl;obtain⟨es,c,hm,_⟩:=hF.mp;simp[World.cell?,hm] at h0
 ·rintro rfl;rw[hF.c0] at h0
  cases h0
theorem Tb.chf{w w':World}{m:Nat}{k:Int}{L:LB}(ht:Tb w)(hF:Frs w m k L)(hc:Chf m w w'):Tb w':=by
 have hlt:=QH ht.rs (Qee (by rw[Jp];decide))
 obtain⟨x,h0⟩:∃x,w.cell? ⟨2,0,none⟩=some (.int .u32 x):=by
  have hx:0<RS.length:=by rw[Jp];decide
  exact⟨RS[0],ht.rs 0 _ (by simp[cW,hx])⟩
 obtain⟨hne,hne2⟩:=QpR h0 hF;refine⟨fun j u hu=> ?_⟩
 rw[<-ht.rs j u hu];have:=hc.block _ hlt hne hne2;simp only[World.cell?,this]
namespace Kp
open Pl (Qy)
theorem QhM{l:Nat}{J J':Act->World->Prop}{Q:Exit->Act->World->Prop}(h:∀a w,J a w->J' a w):∀e a w,Exit.jump l J Q e a w->Exit.jump l J' Q e a w:=by
 intro e a w hq
 cases e with
 | goto l'=>exact⟨hq.1,h _ _ hq.2⟩
 | _=>exact hq
theorem QdZ{P:Program}{a:Act}{w:World}{Q:Exit->Act->World->Prop}{c X:Code}(l:Nat)(J:Act->World->Prop)(μ:Act->World->Nat)(hf:findLabel c l=some (Code.skip.seq X))
  (pass:∀a w,J a w->X.wp P (Exit.jump l (fun a' w'=>J a' w'∧μ a' w'<μ a w) Q) a w)
  (first:(∀a w,J a w->X.wp P (Exit.jump l J Q) a w)->c.wp P (Exit.jump l J Q) a w):(Code.scope c).wp P Q a w :=
 wp_scope_jumps l J μ hf (first fun a w h=>wp_mono (pass a w h) (QhM fun _ _ h=>h.1)) fun a w h=>wp_seq (wp_skip (pass a w h))
def slen:Value->Nat
 | .slice _ n _=>n
 | _=>0
def Qpn(v u:Value):Prop := ∀g,v.ownBlock=some g->u.ownBlock=some g->False
structure Did(w w':World)(p:Nat)(v:Value)(k:Int)(n':Nat)(P':LB)(vm:Value)(M:LB)(v':Value):Prop where
 rg:Rg w' p v' k n' P'
 own:Qg w' w.heap.size vm M
 ch:Ch p w w'
 new:v'=v ∨ ∀g,v'.ownBlock=some g->w.heap.size<=g
 apart:Qpn vm v'
theorem YY{w:World}{B p i:Nat}{v x:Value}{l:LB}(h:Qg w B v l)(hp:p<B):Qg (w.setCell ⟨p,i,none⟩ x) B v l:=by
 obtain⟨h1,h2⟩:=h;refine⟨h1,?_⟩
 rcases h2 with h2|⟨g,cap,cur,rfl,hg,hh,r⟩
 ·exact .inl h2
 ·exact .inr ⟨g,cap,cur,rfl,hg,by rw[<-hh];exact Below.heap_setCell _ _ _ _ (by show g≠p;omega),r⟩
structure At(w wr:World)(c h t f left:Nat)(d:BA)(A0 P' M Q:LB)(vm:Value)(ao:OA)(b len cap:Nat):Prop where
 hlen:P'.length=len
 hleft:left=2^h*t
 ht:t<2^f
 hf:h+f=40
 hd:d.size=c
 hP:∀s∈P',s.size=c
 hl:P'.length=(ol (fun h _=>h) 41 left).length
 hA:A0.length<=h
 hM:A0++(Ye c f t P' d).1=M
 hQ:(Ye c f t P' d).2=Q
 own:Qg wr w.heap.size vm (A0++[d])
 rd:RdS w ao b 0 len P'
 cap:len<=cap
 below:Below w.heap.size w wr
theorem At.next{w wr W:World}{c h t f left:Nat}{d:BA}{A0 P' M Q:LB}{vm:Value}{ao:OA}{b len cap:Nat}(s:At w wr c h t f left d A0 P' M Q vm ao b len cap)(hb:Below wr.heap.size wr W):At w W c h t f left d A0 P' M Q vm ao b len cap :=
 ⟨s.hlen,s.hleft,s.ht,s.hf,s.hd,s.hP,s.hl,s.hA,s.hM,s.hQ,Qv s.own hb (Lb _),s.rd,s.cap,Qa s.below hb⟩
theorem At.lt{w wr:World}{c h t f left:Nat}{d:BA}{A0 P' M Q:LB}{vm:Value}{ao:OA}{b len cap:Nat}(s:At w wr c h t f left d A0 P' M Q vm ao b len cap):left<1099511627776:=by
 rw[s.hleft,show 1099511627776=2^(h+f) by rw[s.hf],If]
 exact Nat.mul_lt_mul_of_pos_left s.ht (LM h)
theorem At.pop{w wr W:World}{c h t f left:Nat}{d d':BA}{A0 P' M Q:LB}{vm vm':Value}{ao:OA}{b m cap:Nat}(hc:c<=32)(s:At w wr c h t f left d A0 P' M Q vm ao b (m+1) cap)(ho:t%2=1)(hd:dg c (Qz (P'.getD m ByteArray.empty) d)=d')(hb:Below w.heap.size w W)(ho':Qg W w.heap.size vm' ((A0++[d])++[d'])) :
  ∃f',At w W c (h+1) (t/2) f' (left-2^h) d' (A0++[d]) (P'.take m) M Q vm' ao b m cap:=by
 have hf:=s.hf;have hlt:=s.ht;have hl:=s.hl;have hlen:=s.hlen;have hcap:=s.cap;have hA:=s.hA;have hrd:=s.rd
 cases f with
 | zero=>simp at hlt;omega
 | succ f=>
  have hM:=s.hM;have hQ:=s.hQ;have e:P'.length-1=m:=by omega
  rw[Uy ho (d':=d') (by rw[e];exact hd),e] at hM hQ
  rw[s.hleft] at hl ⊢;rw[QbF _ (by omega) ho,Lh,Nb] at hl
  rw[LO] at hlt;refine⟨f,⟨by rw[Lv];omega,(Ug ho).1,by omega,by omega,by rw[<-hd];exact Q3 hc _,fun s' hs=>s.hP s' (Nn hs),by rw[(Ug ho).1,Lv];omega,by simp;omega,by rw[<-hM];simp,hQ,ho',?_,by omega,hb⟩⟩
  refine⟨by rw[Lv];omega,fun h0=>hrd.ptr (by omega),fun j v hv=> ?_,fun s hs=>hrd.sz s (Nn hs)⟩
  rw[N8,Nf] at hv
  split at hv
  ·exact hrd.rng j v hv
  ·cases hv
def LayJ(w:World)(p gr c:Nat)(M Q:LB)(a':Act)(w':World):Prop := ∃(h t f left:Nat) (d:BA) (A0 P':LB) (vm:Value) (ao:OA) (b len cap:Nat) (u11 u12 u13 u14 u15 u16 u17 u18 u19 u20 u21 u22 u23 u24 u25 u26 u27 u28 u29 u30 u31 u32 u33 u34 u35 u36 u37 u38 u39 u40 u41 u42 u43 u44 u45 u46 u47 u48 u49 u50 u51 u52 u53 u54 u55 u56 u57 u58:Value),
  a' = { tmps:=#[Zv p,.int .i64 h,.string d,undef,undef,undef,.slice none 0 0,vm,.int .u64 gr,.slice ao len cap,.int .u64 left,u11,u12,u13,u14,u15,u16,u17,u18,u19,u20,u21,u22,u23,u24,u25,u26,u27,u28,u29,u30,u31,u32,u33,u34,u35,u36,u37,u38,u39,u40,u41,u42,u43,u44,u45,u46,u47,u48,u49,u50,u51,u52,u53,u54,u55,u56,u57,u58,undef,undef,undef,undef,undef,undef,undef,undef,undef,undef,undef,undef,undef],defers:=[] } ∧
  At w w' c h t f left d A0 P' M Q vm ao b len cap
def muL(a':Act)(_:World):Nat:=slen (a'.tmps.getD 9 undef)
theorem Qmg(w:World)(ht:Tb w)(p:Nat)(v:Value)(k:Int)(n:Nat)(P:LB)(hr:Rg w p v k n P)(h:Nat)(hh:h<=40)(d:BA)(hd:d.size=clk k)(h0:n%2^h=0)(gr:Nat)(hgr0:n+2^h=gr)(h1:gr<=1099511627776)(M Q:LB)(hM:Hid (mk (clk k) n P h d=(M,Q))) :
  Calls prog 192 #[Zv p,.int .i64 h,.string d] w fun e w'=> ∃vm v',e= .returned vm∧Did w w' p v k gr Q vm M v':=by
 obtain⟨ao,b,cap,hv,hrd,hcap,hno⟩:=hr.rd;obtain⟨q,hq⟩:∃q,2^h=q:=⟨_,rfl⟩;have hgr:n+q=gr:=by rw[<-hq];exact hgr0
 have HI:Hid (∀W,Calls prog 228 #[.int .i64 h] W fun e w'=>e= .returned (.int .u64 q)∧w'=W):=fun W=>Qcq h W hh q hq
 have hg1:IntKind.u64.wrap ((n:Int)+(q:Int))=(gr:Int):=by rw[Qge _ (by omega) (by omega)];omega
 have HRg:Hid (∀W,Below w.heap.size w W->Rg W p v k n P):=fun W hb=>hr.next hb (Lb _)
 have HTb:Hid (∀W,Below w.heap.size w W->Tb W):=fun W hb=>ht.next hb
 have c1:=fun o=>(HRg.out _ (bal (Lc _ _) o)).c1
 have c2:=fun o=>(HRg.out _ (bal (Lc _ _) o)).c2
 rw[hv] at c2;have HS:Hid (At w (w.alloc (.cells #[.string d] 9)) (clk k) h (n/2^h) (40-h) n d [] P M Q (.slice (Zp w.heap.size) 1 1) ao b P.length cap):=by
  have hn:=hr.hn;have hdm:=Iq n (2^h);refine⟨rfl,by omega,?_,by omega,hd,hr.hs,hr.hl,Lm _,by rw[NE];exact LZ Prod.fst hM.out,LZ Prod.snd hM.out,Qdv w d,hrd,hcap,bal (Lc _ _) _⟩
  rw[IY (LM h),<-If,show 40-h+h=40 by omega]
  have:=LM h;omega
 have HN:Hid (n<=1099511627776∧gr<=1099511627776∧Q.length=(hts gr).length∧(∀s∈Q,s.size=clk k)∧1<=k∧k<=32):=by
  have eQ:(Ye (clk k) (40-h) (n/2^h) P d).2=Q:=LZ Prod.snd hM.out;refine⟨hr.hn,h1,?_,?_,hr.k1,hr.k2⟩
  ·rw[<-eQ,Qhr (clk k) 41 (40-h) h (n/2^h) P d (by omega) HS.out.ht (by rw[<-HS.out.hleft];exact hr.hl),<-HS.out.hleft,hgr0];rfl
  ·rw[<-eQ];exact(Qfp (Qn k) _ _ _ _ hr.hs hd).2
 have HP0:Hid (p<w.heap.size):=hr.lt;have HV:=Qc hv;clear hM hgr hgr0 hq h1 h0 hh ht hr hrd hcap hno hd
 go_enter func192,ntmps192;go_wp2;refine QdZ 0 (LayJ w p gr (clk k) M Q) muL rfl ?pass ?first
 case first=>
  intro HP;have HP2:=Qc HP;clear HP;go_wp2
  go_quiet ((go_at_call 228;refine Calls.quiet_of_same (HI.out _)))
  go_wp2
  go_quiet (fail)
  go_wp2
  go_step3
  rename_i K0 hK0
  refine hK0 _ _ (HP2.out _ _ ⟨h,n/2^h,40-h,n,d,[],P,_,ao,b,P.length,cap,_,_,_,_,_,_,_,_,_,_,_,_,_,_,_,_,_,_,_,_,_,_,_,_,_,_,_,_,_,_,_,_,_,_,_,_,_,_,_,_,_,_,_,_,_,_,_,_,rfl,HS.out.next ?_⟩)
  exact Qi (Qi (Lc _ _) _) _
 case pass=>
  clear HS HI hg1 c1 c2 h d;rintro a' w' ⟨h,t,f,left,d,A0,P',vm,ao',b',len,cap',u11,u12,u13,u14,u15,u16,u17,u18,u19,u20,u21,u22,u23,u24,u25,u26,u27,u28,u29,u30,u31,u32,u33,u34,u35,u36,u37,u38,u39,u40,u41,u42,u43,u44,u45,u46,u47,u48,u49,u50,u51,u52,u53,u54,u55,u56,u57,u58,rfl,HA0⟩;have HA:=Qc HA0;have hlt:=HA0.lt;have HLt:=Qc hlt;clear HA0 hlt
  by_cases ho:t%2=1
  ·have hh:h<=39:=by
    have h1:=HA.out.hf;have h2:=HA.out.ht
    apply NW
    intro h3;obtain rfl:f=0:=by omega
    simp at h2;omega
   have hT:tr 64 left=h:=by
    rw[Qk2 64 h left (by omega),HA.out.hleft,(Ja h t).2]
    exact⟨(Ja h t).1,ho⟩
   have HT:Hid (∀W,Calls prog 194 #[.int .u64 left] W fun e w'=>e= .returned (.int .i64 h)∧W=w'):=fun W=>(J4 left W (by have:=HLt.out;omega) h hT).mono fun _ _ h=>⟨h.1,h.2.symm⟩
   obtain⟨m,rfl⟩:∃m,len=m+1:=by
    have h1:=HA.out.hl;rw[HA.out.hleft,QbF _ (by omega) ho,Lh,Nb,HA.out.hlen] at h1
    exact⟨len-1,by omega⟩
   obtain⟨q,hq⟩:∃q,2^h=q:=⟨_,rfl⟩;obtain⟨l2,hl2⟩:∃l2,left-2^h=l2:=⟨_,rfl⟩;obtain⟨h2,hh2⟩:∃h2,h+1=h2:=⟨_,rfl⟩;have hql:q<=left:=by
    rw[HA.out.hleft,<-hq];exact NZ _ (by omega)
   have HI:Hid (∀W,Calls prog 228 #[.int .i64 h] W fun e w'=>e= .returned (.int .u64 q)∧w'=W):=fun W=>Qcq h W (by omega) q hq
   have e1:IntKind.i64.wrap (m:Int)=(m:Int):=by
    have:=HA.out.hl;have:=JR (fun h _=>h) 41 left
    have:=HA.out.hlen;rw[LE];omega
   have e2:IntKind.u64.wrap ((left:Int)-(q:Int))=(l2:Int):=by
    have:=HLt.out;rw[Qge _ (by omega) (by omega)];omega
   have e3:IntKind.i64.wrap ((h:Int)+1)=(h2:Int):=by rw[LE];omega
   have i1:(m:Int)<(m:Int)+1:=by omega
   have i2:(0:Int)<=(m:Int):=Lf _;have i3:(m:Int)<=(cap':Int):=by have:=HA.out.cap;omega
   obtain rfl:=HA.out.rd.ptr (by omega)
   obtain⟨x,hx⟩:∃x,P'.getD m ByteArray.empty=x:=⟨_,rfl⟩;obtain⟨d',hd'⟩:∃d',dg (clk k) (Qz x d)=d':=⟨_,rfl⟩;have HNd:Hid (∀W,Below w.heap.size w W->Calls prog 155 #[.int .i64 k,.string x,.string d] W fun e w'=>e= .returned (.string d')∧Below W.heap.size W w'):=fun W hb=>by
    have hc:=Qn k;have z1:x.size=clk k:=by rw[<-hx];exact HA.out.hP _ (QI (by rw[HA.out.hlen];omega))
    have z2:=HA.out.hd;exact YU W (HTb.out W hb) k x d (by omega) (by omega) d' hd'
   have HK:Hid (∀W,Below w'.heap.size w' W->W.cell? ⟨p,0,none⟩=some (.int .i64 k)∧W.cell? ⟨b',m,none⟩=some (.string x)):=fun W hb=>by
    have c3:=(HA.out.rd.next (Qa HA.out.below hb) (Lb _)).at (k:=m) (by omega)
    rw[Lp,hx] at c3;exact⟨(HRg.out W (Qa HA.out.below hb)).c0,c3⟩
   have HE:Hid (x=P'.getD m ByteArray.empty∧d'=dg (clk k) (Qz x d)∧l2=left-2^h∧h2=h+1∧d'.size<=9223372036854775807∧A0.length<=40):=⟨hx.symm,hd'.symm,hl2.symm,hh2.symm,by rw[<-hd',Q3 (Qn k)];have:=Qn k;omega,by have:=HA.out.hA;omega⟩
   clear hT hl2 hh2 hql hx hd' hq hh hv
   go_upto_region 6 with (go_at_call 194;with_reducible refine(HT.out _).mono ?_;rintro e w1 ⟨rfl,rfl⟩)
   obtain⟨y1,y2⟩:=HK.out w'.drew (Lc w'.heap.size w').drew;have hd:Below w'.heap.size w' w'.drew:=(Lc w'.heap.size w').drew
   go_region_held3 (fun w'=>w'.cell? ⟨p,0,none⟩=some (.int .i64 k)∧w'.cell? ⟨b',m,none⟩=some (.string x)) (first|assumption|(exact HK.out _ (Qa hd hb2))|(exact HK.out _ hd)) ((go_at_call 155;with_reducible refine(HNd.out _ (Qa HA.out.below hd)).mono ?_;rintro e w2 ⟨rfl,hb2⟩))
   have HB2:Hid (Below w'.heap.size w' w2):=Qa hd hb2;clear hb2 hd y1 y2
   go_wp2_with (at_builtin;refine QM _ rfl _ _ rfl w.heap.size _ (A0++[d]) rfl (Q4 (Qv HA.out.own HB2.out (Lb _)) _) (Zp w2.heap.size) w2.heap.size 0 1 [d'] rfl (YT w2 d' HE.out.2.2.2.2.1) (fun h=>by cases h) ?c1 ?c2 ?_)
   case c1=>have:=HE.out.2.2.2.2.2;simp;omega
   case c2=>have:=(Qa HA.out.below HB2.out).size;simp;omega
   intro v3 w3 h3 hb3;have HX:Hid (Qg w3 w.heap.size v3 ((A0++[d])++[d'])∧Below w.heap.size w w3):=⟨by simpa using h3,(bal (Qa HA.out.below HB2.out) _).trans hb3⟩
   clear h3 hb3;go_wp2
   go_quiet ((go_at_call 228;refine Calls.quiet_of_same (HI.out _)))
   go_wp2
   go_step3
   obtain⟨x1,x2,x3,x4,x5,x6⟩:=HE.out;obtain⟨f',hP⟩:=HA.out.pop (Qn k) ho (by rw[<-x1];exact x2.symm) HX.out.2 HX.out.1
   rw[<-x3,<-x4] at hP;refine⟨rfl,⟨h2,t/2,f',l2,d',A0++[d],P'.take m,_,_,b',m,cap',_,_,_,_,_,_,_,_,_,_,_,_,_,_,_,_,_,_,_,_,_,_,_,_,_,_,_,_,_,_,_,_,_,_,_,_,_,_,_,_,_,_,_,_,_,_,_,_,rfl,hP.next (Qi (Lc _ _) _)⟩,?_⟩
   show m<m+1
   omega
  ·have hne:tr 64 left≠h:=by
    rw[Ne,Qk2 64 h left (by have:=HA.out.hf;omega),HA.out.hleft,(Ja h t).2]
    exact fun h=>ho h.2
   obtain⟨T,hT⟩:∃T,tr 64 left=T:=⟨_,rfl⟩;have HT:Hid (∀W,Calls prog 194 #[.int .u64 left] W fun e w'=>e= .returned (.int .i64 T)∧W=w'):=fun W=>(J4 left W (by have:=HLt.out;omega) T hT).mono fun _ _ h=>⟨h.1,h.2.symm⟩
   have hne':¬((T:Int)=(h:Int)):=by rw[hT] at hne;omega
   obtain rfl:=HA.out.hlen;have HC:Hid (∀W,Calls prog 229 #[.slice ao' P'.length cap'] W fun e w'=>e= .returned (.slice ao' P'.length P'.length)∧W=w'):=fun W=>(QiU W ao' _ cap' HA.out.cap).mono fun _ _ h=>⟨h.1,h.2.symm⟩
   have HL:Hid (P'.length<=1000):=by show _<=_;rw[HA.out.hl];have:=JR (fun h _=>h) 41 left;omega
   clear hne hT hv
   go_wp2_with (first
    | (go_at_call 194;with_reducible refine(HT.out _).mono ?_;rintro e w1 ⟨rfl,rfl⟩)
    | (go_at_call 229;with_reducible refine(HC.out _).mono ?_;rintro e w1 ⟨rfl,rfl⟩)
    | (at_builtin;refine On _ rfl _ _ rfl ao' b' P' rfl (HA.out.rd.next (bal HA.out.below _) (Lb _)) ⟨w'.heap.size,0,none⟩ d rfl (by simp) HL.out ?_))
   intro v2 w3 h3 hb3;obtain⟨g2,cap2,hv2,_⟩:=QeJ h3 (by simp)
   obtain⟨n2,hn2⟩:∃n2,(P'++[d]).length=n2:=⟨_,rfl⟩;rw[hn2] at hv2;subst hv2;clear hn2;have HB3:Hid (Below w.heap.size w w3∧Below w'.heap.size w' w3∧Qg w3 w'.heap.size (.slice (Zp g2) n2 cap2) (P'++[d])):=⟨Qa HA.out.below ((bal (Lc w'.heap.size w') _).trans (hb3.mono (Wj _))),(bal (Lc w'.heap.size w') _).trans (hb3.mono (Wj _)),QN h3 (Wj _)⟩;clear h3 hb3;have R3:=HRg.out w3 HB3.out.1;have y1:=R3.c1;have y2:=R3.c2;have z1:=R3.fz 1;have z2:=R3.fz 2;have HR3:=Qc R3;clear R3;go_wp2
   try simp only[Exit.jump]
   go_ret
   have hlt:=HP0.out;have hsz:=HA.out.below.size;refine⟨vm,.slice (Zp g2) n2 cap2,rfl,⟨?_,?_,?_,?_,?_⟩⟩
   ·obtain⟨q1,q2,q3,q4,q5,q6⟩:=HN.out;have hQ:P'++[d]=Q:=by have:=HA.out.hQ;rw[YK ho] at this;exact this
    refine⟨?_,QN (YY (YY (by rw[<-hQ];exact HB3.out.2.2) (by omega)) (by omega)) (Lm _),q5,q6,q2,q3,q4⟩
    have e1:=Ln w3 p 2 _ 203 (.slice (Zp g2) n2 cap2) HR3.out.blk;have e2:=Ln _ p 1 _ 203 (.int .u64 gr) e1;exact e2
   ·have hM:A0++[d]=M:=by have:=HA.out.hM;rw[YK ho] at this;exact this
    rw[<-hM];exact YY (YY (Qv HA.out.own HB3.out.2.1 (Lb _)) hlt) hlt
   ·exact((Ch.of HB3.out.1 hlt).set 2 _).set 1 _
   ·right
    intro g hg;have:=(LX HB3.out.2.2 g hg).1;omega
   ·intro g hg1 hg2;have a1:=(LX HB3.out.2.2 g hg2).1;have a2:=(LX HA.out.own g hg1).2;omega
theorem QbU(w:World)(p:Nat)(v:Value)(k:Int)(n:Nat)(P:LB)(hr:Rg w p v k n P) :
  Calls prog 123 #[Zv p] w fun e w'=>e= .returned (.int .u64 n)∧Below w.heap.size w w':=by
 have c1:=hr.c1;clear hr
 go_enter func123,ntmps123;go_wp2
 go_ret
 exact⟨rfl,Lc _ _⟩
theorem Qf3(w:World)(p:Nat)(v:Value)(k:Int)(n:Nat)(P:LB)(hr:Rg w p v k n P) :
  Calls prog 124 #[Zv p] w fun e w'=> ∃u,e= .returned u∧Qg w' w.heap.size u P∧Below w.heap.size w w':=by
 obtain⟨ao,b,cap,hv,hrd,hcap,hno⟩:=hr.rd;have c2:=hr.c2;rw[hv] at c2;have HC:Hid (Calls prog 121 #[.slice ao P.length cap] w fun e w'=> ∃v,e= .returned v∧Qg w' w.heap.size v P∧Below w.heap.size w w'):=Qch w ao b 0 cap P hrd hno (by have:=hr.short;omega)
 clear hr hv hrd hcap hno
 go_enter func124,ntmps124
 go_wp2_with (go_at_call 121;with_reducible refine HC.out.mono ?_;rintro e w1 ⟨u,rfl,ho,hb⟩)
 go_ret
 exact⟨u,rfl,ho,hb⟩
theorem Qs{w:World}{B:Nat}{v:Value}{l:LB}(h:Qg w B v l):∃ao cap,v= .slice ao l.length cap:=by
 obtain⟨_,h2⟩:=h
 rcases h2 with ⟨h2,h3⟩|⟨g,cap,cur,hv,_⟩
 ·exact⟨none,0,by rw[h2,h3]⟩
 ·exact⟨_,cap,hv⟩
def fe(k:Int)(n:Nat)(L:LB):Nat :=
 if k<1∨32<k then 70 else if 1099511627776<n then 30 else if L.length≠Qy 64 n ∨ ¬(∀s∈L,(s.size:Int)=k) then 90 else 0
theorem Qme{k:Int}(h1:1<=k)(h2:k<=32):chk k=0:=by rw[chk,Le (by omega)]
theorem Qmd{k:Int}(h:k<1∨32<k):chk k=70:=by rw[chk,Lo h]
def Made(w w':World)(k:Int)(n:Nat)(L:LB)(e0:Nat)(e:Ending):Prop :=
 Below w.heap.size w w'∧((e0≠0∧e= .returned (.tuple #[.pointer none,.int .i64 e0]))∨(e0=0 ∧ ∃p v,e= .returned (.tuple #[Zv p,.int .i64 0])∧Rg w' p v k n L∧w.heap.size<=p ∧ ∀g,v.ownBlock=some g->w.heap.size<=g))
theorem Qen(w:World)(k:Int)(n:Nat)(hn64:n<18446744073709551616)(ao:OA)(b off cap:Nat)(L:LB)(hr:RdS w ao b off L.length L)(hno:ao=none->cap=0)(hmx:L.length<=8796093022208)(e0:Nat)(he:fe k n L=e0) :
  Calls prog 72 #[.int .i64 k,.int .u64 n,.slice ao L.length cap] w fun e w'=>Made w w' k n L e0 e:=by
 have hb:=Lc w.heap.size w;have HC:Hid (∀W,Calls prog 47 #[.int .i64 k] W fun e w'=>e= .returned (.int .i64 (chk k))∧W=w'):=fun W=>(QB W k).mono fun _ _ h=>⟨h.1,h.2.symm⟩
 by_cases hk:k<1∨32<k
 ·obtain rfl:e0=70:=by rw[<-he,fe,Lo hk]
  rw[Qmd hk] at HC;clear he hk hr hno hmx hn64
  go_enter func72,ntmps72
  go_wp2_with (go_at_call 47;with_reducible refine(HC.out _).mono ?_;rintro e w1 ⟨rfl,rfl⟩)
  go_ret2
  exact⟨hb,.inl ⟨by decide,rfl⟩⟩
 ·have k1:1<=k:=by omega
  have k2:k<=32:=by omega
  rw[Qme k1 k2] at HC
  by_cases hn:1099511627776<n
  ·obtain rfl:e0=30:=by rw[<-he,fe,Le hk,Lo hn]
   have hn':decide ((1099511627776:Int)<(n:Int))=true:=by simp;omega
   clear he hk hr hno hmx hn64 hn
   go_enter func72,ntmps72
   go_wp2_with (go_at_call 47;with_reducible refine(HC.out _).mono ?_;rintro e w1 ⟨rfl,rfl⟩)
   go_ret2
   exact⟨hb,.inl ⟨by decide,rfl⟩⟩
  ·have hn':decide ((1099511627776:Int)<(n:Int))=false:=by simp;omega
   obtain⟨o,ho⟩:∃o,Qy 64 n=o:=⟨_,rfl⟩;have HO:Hid (∀W,Calls prog 120 #[.int .u64 n] W fun e w'=>e= .returned (.int .i64 o)∧W=w'):=fun W=>by
    have:=Pl.JE n W (by omega)
    rw[ho] at this;exact this.mono fun _ _ h=>⟨h.1,h.2.symm⟩
   by_cases hl:L.length=o
   ·subst hl;have HE:Hid ((¬(∀s∈L,(s.size:Int)=k)->e0=90)∧((∀s∈L,(s.size:Int)=k)->e0=0)):=by
     refine⟨fun h=> ?_,fun h=> ?_⟩
     ·rw[<-he,fe,Le hk,Le hn,Lo (.inr h)]
     ·rw[<-he,fe,Le hk,Le hn,Le];rintro(h1|h1)
      ·exact h1 ho.symm
      ·exact h1 h
    have HG:Hid (n<=1099511627776∧L.length=(hts n).length∧L.length<=1000):=by
     have h1:=Qeq (n:=n) (by omega)
     have h2:=Qjx n;exact⟨by omega,by omega,by omega⟩
    have HCl:Hid (Calls prog 121 #[.slice ao L.length cap] w fun e w'=> ∃v,e= .returned v∧Qg w' w.heap.size v L∧Below w.heap.size w w'):=Qch w ao b off cap L hr hno hmx
    have HR:Hid (RdS w ao b off L.length L):=hr;have HB:=Qc hb;have HK:=Qc (Lx k1 k2);clear he hk hno hmx hn64 hn ho hr hb k1 k2
    go_enter func72,ntmps72
    go_wp2_with (first
     | (go_at_call 47;with_reducible refine(HC.out _).mono ?_;rintro e w1 ⟨rfl,rfl⟩)
     | (go_at_call 120;with_reducible refine(HO.out _).mono ?_;rintro e w1 ⟨rfl,rfl⟩))
    go_loopg [25] L.length (fun g i wr=> ∃j:Nat,j<=L.length∧g=L.length-j∧i= .int .i64 j∧Hid (∀s∈L.take j,(s.size:Int)=k)∧w=wr)
    case atStart=>go_light;exact⟨0,Lm _,rfl,rfl,(fun s hs=>by cases hs),rfl⟩
    case round=>
     obtain⟨j,hj,rfl,rfl,HT,rfl⟩:=hrel
     by_cases hlt:j<L.length
     ·have hz:(j:Int)<(L.length:Int):=by omega
      have hz9:(j:Int)<1000:=by have:=HG.out.2.2;omega
      have hz0:(0:Int)<=(j:Int):=Lf _;obtain rfl:=HR.out.ptr (by omega)
      have cj:=HR.out.at hlt;obtain⟨x,hx⟩:∃x,L.getD j ByteArray.empty=x:=⟨_,rfl⟩;have hxm:=QI hlt;have hx2:L.take (j+1)=L.take j++[x]:=by
       rw[Ix,<-hx,La,Ld hlt];rfl
      rw[hx] at cj hxm
      by_cases hs:(x.size:Int)=k
      ·have HT2:Hid (∀s∈L.take (j+1),(s.size:Int)=k):=fun s hs2=>by
        rw[hx2] at hs2
        rcases List.mem_append.1 hs2 with h|h
        ·exact HT.out s h
        ·simp at h;rw[h];exact hs
       subst hs;clear hx hxm hx2 HT;go_wp2
       go_roundg (L.length-(j+1))
       case rel=>go_light;exact⟨j+1,by omega,rfl,by go_num,HT2,rfl⟩
       case measure=>go_light;omega
      ·have hE:e0=90:=HE.out.1 fun h=>hs (h x hxm)
       have HE2:=Qc hE;clear hE hx hxm hx2 HT;go_wp2
       go_ret2
       refine⟨HB.out,.inl ?_⟩
       rw[HE2.out];exact⟨by decide,rfl⟩
     ·obtain rfl:j=L.length:=by omega
      have hz:¬((L.length:Int)<(L.length:Int)):=by omega
      have HT2:Hid (∀s∈L,(s.size:Int)=k):=by have:=HT.out;rwa [NA] at this
      clear HT
      go_wp2_with (go_at_call 121;with_reducible refine HCl.out.mono ?_;rintro e w1 ⟨v,rfl,hv,hbv⟩;obtain⟨ao2,cap2,rfl⟩:=Qs hv)
      go_ret2
      have hE:e0=0:=HE.out.2 HT2.out;have hsz:=hbv.size;refine⟨bal hbv _,.inr ⟨hE,_,_,rfl,⟨Lr w1 _,QN (Q4 hv _) (Lm _),HK.out.1,HK.out.2,HG.out.1,HG.out.2.1,fun s hs=> ?_⟩,hsz,fun g hg=>(LX hv g hg).1⟩⟩
      have h1:=HT2.out s hs;have h2:=Ut HK.out.1 HK.out.2;omega
   ·obtain rfl:e0=90:=by rw[<-he,fe,Le hk,Le hn,Lo (.inl (by rw[ho];exact hl))]
    have hl':¬((L.length:Int)=(o:Int)):=by omega
    clear he hk hr hno hmx hn64 hn hl ho
    go_enter func72,ntmps72
    go_wp2_with (first
     | (go_at_call 47;with_reducible refine(HC.out _).mono ?_;rintro e w1 ⟨rfl,rfl⟩)
     | (go_at_call 120;with_reducible refine(HO.out _).mono ?_;rintro e w1 ⟨rfl,rfl⟩))
    go_ret2
    exact⟨hb,.inl ⟨by decide,rfl⟩⟩
theorem Made.no{w w':World}{k:Int}{n:Nat}{L:LB}{e0:Nat}{e:Ending}(h:Made w w' k n L e0 e)(h0:e0≠0):e= .returned (.tuple #[.pointer none,.int .i64 e0])∧Below w.heap.size w w':=by
 obtain⟨hb,⟨_,h2⟩|⟨h1,_⟩⟩:=h
 ·exact⟨h2,hb⟩
 ·exact absurd h1 h0
theorem Made.ok{w w':World}{k:Int}{n:Nat}{L:LB}{e:Ending}(h:Made w w' k n L 0 e):∃p v,e= .returned (.tuple #[Zv p,.int .i64 0])∧Rg w' p v k n L∧w.heap.size<=p∧(∀g,v.ownBlock=some g->w.heap.size<=g)∧Below w.heap.size w w':=by
 obtain⟨hb,⟨h1,_⟩|⟨_,p,v,h2,h3,h4,h5⟩⟩:=h
 ·exact absurd rfl h1
 ·exact⟨p,v,h2,h3,h4,h5,hb⟩
theorem QjI(w:World)(k:Int)(e0:Nat)(he:fe k 0 []=e0):Calls prog 37 #[.int .i64 k] w fun e w'=>Made w w' k 0 [] e0 e:=by
 have HF:Hid (Calls prog 72 #[.int .i64 k,.int .u64 0,.slice none 0 0] w fun e w'=>Made w w' k 0 [] e0 e) :=
  Qen w k 0 (by decide) none 0 0 0 [] ⟨rfl,fun h=>absurd h (NB 0),(fun j v h=>by cases h),fun s hs=>by cases hs⟩ (fun _=>rfl) (Lm _) e0 he
 clear he
 by_cases h0:e0=0
 ·subst h0
  go_enter func37,ntmps37
  go_wp2_with (go_at_call 72;with_reducible refine HF.out.mono ?_;intro e w1 hM;obtain⟨p,v,rfl,h2,h3,h4,hb⟩:=hM.ok;clear hM)
  go_ret2
  exact⟨hb,.inr ⟨rfl,p,v,rfl,h2,h3,h4⟩⟩
 ·have H0:=Qc h0;clear h0
  go_enter func37,ntmps37
  go_wp2_with (go_at_call 72;with_reducible refine HF.out.mono ?_;intro e w1 hM;obtain⟨rfl,hb⟩:=hM.no H0.out;clear hM)
  go_ret2
  exact⟨hb,.inl ⟨H0.out,rfl⟩⟩
theorem Did.none{w w':World}{p:Nat}{v:Value}{k:Int}{n:Nat}{P:LB}(hr:Rg w p v k n P)(hb:Below w.heap.size w w'):Did w w' p v k n P (.slice none 0 0) [] v :=
 ⟨hr.next hb (Lb _),Uc _ _,Ch.of hb hr.lt,.inl rfl,fun g h _=>by cases h⟩
theorem QgC{k:Int}{n:Nat}{h:Int}{s:BA}(h1:(s.size:Int)=k)(h2:0<=h)(h3:h<=40)(h4:n%2^h.toNat=0)(h5:n+2^h.toNat<=1099511627776):er k n h s=0:=by
 rw[er,Le (by omega),Le (by omega),Le (by omega)]
theorem Oo(w:World)(ht:Tb w)(p:Nat)(v:Value)(k:Int)(n:Nat)(P:LB)(hr:Rg w p v k n P)(s:BA)(e0 n':Nat)(P' A:LB)(he:Hid (er k n 0 s=e0∧nxN k n 0 s=n'∧nxP k n P 0 s=P'∧an k n P 0 s=A)) :
  Calls prog 125 #[Zv p,.string s] w fun e w'=> ∃vm v',e= .returned (.tuple #[vm,.int .i64 e0])∧Did w w' p v k n' P' vm A v':=by
 obtain⟨q1,q2,q3,q4⟩:=he.out;have c0:=hr.c0;have c1:=hr.c1
 by_cases hs:(s.size:Int)=k
 ·by_cases hn:n<1099511627776
  ·have e00:er k n 0 s=0:=QgC hs (by decide) (by decide) (by show n%1=0;omega) (by show n+1<=_;omega)
   rw[e00] at q1;rw[nxN,Lo e00] at q2;rw[nxP,Lo e00] at q3;rw[an,Lo e00] at q4;have hcl:=Ut hr.k1 hr.k2;have HL:Hid (Calls prog 192 #[Zv p,.int .i64 0,.string s] w fun e w'=> ∃vm v',e= .returned vm∧Did w w' p v k n' P' vm A v') :=
    Qmg w ht p v k n P hr 0 (by decide) s (by omega) (by show n%1=0;omega) n' q2 (by rw[<-q2];show n+1<=_;omega) A P' (by show mk (clk k) n P 0 s=(A,P');rw[<-q3,<-q4];rfl)
   have hn':decide ((1099511627776:Int)<=(n:Int))=false:=by simp;omega
   subst q1;subst hs;clear he e00 q2 q3 q4 hcl ht hr hn
   go_enter func125,ntmps125
   go_wp2_with (go_at_call 192;with_reducible refine HL.out.mono ?_;rintro e w1 ⟨vm,v',rfl,hd⟩)
   go_ret2
   exact⟨vm,v',rfl,hd⟩
  ·have hn40:=hr.hn;have e00:er k n 0 s=30:=by rw[er,Le (by omega),Le (by rw[show(0:Int).toNat=0 from rfl,ND];omega),Lo (by rw[show(0:Int).toNat=0 from rfl,ND];omega)]
   rw[e00] at q1;rw[nxN,Le (by rw[e00];decide)] at q2
   rw[nxP,Le (by rw[e00];decide)] at q3
   rw[an,Le (by rw[e00];decide)] at q4
   have hn':decide ((1099511627776:Int)<=(n:Int))=true:=by simp;omega
   have HR:=Qc hr;subst q1 q2 q3 q4;subst hs;clear he e00 ht hr hn hn40
   go_enter func125,ntmps125;go_wp2
   go_ret2
   exact⟨_,v,rfl,Did.none HR.out (Lc _ _)⟩
 ·have e00:er k n 0 s=90:=by rw[er,Lo (by omega)]
  rw[e00] at q1;rw[nxN,Le (by rw[e00];decide)] at q2
  rw[nxP,Le (by rw[e00];decide)] at q3
  rw[an,Le (by rw[e00];decide)] at q4
  have HR:=Qc hr;subst q1 q2 q3 q4;clear he e00 ht hr
  go_enter func125,ntmps125;go_wp2
  go_ret2
  exact⟨_,v,rfl,Did.none HR.out (Lc _ _)⟩
end Kp
namespace Kp
theorem QfA(L M:LB)(n t:Nat)(hn:n<=L.length)(h:t<n):(L.take n).getD t ByteArray.empty=(L++M).getD t ByteArray.empty:=by
 rw[La,La,Ig h,LG (by omega)]
def gN(c:Nat)(L:LB)(h x:Nat):BA:=nd c L h (x-1)
theorem Qmu(c:Nat)(L:LB)(m h i:Nat)(hm:m<=L.length)(hi:(i+1)*2^h<=m):nd c (L.take m) h i=nd c L h i:=by
 refine JD h i i fun t ht=> ?_
 have hlt:i*2^h+t<m:=by rw[L4] at hi;omega
 have:=QfA L [] m (i*2^h+t) hm hlt
 rwa [L7] at this
theorem QfT(c:Nat)(L:LB)(m:Nat)(hm:m<=L.length):∀F,pks c (L.take m) F=ol (gN c L) F m
 | 0=>rfl
 | F+1=>by
  have hl:(L.take m).length=m:=by rw[Lv];omega
  rw[pks,ol,QfT c L m hm F,hl]
  by_cases e:m/2^F%2=1
  ·rw[Lo e,Lo e,gN,Qmu c L m F _ hm];have h1:1<=m/2^F:=by generalize m/2^F=x at *;omega
   rw[show m/2^F-1+1=m/2^F by omega]
   exact I7 _ _
  ·rw[Le e,Le e]
theorem QgL(c:Nat)(L:LB)(h t:Nat)(ho:t%2=1):dg c (Qz (gN c L h t) (gN c L h (t+1)))=gN c L (h+1) (t/2+1):=by
 obtain⟨q,rfl⟩:∃q,t=2*q+1:=⟨t/2,by omega⟩
 rw[gN,gN,gN,show(2*q+1)/2+1-1=q by omega,nd,show 2*q+1-1=2*q by omega,show 2*q+1+1-1=2*q+1 by omega]
theorem Qmm(c:Nat)(L:LB)(h t m:Nat)(hm:m=2^h*t)(hh:h<=40)(hl:m+2^h<=1099511627776) :
  mk c m (ol (gN c L) 41 m) h (nd c L h t)=((List.range (Pl.trl (40-h) t+1)).map (fun j=>nd c L (h+j) (t/2^j)),ol (gN c L) 41 (m+2^h)):=by
 have ht:t<2^(40-h):=by
  have h1:2^h*(t+1)<=2^h*2^(40-h):=by
   rw[<-If,show h+(40-h)=40 by omega,N9,Nr,<-hm];exact hl
  exact Nat.le_of_mul_le_mul_left h1 (LM h)
 have e0:nd c L h t=gN c L h (t+1):=by rw[gN,Ny]
 have a:=Qhs c 41 (gN c L) (m+2^h) (fun h t _ ho=>QgL c L h t ho) (40-h) h t (by omega) ht (by omega)
 have b:=QiO c 41 (gN c L) (m+2^h) (fun h t _ ho=>QgL c L h t ho) (40-h) h t (by omega) ht (by omega)
 rw[<-hm] at a b;rw[mk,show m/2^h=t by rw[hm];exact(Ja h t).2,e0]
 refine Prod.ext ?_ b
 rw[a];refine NL fun j _=> ?_
 rw[gN,Ny]
theorem QlS{K:Int}(k1:1<=K)(k2:K<=32)(M:LB)(h t m:Nat)(hm:m=2^h*t)(hh:h<=40)(hl:m+2^h<=1099511627776):er K m (h:Int) (nd (clk K) M h t)=0:=by
 have hc:=Ut k1 k2;refine QgC (by rw[QG (Qn K)];exact hc) (by omega) (by omega) ?_ ?_
 ·rw[Ni,hm];exact(Ja h t).1
 ·rw[Ni];exact hl
theorem Qi4{K:Int}(k1:1<=K)(k2:K<=32)(M:LB)(h t m:Nat)(hm:m=2^h*t)(hh:h<=40)(hl:m+2^h<=1099511627776) :
  Hid (er K m (h:Int) (nd (clk K) M h t)=0∧nxN K m (h:Int) (nd (clk K) M h t)=m+2^h∧nxP K m (ol (gN (clk K) M) 41 m) (h:Int) (nd (clk K) M h t)=ol (gN (clk K) M) 41 (m+2^h) ∧
   an K m (ol (gN (clk K) M) 41 m) (h:Int) (nd (clk K) M h t)=(List.range (Pl.trl (40-h) t+1)).map (fun j=>nd (clk K) M (h+j) (t/2^j))):=by
 have e:=QlS k1 k2 M h t m hm hh hl;have q:=Qmm (clk K) M h t m hm hh hl;refine⟨e,?_,?_,?_⟩
 ·rw[nxN,Lo e,Ni]
 ·rw[nxP,Lo e,Ni,q]
 ·rw[an,Lo e,Ni,q]
end Kp
def mdL(c:Nat)(L:LB)(x:BA):LB:=(List.range (Pl.trl 40 L.length+1)).map fun j=>nd c (L++[x]) j (L.length/2^j)
def pkL(c:Nat)(L:LB):LB:=ol (Kp.gN c L) 41 L.length
theorem Qkq(c:Nat)(L:LB)(x:BA):ol (Kp.gN c (L++[x])) 41 L.length=pkL c L:=by
 have e:=Kp.QfT c (L++[x]) L.length (by simp) 41
 have e2:=Kp.QfT c L L.length (Lb _) 41;rw[Wx] at e;rw[NA] at e2;rw[<-e,e2];rfl
theorem Qe7:∀(f n:Nat),n<2^f->n%2^Pl.trl f n=2^Pl.trl f n-1 ∧ ¬n/2^Pl.trl f n%2=1
 | 0,n,h=>by
  obtain rfl:n=0:=by simpa using h
  exact⟨rfl,by decide⟩
 | f+1,n,h=>by
  by_cases ho:n%2=1
  ·rw[Pl.Qe8 f n ho];obtain⟨i1,i2⟩:=Qe7 f (n/2) (by rw[LO] at h;omega)
   have hp:=LM (Pl.trl f (n/2));rw[LO];refine⟨?_,?_⟩
   ·rw[L3,Ik,ho,i1];omega
   ·rw[L3,<-LY];exact i2
  ·rw[Pl.Qe6 f n ho];exact⟨by simp[Nat.mod_one],by simpa using ho⟩
theorem QgU(c:Nat)(L:LB)(x:BA):(mdL c L x).length=Pl.trl 40 L.length+1:=by simp[mdL]
theorem QjT{c:Nat}(hc:c<=32)(L:LB)(x:BA):∀d∈mdL c L x,d.size=c:=fun d hd=>by
 obtain⟨j,_,rfl⟩:=List.mem_map.1 hd;exact QG hc ..
end Go.Proofs.YtoblgjledefdbabGreatDoor
