/- Own work. -/
import Derived.Test.YtoblgjledefdbaaGreatDoorQc04
set_option maxRecDepth 100000
set_option maxHeartbeats 1000000
namespace Go.Proofs.YtoblgjledefdbaaGreatDoor
open Go.RowKit
attribute [local go_sem ↓] Go.wp_at_zero Go.wp_at_succ
open Go.Proofs.Tryz
theorem Us(x:Int)(h0:0<=x)(h1:x<18446744073709551616):IntKind.u64.wrap x=x:=by
 simp[IntKind.wrap,IntKind.signed,IntKind.bits];omega
theorem RdS.take{w:World}{ao:OA}{b off len:Nat}{ss:LB}(h:RdS w ao b off len ss){n:Nat}(hn:n<=len):RdS w ao b off n (ss.take n):=by
 refine⟨by rw[LA,h.hl];omega,fun h0=>h.ptr (by omega),fun j v hv=> ?_,fun s hs=>h.sz s (Nm hs)⟩
 rw[NN,Nb] at hv
 split at hv
 ·exact h.rng j v hv
 ·cases hv
theorem small{c:Nat}(hc:c<=32){L:LB}{h:Nat} : ∀s∈pks c L h,s.size<=140737488351232:=fun s hs=>by rw[QbD hc L h s hs];omega
theorem QiY{k:Int}(h1:1<=k)(h2:k<=32):chk k=0:=by rw[chk,Ld (by omega)]
structure Rt(w:World)(g n:Nat)(d:BA):Prop where
 c0:w.cell? ⟨g,0,none⟩=some (.int .u64 n)
 c1:w.cell? ⟨g,1,none⟩=some (.string d)
 f0:w.frozen? ⟨g,0,none⟩=false
 f1:w.frozen? ⟨g,1,none⟩=false
theorem Rt.below{w w':World}{B g n:Nat}{d:BA}(t:Rt w g n d)(hb:Below B w w')(hg:g<B):Rt w' g n d :=
 ⟨(hb.cell (p:=⟨g,0,none⟩) hg).trans t.c0,(hb.cell (p:=⟨g,1,none⟩) hg).trans t.c1,(hb.frozen (p:=⟨g,0,none⟩) hg).trans t.f0,(hb.frozen (p:=⟨g,1,none⟩) hg).trans t.f1⟩
theorem QfX(w:World)(n:Nat)(d:BA)(t:Nat):Rt (w.alloc (.cells #[.int .u64 n,.string d] t)) w.heap.size n d:=by
 refine⟨?_,?_,?_,?_⟩ <;> simp
def rtD(c:Nat)(L:LB)(n:Nat):BA:=dg c (YA n (QU c (pks c (L.take n) 41)))
theorem QfC(w:World)(n:Nat)(hn:n<=8796093022208):(Instr.makeSlice 22 (.int .i64 0) (.int .i64 n)).run prog w= .ok (.slice (Zp w.heap.size) 0 n) (w.alloc (.cells (madeCells #[.string ByteArray.empty] n) 9)):=by
 obtain⟨i0,hi,hz0,hz1,hz2⟩:=info_parts Tryz.infoS;have hr:=run_make (P:=prog) w 22 9 i0 _ underlying22 hi hz0 .i64 .i64 0 n (by omega) (by omega) (by rw[hz2];omega) (by omega)
 simp only[Int.toNat_natCast,hz1,Nat.mul_one] at hr;exact hr
theorem QbA(w:World)(n:Nat)(hn:n<=8796093022208):Qg (w.alloc (.cells (madeCells #[.string ByteArray.empty] n) 9)) w.heap.size (.slice (Zp w.heap.size) 0 n) [] :=
 ⟨rfl,.inr ⟨w.heap.size,n,_,rfl,La _,Lt w _,Ln _,by unfold maxLen;omega,by rw[size_madeCells,Nj],rfl⟩⟩
structure RdB(w:World)(ao:OA)(g off n:Nat)(l:List (Int×Nat)):Prop where
 len:l.length=n
 addr:0<n->ao=some ⟨g,off,none⟩
 cell:∀j,j<n->w.cell? ⟨g,off+j*2,none⟩=some (.int .i64 (l.getD j (0,0)).1)∧w.cell? ⟨g,off+j*2+1,none⟩=some (.int .u64 ((l.getD j (0,0)).2:Nat))
 fit:∀b∈l,Fitb b.1 b.2
theorem RdB.below{w w':World}{ao:OA}{g off n:Nat}{l:List (Int×Nat)}(r:RdB w ao g off n l)(h:Below w.heap.size w w'):RdB w' ao g off n l :=
 ⟨r.len,r.addr,fun j hj=>⟨(h.cell (p:=⟨g,off+j*2,none⟩) (Lf w _ (r.cell j hj).1)).trans (r.cell j hj).1,(h.cell (p:=⟨g,off+j*2+1,none⟩) (Lf w _ (r.cell j hj).2)).trans (r.cell j hj).2⟩,r.fit⟩
theorem Jd{w:World}{base:Nat}{v:Value}{l:List (Int×Nat)}(h:Cv.Yb w base v l)(hf:∀b∈l,Fitb b.1 b.2):∃ao g n cap,v= .slice ao n cap∧RdB w ao g 0 n l∧n<=maxLen:=by
 have h0:=h;obtain⟨h1,h2⟩:=h
 rcases h2 with ⟨rfl,h2⟩|⟨g,cap,cur,rfl,hg,hh,hc1,hc2,hc3,hc4⟩
 ·exact⟨none,0,0,0,rfl,⟨h2,fun h=>absurd h (by omega),fun j hj=>absurd hj (by omega),hf⟩,Ln _⟩
 ·refine⟨Zp g,g,l.length,cap,rfl,⟨rfl,fun _=>rfl,fun j hj=> ?_,hf⟩,by omega⟩
  have hcl:=h0.cells (g:=g) rfl;obtain⟨⟨a,b⟩,hq⟩:∃q,l[j]=q:=⟨_,rfl⟩;have hget:l[j]? = some (a,b):=by rw[Ll hj,hq]
  obtain⟨e1,e2⟩:=Cv.QiQ l j a b hget;have f1:=hcl _ _ e1;have f2:=hcl _ _ e2;rw[Addr.add_mid,Lo,LU] at f1 f2;rw[Lc,hget,Lo];exact⟨f1,f2⟩
def dgs(c:Nat)(L:LB):List (Int×Nat)->Option LB
 | []=>some []
 | b::r=>(ff c L b.1 b.2).bind fun x=>(dgs c L r).map fun A=>x::A
theorem Qgs{c:Nat}{L:LB}{h:Int}{k:Nat}{x:BA}(hx:ff c L h k=some x):∀ {B:List (Int×Nat)} {A:LB},dgs c L B=some A->dgs c L (B++[(h,k)])=some (A++[x])
 | [],A,e=>by
  simp[dgs] at e;subst e;simp[dgs,hx]
 | b::r,A,e=>by
  rw[dgs] at e;obtain⟨y,hy,e⟩:=Option.bind_eq_some_iff.1 e;obtain⟨A',hA,rfl⟩:=Option.map_eq_some_iff.1 e;rw[N7,dgs,hy,Qgs hx hA]
  rfl
theorem Qd1{c:Nat}{L:LB}{b:Int×Nat}(hb:ff c L b.1 b.2=none):∀ {B:List (Int×Nat)},b∈B->dgs c L B=none
 | [],h=>by cases h
 | d::r,h=>by
  rw[dgs]
  rcases List.mem_cons.1 h with rfl|h
  ·rw[hb];rfl
  ·rw[Qd1 hb h]
   cases ff c L d.1 d.2 <;> rfl
theorem Ox{c:Nat}{L:LB} : ∀ {B:List (Nat×Nat)},(∀b∈B,(b.2+1)*2^b.1<=L.length)->dgs c L (Cv.zl B)=some (B.map fun b=>nd c L b.1 b.2)
 | [],_=>rfl
 | b::r,h=>by
  show dgs c L (((b.1:Int),b.2)::Cv.zl r)=_
  rw[dgs,Qfp c L b.1 b.2 (h b (by simp)),Ox (B:=r) (fun d hd=>h d (by simp[hd]))]
  rfl
theorem Ub(w:World)(m:Nat)(k:Int)(L:LB)(hF:Frs w m k L)(ao:OA)(g off cap:Nat)(B:List (Int×Nat))(hr:RdB w ao g off B.length B)(hmx:B.length<=8796093021952) :
  Calls prog 106 #[.pointer (some ⟨m+1,0,none⟩),.slice ao B.length cap] w fun e w'=>Below w.heap.size w w'∧((dgs (clk k) L B=none∧e= .returned (.tuple #[.slice none 0 0,.bool false]))∨(∃D,dgs (clk k) L B=some D ∧ ∃v,e= .returned (.tuple #[v,.bool true])∧Qg w' w.heap.size v D)):=by
 have HM:=QfC w B.length (by omega)
 have HF:Hid (∀W,Below w.heap.size w W->Frs W m k L∧RdB W ao g off B.length B):=fun W hb=>⟨hF.next hb (La _),hr.below hb⟩
 have HX:=Qd hmx;have HO:Hid (Qg (w.alloc (.cells (madeCells #[.string ByteArray.empty] B.length) 9)) w.heap.size (.slice (Zp w.heap.size) 0 B.length) []):=QbA w _ (by omega)
 have h63:(B.length:Int)<=9223372036854775807:=by omega
 clear hF hr hmx
 go_enter func106,ntmps106;go_wp2
 go_loopg [6,16] B.length (fun g v i wr=> ∃(j:Nat) (A:LB),j<=B.length∧g=B.length-j∧i= .int .i64 j∧A.length=j∧Hid (dgs (clk k) L (B.take j)=some A)∧Qg wr w.heap.size v A∧Below w.heap.size w wr)
 case atStart=>go_light;exact⟨0,[],Ln _,rfl,rfl,rfl,rfl,HO.out,bal (Lb _ _) _⟩
 case round=>
  clear HM HO;obtain⟨j,A,hj,rfl,rfl,hA,HE,ho,hb⟩:=hrel
  by_cases hlt:j<B.length
  ·have hz:(j:Int)<(B.length:Int):=by omega
   have hz0:(0:Int)<=(j:Int):=Lh _;obtain rfl:=(HF.out wr hb).2.addr (by omega)
   obtain⟨c0,c1⟩:=(HF.out wr hb).2.cell j hlt;obtain⟨⟨h,q⟩,hx⟩:∃x,B.getD j (0,0)=x:=⟨_,rfl⟩;rw[hx] at c0 c1;have hmem:(h,q)∈B:=by rw[<-hx,Lc,Ll hlt];exact LZ _
   have htk:B.take (j+1)=B.take j++[(h,q)]:=by
    rw[NW,<-hx,Lc,Ll hlt];rfl
   have hfit:=(HF.out wr hb).2.fit _ hmem
   cases hv:ff (clk k) L h q with
   | none=>
    have HD:Hid (∀W,Below w.heap.size w W->Calls prog 182 #[.pointer (some ⟨m+1,0,none⟩),.agg #[.int .i64 h,.int .u64 q]] W fun e w'=>e= .returned (.tuple #[.string ⟨#[]⟩,.bool false])∧Below W.heap.size W w'):=fun W hb=>
     Qaz W m k L (HF.out W hb).1 h q hfit ⟨#[]⟩ false (by show _∧_;rw[hv];exact⟨rfl,rfl⟩)
    have HN:Hid (dgs (clk k) L B=none):=Qd1 (b:=(h,q)) hv hmem;clear HE HF hx hmem htk hfit hv ho hlt hA
    go_wp2_with (go_at_call 182;with_reducible refine(HD.out _ (bal hb _)).mono ?_;rintro e w1 ⟨rfl,hb1⟩)
    go_ret2
    exact⟨Qa (bal hb _) hb1,.inl ⟨HN.out,rfl⟩⟩
   | some x=>
    have HD:Hid (∀W,Below w.heap.size w W->Calls prog 182 #[.pointer (some ⟨m+1,0,none⟩),.agg #[.int .i64 h,.int .u64 q]] W fun e w'=>e= .returned (.tuple #[.string x,.bool true])∧Below W.heap.size W w'):=fun W hb=>
     Qaz W m k L (HF.out W hb).1 h q hfit x true (by show _∧_;rw[hv];exact⟨rfl,rfl⟩)
    have HN:Hid (dgs (clk k) L (B.take (j+1))=some (A++[x])):=by rw[htk];exact Qgs hv HE.out
    have HZ:Hid (x.size<=9223372036854775807):=by show x.size<=_;rw[Qmc (Qs k) hv];have:=Qs k;omega
    have HO:=Qd ho;have HA:=Qd hA;clear HE HF hx hmem htk hfit hv ho hA
    go_wp2_with (first
     | (go_at_call 182;with_reducible refine(HD.out _ (bal hb _)).mono ?_;rintro e w1 ⟨rfl,hb1⟩)
     | (at_builtin;refine QY _ rfl _ _ rfl w.heap.size _ A rfl (Yf (Qx (Yf HO.out _) hb1 (La _)) _) (Zp w1.heap.size) w1.heap.size 0 1 [x] rfl (Uf w1 x HZ.out) (fun h=>by cases h) ?c1 ?c2 ?_))
    case c1=>have:=HX.out;have:=HA.out;simp;omega
    case c2=>have:=(Qa (bal hb _) hb1).size;simp;omega
    intro v2 w3 h3 hb3;have HY:Hid (Qg w3 w.heap.size v2 (A++[x])∧Below w.heap.size w w3):=⟨h3,(bal (Qa (bal hb _) hb1) _).trans hb3⟩;clear h3 hb3 hb1 hb;go_wp2
    go_roundg (B.length-(j+1))
    case rel=>go_light;exact⟨j+1,A++[x],by omega,rfl,by go_num,by have:=HA.out;simp;omega,HN,HY.out.1,HY.out.2⟩
    case measure=>go_light;omega
  ·obtain rfl:j=B.length:=by omega
   have hz:¬((B.length:Int)<(B.length:Int)):=by omega
   have HN:Hid (dgs (clk k) L B=some A):=by have:=HE.out;rwa [NK] at this
   clear HE hlt HF;go_wp2
   go_ret2
   exact⟨hb,.inr ⟨A,HN.out,_,rfl,ho⟩⟩
theorem Qki(n:Nat)(hn:n<=65536):Cv.Uv 0 n n=0∧Cv.covR 0 n n=Cv.cov 0 n:=by
 have h:Cv.Uv 0 n n=0:=by rw[Cv.Uv,Ld (by omega),Ld (by omega),Ld (by omega)]
 exact⟨h,by rw[Cv.covR,Lm h]⟩
theorem Qip{b:Nat×Nat}{n:Nat}(h:(b.2+1)*2^b.1<=n)(hn:n<=65536):Fitb (b.1:Int) b.2:=by
 have hp:=LP b.1;have h1:2^b.1<=(b.2+1)*2^b.1:=Ir _ (by omega)
 have h2:b.2+1<=(b.2+1)*2^b.1:=NL _ hp;have h3:b.1<2^b.1:=Nat.lt_two_pow_self;exact⟨⟨by omega,by omega⟩,by omega⟩
theorem Qjz(w:World)(m:Nat)(k:Int)(L:LB)(hF:Frs w m k L)(n:Nat)(hn:L.length<n) :
  Calls prog 57 #[.pointer (some ⟨m+1,0,none⟩),.int .u64 n] w fun e w'=>e= .returned (.tuple #[.agg #[.int .u64 0,.string ⟨#[]⟩],.int .i64 30])∧Below w.heap.size w w':=by
 have hb:=bal (Lb w.heap.size w) (.cells #[.int .u64 0,.string ⟨#[]⟩] 50);have c1:=hF.c1;have hlt:=hF.lt;have hn':(L.length:Int)<(n:Int):=by omega
 clear hF hn
 go_enter func57,ntmps57;go_wp2;refine LK (v := .tuple #[.agg #[.int .u64 0,.string ⟨#[]⟩],.int .i64 30]) (by simp[results,results57,go_sem]) rfl ⟨rfl,?_⟩
 exact hb
theorem QjA(w:World)(ht:Tb w)(m:Nat)(k:Int)(L:LB)(hF:Frs w m k L)(n:Nat)(hn:n<=L.length)(r:BA)(hq:Hid (rtD (clk k) L n=r)) :
  Calls prog 57 #[.pointer (some ⟨m+1,0,none⟩),.int .u64 n] w fun e w'=>e= .returned (.tuple #[.agg #[.int .u64 n,.string r],.int .i64 0])∧Below w.heap.size w w':=by
 have hL:=hF.hn;obtain⟨e1,e2⟩:=Qki n (by omega)
 obtain⟨p1,p2⟩:=Ug (clk k) L n hn (by omega)
 have hds:dgs (clk k) L (Cv.zl (Cv.cov 0 n))=some (pks (clk k) (L.take n) 41):=by rw[Ox (fun b hb=>Lu (p2 b hb) hn),p1]
 obtain⟨P,hP⟩:∃P,pks (clk k) (L.take n) 41=P:=⟨_,rfl⟩;rw[hP] at hds;have zP:∀s∈P,s.size<=140737488351232:=by rw[<-hP];exact small (Qs k)
 have lP:P.length<=41:=by rw[<-hP];exact Qdc _ _ _
 have HQ:dg (clk k) (YA n (QU (clk k) P))=r:=by rw[<-hP];exact hq.out
 have HM:Hid (∀W,Calls prog 105 #[.int .u64 n] W fun x w'=> ∃ao g cap,x= .returned (.tuple #[.slice ao (Cv.zl (Cv.cov 0 n)).length cap,.int .i64 0])∧RdB w' ao g 0 (Cv.zl (Cv.cov 0 n)).length (Cv.zl (Cv.cov 0 n))∧Below W.heap.size W w'):=fun W=>by
  have:=Cv.Yj n W;rw[e1,e2] at this;refine this.mono ?_
  rintro x w' ⟨v,rfl,ho,hb⟩;obtain⟨ao,g,n',cap,rfl,hr,_⟩:=Jd ho (fun b hb=>by
   obtain⟨b0,hb0,rfl⟩:=List.mem_map.1 hb;exact Qip (p2 b0 hb0) (by omega))
  obtain rfl:=hr.len;exact⟨ao,g,cap,rfl,hr,hb⟩
 have lC:(Cv.zl (Cv.cov 0 n)).length<=80:=by rw[Cv.Qy];exact Cv.U7 0 n (Ln _) (by omega)
 obtain⟨C,hC⟩:∃C,Cv.zl (Cv.cov 0 n)=C:=⟨_,rfl⟩;rw[hC] at HM hds lC;have HD:Hid (∀W ao g cap,Below w.heap.size w W->RdB W ao g 0 C.length C->Calls prog 106 #[.pointer (some ⟨m+1,0,none⟩),.slice ao C.length cap] W fun e w'=>Below W.heap.size W w' ∧ ∃ao' b' cap',e= .returned (.tuple #[.slice ao' P.length cap',.bool true])∧RdS w' ao' b' 0 P.length P):=fun W ao g cap hb hr=>by
  refine(Ub W m k L (hF.next hb (La _)) ao g 0 cap C hr (by omega)).mono ?_
  rintro e w' ⟨hb',⟨h1,_⟩|⟨D,h1,v,rfl,ho⟩⟩
  ·rw[hds] at h1;cases h1
  ·rw[hds] at h1;injection h1 with h1
   subst h1;obtain⟨ao',b',cap',rfl,hr',_⟩:=QH ho (fun s hs=>Lu (zP s hs) (by decide))
   exact⟨hb',ao',b',cap',rfl,hr'⟩
 have HRo:Hid (∀W,Below w.heap.size w W -> ∀ao' b' cap',RdS W ao' b' 0 P.length P->Calls prog 107 #[.int .i64 k,.int .u64 n,.slice ao' P.length cap'] W fun e w'=>e= .returned (.string r)∧Below W.heap.size W w'):=fun W hb ao' b' cap' hr'=>JA W (ht.next hb) k n ao' b' 0 P.length cap' P hr' zP (by omega) r HQ
 have HF:Hid (∀W,Below w.heap.size w W->W.cell? ⟨m+1,0,none⟩=some (.int .i64 k)):=fun W hb=>(hF.next hb (La _)).c0
 have c1:(w.alloc (.cells #[.int .u64 0,.string ⟨#[]⟩] 50)).cell? ⟨m+1,1,none⟩=some (.int .u64 L.length):=(hF.next (bal (Lb w.heap.size w) _) (La _)).c1;have hn':¬(L.length:Int)<(n:Int):=by omega
 have hb:=bal (Lb w.heap.size w) (.cells #[.int .u64 0,.string ⟨#[]⟩] 50);have HN:=QfX w 0 ⟨#[]⟩ 50;rw[show((0:Nat):Int)=0 from rfl] at HN
 have HN2:=Qd HN;have HZ:Hid (w.heap.size<(w.alloc (.cells #[.int .u64 0,.string ⟨#[]⟩] 50)).heap.size):=by show _<_;simp
 clear hq hP hds zP lP HQ hC lC e1 e2 p1 p2 hn hL ht hF HN
 go_enter func57,ntmps57
 go_wp2_with (first
  | (go_at_call 105;with_reducible refine(HM.out _).mono ?_;rintro e w1 ⟨ao,g,cap,rfl,hr1,hb1⟩)
  | (go_at_call 106;with_reducible refine(HD.out _ _ _ _ (Qa hb hb1) hr1).mono ?_;rintro e w2 ⟨hb2,ao',b',cap',rfl,hr2⟩;have y0:=HF.out _ (Qa (Qa hb hb1) hb2))
  | (go_at_call 107;with_reducible refine(HRo.out _ (Qa (Qa hb hb1) hb2) _ _ _ hr2).mono ?_;rintro e w3 ⟨rfl,hb3⟩;have hR:=((HN2.out.below hb1 HZ.out).below hb2 (Lv HZ.out hb1.size)).below hb3 (Lv HZ.out (Lu hb1.size hb2.size));have k0:=hR.c0;have k1:=hR.c1;have f0:=hR.f0;have f1:=hR.f1))
 have s0:(w3.setCell ⟨w.heap.size,0,none⟩ (.int .u64 n)).cell? ⟨w.heap.size,0,none⟩=some (.int .u64 n):=LX _ _ _ k0;have s1:((w3.setCell ⟨w.heap.size,0,none⟩ (.int .u64 n)).setCell ⟨w.heap.size,1,none⟩ (.string r)).cell? ⟨w.heap.size,1,none⟩=some (.string r) :=
  LX _ _ _ ((Lq _ _ _ _ (by simp)).trans k1)
 refine LK (v := .tuple #[.agg #[.int .u64 n,.string r],.int .i64 0]) (by simp[results,results57,go_sem,s0,s1]) rfl ⟨rfl,?_⟩
 exact((Qa (Qa (Qa hb hb1) hb2) hb3).setCell (p:=⟨w.heap.size,0,none⟩) (La _) _).setCell (p:=⟨w.heap.size,1,none⟩) (La _) _
theorem Qf7(x:Int)(h0:0<=x)(h1:x<18446744073709551616):IntKind.u64.wrap x=x:=by
 simp[IntKind.wrap,IntKind.signed,IntKind.bits];omega
theorem JW(n:Nat)(w:World)(hn:n<2^64)(t:Nat)(ht:tr 64 n=t) :
  Calls prog 253 #[.int .u64 n] w fun e w'=>e= .returned (.int .i64 t)∧w'=w:=by
 subst ht
 go_enter func253,ntmps253;go_wp2
 go_loopg [4] 64 (fun g i wr=> ∃k:Nat,k<=64∧g=64-k∧i= .int .i64 k∧k+tr (64-k) (n/2^k)=tr 64 n∧w=wr)
 case atStart=>go_light;exact⟨0,Ln _,rfl,rfl,by simp,rfl⟩
 case round=>
  obtain⟨k,hk,rfl,rfl,hs,rfl⟩:=hrel;have hk0:(0:Int)<=(k:Int):=Lh _
  by_cases hlt:k<64
  ·have hk8:(k:Int)<64:=by omega
   have HC:=Pl.YQ n k w hn hlt;have HS:=Qg6 k n hlt
   by_cases hb:n/2^k%2=1
   ·rw[Lm hb] at HS;rw[LV hb] at HC
    go_wp2_with (go_at_call 224;refine HC.mono ?_;rintro e w' ⟨rfl,rfl⟩)
    go_ret
    refine⟨?_,rfl⟩
    rw[<-hs,HS]
    rfl
   ·rw[Ld hb] at HS;rw[Lx hb] at HC
    go_wp2_with (go_at_call 224;refine HC.mono ?_;rintro e w' ⟨rfl,rfl⟩)
    go_roundg (64-(k+1))
    case rel=>go_light;exact⟨k+1,by omega,rfl,by go_num,by omega,rfl⟩
    case measure=>go_light;omega
  ·obtain rfl:k=64:=by omega
   clear hk hlt;go_wp2
   go_ret
   refine⟨?_,rfl⟩
   rw[<-hs]
   rfl
theorem Qda(w:World)(s:BA):Qg (w.alloc (.cells #[.string s] 9)) w.heap.size (.slice (Zp w.heap.size) 1 1) [s] :=
 ⟨rfl,.inr ⟨w.heap.size,1,#[.string s],rfl,La _,Lt w _,La _,by unfold maxLen;omega,rfl,rfl⟩⟩
theorem QO{w:World}{B B':Nat}{v:Value}{l:LB}(h:Qg w B v l)(hB:B'<=B):Qg w B' v l:=by
 obtain⟨h1,h2⟩:=h;refine⟨h1,?_⟩
 rcases h2 with h2|⟨g,cap,cur,hv,hg,h3⟩
 ·exact .inl h2
 ·exact .inr ⟨g,cap,cur,hv,by omega,h3⟩
structure Chf(m:Nat)(w w':World):Prop where
 below:Below m w w'
 block:∀q,q<w.heap.size->q≠m->q≠m+1->w'.heap[q]? = w.heap[q]?
theorem Chf.refl(m:Nat)(w:World):Chf m w w:=⟨Lb _ _,fun _ _ _ _=>rfl⟩
theorem Chf.of{m:Nat}{w w':World}(h:Below w.heap.size w w')(hm:m<w.heap.size):Chf m w w':=⟨h.mono (Ws hm),fun q hq _ _=>h.block q hq⟩
theorem Chf.trans{m:Nat}{w w1 w2:World}(h:Chf m w w1)(h2:Chf m w1 w2):Chf m w w2 :=
 ⟨h.below.trans h2.below,fun q hq x y=>(h2.block q (Lv hq h.below.size) x y).trans (h.block q hq x y)⟩
theorem Chf.size{m:Nat}{w w':World}(h:Chf m w w'):w.heap.size<=w'.heap.size:=h.below.size
theorem Chf.next{m:Nat}{w w1 w2:World}(h:Chf m w w1)(h2:Below w1.heap.size w1 w2)(hm:m<w.heap.size):Chf m w w2:=h.trans (Chf.of h2 (Lv hm h.size))
theorem Chf.set{m b:Nat}{w w':World}(h:Chf m w w')(i:Nat)(v:Value)(hb:b=m+1∨w.heap.size<=b)(hm:m<w.heap.size):Chf m w (w'.setCell ⟨b,i,none⟩ v):=by
 refine⟨h.below.setCell (p:=⟨b,i,none⟩) (by show m<=b;omega) v,fun q hq x y=> ?_⟩
 rw[<-h.block q hq x y];exact Below.heap_setCell _ _ _ _ (by show q≠b;omega)
theorem Chf.put{m:Nat}{w w':World}(h:Chf m w w')(o:Obj):Chf m w (ChangeMaps.setBlock w' m o):=by
 refine⟨⟨h.below.os,h.below.tape,h.below.output,?_,fun q hq=> ?_⟩,fun q hq x _=> ?_⟩
 ·simp[ChangeMaps.setBlock,h.below.size]
 ·rw[<-h.below.block q hq];simp[ChangeMaps.setBlock,show ¬m=q by omega]
 ·rw[<-h.block q hq x (by assumption)]
  simp[ChangeMaps.setBlock,show ¬m=q by omega]
theorem UY{m q:Nat}{w:World}(o:Obj)(h:q≠m):(ChangeMaps.setBlock w m o).heap[q]? = w.heap[q]? := by
 simp[ChangeMaps.setBlock,show ¬m=q by omega]
theorem QpM{w:World}{m g:Nat}{k x:Int}{L:LB}(h0:w.cell? ⟨g,0,none⟩=some (.int .u32 x))(hF:Frs w m k L):g≠m∧g≠m+1:=by
 constructor
 ·rintro rfl;obtain⟨es,c,hm,_⟩:=hF.mp;simp[World.cell?,hm] at h0
 ·rintro rfl;rw[hF.c0] at h0
  cases h0
theorem Tb.chf{w w':World}{m:Nat}{k:Int}{L:LB}(ht:Tb w)(hF:Frs w m k L)(hc:Chf m w w'):Tb w':=by
 have hlt:=QI ht.rs (QdS (by rw[J4];decide))
 obtain⟨x,h0⟩:∃x,w.cell? ⟨3,0,none⟩=some (.int .u32 x):=by
  have hx:0<RS.length:=by rw[J4];decide
  exact⟨RS[0],ht.rs 0 _ (by simp[cW,hx])⟩
 obtain⟨hne,hne2⟩:=QpM h0 hF;refine⟨fun j u hu=> ?_⟩
 rw[<-ht.rs j u hu];have:=hc.block _ hlt hne hne2;simp only[World.cell?,this]
namespace Kp
open Pl (Qv)
theorem QhF{l:Nat}{J J':Act->World->Prop}{Q:Exit->Act->World->Prop}(h:∀a w,J a w->J' a w):∀e a w,Exit.jump l J Q e a w->Exit.jump l J' Q e a w:=by
 intro e a w hq
 cases e with
 | goto l'=>exact⟨hq.1,h _ _ hq.2⟩
 | _=>exact hq
theorem QdI{P:Program}{a:Act}{w:World}{Q:Exit->Act->World->Prop}{c X:Code}(l:Nat)(J:Act->World->Prop)(μ:Act->World->Nat)(hf:findLabel c l=some (Code.skip.seq X))
  (pass:∀a w,J a w->X.wp P (Exit.jump l (fun a' w'=>J a' w'∧μ a' w'<μ a w) Q) a w)
  (first:(∀a w,J a w->X.wp P (Exit.jump l J Q) a w)->c.wp P (Exit.jump l J Q) a w):(Code.scope c).wp P Q a w :=
 wp_scope_jumps l J μ hf (first fun a w h=>wp_mono (pass a w h) (QhF fun _ _ h=>h.1)) fun a w h=>wp_seq (wp_skip (pass a w h))
def slen:Value->Nat
 | .slice _ n _=>n
 | _=>0
def Qpk(v u:Value):Prop := ∀g,v.ownBlock=some g->u.ownBlock=some g->False
structure Did(w w':World)(p:Nat)(v:Value)(k:Int)(n':Nat)(P':LB)(vm:Value)(M:LB)(v':Value):Prop where
 rg:Rg w' p v' k n' P'
 own:Qg w' w.heap.size vm M
 ch:Ch p w w'
 new:v'=v ∨ ∀g,v'.ownBlock=some g->w.heap.size<=g
 apart:Qpk vm v'
theorem Y0{w:World}{B p i:Nat}{v x:Value}{l:LB}(h:Qg w B v l)(hp:p<B):Qg (w.setCell ⟨p,i,none⟩ x) B v l:=by
 obtain⟨h1,h2⟩:=h;refine⟨h1,?_⟩
 rcases h2 with h2|⟨g,cap,cur,rfl,hg,hh,r⟩
 ·exact .inl h2
 ·exact .inr ⟨g,cap,cur,rfl,hg,by rw[<-hh];exact Below.heap_setCell _ _ _ _ (by show g≠p;omega),r⟩
structure At(w wr:World)(c h t f left:Nat)(d:BA)(A0 P' M Q:LB)(vm:Value)(ao:OA)(b len cap:Nat):Prop where
 hlen:P'.length=len
 hleft:left=2^h*t
 ht:t<2^f
 hf:h+f=40
 hd:d.size=c
 hP:∀s∈P',s.size=c
 hl:P'.length=(ol (fun h _=>h) 41 left).length
 hA:A0.length<=h
 hM:A0++(Yk c f t P' d).1=M
 hQ:(Yk c f t P' d).2=Q
 own:Qg wr w.heap.size vm (A0++[d])
 rd:RdS w ao b 0 len P'
 cap:len<=cap
 below:Below w.heap.size w wr
theorem At.next{w wr W:World}{c h t f left:Nat}{d:BA}{A0 P' M Q:LB}{vm:Value}{ao:OA}{b len cap:Nat}(s:At w wr c h t f left d A0 P' M Q vm ao b len cap)(hb:Below wr.heap.size wr W):At w W c h t f left d A0 P' M Q vm ao b len cap :=
 ⟨s.hlen,s.hleft,s.ht,s.hf,s.hd,s.hP,s.hl,s.hA,s.hM,s.hQ,Qx s.own hb (La _),s.rd,s.cap,Qa s.below hb⟩
theorem At.lt{w wr:World}{c h t f left:Nat}{d:BA}{A0 P' M Q:LB}{vm:Value}{ao:OA}{b len cap:Nat}(s:At w wr c h t f left d A0 P' M Q vm ao b len cap):left<1099511627776:=by
 rw[s.hleft,show 1099511627776=2^(h+f) by rw[s.hf],Im]
 exact Nat.mul_lt_mul_of_pos_left s.ht (LP h)
theorem At.pop{w wr W:World}{c h t f left:Nat}{d d':BA}{A0 P' M Q:LB}{vm vm':Value}{ao:OA}{b m cap:Nat}(hc:c<=32)(s:At w wr c h t f left d A0 P' M Q vm ao b (m+1) cap)(ho:t%2=1)(hd:dg c (Qz (P'.getD m ByteArray.empty) d)=d')(hb:Below w.heap.size w W)(ho':Qg W w.heap.size vm' ((A0++[d])++[d'])) :
  ∃f',At w W c (h+1) (t/2) f' (left-2^h) d' (A0++[d]) (P'.take m) M Q vm' ao b m cap:=by
 have hf:=s.hf;have hlt:=s.ht;have hl:=s.hl;have hlen:=s.hlen;have hcap:=s.cap;have hA:=s.hA;have hrd:=s.rd
 cases f with
 | zero=>simp at hlt;omega
 | succ f=>
  have hM:=s.hM;have hQ:=s.hQ;have e:P'.length-1=m:=by omega
  rw[UJ ho (d':=d') (by rw[e];exact hd),e] at hM hQ
  rw[s.hleft] at hl ⊢;rw[Qbw _ (by omega) ho,Le,LR] at hl
  rw[LJ] at hlt;refine⟨f,⟨by rw[LA];omega,(Uq ho).1,by omega,by omega,by rw[<-hd];exact Ys hc _,fun s' hs=>s.hP s' (Nm hs),by rw[(Uq ho).1,LA];omega,by simp;omega,by rw[<-hM];simp,hQ,ho',?_,by omega,hb⟩⟩
  refine⟨by rw[LA];omega,fun h0=>hrd.ptr (by omega),fun j v hv=> ?_,fun s hs=>hrd.sz s (Nm hs)⟩
  rw[NN,Nb] at hv
  split at hv
  ·exact hrd.rng j v hv
  ·cases hv
def LayJ(w:World)(p gr c:Nat)(M Q:LB)(a':Act)(w':World):Prop := ∃(h t f left:Nat) (d:BA) (A0 P':LB) (vm:Value) (ao:OA) (b len cap:Nat) (u11 u12 u13 u14 u15 u16 u17 u18 u19 u20 u21 u22 u23 u24 u25 u26 u27 u28 u29 u30 u31 u32 u33 u34 u35 u36 u37 u38 u39 u40 u41 u42 u43 u44 u45 u46 u47 u48 u49 u50 u51 u52 u53 u54 u55 u56 u57 u58:Value),
  a' = { tmps:=#[Pq p,.int .i64 h,.string d,undef,undef,undef,.slice none 0 0,vm,.int .u64 gr,.slice ao len cap,.int .u64 left,u11,u12,u13,u14,u15,u16,u17,u18,u19,u20,u21,u22,u23,u24,u25,u26,u27,u28,u29,u30,u31,u32,u33,u34,u35,u36,u37,u38,u39,u40,u41,u42,u43,u44,u45,u46,u47,u48,u49,u50,u51,u52,u53,u54,u55,u56,u57,u58,undef,undef,undef,undef,undef,undef,undef,undef,undef,undef,undef,undef,undef],defers:=[] } ∧
  At w w' c h t f left d A0 P' M Q vm ao b len cap
def muL(a':Act)(_:World):Nat:=slen (a'.tmps.getD 9 undef)
theorem Qmu(w:World)(ht:Tb w)(p:Nat)(v:Value)(k:Int)(n:Nat)(P:LB)(hr:Rg w p v k n P)(h:Nat)(hh:h<=40)(d:BA)(hd:d.size=clk k)(h0:n%2^h=0)(gr:Nat)(hgr0:n+2^h=gr)(h1:gr<=1099511627776)(M Q:LB)(hM:Hid (mk (clk k) n P h d=(M,Q))) :
  Calls prog 251 #[Pq p,.int .i64 h,.string d] w fun e w'=> ∃vm v',e= .returned vm∧Did w w' p v k gr Q vm M v':=by
 obtain⟨ao,b,cap,hv,hrd,hcap,hno⟩:=hr.rd;obtain⟨q,hq⟩:∃q,2^h=q:=⟨_,rfl⟩;have hgr:n+q=gr:=by rw[<-hq];exact hgr0
 have HI:Hid (∀W,Calls prog 331 #[.int .i64 h] W fun e w'=>e= .returned (.int .u64 q)∧w'=W):=fun W=>Qb8 h W hh q hq
 have hg1:IntKind.u64.wrap ((n:Int)+(q:Int))=(gr:Int):=by rw[Qf7 _ (by omega) (by omega)];omega
 have HRg:Hid (∀W,Below w.heap.size w W->Rg W p v k n P):=fun W hb=>hr.next hb (La _)
 have HTb:Hid (∀W,Below w.heap.size w W->Tb W):=fun W hb=>ht.next hb
 have c1:=fun o=>(HRg.out _ (bal (Lb _ _) o)).c1
 have c2:=fun o=>(HRg.out _ (bal (Lb _ _) o)).c2
 rw[hv] at c2;have HS:Hid (At w (w.alloc (.cells #[.string d] 9)) (clk k) h (n/2^h) (40-h) n d [] P M Q (.slice (Zp w.heap.size) 1 1) ao b P.length cap):=by
  have hn:=hr.hn;have hdm:=Ia n (2^h);refine⟨rfl,by omega,?_,by omega,hd,hr.hs,hr.hl,Ln _,by rw[Ny];exact LW Prod.fst hM.out,LW Prod.snd hM.out,Qda w d,hrd,hcap,bal (Lb _ _) _⟩
  rw[IX (LP h),<-Im,show 40-h+h=40 by omega]
  have:=LP h;omega
 have HN:Hid (n<=1099511627776∧gr<=1099511627776∧Q.length=(hts gr).length∧(∀s∈Q,s.size=clk k)∧1<=k∧k<=32):=by
  have eQ:(Yk (clk k) (40-h) (n/2^h) P d).2=Q:=LW Prod.snd hM.out;refine⟨hr.hn,h1,?_,?_,hr.k1,hr.k2⟩
  ·rw[<-eQ,Qhi (clk k) 41 (40-h) h (n/2^h) P d (by omega) HS.out.ht (by rw[<-HS.out.hleft];exact hr.hl),<-HS.out.hleft,hgr0];rfl
  ·rw[<-eQ];exact(Qfg (Qs k) _ _ _ _ hr.hs hd).2
 have HP0:Hid (p<w.heap.size):=hr.lt;have HV:=Qd hv;clear hM hgr hgr0 hq h1 h0 hh ht hr hrd hcap hno hd
 go_enter func251,ntmps251;go_wp2;refine QdI 0 (LayJ w p gr (clk k) M Q) muL rfl ?pass ?first
 case first=>
  intro HP;have HP2:=Qd HP;clear HP;go_wp2
  go_quiet ((go_at_call 331;refine Calls.quiet_of_same (HI.out _)))
  go_wp2
  go_quiet (fail)
  go_wp2
  go_step3
  rename_i K0 hK0
  refine hK0 _ _ (HP2.out _ _ ⟨h,n/2^h,40-h,n,d,[],P,_,ao,b,P.length,cap,_,_,_,_,_,_,_,_,_,_,_,_,_,_,_,_,_,_,_,_,_,_,_,_,_,_,_,_,_,_,_,_,_,_,_,_,_,_,_,_,_,_,_,_,_,_,_,_,rfl,HS.out.next ?_⟩)
  exact Qi (Qi (Lb _ _) _) _
 case pass=>
  clear HS HI hg1 c1 c2 h d;rintro a' w' ⟨h,t,f,left,d,A0,P',vm,ao',b',len,cap',u11,u12,u13,u14,u15,u16,u17,u18,u19,u20,u21,u22,u23,u24,u25,u26,u27,u28,u29,u30,u31,u32,u33,u34,u35,u36,u37,u38,u39,u40,u41,u42,u43,u44,u45,u46,u47,u48,u49,u50,u51,u52,u53,u54,u55,u56,u57,u58,rfl,HA0⟩;have HA:=Qd HA0;have hlt:=HA0.lt;have HLt:=Qd hlt;clear HA0 hlt
  by_cases ho:t%2=1
  ·have hh:h<=39:=by
    have h1:=HA.out.hf;have h2:=HA.out.ht
    apply Ik
    intro h3;obtain rfl:f=0:=by omega
    simp at h2;omega
   have hT:tr 64 left=h:=by
    rw[Qlo 64 h left (by omega),HA.out.hleft,(Je h t).2]
    exact⟨(Je h t).1,ho⟩
   have HT:Hid (∀W,Calls prog 253 #[.int .u64 left] W fun e w'=>e= .returned (.int .i64 h)∧W=w'):=fun W=>(JW left W (by have:=HLt.out;omega) h hT).mono fun _ _ h=>⟨h.1,h.2.symm⟩
   obtain⟨m,rfl⟩:∃m,len=m+1:=by
    have h1:=HA.out.hl;rw[HA.out.hleft,Qbw _ (by omega) ho,Le,LR,HA.out.hlen] at h1
    exact⟨len-1,by omega⟩
   obtain⟨q,hq⟩:∃q,2^h=q:=⟨_,rfl⟩;obtain⟨l2,hl2⟩:∃l2,left-2^h=l2:=⟨_,rfl⟩;obtain⟨h2,hh2⟩:∃h2,h+1=h2:=⟨_,rfl⟩;have hql:q<=left:=by
    rw[HA.out.hleft,<-hq];exact NL _ (by omega)
   have HI:Hid (∀W,Calls prog 331 #[.int .i64 h] W fun e w'=>e= .returned (.int .u64 q)∧w'=W):=fun W=>Qb8 h W (by omega) q hq
   have e1:IntKind.i64.wrap (m:Int)=(m:Int):=by
    have:=HA.out.hl;have:=JK (fun h _=>h) 41 left
    have:=HA.out.hlen;rw[Lz];omega
   have e2:IntKind.u64.wrap ((left:Int)-(q:Int))=(l2:Int):=by
    have:=HLt.out;rw[Qf7 _ (by omega) (by omega)];omega
   have e3:IntKind.i64.wrap ((h:Int)+1)=(h2:Int):=by rw[Lz];omega
   have i1:(m:Int)<(m:Int)+1:=by omega
   have i2:(0:Int)<=(m:Int):=Lh _;have i3:(m:Int)<=(cap':Int):=by have:=HA.out.cap;omega
   obtain rfl:=HA.out.rd.ptr (by omega)
   obtain⟨x,hx⟩:∃x,P'.getD m ByteArray.empty=x:=⟨_,rfl⟩;obtain⟨d',hd'⟩:∃d',dg (clk k) (Qz x d)=d':=⟨_,rfl⟩;have HNd:Hid (∀W,Below w.heap.size w W->Calls prog 227 #[.int .i64 k,.string x,.string d] W fun e w'=>e= .returned (.string d')∧Below W.heap.size W w'):=fun W hb=>by
    have hc:=Qs k;have z1:x.size=clk k:=by rw[<-hx];exact HA.out.hP _ (Q1 (by rw[HA.out.hlen];omega))
    have z2:=HA.out.hd;exact YW W (HTb.out W hb) k x d (by omega) (by omega) d' hd'
   have HK:Hid (∀W,Below w'.heap.size w' W->W.cell? ⟨p,0,none⟩=some (.int .i64 k)∧W.cell? ⟨b',m,none⟩=some (.string x)):=fun W hb=>by
    have c3:=(HA.out.rd.next (Qa HA.out.below hb) (La _)).at (k:=m) (by omega)
    rw[Lo,hx] at c3;exact⟨(HRg.out W (Qa HA.out.below hb)).c0,c3⟩
   have HE:Hid (x=P'.getD m ByteArray.empty∧d'=dg (clk k) (Qz x d)∧l2=left-2^h∧h2=h+1∧d'.size<=9223372036854775807∧A0.length<=40):=⟨hx.symm,hd'.symm,hl2.symm,hh2.symm,by rw[<-hd',Ys (Qs k)];have:=Qs k;omega,by have:=HA.out.hA;omega⟩
   clear hT hl2 hh2 hql hx hd' hq hh hv
   go_upto_region 6 with (go_at_call 253;with_reducible refine(HT.out _).mono ?_;rintro e w1 ⟨rfl,rfl⟩)
   obtain⟨y1,y2⟩:=HK.out w'.drew (Lb w'.heap.size w').drew;have hd:Below w'.heap.size w' w'.drew:=(Lb w'.heap.size w').drew
   go_region_held3 (fun w'=>w'.cell? ⟨p,0,none⟩=some (.int .i64 k)∧w'.cell? ⟨b',m,none⟩=some (.string x)) (first|assumption|(exact HK.out _ (Qa hd hb2))|(exact HK.out _ hd)) ((go_at_call 227;with_reducible refine(HNd.out _ (Qa HA.out.below hd)).mono ?_;rintro e w2 ⟨rfl,hb2⟩))
   have HB2:Hid (Below w'.heap.size w' w2):=Qa hd hb2;clear hb2 hd y1 y2
   go_wp2_with (at_builtin;refine QY _ rfl _ _ rfl w.heap.size _ (A0++[d]) rfl (Yf (Qx HA.out.own HB2.out (La _)) _) (Zp w2.heap.size) w2.heap.size 0 1 [d'] rfl (Uf w2 d' HE.out.2.2.2.2.1) (fun h=>by cases h) ?c1 ?c2 ?_)
   case c1=>have:=HE.out.2.2.2.2.2;simp;omega
   case c2=>have:=(Qa HA.out.below HB2.out).size;simp;omega
   intro v3 w3 h3 hb3;have HX:Hid (Qg w3 w.heap.size v3 ((A0++[d])++[d'])∧Below w.heap.size w w3):=⟨by simpa using h3,(bal (Qa HA.out.below HB2.out) _).trans hb3⟩
   clear h3 hb3;go_wp2
   go_quiet ((go_at_call 331;refine Calls.quiet_of_same (HI.out _)))
   go_wp2
   go_step3
   obtain⟨x1,x2,x3,x4,x5,x6⟩:=HE.out;obtain⟨f',hP⟩:=HA.out.pop (Qs k) ho (by rw[<-x1];exact x2.symm) HX.out.2 HX.out.1
   rw[<-x3,<-x4] at hP;refine⟨rfl,⟨h2,t/2,f',l2,d',A0++[d],P'.take m,_,_,b',m,cap',_,_,_,_,_,_,_,_,_,_,_,_,_,_,_,_,_,_,_,_,_,_,_,_,_,_,_,_,_,_,_,_,_,_,_,_,_,_,_,_,_,_,_,_,_,_,_,_,rfl,hP.next (Qi (Lb _ _) _)⟩,?_⟩
   show m<m+1
   omega
  ·have hne:tr 64 left≠h:=by
    rw[Ne,Qlo 64 h left (by have:=HA.out.hf;omega),HA.out.hleft,(Je h t).2]
    exact fun h=>ho h.2
   obtain⟨T,hT⟩:∃T,tr 64 left=T:=⟨_,rfl⟩;have HT:Hid (∀W,Calls prog 253 #[.int .u64 left] W fun e w'=>e= .returned (.int .i64 T)∧W=w'):=fun W=>(JW left W (by have:=HLt.out;omega) T hT).mono fun _ _ h=>⟨h.1,h.2.symm⟩
   have hne':¬((T:Int)=(h:Int)):=by rw[hT] at hne;omega
   obtain rfl:=HA.out.hlen;have HC:Hid (∀W,Calls prog 332 #[.slice ao' P'.length cap'] W fun e w'=>e= .returned (.slice ao' P'.length P'.length)∧W=w'):=fun W=>(Qi0 W ao' _ cap' HA.out.cap).mono fun _ _ h=>⟨h.1,h.2.symm⟩
   have HL:Hid (P'.length<=1000):=by show _<=_;rw[HA.out.hl];have:=JK (fun h _=>h) 41 left;omega
   clear hne hT hv
   go_wp2_with (first
    | (go_at_call 253;with_reducible refine(HT.out _).mono ?_;rintro e w1 ⟨rfl,rfl⟩)
    | (go_at_call 332;with_reducible refine(HC.out _).mono ?_;rintro e w1 ⟨rfl,rfl⟩)
    | (at_builtin;refine Oj _ rfl _ _ rfl ao' b' P' rfl (HA.out.rd.next (bal HA.out.below _) (La _)) ⟨w'.heap.size,0,none⟩ d rfl (by simp) HL.out ?_))
   intro v2 w3 h3 hb3;obtain⟨g2,cap2,hv2,_⟩:=Qev h3 (by simp)
   obtain⟨n2,hn2⟩:∃n2,(P'++[d]).length=n2:=⟨_,rfl⟩;rw[hn2] at hv2;subst hv2;clear hn2;have HB3:Hid (Below w.heap.size w w3∧Below w'.heap.size w' w3∧Qg w3 w'.heap.size (.slice (Zp g2) n2 cap2) (P'++[d])):=⟨Qa HA.out.below ((bal (Lb w'.heap.size w') _).trans (hb3.mono (Wj _))),(bal (Lb w'.heap.size w') _).trans (hb3.mono (Wj _)),QO h3 (Wj _)⟩;clear h3 hb3;have R3:=HRg.out w3 HB3.out.1;have y1:=R3.c1;have y2:=R3.c2;have z1:=R3.fz 1;have z2:=R3.fz 2;have HR3:=Qd R3;clear R3;go_wp2
   try simp only[Exit.jump]
   go_ret
   have hlt:=HP0.out;have hsz:=HA.out.below.size;refine⟨vm,.slice (Zp g2) n2 cap2,rfl,⟨?_,?_,?_,?_,?_⟩⟩
   ·obtain⟨q1,q2,q3,q4,q5,q6⟩:=HN.out;have hQ:P'++[d]=Q:=by have:=HA.out.hQ;rw[YO ho] at this;exact this
    refine⟨?_,QO (Y0 (Y0 (by rw[<-hQ];exact HB3.out.2.2) (by omega)) (by omega)) (Ln _),q5,q6,q2,q3,q4⟩
    have e1:=Lp w3 p 2 _ 234 (.slice (Zp g2) n2 cap2) HR3.out.blk;have e2:=Lp _ p 1 _ 234 (.int .u64 gr) e1;exact e2
   ·have hM:A0++[d]=M:=by have:=HA.out.hM;rw[YO ho] at this;exact this
    rw[<-hM];exact Y0 (Y0 (Qx HA.out.own HB3.out.2.1 (La _)) hlt) hlt
   ·exact((Ch.of HB3.out.1 hlt).set 2 _).set 1 _
   ·right
    intro g hg;have:=(LY HB3.out.2.2 g hg).1;omega
   ·intro g hg1 hg2;have a1:=(LY HB3.out.2.2 g hg2).1;have a2:=(LY HA.out.own g hg1).2;omega
theorem QbJ(w:World)(p:Nat)(v:Value)(k:Int)(n:Nat)(P:LB)(hr:Rg w p v k n P) :
  Calls prog 159 #[Pq p] w fun e w'=>e= .returned (.int .u64 n)∧Below w.heap.size w w':=by
 have c1:=hr.c1;clear hr
 go_enter func159,ntmps159;go_wp2
 go_ret
 exact⟨rfl,Lb _ _⟩
theorem QfT(w:World)(p:Nat)(v:Value)(k:Int)(n:Nat)(P:LB)(hr:Rg w p v k n P) :
  Calls prog 160 #[Pq p] w fun e w'=> ∃u,e= .returned u∧Qg w' w.heap.size u P∧Below w.heap.size w w':=by
 obtain⟨ao,b,cap,hv,hrd,hcap,hno⟩:=hr.rd;have c2:=hr.c2;rw[hv] at c2;have HC:Hid (Calls prog 158 #[.slice ao P.length cap] w fun e w'=> ∃v,e= .returned v∧Qg w' w.heap.size v P∧Below w.heap.size w w'):=JH w ao b 0 cap P hrd hno (by have:=hr.short;omega)
 clear hr hv hrd hcap hno
 go_enter func160,ntmps160
 go_wp2_with (go_at_call 158;with_reducible refine HC.out.mono ?_;rintro e w1 ⟨u,rfl,ho,hb⟩)
 go_ret
 exact⟨u,rfl,ho,hb⟩
theorem Ql{w:World}{B:Nat}{v:Value}{l:LB}(h:Qg w B v l):∃ao cap,v= .slice ao l.length cap:=by
 obtain⟨_,h2⟩:=h
 rcases h2 with ⟨h2,h3⟩|⟨g,cap,cur,hv,_⟩
 ·exact⟨none,0,by rw[h2,h3]⟩
 ·exact⟨_,cap,hv⟩
def fe(k:Int)(n:Nat)(L:LB):Nat :=
 if k<1∨32<k then 70 else if 1099511627776<n then 30 else if L.length≠Qv 64 n ∨ ¬(∀s∈L,(s.size:Int)=k) then 90 else 0
theorem Qmr{k:Int}(h1:1<=k)(h2:k<=32):chk k=0:=by rw[chk,Ld (by omega)]
theorem Qmq{k:Int}(h:k<1∨32<k):chk k=70:=by rw[chk,Lm h]
def Made(w w':World)(k:Int)(n:Nat)(L:LB)(e0:Nat)(e:Ending):Prop :=
 Below w.heap.size w w'∧((e0≠0∧e= .returned (.tuple #[.pointer none,.int .i64 e0]))∨(e0=0 ∧ ∃p v,e= .returned (.tuple #[Pq p,.int .i64 0])∧Rg w' p v k n L∧w.heap.size<=p ∧ ∀g,v.ownBlock=some g->w.heap.size<=g))
theorem Qd7(w:World)(k:Int)(n:Nat)(hn64:n<18446744073709551616)(ao:OA)(b off cap:Nat)(L:LB)(hr:RdS w ao b off L.length L)(hno:ao=none->cap=0)(hmx:L.length<=8796093022208)(e0:Nat)(he:fe k n L=e0) :
  Calls prog 94 #[.int .i64 k,.int .u64 n,.slice ao L.length cap] w fun e w'=>Made w w' k n L e0 e:=by
 have hb:=Lb w.heap.size w;have HC:Hid (∀W,Calls prog 91 #[.int .i64 k] W fun e w'=>e= .returned (.int .i64 (chk k))∧W=w'):=fun W=>(QD W k).mono fun _ _ h=>⟨h.1,h.2.symm⟩
 by_cases hk:k<1∨32<k
 ·obtain rfl:e0=70:=by rw[<-he,fe,Lm hk]
  rw[Qmq hk] at HC;clear he hk hr hno hmx hn64
  go_enter func94,ntmps94
  go_wp2_with (go_at_call 91;with_reducible refine(HC.out _).mono ?_;rintro e w1 ⟨rfl,rfl⟩)
  go_ret2
  exact⟨hb,.inl ⟨by decide,rfl⟩⟩
 ·have k1:1<=k:=by omega
  have k2:k<=32:=by omega
  rw[Qmr k1 k2] at HC
  by_cases hn:1099511627776<n
  ·obtain rfl:e0=30:=by rw[<-he,fe,Ld hk,Lm hn]
   have hn':decide ((1099511627776:Int)<(n:Int))=true:=by simp;omega
   clear he hk hr hno hmx hn64 hn
   go_enter func94,ntmps94
   go_wp2_with (go_at_call 91;with_reducible refine(HC.out _).mono ?_;rintro e w1 ⟨rfl,rfl⟩)
   go_ret2
   exact⟨hb,.inl ⟨by decide,rfl⟩⟩
  ·have hn':decide ((1099511627776:Int)<(n:Int))=false:=by simp;omega
   obtain⟨o,ho⟩:∃o,Qv 64 n=o:=⟨_,rfl⟩;have HO:Hid (∀W,Calls prog 138 #[.int .u64 n] W fun e w'=>e= .returned (.int .i64 o)∧W=w'):=fun W=>by
    have:=Pl.UT n W (by omega)
    rw[ho] at this;exact this.mono fun _ _ h=>⟨h.1,h.2.symm⟩
   by_cases hl:L.length=o
   ·subst hl;have HE:Hid ((¬(∀s∈L,(s.size:Int)=k)->e0=90)∧((∀s∈L,(s.size:Int)=k)->e0=0)):=by
     refine⟨fun h=> ?_,fun h=> ?_⟩
     ·rw[<-he,fe,Ld hk,Ld hn,Lm (.inr h)]
     ·rw[<-he,fe,Ld hk,Ld hn,Ld];rintro(h1|h1)
      ·exact h1 ho.symm
      ·exact h1 h
    have HG:Hid (n<=1099511627776∧L.length=(hts n).length∧L.length<=1000):=by
     have h1:=Qea (n:=n) (by omega)
     have h2:=QjI n;exact⟨by omega,by omega,by omega⟩
    have HCl:Hid (Calls prog 158 #[.slice ao L.length cap] w fun e w'=> ∃v,e= .returned v∧Qg w' w.heap.size v L∧Below w.heap.size w w'):=JH w ao b off cap L hr hno hmx
    have HR:Hid (RdS w ao b off L.length L):=hr;have HB:=Qd hb;have HK:=Qd (LO k1 k2);clear he hk hno hmx hn64 hn ho hr hb k1 k2
    go_enter func94,ntmps94
    go_wp2_with (first
     | (go_at_call 91;with_reducible refine(HC.out _).mono ?_;rintro e w1 ⟨rfl,rfl⟩)
     | (go_at_call 138;with_reducible refine(HO.out _).mono ?_;rintro e w1 ⟨rfl,rfl⟩))
    go_loopg [25] L.length (fun g i wr=> ∃j:Nat,j<=L.length∧g=L.length-j∧i= .int .i64 j∧Hid (∀s∈L.take j,(s.size:Int)=k)∧w=wr)
    case atStart=>go_light;exact⟨0,Ln _,rfl,rfl,(fun s hs=>by cases hs),rfl⟩
    case round=>
     obtain⟨j,hj,rfl,rfl,HT,rfl⟩:=hrel
     by_cases hlt:j<L.length
     ·have hz:(j:Int)<(L.length:Int):=by omega
      have hz9:(j:Int)<1000:=by have:=HG.out.2.2;omega
      have hz0:(0:Int)<=(j:Int):=Lh _;obtain rfl:=HR.out.ptr (by omega)
      have cj:=HR.out.at hlt;obtain⟨x,hx⟩:∃x,L.getD j ByteArray.empty=x:=⟨_,rfl⟩;have hxm:=Q1 hlt;have hx2:L.take (j+1)=L.take j++[x]:=by
       rw[NW,<-hx,Lc,Ll hlt];rfl
      rw[hx] at cj hxm
      by_cases hs:(x.size:Int)=k
      ·have HT2:Hid (∀s∈L.take (j+1),(s.size:Int)=k):=fun s hs2=>by
        rw[hx2] at hs2
        rcases List.mem_append.1 hs2 with h|h
        ·exact HT.out s h
        ·simp at h;rw[h];exact hs
       subst hs;clear hx hxm hx2 HT;go_wp2
       go_roundg (L.length-(j+1))
       case rel=>go_light;exact⟨j+1,by omega,rfl,by go_num,HT2,rfl⟩
       case measure=>go_light;omega
      ·have hE:e0=90:=HE.out.1 fun h=>hs (h x hxm)
       have HE2:=Qd hE;clear hE hx hxm hx2 HT;go_wp2
       go_ret2
       refine⟨HB.out,.inl ?_⟩
       rw[HE2.out];exact⟨by decide,rfl⟩
     ·obtain rfl:j=L.length:=by omega
      have hz:¬((L.length:Int)<(L.length:Int)):=by omega
      have HT2:Hid (∀s∈L,(s.size:Int)=k):=by have:=HT.out;rwa [NK] at this
      clear HT
      go_wp2_with (go_at_call 158;with_reducible refine HCl.out.mono ?_;rintro e w1 ⟨v,rfl,hv,hbv⟩;obtain⟨ao2,cap2,rfl⟩:=Ql hv)
      go_ret2
      have hE:e0=0:=HE.out.2 HT2.out;have hsz:=hbv.size;refine⟨bal hbv _,.inr ⟨hE,_,_,rfl,⟨Lt w1 _,QO (Yf hv _) (Ln _),HK.out.1,HK.out.2,HG.out.1,HG.out.2.1,fun s hs=> ?_⟩,hsz,fun g hg=>(LY hv g hg).1⟩⟩
      have h1:=HT2.out s hs;have h2:=YP HK.out.1 HK.out.2;omega
   ·obtain rfl:e0=90:=by rw[<-he,fe,Ld hk,Ld hn,Lm (.inl (by rw[ho];exact hl))]
    have hl':¬((L.length:Int)=(o:Int)):=by omega
    clear he hk hr hno hmx hn64 hn hl ho
    go_enter func94,ntmps94
    go_wp2_with (first
     | (go_at_call 91;with_reducible refine(HC.out _).mono ?_;rintro e w1 ⟨rfl,rfl⟩)
     | (go_at_call 138;with_reducible refine(HO.out _).mono ?_;rintro e w1 ⟨rfl,rfl⟩))
    go_ret2
    exact⟨hb,.inl ⟨by decide,rfl⟩⟩
theorem Made.no{w w':World}{k:Int}{n:Nat}{L:LB}{e0:Nat}{e:Ending}(h:Made w w' k n L e0 e)(h0:e0≠0):e= .returned (.tuple #[.pointer none,.int .i64 e0])∧Below w.heap.size w w':=by
 obtain⟨hb,⟨_,h2⟩|⟨h1,_⟩⟩:=h
 ·exact⟨h2,hb⟩
 ·exact absurd h1 h0
theorem Made.ok{w w':World}{k:Int}{n:Nat}{L:LB}{e:Ending}(h:Made w w' k n L 0 e):∃p v,e= .returned (.tuple #[Pq p,.int .i64 0])∧Rg w' p v k n L∧w.heap.size<=p∧(∀g,v.ownBlock=some g->w.heap.size<=g)∧Below w.heap.size w w':=by
 obtain⟨hb,⟨h1,_⟩|⟨_,p,v,h2,h3,h4,h5⟩⟩:=h
 ·exact absurd rfl h1
 ·exact⟨p,v,h2,h3,h4,h5,hb⟩
theorem QjY(w:World)(k:Int)(e0:Nat)(he:fe k 0 []=e0):Calls prog 44 #[.int .i64 k] w fun e w'=>Made w w' k 0 [] e0 e:=by
 have HF:Hid (Calls prog 94 #[.int .i64 k,.int .u64 0,.slice none 0 0] w fun e w'=>Made w w' k 0 [] e0 e) :=
  Qd7 w k 0 (by decide) none 0 0 0 [] ⟨rfl,fun h=>absurd h (Ns 0),(fun j v h=>by cases h),fun s hs=>by cases hs⟩ (fun _=>rfl) (Ln _) e0 he
 clear he
 by_cases h0:e0=0
 ·subst h0
  go_enter func44,ntmps44
  go_wp2_with (go_at_call 94;with_reducible refine HF.out.mono ?_;intro e w1 hM;obtain⟨p,v,rfl,h2,h3,h4,hb⟩:=hM.ok;clear hM)
  go_ret2
  exact⟨hb,.inr ⟨rfl,p,v,rfl,h2,h3,h4⟩⟩
 ·have H0:=Qd h0;clear h0
  go_enter func44,ntmps44
  go_wp2_with (go_at_call 94;with_reducible refine HF.out.mono ?_;intro e w1 hM;obtain⟨rfl,hb⟩:=hM.no H0.out;clear hM)
  go_ret2
  exact⟨hb,.inl ⟨H0.out,rfl⟩⟩
theorem Did.none{w w':World}{p:Nat}{v:Value}{k:Int}{n:Nat}{P:LB}(hr:Rg w p v k n P)(hb:Below w.heap.size w w'):Did w w' p v k n P (.slice none 0 0) [] v :=
 ⟨hr.next hb (La _),Um _ _,Ch.of hb hr.lt,.inl rfl,fun g h _=>by cases h⟩
theorem Qgu{k:Int}{n:Nat}{h:Int}{s:BA}(h1:(s.size:Int)=k)(h2:0<=h)(h3:h<=40)(h4:n%2^h.toNat=0)(h5:n+2^h.toNat<=1099511627776):er k n h s=0:=by
 rw[er,Ld (by omega),Ld (by omega),Ld (by omega)]
theorem Ol(w:World)(ht:Tb w)(p:Nat)(v:Value)(k:Int)(n:Nat)(P:LB)(hr:Rg w p v k n P)(s:BA)(e0 n':Nat)(P' A:LB)(he:Hid (er k n 0 s=e0∧nxN k n 0 s=n'∧nxP k n P 0 s=P'∧an k n P 0 s=A)) :
  Calls prog 161 #[Pq p,.string s] w fun e w'=> ∃vm v',e= .returned (.tuple #[vm,.int .i64 e0])∧Did w w' p v k n' P' vm A v':=by
 obtain⟨q1,q2,q3,q4⟩:=he.out;have c0:=hr.c0;have c1:=hr.c1
 by_cases hs:(s.size:Int)=k
 ·by_cases hn:n<1099511627776
  ·have e00:er k n 0 s=0:=Qgu hs (by decide) (by decide) (by show n%1=0;omega) (by show n+1<=_;omega)
   rw[e00] at q1;rw[nxN,Lm e00] at q2;rw[nxP,Lm e00] at q3;rw[an,Lm e00] at q4;have hcl:=YP hr.k1 hr.k2;have HL:Hid (Calls prog 251 #[Pq p,.int .i64 0,.string s] w fun e w'=> ∃vm v',e= .returned vm∧Did w w' p v k n' P' vm A v') :=
    Qmu w ht p v k n P hr 0 (by decide) s (by omega) (by show n%1=0;omega) n' q2 (by rw[<-q2];show n+1<=_;omega) A P' (by show mk (clk k) n P 0 s=(A,P');rw[<-q3,<-q4];rfl)
   have hn':decide ((1099511627776:Int)<=(n:Int))=false:=by simp;omega
   subst q1;subst hs;clear he e00 q2 q3 q4 hcl ht hr hn
   go_enter func161,ntmps161
   go_wp2_with (go_at_call 251;with_reducible refine HL.out.mono ?_;rintro e w1 ⟨vm,v',rfl,hd⟩)
   go_ret2
   exact⟨vm,v',rfl,hd⟩
  ·have hn40:=hr.hn;have e00:er k n 0 s=30:=by rw[er,Ld (by omega),Ld (by rw[show(0:Int).toNat=0 from rfl,Iv];omega),Lm (by rw[show(0:Int).toNat=0 from rfl,Iv];omega)]
   rw[e00] at q1;rw[nxN,Ld (by rw[e00];decide)] at q2
   rw[nxP,Ld (by rw[e00];decide)] at q3
   rw[an,Ld (by rw[e00];decide)] at q4
   have hn':decide ((1099511627776:Int)<=(n:Int))=true:=by simp;omega
   have HR:=Qd hr;subst q1 q2 q3 q4;subst hs;clear he e00 ht hr hn hn40
   go_enter func161,ntmps161;go_wp2
   go_ret2
   exact⟨_,v,rfl,Did.none HR.out (Lb _ _)⟩
 ·have e00:er k n 0 s=90:=by rw[er,Lm (by omega)]
  rw[e00] at q1;rw[nxN,Ld (by rw[e00];decide)] at q2
  rw[nxP,Ld (by rw[e00];decide)] at q3
  rw[an,Ld (by rw[e00];decide)] at q4
  have HR:=Qd hr;subst q1 q2 q3 q4;clear he e00 ht hr
  go_enter func161,ntmps161;go_wp2
  go_ret2
  exact⟨_,v,rfl,Did.none HR.out (Lb _ _)⟩
end Kp
end Go.Proofs.YtoblgjledefdbaaGreatDoor
