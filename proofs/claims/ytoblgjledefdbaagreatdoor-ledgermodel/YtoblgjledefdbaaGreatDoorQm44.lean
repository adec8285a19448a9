/- Own work. -/
import Derived.Test.YtoblgjledefdbaaGreatDoorQm43
set_option maxRecDepth 100000
set_option maxHeartbeats 2000000
namespace Go.Proofs.YtoblgjledefdbaaGreatDoor
open Go.RowKit
attribute [local go_sem ↓] Go.wp_at_zero Go.wp_at_succ
open Go.Proofs.Tryz
theorem UX{α:Type}(d:α)(l:List α)(i:Nat)(h:i<l.length):l.take i++[l.getD i d]=l.take (i+1):=by
 rw[LR h,Ld,Lh h];rfl
theorem QeD{α β:Type}(f:α->β)(d:α)(e:β)(l:List α)(i:Nat)(h:i<l.length):(l.map f).getD i e=f (l.getD i d):=by
 simp[List.getD_eq_getElem?_getD,List.getElem?_eq_getElem h]
theorem Qgs(w:World)(ht:Tr w)(k:Int)(ao:OA)(b off len cap:Nat)(L:LB)(hr:RdS w ao b off len L)(hsz : ∀s∈L,s.size<=140737488351232)(hmx:len<=1099511627776)(hc:len<=cap)(P:LB)(hP:Hid (pks (clk k) L 41=P)) :
  Calls prog 60 #[.int .i64 k,.slice ao len cap] w fun e w' => ∃v,e = .returned v∧Qi w' w.heap.size v P∧Below w.heap.size w w':=by
 obtain⟨Hs,xC⟩ : ∃Hs,Hid (gen id len 41=Hs):=⟨_,rfl⟩;obtain⟨M,hM⟩ : ∃M,Hid (gen (mtP len) len 41=M):=⟨_,rfl⟩;have xQ:=fun W=>UD W len hmx M hM
 have xU:=hr.hl;have eM:M=Hs.map (mtP len):=by
  have h1:=Qdh (mtP len) id len 41;rw[xC.out] at h1;rw[h1];exact hM.out.symm
 have eP:P=Hs.map (fun s=>nd (clk k) L s (len / 2^s - 1)):=by
  have h1:=Qdh (fun s=>nd (clk k) L s (len / 2^s - 1)) id len 41
  have h2:=QgX (clk k) L 41;rw[xC.out] at h1;rw[xU] at h2;rw[h1];exact hP.out.symm.trans h2.symm
 have lH:Hs.length<=41:=by rw[<-xC.out];exact Qdg _ _ _
 have lM:M.length=Hs.length:=by rw[eM];simp
 have lP:P.length=Hs.length:=by rw[eP];simp
 have HT:Hid (Tr w∧RdS w ao b off len L∧(∀s∈L,s.size<=140737488351232)∧len<=1099511627776∧len<=cap):=⟨ht,hr,hsz,hmx,hc⟩;have HV:Hid (∀i,i<Hs.length -> ∃s t z i',s<=40∧2^s=z∧M.getD i (0,0)=(t,z)∧t+z<=len∧t=i' * 2^s∧P.getD i ByteArray.empty=nd (clk k) L s i'):=fun i hi=>by
  obtain⟨s,hs⟩:=Ze (Hs.getD i 0);have xM:s∈gen id len 41:=by
   rw[xC.out,<-hs,Ld,Lh hi];exact L3 _
  obtain⟨yB,xJ⟩:=Qdi 41 s xM;obtain⟨xV,xY⟩:=QeF xJ;refine⟨s,(len / 2^s - 1)*2^s,2^s,len / 2^s - 1,by omega,rfl,?_,?_,rfl,?_⟩
  ·rw[eM,QeD _ 0 _ _ _ hi,hs,mtP]
  ·have h5:=IS len (2^s);rw[Nat.sub_mul,LV];have:1*2^s<=len / 2^s*2^s:=LU _ xY;omega
  ·rw[eP,QeD _ 0 _ _ _ hi,hs]
 have yH:Hid (∀s∈P,s.size<=9223372036854775807):=fun s hs=>by rw[<-hP.out] at hs;rw[QbO (QO k) _ _ s hs];have:=QO k;omega
 have hb:=Lb w.heap.size w;have HL:Hid (Hs.length<=41∧M.length=Hs.length∧P.length=Hs.length):=⟨lH,lM,lP⟩;clear ht hr hsz hmx hc hP xC hM xU eM eP lH lM lP
 go_enter func60,ntmps60
 go_wp2_with (go_at_call 111;with_reducible refine(xQ _).mono ?_;rintro e w1 ⟨vM,rfl,xB,xW⟩)
 clear xQ;obtain⟨q,hq⟩:=Ze Hs.length;obtain⟨xH,cM,yD,xD⟩ : ∃xH cM,vM = .slice xH q cM∧(0<q -> ∃g,xH=some ⟨g,0,none⟩∧OwnP w1 w.heap.size (.slice (some ⟨g,0,none⟩) q cM) M):=by
  have hl:=HL.out.2.1
  rcases xB.2 with ⟨hv,h0⟩|⟨g,cp,cur,hv,_⟩
  ·refine⟨none,0,?_,fun h => ?_⟩
   ·rw[hv,show q=0 by omega]
   ·omega
  ·refine⟨some ⟨g,0,none⟩,cp,?_,fun _=>⟨g,rfl,?_⟩⟩
   ·rw[hv,hl,hq]
   ·have:=xB;rw[hv,hl,hq] at this;exact this
 subst yD;rw[hq] at HL HV;have HO:Hid (0<q -> ∃g,xH=some ⟨g,0,none⟩∧OwnP w1 w.heap.size (.slice (some ⟨g,0,none⟩) q cM) M):=xD;have xF:Hid (Below w.heap.size w w1):=xW;have yA:(q:Int)<=41:=by have:=HL.out.1;omega
 clear xB xD xW hq
 go_loopg [6,7] q (fun gg v i0 wr => ∃i:Nat,i<=q∧gg=q - i∧i0 = .int .i64 (i:Int)∧Qi wr w1.heap.size v (P.take i)∧Below w1.heap.size w1 wr)
 case atStart=>go_light;exact⟨0,Ll _,rfl,rfl,YK _ _,Lb _ _⟩
 case round =>
  obtain⟨i,hi,rfl,rfl,ho,xA⟩:=hrel;have yI:(0:Int)<=(i:Int):=Lf _
  by_cases hlt:i<q
  ·have xL:(i:Int)<(q:Int):=by omega
   obtain⟨g,rfl,xB⟩:=HO.out (by omega)
   obtain⟨s,t,z,i',xE,hz,hM,yC,xX,xI⟩:=HV.out i hlt;obtain⟨t1,t2,t3,t4,t5⟩:=HT.out;have yE:0<z:=by rw[<-hz];exact LJ s
   obtain rfl:=t2.ptr (by omega)
   obtain⟨x,hx⟩:=Ze (P.getD i ByteArray.empty);rw[hx] at xI;have xT:Hid (∀W,Below w1.heap.size w1 W->Calls prog 112 #[.int .i64 k,.slice (some ⟨b,off+t,none⟩) z (cap - t)] W fun e w'=>e = .returned (.string x)∧Below W.heap.size W w'):=fun W hb=>by
    refine QiI W (t1.next (Qa xF.out hb)) k _ b (off+t) (cap - t) s z xE hz ((L.drop t).take z) ((t2.next (Qa xF.out hb) (La _)).cut t z (by omega)) (fun y hy=>t3 y (NY (Ny hy))) x ?_
    show _=_
    rw[xX,<-hz,Qoj];exact xI.symm
   have xZ:=HL.out;have xG:Hid (∀W,Below w1.heap.size w1 W->W.cell? ⟨g,i*2,none⟩=some (.int .i64 (t:Int))∧W.cell? ⟨g,i*2+1,none⟩=some (.int .i64 (z:Int))):=fun W h=>by
    have:=Qip (QcG xB h) (j:=i) (by omega)
    rw[hM] at this;exact this
   have HY:Hid (Qi wr w1.heap.size u6 (P.take i)∧Below w1.heap.size w1 wr∧P.take i++[x]=P.take (i+1)∧i+1<=q∧q<=41∧(P.take i).length=i):=⟨ho,xA,by rw[<-hx];exact UX _ _ _ (by omega),hlt,by omega,by rw[Lz];omega⟩
   obtain⟨y,hy⟩:=Ze (t+z);have e1:IntKind.i64.wrap ((t:Int)+(z:Int))=(y:Int):=by rw[Lr];omega
   have s0:(0:Int)<=(t:Int):=Lf _;have s1:(t:Int)<=(y:Int):=by omega
   have s2:(y:Int)<=(cap:Int):=by omega
   have s3 : ¬(cap=t):=by omega
   have s4:y - t=z:=by omega
   have hd:Below w1.heap.size w1 wr.drew:=(xA).drew;obtain⟨i0,xK,xN,yF,yG⟩:=info_parts Tryz.infoS;have xR:Hid (∀W,Below wr.drew.heap.size wr.drew W->(W.alloc (.cells #[.string x] 9)).ownsRow w1.heap.size 9 1 u6 i ((P.take i).map Value.string)):=fun W h=>by
    have:=Yr (Qv HY.out.1 (Qa ((Lb _ _).drew) h) (La _)) (.cells #[.string x] 9);rw[Qi,HY.out.2.2.2.2.2] at this;exact this
   have xP:Hid (i+1<=maxLen∧(i+1)*16<=140737488355328):=by have:=HY.out;refine⟨?_,?_⟩;unfold maxLen;omega;omega
   have xS:Hid (∀W,Below wr.drew.heap.size wr.drew W->w1.heap.size<=(W.alloc (.cells #[.string x] 9)).heap.size):=fun W h=>by have:=(Qa hd h).size;simp;omega
   have HG:Hid (∀w2 w3,Below wr.drew.heap.size wr.drew w2->(w2.alloc (.cells #[.string x] 9)).grownBy w3 u6.ownBlock->Below w1.heap.size w1 w3):=fun w2 w3 h1 h2=>(bal (Qa hd h1) _).grown h2 (by have:=(Qa hd h1).size;simp;omega) (fun q hq=>(HY.out.1.lt q hq).1)
   have HK:Hid (∀W,Below wr.drew.heap.size wr.drew W->W.cell? ⟨g,i*2,none⟩=some (.int .i64 (t:Int))∧W.cell? ⟨g,i*2+1,none⟩=some (.int .i64 (z:Int))):=fun W h=>xG.out W (Qa hd h)
   have xO:Hid (∀w2 w3,Below wr.drew.heap.size wr.drew w2->(w2.alloc (.cells #[.string x] 9)).grownBy w3 u6.ownBlock->w3.cell? ⟨g,i*2,none⟩=some (.int .i64 (t:Int))∧w3.cell? ⟨g,i*2+1,none⟩=some (.int .i64 (z:Int))):=fun w2 w3 h1 h2=>xG.out w3 (HG.out w2 w3 h1 h2)
   have kk:=xG.out wr.drew hd;have HD:Hid (Below w1.heap.size w1 wr.drew):=hd;clear ho xA xB xE hz hM yC xX xI t1 t2 t3 t4 t5 yE hx xZ hi hlt hd hy
   go_upto_region 6 with (fail)
   go_region_held3 (fun w'=>w'.cell? ⟨g,i*2,none⟩=some (.int .i64 (t:Int))∧w'.cell? ⟨g,i*2+1,none⟩=some (.int .i64 (z:Int))) (first|assumption|(exact xO.out _ _ xA hgrow)|(exact HK.out _ xA)|(exact HK.out _ (bal xA _))) (first
    | (go_at_call 112;with_reducible refine(xT.out _ HD.out).mono ?_;rintro e w2 ⟨rfl,xA⟩)
    | (refine step_append_lies _ (by rfl) _ _ _ (by rfl) w1.heap.size 9 i0 _ 1 16 underlying22 xK xN yF yG rfl (by omega) u6 i ((P.take i).map Value.string) (by rfl) (xR.out _ xA) ⟨w2.heap.size,0,none⟩ 1 1 [.string x] (by rfl) (by rfl) (World.news_of_block (cs:=#[.string x]) (t:=9) (fr:=(0,0)) (LH w2 _)) (by simp[Value.oneCell']) (by omega) xP.out.1 xP.out.2 (xS.out _ xA) (w2.heap.size+1) (by simp) ?_;intro gg cap_1 w3 hown3 hgrow xV hlt3))
   have HZ:Hid (Qi w3 w1.heap.size (.slice (some ⟨gg,0,none⟩) (i+1) cap_1) (P.take (i+1))∧Below w1.heap.size w1 w3):=⟨by
    obtain⟨y1,y2,y3,y4,y5,y6⟩:=HY.out;rw[Qi,<-y3,Lc,y6,L5];exact hown3,HG.out _ _ xA hgrow⟩
   clear hown3 hgrow xV hlt3 HG xO HK xG xT xR xS kk;go_wp2
   go_roundg (q - (i+1))
   case rel=>go_light;exact⟨i+1,HY.out.2.2.2.1,rfl,by go_num,HZ.out.1,HZ.out.2⟩
   case measure=>go_light;have:=HY.out.2.2.2.1;omega
  ·obtain rfl:i=q:=by omega
   have xL : ¬((i:Int)<(i:Int)):=by omega
   have HZ:Hid (Qi wr w.heap.size u6 P∧Below w.heap.size w wr):=⟨by
    rw[Lo (by have:=HL.out;omega)] at ho
    exact World.ownsRow.mono ho xF.out.size,Qa xF.out xA⟩
   clear ho xA hi hlt HO HV;go_wp2
   go_ret
   exact⟨_,rfl,HZ.out.1,HZ.out.2⟩
theorem Qgv(w:World)(k:Int)(h1:1<=k)(h2:k<=32)(ao:OA)(len cap n:Nat)(hn:len<n)(hmx:len<=8796093022208) :
  Calls prog 21 #[.int .i64 k,.slice ao len cap,.int .u64 (n:Int)] w fun e w'=>e = .returned (.tuple #[.agg #[.int .u64 0,.string ⟨#[]⟩],.int .i64 30])∧Below w.heap.size w w':=by
 have HC:=fun W=>O1 W k
 rw[Qjr h1 h2] at HC;have e0:IntKind.u64.wrap (len:Int)=(len:Int):=YD _ (by omega) (by omega)
 have xA:(len:Int)<(n:Int):=by omega
 have hb:=Lb w.heap.size w;clear h1 h2 hn hmx
 go_enter func21,ntmps21
 go_wp2_with (go_at_call 58;with_reducible refine(HC _).mono ?_;rintro e w1 ⟨rfl,rfl⟩)
 refine Lv (v := .tuple #[.agg #[.int .u64 0,.string ⟨#[]⟩],.int .i64 30]) (by simp[results,results21,go_sem]) rfl ⟨rfl,?_⟩
 exact bal hb _
theorem QkV(w:World)(ht:Tr w)(k:Int)(h1:1<=k)(h2:k<=32)(ao:OA)(b off len cap:Nat)(L:LB)(hr:RdS w ao b off len L)(hsz : ∀s∈L,s.size<=140737488351232)(hmx:len<=1099511627776)(hc:len<=cap)(n:Nat)(hn:n<=len)(r:BA)(hq:Hid (rtD (clk k) L n=r)) :
  Calls prog 21 #[.int .i64 k,.slice ao len cap,.int .u64 (n:Int)] w fun e w'=>e = .returned (.tuple #[.agg #[.int .u64 (n:Int),.string r],.int .i64 0])∧Below w.heap.size w w':=by
 have HC:=fun W=>O1 W k
 rw[Qjr h1 h2] at HC;have e0:IntKind.u64.wrap (len:Int)=(len:Int):=YD _ (by omega) (by omega)
 have xF : ¬((len:Int)<(n:Int)):=by omega
 have xG:(n:Int)<=(cap:Int):=by omega
 obtain⟨P,hP⟩ : ∃P,Hid (pks (clk k) (L.take n) 41=P):=⟨_,rfl⟩;have xD:Hid (∀W,Below w.heap.size w W->Calls prog 60 #[.int .i64 k,.slice ao n cap] W fun e w' => ∃v,e = .returned v∧Qi w' W.heap.size v P∧Below W.heap.size W w'):=fun W hb=>Qgs W (ht.next hb) k ao b off n cap (L.take n) ((hr.next hb (La _)).take hn) (fun s hs=>hsz s (Ny hs)) (by omega) (by omega) P hP
 have zP : ∀s∈P,s.size<=140737488351232:=by rw[<-hP.out];exact small (QO k)
 have lP:P.length<=41:=by rw[<-hP.out];exact QdA _ _ _
 have HQ:Hid (dg (clk k) (UU n (Q6 (clk k) P))=r):=by rw[<-hP.out];exact hq
 have xE:Hid (∀W,Below w.heap.size w W -> ∀ao' b' cap',RdS W ao' b' 0 P.length P->Calls prog 59 #[.int .i64 k,.int .u64 (n:Int),.slice ao' P.length cap'] W fun e w'=>e = .returned (.string r)∧Below W.heap.size W w'):=fun W hb ao' b' cap' hr'=>Qe2 W (ht.next hb) k n (by omega) ao' b' 0 P.length cap' P hr' zP (by omega) r HQ.out
 have HZ:Hid (∀s∈P,s.size<=9223372036854775807):=fun s hs=>Lu (zP s hs) (by decide)
 have hb:=Lb w.heap.size w;have HN:=QkW w 0 ⟨#[]⟩ 50;rw[show((0:Nat):Int)=0 from rfl] at HN
 have xC:=Qd HN;clear h1 h2 hn hmx hc hr hsz ht hq hP zP lP HQ HN
 go_enter func21,ntmps21
 go_wp2_with (first
  | (go_at_call 58;with_reducible refine(HC _).mono ?_;rintro e w1 ⟨rfl,rfl⟩)
  | (go_at_call 60;with_reducible refine(xD.out _ (bal hb _)).mono ?_;rintro e w2 ⟨v,rfl,ho,xA⟩;obtain⟨ao',b',cap',rfl,hr',_,_⟩:=QR ho HZ.out)
  | (go_at_call 59;with_reducible refine(xE.out _ (Qa (bal hb _) xA) _ _ _ hr').mono ?_;rintro e w3 ⟨rfl,xB⟩;have hR:=(xC.out.below xA (by simp)).below xB (by have:=xA.size;simp at this;omega);have k0:=hR.c0;have k1:=hR.c1;have f0:=hR.f0;have f1:=hR.f1))
 have s0:(w3.setCell ⟨w.heap.size,0,none⟩ (.int .u64 (n:Int))).cell? ⟨w.heap.size,0,none⟩=some (.int .u64 (n:Int)):=Na _ _ _ k0;have s1:((w3.setCell ⟨w.heap.size,0,none⟩ (.int .u64 (n:Int))).setCell ⟨w.heap.size,1,none⟩ (.string r)).cell? ⟨w.heap.size,1,none⟩=some (.string r) :=
  Na _ _ _ ((LO _ _ _ _ (by simp)).trans k1)
 refine Lv (v := .tuple #[.agg #[.int .u64 (n:Int),.string r],.int .i64 0]) (by simp[results,results21,go_sem,s0,s1]) rfl ⟨rfl,?_⟩
 exact((Qa (Qa (bal hb _) xA) xB).setCell (p:=⟨w.heap.size,0,none⟩) (La _) _).setCell (p:=⟨w.heap.size,1,none⟩) (La _) _
theorem QbR(w:World)(n:Nat)(hn:n<18446744073709551616) :
  Calls prog 195 #[.int .u64 (n:Int)] w fun x w'=>x = .returned (.string ⟨(num n).toArray⟩)∧Below w.heap.size w w':=by
 have HL:=Qg (QD (n:=n) hn)
 go_enter func195,ntmps195;go_wp2
 go_loopg [0,3] n (fun g x v wr => ∃(m:Nat) (pre:List UInt8),m=g∧x = .int .u64 (m:Int)∧OwnY wr w.heap.size v pre∧Hid (pre++num m=num n∧m<=n)∧Below w.heap.size w wr)
 case atStart=>go_light;exact⟨n,[],rfl,rfl,Nh _ _ _ _,⟨rfl,La _⟩,Lb _ _⟩
 case round =>
  obtain⟨m,pre,hg,rfl,xA,HP,hb⟩:=hrel;subst hg;have HS:Hid (pre.length<=10∧w.heap.size<=wr.heap.size):=by
   have:=Lw List.length HP.out.1;rw[Lc] at this;have:=HL.out;exact⟨by omega,hb.size⟩
  by_cases hm:m<128
  ·have xD:(m:Int)<128:=by omega
   have HY:=Qg (QC (x:=m) (by omega)).symm
   have HR:Hid (pre++[UInt8.ofNat m]=num n):=by
    have:=HP.out.1;rw[OU hm] at this;exact this
   go_wp2_with (at_builtin;refine YA _ rfl _ _ rfl w.heap.size _ pre rfl xA m (UInt8.ofNat m) HY.out rfl ?c1 ?c2 ?_)
   case c1=>have:=HS.out;omega
   case c2=>exact HS.out.2
   intro v' w2 r1 r2;have xC:=QcH r1;rw[HR.out] at xC;go_wp2
   go_ret
   exact⟨rfl,hb.trans r2⟩
  ·have xD : ¬(m:Int)<128:=by omega
   have xE:(128:Int)<=(m:Int):=by omega
   obtain⟨c,hc⟩ : ∃c,c=UInt8.ofNat (m % 128+128):=⟨_,rfl⟩;obtain⟨y,hy⟩ : ∃y,y=c.toNat:=⟨_,rfl⟩;have ey:(m:Int) % 128+128=(y:Int):=by rw[hy,hc,QC (by omega)];omega
   have HY:=Qg hy;clear hy;have HR:Hid ((pre++[c])++num (m / 128)=num n∧m / 128<=n):=by
    have:=HP.out;rw[Jv (by omega),<-hc] at this
    exact⟨by rw[<-this.1];simp,by omega⟩
   clear hc;have ew:IntKind.u64.wrap ((m:Int) / 128)=(m:Int) / 128:=by
    have:=HP.out.2;rw[IntKind.wrap_u64];omega
   have HQ:Hid ((m:Int) / 128=((m / 128:Nat):Int)∧m / 128<m):=⟨by omega,by omega⟩
   go_wp2_with (at_builtin;refine YA _ rfl _ _ rfl w.heap.size _ pre rfl xA y c HY.out rfl ?c1 ?c2 ?_)
   case c1=>have:=HS.out;omega
   case c2=>exact HS.out.2
   intro v' w2 r1 r2;have xB:=hb.trans r2;clear r2 hb xA;go_wp2
   go_roundg (m / 128)
   case rel=>go_light;exact⟨m / 128,_,rfl,by rw[<-HQ.out.1],r1,HR.out,xB⟩
   case measure=>go_light;exact HQ.out.2
abbrev rv(T:BA)(a e:Nat):Value := .agg #[.string T,.int .i64 (a:Int),.int .i64 (e:Int)]
theorem Yf{B:Nat}{a w:World}(h:Below B a w):Below B a w.drew:=⟨h.os,h.tape,h.output,h.size,h.block⟩
theorem QL(w:World)(o o':Obj):Below w.heap.size w ((w.alloc o).alloc o'):=bal (bal (Lb _ _) o) o'
theorem JA(w:World)(T:BA)(a e n:Nat)(ha:a<=T.size)(hn:n=if e=0 then T.size - a else 0)(hT:T.size<=9223372036854775807) :
  Calls prog 192 #[rv T a e] w fun x w'=>x = .returned (.int .i64 (n:Int))∧Below w.heap.size w w':=by
 by_cases he:e=0
 ·subst he;rw[Lk rfl] at hn;have eq:(T.size:Int) - (a:Int)=(n:Int):=by omega
  clear hn
  go_enter func192,ntmps192;go_wp2
  go_ret
  exact⟨rfl,(Lb _ _).alloc (La _) _⟩
 ·rw[Le he] at hn;subst hn;have hz : ¬(e:Int)=0:=by omega
  go_enter func192,ntmps192;go_wp2
  go_ret
  exact⟨rfl,(Lb _ _).alloc (La _) _⟩
def rtk(T:BA)(a e:Nat)(n:Int):Nat×Nat×BA :=
 if e≠0 then (a,e,ByteArray.empty) else if n<0∨((T.size - a:Nat):Int)<n then (a,60,ByteArray.empty) else (a+n.toNat,0,T.extract a (a+n.toNat))
theorem Qe3(w:World)(T:BA)(a e:Nat)(n:Int)(ha:a<=T.size)(hT:T.size<=9223372036854775807) :
  Calls prog 193 #[rv T a e,.int .i64 n] w fun x w'=>x = .returned (.tuple #[rv T (rtk T a e n).1 (rtk T a e n).2.1,.string (rtk T a e n).2.2,.int .i64 ((rtk T a e n).2.1:Int)])∧Below w.heap.size w w':=by
 by_cases he:e=0
 ·subst he
  by_cases hn:n<0∨((T.size - a:Nat):Int)<n
  ·have ht:rtk T a 0 n=(a,60,ByteArray.empty):=by rw[rtk,Le (by simp),Lk hn]
   rw[ht];have hd:(T.size:Int) - (a:Int)=((T.size - a:Nat):Int):=by omega
   generalize T.size - a=q at *
   by_cases h0:n<0
   ·go_enter func193,ntmps193;go_wp2
    go_region
    go_wp2;refine Lv (v := .tuple #[rv T a 60,.string ByteArray.empty,.int .i64 60]) (by simp[results,results193,go_sem];rfl) rfl ⟨rfl,?_⟩
    exact Yf (QL w _ _)
   ·have h1:(q:Int)<n:=by omega
    go_enter func193,ntmps193;go_wp2
    go_region
    go_wp2;refine Lv (v := .tuple #[rv T a 60,.string ByteArray.empty,.int .i64 60]) (by simp[results,results193,go_sem];rfl) rfl ⟨rfl,?_⟩
    exact Yf (QL w _ _)
  ·obtain⟨k,rfl⟩ : ∃k:Nat,n=k:=⟨n.toNat,by omega⟩
   have ht:rtk T a 0 (k:Int)=(a+k,0,T.extract a (a+k)):=by rw[rtk,Le (by simp),Le hn];simp
   rw[ht];have hd:(T.size:Int) - (a:Int)=((T.size - a:Nat):Int):=by omega
   have h0 : ¬(k:Int)<0:=by omega
   have h1 : ¬((T.size - a:Nat):Int)<(k:Int):=by omega
   obtain⟨b,hb⟩ : ∃b,b=a+k:=⟨_,rfl⟩;have e1:(a:Int)+(k:Int)=(b:Int):=by omega
   have e2:(a:Int)<=(b:Int):=by omega
   have e3:(b:Int)<=(T.size:Int):=by omega
   rw[<-hb];clear ht hn hb;generalize T.size - a=q at *
   go_enter func193,ntmps193;go_wp2;refine Lv (v := .tuple #[rv T b 0,.string (T.extract a b),.int .i64 0]) (by simp[results,results193,go_sem]) rfl ⟨rfl,?_⟩
   exact QL w _ _
 ·have ht:rtk T a e n=(a,e,ByteArray.empty):=by rw[rtk,Lk he]
  rw[ht];have hz : ¬(e:Int)=0:=by omega
  go_enter func193,ntmps193;go_wp2
  go_region
  go_wp2;refine Lv (v := .tuple #[rv T a e,.string ByteArray.empty,.int .i64 e]) (by simp[results,results193,go_sem];rfl) rfl ⟨rfl,?_⟩
  exact Yf (QL w _ _)
def rnb(T:BA)(a e:Nat):Nat×Nat×Nat :=
 if e≠0 then (a,e,0) else (if (YL (T.data.toList.drop a) 0 0).2.1=0 then a+(YL (T.data.toList.drop a) 0 0).2.2 else a,(YL (T.data.toList.drop a) 0 0).2.1,(YL (T.data.toList.drop a) 0 0).1)
theorem Qgh{T:BA}{a n k:Nat}(h:YL (T.data.toList.drop a) 0 0=(n,0,k)):rnb T a 0=(a+k,0,n):=by
 simp[rnb,h]
theorem Qa2{T:BA}{a n e k:Nat}(h:YL (T.data.toList.drop a) 0 0=(n,e,k))(he:e≠0):rnb T a 0=(a,e,n):=by
 simp[rnb,h,he]
theorem mul7(n b k o:Nat)(ho:o=128^k)(hn:n<128^k)(hk:k<=9)(h:k=9->b<=1) :
  ∃x m,IntKind.u64.wrap ((o:Int)*((b:Int) % 128))=((x:Nat):Int)∧IntKind.u64.wrap ((n:Int)+(x:Int))=((m:Nat):Int)∧m=n+b % 128*128^k∧x<18446744073709551616∧m<18446744073709551616:=by
 obtain⟨_,h2⟩:=or7 n b k hn hk h;subst ho;have e:((128^k:Nat):Int)*((b:Int) % 128)=((b % 128*128^k:Nat):Int):=by
  rw[Int.mul_comm,Ir];rfl
 refine⟨b % 128*128^k,n+b % 128*128^k,?_,?_,rfl,by omega,h2⟩
 ·rw[e,IntKind.wrap_u64];omega
 ·rw[IntKind.wrap_u64];omega
theorem pow7(k:Nat)(hk:k<9)(o:Nat)(ho:o=128^k):IntKind.u64.wrap ((o:Int)*128)=((o*128:Nat):Int)∧o*128=128^(k+1):=by
 subst ho;have hp:128^(k+1)<=128^9:=Qa0 (by omega)
 have e9:(128:Nat)^9=9223372036854775808:=by decide
 rw[LC] at hp;refine⟨?_,(LC ..).symm⟩
 rw[IntKind.wrap_u64];omega
theorem Uz(w:World)(T:BA)(a e:Nat)(ha:a<=T.size)(hT:T.size<=9223372036854775000) :
  Calls prog 191 #[rv T a e] w fun x w'=>x = .returned (.tuple #[rv T (rnb T a e).1 (rnb T a e).2.1,.int .u64 ((rnb T a e).2.2:Int),.int .i64 ((rnb T a e).2.1:Int)])∧Below w.heap.size w w':=by
 by_cases he:e=0
 ·subst he
  go_enter func191,ntmps191;go_wp2
  go_loopg [5,6,7] 10 (fun g x o i wr=>(w.alloc (.cells #[.string T,.int .i64 (a:Int),.int .i64 0] 256)).alloc (.cells #[.string ByteArray.empty,.int .i64 0,.int .i64 0] 256)=wr ∧
   ∃(k n p:Nat),a+k<=T.size∧k<=9∧10 - k=g∧x = .int .u64 (n:Int)∧o = .int .u64 (p:Int)∧i = .int .i64 k∧Hid (p=128^k∧n<128^k∧YL (T.data.toList.drop (a+k)) k n=YL (T.data.toList.drop a) 0 0))
  case atStart=>go_light;exact⟨rfl,0,0,1,by omega,by omega,rfl,rfl,rfl,rfl,rfl,by decide,rfl⟩
  case round =>
   obtain⟨rfl,k,n,p,hk,h9,rfl,rfl,rfl,rfl,HS⟩:=hrel;obtain⟨j,hj⟩ : ∃j,j=a+k:=⟨_,rfl⟩;have ej:(a:Int)+(k:Int)=(j:Int):=by omega
   obtain⟨hp,hn,xA⟩:=HS.out;rw[<-hj] at xA hk;have HJ:=Qg hj;clear HS hj
   by_cases hlt:j<T.size
   ·have hz : ¬(T.size:Int)<=(j:Int):=by omega
    have xL:(j:Int)<(T.size:Int):=by omega
    obtain⟨b,hb⟩:=Ze (T[j].toNat);have xJ:b<256:=by rw[<-hb];exact T[j].toNat_lt
    rw[QlU T j hlt,YL,hb] at xA
    by_cases hi:k=9∧1<b
    ·obtain⟨rfl,hi⟩:=hi;have xD:(a:Int)+9=(j:Int):=ej;clear ej;rw[Lk ⟨rfl,hi⟩] at xA;have HT:=Qg (Qa2 xA.symm (by decide))
     have xK:(1:Int)<(b:Int):=by omega
     clear xA hn hp;go_wp2
     go_region
     go_wp2;refine Lv (v := .tuple #[rv T a 61,.int .u64 0,.int .i64 61]) (by simp[results,results191,go_sem]) rfl ?_
     rw[HT.out];exact⟨rfl,Yf (QL w _ _)⟩
    ·obtain⟨x,m,ex,em,hm,hx,xC⟩:=mul7 n b k p hp hn h9 (by omega)
     rw[Le hi] at xA
     by_cases hl:b<128
     ·rw[Lk hl,<-show b % 128=b from Nn hl,<-hm,show b % 128=b from Nn hl] at xA
      have xG:(b:Int)<128:=by omega
      by_cases h0:b=0∧0<k
      ·rw[Lk h0] at xA;have HT:=Qg (Qa2 xA.symm (by decide))
       obtain⟨rfl,h0⟩:=h0;have xH:(0:Int)<(k:Int):=by omega
       clear xA hn hm hp ex em hx xC
       by_cases hk9:k=9
       ·subst hk9;have xD:(a:Int)+9=(j:Int):=ej;clear ej;go_wp2
        go_region
        go_wp2;refine Lv (v := .tuple #[rv T a 61,.int .u64 0,.int .i64 61]) (by simp[results,results191,go_sem]) rfl ?_
        rw[HT.out];exact⟨rfl,Yf (QL w _ _)⟩
       ·have hq : ¬(k:Int)=9:=by omega
        go_wp2
        go_region
        go_wp2;refine Lv (v := .tuple #[rv T a 61,.int .u64 0,.int .i64 61]) (by simp[results,results191,go_sem]) rfl ?_
        rw[HT.out];exact⟨rfl,Yf (QL w _ _)⟩
      ·rw[Le h0] at xA;have HT:Hid (rnb T a 0=(j+1,0,m)):=by show _=_;rw[Qgh xA.symm,HJ.out];rfl
       clear xA hn hm hp
       by_cases hk9:k=9
       ·subst hk9;have xD:(a:Int)+9=(j:Int):=ej;clear ej;have xI : ¬(1:Int)<(b:Int):=by omega
        have xE : ¬(b:Int)=0:=by omega
        go_wp2;refine Lv (v := .tuple #[rv T (j+1) 0,.int .u64 (m:Int),.int .i64 0]) (by simp[results,results191,go_sem]) rfl ?_
        rw[HT.out];exact⟨rfl,QL w _ _⟩
       ·have hq : ¬(k:Int)=9:=by omega
        by_cases hk0:k=0
        ·subst hk0;obtain rfl:j=a:=by have:=HJ.out;omega
         clear ej;go_wp2;refine Lv (v := .tuple #[rv T (j+1) 0,.int .u64 (m:Int),.int .i64 0]) (by simp[results,results191,go_sem]) rfl ?_
         rw[HT.out];exact⟨rfl,QL w _ _⟩
        ·have xB:(0:Int)<(k:Int):=by omega
         have xE : ¬(b:Int)=0:=by omega
         go_wp2;refine Lv (v := .tuple #[rv T (j+1) 0,.int .u64 (m:Int),.int .i64 0]) (by simp[results,results191,go_sem]) rfl ?_
         rw[HT.out];exact⟨rfl,QL w _ _⟩
     ·have hq : ¬(k:Int)=9:=by omega
      have xG : ¬(b:Int)<128:=by omega
      have xE : ¬(b:Int)=0:=by omega
      obtain⟨ep,xF⟩:=pow7 k (by omega) p hp
      have HS:Hid (p*128=128^(k+1)∧m<128^(k+1)∧YL (T.data.toList.drop (a+(k+1))) (k+1) m=YL (T.data.toList.drop a) 0 0):=by
       rw[Le hl,<-hm] at xA;refine⟨xF,?_,by have:=HJ.out;rw[show a+(k+1)=j+1 by omega];exact xA⟩
       rw[hm,LC];have:b % 128*128^k<=127*128^k:=LU _ (by omega)
       omega
      clear xA hn hm hp xF
      by_cases hk0:k=0
      ·subst hk0;obtain rfl:j=a:=by have:=HJ.out;omega
       clear ej;go_wp2
       go_roundg (10 - (0+1))
       case rel=>go_light;exact⟨rfl,0+1,m,p*128,by have:=HJ.out;omega,by omega,rfl,rfl,rfl,by go_num,HS.out⟩
       case measure=>go_light;omega
      ·have xB:(0:Int)<(k:Int):=by omega
       go_wp2
       go_roundg (10 - (k+1))
       case rel=>go_light;exact⟨rfl,k+1,m,p*128,by have:=HJ.out;omega,by omega,rfl,rfl,rfl,by go_num,HS.out⟩
       case measure=>go_light;omega
   ·obtain rfl:j=T.size:=by omega
    rw[LZ (by simp),YL] at xA
    have HT:=Qg (Qa2 xA.symm (by decide))
    clear xA hn hp;go_wp2
    go_region
    go_wp2;refine Lv (v := .tuple #[rv T a 60,.int .u64 0,.int .i64 60]) (by simp[results,results191,go_sem]) rfl ?_
    rw[HT.out];exact⟨rfl,Yf (QL w _ _)⟩
 ·have ht:rnb T a e=(a,e,0):=by rw[rnb,Lk he]
  rw[ht];have hz : ¬(e:Int)=0:=by omega
  go_enter func191,ntmps191;go_wp2
  go_region
  go_wp2;refine Lv (v := .tuple #[rv T a e,.int .u64 0,.int .i64 e]) (by simp[results,results191,go_sem]) rfl ⟨rfl,?_⟩
  exact Yf (QL w _ _)
end Go.Proofs.YtoblgjledefdbaaGreatDoor
