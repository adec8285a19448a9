/- Own work. -/
import Derived.Test.YtdocjikpcbmcgaaGreatDoorQn34
set_option maxRecDepth 100000
set_option maxHeartbeats 2000000
namespace Go.Proofs.YtdocjikpcbmcgaaGreatDoor
open Go.RowKit
attribute [local go_sem ↓] Go.wp_at_zero Go.wp_at_succ
open Go.Proofs.Tryz
theorem QiG{α:Type}(d:α)(l:List α)(i:Nat)(h:i<l.length):l.take i++[l.getD i d]=l.take (i+1):=by
 rw[LW h,La,Lc h];rfl
theorem Qb4{α β:Type}(f:α->β)(d:α)(e:β)(l:List α)(i:Nat)(h:i<l.length):(l.map f).getD i e=f (l.getD i d):=by
 simp[List.getD_eq_getElem?_getD,List.getElem?_eq_getElem h]
theorem Qcs(w:World)(ht:Tr w)(k:Int)(ao:OA)(b off len cap:Nat)(L:LB)(hr:RdS w ao b off len L)(hsz : ∀s∈L,s.size<=140737488351232)(hmx:len<=1099511627776)(hc:len<=cap)(P:LB)(hP:Hid (pks (clk k) L 41=P)) :
  Ro 22 #[.int .i64 k,.slice ao len cap] w P:=by
 obtain⟨Hs,xC⟩ : ∃Hs,Hid (gen id len 41=Hs):=⟨_,rfl⟩;obtain⟨M,hM⟩ : ∃M,Hid (gen (mtP len) len 41=M):=⟨_,rfl⟩;have xQ:=fun W=>YH W len hmx M hM
 have xU:=hr.hl;have eM:M=Hs.map (mtP len):=by
  have h1:=QdI (mtP len) id len 41;rw[xC.out] at h1;rw[h1];exact hM.out.symm
 have eP:P=Hs.map (fun s=>nd (clk k) L s (len / 2^s - 1)):=by
  have h1:=QdI (fun s=>nd (clk k) L s (len / 2^s - 1)) id len 41
  have h2:=QgN (clk k) L 41;rw[xC.out] at h1;rw[xU] at h2;rw[h1];exact hP.out.symm.trans h2.symm
 have lH:Hs.length<=41:=by rw[<-xC.out];exact QdH _ _ _
 have lM:M.length=Hs.length:=by rw[eM];simp
 have lP:P.length=Hs.length:=by rw[eP];simp
 have HT:Hid (Tr w∧RdS w ao b off len L∧(∀s∈L,s.size<=140737488351232)∧len<=1099511627776∧len<=cap):=⟨ht,hr,hsz,hmx,hc⟩;have HV:Hid (∀i,i<Hs.length -> ∃s t z i',s<=40∧2^s=z∧M.getD i (0,0)=(t,z)∧t+z<=len∧t=i' * 2^s∧P.getD i ByteArray.empty=nd (clk k) L s i'):=fun i hi=>by
  obtain⟨s,hs⟩:=Ze (Hs.getD i 0);have xM:s∈gen id len 41:=by
   rw[xC.out,<-hs,La,Lc hi];exact LG _
  obtain⟨yB,xJ⟩:=QdJ 41 s xM;obtain⟨xV,xY⟩:=QeX xJ;refine⟨s,(len / 2^s - 1)*2^s,2^s,len / 2^s - 1,by omega,rfl,?_,?_,rfl,?_⟩
  ·rw[eM,Qb4 _ 0 _ _ _ hi,hs,mtP]
  ·have h5:=NY len (2^s);rw[Nat.sub_mul,LX];have:1*2^s<=len / 2^s*2^s:=LE _ xY;omega
  ·rw[eP,Qb4 _ 0 _ _ _ hi,hs]
 have yH:Hid (∀s∈P,s.size<=9223372036854775807):=fun s hs=>by rw[<-hP.out] at hs;rw[Qcf (Qp k) _ _ s hs];have:=Qp k;omega
 have hb:=Lb w.heap.size w;have HL:Hid (Hs.length<=41∧M.length=Hs.length∧P.length=Hs.length):=⟨lH,lM,lP⟩;clear ht hr hsz hmx hc hP xC hM xU eM eP lH lM lP
 go_enter func22,ntmps22
 go_wp2_with (go_at_call 54;with_reducible refine(xQ _).mono ?_;rintro e w1 ⟨vM,rfl,xB,xW⟩)
 clear xQ;obtain⟨q,hq⟩:=Ze Hs.length;obtain⟨xH,cM,yD,xD⟩ : ∃xH cM,vM = .slice xH q cM∧(0<q -> ∃g,xH=some ⟨g,0,none⟩∧OwnP w1 w.heap.size (.slice (some ⟨g,0,none⟩) q cM) M):=by
  have hl:=HL.out.2.1
  rcases xB.2 with ⟨hv,h0⟩|⟨g,cp,cur,hv,_⟩
  ·refine⟨none,0,?_,fun h => ?_⟩
   ·rw[hv,show q=0 by omega]
   ·omega
  ·refine⟨some ⟨g,0,none⟩,cp,?_,fun _=>⟨g,rfl,?_⟩⟩
   ·rw[hv,hl,hq]
   ·have:=xB;rw[hv,hl,hq] at this;exact this
 subst yD;rw[hq] at HL HV;have HO:Hid (0<q -> ∃g,xH=some ⟨g,0,none⟩∧OwnP w1 w.heap.size (.slice (some ⟨g,0,none⟩) q cM) M):=xD;have xF:Hid (Zb w w1):=xW;have yA:(q:Int)<=41:=by have:=HL.out.1;omega
 clear xB xD xW hq
 go_loopg [6,7] q (fun gg v i0 wr => ∃i:Nat,i<=q∧gg=q - i∧i0 = .int .i64 (i:Int)∧Qk wr w1.heap.size v (P.take i)∧Zb w1 wr)
 case atStart=>go_light;exact⟨0,Ll _,rfl,rfl,Um _ _,Lb _ _⟩
 case round =>
  obtain⟨i,hi,rfl,rfl,ho,xA⟩:=hrel;have yI:(0:Int)<=(i:Int):=Lf _
  by_cases hlt:i<q
  ·have xL:(i:Int)<(q:Int):=by omega
   obtain⟨g,rfl,xB⟩:=HO.out (by omega)
   obtain⟨s,t,z,i',xE,hz,hM,yC,xX,xI⟩:=HV.out i hlt;obtain⟨t1,t2,t3,t4,t5⟩:=HT.out;have yE:0<z:=by rw[<-hz];exact LQ s
   obtain rfl:=t2.ptr (by omega)
   obtain⟨x,hx⟩:=Ze (P.getD i ByteArray.empty);rw[hx] at xI;have xT:Hr w1 55 #[.int .i64 k,.slice (some ⟨b,off+t,none⟩) z (cap - t)] (.string x):=fun W hb=>by
    refine Qdg W (t1.next (Qa xF.out hb)) k _ b (off+t) (cap - t) s z xE hz ((L.drop t).take z) ((t2.next (Qa xF.out hb) (Ld _)).cut t z (by omega)) (fun y hy=>t3 y (LV (Nf hy))) x ?_
    show _=_
    rw[xX,<-hz,QjN];exact xI.symm
   have xZ:=HL.out;have xG:Hid (∀W,Zb w1 W->W.cell? ⟨g,i*2,none⟩=some (.int .i64 (t:Int))∧W.cell? ⟨g,i*2+1,none⟩=some (.int .i64 (z:Int))):=fun W h=>by
    have:=Qh2 (Qc4 xB h) (j:=i) (by omega)
    rw[hM] at this;exact this
   have HY:Hid (Qk wr w1.heap.size u6 (P.take i)∧Zb w1 wr∧P.take i++[x]=P.take (i+1)∧i+1<=q∧q<=41∧(P.take i).length=i):=⟨ho,xA,by rw[<-hx];exact QiG _ _ _ (by omega),hlt,by omega,by rw[Lq];omega⟩
   obtain⟨y,hy⟩:=Ze (t+z);have e1:IntKind.i64.wrap ((t:Int)+(z:Int))=(y:Int):=by rw[Nd];omega
   have s0:(0:Int)<=(t:Int):=Lf _;have s1:(t:Int)<=(y:Int):=by omega
   have s2:(y:Int)<=(cap:Int):=by omega
   have s3 : ¬(cap=t):=by omega
   have s4:y - t=z:=by omega
   have hd:Zb w1 wr.drew:=(xA).drew;obtain⟨i0,xK,xN,yF,yG⟩:=info_parts Tryz.infoS;have xR:Hid (∀W,Below wr.drew.heap.size wr.drew W->(W.alloc (.cells #[.string x] 9)).ownsRow w1.heap.size 9 1 u6 i ((P.take i).map Value.string)):=fun W h=>by
    have:=Y0 (Qm HY.out.1 (Qa ((Lb _ _).drew) h) (Ld _)) (.cells #[.string x] 9);rw[Qk,HY.out.2.2.2.2.2] at this;exact this
   have xP:Hid (i+1<=maxLen∧(i+1)*16<=140737488355328):=by have:=HY.out;refine⟨?_,?_⟩;unfold maxLen;omega;omega
   have xS:Hid (∀W,Below wr.drew.heap.size wr.drew W->w1.heap.size<=(W.alloc (.cells #[.string x] 9)).heap.size):=fun W h=>by have:=(Qa hd h).size;simp;omega
   have HG:Hid (∀w2 w3,Below wr.drew.heap.size wr.drew w2->(w2.alloc (.cells #[.string x] 9)).grownBy w3 u6.ownBlock->Zb w1 w3):=fun w2 w3 h1 h2=>(bal (Qa hd h1) _).grown h2 (by have:=(Qa hd h1).size;simp;omega) (fun q hq=>(HY.out.1.lt q hq).1)
   have HK:Hid (∀W,Below wr.drew.heap.size wr.drew W->W.cell? ⟨g,i*2,none⟩=some (.int .i64 (t:Int))∧W.cell? ⟨g,i*2+1,none⟩=some (.int .i64 (z:Int))):=fun W h=>xG.out W (Qa hd h)
   have xO:Hid (∀w2 w3,Below wr.drew.heap.size wr.drew w2->(w2.alloc (.cells #[.string x] 9)).grownBy w3 u6.ownBlock->w3.cell? ⟨g,i*2,none⟩=some (.int .i64 (t:Int))∧w3.cell? ⟨g,i*2+1,none⟩=some (.int .i64 (z:Int))):=fun w2 w3 h1 h2=>xG.out w3 (HG.out w2 w3 h1 h2)
   have kk:=xG.out wr.drew hd;have HD:Hid (Zb w1 wr.drew):=hd;clear ho xA xB xE hz hM yC xX xI t1 t2 t3 t4 t5 yE hx xZ hi hlt hd hy
   go_upto_region 6 with (fail)
   go_region_held3 (fun w'=>w'.cell? ⟨g,i*2,none⟩=some (.int .i64 (t:Int))∧w'.cell? ⟨g,i*2+1,none⟩=some (.int .i64 (z:Int))) (first|assumption|(exact xO.out _ _ xA hgrow)|(exact HK.out _ xA)|(exact HK.out _ (bal xA _))) (first
    | (go_at_call 55;with_reducible refine(xT.out _ HD.out).mono ?_;rintro e w2 ⟨rfl,xA⟩)
    | (refine step_append_lies _ (by rfl) _ _ _ (by rfl) w1.heap.size 9 i0 _ 1 16 underlying22 xK xN yF yG rfl (by omega) u6 i ((P.take i).map Value.string) (by rfl) (xR.out _ xA) ⟨w2.heap.size,0,none⟩ 1 1 [.string x] (by rfl) (by rfl) (World.news_of_block (cs:=#[.string x]) (t:=9) (fr:=(0,0)) (Lu w2 _)) (by simp[Value.oneCell']) (by omega) xP.out.1 xP.out.2 (xS.out _ xA) (w2.heap.size+1) (by simp) ?_;intro gg cap_1 w3 hown3 hgrow xV hlt3))
   have HZ:Hid (Qk w3 w1.heap.size (.slice (some ⟨gg,0,none⟩) (i+1) cap_1) (P.take (i+1))∧Zb w1 w3):=⟨by
    obtain⟨y1,y2,y3,y4,y5,y6⟩:=HY.out;rw[Qk,<-y3,Lg,y6,L8];exact hown3,HG.out _ _ xA hgrow⟩
   clear hown3 hgrow xV hlt3 HG xO HK xG xT xR xS kk;go_wp2
   go_roundg (q - (i+1))
   case rel=>go_light;exact⟨i+1,HY.out.2.2.2.1,rfl,by go_num,HZ.out.1,HZ.out.2⟩
   case measure=>go_light;have:=HY.out.2.2.2.1;omega
  ·obtain rfl:i=q:=by omega
   have xL : ¬((i:Int)<(i:Int)):=by omega
   have HZ:Hid (Qk wr w.heap.size u6 P∧Zb w wr):=⟨by
    rw[LD (by have:=HL.out;omega)] at ho
    exact World.ownsRow.mono ho xF.out.size,Qa xF.out xA⟩
   clear ho xA hi hlt HO HV;go_wp2
   go_ret
   exact⟨_,rfl,HZ.out.1,HZ.out.2⟩
theorem Qis(w:World)(k:Int)(hk:k<1∨32<k)(ao:OA)(len cap n:Nat) :
  Zr 9 #[.int .i64 k,.slice ao len cap,.int .u64 (n:Int)] w (.tuple #[.agg #[.int .u64 0,.string ⟨#[]⟩],.int .i64 70]):=by
 have HC:=fun W=>Qy W k
 rw[QiX hk] at HC;have hb:=Lb w.heap.size w;clear hk
 go_enter func9,ntmps9
 go_wp2_with (go_at_call 20;with_reducible refine(HC _).mono ?_;rintro e w1 ⟨rfl,rfl⟩)
 refine Lp (v := .tuple #[.agg #[.int .u64 0,.string ⟨#[]⟩],.int .i64 70]) (by simp[results,results9,go_sem]) rfl ⟨rfl,?_⟩
 exact bal hb _
theorem Qfk(w:World)(ht:Tr w)(k:Int)(h1:1<=k)(h2:k<=32)(ao:OA)(b off len cap:Nat)(L:LB)(hr:RdS w ao b off len L)(hsz : ∀s∈L,s.size<=140737488351232)(hmx:len<=1099511627776)(hc:len<=cap)(n:Nat)(hn:n<=len)(r:BA)(hq:Hid (rtD (clk k) L n=r)) :
  Zr 9 #[.int .i64 k,.slice ao len cap,.int .u64 (n:Int)] w (.tuple #[.agg #[.int .u64 (n:Int),.string r],.int .i64 0]):=by
 have HC:=fun W=>Qy W k
 rw[QiY h1 h2] at HC;have e0:IntKind.u64.wrap (len:Int)=(len:Int):=Uf _ (by omega) (by omega)
 have xF : ¬((len:Int)<(n:Int)):=by omega
 have xG:(n:Int)<=(cap:Int):=by omega
 obtain⟨P,hP⟩ : ∃P,Hid (pks (clk k) (L.take n) 41=P):=⟨_,rfl⟩;have xD:Hid (∀W,Zb w W->Ro 22 #[.int .i64 k,.slice ao n cap] W P):=fun W hb=>Qcs W (ht.next hb) k ao b off n cap (L.take n) ((hr.next hb (Ld _)).take hn) (fun s hs=>hsz s (Nf hs)) (by omega) (by omega) P hP
 have zP : ∀s∈P,s.size<=140737488351232:=by rw[<-hP.out];exact QmT (Qp k)
 have lP:P.length<=41:=by rw[<-hP.out];exact Qbd _ _ _
 have HQ:Hid (dg (clk k) (QI n (Qr (clk k) P))=r):=by rw[<-hP.out];exact hq
 have xE:Hid (∀W,Zb w W -> ∀ao' b' cap',RdS W ao' b' 0 P.length P->Zr 21 #[.int .i64 k,.int .u64 (n:Int),.slice ao' P.length cap'] W (.string r)):=fun W hb ao' b' cap' hr'=>QaT W (ht.next hb) k n (by omega) ao' b' 0 P.length cap' P hr' zP (by omega) r HQ.out
 have HZ:Hid (∀s∈P,s.size<=9223372036854775807):=fun s hs=>Lz (zP s hs) (by decide)
 have hb:=Lb w.heap.size w;have HN:=Qea w 0 ⟨#[]⟩ 30;rw[show((0:Nat):Int)=0 from rfl] at HN
 have xC:=Qe HN;clear h1 h2 hn hmx hc hr hsz ht hq hP zP lP HQ HN
 go_enter func9,ntmps9
 go_wp2_with (first
  | (go_at_call 20;with_reducible refine(HC _).mono ?_;rintro e w1 ⟨rfl,rfl⟩)
  | (go_at_call 22;with_reducible refine(xD.out _ (bal hb _)).mono ?_;rintro e w2 ⟨v,rfl,ho,xA⟩;obtain⟨ao',b',cap',rfl,hr',_,_⟩:=Qt ho HZ.out)
  | (go_at_call 21;with_reducible refine(xE.out _ (Qa (bal hb _) xA) _ _ _ hr').mono ?_;rintro e w3 ⟨rfl,xB⟩;have hR:=(xC.out.below xA (by simp)).below xB (by have:=xA.size;simp at this;omega);have k0:=hR.c0;have k1:=hR.c1;have f0:=hR.f0;have f1:=hR.f1))
 have s0:(w3.setCell ⟨w.heap.size,0,none⟩ (.int .u64 (n:Int))).cell? ⟨w.heap.size,0,none⟩=some (.int .u64 (n:Int)):=LZ _ _ _ k0;have s1:((w3.setCell ⟨w.heap.size,0,none⟩ (.int .u64 (n:Int))).setCell ⟨w.heap.size,1,none⟩ (.string r)).cell? ⟨w.heap.size,1,none⟩=some (.string r) :=
  LZ _ _ _ ((LJ _ _ _ _ (by simp)).trans k1)
 refine Lp (v := .tuple #[.agg #[.int .u64 (n:Int),.string r],.int .i64 0]) (by simp[results,results9,go_sem,s0,s1]) rfl ⟨rfl,?_⟩
 exact((Qa (Qa (bal hb _) xA) xB).setCell (p:=⟨w.heap.size,0,none⟩) (Ld _) _).setCell (p:=⟨w.heap.size,1,none⟩) (Ld _) _
theorem QnG(w:World)(k:Int)(hk:k<1∨32<k)(pa:OA)(pn pc:Nat)(ca:OA)(cn cc:Nat)(hp:pn<=1000)(s:BA) :
  Zr 18 #[.int .i64 k,.slice pa pn pc,.slice ca cn cc,.string s] w (tri none):=by
 have xA:Hid (∀W,Zr 9 #[.int .i64 k,.slice pa pn pc,.int .u64 (pn:Int)] W (.tuple #[.agg #[.int .u64 0,.string ⟨#[]⟩],.int .i64 70])):=fun W=>Qis W k hk pa pn pc pn
 have z1:(pn:Int)<=1000:=by omega
 clear hk hp
 go_enter func18,ntmps18
 go_upto_region 2 with (go_at_call 9;with_reducible refine(xA.out _).mono ?_;rintro e w2 ⟨rfl,xC⟩)
 obtain⟨F,xB,xD⟩ : ∃W,w2.alloc (.cells #[.int .u64 0,.string ⟨#[]⟩] 30)=W∧Zb w2 W:=⟨_,rfl,bal (Lb _ _) _⟩
 try rw[xB]
 clear xB;have HB:=Qe (Qa xC xD);clear xC xD xA;go_wp2;exact Lp (v:=tri none) (by simp[results,results18,go_sem,pA,pB']) rfl ⟨rfl,HB.out⟩
theorem Qok(w:World)(k:Int)(pa:OA)(pn pc:Nat)(ca:OA)(cn cc:Nat)(hp:pn<=1000)(s:BA)(c1:BA)
  (HRA:Hr w 9 #[.int .i64 k,.slice pa pn pc,.int .u64 (pn:Int)] (.tuple #[.agg #[.int .u64 (pn:Int),.string c1],.int .i64 0]))
  (r:Int) (hr:r≠0)
  (HL:Hr w 47 #[.int .i64 k,.agg #[.int .u64 (pn:Int),.string c1],.slice ca cn cc,.string s] (.int .i64 r)) :
  Zr 18 #[.int .i64 k,.slice pa pn pc,.slice ca cn cc,.string s] w (tri none):=by
 have hz:(r != 0)=true:=by simpa using hr
 have xG : ¬r=0:=hr;have z1:(pn:Int)<=1000:=by omega
 clear hr hp
 go_enter func18,ntmps18
 go_upto_region 2 with (go_at_call 9;with_reducible refine(HRA.out _ (Lb _ _)).mono ?_;rintro e w2 ⟨rfl,xB⟩)
 obtain⟨F,xA,xE,xC⟩ : ∃W,w2.alloc (.cells #[.int .u64 (pn:Int),.string c1] 30)=W∧Rh W w2.heap.size pn c1∧Zb w2 W:=⟨_,rfl,Qcn w2 pn c1,bal (Lb _ _) _⟩
 try rw[xA]
 clear xA;have xD:=Qa xB xC;obtain⟨e0,e1⟩:=xE.cells;clear xB xC xE HRA
 go_wp2_with (go_at_call 47;with_reducible refine(HL.out _ xD).mono ?_;rintro e w5 ⟨rfl,xF⟩)
 exact Lp (v:=tri none) (by simp[results,results18,go_sem,pA,pB']) rfl ⟨rfl,Qa xD xF⟩
theorem Qol(w:World)(k:Int)(pa:OA)(pb po pc:Nat)(L:LB)(hL:RdS w pa pb po L.length L)(ca:OA)(cb co cc:Nat)(l:List (Nat×BA))(hK:RdK w ca cb co l.length l)(hp:L.length<=1000)(hl:l.length<=8796093021952)(hin : ∀x∈l,x.1<L.length)(hso:soC L l)(s:BA)(c1:BA)
  (HRA:Hr w 9 #[.int .i64 k,.slice pa L.length pc,.int .u64 (L.length:Int)] (.tuple #[.agg #[.int .u64 (L.length:Int),.string c1],.int .i64 0]))
  (HL:Hr w 47 #[.int .i64 k,.agg #[.int .u64 (L.length:Int),.string c1],.slice ca l.length cc,.string s] (.int .i64 0)) :
  Zr 18 #[.int .i64 k,.slice pa L.length pc,.slice ca l.length cc,.string s] w (tri none):=by
 have xL:Hid (∀W,Zb w W->RdS W pa pb po L.length L∧RdK W ca cb co l.length l):=fun W hb=>⟨hL.next hb (Ld _),hK.next hb⟩
 have z1:(L.length:Int)<=1000:=by omega
 have zl:(l.length:Int)<=8796093021952:=by omega
 have xK:=Qe hin;have xM:=Qe hso;clear hL hK hp hl hin hso
 go_enter func18,ntmps18
 go_upto_region 2 with (go_at_call 9;with_reducible refine(HRA.out _ (Lb _ _)).mono ?_;rintro e w2 ⟨rfl,xG⟩)
 obtain⟨F,xF,xJ,xH⟩ : ∃W,w2.alloc (.cells #[.int .u64 (L.length:Int),.string c1] 30)=W∧Rh W w2.heap.size L.length c1∧Zb w2 W:=⟨_,rfl,Qcn w2 L.length c1,bal (Lb _ _) _⟩
 try rw[xF]
 clear xF;have xC:=Qa xG xH;obtain⟨e0,e1⟩:=xJ.cells;clear xG xH xJ HRA
 go_upto_region 4 with (go_at_call 47;with_reducible refine(HL.out _ xC).mono ?_;rintro e w5 ⟨rfl,xI⟩)
 have H0:=Qe (Qa xC xI);clear xC xI e0 e1 HL;go_wp2
 go_loopg [13,14] l.length (fun g b i wr => ∃j:Nat,g=l.length - j∧j<=l.length∧i = .int .i64 (j:Int)∧b = .bool true∧Hid (Zb w wr))
 case atStart=>go_light;exact⟨0,rfl,Ll _,rfl,rfl,H0⟩
 case round =>
  clear H0;obtain⟨j,rfl,hj,rfl,rfl,HI⟩:=hrel
  by_cases hlt:j<l.length
  ·have y0:(0:Int)<=(j:Int):=Lf _;have y1:(j:Int)<(l.length:Int):=by omega
   obtain⟨xE,xD⟩:=xL.out wr HI.out;obtain rfl:=xD.ptr (by omega)
   obtain⟨c0,xO⟩:=xD.at hlt;have xA:l.getD j noC∈l:=by rw[La,Lc hlt];exact LG _
   have hi:=xK.out _ xA;have xB:=xM.out _ xA;obtain⟨a,ha⟩:=Ze ((l.getD j noC).1);obtain⟨x,hx⟩:=Ze ((l.getD j noC).2);rw[ha] at c0 hi xB;rw[hx] at xO xB;obtain rfl:=xE.ptr (by omega)
   have ci:=xE.at hi;rw[xB] at ci;have q0:(0:Int)<=(a:Int):=Lf _;have q1:(a:Int)<(L.length:Int):=by omega
   have xN:Hid (∀t,Zb w (wr.drewN t)):=fun t=>Qd HI.out t
   clear xE xD xA ha hx xB HI hi
   go_upto_region 8 with (fail)
   go_quiet (fail)
   go_wp2
   go_roundg (l.length - (j+1))
   case rel=>go_light;exact⟨j+1,rfl,by omega,by go_num,rfl,xN.out _⟩
   case measure=>go_light;omega
  ·obtain rfl:j=l.length:=by omega
   have xP : ¬(l.length:Int)<(l.length:Int):=by omega
   have hB:=HI.out;clear HI hlt hj;go_wp2;exact Lp (v:=tri none) (by simp[results,results18,go_sem,pA,pB']) rfl ⟨rfl,hB⟩
section
open Cv (zl)
theorem Qc3{w w':World}{B:Nat}{v u:Value}{L:LB}{l:List (Int×Nat)}(ho:Qk w B v L)(hB:Cv.Qx w B u l)(g:w.grownBy w' v.ownBlock):Cv.Qx w' B u l :=
 Qi hB fun b hb _=>g.block b (LP hB b hb).2 fun e=>Qd7 hB ho (by decide) hb e.symm
theorem QbN{f:Nat×Nat->LB}{N:List (Nat×Nat)}{j:Nat}(hj:j<N.length):(N.take (j+1)).flatMap f=(N.take j).flatMap f++f (N.getD j (0,0)):=by
 rw[QcB (0,0) N j hj,NW];simp
theorem J4{f:Nat×Nat->LB}{N:List (Nat×Nat)}{m:Nat}(h : ∀b∈N,(f b).length<=m):(N.flatMap f).length<=N.length*m:=by
 induction N with
 | nil=>simp
 | cons b N ih =>
  have h1:=ih (fun x hx=>h x (L4 _ hx))
  have h2:=h b (Nq ..);rw[NN,Lg,Lt,Nat.succ_mul];omega
theorem QeN{f:Nat×Nat->LB}{N:List (Nat×Nat)}{m:Nat}(h : ∀b∈N,∀x∈f b,x.size<=m) : ∀x∈N.flatMap f,x.size<=m:=fun x hx=>by
 obtain⟨b,hb,hx⟩:=List.mem_flatMap.1 hx;exact h b hb x hx
section
variable (w:World) (k:Int) (pa:OA) (pn pc:Nat) (qa:OA) (qn qc:Nat) (hp:pn<=1000) (hq:qn<=1000) (s:BA) (c1 c2:BA)
  (HRA:Hr w 9 #[.int .i64 k,.slice pa pn pc,.int .u64 (pn:Int)] (.tuple #[.agg #[.int .u64 (pn:Int),.string c1],.int .i64 0]))
  (HRB:Hr w 9 #[.int .i64 k,.slice qa qn qc,.int .u64 (qn:Int)] (.tuple #[.agg #[.int .u64 (qn:Int),.string c2],.int .i64 0]))
include hp hq HRA HRB
end
end
def itm(j:Nat):BA:=⟨#[0,UInt8.ofNat j,120]⟩
def twT:List Nat:=[60,97,171,134,88,22,17,54,184,101,139,97]
theorem Qn4:Ov RS [0,0,0,120]=[60,115,51,89,170,121,94,68,26,117,65,74,121,5,229,159,180,97,156,229,95,57,133,109,216,143,125,140,40,63,22,143]:=by kernel_rfl
theorem QmI:Ov RS [0,0,1,120]=[97,111,209,249,112,229,104,253,142,89,247,175,177,203,231,229,179,47,215,18,47,2,11,44,194,13,204,220,147,99,98,153]:=by kernel_rfl
theorem Qn5:Ov RS [0,0,2,120]=[171,15,227,212,170,136,104,38,208,193,179,66,48,220,236,187,163,199,23,142,116,57,40,159,121,243,154,140,174,108,196,230]:=by kernel_rfl
theorem Qn6:Ov RS [0,0,3,120]=[134,40,167,133,147,101,146,21,120,134,195,6,81,34,198,177,189,127,159,50,138,70,34,15,245,211,66,37,182,138,24,121]:=by kernel_rfl
theorem Qn7:Ov RS [0,0,4,120]=[88,128,152,147,177,183,140,206,90,9,31,118,69,75,27,173,38,124,150,91,75,46,45,186,238,197,152,28,241,48,92,74]:=by kernel_rfl
theorem Qn8:Ov RS [0,0,5,120]=[22,65,3,192,184,250,151,203,27,253,199,4,105,198,210,176,108,243,184,81,164,46,161,231,67,34,97,67,28,123,124,94]:=by kernel_rfl
theorem Qn9:Ov RS [0,0,6,120]=[17,109,222,42,20,150,144,158,205,7,132,205,234,200,25,43,66,104,39,60,237,120,143,142,57,53,59,205,233,229,124,165]:=by kernel_rfl
theorem Qoa:Ov RS [0,0,7,120]=[54,224,149,243,247,62,243,138,148,93,185,205,96,26,36,164,139,180,140,161,102,144,104,114,213,41,23,89,75,72,28,107]:=by kernel_rfl
theorem Qob:Ov RS [0,0,8,120]=[184,76,106,39,223,38,136,60,186,236,103,192,177,255,24,29,207,225,186,7,155,114,52,71,179,147,216,240,99,97,14,15]:=by kernel_rfl
theorem Qoc:Ov RS [0,0,9,120]=[101,83,181,139,142,94,11,58,116,254,160,129,104,73,251,206,36,118,106,26,22,88,198,137,73,147,100,32,5,220,139,241]:=by kernel_rfl
theorem Qnj:Ov RS [0,0,10,120]=[139,90,170,69,74,86,59,223,246,207,166,9,101,203,57,184,136,69,93,136,224,131,236,247,127,44,191,120,39,254,192,58]:=by kernel_rfl
theorem Qjl:Ov RS [0,0,11,120]=[97,136,105,244,76,5,210,178,39,23,81,140,105,139,200,120,43,2,241,63,78,221,196,56,7,235,170,43,19,171,199,41]:=by kernel_rfl
theorem Jy(j:Nat)(l r:List Int)(d:Int)(h:Ov RS l=d::r)(hl:l.length<64)(hj:tB (Qh (itm j))=l):(shaT RS (tB (Qh (itm j)))).getD 0 0=d:=by
 rw[hj,<-Qee _ _ hl,h];rfl
theorem Qmv : ∀j,j<12->(shaT RS (tB (Qh (itm j)))).getD 0 0=((twT.getD j 0:Nat):Int)
 | 0,_=>(Jy 0 _ _ _ Qn4 (by decide) (by kernel_rfl)).trans (by rfl)
 | 1,_=>(Jy 1 _ _ _ QmI (by decide) (by kernel_rfl)).trans (by rfl)
 | 2,_=>(Jy 2 _ _ _ Qn5 (by decide) (by kernel_rfl)).trans (by rfl)
 | 3,_=>(Jy 3 _ _ _ Qn6 (by decide) (by kernel_rfl)).trans (by rfl)
 | 4,_=>(Jy 4 _ _ _ Qn7 (by decide) (by kernel_rfl)).trans (by rfl)
 | 5,_=>(Jy 5 _ _ _ Qn8 (by decide) (by kernel_rfl)).trans (by rfl)
 | 6,_=>(Jy 6 _ _ _ Qn9 (by decide) (by kernel_rfl)).trans (by rfl)
 | 7,_=>(Jy 7 _ _ _ Qoa (by decide) (by kernel_rfl)).trans (by rfl)
 | 8,_=>(Jy 8 _ _ _ Qob (by decide) (by kernel_rfl)).trans (by rfl)
 | 9,_=>(Jy 9 _ _ _ Qoc (by decide) (by kernel_rfl)).trans (by rfl)
 | 10,_=>(Jy 10 _ _ _ Qnj (by decide) (by kernel_rfl)).trans (by rfl)
 | 11,_=>(Jy 11 _ _ _ Qjl (by decide) (by kernel_rfl)).trans (by rfl)
theorem Qfv : ∀j,j<12->twT.getD j 0<256:=by decide
def hadC(Z:Array Value):Nat->Array Value
 | 0=>Z
 | j+1=>(hadC Z j).setIfInBounds (twT.getD j 0) (.string (itm j))
theorem Qjw : ∀j,j<11->(hadC Tryz.zeroCells94 j)[twT.getD j 0]? = some (.string ⟨#[]⟩)
 | 0,_=>by kernel_rfl
 | 1,_=>by kernel_rfl
 | 2,_=>by kernel_rfl
 | 3,_=>by kernel_rfl
 | 4,_=>by kernel_rfl
 | 5,_=>by kernel_rfl
 | 6,_=>by kernel_rfl
 | 7,_=>by kernel_rfl
 | 8,_=>by kernel_rfl
 | 9,_=>by kernel_rfl
 | 10,_=>by kernel_rfl
theorem Qls:(hadC Tryz.zeroCells94 11)[97]? = some (.string (itm 1)):=by kernel_rfl
theorem QhQ(b:BA)(x:Int)(hm:0<b.size)(hx:(tB b).getD 0 0=x)(w:World):(Instr.index 9 (.string b) (.int .i64 0)).run prog w = .ok (.int .u8 x) w:=by
 subst hx;have e:(tB b).getD 0 0=(b[0].toNat:Int):=by
  have:b.data.toList[0]? = some b[0]:=by
   rw[ND,Nl (by simpa using hm)];rfl
  simp[tB,List.getD_eq_getElem?_getD,this]
 have h2:b[0]? = some b[0]:=getElem?_pos b 0 hm
 rw[e];simp[Instr.index,asIntOf,run_underlying underlying9,h2]
theorem Qfr(w:World)(a b c:Nat)(ha:a<256)(hb:b<256)(hc:c<256):(convert 95 9 (.slice (some ⟨w.heap.size,0,none⟩) 3 3)).run prog (w.alloc (.cells #[.int .u8 (a:Int),.int .u8 (b:Int),.int .u8 (c:Int)] 5)) = .ok (.string ⟨#[UInt8.ofNat a,UInt8.ofNat b,UInt8.ofNat c]⟩) (w.alloc (.cells #[.int .u8 (a:Int),.int .u8 (b:Int),.int .u8 (c:Int)] 5)):=by
 refine run_convert_bytes_back _ 95 9 5 ⟨w.heap.size,0,none⟩ 3 [UInt8.ofNat a,UInt8.ofNat b,UInt8.ofNat c] underlying95 underlying5 underlying9 fun j hj => ?_
 rw[Addr.add_mid];have h1:=QB ha;have h2:=QB hb;have h3:=QB hc;refine Qu w [.int .u8 (a:Int),.int .u8 (b:Int),.int .u8 (c:Int)] 5 j _ ?_
 match j,hj with
 | 0,_=>simp[h1]
 | 1,_=>simp[h2]
 | 2,_=>simp[h3]
theorem QfR(l:List Int)(d:Nat)(hd:d<256)(h:l.getD 0 0=(d:Int)):(tB (Q4 l)).getD 0 0=(d:Int):=by
 rw[tB,YV,List.map_map]
 cases l with
 | nil=>exact h
 | cons a t =>
  have h:a=(d:Int):=h;subst h;simp only[List.map_cons,List.getD_cons_zero,Function.comp,Int.toNat_natCast];have:=QB hd;omega
def Hd(w:World)(g j:Nat):Prop:=w.heap[g]? = some (.cells (hadC Tryz.zeroCells94 j) 94 (0,0))
theorem Hd.lt{w:World}{g j:Nat}(h:Hd w g j):g<w.heap.size:=(Array.getElem?_eq_some_iff.1 h).1
theorem Hd.next{w W:World}{g j:Nat}(h:Hd w g j)(hb:Zb w W):Hd W g j:=(hb.block g h.lt).trans h
theorem QiI(w:World)(hr:Tr w):Zr 19 #[] w (.tuple #[.string (itm 1),.string (itm 11)]):=by
 have xI:Hd (w.alloc (.cells Tryz.zeroCells94 94)) w.heap.size 0:=Lu w _;have xH:=bal (Lb w.heap.size w) (.cells Tryz.zeroCells94 94);have HR:=Qe hr;have xG:=Qe xI;have xF:=Qe xH;clear hr xI xH
 go_enter func19,ntmps19;go_wp2
 go_loopg [3] 12 (fun g i wr => ∃j:Nat,g=12 - j∧j<12∧i = .int .i64 (j:Int)∧Hid (Hd wr w.heap.size j∧Zb w wr))
 case atStart=>go_light;exact⟨0,rfl,by decide,rfl,⟨xG.out,xF.out⟩⟩
 case round =>
  clear xG xF;obtain⟨j,rfl,hj,rfl,HI⟩:=hrel;have z1:(j:Int)<300:=by omega
  have z2:(j:Int) / 20=0:=by omega
  have z3:(j:Int) % 20=(j:Int):=by omega
  have z4:(j:Int)<12:=by omega
  have z5:(0:Int)<=(j:Int):=Lf _;have HT:=Qfr wr 0 j 120 (by decide) (by omega) (by decide)
  rw[show((0:Nat):Int)=0 from rfl,show((120:Nat):Int)=120 from rfl] at HT
  have xJ:(⟨#[UInt8.ofNat 0,UInt8.ofNat j,UInt8.ofNat 120]⟩:BA)=itm j:=rfl;rw[xJ] at HT;clear xJ;obtain⟨x,hx⟩:=Ze (itm j);rw[hx] at HT;have xP:x.size=3:=by rw[<-hx];rfl
  obtain⟨r,hr⟩:=Ze (Jd RS (tB (Qh x)));obtain⟨d,hd⟩:=Ze (twT.getD j 0);have xA:d<256:=by rw[<-hd];exact Qfv j hj
  have xL:(tB r).getD 0 0=(d:Int):=by
   have:=Qmv j hj;rw[hx,hd] at this;rw[<-hr];exact QfR _ _ xA this
  have xM:0<r.size:=by rw[<-hr,Je];decide
  have xN:=QhQ r (d:Int) xM xL;have HX:=Qe (Lo hx hd);obtain⟨W1,xB⟩:=Ze (wr.alloc (.cells #[.int .u8 0,.int .u8 (j:Int),.int .u8 120] 5));have xC:Zb wr W1:=by rw[<-xB];exact bal (Lb _ _) _
  rw[xB] at HT;obtain⟨t,ht⟩:=Ze ((⟨#[0]⟩:BA)++x);have HO:Hid (∀V,Zb w V->Calls prog 31 #[.slice (some ⟨V.heap.size,0,none⟩) 1 1] (V.alloc (.cells #[.string t] 9)) fun e w'=>e = .returned (.string r)∧Zb V w'):=fun V hb=>by
   have xO:Qh x=t:=ht;have:=Qd1 V (HR.out.next hb) (Qh x) (by rw[Yu];omega) r hr
   rwa [xO] at this
  have xE:=Qa HI.out.2 xC;clear hx hd hr xL xM xA
  go_upto_region 7 with (go_at_call 31;with_reducible refine(HO.out _ xE).mono ?_;rintro e w2 ⟨rfl,xD⟩)
  have hH:=HI.out.1.next (Qa xC xD);have hb:=Qa xE xD;have q0:(0:Int)<=(d:Int):=Lf _;have q1:(d:Int)<256:=by have:=HX.out.2;have:=Qfv j hj;omega
  have HH:=Qe (Lo hH hb);clear xE xC xD HT xN xB HO ht xP
  by_cases hl:j<11
  ·have c0:w2.cell? ⟨w.heap.size,d,none⟩=some (.string ⟨#[]⟩):=by
    rw[cell_of_row w2 w.heap.size d _ _ (0,0) hH,<-HX.out.2];exact Qjw j hl
   have fz:w2.frozen? ⟨w.heap.size,d,none⟩=false:=frozen_of_row w2 w.heap.size d _ _ hH;clear hH hb;have HN:Hid (Hd (w2.setCell ⟨w.heap.size,d,none⟩ (.string x)) w.heap.size (j+1)∧Zb w (w2.setCell ⟨w.heap.size,d,none⟩ (.string x))):=by
    refine⟨?_,HH.out.2.trans ((((ChT.refl (fun b=>b=w.heap.size) w2).set w.heap.size d (.string x) rfl)).below (by rintro b rfl;exact Ld _))⟩
    have:=LI w2 w.heap.size d _ _ (.string x) HH.out.1;rw[<-HX.out.2,<-HX.out.1] at this ⊢;exact this
   go_wp2
   go_roundg (12 - (j+1))
   case rel=>go_light;exact⟨j+1,rfl,by omega,by go_num,HN⟩
   case measure=>go_light;omega
  ·obtain rfl:j=11:=by omega
   have c0:w2.cell? ⟨w.heap.size,d,none⟩=some (.string (itm 1)):=by
    rw[cell_of_row w2 w.heap.size d _ _ (0,0) hH,<-HX.out.2];exact Qls
   obtain⟨y,hy⟩:=Ze (itm 1);rw[hy] at c0;have xK:y≠⟨#[]⟩:=fun e=>by
    have:=LU ByteArray.size (hy.trans e);exact absurd this (by decide)
   have hz:=Uu xK;have xQ:y.toList.isEmpty=false:=by
    cases h:y.toList with
    | nil=>exact absurd (h.trans (by rw[QdN])) hz
    | cons a t=>rfl
   have HY:=Qe hy;clear hH hb xK hy hz;go_wp2;exact Lp (v := .tuple #[.string y,.string x]) (by simp[results,results19,go_sem]) rfl ⟨by rw[HY.out,HX.out.1],HH.out.2⟩
abbrev s0A:BA:=⟨#[1,1,1,0]⟩
theorem Qi7:dec s0A.data.toList=some ⟨1,1,0,1,[0],[]⟩:=by kernel_rfl
theorem Qho:Wy 1 0 [] 0 []:=⟨by decide,by decide,(fun a h=>by cases h),(fun a h=>by cases h)⟩
theorem QgB:Cv.dnL 41 0 1=[(0,0)]:=by decide
theorem QgF(b:BA)(d:UInt8)(t:List UInt8)(h:b.data.toList=d::t):b.extract 0 1=⟨#[d]⟩:=by
 apply Iz
 apply Array.toList_inj.1
 rw[NH,Ig,h]
 rfl
theorem QkO:dg 1 (Qh (itm 1))=dg 1 (Qh (itm 11)):=by
 have h1:(Jd RS (tB (Qh (itm 1)))).data.toList=(97:UInt8)::((shaT RS (tB (Qh (itm 1)))).drop 1).map fun n=>UInt8.ofNat n.toNat:=by
  rw[Jd,YV,show tB (Qh (itm 1))=[0,0,1,120] by kernel_rfl,<-Qee _ _ (by decide),QmI];rfl
 have h2:(Jd RS (tB (Qh (itm 11)))).data.toList=(97:UInt8)::((shaT RS (tB (Qh (itm 11)))).drop 1).map fun n=>UInt8.ofNat n.toNat:=by
  rw[Jd,YV,show tB (Qh (itm 11))=[0,0,11,120] by kernel_rfl,<-Qee _ _ (by decide),Qjl];rfl
 rw[dg,dg,QgF _ _ _ h1,QgF _ _ _ h2]
theorem QiH:itm 1≠itm 11:=by decide
theorem QnI(c:Nat)(x:BA):rtD c [x] 1=dg c (QI 1 (dg c (Qh x))):=by
 have:=Qkq (c:=c) (L:=[x]) (show 1<=2^40 by decide)
 rw[show[x].length=1 from rfl,QgB] at this
 exact this
theorem Ql9(c:Nat)(x:BA):rtP c 1 0 0 0 [] x=dg c (QI 1 (dg c (Qh x))):=rfl
theorem QgX(x y:BA)(hx:x.size<=1000)(hy:y.size<=1000)(he:dg (clk 1) (Qh x)=dg (clk 1) (Qh y)) : ∃c T,ClmX 1 [x] [(0,y)] s0A 1 c 0 T:=by
 obtain⟨c,hc⟩:=Ze (rtD (clk 1) [x] 1);have xB:rtP (clk 1) 1 0 0 0 [] y=c:=by rw[Ql9,<-he,<-QnI];exact hc
 refine Exists.elim (QbL 1 (by decide) [x] (by simp) (fun s hs=>by simp at hs;subst hs;omega) [(0,y)] (by simp) s0A (by decide) c hc 0 (fun W ca cb co cc ht hK => ?_) (fun _=>⟨_,by decide,by decide,Qi7,rfl,rfl,rfl,rfl,(show 1<=2^40 by decide),fun z hz=>by simp at hz;subst hz;omega,.inl ⟨rfl,0,[],0,[],rfl,Qho,(show 0<1 by decide),⟨rfl,fun d hd=>by cases hd⟩,xB⟩⟩)) fun T hT=>⟨c,T,hT⟩
 ·refine UD W 1 (by decide) (by decide) 1 c ca cb co 1 cc [(0,y)] hK (by decide) s0A (by decide) _ Qi7 rfl ⟨.inl rfl,rfl⟩ 1 c 0 (fun V sa sb sc da db dc ao m q hb hF ho => ?_) 0 (by rw[clmD,Lm ⟨rfl,rfl,rfl⟩])
  obtain⟨xG,xb,c',xE,xF,xH,xI⟩:=Qt ho (fun z hz=>by simp at hz;subst hz;omega)
  injection xE with e1 e2 e3
  subst e1 e2 e3;refine Ot V 1 0 1 sa 1 sc da 0 dc ao xb 0 1 q [y] xF (by decide) 1 c 0 fun Z hbZ => ?_
  have xA:=hF.next hbZ;have xC:=xA.p.rs.ptr (show 0<1 by decide)
  subst xC;have xD:RA Z 1 1 sb 0 0 0 [] []:=⟨by decide,by decide,by decide,Qho,by have:=xA.p.rs.at (j:=0) (show 0<1 by decide);simpa using this⟩
  exact Qax Z 1 1 sb 0 sc 0 0 [] [] xD da db 0 dc [] xA.p.rd (by decide) y ⟨rfl,fun d hd=>by cases hd⟩ (by omega) (ht.next (Qa hb hbZ)) xA.p.cD xA.mC xA.nD c xB
theorem QhZ{x y c:BA}{T:Pq}(X:ClmX 1 [x] [(0,y)] s0A 1 c 0 T)(he:dg (clk 1) (Qh x)=dg (clk 1) (Qh y))(hne:x≠y):T=some (Qh x,Qh y):=by
 obtain⟨_,P,Bs,K,R,A,Tr,_,h2⟩:=X.yes rfl;have xA : ¬soC [x] [(0,y)]:=fun h=>hne (h (0,y) (by simp))
 rw[h2 xA];have hM:ixM Bs 0 0=none:=by
  have:=(Tr.free 0 (by simp)).2 0
  rwa [NC,Ih] at this
 have hV:vlC [(0,y)] 0=y:=rfl;have hn:nd (clk 1) [x] 0 0=xd (clk 1) (ixM Bs) P.D (vlC [(0,y)]) 0 0:=by
  rw[Qah hM,hV];exact he
 unfold wk;rw[show[x].length=1 from rfl,QgB]
 simp only[List.map_cons,List.map_nil,fm];rw[hn,Qmt,ON hM,hV];have hl:Qh ([x].getD 0 ByteArray.empty)≠Qh y:=fun e=>hne (QcZ e)
 rw[un,Le hl]
 rfl
theorem Qe2{x y c:BA}{T:Pq}(X:ClmX 1 [x] [(0,y)] s0A 1 c 0 T)(hx:x.size<=1000)(hy:y.size<=1000)(V:World)(ht:Tb V):Calls prog 10 #[.int .i64 1,.slice (some ⟨V.heap.size,0,none⟩) 1 1,.slice (some ⟨V.heap.size+1,0,none⟩) 1 1,.string s0A] ((V.alloc (.cells #[.string x] 9)).alloc (.cells #[.int .u64 0,.string y] 38)) fun e w'=>e = .returned (tri T)∧Zb V w':=by
 have xB:=bal (Lb V.heap.size V) (.cells #[.string x] 9);have xA:=bal (Lb _ (V.alloc (.cells #[.string x] 9))) (.cells #[.int .u64 0,.string y] 38);have hR:RdS ((V.alloc (.cells #[.string x] 9)).alloc (.cells #[.int .u64 0,.string y] 38)) (some ⟨V.heap.size,0,none⟩) V.heap.size 0 1 [x]:=(YO V x (by omega)).next xA (Ld _)
 have hK:RdK ((V.alloc (.cells #[.string x] 9)).alloc (.cells #[.int .u64 0,.string y] 38)) (some ⟨V.heap.size+1,0,none⟩) (V.heap.size+1) 0 1 [(0,y)]:=by
  refine⟨rfl,fun _=>rfl,?_,fun z hz=>by simp at hz;subst hz;simp only;omega⟩
  have:=Qu (V.alloc (.cells #[.string x] 9)) [.int .u64 0,.string y] 38;rw[LA] at this;exact this
 exact(X.ext _ _ _ _ 1 _ _ _ 1 (ht.next (Qa xB xA)) hR (Ld _) hK).mono fun e w' ⟨h1,h2⟩=>⟨h1,Qa (Qa xB xA) h2⟩
theorem Qhs(w:World)(ht:Tb w)(hr:Tr w):Zr 7 #[] w (.bool true):=by
 have xI:Hid (Zr 19 #[] w (.tuple #[.string (itm 1),.string (itm 11)])):=QiI w hr;have xB:dg (clk 1) (Qh (itm 1))=dg (clk 1) (Qh (itm 11)):=QkO;have xA:=QiH;have z1:(itm 1).size<=1000:=by decide
 have z2:(itm 11).size<=1000:=by decide
 generalize itm 1=x at *;generalize itm 11=y at *;obtain⟨c1,T1,X1⟩:=QgX x y z1 z2 xB;obtain⟨c2,T2,X2⟩:=QgX x x z1 z1 rfl;have e1:=QhZ X1 xB xA;have e2:T2=none:=(QhD X2).2.1 (fun c hc=>by simp at hc;subst hc;rfl)
 subst e1 e2;have xD:Hid (∀V,Zb w V->Calls prog 10 #[.int .i64 1,.slice (some ⟨V.heap.size,0,none⟩) 1 1,.slice (some ⟨V.heap.size+1,0,none⟩) 1 1,.string s0A] ((V.alloc (.cells #[.string x] 9)).alloc (.cells #[.int .u64 0,.string y] 38)) fun e w'=>e = .returned (.tuple #[.string (Qh x),.string (Qh y),.bool true])∧Zb V w'):=fun V hb=>Qe2 X1 z1 z2 V (ht.next hb)
 have xH:Hid (∀V,Zb w V->Calls prog 10 #[.int .i64 1,.slice (some ⟨V.heap.size,0,none⟩) 1 1,.slice (some ⟨V.heap.size+1,0,none⟩) 1 1,.string s0A] ((V.alloc (.cells #[.string x] 9)).alloc (.cells #[.int .u64 0,.string x] 38)) fun e w'=>e = .returned (.tuple #[.string ⟨#[]⟩,.string ⟨#[]⟩,.bool false])∧Zb V w'):=fun V hb=>Qe2 X2 z1 z1 V (ht.next hb)
 obtain⟨t1,xK⟩:=Ze ((⟨#[0]⟩:BA)++x);obtain⟨t2,xL⟩:=Ze ((⟨#[0]⟩:BA)++y);have xF:Qh x=t1:=xK;have xG:Qh y=t2:=xL;rw[xF,xG] at xD;have hz:=Uu xA;have xM:=YZ xA;clear xB xA X1 X2 xF xG
 go_enter func7,ntmps7
 go_wp2_with (first
  | (go_at_call 19;with_reducible refine xI.out.mono ?_;rintro e w1 ⟨rfl,xC⟩)
  | (go_at_call 10;with_reducible refine(xD.out _ xC).mono ?_;rintro e w2 ⟨rfl,xE⟩)
  | (go_at_call 10;with_reducible refine(xH.out _ (Qa xC xE)).mono ?_;rintro e w3 ⟨rfl,xJ⟩))
 go_ret
 exact⟨rfl,Qa (Qa xC xE) xJ⟩
def Sd2(w:World)(g:Nat)(ca:OA)(cn cc:Nat)(s:BA):Prop:=w.heap[g]? = some (.cells #[.slice ca cn cc,.string s] 25 (0,0))
section
variable {w W:World} {g cn cc:Nat} {ca:OA} {s:BA}
theorem Sd2.cells(h:Sd2 w g ca cn cc s):w.cell? ⟨g,0,none⟩=some (.slice ca cn cc)∧w.cell? ⟨g,1,none⟩=some (.string s):=by
 refine⟨?_,?_⟩
 ·rw[cell_of_row w g 0 _ _ (0,0) h];rfl
 ·rw[cell_of_row w g 1 _ _ (0,0) h];rfl
theorem Sd2.lt(h:Sd2 w g ca cn cc s):g<w.heap.size:=(Array.getElem?_eq_some_iff.1 h).1
theorem Sd2.next(h:Sd2 w g ca cn cc s)(hb:Zb w W):Sd2 W g ca cn cc s:=(hb.block g h.lt).trans h
theorem Qmd(w:World)(ca:OA)(cn cc:Nat)(s:BA) : ∃W,w.alloc (.cells #[.slice ca cn cc,.string s] 25)=W∧Sd2 W w.heap.size ca cn cc s∧Zb w W:=⟨_,rfl,Lu w _,bal (Lb _ _) _⟩
end
theorem Qkv{L:LB}{l:List (Nat×BA)}{j:Nat}(hj:j<l.length):soC L (l.take (j+1))↔soC L (l.take j)∧L.getD (l.getD j noC).1 ByteArray.empty=(l.getD j noC).2:=by
 have e:l.take (j+1)=l.take j++[l.getD j noC]:=by rw[LW hj,La,Lc hj];rfl
 rw[e];unfold soC
 constructor
 ·intro h;exact⟨fun c hc=>h c (Iv _ hc),h _ (NQ _ (by simp))⟩
 ·rintro⟨h1,h2⟩ c hc
  rcases List.mem_append.1 hc with hc|hc
  ·exact h1 c hc
  ·rw[N6] at hc;subst hc;exact h2
theorem Qkw(L:LB)(l:List (Nat×BA)):decide (soC L (l.take 0))=true:=Ln fun c hc=>by rw[NS] at hc;cases hc
end Go.Proofs.YtdocjikpcbmcgaaGreatDoor
