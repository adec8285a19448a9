/- Own work. -/
import Derived.Test.YtdocjikpcbmcgaaGreatDoorQj43
set_option maxRecDepth 100000
set_option maxHeartbeats 2000000
namespace Go.Proofs.YtdocjikpcbmcgaaGreatDoor
open Go.RowKit
attribute [local go_sem ↓] Go.wp_at_zero Go.wp_at_succ
theorem QhT{α:Type}(d:α)(l:List α)(i:Nat)(h:i<l.length):l.take i++[l.getD i d]=l.take (i+1):=by
 rw[LQ h,La,Lc h];rfl
theorem QbS{α β:Type}(f:α->β)(d:α)(e:β)(l:List α)(i:Nat)(h:i<l.length):(l.map f).getD i e=f (l.getD i d):=by
 simp[List.getD_eq_getElem?_getD,List.getElem?_eq_getElem h]
theorem OG(w:World)(ht:Tr w)(k:Int)(ao:OA)(b off len cap:Nat)(L:LB)(hr:RdS w ao b off len L)(hsz : ∀s∈L,s.size<=140737488351232)(hmx:len<=1099511627776)(hc:len<=cap)(P:LB)(hP:Hid (pks (clk k) L 41=P)) :
  Calls Tryz.prog 22 #[.int .i64 k,.slice ao len cap] w fun e w' => ∃v,e = .returned v∧Qk w' w.heap.size v P∧Zb w w':=by
 obtain⟨Hs,hHs⟩ : ∃Hs,Hid (gen id len 41=Hs):=⟨_,rfl⟩;obtain⟨M,hM⟩ : ∃M,Hid (gen (mtP len) len 41=M):=⟨_,rfl⟩;have HMt:=fun W=>Yq W len hmx M hM
 have hLl:=hr.hl;have eM:M=Hs.map (mtP len):=by
  have h1:=Qdn (mtP len) id len 41;rw[hHs.out] at h1;rw[h1];exact hM.out.symm
 have eP:P=Hs.map (fun s=>nd (clk k) L s (len / 2^s - 1)):=by
  have h1:=Qdn (fun s=>nd (clk k) L s (len / 2^s - 1)) id len 41
  have h2:=Qf7 (clk k) L 41;rw[hHs.out] at h1;rw[hLl] at h2;rw[h1];exact hP.out.symm.trans h2.symm
 have lH:Hs.length<=41:=by rw[<-hHs.out];exact Qdm _ _ _
 have lM:M.length=Hs.length:=by rw[eM];simp
 have lP:P.length=Hs.length:=by rw[eP];simp
 have HT:Hid (Tr w∧RdS w ao b off len L∧(∀s∈L,s.size<=140737488351232)∧len<=1099511627776∧len<=cap):=⟨ht,hr,hsz,hmx,hc⟩;have HV:Hid (∀i,i<Hs.length -> ∃s t z i',s<=40∧2^s=z∧M.getD i (0,0)=(t,z)∧t+z<=len∧t=i' * 2^s∧P.getD i ByteArray.empty=nd (clk k) L s i'):=fun i hi=>by
  obtain⟨s,hs⟩:=Ze (Hs.getD i 0);have hmem:s∈gen id len 41:=by
   rw[hHs.out,<-hs,La,Lc hi];exact LO _
  obtain⟨hs41,hbit⟩:=Qdo 41 s hmem;obtain⟨hat,hge⟩:=Qep hbit;refine⟨s,(len / 2^s - 1)*2^s,2^s,len / 2^s - 1,by omega,rfl,?_,?_,rfl,?_⟩
  ·rw[eM,QbS _ 0 _ _ _ hi,hs,mtP]
  ·have h5:=I_ len (2^s);rw[Nat.sub_mul,LP];have:1*2^s<=len / 2^s*2^s:=Lo _ hge;omega
  ·rw[eP,QbS _ 0 _ _ _ hi,hs]
 have HSz:Hid (∀s∈P,s.size<=9223372036854775807):=fun s hs=>by rw[<-hP.out] at hs;rw[Qb0 (Qx k) _ _ s hs];have:=Qx k;omega
 have hb:=Below.refl w.heap.size w;have HL:Hid (Hs.length<=41∧M.length=Hs.length∧P.length=Hs.length):=⟨lH,lM,lP⟩;clear ht hr hsz hmx hc hP hHs hM hLl eM eP lH lM lP
 go_enter Tryz.func22,Tryz.ntmps22
 go_wp2_with (go_at_call 54;with_reducible refine(HMt _).mono ?_;rintro e w1 ⟨vM,rfl,hoM,hb1⟩)
 clear HMt;obtain⟨q,hq⟩:=Ze Hs.length;obtain⟨aoM,cM,hvM,hoM2⟩ : ∃aoM cM,vM = .slice aoM q cM∧(0<q -> ∃g,aoM=some ⟨g,0,none⟩∧OwnP w1 w.heap.size (.slice (some ⟨g,0,none⟩) q cM) M):=by
  have hl:=HL.out.2.1
  rcases hoM.2 with ⟨hv,h0⟩|⟨g,cp,cur,hv,_⟩
  ·refine⟨none,0,?_,fun h => ?_⟩
   ·rw[hv,show q=0 by omega]
   ·omega
  ·refine⟨some ⟨g,0,none⟩,cp,?_,fun _=>⟨g,rfl,?_⟩⟩
   ·rw[hv,hl,hq]
   ·have:=hoM;rw[hv,hl,hq] at this;exact this
 subst hvM;rw[hq] at HL HV;have HO:Hid (0<q -> ∃g,aoM=some ⟨g,0,none⟩∧OwnP w1 w.heap.size (.slice (some ⟨g,0,none⟩) q cM) M):=hoM2;have HB1:Hid (Zb w w1):=hb1;have hq41:(q:Int)<=41:=by have:=HL.out.1;omega
 clear hoM hoM2 hb1 hq
 go_loopg [6,7] q (fun gg v i0 wr => ∃i:Nat,i<=q∧gg=q - i∧i0 = .int .i64 (i:Int)∧Qk wr w1.heap.size v (P.take i)∧Zb w1 wr)
 case atStart =>
  go_light;exact⟨0,Lf _,rfl,rfl,YV _ _,Below.refl _ _⟩
 case round =>
  obtain⟨i,hi,rfl,rfl,ho,hb2⟩:=hrel;have hi0:(0:Int)<=(i:Int):=Le _
  by_cases hlt:i<q
  ·have hlt':(i:Int)<(q:Int):=by omega
   obtain⟨g,rfl,hoM⟩:=HO.out (by omega)
   obtain⟨s,t,z,i',hs40,hz,hM,htz,hti,hPi⟩:=HV.out i hlt;obtain⟨t1,t2,t3,t4,t5⟩:=HT.out;have hz0:0<z:=by rw[<-hz];exact LL s
   obtain rfl:=t2.ptr (by omega)
   obtain⟨x,hx⟩:=Ze (P.getD i ByteArray.empty);rw[hx] at hPi;have HTr:Hid (∀W,Zb w1 W->Zr 55 #[.int .i64 k,.slice (some ⟨b,off+t,none⟩) z (cap - t)] W (.string x)):=fun W hb=>by
    refine QcT W (t1.next (Qa HB1.out hb)) k _ b (off+t) (cap - t) s z hs40 hz ((L.drop t).take z) ((t2.next (Qa HB1.out hb) (Lb _)).cut t z (by omega)) (fun y hy=>t3 y (LU (LJ hy))) x ?_
    show _=_
    rw[hti,<-hz,Qi2];exact hPi.symm
   have hlM:=HL.out;have HK0:Hid (∀W,Zb w1 W->W.cell? ⟨g,i*2,none⟩=some (.int .i64 (t:Int))∧W.cell? ⟨g,i*2+1,none⟩=some (.int .i64 (z:Int))):=fun W h=>by
    have:=Qhp (QcF hoM h) (j:=i) (by omega)
    rw[hM] at this;exact this
   have HY:Hid (Qk wr w1.heap.size u6 (P.take i)∧Zb w1 wr∧P.take i++[x]=P.take (i+1)∧i+1<=q∧q<=41∧(P.take i).length=i):=⟨ho,hb2,by rw[<-hx];exact QhT _ _ _ (by omega),hlt,by omega,by rw[Lv];omega⟩
   obtain⟨y,hy⟩:=Ze (t+z);have e1:IntKind.i64.wrap ((t:Int)+(z:Int))=(y:Int):=by rw[LW];omega
   have s0:(0:Int)<=(t:Int):=Le _;have s1:(t:Int)<=(y:Int):=by omega
   have s2:(y:Int)<=(cap:Int):=by omega
   have s3 : ¬(cap=t):=by omega
   have s4:y - t=z:=by omega
   have hd:Zb w1 wr.drew:=(hb2).drew;obtain⟨i0,hi0',hz0',hz1,hz2⟩:=info_parts Tryz.infoS;have HO2:Hid (∀W,Below wr.drew.heap.size wr.drew W->(W.alloc (.cells #[.string x] 9)).ownsRow w1.heap.size 9 1 u6 i ((P.take i).map Value.string)):=fun W h=>by
    have:=UW (QC HY.out.1 (Qa ((Below.refl _ _).drew) h) (Lb _)) (.cells #[.string x] 9);rw[Qk,HY.out.2.2.2.2.2] at this;exact this
   have HM1:Hid (i+1<=maxLen∧(i+1)*16<=140737488355328):=by have:=HY.out;refine⟨?_,?_⟩;unfold maxLen;omega;omega
   have HS0:Hid (∀W,Below wr.drew.heap.size wr.drew W->w1.heap.size<=(W.alloc (.cells #[.string x] 9)).heap.size):=fun W h=>by have:=(Qa hd h).size;simp;omega
   have HG:Hid (∀w2 w3,Below wr.drew.heap.size wr.drew w2->(w2.alloc (.cells #[.string x] 9)).grownBy w3 u6.ownBlock->Zb w1 w3):=fun w2 w3 h1 h2=>(bal (Qa hd h1) _).grown h2 (by have:=(Qa hd h1).size;simp;omega) (fun q hq=>(HY.out.1.lt q hq).1)
   have HK:Hid (∀W,Below wr.drew.heap.size wr.drew W->W.cell? ⟨g,i*2,none⟩=some (.int .i64 (t:Int))∧W.cell? ⟨g,i*2+1,none⟩=some (.int .i64 (z:Int))):=fun W h=>HK0.out W (Qa hd h)
   have HK3:Hid (∀w2 w3,Below wr.drew.heap.size wr.drew w2->(w2.alloc (.cells #[.string x] 9)).grownBy w3 u6.ownBlock->w3.cell? ⟨g,i*2,none⟩=some (.int .i64 (t:Int))∧w3.cell? ⟨g,i*2+1,none⟩=some (.int .i64 (z:Int))):=fun w2 w3 h1 h2=>HK0.out w3 (HG.out w2 w3 h1 h2)
   have kk:=HK0.out wr.drew hd;have HD:Hid (Zb w1 wr.drew):=hd;clear ho hb2 hoM hs40 hz hM htz hti hPi t1 t2 t3 t4 t5 hz0 hx hlM hi hlt hd hy
   go_upto_region 6 with (fail)
   go_region_held3 (fun w'=>w'.cell? ⟨g,i*2,none⟩=some (.int .i64 (t:Int))∧w'.cell? ⟨g,i*2+1,none⟩=some (.int .i64 (z:Int))) (first|assumption|(exact HK3.out _ _ hb2 hgrow)|(exact HK.out _ hb2)|(exact HK.out _ (bal hb2 _))) (first
    | (go_at_call 55;with_reducible refine(HTr.out _ HD.out).mono ?_;rintro e w2 ⟨rfl,hb2⟩)
    | (refine step_append_lies _ (by rfl) _ _ _ (by rfl) w1.heap.size 9 i0 _ 1 16 Tryz.underlying22 hi0' hz0' hz1 hz2 rfl (by omega) u6 i ((P.take i).map Value.string) (by rfl) (HO2.out _ hb2) ⟨w2.heap.size,0,none⟩ 1 1 [.string x] (by rfl) (by rfl) (World.news_of_block (cs:=#[.string x]) (t:=9) (fr:=(0,0)) (heap_alloc_new w2 _)) (by simp[Value.oneCell']) (by omega) HM1.out.1 HM1.out.2 (HS0.out _ hb2) (w2.heap.size+1) (by simp) ?_;intro gg cap_1 w3 hown3 hgrow hat hlt3))
   have HZ:Hid (Qk w3 w1.heap.size (.slice (some ⟨gg,0,none⟩) (i+1) cap_1) (P.take (i+1))∧Zb w1 w3):=⟨by
    obtain⟨y1,y2,y3,y4,y5,y6⟩:=HY.out;rw[Qk,<-y3,Ld,y6,LK];exact hown3,HG.out _ _ hb2 hgrow⟩
   clear hown3 hgrow hat hlt3 HG HK3 HK HK0 HTr HO2 HS0 kk;go_wp2
   go_roundg (q - (i+1))
   case rel =>
    go_light;exact⟨i+1,HY.out.2.2.2.1,rfl,by go_num,HZ.out.1,HZ.out.2⟩
   case measure=>go_light;have:=HY.out.2.2.2.1;omega
  ·obtain rfl:i=q:=by omega
   have hlt' : ¬((i:Int)<(i:Int)):=by omega
   have HZ:Hid (Qk wr w.heap.size u6 P∧Zb w wr):=⟨by
    rw[Lx (by have:=HL.out;omega)] at ho
    exact World.ownsRow.mono ho HB1.out.size,Qa HB1.out hb2⟩
   clear ho hb2 hi hlt HO HV;go_wp2
   go_ret
   exact⟨_,rfl,HZ.out.1,HZ.out.2⟩
theorem QcR(w:World)(k:Int)(hk:k<1∨32<k)(ao:OA)(len cap n:Nat) :
  Zr 9 #[.int .i64 k,.slice ao len cap,.int .u64 (n:Int)] w (.tuple #[.agg #[.int .u64 0,.string ⟨#[]⟩],.int .i64 70]):=by
 have HC:=fun W=>Yn W k
 rw[Qia hk] at HC;have hb:=Below.refl w.heap.size w;clear hk
 go_enter Tryz.func9,Tryz.ntmps9
 go_wp2_with (go_at_call 20;with_reducible refine(HC _).mono ?_;rintro e w1 ⟨rfl,rfl⟩)
 refine bodyPost_ret (v := .tuple #[.agg #[.int .u64 0,.string ⟨#[]⟩],.int .i64 70]) (by simp[results,Tryz.results9,go_sem]) rfl ⟨rfl,?_⟩
 exact bal hb _
theorem Qaf(w:World)(ht:Tr w)(k:Int)(h1:1<=k)(h2:k<=32)(ao:OA)(b off len cap:Nat)(L:LB)(hr:RdS w ao b off len L)(hsz : ∀s∈L,s.size<=140737488351232)(hmx:len<=1099511627776)(hc:len<=cap)(n:Nat)(hn:n<=len)(r:BA)(hq:Hid (rtD (clk k) L n=r)) :
  Zr 9 #[.int .i64 k,.slice ao len cap,.int .u64 (n:Int)] w (.tuple #[.agg #[.int .u64 (n:Int),.string r],.int .i64 0]):=by
 have HC:=fun W=>Yn W k
 rw[Qib h1 h2] at HC;have e0:IntKind.u64.wrap (len:Int)=(len:Int):=Y9 _ (by omega) (by omega)
 have hn' : ¬((len:Int)<(n:Int)):=by omega
 have hn2:(n:Int)<=(cap:Int):=by omega
 obtain⟨P,hP⟩ : ∃P,Hid (pks (clk k) (L.take n) 41=P):=⟨_,rfl⟩;have HPk:Hid (∀W,Zb w W->Calls Tryz.prog 22 #[.int .i64 k,.slice ao n cap] W fun e w' => ∃v,e = .returned v∧Qk w' W.heap.size v P∧Zb W w'):=fun W hb=>OG W (ht.next hb) k ao b off n cap (L.take n) ((hr.next hb (Lb _)).take hn) (fun s hs=>hsz s (LJ hs)) (by omega) (by omega) P hP
 have zP : ∀s∈P,s.size<=140737488351232:=by rw[<-hP.out];exact QlS (Qx k)
 have lP:P.length<=41:=by rw[<-hP.out];exact Qa2 _ _ _
 have HQ:Hid (dg (clk k) (QN n (QA (clk k) P))=r):=by rw[<-hP.out];exact hq
 have HRo:Hid (∀W,Zb w W -> ∀ao' b' cap',RdS W ao' b' 0 P.length P->Zr 21 #[.int .i64 k,.int .u64 (n:Int),.slice ao' P.length cap'] W (.string r)):=fun W hb ao' b' cap' hr'=>JY W (ht.next hb) k n (by omega) ao' b' 0 P.length cap' P hr' zP (by omega) r HQ.out
 have HZ:Hid (∀s∈P,s.size<=9223372036854775807):=fun s hs=>Lm (zP s hs) (by decide)
 have hb:=Below.refl w.heap.size w;have HN:=QfM w 0 ⟨#[]⟩ 30;rw[show((0:Nat):Int)=0 from rfl] at HN
 have HN2:=Qc HN;clear h1 h2 hn hmx hc hr hsz ht hq hP zP lP HQ HN
 go_enter Tryz.func9,Tryz.ntmps9
 go_wp2_with (first
  | (go_at_call 20;with_reducible refine(HC _).mono ?_;rintro e w1 ⟨rfl,rfl⟩)
  | (go_at_call 22;with_reducible refine(HPk.out _ (bal hb _)).mono ?_;rintro e w2 ⟨v,rfl,ho,hb2⟩;obtain⟨ao',b',cap',rfl,hr',_,_⟩:=Qn ho HZ.out)
  | (go_at_call 21;with_reducible refine(HRo.out _ (Qa (bal hb _) hb2) _ _ _ hr').mono ?_;rintro e w3 ⟨rfl,hb3⟩;have hR:=(HN2.out.below hb2 (by simp)).below hb3 (by have:=hb2.size;simp at this;omega);have k0:=hR.c0;have k1:=hR.c1;have f0:=hR.f0;have f1:=hR.f1))
 have s0:(w3.setCell ⟨w.heap.size,0,none⟩ (.int .u64 (n:Int))).cell? ⟨w.heap.size,0,none⟩=some (.int .u64 (n:Int)):=LT _ _ _ k0;have s1:((w3.setCell ⟨w.heap.size,0,none⟩ (.int .u64 (n:Int))).setCell ⟨w.heap.size,1,none⟩ (.string r)).cell? ⟨w.heap.size,1,none⟩=some (.string r) :=
  LT _ _ _ ((Lj _ _ _ _ (by simp)).trans k1)
 refine bodyPost_ret (v := .tuple #[.agg #[.int .u64 (n:Int),.string r],.int .i64 0]) (by simp[results,Tryz.results9,go_sem,s0,s1]) rfl ⟨rfl,?_⟩
 exact((Qa (Qa (bal hb _) hb2) hb3).setCell (p:=⟨w.heap.size,0,none⟩) (Lb _) _).setCell (p:=⟨w.heap.size,1,none⟩) (Lb _) _
theorem QmL(w:World)(k:Int)(hk:k<1∨32<k)(pa:OA)(pn pc:Nat)(qa:OA)(qn qc:Nat)(hp:pn<=1000)(hq:qn<=1000)(s:BA) :
  Zr 16 #[.int .i64 k,.slice pa pn pc,.slice qa qn qc,.string s] w (tri none):=by
 have HRA:Hid (∀W,Zr 9 #[.int .i64 k,.slice pa pn pc,.int .u64 (pn:Int)] W (.tuple #[.agg #[.int .u64 0,.string ⟨#[]⟩],.int .i64 70])):=fun W=>QcR W k hk pa pn pc pn
 have HRB:Hid (∀W,Zr 9 #[.int .i64 k,.slice qa qn qc,.int .u64 (qn:Int)] W (.tuple #[.agg #[.int .u64 0,.string ⟨#[]⟩],.int .i64 70])):=fun W=>QcR W k hk qa qn qc qn
 have z1:(pn:Int)<=1000:=by omega
 have z2:(qn:Int)<=1000:=by omega
 clear hk hp hq
 go_enter Tryz.func16,Tryz.ntmps16
 go_upto_region 2 with (go_at_call 9;with_reducible refine(HRA.out _).mono ?_;rintro e w2 ⟨rfl,hb2⟩)
 obtain⟨F,hFe,hb3⟩ : ∃W,w2.alloc (.cells #[.int .u64 0,.string ⟨#[]⟩] 30)=W∧Zb w2 W:=⟨_,rfl,bal (Below.refl _ _) _⟩
 try rw[hFe]
 clear hFe
 go_upto_region 3 with (go_at_call 9;with_reducible refine(HRB.out _).mono ?_;rintro e w4 ⟨rfl,hb4⟩)
 obtain⟨G,hGe,hb5⟩ : ∃W,w4.alloc (.cells #[.int .u64 0,.string ⟨#[]⟩] 30)=W∧Zb w4 W:=⟨_,rfl,bal (Below.refl _ _) _⟩
 try rw[hGe]
 clear hGe;have HB:=Qc (Qa (Qa (Qa hb2 hb3) hb4) hb5);clear hb2 hb3 hb4 hb5 HRA HRB;go_wp2;exact bodyPost_ret (v:=tri none) (by simp[results,Tryz.results16,go_sem,pA,pB']) rfl ⟨rfl,HB.out⟩
section
variable (w:World) (k:Int) (pa:OA) (pn pc:Nat) (qa:OA) (qn qc:Nat) (hp:pn<=1000) (hq:qn<=1000) (s:BA) (c1 c2:BA)
  (HRA:Hid (∀W,Zb w W->Zr 9 #[.int .i64 k,.slice pa pn pc,.int .u64 (pn:Int)] W (.tuple #[.agg #[.int .u64 (pn:Int),.string c1],.int .i64 0])))
  (HRB:Hid (∀W,Zb w W->Zr 9 #[.int .i64 k,.slice qa qn qc,.int .u64 (qn:Int)] W (.tuple #[.agg #[.int .u64 (qn:Int),.string c2],.int .i64 0])))
include hp hq HRA HRB
theorem Qnv(r:Int)(hr:r≠0)
  (HL:Hid (∀W,Zb w W->Zr 37 #[.int .i64 k,.agg #[.int .u64 (pn:Int),.string c1],.agg #[.int .u64 (qn:Int),.string c2],.string s] W (.int .i64 r))) :
  Zr 16 #[.int .i64 k,.slice pa pn pc,.slice qa qn qc,.string s] w (tri none):=by
 have hz:(r != 0)=true:=by simpa using hr
 have hz2 : ¬r=0:=hr;have z1:(pn:Int)<=1000:=by omega
 have z2:(qn:Int)<=1000:=by omega
 clear hr hp hq
 go_enter Tryz.func16,Tryz.ntmps16
 go_upto_region 2 with (go_at_call 9;with_reducible refine(HRA.out _ (Below.refl _ _)).mono ?_;rintro e w2 ⟨rfl,hb2⟩)
 obtain⟨F,hFe,hrh,hb3⟩ : ∃W,w2.alloc (.cells #[.int .u64 (pn:Int),.string c1] 30)=W∧Rh W w2.heap.size pn c1∧Zb w2 W:=⟨_,rfl,YC w2 pn c1,bal (Below.refl _ _) _⟩
 try rw[hFe]
 clear hFe;have hbF:=Qa hb2 hb3
 go_upto_region 3 with (go_at_call 9;with_reducible refine(HRB.out _ hbF).mono ?_;rintro e w4 ⟨rfl,hb4⟩)
 obtain⟨G,hGe,hrh2,hb5⟩ : ∃W,w4.alloc (.cells #[.int .u64 (qn:Int),.string c2] 30)=W∧Rh W w4.heap.size qn c2∧Zb w4 W:=⟨_,rfl,YC w4 qn c2,bal (Below.refl _ _) _⟩
 try rw[hGe]
 clear hGe;obtain⟨e0,e1⟩:=(hrh.next (Qa hb4 hb5)).cells;obtain⟨f0,f1⟩:=hrh2.cells;have hbG:=Qa (Qa hbF hb4) hb5;clear hbF hb2 hb3 hb4 hb5 hrh hrh2 HRA HRB
 go_wp2_with (go_at_call 37;with_reducible refine(HL.out _ hbG).mono ?_;rintro e w5 ⟨rfl,hb6⟩)
 exact bodyPost_ret (v:=tri none) (by simp[results,Tryz.results16,go_sem,pA,pB']) rfl ⟨rfl,Qa hbG hb6⟩
theorem Qnw
  (HL:Hid (∀W,Zb w W->Zr 37 #[.int .i64 k,.agg #[.int .u64 (pn:Int),.string c1],.agg #[.int .u64 (qn:Int),.string c2],.string s] W (.int .i64 0)))
  (HS:Hid (∀W,Zb w W->Zr 38 #[.slice pa pn pc,.slice qa qn qc] W (.bool true))) :
  Zr 16 #[.int .i64 k,.slice pa pn pc,.slice qa qn qc,.string s] w (tri none):=by
 have z1:(pn:Int)<=1000:=by omega
 have z2:(qn:Int)<=1000:=by omega
 clear hp hq
 go_enter Tryz.func16,Tryz.ntmps16
 go_upto_region 2 with (go_at_call 9;with_reducible refine(HRA.out _ (Below.refl _ _)).mono ?_;rintro e w2 ⟨rfl,hb2⟩)
 obtain⟨F,hFe,hrh,hb3⟩ : ∃W,w2.alloc (.cells #[.int .u64 (pn:Int),.string c1] 30)=W∧Rh W w2.heap.size pn c1∧Zb w2 W:=⟨_,rfl,YC w2 pn c1,bal (Below.refl _ _) _⟩
 try rw[hFe]
 clear hFe;have hbF:=Qa hb2 hb3
 go_upto_region 3 with (go_at_call 9;with_reducible refine(HRB.out _ hbF).mono ?_;rintro e w4 ⟨rfl,hb4⟩)
 obtain⟨G,hGe,hrh2,hb5⟩ : ∃W,w4.alloc (.cells #[.int .u64 (qn:Int),.string c2] 30)=W∧Rh W w4.heap.size qn c2∧Zb w4 W:=⟨_,rfl,YC w4 qn c2,bal (Below.refl _ _) _⟩
 try rw[hGe]
 clear hGe;obtain⟨e0,e1⟩:=(hrh.next (Qa hb4 hb5)).cells;obtain⟨f0,f1⟩:=hrh2.cells;have hbG:=Qa (Qa hbF hb4) hb5;clear hbF hb2 hb3 hb4 hb5 hrh hrh2 HRA HRB
 go_wp2_with (first
  | (go_at_call 37;with_reducible refine(HL.out _ hbG).mono ?_;rintro e w5 ⟨rfl,hb6⟩)
  | (go_at_call 38;with_reducible refine(HS.out _ (Qa hbG hb6)).mono ?_;rintro e w6 ⟨rfl,hb7⟩))
 exact bodyPost_ret (v:=tri none) (by simp[results,Tryz.results16,go_sem,pA,pB']) rfl ⟨rfl,Qa (Qa hbG hb6) hb7⟩
end
section
open Cv (RdC zl cU)
theorem Qk8(w:World)(hT:Tr w)(k:Int)(n:Nat)(h40:n<=2^40)(ao:OA)(g cap:Nat)(K:List He)(hR:RdH w ao g K.length K)(hKl:K.length<=100000000)(hF:Fn K)(hKb : ∀e∈K,e.1.1<=40∧e.1.2<2^40∧e.2.size<=32)(P:LB)(M:List (Nat×Nat))(hM:Cv.dnL 41 0 n=M)(hP:P.length=M.length)(hTl : ∀j,j<M.length->Tl (clk k) K (M.getD j (0,0)).1 (M.getD j (0,0)).2 (P.getD j ByteArray.empty)) :
  Calls Tryz.prog 44 #[.int .i64 k,.int .u64 (n:Int),.slice ao K.length cap] w fun e w' => ∃v,e = .returned v∧Qk w' w.heap.size v P∧Zb w w':=by
 have hMin : ∀b∈M,(b.2+1)*2^b.1<=n:=by rw[<-hM];exact JG n h40
 have hMl:M.length<=41:=by rw[<-hM];exact Cv.YI 41 0 n
 have HM:Hid (∀W,Calls Tryz.prog 40 #[.int .u64 (n:Int)] W fun e w' => ∃ao g cap,e = .returned (.tuple #[.slice ao M.length cap,.int .i64 0])∧RdB w' ao g 0 M.length (zl M)∧Zb W w'):=fun W=>by
  have h:=Cv.YW n W;rw[(UM n h40).1,(UM n h40).2,hM] at h;refine h.mono fun e w' ⟨v,e1,e2,e3⟩ => ?_
  obtain⟨ao,g,n',cap,rfl,hr',_⟩:=Uc e2 (fun b hb=>by
   obtain⟨b0,hb0,rfl⟩:=LE.1 hb;exact(Oq (hMin b0 hb0) h40).1)
  have hl:=hr'.len;rw[Cv.Qq] at hl;subst hl;exact⟨ao,g,cap,e1,hr',e3⟩
 have hPs : ∀s∈P,s.size<=32:=fun s hs=>by
  obtain⟨j,hj,rfl⟩:=LZ hs;have:=(hTl j (by omega)).size (Qx k) (fun e he=>(hKb e he).2.2)
  rwa [La,Lc hj] at this
 have HU:Hid (∀W,Zb w W -> ∀j,j<M.length->Zr 89 #[.int .i64 k,.agg #[.int .i64 ((M.getD j (0,0)).1:Nat),.int .u64 ((M.getD j (0,0)).2:Nat)],.slice ao K.length cap] W (.tuple #[.string (P.getD j ByteArray.empty),.bool true])):=fun W hb j hj=>by
  have hm:M.getD j (0,0)∈M:=by rw[La,Lc hj];exact LO _
  have h1:=hMin _ hm;exact Qbd k _ (Oq h1 h40).2.1 _ (Lm h1 h40) K _ W ao g cap (hT.next hb) (hR.next hb) hKl hF (hTl j hj) hKb
 have HQ:Hid (P.length=M.length∧M.length<=41∧(∀s∈P,s.size<=32)):=⟨hP,hMl,hPs⟩;have hmz:(M.length:Int)<=41:=by omega
 clear hT hR hKl hF hKb hM hP hTl hMin hMl hPs h40
 go_enter Tryz.func44,Tryz.ntmps44
 go_upto_region 2 with (go_at_call 40;with_reducible refine(HM.out _).mono ?_;rintro e w1 ⟨ma,mg,mc,rfl,hRm,hb1⟩)
 have HR:=Qc (And.intro hRm hb1);clear hRm hb1 HM;go_wp2
 go_loopg [9,10] M.length (fun gh v jj wr => ∃j:Nat,j<=M.length∧gh=M.length - j∧jj = .int .i64 (j:Int)∧Hid (Qk wr w1.heap.size v (P.take j))∧Hid (Zb w1 wr))
 case atStart =>
  go_light;exact⟨0,Lf _,rfl,rfl,YV _ _,Below.refl _ _⟩
 case round =>
  obtain⟨j,hj,rfl,rfl,HO,HB⟩:=hrel
  by_cases hlt:j<M.length
  ·have hz:(j:Int)<(M.length:Int):=by omega
   have hz0:(0:Int)<=(j:Int):=Le _;have hrd:=HR.out.1.below HB.out;obtain rfl:=hrd.addr (by omega)
   obtain⟨c0,c1⟩:=hrd.cell j hlt;have HUj:=HU.out wr (Qa HR.out.2 HB.out) j hlt;have htk:=Qcg ByteArray.empty P j (by rw[HQ.out.1];exact hlt)
   have hys:=HQ.out.2.2 _ (QI (show j<P.length by rw[HQ.out.1];exact hlt))
   obtain⟨y,hy⟩:=Ze (P.getD j ByteArray.empty);obtain⟨⟨mh,mk⟩,hx⟩ : ∃x,M.getD j (0,0)=x:=⟨_,rfl⟩;rw[Cv.Uf,hx] at c0 c1;rw[Ll] at c0 c1;rw[hx,hy] at HUj;rw[hy] at htk hys;simp only at HUj;have HG:Hid (P.take (j+1)=P.take j++[y]∧y.size<=9223372036854775807∧(P.take j).length<=41∧j<M.length):=⟨htk,by omega,by rw[Lv];have:=HQ.out.1;have:=HQ.out.2.1;omega,hlt⟩
   clear hrd htk hys hy hx hlt hj
   go_wp2_with (first
    | (go_at_call 89;with_reducible refine HUj.mono ?_;rintro e w2 ⟨rfl,hb2⟩)
    | (at_builtin;refine QS _ rfl _ _ rfl w1.heap.size _ (P.take j) rfl (UW (QC HO.out hb2 (Lb _)) _) (some ⟨w2.heap.size,0,none⟩) w2.heap.size 0 1 [y] rfl (UN w2 y HG.out.2.1) (fun h=>by cases h) ?c1 ?c2 ?_))
   case c1=>have:=HG.out.2.2.1;simp;omega
   case c2=>have:=(Qa HB.out hb2).size;simp;omega
   intro v' w3 o1 o2;have HO2:=Qc (And.intro o1 ((bal (Qa HB.out hb2) (.cells #[.string y] 9)).trans o2));clear o1 o2 HUj;go_wp2
   go_roundg (M.length - (j+1))
   case rel =>
    go_light;exact⟨j+1,HG.out.2.2.2,rfl,by go_num,by rw[HG.out.1];exact HO2.out.1,HO2.out.2⟩
   case measure=>go_light;have:=HG.out.2.2.2;omega
  ·obtain rfl:j=M.length:=by omega
   have hz : ¬((M.length:Int)<(M.length:Int)):=by omega
   have hO:=HO.out;rw[Lx (by rw[HQ.out.1];exact Lb _)] at hO
   obtain⟨pa,pn,pc,rfl⟩:=Cv.Qh hO;have HF:=Qc (And.intro (World.ownsRow.mono hO HR.out.2.size) (Qa HR.out.2 HB.out));clear hO hlt hj HU;go_wp2
   go_ret
   exact⟨_,rfl,HF.out.1,HF.out.2⟩
end
end Go.Proofs.YtdocjikpcbmcgaaGreatDoor
