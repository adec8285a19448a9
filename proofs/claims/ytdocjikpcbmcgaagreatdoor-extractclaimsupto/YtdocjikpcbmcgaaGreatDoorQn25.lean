/- Own work. -/
import Derived.Test.YtdocjikpcbmcgaaGreatDoorQn24
set_option maxRecDepth 100000
set_option maxHeartbeats 2000000
namespace Go.Proofs.YtdocjikpcbmcgaaGreatDoor
open Go.RowKit
attribute [local go_sem ↓] Go.wp_at_zero Go.wp_at_succ
open Go.Proofs.Tryz
section
open Cv (RdC zl cU)
theorem Qkm(w:World)(kd k:Int)(old size:Nat)(sa:OA)(sb so sc:Nat)(S:List Nat)(hs:RdU w sa sb so S.length S)(hns:S.length<=1048576)(da:OA)(db dO dc:Nat)(D:LB)(hr:RdS w da db dO D.length D)(hm:D.length<=8796093022208)(xa:OA)(xn xc:Nat)(hno : ¬(okB kd k old size S D∧xn=S.length)) :
  Zr 96 #[vP kd k old size (.slice sa S.length sc) (.slice da D.length dc),.slice xa xn xc] w (.tuple #[noR,.int .i64 150]):=by
 obtain⟨r1,xC⟩:=Ze (decide (okB kd k old size S D))
 have HI:Hr w 149 #[vP kd k old size (.slice sa S.length sc) (.slice da D.length dc)] (.bool r1):=fun W hb=>JT W kd k old size sa sb so sc S (hs.next hb) hns da db dO dc D (hr.next hb (Ld _)) hm r1 xC
 have HN:Hid (r1=true -> ¬xn=S.length):=fun h1 h3=>hno ⟨Ij (xC.trans h1),h3⟩
 obtain⟨W0,xE⟩:=Ze ((w.alloc (.cells #[.int .i64 kd,.int .i64 k,.int .u64 (old:Int),.int .u64 (size:Int),.slice sa S.length sc,.slice da D.length dc] 55)).alloc (.cells #[.int .u64 0,.string ⟨#[]⟩] 30));obtain⟨hb,h6,xD,hz⟩:=QO xE;obtain⟨c0,c1,c2,c3,c4,c5⟩:=h6.cells;have HR:=Qe (Lo xD hz);have H6:=Qe h6;clear hs hr hm hno xC h6 xD hz;unfold vP at HI;unfold vP
 cases r1 with
 | false =>
  clear HN
  go_enter func96,ntmps96
  go_wp2_with (go_at_call 149;with_reducible refine(HI.out _ hb).mono ?_;rintro e w1 ⟨rfl,xA⟩;have hR:=HR.out.1.below xA (by rw[HR.out.2];omega);have k0:=hR.c0;have k1:=hR.c1;have f0:=hR.f0;have f1:=hR.f1)
  obtain⟨s0,s1,xB⟩:=Yr hR 0 ⟨#[]⟩;refine Lp (v := .tuple #[noR,.int .i64 150]) (by simp[results,results96,go_sem,s0,s1]) rfl ⟨rfl,?_⟩
  exact(Qa hb xA).trans (xB.below (by rintro b rfl;omega))
 | true =>
  have xF:=HN.out rfl;have hz : ¬(xn:Int)=(S.length:Int):=by omega
  clear HN xF
  go_enter func96,ntmps96
  go_wp2_with (go_at_call 149;with_reducible refine(HI.out _ hb).mono ?_;rintro e w1 ⟨rfl,xA⟩;have hR:=HR.out.1.below xA (by rw[HR.out.2];omega);have k0:=hR.c0;have k1:=hR.c1;have f0:=hR.f0;have f1:=hR.f1;obtain⟨g0,g1,g2,g3,g4,g5⟩:=(H6.out.next xA).cells)
  obtain⟨s0,s1,xB⟩:=Yr hR 0 ⟨#[]⟩;refine Lp (v := .tuple #[noR,.int .i64 150]) (by simp[results,results96,go_sem,s0,s1]) rfl ⟨rfl,?_⟩
  exact(Qa hb xA).trans (xB.below (by rintro b rfl;omega))
theorem Qgh(w:World)(k:Int)(size:Nat)(sa:OA)(sb so sc:Nat)(S:List Nat)(X:LB)(hs:RdU w sa sb so X.length S)(hns:X.length<=1048576)(da:OA)(db dO dc:Nat)(D:LB)(hr:RdS w da db dO D.length D)(hm:D.length<=8796093022208)(xa:OA)(xb xo xc:Nat)(hx:RdS w xa xb xo X.length X)(hok:okB 2 k 0 size S D)(hlong : ¬ ∀s∈X,s.size<=1048576) :
  Zr 96 #[vP 2 k 0 size (.slice sa X.length sc) (.slice da D.length dc),.slice xa X.length xc] w (.tuple #[noR,.int .i64 100]):=by
 have xD:=hs.hl;have HI:Hr w 149 #[vP 2 k 0 size (.slice sa X.length sc) (.slice da D.length dc)] (.bool true):=fun W hb=>by
  have:=JT W 2 k 0 size sa sb so sc S (by rw[xD];exact hs.next hb) (by omega) da db dO dc D (hr.next hb (Ld _)) hm true (Ln hok)
  rw[xD] at this;exact this
 have HX:Hid (∀W,Zb w W->RdS W xa xb xo X.length X):=fun W hb=>hx.next hb (Ld _)
 obtain⟨W0,xF⟩:=Ze ((w.alloc (.cells #[.int .i64 2,.int .i64 k,.int .u64 ((0:Nat):Int),.int .u64 (size:Int),.slice sa X.length sc,.slice da D.length dc] 55)).alloc (.cells #[.int .u64 0,.string ⟨#[]⟩] 30));obtain⟨hb,h6,xE,hz⟩:=QO xF;rw[show((0:Nat):Int)=0 from rfl] at xF h6
 obtain⟨c0,c1,c2,c3,c4,c5⟩:=h6.cells;have HR:=Qe (Lo xE hz);have H6:=Qe h6;have HN:=Qe hlong;have xK:(X.length:Int)<=1048576:=by omega
 clear hs hr hm hok h6 xE hz hx hlong;unfold vP at HI;rw[show((0:Nat):Int)=0 from rfl] at HI
 unfold vP;rw[show((0:Nat):Int)=0 from rfl]
 go_enter func96,ntmps96
 go_upto_region 3 with (go_at_call 149;with_reducible refine(HI.out _ hb).mono ?_;rintro e w2 ⟨rfl,xB⟩;have hR:=HR.out.1.below xB (by rw[HR.out.2];omega);have k0:=hR.c0;have k1:=hR.c1;have f0:=hR.f0;have f1:=hR.f1;obtain⟨g0,g1,g2,g3,g4,g5⟩:=(H6.out.next xB).cells)
 have xG:=Qa hb xB;clear hb xB c0 c1 c2 c3 c4 c5 HI xD;go_wp2
 go_loopg [6] X.length (fun g i wr => ∃j:Nat,j<=X.length∧g=X.length - j∧i = .int .i64 (j:Int)∧(∀t,t<j->(X.getD t ByteArray.empty).size<=1048576)∧w2=wr)
 case atStart=>go_light;exact⟨0,Ll _,rfl,rfl,fun t ht=>absurd ht (Nu _),rfl⟩
 case round =>
  obtain⟨j,hj,rfl,rfl,xA,rfl⟩:=hrel
  by_cases hlt:j<X.length
  ·have hz:(j:Int)<(X.length:Int):=by omega
   have xL:(0:Int)<=(j:Int):=Lf _;have xC:=HX.out w2 xG;obtain rfl:=xC.ptr (by omega)
   have cj:=xC.at hlt;obtain⟨d,hd⟩:=Ze (X.getD j ByteArray.empty);rw[hd] at cj
   by_cases hk:d.size<=1048576
   ·have xH:Hid (∀t,t<j+1->(X.getD t ByteArray.empty).size<=1048576):=fun t ht=>by
     rcases NB (NL ht) with hx|rfl
     ·exact xA t hx
     ·rw[hd];exact hk
    have xJ : ¬(1048576:Int)<(d.size:Int):=by omega
    clear hd xA xC hk;go_wp2
    go_roundg (X.length - (j+1))
    case rel=>go_light;exact⟨j+1,by omega,rfl,by go_num,xH.out,rfl⟩
    case measure=>go_light;omega
   ·have xJ:(1048576:Int)<(d.size:Int):=by omega
    clear hd xA xC hk;go_wp2;obtain⟨s0,s1,xI⟩:=Yr hR 0 ⟨#[]⟩;refine Lp (v := .tuple #[noR,.int .i64 100]) (by simp[results,results96,go_sem,s0,s1]) rfl ⟨rfl,?_⟩
    exact xG.trans (xI.below (by rintro b rfl;omega))
  ·exfalso
   refine HN.out fun s hs => ?_
   obtain⟨t,ht,rfl⟩:=LS hs;have:=xA t (by omega)
   rwa [La,Lc ht] at this
theorem QhT{c size:Nat}(hc:c<=32){S:List Nat}{X D:LB}(he:Cv.QR size S=0)(hX:X.length=S.length)(hD:D.length=(Cv.rst 0 size S).length)(hDs : ∀d∈D,d.size<=32) : ∀e∈knS c S X++(Cv.rst 0 size S).zip D,e.1.1<=40∧e.1.2<2^40∧e.2.size<=32:=fun e h=>by
 obtain⟨h40,_,_,hch⟩:=Cv.QJ he
 rcases QdM hX hD h with ⟨j,hj,rfl⟩|⟨j,hj,rfl⟩
 ·have hm:S.getD j 0∈S:=by rw[La,Lc hj];exact LG _
  have:=(Cv.Yp hch _ hm).2;exact⟨Ll _,by show S.getD j 0<_;omega,by show(dg c _).size<=_;rw[Q6 hc];exact hc⟩
 ·have hm:(Cv.rst 0 size S).getD j (0,0)∈Cv.rst 0 size S:=by rw[La,Lc hj];exact LG _
  have hf:=UF (Qko he _ hm) h40;exact⟨hf.2.1,hf.2.2,hDs _ (Qv (by omega))⟩
theorem Qit(w:World)(hT:Tr w)(k:Int)(size:Nat)(sa:OA)(sb so sc:Nat)(S:List Nat)(X:LB)(hs:RdU w sa sb so X.length S)(hns:X.length<=1048576)(da:OA)(db dO dc:Nat)(D:LB)(hr:RdS w da db dO D.length D)(hm:D.length<=8796093022208)(xa:OA)(xb xo xc:Nat)(hx:RdS w xa xb xo X.length X)(hok:okB 2 k 0 size S D)(hsz : ∀s∈X,s.size<=1048576)(r:BA)(hq:dg (clk k) (QI size (Qr (clk k) (pB (clk k) (Cv.dnL 41 0 size) S X D)))=r) :
  Zr 96 #[vP 2 k 0 size (.slice sa X.length sc) (.slice da D.length dc),.slice xa X.length xc] w (.tuple #[.agg #[.int .u64 (size:Int),.string r],.int .i64 0]):=by
 have xG:=hs.hl;have HI:Hr w 149 #[vP 2 k 0 size (.slice sa X.length sc) (.slice da D.length dc)] (.bool true):=fun W hb=>by
  have:=JT W 2 k 0 size sa sb so sc S (by rw[xG];exact hs.next hb) (by omega) da db dO dc D (hr.next hb (Ld _)) hm true (Ln hok)
  rw[xG] at this;exact this
 have he:=hok.2.1;obtain⟨xK,_,_,xI⟩:=Cv.QJ he;have xA:D.length=(Cv.rst 0 size S).length:=by have:=hok.2.2.1;rwa [Cv.rstS,Lm he] at this
 have xR : ∀d∈D,d.size<=32:=fun d hd=>by have:=hok.2.2.2 d hd;have:=hok.1.2.1;omega
 have xE:X.length=S.length:=xG.symm;obtain⟨Kn,xB⟩:=Ze (knS (clk k) S X++(Cv.rst 0 size S).zip D);have xT:Kn.length<=100000000:=by
  rw[<-xB,Lg,Ut _ _ _ xE,Uy xA];have:=Cv.O7 size xK S 0 xI;omega
 have xS:Fn Kn:=by rw[<-xB];exact QmM he xE xA
 have xM : ∀e∈Kn,e.1.1<=40∧e.1.2<2^40∧e.2.size<=32:=by rw[<-xB];exact QhT (Qp k) he xE xA xR
 obtain⟨M,hM⟩:=Ze (Cv.dnL 41 0 size);have xD:=QmN (c:=clk k) he xE xA;rw[xB,hM] at xD;rw[hM] at hq;obtain⟨P,hP⟩:=Ze (pB (clk k) M S X D);rw[hP] at xD hq;have xU:P.length=M.length:=by rw[<-hP];exact QdT _ _ _ _ _
 have xV : ∀s∈P,s.size<=32:=fun s hs=>by
  obtain⟨j,hj,rfl⟩:=LS hs;have:=(xD j (by omega)).size (Qp k) (fun e he=>(xM e he).2.2)
  rwa [La,Lc hj] at this
 have yC:M.length<=41:=by rw[<-hM];exact Cv.YS 41 0 size
 have xJ:Hid (∀W,Zb w W->Calls prog 97 #[vP 2 k 0 size (.slice sa X.length sc) (.slice da D.length dc),.slice xa X.length xc] W fun e w' => ∃ao g cap,e = .returned (.slice ao Kn.length cap)∧RdH w' ao g Kn.length Kn∧Zb W w'):=fun W hb=>Qcp W (hT.next hb) 2 k 0 size sa sb so sc S X (hs.next hb) hns da db dO dc D (hr.next hb (Ld _)) xa xb xo xc (hx.next hb (Ld _)) hsz he xA Kn xB
 have xY:Hid (∀W ao g cap,Zb w W->RdH W ao g Kn.length Kn->Calls prog 44 #[.int .i64 k,.int .u64 (size:Int),.slice ao Kn.length cap] W fun e w' => ∃pa pb pc,e = .returned (.slice pa P.length pc)∧RdS w' pa pb 0 P.length P∧Zb W w'):=fun W ao g cap hb hR=>Ql7 W (hT.next hb) k size xK ao g cap Kn hR xT xS xM P M hM xU xD
 have xZ:Hid (∀W pa pb pc,Zb w W->RdS W pa pb 0 P.length P->Zr 21 #[.int .i64 k,.int .u64 (size:Int),.slice pa P.length pc] W (.string r)):=fun W pa pb pc hb hR=>QaT W (hT.next hb) k size (by omega) pa pb 0 P.length pc P hR (fun s hs=>by have:=xV s hs;omega) (by omega) r hq
 have xQ:=Qe hsz;have HX:Hid (∀W,Zb w W->RdS W xa xb xo X.length X):=fun W hb=>hx.next hb (Ld _)
 obtain⟨W0,xX⟩:=Ze ((w.alloc (.cells #[.int .i64 2,.int .i64 k,.int .u64 ((0:Nat):Int),.int .u64 (size:Int),.slice sa X.length sc,.slice da D.length dc] 55)).alloc (.cells #[.int .u64 0,.string ⟨#[]⟩] 30));obtain⟨hb,h6,xW,hz⟩:=QO xX;rw[show((0:Nat):Int)=0 from rfl] at xX h6
 obtain⟨c0,c1,c2,c3,c4,c5⟩:=h6.cells;have HR:=Qe (Lo xW hz);have H6:=Qe h6;have yJ:(X.length:Int)<=1048576:=by omega
 clear hs hr hm hok h6 xW hz hx hsz he xK xI xA xR xE xB xT xS xM hM xD hq hP xU xV yC hT;unfold vP at HI xJ;rw[show((0:Nat):Int)=0 from rfl] at HI xJ
 unfold vP;rw[show((0:Nat):Int)=0 from rfl]
 go_enter func96,ntmps96
 go_upto_region 3 with (go_at_call 149;with_reducible refine(HI.out _ hb).mono ?_;rintro e w2 ⟨rfl,xH⟩;have hR:=HR.out.1.below xH (by rw[HR.out.2];omega);have k0:=hR.c0;have k1:=hR.c1;have f0:=hR.f0;have f1:=hR.f1;have xL:=H6.out.next xH;obtain⟨g0,g1,g2,g3,g4,g5⟩:=xL.cells)
 have xN:=Qa hb xH;clear hb xH c0 c1 c2 c3 c4 c5 HI xG;go_wp2
 go_loopg [6] X.length (fun g i wr => ∃j:Nat,j<=X.length∧g=X.length - j∧i = .int .i64 (j:Int)∧w2=wr)
 case atStart=>go_light;exact⟨0,Ll _,rfl,rfl,rfl⟩
 case round =>
  obtain⟨j,hj,rfl,rfl,rfl⟩:=hrel
  by_cases hlt:j<X.length
  ·have hz:(j:Int)<(X.length:Int):=by omega
   have yK:(0:Int)<=(j:Int):=Lf _;have xP:=HX.out w2 xN;obtain rfl:=xP.ptr (by omega)
   have cj:=xP.at hlt;have hk:=xQ.out _ (Qv hlt);obtain⟨d,hd⟩:=Ze (X.getD j ByteArray.empty);rw[hd] at cj hk;have yI : ¬(1048576:Int)<(d.size:Int):=by omega
   clear hd xP hk;go_wp2
   go_roundg (X.length - (j+1))
   case rel=>go_light;exact⟨j+1,by omega,rfl,by go_num,rfl⟩
   case measure=>go_light;omega
  ·obtain rfl:j=X.length:=by omega
   have hz : ¬((X.length:Int)<(X.length:Int)):=by omega
   have HS:Hid (∀W,Zb w2 W->Six W w.heap.size (.int .i64 2) (.int .i64 k) (.int .u64 0) (.int .u64 (size:Int)) (.slice sa X.length sc) (.slice da D.length dc)):=fun W hW=>xL.next hW
   have yA:Hid (∀W,Zb w2 W->Rt W (w.heap.size+1) 0 ⟨#[]⟩):=fun W hW=>hR.below hW (Lh w2 _ hR.c0)
   have xF:=Qe xN;have yH : ¬w.heap.size=w.heap.size+1:=by omega
   have xO:=(Lb w2.heap.size w2).drew;clear hlt hj hR xL xN HX xQ k0 k1 f0 f1
   go_upto_region 8 with (fail)
   go_region_held3 (fun Z=>Z.cell? ⟨w.heap.size,0,none⟩=some (.int .i64 2)∧Z.cell? ⟨w.heap.size,1,none⟩=some (.int .i64 k)∧Z.cell? ⟨w.heap.size,2,none⟩=some (.int .u64 0)∧Z.cell? ⟨w.heap.size,3,none⟩=some (.int .u64 (size:Int))∧Z.cell? ⟨w.heap.size,4,none⟩=some (.slice sa X.length sc)∧Z.cell? ⟨w.heap.size,5,none⟩=some (.slice da D.length dc))
    (first|assumption|(exact(HS.out _ xO).cells)|(exact(HS.out _ hr3).cells)|(exact(HS.out _ hr4).cells)|(exact(HS.out _ hr5).cells)|(exact((HS.out _ hr5).same ((O0 w5 (w.heap.size+1) (.int .u64 (size:Int)) (.string r)).block _ yH)).cells)) (first
    | (go_at_call 97;with_reducible refine(xJ.out _ (Qa xF.out xO)).mono ?_;rintro e w3 ⟨ka,kg,kc,rfl,yB,yE⟩;have hr3:=Qa xO yE)
    | (go_at_call 44;with_reducible refine(xY.out _ ka kg kc (Qa xF.out hr3) yB).mono ?_;rintro e w4 ⟨pa,pb,pc,rfl,yD,yF⟩;have hr4:=Qa hr3 yF)
    | (go_at_call 21;with_reducible refine(xZ.out _ pa pb pc (Qa xF.out hr4) yD).mono ?_;rintro e w5 ⟨rfl,yG⟩;have hr5:=Qa hr4 yG;have xC:=yA.out _ hr5;have k0:=xC.c0;have k1:=xC.c1;have f0:=xC.f0;have f1:=xC.f1))
   all_goals
    obtain⟨s0,s1,xI⟩:=Yr xC (size:Int) r;go_wp2;refine Lp (v := .tuple #[.agg #[.int .u64 (size:Int),.string r],.int .i64 0]) (by simp[results,results96,go_sem,s0,s1]) rfl ⟨rfl,?_⟩
    exact(Qa xF.out hr5).trans (xI.below (by rintro b rfl;omega))
theorem Qoj(kd k:Int)(old size:Nat)(S:List Nat)(hS:S.length<=1048576)(D X:LB)(hD:D.length<=8796093022208) : ∃(n:Nat) (rr:BA) (er:Nat),
  (∀W sa sb so sc da db dO dc xa xb xo xc,Tb W->RdU W sa sb so S.length S->S.length<=sc->(sa=none->sc=0)->RdS W da db dO D.length D->D.length<=dc->(da=none->dc=0)->RdS W xa xb xo X.length X->X.length<=xc->(xa=none->xc=0)->Zr 64 #[vP kd k old size (.slice sa S.length sc) (.slice da D.length dc),.slice xa X.length xc] W (.tuple #[.agg #[.int .u64 (n:Int),.string rr],.int .i64 (er:Int)])) ∧
  (∀W sa sb so sc da db dO dc xa xb xo xc,Tr W->RdU W sa sb so S.length S->RdS W da db dO D.length D->RdS W xa xb xo X.length X->Zr 96 #[vP kd k old size (.slice sa S.length sc) (.slice da D.length dc),.slice xa X.length xc] W (.tuple #[.agg #[.int .u64 (n:Int),.string rr],.int .i64 (er:Int)])):=by
 by_cases h1:okB kd k old size S D∧X.length=S.length
 ·obtain⟨xB,xA⟩:=h1;obtain rfl:kd=2:=xB.1.1;obtain rfl:old=0:=xB.1.2.2
  by_cases h2 : ∀s∈X,s.size<=1048576
  ·refine⟨size,dg (clk k) (QI size (Qr (clk k) (pB (clk k) (Cv.dnL 41 0 size) S X D))),0,fun W sa sb so sc da db dO dc xa xb xo xc hT hU u1 u2 hR r1 r2 hx x1 x2 => ?_,fun W sa sb so sc da db dO dc xa xb xo xc hT hU hR hx => ?_⟩
   ·have:=broot_ok W hT k size sa sb so sc S X (by rw[xA];exact hU) (by omega) (by omega) u2 da db dO dc D hR hD r1 r2 xa xb xo xc hx x1 x2 xB h2 _ rfl
    rw[xA] at this;rw[xA];exact this
   ·have:=Qit W hT k size sa sb so sc S X (by rw[xA];exact hU) (by omega) da db dO dc D hR hD xa xb xo xc hx xB h2 _ rfl
    rw[xA] at this;rw[xA];exact this
  ·refine⟨0,⟨#[]⟩,100,fun W sa sb so sc da db dO dc xa xb xo xc hT hU u1 u2 hR r1 r2 hx x1 x2 => ?_,fun W sa sb so sc da db dO dc xa xb xo xc hT hU hR hx => ?_⟩
   ·have:=Qby W k size sa sb so sc S X (by rw[xA];exact hU) (by omega) da db dO dc D hR hD xa xb xo xc hx xB h2
    rw[xA] at this;rw[xA];exact this
   ·have:=Qgh W k size sa sb so sc S X (by rw[xA];exact hU) (by omega) da db dO dc D hR hD xa xb xo xc hx xB h2
    rw[xA] at this;rw[xA];exact this
 ·exact⟨0,⟨#[]⟩,150,fun W sa sb so sc da db dO dc xa xb xo xc hT hU u1 u2 hR r1 r2 hx x1 x2=>QeC W kd k old size sa sb so S.length sc S hU (by omega) da db dO D.length dc D hR hD xa X.length xc h1,
   fun W sa sb so sc da db dO dc xa xb xo xc hT hU hR hx=>Qkm W kd k old size sa sb so sc S hU (by omega) da db dO dc D hR hD xa X.length xc h1⟩
end
section
open Cv (RdC zl)
theorem Qgm{w:World}{s:Nat}{a b c:Value}(h0:w.cell? ⟨s,0,none⟩=some a)(h1:w.cell? ⟨s,1,none⟩=some b)(h2:w.cell? ⟨s,2,none⟩=some c)(x y z:Value) :
  (((w.setCell ⟨s,0,none⟩ x).setCell ⟨s,1,none⟩ y).setCell ⟨s,2,none⟩ z).cell? ⟨s,0,none⟩=some x∧(((w.setCell ⟨s,0,none⟩ x).setCell ⟨s,1,none⟩ y).setCell ⟨s,2,none⟩ z).cell? ⟨s,1,none⟩=some y∧(((w.setCell ⟨s,0,none⟩ x).setCell ⟨s,1,none⟩ y).setCell ⟨s,2,none⟩ z).cell? ⟨s,2,none⟩=some z:=by
 have n1:(⟨s,0,none⟩:Addr)≠⟨s,1,none⟩:=by simp
 have n2:(⟨s,0,none⟩:Addr)≠⟨s,2,none⟩:=by simp
 have n3:(⟨s,1,none⟩:Addr)≠⟨s,2,none⟩:=by simp
 have m1:(w.setCell ⟨s,0,none⟩ x).cell? ⟨s,1,none⟩=some b:=(LJ _ _ _ _ (by simp)).trans h1
 have m2:((w.setCell ⟨s,0,none⟩ x).setCell ⟨s,1,none⟩ y).cell? ⟨s,2,none⟩=some c:=(LJ _ _ _ _ (by simp)).trans ((LJ _ _ _ _ (by simp)).trans h2)
 refine⟨?_,?_,LZ _ _ _ m2⟩
 ·refine(LJ _ _ _ _ (by simp)).trans ((LJ _ _ _ _ (by simp)).trans (LZ _ _ _ h0))
 ·exact(LJ _ _ _ _ (by simp)).trans (LZ _ _ _ m1)
theorem fin3{W0 WF:World}{p s:Nat}(hps:s≠p){a b c:Value}(h0:W0.cell? ⟨s,0,none⟩=some a)(h1:W0.cell? ⟨s,1,none⟩=some b)(h2:W0.cell? ⟨s,2,none⟩=some c)(v1 v2 x y z:Value)
  (hWF:(((((W0.setCell ⟨p,1,none⟩ v1).setCell ⟨p,2,none⟩ v2).setCell ⟨s,0,none⟩ x).setCell ⟨s,1,none⟩ y).setCell ⟨s,2,none⟩ z).drew=WF) :
  (WF.cell? ⟨s,0,none⟩=some x∧WF.cell? ⟨s,1,none⟩=some y∧WF.cell? ⟨s,2,none⟩=some z)∧ChT (fun b=>b=p∨b=s) W0 WF:=by
 obtain⟨V,hV⟩:=Ze ((W0.setCell ⟨p,1,none⟩ v1).setCell ⟨p,2,none⟩ v2);have xA : ∀t,V.cell? ⟨s,t,none⟩=W0.cell? ⟨s,t,none⟩:=fun t=>by
  rw[<-hV,LJ _ _ _ _ (fun e=>hps (LU Addr.block e).symm),LJ _ _ _ _ (fun e=>hps (LU Addr.block e).symm)]
 have hc:=((ChT.refl (fun b=>b=p∨b=s) W0).set p 1 v1 (.inl rfl)).set p 2 v2 (.inl rfl)
 rw[hV] at hc hWF;have r:=Qgm ((xA 0).trans h0) ((xA 1).trans h1) ((xA 2).trans h2) x y z;have xB:=((hc.set s 0 x (.inr rfl)).set s 1 y (.inr rfl)).set s 2 z (.inr rfl);generalize ((V.setCell ⟨s,0,none⟩ x).setCell ⟨s,1,none⟩ y).setCell ⟨s,2,none⟩ z=U at r xB hWF;subst hWF;exact⟨by rw[Nn,Nn,Nn];exact r,xB.drew⟩
def Ly(w:World)(g:Nat)(M:List (Nat×Nat)):Prop := ∀t c,(Cv.cB (zl M))[t]? = some c->w.cell? ⟨g,t,none⟩=some c
theorem Ly.same{w W:World}{g:Nat}{M:List (Nat×Nat)}(h:Ly w g M)(hb:W.heap[g]? = w.heap[g]?):Ly W g M:=fun t c ht=>(LC (a:=⟨g,t,none⟩) hb).trans (h t c ht)
theorem QnD{W:World}{g cap:Nat}{M A B:List (Nat×Nat)}{x:Nat×Nat}(h:Ly W g M)(hM:M=A++x::B):RdC W (.slice (some ⟨g,0,none⟩) A.length cap) A.length (Cv.cB (zl A)):=by
 refine⟨_,_,rfl,(fun e=>by cases e),fun ad ha t c ht => ?_⟩
 cases ha;rw[Addr.add_mid,Lr];refine h t c ?_
 rw[hM,Cv.UO,Cv.Qao,LL ((List.getElem?_eq_some_iff.1 ht).1)]
 exact ht
theorem QnE{W:World}{g cap c':Nat}{M A B:List (Nat×Nat)}{x:Nat×Nat}(h:Ly W g M)(hM:M=A++x::B)(hc:M.length<=cap){ax:OA}(hax:(if cap=A.length+1 then some (⟨g,0,none⟩:Addr) else some ⟨g,(A.length+1)*2,none⟩)=ax):RdC W (.slice ax B.length c') B.length (Cv.cB (zl B)):=by
 refine⟨_,_,rfl,(fun e=>by rw[e] at hax;split at hax <;> cases hax),fun ad ha t c ht => ?_⟩
 have xB:=(List.getElem?_eq_some_iff.1 ht).1
 rw[Cv.Qw,Cv.QC] at xB;have xA:=LU List.length hM;rw[Lg,Lt] at xA;rw[Le (by omega),ha] at hax
 cases hax;rw[Addr.add_mid];refine h _ c ?_
 have e:zl M=zl (A++[x])++zl B:=by rw[<-Cv.UO,hM,LH];rfl
 rw[e,Cv.Qao,LN (by rw[Cv.Qw,Cv.QC];simp),Cv.Qw,Cv.QC]
 rw[show(A.length+1)*2+t - (A++[x]).length*2=t by simp]
 exact ht
structure WS(w1 wr:World)(p h q:Nat)(vb:Value)(l:List (Int×Nat)):Prop where
 c7:wr.heap[p]? = some (.cells #[vb,.slice none 0 0,.slice none 0 0] 154 (0,0))
 c8:wr.heap[p+1]? = some (.cells #[.int .i64 (h:Int),.int .u64 (q:Int)] 83 (0,0))
 own:Cv.Qx wr (p+2) vb l
 bl:Below p w1 wr
theorem WS.sz{w1 wr:World}{p h q:Nat}{vb:Value}{l:List (Int×Nat)}(h1:WS w1 wr p h q vb l):p+2<=wr.heap.size:=(Array.getElem?_eq_some_iff.1 h1.c8).1
theorem WS.next{w1 wr W:World}{p h q:Nat}{vb:Value}{l:List (Int×Nat)}(h1:WS w1 wr p h q vb l)(hb:Zb wr W):WS w1 W p h q vb l:=by
 have:=h1.sz;exact⟨(hb.block p (by omega)).trans h1.c7,(hb.block (p+1) (by omega)).trans h1.c8,Cv.Uc h1.own hb,h1.bl.trans (hb.mono (by omega))⟩
theorem WS.cells{w1 wr:World}{p h q:Nat}{vb:Value}{l:List (Int×Nat)}(h1:WS w1 wr p h q vb l):(wr.cell? ⟨p,0,none⟩=some vb∧wr.cell? ⟨p,1,none⟩=some (.slice none 0 0)∧wr.cell? ⟨p,2,none⟩=some (.slice none 0 0))∧(wr.cell? ⟨p+1,0,none⟩=some (.int .i64 (h:Int))∧wr.cell? ⟨p+1,1,none⟩=some (.int .u64 (q:Int))) ∧ ∀j,wr.frozen? ⟨p,j,none⟩=false∧wr.frozen? ⟨p+1,j,none⟩=false :=
  ⟨⟨by rw[cell_of_row wr p 0 _ _ (0,0) h1.c7];rfl,by rw[cell_of_row wr p 1 _ _ (0,0) h1.c7];rfl,by rw[cell_of_row wr p 2 _ _ (0,0) h1.c7];rfl⟩,
   ⟨by rw[cell_of_row wr (p+1) 0 _ _ (0,0) h1.c8];rfl,by rw[cell_of_row wr (p+1) 1 _ _ (0,0) h1.c8];rfl⟩,fun j=>⟨frozen_of_row wr p j _ _ h1.c7,frozen_of_row wr (p+1) j _ _ h1.c8⟩⟩
theorem WS.step{w1 wr w2:World}{p h q:Nat}{vb v':Value}{l l':List (Int×Nat)}{o:Obj}(h1:WS w1 wr p h q vb l)(hg:(wr.alloc o).grownBy w2 vb.ownBlock)(ho:Cv.Qx w2 (p+2) v' l')(h' q':Nat) :
  (w2.cell? ⟨p,0,none⟩=some vb∧w2.cell? ⟨p+1,0,none⟩=some (.int .i64 (h:Int))∧w2.cell? ⟨p+1,1,none⟩=some (.int .u64 (q:Int))∧w2.frozen? ⟨p,0,none⟩=false∧w2.frozen? ⟨p+1,0,none⟩=false∧w2.frozen? ⟨p+1,1,none⟩=false) ∧
  WS w1 (((w2.setCell ⟨p,0,none⟩ v').setCell ⟨p+1,0,none⟩ (.int .i64 (h':Int))).setCell ⟨p+1,1,none⟩ (.int .u64 (q':Int))) p h' q' v' l':=by
 have hs:=h1.sz;have xA : ∀b,b<p+2->w2.heap[b]? = wr.heap[b]? := fun b hb=>by
  rw[hg.block b (by simp;omega) (fun e=>by have:=(h1.own.lt b e.symm).1;omega)]
  exact Below.heap_alloc _ _ _ (by omega)
 have e7:=(xA p (by omega)).trans h1.c7
 have e8:=(xA (p+1) (by omega)).trans h1.c8
 refine⟨⟨by rw[cell_of_row w2 p 0 _ _ (0,0) e7];rfl,by rw[cell_of_row w2 (p+1) 0 _ _ (0,0) e8];rfl,by rw[cell_of_row w2 (p+1) 1 _ _ (0,0) e8];rfl,frozen_of_row w2 p 0 _ _ e7,frozen_of_row w2 (p+1) 0 _ _ e8,frozen_of_row w2 (p+1) 1 _ _ e8⟩,?_⟩
 have s7:(w2.setCell ⟨p,0,none⟩ v').heap[p]? = some (.cells #[v',.slice none 0 0,.slice none 0 0] 154 (0,0)):=LI w2 p 0 _ _ _ e7;have s8:(w2.setCell ⟨p,0,none⟩ v').heap[p+1]? = some (.cells #[.int .i64 (h:Int),.int .u64 (q:Int)] 83 (0,0)):=(Below.heap_setCell _ _ _ _ (by show p+1≠p;omega)).trans e8
 have t8:((w2.setCell ⟨p,0,none⟩ v').setCell ⟨p+1,0,none⟩ (.int .i64 (h':Int))).heap[p+1]? = some (.cells #[.int .i64 (h':Int),.int .u64 (q:Int)] 83 (0,0)):=LI _ (p+1) 0 _ _ _ s8;have t7:=(Below.heap_setCell (w2.setCell ⟨p,0,none⟩ v') ⟨p+1,0,none⟩ (.int .i64 (h':Int)) p (by show p≠p+1;omega)).trans s7
 refine⟨(Below.heap_setCell _ _ _ _ (by show p≠p+1;omega)).trans t7,LI _ (p+1) 1 _ _ _ t8,?_,?_⟩
 ·refine Qi ho fun g _ hg => ?_
  rw[Below.heap_setCell _ _ _ _ (by show g≠p+1;omega),Below.heap_setCell _ _ _ _ (by show g≠p+1;omega),Below.heap_setCell _ _ _ _ (by show g≠p;omega)]
 ·have xB:Below p wr w2:=((Lb p wr).alloc (by omega) o).grown hg (by simp;omega) fun k hk=>by have:=(h1.own.lt k hk).1;omega
  exact(((h1.bl.trans xB).setCell (p:=⟨p,0,none⟩) (Ld _) _).setCell (p:=⟨p+1,0,none⟩) (by show p<=p+1;omega) _).setCell (p:=⟨p+1,1,none⟩) (by show p<=p+1;omega) _
theorem Qes(w:World)(n i H:Nat)(A B:List (Nat×Nat))(hw:Wy n i A H B)(hn:n<=2^40)(hi:i<n) :
  Calls prog 113 #[.int .u64 (n:Int),.int .u64 (i:Int)] w fun e w' => ∃vb va vc,e = .returned (.agg #[vb,va,vc])∧RdC w' vb H (Cv.cB (zl (bes i H)))∧RdC w' va A.length (Cv.cB (zl A))∧RdC w' vc B.length (Cv.cB (zl B))∧Below w.heap.size w w':=by
 obtain⟨M,hM⟩:=Ze (Cv.dnL 41 0 n);have xP:=U4 n hn;rw[hM] at xP;have HM:Hid (∀W,Calls prog 75 #[.int .u64 (n:Int)] W fun x w' => ∃g cap,x = .returned (.tuple #[.slice (some ⟨g,0,none⟩) M.length cap,.int .i64 0])∧RdB w' (some ⟨g,0,none⟩) g 0 M.length (zl M)∧M.length<=cap∧cap<=maxLen∧g<w'.heap.size∧W.heap.size<=g∧Ly w' g M∧Below W.heap.size W w'):=fun W=>by
  have:=Cv.YH n W;rw[(YM n hn).1,(YM n hn).2,hM] at this;refine this.mono fun x w' ⟨v,e1,e2,e3⟩ => ?_
  have xZ:0<(zl M).length:=by rw[Cv.QC,<-hM,hw.all,Lg,Lt];omega
  obtain⟨ao,g,m,cap,rfl,r1,r2⟩:=Y4 e2 (fun b hb=>by
   obtain⟨c,hc,rfl⟩:=List.mem_map.1 hb;exact(UF (xP c hc) hn).1)
  have hl:=r1.len;subst hl;obtain rfl:=r1.addr xZ;obtain⟨g',yF,yT,hv,hg,hh,xV,yH,_⟩:=e2.2.resolve_left (by rintro⟨_,h0⟩;omega)
  cases hv;have xO:Ly w' g M:=fun t c ht=>by
   have:=e2.cells (g:=g) rfl t c ht
   rwa [Addr.add_mid,Lr] at this
  rw[Cv.QC] at e1 r1 xV;exact⟨g,cap,e1,r1,xV,yH,(Array.getElem?_eq_some_iff.1 hh).1,hg,xO,e3⟩
 have xH:M.length<=41:=by rw[<-hM];exact Cv.YS 41 0 n
 have HW:Hid (Wy n i A H B∧Cv.dnL 41 0 n=M∧M.length<=41∧i<2^40 ∧ ∀b∈M,(b.2+1)*2^b.1<=n):=⟨hw,hM,xH,by omega,xP⟩
 have yM:(M.length:Int)<=41:=by omega
 clear hw hM xP hn hi
 go_enter func113,ntmps113;go_wp2
 go_step3
 go_wp2_with (go_at_call 75;with_reducible refine(HM.out _).mono ?_;rintro e w1 ⟨g,cap,rfl,hR,xE,xW,hg,xY,xO,xN⟩)
 go_step3
 go_wp2;have z0:w.heap.size<w1.heap.size:=by have:=xN.size;simp at this;omega
 have xQ:Hid (WS w1 ((w1.alloc (.cells #[.slice none 0 0,.slice none 0 0,.slice none 0 0] 154)).alloc (.cells #[.int .i64 ((0:Nat):Int),.int .u64 (i:Int)] 83)) w1.heap.size 0 i (.slice none 0 0) []):=by
  refine⟨?_,?_,LT _ _ _ _,((Lb _ _).alloc (Ld _) _).alloc (by simp) _⟩
  ·rw[Below.heap_alloc _ _ _ (by simp)];exact Lu w1 _
  ·have:=Lu (w1.alloc (.cells #[.slice none 0 0,.slice none 0 0,.slice none 0 0] 154)) (.cells #[.int .i64 ((0:Nat):Int),.int .u64 (i:Int)] 83)
   simpa using this
 have HR:Hid (∀W,Below w1.heap.size w1 W->RdB W (some ⟨g,0,none⟩) g 0 M.length (zl M)):=fun W hb=>hR.below hb
 have xJ:Hid (Below w.heap.size w w1):=(bal (Lb _ _) _).trans (xN.mono (by simp))
 have yA:Hid (w1.heap[w.heap.size]? = some (.cells #[.slice none 0 0,.slice none 0 0,.slice none 0 0] 154 (0,0))):=(xN.block w.heap.size (by simp)).trans (Lu w _)
 have HG:Hid (g<w1.heap.size∧M.length<=cap∧cap<=maxLen∧w.heap.size<g∧Ly w1 g M):=⟨hg,xE,xW,by simp at xY;omega,xO⟩
 have HZ:Hid (w.heap.size<w1.heap.size):=z0;obtain⟨p,hp⟩:=Ze w1.heap.size;have HP:=Qe hp;rw[hp] at xQ ⊢;clear hR xN hg z0 xH HM xE xW xY xO
 go_loopg [] H (fun gh wr => ∃(h:Nat) (vb:Value),h<=H∧gh=H - h∧WS w1 wr p h (i / 2^h) vb (zl (bes i h)))
 case atStart =>
  go_light;refine⟨0,.slice none 0 0,Ll _,rfl,?_⟩
  have:=xQ.out
  simpa [bes,zl] using this
 case round =>
  clear xQ;obtain⟨h,vb,hh,rfl,hS⟩:=hrel;obtain⟨q,hq⟩:=Ze (i / 2^h);rw[hq] at hS;have HQ:=Qe hq;obtain⟨vo,vm,vq,rfl⟩:=Cv.Qj hS.own;have HS:=Qe hS;clear hS hq;generalize wr=wo at *;clear wr;go_wp2
  go_loopg [20] M.length (fun gh x wr2 => ∃j:Nat,j<=M.length∧gh=M.length - j∧x = .int .i64 (j:Int)∧(∀t,t<j->M.getD t (0,0)≠(h,q))∧Below wo.heap.size wo wr2)
  case atStart=>go_light;exact⟨0,Ll _,rfl,rfl,fun t ht=>absurd ht (Nu _),Lb _ _⟩
  case round =>
   obtain⟨j,hj,rfl,rfl,xI,hb⟩:=hrel;have xA:=HS.out.next hb;have yS:=xA.sz;have xL:=HR.out _ (show Below w1.heap.size w1 wr by rw[HP.out];exact xA.bl)
   by_cases hlt:j<M.length
   ·have hz:(j:Int)<(M.length:Int):=by omega
    have yZ:(0:Int)<=(j:Int):=Lf _;obtain⟨m0,m1⟩:=xL.cell j hlt;rw[Qa8 M j hlt] at m0 m1;obtain⟨⟨mh,mk⟩,hm⟩ : ∃m,M.getD j (0,0)=m:=⟨_,rfl⟩;rw[hm] at m0 m1;rw[Lr] at m0 m1;have xM:=xA.next (bal (Lb _ _) (.cells #[.int .i64 (mh:Int),.int .u64 (mk:Int)] 83));obtain⟨⟨k0,k1,k2⟩,⟨k3,k4⟩,fz⟩:=xM.cells;have f0:=fun j=>(fz j).1
    have f1:=fun j=>(fz j).2
    by_cases hf:(mh,mk)=(h,q)
    ·obtain⟨rfl,rfl⟩:=Prod.mk.inj hf;have xX:=QmD HW.out.1 (j:=j) (h:=mh) (by rw[HW.out.2.1];exact hlt) (by rw[HW.out.2.1,HQ.out];exact hm)
     have HX:Hid (j=A.length∧mh=H):=xX;have yX:(j:Int)<=(cap:Int):=by have:=HG.out.2.1;omega
     have e1:IntKind.i64.wrap ((j:Int)+1)=((j+1:Nat):Int):=by rw[Nd];omega
     have HB:=Qe hb;have xK:=Qe xM;clear hm hf xX xI hj hb xL xA xM fz
     go_upto_region 8 with (fail)
     obtain⟨W0,xU⟩:=Ze (wr.alloc (.cells #[.int .i64 (mh:Int),.int .u64 (mk:Int)] 83));rw[xU] at k0 k1 k2 k3 k4 xK ⊢;have xD:Hid (Below p w1 W0):=xK.out.bl;simp only[xU] at f0 f1;have c4 : ∀t,t<3->W0.cell? ⟨w.heap.size,t,none⟩=some (.slice none 0 0)∧W0.frozen? ⟨w.heap.size,t,none⟩=false:=fun t ht=>by
      have hx:W0.heap[w.heap.size]? = some (.cells #[.slice none 0 0,.slice none 0 0,.slice none 0 0] 154 (0,0)):=by
       refine Eq.trans ?_ yA.out
       refine xD.out.block _ ?_
       have:=HZ.out;have:=HP.out;omega
      refine⟨?_,frozen_of_row W0 _ t _ _ hx⟩
      rw[cell_of_row W0 _ t _ _ (0,0) hx]
      match t,ht with
      | 0,_=>rfl
      | 1,_=>rfl
      | 2,_=>rfl
     have yC:=(c4 0 (by decide)).1
     have yD:=(c4 1 (by decide)).1
     have yE:=(c4 2 (by decide)).1
     have yU:=(c4 0 (by decide)).2
     have yV:=(c4 1 (by decide)).2
     have yW:=(c4 2 (by decide)).2
     have yO:((j+1:Nat):Int)<=(M.length:Int):=by omega
     have yN:((M.length:Nat):Int)<=(cap:Int):=by have:=HG.out.2.1;omega
     have yQ:w.heap.size≠p:=by have:=HZ.out;have:=HP.out;omega
     clear c4
     go_region
     obtain⟨ax,xS⟩:=Ze (if cap=j+1 then some (⟨g,0,none⟩:Addr) else some ⟨g,(j+1)*2,none⟩)
     have HA:=Qe xS;rw[xS];clear xS;go_wp2;obtain⟨WF,xR⟩:=Ze ((((((W0.setCell ⟨p,1,none⟩ (.slice (some ⟨g,0,none⟩) j cap)).setCell ⟨p,2,none⟩ (.slice ax (M.length - (j+1)) (cap - (j+1)))).setCell ⟨w.heap.size,0,none⟩ (.slice vo vm vq)).setCell ⟨w.heap.size,1,none⟩ (.slice (some ⟨g,0,none⟩) j cap)).setCell ⟨w.heap.size,2,none⟩ (.slice ax (M.length - (j+1)) (cap - (j+1)))).drew);obtain⟨⟨r0,r1,r2⟩,xF⟩:=fin3 yQ yC yD yE _ _ _ _ _ xR;have xC : ∀b,b≠p->b≠w.heap.size->WF.heap[b]? = W0.heap[b]? := fun b h1 h2=>xF.block b (by rintro(e|e);exact h1 e;exact h2 e)
     rw[xR];clear xR;refine Lp (v := .agg #[.slice vo vm vq,.slice (some ⟨g,0,none⟩) j cap,.slice ax (M.length - (j+1)) (cap - (j+1))]) (by simp[results,results113,go_sem,r0,r1,r2]) rfl ?_
     have zA:=HZ.out;have yY:=HP.out;obtain⟨g1,g2,g3,g4,g5⟩:=HG.out;obtain⟨rfl,rfl⟩:=HX.out;have xB:=HW.out.1.all;rw[HW.out.2.1] at xB;have xG:Ly WF g M:=(g5.same (xD.out.block g (by omega))).same (xC g (by omega) (by omega))
     have yP:=LU List.length xB;rw[Lg,Lt] at yP;refine⟨_,_,_,rfl,?_,QnD xG xB,?_,?_⟩
     ·have xT:Cv.Qx WF (p+2) (.slice vo vm vq) (zl (bes i mh)):=Qi xK.out.own fun b _ hb=>xC b (by omega) (by omega)
      have:=Cv.O3 xT;rw[Cv.QC,Us] at this;exact this
     ·have:=QnE (c':=cap - (A.length+1)) xG xB g2 HA.out;rw[show M.length - (A.length+1)=B.length by omega]
      exact this
     ·refine⟨?_,?_,?_,?_,fun b hb => ?_⟩
      ·exact xF.os.trans (xD.out.os.trans xJ.out.os)
      ·exact xF.tape.trans (xD.out.tape.trans xJ.out.tape)
      ·exact xF.output.trans (xD.out.output.trans xJ.out.output)
      ·have:=xK.out.sz;have:=xF.size;omega
      ·rw[xC b (by omega) (by omega),xD.out.block b (by omega)];exact xJ.out.block b hb
    ·have xZ : ¬((h:Int)=(mh:Int)∧(q:Int)=(mk:Int)):=by
      rintro⟨e1,e2⟩;exact hf (Prod.ext (by show mh=h;omega) (by show mk=q;omega))
     have HN:Hid (∀t,t<j+1->M.getD t (0,0)≠(h,q)):=fun t ht=>by
      rcases NB (NL ht) with hx|rfl
      ·exact xI t hx
      ·rw[hm];exact hf
     have HB:=Qe (bal hb (.cells #[.int .i64 (mh:Int),.int .u64 (mk:Int)] 83));have yL:(j:Int)<41:=by omega
     clear hm hf xI hj hb xL xA xM fz;go_wp2
     all_goals
      go_roundg (M.length - (j+1))
      case rel=>go_light;exact⟨j+1,by omega,rfl,by go_num,HN.out,HB.out⟩
      case measure=>go_light;omega
   ·obtain rfl:j=M.length:=by omega
    have hz : ¬((M.length:Int)<(M.length:Int)):=by omega
    have yJ:h<H:=by
     apply Nat.lt_of_not_le
     intro hge;obtain rfl:h=H:=by omega
     obtain⟨a1,a2⟩:=Qot HW.out.1;rw[HW.out.2.1] at a1 a2;exact xI _ a1 (by rw[a2,HQ.out])
    have yG:=HS.out.next hb;obtain⟨⟨k0,k1,k2⟩,⟨k3,k4⟩,fz⟩:=xA.cells;have yK:=HW.out.2.2.2.1;have yR:q<2^40:=by have:=HQ.out;have:=Nt i (2^h);omega
    have ex:bits .xor .u64 (q:Int) 1=((sb q:Nat):Int):=by rw[<-Qgk];exact bits_xor_u64_nat q 1 (by omega) (by decide)
    have yI:(h:Int)<41:=by have:=HW.out.1.hH;omega
    have e2:IntKind.u64.wrap ((q:Int) / 2)=((q / 2:Nat):Int):=by rw[IntKind.wrap_u64];omega
    clear hlt xI hj xL
    go_wp2_with (at_builtin;refine Cv.QP _ rfl _ _ rfl (p+2) _ (zl (bes i h)) rfl (xA.own.alloc _) _ [((h:Int),sb q)] rfl (Cv.YU wr (h:Int) (sb q) 83) ?c1 ?c2 ?_)
    case c1=>have:=HW.out.1.hH;rw[Cv.QC,Us];simp;omega
    case c2=>have:=xA.sz;simp;omega
    intro v' w2 r1 r2 _;have hE:zl (bes i h)++[((h:Int),sb q)]=zl (bes i (h+1)):=by rw[Qew,Cv.UO,HQ.out];rfl
    rw[hE] at r1;obtain⟨⟨k5,k6,k7,f5,f6,f7⟩,hN⟩:=xA.step r2 r1 (h+1) (q / 2);obtain⟨yB,m2,c2,rfl⟩:=Cv.Qj r1;have HN:=Qe hN;have HH:=Qe yJ;clear r1 r2 hE hN hb yG xA HS k0 k1 k2 k3 k4 fz yS;go_wp2
    go_roundg (H - (h+1))
    case rel =>
     go_light;refine⟨h+1,.slice yB m2 c2,by have:=HH.out;omega,rfl,?_⟩
     have:=HN.out;rw[show i / 2^(h+1)=q / 2 by rw[<-J7,HQ.out]]
     rw[show((h+1:Nat):Int)=(h:Int)+1 by omega,show((q / 2:Nat):Int)=(q:Int) / 2 by omega] at this
     exact this
    case measure=>go_light;have:=HH.out;omega
theorem Qna{w:World}{g0:Nat}{u0 u1 u2:Value}{L0 L1 L2:LB}(c0:w.cell? ⟨g0,0,none⟩=some u0)(c1:w.cell? ⟨g0,1,none⟩=some u1)(c2:w.cell? ⟨g0,2,none⟩=some u2)(r0:RdC w u0 L0.length (cS L0))(r1:RdC w u1 L1.length (cS L1))(r2:RdC w u2 L2.length (cS L2)):CatS w g0 [u0,u1,u2] [L0,L1,L2]:=by
 refine⟨rfl,fun j hj => ?_,fun j hj => ?_⟩
 ·match j,hj with
  | 0,_=>exact c0
  | 1,_=>exact c1
  | 2,_=>exact c2
 ·match j,hj with
  | 0,_=>exact r0
  | 1,_=>exact r1
  | 2,_=>exact r2
section
variable {w W:World} {s:Nat} {a b c d e f:Value}
end
end
section
open Cv (RdC zl cU)
theorem QeB(w:World)(kd k:Int)(old size:Nat)(vs vd:Value):Zb w (w.alloc (.cells #[.int .i64 kd,.int .i64 k,.int .u64 (old:Int),.int .u64 (size:Int),vs,vd] 55)):=bal (Lb _ _) _
theorem UR(w:World)(kd k:Int)(old size:Nat)(sa:OA)(ns sc:Nat)(da:OA)(n2 dc:Nat)(x:Nat)(hx:ns=1 -> ∃b o,sa=some ⟨b,o,none⟩∧w.cell? ⟨b,o,none⟩=some (.int .u64 (x:Int)))
  (r:Bool) (hr:decide (kd=1∧(1<=k∧k<=32)∧size<=2^40∧old=0∧ns=1∧x<size)=r) :
  Zr 112 #[.agg #[.int .i64 kd,.int .i64 k,.int .u64 (old:Int),.int .u64 (size:Int),.slice sa ns sc,.slice da n2 dc]] w (.bool r):=by
 have hb:=QeB w kd k old size (.slice sa ns sc) (.slice da n2 dc)
 by_cases h1:kd=1
 ·subst h1
  by_cases h2:1<=k∧k<=32
  ·have HC:Hid (∀W,Calls prog 61 #[.int .i64 k] W fun e w'=>e = .returned (.int .i64 0)∧W=w'):=fun W=>by
    have:=(QV W k);rw[show chk k=0 by rw[chk,Le (by omega)]] at this
    exact this.mono fun _ _ h=>⟨h.1,h.2.symm⟩
   by_cases h3:size<=2^40
   ·have hd:decide ((1099511627776:Int)<(size:Int))=false:=Lj (by omega)
    by_cases h4:old=0
    ·subst h4
     by_cases h5:ns=1
     ·subst h5;obtain⟨b,o,rfl,c0⟩:=hx rfl;have c1:=(hb.cell (p:=⟨b,o,none⟩) (Lh w _ c0)).trans c0;have HR:Hid (decide (x<size)=r):=by
       rw[<-hr]
       show decide _=decide _
       simp only[true_and,decide_eq_decide];omega
      clear hr hx h2 h3 c0;rw[show((0:Nat):Int)=0 from rfl] at *
      go_enter func112,ntmps112
      go_upto_region 5 with (go_at_call 61;with_reducible refine(HC.out _).mono ?_;rintro e w1 ⟨rfl,rfl⟩)
      go_quiet (fail)
      go_wp2
      go_ret
      exact⟨by rw[HR.out];rfl,Qd hb _⟩
     ·have hz:decide (ns=1)=false:=Lj h5
      have xB : ¬ns=1:=h5;have xA : ¬(ns:Int)=1:=by omega
      have xC:decide ((ns:Int)=1)=false:=Lj xA
      obtain rfl:false=r:=by rw[<-hr];exact(Lj (by rintro⟨_,_,_,_,h,_⟩;exact h5 h)).symm
      clear hr hx h2 h3 h5;rw[show((0:Nat):Int)=0 from rfl] at *
      go_enter func112,ntmps112
      go_upto_region 5 with (go_at_call 61;with_reducible refine(HC.out _).mono ?_;rintro e w1 ⟨rfl,rfl⟩)
      go_quiet (fail)
      go_wp2
      go_ret
      exact⟨rfl,Qd hb _⟩
    ·have hz : ¬(old:Int)=0:=by omega
     obtain rfl:false=r:=by rw[<-hr];exact(Lj (by rintro⟨_,_,_,h,_,_⟩;exact h4 h)).symm
     clear hr hx h2 h3 h4
     go_enter func112,ntmps112
     go_wp2_with (go_at_call 61;with_reducible refine(HC.out _).mono ?_;rintro e w1 ⟨rfl,rfl⟩)
     go_ret
     exact⟨rfl,hb⟩
   ·have hd:decide ((1099511627776:Int)<(size:Int))=true:=Ln (by omega)
    obtain rfl:false=r:=by rw[<-hr];exact(Lj (by rintro⟨_,_,h,_,_,_⟩;exact h3 h)).symm
    clear hr hx h2 h3
    go_enter func112,ntmps112
    go_wp2_with (go_at_call 61;with_reducible refine(HC.out _).mono ?_;rintro e w1 ⟨rfl,rfl⟩)
    go_ret
    exact⟨rfl,hb⟩
  ·have HC:Hid (∀W,Calls prog 61 #[.int .i64 k] W fun e w'=>e = .returned (.int .i64 70)∧W=w'):=fun W=>by
    have:=(QV W k);rw[show chk k=70 by rw[chk,Lm (by omega)]] at this
    exact this.mono fun _ _ h=>⟨h.1,h.2.symm⟩
   obtain rfl:false=r:=by rw[<-hr];exact(Lj (by rintro⟨_,h,_,_,_,_⟩;exact h2 h)).symm
   clear hr hx h2
   go_enter func112,ntmps112
   go_wp2_with (go_at_call 61;with_reducible refine(HC.out _).mono ?_;rintro e w1 ⟨rfl,rfl⟩)
   go_ret
   exact⟨rfl,hb⟩
 ·obtain rfl:false=r:=by rw[<-hr];exact(Lj (by rintro⟨h,_,_,_,_,_⟩;exact h1 h)).symm
  clear hr hx
  go_enter func112,ntmps112;go_wp2
  go_ret
  exact⟨rfl,hb⟩
instance (k:Int) (m:Nat) (D:LB):Decidable (fil k m D):=by unfold fil;infer_instance
theorem JH(w:World)(kd k:Int)(old size:Nat)(sa:OA)(ns sc:Nat)(da:OA)(db dO dc:Nat)(D:LB)(hr:RdS w da db dO D.length D)(hm:D.length<=9223372036854775807)(a0 a1 a2:OA)(n0 n1 n2 c0 c1 c2:Nat)(h0:n0<=100)(h1:n1<=100)(h2:n2<=100)(r:Bool)(hq:decide (fil k (n0+n1+n2) D)=r) :
  Zr 114 #[.agg #[.slice a0 n0 c0,.slice a1 n1 c1,.slice a2 n2 c2],.agg #[.int .i64 kd,.int .i64 k,.int .u64 (old:Int),.int .u64 (size:Int),.slice sa ns sc,.slice da D.length dc]] w (.bool r):=by
 have xB:=bal (bal (Lb w.heap.size w) (.cells #[.slice a0 n0 c0,.slice a1 n1 c1,.slice a2 n2 c2] 154)) (.cells #[.int .i64 kd,.int .i64 k,.int .u64 (old:Int),.int .u64 (size:Int),.slice sa ns sc,.slice da D.length dc] 55);have e1:IntKind.i64.wrap ((n0:Int)+(n1:Int))=(n0:Int)+(n1:Int):=by rw[Nd];omega
 have e2:IntKind.i64.wrap ((n0:Int)+(n1:Int)+(n2:Int))=((n0+n1+n2:Nat):Int):=by rw[Nd];omega
 by_cases hl:D.length=n0+n1+n2
 ·have hz:(n0:Int)+(n1:Int)+(n2:Int)=(D.length:Int):=by omega
  rw[<-hl] at e2;have HR:Hid (∀W,Zb w W->RdS W da db dO D.length D):=fun W hb=>hr.next hb (Ld _)
  have h6:=(Q8 (w.alloc (.cells #[.slice a0 n0 c0,.slice a1 n1 c1,.slice a2 n2 c2] 154)) (.int .i64 kd) (.int .i64 k) (.int .u64 (old:Int)) (.int .u64 (size:Int)) (.slice sa ns sc) (.slice da D.length dc)).cells.2.1;rw[LA] at h6;have HQ:Hid (decide (∀d∈D,(d.size:Int)=k)=r):=by
   rw[<-hq]
   show decide _=decide _
   simp only[fil,hl,true_and]
  have xG:(D.length:Int)<=300:=by omega
  clear hr hq hm hl h0 h1 h2 hz
  go_enter func114,ntmps114;go_wp2
  go_loopg [25] D.length (fun g i wr => ∃j:Nat,j<=D.length∧g=D.length - j∧i = .int .i64 (j:Int)∧(∀t,t<j->((D.getD t ByteArray.empty).size:Int)=k)∧wr=(w.alloc (.cells #[.slice a0 n0 c0,.slice a1 n1 c1,.slice a2 n2 c2] 154)).alloc (.cells #[.int .i64 kd,.int .i64 k,.int .u64 (old:Int),.int .u64 (size:Int),.slice sa ns sc,.slice da D.length dc] 55))
  case atStart=>go_light;exact⟨0,Ll _,rfl,rfl,fun t ht=>absurd ht (Nu _),rfl⟩
  case round =>
   obtain⟨j,hj,rfl,rfl,xA,xD⟩:=hrel;rw[<-xD] at xB h6;have xF:=Qe xD;clear xD
   by_cases hlt:j<D.length
   ·have hz:(j:Int)<(D.length:Int):=by omega
    have xH:(0:Int)<=(j:Int):=Lf _;have xC:=HR.out wr xB;obtain rfl:=xC.ptr (by omega)
    have cj:=xC.at hlt;obtain⟨d,hd⟩:=Ze (D.getD j ByteArray.empty);rw[hd] at cj
    by_cases hk:(d.size:Int)=k
    ·have HN:Hid (∀t,t<j+1->((D.getD t ByteArray.empty).size:Int)=k):=fun t ht=>by
      rcases NB (NL ht) with hx|rfl
      ·exact xA t hx
      ·rw[hd];exact hk
     clear hd xA xC;go_wp2
     go_roundg (D.length - (j+1))
     case rel=>go_light;exact⟨j+1,by omega,rfl,by go_num,HN.out,xF.out⟩
     case measure=>go_light;omega
    ·obtain rfl:false=r:=by
      rw[<-HQ.out];refine(Lj fun h=>hk ?_).symm
      rw[<-hd];exact h _ (Qv hlt)
     clear hd xA xC;go_wp2
     go_ret
     exact⟨rfl,xB⟩
   ·obtain rfl:j=D.length:=by omega
    have hz : ¬((D.length:Int)<(D.length:Int)):=by omega
    obtain rfl:true=r:=by
     rw[<-HQ.out];refine(Ln fun d hd => ?_).symm
     obtain⟨t,ht,rfl⟩:=LS hd;have:=xA t ht
     rwa [La,Lc ht] at this
    clear xA hlt;go_wp2
    go_ret
    exact⟨rfl,xB⟩
 ·have hz : ¬(D.length:Int)=((n0+n1+n2:Nat):Int):=by omega
  obtain⟨nn,xE⟩:=Ze (n0+n1+n2);rw[xE] at e2 hz;obtain rfl:false=r:=by rw[<-hq];exact(Lj (by rintro⟨h,_⟩;exact hl h)).symm
  clear hr hq hl h0 h1 h2 xE
  go_enter func114,ntmps114;go_wp2
  go_ret
  exact⟨rfl,xB⟩
theorem QkY(q:Nat)(h:q<18446744073709551616):bits .and .u64 (q:Int) 1=((q % 2:Nat):Int):=by
 have:=bits_and_u64_nat q 1 h (by decide)
 rw[Wd] at this;exact this
theorem Qf2(w:World)(ht:Tb w)(k:Int)(i:Nat)(hi:i<2^40)(d:BA)(hd:d.size=clk k)(da:OA)(db dO dc:Nat)(D:LB)(hr:RdS w da db dO D.length D)(hl:D.length<=40)(hs : ∀s∈D,s.size=clk k)(r:BA)(hq:rs (clk k) i d D=r) :
  Zr 115 #[.int .i64 k,.int .u64 (i:Int),.string d,.slice da D.length dc] w (.string r):=by
 have HT:Hid (∀W,Zb w W->Tb W):=fun W hb=>ht.next hb
 have HR:Hid (∀W,Zb w W->RdS W da db dO D.length D):=fun W hb=>hr.next hb (Ld _)
 have HX:Hid (i<2^40∧D.length<=40∧(∀s∈D,s.size=clk k)∧rs (clk k) i d D=r∧d.size=clk k):=⟨hi,hl,hs,hq,hd⟩;have xK:(D.length:Int)<=40:=by omega
 have xG:=Lb w.heap.size w;clear ht hr hi hl hs hq hd
 go_enter func115,ntmps115;go_wp2
 go_loopg [2,13] D.length (fun g x n wr => ∃(j:Nat) (y:BA),j<=D.length∧g=D.length - j∧n = .int .i64 (j:Int)∧x = .string y∧Hid (rs (clk k) i d (D.take j)=y∧y.size=clk k)∧Zb w wr)
 case atStart=>go_light;exact⟨0,d,Ll _,rfl,rfl,rfl,⟨by simp[rs],HX.out.2.2.2.2⟩,xG⟩
 case round =>
  clear xG;obtain⟨j,y,hj,rfl,rfl,rfl,HY,hb⟩:=hrel
  by_cases hlt:j<D.length
  ·have hz:(j:Int)<(D.length:Int):=by omega
   have xL:(0:Int)<=(j:Int):=Lf _;have xI:(j:Int)<64:=by omega
   have xC:=HR.out wr hb;obtain rfl:=xC.ptr (by omega)
   have cj:=xC.at hlt;obtain⟨x,hx⟩:=Ze (D.getD j ByteArray.empty);rw[hx] at cj;have zx:x.size=clk k:=by rw[<-hx];exact HX.out.2.2.1 _ (Qv hlt)
   obtain⟨q,hq⟩:=Ze (i / 2^j);have xJ:(i:Int) / 2^j=(q:Int):=by rw[<-hq];simp
   have xE:q<18446744073709551616:=by have:=HX.out.1;have:=Nt i (2^j);omega
   have ea:=QkY q xE;have xF:D.take (j+1)=D.take j++[x]:=by rw[Q5 ByteArray.empty D j hlt,hx]
   have xA:rs (clk k) i d (D.take (j+1))=dg (clk k) (stT q y x):=by
    rw[xF,Qd8,HY.out.1,Lq,If hj,hq]
   have hc:=Qp k
   by_cases hodd:q % 2=1
   ·have xH:bits .and .u64 (q:Int) 1=1:=by rw[ea,hodd];rfl
    rw[stT,Lm hodd] at xA;obtain⟨y2,xB⟩:=Ze (dg (clk k) (QH x y));have HN:=OS wr (HT.out wr hb) k x y (by omega) (by have:=HY.out.2;omega) y2 xB
    have HG:Hid (rs (clk k) i d (D.take (j+1))=y2∧y2.size=clk k):=⟨xA.trans xB,by rw[<-xB];exact Q6 hc _⟩
    clear xA xF hx zx hq xE ea hodd xC xB hc HY
    go_wp2_with (go_at_call 125;with_reducible refine HN.mono ?_;rintro e w1 ⟨rfl,xD⟩)
    go_roundg (D.length - (j+1))
    case rel=>go_light;exact⟨j+1,y2,by omega,rfl,by go_num,rfl,HG,Qa hb xD⟩
    case measure=>go_light;omega
   ·have xH:bits .and .u64 (q:Int) 1=0:=by rw[ea,show q % 2=0 by omega];rfl
    rw[stT,Le hodd] at xA;obtain⟨y2,xB⟩:=Ze (dg (clk k) (QH y x));have HN:=OS wr (HT.out wr hb) k y x (by have:=HY.out.2;omega) (by omega) y2 xB
    have HG:Hid (rs (clk k) i d (D.take (j+1))=y2∧y2.size=clk k):=⟨xA.trans xB,by rw[<-xB];exact Q6 hc _⟩
    clear xA xF hx zx hq xE ea hodd xC xB hc HY
    go_wp2_with (go_at_call 125;with_reducible refine HN.mono ?_;rintro e w1 ⟨rfl,xD⟩)
    go_roundg (D.length - (j+1))
    case rel=>go_light;exact⟨j+1,y2,by omega,rfl,by go_num,rfl,HG,Qa hb xD⟩
    case measure=>go_light;omega
  ·obtain rfl:j=D.length:=by omega
   have hz : ¬((D.length:Int)<(D.length:Int)):=by omega
   obtain rfl:y=r:=by rw[<-HX.out.2.2.2.1,<-HY.out.1,LY]
   clear HY hlt;go_wp2
   go_ret
   exact⟨rfl,hb⟩
end
end Go.Proofs.YtdocjikpcbmcgaaGreatDoor
