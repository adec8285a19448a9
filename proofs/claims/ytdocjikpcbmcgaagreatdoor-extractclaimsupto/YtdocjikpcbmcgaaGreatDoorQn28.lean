/- Own work. -/
import Derived.Test.YtdocjikpcbmcgaaGreatDoorQn21
import Derived.Test.YtdocjikpcbmcgaaGreatDoorQn27
set_option maxRecDepth 100000
set_option maxHeartbeats 4000000
namespace Go.Proofs.YtdocjikpcbmcgaaGreatDoor
open Go.RowKit
attribute [local go_sem ↓] Go.wp_at_zero Go.wp_at_succ
open Go.Proofs.Tryz
section
open Cv (zl)
def pk0(a b:Nat)(y:BA):LB:=List.replicate a (⟨#[]⟩:BA)++y::List.replicate b (⟨#[]⟩:BA)
theorem Qg2(a b:Nat)(y:BA):(pk0 a b y).length=a+1+b:=by rw[pk0,Lg,Lt,N9,N9];omega
theorem Qj8(a b:Nat)(y:BA)(j:Nat)(hj:j<a+1+b):(pk0 a b y).getD j ByteArray.empty=if j=a then y else (⟨#[]⟩:BA):=by
 rw[pk0,La]
 by_cases h1:j<a
 ·rw[LL (by rw[N9];exact h1),IG,Lm h1,Le (by omega)];rfl
 ·rw[LN (by rw[N9];omega),N9]
  by_cases h2:j=a
  ·rw[Lm h2,h2,NJ];rfl
  ·obtain⟨u,rfl⟩ : ∃u,j=a+(u+1):=⟨j - a - 1,by omega⟩
   rw[Le h2,show a+(u+1) - a=u+1 by omega,Nr,IG,Lm (by omega)];rfl
theorem Qe5{w:World}{B g m cap i:Nat}{l:LB}(h:Qk w B (.slice (some ⟨g,0,none⟩) m cap) l)(x:BA):Qk (w.setCell ⟨g,i,none⟩ (.string x)) B (.slice (some ⟨g,0,none⟩) m cap) (l.set i x):=by
 obtain⟨h1,h2⟩:=h;refine⟨by simp,.inr ?_⟩
 rcases h2 with ⟨h2,h3⟩|⟨g',cap',cur,hv,hg,hh,h3,h4,h5,h6⟩
 ·cases h2
 ·obtain⟨e1,e2,e3⟩:=Iq hv
  cases e1;have s1:(w.setCell ⟨g,i,none⟩ (.string x)).heap[g]? = _:=LI w g i cur _ _ hh;refine⟨g,cap,_,by rw[e2];simp,hg,s1,by simpa [e3] using h3,by omega,by simpa [e3] using h5,?_⟩
  rw[I0,Array.toList_setIfInBounds,List.take_set,h6,List.map_set]
theorem QjL{α:Type}{e:α}(P Q:List α)(hl:P.length=Q.length)(j:Nat)(hj:j<P.length):(P.take j++Q.drop j).set j (P.getD j e)=P.take (j+1)++Q.drop (j+1):=by
 apply IK
 intro t;rw[List.getElem?_set]
 by_cases h:j=t
 ·subst h;have h1:j<(P.take j++Q.drop j).length:=by rw[Lg,Lq,Lv];omega
  rw[Lm rfl,Lm h1,LL (by rw[Lq];omega),Nc,Lm (by omega),La,Lc hj];rfl
 ·rw[Le h]
  by_cases h2:t<j
  ·rw[LL (by rw[Lq];omega),LL (by rw[Lq];omega),Nc,Nc,Lm h2,Lm (by omega)]
  ·rw[LN (by rw[Lq];omega),LN (by rw[Lq];omega),Lq,Lq,Np,Np,If (by omega),If (by omega)]
   congr 1;omega
theorem QlC{α:Type}{e:α}(P Q:List α)(hl:P.length=Q.length)(j:Nat)(hj:j<P.length)(h:P.getD j e=Q.getD j e):P.take (j+1)++Q.drop (j+1)=P.take j++Q.drop j:=by
 rw[<-QjL (e:=e) P Q hl j hj,h]
 apply IK
 intro t;rw[List.getElem?_set]
 by_cases h2:j=t
 ·subst h2;have h1:j<(P.take j++Q.drop j).length:=by rw[Lg,Lq,Lv];omega
  rw[Lm rfl,Lm h1,LN (by rw[Lq];omega),Lq,Np,If (by omega),NJ,Ix,La,Lc (by omega)];rfl
 ·rw[Le h2]
theorem Qgb(w:World)(hT:Tr w)(k:Int)(size:Nat)(b o sc:Nat)(i H:Nat)(A B:List (Nat×Nat))(ha:RA w k size b o i H A B)(da:OA)(db dO dc:Nat)(D:LB)(hr:RdS w da db dO D.length D)(hf:fil k (H+A.length+B.length) D)(x:BA)(hx:x.size<=1048576)(r:BA)(hq:rtP (clk k) size i A.length H D x=r) :
  Zr 95 #[.agg #[.int .i64 1,.int .i64 k,.int .u64 0,.int .u64 (size:Int),.slice (some ⟨b,o,none⟩) 1 sc,.slice da D.length dc],.string x] w (.tuple #[.agg #[.int .u64 (size:Int),.string r],.int .i64 0]):=by
 have kY:=ha.il;have zV:=ha.n;have yV:=ha.k1;have zN:=ha.wy;have kZ:=zN.len;have hH:=zN.hH;obtain⟨M,hM⟩:=Ze (Cv.dnL 41 0 size);have xD:=U4 size zV;rw[hM] at xD;have kS:M.length=A.length+1+B.length:=by rw[<-hM,zN.all,Lg,Lt];omega
 have HM:Hid (∀W,Calls prog 144 #[.int .u64 (size:Int)] W fun e w' => ∃g cap,e = .returned (.slice (some ⟨g,0,none⟩) M.length cap)∧RdB w' (some ⟨g,0,none⟩) g 0 M.length (zl M)∧Zb W w'):=fun W=>Qc9 size W zV M hM (by omega)
 have kQ:=hf.1;have kO:Hr w 143 #[.agg #[.int .i64 1,.int .i64 k,.int .u64 0,.int .u64 (size:Int),.slice (some ⟨b,o,none⟩) 1 sc,.slice da D.length dc]] (.bool true):=fun W hb=>QaI W k size b o sc i H A B (ha.next hb) da db dO dc D (hr.next hb (Ld _)) (by omega) true (Ln hf)
 have pM:(clk k:Int)=k:=Qnc yV;have kI : ∀s∈D,s.size=clk k:=fun s hs=>by have:=hf.2 s hs;omega
 obtain⟨c,hc⟩:=Ze (clk k);have xK:c<=32:=by rw[<-hc];exact Qp k
 rw[hc] at kI hq;have zO:Hid (∀W t r,Tr W->t.size<=2000000->dg c t=r->Zr 145 #[.int .i64 k,.string t] W (.string r)):=fun W t r hW ht hr=>Qcl W hW k yV.1 yV.2 t (by omega) r (by rw[hc];exact hr)
 obtain⟨lf,zT⟩:=Ze (Qh x);obtain⟨d0,kF⟩:=Ze (dg c lf);have pF:lf.size<=2000000:=by rw[<-zT,Yu];omega
 have pU:=s0 x;rw[zT] at pU;obtain⟨W0,zR⟩:=Ze ((w.alloc (.cells #[.int .i64 1,.int .i64 k,.int .u64 ((0:Nat):Int),.int .u64 (size:Int),.slice (some ⟨b,o,none⟩) 1 sc,.slice da D.length dc] 55)).alloc (.cells #[.int .u64 0,.string ⟨#[]⟩] 30));obtain⟨hb,h6,zE,pY⟩:=QO zR;rw[show((0:Nat):Int)=0 from rfl] at zR h6
 have HS:Hid (∀W,Zb W0 W->Six W w.heap.size (.int .i64 1) (.int .i64 k) (.int .u64 0) (.int .u64 (size:Int)) (.slice (some ⟨b,o,none⟩) 1 sc) (.slice da D.length dc)∧W.cell? ⟨b,o,none⟩=some (.int .u64 (i:Int))∧RdS W da db dO D.length D∧Tr W∧Zb w W∧Rt W (w.heap.size+1) 0 ⟨#[]⟩):=fun W hbW=>by
  have hw:=Qa hb hbW;exact⟨h6.next hbW,(hw.cell (p:=⟨b,o,none⟩) (Lh w _ ha.ci)).trans ha.ci,hr.next hw (Ld _),hT.next hw,hw,zE.below hbW (by omega)⟩
 have HX:Hid (Wy size i A H B∧Cv.dnL 41 0 size=M∧M.length=A.length+1+B.length∧i<size∧size<=2^40∧A.length+B.length<=40∧H<=40∧(∀b∈M,(b.2+1)*2^b.1<=size)∧D.length=H+A.length+B.length):=⟨zN,hM,kS,kY,zV,kZ,hH,xD,kQ⟩;have HD:Hid ((∀s∈D,s.size=c)∧c<=32∧clk k=c∧1<=k∧k<=32∧rtP c size i A.length H D x=r∧Qh x=lf∧dg c lf=d0):=⟨kI,xK,hc,yV.1,yV.2,hq,zT,kF⟩;have kL:Hr W0 145 #[.int .i64 k,.string lf] (.string d0):=fun W hw=>zO.out W lf d0 (HS.out W hw).2.2.2.1 pF kF
 obtain⟨e0,e1,e2,e3,e4,e5⟩:=h6.cells;have pR:(M.length:Int)<=41:=by omega
 have pI:(D.length:Int)<=100:=by omega
 have pS : ¬(9223372036854775807<1+x.size):=by omega
 have qH:decide ((1048576:Int)<(x.size:Int))=false:=Lj (by omega)
 clear ha hr kY zV yV zN kZ hH xD kS h6 hM hf kI kQ hc xK pM hT zE pY hq kF pF zT
 go_enter func95,ntmps95
 go_upto_region 1 with (fail)
 try rw[zR]
 clear zR;have pK:=Lb W0.heap.size W0
 go_upto_region 8 with (first
  | (go_at_call 143;with_reducible refine(kO.out _ hb).mono ?_;rintro e w1 ⟨rfl,yT⟩;obtain⟨f0,f1,f2,f3,f4,f5⟩:=(HS.out w1 yT).1.cells)
  | (go_at_call 144;with_reducible refine(HM.out _).mono ?_;rintro e w2 ⟨g,cap,rfl,hR,zH⟩;obtain⟨g0,g1,g2,g3,g4,g5⟩:=(HS.out w2 (Qa yT zH)).1.cells;have ci:=(HS.out w2 (Qa yT zH)).2.1)
  | (go_at_call 145;with_reducible refine(kL.out _ (Qa yT zH)).mono ?_;rintro e w3 ⟨rfl,kD⟩))
 have zY:Hid (Zb W0 w3):=Qa (Qa yT zH) kD;have HR:Hid (∀W,Zb w3 W->RdB W (some ⟨g,0,none⟩) g 0 M.length (zl M)):=fun W hb=>hR.below (Qa kD hb)
 clear e0 e1 e2 e3 e4 e5 f0 f1 f2 f3 f4 f5 g0 g1 g2 g3 g4 g5 ci hR yT zH kD kO HM kL pK hb;obtain⟨pk,pA⟩:=Ze (rs c i d0 (D.take H));have kA:=Qe pA;clear pA;go_wp2
 go_loopg [8,9,10,11] M.length (fun gh d a1 v jj wr => ∃(j t:Nat) (y:BA),j<=M.length∧gh=M.length - j∧jj = .int .i64 (j:Int)∧d = .string y∧a1 = .int .i64 (t:Int)∧Hid (t=(if A.length<j then H else 0)∧y=rs c i d0 (D.take t)∧Qk wr w3.heap.size v ((pk0 A.length B.length pk).take j))∧Zb w3 wr)
 case atStart=>go_light;exact⟨0,0,d0,Ll _,rfl,rfl,rfl,rfl,⟨by rw[Le (by omega)],by rw[NS,rs],Um _ _⟩,Lb _ _⟩
 case round =>
  obtain⟨j,t,y,hj,rfl,rfl,rfl,rfl,HI,hb⟩:=hrel;obtain⟨xP,xQ,xZ,yA,xR,yB,xT,xS,yC⟩:=HX.out
  by_cases hlt:j<M.length
  ·have hz:(j:Int)<(M.length:Int):=by omega
   have pX:(0:Int)<=(j:Int):=Lf _;obtain⟨xI,xN,xJ⟩:=QcG xP xQ hlt;have xA:Hid (∀W,Zb w3 W->W.cell? ⟨g,j*2,none⟩=some (.int .i64 (((M.getD j (0,0)).1:Nat):Int))∧W.cell? ⟨g,j*2+1,none⟩=some (.int .u64 (((M.getD j (0,0)).2:Nat):Int))):=fun W hb=>by
    have:=(HR.out W hb).cell j hlt;rw[Qa8 M j hlt,Lr] at this;exact this
   have xH:M.getD j (0,0)∈M:=by rw[La,Lc hlt];exact LG _
   have xD:=xS _ xH;obtain⟨⟨mh,mk⟩,xY⟩ : ∃m,M.getD j (0,0)=m:=⟨_,rfl⟩;rw[xY] at xA xI xN xJ xD;obtain⟨_,xC,xF⟩:=UF xD xR;simp only at xD xI xJ xC xF xA;obtain⟨sz,xE⟩:=Ze (2^mh);obtain⟨lo,xG⟩:=Ze (mk*sz);rw[xE] at xD xI xJ;have xL:0<sz:=by rw[<-xE];exact LQ _
   rw[LR,LX,xG] at xD xI;rw[xG] at xJ;have yE:Hid (∀W,Zr 146 #[.agg #[.int .i64 (mh:Int),.int .u64 (mk:Int)]] W (.int .u64 (lo:Int))):=fun W=>QaD W mh mk xC (by rw[xE,xG];omega) lo (by rw[xE,xG])
   have yJ:Hid (∀W,Zr 147 #[.agg #[.int .i64 (mh:Int),.int .u64 (mk:Int)]] W (.int .u64 (sz:Int))):=fun W=>Qcv W mh mk xC sz xE
   obtain⟨m0,m1⟩:=xA.out wr hb;have kP:IntKind.u64.wrap ((lo:Int)+(sz:Int))=(lo:Int)+(sz:Int):=by rw[IntKind.wrap_u64];omega
   have pQ:(j:Int)<41:=by omega
   have pT:=Qg2 A.length B.length pk;have yM:=Q5 ByteArray.empty (pk0 A.length B.length pk) j (by omega)
   have yW:=Qj8 A.length B.length pk j (by omega)
   obtain⟨TK,yS⟩:=Ze ((pk0 A.length B.length pk).take j);have kC:Hid (TK.length<=41):=by rw[<-yS];show _<=_;rw[Lq];omega
   rw[yS] at yM;have HO:Hid (Qk wr w3.heap.size u10 TK):=by rw[<-yS];exact HI.out.2.2
   clear pT
   rcases NO j A.length with hjA|hjA|hjA
   ·have yU : ¬(i:Int)<(lo:Int):=by have:=xI hjA;omega
    have zW:(lo:Int)+(sz:Int)<=(i:Int):=by have:=xI hjA;omega
    have HN:Hid (t=(if A.length<j+1 then H else 0)∧y=rs c i d0 (D.take t)∧(pk0 A.length B.length pk).take (j+1)=TK++[(⟨#[]⟩:BA)]):=⟨by rw[HI.out.1];split <;> split <;> omega,HI.out.2.1,by rw[yM,yW,Le (by omega)]⟩
    clear xI xN xJ xP xQ xZ yA xR yB xT xS yC xY xD xC xF xE xG xL xH yM yW HI yS
    go_wp2_with (first
     | (go_at_call 146;with_reducible refine(yE.out _).mono ?_;rintro e w4 ⟨rfl,xB⟩;obtain⟨n0,n1⟩:=xA.out w4 (Qa hb xB))
     | (go_at_call 147;with_reducible refine(yJ.out _).mono ?_;rintro e w5 ⟨rfl,xM⟩)
     | (at_builtin;refine QE _ rfl _ _ rfl w3.heap.size _ TK rfl (Y0 (Qm (Qm HO.out xB (Ld _)) xM (Ld _)) _) (some ⟨_,0,none⟩) _ 0 1 [(⟨#[]⟩:BA)] rfl (YO _ (⟨#[]⟩:BA) (by decide)) (fun h=>by cases h) ?c1 ?c2 ?_))
    case c1=>have:=kC.out;simp;omega
    case c2=>have:=(Qa (Qa hb xB) xM).size;simp;omega
    intro v' w6 o1 o2;rw[<-HN.out.2.2] at o1;have xW:Zb w3 w6:=(bal (Qa (Qa hb xB) xM) _).trans o2;clear o2;go_wp2
    go_roundg (M.length - (j+1))
    case rel=>go_light;exact⟨j+1,t,y,by omega,rfl,by go_num,rfl,rfl,⟨HN.out.1,HN.out.2.1,o1⟩,xW⟩
    case measure=>go_light;omega
   ·obtain rfl:mh=H:=LU Prod.fst (xN hjA);have yF:mk=i / 2^mh:=LU Prod.snd (xN hjA);have yU : ¬(i:Int)<(lo:Int):=by
     have:mk*2^mh<=i:=by rw[yF];exact NY _ _
     rw[xE,xG] at this;omega
    have zW : ¬(lo:Int)+(sz:Int)<=(i:Int):=by
     have:i<(mk+1)*2^mh:=by rw[yF];exact Ii (NR _) (LQ _)
     rw[xE,LR,xG] at this;omega
    obtain rfl:t=0:=by rw[HI.out.1,Le (by omega)]
    have pC:y.size=c:=by rw[HI.out.2.1,NS,rs,<-HD.out.2.2.2.2.2.2.2];exact Q6 HD.out.2.1 _
    have yI:Hid (y=rs c i d0 (D.take 0)∧(pk0 A.length B.length pk).take (j+1)=TK++[pk]∧j=A.length∧mh<=D.length∧mh<=40∧y.size=c∧i<2^40):=⟨HI.out.2.1,by rw[yM,yW,Lm hjA],hjA,by omega,xT,pC,by omega⟩
    have zZ:Hid (∀W,Zb w3 W->W.cell? ⟨g,j*2,none⟩=some (.int .i64 (mh:Int))):=fun W hb=>(xA.out W hb).1
    clear xI xN xJ xP xQ xZ yA xR yB xT xS yC xY xD xC xF xE xG xL xH yM yW HI yS pC hjA yF
    go_upto_region 18 with (first
     | (go_at_call 146;with_reducible refine(yE.out _).mono ?_;rintro e w4 ⟨rfl,xB⟩;obtain⟨n0,n1⟩:=xA.out w4 (Qa hb xB))
     | (go_at_call 147;with_reducible refine(yJ.out _).mono ?_;rintro e w5 ⟨rfl,xM⟩))
    have yK:=Qa (Qa hb xB) xM;have kM:Hid (Qk w5 w3.heap.size u10 TK):=Qm (Qm HO.out xB (Ld _)) xM (Ld _);clear hb xB xM HO m0 m1 n0 n1 yE yJ xA;have kX:decide (i<lo)=false:=Lj (by omega)
    go_wp2
    try simp only[kX,Bool.false_or]
    clear kX yU zW kP
    go_loopg [8,9,13,14] mh (fun gh d a1 bl hh wr => ∃(h bq:Nat) (y:BA),h<=mh∧gh=mh - h∧hh = .int .i64 (h:Int)∧a1 = .int .i64 (h:Int)∧bl = .int .u64 (bq:Int)∧d = .string y∧Hid (i / 2^h=bq∧y=rs c i d0 (D.take h)∧y.size=c)∧Zb w5 wr)
    case atStart=>go_light;exact⟨0,i,y,Ll _,rfl,rfl,rfl,rfl,rfl,⟨by simp,yI.out.1,yI.out.2.2.2.2.2.1⟩,Lb _ _⟩
    case round =>
     obtain⟨h,bq,y2,hh,rfl,rfl,rfl,rfl,rfl,HJ,xX⟩:=hrel;have cm:=zZ.out wr (Qa yK xX)
     by_cases hhl:h<mh
     ·have pO:(h:Int)<(mh:Int):=by omega
      have pP:(0:Int)<=(h:Int):=Lf _;have pZ:(h:Int)<(D.length:Int):=by have:=yI.out.2.2.2.1;omega
      have pN:(h:Int)<41:=by have:=yI.out.2.2.2.2.1;omega
      have zL:h<D.length:=by omega
      have xO:Zb W0 wr:=Qa (Qa zY.out yK) xX;obtain rfl:=(HS.out wr xO).2.2.1.ptr (by omega)
      obtain⟨z,xU⟩:=Ze (D.getD h ByteArray.empty);have xV:Hid (∀W,Zb wr W->W.cell? ⟨db,dO+h,none⟩=some (.string z)):=fun W hW=>by
       have:=(HS.out W (Qa xO hW)).2.2.1.at zL;rw[xU] at this;exact this
      have zz:z.size=c:=by rw[<-xU];exact HD.out.1 _ (Qv zL)
      have xK:=HD.out.2.1;have zy:=HJ.out.2.2;have qA : ¬(9223372036854775807<1+y2.size):=by omega
      have qB : ¬(9223372036854775807<1+y2.size+z.size):=by omega
      have qC : ¬(9223372036854775807<1+z.size):=by omega
      have qD : ¬(9223372036854775807<1+z.size+y2.size):=by omega
      have yG:rs c i d0 (D.take (h+1))=dg c (stT bq y2 z):=by
       rw[Q5 ByteArray.empty D h zL,xU,Qd8,<-HJ.out.2.1,Lq,If (by omega),HJ.out.1]
      obtain⟨T1,zF⟩:=Ze (QH y2 z);obtain⟨T2,zG⟩:=Ze (QH z y2);have n1:=s1 y2 z;have n2:=s1 z y2;rw[zF] at n1;rw[zG] at n2;have pD:T1.size<=1000:=by rw[<-zF,Yw];omega
      have pE:T2.size<=1000:=by rw[<-zG,Yw];omega
      have eb:IntKind.u64.wrap ((bq:Int) / 2)=((bq / 2:Nat):Int):=by
       have h1:=HJ.out.1;have:=Nt i (2^h);have:=yI.out.2.2.2.2.2.2;rw[IntKind.wrap_u64];omega
      have zS:i / 2^(h+1)=bq / 2:=by rw[<-J7,HJ.out.1]
      by_cases hodd:bq % 2=1
      ·have kG:(bq:Int) % 2=1:=by omega
       rw[stT,Lm hodd,zG] at yG;obtain⟨y3,yD⟩:=Ze (dg c T2);rw[yD] at yG;have zB:Hr wr 145 #[.int .i64 k,.string T2] (.string y3):=fun W hw=>zO.out W T2 y3 (HS.out W (Qa xO hw)).2.2.2.1 (by omega) yD
       have HG:Hid (rs c i d0 (D.take (h+1))=y3∧y3.size=c∧i / 2^(h+1)=bq / 2∧h<mh∧Zb w5 wr):=⟨yG,by rw[<-yD];exact Q6 xK _,zS,hhl,xX⟩
       clear yG zF zG pD pE zS hodd xU HJ yD xK zy zz zL hhl xX n1
       go_upto_region 21 with (fail)
       go_cut [8] from 66 to 103 (fun d wx=>d = .string y3∧Zb wr wx)
       case first =>
        obtain⟨g0,g1,g2,g3,g4,g5⟩:=(HS.out wr xO).1.cells;have pH:=xV.out wr (Lb _ _);have zJ:=(Lb wr.heap.size wr).drew;clear HG HS xV HR zZ cm kG
        go_region_with (go_at_call 145;with_reducible refine(zB.out _ zJ).mono ?_;rintro e w6 ⟨rfl,xW⟩)
        all_goals
         go_wp2
         go_simp
         go_meet
         case rel=>go_light;exact⟨rfl,Qa zJ xW⟩
       case rest =>
        obtain⟨rfl,hI⟩:=hcut;clear zB xV cm;go_wp2
        go_roundg (mh - (h+1))
        case rel=>go_light;exact⟨h+1,bq / 2,y3,by have:=HG.out.2.2.2.1;omega,rfl,by go_num,by go_num,by go_num,rfl,⟨HG.out.2.2.1,HG.out.1.symm,HG.out.2.1⟩,Qa HG.out.2.2.2.2 hI⟩
        case measure=>go_light;have:=HG.out.2.2.2.1;omega
      ·have kG : ¬(bq:Int) % 2=1:=by omega
       rw[stT,Le hodd,zF] at yG;obtain⟨y3,yD⟩:=Ze (dg c T1);rw[yD] at yG;have zB:Hr wr 145 #[.int .i64 k,.string T1] (.string y3):=fun W hw=>zO.out W T1 y3 (HS.out W (Qa xO hw)).2.2.2.1 (by omega) yD
       have HG:Hid (rs c i d0 (D.take (h+1))=y3∧y3.size=c∧i / 2^(h+1)=bq / 2∧h<mh∧Zb w5 wr):=⟨yG,by rw[<-yD];exact Q6 xK _,zS,hhl,xX⟩
       clear yG zF zG pD pE zS hodd xU HJ yD xK zy zz zL hhl xX n2
       go_upto_region 22 with (fail)
       go_cut [8] from 66 to 103 (fun d wx=>d = .string y3∧Zb wr wx)
       case first =>
        obtain⟨g0,g1,g2,g3,g4,g5⟩:=(HS.out wr xO).1.cells;have pH:=xV.out wr (Lb _ _);have zJ:=(Lb wr.heap.size wr).drew;clear HG HS xV HR zZ cm kG
        go_region_with (go_at_call 145;with_reducible refine(zB.out _ zJ).mono ?_;rintro e w6 ⟨rfl,xW⟩)
        all_goals
         go_wp2
         go_simp
         go_meet
         case rel=>go_light;exact⟨rfl,Qa zJ xW⟩
       case rest =>
        obtain⟨rfl,hI⟩:=hcut;clear zB xV cm;go_wp2
        go_roundg (mh - (h+1))
        case rel=>go_light;exact⟨h+1,bq / 2,y3,by have:=HG.out.2.2.2.1;omega,rfl,by go_num,by go_num,by go_num,rfl,⟨HG.out.2.2.1,HG.out.1.symm,HG.out.2.1⟩,Qa HG.out.2.2.2.2 hI⟩
        case measure=>go_light;have:=HG.out.2.2.2.1;omega
     ·obtain rfl:h=mh:=by omega
      have pO : ¬((h:Int)<(h:Int)):=by omega
      obtain rfl:pk=y2:=by rw[<-kA.out,HJ.out.2.1]
      have pG:pk.size<=32:=by rw[HJ.out.2.2];exact HD.out.2.1
      have kW:=Qa yK xX;have yP:Hid (Qk wr w3.heap.size u10 TK∧pk.size<=32∧TK.length<=41∧pk=rs c i d0 (D.take h)∧Zb w3 wr):=⟨Qm kM.out xX (Ld _),pG,kC.out,HJ.out.2.1,kW⟩;clear hhl HJ xX yK kM pG kW
      go_wp2_with (at_builtin;refine QE _ rfl _ _ rfl w3.heap.size _ TK rfl (Y0 yP.out.1 _) (some ⟨wr.heap.size,0,none⟩) wr.heap.size 0 1 [pk] rfl (YO wr pk (by have:=yP.out.2.1;omega)) (fun h=>by cases h) ?c1 ?c2 ?_)
      case c1=>have:=yP.out.2.2.1;simp;omega
      case c2=>have:=yP.out.2.2.2.2.size;simp;omega
      intro v' w6 o1 o2;rw[<-yI.out.2.1] at o1;have xW:Zb w3 w6:=(bal yP.out.2.2.2.2 _).trans o2;clear o2;go_wp2
      go_roundg (M.length - (j+1))
      case rel=>go_light;exact⟨j+1,h,pk,by omega,rfl,by go_num,rfl,rfl,⟨by rw[Lm (by have:=yI.out.2.2.1;omega)],yP.out.2.2.2.1,o1⟩,xW⟩
      case measure=>go_light;omega
   ·have yU:(i:Int)<(lo:Int):=by have:=xJ hjA;omega
    have HN:Hid (t=(if A.length<j+1 then H else 0)∧y=rs c i d0 (D.take t)∧(pk0 A.length B.length pk).take (j+1)=TK++[(⟨#[]⟩:BA)]):=⟨by rw[HI.out.1];split <;> split <;> omega,HI.out.2.1,by rw[yM,yW,Le (by omega)]⟩
    clear xI xN xJ xP xQ xZ yA xR yB xT xS yC xY xD xC xF xE xG xL xH yM yW HI yS
    go_wp2_with (first
     | (go_at_call 146;with_reducible refine(yE.out _).mono ?_;rintro e w4 ⟨rfl,xB⟩;obtain⟨n0,n1⟩:=xA.out w4 (Qa hb xB))
     | (go_at_call 147;with_reducible refine(yJ.out _).mono ?_;rintro e w5 ⟨rfl,xM⟩)
     | (at_builtin;refine QE _ rfl _ _ rfl w3.heap.size _ TK rfl (Y0 (Qm HO.out xB (Ld _)) _) (some ⟨_,0,none⟩) _ 0 1 [(⟨#[]⟩:BA)] rfl (YO _ (⟨#[]⟩:BA) (by decide)) (fun h=>by cases h) ?c1 ?c2 ?_))
    case c1=>have:=kC.out;simp;omega
    case c2=>have:=(Qa hb xB).size;simp;omega
    intro v' w6 o1 o2;rw[<-HN.out.2.2] at o1;have xW:Zb w3 w6:=(bal (Qa hb xB) _).trans o2;clear o2;go_wp2
    go_roundg (M.length - (j+1))
    case rel=>go_light;exact⟨j+1,t,y,by omega,rfl,by go_num,rfl,rfl,⟨HN.out.1,HN.out.2.1,o1⟩,xW⟩
    case measure=>go_light;omega
  ·obtain rfl:j=M.length:=by omega
   have hz : ¬((M.length:Int)<(M.length:Int)):=by omega
   obtain⟨P,hP⟩:=Ze (pkP c i A.length H D x);obtain⟨Q,hQ⟩:=Ze (pk0 A.length B.length pk);have zQ:Q.length=M.length:=by rw[<-hQ,Qg2];omega
   have kT:P.length=M.length:=by rw[<-hP,QlT (by omega)];omega
   have kU : ∀s∈P,s.size=c:=by rw[<-hP];exact Qj9 HD.out.2.1 HD.out.1
   have zP:H+A.length<=D.length:=by omega
   have kN:Hid (P.length=M.length∧Q.length=M.length∧(∀s∈P,s.size=c)∧P.getD A.length ByteArray.empty=Q.getD A.length ByteArray.empty∧(∀j,j<A.length->P.getD j ByteArray.empty=D.getD (H+j) ByteArray.empty)∧(∀j,A.length<j->P.getD j ByteArray.empty=D.getD (H+(j - 1)) ByteArray.empty)∧dg c (QI size (Qr c P))=r):=by
    refine⟨kT,zQ,kU,?_,fun j hj => ?_,fun j hj => ?_,?_⟩
    ·rw[<-hP,<-hQ,QdU zP,Le (NG _),Lm rfl,Qj8 _ _ _ _ (by omega),Lm rfl,HD.out.2.2.2.2.2.2.1,HD.out.2.2.2.2.2.2.2];exact kA.out
    ·rw[<-hP,QdU zP,Lm hj]
    ·rw[<-hP,QdU zP,Le (by omega),Le (by omega)]
    ·rw[<-hP];exact HD.out.2.2.2.2.2.1
   obtain⟨kR,pJ,zC⟩:=HI.out;rw[hQ,<-zQ,LY] at zC;rw[Lm (by omega)] at kR
   obtain rfl:H=t:=kR.symm;obtain⟨yR,yQ,rfl,zK,zI,kE⟩:=Qcc zC (by omega)
   rw[zQ] at zC zI ⊢;have HO:Hid (Qk wr w3.heap.size (.slice (some ⟨yR,0,none⟩) M.length yQ) Q∧Zb w3 wr∧w3.heap.size<=yR):=⟨zC,hb,zK⟩;clear xP xQ xZ yA xR yB xT xS yC HI hP hQ zQ kT kU zP pJ zC hlt hj zK zI kE zO kA hb;go_wp2
   go_loopg [9,15] M.length (fun gh a1 jj wx => ∃(j t:Nat),j<=M.length∧gh=M.length - j∧jj = .int .i64 (j:Int)∧a1 = .int .i64 (t:Int)∧Hid (t=(if A.length<j then H+(j - 1) else H+j)∧Qk wx w3.heap.size (.slice (some ⟨yR,0,none⟩) M.length yQ) (P.take j++Q.drop j))∧Zb w3 wx)
   case atStart=>go_light;exact⟨0,H,Ll _,rfl,rfl,rfl,⟨by rw[Le (by omega)];rfl,by rw[NS,It];exact HO.out.1⟩,HO.out.2.1⟩
   case round =>
    obtain⟨j,u,hj,rfl,rfl,rfl,HI,hb⟩:=hrel;obtain⟨xP,xQ,xZ,yA,xR,yB,xT,xS,yC⟩:=HX.out
    by_cases hlt:j<M.length
    ·have hz:(j:Int)<(M.length:Int):=by omega
     have pX:(0:Int)<=(j:Int):=Lf _;obtain⟨xI,xN,xJ⟩:=QcG xP xQ hlt;have xA:Hid (∀W,Zb w3 W->W.cell? ⟨g,j*2,none⟩=some (.int .i64 (((M.getD j (0,0)).1:Nat):Int))∧W.cell? ⟨g,j*2+1,none⟩=some (.int .u64 (((M.getD j (0,0)).2:Nat):Int))):=fun W hb=>by
      have:=(HR.out W hb).cell j hlt;rw[Qa8 M j hlt,Lr] at this;exact this
     have xH:M.getD j (0,0)∈M:=by rw[La,Lc hlt];exact LG _
     have xD:=xS _ xH;obtain⟨⟨mh,mk⟩,xY⟩ : ∃m,M.getD j (0,0)=m:=⟨_,rfl⟩;rw[xY] at xA xI xN xJ xD;obtain⟨_,xC,xF⟩:=UF xD xR;simp only at xD xI xJ xC xF xA;obtain⟨sz,xE⟩:=Ze (2^mh);obtain⟨lo,xG⟩:=Ze (mk*sz);rw[xE] at xD xI xJ;have xL:0<sz:=by rw[<-xE];exact LQ _
     rw[LR,LX,xG] at xD xI;rw[xG] at xJ;have yE:Hid (∀W,Zr 146 #[.agg #[.int .i64 (mh:Int),.int .u64 (mk:Int)]] W (.int .u64 (lo:Int))):=fun W=>QaD W mh mk xC (by rw[xE,xG];omega) lo (by rw[xE,xG])
     have yJ:Hid (∀W,Zr 147 #[.agg #[.int .i64 (mh:Int),.int .u64 (mk:Int)]] W (.int .u64 (sz:Int))):=fun W=>Qcv W mh mk xC sz xE
     obtain⟨m0,m1⟩:=xA.out wr hb;have kP:IntKind.u64.wrap ((lo:Int)+(sz:Int))=(lo:Int)+(sz:Int):=by rw[IntKind.wrap_u64];omega
     have pQ:(j:Int)<41:=by omega
     obtain⟨yH,yN,yO,yX,yY,yZ,zA⟩:=kN.out;have yF:=QlC (e:=ByteArray.empty) P Q (by omega) j (by omega)
     have zM:=QjL (e:=ByteArray.empty) P Q (by omega) j (by omega)
     by_cases hjA:j=A.length
     ·obtain rfl:mh=H:=LU Prod.fst (xN hjA);have yL:mk=i / 2^mh:=LU Prod.snd (xN hjA);have yU : ¬(i:Int)<(lo:Int):=by
       have:mk*2^mh<=i:=by rw[yL];exact NY _ _
       rw[xE,xG] at this;omega
      have zW : ¬(lo:Int)+(sz:Int)<=(i:Int):=by
       have:i<(mk+1)*2^mh:=by rw[yL];exact Ii (NR _) (LQ _)
       rw[xE,LR,xG] at this;omega
      have HN:Hid (u=(if A.length<j+1 then mh+(j+1 - 1) else mh+(j+1))∧P.take (j+1)++Q.drop (j+1)=P.take j++Q.drop j):=⟨by rw[HI.out.1,Le (by omega),Lm (by omega)];omega,yF (by rw[hjA];exact yX)⟩
      clear xI xN xJ xP xQ xZ yA xR yB xT xS yC xY xD xC xF xE xG xL xH hjA yL yF zM yH yN yO yX yY yZ zA
      go_wp2_with (first
       | (go_at_call 146;with_reducible refine(yE.out _).mono ?_;rintro e w4 ⟨rfl,xB⟩;obtain⟨n0,n1⟩:=xA.out w4 (Qa hb xB))
       | (go_at_call 147;with_reducible refine(yJ.out _).mono ?_;rintro e w5 ⟨rfl,xM⟩))
      go_roundg (M.length - (j+1))
      case rel=>go_light;exact⟨j+1,u,by omega,rfl,by go_num,rfl,⟨HN.out.1,by rw[HN.out.2];exact Qm (Qm HI.out.2 xB (Ld _)) xM (Ld _)⟩,Qa (Qa hb xB) xM⟩
      case measure=>go_light;omega
     ·have kK:P.getD j ByteArray.empty=D.getD u ByteArray.empty:=by
       rw[HI.out.1]
       rcases Wf hjA with h|h
       ·rw[yY j h,Le (by omega)]
       ·rw[yZ j h,Lm h]
      have kJ:u<D.length:=by rw[HI.out.1];split <;> omega
      have qG:(u:Int)<(D.length:Int):=by omega
      have qE:(0:Int)<=(u:Int):=Lf _;have xO:Zb W0 wr:=Qa zY.out hb;obtain rfl:=(HS.out wr xO).2.2.1.ptr (by omega)
      obtain⟨z,xU⟩:=Ze (D.getD u ByteArray.empty);have xV:Hid (∀W,Zb wr W->W.cell? ⟨db,dO+u,none⟩=some (.string z)∧Six W w.heap.size (.int .i64 1) (.int .i64 k) (.int .u64 0) (.int .u64 (size:Int)) (.slice (some ⟨b,o,none⟩) 1 sc) (.slice (some ⟨db,dO,none⟩) D.length dc)):=fun W hW=>by
       have:=(HS.out W (Qa xO hW)).2.2.1.at kJ;rw[xU] at this;exact⟨this,(HS.out W (Qa xO hW)).1⟩
      rw[kK,xU] at zM;have zU:(P.take j++Q.drop j).length=M.length:=by rw[Lg,Lq,Lv];omega
      have HN:Hid (u+1=(if A.length<j+1 then H+(j+1 - 1) else H+(j+1))∧(P.take j++Q.drop j).set j z=P.take (j+1)++Q.drop (j+1)):=⟨by rw[HI.out.1];split <;> split <;> omega,zM⟩
      have qF:(u:Int)<100:=by omega
      rcases Wf hjA with h|h
      ·have yU : ¬(i:Int)<(lo:Int):=by have:=xI h;omega
       have zW:(lo:Int)+(sz:Int)<=(i:Int):=by have:=xI h;omega
       have HJ:Hid (∀W,Zb wr W->Qk W w3.heap.size (.slice (some ⟨yR,0,none⟩) M.length yQ) (P.take j++Q.drop j)):=fun W hW=>Qm HI.out.2 hW (Ld _)
       have HL:Hid (j<(P.take j++Q.drop j).length):=by show _<_;rw[zU];exact hlt
       clear xI xN xJ xP xQ xZ yA xR yB xT xS yC xY xD xC xF xE xG xL xH hjA yF zM yH yN yO yX yY yZ zA h kK xU zU HI kJ
       go_wp2_with (first
        | (go_at_call 146;with_reducible refine(yE.out _).mono ?_;rintro e w4 ⟨rfl,xB⟩;obtain⟨n0,n1⟩:=xA.out w4 (Qa hb xB))
        | (go_at_call 147;with_reducible refine(yJ.out _).mono ?_;rintro e w5 ⟨rfl,xM⟩;have zX:=Qa xB xM;obtain⟨cz,h6⟩:=xV.out w5 zX;obtain⟨q0,q1,q2,q3,q4,q5⟩:=h6.cells;obtain⟨x1,x2⟩:=Ul (HJ.out w5 zX) HL.out))
       go_roundg (M.length - (j+1))
       case rel=>go_light;exact⟨j+1,u+1,by omega,rfl,by go_num,by go_num,⟨HN.out.1,by rw[<-HN.out.2];exact Qe5 (HJ.out w5 zX) z⟩,(Qa hb zX).setCell HO.out.2.2 _⟩
       case measure=>go_light;omega
      ·have yU:(i:Int)<(lo:Int):=by have:=xJ h;omega
       have HJ:Hid (∀W,Zb wr W->Qk W w3.heap.size (.slice (some ⟨yR,0,none⟩) M.length yQ) (P.take j++Q.drop j)):=fun W hW=>Qm HI.out.2 hW (Ld _)
       have HL:Hid (j<(P.take j++Q.drop j).length):=by show _<_;rw[zU];exact hlt
       clear xI xN xJ xP xQ xZ yA xR yB xT xS yC xY xD xC xF xE xG xL xH hjA yF zM yH yN yO yX yY yZ zA h kK xU zU HI kJ
       go_wp2_with (go_at_call 146;with_reducible refine(yE.out _).mono ?_;rintro e w4 ⟨rfl,xB⟩;obtain⟨n0,n1⟩:=xA.out w4 (Qa hb xB);obtain⟨cz,h6⟩:=xV.out w4 xB;obtain⟨q0,q1,q2,q3,q4,q5⟩:=h6.cells;obtain⟨x1,x2⟩:=Ul (HJ.out w4 xB) HL.out)
       go_roundg (M.length - (j+1))
       case rel=>go_light;exact⟨j+1,u+1,by omega,rfl,by go_num,by go_num,⟨HN.out.1,by rw[<-HN.out.2];exact Qe5 (HJ.out w4 xB) z⟩,(Qa hb xB).setCell HO.out.2.2 _⟩
       case measure=>go_light;omega
    ·obtain rfl:j=M.length:=by omega
     have hz : ¬((M.length:Int)<(M.length:Int)):=by omega
     obtain⟨yH,yN,yO,yX,yY,yZ,zA⟩:=kN.out;have ho:=HI.out.2;rw[<-yH,LY,yH,<-yN,IT,Na,yN] at ho;obtain⟨ao,bo,cp,hv,kH,_⟩:=Qt ho (fun s hs=>by have:=yO s hs;have:=HD.out.2.1;omega)
     obtain⟨pB,pV,pW⟩:=Iq hv;rw[yH] at kH;have xO:Zb W0 wr:=Qa zY.out hb;obtain⟨h6,_,_,kV,yK,zE⟩:=HS.out wr xO;have HC:Hid (Zr 148 #[.int .i64 k,.int .u64 (size:Int),.slice (some ⟨yR,0,none⟩) M.length yQ] wr (.agg #[.int .u64 (size:Int),.string r])):=by
      rw[pB];exact QcI wr kV k HD.out.2.2.2.1 HD.out.2.2.2.2.1 size (by omega) ao bo 0 M.length yQ P kH (fun s hs=>by have:=yO s hs;have:=HD.out.2.1;omega) (by omega) (by omega) r (by rw[HD.out.2.2.1];exact zA)
     obtain⟨q0,q1,q2,q3,q4,q5⟩:=h6.cells;have kB:=Qe (Lo zE yK);clear xP xQ xZ yA xR yB xT xS yC yH yN yO yX yY yZ zA ho hv pB pV pW kH h6 kV yK zE hlt hj HI HO HR HS
     go_wp2_with (go_at_call 148;with_reducible refine HC.out.mono ?_;rintro e w4 ⟨rfl,xB⟩;have zD:=kB.out.1.below xB (Lh wr _ kB.out.1.c0);have k0:=zD.c0;have k1:=zD.c1;have f0:=zD.f0;have f1:=zD.f1)
     obtain⟨s0,s1,pL⟩:=Yr zD (size:Int) r;refine Lp (v := .tuple #[.agg #[.int .u64 (size:Int),.string r],.int .i64 0]) (by simp[results,results95,go_sem,s0,s1]) rfl ⟨rfl,?_⟩
     exact(Qa kB.out.2 xB).trans (pL.below (by rintro b rfl;omega))
end
theorem QaU(w:World)(kd k:Int)(old size:Nat)(sa:OA)(ns sc:Nat)(da:OA)(n2 dc:Nat)
  (HI:Hr w 143 #[.agg #[.int .i64 kd,.int .i64 k,.int .u64 (old:Int),.int .u64 (size:Int),.slice sa ns sc,.slice da n2 dc]] (.bool false)) (x:BA) :
  Zr 95 #[.agg #[.int .i64 kd,.int .i64 k,.int .u64 (old:Int),.int .u64 (size:Int),.slice sa ns sc,.slice da n2 dc],.string x] w (.tuple #[noR,.int .i64 150]):=by
 go_enter func95,ntmps95
 go_upto_region 1 with (fail)
 obtain⟨W0,xA⟩:=Ze ((w.alloc (.cells #[.int .i64 kd,.int .i64 k,.int .u64 (old:Int),.int .u64 (size:Int),.slice sa ns sc,.slice da n2 dc] 55)).alloc (.cells #[.int .u64 0,.string ⟨#[]⟩] 30));rw[xA];obtain⟨hb,h6,xB,hz⟩:=QO xA;obtain⟨c0,c1,c2,c3,c4,c5⟩:=h6.cells;have HR:=Qe (Lo xB hz);clear xA h6 xB hz
 go_wp2_with (go_at_call 143;with_reducible refine(HI.out _ hb).mono ?_;rintro e w1 ⟨rfl,xC⟩;have hR:=HR.out.1.below xC (by rw[HR.out.2];omega);have k0:=hR.c0;have k1:=hR.c1;have f0:=hR.f0;have f1:=hR.f1)
 obtain⟨s0,s1,xD⟩:=Yr hR 0 ⟨#[]⟩;refine Lp (v := .tuple #[noR,.int .i64 150]) (by simp[results,results95,go_sem,s0,s1]) rfl ⟨rfl,?_⟩
 exact(Qa hb xC).trans (xD.below (by rintro b rfl;omega))
theorem Qd2(w:World)(kd k:Int)(old size:Nat)(sa:OA)(ns sc:Nat)(da:OA)(n2 dc:Nat)
  (HI:Hr w 143 #[.agg #[.int .i64 kd,.int .i64 k,.int .u64 (old:Int),.int .u64 (size:Int),.slice sa ns sc,.slice da n2 dc]] (.bool true)) (x:BA) (hx:1048576<x.size) :
  Zr 95 #[.agg #[.int .i64 kd,.int .i64 k,.int .u64 (old:Int),.int .u64 (size:Int),.slice sa ns sc,.slice da n2 dc],.string x] w (.tuple #[noR,.int .i64 100]):=by
 have xE:(1048576:Int)<(x.size:Int):=by omega
 clear hx
 go_enter func95,ntmps95
 go_upto_region 1 with (fail)
 obtain⟨W0,xA⟩:=Ze ((w.alloc (.cells #[.int .i64 kd,.int .i64 k,.int .u64 (old:Int),.int .u64 (size:Int),.slice sa ns sc,.slice da n2 dc] 55)).alloc (.cells #[.int .u64 0,.string ⟨#[]⟩] 30));rw[xA];obtain⟨hb,h6,xB,hz⟩:=QO xA;obtain⟨c0,c1,c2,c3,c4,c5⟩:=h6.cells;have HR:=Qe (Lo xB hz);clear xA h6 xB hz
 go_wp2_with (go_at_call 143;with_reducible refine(HI.out _ hb).mono ?_;rintro e w1 ⟨rfl,xC⟩;have hR:=HR.out.1.below xC (by rw[HR.out.2];omega);have k0:=hR.c0;have k1:=hR.c1;have f0:=hR.f0;have f1:=hR.f1)
 obtain⟨s0,s1,xD⟩:=Yr hR 0 ⟨#[]⟩;refine Lp (v := .tuple #[noR,.int .i64 100]) (by simp[results,results95,go_sem,s0,s1]) rfl ⟨rfl,?_⟩
 exact(Qa hb xC).trans (xD.below (by rintro b rfl;omega))
theorem Qir(kd k:Int)(old size:Nat)(S:List Nat)(D:LB)(hD:D.length<=9223372036854775807)(x:BA) : ∃(n:Nat) (r:BA) (er:Int),
  (∀W sa sb so sc da db dO dc,Tb W->RdU W sa sb so S.length S->RdS W da db dO D.length D->D.length<=dc->dc<=9223372036854775807->(da=none->dc=0)->Zr 63 #[.agg #[.int .i64 kd,.int .i64 k,.int .u64 (old:Int),.int .u64 (size:Int),.slice sa S.length sc,.slice da D.length dc],.string x] W (.tuple #[.agg #[.int .u64 (n:Int),.string r],.int .i64 er])) ∧
  (∀W sa sb so sc da db dO dc,Tr W->RdU W sa sb so S.length S->RdS W da db dO D.length D->Zr 95 #[.agg #[.int .i64 kd,.int .i64 k,.int .u64 (old:Int),.int .u64 (size:Int),.slice sa S.length sc,.slice da D.length dc],.string x] W (.tuple #[.agg #[.int .u64 (n:Int),.string r],.int .i64 er])):=by
 by_cases hp:kd=1∧(1<=k∧k<=32)∧size<=2^40∧old=0∧S.length=1∧S.getD 0 0<size
 ·obtain⟨rfl,hk,hn,rfl,hS,hi⟩:=hp;obtain⟨i,xA⟩:=Ze (S.getD 0 0);rw[xA] at hi;obtain⟨A,H,B,wy⟩:=Qhn size i hn hi;have ra : ∀ {W sa sb so},RdU W sa sb so S.length S->sa=some ⟨sb,so,none⟩∧RA W k size sb so i H A B:=fun {W sa sb so} u=>by
   refine⟨u.ptr (by omega),hk,hn,hi,wy,?_⟩
   have:=u.at (j:=0) (by omega)
   rw[xA] at this;exact this
  by_cases hf:fil k (H+A.length+B.length) D
  ·by_cases hx:1048576<x.size
   ·refine⟨0,⟨#[]⟩,100,fun W sa sb so sc da db dO dc tb u d h1 h2 h3 => ?_,fun W sa sb so sc da db dO dc tr u d => ?_⟩
    ·obtain⟨rfl,a⟩:=ra u;rw[hS];exact Qci W k size sb so sc i H A B a da db dO dc D d hD x hf hx
    ·obtain⟨rfl,a⟩:=ra u;rw[hS];exact Qd2 W 1 k 0 size _ 1 sc da D.length dc (fun W' hb=>QaI W' k size sb so sc i H A B (a.next hb) da db dO dc D (d.next hb (Ld _)) hD true (Ln hf)) x hx
   ·obtain⟨r,hr⟩:=Ze (rtP (clk k) size i A.length H D x);refine⟨size,r,0,fun W sa sb so sc da db dO dc tb u d h1 h2 h3 => ?_,fun W sa sb so sc da db dO dc tr u d => ?_⟩
    ·obtain⟨rfl,a⟩:=ra u;rw[hS];exact Qax W k size sb so sc i H A B a da db dO dc D d hD x hf (by omega) tb h1 h2 h3 r hr
    ·obtain⟨rfl,a⟩:=ra u;rw[hS];exact Qgb W tr k size sb so sc i H A B a da db dO dc D d hf x (by omega) r hr
  ·refine⟨0,⟨#[]⟩,150,fun W sa sb so sc da db dO dc tb u d h1 h2 h3 => ?_,fun W sa sb so sc da db dO dc tr u d => ?_⟩
   ·obtain⟨rfl,a⟩:=ra u;rw[hS];exact Qcg W k size sb so sc i H A B a da db dO dc D d hD x hf
   ·obtain⟨rfl,a⟩:=ra u;rw[hS];exact QaU W 1 k 0 size _ 1 sc da D.length dc (fun W' hb=>QaI W' k size sb so sc i H A B (a.next hb) da db dO dc D (d.next hb (Ld _)) hD false (Lj hf)) x
 ·have hc : ∀ {W sa sb so},RdU W sa sb so S.length S->S.length=1 -> ∃b o,sa=some ⟨b,o,none⟩∧W.cell? ⟨b,o,none⟩=some (.int .u64 ((S.getD 0 0:Nat):Int)):=fun {W sa sb so} u h=>⟨sb,so,u.ptr (by omega),u.at (j:=0) (by omega)⟩
  refine⟨0,⟨#[]⟩,150,fun W sa sb so sc da db dO dc tb u d h1 h2 h3 => ?_,fun W sa sb so sc da db dO dc tr u d => ?_⟩
  ·exact Qch W kd k old size sa S.length sc da D.length dc (S.getD 0 0) (hc u) hp x
  ·exact QaU W kd k old size sa S.length sc da D.length dc (fun W' hb=>QiL W' kd k old size sa S.length sc da D.length dc (S.getD 0 0) (hc (u.next hb)) hp) x
theorem QaH(l:List (Nat×BA)):(vls l).getD 0 ByteArray.empty=(l.getD 0 noC).2:=by
 cases l with
 | nil=>rfl
 | cons c l=>rfl
theorem QeF(k:Int)(o1:Nat)(c1:BA)(l:List (Nat×BA))(hl:l.length<=1048576)(hv : ∀x∈vls l,x.size<=9223372036854775807)(s:BA)(hs:s.size<=8796093021952) : ∃r:Int,
  (∀W ca cb co cc,Tb W->RdK W ca cb co l.length l->Zr 11 #[.int .i64 k,.agg #[.int .u64 (o1:Int),.string c1],.slice ca l.length cc,.string s] W (.int .i64 r)) ∧
  (∀W ca cb co cc,Tr W->RdK W ca cb co l.length l->Zr 47 #[.int .i64 k,.agg #[.int .u64 (o1:Int),.string c1],.slice ca l.length cc,.string s] W (.int .i64 r)):=by
 have xB:s.size<=281474976710656:=Lz hs (by decide)
 by_cases h0:tkE k s=0
 ·obtain⟨⟨k1,k2⟩,P,hd,hk⟩:=Qft h0;have xD:=QK (J3 hd).1.1;have hD:P.D.length<=8796093022208:=by have:=xD.hc;omega
  by_cases hS:P.S=ixs l
  ·have xI:P.S.length=l.length:=by rw[hS,Lx]
   have xJ:(vls l).length=l.length:=Lx ..
   by_cases h1:P.kd=1
   ·have xH:0<l.length:=by have:=(xD.one h1).1;omega
    obtain⟨n,d,er,g1,g2⟩:=Qir 1 k P.old P.size P.S P.D (by omega) (l.getD 0 noC).2
    refine⟨clmD n d er o1 c1,fun W ca cb co cc hT hc => ?_,fun W ca cb co cc hT hc => ?_⟩
    ·refine UD W k k1 k2 o1 c1 ca cb co l.length cc l hc (by omega) s xB P hd hk ⟨.inl h1,hS⟩ n d er (fun V sa sb sc da db dc ao m c hb hF ho => ?_) _ rfl
     obtain⟨xG,xb,c',xC,hx,xE,xF⟩:=Qt ho hv;injection xC with e1 e2 e3
     subst e1 e2 e3;rw[h1];refine Ot V k P.old P.size sa P.S.length sc da P.D.length dc ao xb 0 (vls l).length c (vls l) hx (by omega) n d er fun Z hbZ => ?_
     have xA:=hF.next hbZ;rw[QaH];exact g1 Z sa sb 0 sc da db 0 dc (hT.next (Qa hb hbZ)) xA.p.rs xA.p.rd xA.p.cD xA.mC xA.nD
    ·exact QdX W k k1 k2 o1 c1 ca cb co l.length cc l hc (by omega) s hs P hd hk h1 hS xH n d er (fun V sa sb sc da db dc hb hF=>g2 V sa sb 0 sc da db 0 dc (hT.next hb) hF.rs hF.rd) _ rfl
   ·by_cases h2:P.kd=2
    ·obtain⟨n,d,er,g1,g2⟩:=Qoj 2 k P.old P.size P.S (by omega) P.D (vls l) hD
     refine⟨clmD n d er o1 c1,fun W ca cb co cc hT hc => ?_,fun W ca cb co cc hT hc => ?_⟩
     ·refine UD W k k1 k2 o1 c1 ca cb co l.length cc l hc (by omega) s xB P hd hk ⟨.inr h2,hS⟩ n d er (fun V sa sb sc da db dc ao m c hb hF ho => ?_) _ rfl
      obtain⟨xG,xb,c',xC,hx,xE,xF⟩:=Qt ho hv;injection xC with e1 e2 e3
      subst e1 e2 e3;refine QaM V P.kd k h1 P.old P.size sa P.S.length sc da P.D.length dc ao (vls l).length c n d er fun Z hbZ => ?_
      have xA:=hF.next hbZ;rw[h2];exact g1 Z sa sb 0 sc da db 0 dc ao xb 0 c (hT.next (Qa hb hbZ)) xA.p.rs xA.cS xA.nS xA.p.rd xA.p.cD xA.nD (hx.next hbZ (Ld _)) xE xF
     ·refine QcH W k k1 k2 o1 c1 ca cb co l.length cc l hc (by omega) s hs P hd hk h2 hS n d er (fun V sa sb sc da db dc ao m c hb hF ho => ?_) _ rfl
      obtain⟨xG,xb,c',xC,hx,xE,xF⟩:=Qt ho hv;injection xC with e1 e2 e3
      subst e1 e2 e3;exact g2 V sa sb 0 sc da db 0 dc ao xb 0 c (hT.next hb) hF.rs hF.rd hx
    ·have h3:P.kd=3:=by have:=xD.kd1;have:=xD.kd3;omega
     exact⟨150,fun W ca cb co cc hT hc=>UE W k k1 k2 o1 c1 ca cb co l.length cc l hc s xB P hd hk (fun h=>h.1.elim h1 h2),fun W ca cb co cc hT hc=>QaQ W k k1 k2 o1 c1 ca l.length cc s hs P hd hk h3⟩
  ·by_cases h3:P.kd=3
   ·exact⟨150,fun W ca cb co cc hT hc=>UE W k k1 k2 o1 c1 ca cb co l.length cc l hc s xB P hd hk (fun h=>hS h.2),fun W ca cb co cc hT hc=>QaQ W k k1 k2 o1 c1 ca l.length cc s hs P hd hk h3⟩
   ·exact⟨150,fun W ca cb co cc hT hc=>UE W k k1 k2 o1 c1 ca cb co l.length cc l hc s xB P hd hk (fun h=>hS h.2),fun W ca cb co cc hT hc=>Qfd W k k1 k2 o1 c1 ca cb co l.length cc l hc s hs P hd hk h3 hS⟩
 ·exact⟨tkE k s,fun W ca cb co cc _ _=>QcP W k o1 c1 ca l.length cc s xB _ rfl h0,fun W ca cb co cc _ _=>Qf5 W k o1 c1 ca l.length cc s hs _ rfl h0⟩
end Go.Proofs.YtdocjikpcbmcgaaGreatDoor
