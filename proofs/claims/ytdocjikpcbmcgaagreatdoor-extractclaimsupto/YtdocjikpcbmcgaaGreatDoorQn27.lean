/- Own work. -/
import Derived.Test.YtdocjikpcbmcgaaGreatDoorQn26
set_option maxRecDepth 100000
set_option maxHeartbeats 2000000
namespace Go.Proofs.YtdocjikpcbmcgaaGreatDoor
open Go.RowKit
attribute [local go_sem ↓] Go.wp_at_zero Go.wp_at_succ
open Go.Proofs.Tryz
section
open Cv (zl)
theorem Qc9(n:Nat)(w:World)(hn:n<=2^40)(M:List (Nat×Nat))(hM:Cv.dnL 41 0 n=M)(h0:0<n) :
  Calls prog 144 #[.int .u64 (n:Int)] w fun e w' => ∃g cap,e = .returned (.slice (some ⟨g,0,none⟩) M.length cap)∧RdB w' (some ⟨g,0,none⟩) g 0 M.length (zl M)∧Zb w w':=by
 have xA:=U4 n hn;rw[hM] at xA;have:=Qge n w hn;rw[hM] at this;refine this.mono fun x w' ⟨v,e1,e2,e3⟩ => ?_
 have xB:0<(zl M).length:=by
  obtain⟨A,H,B,hw⟩:=Qhn n 0 hn h0;rw[Cv.QC,<-hM,hw.all,Lg,Lt];omega
 obtain⟨ao,g,m,cap,rfl,r1,r2⟩:=Y4 e2 (fun b hb=>by
  obtain⟨c,hc,rfl⟩:=List.mem_map.1 hb;exact(UF (xA c hc) hn).1)
 have hl:=r1.len;subst hl;obtain rfl:=r1.addr xB;rw[Cv.QC] at e1 r1;exact⟨g,cap,e1,r1,e3⟩
theorem QcG{n i H:Nat}{A B:List (Nat×Nat)}(hw:Wy n i A H B){M:List (Nat×Nat)}(hM:Cv.dnL 41 0 n=M){j:Nat}(hj:j<M.length) :
  (j<A.length->((M.getD j (0,0)).2+1)*2^(M.getD j (0,0)).1<=i)∧(j=A.length->M.getD j (0,0)=(H,i / 2^H))∧(A.length<j->i<(M.getD j (0,0)).2*2^(M.getD j (0,0)).1):=by
 have xA:=hw.all;rw[hM] at xA;subst xA;rw[Lg,Lt] at hj;refine⟨fun h => ?_,fun h => ?_,fun h => ?_⟩
 ·rw[La,LL h,Lc h];exact hw.left _ (LG h)
 ·subst h;rw[La,LN (Ld _),NJ]
  rfl
 ·obtain⟨t,rfl⟩ : ∃t,j=A.length+(t+1):=⟨j - A.length - 1,by omega⟩
  have ht:t<B.length:=by omega
  rw[La,LN (by omega),show A.length+(t+1) - A.length=t+1 by omega,Nr,Lc ht]
  exact hw.right _ (LG ht)
theorem QaI(w:World)(k:Int)(size:Nat)(b o sc:Nat)(i H:Nat)(A B:List (Nat×Nat))(ha:RA w k size b o i H A B)(da:OA)(db dO dc:Nat)(D:LB)(hr:RdS w da db dO D.length D)(hm:D.length<=9223372036854775807)(r:Bool)(hq:decide (fil k (H+A.length+B.length) D)=r) :
  Zr 143 #[.agg #[.int .i64 1,.int .i64 k,.int .u64 0,.int .u64 (size:Int),.slice (some ⟨b,o,none⟩) 1 sc,.slice da D.length dc]] w (.bool r):=by
 have yU:=ha.il;have xY:=ha.n;have zK:=ha.k1;have xT:=ha.wy;have yV:=xT.len;have hH:=xT.hH;obtain⟨M,hM⟩:=Ze (Cv.dnL 41 0 size);have xC:=U4 size xY;rw[hM] at xC;have yS:M.length=A.length+1+B.length:=by rw[<-hM,xT.all,Lg,Lt];omega
 have HM:Hid (∀W,Calls prog 144 #[.int .u64 (size:Int)] W fun e w' => ∃g cap,e = .returned (.slice (some ⟨g,0,none⟩) M.length cap)∧RdB w' (some ⟨g,0,none⟩) g 0 M.length (zl M)∧Zb W w'):=fun W=>Qc9 size W xY M hM (by omega)
 obtain⟨W0,xV⟩:=Ze (w.alloc (.cells #[.int .i64 1,.int .i64 k,.int .u64 0,.int .u64 (size:Int),.slice (some ⟨b,o,none⟩) 1 sc,.slice da D.length dc] 55));have hb:Zb w W0:=by rw[<-xV];exact bal (Lb _ _) _
 have h6:Six W0 w.heap.size (.int .i64 1) (.int .i64 k) (.int .u64 0) (.int .u64 (size:Int)) (.slice (some ⟨b,o,none⟩) 1 sc) (.slice da D.length dc):=by rw[<-xV];exact Q8 w _ _ _ _ _ _
 have HS:Hid (∀W,Zb W0 W->Six W w.heap.size (.int .i64 1) (.int .i64 k) (.int .u64 0) (.int .u64 (size:Int)) (.slice (some ⟨b,o,none⟩) 1 sc) (.slice da D.length dc)∧W.cell? ⟨b,o,none⟩=some (.int .u64 (i:Int))∧RdS W da db dO D.length D∧Zb w W):=fun W hbW=>by
  have hw:=Qa hb hbW;exact⟨h6.next hbW,(hw.cell (p:=⟨b,o,none⟩) (Lh w _ ha.ci)).trans ha.ci,hr.next hw (Ld _),hw⟩
 have kC:decide (k<1)=false:=Lj (by omega)
 have kD:decide ((32:Int)<k)=false:=Lj (by omega)
 have kE:decide ((1099511627776:Int)<(size:Int))=false:=Lj (by omega)
 have kF:decide ((size:Int)<=(i:Int))=false:=Lj (by omega)
 have kG:decide (size<=i)=false:=Lj (by omega)
 have HX:Hid (Wy size i A H B∧Cv.dnL 41 0 size=M∧M.length=A.length+1+B.length∧i<size∧size<=2^40∧A.length+B.length<=40∧H<=40∧(∀b∈M,(b.2+1)*2^b.1<=size)∧D.length<=9223372036854775807):=⟨xT,hM,yS,yU,xY,yV,hH,xC,hm⟩;have HQ:=Qe hq;obtain⟨e0,e1,e2,e3,e4,e5⟩:=h6.cells;have ci:=(HS.out W0 (Lb _ _)).2.1;have zL:(M.length:Int)<=41:=by omega
 clear ha hr hm yU xY zK xT yV hH xC yS h6 hM hq
 go_enter func143,ntmps143
 go_upto_region 1 with (fail)
 try rw[xV]
 clear xV
 go_quiet (fail)
 obtain⟨W1,yG⟩:=Ze (W0.drewN nq);have yI:Zb W0 W1:=by rw[<-yG];exact Qd (Lb _ _) _
 rw[yG];clear yG e0 e1 e2 e3 e4 e5 ci;obtain⟨e0,e1,e2,e3,e4,e5⟩:=(HS.out W1 yI).1.cells
 go_wp2_with (go_at_call 144;with_reducible refine(HM.out _).mono ?_;rintro e w1 ⟨g,cap,rfl,hR,yT⟩)
 have xW:=Qa yI yT;have HR:Hid (∀W,Zb w1 W->RdB W (some ⟨g,0,none⟩) g 0 M.length (zl M)):=fun W hb=>hR.below hb
 have xO:=Qe xW;clear yI yT hR HM xW e0 e1 e2 e3 e4 e5
 go_loopg [4,5] M.length (fun gh n x wr => ∃j:Nat,j<=M.length∧gh=M.length - j∧x = .int .i64 (j:Int)∧(∃c:Nat,n = .int .i64 (c:Int)∧Hid (c=M.length - 1+(if A.length<j then H else 0)))∧Zb w1 wr)
 case atStart=>go_light;exact⟨0,Ll _,rfl,rfl,⟨M.length - 1,by have:=HX.out.2.2.1;rw[show((M.length - 1:Nat):Int)=(M.length:Int) - 1 by omega],by show _=_;rw[Le (by omega)];rfl⟩,Lb _ _⟩
 case round =>
  obtain⟨j,hj,rfl,rfl,⟨c,rfl,Hc⟩,hb⟩:=hrel;obtain⟨yA,yB,xU,yK,yC,yL,yM,yD,yN⟩:=HX.out
  by_cases hlt:j<M.length
  ·have hz:(j:Int)<(M.length:Int):=by omega
   have zM:(0:Int)<=(j:Int):=Lf _;obtain⟨xI,xN,xJ⟩:=QcG yA yB hlt;have xE:Hid (∀W,Zb w1 W->W.cell? ⟨g,j*2,none⟩=some (.int .i64 (((M.getD j (0,0)).1:Nat):Int))∧W.cell? ⟨g,j*2+1,none⟩=some (.int .u64 (((M.getD j (0,0)).2:Nat):Int))):=fun W hb=>by
    have:=(HR.out W hb).cell j hlt;rw[Qa8 M j hlt,Lr] at this;exact this
   have xH:M.getD j (0,0)∈M:=by rw[La,Lc hlt];exact LG _
   have xC:=yD _ xH;obtain⟨⟨mh,mk⟩,xX⟩ : ∃m,M.getD j (0,0)=m:=⟨_,rfl⟩;rw[xX] at xE xI xN xJ xC;obtain⟨_,xB,xF⟩:=UF xC yC;simp only at xC xI xJ xB xF xE;obtain⟨sz,xD⟩:=Ze (2^mh);obtain⟨lo,xG⟩:=Ze (mk*sz);rw[xD] at xC xI xJ;have xK:0<sz:=by rw[<-xD];exact LQ _
   rw[LR,LX,xG] at xC xI;rw[xG] at xJ;have zH:Hid (∀W,Zr 146 #[.agg #[.int .i64 (mh:Int),.int .u64 (mk:Int)]] W (.int .u64 (lo:Int))):=fun W=>QaD W mh mk xB (by rw[xD,xG];omega) lo (by rw[xD,xG])
   have yQ:Hid (∀W,Zr 147 #[.agg #[.int .i64 (mh:Int),.int .u64 (mk:Int)]] W (.int .u64 (sz:Int))):=fun W=>Qcv W mh mk xB sz xD
   have yE:Hid (∀W,Zb W0 W∧Zb w1 W->W.cell? ⟨g,j*2,none⟩=some (.int .i64 (mh:Int))∧W.cell? ⟨g,j*2+1,none⟩=some (.int .u64 (mk:Int))):=fun W hb=>xE.out W hb.2
   obtain⟨m0,m1⟩:=xE.out wr hb;have kA:IntKind.u64.wrap ((lo:Int)+(sz:Int))=((lo+sz:Nat):Int):=by rw[IntKind.wrap_u64];omega
   have zG:Hid (mh=H∨j≠A.length):=by
    by_cases hjA:j=A.length
    ·exact .inl (LU Prod.fst (xN hjA))
    ·exact .inr hjA
   have zY:=Qe hb;have kH:(j:Int)<41:=by omega
   have xQ:(c:Int)<=100:=by have:=Hc.out;split at this <;> omega
   have xS:=xU;clear yA yB xU yK yC yL yM yD yN;have zZ:=Qe xS;clear xS
   go_upto_region 9 with (go_at_call 146;with_reducible refine(zH.out _).mono ?_;rintro e w2 ⟨rfl,xW⟩)
   have xM:Zb w1 w2:=Qa hb xW;have xA:Zb W0 w2:=Qa xO.out xM;clear m0 m1
   rcases NO j A.length with hjA|hjA|hjA
   ·have zJ:(lo:Int)<=(i:Int):=by have:=xI hjA;omega
    have yW : ¬(i:Int)<(lo:Int)+(sz:Int):=by have:=xI hjA;omega
    have hc:c=M.length - 1+(if A.length<j+1 then H else 0):=by rw[Hc.out,Le (by omega),Le (by omega)]
    have HC:=Qe hc;clear xI xN xJ hc hjA xX xC xB xF xD xG xK xH;refine Yo (by kernel_rfl) [63,64,65,66,67,68,69,70,71,72,73,74,75,76,77,78,79,80,81,82] [] [.pointer (some ⟨w.heap.size,4,none⟩),.slice (some ⟨b,o,none⟩) 1 sc,.pointer (some ⟨b,o,none⟩),.int .u64 (i:Int),.int .u64 (lo:Int),.bool true,.bool true,.pointer (some ⟨w.heap.size,4,none⟩),.slice (some ⟨b,o,none⟩) 1 sc,.pointer (some ⟨b,o,none⟩),.int .u64 (i:Int),.int .u64 (lo:Int),.slice (some ⟨g,0,none⟩) M.length cap,.int .i64 (j:Int),.pointer (some ⟨g,j*2,none⟩),.agg #[.int .i64 (mh:Int),.int .u64 (mk:Int)],.int .u64 (sz:Int),.int .u64 ((lo+sz:Nat):Int),.bool false,.bool false] (by kernel_rfl) rfl (fun j hj=>by cases hj) (fun _ W=>Zb w2 W) (fun W _ hb=>hb) ?step ?fin
    case step =>
     refine⟨?_,?_,?_,?_,?_,?_,?_,?_,?_,?_,?_,?_,?_,?_,?_,?_,?_,?_,?_,?_,trivial⟩
     ·intro L Ac Wc K hI hj hcl hsm dep hK;have t1:Ac.tmps.getD 1 undef = .pointer (some ⟨w.heap.size,0,none⟩):=hsm 1 rfl
      show Oper.wp _ _ Ac Wc K _
      go_simp
      exact hK _ _ (.inr rfl) hI
     ·intro L Ac Wc K hI hj hcl hsm dep hK;have yX:Ac.tmps.getD 63 undef = .pointer (some ⟨w.heap.size,4,none⟩):=dep 0 rfl
      show Oper.wp _ _ Ac Wc K _
      obtain⟨g0,g1,g2,g3,g4,g5⟩:=(HS.out Wc (Qa xA hI)).1.cells
      go_simp
      exact hK _ _ (.inr rfl) hI
     ·intro L Ac Wc K hI hj hcl hsm dep hK;have yY:Ac.tmps.getD 64 undef = .slice (some ⟨b,o,none⟩) 1 sc:=dep 1 rfl
      show Oper.wp _ _ Ac Wc K _
      go_simp
      exact hK _ _ (.inr rfl) hI
     ·intro L Ac Wc K hI hj hcl hsm dep hK;have yZ:Ac.tmps.getD 65 undef = .pointer (some ⟨b,o,none⟩):=dep 2 rfl
      show Oper.wp _ _ Ac Wc K _
      have ci:=(HS.out Wc (Qa xA hI)).2.1
      go_simp
      exact hK _ _ (.inr rfl) hI
     ·intro L Ac Wc K hI hj hcl hsm dep hK;have t6:Ac.tmps.getD 6 undef = .int .u64 (lo:Int):=hsm 6 rfl
      show Oper.wp _ _ Ac Wc K _
      go_simp
      exact hK _ _ (.inr rfl) hI
     ·intro L Ac Wc K hI hj hcl hsm dep hK;have zA:Ac.tmps.getD 66 undef = .int .u64 (i:Int):=dep 3 rfl;have zB:Ac.tmps.getD 67 undef = .int .u64 (lo:Int):=dep 4 rfl
      show Oper.wp _ _ Ac Wc K _
      go_simp
      exact hK _ _ (.inr rfl) hI
     ·intro L Ac Wc K hI hj hcl hsm dep hK;have zC:Ac.tmps.getD 68 undef = .bool true:=dep 5 rfl
      show Oper.wp _ _ Ac Wc K _
      go_simp
      exact hK _ _ (.inr rfl) hI
     ·intro L Ac Wc K hI hj hcl hsm dep hK;have t1:Ac.tmps.getD 1 undef = .pointer (some ⟨w.heap.size,0,none⟩):=hsm 1 rfl;refine⟨true,(show Ac.tmps.getD 69 undef = .bool true from dep 6 rfl),?_⟩
      rw[Lm rfl]
      go_simp
      exact hK _ _ (.inr rfl) hI
     ·intro L Ac Wc K hI hj hcl hsm dep hK;have zN:Ac.tmps.getD 70 undef = .pointer (some ⟨w.heap.size,4,none⟩):=dep 7 rfl;refine⟨true,(show Ac.tmps.getD 69 undef = .bool true from dep 6 rfl),?_⟩
      rw[Lm rfl];obtain⟨g0,g1,g2,g3,g4,g5⟩:=(HS.out Wc (Qa xA hI)).1.cells
      go_simp
      exact hK _ _ (.inr rfl) hI
     ·intro L Ac Wc K hI hj hcl hsm dep hK;have zO:Ac.tmps.getD 71 undef = .slice (some ⟨b,o,none⟩) 1 sc:=dep 8 rfl;refine⟨true,(show Ac.tmps.getD 69 undef = .bool true from dep 6 rfl),?_⟩
      rw[Lm rfl]
      go_simp
      exact hK _ _ (.inr rfl) hI
     ·intro L Ac Wc K hI hj hcl hsm dep hK;have zP:Ac.tmps.getD 72 undef = .pointer (some ⟨b,o,none⟩):=dep 9 rfl;refine⟨true,(show Ac.tmps.getD 69 undef = .bool true from dep 6 rfl),?_⟩
      rw[Lm rfl];have ci:=(HS.out Wc (Qa xA hI)).2.1
      go_simp
      exact hK _ _ (.inr rfl) hI
     ·intro L Ac Wc K hI hj hcl hsm dep hK;have t6:Ac.tmps.getD 6 undef = .int .u64 (lo:Int):=hsm 6 rfl;refine⟨true,(show Ac.tmps.getD 69 undef = .bool true from dep 6 rfl),?_⟩
      rw[Lm rfl]
      go_simp
      exact hK _ _ (.inr rfl) hI
     ·intro L Ac Wc K hI hj hcl hsm dep hK;have t3:Ac.tmps.getD 3 undef = .slice (some ⟨g,0,none⟩) M.length cap:=hsm 3 rfl;refine⟨true,(show Ac.tmps.getD 69 undef = .bool true from dep 6 rfl),?_⟩
      rw[Lm rfl]
      go_simp
      exact hK _ _ (.inr rfl) hI
     ·intro L Ac Wc K hI hj hcl hsm dep hK;have t5:Ac.tmps.getD 5 undef = .int .i64 (j:Int):=hsm 5 rfl;refine⟨true,(show Ac.tmps.getD 69 undef = .bool true from dep 6 rfl),?_⟩
      rw[Lm rfl]
      go_simp
      exact hK _ _ (.inr rfl) hI
     ·intro L Ac Wc K hI hj hcl hsm dep hK;have zS:Ac.tmps.getD 75 undef = .slice (some ⟨g,0,none⟩) M.length cap:=dep 12 rfl;have zT:Ac.tmps.getD 76 undef = .int .i64 (j:Int):=dep 13 rfl;refine⟨true,(show Ac.tmps.getD 69 undef = .bool true from dep 6 rfl),?_⟩
      rw[Lm rfl]
      go_simp
      exact hK _ _ (.inr rfl) hI
     ·intro L Ac Wc K hI hj hcl hsm dep hK;have zU:Ac.tmps.getD 77 undef = .pointer (some ⟨g,j*2,none⟩):=dep 14 rfl;refine⟨true,(show Ac.tmps.getD 69 undef = .bool true from dep 6 rfl),?_⟩
      rw[Lm rfl];obtain⟨m0,m1⟩:=yE.out Wc ⟨Qa xA hI,Qa xM hI⟩
      go_simp
      exact hK _ _ (.inr rfl) hI
     ·intro L Ac Wc K hI hj hcl hsm dep hK;have zV:Ac.tmps.getD 78 undef = .agg #[.int .i64 (mh:Int),.int .u64 (mk:Int)]:=dep 15 rfl;refine⟨true,(show Ac.tmps.getD 69 undef = .bool true from dep 6 rfl),?_⟩
      rw[Lm rfl]
      go_simp
      refine(yQ.out Wc).mono ?_
      rintro e w' ⟨rfl,yH⟩;exact hK _ _ (.inr rfl) (Qa hI yH)
     ·intro L Ac Wc K hI hj hcl hsm dep hK;have zR:Ac.tmps.getD 74 undef = .int .u64 (lo:Int):=dep 11 rfl;have zW:Ac.tmps.getD 79 undef = .int .u64 (sz:Int):=dep 16 rfl;refine⟨true,(show Ac.tmps.getD 69 undef = .bool true from dep 6 rfl),?_⟩
      rw[Lm rfl]
      go_simp
      exact hK _ _ (.inr rfl) hI
     ·intro L Ac Wc K hI hj hcl hsm dep hK;have zQ:Ac.tmps.getD 73 undef = .int .u64 (i:Int):=dep 10 rfl;have zX:Ac.tmps.getD 80 undef = .int .u64 ((lo+sz:Nat):Int):=dep 17 rfl;refine⟨true,(show Ac.tmps.getD 69 undef = .bool true from dep 6 rfl),?_⟩
      rw[Lm rfl]
      go_simp
      exact hK _ _ (.inr rfl) hI
     ·intro L Ac Wc K hI hj hcl hsm dep hK;have zD:Ac.tmps.getD 69 undef = .bool true:=dep 6 rfl;have zE:Ac.tmps.getD 81 undef = .bool false:=dep 18 rfl
      show Oper.wp _ _ Ac Wc K _
      go_simp
      exact hK _ _ (.inr rfl) hI
    case fin =>
     intro L w3 hall hI;have xL:=Qa xM hI;clear hI hall;simp only[UI]
     go_simp
     go_wp2
     go_roundg (M.length - (j+1))
     case rel=>go_light;exact⟨j+1,by omega,rfl,by go_num,⟨c,rfl,HC⟩,xL⟩
     case measure=>go_light;omega
   ·obtain rfl:mh=H:=by rcases zG.out with h|h;exact h;exact absurd hjA h
    have yJ:mk=i / 2^mh:=LU Prod.snd (xN hjA);have zJ:(lo:Int)<=(i:Int):=by
     have:mk*2^mh<=i:=by rw[yJ];exact NY _ _
     rw[xD,xG] at this;omega
    have yW:(i:Int)<(lo:Int)+(sz:Int):=by
     have:i<(mk+1)*2^mh:=by rw[yJ];exact Ii (NR _) (LQ _)
     rw[xD,LR,xG] at this;omega
    have hc:c+mh=M.length - 1+(if A.length<j+1 then mh else 0):=by rw[Hc.out,Le (by omega),Lm (by omega)];omega
    have HC:=Qe hc;have kB:IntKind.i64.wrap ((c:Int)+(mh:Int))=((c+mh:Nat):Int):=by rw[Nd];omega
    have yR:=yE.out;clear xI xN xJ hc hjA xX xC xB xF xD xG xK xH yJ;refine Yo (by kernel_rfl) [63,64,65,66,67,68,69,70,71,72,73,74,75,76,77,78,79,80,81,82] [] [.pointer (some ⟨w.heap.size,4,none⟩),.slice (some ⟨b,o,none⟩) 1 sc,.pointer (some ⟨b,o,none⟩),.int .u64 (i:Int),.int .u64 (lo:Int),.bool true,.bool true,.pointer (some ⟨w.heap.size,4,none⟩),.slice (some ⟨b,o,none⟩) 1 sc,.pointer (some ⟨b,o,none⟩),.int .u64 (i:Int),.int .u64 (lo:Int),.slice (some ⟨g,0,none⟩) M.length cap,.int .i64 (j:Int),.pointer (some ⟨g,j*2,none⟩),.agg #[.int .i64 (mh:Int),.int .u64 (mk:Int)],.int .u64 (sz:Int),.int .u64 ((lo+sz:Nat):Int),.bool true,.bool true] (by kernel_rfl) rfl (fun j hj=>by cases hj) (fun _ W=>Zb w2 W) (fun W _ hb=>hb) ?step ?fin
    case step =>
     refine⟨?_,?_,?_,?_,?_,?_,?_,?_,?_,?_,?_,?_,?_,?_,?_,?_,?_,?_,?_,?_,trivial⟩
     ·intro L Ac Wc K hI hj hcl hsm dep hK;have t1:Ac.tmps.getD 1 undef = .pointer (some ⟨w.heap.size,0,none⟩):=hsm 1 rfl
      show Oper.wp _ _ Ac Wc K _
      go_simp
      exact hK _ _ (.inr rfl) hI
     ·intro L Ac Wc K hI hj hcl hsm dep hK;have yX:Ac.tmps.getD 63 undef = .pointer (some ⟨w.heap.size,4,none⟩):=dep 0 rfl
      show Oper.wp _ _ Ac Wc K _
      obtain⟨g0,g1,g2,g3,g4,g5⟩:=(HS.out Wc (Qa xA hI)).1.cells
      go_simp
      exact hK _ _ (.inr rfl) hI
     ·intro L Ac Wc K hI hj hcl hsm dep hK;have yY:Ac.tmps.getD 64 undef = .slice (some ⟨b,o,none⟩) 1 sc:=dep 1 rfl
      show Oper.wp _ _ Ac Wc K _
      go_simp
      exact hK _ _ (.inr rfl) hI
     ·intro L Ac Wc K hI hj hcl hsm dep hK;have yZ:Ac.tmps.getD 65 undef = .pointer (some ⟨b,o,none⟩):=dep 2 rfl
      show Oper.wp _ _ Ac Wc K _
      have ci:=(HS.out Wc (Qa xA hI)).2.1
      go_simp
      exact hK _ _ (.inr rfl) hI
     ·intro L Ac Wc K hI hj hcl hsm dep hK;have t6:Ac.tmps.getD 6 undef = .int .u64 (lo:Int):=hsm 6 rfl
      show Oper.wp _ _ Ac Wc K _
      go_simp
      exact hK _ _ (.inr rfl) hI
     ·intro L Ac Wc K hI hj hcl hsm dep hK;have zA:Ac.tmps.getD 66 undef = .int .u64 (i:Int):=dep 3 rfl;have zB:Ac.tmps.getD 67 undef = .int .u64 (lo:Int):=dep 4 rfl
      show Oper.wp _ _ Ac Wc K _
      go_simp
      exact hK _ _ (.inr rfl) hI
     ·intro L Ac Wc K hI hj hcl hsm dep hK;have zC:Ac.tmps.getD 68 undef = .bool true:=dep 5 rfl
      show Oper.wp _ _ Ac Wc K _
      go_simp
      exact hK _ _ (.inr rfl) hI
     ·intro L Ac Wc K hI hj hcl hsm dep hK;have t1:Ac.tmps.getD 1 undef = .pointer (some ⟨w.heap.size,0,none⟩):=hsm 1 rfl;refine⟨true,(show Ac.tmps.getD 69 undef = .bool true from dep 6 rfl),?_⟩
      rw[Lm rfl]
      go_simp
      exact hK _ _ (.inr rfl) hI
     ·intro L Ac Wc K hI hj hcl hsm dep hK;have zN:Ac.tmps.getD 70 undef = .pointer (some ⟨w.heap.size,4,none⟩):=dep 7 rfl;refine⟨true,(show Ac.tmps.getD 69 undef = .bool true from dep 6 rfl),?_⟩
      rw[Lm rfl];obtain⟨g0,g1,g2,g3,g4,g5⟩:=(HS.out Wc (Qa xA hI)).1.cells
      go_simp
      exact hK _ _ (.inr rfl) hI
     ·intro L Ac Wc K hI hj hcl hsm dep hK;have zO:Ac.tmps.getD 71 undef = .slice (some ⟨b,o,none⟩) 1 sc:=dep 8 rfl;refine⟨true,(show Ac.tmps.getD 69 undef = .bool true from dep 6 rfl),?_⟩
      rw[Lm rfl]
      go_simp
      exact hK _ _ (.inr rfl) hI
     ·intro L Ac Wc K hI hj hcl hsm dep hK;have zP:Ac.tmps.getD 72 undef = .pointer (some ⟨b,o,none⟩):=dep 9 rfl;refine⟨true,(show Ac.tmps.getD 69 undef = .bool true from dep 6 rfl),?_⟩
      rw[Lm rfl];have ci:=(HS.out Wc (Qa xA hI)).2.1
      go_simp
      exact hK _ _ (.inr rfl) hI
     ·intro L Ac Wc K hI hj hcl hsm dep hK;have t6:Ac.tmps.getD 6 undef = .int .u64 (lo:Int):=hsm 6 rfl;refine⟨true,(show Ac.tmps.getD 69 undef = .bool true from dep 6 rfl),?_⟩
      rw[Lm rfl]
      go_simp
      exact hK _ _ (.inr rfl) hI
     ·intro L Ac Wc K hI hj hcl hsm dep hK;have t3:Ac.tmps.getD 3 undef = .slice (some ⟨g,0,none⟩) M.length cap:=hsm 3 rfl;refine⟨true,(show Ac.tmps.getD 69 undef = .bool true from dep 6 rfl),?_⟩
      rw[Lm rfl]
      go_simp
      exact hK _ _ (.inr rfl) hI
     ·intro L Ac Wc K hI hj hcl hsm dep hK;have t5:Ac.tmps.getD 5 undef = .int .i64 (j:Int):=hsm 5 rfl;refine⟨true,(show Ac.tmps.getD 69 undef = .bool true from dep 6 rfl),?_⟩
      rw[Lm rfl]
      go_simp
      exact hK _ _ (.inr rfl) hI
     ·intro L Ac Wc K hI hj hcl hsm dep hK;have zS:Ac.tmps.getD 75 undef = .slice (some ⟨g,0,none⟩) M.length cap:=dep 12 rfl;have zT:Ac.tmps.getD 76 undef = .int .i64 (j:Int):=dep 13 rfl;refine⟨true,(show Ac.tmps.getD 69 undef = .bool true from dep 6 rfl),?_⟩
      rw[Lm rfl]
      go_simp
      exact hK _ _ (.inr rfl) hI
     ·intro L Ac Wc K hI hj hcl hsm dep hK;have zU:Ac.tmps.getD 77 undef = .pointer (some ⟨g,j*2,none⟩):=dep 14 rfl;refine⟨true,(show Ac.tmps.getD 69 undef = .bool true from dep 6 rfl),?_⟩
      rw[Lm rfl];obtain⟨m0,m1⟩:=yE.out Wc ⟨Qa xA hI,Qa xM hI⟩
      go_simp
      exact hK _ _ (.inr rfl) hI
     ·intro L Ac Wc K hI hj hcl hsm dep hK;have zV:Ac.tmps.getD 78 undef = .agg #[.int .i64 (mh:Int),.int .u64 (mk:Int)]:=dep 15 rfl;refine⟨true,(show Ac.tmps.getD 69 undef = .bool true from dep 6 rfl),?_⟩
      rw[Lm rfl]
      go_simp
      refine(yQ.out Wc).mono ?_
      rintro e w' ⟨rfl,yH⟩;exact hK _ _ (.inr rfl) (Qa hI yH)
     ·intro L Ac Wc K hI hj hcl hsm dep hK;have zR:Ac.tmps.getD 74 undef = .int .u64 (lo:Int):=dep 11 rfl;have zW:Ac.tmps.getD 79 undef = .int .u64 (sz:Int):=dep 16 rfl;refine⟨true,(show Ac.tmps.getD 69 undef = .bool true from dep 6 rfl),?_⟩
      rw[Lm rfl]
      go_simp
      exact hK _ _ (.inr rfl) hI
     ·intro L Ac Wc K hI hj hcl hsm dep hK;have zQ:Ac.tmps.getD 73 undef = .int .u64 (i:Int):=dep 10 rfl;have zX:Ac.tmps.getD 80 undef = .int .u64 ((lo+sz:Nat):Int):=dep 17 rfl;refine⟨true,(show Ac.tmps.getD 69 undef = .bool true from dep 6 rfl),?_⟩
      rw[Lm rfl]
      go_simp
      exact hK _ _ (.inr rfl) hI
     ·intro L Ac Wc K hI hj hcl hsm dep hK;have zD:Ac.tmps.getD 69 undef = .bool true:=dep 6 rfl;have zE:Ac.tmps.getD 81 undef = .bool true:=dep 18 rfl
      show Oper.wp _ _ Ac Wc K _
      go_simp
      exact hK _ _ (.inr rfl) hI
    case fin =>
     intro L w3 hall hI;have xL:=Qa xM hI;obtain⟨m0,m1⟩:=yR w3 ⟨Qa xA hI,xL⟩;clear hI hall yR;simp only[UI]
     go_simp
     go_wp2
     go_roundg (M.length - (j+1))
     case rel=>go_light;exact⟨j+1,by omega,rfl,by go_num,⟨c+mh,by go_num,HC⟩,xL⟩
     case measure=>go_light;omega
   ·have yW : ¬(lo:Int)<=(i:Int):=by have:=xJ hjA;omega
    have hc:c=M.length - 1+(if A.length<j+1 then H else 0):=by rw[Hc.out,Lm (by omega),Lm (by omega)]
    have HC:=Qe hc;clear xI xN xJ hc hjA xX xC xB xF xD xG xK xH;refine Yo (by kernel_rfl) [63,64,65,66,67,68,69,70,71,72,73,74,75,76,77,78,79,80,81,82] [] [.pointer (some ⟨w.heap.size,4,none⟩),.slice (some ⟨b,o,none⟩) 1 sc,.pointer (some ⟨b,o,none⟩),.int .u64 (i:Int),.int .u64 (lo:Int),.bool false,.bool false,undef,undef,undef,undef,undef,undef,undef,undef,undef,undef,undef,undef,.bool false] (by kernel_rfl) rfl (fun j hj=>by cases hj) (fun _ W=>Zb w2 W) (fun W _ hb=>hb) ?step ?fin
    case step =>
     refine⟨?_,?_,?_,?_,?_,?_,?_,?_,?_,?_,?_,?_,?_,?_,?_,?_,?_,?_,?_,?_,trivial⟩
     ·intro L Ac Wc K hI hj hcl hsm dep hK;have t1:Ac.tmps.getD 1 undef = .pointer (some ⟨w.heap.size,0,none⟩):=hsm 1 rfl
      show Oper.wp _ _ Ac Wc K _
      go_simp
      exact hK _ _ (.inr rfl) hI
     ·intro L Ac Wc K hI hj hcl hsm dep hK;have yX:Ac.tmps.getD 63 undef = .pointer (some ⟨w.heap.size,4,none⟩):=dep 0 rfl
      show Oper.wp _ _ Ac Wc K _
      obtain⟨g0,g1,g2,g3,g4,g5⟩:=(HS.out Wc (Qa xA hI)).1.cells
      go_simp
      exact hK _ _ (.inr rfl) hI
     ·intro L Ac Wc K hI hj hcl hsm dep hK;have yY:Ac.tmps.getD 64 undef = .slice (some ⟨b,o,none⟩) 1 sc:=dep 1 rfl
      show Oper.wp _ _ Ac Wc K _
      go_simp
      exact hK _ _ (.inr rfl) hI
     ·intro L Ac Wc K hI hj hcl hsm dep hK;have yZ:Ac.tmps.getD 65 undef = .pointer (some ⟨b,o,none⟩):=dep 2 rfl
      show Oper.wp _ _ Ac Wc K _
      have ci:=(HS.out Wc (Qa xA hI)).2.1
      go_simp
      exact hK _ _ (.inr rfl) hI
     ·intro L Ac Wc K hI hj hcl hsm dep hK;have t6:Ac.tmps.getD 6 undef = .int .u64 (lo:Int):=hsm 6 rfl
      show Oper.wp _ _ Ac Wc K _
      go_simp
      exact hK _ _ (.inr rfl) hI
     ·intro L Ac Wc K hI hj hcl hsm dep hK;have zA:Ac.tmps.getD 66 undef = .int .u64 (i:Int):=dep 3 rfl;have zB:Ac.tmps.getD 67 undef = .int .u64 (lo:Int):=dep 4 rfl
      show Oper.wp _ _ Ac Wc K _
      go_simp
      exact hK _ _ (.inr rfl) hI
     ·intro L Ac Wc K hI hj hcl hsm dep hK;have zC:Ac.tmps.getD 68 undef = .bool false:=dep 5 rfl
      show Oper.wp _ _ Ac Wc K _
      go_simp
      exact hK _ _ (.inr rfl) hI
     ·intro L Ac Wc K hI hj hcl hsm dep hK;refine⟨false,(show Ac.tmps.getD 69 undef = .bool false from dep 6 rfl),?_⟩
      rw[Le (by decide)]
      exact hK _ _ (.inr rfl) hI
     ·intro L Ac Wc K hI hj hcl hsm dep hK;refine⟨false,(show Ac.tmps.getD 69 undef = .bool false from dep 6 rfl),?_⟩
      rw[Le (by decide)]
      exact hK _ _ (.inr rfl) hI
     ·intro L Ac Wc K hI hj hcl hsm dep hK;refine⟨false,(show Ac.tmps.getD 69 undef = .bool false from dep 6 rfl),?_⟩
      rw[Le (by decide)]
      exact hK _ _ (.inr rfl) hI
     ·intro L Ac Wc K hI hj hcl hsm dep hK;refine⟨false,(show Ac.tmps.getD 69 undef = .bool false from dep 6 rfl),?_⟩
      rw[Le (by decide)]
      exact hK _ _ (.inr rfl) hI
     ·intro L Ac Wc K hI hj hcl hsm dep hK;refine⟨false,(show Ac.tmps.getD 69 undef = .bool false from dep 6 rfl),?_⟩
      rw[Le (by decide)]
      exact hK _ _ (.inr rfl) hI
     ·intro L Ac Wc K hI hj hcl hsm dep hK;refine⟨false,(show Ac.tmps.getD 69 undef = .bool false from dep 6 rfl),?_⟩
      rw[Le (by decide)]
      exact hK _ _ (.inr rfl) hI
     ·intro L Ac Wc K hI hj hcl hsm dep hK;refine⟨false,(show Ac.tmps.getD 69 undef = .bool false from dep 6 rfl),?_⟩
      rw[Le (by decide)]
      exact hK _ _ (.inr rfl) hI
     ·intro L Ac Wc K hI hj hcl hsm dep hK;refine⟨false,(show Ac.tmps.getD 69 undef = .bool false from dep 6 rfl),?_⟩
      rw[Le (by decide)]
      exact hK _ _ (.inr rfl) hI
     ·intro L Ac Wc K hI hj hcl hsm dep hK;refine⟨false,(show Ac.tmps.getD 69 undef = .bool false from dep 6 rfl),?_⟩
      rw[Le (by decide)]
      exact hK _ _ (.inr rfl) hI
     ·intro L Ac Wc K hI hj hcl hsm dep hK;refine⟨false,(show Ac.tmps.getD 69 undef = .bool false from dep 6 rfl),?_⟩
      rw[Le (by decide)]
      exact hK _ _ (.inr rfl) hI
     ·intro L Ac Wc K hI hj hcl hsm dep hK;refine⟨false,(show Ac.tmps.getD 69 undef = .bool false from dep 6 rfl),?_⟩
      rw[Le (by decide)]
      exact hK _ _ (.inr rfl) hI
     ·intro L Ac Wc K hI hj hcl hsm dep hK;refine⟨false,(show Ac.tmps.getD 69 undef = .bool false from dep 6 rfl),?_⟩
      rw[Le (by decide)]
      exact hK _ _ (.inr rfl) hI
     ·intro L Ac Wc K hI hj hcl hsm dep hK;have zD:Ac.tmps.getD 69 undef = .bool false:=dep 6 rfl;have zE:Ac.tmps.getD 81 undef=undef:=dep 18 rfl
      show Oper.wp _ _ Ac Wc K _
      go_simp
      exact hK _ _ (.inr rfl) hI
    case fin =>
     intro L w3 hall hI;have xL:=Qa xM hI;clear hI hall;simp only[UI]
     go_simp
     go_wp2
     go_roundg (M.length - (j+1))
     case rel=>go_light;exact⟨j+1,by omega,rfl,by go_num,⟨c,rfl,HC⟩,xL⟩
     case measure=>go_light;omega
  ·obtain rfl:j=M.length:=by omega
   have hz : ¬((M.length:Int)<(M.length:Int)):=by omega
   have xR:c=H+A.length+B.length:=by rw[Hc.out,Lm (by omega),xU];omega
   obtain⟨e0,e1,e2,e3,e4,e5⟩:=(HS.out wr (Qa xO.out hb)).1.cells;have HE:Hid (Six wr w.heap.size (.int .i64 1) (.int .i64 k) (.int .u64 0) (.int .u64 (size:Int)) (.slice (some ⟨b,o,none⟩) 1 sc) (.slice da D.length dc)∧RdS wr da db dO D.length D∧Zb w wr):=⟨(HS.out wr (Qa xO.out hb)).1,(HS.out wr (Qa xO.out hb)).2.2.1,(HS.out wr (Qa xO.out hb)).2.2.2⟩;have HC:=Qe xR;have zI:(D.length:Int)<=9223372036854775807:=by omega
   have xQ:(c:Int)<=100:=by omega
   by_cases hDl:D.length=c
   ·have yF:(D.length:Int)=(c:Int):=by omega
    have yP:Hid (decide (∀d∈D,(d.size:Int)=k)=r):=by
     rw[<-HQ.out]
     show decide _=decide _
     simp only[fil,hDl,xR,true_and]
    clear yA yB xU yK yC yL yM yD yN xR hlt hj hb;generalize wr=wv at *;clear wr;go_wp2
    go_loopg [7] c (fun gh x wr => ∃j:Nat,j<=c∧gh=c - j∧x = .int .i64 (j:Int)∧(∀t,t<j->((D.getD t ByteArray.empty).size:Int)=k)∧Zb wv wr)
    case atStart=>go_light;exact⟨0,Ll _,rfl,rfl,fun t ht=>absurd ht (Nu _),Lb _ _⟩
    case round =>
     obtain⟨j,hj,rfl,rfl,xP,hb⟩:=hrel;clear e0 e1 e2 e3 e4 e5;obtain⟨e0,e1,e2,e3,e4,e5⟩:=(HE.out.1.next hb).cells;have yO:=Qe (Qa HE.out.2.2 hb)
     by_cases hlt:j<c
     ·have hz:(j:Int)<(c:Int):=by omega
      have kI:(j:Int)<(D.length:Int):=by omega
      have zM:(0:Int)<=(j:Int):=Lf _;have xZ:=HE.out.2.1.next hb (Ld _);obtain rfl:=xZ.ptr (by omega)
      have cj:=xZ.at (k:=j) (by omega)
      obtain⟨d,hd⟩:=Ze (D.getD j ByteArray.empty);rw[hd] at cj
      by_cases hk:(d.size:Int)=k
      ·have HN:Hid (∀t,t<j+1->((D.getD t ByteArray.empty).size:Int)=k):=fun t ht=>by
        rcases NB (NL ht) with hx|rfl
        ·exact xP t hx
        ·rw[hd];exact hk
       have zF:=Qe hb;clear hd xP xZ hb hDl yF
       go_upto_region 16 with (fail)
       go_quiet (fail)
       go_wp2
       go_roundg (c - (j+1))
       case rel=>go_light;exact⟨j+1,by omega,rfl,by go_num,HN.out,Qd zF.out _⟩
       case measure=>go_light;omega
      ·obtain rfl:false=r:=by
        rw[<-yP.out];refine(Lj fun h=>hk ?_).symm
        rw[<-hd];exact h _ (Qv (by omega))
       clear hd xP xZ hb hDl yF
       go_upto_region 16 with (fail)
       go_quiet (fail)
       go_wp2
       go_ret
       exact⟨rfl,Qd yO.out _⟩
     ·obtain rfl:j=c:=by omega
      have hz : ¬((j:Int)<(j:Int)):=by omega
      obtain rfl:true=r:=by
       rw[<-yP.out];refine(Ln fun d hd => ?_).symm
       obtain⟨t,ht,rfl⟩:=LS hd;have:=xP t (by omega)
       rwa [La,Lc ht] at this
      clear xP hlt hb;go_wp2
      go_ret
      exact⟨rfl,yO.out⟩
   ·have yF : ¬(D.length:Int)=(c:Int):=by omega
    obtain rfl:false=r:=by rw[<-HQ.out];exact(Lj (by rintro⟨h,_⟩;exact hDl (by rw[h,xR]))).symm
    clear yA yB xU yK yC yL yM yD yN xR hlt hj hb hDl;go_wp2
    go_ret
    exact⟨rfl,HE.out.2.2⟩
end
theorem QiL(w:World)(kd k:Int)(old size:Nat)(sa:OA)(ns sc:Nat)(da:OA)(n2 dc:Nat)(i:Nat)(hx:ns=1 -> ∃b o,sa=some ⟨b,o,none⟩∧w.cell? ⟨b,o,none⟩=some (.int .u64 (i:Int)))
  (hno : ¬(kd=1∧(1<=k∧k<=32)∧size<=2^40∧old=0∧ns=1∧i<size)) :
  Zr 143 #[.agg #[.int .i64 kd,.int .i64 k,.int .u64 (old:Int),.int .u64 (size:Int),.slice sa ns sc,.slice da n2 dc]] w (.bool false):=by
 have hb:=QeB w kd k old size (.slice sa ns sc) (.slice da n2 dc)
 by_cases c1:kd=1
 ·subst c1
  by_cases c2 : ¬k<1
  ·have f3:decide (k<1)=false:=Lj c2
   by_cases c3 : ¬32<k
   ·have f4:decide ((32:Int)<k)=false:=Lj c3
    by_cases c4:old=0
    ·subst c4;rw[show((0:Nat):Int)=0 from rfl] at *
     by_cases c5 : ¬2^40<size
     ·have f8:decide ((1099511627776:Int)<(size:Int))=false:=Lj (by omega)
      by_cases c6:ns=1
      ·subst c6;obtain⟨b,o,rfl,c0⟩:=hx rfl;have xA:size<=i:=by
        apply IU
        intro h;exact hno ⟨rfl,⟨by omega,by omega⟩,by omega,rfl,rfl,h⟩
       have g1:decide ((size:Int)<=(i:Int))=true:=Ln (by omega)
       have g2:decide (size<=i)=true:=Ln xA
       have cc:=(hb.cell (p:=⟨b,o,none⟩) (Lh w _ c0)).trans c0;clear hx hno c0 xA c2 c3 c5
       go_enter func143,ntmps143
       go_upto_region 1 with (fail)
       go_quiet (fail)
       go_wp2
       go_ret
       exact⟨rfl,Qd hb _⟩
      ·have f9:(((ns:Nat):Int) == 1)=false:=by simp;omega
       have xB:decide (ns=1)=false:=Lj c6
       have xC : ¬(ns:Int)=1:=by omega
       clear hx hno c2 c3 c5
       go_enter func143,ntmps143
       go_upto_region 1 with (fail)
       go_quiet (fail)
       go_wp2
       go_ret
       exact⟨rfl,Qd hb _⟩
     ·have f8:decide ((1099511627776:Int)<(size:Int))=true:=Ln (by omega)
      clear hx hno c2 c3
      go_enter func143,ntmps143
      go_upto_region 1 with (fail)
      go_quiet (fail)
      go_wp2
      go_ret
      exact⟨rfl,Qd hb _⟩
    ·have f5:(((old:Nat):Int) == 0)=false:=by simp;omega
     have f6:decide (old=0)=false:=Lj c4
     have f7 : ¬(old:Int)=0:=by omega
     clear hx hno c2 c3
     go_enter func143,ntmps143
     go_upto_region 1 with (fail)
     go_quiet (fail)
     go_wp2
     go_ret
     exact⟨rfl,Qd hb _⟩
   ·have f4:decide ((32:Int)<k)=true:=Ln (by omega)
    clear hx hno c2
    go_enter func143,ntmps143
    go_upto_region 1 with (fail)
    go_quiet (fail)
    go_wp2
    go_ret
    exact⟨rfl,Qd hb _⟩
  ·have f3:decide (k<1)=true:=Ln (by omega)
   clear hx hno
   go_enter func143,ntmps143
   go_upto_region 1 with (fail)
   go_quiet (fail)
   go_wp2
   go_ret
   exact⟨rfl,Qd hb _⟩
 ·have f1:(kd == 1)=false:=by simp;exact c1
  have f2:decide (kd=1)=false:=Lj c1
  clear hx hno
  go_enter func143,ntmps143
  go_upto_region 1 with (fail)
  go_quiet (fail)
  go_wp2
  go_ret
  exact⟨rfl,Qd hb _⟩
theorem QlT{c i a H:Nat}{D:LB}{x:BA}(h:H+a<=D.length):(pkP c i a H D x).length=D.length - H+1:=by
 rw[pkP,Lg,Lt,Lq,Lv,Lv,Lv];omega
section
open Cv (zl)
theorem s0(x:BA):(⟨#[0]⟩:BA)++x=Qh x:=rfl
theorem s1(a x:BA):((⟨#[1]⟩:BA)++a)++x=QH a x:=rfl
theorem s2(a x:BA):((⟨#[2]⟩:BA)++a)++x=Uq a x:=rfl
theorem QdU{c i a H:Nat}{D:LB}{x:BA}(h:H+a<=D.length)(j:Nat):(pkP c i a H D x).getD j ByteArray.empty=if j<a then D.getD (H+j) ByteArray.empty else if j=a then rs c i (dg c (Qh x)) (D.take H) else D.getD (H+(j - 1)) ByteArray.empty:=by
 have lt:((D.drop H).take a).length=a:=by rw[Lq,Lv];omega
 rw[pkP,La]
 split
 ·rename_i h1
  rw[LL (by omega),IB h1,Np,La]
 ·rw[LN (by omega),lt]
  split
  ·rename_i h2
   rw[h2,NJ];rfl
  ·obtain⟨u,rfl⟩ : ∃u,j=a+(u+1):=⟨j - a - 1,by omega⟩
   rw[show a+(u+1) - a=u+1 by omega,Nr,Np,Np,La]
   congr 2
theorem Qj9{c i a H:Nat}(hc:c<=32){D:LB}{x:BA}(hs : ∀s∈D,s.size=c) : ∀s∈pkP c i a H D x,s.size=c:=fun s hx=>by
 rw[pkP,NV,Wu] at hx
 rcases hx with hx|rfl|hx
 ·exact hs s (LV (Nf hx))
 ·exact Qd9 hc _ _ _ (Q6 hc _)
 ·exact hs s (LV (LV hx))
theorem RA.next{w W:World}{k:Int}{size b o i H:Nat}{A B:List (Nat×Nat)}(h:RA w k size b o i H A B)(hb:Zb w W):RA W k size b o i H A B :=
 ⟨h.k1,h.n,h.il,h.wy,(hb.cell (p:=⟨b,o,none⟩) (Lh w _ h.ci)).trans h.ci⟩
theorem Qnc{k:Int}(h:1<=k∧k<=32):(clk k:Int)=k:=by unfold clk;rw[Le (by omega),Le (by omega)];omega
end
theorem Qga(w:World)(ht:Tr w)(k:Int)(k1:1<=k)(k2:k<=32)(ao:OA)(b off len cap:Nat)(ss:LB)(hr:RdS w ao b off len ss)(hsz : ∀s∈ss,s.size<=1000)(hlen:0<len)(hmx:len<=100)(r:BA)(hq:Qr (clk k) ss=r) :
  Zr 172 #[.int .i64 k,.slice ao len cap] w (.string r):=by
 obtain rfl:=hr.ptr hlen;obtain⟨m,rfl⟩ : ∃m,len=m+1:=⟨len - 1,by omega⟩
 have hc:=Qp k;have xH : ¬((m:Int)+1=0):=by omega
 have cm:=hr.at (k:=m) (by omega)
 have HL:Hid (Qr (clk k) (ss.drop m)=ss.getD m ByteArray.empty):=by
  have:=Qal (clk k) ss (by rw[hr.hl];omega)
  rw[hr.hl] at this;exact this
 have HM:Hid (∀j,j<m+1->(ss.getD j ByteArray.empty).size<=1000):=fun j hj=>hsz _ (Qv (by rw[hr.hl];exact hj))
 have HD:Hid (∀j,(Qr (clk k) (ss.drop j)).size<=1000):=fun j=>Q3 hc (by decide) _ (fun s hs=>hsz s (LV hs))
 have HN:Hid (∀j,j<m->Qr (clk k) (ss.drop j)=dg (clk k) (Uq (ss.getD j ByteArray.empty) (Qr (clk k) (ss.drop (j+1))))):=fun j hj=>Qak _ _ _ (by rw[hr.hl];omega)
 have HT:Hid (Tr w∧1<=k∧k<=32):=⟨ht,k1,k2⟩;have HR:Hid (RdS w (some ⟨b,off,none⟩) b off (m+1) ss):=hr;have HQ:Hid (Qr (clk k) (ss.drop 0)=r):=hq;have xG:(m:Int)<=100:=by omega
 obtain⟨d0,xB⟩:=Ze (ss.getD m ByteArray.empty);rw[xB] at cm;have xC:Hid (Qr (clk k) (ss.drop m)=d0):=by rw[<-xB];exact HL
 clear xB HL ht hr hq hsz hlen k1 k2
 go_enter func172,ntmps172;go_wp2
 go_loopg [5,6] m (fun g x i wr => ∃(j:Nat) (d:BA),j=g∧x = .string d∧i = .int .i64 ((j:Int) - 1)∧j<=m∧Hid (Qr (clk k) (ss.drop j)=d)∧Zb w wr)
 case atStart=>go_light;exact⟨m,d0,rfl,rfl,by go_num,Ld _,xC,Lb _ _⟩
 case round =>
  obtain⟨j,d,hg,rfl,rfl,hj,HE,hb⟩:=hrel;subst hg
  cases j with
  | zero =>
   have hz : ¬((0:Int) <= -1):=by decide
   rw[show((0:Nat):Int) - 1 = -1 from rfl]
   have HF:Hid (d=r):=HE.out.symm.trans HQ.out;clear HE HN HQ HM HD HR HT cm;obtain rfl:=HF.out;go_wp2
   go_ret
   exact⟨rfl,hb⟩
  | succ j =>
   have e1:((j+1:Nat):Int) - 1=(j:Int):=by omega
   have hz:(0:Int)<=(j:Int):=by omega
   have xK:(j:Int)<(m:Int)+1:=by omega
   have xF:j<m:=by omega
   have cj:=(HR.out.next hb (Ld _)).at (k:=j) (by omega)
   have z1:=HM.out j (by omega)
   have z2:=HD.out (j+1);have hn:=HN.out j xF;rw[HE.out] at z2 hn;generalize ss.getD j ByteArray.empty=p at *;obtain⟨t,ht⟩:=Ze (Uq p d);have n2:=s2 p d;have zt:=JX p d;rw[ht] at zt n2;rw[ht] at hn;have xI : ¬(9223372036854775807<1+p.size):=by omega
   have xJ : ¬(9223372036854775807<1+p.size+d.size):=by omega
   obtain⟨d',xA⟩ : ∃d',dg (clk k) t=d':=⟨_,rfl⟩;have HO:Hr w 145 #[.int .i64 k,.string t] (.string d'):=fun W hb=>Qcl W (HT.out.1.next hb) k HT.out.2.1 HT.out.2.2 t (by omega) d' xA
   have xE:Hid (Qr (clk k) (ss.drop j)=d'):=hn.trans xA;rw[e1];clear HE hn xA ht zt z1 z2 e1 cm xC
   go_wp2_with (go_at_call 145;with_reducible refine(HO.out _ hb).mono ?_;rintro e w2 ⟨rfl,xD⟩;replace hb:=Qa hb xD;clear xD)
   go_roundg j
   case rel=>go_light;exact⟨j,d',rfl,rfl,by go_num,by omega,xE.out,hb⟩
   case measure=>go_light;omega
theorem Qoq(n:Nat):tl (n:Int) 8=nbL n 8:=by
 have h : ∀j,(n:Int) / 256^j % 256=((n / 256^j % 256:Nat):Int):=fun j=>by
  rw[show(256:Int)^j=((256^j:Nat):Int) by simp]
  omega
 simp only[tl,h]
 rfl
theorem Qiq(n:Nat)(d:BA):((⟨#[3]⟩:BA)++Q4 (nbL n 8))++d=QI n d:=by
 rw[QI,Qda,<-QaE]
 rfl
theorem QcI(w:World)(ht:Tr w)(k:Int)(k1:1<=k)(k2:k<=32)(n:Nat)(hn:n<18446744073709551616)(ao:OA)(b off len cap:Nat)(ss:LB)(hr:RdS w ao b off len ss)(hsz : ∀s∈ss,s.size<=1000)(hlen:0<len)(hmx:len<=100)(r:BA)(hq:dg (clk k) (QI n (Qr (clk k) ss))=r) :
  Zr 148 #[.int .i64 k,.int .u64 (n:Int),.slice ao len cap] w (.agg #[.int .u64 (n:Int),.string r]):=by
 obtain⟨w0,xD⟩:=Ze (w.alloc (.cells #[.int .u64 0,.string ⟨#[]⟩] 30));have xE:Zb w w0:=by rw[<-xD];exact bal (Lb _ _) _
 have xJ:Rt w0 w.heap.size 0 ⟨#[]⟩:=by rw[<-xD];exact Qea w 0 ⟨#[]⟩ 30
 obtain⟨bg,xC⟩:=Ze (Qr (clk k) ss);have xO:bg.size<=1000:=by rw[<-xC];exact Q3 (Qp k) (by decide) _ hsz
 have xI:Hid (∀W,Zr 65 #[.int .u64 (n:Int),.int .i64 8] W (.string (Q4 (nbL n 8)))):=fun W=>by
  have:=big8 (n:Int) (by omega) (by omega) W
  rw[Qoq] at this;exact this
 have xM:Hr w 172 #[.int .i64 k,.slice ao len cap] (.string bg):=fun W hb=>Qga W (ht.next hb) k k1 k2 ao b off len cap ss (hr.next hb (Ld _)) hsz hlen hmx bg xC
 rw[xC] at hq;obtain⟨nb,xG⟩:=Ze (Q4 (nbL n 8));have xP:nb.size=8:=by rw[<-xG,QaF,Qa9]
 have xL:=Qiq n bg;rw[xG] at xL xI;obtain⟨t,xH⟩:=Ze (QI n bg);have zt:t.size=9+bg.size:=by rw[<-xH,Jq]
 rw[xH] at xL hq;have xQ : ¬(9223372036854775807<1+nb.size):=by omega
 have xR : ¬(9223372036854775807<1+nb.size+bg.size):=by omega
 have HH:Hr w 145 #[.int .i64 k,.string t] (.string r):=fun W hb=>Qcl W (ht.next hb) k k1 k2 t (by omega) r hq
 have HR:=Qe xJ;clear ht k1 k2 hr hsz hlen hmx hq xC xO xG xH zt hn xJ xP
 go_enter func148,ntmps148
 go_upto_region 1 with (fail)
 try rw[xD]
 clear xD
 go_wp2_with (first
  | (go_at_call 65;with_reducible refine(xI.out _).mono ?_;rintro e w1 ⟨rfl,xB⟩)
  | (go_at_call 172;with_reducible refine(xM.out _ (Qa xE xB)).mono ?_;rintro e w2 ⟨rfl,xF⟩)
  | (go_at_call 145;with_reducible refine(HH.out _ (Qa (Qa xE xB) xF)).mono ?_;rintro e w3 ⟨rfl,xK⟩;have xA:=HR.out.below (Qa xB (Qa xF xK)) (Lh w0 _ HR.out.c0);have k0:=xA.c0;have k1:=xA.c1;have f0:=xA.f0;have f1:=xA.f1))
 obtain⟨s0,s1,xN⟩:=Yr xA (n:Int) r;refine Lp (v := .agg #[.int .u64 (n:Int),.string r]) (by simp[results,results148,go_sem,s0,s1]) rfl ⟨rfl,?_⟩
 exact(Qa (Qa (Qa xE xB) xF) xK).trans (xN.below (by rintro b rfl;exact Ld _))
end Go.Proofs.YtdocjikpcbmcgaaGreatDoor
