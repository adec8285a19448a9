/- Own work. -/
import Derived.Deep.AppendLies
import Derived.Test.YtoblgjledefdbaaGreatDoorQt16
set_option maxRecDepth 100000
set_option maxHeartbeats 4000000
namespace Go.Proofs.YtoblgjledefdbaaGreatDoor
open Go.RowKit
attribute [local go_sem ↓] Go.wp_at_zero Go.wp_at_succ
open Go.Proofs.Tryz
section
open Cv (RdC zl cU cov)
open Pl (pw)
theorem Qc6{w wr:World}{s0 q:Nat}{F:Nat->Nat->BA}{h k h' k':Nat}{v u:Value}(hl:(k+1)*pw h<=2^40)(j:JL w wr s0 q F h k h' k' v u):h'<=40∧k'<2^40∧(cov 0 (k' * pw h')).length<=40∧k' * pw h'<=2^40:=by
 have xB:=j.en;have xA:(k'+1)*pw h'<=2^40:=by rw[xB];exact hl
 have hp:=Pl.QC h';have h1:k'+1<=(k'+1)*pw h':=If _ hp;have h2:k' * pw h'<=(k'+1)*pw h':=LJ _ (by omega)
 exact⟨QkE (by omega) xA,by omega,Cv.UW _ (by omega),by omega⟩
theorem Qb8(w:World)(s0:Nat)(K:Int)(F:Nat->Nat->BA)(h k:Nat)(v u:Value)(hJ:JS w s0 v u (cov 0 (k*pw h)) (dgF F (cov 0 (k*pw h))))(hl:(k+1)*pw h<=2^40)
  (hT:∀W,Below (s0+1) w W->Tb W) (hK:w.cell? ⟨s0,1,none⟩=some (.int .i64 K))
  (hF:∀h' q,h<=h'->(q+1)*pw (h'+1)=(k+1)*pw h->F (h'+1) q=dg (clk K) (QN (F h' (2*q)) (F h' (2*q+1)))) (hsz:∀a b,(F a b).size<=32) (d:BA) (hd:F h k=d) :
  Calls prog 225 #[.agg #[.int .i64 h,.int .u64 k],.string d,.pointer (some ⟨s0+1,0,none⟩),Pq s0,.pointer (some ⟨s0+2,0,none⟩)] w fun e w'=>e= .returned (.tuple #[])∧(∃v' u',JS w' s0 v' u' (cov 0 ((k+1)*pw h)) (dgF F (cov 0 ((k+1)*pw h))))∧Below (s0+1) w w':=by
 have yM:=hJ.lt;have hb:=bal (Lb w.heap.size w) (.cells #[.int .i64 h,.int .u64 k] 249);have hL:JL w (w.alloc (.cells #[.int .i64 h,.int .u64 k] 249)) s0 w.heap.size F h k h k v u :=
  ⟨hJ.next hb,QcE w _ _,fun g hg=>(LO hJ.ot g hg).2,rfl,La _,hb.mono (by omega),yM⟩
 obtain⟨ao,n,xB,rfl⟩:=Cv.Qu hJ.ot;have hn:=Qas hJ.ot;rw[Cv.Ye] at hn;subst hn;have HX:Hid ((k+1)*pw h<=2^40∧(∀a b,(F a b).size<=32)∧(∀W,Below (s0+1) w W->Tb W∧W.cell? ⟨s0,1,none⟩=some (.int .i64 K))∧(∀h' q,h<=h'->(q+1)*pw (h'+1)=(k+1)*pw h->F (h'+1) q=dg (clk K) (QN (F h' (2*q)) (F h' (2*q+1))))) :=
  ⟨hl,hsz,fun W hW=>⟨hT W hW,(hW.cell (p:=⟨s0,1,none⟩) (Wa s0)).trans hK⟩,hF⟩
 have HL:=Qc hL;have c0:=cell_of_one hL.js.ct;have yB:=(Qc6 hl hL).2.2.1;have zD:((cov 0 (k*pw h)).length:Int)<=40:=by omega
 subst hd;clear hJ yM hb hL hl hT hK hF hsz yB
 go_enter func225,ntmps225;go_wp2
 go_loopg [1,7] (41-h) (fun g dd i wr=> ∃(h' k':Nat) (v u:Value),Hid (JL w wr s0 w.heap.size F h k h' k' v u)∧g=41-h'∧dd= .string (F h' k')∧i= .int .i64 (((cov 0 (k' * pw h')).length:Int)-1))
 case atStart=>go_light;exact⟨h,k,_,_,HL,by omega,rfl,rfl⟩
 case round=>
  obtain⟨h',k',v,u,HJ,rfl,rfl,rfl⟩:=hrel;clear HL c0 zD;obtain⟨b1,b2,b3,b4⟩:=Qc6 HX.out.1 HJ.out
  by_cases hpar:k'%2=1
  ·obtain⟨a,rfl⟩:∃a,k'=2*a+1:=⟨k'/2,by omega⟩
   obtain⟨C,hC⟩:=Ze (cov 0 (2*a*pw h'));have xP:cov 0 ((2*a+1)*pw h')=C++[(h',2*a)]:=by rw[<-hC];exact QdH h' a b4
   have xA:=HJ.out.js;rw[xP] at xA;have yP:(dgF F C).length=C.length:=LY ..;have xK:JS wr s0 v u (C++[(h',2*a)]) (dgF F C++[F h' (2*a)]):=by rw[dgF,LQ] at xA;exact xA
   obtain⟨g,xB,gu,cu,rfl,rfl,xZ,xN,e1,e2,e3⟩:=Qhu xK;rw[yP] at xN e3 HJ;have yN:((cov 0 ((2*a+1)*pw h')).length:Int)-1=(C.length:Int):=by rw[xP,Lc,LK];omega
   rw[yN];have xG:C.length<=40:=by rw[xP,Lc,LK] at b3;omega
   obtain⟨x0,xR⟩:=Ze (F h' (2*a));obtain⟨x1,xD⟩:=Ze (F h' (2*a+1));obtain⟨x2,yJ⟩:=Ze (F (h'+1) a);have yR:dg (clk K) (QN x0 x1)=x2:=by
    rw[<-yJ,HX.out.2.2.2 h' a HJ.out.hh (by rw[<-HJ.out.en,Cv.QE,show 2*(a+1)=2*a+1+1 by omega]),xR,xD]
   rw[xR] at e3;rw[xD];obtain⟨t,ht⟩:=Ze C.length;have xT:Hid (∀W W',JL w W s0 w.heap.size F h k h' (2*a+1) (.slice (Zp g) (t+1) xB) (.slice (Zp gu) (t+1) cu)->(((putB W w.heap.size ((h'+1:Nat):Int) a).setCell ⟨s0+1,0,none⟩ (.slice (Zp g) t xB)).setCell ⟨s0+2,0,none⟩ (.slice (Zp gu) t cu))=W'->JL w W' s0 w.heap.size F h k (h'+1) a (.slice (Zp g) t xB) (.slice (Zp gu) t cu)):=fun W W' h1 h2=>by
    subst ht;exact JL.up C hC HX.out.1 h1 W' h2
   have xE:((cov 0 (a*pw (h'+1))).length:Int)=(t:Int):=by rw[Cv.QE,hC,ht]
   rw[ht] at HJ e1 e2 e3 xZ xN xG ⊢;have HE:Hid (∀W,Bl wr W->JL w W s0 w.heap.size F h k h' (2*a+1) (.slice (Zp g) (t+1) xB) (.slice (Zp gu) (t+1) cu)∧W.cell? ⟨g,t*2,none⟩=some (.int .i64 h')∧W.cell? ⟨g,t*2+1,none⟩=some (.int .u64 ((2*a:Nat):Int))∧W.cell? ⟨gu,t,none⟩=some (.string x0)):=fun W hW=>
    ⟨HJ.out.next hW,(hW.cell (Lo wr _ e1)).trans e1,(hW.cell (Lo wr _ e2)).trans e2,(hW.cell (Lo wr _ e3)).trans e3⟩
   have xF:Hid (∀W,Zr 226 #[.agg #[.int .i64 h',.int .u64 ((2*a+1:Nat):Int)]] W (.agg #[.int .i64 h',.int .u64 ((2*a:Nat):Int)])):=fun W=>QbM W h' (2*a+1) (by omega) (2*a) (by unfold sb;rw[Lf (by omega)];omega)
   have yL:Hr wr 227 #[.int .i64 K,.string x0,.string x1] (.string x2):=fun W hW=>U8 W (HX.out.2.2.1 W ((HE.out W hW).1.be)).1 K x0 x1 (by have:=HX.out.2.1 h' (2*a);rw[xR] at this;omega) (by have:=HX.out.2.1 h' (2*a+1);rw[xD] at this;omega) x2 yR
   have yT:(0:Int)<=(t:Int):=Lh _;have yF:(t:Int)<((t+1:Nat):Int):=by omega
   have HG:Hid (h'<=40∧2*a+1<2^40∧t<=40∧t+1<=xB∧t+1<=cu∧((cov 0 (a*pw (h'+1))).length:Int)=(t:Int)∧F (h'+1) a=x2):=⟨b1,b2,xG,xZ,xN,xE,yJ⟩;obtain⟨kk,xH⟩:∃kk:Nat,2*a+1=kk:=⟨_,rfl⟩;obtain⟨k2,yO⟩:∃k2:Nat,2*a=k2:=⟨_,rfl⟩;obtain⟨tt,yG⟩:∃tt:Nat,t+1=tt:=⟨_,rfl⟩;rw[xH,yO,yG] at HE;rw[xH,yO] at xF;rw[xH,yG] at xT;rw[yG] at yF;clear hpar hC xP xA xK yN yP xR xD yJ yR HJ e1 e2 e3 xZ xN xG b1 b2 b3 b4 ht xE
   go_upto_region 2 with (fail)
   refine YB (by kernel_rfl) [11,12,13,14,15,16,17,18,19,20,21] [] [.int .i64 t,.bool true,.bool true,.slice (Zp g) tt xB,.int .i64 t,.pointer (some ⟨g,t*2,none⟩),.agg #[.int .i64 h',.int .u64 k2],.agg #[.int .i64 h',.int .u64 kk],.agg #[.int .i64 h',.int .u64 k2],.bool true,.bool true] (by kernel_rfl) rfl (fun j hj=>by cases hj) (fun _ W=>Bl wr W) (fun W _ hb=>hb) ?step ?fin
   case step=>
    refine⟨?_,?_,?_,?_,?_,?_,?_,?_,?_,?_,?_,trivial⟩
    ·intro L Ac Wc K hI hj hcl hsm dep hK;have t7:Ac.tmps.getD 7 undef= .int .i64 t:=hsm 7 rfl
     show Oper.wp _ _ Ac Wc K _
     go_simp
     exact hK _ _ (.inr rfl) hI
    ·intro L Ac Wc K hI hj hcl hsm dep hK;have yU:Ac.tmps.getD 11 undef= .int .i64 t:=dep 0 rfl
     show Oper.wp _ _ Ac Wc K _
     go_simp
     exact hK _ _ (.inr rfl) hI
    ·intro L Ac Wc K hI hj hcl hsm dep hK;have yV:Ac.tmps.getD 12 undef= .bool true:=dep 1 rfl
     show Oper.wp _ _ Ac Wc K _
     go_simp
     exact hK _ _ (.inr rfl) hI
    ·intro L Ac Wc K hI hj hcl hsm dep hK;have t2:Ac.tmps.getD 2 undef= .pointer (some ⟨s0+1,0,none⟩):=hsm 2 rfl;refine⟨true,(show Ac.tmps.getD 13 undef= .bool true from dep 2 rfl),?_⟩
     rw[Lf rfl];obtain⟨j,e1,e2,e3⟩:=HE.out Wc hI;have c1:=cell_of_one j.js.ct
     go_simp
     exact hK _ _ (.inr rfl) hI
    ·intro L Ac Wc K hI hj hcl hsm dep hK;have t7:Ac.tmps.getD 7 undef= .int .i64 t:=hsm 7 rfl;refine⟨true,(show Ac.tmps.getD 13 undef= .bool true from dep 2 rfl),?_⟩
     rw[Lf rfl]
     go_simp
     exact hK _ _ (.inr rfl) hI
    ·intro L Ac Wc K hI hj hcl hsm dep hK;have zG:Ac.tmps.getD 14 undef= .slice (Zp g) tt xB:=dep 3 rfl;have zH:Ac.tmps.getD 15 undef= .int .i64 t:=dep 4 rfl;refine⟨true,(show Ac.tmps.getD 13 undef= .bool true from dep 2 rfl),?_⟩
     rw[Lf rfl]
     go_simp
     exact hK _ _ (.inr rfl) hI
    ·intro L Ac Wc K hI hj hcl hsm dep hK;have zI:Ac.tmps.getD 16 undef= .pointer (some ⟨g,t*2,none⟩):=dep 5 rfl;refine⟨true,(show Ac.tmps.getD 13 undef= .bool true from dep 2 rfl),?_⟩
     rw[Lf rfl];obtain⟨j,e1,e2,e3⟩:=HE.out Wc hI
     go_simp
     exact hK _ _ (.inr rfl) hI
    ·intro L Ac Wc K hI hj hcl hsm dep hK;have t5:Ac.tmps.getD 5 undef=Pq w.heap.size:=hsm 5 rfl;refine⟨true,(show Ac.tmps.getD 13 undef= .bool true from dep 2 rfl),?_⟩
     rw[Lf rfl];obtain⟨j,e1,e2,e3⟩:=HE.out Wc hI;obtain⟨c1,c2⟩:=j.tw.cells
     go_simp
     exact hK _ _ (.inr rfl) hI
    ·intro L Ac Wc K hI hj hcl hsm dep hK;have zK:Ac.tmps.getD 18 undef= .agg #[.int .i64 h',.int .u64 kk]:=dep 7 rfl;refine⟨true,(show Ac.tmps.getD 13 undef= .bool true from dep 2 rfl),?_⟩
     rw[Lf rfl]
     go_simp
     refine(xF.out Wc).mono ?_
     rintro e w' ⟨rfl,xV⟩;exact hK _ _ (.inr rfl) (Qa hI xV)
    ·intro L Ac Wc K hI hj hcl hsm dep hK;have zJ:Ac.tmps.getD 17 undef= .agg #[.int .i64 h',.int .u64 k2]:=dep 6 rfl;have zL:Ac.tmps.getD 19 undef= .agg #[.int .i64 h',.int .u64 k2]:=dep 8 rfl;refine⟨true,(show Ac.tmps.getD 13 undef= .bool true from dep 2 rfl),?_⟩
     rw[Lf rfl]
     go_simp
     exact hK _ _ (.inr rfl) hI
    ·intro L Ac Wc K hI hj hcl hsm dep hK;have yW:Ac.tmps.getD 13 undef= .bool true:=dep 2 rfl;have yX:Ac.tmps.getD 20 undef= .bool true:=dep 9 rfl
     show Oper.wp _ _ Ac Wc K _
     go_simp
     exact hK _ _ (.inr rfl) hI
   case fin=>
    intro L W hall hW;clear hall;simp only[Uk]
    go_simp
    have HS:Hid (∀Z,Bl wr Z->Z.cell? ⟨s0,1,none⟩=some (.int .i64 K)∧Z.cell? ⟨s0+2,0,none⟩=some (.slice (Zp gu) tt cu)∧Z.cell? ⟨gu,t,none⟩=some (.string x0)):=fun Z hZ=>⟨(HX.out.2.2.1 Z (HE.out Z hZ).1.be).2,cell_of_one (HE.out Z hZ).1.js.cp,(HE.out Z hZ).2.2.2⟩
    obtain⟨s1,s2,s3⟩:=HS.out W hW
    go_upto_region 3 with (fail)
    go_region_held3 (fun Z=>Z.cell? ⟨s0,1,none⟩=some (.int .i64 K)∧Z.cell? ⟨s0+2,0,none⟩=some (.slice (Zp gu) tt cu)∧Z.cell? ⟨gu,t,none⟩=some (.string x0))
     (exact HS.out _ (by first|exact hW|exact hW.drew|exact Qa hW.drew hb3|exact Qa hW hb3)) (first
     | (go_at_call 227;with_reducible refine(yL.out _ (by first|exact hW.drew|exact hW)).mono ?_;rintro e w3 ⟨rfl,hb3⟩))
    all_goals
     have xW:Bl wr w3:=by first|exact Qa hW.drew hb3|exact Qa hW hb3
     have xJ:=(HE.out w3 xW).1;obtain⟨q0,q1⟩:=xJ.tw.cells;have f0:=xJ.tw.fz 0;have f1:=xJ.tw.fz 1;obtain⟨h1,zC⟩:∃h1:Nat,h'+1=h1:=⟨_,rfl⟩;have e5:IntKind.i64.wrap ((h':Int)+1)=(h1:Int):=by have:=HG.out.1;rw[Lq];omega
     have e6:Int.tdiv (kk:Int) 2=(a:Int):=by rw[Int.tdiv_eq_ediv_of_nonneg (by omega)];omega
     have e7:IntKind.u64.wrap (a:Int)=(a:Int):=by have:=HG.out.2.1;rw[IntKind.wrap_u64];omega
     have xM:=Qc xJ;clear s1 s2 s3 yL xF xJ
     go_upto_region 5 with (fail)
     have xO:=QbD w3 w.heap.size (h1:Int) a;obtain⟨W4,xI⟩:=Ze (putB w3 w.heap.size (h1:Int) a);rw[xI] at xO;unfold putB at xI;rw[xI];have zN:=xM.out.hq;have b1:=(xO.block (s0+1) (by show ¬s0+1=_;omega)).trans xM.out.js.ct
     have b2:=(xO.block (s0+2) (by show ¬s0+2=_;omega)).trans xM.out.js.cp
     have c1:=cell_of_one b1;have c2:=cell_of_one b2;have g1:=free_of_one b1;have g2:=free_of_one b2;have zA:(t:Int)<=(xB:Int):=by have:=HG.out.2.2.2.1;omega
     have zB:(t:Int)<=(cu:Int):=by have:=HG.out.2.2.2.2.1;omega
     clear q0 q1 f0 f1 e5 e6 e7 b1 b2;have yY:=Qc xI;clear xI
     go_region
     have HF:Hid (∀W5,(W4.setCell ⟨s0+1,0,none⟩ (.slice (Zp g) t xB)).setCell ⟨s0+2,0,none⟩ (.slice (Zp gu) t cu)=W5->JL w W5.drew s0 w.heap.size F h k (h'+1) a (.slice (Zp g) t xB) (.slice (Zp gu) t cu)):=fun W5 h5=>(xT.out w3 W5 xM.out (by rw[<-h5,<-yY.out,zC];rfl)).next (Lb _ _).drew
     have e8:IntKind.i64.wrap ((t:Int)-1)=(t:Int)-1:=by have:=HG.out.2.2.1;rw[Lq];omega
     clear c1 c2 g1 g2 xO xT zA zB;go_wp2
     go_roundg (41-(h'+1))
     case rel=>go_light;exact⟨h'+1,a,_,_,HF.out _ rfl,rfl,by rw[HG.out.2.2.2.2.2.2],by rw[HG.out.2.2.2.2.2.1]⟩
     case measure=>go_light;have:=HG.out.1;omega
  ·obtain⟨a,rfl⟩:∃a,k'=2*a:=⟨k'/2,by omega⟩
   obtain⟨C,hC⟩:=Ze (cov 0 (2*a*pw h'));have yD:cov 0 ((k+1)*pw h)=C++[(h',2*a)]:=by rw[<-HJ.out.en,<-hC];exact QdH h' a (by rw[HJ.out.en];exact HX.out.1)
   have yA:∀b∈C,h'<b.1:=by rw[<-hC];exact Qkb h' a b4
   have xA:=HJ.out.js;rw[hC] at xA b3;rw[hC];obtain⟨x1,xD⟩:=Ze (F h' (2*a));rw[xD];have HN:Hid (∀W v' u',JS W s0 v' u' (C++[(h',2*a)]) (dgF F C++[x1])->JS W s0 v' u' (cov 0 ((k+1)*pw h)) (dgF F (cov 0 ((k+1)*pw h)))):=fun W v' u' h0=>by
    rw[yD,dgF,LQ]
    show JS W s0 v' u' (C++[(h',2*a)]) (dgF F C++[F h' (2*a)])
    rw[xD];exact h0
   obtain⟨P,hP⟩:=Ze (dgF F C);have xU:P.length=C.length:=by rw[<-hP];exact LY ..
   rw[hP] at HN xA;obtain⟨kk,xH⟩:∃kk:Nat,2*a=kk:=⟨_,rfl⟩;have xQ:=HJ.out.tw;have yI:=HJ.out.hv;have yH:=HJ.out.hu;have xY:=HJ.out.be;have yE:=HJ.out.hq;rw[xH] at HN xQ hC b4 b2;have HE:Hid (∀W,Bl wr W->JS W s0 v u C P∧Tw W w.heap.size (h':Int) kk∧Below (s0+1) w W):=fun W hW=>⟨xA.next hW,xQ.next hW,xY.trans (hW.mono (by have:=xA.lt;omega))⟩
   have HG:Hid (C.length<=40∧P.length=C.length∧(∀g,v.ownBlock=some g->g<w.heap.size)∧(∀g,u.ownBlock=some g->g≠w.heap.size)∧s0+2<w.heap.size):=⟨b3,xU,yI,yH,yE⟩;have xF:Hid (∀W,Zr 226 #[.agg #[.int .i64 h',.int .u64 kk]] W (.agg #[.int .i64 h',.int .u64 ((sb kk:Nat):Int)])):=fun W=>QbM W h' kk (by omega) _ rfl
   obtain⟨av,nv,cv,rfl⟩:=Cv.Qu xA.ot;obtain⟨au,nu,cu,rfl⟩:=Cv.Qu xA.op;have l1:=Qas xA.ot;have l2:=Qas xA.op;rw[Cv.Ye] at l1;subst l1 l2
   rcases IM C with hnil|⟨C0,⟨x,y⟩,hC0⟩
   ·have yC:¬(0:Int) <= -1:=by decide
    have hm:((C.length:Nat):Int)-1 = -1:=by rw[hnil];rfl
    rw[hm];clear xA xQ yI yH xY yE xH xU hP yD yA hC HJ b1 b2 b3 b4 xF xD hpar
    go_upto_region 2 with (fail)
    refine YB (by kernel_rfl) [11,12,13,14,15,16,17,18,19,20,21] [] [.int .i64 (-1),.bool false,.bool false,undef,undef,undef,undef,undef,undef,undef,.bool false] (by kernel_rfl) rfl (fun j hj=>by cases hj) (fun _ W=>Bl wr W) (fun W _ hb=>hb) ?step ?fin
    case step=>
     refine⟨?_,?_,?_,?_,?_,?_,?_,?_,?_,?_,?_,trivial⟩
     ·intro L Ac Wc K hI hj hcl hsm dep hK;have t7:Ac.tmps.getD 7 undef= .int .i64 (-1):=hsm 7 rfl
      show Oper.wp _ _ Ac Wc K _
      go_simp
      exact hK _ _ (.inr rfl) hI
     ·intro L Ac Wc K hI hj hcl hsm dep hK;have yU:Ac.tmps.getD 11 undef= .int .i64 (-1):=dep 0 rfl
      show Oper.wp _ _ Ac Wc K _
      go_simp
      exact hK _ _ (.inr rfl) hI
     ·intro L Ac Wc K hI hj hcl hsm dep hK;have yV:Ac.tmps.getD 12 undef= .bool false:=dep 1 rfl
      show Oper.wp _ _ Ac Wc K _
      go_simp
      exact hK _ _ (.inr rfl) hI
     ·intro L Ac Wc K hI hj hcl hsm dep hK;refine⟨false,(show Ac.tmps.getD 13 undef= .bool false from dep 2 rfl),?_⟩
      rw[Le (by decide)]
      exact hK _ _ (.inr rfl) hI
     ·intro L Ac Wc K hI hj hcl hsm dep hK;refine⟨false,(show Ac.tmps.getD 13 undef= .bool false from dep 2 rfl),?_⟩
      rw[Le (by decide)]
      exact hK _ _ (.inr rfl) hI
     ·intro L Ac Wc K hI hj hcl hsm dep hK;refine⟨false,(show Ac.tmps.getD 13 undef= .bool false from dep 2 rfl),?_⟩
      rw[Le (by decide)]
      exact hK _ _ (.inr rfl) hI
     ·intro L Ac Wc K hI hj hcl hsm dep hK;refine⟨false,(show Ac.tmps.getD 13 undef= .bool false from dep 2 rfl),?_⟩
      rw[Le (by decide)]
      exact hK _ _ (.inr rfl) hI
     ·intro L Ac Wc K hI hj hcl hsm dep hK;refine⟨false,(show Ac.tmps.getD 13 undef= .bool false from dep 2 rfl),?_⟩
      rw[Le (by decide)]
      exact hK _ _ (.inr rfl) hI
     ·intro L Ac Wc K hI hj hcl hsm dep hK;refine⟨false,(show Ac.tmps.getD 13 undef= .bool false from dep 2 rfl),?_⟩
      rw[Le (by decide)]
      exact hK _ _ (.inr rfl) hI
     ·intro L Ac Wc K hI hj hcl hsm dep hK;refine⟨false,(show Ac.tmps.getD 13 undef= .bool false from dep 2 rfl),?_⟩
      rw[Le (by decide)]
      exact hK _ _ (.inr rfl) hI
     ·intro L Ac Wc K hI hj hcl hsm dep hK;have yW:Ac.tmps.getD 13 undef= .bool false:=dep 2 rfl;have yX:Ac.tmps.getD 20 undef=undef:=dep 9 rfl
      show Oper.wp _ _ Ac Wc K _
      go_simp
      exact hK _ _ (.inr rfl) hI
    case fin=>
     intro L W hall hW;clear hall;simp only[Uk]
     go_simp
     clear hnil hm yC;have xC:J0 W s0 w.heap.size (.slice av C.length cv) (.slice au P.length cu) C P h' kk:=⟨(HE.out W hW).1,(HE.out W hW).2.1,fun g hg=>by have:=HG.out.2.2.1 g hg;omega,HG.out.2.2.2.2,by have:=HG.out.1;omega,by have:=HG.out.1;have:=HG.out.2.1;omega⟩
     have xS:=Qc (HE.out W hW).2.2;clear HE hW
     go_upto_region 7 with (fail)
     refine Uo (by kernel_rfl) (by kernel_rfl) (RF W s0 w.heap.size (.slice av C.length cv) (.slice au P.length cu) C P h' kk x1) (fun Z _ hZ=>QfG xC rfl rfl rfl rfl rfl rfl hZ) ⟨e0 rfl,e1,e2 rfl,e3 xC rfl rfl rfl rfl rfl,e4 rfl,e5,e6 rfl,e7 xC rfl rfl rfl rfl rfl,e8 xC rfl rfl rfl,e9 xC rfl rfl rfl,trivial⟩ ?_
     intro L a7 w7 hall hI;obtain⟨v',u',xA,xX⟩:=QlD hI hall;have HF:Hid ((∃v' u',JS w7 s0 v' u' (cov 0 ((k+1)*pw h)) (dgF F (cov 0 ((k+1)*pw h))))∧Below (s0+1) w w7):=⟨⟨v',u',HN.out _ _ _ xA⟩,xS.out.trans xX⟩;exact bodyPost_end (results_none rfl a7.tmps prog w7) hI.df ⟨rfl,HF.out⟩
   ·rw[List.concat_eq_append] at hC0;have zF:h'<x:=yA (x,y) (by rw[hC0];simp)
    have xL:JS wr s0 (.slice av C.length cv) (.slice au P.length cu) (C0++[(x,y)]) (dgF F C0++[F x y]):=by
     have e:dgF F C0++[F x y]=P:=by rw[<-hP,hC0];show _=List.map _ (C0++[(x,y)]);rw[LQ];rfl
     rw[e,<-hC0];exact xA
    obtain⟨g,yZ,gu,zM,yS,_,_,_,e1,e2,_⟩:=Qhu xL;obtain⟨rfl,yQ,rfl⟩:=IF yS;obtain⟨t,ht⟩:=Ze C0.length;rw[ht] at e1 e2 yQ;have hm:((C.length:Nat):Int)-1=(t:Int):=by omega
    rw[hm];have yT:(0:Int)<=(t:Int):=Lh _;have yF:(t:Int)<((C.length:Nat):Int):=by omega
    have zE:((x:Int) == (h':Int))=false:=beq_false_of_ne (by omega)
    have yK:Hid (∀W,Bl wr W->W.cell? ⟨g,t*2,none⟩=some (.int .i64 x)∧W.cell? ⟨g,t*2+1,none⟩=some (.int .u64 y)):=fun W hW=>
     ⟨(hW.cell (Lo wr _ e1)).trans e1,(hW.cell (Lo wr _ e2)).trans e2⟩
    clear xA xQ yI yH xY yE xH xU hP yD yA hC HJ b1 b2 b3 b4 xD hpar xL yS hC0 e1 e2 ht hm zF yQ
    go_upto_region 2 with (fail)
    refine YB (by kernel_rfl) [11,12,13,14,15,16,17,18,19,20,21] [] [.int .i64 t,.bool true,.bool true,.slice (Zp g) C.length cv,.int .i64 t,.pointer (some ⟨g,t*2,none⟩),.agg #[.int .i64 x,.int .u64 y],.agg #[.int .i64 h',.int .u64 kk],.agg #[.int .i64 h',.int .u64 ((sb kk:Nat):Int)],.bool false,.bool false] (by kernel_rfl) rfl (fun j hj=>by cases hj) (fun _ W=>Bl wr W) (fun W _ hb=>hb) ?step ?fin
    case step=>
     refine⟨?_,?_,?_,?_,?_,?_,?_,?_,?_,?_,?_,trivial⟩
     ·intro L Ac Wc K hI hj hcl hsm dep hK;have t7:Ac.tmps.getD 7 undef= .int .i64 t:=hsm 7 rfl
      show Oper.wp _ _ Ac Wc K _
      go_simp
      exact hK _ _ (.inr rfl) hI
     ·intro L Ac Wc K hI hj hcl hsm dep hK;have yU:Ac.tmps.getD 11 undef= .int .i64 t:=dep 0 rfl
      show Oper.wp _ _ Ac Wc K _
      go_simp
      exact hK _ _ (.inr rfl) hI
     ·intro L Ac Wc K hI hj hcl hsm dep hK;have yV:Ac.tmps.getD 12 undef= .bool true:=dep 1 rfl
      show Oper.wp _ _ Ac Wc K _
      go_simp
      exact hK _ _ (.inr rfl) hI
     ·intro L Ac Wc K hI hj hcl hsm dep hK;have t2:Ac.tmps.getD 2 undef= .pointer (some ⟨s0+1,0,none⟩):=hsm 2 rfl;refine⟨true,(show Ac.tmps.getD 13 undef= .bool true from dep 2 rfl),?_⟩
      rw[Lf rfl];obtain⟨j,jt,jb⟩:=HE.out Wc hI;have c1:=cell_of_one j.ct
      go_simp
      exact hK _ _ (.inr rfl) hI
     ·intro L Ac Wc K hI hj hcl hsm dep hK;have t7:Ac.tmps.getD 7 undef= .int .i64 t:=hsm 7 rfl;refine⟨true,(show Ac.tmps.getD 13 undef= .bool true from dep 2 rfl),?_⟩
      rw[Lf rfl]
      go_simp
      exact hK _ _ (.inr rfl) hI
     ·intro L Ac Wc K hI hj hcl hsm dep hK;have zG:Ac.tmps.getD 14 undef= .slice (Zp g) C.length cv:=dep 3 rfl;have zH:Ac.tmps.getD 15 undef= .int .i64 t:=dep 4 rfl;refine⟨true,(show Ac.tmps.getD 13 undef= .bool true from dep 2 rfl),?_⟩
      rw[Lf rfl]
      go_simp
      exact hK _ _ (.inr rfl) hI
     ·intro L Ac Wc K hI hj hcl hsm dep hK;have zI:Ac.tmps.getD 16 undef= .pointer (some ⟨g,t*2,none⟩):=dep 5 rfl;refine⟨true,(show Ac.tmps.getD 13 undef= .bool true from dep 2 rfl),?_⟩
      rw[Lf rfl];obtain⟨e1,e2⟩:=yK.out Wc hI
      go_simp
      exact hK _ _ (.inr rfl) hI
     ·intro L Ac Wc K hI hj hcl hsm dep hK;have t5:Ac.tmps.getD 5 undef=Pq w.heap.size:=hsm 5 rfl;refine⟨true,(show Ac.tmps.getD 13 undef= .bool true from dep 2 rfl),?_⟩
      rw[Lf rfl];obtain⟨j,jt,jb⟩:=HE.out Wc hI;obtain⟨c1,c2⟩:=jt.cells
      go_simp
      exact hK _ _ (.inr rfl) hI
     ·intro L Ac Wc K hI hj hcl hsm dep hK;have zK:Ac.tmps.getD 18 undef= .agg #[.int .i64 h',.int .u64 kk]:=dep 7 rfl;refine⟨true,(show Ac.tmps.getD 13 undef= .bool true from dep 2 rfl),?_⟩
      rw[Lf rfl]
      go_simp
      refine(xF.out Wc).mono ?_
      rintro e w' ⟨rfl,xV⟩;exact hK _ _ (.inr rfl) (Qa hI xV)
     ·intro L Ac Wc K hI hj hcl hsm dep hK;have zJ:Ac.tmps.getD 17 undef= .agg #[.int .i64 x,.int .u64 y]:=dep 6 rfl;have zL:Ac.tmps.getD 19 undef= .agg #[.int .i64 h',.int .u64 ((sb kk:Nat):Int)]:=dep 8 rfl;refine⟨true,(show Ac.tmps.getD 13 undef= .bool true from dep 2 rfl),?_⟩
      rw[Lf rfl]
      go_simp
      exact hK _ _ (.inr rfl) hI
     ·intro L Ac Wc K hI hj hcl hsm dep hK;have yW:Ac.tmps.getD 13 undef= .bool true:=dep 2 rfl;have yX:Ac.tmps.getD 20 undef= .bool false:=dep 9 rfl
      show Oper.wp _ _ Ac Wc K _
      go_simp
      exact hK _ _ (.inr rfl) hI
    case fin=>
     intro L W hall hW;clear hall;simp only[Uk]
     go_simp
     clear yT yF zE yK xF;have xC:J0 W s0 w.heap.size (.slice (Zp g) C.length cv) (.slice au P.length cu) C P h' kk:=⟨(HE.out W hW).1,(HE.out W hW).2.1,fun g hg=>by have:=HG.out.2.2.1 g hg;omega,HG.out.2.2.2.2,by have:=HG.out.1;omega,by have:=HG.out.1;have:=HG.out.2.1;omega⟩
     have xS:=Qc (HE.out W hW).2.2;clear HE hW
     go_upto_region 7 with (fail)
     refine Uo (by kernel_rfl) (by kernel_rfl) (RF W s0 w.heap.size (.slice (Zp g) C.length cv) (.slice au P.length cu) C P h' kk x1) (fun Z _ hZ=>QfG xC rfl rfl rfl rfl rfl rfl hZ) ⟨e0 rfl,e1,e2 rfl,e3 xC rfl rfl rfl rfl rfl,e4 rfl,e5,e6 rfl,e7 xC rfl rfl rfl rfl rfl,e8 xC rfl rfl rfl,e9 xC rfl rfl rfl,trivial⟩ ?_
     intro L a7 w7 hall hI;obtain⟨v',u',xA,xX⟩:=QlD hI hall;have HF:Hid ((∃v' u',JS w7 s0 v' u' (cov 0 ((k+1)*pw h)) (dgF F (cov 0 ((k+1)*pw h))))∧Below (s0+1) w w7):=⟨⟨v',u',HN.out _ _ _ xA⟩,xS.out.trans xX⟩;exact bodyPost_end (results_none rfl a7.tmps prog w7) hI.df ⟨rfl,HF.out⟩
end
section
open Cv (RdC zl cU cov Row)
open Pl (pw)
theorem QoH(L:List (Nat×Nat))(j:Nat):(zl L).getD j (0,0)=(((L.getD j (0,0)).1:Int),(L.getD j (0,0)).2):=by
 unfold zl;rw[Ld,Ld,No]
 cases L[j]? <;> rfl
theorem Qiz{α:Type}(d:α){L:List α}{j:Nat}(hj:j<L.length):L.drop j=L.getD j d::L.drop (j+1):=by
 rw[LX hj,Ld,Lk hj];rfl
theorem QkM(w:World)(o:Obj):JS (((w.alloc o).alloc (.cells #[.slice none 0 0] 187)).alloc (.cells #[.slice none 0 0] 22)) w.heap.size (.slice none 0 0) (.slice none 0 0) [] []:=by
 refine⟨?_,?_,Np _ _ _ _,Ug _ _⟩
 ·have h1:=LC (w.alloc o) (.cells #[.slice none 0 0] 187);rw[Ng] at h1;exact(Cv.Yg _ (by simp)).trans h1
 ·have h1:=LC ((w.alloc o).alloc (.cells #[.slice none 0 0] 187)) (.cells #[.slice none 0 0] 22);rw[Ng,Ng] at h1;exact h1
theorem Qgv(w:World)(ht:Tb w)(kd K:Int)(old size:Nat)(sa:OA)(ns sc:Nat)(da:OA)(db dO dc:Nat)(D:LB)(hr:RdS w da db dO D.length D)(ao:OA)(g cap n:Nat)(L:List (Nat×Nat))(hB:RdB w ao g 0 L.length (zl L))(hrow:Row n 0 L)(hn:n<=2^40)(hl:D.length=L.length)(hm:L.length<=1000)(F:Nat->Nat->BA)(hJ:Jn (clk K) L D F) :
  Ro 139 #[.slice ao L.length cap,vP kd K old size (.slice sa ns sc) (.slice da D.length dc)] w (dgF F (cov 0 n)):=by
 obtain⟨o1,xT⟩:=Ze (oP kd K old size (.slice sa ns sc) (.slice da D.length dc));have xS:=QkM w o1;have xN:Bl w (((w.alloc o1).alloc (.cells #[.slice none 0 0] 187)).alloc (.cells #[.slice none 0 0] 22)):=bal (bal (bal (Lb _ _) _) _) _;have h6:Six (((w.alloc o1).alloc (.cells #[.slice none 0 0] 187)).alloc (.cells #[.slice none 0 0] 22)) w.heap.size (.int .i64 kd) (.int .i64 K) (.int .u64 old) (.int .u64 size) (.slice sa ns sc) (.slice da D.length dc):=by
  rw[<-xT];exact(UO w _ _ _ _ _ _).next (bal (bal (Lb _ _) _) _)
 obtain⟨W0,xD⟩:=Ze (((w.alloc o1).alloc (.cells #[.slice none 0 0] 187)).alloc (.cells #[.slice none 0 0] 22));rw[xD] at xS xN h6;have HX:Hid (∀Z,Below (w.heap.size+1) W0 Z->Bl w Z∧Tb Z∧RdS Z da db dO D.length D∧RdB Z ao g 0 L.length (zl L)∧Six Z w.heap.size (.int .i64 kd) (.int .i64 K) (.int .u64 old) (.int .u64 size) (.slice sa ns sc) (.slice da D.length dc)):=fun Z hZ=>by
  have h1:Bl w Z:=xN.trans (hZ.mono (by omega))
  exact⟨h1,ht.next h1,hr.next h1 (La _),hB.below h1,h6.same (hZ.block _ (by omega))⟩
 have HR:Hid (Row n 0 L∧n<=2^40∧D.length=L.length∧L.length<=1000∧Jn (clk K) L D F):=⟨hrow,hn,hl,hm,hJ⟩;have xU:=Qc xS;have yG:(L.length:Int)<=1000:=by omega
 have xL:=xD;rw[<-xT] at xD;unfold oP at xD;clear ht hr hB hrow hn hl hm hJ xS xN h6 xT xL;unfold vP
 go_enter func139,ntmps139;go_wp2
 go_loopg [13] L.length (fun gg i wr=> ∃(j e:Nat) (v u:Value),j<=L.length∧gg=L.length-j∧i= .int .i64 j∧Hid (Row n e (L.drop j)∧JS wr w.heap.size v u (cov 0 e) (dgF F (cov 0 e))∧Below (w.heap.size+1) W0 wr))
 case atStart=>
  go_light
  try rw[xD]
  refine⟨0,0,.slice none 0 0,.slice none 0 0,Ln _,rfl,rfl,HR.out.1,?_,Lb _ _⟩
  rw[Qkc];exact xU.out
 case round=>
  obtain⟨j,e,v,u,hj,rfl,rfl,HI⟩:=hrel;clear xU;obtain⟨xO,yA,xK,xJ,xB⟩:=HX.out wr HI.out.2.2
  by_cases hlt:j<L.length
  ·have hz:(j:Int)<(L.length:Int):=by omega
   have yH:(0:Int)<=(j:Int):=Lh _;have xQ:=Qiz (0,0) hlt;have xR:=QkW hlt;obtain⟨⟨h,k⟩,xI⟩:∃b,L.getD j (0,0)=b:=⟨_,rfl⟩;rw[xI] at xQ xR;have xZ:=HI.out.1;rw[xQ] at xZ;obtain⟨r1,r2,r3,r4⟩:=xZ
   dsimp only at r1 r2 r3 r4
   have r5:=Qeu r4;obtain rfl:=xJ.addr (by omega)
   obtain⟨c0,c1⟩:=xJ.cell j hlt;rw[QoH,xI] at c0 c1
   dsimp only at c0 c1
   rw[Ll] at c0 c1;have xF:j<D.length:=by have:=HR.out.2.2.1;omega
   obtain rfl:=xK.ptr (by omega)
   have d0:=xK.at xF;obtain⟨d,hd⟩:=Ze (D.getD j ByteArray.empty);rw[hd] at d0;have xV:F h k=d:=by
    have:=HR.out.2.2.2.2.at' j hlt;rw[xI] at this;rw[<-hd];exact this
   have xA:=HI.out.2.1;rw[r1] at xA;have yE:(j:Int)<(D.length:Int):=by omega
   have p5:=xB.cells.2.2.2.2.2;have t1:=QcE wr 0 0;have xG:=bal (Lb wr.heap.size wr) (.cells #[.int .i64 0,.int .u64 ((0:Nat):Int)] 249);rw[show((0:Nat):Int)=0 from rfl] at xG
   have xC:Tw (wr.alloc (.cells #[.int .i64 0,.int .u64 0] 249)) wr.heap.size 0 0:=t1;obtain⟨W1,xW⟩:=Ze (wr.alloc (.cells #[.int .i64 0,.int .u64 0] 249));rw[xW] at xC xG;obtain⟨q0,q1⟩:=xC.cells;have f0:=xC.fz 0;have f1:=xC.fz 1;have t2:=xC.put (h:Int) k;have xP:=QbD W1 wr.heap.size (h:Int) k;obtain⟨W2,xM⟩:=Ze (putB W1 wr.heap.size (h:Int) k);rw[xM] at t2 xP;have xH:Bl wr W2:=xG.trans (xP.below (by rintro b rfl;exact La _))
   have yF:w.heap.size+2<wr.heap.size:=xA.lt;have HS:Hid (∀Z,Bl W2 Z->Z.cell? ⟨wr.heap.size,0,none⟩=some (.int .i64 h)∧Z.cell? ⟨wr.heap.size,1,none⟩=some (.int .u64 k)∧Z.cell? ⟨w.heap.size,5,none⟩=some (.slice (some ⟨db,dO,none⟩) D.length dc)∧Z.cell? ⟨db,dO+j,none⟩=some (.string d)):=fun Z hZ=>by
    have h1:=Qa xH hZ;have h2:=HX.out Z (HI.out.2.2.trans (h1.mono (by omega)))
    refine⟨(t2.next hZ).cells.1,(t2.next hZ).cells.2,h2.2.2.2.2.cells.2.2.2.2.2,?_⟩
    rw[<-hd];exact h2.2.2.1.at xF
   have HC:Hid (∀Z,Bl W2 Z->Calls prog 225 #[.agg #[.int .i64 h,.int .u64 k],.string d,.pointer (some ⟨w.heap.size+1,0,none⟩),Pq w.heap.size,.pointer (some ⟨w.heap.size+1+1,0,none⟩)] Z fun e w'=>e= .returned (.tuple #[])∧(∃v' u',JS w' w.heap.size v' u' (cov 0 ((k+1)*pw h)) (dgF F (cov 0 ((k+1)*pw h))))∧Below (w.heap.size+1) Z w'):=fun Z hZ=>by
    have h1:=Qa xH hZ;have h2:Below (w.heap.size+1) W0 Z:=HI.out.2.2.trans (h1.mono (by omega))
    exact Qb8 Z w.heap.size K F h k v u (xA.next h1) (Lr r5 HR.out.2.1) (fun Y hY=>(HX.out Y (h2.trans hY)).2.1) (HX.out Z h2).2.2.2.2.cells.2.1 (fun h' q a1 a2=>HR.out.2.2.2.2.join HR.out.1 xR a1 a2) HR.out.2.2.2.2.sz d xV
   have HF:Hid (Row n ((k+1)*pw h) (L.drop (j+1))∧(∀Z Y,Bl W2 Z->Below (w.heap.size+1) Z Y->Below (w.heap.size+1) W0 Y)):=⟨r4,fun Z Y h1 h2=>(HI.out.2.2.trans ((Qa xH h1).mono (by omega))).trans h2⟩
   have yC:=Lb W2.heap.size W2;unfold putB at xM;clear xO yA xK xJ xB xQ xR xI r1 r2 r3 r4 r5 xV xA hd t1 xC t2 xP xG xH HI
   go_upto_region 7 with (fail)
   refine YB (by kernel_rfl) [18,19,20,21,22,23,24,25] [] [Value.func (Fn.func 225) #[] #[.pointer (some ⟨w.heap.size+1,0,none⟩),Pq w.heap.size,.pointer (some ⟨w.heap.size+1+1,0,none⟩)],.agg #[.int .i64 h,.int .u64 k],.pointer (some ⟨w.heap.size,5,none⟩),.slice (some ⟨db,dO,none⟩) D.length dc,.int .i64 j,.pointer (some ⟨db,dO+j,none⟩),.string d,.tuple #[]] (by kernel_rfl) rfl (fun j hj=>by cases hj) (fun L Z=>(L 7=false->Bl W2 Z)∧(L 7=true->(∃v' u',JS Z w.heap.size v' u' (cov 0 ((k+1)*pw h)) (dgF F (cov 0 ((k+1)*pw h))))∧Below (w.heap.size+1) W0 Z)) (fun Z _ hb=>⟨fun _=>hb,fun h=>by cases h⟩) ?step ?fin
   case step=>
    refine⟨?_,?_,?_,?_,?_,?_,?_,?_,trivial⟩
    ·intro L Ac Wc K hI hj hcl hsm dep hK;have t7:Ac.tmps.getD 7 undef=Value.func (Fn.func 225) #[] #[.pointer (some ⟨w.heap.size+1,0,none⟩),Pq w.heap.size,.pointer (some ⟨w.heap.size+1+1,0,none⟩)]:=hsm 7 rfl
     show Oper.wp _ _ Ac Wc K _
     go_simp
     exact hK _ _ (.inr rfl) hI
    ·intro L Ac Wc K hI hj hcl hsm dep hK;have t9:Ac.tmps.getD 9 undef=Pq wr.heap.size:=hsm 9 rfl
     show Oper.wp _ _ Ac Wc K _
     have hL:L 7=false:=by
      cases h:L 7 with
      | false=>rfl
      | true=>rw[hcl 7 1 h rfl] at hj;cases hj
     obtain⟨k1,k2,k3,k4⟩:=HS.out Wc (hI.1 hL)
     go_simp
     exact hK _ _ (.inr rfl) hI
    ·intro L Ac Wc K hI hj hcl hsm dep hK;have t3:Ac.tmps.getD 3 undef=Pq w.heap.size:=hsm 3 rfl
     show Oper.wp _ _ Ac Wc K _
     go_simp
     exact hK _ _ (.inr rfl) hI
    ·intro L Ac Wc K hI hj hcl hsm dep hK;have yK:Ac.tmps.getD 20 undef= .pointer (some ⟨w.heap.size,5,none⟩):=dep 2 rfl
     show Oper.wp _ _ Ac Wc K _
     have hL:L 7=false:=by
      cases h:L 7 with
      | false=>rfl
      | true=>rw[hcl 5 3 (hcl 6 5 (hcl 7 6 h rfl) rfl) rfl] at hj;cases hj
     obtain⟨k1,k2,k3,k4⟩:=HS.out Wc (hI.1 hL)
     go_simp
     exact hK _ _ (.inr rfl) hI
    ·intro L Ac Wc K hI hj hcl hsm dep hK;have t8:Ac.tmps.getD 8 undef= .int .i64 j:=hsm 8 rfl
     show Oper.wp _ _ Ac Wc K _
     go_simp
     exact hK _ _ (.inr rfl) hI
    ·intro L Ac Wc K hI hj hcl hsm dep hK;have yL:Ac.tmps.getD 21 undef= .slice (some ⟨db,dO,none⟩) D.length dc:=dep 3 rfl;have yM:Ac.tmps.getD 22 undef= .int .i64 j:=dep 4 rfl
     show Oper.wp _ _ Ac Wc K _
     go_simp
     exact hK _ _ (.inr rfl) hI
    ·intro L Ac Wc K hI hj hcl hsm dep hK;have yN:Ac.tmps.getD 23 undef= .pointer (some ⟨db,dO+j,none⟩):=dep 5 rfl
     show Oper.wp _ _ Ac Wc K _
     have hL:L 7=false:=by
      cases h:L 7 with
      | false=>rfl
      | true=>rw[hcl 7 6 h rfl] at hj;cases hj
     obtain⟨k1,k2,k3,k4⟩:=HS.out Wc (hI.1 hL)
     go_simp
     exact hK _ _ (.inr rfl) hI
    ·intro L Ac Wc K hI hj hcl hsm dep hK;have yI:Ac.tmps.getD 18 undef=Value.func (Fn.func 225) #[] #[.pointer (some ⟨w.heap.size+1,0,none⟩),Pq w.heap.size,.pointer (some ⟨w.heap.size+1+1,0,none⟩)]:=dep 0 rfl;have yJ:Ac.tmps.getD 19 undef= .agg #[.int .i64 h,.int .u64 k]:=dep 1 rfl;have yO:Ac.tmps.getD 24 undef= .string d:=dep 6 rfl
     show Oper.wp _ _ Ac Wc K _
     go_simp
     refine(HC.out Wc (hI.1 hj)).mono ?_
     rintro e w' ⟨rfl,yD,yB⟩;exact hK _ _ (.inr rfl) ⟨fun h=>by simp at h,fun _=>⟨yD,HF.out.2 _ _ (hI.1 hj) yB⟩⟩
   case fin=>
    intro L7 W7 hall hI;obtain⟨⟨v7,u7,xY⟩,xX⟩:=hI.2 (hall 7 (by decide))
    have HY:Hid (JS W7 w.heap.size v7 u7 (cov 0 ((k+1)*pw h)) (dgF F (cov 0 ((k+1)*pw h)))∧Below (w.heap.size+1) W0 W7):=⟨xY,xX⟩;clear hall hI xY xX HC HS q0 q1 f0 f1 xW xM yC c0 c1 d0 p5;simp only[Uk]
    go_simp
    go_wp2
    go_roundg (L.length-(j+1))
    case rel=>go_light;exact⟨j+1,_,v7,u7,by omega,rfl,by go_num,HF.out.1,HY.out.1,HY.out.2⟩
    case measure=>go_light;omega
  ·obtain rfl:j=L.length:=by omega
   have hz:¬((L.length:Int)<(L.length:Int)):=by omega
   have xE:=HI.out.1;rw[IN] at xE;have xE:e=n:=xE;have xA:=HI.out.2.1;rw[xE] at xA;obtain⟨ua,un,uc,rfl⟩:=Cv.Qu xA.op;have c2:=cell_of_one xA.cp;have HY:Hid (Qh wr w.heap.size (.slice ua un uc) (dgF F (cov 0 n))∧Bl w wr):=⟨World.ownsRow.mono xA.op (by omega),xO⟩
   clear xK xJ xB yA xO xA xE HI hlt;go_wp2
   go_ret
   exact⟨_,rfl,HY.out.1,HY.out.2⟩
end
section
open Cv (RdC zl cU cov)
open Pl (pw)
variable{l:List (Int×Nat)}
def kOld(c old:Nat)(D:LB):BA:=dg c (UD old (Q4 c (D.take (cov 0 old).length)))
def kNow(c size:Nat)(F:Nat->Nat->BA):BA:=dg c (UD size (Q4 c (dgF F (cov 0 size))))
theorem Qi6{w W:World}{ao:OA}{g n:Nat}(r:RdB w ao g 0 n l)(h:0<n->W.heap[g]? = w.heap[g]?):RdB W ao g 0 n l :=
 ⟨r.len,r.addr,fun j hj=>⟨(LE (h (by omega))).trans (r.cell j hj).1,(LE (h (by omega))).trans (r.cell j hj).2⟩,r.fit⟩
theorem QpQ{w:World}{ao:OA}{g n q m:Nat}{d:BA}(r:RdB w ao g 0 n l)(h0:0<n)(hq:Rh w q m d)(e:g=q):False:=by
 subst e;have h1:=(r.cell 0 h0).1;rw[Wm,Ll,hq.cells.1] at h1
 cases h1
theorem kroots_ok (w:World) (ht:Tb w) (k:Int) (old size:Nat) (sa:OA) (sc:Nat) (da:OA) (db dO dc:Nat) (D:LB) (hr:RdS w da db dO D.length D) (hdc:D.length<=dc) (hok:okK 3 k old size 0 D) (F:Nat->Nat->BA) (hJ:Jn (clk k) (kb old size) D F) (r1 r2:BA) (hr1:kOld (clk k) old D=r1) (hr2:kNow (clk k) size F=r2) :
    Zr 80 #[vP 3 k old size (.slice sa 0 sc) (.slice da D.length dc)] w (.tuple #[.agg #[.int .u64 old,.string r1],.agg #[.int .u64 size,.string r2],.int .i64 0]):=by
  obtain⟨W0,hW0⟩:=Ze (((w.alloc (.cells #[.int .i64 3,.int .i64 k,.int .u64 old,.int .u64 size,.slice sa 0 sc,.slice da D.length dc] 138)).alloc (.cells #[.int .u64 0,.string ⟨#[]⟩] 50)).alloc (.cells #[.int .u64 0,.string ⟨#[]⟩] 50));obtain⟨h3,hb⟩:=QkN w 3 k old size (.slice sa 0 sc) (.slice da D.length dc) hW0;obtain⟨c0,c1,c2,c3,c4,c5⟩:=h3.six.cells;have H3:=Qc h3;obtain⟨h1,h2⟩:=hok;have hos:old<=size:=h1.2.2.1;have hs40:size<=2^40:=h1.2.1;have hkk:1<=k∧k<=32:=h1.1.2;have hfl:D.length=(kb old size).length:=h2.1;have hfs:∀d∈D,(d.size:Int)=k:=h2.2;have hkl:=Qgw hos hs40;have hmm:D.length<=8796093022208:=by omega
  have hon:(cov 0 old).length<=D.length:=by rw[hfl,kb,Lc];omega
  have ho1:=Cv.O6 old (by omega)
  obtain⟨t,htl⟩:=Ze ((cov 0 old).length);rw[htl] at ho1 hon;have HI:Hid (∀W,Zr 136 #[vP 3 k old size (.slice sa 0 sc) (.slice da D.length dc)] W (.bool true)):=fun W=>QkJ W 3 k old size sa 0 sc da D.length dc true (LW h1)
  have HBk:Hid (∀W,Calls prog 133 #[.int .u64 old,.int .u64 size] W fun e w'=> ∃ao g cap,e= .returned (.slice ao (kb old size).length cap)∧RdB w' ao g 0 (kb old size).length (zl (kb old size))∧Bl W w'):=fun W=>(O2 W old size hos hs40).mono fun e w' ⟨v,e1,e2,e3⟩=>by
    obtain⟨ao,g,n',cap,rfl,hr',_⟩:=Qef e2 (fun x hx=>by
      obtain⟨b0,hb0,rfl⟩:=List.mem_map.1 hx;exact(QoL (QoN hos hs40 b0 hb0) hs40).1)
    have hl:=hr'.len;rw[Cv.Ye] at hl;subst hl;exact⟨ao,g,cap,e1,hr',e3⟩
  have HF:Hid (∀W ao c,Bl w W->Zr 137 #[.slice ao (kb old size).length c,vP 3 k old size (.slice sa 0 sc) (.slice da D.length dc)] W (.bool true)):=fun W ao c hb=>QdV W 3 k old size sa 0 sc da db dO dc D (hr.next hb (La _)) hmm ao (kb old size).length c true (LW h2)
  have HO:Hid (∀W,Rf 138 #[.int .u64 old] W (.int .i64 t)):=fun W=>by
    have:=Pl.Jb old W (by omega)
    rw[<-ho1] at this;exact this.mono fun _ _ h=>⟨h.1,h.2.symm⟩
  have HR1:Hr w 107 #[.int .i64 k,.int .u64 old,.slice da t dc] (.string r1):=fun W hb=>by
    have hrd:=Qlz (hr.next hb (La _)) hon;rw[Lx,IT hon] at hrd;exact Qcu W (ht.next hb) k old da db dO t dc (D.take t) hrd (fun s hs=>by have:=hfs s (Nq hs);omega) (by omega) r1 (by rw[<-hr1,kOld,htl])
  have HJd:Hid (∀W ao g cap,Bl w W->RdB W ao g 0 (kb old size).length (zl (kb old size))->Calls prog 139 #[.slice ao (kb old size).length cap,vP 3 k old size (.slice sa 0 sc) (.slice da D.length dc)] W fun e w'=> ∃ap bp cp,e= .returned (.slice ap (cov 0 size).length cp)∧RdS w' ap bp 0 (cov 0 size).length (dgF F (cov 0 size))∧Bl W w'):=fun W ao g cap hb hB=>by
    refine(Qgv W (ht.next hb) 3 k old size sa 0 sc da db dO dc D (hr.next hb (La _)) ao g cap size (kb old size) hB (QkO hos hs40) hs40 hfl (by omega) F hJ).mono fun e w' ⟨v,e1,e2,e3⟩=> ?_
    obtain⟨aP,bP,cP,rfl,rP,_,_⟩:=Ya e2 (fun s hs=>by
      obtain⟨b,_,rfl⟩:=List.mem_map.1 hs;have:=hJ.sz b.1 b.2;omega)
    rw[LY] at e1 rP;exact⟨aP,bP,cP,e1,rP,e3⟩
  have hsl:=Cv.UW size hs40;have HR2:Hid (∀W ap bp cp,Bl w W->RdS W ap bp 0 (cov 0 size).length (dgF F (cov 0 size))->Zr 107 #[.int .i64 k,.int .u64 size,.slice ap (cov 0 size).length cp] W (.string r2)):=fun W ap bp cp hb hR=>Qcu W (ht.next hb) k size ap bp 0 (cov 0 size).length cp (dgF F (cov 0 size)) hR (fun s hs=>by
                                obtain⟨b,_,rfl⟩:=List.mem_map.1 hs;have:=hJ.sz b.1 b.2;omega) (by omega) r2 (by rw[<-hr2,kNow])
  have htz:(t:Int)<=(D.length:Int):=by omega
  have htc:(t:Int)<=(dc:Int):=by omega
  have ht0:(0:Int)<=(t:Int):=Lh _;obtain⟨lb,hlb⟩:=Ze ((kb old size).length);obtain⟨zb,hzb⟩:=Ze (zl (kb old size));obtain⟨ls,hls⟩:=Ze ((cov 0 size).length);obtain⟨P,hP⟩:=Ze (dgF F (cov 0 size));rw[hlb,hzb] at HBk HJd;rw[hlb] at HF;rw[hls,hP] at HJd HR2;clear ht hr hdc h1 h2 hos hs40 hkk hfl hfs hkl hmm hon ho1 htl hJ hr1 hr2 hsl h3 hlb hzb hls hP;unfold vP at HI HF HJd;unfold vP
  go_enter func80,ntmps80
  go_upto_region 6 with (first
    | (go_at_call 136;with_reducible refine(HI.out _).mono ?_;rintro e w1 ⟨rfl,hb1⟩;obtain⟨d0,d1,d2,d3,d4,d5⟩:=(H3.out.next hb1).six.cells)
    | (go_at_call 133;with_reducible refine(HBk.out _).mono ?_;rintro e w2 ⟨ao,g,cap,rfl,hB2,hb2⟩;obtain⟨g0,g1,g2,g3,g4,g5⟩:=(H3.out.next (Qa hb1 hb2)).six.cells)
    | (go_at_call 137;with_reducible refine(HF.out _ _ _ (Qa (Qa hb hb1) hb2)).mono ?_;rintro e w3 ⟨rfl,hb3⟩))
  have hK3:=H3.out.next (Qa (Qa hb1 hb2) hb3);have hB3:=hB2.below hb3;have hbw:=Qa (Qa (Qa hb hb1) hb2) hb3;have HK:Hid (∀Z,Bl w3 Z->Bl w Z∧K3 Z w.heap.size 3 k old size (.slice sa 0 sc) (.slice da D.length dc) 0 ⟨#[]⟩ 0 ⟨#[]⟩∧RdB Z ao g 0 lb zb):=fun Z hZ=>⟨Qa hbw hZ,hK3.next hZ,hB3.below hZ⟩
  have hb0:=Lb w3.heap.size w3;clear H3 HI HBk HF hb hb1 hb2 hb3 hW0 c0 c1 c2 c3 c4 c5 d0 d1 d2 d3 d4 d5 g0 g1 g2 g3 g4 g5 hB2 hK3 hB3 hbw;have HC:Hid (∀Z,Bl w3 Z->Z.cell? ⟨w.heap.size,5,none⟩=some (.slice da D.length dc)∧Z.cell? ⟨w.heap.size,2,none⟩=some (.int .u64 old)):=fun Z hZ=>by
    obtain⟨_,_,x2,_,_,x5⟩:=(HK.out Z hZ).2.1.six.cells;exact⟨x5,x2⟩
  go_region_held3 (fun Z=>Z.cell? ⟨w.heap.size,5,none⟩=some (.slice da D.length dc)∧Z.cell? ⟨w.heap.size,2,none⟩=some (.int .u64 old))
    (exact HC.out _ (by first|exact hb0|exact hb0.drew)) (first
    | (go_at_call 138;with_reducible refine(HO.out _).mono ?_;rintro e w4 ⟨rfl,rfl⟩))
  have hb7:=hb0.drew;obtain⟨W7,hW7⟩:=Ze w3.drew;rw[hW7] at hb7 ⊢;have HK7:Hid (∀Z,Bl W7 Z->Bl w Z∧K3 Z w.heap.size 3 k old size (.slice sa 0 sc) (.slice da D.length dc) 0 ⟨#[]⟩ 0 ⟨#[]⟩∧RdB Z ao g 0 lb zb):=fun Z hZ=>HK.out Z (Qa hb7 hZ)
  clear hW7 hb7 HK HC hb0;have HC7:Hid (∀Z,Bl W7 Z->Z.cell? ⟨w.heap.size,1,none⟩=some (.int .i64 k)∧Z.cell? ⟨w.heap.size,2,none⟩=some (.int .u64 old)):=fun Z hZ=>by
    obtain⟨_,x1,x2,_,_,x5⟩:=(HK7.out Z hZ).2.1.six.cells;exact⟨x1,x2⟩
  have HP7:Hid (∀Z a b,Bl W7 Z->((Z.setCell ⟨w.heap.size+1,0,none⟩ a).setCell ⟨w.heap.size+1,1,none⟩ b).cell? ⟨w.heap.size,1,none⟩=some (.int .i64 k)∧((Z.setCell ⟨w.heap.size+1,0,none⟩ a).setCell ⟨w.heap.size+1,1,none⟩ b).cell? ⟨w.heap.size,2,none⟩=some (.int .u64 old)):=fun Z a b hZ=>by
    obtain⟨x1,x2⟩:=HC7.out Z hZ;exact⟨(Lt _ _ _ _ (by simp)).trans ((Lt _ _ _ _ (by simp)).trans x1),(Lt _ _ _ _ (by simp)).trans ((Lt _ _ _ _ (by simp)).trans x2)⟩
  have hb0:=Lb W7.heap.size W7
  go_upto_region 7 with (fail)
  go_region_held3 (fun Z=>Z.cell? ⟨w.heap.size,1,none⟩=some (.int .i64 k)∧Z.cell? ⟨w.heap.size,2,none⟩=some (.int .u64 old))
    (first|exact HC7.out _ (by first|exact hb0|exact hb0.drew|exact hb8)|exact HP7.out _ _ _ (by first|exact hb0|exact hb0.drew|exact hb8)) (first
    | (go_at_call 107;with_reducible refine(HR1.out _ (HK7.out _ (by first|exact hb0.drew|exact hb0)).1).mono ?_;rintro e w8 ⟨rfl,hb8'⟩
       have hb8:Bl W7 w8:=by first|exact Qa hb0.drew hb8'|exact Qa hb0 hb8'
       have hK8:=HK7.out w8 hb8;obtain⟨k0,k1⟩:=hK8.2.1.r1.cells;have f0:=hK8.2.1.r1.fz))
  all_goals
    have hK9:=hK8.2.1.put1 old r1;have hc9:=Og w8 (w.heap.size+1) old r1;obtain⟨W9,hW9⟩:=Ze (putR w8 (w.heap.size+1) old r1);rw[hW9] at hK9 hc9;unfold putR at hW9;rw[hW9];have hb9:Bl w W9:=hK8.1.trans (hc9.below (by rintro b rfl;omega))
    have hB9:RdB W9 ao g 0 lb zb:=Qi6 hK8.2.2 (fun h0=>hc9.block g (by
      intro e;exact QpQ hK8.2.2 h0 hK8.2.1.r1 e))
    have HK9:Hid (∀Z,Bl W9 Z->Bl w Z∧K3 Z w.heap.size 3 k old size (.slice sa 0 sc) (.slice da D.length dc) old r1 0 ⟨#[]⟩∧RdB Z ao g 0 lb zb):=fun Z hZ=>⟨Qa hb9 hZ,hK9.next hZ,hB9.below hZ⟩
    clear hK9 hc9 hW9 hb9 hB9 HK7 HC7 HP7 hb0 hb8 hb8' hK8 k0 k1 f0 HR1;have HC9:Hid (∀Z,Bl W9 Z->Z.cell? ⟨w.heap.size,0,none⟩=some (.int .i64 3)∧Z.cell? ⟨w.heap.size,1,none⟩=some (.int .i64 k)∧Z.cell? ⟨w.heap.size,2,none⟩=some (.int .u64 old)∧Z.cell? ⟨w.heap.size,3,none⟩=some (.int .u64 size)∧Z.cell? ⟨w.heap.size,4,none⟩=some (.slice sa 0 sc)∧Z.cell? ⟨w.heap.size,5,none⟩=some (.slice da D.length dc)):=fun Z hZ=>(HK9.out Z hZ).2.1.six.cells
    have HP9:Hid (∀Y a b,Bl W9 Y -> ∀Z,(Y.setCell ⟨w.heap.size+1+1,0,none⟩ a).setCell ⟨w.heap.size+1+1,1,none⟩ b=Z->Z.cell? ⟨w.heap.size,0,none⟩=some (.int .i64 3)∧Z.cell? ⟨w.heap.size,1,none⟩=some (.int .i64 k)∧Z.cell? ⟨w.heap.size,2,none⟩=some (.int .u64 old)∧Z.cell? ⟨w.heap.size,3,none⟩=some (.int .u64 size)∧Z.cell? ⟨w.heap.size,4,none⟩=some (.slice sa 0 sc)∧Z.cell? ⟨w.heap.size,5,none⟩=some (.slice da D.length dc)):=fun Y a b hY Z hZ=>by
      subst hZ;obtain⟨x0,x1,x2,x3,x4,x5⟩:=HC9.out Y hY;exact⟨(Lt _ _ _ _ (by simp)).trans ((Lt _ _ _ _ (by simp)).trans x0),(Lt _ _ _ _ (by simp)).trans ((Lt _ _ _ _ (by simp)).trans x1),(Lt _ _ _ _ (by simp)).trans ((Lt _ _ _ _ (by simp)).trans x2),(Lt _ _ _ _ (by simp)).trans ((Lt _ _ _ _ (by simp)).trans x3),(Lt _ _ _ _ (by simp)).trans ((Lt _ _ _ _ (by simp)).trans x4),(Lt _ _ _ _ (by simp)).trans ((Lt _ _ _ _ (by simp)).trans x5)⟩
    have hb0:=Lb W9.heap.size W9
    go_upto_region 8 with (fail)
    go_region_held3 (fun Z=>Z.cell? ⟨w.heap.size,0,none⟩=some (.int .i64 3)∧Z.cell? ⟨w.heap.size,1,none⟩=some (.int .i64 k)∧Z.cell? ⟨w.heap.size,2,none⟩=some (.int .u64 old)∧Z.cell? ⟨w.heap.size,3,none⟩=some (.int .u64 size)∧Z.cell? ⟨w.heap.size,4,none⟩=some (.slice sa 0 sc)∧Z.cell? ⟨w.heap.size,5,none⟩=some (.slice da D.length dc))
      (first|exact HC9.out _ (by first|exact hb0|exact hb0.drew|exact hb10|exact hb11)|exact HP9.out _ _ _ (by first|exact hb0|exact hb0.drew|exact hb11) _ rfl) (first
      | (go_at_call 139;with_reducible refine(HJd.out _ _ _ _ (HK9.out _ (by first|exact hb0.drew|exact hb0)).1 (HK9.out _ (by first|exact hb0.drew|exact hb0)).2.2).mono ?_;rintro e w10 ⟨ap,bp,cp,rfl,hR10,hb10'⟩
         have hb10:Bl W9 w10:=by first|exact Qa hb0.drew hb10'|exact Qa hb0 hb10')
      | (go_at_call 107;with_reducible refine(HR2.out _ _ _ _ (HK9.out _ hb10).1 hR10).mono ?_;rintro e w11 ⟨rfl,hb11'⟩
         have hb11:Bl W9 w11:=Qa hb10 hb11';have hK11:=HK9.out w11 hb11;obtain⟨k0,k1⟩:=hK11.2.1.r2.cells;have f0:=hK11.2.1.r2.fz))
    all_goals
      have hK12:=hK11.2.1.put2 size r2;have hc12:=Og w11 (w.heap.size+2) size r2;obtain⟨W12,hW12⟩:=Ze (putR w11 (w.heap.size+2) size r2);rw[hW12] at hK12 hc12;unfold putR at hW12;rw[hW12];have hb12:Bl w W12:=hK11.1.trans (hc12.below (by rintro b rfl;omega))
      obtain⟨x0,x1⟩:=hK12.r1.cells;obtain⟨x2,x3⟩:=hK12.r2.cells;have fa:=hK12.r1.fz;have fb:=hK12.r2.fz;have hK14:=(hK12.put1 old r1).put2 size r2;have hc13:=Og W12 (w.heap.size+1) old r1;have hc14:=Og (putR W12 (w.heap.size+1) old r1) (w.heap.size+2) size r2;unfold putR at hK14 hc13 hc14;obtain⟨y0,y1⟩:=hK14.r1.cells;obtain⟨y2,y3⟩:=hK14.r2.cells;have HB:=Qc ((hb12.trans (hc13.below (by rintro b rfl;omega))).trans (hc14.below (by rintro b rfl;omega)))
      clear hc12 hW12 hb12 hc13 hc14 hK12 HK9 HC9 HP9 hb0 hb10 hb10' hb11 hb11' hK11 k0 k1 f0 HR2 HJd hR10 hK14
      go_upto_region 9 with (fail)
      go_region
      all_goals go_wp2
      all_goals refine LD (v := .tuple #[.agg #[.int .u64 old,.string r1],.agg #[.int .u64 size,.string r2],.int .i64 0]) (by simp[results,results80,go_sem,y0,y1,y2,y3]) rfl ⟨rfl,?_⟩
      all_goals exact HB.out.drew
end
section
open Cv (RdC zl cU cov)
open Pl (pw)
variable{c j m n:Nat}
theorem QmR(c:Nat)(L:LB)(m n:Nat)(hj:j<(kb m n).length):(O8 c L m n).getD j ⟨#[]⟩=nd c L ((kb m n).getD j (0,0)).1 ((kb m n).getD j (0,0)).2:=by
 rw[O8,Ld,No,Ld,Lk hj];rfl
theorem Qqy(hc:c<=32)(L:LB)(m n:Nat):Jn c (kb m n) (O8 c L m n) (nd c L) :=
 ⟨fun j hj=>(QmR c L m n hj).symm,fun h k _=>by rw[nd],fun h k=>by rw[Yt hc];exact hc⟩
theorem Qnc(c:Nat)(L:LB)(m n:Nat)(hm:m<=L.length)(h40:m<=2^40):kOld c m (O8 c L m n)=rtD c L m:=by
 rw[kOld,rtD,<-(QaQ c L m hm h40).1,O8,kb,LQ,IS (LY ..)]
theorem Qnb(c:Nat)(L:LB)(n:Nat)(hn:n<=L.length)(h40:n<=2^40):kNow c n (nd c L)=rtD c L n:=by
 rw[kNow,rtD,<-(QaQ c L n hn h40).1]
theorem QaR(hc:c<=32)(L:LB)(m n:Nat):∀s∈O8 c L m n,s.size=c:=fun s hs=>by
 obtain⟨b,_,rfl⟩:=List.mem_map.1 hs;exact Yt hc _ _ _
theorem QpL{k:Int}(k1:1<=k)(k2:k<=32)(L:LB)(hm:m<=n)(hn:n<=2^40):okK 3 k m n 0 (O8 (clk k) L m n) :=
 ⟨⟨⟨rfl,k1,k2⟩,hn,hm,rfl⟩,QeW _ _ _ _,fun d hd=>by rw[QaR (QK k) _ _ _ d hd];exact JF k1 k2⟩
theorem QiJ(w:World)(f:Nat)(K:Int)(L:LB)(hF:Frs w f K L)(hL:L.length<=5000)(m n:Nat)(hn:n<=L.length)(hmn:m<=n)(D:LB)(hD:O8 (clk K) L m n=D) :
  Calls prog 78 #[.pointer (some ⟨f+1,0,none⟩),.int .u64 m,.int .u64 n] w fun e w'=> ∃ad bd cd,e= .returned (.tuple #[.agg #[.int .i64 3,.int .i64 K,.int .u64 m,.int .u64 n,.slice none 0 0,.slice ad D.length cd],.int .i64 0])∧RdS w' ad bd 0 D.length D∧D.length<=cd∧(ad=none->cd=0)∧Qh w' w.heap.size (.slice ad D.length cd) D∧Bl w w' :=
 (QiI w f K L hF hL m n hn hmn D hD).mono fun e w' ⟨vd,e1,e2,e3⟩=>by
  obtain⟨ad,bd,cd,rfl,r3,hcd,hnd⟩:=Ya e2 (fun s hs=>by rw[<-hD] at hs;rw[QaR (QK K) _ _ _ s hs];have:=QK K;omega)
  exact⟨ad,bd,cd,e1,r3,hcd,hnd,e2,e3⟩
theorem Qgx(w:World)(ht:Tb w)(K:Int)(k1:1<=K)(k2:K<=32)(L:LB)(hL:L.length<=5000)(m n:Nat)(hn:n<=L.length)(hmn:m<=n)(D:LB)(hD:O8 (clk K) L m n=D)(sa:OA)(sc:Nat)(da:OA)(db dO dc:Nat)(hr:RdS w da db dO D.length D)(hdc:D.length<=dc)(r1 r2:BA)(h1:rtD (clk K) L m=r1)(h2:rtD (clk K) L n=r2) :
  Zr 80 #[vP 3 K m n (.slice sa 0 sc) (.slice da D.length dc)] w (.tuple #[.agg #[.int .u64 m,.string r1],.agg #[.int .u64 n,.string r2],.int .i64 0]):=by
 subst hD;exact kroots_ok w ht K m n sa sc da db dO dc _ hr hdc (QpL k1 k2 L hmn (by omega)) (nd (clk K) L) (Qqy (QK K) L m n) r1 r2 (by rw[Qnc _ _ _ _ (by omega) (by omega)];exact h1) (by rw[Qnb _ _ _ hn (by omega)];exact h2)
end
def pvK(k:Int)(L:LB)(m n:Nat):PV:=⟨3,k,m,n,[],O8 (clk k) L m n⟩
theorem Qmn{k:Int}(k1:1<=k)(k2:k<=32)(L:LB){m n:Nat}(hm:m<=n)(hn:n<=2^40):Jo (pvK k L m n):=by
 refine⟨?_,fun d hd=> ?_⟩
 ·show cnt 3 k m n []=some (O8 (clk k) L m n).length
  rw[QeW,cnt,Lf ⟨k1,k2,hn⟩,Le (by decide),Le (by decide),Lf rfl,Lf ⟨hm,rfl⟩,kb,Lc]
 ·show(d.size:Int)=k
  rw[QaR (QK k) L m n d hd];exact JF k1 k2
theorem Qkr{P:PV}(h:Jo P){s:BA}(hs:(⟨(enc P).toArray⟩:BA)=s):dec s.data.toList=some P∧s.size<=70368744177664:=by
 subst hs;refine⟨by rw[show(⟨(enc P).toArray⟩:BA).data.toList=enc P by simp];exact QmQ h,?_⟩
 show(enc P).toArray.size<=_
 rw[NO];exact QmX h
section
variable {w:World} {a p:Nat} {U:Nat->Prop} {D:St.DV} {S:St.SV} {L:LB}
theorem Qnh(hk1:1<=S.k)(hk2:S.k<=32)(hL:L.length<=5000)(m n:Nat)(hmn:m<=n)(hn:n<=L.length)(rm rr:BA)(hrm:rtD S.k L m=rm)(hrr:rtD S.k L n=rr) :
  ∃t,(∀w p U D,Tb w->Lg w 0 a p U D S L->Zr 35 #[Pq a,.int .u64 m,.int .u64 n] w (.tuple #[.string t,.int .i64 0])) ∧
   (∀W,Tb W->Zr 36 #[.int .i64 S.k,.agg #[.int .u64 m,.string rm],.agg #[.int .u64 n,.string rr],.string t] W (.int .i64 0)):=by
 have k1:(1:Int)<=S.k:=by omega
 have k2:(S.k:Int)<=32:=by omega
 have hc:clk (S.k:Int)=S.k:=by have:=JF k1 k2;omega
 have xC:n<=2^40:=by omega
 obtain⟨E,hE⟩:=Ze (O8 (clk (S.k:Int)) L m n);have xB:Jo ⟨3,S.k,m,n,[],E⟩:=by rw[<-hE];exact Qmn k1 k2 L hmn xC
 obtain⟨t,ht⟩:=Ze (⟨(enc ⟨3,S.k,m,n,[],E⟩).toArray⟩:BA);obtain⟨xE,xG⟩:=Qkr xB ht;have xF:=Q7 xB.1;have xD:E.length<=8796093022208:=Lr (show E.length<=1099511627776 from xF.hc) (by decide)
 have xA:t.size<=281474976710656:=Lr xG (by decide)
 refine⟨t,fun w p U D hT hl=>QqB w hT hl m n t 0 fun W f hT2 hbW hF=> ?_,fun W hT=> ?_⟩
 ·refine(QiJ W f S.k L hF hL m n hn hmn E hE).mono fun e w' z=> ?_
  obtain⟨ad,bd,cd,rfl,h2,h3,_,_,h4⟩:=z;refine⟨_,_,rfl,h4,fun W' hW'=> ?_⟩
  have hp:RdPC w' none 0 0 0 ad bd 0 cd (⟨3,S.k,m,n,[],E⟩:PV):=⟨⟨rfl,fun h=>absurd h (Nz 0),fun j v h=>by cases h⟩,h2,(by show m<18446744073709551616;omega),(by show n<18446744073709551616;omega),Ln _,xD,h3⟩
  exact QeY W' (hp.next hW') xB t ht
 ·exact Qnf W S.k k1 k2 m rm n rr t xA _ xE rfl m rm n rr 0 (fun V sa sb sc da db dc hb hF=>Qgx V (hT.next hb) S.k k1 k2 L hL m n hn hmn E hE sa sc da db 0 dc hF.p.rd hF.p.cD rm rr (by rw[hc];exact hrm) (by rw[hc];exact hrr)) _ (by rw[kinD,Lf ⟨rfl,⟨rfl,rfl⟩,rfl,rfl⟩])
end
variable{b g h len n s:Nat}
theorem Qjf(w:World)(ht:Tr w)(k:Int)(ao:OA)(b off cap H n:Nat)(hH:H<=40)(hn:2^H=n)(L:LB)(hr:RdS w ao b off n L)(hsz:∀s∈L,s.size<=140737488351232)(r:BA)(hq:Hid (nd (clk k) L H 0=r)) :
  Zr 112 #[.int .i64 k,.slice ao n cap] w (.string r):=by
 have xV:0<n:=by rw[<-hn];exact LN H
 have xO:n<=1099511627776:=by rw[<-hn];exact Na (n:=2) (by decide) hH
 obtain rfl:=hr.ptr xV;have HT:Hid (Tr w∧RdS w (some ⟨b,off,none⟩) b off n L∧(∀s∈L,s.size<=140737488351232)):=⟨ht,hr,hsz⟩;have xU:(n:Int)<=1099511627776:=by omega
 have hb:=Lb w.heap.size w;have HN:Hid (2^H=n∧n<=1099511627776):=⟨hn,xO⟩;have hc:=QK k;have HC:Hid (clk k<=32):=hc;clear ht hr hsz hn hH xO hc
 go_enter func112,ntmps112;go_wp2
 go_loopg [5,6] n (fun gg v i0 wr=> ∃i:Nat,i<=n∧gg=n-i∧i0= .int .i64 i∧Qh wr w.heap.size v (Yd (clk k) L 0 i)∧Bl w wr)
 case atStart=>go_light;exact⟨0,Ln _,rfl,rfl,Ug _ _,hb⟩
 case round=>
  clear hb;obtain⟨i,hi,rfl,rfl,ho,hb⟩:=hrel;have xN:(0:Int)<=(i:Int):=Lh _
  by_cases hlt:i<n
  ·have xB:(i:Int)<(n:Int):=by omega
   obtain⟨t1,t2,t3⟩:=HT.out;obtain⟨s,hs⟩:=Ze (L.getD i ByteArray.empty);have ci:=(t2.next hb (La _)).at hlt;rw[hs] at ci;obtain⟨x,hx⟩:=Ze (nd (clk k) L 0 i);have xQ:=QfC wr (t1.next hb) k s (by rw[<-hs];have:=t3 _ (Ud (ss:=L) (k:=i) (by rw[t2.hl];exact hlt));omega) x (by rw[<-hx,nd,hs])
   have HX:Hid (Qh wr w.heap.size u5 (Yd (clk k) L 0 i)∧Bl w wr∧i+1<=n∧x.size<=9223372036854775807∧Yd (clk k) L 0 i++[x]=Yd (clk k) L 0 (i+1)):=⟨ho,hb,hlt,by rw[<-hx,Yt HC.out];have:=HC.out;omega,by rw[<-hx];exact Qdj _ _ _ _⟩
   clear ho hb hi hlt hs hx t1 t2 t3
   go_wp2_with (first
    | (go_at_call 189;with_reducible refine xQ.mono ?_;rintro e w2 ⟨rfl,xA⟩)
    | (at_builtin;refine QR _ rfl _ _ rfl w.heap.size _ (Yd (clk k) L 0 i) rfl (YD (QB HX.out.1 xA (La _)) _) (Zp w2.heap.size) w2.heap.size 0 1 [x] rfl (Ux w2 x HX.out.2.2.2.1) (fun h=>by cases h) ?c1 ?c2 ?_))
   case c1=>have h1:=HX.out.2.2.1;have h2:=HN.out.2;rw[Yy];simp;omega
   case c2=>have:=(Qa HX.out.2.1 xA).size;simp;omega
   intro v2 w3 h3 hb3;have HY:Hid (Qh w3 w.heap.size v2 (Yd (clk k) L 0 (i+1))∧Bl w w3):=⟨by rw[<-HX.out.2.2.2.2];exact h3,(bal (Qa HX.out.2.1 xA) _).trans hb3⟩
   clear h3 hb3 xA;go_wp2
   go_roundg (n-(i+1))
   case rel=>go_light;exact⟨i+1,HX.out.2.2.1,rfl,by go_num,HY.out.1,HY.out.2⟩
   case measure=>go_light;have:=HX.out.2.2.1;omega
  ·obtain rfl:i=n:=by omega
   have xB:¬((i:Int)<(i:Int)):=by omega
   have HX:Hid (Qh wr w.heap.size u5 (Yd (clk k) L 0 i)∧Bl w wr):=⟨ho,hb⟩;clear ho hb hi hlt;go_wp2
   go_loopg [5] H (fun gg v wx=> ∃(j N:Nat),j<=H∧gg=H-j∧Hid (2^(H-j)=N∧N<=1099511627776)∧Qh wx w.heap.size v (Yd (clk k) L j N)∧Bl w wx)
   case atStart=>go_light;exact⟨0,i,Ln _,rfl,HN.out,HX.out.1,HX.out.2⟩
   case round=>
    clear HX;obtain⟨j,N,hj,rfl,HJ,ho,hb⟩:=hrel;have xC:=HJ.out;have xD:0<N:=by rw[<-xC.1];exact LN _
    obtain⟨g,cp,rfl,hg,xE,xM⟩:=Qfo ho (by rw[Yy];exact xD)
    rw[Yy] at xE ⊢
    by_cases hjl:j<H
    ·obtain⟨M,hM⟩:=Ze (2^(H-(j+1)));have xL:N=2*M:=by rw[<-xC.1,<-hM,show H-j=H-(j+1)+1 by omega,LH];omega
     have xR:0<M:=by rw[<-hM];exact LN _
     have yB:(1:Int)<(N:Int):=by omega
     have yC:(N:Int)<=1099511627776:=by omega
     have HX:Hid (Qh wr w.heap.size (.slice (Zp g) (Yd (clk k) L j N).length cp) (Yd (clk k) L j N)∧Bl w wr∧N=2*M∧2^(H-(j+1))=M∧j+1<=H∧N<=1099511627776):=⟨ho,hb,xL,hM,hjl,xC.2⟩;clear ho hb xC xD hg xE xM xL hM xR hjl hj HJ;obtain⟨W0,xS⟩:∃W0,W0=wr:=⟨wr,rfl⟩;subst xS;go_wp2
     go_loopg [7,8] M (fun gg v i0 wx=> ∃m:Nat,m<=M∧gg=M-m∧i0= .int .i64 (2*(m:Int))∧Qh wx W0.heap.size v (Yd (clk k) L (j+1) m)∧Bl W0 wx)
     case atStart=>go_light;exact⟨0,Ln _,rfl,rfl,Ug _ _,Lb _ _⟩
     case round=>
      obtain⟨m,hm,rfl,rfl,ho,hb⟩:=hrel;have yD:(0:Int)<=(m:Int):=Lh _;obtain⟨y1,y2,y3,y4,y5,y6⟩:=HX.out
      by_cases hlt:m<M
      ·have xB:2*(m:Int)+1<(N:Int):=by omega
       have xF:2*(m:Int)<(N:Int):=by omega
       obtain⟨a,ha⟩:=Ze (2*m);have ea:2*(m:Int)=(a:Int):=by omega
       have k1:=(Jf (QB y1 hb (La _)) (j:=a) (by rw[Yy];omega)).1
       have k2:=(Jf (QB y1 hb (La _)) (j:=a+1) (by rw[Yy];omega)).1
       rw[Qet _ _ _ _ (by omega)] at k1 k2
       obtain⟨x,hx⟩:=Ze (nd (clk k) L j a);obtain⟨y,hy⟩:=Ze (nd (clk k) L j (a+1));obtain⟨z,hz⟩:=Ze (nd (clk k) L (j+1) m);rw[hx] at k1;rw[hy] at k2;have zx:x.size=clk k:=by rw[<-hx];exact Yt HC.out _ _ _
       have zy:y.size=clk k:=by rw[<-hy];exact Yt HC.out _ _ _
       have xT:=HC.out;have xJ:Hr wr 190 #[.int .i64 k,.string x,.string y] (.string z):=fun W h=>QfD W (HT.out.1.next (Qa (Qa y2 hb) h)) k x y (by omega) (by omega) z (by rw[<-hz,nd,ha,hx,hy])
       have HK:Hid (∀W,Bl wr W->W.cell? ⟨g,a,none⟩=some (.string x)∧W.cell? ⟨g,a+1,none⟩=some (.string y)):=fun W h=>by
        have l1:=Lo wr _ k1;exact⟨(h.cell (p:=⟨g,a,none⟩) l1).trans k1,(h.cell (p:=⟨g,a+1,none⟩) l1).trans k2⟩
       have xG:Hid (∀W,Bl W0 W->W.cell? ⟨g,a,none⟩=some (.string x)∧W.cell? ⟨g,a+1,none⟩=some (.string y)):=fun W h=>by
        have r1:=(Jf (QB y1 h (La _)) (j:=a) (by rw[Yy];omega)).1
        have r2:=(Jf (QB y1 h (La _)) (j:=a+1) (by rw[Yy];omega)).1
        rw[Qet _ _ _ _ (by omega)] at r1 r2
        rw[hx] at r1;rw[hy] at r2;exact⟨r1,r2⟩
       have HY:Hid (Qh wr W0.heap.size u7 (Yd (clk k) L (j+1) m)∧Bl W0 wr∧Yd (clk k) L (j+1) m++[z]=Yd (clk k) L (j+1) (m+1)∧z.size<=9223372036854775807∧m+1<=M∧N=2*M∧N<=1099511627776):=⟨ho,hb,by rw[<-hz];exact Qdj _ _ _ _,by rw[<-hz,Yt HC.out];omega,hlt,y3,y6⟩
       have e1:IntKind.i64.wrap ((a:Int)+1)=(a:Int)+1:=by rw[Lq];omega
       have xZ:(0:Int)<=(a:Int):=by omega
       have yA:(0:Int)<=(a:Int)+1:=by omega
       have hd:Bl wr wr.drew:=(Lb _ _).drew;rw[ea] at xB xF ⊢;clear y1 y2 y3 y4 y5 y6 ho hb hm hlt hx hy hz zx zy xT ha
       go_upto_region 11 with (fail)
       obtain⟨i0,xN,xW,xX,xY⟩:=info_parts Tryz.infoS;have HO:Hid (∀W,Bl wr W->(W.alloc (.cells #[.string z] 9)).ownsRow W0.heap.size 9 1 u7 m ((Yd (clk k) L (j+1) m).map Value.string)):=fun W h=>by
        have:=YD (QB HY.out.1 h (La _)) (.cells #[.string z] 9);rw[Qh,Yy] at this;exact this
       have xI:Hid (m+1<=maxLen∧(m+1)*16<=140737488355328):=by have:=HY.out;refine⟨?_,?_⟩;unfold maxLen;omega;omega
       have xK:Hid (∀W,Bl wr W->W0.heap.size<=(W.alloc (.cells #[.string z] 9)).heap.size):=fun W h=>by have:=(Qa HY.out.2.1 h).size;simp;omega
       have kk:=HK.out wr.drew hd;have HG:Hid (∀w2 w3,Below wr.drew.heap.size wr.drew w2->(w2.alloc (.cells #[.string z] 9)).grownBy w3 u7.ownBlock->Bl W0 w3):=fun w2 w3 h1 h2=>(bal (Qa (Qa HY.out.2.1 hd) h1) _).grown h2 (by have:=(Qa (Qa HY.out.2.1 hd) h1).size;simp;omega) (fun q hq=>(HY.out.1.lt q hq).1)
       have xH:Hid (∀w2 w3,Below wr.drew.heap.size wr.drew w2->(w2.alloc (.cells #[.string z] 9)).grownBy w3 u7.ownBlock->w3.cell? ⟨g,a,none⟩=some (.string x)∧w3.cell? ⟨g,a+1,none⟩=some (.string y)):=fun w2 w3 h1 h2=>xG.out w3 (HG.out w2 w3 h1 h2)
       go_region_held3 (fun w'=>w'.cell? ⟨g,a,none⟩=some (.string x)∧w'.cell? ⟨g,a+1,none⟩=some (.string y)) (first|assumption|(exact xH.out _ _ xA hgrow)|(exact HK.out _ (Qa hd xA))|(exact HK.out _ (bal (Qa hd xA) _))) (first
        | (go_at_call 190;with_reducible refine(xJ.out _ hd).mono ?_;rintro e w2 ⟨rfl,xA⟩)
        | (refine step_append_lies _ (by rfl) _ _ _ (by rfl) W0.heap.size 9 i0 _ 1 16 underlying22 xN xW xX xY rfl (by omega) u7 m ((Yd (clk k) L (j+1) m).map Value.string) (by rfl) (HO.out _ (Qa hd xA)) ⟨w2.heap.size,0,none⟩ 1 1 [.string z] (by rfl) (by rfl) (World.news_of_block (cs:=#[.string z]) (t:=9) (fr:=(0,0)) (LC w2 _)) (by simp[Value.oneCell']) (by omega) xI.out.1 xI.out.2 (xK.out _ (Qa hd xA)) (w2.heap.size+1) (by simp) ?_;intro gg cap_1 w3 hown3 hgrow hat hlt3))
       have HZ:Hid (Qh w3 W0.heap.size (.slice (Zp gg) (m+1) cap_1) (Yd (clk k) L (j+1) (m+1))∧Bl W0 w3):=⟨by
        rw[Qh,Yy,<-HY.out.2.2.1,LQ];exact hown3,HG.out _ _ xA hgrow⟩
       clear hown3 hgrow hat hlt3 HG xH HK xG xJ HO xK kk;have xP:=Qc ea;clear ea;go_wp2
       go_roundg (M-(m+1))
       case rel=>go_light;exact⟨m+1,HY.out.2.2.2.2.1,rfl,by have:=xP.out;rw[show 2*((m+1:Nat):Int)=(a:Int)+2 by omega],HZ.out.1,HZ.out.2⟩
       case measure=>go_light;have:=HY.out.2.2.2.2.1;omega
      ·obtain rfl:m=M:=by omega
       obtain⟨a,ha⟩:=Ze (2*m);have ea:2*(m:Int)=(a:Int):=by omega
       have xB:¬((a:Int)+1<(N:Int)):=by omega
       have e1:IntKind.i64.wrap ((a:Int)+1)=(a:Int)+1:=by rw[Lq];omega
       rw[ea];have HY:Hid (Qh wr w.heap.size u7 (Yd (clk k) L (j+1) m)∧Bl w wr∧2^(H-(j+1))=m∧j+1<=H∧m<=1099511627776):=⟨World.ownsRow.mono ho y2.size,Qa y2 hb,y4,y5,by omega⟩
       clear y1 y2 y3 y4 y5 y6 ho hb hm hlt HX ha ea;go_wp2
       go_roundg (H-(j+1))
       case rel=>go_light;obtain⟨k1,k2,k3,k4,k5⟩:=HY.out;exact⟨j+1,m,k4,rfl,⟨k3,k5⟩,k1,k2⟩
       case measure=>go_light;have:=HY.out.2.2.2.1;omega
    ·obtain rfl:j=H:=by omega
     obtain⟨n1,n2⟩:=xC;rw[NL,Iw] at n1;subst n1;have k1:=(Jf ho (j:=0) (by rw[Yy];decide)).1
     rw[Qet _ _ _ _ (by decide),hq.out] at k1
     have h1:¬((1:Int)<1):=by decide
     have HB:Hid (Bl w wr):=hb;clear ho hb xE xM hg HJ n2 xD hj hjl;go_wp2
     go_ret
     exact⟨rfl,HB.out⟩
theorem RdS.cut{w:World}{off:Nat}{ss:LB}(h:RdS w (some ⟨b,off,none⟩) b off len ss)(i n:Nat)(hn:i+n<=len):RdS w (some ⟨b,off+i,none⟩) b (off+i) n ((ss.drop i).take n):=by
 refine⟨by rw[Lx,Ni,h.hl];omega,fun _=>rfl,fun j v hv=> ?_,fun s hs=>h.sz s (Is (Nq hs))⟩
 rw[NK,LT] at hv
 split at hv
 ·rw[IQ,NC] at hv;rw[Ns];exact h.rng (i+j) v hv
 ·cases hv
def gen{α:Type}(f:Nat->α)(n:Nat):Nat->List α
 | 0=>[]
 | h+1=>(if n/2^h%2=1 then [f h] else [])++gen f n h
theorem Qhs(c:Nat)(L:LB):∀h,gen (fun s=>nd c L s (L.length/2^s-1)) L.length h=pks c L h
 | 0=>rfl
 | h+1=>by rw[gen,pks,Qhs c L h]
theorem QdS{α β:Type}(g:α->β)(f:Nat->α)(n:Nat):∀h,(gen f n h).map g=gen (fun s=>g (f s)) n h
 | 0=>rfl
 | h+1=>by
  rw[gen,gen,LQ,QdS g f n h]
  by_cases e:n/2^h%2=1
  ·rw[Lf e,Lf e];rfl
  ·rw[Le e,Le e];rfl
theorem Qb1{α:Type}{f:Nat->α}(e:n/2^h%2≠1):gen f n (h+1)=gen f n h:=by rw[gen,Le e];rfl
theorem QdU{α:Type}{f:Nat->α}(e:n/2^h%2=1):gen f n (h+1)=f h::gen f n h:=by rw[gen,Lf e];rfl
theorem Qb2{α:Type}{f:Nat->α} : ∀d,n%2^(s+d)<2^s->gen f n (s+d)=gen f n s
 | 0,_=>rfl
 | d+1,h=>by
  have hs:2^s<=2^(s+d):=Na (by decide) (by omega)
  have h2:n%2^(s+(d+1))/2^(s+d)%2≠1:=Qig (by omega)
  rw[Qhe (by omega)] at h2
  rw[show s+(d+1)=s+d+1 by omega,Qb1 h2]
  refine Qb2 d ?_
  have:n%2^(s+d)=n%2^(s+(d+1))%2^(s+d):=by
   rw[show s+(d+1)=(s+d)+1 by omega,LH,Nat.mod_mul_right_mod]
  rw[this,Nt (Lz h hs)];exact h
theorem QkB{α:Type}{f:Nat->α}(h1:2^s<=n%2^g)(h2:n%2^g<2^(s+1)):gen f n g=f s::gen f n s:=by
 obtain⟨xA,e2,e1,_⟩:=Qia h1 h2;obtain⟨d,rfl⟩:∃d,g=s+1+d:=⟨g-s-1,by omega⟩
 rw[Qb2 d (by rw[e1,<-e1];exact h2),QdU e2]
theorem QkC{α:Type}{f:Nat->α}(h:n%2^g=0):gen f n g=[]:=by
 have:=Qb2 (f:=f) (n:=n) (s:=0) g (by rw[Ll,h];decide)
 rw[Ll] at this;rw[this,gen]
theorem QdR{α:Type}(f:Nat->α)(n:Nat):∀h,(gen f n h).length<=h
 | 0=>La _
 | h+1=>by
  have:=QdR f n h
  by_cases e:n/2^h%2=1
  ·rw[QdU e,LG];omega
  ·rw[Qb1 e];omega
theorem QdT : ∀h s,s∈gen id n h->s<h∧n/2^s%2=1
 | 0,s,hs=>by cases hs
 | h+1,s,hs=>by
  by_cases e:n/2^h%2=1
  ·rw[QdU e] at hs
   rcases List.mem_cons.1 hs with rfl|hs
   ·exact⟨Wa _,e⟩
   ·have:=QdT h s hs;exact⟨by omega,this.2⟩
  ·rw[Qb1 e] at hs;have:=QdT h s hs;exact⟨by omega,this.2⟩
def cP:List (Nat×Nat)->List Value
 | []=>[]
 | p::r=> .int .i64 p.1 :: .int .i64 p.2::cP r
theorem Qo7(l m:List (Nat×Nat)):cP (l++m)=cP l++cP m:=by
 induction l with
 | nil=>rfl
 | cons b r ih=>simp[cP,ih]
theorem Qo8(l:List (Nat×Nat))(j:Nat)(hj:j<l.length):(cP l)[j*2]? = some (.int .i64 ((l.getD j (0,0)).1:Int))∧(cP l)[j*2+1]? = some (.int .i64 ((l.getD j (0,0)).2:Int)):=by
 induction l generalizing j with
 | nil=>simp at hj
 | cons b r ih=>
  cases j with
  | zero=>exact⟨rfl,rfl⟩
  | succ j=>
   have:=ih j (by simpa using hj)
   rw[show(j+1)*2=j*2+1+1 by omega]
   simpa [cP] using this
theorem Tryz.infoP:(prog.info? 196).map (fun i=>(i.zero,i.size,i.bytes))=some (some (.agg #[.int .i64 0,.int .i64 0]),2,16):=by kernel_rfl
def OwnP(w:World)(B:Nat)(v:Value)(l:List (Nat×Nat)):Prop:=w.ownsRow B 196 2 v l.length (cP l)
variable{l:List (Nat×Nat)}
theorem Qdd{w W:World}{B:Nat}{v:Value}(h:OwnP w B v l)(hb:Bl w W):OwnP W B v l:=by
 obtain⟨h1,h2⟩:=h;refine⟨h1,?_⟩
 rcases h2 with h2|⟨g,cap,cur,rfl,hg,hh,r⟩
 ·exact .inl h2
 ·exact .inr ⟨g,cap,cur,rfl,hg,by rw[hb.block g (Array.getElem?_eq_some_iff.1 hh).1];exact hh,r⟩
theorem Qlg(w:World)(B:Nat):OwnP w B (.slice none 0 0) []:=⟨rfl,.inl ⟨rfl,rfl⟩⟩
theorem QiW{w:World}{B cap:Nat}(h:OwnP w B (.slice (Zp g) n cap) l){j:Nat}(hj:j<l.length):w.cell? ⟨g,j*2,none⟩=some (.int .i64 ((l.getD j (0,0)).1:Int))∧w.cell? ⟨g,j*2+1,none⟩=some (.int .i64 ((l.getD j (0,0)).2:Int)):=by
 obtain⟨k1,k2⟩:=Qo8 l j hj;have h1:=Ib h (g:=g) rfl _ _ k1;have h2:=Ib h (g:=g) rfl _ _ k2;rw[Addr.add_mid,Ll] at h1 h2;exact⟨h1,h2⟩
theorem Qbn(w:World){ops:Array Oper}{rest:List Oper}{o:Oper}{a:Act}{Q:Exit->Act->World->Prop}
  (hg:o.guard=none) (s x:Operand) (hop:o.op=Op.call { callee:=Callee.builtin Builtin.append,args:=#[s,x],argTypes:=#[194,194] })
  (B:Nat) (v:Value) (L:List (Nat×Nat)) (w0:World) (p q:Nat) (hw:w=w0.alloc (.cells #[.int .i64 p,.int .i64 q] 196)) (hs:a.eval s=v) (hown:OwnP w B v L) (hx:a.eval x= .slice (Zp w0.heap.size) 1 1)
  (hlen:L.length+1<=1048576) (hB:B<=w.heap.size)
  (hK:∀v' w',OwnP w' B v' (L++[(p,q)])->Below B w w'->wpList prog ops Q rest (a.put o.dst v') w'):wpList prog ops Q (o::rest) a w:=by
 obtain⟨i0,hi,xC,xD,xE⟩:=info_parts Tryz.infoP;have xB:∀k,v.ownBlock=some k->B<=k:=by
  obtain⟨_,h2⟩:=hown
  rcases h2 with ⟨rfl,_⟩|⟨g,cp,cur,rfl,hg,_⟩
  ·intro k hk;cases hk
  ·intro k hk;cases hk;exact hg
 have xA:∀j u,([.int .i64 p,.int .i64 q]:List Value)[j]? = some u->w.cell? ((⟨w0.heap.size,0,none⟩:Addr).add j)=some u:=by
  subst hw;exact World.news_of_block (cs:=#[.int .i64 p,.int .i64 q]) (t:=196) (fr:=(0,0)) (LC w0 _)
 refine wpList_append_own w hg s x _ hop B 196 i0 (.agg #[.int .i64 0,.int .i64 0]) 2 16 underlying194 hi xC xD xE rfl (by decide) _ _ _ hs hown ⟨w0.heap.size,0,none⟩ 1 1 [.int .i64 p,.int .i64 q] hx rfl xA (by intro u hu;simp at hu;rcases hu with rfl|rfl <;> rfl) (by unfold maxLen;omega) (by omega) hB ?_
 intro v' w' h1 h2 _;refine hK v' w' ?_ ((Lb _ _).grown h2 hB xB)
 rw[OwnP,Lc,Qo7];exact h1
def mtP(n s:Nat):Nat×Nat:=((n/2^s-1)*2^s,2^s)
theorem Y8(w:World)(n:Nat)(hn:n<=1099511627776)(P:List (Nat×Nat))(hP:Hid (gen (mtP n) n 41=P)) :
  Calls prog 111 #[.int .i64 n] w fun e w'=> ∃v,e= .returned v∧OwnP w' w.heap.size v P∧Bl w w':=by
 have hb:=Lb w.heap.size w;have HS:Hid ([]++gen (mtP n) n 41=P):=by rw[Nj];exact hP
 have xM:Hid (P.length<=41):=by show _<=_;rw[<-hP.out];exact QdR _ _ _
 have HN:Hid (n<=1099511627776):=hn;have xT:(n:Int)<=1099511627776:=by omega
 clear hn hP
 go_enter func111,ntmps111;go_wp2
 go_loopg [3,4] n (fun gg v a wr=> ∃(g t:Nat) (A:List (Nat×Nat)),t<=n∧gg=n-t∧a= .int .i64 t∧Hid (t+n%2^g=n∧A++gen (mtP n) n g=P)∧OwnP wr w.heap.size v A∧Bl w wr)
 case atStart=>go_light;exact⟨41,0,[],Ln _,rfl,rfl,⟨by have:=HN.out;omega,HS.out⟩,Qlg _ _,hb⟩
 case round=>
  clear hb HS;obtain⟨g,t,A,xS,rfl,rfl,HE,ho,hb⟩:=hrel;have xU:(0:Int)<=(t:Int):=Lh _
  by_cases hlt:t<n
  ·have xI:(t:Int)<(n:Int):=by omega
   have HX:Hid (OwnP wr w.heap.size u3 A∧Bl w wr∧t<n):=⟨ho,hb,hlt⟩;obtain⟨m,hm⟩:=Ze (n-t);have em:IntKind.i64.wrap ((n:Int)-(t:Int))=(m:Int):=by rw[Lq];omega
   have xJ:Hid (t+m=n):=by show _=_;omega
   clear ho hb xS hlt hm;go_wp2
   go_loopg [5] 64 (fun gg zv wx=> ∃(h z:Nat),h<=64∧gg=64-h∧zv= .int .i64 z∧Hid (2^h=z∧z<=m)∧wr=wx)
   case atStart=>go_light;exact⟨0,1,by omega,rfl,rfl,⟨rfl,by have:=HX.out.2.2;have:=xJ.out;omega⟩,rfl⟩
   case round=>
    obtain⟨h,z,xD,rfl,rfl,HH,rfl⟩:=hrel;have hz:=HH.out;have xK:=xJ.out;have xL:=HN.out;have xA:h<=40:=by
     apply Ig
     intro h9;have:=Na (n:=2) (by decide) (show 41<=h from h9)
     omega
    obtain⟨q,hq⟩:=Ze (2*z);have e1:IntKind.i64.wrap (2*(z:Int))=(q:Int):=by rw[Lq];omega
    by_cases hgo:q<=m
    ·have xH:(q:Int)<=(m:Int):=by omega
     have HY:Hid (2^(h+1)=q∧q<=m∧h<=40):=⟨by rw[LH,hz.1];omega,hgo,xA⟩
     clear HH hq hgo xD xA hz xK xL;go_wp2
     go_roundg (64-(h+1))
     case rel=>go_light;exact⟨h+1,q,by have:=HY.out.2.2;omega,rfl,rfl,⟨HY.out.1,HY.out.2.1⟩,rfl⟩
     case measure=>go_light;have:=HY.out.2.2;omega
    ·have xH:¬((q:Int)<=(m:Int)):=by omega
     have hE:=HE.out;have xF:2^h<=n%2^g:=by omega
     have xG:n%2^g<2^(h+1):=by rw[LH];omega
     obtain⟨xR,xC,xP,xQ⟩:=Qia xF xG;obtain⟨xN,xO⟩:=Qfg xC;have xB:(n/2^h-1)*2^h=t:=by omega
     have e7:IntKind.i64.wrap ((t:Int)+(z:Int))=(t:Int)+(z:Int):=by rw[Lq];omega
     have xE:Hid (t+z<=n∧t+z+n%2^h=n∧A++[(t,z)]++gen (mtP n) n h=P∧1<=z):=by
      refine⟨by omega,by omega,?_,?_⟩
      ·have h3:=QkB (f:=mtP n) xF xG;rw[mtP,xB,hz.1] at h3;rw[<-hE.2,h3];simp
      ·rw[<-hz.1];exact LN h
     clear hgo xF xG xR xC xP xQ xN xO xB hE HE HH hz xK xL xA xD hq
     go_wp2_with (at_builtin;refine Qbn _ rfl _ _ rfl w.heap.size _ A wr t z rfl rfl (Qdd HX.out.1 (bal (Lb _ _) _)) rfl ?c1 ?c2 ?_)
     case c1=>have h1:=Lv List.length xE.out.2.2.1;have h2:=xM.out;simp at h1;omega
     case c2=>have:=HX.out.2.1.size;simp;omega
     intro v2 w6 h6 hb6;have HY:Hid (OwnP w6 w.heap.size v2 (A++[(t,z)])∧Bl w w6):=⟨h6,(bal HX.out.2.1 _).trans hb6⟩;clear h6 hb6;go_wp2
     go_roundg (n-(t+z))
     case rel=>go_light;obtain⟨k1,k2,k3,k4⟩:=xE.out;exact⟨h,t+z,A++[(t,z)],k1,rfl,by go_num,⟨k2,k3⟩,HY.out.1,HY.out.2⟩
     case measure=>go_light;obtain⟨k1,k2,k3,k4⟩:=xE.out;have:=HX.out.2.2;omega
  ·obtain rfl:t=n:=by omega
   have xI:¬((t:Int)<(t:Int)):=by omega
   have HA:Hid (A=P):=by
    obtain⟨k1,k2⟩:=HE.out;rw[QkC (by omega),LU] at k2
    exact k2
   clear HE;go_wp2
   go_ret
   exact⟨_,rfl,by rw[<-HA.out];exact ho,hb⟩
theorem Y2{α:Type}(d:α)(l:List α)(i:Nat)(h:i<l.length):l.take i++[l.getD i d]=l.take (i+1):=by
 rw[LM h,Ld,Lk h];rfl
theorem Qfd{α β:Type}(f:α->β)(d:α)(e:β)(l:List α)(i:Nat)(h:i<l.length):(l.map f).getD i e=f (l.getD i d):=by
 simp[List.getD_eq_getElem?_getD,List.getElem?_eq_getElem h]
theorem QgT(w:World)(ht:Tr w)(k:Int)(ao:OA)(b off len cap:Nat)(L:LB)(hr:RdS w ao b off len L)(hsz:∀s∈L,s.size<=140737488351232)(hmx:len<=1099511627776)(hc:len<=cap)(P:LB)(hP:Hid (pks (clk k) L 41=P)) :
  Ro 60 #[.int .i64 k,.slice ao len cap] w P:=by
 obtain⟨Hs,xC⟩:∃Hs,Hid (gen id len 41=Hs):=⟨_,rfl⟩;obtain⟨M,hM⟩:∃M,Hid (gen (mtP len) len 41=M):=⟨_,rfl⟩;have xQ:=fun W=>Y8 W len hmx M hM
 have xU:=hr.hl;have eM:M=Hs.map (mtP len):=by
  have h1:=QdS (mtP len) id len 41;rw[xC.out] at h1;rw[h1];exact hM.out.symm
 have eP:P=Hs.map (fun s=>nd (clk k) L s (len/2^s-1)):=by
  have h1:=QdS (fun s=>nd (clk k) L s (len/2^s-1)) id len 41
  have h2:=Qhs (clk k) L 41;rw[xC.out] at h1;rw[xU] at h2;rw[h1];exact hP.out.symm.trans h2.symm
 have lH:Hs.length<=41:=by rw[<-xC.out];exact QdR _ _ _
 have lM:M.length=Hs.length:=by rw[eM];simp
 have lP:P.length=Hs.length:=by rw[eP];simp
 have HT:Hid (Tr w∧RdS w ao b off len L∧(∀s∈L,s.size<=140737488351232)∧len<=1099511627776∧len<=cap):=⟨ht,hr,hsz,hmx,hc⟩;have HV:Hid (∀i,i<Hs.length -> ∃s t z i',s<=40∧2^s=z∧M.getD i (0,0)=(t,z)∧t+z<=len∧t=i' * 2^s∧P.getD i ByteArray.empty=nd (clk k) L s i'):=fun i hi=>by
  obtain⟨s,hs⟩:=Ze (Hs.getD i 0);have xM:s∈gen id len 41:=by
   rw[xC.out,<-hs,Ld,Lk hi];exact L8 _
  obtain⟨yB,xJ⟩:=QdT 41 s xM;obtain⟨xV,xY⟩:=Qfg xJ;refine⟨s,(len/2^s-1)*2^s,2^s,len/2^s-1,by omega,rfl,?_,?_,rfl,?_⟩
  ·rw[eM,Qfd _ 0 _ _ _ hi,hs,mtP]
  ·have h5:=Iz len (2^s);rw[Nat.sub_mul,L9];have:1*2^s<=len/2^s*2^s:=LJ _ xY;omega
  ·rw[eP,Qfd _ 0 _ _ _ hi,hs]
 have yH:Hid (∀s∈P,s.size<=9223372036854775807):=fun s hs=>by rw[<-hP.out] at hs;rw[Qco (QK k) _ _ s hs];have:=QK k;omega
 have hb:=Lb w.heap.size w;have HL:Hid (Hs.length<=41∧M.length=Hs.length∧P.length=Hs.length):=⟨lH,lM,lP⟩;clear ht hr hsz hmx hc hP xC hM xU eM eP lH lM lP
 go_enter func60,ntmps60
 go_wp2_with (go_at_call 111;with_reducible refine(xQ _).mono ?_;rintro e w1 ⟨vM,rfl,xB,xW⟩)
 clear xQ;obtain⟨q,hq⟩:=Ze Hs.length;obtain⟨xH,cM,yD,xD⟩:∃xH cM,vM= .slice xH q cM∧(0<q -> ∃g,xH=Zp g∧OwnP w1 w.heap.size (.slice (Zp g) q cM) M):=by
  have hl:=HL.out.2.1
  rcases xB.2 with ⟨hv,h0⟩|⟨g,cp,cur,hv,_⟩
  ·refine⟨none,0,?_,fun h=> ?_⟩
   ·rw[hv,show q=0 by omega]
   ·omega
  ·refine⟨Zp g,cp,?_,fun _=>⟨g,rfl,?_⟩⟩
   ·rw[hv,hl,hq]
   ·have:=xB;rw[hv,hl,hq] at this;exact this
 subst yD;rw[hq] at HL HV;have HO:Hid (0<q -> ∃g,xH=Zp g∧OwnP w1 w.heap.size (.slice (Zp g) q cM) M):=xD;have xF:Hid (Bl w w1):=xW;have yA:(q:Int)<=41:=by have:=HL.out.1;omega
 clear xB xD xW hq
 go_loopg [6,7] q (fun gg v i0 wr=> ∃i:Nat,i<=q∧gg=q-i∧i0= .int .i64 i∧Qh wr w1.heap.size v (P.take i)∧Bl w1 wr)
 case atStart=>go_light;exact⟨0,Ln _,rfl,rfl,Ug _ _,Lb _ _⟩
 case round=>
  obtain⟨i,hi,rfl,rfl,ho,xA⟩:=hrel;have yI:(0:Int)<=(i:Int):=Lh _
  by_cases hlt:i<q
  ·have xL:(i:Int)<(q:Int):=by omega
   obtain⟨g,rfl,xB⟩:=HO.out (by omega)
   obtain⟨s,t,z,i',xE,hz,hM,yC,xX,xI⟩:=HV.out i hlt;obtain⟨t1,t2,t3,t4,t5⟩:=HT.out;have yE:0<z:=by rw[<-hz];exact LN s
   obtain rfl:=t2.ptr (by omega)
   obtain⟨x,hx⟩:=Ze (P.getD i ByteArray.empty);rw[hx] at xI;have xT:Hr w1 112 #[.int .i64 k,.slice (some ⟨b,off+t,none⟩) z (cap-t)] (.string x):=fun W hb=>by
    refine Qjf W (t1.next (Qa xF.out hb)) k _ b (off+t) (cap-t) s z xE hz ((L.drop t).take z) ((t2.next (Qa xF.out hb) (La _)).cut t z (by omega)) (fun y hy=>t3 y (Is (Nq hy))) x ?_
    show _=_
    rw[xX,<-hz,QpF];exact xI.symm
   have xZ:=HL.out;have xG:Hid (∀W,Bl w1 W->W.cell? ⟨g,i*2,none⟩=some (.int .i64 t)∧W.cell? ⟨g,i*2+1,none⟩=some (.int .i64 z)):=fun W h=>by
    have:=QiW (Qdd xB h) (j:=i) (by omega)
    rw[hM] at this;exact this
   have HY:Hid (Qh wr w1.heap.size u6 (P.take i)∧Bl w1 wr∧P.take i++[x]=P.take (i+1)∧i+1<=q∧q<=41∧(P.take i).length=i):=⟨ho,xA,by rw[<-hx];exact Y2 _ _ _ (by omega),hlt,by omega,by rw[Lx];omega⟩
   obtain⟨y,hy⟩:=Ze (t+z);have e1:IntKind.i64.wrap ((t:Int)+(z:Int))=(y:Int):=by rw[Lq];omega
   have s0:(0:Int)<=(t:Int):=Lh _;have s1:(t:Int)<=(y:Int):=by omega
   have s2:(y:Int)<=(cap:Int):=by omega
   have s3:¬(cap=t):=by omega
   have s4:y-t=z:=by omega
   have hd:Bl w1 wr.drew:=(xA).drew;obtain⟨i0,xK,xN,yF,yG⟩:=info_parts Tryz.infoS;have xR:Hid (∀W,Below wr.drew.heap.size wr.drew W->(W.alloc (.cells #[.string x] 9)).ownsRow w1.heap.size 9 1 u6 i ((P.take i).map Value.string)):=fun W h=>by
    have:=YD (QB HY.out.1 (Qa ((Lb _ _).drew) h) (La _)) (.cells #[.string x] 9);rw[Qh,HY.out.2.2.2.2.2] at this;exact this
   have xP:Hid (i+1<=maxLen∧(i+1)*16<=140737488355328):=by have:=HY.out;refine⟨?_,?_⟩;unfold maxLen;omega;omega
   have xS:Hid (∀W,Below wr.drew.heap.size wr.drew W->w1.heap.size<=(W.alloc (.cells #[.string x] 9)).heap.size):=fun W h=>by have:=(Qa hd h).size;simp;omega
   have HG:Hid (∀w2 w3,Below wr.drew.heap.size wr.drew w2->(w2.alloc (.cells #[.string x] 9)).grownBy w3 u6.ownBlock->Bl w1 w3):=fun w2 w3 h1 h2=>(bal (Qa hd h1) _).grown h2 (by have:=(Qa hd h1).size;simp;omega) (fun q hq=>(HY.out.1.lt q hq).1)
   have HK:Hid (∀W,Below wr.drew.heap.size wr.drew W->W.cell? ⟨g,i*2,none⟩=some (.int .i64 t)∧W.cell? ⟨g,i*2+1,none⟩=some (.int .i64 z)):=fun W h=>xG.out W (Qa hd h)
   have xO:Hid (∀w2 w3,Below wr.drew.heap.size wr.drew w2->(w2.alloc (.cells #[.string x] 9)).grownBy w3 u6.ownBlock->w3.cell? ⟨g,i*2,none⟩=some (.int .i64 t)∧w3.cell? ⟨g,i*2+1,none⟩=some (.int .i64 z)):=fun w2 w3 h1 h2=>xG.out w3 (HG.out w2 w3 h1 h2)
   have kk:=xG.out wr.drew hd;have HD:Hid (Bl w1 wr.drew):=hd;clear ho xA xB xE hz hM yC xX xI t1 t2 t3 t4 t5 yE hx xZ hi hlt hd hy
   go_upto_region 6 with (fail)
   go_region_held3 (fun w'=>w'.cell? ⟨g,i*2,none⟩=some (.int .i64 t)∧w'.cell? ⟨g,i*2+1,none⟩=some (.int .i64 z)) (first|assumption|(exact xO.out _ _ xA hgrow)|(exact HK.out _ xA)|(exact HK.out _ (bal xA _))) (first
    | (go_at_call 112;with_reducible refine(xT.out _ HD.out).mono ?_;rintro e w2 ⟨rfl,xA⟩)
    | (refine step_append_lies _ (by rfl) _ _ _ (by rfl) w1.heap.size 9 i0 _ 1 16 underlying22 xK xN yF yG rfl (by omega) u6 i ((P.take i).map Value.string) (by rfl) (xR.out _ xA) ⟨w2.heap.size,0,none⟩ 1 1 [.string x] (by rfl) (by rfl) (World.news_of_block (cs:=#[.string x]) (t:=9) (fr:=(0,0)) (LC w2 _)) (by simp[Value.oneCell']) (by omega) xP.out.1 xP.out.2 (xS.out _ xA) (w2.heap.size+1) (by simp) ?_;intro gg cap_1 w3 hown3 hgrow xV hlt3))
   have HZ:Hid (Qh w3 w1.heap.size (.slice (Zp gg) (i+1) cap_1) (P.take (i+1))∧Bl w1 w3):=⟨by
    obtain⟨y1,y2,y3,y4,y5,y6⟩:=HY.out;rw[Qh,<-y3,Lc,y6,LQ];exact hown3,HG.out _ _ xA hgrow⟩
   clear hown3 hgrow xV hlt3 HG xO HK xG xT xR xS kk;go_wp2
   go_roundg (q-(i+1))
   case rel=>go_light;exact⟨i+1,HY.out.2.2.2.1,rfl,by go_num,HZ.out.1,HZ.out.2⟩
   case measure=>go_light;have:=HY.out.2.2.2.1;omega
  ·obtain rfl:i=q:=by omega
   have xL:¬((i:Int)<(i:Int)):=by omega
   have HZ:Hid (Qh wr w.heap.size u6 P∧Bl w wr):=⟨by
    rw[Lp (by have:=HL.out;omega)] at ho
    exact World.ownsRow.mono ho xF.out.size,Qa xF.out xA⟩
   clear ho xA hi hlt HO HV;go_wp2
   go_ret
   exact⟨_,rfl,HZ.out.1,HZ.out.2⟩
theorem QlM(w:World)(ht:Tr w)(k:Int)(h1:1<=k)(h2:k<=32)(ao:OA)(b off len cap:Nat)(L:LB)(hr:RdS w ao b off len L)(hsz:∀s∈L,s.size<=140737488351232)(hmx:len<=1099511627776)(hc:len<=cap)(n:Nat)(hn:n<=len)(r:BA)(hq:Hid (rtD (clk k) L n=r)) :
  Zr 21 #[.int .i64 k,.slice ao len cap,.int .u64 n] w (.tuple #[.agg #[.int .u64 n,.string r],.int .i64 0]):=by
 have HC:=fun W=>Qel W k
 rw[Qpd h1 h2] at HC;have e0:IntKind.u64.wrap (len:Int)=(len:Int):=Y5 _ (by omega) (by omega)
 have xF:¬((len:Int)<(n:Int)):=by omega
 have xG:(n:Int)<=(cap:Int):=by omega
 obtain⟨P,hP⟩:∃P,Hid (pks (clk k) (L.take n) 41=P):=⟨_,rfl⟩;have xD:Hid (∀W,Bl w W->Ro 60 #[.int .i64 k,.slice ao n cap] W P):=fun W hb=>QgT W (ht.next hb) k ao b off n cap (L.take n) ((hr.next hb (La _)).take hn) (fun s hs=>hsz s (Nq hs)) (by omega) (by omega) P hP
 have zP:∀s∈P,s.size<=140737488351232:=by rw[<-hP.out];exact small (QK k)
 have lP:P.length<=41:=by rw[<-hP.out];exact Qeg _ _ _
 have HQ:Hid (dg (clk k) (UD n (Q4 (clk k) P))=r):=by rw[<-hP.out];exact hq
 have xE:Hid (∀W,Bl w W -> ∀ao' b' cap',RdS W ao' b' 0 P.length P->Zr 59 #[.int .i64 k,.int .u64 n,.slice ao' P.length cap'] W (.string r)):=fun W hb ao' b' cap' hr'=>QfE W (ht.next hb) k n (by omega) ao' b' 0 P.length cap' P hr' zP (by omega) r HQ.out
 have HZ:Hid (∀s∈P,s.size<=9223372036854775807):=fun s hs=>Lr (zP s hs) (by decide)
 have hb:=Lb w.heap.size w;have HN:=QlO w 0 ⟨#[]⟩ 50;rw[show((0:Nat):Int)=0 from rfl] at HN
 have xC:=Qc HN;clear h1 h2 hn hmx hc hr hsz ht hq hP zP lP HQ HN
 go_enter func21,ntmps21
 go_wp2_with (first
  | (go_at_call 58;with_reducible refine(HC _).mono ?_;rintro e w1 ⟨rfl,rfl⟩)
  | (go_at_call 60;with_reducible refine(xD.out _ (bal hb _)).mono ?_;rintro e w2 ⟨v,rfl,ho,xA⟩;obtain⟨ao',b',cap',rfl,hr',_,_⟩:=Ya ho HZ.out)
  | (go_at_call 59;with_reducible refine(xE.out _ (Qa (bal hb _) xA) _ _ _ hr').mono ?_;rintro e w3 ⟨rfl,xB⟩;have hR:=(xC.out.below xA (by simp)).below xB (by have:=xA.size;simp at this;omega);have k0:=hR.c0;have k1:=hR.c1;have f0:=hR.f0;have f1:=hR.f1))
 have s0:(w3.setCell ⟨w.heap.size,0,none⟩ (.int .u64 n)).cell? ⟨w.heap.size,0,none⟩=some (.int .u64 n):=Nf _ _ _ k0;have s1:((w3.setCell ⟨w.heap.size,0,none⟩ (.int .u64 n)).setCell ⟨w.heap.size,1,none⟩ (.string r)).cell? ⟨w.heap.size,1,none⟩=some (.string r) :=
  Nf _ _ _ ((Lt _ _ _ _ (by simp)).trans k1)
 refine LD (v := .tuple #[.agg #[.int .u64 n,.string r],.int .i64 0]) (by simp[results,results21,go_sem,s0,s1]) rfl ⟨rfl,?_⟩
 exact((Qa (Qa (bal hb _) xA) xB).setCell (p:=⟨w.heap.size,0,none⟩) (La _) _).setCell (p:=⟨w.heap.size,1,none⟩) (La _) _
end Go.Proofs.YtoblgjledefdbaaGreatDoor
