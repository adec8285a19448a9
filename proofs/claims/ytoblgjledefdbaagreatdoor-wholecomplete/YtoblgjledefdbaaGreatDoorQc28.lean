/- Own work. -/
import Derived.Test.YtoblgjledefdbaaGreatDoorQc27
set_option maxRecDepth 100000
set_option maxHeartbeats 4000000
namespace Go.Proofs.YtoblgjledefdbaaGreatDoor
open Go.RowKit
attribute [local go_sem ↓] Go.wp_at_zero Go.wp_at_succ
open Go.Proofs.Tryz
section
open Cv (RdC zl cU cov)
open Pl (pw)
theorem Qb9{w wr:World}{s0 q:Nat}{F:Nat->Nat->BA}{h k h' k':Nat}{v u:Value}(hl:(k+1)*pw h<=2^40)(j:JL w wr s0 q F h k h' k' v u):h'<=40∧k'<2^40∧(cov 0 (k' * pw h')).length<=40∧k' * pw h'<=2^40:=by
 have hen:=j.en;have h40:(k'+1)*pw h'<=2^40:=by rw[hen];exact hl
 have hp:=Pl.Qw h';have h1:k'+1<=(k'+1)*pw h':=NL _ hp;have h2:k' * pw h'<=(k'+1)*pw h':=LM _ (by omega)
 exact⟨QjG (by omega) h40,by omega,Cv.UM _ (by omega),by omega⟩
theorem Qbo(w:World)(s0:Nat)(K:Int)(F:Nat->Nat->BA)(h k:Nat)(v u:Value)(hJ:JS w s0 v u (cov 0 (k*pw h)) (dgF F (cov 0 (k*pw h))))(hl:(k+1)*pw h<=2^40)
  (hT:∀W,Below (s0+1) w W->Tb W) (hK:w.cell? ⟨s0,1,none⟩=some (.int .i64 K))
  (hF:∀h' q,h<=h'->(q+1)*pw (h'+1)=(k+1)*pw h->F (h'+1) q=dg (clk K) (Qz (F h' (2*q)) (F h' (2*q+1)))) (hsz:∀a b,(F a b).size<=32) (d:BA) (hd:F h k=d) :
  Calls prog 225 #[.agg #[.int .i64 h,.int .u64 k],.string d,.pointer (some ⟨s0+1,0,none⟩),Pq s0,.pointer (some ⟨s0+2,0,none⟩)] w fun e w'=>e= .returned (.tuple #[])∧(∃v' u',JS w' s0 v' u' (cov 0 ((k+1)*pw h)) (dgF F (cov 0 ((k+1)*pw h))))∧Below (s0+1) w w':=by
 have hJl:=hJ.lt;have hb:=bal (Lb w.heap.size w) (.cells #[.int .i64 h,.int .u64 k] 249);have hL:JL w (w.alloc (.cells #[.int .i64 h,.int .u64 k] 249)) s0 w.heap.size F h k h k v u :=
  ⟨hJ.next hb,QbO w _ _,fun g hg=>(LY hJ.ot g hg).2,rfl,La _,hb.mono (by omega),hJl⟩
 obtain⟨ao,n,cap,rfl⟩:=Cv.Ql hJ.ot;have hn:=OP hJ.ot;rw[Cv.Qy] at hn;subst hn;have HX:Hid ((k+1)*pw h<=2^40∧(∀a b,(F a b).size<=32)∧(∀W,Below (s0+1) w W->Tb W∧W.cell? ⟨s0,1,none⟩=some (.int .i64 K))∧(∀h' q,h<=h'->(q+1)*pw (h'+1)=(k+1)*pw h->F (h'+1) q=dg (clk K) (Qz (F h' (2*q)) (F h' (2*q+1))))) :=
  ⟨hl,hsz,fun W hW=>⟨hT W hW,(hW.cell (p:=⟨s0,1,none⟩) (IH s0)).trans hK⟩,hF⟩
 have HL:=Qd hL;have c0:=cell_of_one hL.js.ct;have hlen:=(Qb9 hl hL).2.2.1;have hlz:((cov 0 (k*pw h)).length:Int)<=40:=by omega
 subst hd;clear hJ hJl hb hL hl hT hK hF hsz hlen
 go_enter func225,ntmps225;go_wp2
 go_loopg [1,7] (41-h) (fun g dd i wr=> ∃(h' k':Nat) (v u:Value),Hid (JL w wr s0 w.heap.size F h k h' k' v u)∧g=41-h'∧dd= .string (F h' k')∧i= .int .i64 (((cov 0 (k' * pw h')).length:Int)-1))
 case atStart=>go_light;exact⟨h,k,_,_,HL,by omega,rfl,rfl⟩
 case round=>
  obtain⟨h',k',v,u,HJ,rfl,rfl,rfl⟩:=hrel;clear HL c0 hlz;obtain⟨b1,b2,b3,b4⟩:=Qb9 HX.out.1 HJ.out
  by_cases hpar:k'%2=1
  ·obtain⟨a,rfl⟩:∃a,k'=2*a+1:=⟨k'/2,by omega⟩
   obtain⟨C,hC⟩:∃C,cov 0 (2*a*pw h')=C:=⟨_,rfl⟩;have hcv:cov 0 ((2*a+1)*pw h')=C++[(h',2*a)]:=by rw[<-hC];exact QcA h' a b4
   have hjs:=HJ.out.js;rw[hcv] at hjs;have hlP:(dgF F C).length=C.length:=LC ..;have hjs':JS wr s0 v u (C++[(h',2*a)]) (dgF F C++[F h' (2*a)]):=by rw[dgF,LL] at hjs;exact hjs
   obtain⟨g,cap,gu,cu,rfl,rfl,hc1,hc2,e1,e2,e3⟩:=QgH hjs';rw[hlP] at hc2 e3 HJ;have hix:((cov 0 ((2*a+1)*pw h')).length:Int)-1=(C.length:Int):=by rw[hcv,Le,LR];omega
   rw[hix];have hC40:C.length<=40:=by rw[hcv,Le,LR] at b3;omega
   obtain⟨x0,hx0⟩:∃x0,F h' (2*a)=x0:=⟨_,rfl⟩;obtain⟨x1,hx1⟩:∃x1,F h' (2*a+1)=x1:=⟨_,rfl⟩;obtain⟨x2,hx2⟩:∃x2,F (h'+1) a=x2:=⟨_,rfl⟩;have hnd:dg (clk K) (Qz x0 x1)=x2:=by
    rw[<-hx2,HX.out.2.2.2 h' a HJ.out.hh (by rw[<-HJ.out.en,Cv.QG,show 2*(a+1)=2*a+1+1 by omega]),hx0,hx1]
   rw[hx0] at e3;rw[hx1];obtain⟨t,ht⟩:∃t,C.length=t:=⟨_,rfl⟩;have HUp:Hid (∀W W',JL w W s0 w.heap.size F h k h' (2*a+1) (.slice (Zp g) (t+1) cap) (.slice (Zp gu) (t+1) cu)->(((putB W w.heap.size ((h'+1:Nat):Int) a).setCell ⟨s0+1,0,none⟩ (.slice (Zp g) t cap)).setCell ⟨s0+2,0,none⟩ (.slice (Zp gu) t cu))=W'->JL w W' s0 w.heap.size F h k (h'+1) a (.slice (Zp g) t cap) (.slice (Zp gu) t cu)):=fun W W' h1 h2=>by
    subst ht;exact JL.up C hC HX.out.1 h1 W' h2
   have hlen2:((cov 0 (a*pw (h'+1))).length:Int)=(t:Int):=by rw[Cv.QG,hC,ht]
   rw[ht] at HJ e1 e2 e3 hc1 hc2 hC40 ⊢;have HE:Hid (∀W,Below wr.heap.size wr W->JL w W s0 w.heap.size F h k h' (2*a+1) (.slice (Zp g) (t+1) cap) (.slice (Zp gu) (t+1) cu)∧W.cell? ⟨g,t*2,none⟩=some (.int .i64 h')∧W.cell? ⟨g,t*2+1,none⟩=some (.int .u64 ((2*a:Nat):Int))∧W.cell? ⟨gu,t,none⟩=some (.string x0)):=fun W hW=>
    ⟨HJ.out.next hW,(hW.cell (Lf wr _ e1)).trans e1,(hW.cell (Lf wr _ e2)).trans e2,(hW.cell (Lf wr _ e3)).trans e3⟩
   have HBs:Hid (∀W,Calls prog 226 #[.agg #[.int .i64 h',.int .u64 ((2*a+1:Nat):Int)]] W fun e w'=>e= .returned (.agg #[.int .i64 h',.int .u64 ((2*a:Nat):Int)])∧Below W.heap.size W w'):=fun W=>QaZ W h' (2*a+1) (by omega) (2*a) (by unfold sb;rw[Lm (by omega)];omega)
   have HNo:Hid (∀W,Below wr.heap.size wr W->Calls prog 227 #[.int .i64 K,.string x0,.string x1] W fun e w'=>e= .returned (.string x2)∧Below W.heap.size W w'):=fun W hW=>YW W (HX.out.2.2.1 W ((HE.out W hW).1.be)).1 K x0 x1 (by have:=HX.out.2.1 h' (2*a);rw[hx0] at this;omega) (by have:=HX.out.2.1 h' (2*a+1);rw[hx1] at this;omega) x2 hnd
   have hz0:(0:Int)<=(t:Int):=Lh _;have ht1:(t:Int)<((t+1:Nat):Int):=by omega
   have HG:Hid (h'<=40∧2*a+1<2^40∧t<=40∧t+1<=cap∧t+1<=cu∧((cov 0 (a*pw (h'+1))).length:Int)=(t:Int)∧F (h'+1) a=x2):=⟨b1,b2,hC40,hc1,hc2,hlen2,hx2⟩;obtain⟨kk,hkk⟩:∃kk:Nat,2*a+1=kk:=⟨_,rfl⟩;obtain⟨k2,hk2⟩:∃k2:Nat,2*a=k2:=⟨_,rfl⟩;obtain⟨tt,htt⟩:∃tt:Nat,t+1=tt:=⟨_,rfl⟩;rw[hkk,hk2,htt] at HE;rw[hkk,hk2] at HBs;rw[hkk,htt] at HUp;rw[htt] at ht1;clear hpar hC hcv hjs hjs' hix hlP hx0 hx1 hx2 hnd HJ e1 e2 e3 hc1 hc2 hC40 b1 b2 b3 b4 ht hlen2
   go_upto_region 2 with (fail)
   refine QZ (by kernel_rfl) [11,12,13,14,15,16,17,18,19,20,21] [] [.int .i64 t,.bool true,.bool true,.slice (Zp g) tt cap,.int .i64 t,.pointer (some ⟨g,t*2,none⟩),.agg #[.int .i64 h',.int .u64 k2],.agg #[.int .i64 h',.int .u64 kk],.agg #[.int .i64 h',.int .u64 k2],.bool true,.bool true] (by kernel_rfl) rfl (fun j hj=>by cases hj) (fun _ W=>Below wr.heap.size wr W) (fun W _ hb=>hb) ?step ?fin
   case step=>
    refine⟨?_,?_,?_,?_,?_,?_,?_,?_,?_,?_,?_,trivial⟩
    ·intro L Ac Wc K hI hj hcl hsm dep hK;have t7:Ac.tmps.getD 7 undef= .int .i64 t:=hsm 7 rfl
     show Oper.wp _ _ Ac Wc K _
     go_simp
     exact hK _ _ (.inr rfl) hI
    ·intro L Ac Wc K hI hj hcl hsm dep hK;have t11:Ac.tmps.getD 11 undef= .int .i64 t:=dep 0 rfl
     show Oper.wp _ _ Ac Wc K _
     go_simp
     exact hK _ _ (.inr rfl) hI
    ·intro L Ac Wc K hI hj hcl hsm dep hK;have t12:Ac.tmps.getD 12 undef= .bool true:=dep 1 rfl
     show Oper.wp _ _ Ac Wc K _
     go_simp
     exact hK _ _ (.inr rfl) hI
    ·intro L Ac Wc K hI hj hcl hsm dep hK;have t2:Ac.tmps.getD 2 undef= .pointer (some ⟨s0+1,0,none⟩):=hsm 2 rfl;refine⟨true,(show Ac.tmps.getD 13 undef= .bool true from dep 2 rfl),?_⟩
     rw[Lm rfl];obtain⟨j,e1,e2,e3⟩:=HE.out Wc hI;have c1:=cell_of_one j.js.ct
     go_simp
     exact hK _ _ (.inr rfl) hI
    ·intro L Ac Wc K hI hj hcl hsm dep hK;have t7:Ac.tmps.getD 7 undef= .int .i64 t:=hsm 7 rfl;refine⟨true,(show Ac.tmps.getD 13 undef= .bool true from dep 2 rfl),?_⟩
     rw[Lm rfl]
     go_simp
     exact hK _ _ (.inr rfl) hI
    ·intro L Ac Wc K hI hj hcl hsm dep hK;have t14:Ac.tmps.getD 14 undef= .slice (Zp g) tt cap:=dep 3 rfl;have t15:Ac.tmps.getD 15 undef= .int .i64 t:=dep 4 rfl;refine⟨true,(show Ac.tmps.getD 13 undef= .bool true from dep 2 rfl),?_⟩
     rw[Lm rfl]
     go_simp
     exact hK _ _ (.inr rfl) hI
    ·intro L Ac Wc K hI hj hcl hsm dep hK;have t16:Ac.tmps.getD 16 undef= .pointer (some ⟨g,t*2,none⟩):=dep 5 rfl;refine⟨true,(show Ac.tmps.getD 13 undef= .bool true from dep 2 rfl),?_⟩
     rw[Lm rfl];obtain⟨j,e1,e2,e3⟩:=HE.out Wc hI
     go_simp
     exact hK _ _ (.inr rfl) hI
    ·intro L Ac Wc K hI hj hcl hsm dep hK;have t5:Ac.tmps.getD 5 undef=Pq w.heap.size:=hsm 5 rfl;refine⟨true,(show Ac.tmps.getD 13 undef= .bool true from dep 2 rfl),?_⟩
     rw[Lm rfl];obtain⟨j,e1,e2,e3⟩:=HE.out Wc hI;obtain⟨c1,c2⟩:=j.tw.cells
     go_simp
     exact hK _ _ (.inr rfl) hI
    ·intro L Ac Wc K hI hj hcl hsm dep hK;have t18:Ac.tmps.getD 18 undef= .agg #[.int .i64 h',.int .u64 kk]:=dep 7 rfl;refine⟨true,(show Ac.tmps.getD 13 undef= .bool true from dep 2 rfl),?_⟩
     rw[Lm rfl]
     go_simp
     refine(HBs.out Wc).mono ?_
     rintro e w' ⟨rfl,hb'⟩;exact hK _ _ (.inr rfl) (Qa hI hb')
    ·intro L Ac Wc K hI hj hcl hsm dep hK;have t17:Ac.tmps.getD 17 undef= .agg #[.int .i64 h',.int .u64 k2]:=dep 6 rfl;have t19:Ac.tmps.getD 19 undef= .agg #[.int .i64 h',.int .u64 k2]:=dep 8 rfl;refine⟨true,(show Ac.tmps.getD 13 undef= .bool true from dep 2 rfl),?_⟩
     rw[Lm rfl]
     go_simp
     exact hK _ _ (.inr rfl) hI
    ·intro L Ac Wc K hI hj hcl hsm dep hK;have t13:Ac.tmps.getD 13 undef= .bool true:=dep 2 rfl;have t20:Ac.tmps.getD 20 undef= .bool true:=dep 9 rfl
     show Oper.wp _ _ Ac Wc K _
     go_simp
     exact hK _ _ (.inr rfl) hI
   case fin=>
    intro L W hall hW;clear hall;simp only[Ue]
    go_simp
    have HS:Hid (∀Z,Below wr.heap.size wr Z->Z.cell? ⟨s0,1,none⟩=some (.int .i64 K)∧Z.cell? ⟨s0+2,0,none⟩=some (.slice (Zp gu) tt cu)∧Z.cell? ⟨gu,t,none⟩=some (.string x0)):=fun Z hZ=>⟨(HX.out.2.2.1 Z (HE.out Z hZ).1.be).2,cell_of_one (HE.out Z hZ).1.js.cp,(HE.out Z hZ).2.2.2⟩
    obtain⟨s1,s2,s3⟩:=HS.out W hW
    go_upto_region 3 with (fail)
    go_region_held3 (fun Z=>Z.cell? ⟨s0,1,none⟩=some (.int .i64 K)∧Z.cell? ⟨s0+2,0,none⟩=some (.slice (Zp gu) tt cu)∧Z.cell? ⟨gu,t,none⟩=some (.string x0))
     (exact HS.out _ (by first|exact hW|exact hW.drew|exact Qa hW.drew hb3|exact Qa hW hb3)) (first
     | (go_at_call 227;with_reducible refine(HNo.out _ (by first|exact hW.drew|exact hW)).mono ?_;rintro e w3 ⟨rfl,hb3⟩))
    all_goals
     have hb03:Below wr.heap.size wr w3:=by first|exact Qa hW.drew hb3|exact Qa hW hb3
     have hj3:=(HE.out w3 hb03).1;obtain⟨q0,q1⟩:=hj3.tw.cells;have f0:=hj3.tw.fz 0;have f1:=hj3.tw.fz 1;obtain⟨h1,hh1⟩:∃h1:Nat,h'+1=h1:=⟨_,rfl⟩;have e5:IntKind.i64.wrap ((h':Int)+1)=(h1:Int):=by have:=HG.out.1;rw[Lz];omega
     have e6:Int.tdiv (kk:Int) 2=(a:Int):=by rw[I8 (by omega)];omega
     have e7:IntKind.u64.wrap (a:Int)=(a:Int):=by have:=HG.out.2.1;rw[IntKind.wrap_u64];omega
     have HJ3:=Qd hj3;clear s1 s2 s3 HNo HBs hj3
     go_upto_region 5 with (fail)
     have hch:=QaV w3 w.heap.size (h1:Int) a;obtain⟨W4,hW4⟩:∃W4,putB w3 w.heap.size (h1:Int) a=W4:=⟨_,rfl⟩;rw[hW4] at hch;unfold putB at hW4;rw[hW4];have hq2:=HJ3.out.hq;have b1:=(hch.block (s0+1) (by show ¬s0+1=_;omega)).trans HJ3.out.js.ct
     have b2:=(hch.block (s0+2) (by show ¬s0+2=_;omega)).trans HJ3.out.js.cp
     have c1:=cell_of_one b1;have c2:=cell_of_one b2;have g1:=free_of_one b1;have g2:=free_of_one b2;have hct:(t:Int)<=(cap:Int):=by have:=HG.out.2.2.2.1;omega
     have hcu:(t:Int)<=(cu:Int):=by have:=HG.out.2.2.2.2.1;omega
     clear q0 q1 f0 f1 e5 e6 e7 b1 b2;have HW4:=Qd hW4;clear hW4
     go_region
     have HF:Hid (∀W5,(W4.setCell ⟨s0+1,0,none⟩ (.slice (Zp g) t cap)).setCell ⟨s0+2,0,none⟩ (.slice (Zp gu) t cu)=W5->JL w W5.drew s0 w.heap.size F h k (h'+1) a (.slice (Zp g) t cap) (.slice (Zp gu) t cu)):=fun W5 h5=>(HUp.out w3 W5 HJ3.out (by rw[<-h5,<-HW4.out,hh1];rfl)).next (Lb _ _).drew
     have e8:IntKind.i64.wrap ((t:Int)-1)=(t:Int)-1:=by have:=HG.out.2.2.1;rw[Lz];omega
     clear c1 c2 g1 g2 hch HUp hct hcu;go_wp2
     go_roundg (41-(h'+1))
     case rel=>go_light;exact⟨h'+1,a,_,_,HF.out _ rfl,rfl,by rw[HG.out.2.2.2.2.2.2],by rw[HG.out.2.2.2.2.2.1]⟩
     case measure=>go_light;have:=HG.out.1;omega
  ·obtain⟨a,rfl⟩:∃a,k'=2*a:=⟨k'/2,by omega⟩
   obtain⟨C,hC⟩:∃C,cov 0 (2*a*pw h')=C:=⟨_,rfl⟩;have hnx:cov 0 ((k+1)*pw h)=C++[(h',2*a)]:=by rw[<-HJ.out.en,<-hC];exact QcA h' a (by rw[HJ.out.en];exact HX.out.1)
   have hhi:∀b∈C,h'<b.1:=by rw[<-hC];exact Qi6 h' a b4
   have hjs:=HJ.out.js;rw[hC] at hjs b3;rw[hC];obtain⟨x1,hx1⟩:∃x1,F h' (2*a)=x1:=⟨_,rfl⟩;rw[hx1];have HN:Hid (∀W v' u',JS W s0 v' u' (C++[(h',2*a)]) (dgF F C++[x1])->JS W s0 v' u' (cov 0 ((k+1)*pw h)) (dgF F (cov 0 ((k+1)*pw h)))):=fun W v' u' h0=>by
    rw[hnx,dgF,LL]
    show JS W s0 v' u' (C++[(h',2*a)]) (dgF F C++[F h' (2*a)])
    rw[hx1];exact h0
   obtain⟨P,hP⟩:∃P,dgF F C=P:=⟨_,rfl⟩;have hPl:P.length=C.length:=by rw[<-hP];exact LC ..
   rw[hP] at HN hjs;obtain⟨kk,hkk⟩:∃kk:Nat,2*a=kk:=⟨_,rfl⟩;have htw:=HJ.out.tw;have hvq:=HJ.out.hv;have huq:=HJ.out.hu;have hbe:=HJ.out.be;have hqq:=HJ.out.hq;rw[hkk] at HN htw hC b4 b2;have HE:Hid (∀W,Below wr.heap.size wr W->JS W s0 v u C P∧Tw W w.heap.size (h':Int) kk∧Below (s0+1) w W):=fun W hW=>⟨hjs.next hW,htw.next hW,hbe.trans (hW.mono (by have:=hjs.lt;omega))⟩
   have HG:Hid (C.length<=40∧P.length=C.length∧(∀g,v.ownBlock=some g->g<w.heap.size)∧(∀g,u.ownBlock=some g->g≠w.heap.size)∧s0+2<w.heap.size):=⟨b3,hPl,hvq,huq,hqq⟩;have HBs:Hid (∀W,Calls prog 226 #[.agg #[.int .i64 h',.int .u64 kk]] W fun e w'=>e= .returned (.agg #[.int .i64 h',.int .u64 ((sb kk:Nat):Int)])∧Below W.heap.size W w'):=fun W=>QaZ W h' kk (by omega) _ rfl
   obtain⟨av,nv,cv,rfl⟩:=Cv.Ql hjs.ot;obtain⟨au,nu,cu,rfl⟩:=Cv.Ql hjs.op;have l1:=OP hjs.ot;have l2:=OP hjs.op;rw[Cv.Qy] at l1;subst l1 l2
   rcases List.eq_nil_or_concat C with hnil|⟨C0,⟨x,y⟩,hC0⟩
   ·have hneg:¬(0:Int) <= -1:=by decide
    have hm:((C.length:Nat):Int)-1 = -1:=by rw[hnil];rfl
    rw[hm];clear hjs htw hvq huq hbe hqq hkk hPl hP hnx hhi hC HJ b1 b2 b3 b4 HBs hx1 hpar
    go_upto_region 2 with (fail)
    refine QZ (by kernel_rfl) [11,12,13,14,15,16,17,18,19,20,21] [] [.int .i64 (-1),.bool false,.bool false,undef,undef,undef,undef,undef,undef,undef,.bool false] (by kernel_rfl) rfl (fun j hj=>by cases hj) (fun _ W=>Below wr.heap.size wr W) (fun W _ hb=>hb) ?step ?fin
    case step=>
     refine⟨?_,?_,?_,?_,?_,?_,?_,?_,?_,?_,?_,trivial⟩
     ·intro L Ac Wc K hI hj hcl hsm dep hK;have t7:Ac.tmps.getD 7 undef= .int .i64 (-1):=hsm 7 rfl
      show Oper.wp _ _ Ac Wc K _
      go_simp
      exact hK _ _ (.inr rfl) hI
     ·intro L Ac Wc K hI hj hcl hsm dep hK;have t11:Ac.tmps.getD 11 undef= .int .i64 (-1):=dep 0 rfl
      show Oper.wp _ _ Ac Wc K _
      go_simp
      exact hK _ _ (.inr rfl) hI
     ·intro L Ac Wc K hI hj hcl hsm dep hK;have t12:Ac.tmps.getD 12 undef= .bool false:=dep 1 rfl
      show Oper.wp _ _ Ac Wc K _
      go_simp
      exact hK _ _ (.inr rfl) hI
     ·intro L Ac Wc K hI hj hcl hsm dep hK;refine⟨false,(show Ac.tmps.getD 13 undef= .bool false from dep 2 rfl),?_⟩
      rw[Ld (by decide)]
      exact hK _ _ (.inr rfl) hI
     ·intro L Ac Wc K hI hj hcl hsm dep hK;refine⟨false,(show Ac.tmps.getD 13 undef= .bool false from dep 2 rfl),?_⟩
      rw[Ld (by decide)]
      exact hK _ _ (.inr rfl) hI
     ·intro L Ac Wc K hI hj hcl hsm dep hK;refine⟨false,(show Ac.tmps.getD 13 undef= .bool false from dep 2 rfl),?_⟩
      rw[Ld (by decide)]
      exact hK _ _ (.inr rfl) hI
     ·intro L Ac Wc K hI hj hcl hsm dep hK;refine⟨false,(show Ac.tmps.getD 13 undef= .bool false from dep 2 rfl),?_⟩
      rw[Ld (by decide)]
      exact hK _ _ (.inr rfl) hI
     ·intro L Ac Wc K hI hj hcl hsm dep hK;refine⟨false,(show Ac.tmps.getD 13 undef= .bool false from dep 2 rfl),?_⟩
      rw[Ld (by decide)]
      exact hK _ _ (.inr rfl) hI
     ·intro L Ac Wc K hI hj hcl hsm dep hK;refine⟨false,(show Ac.tmps.getD 13 undef= .bool false from dep 2 rfl),?_⟩
      rw[Ld (by decide)]
      exact hK _ _ (.inr rfl) hI
     ·intro L Ac Wc K hI hj hcl hsm dep hK;refine⟨false,(show Ac.tmps.getD 13 undef= .bool false from dep 2 rfl),?_⟩
      rw[Ld (by decide)]
      exact hK _ _ (.inr rfl) hI
     ·intro L Ac Wc K hI hj hcl hsm dep hK;have t13:Ac.tmps.getD 13 undef= .bool false:=dep 2 rfl;have t20:Ac.tmps.getD 20 undef=undef:=dep 9 rfl
      show Oper.wp _ _ Ac Wc K _
      go_simp
      exact hK _ _ (.inr rfl) hI
    case fin=>
     intro L W hall hW;clear hall;simp only[Ue]
     go_simp
     clear hnil hm hneg;have hj0:J0 W s0 w.heap.size (.slice av C.length cv) (.slice au P.length cu) C P h' kk:=⟨(HE.out W hW).1,(HE.out W hW).2.1,fun g hg=>by have:=HG.out.2.2.1 g hg;omega,HG.out.2.2.2.2,by have:=HG.out.1;omega,by have:=HG.out.1;have:=HG.out.2.1;omega⟩
     have HBe:=Qd (HE.out W hW).2.2;clear HE hW
     go_upto_region 7 with (fail)
     refine YD (by kernel_rfl) (by kernel_rfl) (RF W s0 w.heap.size (.slice av C.length cv) (.slice au P.length cu) C P h' kk x1) (fun Z _ hZ=>QeM hj0 rfl rfl rfl rfl rfl rfl hZ) ⟨e0 rfl,e1,e2 rfl,e3 hj0 rfl rfl rfl rfl rfl,e4 rfl,e5,e6 rfl,e7 hj0 rfl rfl rfl rfl rfl,e8 hj0 rfl rfl rfl,e9 hj0 rfl rfl rfl,trivial⟩ ?_
     intro L a7 w7 hall hI;obtain⟨v',u',hjs,hb7⟩:=QkV hI hall;have HF:Hid ((∃v' u',JS w7 s0 v' u' (cov 0 ((k+1)*pw h)) (dgF F (cov 0 ((k+1)*pw h))))∧Below (s0+1) w w7):=⟨⟨v',u',HN.out _ _ _ hjs⟩,HBe.out.trans hb7⟩;exact bodyPost_end (results_none rfl a7.tmps prog w7) hI.df ⟨rfl,HF.out⟩
   ·rw[List.concat_eq_append] at hC0;have hxh:h'<x:=hhi (x,y) (by rw[hC0];simp)
    have hjs2:JS wr s0 (.slice av C.length cv) (.slice au P.length cu) (C0++[(x,y)]) (dgF F C0++[F x y]):=by
     have e:dgF F C0++[F x y]=P:=by rw[<-hP,hC0];show _=List.map _ (C0++[(x,y)]);rw[LL];rfl
     rw[e,<-hC0];exact hjs
    obtain⟨g,cap2,gu,cu2,hv2,_,_,_,e1,e2,_⟩:=QgH hjs2;obtain⟨rfl,hln,rfl⟩:=Id hv2;obtain⟨t,ht⟩:∃t,C0.length=t:=⟨_,rfl⟩;rw[ht] at e1 e2 hln;have hm:((C.length:Nat):Int)-1=(t:Int):=by omega
    rw[hm];have hz0:(0:Int)<=(t:Int):=Lh _;have ht1:(t:Int)<((C.length:Nat):Int):=by omega
    have hne:((x:Int) == (h':Int))=false:=beq_false_of_ne (by omega)
    have HE2:Hid (∀W,Below wr.heap.size wr W->W.cell? ⟨g,t*2,none⟩=some (.int .i64 x)∧W.cell? ⟨g,t*2+1,none⟩=some (.int .u64 y)):=fun W hW=>
     ⟨(hW.cell (Lf wr _ e1)).trans e1,(hW.cell (Lf wr _ e2)).trans e2⟩
    clear hjs htw hvq huq hbe hqq hkk hPl hP hnx hhi hC HJ b1 b2 b3 b4 hx1 hpar hjs2 hv2 hC0 e1 e2 ht hm hxh hln
    go_upto_region 2 with (fail)
    refine QZ (by kernel_rfl) [11,12,13,14,15,16,17,18,19,20,21] [] [.int .i64 t,.bool true,.bool true,.slice (Zp g) C.length cv,.int .i64 t,.pointer (some ⟨g,t*2,none⟩),.agg #[.int .i64 x,.int .u64 y],.agg #[.int .i64 h',.int .u64 kk],.agg #[.int .i64 h',.int .u64 ((sb kk:Nat):Int)],.bool false,.bool false] (by kernel_rfl) rfl (fun j hj=>by cases hj) (fun _ W=>Below wr.heap.size wr W) (fun W _ hb=>hb) ?step ?fin
    case step=>
     refine⟨?_,?_,?_,?_,?_,?_,?_,?_,?_,?_,?_,trivial⟩
     ·intro L Ac Wc K hI hj hcl hsm dep hK;have t7:Ac.tmps.getD 7 undef= .int .i64 t:=hsm 7 rfl
      show Oper.wp _ _ Ac Wc K _
      go_simp
      exact hK _ _ (.inr rfl) hI
     ·intro L Ac Wc K hI hj hcl hsm dep hK;have t11:Ac.tmps.getD 11 undef= .int .i64 t:=dep 0 rfl
      show Oper.wp _ _ Ac Wc K _
      go_simp
      exact hK _ _ (.inr rfl) hI
     ·intro L Ac Wc K hI hj hcl hsm dep hK;have t12:Ac.tmps.getD 12 undef= .bool true:=dep 1 rfl
      show Oper.wp _ _ Ac Wc K _
      go_simp
      exact hK _ _ (.inr rfl) hI
     ·intro L Ac Wc K hI hj hcl hsm dep hK;have t2:Ac.tmps.getD 2 undef= .pointer (some ⟨s0+1,0,none⟩):=hsm 2 rfl;refine⟨true,(show Ac.tmps.getD 13 undef= .bool true from dep 2 rfl),?_⟩
      rw[Lm rfl];obtain⟨j,jt,jb⟩:=HE.out Wc hI;have c1:=cell_of_one j.ct
      go_simp
      exact hK _ _ (.inr rfl) hI
     ·intro L Ac Wc K hI hj hcl hsm dep hK;have t7:Ac.tmps.getD 7 undef= .int .i64 t:=hsm 7 rfl;refine⟨true,(show Ac.tmps.getD 13 undef= .bool true from dep 2 rfl),?_⟩
      rw[Lm rfl]
      go_simp
      exact hK _ _ (.inr rfl) hI
     ·intro L Ac Wc K hI hj hcl hsm dep hK;have t14:Ac.tmps.getD 14 undef= .slice (Zp g) C.length cv:=dep 3 rfl;have t15:Ac.tmps.getD 15 undef= .int .i64 t:=dep 4 rfl;refine⟨true,(show Ac.tmps.getD 13 undef= .bool true from dep 2 rfl),?_⟩
      rw[Lm rfl]
      go_simp
      exact hK _ _ (.inr rfl) hI
     ·intro L Ac Wc K hI hj hcl hsm dep hK;have t16:Ac.tmps.getD 16 undef= .pointer (some ⟨g,t*2,none⟩):=dep 5 rfl;refine⟨true,(show Ac.tmps.getD 13 undef= .bool true from dep 2 rfl),?_⟩
      rw[Lm rfl];obtain⟨e1,e2⟩:=HE2.out Wc hI
      go_simp
      exact hK _ _ (.inr rfl) hI
     ·intro L Ac Wc K hI hj hcl hsm dep hK;have t5:Ac.tmps.getD 5 undef=Pq w.heap.size:=hsm 5 rfl;refine⟨true,(show Ac.tmps.getD 13 undef= .bool true from dep 2 rfl),?_⟩
      rw[Lm rfl];obtain⟨j,jt,jb⟩:=HE.out Wc hI;obtain⟨c1,c2⟩:=jt.cells
      go_simp
      exact hK _ _ (.inr rfl) hI
     ·intro L Ac Wc K hI hj hcl hsm dep hK;have t18:Ac.tmps.getD 18 undef= .agg #[.int .i64 h',.int .u64 kk]:=dep 7 rfl;refine⟨true,(show Ac.tmps.getD 13 undef= .bool true from dep 2 rfl),?_⟩
      rw[Lm rfl]
      go_simp
      refine(HBs.out Wc).mono ?_
      rintro e w' ⟨rfl,hb'⟩;exact hK _ _ (.inr rfl) (Qa hI hb')
     ·intro L Ac Wc K hI hj hcl hsm dep hK;have t17:Ac.tmps.getD 17 undef= .agg #[.int .i64 x,.int .u64 y]:=dep 6 rfl;have t19:Ac.tmps.getD 19 undef= .agg #[.int .i64 h',.int .u64 ((sb kk:Nat):Int)]:=dep 8 rfl;refine⟨true,(show Ac.tmps.getD 13 undef= .bool true from dep 2 rfl),?_⟩
      rw[Lm rfl]
      go_simp
      exact hK _ _ (.inr rfl) hI
     ·intro L Ac Wc K hI hj hcl hsm dep hK;have t13:Ac.tmps.getD 13 undef= .bool true:=dep 2 rfl;have t20:Ac.tmps.getD 20 undef= .bool false:=dep 9 rfl
      show Oper.wp _ _ Ac Wc K _
      go_simp
      exact hK _ _ (.inr rfl) hI
    case fin=>
     intro L W hall hW;clear hall;simp only[Ue]
     go_simp
     clear hz0 ht1 hne HE2 HBs;have hj0:J0 W s0 w.heap.size (.slice (Zp g) C.length cv) (.slice au P.length cu) C P h' kk:=⟨(HE.out W hW).1,(HE.out W hW).2.1,fun g hg=>by have:=HG.out.2.2.1 g hg;omega,HG.out.2.2.2.2,by have:=HG.out.1;omega,by have:=HG.out.1;have:=HG.out.2.1;omega⟩
     have HBe:=Qd (HE.out W hW).2.2;clear HE hW
     go_upto_region 7 with (fail)
     refine YD (by kernel_rfl) (by kernel_rfl) (RF W s0 w.heap.size (.slice (Zp g) C.length cv) (.slice au P.length cu) C P h' kk x1) (fun Z _ hZ=>QeM hj0 rfl rfl rfl rfl rfl rfl hZ) ⟨e0 rfl,e1,e2 rfl,e3 hj0 rfl rfl rfl rfl rfl,e4 rfl,e5,e6 rfl,e7 hj0 rfl rfl rfl rfl rfl,e8 hj0 rfl rfl rfl,e9 hj0 rfl rfl rfl,trivial⟩ ?_
     intro L a7 w7 hall hI;obtain⟨v',u',hjs,hb7⟩:=QkV hI hall;have HF:Hid ((∃v' u',JS w7 s0 v' u' (cov 0 ((k+1)*pw h)) (dgF F (cov 0 ((k+1)*pw h))))∧Below (s0+1) w w7):=⟨⟨v',u',HN.out _ _ _ hjs⟩,HBe.out.trans hb7⟩;exact bodyPost_end (results_none rfl a7.tmps prog w7) hI.df ⟨rfl,HF.out⟩
end
section
open Cv (RdC zl cU cov Row)
open Pl (pw)
theorem QdJ(L:List (Nat×Nat))(j:Nat):(zl L).getD j (0,0)=(((L.getD j (0,0)).1:Int),(L.getD j (0,0)).2):=by
 unfold zl;rw[Lc,Lc,No]
 cases L[j]? <;> rfl
theorem Qhw{α:Type}(d:α){L:List α}{j:Nat}(hj:j<L.length):L.drop j=L.getD j d::L.drop (j+1):=by
 rw[L8 hj,Lc,Ll hj];rfl
theorem QjT(w:World)(o:Obj):JS (((w.alloc o).alloc (.cells #[.slice none 0 0] 187)).alloc (.cells #[.slice none 0 0] 22)) w.heap.size (.slice none 0 0) (.slice none 0 0) [] []:=by
 refine⟨?_,?_,Np _ _ _ _,Um _ _⟩
 ·have h1:=Lt (w.alloc o) (.cells #[.slice none 0 0] 187);rw[LN] at h1;exact(Cv.QL _ (by simp)).trans h1
 ·have h1:=Lt ((w.alloc o).alloc (.cells #[.slice none 0 0] 187)) (.cells #[.slice none 0 0] 22);rw[LN,LN] at h1;exact h1
theorem Qft(w:World)(ht:Tb w)(kd K:Int)(old size:Nat)(sa:OA)(ns sc:Nat)(da:OA)(db dO dc:Nat)(D:LB)(hr:RdS w da db dO D.length D)(ao:OA)(g cap n:Nat)(L:List (Nat×Nat))(hB:RdB w ao g 0 L.length (zl L))(hrow:Row n 0 L)(hn:n<=2^40)(hl:D.length=L.length)(hm:L.length<=1000)(F:Nat->Nat->BA)(hJ:Jn (clk K) L D F) :
  Calls prog 139 #[.slice ao L.length cap,vP kd K old size (.slice sa ns sc) (.slice da D.length dc)] w fun e w'=> ∃v,e= .returned v∧Qg w' w.heap.size v (dgF F (cov 0 n))∧Below w.heap.size w w':=by
 obtain⟨o1,ho1⟩:∃o1,oP kd K old size (.slice sa ns sc) (.slice da D.length dc)=o1:=⟨_,rfl⟩;have hj0:=QjT w o1;have hb0:Below w.heap.size w (((w.alloc o1).alloc (.cells #[.slice none 0 0] 187)).alloc (.cells #[.slice none 0 0] 22)):=bal (bal (bal (Lb _ _) _) _) _;have h6:Six (((w.alloc o1).alloc (.cells #[.slice none 0 0] 187)).alloc (.cells #[.slice none 0 0] 22)) w.heap.size (.int .i64 kd) (.int .i64 K) (.int .u64 old) (.int .u64 size) (.slice sa ns sc) (.slice da D.length dc):=by
  rw[<-ho1];exact(Yl w _ _ _ _ _ _).next (bal (bal (Lb _ _) _) _)
 obtain⟨W0,hW0⟩:∃W0,(((w.alloc o1).alloc (.cells #[.slice none 0 0] 187)).alloc (.cells #[.slice none 0 0] 22))=W0:=⟨_,rfl⟩;rw[hW0] at hj0 hb0 h6;have HX:Hid (∀Z,Below (w.heap.size+1) W0 Z->Below w.heap.size w Z∧Tb Z∧RdS Z da db dO D.length D∧RdB Z ao g 0 L.length (zl L)∧Six Z w.heap.size (.int .i64 kd) (.int .i64 K) (.int .u64 old) (.int .u64 size) (.slice sa ns sc) (.slice da D.length dc)):=fun Z hZ=>by
  have h1:Below w.heap.size w Z:=hb0.trans (hZ.mono (by omega))
  exact⟨h1,ht.next h1,hr.next h1 (La _),hB.below h1,h6.same (hZ.block _ (by omega))⟩
 have HR:Hid (Row n 0 L∧n<=2^40∧D.length=L.length∧L.length<=1000∧Jn (clk K) L D F):=⟨hrow,hn,hl,hm,hJ⟩;have HJ0:=Qd hj0;have hm1:(L.length:Int)<=1000:=by omega
 have hW0':=hW0;rw[<-ho1] at hW0;unfold oP at hW0;clear ht hr hB hrow hn hl hm hJ hj0 hb0 h6 ho1 hW0';unfold vP
 go_enter func139,ntmps139;go_wp2
 go_loopg [13] L.length (fun gg i wr=> ∃(j e:Nat) (v u:Value),j<=L.length∧gg=L.length-j∧i= .int .i64 j∧Hid (Row n e (L.drop j)∧JS wr w.heap.size v u (cov 0 e) (dgF F (cov 0 e))∧Below (w.heap.size+1) W0 wr))
 case atStart=>
  go_light
  try rw[hW0]
  refine⟨0,0,.slice none 0 0,.slice none 0 0,Ln _,rfl,rfl,HR.out.1,?_,Lb _ _⟩
  rw[Qi7];exact HJ0.out
 case round=>
  obtain⟨j,e,v,u,hj,rfl,rfl,HI⟩:=hrel;clear HJ0;obtain⟨hbw,htb,hrd,hrb,hsix⟩:=HX.out wr HI.out.2.2
  by_cases hlt:j<L.length
  ·have hz:(j:Int)<(L.length:Int):=by omega
   have hz0:(0:Int)<=(j:Int):=Lh _;have hdr:=Qhw (0,0) hlt;have hin:=Qkd hlt;obtain⟨⟨h,k⟩,hhk⟩:∃b,L.getD j (0,0)=b:=⟨_,rfl⟩;rw[hhk] at hdr hin;have hro:=HI.out.1;rw[hdr] at hro;obtain⟨r1,r2,r3,r4⟩:=hro
   dsimp only at r1 r2 r3 r4
   have r5:=Qdo r4;obtain rfl:=hrb.addr (by omega)
   obtain⟨c0,c1⟩:=hrb.cell j hlt;rw[QdJ,hhk] at c0 c1
   dsimp only at c0 c1
   rw[Lo] at c0 c1;have hltD:j<D.length:=by have:=HR.out.2.2.1;omega
   obtain rfl:=hrd.ptr (by omega)
   have d0:=hrd.at hltD;obtain⟨d,hd⟩:∃d,D.getD j ByteArray.empty=d:=⟨_,rfl⟩;rw[hd] at d0;have hFd:F h k=d:=by
    have:=HR.out.2.2.2.2.at' j hlt;rw[hhk] at this;rw[<-hd];exact this
   have hJs:=HI.out.2.1;rw[r1] at hJs;have hDz:(j:Int)<(D.length:Int):=by omega
   have p5:=hsix.cells.2.2.2.2.2;have t1:=QbO wr 0 0;have hb1:=bal (Lb wr.heap.size wr) (.cells #[.int .i64 0,.int .u64 ((0:Nat):Int)] 249);rw[show((0:Nat):Int)=0 from rfl] at hb1
   have t1':Tw (wr.alloc (.cells #[.int .i64 0,.int .u64 0] 249)) wr.heap.size 0 0:=t1;obtain⟨W1,hW1⟩:∃W1,wr.alloc (.cells #[.int .i64 0,.int .u64 0] 249)=W1:=⟨_,rfl⟩;rw[hW1] at t1' hb1;obtain⟨q0,q1⟩:=t1'.cells;have f0:=t1'.fz 0;have f1:=t1'.fz 1;have t2:=t1'.put (h:Int) k;have hch:=QaV W1 wr.heap.size (h:Int) k;obtain⟨W2,hW2⟩:∃W2,putB W1 wr.heap.size (h:Int) k=W2:=⟨_,rfl⟩;rw[hW2] at t2 hch;have hb2:Below wr.heap.size wr W2:=hb1.trans (hch.below (by rintro b rfl;exact La _))
   have hls:w.heap.size+2<wr.heap.size:=hJs.lt;have HS:Hid (∀Z,Below W2.heap.size W2 Z->Z.cell? ⟨wr.heap.size,0,none⟩=some (.int .i64 h)∧Z.cell? ⟨wr.heap.size,1,none⟩=some (.int .u64 k)∧Z.cell? ⟨w.heap.size,5,none⟩=some (.slice (some ⟨db,dO,none⟩) D.length dc)∧Z.cell? ⟨db,dO+j,none⟩=some (.string d)):=fun Z hZ=>by
    have h1:=Qa hb2 hZ;have h2:=HX.out Z (HI.out.2.2.trans (h1.mono (by omega)))
    refine⟨(t2.next hZ).cells.1,(t2.next hZ).cells.2,h2.2.2.2.2.cells.2.2.2.2.2,?_⟩
    rw[<-hd];exact h2.2.2.1.at hltD
   have HC:Hid (∀Z,Below W2.heap.size W2 Z->Calls prog 225 #[.agg #[.int .i64 h,.int .u64 k],.string d,.pointer (some ⟨w.heap.size+1,0,none⟩),Pq w.heap.size,.pointer (some ⟨w.heap.size+1+1,0,none⟩)] Z fun e w'=>e= .returned (.tuple #[])∧(∃v' u',JS w' w.heap.size v' u' (cov 0 ((k+1)*pw h)) (dgF F (cov 0 ((k+1)*pw h))))∧Below (w.heap.size+1) Z w'):=fun Z hZ=>by
    have h1:=Qa hb2 hZ;have h2:Below (w.heap.size+1) W0 Z:=HI.out.2.2.trans (h1.mono (by omega))
    exact Qbo Z w.heap.size K F h k v u (hJs.next h1) (Lu r5 HR.out.2.1) (fun Y hY=>(HX.out Y (h2.trans hY)).2.1) (HX.out Z h2).2.2.2.2.cells.2.1 (fun h' q a1 a2=>HR.out.2.2.2.2.join HR.out.1 hin a1 a2) HR.out.2.2.2.2.sz d hFd
   have HF:Hid (Row n ((k+1)*pw h) (L.drop (j+1))∧(∀Z Y,Below W2.heap.size W2 Z->Below (w.heap.size+1) Z Y->Below (w.heap.size+1) W0 Y)):=⟨r4,fun Z Y h1 h2=>(HI.out.2.2.trans ((Qa hb2 h1).mono (by omega))).trans h2⟩
   have hbr:=Lb W2.heap.size W2;unfold putB at hW2;clear hbw htb hrd hrb hsix hdr hin hhk r1 r2 r3 r4 r5 hFd hJs hd t1 t1' t2 hch hb1 hb2 HI
   go_upto_region 7 with (fail)
   refine QZ (by kernel_rfl) [18,19,20,21,22,23,24,25] [] [Value.func (Fn.func 225) #[] #[.pointer (some ⟨w.heap.size+1,0,none⟩),Pq w.heap.size,.pointer (some ⟨w.heap.size+1+1,0,none⟩)],.agg #[.int .i64 h,.int .u64 k],.pointer (some ⟨w.heap.size,5,none⟩),.slice (some ⟨db,dO,none⟩) D.length dc,.int .i64 j,.pointer (some ⟨db,dO+j,none⟩),.string d,.tuple #[]] (by kernel_rfl) rfl (fun j hj=>by cases hj) (fun L Z=>(L 7=false->Below W2.heap.size W2 Z)∧(L 7=true->(∃v' u',JS Z w.heap.size v' u' (cov 0 ((k+1)*pw h)) (dgF F (cov 0 ((k+1)*pw h))))∧Below (w.heap.size+1) W0 Z)) (fun Z _ hb=>⟨fun _=>hb,fun h=>by cases h⟩) ?step ?fin
   case step=>
    refine⟨?_,?_,?_,?_,?_,?_,?_,?_,trivial⟩
    ·intro L Ac Wc K hI hj hcl hsm dep hK;have t7:Ac.tmps.getD 7 undef=Value.func (Fn.func 225) #[] #[.pointer (some ⟨w.heap.size+1,0,none⟩),Pq w.heap.size,.pointer (some ⟨w.heap.size+1+1,0,none⟩)]:=hsm 7 rfl
     show Oper.wp _ _ Ac Wc K _
     go_simp
     exact hK _ _ (.inr rfl) hI
    ·intro L Ac Wc K hI hj hcl hsm dep hK;have t9:Ac.tmps.getD 9 undef=Pq wr.heap.size:=hsm 9 rfl
     show Oper.wp _ _ Ac Wc K _
     have hL:L 7=false:=by
      cases h:L 7 with
      | false=>rfl
      | true=>rw[hcl 7 1 h rfl] at hj;cases hj
     obtain⟨k1,k2,k3,k4⟩:=HS.out Wc (hI.1 hL)
     go_simp
     exact hK _ _ (.inr rfl) hI
    ·intro L Ac Wc K hI hj hcl hsm dep hK;have t3:Ac.tmps.getD 3 undef=Pq w.heap.size:=hsm 3 rfl
     show Oper.wp _ _ Ac Wc K _
     go_simp
     exact hK _ _ (.inr rfl) hI
    ·intro L Ac Wc K hI hj hcl hsm dep hK;have t20:Ac.tmps.getD 20 undef= .pointer (some ⟨w.heap.size,5,none⟩):=dep 2 rfl
     show Oper.wp _ _ Ac Wc K _
     have hL:L 7=false:=by
      cases h:L 7 with
      | false=>rfl
      | true=>rw[hcl 5 3 (hcl 6 5 (hcl 7 6 h rfl) rfl) rfl] at hj;cases hj
     obtain⟨k1,k2,k3,k4⟩:=HS.out Wc (hI.1 hL)
     go_simp
     exact hK _ _ (.inr rfl) hI
    ·intro L Ac Wc K hI hj hcl hsm dep hK;have t8:Ac.tmps.getD 8 undef= .int .i64 j:=hsm 8 rfl
     show Oper.wp _ _ Ac Wc K _
     go_simp
     exact hK _ _ (.inr rfl) hI
    ·intro L Ac Wc K hI hj hcl hsm dep hK;have t21:Ac.tmps.getD 21 undef= .slice (some ⟨db,dO,none⟩) D.length dc:=dep 3 rfl;have t22:Ac.tmps.getD 22 undef= .int .i64 j:=dep 4 rfl
     show Oper.wp _ _ Ac Wc K _
     go_simp
     exact hK _ _ (.inr rfl) hI
    ·intro L Ac Wc K hI hj hcl hsm dep hK;have t23:Ac.tmps.getD 23 undef= .pointer (some ⟨db,dO+j,none⟩):=dep 5 rfl
     show Oper.wp _ _ Ac Wc K _
     have hL:L 7=false:=by
      cases h:L 7 with
      | false=>rfl
      | true=>rw[hcl 7 6 h rfl] at hj;cases hj
     obtain⟨k1,k2,k3,k4⟩:=HS.out Wc (hI.1 hL)
     go_simp
     exact hK _ _ (.inr rfl) hI
    ·intro L Ac Wc K hI hj hcl hsm dep hK;have t18:Ac.tmps.getD 18 undef=Value.func (Fn.func 225) #[] #[.pointer (some ⟨w.heap.size+1,0,none⟩),Pq w.heap.size,.pointer (some ⟨w.heap.size+1+1,0,none⟩)]:=dep 0 rfl;have t19:Ac.tmps.getD 19 undef= .agg #[.int .i64 h,.int .u64 k]:=dep 1 rfl;have t24:Ac.tmps.getD 24 undef= .string d:=dep 6 rfl
     show Oper.wp _ _ Ac Wc K _
     go_simp
     refine(HC.out Wc (hI.1 hj)).mono ?_
     rintro e w' ⟨rfl,hjs,hb'⟩;exact hK _ _ (.inr rfl) ⟨fun h=>by simp at h,fun _=>⟨hjs,HF.out.2 _ _ (hI.1 hj) hb'⟩⟩
   case fin=>
    intro L7 W7 hall hI;obtain⟨⟨v7,u7,hj7⟩,hb7⟩:=hI.2 (hall 7 (by decide))
    have HY:Hid (JS W7 w.heap.size v7 u7 (cov 0 ((k+1)*pw h)) (dgF F (cov 0 ((k+1)*pw h)))∧Below (w.heap.size+1) W0 W7):=⟨hj7,hb7⟩;clear hall hI hj7 hb7 HC HS q0 q1 f0 f1 hW1 hW2 hbr c0 c1 d0 p5;simp only[Ue]
    go_simp
    go_wp2
    go_roundg (L.length-(j+1))
    case rel=>go_light;exact⟨j+1,_,v7,u7,by omega,rfl,by go_num,HF.out.1,HY.out.1,HY.out.2⟩
    case measure=>go_light;omega
  ·obtain rfl:j=L.length:=by omega
   have hz:¬((L.length:Int)<(L.length:Int)):=by omega
   have hen:=HI.out.1;rw[Wn] at hen;have hen:e=n:=hen;have hJs:=HI.out.2.1;rw[hen] at hJs;obtain⟨ua,un,uc,rfl⟩:=Cv.Ql hJs.op;have c2:=cell_of_one hJs.cp;have HY:Hid (Qg wr w.heap.size (.slice ua un uc) (dgF F (cov 0 n))∧Below w.heap.size w wr):=⟨World.ownsRow.mono hJs.op (by omega),hbw⟩
   clear hrd hrb hsix htb hbw hJs hen HI hlt;go_wp2
   go_ret
   exact⟨_,rfl,HY.out.1,HY.out.2⟩
end
section
open Cv (RdC zl cU cov)
open Pl (pw)
def kOld(c old:Nat)(D:LB):BA:=dg c (YA old (QU c (D.take (cov 0 old).length)))
def kNow(c size:Nat)(F:Nat->Nat->BA):BA:=dg c (YA size (QU c (dgF F (cov 0 size))))
theorem Qib{w W:World}{ao:OA}{g n:Nat}{l:List (Int×Nat)}(r:RdB w ao g 0 n l)(h:0<n->W.heap[g]? = w.heap[g]?):RdB W ao g 0 n l :=
 ⟨r.len,r.addr,fun j hj=>⟨(LI (h (by omega))).trans (r.cell j hj).1,(LI (h (by omega))).trans (r.cell j hj).2⟩,r.fit⟩
theorem QoY{w:World}{ao:OA}{g n q m:Nat}{d:BA}{l:List (Int×Nat)}(r:RdB w ao g 0 n l)(h0:0<n)(hq:Rh w q m d)(e:g=q):False:=by
 subst e;have h1:=(r.cell 0 h0).1;rw[Wu,Lo,hq.cells.1] at h1
 cases h1
theorem kroots_ok (w:World) (ht:Tb w) (k:Int) (old size:Nat) (sa:OA) (sc:Nat) (da:OA) (db dO dc:Nat) (D:LB) (hr:RdS w da db dO D.length D) (hdc:D.length<=dc) (hok:okK 3 k old size 0 D) (F:Nat->Nat->BA) (hJ:Jn (clk k) (kb old size) D F) (r1 r2:BA) (hr1:kOld (clk k) old D=r1) (hr2:kNow (clk k) size F=r2) :
    Calls prog 80 #[vP 3 k old size (.slice sa 0 sc) (.slice da D.length dc)] w fun e w'=>e= .returned (.tuple #[.agg #[.int .u64 old,.string r1],.agg #[.int .u64 size,.string r2],.int .i64 0])∧Below w.heap.size w w':=by
  obtain⟨W0,hW0⟩:∃W0,((w.alloc (.cells #[.int .i64 3,.int .i64 k,.int .u64 old,.int .u64 size,.slice sa 0 sc,.slice da D.length dc] 138)).alloc (.cells #[.int .u64 0,.string ⟨#[]⟩] 50)).alloc (.cells #[.int .u64 0,.string ⟨#[]⟩] 50)=W0:=⟨_,rfl⟩;obtain⟨h3,hb⟩:=QjU w 3 k old size (.slice sa 0 sc) (.slice da D.length dc) hW0;obtain⟨c0,c1,c2,c3,c4,c5⟩:=h3.six.cells;have H3:=Qd h3;obtain⟨h1,h2⟩:=hok;have hos:old<=size:=h1.2.2.1;have hs40:size<=2^40:=h1.2.1;have hkk:1<=k∧k<=32:=h1.1.2;have hfl:D.length=(kb old size).length:=h2.1;have hfs:∀d∈D,(d.size:Int)=k:=h2.2;have hkl:=Qfu hos hs40;have hmm:D.length<=8796093022208:=by omega
  have hon:(cov 0 old).length<=D.length:=by rw[hfl,kb,Le];omega
  have ho1:=Cv.Ot old (by omega)
  obtain⟨t,htl⟩:∃t,(cov 0 old).length=t:=⟨_,rfl⟩;rw[htl] at ho1 hon;have HI:Hid (∀W,Calls prog 136 #[vP 3 k old size (.slice sa 0 sc) (.slice da D.length dc)] W fun e w'=>e= .returned (.bool true)∧Below W.heap.size W w'):=fun W=>QjN W 3 k old size sa 0 sc da D.length dc true (LV h1)
  have HBk:Hid (∀W,Calls prog 133 #[.int .u64 old,.int .u64 size] W fun e w'=> ∃ao g cap,e= .returned (.slice ao (kb old size).length cap)∧RdB w' ao g 0 (kb old size).length (zl (kb old size))∧Below W.heap.size W w'):=fun W=>(On W old size hos hs40).mono fun e w' ⟨v,e1,e2,e3⟩=>by
    obtain⟨ao,g,n',cap,rfl,hr',_⟩:=Jd e2 (fun x hx=>by
      obtain⟨b0,hb0,rfl⟩:=List.mem_map.1 hx;exact(Qbe (QnT hos hs40 b0 hb0) hs40).1)
    have hl:=hr'.len;rw[Cv.Qy] at hl;subst hl;exact⟨ao,g,cap,e1,hr',e3⟩
  have HF:Hid (∀W ao c,Below w.heap.size w W->Calls prog 137 #[.slice ao (kb old size).length c,vP 3 k old size (.slice sa 0 sc) (.slice da D.length dc)] W fun e w'=>e= .returned (.bool true)∧Below W.heap.size W w'):=fun W ao c hb=>QcS W 3 k old size sa 0 sc da db dO dc D (hr.next hb (La _)) hmm ao (kb old size).length c true (LV h2)
  have HO:Hid (∀W,Calls prog 138 #[.int .u64 old] W fun e w'=>e= .returned (.int .i64 t)∧W=w'):=fun W=>by
    have:=Pl.UT old W (by omega)
    rw[<-ho1] at this;exact this.mono fun _ _ h=>⟨h.1,h.2.symm⟩
  have HR1:Hid (∀W,Below w.heap.size w W->Calls prog 107 #[.int .i64 k,.int .u64 old,.slice da t dc] W fun e w'=>e= .returned (.string r1)∧Below W.heap.size W w'):=fun W hb=>by
    have hrd:=OS (hr.next hb (La _)) hon;rw[LA,Ix hon] at hrd;exact JA W (ht.next hb) k old da db dO t dc (D.take t) hrd (fun s hs=>by have:=hfs s (Nm hs);omega) (by omega) r1 (by rw[<-hr1,kOld,htl])
  have HJd:Hid (∀W ao g cap,Below w.heap.size w W->RdB W ao g 0 (kb old size).length (zl (kb old size))->Calls prog 139 #[.slice ao (kb old size).length cap,vP 3 k old size (.slice sa 0 sc) (.slice da D.length dc)] W fun e w'=> ∃ap bp cp,e= .returned (.slice ap (cov 0 size).length cp)∧RdS w' ap bp 0 (cov 0 size).length (dgF F (cov 0 size))∧Below W.heap.size W w'):=fun W ao g cap hb hB=>by
    refine(Qft W (ht.next hb) 3 k old size sa 0 sc da db dO dc D (hr.next hb (La _)) ao g cap size (kb old size) hB (QjV hos hs40) hs40 hfl (by omega) F hJ).mono fun e w' ⟨v,e1,e2,e3⟩=> ?_
    obtain⟨aP,bP,cP,rfl,rP,_,_⟩:=QH e2 (fun s hs=>by
      obtain⟨b,_,rfl⟩:=List.mem_map.1 hs;have:=hJ.sz b.1 b.2;omega)
    rw[LC] at e1 rP;exact⟨aP,bP,cP,e1,rP,e3⟩
  have hsl:=Cv.UM size hs40;have HR2:Hid (∀W ap bp cp,Below w.heap.size w W->RdS W ap bp 0 (cov 0 size).length (dgF F (cov 0 size))->Calls prog 107 #[.int .i64 k,.int .u64 size,.slice ap (cov 0 size).length cp] W fun e w'=>e= .returned (.string r2)∧Below W.heap.size W w'):=fun W ap bp cp hb hR=>JA W (ht.next hb) k size ap bp 0 (cov 0 size).length cp (dgF F (cov 0 size)) hR (fun s hs=>by
                                obtain⟨b,_,rfl⟩:=List.mem_map.1 hs;have:=hJ.sz b.1 b.2;omega) (by omega) r2 (by rw[<-hr2,kNow])
  have htz:(t:Int)<=(D.length:Int):=by omega
  have htc:(t:Int)<=(dc:Int):=by omega
  have ht0:(0:Int)<=(t:Int):=Lh _;obtain⟨lb,hlb⟩:∃lb,(kb old size).length=lb:=⟨_,rfl⟩;obtain⟨zb,hzb⟩:∃zb,zl (kb old size)=zb:=⟨_,rfl⟩;obtain⟨ls,hls⟩:∃ls,(cov 0 size).length=ls:=⟨_,rfl⟩;obtain⟨P,hP⟩:∃P,dgF F (cov 0 size)=P:=⟨_,rfl⟩;rw[hlb,hzb] at HBk HJd;rw[hlb] at HF;rw[hls,hP] at HJd HR2;clear ht hr hdc h1 h2 hos hs40 hkk hfl hfs hkl hmm hon ho1 htl hJ hr1 hr2 hsl h3 hlb hzb hls hP;unfold vP at HI HF HJd;unfold vP
  go_enter func80,ntmps80
  go_upto_region 6 with (first
    | (go_at_call 136;with_reducible refine(HI.out _).mono ?_;rintro e w1 ⟨rfl,hb1⟩;obtain⟨d0,d1,d2,d3,d4,d5⟩:=(H3.out.next hb1).six.cells)
    | (go_at_call 133;with_reducible refine(HBk.out _).mono ?_;rintro e w2 ⟨ao,g,cap,rfl,hB2,hb2⟩;obtain⟨g0,g1,g2,g3,g4,g5⟩:=(H3.out.next (Qa hb1 hb2)).six.cells)
    | (go_at_call 137;with_reducible refine(HF.out _ _ _ (Qa (Qa hb hb1) hb2)).mono ?_;rintro e w3 ⟨rfl,hb3⟩))
  have hK3:=H3.out.next (Qa (Qa hb1 hb2) hb3);have hB3:=hB2.below hb3;have hbw:=Qa (Qa (Qa hb hb1) hb2) hb3;have HK:Hid (∀Z,Below w3.heap.size w3 Z->Below w.heap.size w Z∧K3 Z w.heap.size 3 k old size (.slice sa 0 sc) (.slice da D.length dc) 0 ⟨#[]⟩ 0 ⟨#[]⟩∧RdB Z ao g 0 lb zb):=fun Z hZ=>⟨Qa hbw hZ,hK3.next hZ,hB3.below hZ⟩
  have hb0:=Lb w3.heap.size w3;clear H3 HI HBk HF hb hb1 hb2 hb3 hW0 c0 c1 c2 c3 c4 c5 d0 d1 d2 d3 d4 d5 g0 g1 g2 g3 g4 g5 hB2 hK3 hB3 hbw;have HC:Hid (∀Z,Below w3.heap.size w3 Z->Z.cell? ⟨w.heap.size,5,none⟩=some (.slice da D.length dc)∧Z.cell? ⟨w.heap.size,2,none⟩=some (.int .u64 old)):=fun Z hZ=>by
    obtain⟨_,_,x2,_,_,x5⟩:=(HK.out Z hZ).2.1.six.cells;exact⟨x5,x2⟩
  go_region_held3 (fun Z=>Z.cell? ⟨w.heap.size,5,none⟩=some (.slice da D.length dc)∧Z.cell? ⟨w.heap.size,2,none⟩=some (.int .u64 old))
    (exact HC.out _ (by first|exact hb0|exact hb0.drew)) (first
    | (go_at_call 138;with_reducible refine(HO.out _).mono ?_;rintro e w4 ⟨rfl,rfl⟩))
  have hb7:=hb0.drew;obtain⟨W7,hW7⟩:∃W7,w3.drew=W7:=⟨_,rfl⟩;rw[hW7] at hb7 ⊢;have HK7:Hid (∀Z,Below W7.heap.size W7 Z->Below w.heap.size w Z∧K3 Z w.heap.size 3 k old size (.slice sa 0 sc) (.slice da D.length dc) 0 ⟨#[]⟩ 0 ⟨#[]⟩∧RdB Z ao g 0 lb zb):=fun Z hZ=>HK.out Z (Qa hb7 hZ)
  clear hW7 hb7 HK HC hb0;have HC7:Hid (∀Z,Below W7.heap.size W7 Z->Z.cell? ⟨w.heap.size,1,none⟩=some (.int .i64 k)∧Z.cell? ⟨w.heap.size,2,none⟩=some (.int .u64 old)):=fun Z hZ=>by
    obtain⟨_,x1,x2,_,_,x5⟩:=(HK7.out Z hZ).2.1.six.cells;exact⟨x1,x2⟩
  have HP7:Hid (∀Z a b,Below W7.heap.size W7 Z->((Z.setCell ⟨w.heap.size+1,0,none⟩ a).setCell ⟨w.heap.size+1,1,none⟩ b).cell? ⟨w.heap.size,1,none⟩=some (.int .i64 k)∧((Z.setCell ⟨w.heap.size+1,0,none⟩ a).setCell ⟨w.heap.size+1,1,none⟩ b).cell? ⟨w.heap.size,2,none⟩=some (.int .u64 old)):=fun Z a b hZ=>by
    obtain⟨x1,x2⟩:=HC7.out Z hZ;exact⟨(Lq _ _ _ _ (by simp)).trans ((Lq _ _ _ _ (by simp)).trans x1),(Lq _ _ _ _ (by simp)).trans ((Lq _ _ _ _ (by simp)).trans x2)⟩
  have hb0:=Lb W7.heap.size W7
  go_upto_region 7 with (fail)
  go_region_held3 (fun Z=>Z.cell? ⟨w.heap.size,1,none⟩=some (.int .i64 k)∧Z.cell? ⟨w.heap.size,2,none⟩=some (.int .u64 old))
    (first|exact HC7.out _ (by first|exact hb0|exact hb0.drew|exact hb8)|exact HP7.out _ _ _ (by first|exact hb0|exact hb0.drew|exact hb8)) (first
    | (go_at_call 107;with_reducible refine(HR1.out _ (HK7.out _ (by first|exact hb0.drew|exact hb0)).1).mono ?_;rintro e w8 ⟨rfl,hb8'⟩
       have hb8:Below W7.heap.size W7 w8:=by first|exact Qa hb0.drew hb8'|exact Qa hb0 hb8'
       have hK8:=HK7.out w8 hb8;obtain⟨k0,k1⟩:=hK8.2.1.r1.cells;have f0:=hK8.2.1.r1.fz))
  all_goals
    have hK9:=hK8.2.1.put1 old r1;have hc9:=Uz w8 (w.heap.size+1) old r1;obtain⟨W9,hW9⟩:∃W9,putR w8 (w.heap.size+1) old r1=W9:=⟨_,rfl⟩;rw[hW9] at hK9 hc9;unfold putR at hW9;rw[hW9];have hb9:Below w.heap.size w W9:=hK8.1.trans (hc9.below (by rintro b rfl;omega))
    have hB9:RdB W9 ao g 0 lb zb:=Qib hK8.2.2 (fun h0=>hc9.block g (by
      intro e;exact QoY hK8.2.2 h0 hK8.2.1.r1 e))
    have HK9:Hid (∀Z,Below W9.heap.size W9 Z->Below w.heap.size w Z∧K3 Z w.heap.size 3 k old size (.slice sa 0 sc) (.slice da D.length dc) old r1 0 ⟨#[]⟩∧RdB Z ao g 0 lb zb):=fun Z hZ=>⟨Qa hb9 hZ,hK9.next hZ,hB9.below hZ⟩
    clear hK9 hc9 hW9 hb9 hB9 HK7 HC7 HP7 hb0 hb8 hb8' hK8 k0 k1 f0 HR1;have HC9:Hid (∀Z,Below W9.heap.size W9 Z->Z.cell? ⟨w.heap.size,0,none⟩=some (.int .i64 3)∧Z.cell? ⟨w.heap.size,1,none⟩=some (.int .i64 k)∧Z.cell? ⟨w.heap.size,2,none⟩=some (.int .u64 old)∧Z.cell? ⟨w.heap.size,3,none⟩=some (.int .u64 size)∧Z.cell? ⟨w.heap.size,4,none⟩=some (.slice sa 0 sc)∧Z.cell? ⟨w.heap.size,5,none⟩=some (.slice da D.length dc)):=fun Z hZ=>(HK9.out Z hZ).2.1.six.cells
    have HP9:Hid (∀Y a b,Below W9.heap.size W9 Y -> ∀Z,(Y.setCell ⟨w.heap.size+1+1,0,none⟩ a).setCell ⟨w.heap.size+1+1,1,none⟩ b=Z->Z.cell? ⟨w.heap.size,0,none⟩=some (.int .i64 3)∧Z.cell? ⟨w.heap.size,1,none⟩=some (.int .i64 k)∧Z.cell? ⟨w.heap.size,2,none⟩=some (.int .u64 old)∧Z.cell? ⟨w.heap.size,3,none⟩=some (.int .u64 size)∧Z.cell? ⟨w.heap.size,4,none⟩=some (.slice sa 0 sc)∧Z.cell? ⟨w.heap.size,5,none⟩=some (.slice da D.length dc)):=fun Y a b hY Z hZ=>by
      subst hZ;obtain⟨x0,x1,x2,x3,x4,x5⟩:=HC9.out Y hY;exact⟨(Lq _ _ _ _ (by simp)).trans ((Lq _ _ _ _ (by simp)).trans x0),(Lq _ _ _ _ (by simp)).trans ((Lq _ _ _ _ (by simp)).trans x1),(Lq _ _ _ _ (by simp)).trans ((Lq _ _ _ _ (by simp)).trans x2),(Lq _ _ _ _ (by simp)).trans ((Lq _ _ _ _ (by simp)).trans x3),(Lq _ _ _ _ (by simp)).trans ((Lq _ _ _ _ (by simp)).trans x4),(Lq _ _ _ _ (by simp)).trans ((Lq _ _ _ _ (by simp)).trans x5)⟩
    have hb0:=Lb W9.heap.size W9
    go_upto_region 8 with (fail)
    go_region_held3 (fun Z=>Z.cell? ⟨w.heap.size,0,none⟩=some (.int .i64 3)∧Z.cell? ⟨w.heap.size,1,none⟩=some (.int .i64 k)∧Z.cell? ⟨w.heap.size,2,none⟩=some (.int .u64 old)∧Z.cell? ⟨w.heap.size,3,none⟩=some (.int .u64 size)∧Z.cell? ⟨w.heap.size,4,none⟩=some (.slice sa 0 sc)∧Z.cell? ⟨w.heap.size,5,none⟩=some (.slice da D.length dc))
      (first|exact HC9.out _ (by first|exact hb0|exact hb0.drew|exact hb10|exact hb11)|exact HP9.out _ _ _ (by first|exact hb0|exact hb0.drew|exact hb11) _ rfl) (first
      | (go_at_call 139;with_reducible refine(HJd.out _ _ _ _ (HK9.out _ (by first|exact hb0.drew|exact hb0)).1 (HK9.out _ (by first|exact hb0.drew|exact hb0)).2.2).mono ?_;rintro e w10 ⟨ap,bp,cp,rfl,hR10,hb10'⟩
         have hb10:Below W9.heap.size W9 w10:=by first|exact Qa hb0.drew hb10'|exact Qa hb0 hb10')
      | (go_at_call 107;with_reducible refine(HR2.out _ _ _ _ (HK9.out _ hb10).1 hR10).mono ?_;rintro e w11 ⟨rfl,hb11'⟩
         have hb11:Below W9.heap.size W9 w11:=Qa hb10 hb11';have hK11:=HK9.out w11 hb11;obtain⟨k0,k1⟩:=hK11.2.1.r2.cells;have f0:=hK11.2.1.r2.fz))
    all_goals
      have hK12:=hK11.2.1.put2 size r2;have hc12:=Uz w11 (w.heap.size+2) size r2;obtain⟨W12,hW12⟩:∃W12,putR w11 (w.heap.size+2) size r2=W12:=⟨_,rfl⟩;rw[hW12] at hK12 hc12;unfold putR at hW12;rw[hW12];have hb12:Below w.heap.size w W12:=hK11.1.trans (hc12.below (by rintro b rfl;omega))
      obtain⟨x0,x1⟩:=hK12.r1.cells;obtain⟨x2,x3⟩:=hK12.r2.cells;have fa:=hK12.r1.fz;have fb:=hK12.r2.fz;have hK14:=(hK12.put1 old r1).put2 size r2;have hc13:=Uz W12 (w.heap.size+1) old r1;have hc14:=Uz (putR W12 (w.heap.size+1) old r1) (w.heap.size+2) size r2;unfold putR at hK14 hc13 hc14;obtain⟨y0,y1⟩:=hK14.r1.cells;obtain⟨y2,y3⟩:=hK14.r2.cells;have HB:=Qd ((hb12.trans (hc13.below (by rintro b rfl;omega))).trans (hc14.below (by rintro b rfl;omega)))
      clear hc12 hW12 hb12 hc13 hc14 hK12 HK9 HC9 HP9 hb0 hb10 hb10' hb11 hb11' hK11 k0 k1 f0 HR2 HJd hR10 hK14
      go_upto_region 9 with (fail)
      go_region
      all_goals go_wp2
      all_goals refine LK (v := .tuple #[.agg #[.int .u64 old,.string r1],.agg #[.int .u64 size,.string r2],.int .i64 0]) (by simp[results,results80,go_sem,y0,y1,y2,y3]) rfl ⟨rfl,?_⟩
      all_goals exact HB.out.drew
end
end Go.Proofs.YtoblgjledefdbaaGreatDoor
