/- Own work. -/
import Derived.Test.YtdocjikpcbmcgaaGreatDoorQj16
set_option maxRecDepth 100000
set_option maxHeartbeats 4000000
namespace Go.Proofs.YtdocjikpcbmcgaaGreatDoor
open Go.RowKit
attribute [local go_sem ↓] Go.wp_at_zero Go.wp_at_succ
section
open Cv (RdC zl cU cov)
open Pl (pw)
theorem Qcy{w wr:World}{s0 q:Nat}{F:Nat->Nat->BA}{h k h' k':Nat}{v u:Value}(hl:(k+1)*pw h<=2^40)(j:JL w wr s0 q F h k h' k' v u):h'<=40∧k'<2^40∧(cov 0 (k' * pw h')).length<=40∧k' * pw h'<=2^40:=by
 have hen:=j.en;have h40:(k'+1)*pw h'<=2^40:=by rw[hen];exact hl
 have hp:=Pl.QB h';have h1:k'+1<=(k'+1)*pw h':=Nm _ hp;have h2:k' * pw h'<=(k'+1)*pw h':=Lo _ (by omega)
 exact⟨Qfm (by omega) h40,by omega,Cv.Uu _ (by omega),by omega⟩
theorem QiR(w:World)(s0:Nat)(K:Int)(F:Nat->Nat->BA)(h k:Nat)(v u:Value)(hJ:JS w s0 v u (cov 0 (k*pw h)) (dgF F (cov 0 (k*pw h))))(hl:(k+1)*pw h<=2^40)
  (hT : ∀W,Below (s0+1) w W->Tb W) (hK:w.cell? ⟨s0,1,none⟩=some (.int .i64 K))
  (hF : ∀h' q,h<=h'->(q+1)*pw (h'+1)=(k+1)*pw h->F (h'+1) q=dg (clk K) (QE (F h' (2*q)) (F h' (2*q+1)))) (hsz : ∀a b,(F a b).size<=32) (d:BA) (hd:F h k=d) :
  Calls Tryz.prog 131 #[.agg #[.int .i64 (h:Int),.int .u64 (k:Int)],.string d,.pointer (some ⟨s0+1,0,none⟩),.pointer (some ⟨s0,0,none⟩),.pointer (some ⟨s0+2,0,none⟩)] w fun e w'=>e = .returned (.tuple #[])∧(∃v' u',JS w' s0 v' u' (cov 0 ((k+1)*pw h)) (dgF F (cov 0 ((k+1)*pw h))))∧Below (s0+1) w w':=by
 have hJl:=hJ.lt;have hb:=bal (Below.refl w.heap.size w) (.cells #[.int .i64 (h:Int),.int .u64 (k:Int)] 83);have hL:JL w (w.alloc (.cells #[.int .i64 (h:Int),.int .u64 (k:Int)] 83)) s0 w.heap.size F h k h k v u :=
  ⟨hJ.next hb,QaG w _ _,fun g hg=>(Lq hJ.ot g hg).2,rfl,Lb _,hb.mono (by omega),hJl⟩
 obtain⟨ao,n,cap,rfl⟩:=Cv.Qh hJ.ot;have hn:=Og hJ.ot;rw[Cv.Qq] at hn;subst hn;have HX:Hid ((k+1)*pw h<=2^40∧(∀a b,(F a b).size<=32)∧(∀W,Below (s0+1) w W->Tb W∧W.cell? ⟨s0,1,none⟩=some (.int .i64 K))∧(∀h' q,h<=h'->(q+1)*pw (h'+1)=(k+1)*pw h->F (h'+1) q=dg (clk K) (QE (F h' (2*q)) (F h' (2*q+1))))) :=
  ⟨hl,hsz,fun W hW=>⟨hT W hW,(hW.cell (p:=⟨s0,1,none⟩) (Im s0)).trans hK⟩,hF⟩
 have HL:=Qc hL;have c0:=cell_of_one hL.js.ct;have hlen:=(Qcy hl hL).2.2.1;have hlz:((cov 0 (k*pw h)).length:Int)<=40:=by omega
 subst hd;clear hJ hJl hb hL hl hT hK hF hsz hlen
 go_enter Tryz.func131,Tryz.ntmps131;go_wp2
 go_loopg [1,7] (41 - h) (fun g dd i wr => ∃(h' k':Nat) (v u:Value),Hid (JL w wr s0 w.heap.size F h k h' k' v u)∧g=41 - h'∧dd = .string (F h' k')∧i = .int .i64 (((cov 0 (k' * pw h')).length:Int) - 1))
 case atStart =>
  go_light;exact⟨h,k,_,_,HL,by omega,rfl,rfl⟩
 case round =>
  obtain⟨h',k',v,u,HJ,rfl,rfl,rfl⟩:=hrel;clear HL c0 hlz;obtain⟨b1,b2,b3,b4⟩:=Qcy HX.out.1 HJ.out
  by_cases hpar:k' % 2=1
  ·obtain⟨a,rfl⟩ : ∃a,k'=2*a+1:=⟨k' / 2,by omega⟩
   obtain⟨C,hC⟩:=Ze (cov 0 (2*a*pw h'));have hcv:cov 0 ((2*a+1)*pw h')=C++[(h',2*a)]:=by rw[<-hC];exact Qde h' a b4
   have hjs:=HJ.out.js;rw[hcv] at hjs;have hlP:(dgF F C).length=C.length:=Ln ..;have hjs':JS wr s0 v u (C++[(h',2*a)]) (dgF F C++[F h' (2*a)]):=by rw[dgF,LK] at hjs;exact hjs
   obtain⟨g,cap,gu,cu,rfl,rfl,hc1,hc2,e1,e2,e3⟩:=Qga hjs';rw[hlP] at hc2 e3 HJ;have hix:((cov 0 ((2*a+1)*pw h')).length:Int) - 1=(C.length:Int):=by rw[hcv,Ld,L3];omega
   rw[hix];have hC40:C.length<=40:=by rw[hcv,Ld,L3] at b3;omega
   obtain⟨x0,hx0⟩:=Ze (F h' (2*a));obtain⟨x1,hx1⟩:=Ze (F h' (2*a+1));obtain⟨x2,hx2⟩:=Ze (F (h'+1) a);have hnd:dg (clk K) (QE x0 x1)=x2:=by
    rw[<-hx2,HX.out.2.2.2 h' a HJ.out.hh (by rw[<-HJ.out.en,Cv.QJ,show 2*(a+1)=2*a+1+1 by omega]),hx0,hx1]
   rw[hx0] at e3;rw[hx1];obtain⟨t,ht⟩:=Ze C.length;have HUp:Hid (∀W W',JL w W s0 w.heap.size F h k h' (2*a+1) (.slice (some ⟨g,0,none⟩) (t+1) cap) (.slice (some ⟨gu,0,none⟩) (t+1) cu)->(((putB W w.heap.size ((h'+1:Nat):Int) a).setCell ⟨s0+1,0,none⟩ (.slice (some ⟨g,0,none⟩) t cap)).setCell ⟨s0+2,0,none⟩ (.slice (some ⟨gu,0,none⟩) t cu))=W'->JL w W' s0 w.heap.size F h k (h'+1) a (.slice (some ⟨g,0,none⟩) t cap) (.slice (some ⟨gu,0,none⟩) t cu)):=fun W W' h1 h2=>by
    subst ht;exact JL.up C hC HX.out.1 h1 W' h2
   have hlen2:((cov 0 (a*pw (h'+1))).length:Int)=(t:Int):=by rw[Cv.QJ,hC,ht]
   rw[ht] at HJ e1 e2 e3 hc1 hc2 hC40 ⊢;have HE:Hid (∀W,Zb wr W->JL w W s0 w.heap.size F h k h' (2*a+1) (.slice (some ⟨g,0,none⟩) (t+1) cap) (.slice (some ⟨gu,0,none⟩) (t+1) cu)∧W.cell? ⟨g,t*2,none⟩=some (.int .i64 (h':Int))∧W.cell? ⟨g,t*2+1,none⟩=some (.int .u64 ((2*a:Nat):Int))∧W.cell? ⟨gu,t,none⟩=some (.string x0)):=fun W hW =>
    ⟨HJ.out.next hW,(hW.cell (Lh wr _ e1)).trans e1,(hW.cell (Lh wr _ e2)).trans e2,(hW.cell (Lh wr _ e3)).trans e3⟩
   have HBs:Hid (∀W,Zr 132 #[.agg #[.int .i64 (h':Int),.int .u64 ((2*a+1:Nat):Int)]] W (.agg #[.int .i64 (h':Int),.int .u64 ((2*a:Nat):Int)])):=fun W=>Qbn W h' (2*a+1) (by omega) (2*a) (by unfold sb;rw[if_pos (by omega)];omega)
   have HNo:Hid (∀W,Zb wr W->Zr 125 #[.int .i64 K,.string x0,.string x1] W (.string x2)):=fun W hW=>O4 W (HX.out.2.2.1 W ((HE.out W hW).1.be)).1 K x0 x1 (by have:=HX.out.2.1 h' (2*a);rw[hx0] at this;omega) (by have:=HX.out.2.1 h' (2*a+1);rw[hx1] at this;omega) x2 hnd
   have hz0:(0:Int)<=(t:Int):=Le _;have ht1:(t:Int)<((t+1:Nat):Int):=by omega
   have HG:Hid (h'<=40∧2*a+1<2^40∧t<=40∧t+1<=cap∧t+1<=cu∧((cov 0 (a*pw (h'+1))).length:Int)=(t:Int)∧F (h'+1) a=x2):=⟨b1,b2,hC40,hc1,hc2,hlen2,hx2⟩;obtain⟨kk,hkk⟩ : ∃kk:Nat,2*a+1=kk:=⟨_,rfl⟩;obtain⟨k2,hk2⟩ : ∃k2:Nat,2*a=k2:=⟨_,rfl⟩;obtain⟨tt,htt⟩ : ∃tt:Nat,t+1=tt:=⟨_,rfl⟩;rw[hkk,hk2,htt] at HE;rw[hkk,hk2] at HBs;rw[hkk,htt] at HUp;rw[htt] at ht1;clear hpar hC hcv hjs hjs' hix hlP hx0 hx1 hx2 hnd HJ e1 e2 e3 hc1 hc2 hC40 b1 b2 b3 b4 ht hlen2
   go_upto_region 2 with (fail)
   refine Q4 (by kernel_rfl) [11,12,13,14,15,16,17,18,19,20,21] [] [.int .i64 (t:Int),.bool true,.bool true,.slice (some ⟨g,0,none⟩) tt cap,.int .i64 (t:Int),.pointer (some ⟨g,t*2,none⟩),.agg #[.int .i64 (h':Int),.int .u64 (k2:Int)],.agg #[.int .i64 (h':Int),.int .u64 (kk:Int)],.agg #[.int .i64 (h':Int),.int .u64 (k2:Int)],.bool true,.bool true] (by kernel_rfl) rfl (fun j hj=>by cases hj) (fun _ W=>Zb wr W) (fun W _ hb=>hb) ?step ?fin
   case step =>
    refine⟨?_,?_,?_,?_,?_,?_,?_,?_,?_,?_,?_,trivial⟩
    ·intro L Ac Wc K hI hj hcl hsm dep hK;have t7:Ac.tmps.getD 7 undef = .int .i64 (t:Int):=hsm 7 rfl
     show Oper.wp _ _ Ac Wc K _
     go_simp
     exact hK _ _ (.inr rfl) hI
    ·intro L Ac Wc K hI hj hcl hsm dep hK;have t11:Ac.tmps.getD 11 undef = .int .i64 (t:Int):=dep 0 rfl
     show Oper.wp _ _ Ac Wc K _
     go_simp
     exact hK _ _ (.inr rfl) hI
    ·intro L Ac Wc K hI hj hcl hsm dep hK;have t12:Ac.tmps.getD 12 undef = .bool true:=dep 1 rfl
     show Oper.wp _ _ Ac Wc K _
     go_simp
     exact hK _ _ (.inr rfl) hI
    ·intro L Ac Wc K hI hj hcl hsm dep hK;have t2:Ac.tmps.getD 2 undef = .pointer (some ⟨s0+1,0,none⟩):=hsm 2 rfl;refine⟨true,(show Ac.tmps.getD 13 undef = .bool true from dep 2 rfl),?_⟩
     rw[if_pos rfl];obtain⟨j,e1,e2,e3⟩:=HE.out Wc hI;have c1:=cell_of_one j.js.ct
     go_simp
     exact hK _ _ (.inr rfl) hI
    ·intro L Ac Wc K hI hj hcl hsm dep hK;have t7:Ac.tmps.getD 7 undef = .int .i64 (t:Int):=hsm 7 rfl;refine⟨true,(show Ac.tmps.getD 13 undef = .bool true from dep 2 rfl),?_⟩
     rw[if_pos rfl]
     go_simp
     exact hK _ _ (.inr rfl) hI
    ·intro L Ac Wc K hI hj hcl hsm dep hK;have t14:Ac.tmps.getD 14 undef = .slice (some ⟨g,0,none⟩) tt cap:=dep 3 rfl;have t15:Ac.tmps.getD 15 undef = .int .i64 (t:Int):=dep 4 rfl;refine⟨true,(show Ac.tmps.getD 13 undef = .bool true from dep 2 rfl),?_⟩
     rw[if_pos rfl]
     go_simp
     exact hK _ _ (.inr rfl) hI
    ·intro L Ac Wc K hI hj hcl hsm dep hK;have t16:Ac.tmps.getD 16 undef = .pointer (some ⟨g,t*2,none⟩):=dep 5 rfl;refine⟨true,(show Ac.tmps.getD 13 undef = .bool true from dep 2 rfl),?_⟩
     rw[if_pos rfl];obtain⟨j,e1,e2,e3⟩:=HE.out Wc hI
     go_simp
     exact hK _ _ (.inr rfl) hI
    ·intro L Ac Wc K hI hj hcl hsm dep hK;have t5:Ac.tmps.getD 5 undef = .pointer (some ⟨w.heap.size,0,none⟩):=hsm 5 rfl;refine⟨true,(show Ac.tmps.getD 13 undef = .bool true from dep 2 rfl),?_⟩
     rw[if_pos rfl];obtain⟨j,e1,e2,e3⟩:=HE.out Wc hI;obtain⟨c1,c2⟩:=j.tw.cells
     go_simp
     exact hK _ _ (.inr rfl) hI
    ·intro L Ac Wc K hI hj hcl hsm dep hK;have t18:Ac.tmps.getD 18 undef = .agg #[.int .i64 (h':Int),.int .u64 (kk:Int)]:=dep 7 rfl;refine⟨true,(show Ac.tmps.getD 13 undef = .bool true from dep 2 rfl),?_⟩
     rw[if_pos rfl]
     go_simp
     refine(HBs.out Wc).mono ?_
     rintro e w' ⟨rfl,hb'⟩;exact hK _ _ (.inr rfl) (Qa hI hb')
    ·intro L Ac Wc K hI hj hcl hsm dep hK;have t17:Ac.tmps.getD 17 undef = .agg #[.int .i64 (h':Int),.int .u64 (k2:Int)]:=dep 6 rfl;have t19:Ac.tmps.getD 19 undef = .agg #[.int .i64 (h':Int),.int .u64 (k2:Int)]:=dep 8 rfl;refine⟨true,(show Ac.tmps.getD 13 undef = .bool true from dep 2 rfl),?_⟩
     rw[if_pos rfl]
     go_simp
     exact hK _ _ (.inr rfl) hI
    ·intro L Ac Wc K hI hj hcl hsm dep hK;have t13:Ac.tmps.getD 13 undef = .bool true:=dep 2 rfl;have t20:Ac.tmps.getD 20 undef = .bool true:=dep 9 rfl
     show Oper.wp _ _ Ac Wc K _
     go_simp
     exact hK _ _ (.inr rfl) hI
   case fin =>
    intro L W hall hW;clear hall;simp only[Un]
    go_simp
    have HS:Hid (∀Z,Zb wr Z->Z.cell? ⟨s0,1,none⟩=some (.int .i64 K)∧Z.cell? ⟨s0+2,0,none⟩=some (.slice (some ⟨gu,0,none⟩) tt cu)∧Z.cell? ⟨gu,t,none⟩=some (.string x0)):=fun Z hZ=>⟨(HX.out.2.2.1 Z (HE.out Z hZ).1.be).2,cell_of_one (HE.out Z hZ).1.js.cp,(HE.out Z hZ).2.2.2⟩
    obtain⟨s1,s2,s3⟩:=HS.out W hW
    go_upto_region 3 with (fail)
    go_region_held3 (fun Z=>Z.cell? ⟨s0,1,none⟩=some (.int .i64 K)∧Z.cell? ⟨s0+2,0,none⟩=some (.slice (some ⟨gu,0,none⟩) tt cu)∧Z.cell? ⟨gu,t,none⟩=some (.string x0))
     (exact HS.out _ (by first|exact hW|exact hW.drew|exact Qa hW.drew hb3|exact Qa hW hb3)) (first
     | (go_at_call 125;with_reducible refine(HNo.out _ (by first|exact hW.drew|exact hW)).mono ?_;rintro e w3 ⟨rfl,hb3⟩))
    all_goals
     have hb03:Zb wr w3:=by first|exact Qa hW.drew hb3|exact Qa hW hb3
     have hj3:=(HE.out w3 hb03).1;obtain⟨q0,q1⟩:=hj3.tw.cells;have f0:=hj3.tw.fz 0;have f1:=hj3.tw.fz 1;obtain⟨h1,hh1⟩ : ∃h1:Nat,h'+1=h1:=⟨_,rfl⟩;have e5:IntKind.i64.wrap ((h':Int)+1)=(h1:Int):=by have:=HG.out.1;rw[LW];omega
     have e6:Int.tdiv (kk:Int) 2=(a:Int):=by rw[Int.tdiv_eq_ediv_of_nonneg (by omega)];omega
     have e7:IntKind.u64.wrap (a:Int)=(a:Int):=by have:=HG.out.2.1;rw[IntKind.wrap_u64];omega
     have HJ3:=Qc hj3;clear s1 s2 s3 HNo HBs hj3
     go_upto_region 5 with (fail)
     have hch:=Qa5 w3 w.heap.size (h1:Int) a;obtain⟨W4,hW4⟩:=Ze (putB w3 w.heap.size (h1:Int) a);rw[hW4] at hch;unfold putB at hW4;rw[hW4];have hq2:=HJ3.out.hq;have b1:=(hch.block (s0+1) (by show ¬s0+1=_;omega)).trans HJ3.out.js.ct
     have b2:=(hch.block (s0+2) (by show ¬s0+2=_;omega)).trans HJ3.out.js.cp
     have c1:=cell_of_one b1;have c2:=cell_of_one b2;have g1:=free_of_one b1;have g2:=free_of_one b2;have hct:(t:Int)<=(cap:Int):=by have:=HG.out.2.2.2.1;omega
     have hcu:(t:Int)<=(cu:Int):=by have:=HG.out.2.2.2.2.1;omega
     clear q0 q1 f0 f1 e5 e6 e7 b1 b2;have HW4:=Qc hW4;clear hW4
     go_region
     have HF:Hid (∀W5,(W4.setCell ⟨s0+1,0,none⟩ (.slice (some ⟨g,0,none⟩) t cap)).setCell ⟨s0+2,0,none⟩ (.slice (some ⟨gu,0,none⟩) t cu)=W5->JL w W5.drew s0 w.heap.size F h k (h'+1) a (.slice (some ⟨g,0,none⟩) t cap) (.slice (some ⟨gu,0,none⟩) t cu)):=fun W5 h5=>(HUp.out w3 W5 HJ3.out (by rw[<-h5,<-HW4.out,hh1];rfl)).next (Below.refl _ _).drew
     have e8:IntKind.i64.wrap ((t:Int) - 1)=(t:Int) - 1:=by have:=HG.out.2.2.1;rw[LW];omega
     clear c1 c2 g1 g2 hch HUp hct hcu;go_wp2
     go_roundg (41 - (h'+1))
     case rel =>
      go_light;exact⟨h'+1,a,_,_,HF.out _ rfl,rfl,by rw[HG.out.2.2.2.2.2.2],by rw[HG.out.2.2.2.2.2.1]⟩
     case measure=>go_light;have:=HG.out.1;omega
  ·obtain⟨a,rfl⟩ : ∃a,k'=2*a:=⟨k' / 2,by omega⟩
   obtain⟨C,hC⟩:=Ze (cov 0 (2*a*pw h'));have hnx:cov 0 ((k+1)*pw h)=C++[(h',2*a)]:=by rw[<-HJ.out.en,<-hC];exact Qde h' a (by rw[HJ.out.en];exact HX.out.1)
   have hhi : ∀b∈C,h'<b.1:=by rw[<-hC];exact Qif h' a b4
   have hjs:=HJ.out.js;rw[hC] at hjs b3;rw[hC];obtain⟨x1,hx1⟩:=Ze (F h' (2*a));rw[hx1];have HN:Hid (∀W v' u',JS W s0 v' u' (C++[(h',2*a)]) (dgF F C++[x1])->JS W s0 v' u' (cov 0 ((k+1)*pw h)) (dgF F (cov 0 ((k+1)*pw h)))):=fun W v' u' h0=>by
    rw[hnx,dgF,LK]
    show JS W s0 v' u' (C++[(h',2*a)]) (dgF F C++[F h' (2*a)])
    rw[hx1];exact h0
   obtain⟨P,hP⟩:=Ze (dgF F C);have hPl:P.length=C.length:=by rw[<-hP];exact Ln ..
   rw[hP] at HN hjs;obtain⟨kk,hkk⟩ : ∃kk:Nat,2*a=kk:=⟨_,rfl⟩;have htw:=HJ.out.tw;have hvq:=HJ.out.hv;have huq:=HJ.out.hu;have hbe:=HJ.out.be;have hqq:=HJ.out.hq;rw[hkk] at HN htw hC b4 b2;have HE:Hid (∀W,Zb wr W->JS W s0 v u C P∧Tw W w.heap.size (h':Int) kk∧Below (s0+1) w W):=fun W hW=>⟨hjs.next hW,htw.next hW,hbe.trans (hW.mono (by have:=hjs.lt;omega))⟩
   have HG:Hid (C.length<=40∧P.length=C.length∧(∀g,v.ownBlock=some g->g<w.heap.size)∧(∀g,u.ownBlock=some g->g≠w.heap.size)∧s0+2<w.heap.size):=⟨b3,hPl,hvq,huq,hqq⟩;have HBs:Hid (∀W,Zr 132 #[.agg #[.int .i64 (h':Int),.int .u64 (kk:Int)]] W (.agg #[.int .i64 (h':Int),.int .u64 ((sb kk:Nat):Int)])):=fun W=>Qbn W h' kk (by omega) _ rfl
   obtain⟨av,nv,cv,rfl⟩:=Cv.Qh hjs.ot;obtain⟨au,nu,cu,rfl⟩:=Cv.Qh hjs.op;have l1:=Og hjs.ot;have l2:=Og hjs.op;rw[Cv.Qq] at l1;subst l1 l2
   rcases List.eq_nil_or_concat C with hnil|⟨C0,⟨x,y⟩,hC0⟩
   ·have hneg : ¬(0:Int) <= -1:=by decide
    have hm:((C.length:Nat):Int) - 1 = -1:=by rw[hnil];rfl
    rw[hm];clear hjs htw hvq huq hbe hqq hkk hPl hP hnx hhi hC HJ b1 b2 b3 b4 HBs hx1 hpar
    go_upto_region 2 with (fail)
    refine Q4 (by kernel_rfl) [11,12,13,14,15,16,17,18,19,20,21] [] [.int .i64 (-1),.bool false,.bool false,undef,undef,undef,undef,undef,undef,undef,.bool false] (by kernel_rfl) rfl (fun j hj=>by cases hj) (fun _ W=>Zb wr W) (fun W _ hb=>hb) ?step ?fin
    case step =>
     refine⟨?_,?_,?_,?_,?_,?_,?_,?_,?_,?_,?_,trivial⟩
     ·intro L Ac Wc K hI hj hcl hsm dep hK;have t7:Ac.tmps.getD 7 undef = .int .i64 (-1):=hsm 7 rfl
      show Oper.wp _ _ Ac Wc K _
      go_simp
      exact hK _ _ (.inr rfl) hI
     ·intro L Ac Wc K hI hj hcl hsm dep hK;have t11:Ac.tmps.getD 11 undef = .int .i64 (-1):=dep 0 rfl
      show Oper.wp _ _ Ac Wc K _
      go_simp
      exact hK _ _ (.inr rfl) hI
     ·intro L Ac Wc K hI hj hcl hsm dep hK;have t12:Ac.tmps.getD 12 undef = .bool false:=dep 1 rfl
      show Oper.wp _ _ Ac Wc K _
      go_simp
      exact hK _ _ (.inr rfl) hI
     ·intro L Ac Wc K hI hj hcl hsm dep hK;refine⟨false,(show Ac.tmps.getD 13 undef = .bool false from dep 2 rfl),?_⟩
      rw[if_neg (by decide)]
      exact hK _ _ (.inr rfl) hI
     ·intro L Ac Wc K hI hj hcl hsm dep hK;refine⟨false,(show Ac.tmps.getD 13 undef = .bool false from dep 2 rfl),?_⟩
      rw[if_neg (by decide)]
      exact hK _ _ (.inr rfl) hI
     ·intro L Ac Wc K hI hj hcl hsm dep hK;refine⟨false,(show Ac.tmps.getD 13 undef = .bool false from dep 2 rfl),?_⟩
      rw[if_neg (by decide)]
      exact hK _ _ (.inr rfl) hI
     ·intro L Ac Wc K hI hj hcl hsm dep hK;refine⟨false,(show Ac.tmps.getD 13 undef = .bool false from dep 2 rfl),?_⟩
      rw[if_neg (by decide)]
      exact hK _ _ (.inr rfl) hI
     ·intro L Ac Wc K hI hj hcl hsm dep hK;refine⟨false,(show Ac.tmps.getD 13 undef = .bool false from dep 2 rfl),?_⟩
      rw[if_neg (by decide)]
      exact hK _ _ (.inr rfl) hI
     ·intro L Ac Wc K hI hj hcl hsm dep hK;refine⟨false,(show Ac.tmps.getD 13 undef = .bool false from dep 2 rfl),?_⟩
      rw[if_neg (by decide)]
      exact hK _ _ (.inr rfl) hI
     ·intro L Ac Wc K hI hj hcl hsm dep hK;refine⟨false,(show Ac.tmps.getD 13 undef = .bool false from dep 2 rfl),?_⟩
      rw[if_neg (by decide)]
      exact hK _ _ (.inr rfl) hI
     ·intro L Ac Wc K hI hj hcl hsm dep hK;have t13:Ac.tmps.getD 13 undef = .bool false:=dep 2 rfl;have t20:Ac.tmps.getD 20 undef=undef:=dep 9 rfl
      show Oper.wp _ _ Ac Wc K _
      go_simp
      exact hK _ _ (.inr rfl) hI
    case fin =>
     intro L W hall hW;clear hall;simp only[Un]
     go_simp
     clear hnil hm hneg;have hj0:J0 W s0 w.heap.size (.slice av C.length cv) (.slice au P.length cu) C P h' kk:=⟨(HE.out W hW).1,(HE.out W hW).2.1,fun g hg=>by have:=HG.out.2.2.1 g hg;omega,HG.out.2.2.2.2,by have:=HG.out.1;omega,by have:=HG.out.1;have:=HG.out.2.1;omega⟩
     have HBe:=Qc (HE.out W hW).2.2;clear HE hW
     go_upto_region 7 with (fail)
     refine YH (by kernel_rfl) (by kernel_rfl) (RF W s0 w.heap.size (.slice av C.length cv) (.slice au P.length cu) C P h' kk x1) (fun Z _ hZ=>QeI hj0 rfl rfl rfl rfl rfl rfl hZ) ⟨e0 rfl,e1,e2 rfl,e3 hj0 rfl rfl rfl rfl rfl,e4 rfl,e5,e6 rfl,e7 hj0 rfl rfl rfl rfl rfl,e8 hj0 rfl rfl rfl,e9 hj0 rfl rfl rfl,trivial⟩ ?_
     intro L a7 w7 hall hI;obtain⟨v',u',hjs,hb7⟩:=Qjs hI hall;have HF:Hid ((∃v' u',JS w7 s0 v' u' (cov 0 ((k+1)*pw h)) (dgF F (cov 0 ((k+1)*pw h))))∧Below (s0+1) w w7):=⟨⟨v',u',HN.out _ _ _ hjs⟩,HBe.out.trans hb7⟩;exact bodyPost_end (results_none rfl a7.tmps Tryz.prog w7) hI.df ⟨rfl,HF.out⟩
   ·rw[List.concat_eq_append] at hC0;have hxh:h'<x:=hhi (x,y) (by rw[hC0];simp)
    have hjs2:JS wr s0 (.slice av C.length cv) (.slice au P.length cu) (C0++[(x,y)]) (dgF F C0++[F x y]):=by
     have e:dgF F C0++[F x y]=P:=by rw[<-hP,hC0];show _=List.map _ (C0++[(x,y)]);rw[LK];rfl
     rw[e,<-hC0];exact hjs
    obtain⟨g,cap2,gu,cu2,hv2,_,_,_,e1,e2,_⟩:=Qga hjs2;obtain⟨rfl,hln,rfl⟩:=NJ hv2;obtain⟨t,ht⟩:=Ze C0.length;rw[ht] at e1 e2 hln;have hm:((C.length:Nat):Int) - 1=(t:Int):=by omega
    rw[hm];have hz0:(0:Int)<=(t:Int):=Le _;have ht1:(t:Int)<((C.length:Nat):Int):=by omega
    have hne:((x:Int) == (h':Int))=false:=beq_false_of_ne (by omega)
    have HE2:Hid (∀W,Zb wr W->W.cell? ⟨g,t*2,none⟩=some (.int .i64 (x:Int))∧W.cell? ⟨g,t*2+1,none⟩=some (.int .u64 (y:Int))):=fun W hW =>
     ⟨(hW.cell (Lh wr _ e1)).trans e1,(hW.cell (Lh wr _ e2)).trans e2⟩
    clear hjs htw hvq huq hbe hqq hkk hPl hP hnx hhi hC HJ b1 b2 b3 b4 hx1 hpar hjs2 hv2 hC0 e1 e2 ht hm hxh hln
    go_upto_region 2 with (fail)
    refine Q4 (by kernel_rfl) [11,12,13,14,15,16,17,18,19,20,21] [] [.int .i64 (t:Int),.bool true,.bool true,.slice (some ⟨g,0,none⟩) C.length cv,.int .i64 (t:Int),.pointer (some ⟨g,t*2,none⟩),.agg #[.int .i64 (x:Int),.int .u64 (y:Int)],.agg #[.int .i64 (h':Int),.int .u64 (kk:Int)],.agg #[.int .i64 (h':Int),.int .u64 ((sb kk:Nat):Int)],.bool false,.bool false] (by kernel_rfl) rfl (fun j hj=>by cases hj) (fun _ W=>Zb wr W) (fun W _ hb=>hb) ?step ?fin
    case step =>
     refine⟨?_,?_,?_,?_,?_,?_,?_,?_,?_,?_,?_,trivial⟩
     ·intro L Ac Wc K hI hj hcl hsm dep hK;have t7:Ac.tmps.getD 7 undef = .int .i64 (t:Int):=hsm 7 rfl
      show Oper.wp _ _ Ac Wc K _
      go_simp
      exact hK _ _ (.inr rfl) hI
     ·intro L Ac Wc K hI hj hcl hsm dep hK;have t11:Ac.tmps.getD 11 undef = .int .i64 (t:Int):=dep 0 rfl
      show Oper.wp _ _ Ac Wc K _
      go_simp
      exact hK _ _ (.inr rfl) hI
     ·intro L Ac Wc K hI hj hcl hsm dep hK;have t12:Ac.tmps.getD 12 undef = .bool true:=dep 1 rfl
      show Oper.wp _ _ Ac Wc K _
      go_simp
      exact hK _ _ (.inr rfl) hI
     ·intro L Ac Wc K hI hj hcl hsm dep hK;have t2:Ac.tmps.getD 2 undef = .pointer (some ⟨s0+1,0,none⟩):=hsm 2 rfl;refine⟨true,(show Ac.tmps.getD 13 undef = .bool true from dep 2 rfl),?_⟩
      rw[if_pos rfl];obtain⟨j,jt,jb⟩:=HE.out Wc hI;have c1:=cell_of_one j.ct
      go_simp
      exact hK _ _ (.inr rfl) hI
     ·intro L Ac Wc K hI hj hcl hsm dep hK;have t7:Ac.tmps.getD 7 undef = .int .i64 (t:Int):=hsm 7 rfl;refine⟨true,(show Ac.tmps.getD 13 undef = .bool true from dep 2 rfl),?_⟩
      rw[if_pos rfl]
      go_simp
      exact hK _ _ (.inr rfl) hI
     ·intro L Ac Wc K hI hj hcl hsm dep hK;have t14:Ac.tmps.getD 14 undef = .slice (some ⟨g,0,none⟩) C.length cv:=dep 3 rfl;have t15:Ac.tmps.getD 15 undef = .int .i64 (t:Int):=dep 4 rfl;refine⟨true,(show Ac.tmps.getD 13 undef = .bool true from dep 2 rfl),?_⟩
      rw[if_pos rfl]
      go_simp
      exact hK _ _ (.inr rfl) hI
     ·intro L Ac Wc K hI hj hcl hsm dep hK;have t16:Ac.tmps.getD 16 undef = .pointer (some ⟨g,t*2,none⟩):=dep 5 rfl;refine⟨true,(show Ac.tmps.getD 13 undef = .bool true from dep 2 rfl),?_⟩
      rw[if_pos rfl];obtain⟨e1,e2⟩:=HE2.out Wc hI
      go_simp
      exact hK _ _ (.inr rfl) hI
     ·intro L Ac Wc K hI hj hcl hsm dep hK;have t5:Ac.tmps.getD 5 undef = .pointer (some ⟨w.heap.size,0,none⟩):=hsm 5 rfl;refine⟨true,(show Ac.tmps.getD 13 undef = .bool true from dep 2 rfl),?_⟩
      rw[if_pos rfl];obtain⟨j,jt,jb⟩:=HE.out Wc hI;obtain⟨c1,c2⟩:=jt.cells
      go_simp
      exact hK _ _ (.inr rfl) hI
     ·intro L Ac Wc K hI hj hcl hsm dep hK;have t18:Ac.tmps.getD 18 undef = .agg #[.int .i64 (h':Int),.int .u64 (kk:Int)]:=dep 7 rfl;refine⟨true,(show Ac.tmps.getD 13 undef = .bool true from dep 2 rfl),?_⟩
      rw[if_pos rfl]
      go_simp
      refine(HBs.out Wc).mono ?_
      rintro e w' ⟨rfl,hb'⟩;exact hK _ _ (.inr rfl) (Qa hI hb')
     ·intro L Ac Wc K hI hj hcl hsm dep hK;have t17:Ac.tmps.getD 17 undef = .agg #[.int .i64 (x:Int),.int .u64 (y:Int)]:=dep 6 rfl;have t19:Ac.tmps.getD 19 undef = .agg #[.int .i64 (h':Int),.int .u64 ((sb kk:Nat):Int)]:=dep 8 rfl;refine⟨true,(show Ac.tmps.getD 13 undef = .bool true from dep 2 rfl),?_⟩
      rw[if_pos rfl]
      go_simp
      exact hK _ _ (.inr rfl) hI
     ·intro L Ac Wc K hI hj hcl hsm dep hK;have t13:Ac.tmps.getD 13 undef = .bool true:=dep 2 rfl;have t20:Ac.tmps.getD 20 undef = .bool false:=dep 9 rfl
      show Oper.wp _ _ Ac Wc K _
      go_simp
      exact hK _ _ (.inr rfl) hI
    case fin =>
     intro L W hall hW;clear hall;simp only[Un]
     go_simp
     clear hz0 ht1 hne HE2 HBs;have hj0:J0 W s0 w.heap.size (.slice (some ⟨g,0,none⟩) C.length cv) (.slice au P.length cu) C P h' kk:=⟨(HE.out W hW).1,(HE.out W hW).2.1,fun g hg=>by have:=HG.out.2.2.1 g hg;omega,HG.out.2.2.2.2,by have:=HG.out.1;omega,by have:=HG.out.1;have:=HG.out.2.1;omega⟩
     have HBe:=Qc (HE.out W hW).2.2;clear HE hW
     go_upto_region 7 with (fail)
     refine YH (by kernel_rfl) (by kernel_rfl) (RF W s0 w.heap.size (.slice (some ⟨g,0,none⟩) C.length cv) (.slice au P.length cu) C P h' kk x1) (fun Z _ hZ=>QeI hj0 rfl rfl rfl rfl rfl rfl hZ) ⟨e0 rfl,e1,e2 rfl,e3 hj0 rfl rfl rfl rfl rfl,e4 rfl,e5,e6 rfl,e7 hj0 rfl rfl rfl rfl rfl,e8 hj0 rfl rfl rfl,e9 hj0 rfl rfl rfl,trivial⟩ ?_
     intro L a7 w7 hall hI;obtain⟨v',u',hjs,hb7⟩:=Qjs hI hall;have HF:Hid ((∃v' u',JS w7 s0 v' u' (cov 0 ((k+1)*pw h)) (dgF F (cov 0 ((k+1)*pw h))))∧Below (s0+1) w w7):=⟨⟨v',u',HN.out _ _ _ hjs⟩,HBe.out.trans hb7⟩;exact bodyPost_end (results_none rfl a7.tmps Tryz.prog w7) hI.df ⟨rfl,HF.out⟩
end
section
open Cv (RdC zl cU cov Row)
open Pl (pw)
theorem Uf(L:List (Nat×Nat))(j:Nat):(zl L).getD j (0,0)=(((L.getD j (0,0)).1:Int),(L.getD j (0,0)).2):=by
 unfold zl;rw[La,La,Nn]
 cases L[j]? <;> rfl
theorem Qg1{α:Type}(d:α){L:List α}{j:Nat}(hj:j<L.length):L.drop j=L.getD j d::L.drop (j+1):=by
 rw[LC hj,La,Lc hj];rfl
theorem QiS(w:World)(o:Obj):JS (((w.alloc o).alloc (.cells #[.slice none 0 0] 77)).alloc (.cells #[.slice none 0 0] 22)) w.heap.size (.slice none 0 0) (.slice none 0 0) [] []:=by
 refine⟨?_,?_,Lz _ _ _ _,YV _ _⟩
 ·have h1:=heap_alloc_new (w.alloc o) (.cells #[.slice none 0 0] 77);rw[Lp] at h1;exact(Cv.Ys _ (by simp)).trans h1
 ·have h1:=heap_alloc_new ((w.alloc o).alloc (.cells #[.slice none 0 0] 77)) (.cells #[.slice none 0 0] 22);rw[Lp,Lp] at h1;exact h1
theorem Qfp(w:World)(ht:Tb w)(kd K:Int)(old size:Nat)(sa:OA)(ns sc:Nat)(da:OA)(db dO dc:Nat)(D:LB)(hr:RdS w da db dO D.length D)(ao:OA)(g cap n:Nat)(L:List (Nat×Nat))(hB:RdB w ao g 0 L.length (zl L))(hrow:Row n 0 L)(hn:n<=2^40)(hl:D.length=L.length)(hm:L.length<=1000)(F:Nat->Nat->BA)(hJ:Jn (clk K) L D F) :
  Calls Tryz.prog 82 #[.slice ao L.length cap,vP kd K old size (.slice sa ns sc) (.slice da D.length dc)] w fun e w' => ∃v,e = .returned v∧Qk w' w.heap.size v (dgF F (cov 0 n))∧Zb w w':=by
 obtain⟨o1,ho1⟩:=Ze (oP kd K old size (.slice sa ns sc) (.slice da D.length dc));have hj0:=QiS w o1;have hb0:Zb w (((w.alloc o1).alloc (.cells #[.slice none 0 0] 77)).alloc (.cells #[.slice none 0 0] 22)):=bal (bal (bal (Below.refl _ _) _) _) _;have h6:Six (((w.alloc o1).alloc (.cells #[.slice none 0 0] 77)).alloc (.cells #[.slice none 0 0] 22)) w.heap.size (.int .i64 kd) (.int .i64 K) (.int .u64 (old:Int)) (.int .u64 (size:Int)) (.slice sa ns sc) (.slice da D.length dc):=by
  rw[<-ho1];exact(QV w _ _ _ _ _ _).next (bal (bal (Below.refl _ _) _) _)
 obtain⟨W0,hW0⟩:=Ze (((w.alloc o1).alloc (.cells #[.slice none 0 0] 77)).alloc (.cells #[.slice none 0 0] 22));rw[hW0] at hj0 hb0 h6;have HX:Hid (∀Z,Below (w.heap.size+1) W0 Z->Zb w Z∧Tb Z∧RdS Z da db dO D.length D∧RdB Z ao g 0 L.length (zl L)∧Six Z w.heap.size (.int .i64 kd) (.int .i64 K) (.int .u64 (old:Int)) (.int .u64 (size:Int)) (.slice sa ns sc) (.slice da D.length dc)):=fun Z hZ=>by
  have h1:Zb w Z:=hb0.trans (hZ.mono (by omega))
  exact⟨h1,ht.next h1,hr.next h1 (Lb _),hB.below h1,h6.same (hZ.block _ (by omega))⟩
 have HR:Hid (Row n 0 L∧n<=2^40∧D.length=L.length∧L.length<=1000∧Jn (clk K) L D F):=⟨hrow,hn,hl,hm,hJ⟩;have HJ0:=Qc hj0;have hm1:(L.length:Int)<=1000:=by omega
 have hW0':=hW0;rw[<-ho1] at hW0;unfold oP at hW0;clear ht hr hB hrow hn hl hm hJ hj0 hb0 h6 ho1 hW0';unfold vP
 go_enter Tryz.func82,Tryz.ntmps82;go_wp2
 go_loopg [13] L.length (fun gg i wr => ∃(j e:Nat) (v u:Value),j<=L.length∧gg=L.length - j∧i = .int .i64 (j:Int)∧Hid (Row n e (L.drop j)∧JS wr w.heap.size v u (cov 0 e) (dgF F (cov 0 e))∧Below (w.heap.size+1) W0 wr))
 case atStart =>
  go_light
  try rw[hW0]
  refine⟨0,0,.slice none 0 0,.slice none 0 0,Lf _,rfl,rfl,HR.out.1,?_,Below.refl _ _⟩
  rw[Qig];exact HJ0.out
 case round =>
  obtain⟨j,e,v,u,hj,rfl,rfl,HI⟩:=hrel;clear HJ0;obtain⟨hbw,htb,hrd,hrb,hsix⟩:=HX.out wr HI.out.2.2
  by_cases hlt:j<L.length
  ·have hz:(j:Int)<(L.length:Int):=by omega
   have hz0:(0:Int)<=(j:Int):=Le _;have hdr:=Qg1 (0,0) hlt;have hin:=Q5 hlt;obtain⟨⟨h,k⟩,hhk⟩ : ∃b,L.getD j (0,0)=b:=⟨_,rfl⟩;rw[hhk] at hdr hin;have hro:=HI.out.1;rw[hdr] at hro;obtain⟨r1,r2,r3,r4⟩:=hro
   dsimp only at r1 r2 r3 r4
   have r5:=Qbc r4;obtain rfl:=hrb.addr (by omega)
   obtain⟨c0,c1⟩:=hrb.cell j hlt;rw[Uf,hhk] at c0 c1
   dsimp only at c0 c1
   rw[Ll] at c0 c1;have hltD:j<D.length:=by have:=HR.out.2.2.1;omega
   obtain rfl:=hrd.ptr (by omega)
   have d0:=hrd.at hltD;obtain⟨d,hd⟩:=Ze (D.getD j ByteArray.empty);rw[hd] at d0;have hFd:F h k=d:=by
    have:=HR.out.2.2.2.2.at' j hlt;rw[hhk] at this;rw[<-hd];exact this
   have hJs:=HI.out.2.1;rw[r1] at hJs;have hDz:(j:Int)<(D.length:Int):=by omega
   have p5:=hsix.cells.2.2.2.2.2;have t1:=QaG wr 0 0;have hb1:=bal (Below.refl wr.heap.size wr) (.cells #[.int .i64 0,.int .u64 ((0:Nat):Int)] 83);rw[show((0:Nat):Int)=0 from rfl] at hb1
   have t1':Tw (wr.alloc (.cells #[.int .i64 0,.int .u64 0] 83)) wr.heap.size 0 0:=t1;obtain⟨W1,hW1⟩:=Ze (wr.alloc (.cells #[.int .i64 0,.int .u64 0] 83));rw[hW1] at t1' hb1;obtain⟨q0,q1⟩:=t1'.cells;have f0:=t1'.fz 0;have f1:=t1'.fz 1;have t2:=t1'.put (h:Int) k;have hch:=Qa5 W1 wr.heap.size (h:Int) k;obtain⟨W2,hW2⟩:=Ze (putB W1 wr.heap.size (h:Int) k);rw[hW2] at t2 hch;have hb2:Zb wr W2:=hb1.trans (hch.below (by rintro b rfl;exact Lb _))
   have hls:w.heap.size+2<wr.heap.size:=hJs.lt;have HS:Hid (∀Z,Zb W2 Z->Z.cell? ⟨wr.heap.size,0,none⟩=some (.int .i64 (h:Int))∧Z.cell? ⟨wr.heap.size,1,none⟩=some (.int .u64 (k:Int))∧Z.cell? ⟨w.heap.size,5,none⟩=some (.slice (some ⟨db,dO,none⟩) D.length dc)∧Z.cell? ⟨db,dO+j,none⟩=some (.string d)):=fun Z hZ=>by
    have h1:=Qa hb2 hZ;have h2:=HX.out Z (HI.out.2.2.trans (h1.mono (by omega)))
    refine⟨(t2.next hZ).cells.1,(t2.next hZ).cells.2,h2.2.2.2.2.cells.2.2.2.2.2,?_⟩
    rw[<-hd];exact h2.2.2.1.at hltD
   have HC:Hid (∀Z,Zb W2 Z->Calls Tryz.prog 131 #[.agg #[.int .i64 (h:Int),.int .u64 (k:Int)],.string d,.pointer (some ⟨w.heap.size+1,0,none⟩),.pointer (some ⟨w.heap.size,0,none⟩),.pointer (some ⟨w.heap.size+1+1,0,none⟩)] Z fun e w'=>e = .returned (.tuple #[])∧(∃v' u',JS w' w.heap.size v' u' (cov 0 ((k+1)*pw h)) (dgF F (cov 0 ((k+1)*pw h))))∧Below (w.heap.size+1) Z w'):=fun Z hZ=>by
    have h1:=Qa hb2 hZ;have h2:Below (w.heap.size+1) W0 Z:=HI.out.2.2.trans (h1.mono (by omega))
    exact QiR Z w.heap.size K F h k v u (hJs.next h1) (Lm r5 HR.out.2.1) (fun Y hY=>(HX.out Y (h2.trans hY)).2.1) (HX.out Z h2).2.2.2.2.cells.2.1 (fun h' q a1 a2=>HR.out.2.2.2.2.join HR.out.1 hin a1 a2) HR.out.2.2.2.2.sz d hFd
   have HF:Hid (Row n ((k+1)*pw h) (L.drop (j+1))∧(∀Z Y,Zb W2 Z->Below (w.heap.size+1) Z Y->Below (w.heap.size+1) W0 Y)):=⟨r4,fun Z Y h1 h2=>(HI.out.2.2.trans ((Qa hb2 h1).mono (by omega))).trans h2⟩
   have hbr:=Below.refl W2.heap.size W2;unfold putB at hW2;clear hbw htb hrd hrb hsix hdr hin hhk r1 r2 r3 r4 r5 hFd hJs hd t1 t1' t2 hch hb1 hb2 HI
   go_upto_region 7 with (fail)
   refine Q4 (by kernel_rfl) [18,19,20,21,22,23,24,25] [] [Value.func (Fn.func 131) #[] #[.pointer (some ⟨w.heap.size+1,0,none⟩),.pointer (some ⟨w.heap.size,0,none⟩),.pointer (some ⟨w.heap.size+1+1,0,none⟩)],.agg #[.int .i64 (h:Int),.int .u64 (k:Int)],.pointer (some ⟨w.heap.size,5,none⟩),.slice (some ⟨db,dO,none⟩) D.length dc,.int .i64 (j:Int),.pointer (some ⟨db,dO+j,none⟩),.string d,.tuple #[]] (by kernel_rfl) rfl (fun j hj=>by cases hj) (fun L Z=>(L 7=false->Zb W2 Z)∧(L 7=true->(∃v' u',JS Z w.heap.size v' u' (cov 0 ((k+1)*pw h)) (dgF F (cov 0 ((k+1)*pw h))))∧Below (w.heap.size+1) W0 Z)) (fun Z _ hb=>⟨fun _=>hb,fun h=>by cases h⟩) ?step ?fin
   case step =>
    refine⟨?_,?_,?_,?_,?_,?_,?_,?_,trivial⟩
    ·intro L Ac Wc K hI hj hcl hsm dep hK;have t7:Ac.tmps.getD 7 undef=Value.func (Fn.func 131) #[] #[.pointer (some ⟨w.heap.size+1,0,none⟩),.pointer (some ⟨w.heap.size,0,none⟩),.pointer (some ⟨w.heap.size+1+1,0,none⟩)]:=hsm 7 rfl
     show Oper.wp _ _ Ac Wc K _
     go_simp
     exact hK _ _ (.inr rfl) hI
    ·intro L Ac Wc K hI hj hcl hsm dep hK;have t9:Ac.tmps.getD 9 undef = .pointer (some ⟨wr.heap.size,0,none⟩):=hsm 9 rfl
     show Oper.wp _ _ Ac Wc K _
     have hL:L 7=false:=by
      cases h:L 7 with
      | false=>rfl
      | true=>rw[hcl 7 1 h rfl] at hj;cases hj
     obtain⟨k1,k2,k3,k4⟩:=HS.out Wc (hI.1 hL)
     go_simp
     exact hK _ _ (.inr rfl) hI
    ·intro L Ac Wc K hI hj hcl hsm dep hK;have t3:Ac.tmps.getD 3 undef = .pointer (some ⟨w.heap.size,0,none⟩):=hsm 3 rfl
     show Oper.wp _ _ Ac Wc K _
     go_simp
     exact hK _ _ (.inr rfl) hI
    ·intro L Ac Wc K hI hj hcl hsm dep hK;have t20:Ac.tmps.getD 20 undef = .pointer (some ⟨w.heap.size,5,none⟩):=dep 2 rfl
     show Oper.wp _ _ Ac Wc K _
     have hL:L 7=false:=by
      cases h:L 7 with
      | false=>rfl
      | true=>rw[hcl 5 3 (hcl 6 5 (hcl 7 6 h rfl) rfl) rfl] at hj;cases hj
     obtain⟨k1,k2,k3,k4⟩:=HS.out Wc (hI.1 hL)
     go_simp
     exact hK _ _ (.inr rfl) hI
    ·intro L Ac Wc K hI hj hcl hsm dep hK;have t8:Ac.tmps.getD 8 undef = .int .i64 (j:Int):=hsm 8 rfl
     show Oper.wp _ _ Ac Wc K _
     go_simp
     exact hK _ _ (.inr rfl) hI
    ·intro L Ac Wc K hI hj hcl hsm dep hK;have t21:Ac.tmps.getD 21 undef = .slice (some ⟨db,dO,none⟩) D.length dc:=dep 3 rfl;have t22:Ac.tmps.getD 22 undef = .int .i64 (j:Int):=dep 4 rfl
     show Oper.wp _ _ Ac Wc K _
     go_simp
     exact hK _ _ (.inr rfl) hI
    ·intro L Ac Wc K hI hj hcl hsm dep hK;have t23:Ac.tmps.getD 23 undef = .pointer (some ⟨db,dO+j,none⟩):=dep 5 rfl
     show Oper.wp _ _ Ac Wc K _
     have hL:L 7=false:=by
      cases h:L 7 with
      | false=>rfl
      | true=>rw[hcl 7 6 h rfl] at hj;cases hj
     obtain⟨k1,k2,k3,k4⟩:=HS.out Wc (hI.1 hL)
     go_simp
     exact hK _ _ (.inr rfl) hI
    ·intro L Ac Wc K hI hj hcl hsm dep hK;have t18:Ac.tmps.getD 18 undef=Value.func (Fn.func 131) #[] #[.pointer (some ⟨w.heap.size+1,0,none⟩),.pointer (some ⟨w.heap.size,0,none⟩),.pointer (some ⟨w.heap.size+1+1,0,none⟩)]:=dep 0 rfl;have t19:Ac.tmps.getD 19 undef = .agg #[.int .i64 (h:Int),.int .u64 (k:Int)]:=dep 1 rfl;have t24:Ac.tmps.getD 24 undef = .string d:=dep 6 rfl
     show Oper.wp _ _ Ac Wc K _
     go_simp
     refine(HC.out Wc (hI.1 hj)).mono ?_
     rintro e w' ⟨rfl,hjs,hb'⟩;exact hK _ _ (.inr rfl) ⟨fun h=>by simp at h,fun _=>⟨hjs,HF.out.2 _ _ (hI.1 hj) hb'⟩⟩
   case fin =>
    intro L7 W7 hall hI;obtain⟨⟨v7,u7,hj7⟩,hb7⟩:=hI.2 (hall 7 (by decide))
    have HY:Hid (JS W7 w.heap.size v7 u7 (cov 0 ((k+1)*pw h)) (dgF F (cov 0 ((k+1)*pw h)))∧Below (w.heap.size+1) W0 W7):=⟨hj7,hb7⟩;clear hall hI hj7 hb7 HC HS q0 q1 f0 f1 hW1 hW2 hbr c0 c1 d0 p5;simp only[Un]
    go_simp
    go_wp2
    go_roundg (L.length - (j+1))
    case rel =>
     go_light;exact⟨j+1,_,v7,u7,by omega,rfl,by go_num,HF.out.1,HY.out.1,HY.out.2⟩
    case measure=>go_light;omega
  ·obtain rfl:j=L.length:=by omega
   have hz : ¬((L.length:Int)<(L.length:Int)):=by omega
   have hen:=HI.out.1;rw[IF] at hen;have hen:e=n:=hen;have hJs:=HI.out.2.1;rw[hen] at hJs;obtain⟨ua,un,uc,rfl⟩:=Cv.Qh hJs.op;have c2:=cell_of_one hJs.cp;have HY:Hid (Qk wr w.heap.size (.slice ua un uc) (dgF F (cov 0 n))∧Zb w wr):=⟨World.ownsRow.mono hJs.op (by omega),hbw⟩
   clear hrd hrb hsix htb hbw hJs hen HI hlt;go_wp2
   go_ret
   exact⟨_,rfl,HY.out.1,HY.out.2⟩
end
end Go.Proofs.YtdocjikpcbmcgaaGreatDoor
