/- Own work. -/
import Derived.Test.YtdocjikpcbmcgaaGreatDoorQn36
set_option maxRecDepth 100000
set_option maxHeartbeats 4000000
namespace Go.Proofs.YtdocjikpcbmcgaaGreatDoor
open Go.RowKit
attribute [local go_sem ↓] Go.wp_at_zero Go.wp_at_succ
open Go.Proofs.Tryz
section
open Cv (zl)
theorem Qcb{w w':World}{B:Nat}{v u:Value}{L:List He}{l:List (Int×Nat)}(ho:Up w B v L)(hB:Cv.Qx w B u l)(g:w.grownBy w' v.ownBlock):Cv.Qx w' B u l :=
 Qi hB fun b hb _=>g.block b (LP hB b hb).2 fun e=>Qd7 hB ho (by decide) hb e.symm
def uA(a H j:Nat):Nat:=if j<=a then 0 else H
def uB(a H j:Nat):Nat:=if j<=a then H+j else H+j - 1
theorem Qlf{n:Nat}(hn:n<=2^40){b:Nat×Nat}(hb:b∈Cv.dnL 41 0 n):b.1<=40 :=
 Cv.pw40 (Lz (by have:=LE (Pl.pw b.1) (show 1<=b.2+1 by omega);rw[LX] at this;exact this) (Lz (U4 n hn b hb) hn))
section
variable {n i H:Nat} {A B:List (Nat×Nat)}
theorem QnU(h:Wy n i A H B){j:Nat}(hj:j<A.length+(B.length+1)):(j=A.length->(Cv.dnL 41 0 n).getD j (0,0)=(H,i / 2^H))∧(j≠A.length->i / 2^((Cv.dnL 41 0 n).getD j (0,0)).1≠((Cv.dnL 41 0 n).getD j (0,0)).2∧(wyB i H A B).getD (uB A.length H j) (0,0)=(Cv.dnL 41 0 n).getD j (0,0)∧uB A.length H j<H+(A.length+B.length)∧uB A.length H (j+1)=uB A.length H j+1∧uA A.length H (j+1)=uA A.length H j):=by
 refine⟨fun e => ?_,fun e => ?_⟩
 ·subst e;rw[h.all];have:=YD (0,0) A ((H,i / 2^H)::B) 0
  rwa [Ix] at this
 ·have xA : ∀t,(wyB i H A B).getD (H+t) (0,0)=(A++B).getD t (0,0):=fun t=>by
   have:=YD (0,0) (bes i H) (A++B) t
   rwa [Us] at this
  by_cases h1:j<A.length
  ·have e1:(Cv.dnL 41 0 n).getD j (0,0)=A.getD j (0,0):=by rw[h.all,Uj _ _ _ h1]
   have hm:A.getD j (0,0)∈A:=Yv h1;have hu:uB A.length H j=H+j:=by rw[uB,Lm (by omega)]
   refine⟨by rw[e1];have:=h.no_left hm;omega,?_,by omega,?_,?_⟩
   ·rw[hu,xA,e1,Uj _ _ _ h1]
   ·rw[hu,uB,Lm (by omega)];omega
   ·rw[uA,uA,Lm (by omega),Lm (by omega)]
  ·obtain⟨t,rfl⟩ : ∃t,j=A.length+(t+1):=⟨j - A.length - 1,by omega⟩
   have ht:t<B.length:=by omega
   have e1:(Cv.dnL 41 0 n).getD (A.length+(t+1)) (0,0)=B.getD t (0,0):=by rw[h.all,YD,I4]
   have hm:B.getD t (0,0)∈B:=Yv ht;have hu:uB A.length H (A.length+(t+1))=H+(A.length+t):=by rw[uB,Le (by omega)];omega
   refine⟨by rw[e1];have:=h.no_right hm;omega,?_,by omega,?_,?_⟩
   ·rw[hu,xA,e1,YD]
   ·rw[hu,uB,Le (by omega)];omega
   ·rw[uA,uA,Le (by omega),Le (by omega)]
end
theorem Qfh(w:World)(hT:Tr w)(k:Int)(old:Nat){n i H:Nat}{A B:List (Nat×Nat)}(h:Wy n i A H B)(hn:n<=2^40)(hi:i<n)(sa:OA)(sb' so sc:Nat)(hS:RdU w sa sb' so 1 [i])(da:OA)(db dO dc:Nat)(D:LB)(hr:RdS w da db dO D.length D)(hD:D.length=(wyB i H A B).length)(xa:OA)(xb xo xc:Nat)(x:BA)(hx:RdS w xa xb xo 1 [x])(hsz:x.size<=1048576)(Kn:List He)(hK:knP (clk k) i x (wyB i H A B) D=Kn) :
  Calls prog 48 #[vP 1 k old n (.slice sa 1 sc) (.slice da D.length dc),.slice xa 1 xc] w fun e w' => ∃ao g cap,e = .returned (.slice ao Kn.length cap)∧RdH w' ao g Kn.length Kn∧Zb w w':=by
 obtain⟨M,hM⟩:=Ze (Cv.dnL 41 0 n);have yO:M.length=A.length+(B.length+1):=by rw[<-hM,h.all,Lg,Lt]
 have yM:D.length=H+(A.length+B.length):=by rw[hD,Of]
 have yK:=h.len;have hH:=h.hH;have xL : ∀b∈M,(b.2+1)*2^b.1<=n:=by rw[<-hM];exact U4 n hn
 have yJ:Hid (∀W,Calls prog 40 #[.int .u64 (n:Int)] W fun e w' => ∃ao cap,e = .returned (.tuple #[.slice ao M.length cap,.int .i64 0])∧Cv.Qx w' W.heap.size (.slice ao M.length cap) (zl M)∧Zb W w'):=fun W=>by
  have h:=Cv.UJ n W;rw[(YM n hn).1,(YM n hn).2,hM] at h;refine h.mono fun e w' ⟨v,e1,e2,e3⟩ => ?_
  obtain⟨ao,g,n',cap,rfl,yV,_⟩:=Y4 e2 (fun b hb=>by
   obtain⟨b0,yU,rfl⟩:=List.mem_map.1 hb;exact(UF (xL b0 yU) hn).1)
  have hl:=yV.len;rw[Cv.QC] at hl;subst hl;exact⟨ao,cap,e1,e2,e3⟩
 obtain⟨d,hd⟩:=Ze (dg (clk k) (Qh x));have yI:Hr w 98 #[.int .i64 k,.string x] (.string d):=fun W hb=>JQ W (hT.next hb) k _ (by omega) _ hd
 have yB : ∀j,j<M.length->(j=A.length->M.getD j (0,0)=(H,i / 2^H))∧(j≠A.length->i / 2^(M.getD j (0,0)).1≠(M.getD j (0,0)).2∧(wyB i H A B).getD (uB A.length H j) (0,0)=M.getD j (0,0)∧uB A.length H j<H+(A.length+B.length)∧uB A.length H (j+1)=uB A.length H j+1∧uA A.length H (j+1)=uA A.length H j):=fun j hj=>by
  have:=QnU h (j:=j) (by omega)
  rwa [hM] at this
 have xU : ∀j,j<M.length->(M.getD j (0,0)).1<=40:=fun j hj=>Qlf hn (by rw[hM];exact Yv hj)
 have xI : ∀j,j<D.length->((wyB i H A B).zip D).take (j+1)=((wyB i H A B).zip D).take j++[((wyB i H A B).getD j (0,0),D.getD j ByteArray.empty)]:=fun j hj=>by
  rw[Nz,QaK hD (by omega)];rfl
 have yC:((wyB i H A B).zip D).length=D.length:=by rw[Uy hD,hD]
 have xM : ∀t,t<H->(wyB i H A B).getD t (0,0)=(t,sb (i / 2^t)):=fun t ht=>by
  rw[wyB,Uj _ _ _ (by rw[Us];omega),La,bes,No,List.getElem?_range (by omega)];rfl
 rw[knP,hd] at hK;obtain⟨Z,hZ⟩:=Ze ((wyB i H A B).zip D);obtain⟨Bs,yL⟩:=Ze (wyB i H A B);rw[hZ] at xI yC hK;rw[yL] at yB xI xM;obtain⟨F,yN,h6,hb,yT⟩:=Yk w (.int .i64 1) (.int .i64 k) (.int .u64 (old:Int)) (.int .u64 (n:Int)) (.slice sa 1 sc) (.slice da D.length dc);clear yT;obtain rfl:=hS.ptr (by decide)
 obtain rfl:=hx.ptr (by decide)
 have HX:Hid (∀V,Zb F V->(V.cell? ⟨w.heap.size,1,none⟩=some (.int .i64 k)∧V.cell? ⟨w.heap.size,3,none⟩=some (.int .u64 (n:Int))∧V.cell? ⟨w.heap.size,5,none⟩=some (.slice da D.length dc))∧RdS V da db dO D.length D∧V.cell? ⟨xb,xo,none⟩=some (.string x)∧Zb w V):=fun V hV=>by
  obtain⟨_,a1,_,a3,_,a5⟩:=(h6.next hV).cells;have:=(hx.next (Qa hb hV) (Ld _)).at (k:=0) (by decide)
  exact⟨⟨a1,a3,a5⟩,hr.next (Qa hb hV) (Ld _),this,Qa hb hV⟩
 have cS:F.cell? ⟨sb',so,none⟩=some (.int .u64 (i:Int)):=(hS.next hb).at (j:=0) (by decide)
 obtain⟨m0,m1,m2,m3,m4,m5⟩:=h6.cells;have HQ:Hid ((∀j,j<M.length->(j=A.length->M.getD j (0,0)=(H,i / 2^H))∧(j≠A.length->i / 2^(M.getD j (0,0)).1≠(M.getD j (0,0)).2∧Bs.getD (uB A.length H j) (0,0)=M.getD j (0,0)∧uB A.length H j<H+(A.length+B.length)∧uB A.length H (j+1)=uB A.length H j+1∧uA A.length H (j+1)=uA A.length H j))∧(∀j,j<M.length->(M.getD j (0,0)).1<=40)∧(∀j,j<D.length->Z.take (j+1)=Z.take j++[(Bs.getD j (0,0),D.getD j ByteArray.empty)])∧Z.length=D.length∧(∀t,t<H->Bs.getD t (0,0)=(t,sb (i / 2^t)))∧((0,i),d)::Z=Kn):=⟨yB,xU,xI,yC,xM,hK⟩;have xH:Hid (∀b∈M,(b.2+1)*2^b.1<=2^40):=fun b hb=>Lz (xL b hb) hn
 have HN:Hid (M.length=A.length+(B.length+1)∧D.length=H+(A.length+B.length)∧A.length+B.length<=40∧H<=40∧i<2^40):=⟨yO,yM,yK,hH,by omega⟩
 have zM:(M.length:Int)<=41:=by omega
 have zD:(D.length:Int)<=80:=by omega
 have zi:(i:Int)<1099511627776:=by omega
 have zA:(0:Int)<=(i:Int):=Lf _;clear hT h hn hi hS hr hD hx hsz hK hM yO yM yK hH xL hd yB xU xI yC xM hZ yL h6 hb;unfold vP
 go_enter func48,ntmps48
 go_upto_region 1 with (fail)
 try rw[yN]
 clear yN
 go_upto_region 4 with (fail)
 have HE:Hid (∀V,Zb F V->Zb F V):=fun V hb=>hb
 have a1:=(HX.out F (Lb _ _)).1.1;have ax:=(HX.out F (Lb _ _)).2.2.1;clear m0 m1 m2 m3 m4 m5 cS
 go_cut [6] from 23 to 32 (fun v wx=>Hid (Up wx F.heap.size v [((0,i),d)]∧Zb F wx))
 case first =>
  go_region_held3 (fun V=>V.cell? ⟨w.heap.size,1,none⟩=some (.int .i64 k)∧V.cell? ⟨xb,xo,none⟩=some (.string x))
   (first|exact⟨(HX.out _ (by with_reducible repeat first|exact Lb _ _|refine LK ?_|refine bal ?_ _|refine Qa ?_ hb5)).1.1,(HX.out _ (by with_reducible repeat first|exact Lb _ _|refine LK ?_|refine bal ?_ _|refine Qa ?_ hb5)).2.2.1⟩)
   (first
    | (go_at_call 98;with_reducible refine(yI.out _ (HX.out _ (by with_reducible repeat first|exact Lb _ _|refine LK ?_|refine bal ?_ _|refine Qa ?_ hb5)).2.2.2).mono ?_;rintro e w5 ⟨rfl,hb5⟩))
  all_goals
   go_wp2
   go_meet
   case rel =>
    go_light;have yW:=(by with_reducible repeat first|exact Lb _ _|refine LK ?_|refine bal ?_ _|refine Qa ?_ hb5:Zb F w5).size
    exact Qe ⟨⟨rfl,.inr ⟨w5.heap.size,1,#[.int .i64 0,.int .u64 (i:Int),.string d],rfl,yW,Lu w5 _,Ld _,by decide,rfl,rfl⟩⟩,by with_reducible repeat first|exact Lb _ _|refine LK ?_|refine bal ?_ _|refine Qa ?_ hb5⟩
 case rest =>
  clear yI a1 ax;have HO:=Qe hcut.out;clear hcut;obtain⟨wA,rfl⟩ : ∃W,W=wc:=⟨_,rfl⟩;have a3:=(HX.out _ HO.out.2).1.2.1
  go_upto_region 6 with (go_at_call 40;with_reducible refine(yJ.out _).mono ?_;rintro e w5 ⟨ma,mc,rfl,oM,hb5⟩)
  have xR:Hid (Up w5 F.heap.size u6 (((0,i),d)::Z.take (uA A.length H 0))∧Cv.Qx w5 F.heap.size (.slice ma M.length mc) (zl M)∧Zb F w5):=⟨by rw[uA,Lm (Ll _)];exact QA HO.out.1 hb5,World.ownsRow.mono oM HO.out.2.size,Qa HO.out.2 hb5⟩
  clear HO hb5 oM a3 yJ;have yA:=Qe (show uA A.length H 0=0 by rw[uA,Lm (Ll _)])
  go_wp2
  go_loopg [6,9,10] M.length (fun g v u' jj wr => ∃j:Nat,g=M.length - j∧j<=M.length∧jj = .int .i64 (j:Int)∧u' = .int .i64 ((uA A.length H j:Nat):Int)∧Hid (Up wr F.heap.size v (((0,i),d)::Z.take (uA A.length H j))∧Cv.Qx wr F.heap.size (.slice ma M.length mc) (zl M)∧Zb F wr))
  case atStart=>go_light;exact⟨0,rfl,Ll _,rfl,by rw[yA.out];rfl,xR⟩
  case round =>
   clear xR;obtain⟨j,rfl,hj,rfl,rfl,HI⟩:=hrel
   by_cases hlt:j<M.length
   ·have z0:(0:Int)<=(j:Int):=Lf _;have z1:(j:Int)<(M.length:Int):=by omega
    obtain⟨mg,xE⟩:=Qay HI.out.2.1 xH.out;obtain rfl:=xE.addr (by omega)
    obtain⟨c0,c1⟩:=xE.cell j hlt;rw[Cv.Uz,Lr] at c0 c1;have xD:=HQ.out.1 j hlt;have xT:=HQ.out.2.1 j hlt;obtain⟨⟨bh,bk⟩,hm⟩ : ∃m,M.getD j (0,0)=m:=⟨_,rfl⟩;rw[hm] at c0 c1 xD xT;simp only at c0 c1 xD xT;obtain⟨p,hp⟩:=Ze (i / 2^bh);have xV:(i:Int) / 2^bh=(p:Int):=by rw[<-hp];simp
    rw[hp] at xD;have y0:(0:Int)<=(bh:Int):=Lf _;have y1:(bh:Int)<=40:=by omega
    have xG:Hid (∀t,Zb wr (wr.drewN t)):=fun t=>Qd (Lb _ _) t
    have HM:=Qe hm;clear xE hm
    go_upto_region 10 with (fail)
    by_cases hq:j=A.length
    ·obtain⟨e1,e2⟩:=Prod.mk.inj (xD.1 hq);subst e1;obtain rfl:bk=p:=e2.trans hp;have hu:uA A.length bh j=0:=by rw[uA,Lm (by omega)]
     have xX:uA A.length bh (j+1)=bh:=by rw[uA,Le (by omega)]
     have HU:=Qe xX;rw[hu] at HI ⊢;clear xD e2 hp hu xX hq
     go_quiet (fail)
     clear xV c0 c1;obtain⟨W2,xC⟩:=Ze (wr.drewN nq);have xA:=xG.out nq;rw[xC] at xA
     try rw[xC]
     have xB:Hid (Up W2 F.heap.size u6 (((0,i),d)::Z.take 0)∧Cv.Qx W2 F.heap.size (.slice (some ⟨mg,0,none⟩) M.length mc) (zl M)∧Zb F W2):=⟨QA HI.out.1 xA,QA HI.out.2.1 xA,Qa HI.out.2.2 xA⟩;clear xC xA HI xG;go_wp2
     go_loopg [6,9,11] bh (fun g v u' x' wi => ∃t:Nat,g=bh - t∧t<=bh∧x' = .int .i64 (t:Int)∧u' = .int .i64 (t:Int)∧Hid (Up wi F.heap.size v (((0,i),d)::Z.take t)∧Cv.Qx wi F.heap.size (.slice (some ⟨mg,0,none⟩) M.length mc) (zl M)∧Zb F wi))
     case atStart=>go_light;exact⟨0,rfl,Ll _,rfl,rfl,xB⟩
     case round =>
      clear xB;obtain⟨t,rfl,yX,rfl,rfl,HT⟩:=hrel;obtain⟨yZ,xE⟩:=Qay HT.out.2.1 xH.out;have e:=xE.addr (by omega)
      simp only[Option.some.injEq,Addr.mk.injEq,and_true] at e;subst e;have c0:=(xE.cell j hlt).1;rw[Cv.Uz,Lr,HM.out] at c0;simp only at c0
      by_cases hlt2:t<bh
      ·have x0:(t:Int)<(bh:Int):=by omega
       have x1:(0:Int)<=(t:Int):=Lf _;have xN:t<D.length:=by have:=HN.out.2.1;omega
       have x2:(t:Int)<(D.length:Int):=by omega
       have x3:(t:Int)<=40:=by omega
       obtain⟨⟨_,_,c5⟩,xO,_,_⟩:=HX.out _ HT.out.2.2;obtain rfl:=xO.ptr (by omega)
       have cd:=xO.at xN;have xF:=HQ.out.2.2.1 t xN;rw[HQ.out.2.2.2.2.1 t hlt2] at xF;obtain⟨y,hy⟩:=Ze (D.getD t ByteArray.empty);rw[hy] at cd xF;obtain⟨q,hq⟩:=Ze (i / 2^t);have xP:(i:Int) / 2^t=(q:Int):=by rw[<-hq];simp
       have yF:q<2^40:=by have:=Nt i (2^t);have:=HN.out.2.2.2.2;omega
       have ex:bits .xor .u64 (q:Int) 1=((sb q:Nat):Int):=by rw[<-Qgk];exact bits_xor_u64_nat q 1 (by omega) (by decide)
       rw[hq] at xF;obtain⟨sq,yQ⟩:=Ze (sb q);rw[yQ] at ex xF;have xK:Hid (Z.take (t+1)=Z.take t++[((t,sq),y)]∧(Z.take t).length<=100):=⟨xF,by rw[Lq];omega⟩
       clear yQ hq yF xF hy xO xE xN
       go_wp2_with (at_builtin;refine Jz _ rfl _ _ rfl F.heap.size u6 (((0,i),d)::Z.take t) rfl (NP HT.out.1 _) (.slice (some ⟨wr.heap.size,0,none⟩) 1 1) [((t,sq),y)] rfl (QmR wr ((t,sq),y)) ?e2 ?e3 ?_)
       case e2=>have:=xK.out.2;simp;omega
       case e3=>have:=HT.out.2.2.size;simp;omega
       intro v' w3 r1 r2;have yS:Hid (Up w3 F.heap.size v' (((0,i),d)::Z.take (t+1))∧Cv.Qx w3 F.heap.size (.slice (some ⟨mg,0,none⟩) M.length mc) (zl M)∧Zb F w3):=by
        have o1:=NP HT.out.1 (.cells #[.int .i64 (t:Int),.int .u64 (sq:Int),.string y] 85);have o2:=NP HT.out.2.1 (.cells #[.int .i64 (t:Int),.int .u64 (sq:Int),.string y] 85);refine⟨?_,Qcb o1 o2 r2,(bal HT.out.2.2 _).trans ((Lb _ _).grown r2 (by have:=HT.out.2.2.size;simp;omega) fun b hb=>(LP o1 b hb).1)⟩
        rw[xK.out.1];exact r1
       obtain⟨va,vn,vc,rfl⟩:=Cv.Qj r1;clear r1 r2 HT c0 c5 cd;go_wp2
       go_roundg (bh - (t+1))
       case rel=>go_light;exact⟨t+1,rfl,by omega,by go_num,by go_num,yS⟩
       case measure=>go_light;omega
      ·obtain rfl:t=bh:=by omega
       have x0 : ¬(t:Int)<(t:Int):=by omega
       clear xE hlt2 yX;go_wp2
       go_roundg (M.length - (j+1))
       case rel=>go_light;exact⟨j+1,rfl,by omega,by go_num,by rw[HU.out],by rw[HU.out];exact HT⟩
       case measure=>go_light;omega
    ·obtain⟨yE,_,_,_,hu⟩:=xD.2 hq;have xP : ¬(p:Int)=(bk:Int):=by omega
     have xW:((p:Int) == (bk:Int))=false:=by simpa using xP
     have HU:=Qe hu;clear xD yE hp hq hu
     go_quiet (fail)
     obtain⟨W2,xC⟩:=Ze (wr.drewN nq);have xA:=xG.out nq;rw[xC] at xA
     try rw[xC]
     have xB:Hid (Up W2 F.heap.size u6 (((0,i),d)::Z.take (uA A.length H j))∧Cv.Qx W2 F.heap.size (.slice (some ⟨mg,0,none⟩) M.length mc) (zl M)∧Zb F W2):=⟨QA HI.out.1 xA,QA HI.out.2.1 xA,Qa HI.out.2.2 xA⟩;clear xC xA HI xG xV c0 c1 xP xW;go_wp2
     go_roundg (M.length - (j+1))
     case rel=>go_light;exact⟨j+1,rfl,by omega,by go_num,by rw[HU.out],by rw[HU.out];exact xB⟩
     case measure=>go_light;omega
   ·obtain rfl:j=M.length:=by omega
    have yY : ¬(M.length:Int)<(M.length:Int):=by omega
    have hu:uA A.length H M.length=H:=by have:=HN.out.1;rw[uA,Le (by omega)]
    have yG:uB A.length H 0=H:=by rw[uB,Lm (Ll _)];omega
    rw[hu] at HI ⊢;have xR:Hid (Up wr F.heap.size u6 (((0,i),d)::Z.take (uB A.length H 0))∧Cv.Qx wr F.heap.size (.slice ma M.length mc) (zl M)∧Zb F wr):=by rw[yG];exact HI
    have yA:=Qe yG;clear hlt hj hu yG HI;go_wp2
    go_loopg [6,9,12] M.length (fun g v u' jj wr => ∃j:Nat,g=M.length - j∧j<=M.length∧jj = .int .i64 (j:Int)∧u' = .int .i64 ((uB A.length H j:Nat):Int)∧Hid (Up wr F.heap.size v (((0,i),d)::Z.take (uB A.length H j))∧Cv.Qx wr F.heap.size (.slice ma M.length mc) (zl M)∧Zb F wr))
    case atStart=>go_light;exact⟨0,rfl,Ll _,rfl,by rw[yA.out],xR⟩
    case round =>
     clear xR;obtain⟨j,rfl,hj,rfl,rfl,HI⟩:=hrel
     by_cases hlt:j<M.length
     ·have z0:(0:Int)<=(j:Int):=Lf _;have z1:(j:Int)<(M.length:Int):=by omega
      obtain⟨mg,xE⟩:=Qay HI.out.2.1 xH.out;obtain rfl:=xE.addr (by omega)
      obtain⟨c0,c1⟩:=xE.cell j hlt;rw[Cv.Uz,Lr] at c0 c1;have xD:=HQ.out.1 j hlt;have xT:=HQ.out.2.1 j hlt;obtain⟨⟨bh,bk⟩,hm⟩ : ∃m,M.getD j (0,0)=m:=⟨_,rfl⟩;rw[hm] at c0 c1 xD xT;simp only at c0 c1 xD xT;obtain⟨p,hp⟩:=Ze (i / 2^bh);have xV:(i:Int) / 2^bh=(p:Int):=by rw[<-hp];simp
      rw[hp] at xD;have y0:(0:Int)<=(bh:Int):=Lf _;have y1:(bh:Int)<=40:=by omega
      have xG:Hid (∀t,Zb wr (wr.drewN t)):=fun t=>Qd (Lb _ _) t
      have HM:=Qe hm;clear xE hm
      go_upto_region 19 with (fail)
      by_cases hq:j=A.length
      ·obtain⟨e1,e2⟩:=Prod.mk.inj (xD.1 hq);subst e1;obtain rfl:bk=p:=e2.trans hp;have xX:uB A.length bh (j+1)=uB A.length bh j:=by rw[uB,uB,Le (by omega),Lm (by omega)];omega
       have HU:=Qe xX;have xW:((bk:Int) != (bk:Int))=false:=by simp
       clear xD e2 hp xX hq
       go_quiet (fail)
       obtain⟨W2,xC⟩:=Ze (wr.drewN nq);have xA:=xG.out nq;rw[xC] at xA
       try rw[xC]
       have xB:Hid (Up W2 F.heap.size u6 (((0,i),d)::Z.take (uB A.length bh j))∧Cv.Qx W2 F.heap.size (.slice (some ⟨mg,0,none⟩) M.length mc) (zl M)∧Zb F W2):=⟨QA HI.out.1 xA,QA HI.out.2.1 xA,Qa HI.out.2.2 xA⟩;clear xC xA HI xG xV c0 c1 xW;go_wp2
       go_roundg (M.length - (j+1))
       case rel=>go_light;exact⟨j+1,rfl,by omega,by go_num,by rw[HU.out],by rw[HU.out];exact xB⟩
       case measure=>go_light;omega
      ·obtain⟨yE,yD,yR,hu,_⟩:=xD.2 hq;have xP : ¬(p:Int)=(bk:Int):=by omega
       have xW:((p:Int) != (bk:Int))=true:=by simpa using xP
       obtain⟨t,ht⟩:=Ze (uB A.length H j);rw[ht] at yD yR hu HI ⊢;have HU:=Qe hu;have xN:t<D.length:=by have:=HN.out.2.1;omega
       have xF:=HQ.out.2.2.1 t xN;rw[yD] at xF;obtain⟨y,hy⟩:=Ze (D.getD t ByteArray.empty);rw[hy] at xF;have xK:Hid (Z.take (t+1)=Z.take t++[((bh,bk),y)]∧(Z.take t).length<=100∧t<D.length∧D.getD t ByteArray.empty=y):=⟨xF,by rw[Lq];omega,xN,hy⟩
       have x1:(0:Int)<=(t:Int):=Lf _;have x2:(t:Int)<(D.length:Int):=by omega
       clear xD yE hp hq hu yD yR ht xN xF hy
       go_quiet (fail)
       obtain⟨W2,xC⟩:=Ze (wr.drewN nq);have xA:=xG.out nq;rw[xC] at xA
       try rw[xC]
       have xB:Hid (Up W2 F.heap.size u6 (((0,i),d)::Z.take t)∧Cv.Qx W2 F.heap.size (.slice (some ⟨mg,0,none⟩) M.length mc) (zl M)∧Zb F W2):=⟨QA HI.out.1 xA,QA HI.out.2.1 xA,Qa HI.out.2.2 xA⟩;clear xC xA HI xG xV c0 c1 xP xW;obtain⟨_,xO,_,_⟩:=HX.out _ xB.out.2.2;obtain rfl:=xO.ptr (by omega)
       clear xO;have HC:Hid (∀V,Zb F V->Cv.Qx V F.heap.size (.slice (some ⟨mg,0,none⟩) M.length mc) (zl M)->V.cell? ⟨w.heap.size,5,none⟩=some (.slice (some ⟨db,dO,none⟩) D.length dc)∧V.cell? ⟨db,dO+t,none⟩=some (.string y)∧V.cell? ⟨mg,j*2,none⟩=some (.int .i64 (bh:Int))∧V.cell? ⟨mg,j*2+1,none⟩=some (.int .u64 (bk:Int))):=fun V hV hO=>by
        obtain⟨⟨_,_,k5⟩,kd,_,_⟩:=HX.out V hV;obtain⟨yZ,xE⟩:=Qay hO xH.out;have e:=xE.addr (by omega)
        simp only[Option.some.injEq,Addr.mk.injEq,and_true] at e;subst e;have hc:=xE.cell j hlt;rw[Cv.Uz,Lr,HM.out] at hc;have h2:=kd.at xK.out.2.2.1;rw[xK.out.2.2.2] at h2;exact⟨k5,h2,hc.1,hc.2⟩
       obtain⟨va,vm,vc,rfl⟩:=Cv.Qj xB.out.1;have yP:=(Lb W2.heap.size W2).drew;have xJ:=bal (Lb W2.heap.size W2) (.cells #[.int .i64 (bh:Int),.int .u64 (bk:Int),.string y] 85);have xZ:=Qe (QA xB.out.1 xJ.drew);have xS:=Qe (QA xB.out.2.1 xJ.drew);have xY:=Qe (Qa xB.out.2.2 xJ.drew);have yH:=Qe (QiU W2 ((bh,bk),y));have xQ:=Qe (Lo (HC.out _ (Qa xB.out.2.2 yP) (QA xB.out.2.1 yP)) (Lo (HC.out _ (Qa xB.out.2.2 xJ) (QA xB.out.2.1 xJ)) (HC.out _ (Qa xB.out.2.2 xJ.drew) (QA xB.out.2.1 xJ.drew))));obtain⟨r5,r6,r7,r8⟩:=HC.out _ xB.out.2.2 xB.out.2.1;obtain⟨q5,q6,q7,q8⟩:=xQ.out.1;have HJ:=Qe hlt;clear hlt hj
       go_upto_region 20 with (fail)
       go_region_held3 (fun V=>V.cell? ⟨w.heap.size,5,none⟩=some (.slice (some ⟨db,dO,none⟩) D.length dc)∧V.cell? ⟨db,dO+t,none⟩=some (.string y)∧V.cell? ⟨mg,j*2,none⟩=some (.int .i64 (bh:Int))∧V.cell? ⟨mg,j*2+1,none⟩=some (.int .u64 (bk:Int))) (first|assumption|(exact HC.out _ hB3 hO3)|(exact xQ.out.1)|(exact xQ.out.2.1)|(exact xQ.out.2.2)|(exact HC.out _ xB.out.2.2 xB.out.2.1)) (first
        | (refine Oy _ (by rfl) _ _ (by rfl) F.heap.size _ (((0,i),d)::Z.take t) (by rfl) xZ.out ⟨W2.heap.size,0,none⟩ 1 ((bh,bk),y) (by rfl) yH.out (by have:=xK.out.2.1;simp;omega) xY.out.size ?_;intro v' w3 o1 o2 o3;obtain⟨ya,ym,yc,rfl⟩:=Cv.Qj o1;have hB3:=xY.out.trans o2;have hO3:=Qcb xZ.out xS.out o3))
       all_goals
        have HZ:Hid (Up w3 F.heap.size (.slice ya ym yc) (((0,i),d)::Z.take (t+1))∧Cv.Qx w3 F.heap.size (.slice (some ⟨mg,0,none⟩) M.length mc) (zl M)∧Zb F w3):=⟨by rw[xK.out.1];exact o1,hO3,hB3⟩
        clear o1 o2 o3 hB3 hO3 xZ xS xY yH HC xQ xJ q5 q6 q7 q8 r5 r6 r7 r8;go_wp2
        go_roundg (M.length - (j+1))
        case rel=>go_light;exact⟨j+1,rfl,HJ.out,by go_num,by rw[HU.out];go_num,by rw[HU.out];exact HZ⟩
        case measure=>go_light;have:=HJ.out;omega
     ·obtain rfl:j=M.length:=by omega
      have yY : ¬(M.length:Int)<(M.length:Int):=by omega
      have hu:Z.take (uB A.length H M.length)=Z:=by
       have h1:=HN.out.1;have h2:=HN.out.2.1;have h3:=HQ.out.2.2.2.1;rw[uB,Le (by omega),LD (by omega)]
      have hI:=HI.out;rw[hu,HQ.out.2.2.2.2.2] at hI;obtain⟨ao,g',cap,hv,hR⟩:=QdR hI.1;subst hv;have HF:=Qe (Lo hR (HX.out _ hI.2.2).2.2.2);clear hI HI hR hlt hj hu;go_wp2
      go_ret
      exact⟨ao,⟨cap,rfl⟩,⟨g',HF.out.1⟩,HF.out.2⟩
end
section
open Pl (pw QF)
open Cv (Row All Til But cov zl)
structure AccR(k:Int)(n:Nat)(l:List (Nat×BA))(P:PV)(Bs:List (Nat×Nat))(K:List He):Prop where
 ht : ∀h i v,Tl (clk k) K h i v->xd (clk k) (ixM Bs) P.D (vlC l) h i=v
 hh : ∀h i v,Tl (clk k) K h i v->((∃s∈P.S,s / 2^h=i)↔ixM Bs h i=none)
 nk : ∀h i u,ixM Bs (h+1) i=none->((h+1,i),u) ∉ K
 kb : ∀e∈K,e.1.1<=40∧e.1.2<2^40∧e.2.size<=32
 kl:K.length<=100000000
 known : ∀W sa sb sc da db dc xa xb xc,Tr W->RdPC W sa sb 0 sc da db 0 dc P->RdS W xa xb 0 (vls l).length (vls l)->Calls prog 48 #[.agg #[.int .i64 P.kd,.int .i64 P.k,.int .u64 (P.old:Int),.int .u64 (P.size:Int),.slice sa P.S.length sc,.slice da P.D.length dc],.slice xa (vls l).length xc] W fun e w' => ∃ao g cap,e = .returned (.slice ao K.length cap)∧RdH w' ao g K.length K∧Zb W w'
theorem QmL{c:Nat}(hc:c<=32){Bs:List (Nat×Nat)}{D:LB}{V:Nat->BA}{S:List Nat}{K:List He}(fit : ∀b∈Bs,b.1<=40∧b.2<2^40)(len:D.length=Bs.length)(dsz : ∀d∈D,d.size=c)(hS : ∀s∈S,s<2^40)
  (h1 : ∀e∈K,e∈Bs.zip D∨(e.1 ∉ Bs∧e.1.1=0∧(e.1.2∈S)∧e.2=dg c (Qh (V e.1.2)))) : ∀e∈K,e.1.1<=40∧e.1.2<2^40∧e.2.size<=32:=fun e he=>by
 rcases h1 e he with h|⟨_,h2,h3,h4⟩
 ·obtain⟨j,hj,rfl⟩:=US len h;have h1:=fit _ (Yv hj);have h2:=dsz _ (Qv (show j<D.length by omega))
  exact⟨h1.1,h1.2,by simp only;omega⟩
 ·refine⟨by omega,hS _ h3,?_⟩
  rw[h4,Q6 hc];exact hc
theorem QkX{k:Int}{o1:Nat}{c1:BA}{l:List (Nat×BA)}{s:BA}{P:PV}(A:Acc k o1 c1 l s P)(ho:o1<=1000) : ∃Bs K R,AccT k o1 c1 l P Bs K R∧AccR k o1 l P Bs K:=by
 have hS:=A.hS;have xF:=A.size;have xP:=A.old;have hc:=Qp k;have xS:(clk k:Int)=k:=Qdu A.k1 A.k2
 rcases A.how with ⟨h1,i,A',H,B,hSi,wy,hi,hf,hr⟩|⟨h2,hok,hr⟩
 ·rw[hSi] at hS;obtain⟨x,xI⟩:=QgU hS;have xN:vlC l i=x:=by rw[xI];simp[vlC]
  have xQ:(vls l).getD 0 ByteArray.empty=x:=by rw[xI];rfl
  have xM:vls l=[x]:=by rw[xI];rfl
  have xR:x.size<=1048576:=A.hv x (by rw[xM];simp)
  rw[xQ] at hr;have xC:=Qfu wy A.n40 ⟨A.k1,A.k2⟩ hf (V:=vlC l) x xN;have xA:P.D.length=(wyB i H A' B).length:=xC.len;have xD : ∀e∈knP (clk k) i x (wyB i H A' B) P.D,e∈(wyB i H A' B).zip P.D∨(e.1 ∉ wyB i H A' B∧e.1.1=0∧(e.1.2∈[i])∧e.2=dg (clk k) (Qh (vlC l e.1.2))):=fun e he=>by
   rcases List.mem_cons.1 he with rfl|he
   ·refine .inr ⟨fun hb=>wy.free 0 ?_,rfl,by simp,?_⟩
    ·rw[NC,Ih];exact hb
    ·show dg (clk k) (Qh x)=dg (clk k) (Qh (vlC l i))
     rw[xN]
   ·exact .inl he
  have xG : ∀e∈(wyB i H A' B).zip P.D,e∈knP (clk k) i x (wyB i H A' B) P.D:=fun e he=>L4 _ he
  have hT:=xC;rw[QgL i,hS] at hT;refine⟨_,_,_,⟨hT,hr,fun t ht => ?_,?_,?_,fun W sa sb sc da db dc _ hF => ?_⟩,⟨?_,?_,?_,?_,?_,fun W sa sb sc da db dc xa xb xc hTr hF hx => ?_⟩⟩
  ·rw[<-hS] at ht;have ht:t=i:=by simpa using ht
   subst ht;exact⟨hi,fun t=>YG.2 (wy.free t)⟩
  ·rw[<-hS];exact Wj _ _
  ·have:=wy.len;have:=wy.hH;rw[Of];omega
  ·have xB:=hF.p.rs;rw[hSi] at xB ⊢;rw[h1,xF];exact Qgw W k P.old wy A.n40 hi sa sb 0 sc xB _
  ·exact QkJ (Q:=fun t=>t∈[i]) xC.nodup xA xD xG
  ·rw[hSi];exact QkI xA xD (QlR wy) (QlS wy A.n40)
  ·exact Qhi (Q:=fun t=>t∈[i]) xA xD
  ·exact QmL hc xC.fit xA xC.dsz (fun s hs=>by rw[N6] at hs;omega) xD
  ·rw[knP,Lt,Uy xA,Of];have:=wy.len;have:=wy.hH;omega
  ·have xB:=hF.rs;rw[hSi] at xB ⊢;rw[xM] at hx ⊢;rw[h1,xF,A.hk];exact Qfh W hTr k P.old wy A.n40 hi sa sb 0 sc xB da db 0 dc P.D hF.rd xA xa xb 0 xc x hx xR _ rfl
 ·rw[hS] at hok hr;obtain⟨xH,_,_,xE⟩:=Cv.QJ hok.2.1;have xC:=Qdn hok;have hp:=Y8 xE;have hX:(vls l).length=(ixs l).length:=by rw[Lx,Lx]
  have xT:(ixs l).length<=1000:=by have:=Qdr xE (Ll _);omega
  have xU:=QcC (Cv.YP o1 (ixs l) xH xE);have xA:P.D.length=(Cv.rst 0 o1 (ixs l)).length:=xC.len;have xJ:=Cv.YP o1 (ixs l) xH xE;have xD : ∀e∈knS (clk k) (ixs l) (vls l)++(Cv.rst 0 o1 (ixs l)).zip P.D,e∈(Cv.rst 0 o1 (ixs l)).zip P.D∨(e.1 ∉ Cv.rst 0 o1 (ixs l)∧e.1.1=0∧(e.1.2∈ixs l)∧e.2=dg (clk k) (Qh (vlC l e.1.2))):=fun e he'=>by
   rcases List.mem_append.1 he' with h|h
   ·obtain⟨j,hj,hv⟩:=LS h;rw[Ut _ _ _ hX] at hj;have xK:=QbZ (clk k) hX hj;rw[Lc (by rw[Ut _ _ _ hX];exact hj),hv] at xK
    obtain rfl:=Nx xK;have xO:j<l.length:=by rwa [Lx] at hj
    have hm:(ixs l).getD j 0∈ixs l:=by rw[La,Lc hj];exact LG _
    refine .inr ⟨fun hb => ?_,rfl,hm,?_⟩
    ·have h2:=(Js xJ _ hb).2 ((ixs l).getD j 0) (by simp[pw]) (by simp[pw])
     exact h2.2 hm
    ·show dg (clk k) (Qh ((vls l).getD j ByteArray.empty))=dg (clk k) (Qh (vlC l ((ixs l).getD j 0)))
     rw[JK,Qer hp xO]
     congr 2
     rw[La,No,La]
     cases l[j]? <;> rfl
   ·exact .inl h
  have xG : ∀e∈(Cv.rst 0 o1 (ixs l)).zip P.D,e∈knS (clk k) (ixs l) (vls l)++(Cv.rst 0 o1 (ixs l)).zip P.D:=fun e he=>NQ _ he
  have xL:=Qk1 xH xE;refine⟨_,_,_,⟨xC,hr,fun t ht=>⟨(Cv.Yp xE t ht).2,Qbv hok ht⟩,hp,by omega,fun W sa sb sc da db dc h5 hF => ?_⟩,⟨?_,?_,?_,?_,?_,fun W sa sb sc da db dc xa xb xc hTr hF hx => ?_⟩⟩
  ·have xB:=hF.p.rs;rw[hS] at xB ⊢;rw[h2,xF];exact Qez W k P.old o1 (ixs l) hok.2.1 (by omega) sa sb 0 sc xB _
  ·exact QkJ (Q:=fun t=>t∈ixs l) xC.nodup xA xD xG
  ·rw[hS];exact QkI xA xD xL.1 xL.2
  ·exact Qhi (Q:=fun t=>t∈ixs l) xA xD
  ·exact QmL hc xC.fit xA xC.dsz (fun s hs=>by have:=(Cv.Yp xE s hs).2;omega) xD
  ·rw[Lg,Ut _ _ _ hX,Uy xA];omega
  ·have xB:=hF.rs;rw[hS] at xB ⊢;rw[h2,xF,A.hk];refine Qfg W k P.old o1 (.slice sa (ixs l).length sc) (.slice da P.D.length dc) (.slice xa (vls l).length xc) _ (fun V hb => ?_)
   have:=Qcp V (hTr.next hb) 2 k P.old o1 sa sb 0 sc (ixs l) (vls l) (by rw[hX];exact xB.next hb) (by omega) da db 0 dc P.D (hF.rd.next hb (Ld _)) xa xb 0 xc (hx.next hb (Ld _)) A.hv hok.2.1 xA _ rfl
   rw[<-hX];exact this
end
def Jx:BA:=⟨#[109,97,114,107]⟩
theorem QjF(w:World)(ao:OA)(b off len cap:Nat)(ss:LB)(hr:RdS w ao b off len ss)(hmx:len<=8796093021952)(hn:ao=none->cap=0) :
  Calls prog 15 #[.slice ao len cap] w fun e w' => ∃g cap',e = .returned (.slice (some ⟨g,0,none⟩) len cap')∧len+1<=cap'∧w'.rangeAt g 0 ((ss++[Jx]).map Value.string)∧Zb w w':=by
 obtain rfl:=hr.hl
 go_enter func15,ntmps15
 go_wp2_with (at_builtin;refine QE _ rfl _ _ rfl w.heap.size _ [] rfl (Um w _) ao b off cap ss rfl hr hn ?_ (Ld _) ?_)
 ·simp;omega
 intro v1 w1 h1 hb1
 go_wp2_with (at_builtin;refine QE _ rfl _ _ rfl w.heap.size _ ss rfl (Y0 h1 _) (some ⟨w1.heap.size,0,none⟩) w1.heap.size 0 1 [Jx] rfl (YO w1 Jx (by decide)) (fun h=>by cases h) ?_ ?_ ?_)
 ·simp;omega
 ·have:=hb1.size;simp;omega
 intro v2 w2 h2 hb2;have HB:Hid (Zb w w2):=hb1.trans (((Lb _ _).alloc hb1.size _).trans hb2);obtain⟨g,cap',rfl,hg,hc,hm⟩:=Qcc h2 (by simp)
 rw[Lg,Nw] at hc;have xA:(ss.length:Int)<=(cap':Int):=by omega
 have HR:Hid (w2.rangeAt g 0 ((ss++[Jx]).map Value.string)):=fun j v hv=>by
  have hj:j<(ss++[Jx]).length:=by have:=(List.getElem?_eq_some_iff.1 hv).1;rwa [Lx] at this
  rw[Lr,(Ul h2 hj).1,<-hv,No,Lc hj,La,Lc hj]
  rfl
 clear h1 h2 hb1 hb2 hr;go_wp2
 go_ret
 exact⟨g,cap',rfl,hc,HR.out,HB.out⟩
theorem Qly{w:World}{g:Nat}{ss:LB}(h:w.rangeAt g 0 ((ss++[Jx]).map Value.string)):w.cell? ⟨g,ss.length,none⟩=some (.string Jx):=by
 have:=h ss.length (.string Jx) (by simp)
 rwa [Lr] at this
theorem Qfi{w:World}{g:Nat}{ss:LB}(h:w.rangeAt g 0 ((ss++[Jx]).map Value.string))(hs : ∀s∈ss,s.size<=9223372036854775807):RdS w (some ⟨g,0,none⟩) g 0 ss.length ss :=
 ⟨rfl,fun _=>rfl,fun j v hv=>h j v (by rw[L8,LL (List.getElem?_eq_some_iff.1 hv).1];exact hv),hs⟩
theorem QiM(w:World)(ao:OA)(b off len cap:Nat)(ss:LB)(hr:RdS w ao b off len ss)(hmx:len<=8796093021952)(g cap':Nat)(hc:len+1<=cap')(hg:w.rangeAt g 0 ((ss++[Jx]).map Value.string)) :
  Zr 17 #[.slice (some ⟨g,0,none⟩) len cap',.slice ao len cap] w (.bool true):=by
 obtain rfl:=hr.hl;have xB:Hid (∀W,Zb w W->RdS W (some ⟨g,0,none⟩) g 0 ss.length ss∧RdS W ao b off ss.length ss):=fun W hb=>⟨(Qfi hg hr.sz).next hb (Ld _),hr.next hb (Ld _)⟩
 have HM:Hid (∀W,Zb w W->W.cell? ⟨g,ss.length,none⟩=some (.string ⟨#[109,97,114,107]⟩)):=fun W h=>Qly (Ql h (QU hg (by simp)) hg)
 have H0:Hid (Zb w w):=Lb _ _;have xF:(ss.length:Int)+1<=(cap':Int):=by omega
 have zm:(ss.length:Int)<=8796093021952:=by omega
 have zw:IntKind.i64.wrap ((ss.length:Int)+1)=(ss.length:Int)+1:=by rw[Nd];omega
 have zt:((ss.length:Int)+1).toNat=ss.length+1:=by omega
 have z6:(0:Int)<=(ss.length:Int)+1:=by omega
 clear hr hg hmx hc
 go_enter func17,ntmps17;go_wp2
 go_loopg [5] ss.length (fun t i wr => ∃j:Nat,t=ss.length - j∧j<=ss.length∧i = .int .i64 (j:Int)∧Hid (Zb w wr))
 case atStart=>go_light;exact⟨0,rfl,Ll _,rfl,H0⟩
 case round =>
  clear H0;obtain⟨j,rfl,hj,rfl,HI⟩:=hrel
  by_cases hlt:j<ss.length
  ·have y0:(0:Int)<=(j:Int):=Lf _;have y1:(j:Int)<(ss.length:Int):=by omega
   obtain⟨xC,xA⟩:=xB.out wr HI.out;obtain rfl:=xA.ptr (by omega)
   have ca:=xC.at hlt;have cb:=xA.at hlt;obtain⟨x,hx⟩:=Ze (ss.getD j ByteArray.empty);rw[hx] at ca cb;rw[Lr] at ca;have xD:Hid (∀t,Zb w (wr.drewN t)):=fun t=>Qd HI.out t
   clear xC xA hx HI
   go_upto_region 4 with (fail)
   go_quiet (fail)
   go_wp2
   go_roundg (ss.length - (j+1))
   case rel=>go_light;exact⟨j+1,rfl,by omega,by go_num,xD.out _⟩
   case measure=>go_light;omega
  ·obtain rfl:j=ss.length:=by omega
   have xG : ¬(ss.length:Int)<(ss.length:Int):=by omega
   have k1:=HM.out _ HI.out;have xE:=HI.out;clear HI hlt hj xB;go_wp2
   go_ret
   exact⟨rfl,xE⟩
section
open Cv (zl cov)
theorem QmG{c:Nat}(hc:c<=32) : ∀(P:LB),(∀s∈P,s.size<=32) -> ∀x∈bx c P,x.size<=100
 | [],_,x,hx=>by cases hx
 | [p],_,x,hx=>by cases hx
 | p::p2::P,h,x,hx=>by
  rw[bx] at hx
  rcases List.mem_cons.1 hx with rfl|hx
  ·have h1:=h p (Nq ..);have h2:=Q3 hc (Ld _) (p2::P) (fun s hs=>h s (L4 _ hs))
   rw[JX];omega
  ·exact QmG hc (p2::P) (fun s hs=>h s (L4 _ hs)) x hx
theorem QmV{c n:Nat}(hc:c<=32){P:LB}(hP : ∀s∈P,s.size<=32) : ∀x∈tx c n P,x.size<=9223372036854775807:=fun x hx=>by
 rcases List.mem_cons.1 hx with rfl|hx
 ·have h2:=Q3 hc (Ld _) P hP;rw[Jq];omega
 ·have:=QmG hc P hP x hx;omega
theorem Ql5(n:Nat)(hn:n<=2^40)(W:World):Calls prog 40 #[.int .u64 (n:Int)] W fun e w' => ∃ao cap,e = .returned (.tuple #[.slice ao (Cv.dnL 41 0 n).length cap,.int .i64 0])∧Cv.Qx w' W.heap.size (.slice ao (Cv.dnL 41 0 n).length cap) (zl (Cv.dnL 41 0 n))∧Zb W w':=by
 have h:=Cv.UJ n W;rw[(YM n hn).1,(YM n hn).2] at h;refine h.mono fun e w' ⟨v,e1,e2,e3⟩ => ?_
 obtain⟨ao,m,cap,rfl⟩:=Cv.Qj e2;have hl:=OV e2;rw[Cv.QC] at hl;subst hl;exact⟨ao,cap,e1,e2,e3⟩
theorem Qka{c:Nat}{L:LB}(h40:L.length<=2^40):pks c L 41=(Cv.dnL 41 0 L.length).map fun b=>nd c L b.1 b.2:=by
 have:=(Qaq c L L.length (Ld _) h40).1;rw[LY,Cv.QX _ h40] at this;exact this.symm
theorem Qoh{i h n:Nat}(hi:(i+1)*2^h<=n)(hn:n<=1000):2^(h+1)<=2000:=by
 have:=LE (2^h) (show 1<=i+1 by omega)
 rw[LM];omega
end
theorem Qfe{w:World}{la:OA}{lb lo ln:Nat}{Li:LB}(hL:RdS w la lb lo ln Li):RdS w la lb lo (Li.take 150).length (Li.take 150)∧min ln 150=(Li.take 150).length∧(Li.take 150).length<=150:=by
 have xA:min ln 150=(Li.take 150).length:=by rw[Lq,hL.hl];omega
 refine⟨?_,xA,by omega⟩
 have xB:=hL;rw[<-hL.hl] at xB;have h1:Li.take (Li.take 150).length=Li.take 150:=by rw[<-xA,<-hL.hl];simp[Nat.min_comm]
 have h2:=O4 xB (H:=(Li.take 150).length) (by have:=hL.hl;omega)
 rwa [h1] at h2
theorem Ji(w:World)(ht:Tb w)(hr:Tr w)(k:Int)(la:OA)(lb lo ln lc:Nat)(Li:LB)(hL:RdS w la lb lo ln Li)(hlc:ln<=lc)(hln:la=none->lc=0)(ca:OA)(cn cc:Nat)(s:BA)(T:Pq)
  (HEx : ∀W la' lb' lo' lc',Zb w W->RdS W la' lb' lo' (Li.take 150).length (Li.take 150)->(Li.take 150).length<=lc'->Zr 10 #[.int .i64 k,.slice la' (Li.take 150).length lc',.slice ca cn cc,.string s] W (tri T))
  (HRe : ∀W,Zb w W->Zr 18 #[.int .i64 k,.slice la (Li.take 150).length lc,.slice ca cn cc,.string s] W (tri T)) :
  Zr 6 #[.int .i64 k,.slice la ln lc,.agg #[.slice ca cn cc,.string s]] w (.bool true):=by
 obtain⟨xC,xJ,xU⟩:=Qfe hL;obtain⟨A,xQ⟩:=Ze (Li.take 150);rw[xQ] at xC xJ xU HEx HRe;have HF:Hid (∀W,Calls prog 8 #[.slice la ln lc] W fun e w'=>e = .returned (.slice la A.length lc)∧W=w'):=fun W=>Qll W la ln lc hlc _ xJ
 have xL:Hr w 7 #[] (.bool true):=fun W hb=>Qhs W (ht.next hb) (hr.next hb)
 have xN:Hid (∀W,Zb w W->Calls prog 15 #[.slice la A.length lc] W fun e w' => ∃g cap',e = .returned (.slice (some ⟨g,0,none⟩) A.length cap')∧A.length+1<=cap'∧w'.rangeAt g 0 ((A++[Jx]).map Value.string)∧Zb W w'):=fun W hb=>QjF W la lb lo A.length lc A (xC.next hb (Ld _)) (by omega) hln
 have xW:Hid (∀W g cap',Zb w W->A.length+1<=cap'->W.rangeAt g 0 ((A++[Jx]).map Value.string)->Zr 17 #[.slice (some ⟨g,0,none⟩) A.length cap',.slice la A.length lc] W (.bool true)):=fun W g cap' hb h1 h2=>QiM W la lb lo A.length lc A (xC.next hb (Ld _)) (by omega) g cap' h1 h2
 have HE:=Qe HEx;have HR:=Qe HRe;have xO:=Qe xC.sz;have zA:(A.length:Int)<=150:=by omega
 obtain⟨W0,xR,xV,xE⟩:=Qmd w ca cn cc s;have xP:=Qe xV;clear ht hr hL hlc hln xC xJ xU xQ HEx HRe xV
 go_enter func6,ntmps6
 go_upto_region 1 with (fail)
 try rw[xR]
 clear xR
 go_upto_region 5 with (first
  | (go_at_call 7;with_reducible refine(xL.out _ xE).mono ?_;rintro e w1 ⟨rfl,xF⟩)
  | (go_at_call 8;with_reducible refine(HF.out _).mono ?_;rintro e xZ ⟨rfl,rfl⟩)
  | (go_at_call 15;with_reducible refine(xN.out _ (Qa xE xF)).mono ?_;rintro e w2 ⟨g2,c2,rfl,xT,xI,xH⟩))
 have xB:=Qa (Qa xE xF) xH;have xK:=xP.out.next (Qa xF xH);obtain⟨d0,d1⟩:=xK.cells;have xM:=Qe (HE.out w2 (some ⟨g2,0,none⟩) g2 0 c2 xB (Qfi xI xO.out) (by omega))
 have HG:=Qe (Lo xT xI);clear xI xT xE xF xH xN HE xO HF xL xP
 go_upto_region 6 with (go_at_call 10;with_reducible refine xM.out.mono ?_;rintro e w4 ⟨rfl,xG⟩)
 obtain⟨e0,e1⟩:=(xK.next xG).cells;clear d0 d1
 go_upto_region 7 with (go_at_call 18;with_reducible refine(HR.out _ (Qa xB xG)).mono ?_;rintro e w5 ⟨rfl,xS⟩)
 have xA:=Qa xG xS;have xX:=Qe (Ql xA (QU HG.out.2 (by simp)) HG.out.2)
 have xD:=Qa xB xA;clear xM HR xG xS xA e0 e1 xK
 go_wp2_with (go_at_call 17;with_reducible refine(xW.out _ g2 c2 xD HG.out.1 xX.out).mono ?_;rintro e w6 ⟨rfl,xY⟩)
 go_ret
 exact⟨rfl,Qa xD xY⟩
end Go.Proofs.YtdocjikpcbmcgaaGreatDoor
