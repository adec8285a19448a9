/- Own work. -/
import Derived.Test.YtoblgjledefdbaaGreatDoorQt18
set_option maxRecDepth 100000
set_option maxHeartbeats 8000000
namespace Go.Proofs.YtoblgjledefdbaaGreatDoor
open Go.RowKit
attribute [local go_sem ↓] Go.wp_at_zero Go.wp_at_succ
open Go.Proofs.Tryz
section
attribute [local go_sem ↓] St.UY
theorem Qjx(w:World)(ht:Tb w)(hT:Tr w)(ao:OA)(b off len cap:Nat)(xs:LB)(hr:RdS w ao b off len xs)(hmx:len<=9223372036854775807)(fo:OA)(fb foff fn fc:Nat)(fl:Nat->FaV)(hf:RdFa w fo fb foff fn fl)(hfm:fn<=9223372036854775807) :
  Zr 7 #[.slice ao len cap,.slice fo fn fc] w (.bool true):=by
 obtain⟨D0,o1,o2,o3,o4⟩:=QkT (k:=4) (R:=134217728) (by decide) (by decide)
 obtain⟨r,zR⟩:=Ze (min len 30);have zQ:r<=30∧r<=len∧(r=30∨r=len):=by omega
 have HA:=Qc (Qif w ht hT);have HN:Hid (∀W,Bl w W->Calls prog 10 #[.int .i64 134217728] W fun e w'=> ∃p,e= .returned (Pq p)∧Dw w w' p (St.UR 134217728)):=fun W hW=>(Qk4 W 134217728 (by decide)).mono fun e w' z=>by
  obtain⟨p,z1,z2⟩:=z;exact⟨p,z1,z2.base hW⟩
 have HO:Hid (∀W p,Dw w W p (St.UR 134217728)->Calls prog 11 #[Pq p,.int .i64 4] W fun e w'=> ∃a,e= .returned (.tuple #[Pq a,.int .i64 0])∧LtS w w' a p (.slice none 0 0) 0 [] [] D0):=fun W p h=>(h.open ht (QlF 8 (by decide)) 4 o1).mono fun e w' z=>by
  obtain⟨a,z1,z2,_⟩:=z;exact⟨a,z1,z2.jw,La _,(fun s hs=>by cases hs),o2,o3,by omega,(fun c hc=>by cases hc),La _⟩
 have HR:=Qc hr;have HF:=Qc hf;have xJ:=Qc ht;have xX:=hr.ptr;have xH:=hf.ptr;clear o1 o2 o3 o4 ht hT hr hf zR
 go_enter func7,ntmps7
 go_upto_region 9 with (first
  | (go_at_call 31;(with_reducible refine HA.out.mono ?_);rintro e w1 ⟨rfl,u1⟩)
  | (go_at_call 10;(with_reducible refine(HN.out _ u1).mono ?_);rintro e w2 ⟨p,rfl,t2⟩)
  | (go_at_call 11;(with_reducible refine(HO.out _ _ t2).mono ?_);rintro e w3 ⟨a,rfl,t3⟩))
 have yY:=Qc t3;clear HA HN HO u1 t2 t3
 go_loopg [5,6,8,9] r (fun g vd vl v x wr=> ∃(i:Nat) (K:LB) (T:List (Nat×BA)) (D:St.DV) (a p:Nat),i<=r∧g=r-i∧vd=Pq p∧vl=Pq a∧x= .int .i64 i∧Hid (LtS w wr a p v i K T D))
 case atStart=>go_light;exact⟨0,[],[],D0,a,p,Ln _,rfl,rfl,rfl,rfl,yY⟩
 case round=>
  clear yY;obtain⟨i,K,T,D,a,p,hi,rfl,rfl,rfl,rfl,HS⟩:=hrel;obtain⟨va,vc,rfl⟩:=HS.out.slice
  by_cases hlt:i<r
  ·have hz:(i:Int)<(len:Int):=by omega
   have zT:(i:Int)<30:=by omega
   obtain rfl:=xX (by omega)
   have hB:=HS.out.below;obtain⟨s,hs⟩:=Ze (xs.getD i ByteArray.empty);have HC:Hid (∀W,Bl w W->W.cell? ⟨b,off+i,none⟩=some (.string s)):=fun W hW=>by
    have:=(HR.out.next hW (La _)).at (k:=i) (by omega)
    rw[hs] at this;exact this
   have ew:IntKind.i64.wrap ((i:Int)+1)=(i:Int)+1:=by rw[Lq];omega
   have c0:=HC.out wr hB;clear hs
   by_cases hg:s.size<=3000
   ·have zL:¬(3000:Int)<(s.size:Int):=by omega
    obtain⟨tn,zA⟩:=Ze T.length;rw[zA] at HS ⊢;have zS:tn<=2*i:=by rw[<-zA];exact HS.out.2.2.2.2.2.2.2
    by_cases hh:i<fn
    rotate_left
    focus
     have zM:¬(i:Int)<(fn:Int):=by omega
     have xP:=Qc (HS.out.f true)
     skip
    rotate_left
    focus
     have zM:(i:Int)<(fn:Int):=by omega
     obtain⟨c,hc⟩:=Ze (foff+i*4);have xE:=Qc (fun W (hW:Bl w W)=>HF.out.four hW hh hc)
     obtain⟨_,_,_,_,yO,yN⟩:=HF.out.cell i hh;obtain rfl:=xH (by omega)
     generalize fl i=ff at *;obtain⟨xV,xW,ka,kb,ko,kc,xG,op⟩:=ff;simp only at xE yO yN;obtain⟨kl,xL⟩:=Ze xG.length;rw[xL] at xE;have yI:=Qc yO;have yH:=Qc yN;have yG:=Qc xL;obtain⟨fa,zJ⟩:=Ze (1+xV%8);obtain⟨fk,zK⟩:=Ze (1+xW%5);have yW:=Qc (fun W=>Qdx W xV 8 (by decide) (by decide) _ rfl)
     have yX:=Qc (fun W=>Qdx W xW 5 (by decide) (by decide) _ rfl)
     have EW:=Qc (show IntKind.i64.wrap (1+xV%8)=fa∧IntKind.i64.wrap (1+xW%5)=fk∧1<=fa∧fa<=8∧1<=fk∧fk<=5 from⟨by rw[Lq];omega,by rw[Lq];omega,by omega,by omega,by omega,by omega⟩)
     clear yO yN xL zJ zK;obtain⟨k0,k1,k2,k3⟩:=xE.out wr hB
     cases op
     focus
      obtain⟨e1,e2,e3,e4,e5,e6⟩:=EW.out;have HL:=Qc (HS.out.lay xJ.out (St.bdz wr) fa fk e3 e4 e5 e6 ka kb ko kc xG yI.out yH.out);rw[yG.out] at HL;have xA:=xE.out wr hB
      go_upto_region 13 with (fail)
      clear k0 k1 k2 k3
      go_region_held3 (fun Z=>Z.cell? ⟨fb,c,none⟩=some (.int .i64 xV)∧Z.cell? ⟨fb,c+1,none⟩=some (.int .i64 xW)∧Z.cell? ⟨fb,c+2,none⟩=some (.slice ka kl kc)∧Z.cell? ⟨fb,c+3,none⟩=some (.bool false)) (first|assumption|(exact xE.out _ tw.below)) (first
       | (go_at_call 32;(with_reducible refine(yW.out _).mono ?_);rintro e wa ⟨rfl,rfl⟩)
       | (go_at_call 32;(with_reducible refine(yX.out _).mono ?_);rintro e wa ⟨rfl,rfl⟩)
       | (go_at_call 12;(with_reducible refine HL.out.mono ?_);rintro e w5 ⟨rfl,tw⟩))
      have xP:=Qc tw
     rotate_left
     focus
      have xP:=Qc (HS.out.f true)
      skip
    all_goals
     have c1:=HC.out _ xP.out.below;have yR:=Qc (xP.out.append xJ.out (by omega) hg)
     clear HS xP
     go_upto_region 15 with (go_at_call 14;(with_reducible refine yR.out.mono ?_);rintro e w4 ⟨y4,K4,u4,D4,S4,rfl,t4⟩)
     obtain⟨m4,yP⟩:=Ze K4.length;obtain⟨rt,yZ⟩:=Ze (rtD 4 K4 m4);have xU:=Qc (t4.size m4 yP);have xI:=Qc yP;have xB:=Qc yZ;clear t4 c1 yR yP yZ
     go_upto_region 20 with (first
      | (go_at_call 33;(with_reducible refine xU.out.mono ?_);rintro e w5 ⟨rfl,t5⟩;have xT:=Qc (t5.root xJ.out m4 (NE xI.out.symm) rt xB.out))
      | (go_at_call 20;(with_reducible refine xT.out.mono ?_);rintro e w6 ⟨rfl,t6⟩;obtain⟨v7,w7,h7,t7⟩:=t6.tell (by omega) m4 rt xI.out xB.out;obtain⟨ea,en,ec,rfl⟩:=t7.slice;have ha:=St.O1 h7;have T7:=Qc t7;clear t7 h7 t6 t5))
     clear xU xT xI xB ha
    -- a fate at an Open
    focus
     have yS:=Qc T7.out.down;obtain⟨e1,e2,e3,e4,e5,e6⟩:=EW.out;have xA:=xE.out w7 T7.out.below;obtain⟨k0,k1,k2,k3⟩:=xA;have xA:=xE.out w7 T7.out.below
     go_upto_region 22 with (go_at_call 15;(with_reducible refine yS.out.mono ?_);rintro e wa ⟨rfl,rfl⟩)
     have yJ:=Qc ((T7.out.tp.next (St.bdz _)).lay fa fk e4 ka kb ko kc xG yI.out yH.out);rw[yG.out] at yJ;clear k0 k1 k2 k3 yS
     go_region_held3 (fun Z=>Z.cell? ⟨fb,c,none⟩=some (.int .i64 xV)∧Z.cell? ⟨fb,c+1,none⟩=some (.int .i64 xW)∧Z.cell? ⟨fb,c+2,none⟩=some (.slice ka kl kc)∧Z.cell? ⟨fb,c+3,none⟩=some (.bool true)) (first|assumption|(exact xE.out _ tw.below)) (first
      | (go_at_call 32;(with_reducible refine(yW.out _).mono ?_);rintro e wa ⟨rfl,rfl⟩)
      | (go_at_call 32;(with_reducible refine(yX.out _).mono ?_);rintro e wa ⟨rfl,rfl⟩)
      | (go_at_call 12;(with_reducible refine yJ.out.mono ?_);rintro e w5 ⟨rfl,tw⟩))
     have yV:=Qc (tw.open2 xJ.out (by omega) (by omega))
     clear yJ tw xA T7
     go_upto_region 24 with (go_at_call 11;(with_reducible refine yV.out.mono ?_);rintro e w8 ⟨y8,e8,rfl,t8⟩)
     clear yV
     rcases t8 with ⟨a8,K8,T8,D8,S8,rfl,rfl,t8⟩|⟨rfl,h8,t8⟩
     focus
      obtain⟨m8,yQ⟩:=Ze K8.length;obtain⟨zB,xY⟩:=Ze (rtD 4 K8 m8);have xU:=Qc (t8.size m8 yQ);have xI:=Qc yQ;have xB:=Qc xY;clear t8 yQ xY
      go_upto_region 28 with (first
       | (go_at_call 33;(with_reducible refine xU.out.mono ?_);rintro e w9 ⟨rfl,t9⟩;have xT:=Qc (t9.root xJ.out m8 (NE xI.out.symm) zB xB.out))
       | (go_at_call 20;(with_reducible refine xT.out.mono ?_);rintro e w6 ⟨rfl,t6⟩;obtain⟨v9,w9,h9,t9⟩:=t6.tell (by omega) m8 zB xI.out xB.out;obtain⟨ea,en,ec,rfl⟩:=t9.slice;have ha:=St.O1 h9;have HM:=Qc (t9.tm.mono (m':=24+30*i) (t':=2*i+2) (by omega) (by omega));clear t9 h9 t6))
      clear xU xT xI xB ha
     rotate_left
     focus
      have HM:=Qc (t8.mono (m':=24+30*i) (t':=2*i+2) (by omega) (by omega))
      have zW:(e8 == (0:Int))=false:=by simpa using h8
      clear t8 h8
      go_upto_region 28 with (fail)
    rotate_left
    rotate_left
    focus
     have HM:=Qc (T7.out.tm.mono (m':=24+30*i) (t':=2*i+2) (by omega) (by omega))
     obtain⟨k0,k1,k2,k3⟩:=xE.out w7 T7.out.below;clear T7
     go_upto_region 28 with (fail)
     clear k0 k1 k2 k3
    rotate_left
    focus
     have yL:=Qc T7.out.ts;clear T7
     go_upto_region 31 with (fail)
     obtain⟨zD,rfl⟩:∃W,W=w7:=⟨_,rfl⟩
    rotate_left
    iterate 3
     focus
      have yK:=Qc (HM.out.opened xJ.out (by omega) ka kb ko kc xG yI.out yH.out)
      rw[yG.out] at yK;have zN:=(xE.out _ HM.out.below).2.2.1;clear HM
      go_upto_region 31 with (go_at_call 34;(with_reducible refine yK.out.mono ?_);rintro e zD ⟨p2,a2,K2,T2,D2,rfl,zC⟩)
      have yL:=Qc zC;clear zC yK zN
     rotate_left
    all_goals
     as_aux_lemma=>
      obtain⟨n9,r9,tb,E⟩:=yL.out.tail xJ.out (by omega)
      have yU:=Qc E.size;have yT:=Qc E.root;have yF:=Qc E.each;have zG:=E.ptr;have zX:=E.few;have zY:=E.nn;clear E
      go_upto_region 36 with (first
       | (go_at_call 33;(with_reducible refine yU.out.mono ?_);rintro e kA ⟨rfl,u11⟩)
       | (go_at_call 20;(with_reducible refine(yT.out _ u11).mono ?_);rintro e xM ⟨rfl,u12⟩))
      obtain⟨wB,yC⟩:=Ze (xM.alloc (.cells #[.int .u64 n9,.string r9] 50));have xK:Hid (Bl zD wB):=by show Below _ _ _;rw[<-yC];exact bal u12 _
      have yE:Hid (∀W,Bl wB W->W.cell? ⟨xM.heap.size,0,none⟩=some (.int .u64 n9)∧W.cell? ⟨xM.heap.size,1,none⟩=some (.string r9)):=fun W hW=>by
       rw[<-yC] at hW;exact Qmj hW
      rw[yC];clear yU yT u11 u12 yC;generalize wr=wo at *;clear wr
      go_loopg [22] en (fun g x wr=> ∃j:Nat,j<=en∧g=en-j∧x= .int .i64 j∧Hid (Bl wB wr))
      case atStart=>go_light;exact⟨0,Ln _,rfl,rfl,Lb _ _⟩
      case round=>
       obtain⟨j,hj,rfl,rfl,HB⟩:=hrel
       by_cases hjl:j<en
       ·have zU:(j:Int)<(en:Int):=by omega
        obtain rfl:=zG (by omega)
        obtain⟨c9,zH⟩:=Ze (j*2);obtain⟨mj,sj,tj,zO,xO,yB,yA,xZ⟩:=yF.out j hjl;have xO:=Qc (xO c9 zH);have yB:=Qc yB;have yA:=Qc yA;have xZ:=Qc xZ;have zP:¬(n9:Int)<(mj:Int):=by omega
        have zV:IntKind.i64.wrap ((j:Int)+1)=(j:Int)+1:=by rw[Lq];omega
        obtain⟨c1,_⟩:=xO.out wr (Qa xK.out HB.out);have zZ:(!(sj.toList == sj.toList))=false:=by simp
        have xS:=Qc (yB.out wr (Qa xK.out HB.out));clear yF zO hj yB
        go_upto_region 41 with (go_at_call 20;(with_reducible refine xS.out.mono ?_);rintro e yD ⟨rfl,u13⟩)
        have xF:=Qc (Qa HB.out (bal u13 (.cells #[.int .u64 mj,.string sj] 50)));obtain⟨c2,_⟩:=xO.out _ (Qa xK.out xF.out);have xR:=Qc (yA.out _ (Qa xK.out xF.out));clear c1 u13 xS yA
        go_upto_region 42 with (go_at_call 35;(with_reducible refine xR.out.mono ?_);rintro e xN ⟨rfl,u14⟩)
        obtain⟨d0,d1⟩:=Qmj u14;have xC:=Qc (Qa xF.out u14);obtain⟨g0,g1⟩:=yE.out _ xC.out;obtain⟨c3,c4⟩:=xO.out _ (Qa xK.out xC.out);have xA:xN.cell? ⟨tb,c9,none⟩=some (.int .u64 mj)∧xN.cell? ⟨tb,c9+1,none⟩=some (.string sj)∧xN.cell? ⟨yD.heap.size,0,none⟩=some (.int .u64 mj)∧xN.cell? ⟨yD.heap.size,1,none⟩=some (.string sj)∧xN.cell? ⟨xM.heap.size,0,none⟩=some (.int .u64 n9)∧xN.cell? ⟨xM.heap.size,1,none⟩=some (.string r9):=⟨c3,c4,d0,d1,g0,g1⟩;have xD:=QfO xA (St.bdz xN);have xQ:=Qc (xZ.out _ (Qa xK.out (St.bdw xC.out)));clear c2 c3 c4 d0 d1 g0 g1 u14 xR xZ xO yE
        go_region_held3 (fun Z=>Z.cell? ⟨tb,c9,none⟩=some (.int .u64 mj)∧Z.cell? ⟨tb,c9+1,none⟩=some (.string sj)∧Z.cell? ⟨yD.heap.size,0,none⟩=some (.int .u64 mj)∧Z.cell? ⟨yD.heap.size,1,none⟩=some (.string sj)∧Z.cell? ⟨xM.heap.size,0,none⟩=some (.int .u64 n9)∧Z.cell? ⟨xM.heap.size,1,none⟩=some (.string r9)) (first|assumption|(exact QfO xD u15)) (first
         | (go_at_call 36;(with_reducible refine xQ.out.mono ?_);rintro e kB ⟨rfl,u15⟩))
        have yM:=Qc (Qa (St.bdw xC.out) u15);clear xA xD xQ u15 xC xF;go_wp2
        go_roundg (en-(j+1))
        case rel=>go_light;exact⟨j+1,by omega,rfl,by go_num,yM⟩
        case measure=>go_light;omega
       ·have zU:¬(j:Int)<(en:Int):=by omega
        have zF:=Qc (yL.out.next (Qa xK.out HB.out));clear yF yE;go_wp2
        go_roundg (r-(i+1))
        case rel=>go_light;exact⟨i+1,_,_,_,_,_,by omega,rfl,rfl,rfl,by go_num,zF⟩
        case measure=>go_light;omega
   ·have zL:(3000:Int)<(s.size:Int):=by omega
    have zE:=Qc HS.out.keep;clear hB hg HC HS;go_wp2
    go_roundg (r-(i+1))
    case rel=>go_light;exact⟨i+1,K,T,D,a,p,by omega,rfl,rfl,rfl,by go_num,zE⟩
    case measure=>go_light;omega
  ·obtain rfl:i=r:=by omega
   have zI:¬((i:Int)<(len:Int))∨(((i:Int)<(len:Int)) ∧ ¬(i:Int)<30):=by omega
   have HB:=Qc HS.out.below;clear HS hlt hi xX HR xH HF
   rcases zI with hz|⟨hz,zT⟩
   all_goals
    go_wp2
    go_ret
    exact⟨rfl,HB.out⟩
end
end Go.Proofs.YtoblgjledefdbaaGreatDoor
