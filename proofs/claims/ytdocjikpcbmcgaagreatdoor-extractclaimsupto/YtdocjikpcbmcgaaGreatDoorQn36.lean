/- Own work. -/
import Derived.Test.YtdocjikpcbmcgaaGreatDoorQn35
set_option maxRecDepth 100000
set_option maxHeartbeats 4000000
namespace Go.Proofs.YtdocjikpcbmcgaaGreatDoor
open Go.RowKit
attribute [local go_sem ↓] Go.wp_at_zero Go.wp_at_succ
open Go.Proofs.Tryz
section
open Cv (zl)
theorem rc_not (w:World) (k:Int) (pa:OA) (pb po pc:Nat) (L:LB) (hL:RdS w pa pb po L.length L) (ca:OA) (cb co cc:Nat) (l:List (Nat×BA)) (hK:RdK w ca cb co l.length l) (hp:L.length<=1000) (hl:l.length<=8796093021952) (hin : ∀x∈l,x.1<L.length) (hso : ¬soC L l) (s:BA) (c1:BA)
    (HRA:Hr w 9 #[.int .i64 k,.slice pa L.length pc,.int .u64 (L.length:Int)] (.tuple #[.agg #[.int .u64 (L.length:Int),.string c1],.int .i64 0]))
    (HL:Hr w 47 #[.int .i64 k,.agg #[.int .u64 (L.length:Int),.string c1],.slice ca l.length cc,.string s] (.int .i64 0))
    (P:PV) (V:LB) (K:List He) (N:List (Nat×Nat)) (R2 R3 X2 Y2:LB) (fA fB:Nat×Nat->LB) (hN:N.length<=41)
    (hfN : ∀b∈N,(b.2+1)*2^b.1<=2^40) (hsV : ∀x∈V,x.size<=9223372036854775807)
    (hs2 : ∀x∈R2,x.size<=9223372036854775807) (hs3 : ∀x∈R3,x.size<=9223372036854775807)
    (hx2:(∀x∈X2,x.size<=9223372036854775807)∧X2.length<=100) (hy2:(∀x∈Y2,x.size<=9223372036854775807)∧Y2.length<=100)
    (hfa : ∀b∈N,(fA b).length<=2000 ∧ ∀x∈fA b,x.size<=9223372036854775807) (hfb : ∀b∈N,(fB b).length<=2000 ∧ ∀x∈fB b,x.size<=9223372036854775807)
    (T:Pq) (hT:fr (X2++N.flatMap fA) (Y2++N.flatMap fB)=T)
    (HDe:Hid (∀W,Calls prog 39 #[.string s] W fun e w' => ∃sa sb sc da db dc,e = .returned (.tuple #[.agg #[.int .i64 P.kd,.int .i64 P.k,.int .u64 (P.old:Int),.int .u64 (P.size:Int),.slice sa P.S.length sc,.slice da P.D.length dc],.int .i64 0])∧RdPC w' sa sb 0 sc da db 0 dc P∧Zb W w'))
    (HVa:Hid (∀W,Zb w W->Ro 49 #[.slice ca l.length cc] W V))
    (HKn:Hid (∀W sa sb sc da db dc xa xb xc,Zb w W->RdPC W sa sb 0 sc da db 0 dc P->RdS W xa xb 0 V.length V->Calls prog 48 #[.agg #[.int .i64 P.kd,.int .i64 P.k,.int .u64 (P.old:Int),.int .u64 (P.size:Int),.slice sa P.S.length sc,.slice da P.D.length dc],.slice xa V.length xc] W fun e w' => ∃ao g cap,e = .returned (.slice ao K.length cap)∧RdH w' ao g K.length K∧Zb W w'))
    (HNo:Hid (∀W,Calls prog 40 #[.int .u64 (P.size:Int)] W fun e w' => ∃ao cap,e = .returned (.tuple #[.slice ao N.length cap,.int .i64 0])∧Cv.Qx w' W.heap.size (.slice ao N.length cap) (zl N)∧Zb W w'))
    (HP2:Hid (∀W,Zb w W->Ro 22 #[.int .i64 k,.slice pa L.length pc] W R2))
    (HP3:Hid (∀W ao g cap,Zb w W->RdH W ao g K.length K->Ro 44 #[.int .i64 k,.int .u64 (P.size:Int),.slice ao K.length cap] W R3))
    (HT3:Hid (∀W ta tb tc,Zb w W->RdS W ta tb 0 R2.length R2->R2.length<=tc->Ro 43 #[.int .i64 k,.int .u64 (P.size:Int),.slice ta R2.length tc] W X2))
    (HT4:Hid (∀W ta tb tc,Zb w W->RdS W ta tb 0 R3.length R3->R3.length<=tc->Ro 43 #[.int .i64 k,.int .u64 (P.size:Int),.slice ta R3.length tc] W Y2))
    (HBe:Hid (∀W sa sb sc ao g cap j,Zb w W->RdU W sa sb 0 P.S.length P.S->RdH W ao g K.length K->j<N.length->Calls prog 50 #[.int .i64 k,.slice pa L.length pc,.slice ca l.length cc,.slice sa P.S.length sc,.slice ao K.length cap,.agg #[.int .i64 ((N.getD j (0,0)).1:Nat),.int .u64 ((N.getD j (0,0)).2:Nat)]] W fun e w' => ∃v u,e = .returned (.tuple #[v,u])∧Pr W.heap.size w' v u (fA (N.getD j (0,0))) (fB (N.getD j (0,0)))∧Zb W w')) :
    Zr 18 #[.int .i64 k,.slice pa L.length pc,.slice ca l.length cc,.string s] w (tri T):=by
  have HRd:Hid (∀W,Zb w W->RdS W pa pb po L.length L∧RdK W ca cb co l.length l):=fun W hb=>⟨hL.next hb (Ld _),hK.next hb⟩
  have lfa:=J4 (fun b hb=>(hfa b hb).1)
  have lfb:=J4 (fun b hb=>(hfb b hb).1)
  have lfa':N.length*2000<=82000:=by omega
  obtain⟨XN,hXN⟩:=Ze (X2++N.flatMap fA);obtain⟨YN,hYN⟩:=Ze (Y2++N.flatMap fB);have lXN:XN.length<=90000:=by rw[<-hXN,Lg];omega
  have lYN:YN.length<=90000:=by rw[<-hYN,Lg];omega
  rw[hXN,hYN] at hT;have HEq:=Qe (Lo hXN hYN);have HF2:Hid (∀W ta tb tc ua ub uc,RdS W ta tb 0 XN.length XN->RdS W ua ub 0 YN.length YN->Zr 42 #[.slice ta XN.length tc,.slice ua YN.length uc] W (tri T)):=fun W ta tb tc ua ub uc h1 h2=>Qgd W ta tb 0 tc _ h1 ua ub 0 uc _ h2 (by omega) (by omega) T hT
  have HS1:=Qe (Lo hs2 (Lo hs3 hsV));have HXS:Hid ((∀x∈XN,x.size<=9223372036854775807)∧(∀x∈YN,x.size<=9223372036854775807)) :=
    ⟨fun x hx=>(List.mem_append.1 (by rw[hXN];exact hx)).elim (hx2.1 x) (QeN (fun b hb=>(hfa b hb).2) x),fun x hx=>(List.mem_append.1 (by rw[hYN];exact hx)).elim (hy2.1 x) (QeN (fun b hb=>(hfb b hb).2) x)⟩
  have HLA:Hid (∀j,j<N.length->(X2++(N.take j).flatMap fA).length+(fA (N.getD j (0,0))).length<=1048576∧(Y2++(N.take j).flatMap fB).length+(fB (N.getD j (0,0))).length<=1048576∧(∀x∈fA (N.getD j (0,0)),x.size<=9223372036854775807)∧(∀x∈fB (N.getD j (0,0)),x.size<=9223372036854775807)∧X2++(N.take (j+1)).flatMap fA=X2++(N.take j).flatMap fA++fA (N.getD j (0,0))∧Y2++(N.take (j+1)).flatMap fB=Y2++(N.take j).flatMap fB++fB (N.getD j (0,0))):=fun j hj=>by
    have m:=Yv hj;have a1:=J4 (N:=N.take j) (fun b hb=>(hfa b (Nf hb)).1)
    have a2:=J4 (N:=N.take j) (fun b hb=>(hfb b (Nf hb)).1)
    have a3:(N.take j).length<=41:=by rw[Lq];omega
    have a4:=(hfa _ m).1;have a5:=(hfb _ m).1;have a6:=hx2.2;have a7:=hy2.2;refine⟨by rw[Lg];omega,by rw[Lg];omega,(hfa _ m).2,(hfb _ m).2,by rw[QbN hj,LH],by rw[QbN hj,LH]⟩
  have HFit:=Qe hfN;have z1:(L.length:Int)<=1000:=by omega
  have zl':(l.length:Int)<=8796093021952:=by omega
  have zN:(N.length:Int)<=41:=by omega
  have HIn:=Qe hin;have HSo:=Qe hso;obtain⟨kd,kk,old,size,S,D⟩:=P;simp only at HDe HKn HNo HP3 HT3 HT4 HBe;clear hL hK hp hl hin hso hN hfN hsV hs2 hs3 hx2 hy2 hfa hfb hT lfa lfb lfa' hXN hYN lXN lYN
  go_enter func18,ntmps18
  go_upto_region 2 with (go_at_call 9;with_reducible refine(HRA.out _ (Lb _ _)).mono ?_;rintro e w2 ⟨rfl,hb2⟩)
  obtain⟨F,hFe,hrh,hb3⟩ : ∃W,w2.alloc (.cells #[.int .u64 (L.length:Int),.string c1] 30)=W∧Rh W w2.heap.size L.length c1∧Zb w2 W:=⟨_,rfl,Qcn w2 L.length c1,bal (Lb _ _) _⟩
  try rw[hFe]
  clear hFe;have hbF:=Qa hb2 hb3;obtain⟨e0,e1⟩:=hrh.cells;clear hb2 hb3 hrh HRA
  go_upto_region 4 with (go_at_call 47;with_reducible refine(HL.out _ hbF).mono ?_;rintro e w5 ⟨rfl,hb6⟩)
  have H0:=Qe (Qa hbF hb6);clear hbF hb6 e0 e1 HL;go_wp2
  go_loopg [13,14] l.length (fun g b i wr => ∃j:Nat,g=l.length - j∧j<=l.length∧i = .int .i64 (j:Int)∧b = .bool (decide (soC L (l.take j)))∧Hid (Zb w wr))
  case atStart=>go_light;exact⟨0,rfl,Ll _,rfl,by rw[Qkw],H0⟩
  case round =>
    clear H0;obtain⟨j,rfl,hj,rfl,rfl,HI⟩:=hrel;obtain⟨v,hvd⟩:=Ze (decide (soC L (l.take j)))
    rw[hvd]
    by_cases hlt:j<l.length
    · have y0:(0:Int)<=(j:Int):=Lf _;have y1:(j:Int)<(l.length:Int):=by omega
      obtain⟨hrd,hkd⟩:=HRd.out wr HI.out;obtain rfl:=hkd.ptr (by omega)
      obtain⟨c0,c1'⟩:=hkd.at hlt;have hmem:l.getD j noC∈l:=by rw[La,Lc hlt];exact LG _
      have hi:=HIn.out _ hmem;have hstep:=Qkv (L:=L) hlt;obtain⟨a,ha⟩:=Ze ((l.getD j noC).1);obtain⟨x,hx⟩:=Ze ((l.getD j noC).2);rw[ha] at c0 hi hstep;rw[hx] at c1' hstep;obtain rfl:=hrd.ptr (by omega)
      have ci:=hrd.at hi;obtain⟨y,hy⟩:=Ze (L.getD a ByteArray.empty);rw[hy] at ci hstep;have q0:(0:Int)<=(a:Int):=Lf _;have q1:(a:Int)<(L.length:Int):=by omega
      have HW1:Hid (∀t,Zb w (wr.drewN t)):=fun t=>Qd HI.out t
      cases v with
      | false =>
        have HN:Hid (decide (soC L (l.take (j+1)))=false):=Lj fun h=>(of_decide_eq_false hvd) (hstep.1 h).1
        clear hrd hkd hmem ha hx hy hstep hvd HI hi
        go_upto_region 8 with (fail)
        go_quiet (fail)
        go_wp2
        go_roundg (l.length - (j+1))
        case rel=>go_light;exact⟨j+1,rfl,by omega,by go_num,by rw[HN.out],HW1.out _⟩
        case measure=>go_light;omega
      | true =>
        by_cases he:y=x
        · have HN:Hid (decide (soC L (l.take (j+1)))=true):=Ln (hstep.2 ⟨Ij hvd,he⟩)
          subst he;clear hrd hkd hmem ha hx hy hstep hvd HI hi
          go_upto_region 8 with (fail)
          go_quiet (fail)
          go_wp2
          go_roundg (l.length - (j+1))
          case rel=>go_light;exact⟨j+1,rfl,by omega,by go_num,by rw[HN.out],HW1.out _⟩
          case measure=>go_light;omega
        · have HN:Hid (decide (soC L (l.take (j+1)))=false):=Lj fun h=>he (hstep.1 h).2
          have hzb:=YZ he;have hz:=Uu he;clear hrd hkd hmem ha hx hy hstep hvd HI hi he
          go_upto_region 8 with (fail)
          go_quiet (fail)
          go_wp2
          go_roundg (l.length - (j+1))
          case rel=>go_light;exact⟨j+1,rfl,by omega,by go_num,by rw[HN.out],HW1.out _⟩
          case measure=>go_light;omega
    · obtain rfl:j=l.length:=by omega
      have hz1 : ¬(l.length:Int)<(l.length:Int):=by omega
      obtain rfl:false=v:=by rw[<-hvd,LY];exact(Lj HSo.out).symm
      have hB:=HI.out;clear HI hlt hj hvd HRd HIn HSo
      go_upto_region 12 with (go_at_call 39;with_reducible refine(HDe.out _).mono ?_;rintro e w7 ⟨sa,sb,sc,da,db,dc,rfl,hF,hb8⟩)
      obtain⟨F6,hF6,h6,hb9,hF1⟩:=Yk w7 (.int .i64 kd) (.int .i64 kk) (.int .u64 (old:Int)) (.int .u64 (size:Int)) (.slice sa S.length sc) (.slice da D.length dc);clear hF1
      try rw[hF6]
      clear hF6;have hbF:=Qa (Qa hB hb8) hb9;have hF6':=hF.next hb9;have HX:Hid (∀V,Zb F6 V->Six V w7.heap.size (.int .i64 kd) (.int .i64 kk) (.int .u64 (old:Int)) (.int .u64 (size:Int)) (.slice sa S.length sc) (.slice da D.length dc)∧RdPC V sa sb 0 sc da db 0 dc ⟨kd,kk,old,size,S,D⟩∧Zb w V):=fun V hb=>⟨h6.next hb,hF6'.next hb,Qa hbF hb⟩
      obtain⟨m0,m1,m2,m3,m4,m5⟩:=h6.cells;clear hB hb8 hb9 hbF hF hF6' h6 HDe
      go_cut [17] from 73 to 76 (fun v wx=>Hid ((∃la lg lc,v = .slice la K.length lc∧RdH wx la lg K.length K)∧Zb F6 wx))
      case first =>
        go_region_held3 (fun V=>V.cell? ⟨w7.heap.size,0,none⟩=some (.int .i64 kd)∧V.cell? ⟨w7.heap.size,1,none⟩=some (.int .i64 kk)∧V.cell? ⟨w7.heap.size,2,none⟩=some (.int .u64 (old:Int))∧V.cell? ⟨w7.heap.size,3,none⟩=some (.int .u64 (size:Int))∧V.cell? ⟨w7.heap.size,4,none⟩=some (.slice sa S.length sc)∧V.cell? ⟨w7.heap.size,5,none⟩=some (.slice da D.length dc))
          (exact(HX.out _ (by with_reducible repeat first|exact Lb _ _|refine LK ?_|refine bal ?_ _|refine Qa ?_ hb5|refine Qa ?_ hb6)).1.cells)
          (first
            | (go_at_call 49;with_reducible refine(HVa.out _ (HX.out _ (by with_reducible repeat first|exact Lb _ _|refine LK ?_|refine bal ?_ _|refine Qa ?_ hb5|refine Qa ?_ hb6)).2.2).mono ?_;rintro e w5 ⟨v5,rfl,o5,hb5⟩;obtain⟨a5',b5',c5',rfl,r5',k5',n5'⟩:=Qt o5 HS1.out.2.2)
            | (go_at_call 48;with_reducible refine(HKn.out _ _ sb _ _ db _ _ b5' _ (HX.out _ (by with_reducible repeat first|exact Lb _ _|refine LK ?_|refine bal ?_ _|refine Qa ?_ hb5|refine Qa ?_ hb6)).2.2 (HX.out _ (by with_reducible repeat first|exact Lb _ _|refine LK ?_|refine bal ?_ _|refine Qa ?_ hb5|refine Qa ?_ hb6)).2.1 (r5'.next (by with_reducible repeat first|exact Lb _ _|refine LK ?_|refine bal ?_ _|refine Qa ?_ hb5|refine Qa ?_ hb6) (Ld _))).mono ?_;rintro e w6 ⟨la,lg,lc,rfl,hRl,hb6⟩))
        all_goals
          go_wp2
          go_meet
          case rel=>go_light;exact Qe ⟨⟨la,lg,lc,rfl,hRl⟩,by with_reducible repeat first|exact Lb _ _|refine LK ?_|refine bal ?_ _|refine Qa ?_ hb5|refine Qa ?_ hb6⟩
      case rest =>
        clear m0 m1 m2 m3 m4 m5 HVa HKn;obtain⟨⟨la,lg,lc,hlv,hlR⟩,hbx⟩:=hcut.out;subst hlv;clear hcut;obtain⟨WA,rfl⟩ : ∃W,W=wc:=⟨_,rfl⟩;have HA:Hid (∀V,Zb WA V->RdH V la lg K.length K∧V.cell? ⟨w7.heap.size,3,none⟩=some (.int .u64 (size:Int))∧V.cell? ⟨w7.heap.size,4,none⟩=some (.slice sa S.length sc)∧RdU V sa sb 0 S.length S∧Zb w V):=fun V hb=>by
          obtain⟨k6,kf,kb⟩:=HX.out V (Qa hbx hb);exact⟨hlR.next hb,k6.cells.2.2.2.1,k6.cells.2.2.2.2.1,kf.rs,kb⟩
        clear hlR hbx HX;have a3:=(HA.out WA (Lb _ _)).2.1
        go_upto_region 13 with (fail)
        go_cut [18] from 77 to 83 (fun v wx=>Hid (Qk wx WA.heap.size v X2∧Zb WA wx))
        case first =>
          go_region_held3 (fun V=>V.cell? ⟨w7.heap.size,3,none⟩=some (.int .u64 (size:Int)))
            (first|assumption|exact(HA.out _ (by with_reducible repeat first|exact Lb _ _|refine LK ?_|refine bal ?_ _|refine Qa ?_ hb5|refine Qa ?_ hb6)).2.1)
            (first
              | (go_at_call 22;with_reducible refine(HP2.out _ (HA.out _ (by with_reducible repeat first|exact Lb _ _|refine LK ?_|refine bal ?_ _|refine Qa ?_ hb5|refine Qa ?_ hb6)).2.2.2.2).mono ?_;rintro e w5 ⟨v5,rfl,o5,hb5⟩;obtain⟨a5',b5',c5',rfl,r5',k5',n5'⟩:=Qt o5 HS1.out.1)
              | (go_at_call 43;with_reducible refine(HT3.out _ _ b5' _ (HA.out _ (by with_reducible repeat first|exact Lb _ _|refine LK ?_|refine bal ?_ _|refine Qa ?_ hb5|refine Qa ?_ hb6)).2.2.2.2 (r5'.next (by with_reducible repeat first|exact Lb _ _|refine LK ?_|refine bal ?_ _|refine Qa ?_ hb5|refine Qa ?_ hb6) (Ld _)) k5').mono ?_;rintro e w6 ⟨v6,rfl,o6,hb6⟩))
          all_goals
            go_wp2
            go_meet
            case rel=>go_light;exact Qe ⟨World.ownsRow.mono o6 (by have:=(by with_reducible repeat first|exact Lb _ _|refine LK ?_|refine bal ?_ _|refine Qa ?_ hb5|refine Qa ?_ hb6:Zb WA w5).size;omega),by with_reducible repeat first|exact Lb _ _|refine LK ?_|refine bal ?_ _|refine Qa ?_ hb5|refine Qa ?_ hb6⟩
        case rest =>
          clear HP2 HT3 a3;have HO:=Qe hcut.out;clear hcut;obtain⟨wB,rfl⟩ : ∃W,W=wc:=⟨_,rfl⟩;have a3:=(HA.out _ HO.out.2).2.1
          go_upto_region 14 with (fail)
          go_cut [19] from 84 to 92 (fun u wx=>Hid (Pr WA.heap.size wx u18 u X2 Y2∧Zb WA wx))
          case first =>
            go_region_held3 (fun V=>V.cell? ⟨w7.heap.size,3,none⟩=some (.int .u64 (size:Int)))
              (first|assumption|exact(HA.out _ (Qa HO.out.2 (by with_reducible repeat first|exact Lb _ _|refine LK ?_|refine bal ?_ _|refine Qa ?_ hb5|refine Qa ?_ hb6))).2.1)
              (first
                | (go_at_call 44;with_reducible refine(HP3.out _ _ lg _ (HA.out _ (Qa HO.out.2 (by with_reducible repeat first|exact Lb _ _|refine LK ?_|refine bal ?_ _|refine Qa ?_ hb5|refine Qa ?_ hb6))).2.2.2.2 (HA.out _ (Qa HO.out.2 (by with_reducible repeat first|exact Lb _ _|refine LK ?_|refine bal ?_ _|refine Qa ?_ hb5|refine Qa ?_ hb6))).1).mono ?_;rintro e w5 ⟨v5,rfl,o5,hb5⟩;obtain⟨a5',b5',c5',rfl,r5',k5',n5'⟩:=Qt o5 HS1.out.2.1)
                | (go_at_call 43;with_reducible refine(HT4.out _ _ b5' _ (HA.out _ (Qa HO.out.2 (by with_reducible repeat first|exact Lb _ _|refine LK ?_|refine bal ?_ _|refine Qa ?_ hb5|refine Qa ?_ hb6))).2.2.2.2 (r5'.next (by with_reducible repeat first|exact Lb _ _|refine LK ?_|refine bal ?_ _|refine Qa ?_ hb5|refine Qa ?_ hb6) (Ld _)) k5').mono ?_;rintro e w6 ⟨v6,rfl,o6,hb6⟩))
            all_goals
              go_wp2
              go_meet
              case rel =>
                go_light;have hz7:=(by with_reducible repeat first|exact Lb _ _|refine LK ?_|refine bal ?_ _|refine Qa ?_ hb5|refine Qa ?_ hb6:Zb wB w5).size
                have hsA:=HO.out.2.size;exact Qe ⟨UZ HO.out.1 hz7 o6 (by with_reducible repeat first|exact Lb _ _|refine LK ?_|refine bal ?_ _|refine Qa ?_ hb5|refine Qa ?_ hb6) (by omega),Qa HO.out.2 (by with_reducible repeat first|exact Lb _ _|refine LK ?_|refine bal ?_ _|refine Qa ?_ hb5|refine Qa ?_ hb6)⟩
          case rest =>
            clear HP3 HT4 a3 HO;have HO:=Qe hcut.out;clear hcut;obtain⟨wC,rfl⟩ : ∃W,W=wc:=⟨_,rfl⟩;have a3:=(HA.out _ HO.out.2).2.1
            go_upto_region 16 with (go_at_call 40;with_reducible refine(HNo.out _).mono ?_;rintro e w5 ⟨na,nc,rfl,oN,hb5⟩)
            have HI:Hid (Pr WA.heap.size w5 u18 u19 (X2++(N.take 0).flatMap fA) (Y2++(N.take 0).flatMap fB)∧Cv.Qx w5 WA.heap.size (.slice na N.length nc) (zl N)∧Zb WA w5):=⟨by rw[NS,List.flatMap_nil,List.flatMap_nil,Na,Na];exact HO.out.1.next hb5,World.ownsRow.mono oN HO.out.2.size,Qa HO.out.2 hb5⟩
            clear HO oN hb5 a3 HNo;go_wp2
            go_loopg [18,19,22] N.length (fun g v u i wr => ∃j:Nat,g=N.length - j∧j<=N.length∧i = .int .i64 (j:Int)∧Hid (Pr WA.heap.size wr v u (X2++(N.take j).flatMap fA) (Y2++(N.take j).flatMap fB)∧Cv.Qx wr WA.heap.size (.slice na N.length nc) (zl N)∧Zb WA wr))
            case atStart=>go_light;exact⟨0,rfl,Ll _,rfl,HI⟩
            case round =>
              clear HI;obtain⟨j,rfl,hj,rfl,HI⟩:=hrel
              by_cases hlt:j<N.length
              · have hz:(j:Int)<(N.length:Int):=by omega
                have hz0:(0:Int)<=(j:Int):=Lf _;obtain⟨ng,hrd⟩:=Qay HI.out.2.1 HFit.out;obtain rfl:=hrd.addr (by omega)
                have HLj:=HLA.out j hlt;have HAj : ∀W,Zb wr W->_:=fun W hW=>HBe.out W sa sb sc la lg lc j (HA.out _ (Qa HI.out.2.2 hW)).2.2.2.2 (HA.out _ (Qa HI.out.2.2 hW)).2.2.2.1 (HA.out _ (Qa HI.out.2.2 hW)).1 hlt
                have HC : ∀W,Zb wr W->W.cell? ⟨w7.heap.size,4,none⟩=some (.slice sa S.length sc)∧W.cell? ⟨ng,j*2,none⟩=some (.int .i64 ((N.getD j (0,0)).1:Nat))∧W.cell? ⟨ng,j*2+1,none⟩=some (.int .u64 ((N.getD j (0,0)).2:Nat)):=fun W hW=>by
                  have hc:=(hrd.below hW).cell j hlt;rw[Cv.Uz,Lr] at hc;exact⟨(HA.out _ (Qa HI.out.2.2 hW)).2.2.1,hc.1,hc.2⟩
                obtain⟨P1,hP1⟩:=Ze (fA (N.getD j (0,0)));obtain⟨Q1,hQ1⟩:=Ze (fB (N.getD j (0,0)));obtain⟨XJ,hXJ⟩:=Ze (X2++(N.take j).flatMap fA);obtain⟨YJ,hYJ⟩:=Ze (Y2++(N.take j).flatMap fB);rw[hP1,hQ1,hXJ,hYJ] at HLj;simp only[hP1,hQ1] at HAj;rw[hXJ,hYJ] at HI;obtain⟨⟨mh,mk⟩,hm⟩ : ∃m,N.getD j (0,0)=m:=⟨_,rfl⟩;simp only[hm] at HC HAj;have HL:=Qe (Lo HLj hlt);have HAc:=Qe HAj;have HCc:=Qe HC;obtain⟨d4,d0,d1⟩:=HC wr (Lb _ _);clear hrd HLj HAj hP1 hQ1 hXJ hYJ hm hlt hj HC;obtain⟨wD,rfl⟩ : ∃W,W=wr:=⟨_,rfl⟩
                go_upto_region 19 with (fail)
                go_cut [23,24] from 105 to 118 (fun v u wx=>Hid (Pr wD.heap.size wx v u P1 Q1∧Zb wD wx))
                case first =>
                  go_region_held3 (fun V=>V.cell? ⟨w7.heap.size,4,none⟩=some (.slice sa S.length sc)∧V.cell? ⟨ng,j*2,none⟩=some (.int .i64 (mh:Int))∧V.cell? ⟨ng,j*2+1,none⟩=some (.int .u64 (mk:Int)))
                    (first|exact HCc.out _ (by with_reducible repeat first|exact Lb _ _|refine LK ?_|refine bal ?_ _|refine Qa ?_ hb5|refine Qa ?_ hb6))
                    (first
                      | (go_at_call 50;with_reducible refine(HAc.out _ (by with_reducible repeat first|exact Lb _ _|refine LK ?_|refine bal ?_ _|refine Qa ?_ hb5|refine Qa ?_ hb6)).mono ?_;rintro e w5 ⟨v5,u5,rfl,p5,hb5⟩))
                  all_goals
                    go_wp2
                    go_meet
                    case rel=>go_light;exact Qe ⟨Qg4 p5 (by first|exact Ld _|simp[World.drew]),by with_reducible repeat first|exact Lb _ _|refine LK ?_|refine bal ?_ _|refine Qa ?_ hb5|refine Qa ?_ hb6⟩
                case rest =>
                  clear d4 d0 d1 HAc HCc;have p5:=hcut.out.1;have hb5:=hcut.out.2;clear hcut;obtain⟨w5,rfl⟩ : ∃W,W=wc:=⟨_,rfl⟩;have hB5:WA.heap.size<=wD.heap.size:=HI.out.2.2.size;have hBw:WA.heap.size<=w5.heap.size:=by have:=hb5.size;omega
                  have hpr:=HI.out.1;have A1:=Qe (hpr.next hb5);have q2:=UZ hpr.ov (Ld _) p5.ov hb5 hB5;have A3:=Qe (UZ hpr.ov (Ld _) p5.ou hb5 hB5);have C3:=Qe (UZ hpr.ou (Ld _) p5.ou hb5 hB5);obtain⟨a5,b5,c5,rfl,r5,_,n5⟩:=Qt q2.ou HL.out.1.2.2.1;obtain⟨a7,_,c7,rfl,_⟩:=Qt A3.out.ou HL.out.1.2.2.2.1;have A2:=Qe (Lo r5 n5);have HN5:=Qe (Lo (QA HI.out.2.1 hb5) (Qa HI.out.2.2 hb5));clear hpr p5 q2 r5 n5 HI hb5
                  go_wp2_with (first
                    | (at_builtin;refine QS _ rfl _ _ rfl WA.heap.size _ XJ rfl A1.out.ov a5 b5 0 P1.length c5 P1 rfl A2.out.1 A2.out.2 HL.out.1.1 hBw ?_
                       intro v9 w9 o9 g9 f9;have D1:=Qe (A1.out.app o9 g9 f9);have hq3:=A3.out.app o9 g9 f9;obtain⟨b7,r7,n7⟩:=OY hq3.ou HL.out.1.2.2.2.1;have hB9:WA.heap.size<=w9.heap.size:=Lz hBw g9.size;have HN9:=Qe (Lo (Qc3 A1.out.ov HN5.out.1 g9) (HN5.out.2.grown g9 HN5.out.2.size (fun b hb=>(LP A1.out.ov b hb).1)))
                       have G9:=Qe (Lo r7 n7);clear A1 A2 A3 HN5 o9 g9 f9 hq3 r7 n7)
                    | (at_builtin;refine QS _ rfl _ _ rfl WA.heap.size _ YJ rfl D1.out.ou a7 b7 0 Q1.length c7 Q1 rfl G9.out.1 G9.out.2 HL.out.1.2.1 hB9 ?_
                       intro v11 w11 o11 g11 f11;have J1:=Qe (Lo (D1.out.swap.app o11 g11 f11).swap (Lo (Qc3 D1.out.ou HN9.out.1 g11) (HN9.out.2.grown g11 HN9.out.2.size (fun b hb=>(LP D1.out.ou b hb).1))))
                       clear D1 G9 HN9 o11 g11 f11))
                  go_roundg (N.length - (j+1))
                  case rel=>go_light;exact⟨j+1,rfl,HL.out.2,by go_num,by rw[HL.out.1.2.2.2.2.1,HL.out.1.2.2.2.2.2];exact J1.out.1,J1.out.2.1,J1.out.2.2⟩
                  case measure=>go_light;have:=HL.out.2;omega
              · obtain rfl:j=N.length:=by omega
                have hz : ¬((N.length:Int)<(N.length:Int)):=by omega
                have hI:=HI.out;rw[LD (Ld _),HEq.out.1,HEq.out.2] at hI;obtain⟨xa,xb,xc,hxv,rx,_⟩:=Qt hI.1.ov HXS.out.1;obtain⟨ya,yb,yc,hyv,ry,_⟩:=Qt hI.1.ou HXS.out.2;subst hxv hyv;have HFc:=Qe (HF2.out _ _ xb xc _ yb yc rx ry);have HBw:=Qe hI.2.2;clear hI HI rx ry hlt hj HBe HF2
                go_wp2_with (go_at_call 42;with_reducible refine HFc.out.mono ?_;rintro e w5 ⟨rfl,hb5⟩)
                exact Lp (v:=tri T) (by simp[results,results18,go_sem]) rfl ⟨rfl,(HA.out _ (Qa HBw.out hb5)).2.2.2.2⟩
end
section
variable {c:Nat} {Bs:List (Nat×Nat)} {D:LB} {V:Nat->BA} {Q:Nat->Prop} {K:List He}
theorem QkJ(nodup:Bs.Nodup)(len:D.length=Bs.length)(h1 : ∀e∈K,e∈Bs.zip D∨(e.1 ∉ Bs∧e.1.1=0∧Q e.1.2∧e.2=dg c (Qh (V e.1.2))))(h2 : ∀e∈Bs.zip D,e∈K) : ∀h i v,Tl c K h i v->xd c (ixM Bs) D V h i=v:=fun h i v ht =>
 (QmW (c:=c) (M:=ixM Bs) (D:=D) (V:=V) (Q:=Q) (K:=K) (fun e he=>by
  rcases h1 e he with h|⟨h,h'⟩
  ·obtain⟨j,hj,rfl⟩:=US len h;exact .inl ⟨j,Qjz nodup hj,rfl⟩
  ·exact .inr ⟨YG.2 h,h'⟩) (fun h k j e=>⟨_,h2 _ (QgT len e)⟩) h i v ht).2
theorem Qgo(len:D.length=Bs.length)(h1 : ∀e∈K,e∈Bs.zip D∨(e.1 ∉ Bs∧e.1.1=0∧Q e.1.2∧e.2=dg c (Qh (V e.1.2)))){h i:Nat}{u:BA}(hm:((h,i),u)∈K)(hn:ixM Bs h i=none):h=0∧Q i:=by
 rcases h1 _ hm with h|⟨_,h2,h3,_⟩
 ·obtain⟨j,hj,e⟩:=US len h;have:=(Prod.mk.inj e).1;exact absurd (show(_,_)∈Bs by rw[this];exact Yv hj) (YG.1 hn)
 ·exact⟨h2,h3⟩
theorem Qhi(len:D.length=Bs.length)(h1 : ∀e∈K,e∈Bs.zip D∨(e.1 ∉ Bs∧e.1.1=0∧Q e.1.2∧e.2=dg c (Qh (V e.1.2)))) : ∀h i u,ixM Bs (h+1) i=none->((h+1,i),u) ∉ K:=fun h i u hn hm=>by
 have:=(Qgo len h1 hm hn).1;omega
theorem QkI(len:D.length=Bs.length){S:List Nat}(h1 : ∀e∈K,e∈Bs.zip D∨(e.1 ∉ Bs∧e.1.1=0∧(e.1.2∈S)∧e.2=dg c (Qh (V e.1.2))))(d1 : ∀b∈Bs,∀s∈S,s / 2^b.1≠b.2)(d2 : ∀h i,(h,2*i)∈Bs->(h,2*i+1)∈Bs->False) : ∀h i v,Tl c K h i v->((∃s∈S,s / 2^h=i)↔ixM Bs h i=none):=by
 have xA : ∀h i v,Tl c K h i v->ixM Bs h i=none -> ∃s∈S,s / 2^h=i:=by
  intro h
  induction h with
  | zero =>
   intro i v ht hn;exact⟨i,(Qgo (Q:=fun i=>i∈S) len h1 ht hn).2,by rw[NC,Ih]⟩
  | succ h ih =>
   intro i v ht hn
   rcases ht with ht|⟨_,x,y,hx,hy,_⟩
   ·have:=(Qgo (Q:=fun i=>i∈S) len h1 ht hn).1
    omega
   ·have up : ∀s q,s / 2^h=q->s / 2^(h+1)=q / 2:=fun s q e=>by rw[LM,<-Nh,e]
    cases e1:ixM Bs h (2*i) with
    | none =>
     obtain⟨s,hs,e⟩:=ih _ _ hx e1;exact⟨s,hs,by rw[up s _ e];omega⟩
    | some j =>
     cases e2:ixM Bs h (2*i+1) with
     | none =>
      obtain⟨s,hs,e⟩:=ih _ _ hy e2;exact⟨s,hs,by rw[up s _ e];omega⟩
     | some j' =>
      refine absurd (d2 h i ?_ ?_) id
      ·exact Classical.byContradiction fun hc=>by rw[YG.2 hc] at e1;cases e1
      ·exact Classical.byContradiction fun hc=>by rw[YG.2 hc] at e2;cases e2
 intro h i v ht;refine⟨fun⟨s,hs,e⟩=>YG.2 fun hm=>d1 _ hm s hs e,xA h i v ht⟩
end
section
open Cv (All Til But)
open Pl (pw QM)
theorem Jt{A:Nat->Prop}{q:Nat} : ∀ {L:List (Nat×Nat)} {p:Nat},Til A q p L -> ∀b∈L,All A b.1 b.2 ∧ ¬All A (b.1+1) (b.2 / 2)
 | [],_,_,b,hb=>by cases hb
 | a::L,_,h,b,hb=>by
  rcases List.mem_cons.1 hb with rfl|hb
  ·exact⟨h.2.2.2.1,h.2.2.2.2.1⟩
  ·exact Jt h.2.2.2.2.2 b hb
theorem QfA{A:Nat->Prop}{h i:Nat}(h1:All A h (2*i))(h2:All A h (2*i+1)):All A (h+1) i:=fun t a b=>by
 rw[QM,<-L9,Nb _ 2] at a b
 by_cases ht:t<(2*i+1)*pw h
 ·exact h1 t a ht
 ·exact h2 t (by omega) (by rw[show 2*i+1+1=2*(i+1) by omega];exact b)
theorem QjI{A:Nat->Prop}{L:List (Nat×Nat)}(hL : ∀b∈L,All A b.1 b.2 ∧ ¬All A (b.1+1) (b.2 / 2)) : ∀h i,(h,2*i)∈L->(h,2*i+1)∈L->False:=fun h i a b=>by
 have h1:=hL _ a;have h2:=hL _ b;refine h1.2 ?_
 simp only;rw[Wl _ (by decide)]
 exact QfA h1.1 h2.1
theorem Qnu{n:Nat}{S:List Nat}{L:List (Nat×Nat)}(hL : ∀b∈L,All (But n S) b.1 b.2 ∧ ¬All (But n S) (b.1+1) (b.2 / 2)) : ∀b∈L,∀s∈S,s / 2^b.1≠b.2:=fun b hb s hs e=>by
 have h1:=(hL b hb).1 s (by unfold pw;rw[<-e];exact NY _ _) (by unfold pw;rw[<-e,LR,LX];have:=I3 s (2^b.1);have:=ID s (LQ b.1);rw[Nb];omega)
 exact h1.2 hs
end
section
open Cv (All Til)
theorem QlR{n i H:Nat}{A B:List (Nat×Nat)}(h:Wy n i A H B) : ∀b∈wyB i H A B,∀s∈[i],s / 2^b.1≠b.2:=fun b hb s hs e=>by
 rw[N6] at hs;subst hs;exact h.free b.1 (by rw[e];exact hb)
theorem Qha{p q:Nat} : (2*q=sb p->2*q+1=p)∧(2*q+1=sb p->2*q=p):=by
 unfold sb
 constructor <;> intro h <;> split at h <;> omega
theorem QlS{n i H:Nat}{A B:List (Nat×Nat)}(h:Wy n i A H B)(hn:n<=2^40) : ∀g q,(g,2*q)∈wyB i H A B->(g,2*q+1)∈wyB i H A B->False:=fun g q h1 h2=>by
 have bes_is : ∀x,(g,x)∈bes i H->x=sb (i / 2^g):=fun x hx=>by
  obtain⟨t,_,e⟩:=List.mem_map.1 hx;obtain⟨rfl,rfl⟩:=Prod.mk.inj e
  rfl
 rcases List.mem_append.1 h1 with a|a
 ·have e:=Qha.1 (bes_is _ a);exact h.free g (by rw[<-e];exact h2)
 ·rcases List.mem_append.1 h2 with b|b
  ·have e:=Qha.2 (bes_is _ b);exact h.free g (by rw[<-e];exact h1)
  ·have ht:=Cv.J0 0 n (Ll _) hn;rw[Cv.QX n hn] at ht;exact QjI (Jt ht) g q (h.others a).1 (h.others b).1
theorem Qk1{n:Nat}{S:List Nat}(hn:n<=2^40)(hc:Cv.QT 0 S n):(∀b∈Cv.rst 0 n S,∀s∈S,s / 2^b.1≠b.2) ∧ ∀h i,(h,2*i)∈Cv.rst 0 n S->(h,2*i+1)∈Cv.rst 0 n S->False :=
 ⟨Qnu (Jt (Cv.YP n S hn hc)),QjI (Jt (Cv.YP n S hn hc))⟩
end
theorem Qfg(w:World)(k:Int)(old size:Nat)(vs vd vx:Value)(Kn:List He)
  (HK:Hid (∀W,Zb w W->Calls prog 97 #[.agg #[.int .i64 2,.int .i64 k,.int .u64 (old:Int),.int .u64 (size:Int),vs,vd],vx] W fun e w' => ∃ao g cap,e = .returned (.slice ao Kn.length cap)∧RdH w' ao g Kn.length Kn∧Zb W w')) :
  Calls prog 48 #[vP 2 k old size vs vd,vx] w fun e w' => ∃ao g cap,e = .returned (.slice ao Kn.length cap)∧RdH w' ao g Kn.length Kn∧Zb w w':=by
 unfold vP;obtain⟨F,xA,h6,hb,_⟩:=Yk w (.int .i64 2) (.int .i64 k) (.int .u64 (old:Int)) (.int .u64 (size:Int)) vs vd;obtain⟨c0,c1,c2,c3,c4,c5⟩:=h6.cells;clear h6
 go_enter func48,ntmps48
 go_upto_region 1 with (fail)
 try rw[xA]
 clear xA
 go_wp2_with (go_at_call 97;with_reducible refine(HK.out _ hb).mono ?_;rintro e w1 ⟨ao,g,cap,rfl,hR,xB⟩)
 go_ret
 exact⟨ao,g,cap,rfl,hR,Qa hb xB⟩
end Go.Proofs.YtdocjikpcbmcgaaGreatDoor
