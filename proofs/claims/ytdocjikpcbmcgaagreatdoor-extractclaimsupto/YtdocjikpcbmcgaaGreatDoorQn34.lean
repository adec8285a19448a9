/- Own work. -/
import Derived.Test.YtdocjikpcbmcgaaGreatDoorQn33
set_option maxRecDepth 100000
set_option maxHeartbeats 2000000
namespace Go.Proofs.YtdocjikpcbmcgaaGreatDoor
open Go.RowKit
attribute [local go_sem ↓] Go.wp_at_zero Go.wp_at_succ
open Go.Proofs.Tryz
def BeC(w0:World)(k:Int)(pa:OA)(pn pc:Nat)(ca:OA)(ln cc:Nat)(sa:OA)(sn sc:Nat)(ao:OA)(cap:Nat)(A:LB)(K:List He)(M:Nat->Nat->Option Nat)(D:LB)(V:Nat->BA)(n h:Nat):Prop := ∀i W v0,Zb w0 W->(i+1)*2^h<=n->Tl (clk k) K h i v0 ->
 Calls prog 50 #[.int .i64 k,.slice pa pn pc,.slice ca ln cc,.slice sa sn sc,.slice ao K.length cap,bkV h i] W fun e w' => ∃v u,e = .returned (.tuple #[v,u])∧Pr W.heap.size w' v u (ra (clk k) A M h i) (rb (clk k) M D V h i)∧Zb W w'
theorem Qfc(w0:World)(ht:Tr w0)(k:Int)(pa:OA)(pb po pc:Nat)(A:LB)(hA:RdS w0 pa pb po A.length A)(hAs : ∀s∈A,s.size<=140737488351232)(hpc:A.length<=pc)(ca:OA)(ln cc:Nat)(sa:OA)(sb so sc:Nat)(S:List Nat)(hS:RdU w0 sa sb so S.length S)(hmS:S.length<=100000000)(ao:OA)(g cap:Nat)(K:List He)(hR:RdH w0 ao g K.length K)(hm:K.length<=100000000)(hF:Fn K)(hKb : ∀e∈K,e.1.1<=40∧e.1.2<2^40∧e.2.size<=32)(M:Nat->Nat->Option Nat)(D:LB)(V:Nat->BA)(HT : ∀h i v,Tl (clk k) K h i v->xd (clk k) M D V h i=v)(HH : ∀h i v,Tl (clk k) K h i v->((∃s∈S,s / 2^h=i)↔M h i=none))(HNk : ∀h i u,M (h+1) i=none->((h+1,i),u) ∉ K)(hxs : ∀h i,(xd (clk k) M D V h i).size<=32)(hV : ∀i,M 0 i=none->(V i).size+1<=9223372036854775807)(n:Nat)(hnA:n<=A.length)(hmA:A.length<=8796093022208)(hn:n<=1000)(h:Nat)(hh:h<40)(IH:BeC w0 k pa A.length pc ca ln cc sa S.length sc ao cap A K M D V n h):BeC w0 k pa A.length pc ca ln cc sa S.length sc ao cap A K M D V n (h+1):=by
  intro i w v0 hb0 hi htl;have hc:=Qp k;have yC:(2*i+1+1)*2^h<=n:=by
    have e:(i+1)*2^(h+1)=(2*i+1+1)*2^h:=by rw[LM,show 2*i+1+1=2*(i+1) by omega,Nb 2 (i+1),L9,Nb 2]
    rw[<-e];exact hi
  have yJ:(2*i+1)*2^h<=n:=Lz (LE _ (by omega)) yC
  have zJ:2^h<=1000:=by have:=LE (2^h) (show 1<=2*i+1 by omega);omega
  have zW:i<1000:=by have:=NZ (2*i+1) (IE (n:=h));omega
  obtain⟨x1,yK⟩:=Ze (nd (clk k) A h (2*i));obtain⟨x2,yL⟩:=Ze (nd (clk k) A h (2*i+1));have xE:=HH _ _ _ htl
  by_cases hgv : ∃s∈S,s / 2^(h+1)=i
  case neg =>
    obtain⟨j,hj⟩ : ∃j,M (h+1) i=some j:=by
      cases e:M (h+1) i with
      | none=>exact absurd (xE.2 e) hgv
      | some j=>exact⟨j,rfl⟩
    have yG:Hr w 99 #[.agg #[.int .i64 ((h:Int)+1),.int .u64 (i:Int)],.slice sa S.length sc] (.bool false):=fun W hb=>by
      have:=Qco W (h+1) i (by omega) sa sb so sc S (hS.next (Qa hb0 hb)) hmS false (Lj hgv)
      unfold bkV at this;rwa [show((h+1:Nat):Int)=(h:Int)+1 by omega] at this
    rw[QaP hj,Qc8 hj];unfold bkV;rw[show((h+1:Nat):Int)=(h:Int)+1 by omega]
    obtain⟨F,xV,xK,xO⟩:=Qan w ((h:Int)+1) (i:Int);obtain⟨k0,k1⟩:=xK.cells;clear hA hAs hR hi yJ yC IH zJ hc ht hpc hn HH HNk HT hKb hF htl hgv hj xK xE
    go_enter func50,ntmps50
    go_upto_region 1 with (fail)
    try rw[xV]
    clear xV
    go_wp2_with (go_at_call 99;with_reducible refine(yG.out _ xO).mono ?_;rintro e w5 ⟨rfl,xA⟩)
    exact Lp (v := .tuple #[.slice none 0 0,.slice none 0 0]) (by simp[results,results50,go_sem]) rfl ⟨_,_,rfl,Qf0 _ _,Qa xO xA⟩
  have yH:M (h+1) i=none:=xE.1 hgv;have yG:Hr w 99 #[.agg #[.int .i64 ((h:Int)+1),.int .u64 (i:Int)],.slice sa S.length sc] (.bool true):=fun W hb=>by
    have:=Qco W (h+1) i (by omega) sa sb so sc S (hS.next (Qa hb0 hb)) hmS true (Ln hgv)
    unfold bkV at this;rwa [show((h+1:Nat):Int)=(h:Int)+1 by omega] at this
  obtain⟨y1,y2,xF,xG,_⟩ : ∃x y,Tl (clk k) K h (2*i) x∧Tl (clk k) K h (2*i+1) y∧v0=dg (clk k) (QH x y):=by
    rcases htl with h1|⟨_,h1⟩
    · exact absurd h1 (HNk _ _ _ yH)
    · exact h1
  have yV:=HT _ _ _ xF;have yW:=HT _ _ _ xG;have zS:x1.size<=32:=by rw[<-yK,Q7 hc];exact hc
  have zT:x2.size<=32:=by rw[<-yL,Q7 hc];exact hc
  have zU:y1.size<=32:=by rw[<-yV];exact hxs _ _
  have zV:y2.size<=32:=by rw[<-yW];exact hxs _ _
  obtain⟨t1,yT⟩:=Ze (QH x1 x2);obtain⟨t2,yU⟩:=Ze (QH y1 y2);have c2:((2*i:Nat):Int)=2*(i:Int):=by omega
  have c3:((2*i+1:Nat):Int)=2*(i:Int)+1:=by omega
  have yX:Hr w 92 #[.int .i64 k,.slice pa A.length pc,.agg #[.int .i64 (h:Int),.int .u64 (2*(i:Int))]] (.string x1):=fun W hb=>by
    have:=Qg6 W (ht.next (Qa hb0 hb)) k pa pb po pc A (hA.next (Qa hb0 hb) (Ld _)) hAs hmA hpc h (2*i) (by omega) (by omega) x1 yK
    unfold bkV at this;rwa [c2] at this
  have yY:Hr w 92 #[.int .i64 k,.slice pa A.length pc,.agg #[.int .i64 (h:Int),.int .u64 (2*(i:Int)+1)]] (.string x2):=fun W hb=>by
    have:=Qg6 W (ht.next (Qa hb0 hb)) k pa pb po pc A (hA.next (Qa hb0 hb) (Ld _)) hAs hmA hpc h (2*i+1) (by omega) (by omega) x2 yL
    unfold bkV at this;rwa [c3] at this
  have yO : ∀q,(q+1)*2^h<=n->(q+1)*2^h<=2^40:=fun q hq=>Lz hq (Lz hn (by decide))
  have yZ:Hr w 89 #[.int .i64 k,.agg #[.int .i64 (h:Int),.int .u64 (2*(i:Int))],.slice ao K.length cap] (.tuple #[.string y1,.bool true]):=fun W hb=>by
    have:=Qbm k h (by omega) (2*i) (yO _ yJ) K y1 W ao g cap (ht.next (Qa hb0 hb)) (hR.next (Qa hb0 hb)) hm hF xF hKb
    rwa [c2] at this
  have zA:Hr w 89 #[.int .i64 k,.agg #[.int .i64 (h:Int),.int .u64 (2*(i:Int)+1)],.slice ao K.length cap] (.tuple #[.string y2,.bool true]):=fun W hb=>by
    have:=Qbm k h (by omega) (2*i+1) (yO _ yC) K y2 W ao g cap (ht.next (Qa hb0 hb)) (hR.next (Qa hb0 hb)) hm hF xG hKb
    rwa [c3] at this
  have zD:Hid (∀W,Zr 91 #[.string x1,.string x2] W (.string t1)):=fun W=>by rw[<-yT];exact Jo W x1 x2 (by omega) (by omega)
  have zE:Hid (∀W,Zr 91 #[.string y1,.string y2] W (.string t2)):=fun W=>by rw[<-yU];exact Jo W y1 y2 (by omega) (by omega)
  obtain⟨P1,xM⟩:=Ze (ra (clk k) A M h (2*i));obtain⟨P2,xN⟩:=Ze (ra (clk k) A M h (2*i+1));obtain⟨Q1,xW⟩:=Ze (rb (clk k) M D V h (2*i));obtain⟨Q2,xX⟩:=Ze (rb (clk k) M D V h (2*i+1));have zB:Hid (∀W,Zb w W->Calls prog 50 #[.int .i64 k,.slice pa A.length pc,.slice ca ln cc,.slice sa S.length sc,.slice ao K.length cap,.agg #[.int .i64 (h:Int),.int .u64 (2*(i:Int))]] W fun e w' => ∃v u,e = .returned (.tuple #[v,u])∧Pr W.heap.size w' v u P1 Q1∧Zb W w'):=fun W hb=>by
    have:=IH (2*i) W y1 (Qa hb0 hb) yJ xF;rw[xM,xW] at this;unfold bkV at this;rwa [c2] at this
  have zC:Hid (∀W,Zb w W->Calls prog 50 #[.int .i64 k,.slice pa A.length pc,.slice ca ln cc,.slice sa S.length sc,.slice ao K.length cap,.agg #[.int .i64 (h:Int),.int .u64 (2*(i:Int)+1)]] W fun e w' => ∃v u,e = .returned (.tuple #[v,u])∧Pr W.heap.size w' v u P2 Q2∧Zb W w'):=fun W hb=>by
    have:=IH (2*i+1) W y2 (Qa hb0 hb) yC xG;rw[xN,xX] at this;unfold bkV at this;rwa [c3] at this
  have e1:ra (clk k) A M (h+1) i=([t1]++P1)++P2:=by rw[Qbi yH,yK,yL,yT,xM,xN];simp
  have e2:rb (clk k) M D V (h+1) i=([t2]++Q1)++Q2:=by rw[QdW yH,yV,yW,yU,xW,xX];simp
  have yS:2^(h+1)<=2000:=by rw[LM];omega
  have xC:Hid ((P1.length<=2000∧P2.length<=2000∧Q1.length<=2000∧Q2.length<=2000)∧(∀s∈P1,s.size<=9223372036854775807)∧(∀s∈P2,s.size<=9223372036854775807)∧(∀s∈Q1,s.size<=9223372036854775807)∧(∀s∈Q2,s.size<=9223372036854775807)):=by
    have a1:=Qf1 (clk k) A M h (2*i);have a2:=Qf1 (clk k) A M h (2*i+1);have b1:=(rab (clk k) A M D V h (2*i)).1;have b2:=(rab (clk k) A M D V h (2*i+1)).1;rw[xM] at a1;rw[xN] at a2;rw[xM,xW] at b1;rw[xN,xX] at b2;have sA : ∀j,(A.getD j ByteArray.empty).size+1<=9223372036854775807:=fun j=>by have:=QgO hAs j;omega
    refine⟨⟨by omega,by omega,by omega,by omega⟩,?_,?_,?_,?_⟩
    · rw[<-xM];exact Qkf hc (by decide) sA _ _
    · rw[<-xN];exact Qkf hc (by decide) sA _ _
    · rw[<-xW];exact Qkg hxs (by decide) hV _ _
    · rw[<-xX];exact Qkg hxs (by decide) hV _ _
  rw[e1,e2];unfold bkV;rw[show((h+1:Nat):Int)=(h:Int)+1 by omega]
  have kB:IntKind.i64.wrap ((h:Int)+1 - 1)=(h:Int):=by rw[Nd];omega
  have kC:IntKind.u64.wrap (2*(i:Int))=2*(i:Int):=by rw[IntKind.wrap_u64];omega
  have kD:IntKind.u64.wrap (2*(i:Int)+1)=2*(i:Int)+1:=by rw[IntKind.wrap_u64];omega
  have z0 : ¬(h:Int)+1=0:=by omega
  have zi:(i:Int)<1000:=by omega
  have kA:(0:Int)<=(i:Int):=Lf _;have zh:(h:Int)<40:=by omega
  have zZ:(0:Int)<=(h:Int):=Lf _;obtain⟨F,xV,xK,xO⟩:=Qan w ((h:Int)+1) (i:Int);clear hA hAs yK yL yV yW zS zT zU zV yT yU xM xN xW xX e1 e2 hmA hnA hi yJ yC IH zJ yS c2 c3 hc ht hpc hn HH HNk HT hKb hF hR htl xF xG hgv yH hxs hV yO hm xE hS hmS;obtain⟨k0,k1⟩:=xK.cells
  go_enter func50,ntmps50
  go_upto_region 1 with (fail)
  try rw[xV]
  clear xV
  go_upto_region 3 with (go_at_call 99;with_reducible refine(yG.out _ xO).mono ?_;rintro e w3 ⟨rfl,yI⟩)
  obtain⟨F1,xT,xZ,xI⟩:=Qan w3 (h:Int) (2*(i:Int));obtain⟨F2,xU,yA,xJ⟩:=Qan F1 (h:Int) (2*(i:Int)+1);obtain⟨k4,k5⟩:=(xK.next yI).cells
  go_upto_region 10 with (fail)
  try rw[xT]
  clear xT;obtain⟨k2,k3⟩:=(xK.next (Qa yI xI)).cells
  go_upto_region 11 with (fail)
  try rw[xU]
  clear xU;have HX:Hid (∀V,Zb F2 V->(V.cell? ⟨w3.heap.size,0,none⟩=some (.int .i64 (h:Int))∧V.cell? ⟨w3.heap.size,1,none⟩=some (.int .u64 (2*(i:Int)))∧V.cell? ⟨F1.heap.size,0,none⟩=some (.int .i64 (h:Int))∧V.cell? ⟨F1.heap.size,1,none⟩=some (.int .u64 (2*(i:Int)+1)))∧Zb w V):=fun V hb=>by
    obtain⟨a0,a1⟩:=(xZ.next (Qa xJ hb)).cells;obtain⟨b0,b1⟩:=(yA.next hb).cells;exact⟨⟨a0,a1,b0,b1⟩,Qa (Qa (Qa (Qa xO yI) xI) xJ) hb⟩
  clear xK xZ yA xO xI xJ k0 k1 k2 k3 k4 k5 hb0 yI yG;obtain⟨⟨d0,d1,d2,d3⟩,_⟩:=HX.out F2 (Lb _ _)
  go_upto_region 12 with (go_at_call 89;with_reducible refine(yZ.out _ (HX.out _ (Lb _ _)).2).mono ?_;rintro e zY ⟨rfl,xD⟩)
  obtain⟨⟨g0,g1,g2,g3⟩,_⟩:=HX.out _ xD;clear d0 d1 d2 d3
  go_upto_region 13 with (go_at_call 89;with_reducible refine(zA.out _ (HX.out _ xD).2).mono ?_;rintro e xB ⟨rfl,xY⟩)
  have yE:=Qa xD xY;replace HX:Hid (∀V,Zb xB V->(V.cell? ⟨w3.heap.size,0,none⟩=some (.int .i64 (h:Int))∧V.cell? ⟨w3.heap.size,1,none⟩=some (.int .u64 (2*(i:Int)))∧V.cell? ⟨F1.heap.size,0,none⟩=some (.int .i64 (h:Int))∧V.cell? ⟨F1.heap.size,1,none⟩=some (.int .u64 (2*(i:Int)+1)))∧Zb w V):=fun V hb=>HX.out V (Qa yE hb)
  clear g0 g1 g2 g3 xD xY yE yZ zA;obtain⟨⟨d0,d1,d2,d3⟩,_⟩:=HX.out xB (Lb _ _)
  go_cut [21] from 90 to 99 (fun v wx=>Hid (Qk wx xB.heap.size v [t1]∧Zb xB wx))
  case first =>
    go_region_held3 (fun V=>V.cell? ⟨w3.heap.size,0,none⟩=some (.int .i64 (h:Int))∧V.cell? ⟨w3.heap.size,1,none⟩=some (.int .u64 (2*(i:Int)))∧V.cell? ⟨F1.heap.size,0,none⟩=some (.int .i64 (h:Int))∧V.cell? ⟨F1.heap.size,1,none⟩=some (.int .u64 (2*(i:Int)+1)))
      (with_reducible exact(HX.out _ (by with_reducible repeat first|exact Lb _ _|refine LK ?_|refine bal ?_ _|refine Qa ?_ xA|refine Qa ?_ hb6|refine Qa ?_ hb7)).1)
      (first
        | (go_at_call 92;with_reducible refine(yX.out _ (HX.out _ (by with_reducible repeat first|exact Lb _ _|refine LK ?_|refine bal ?_ _|refine Qa ?_ xA|refine Qa ?_ hb6|refine Qa ?_ hb7)).2).mono ?_;rintro e w5 ⟨rfl,xA⟩)
        | (go_at_call 92;with_reducible refine(yY.out _ (HX.out _ (by with_reducible repeat first|exact Lb _ _|refine LK ?_|refine bal ?_ _|refine Qa ?_ xA|refine Qa ?_ hb6|refine Qa ?_ hb7)).2).mono ?_;rintro e w6 ⟨rfl,hb6⟩)
        | (go_at_call 91;with_reducible refine(zD.out _).mono ?_;rintro e w7 ⟨rfl,hb7⟩))
    all_goals
      go_wp2
      go_meet
      case rel =>
        go_light;have zM:=(by with_reducible repeat first|exact Lb _ _|refine LK ?_|refine bal ?_ _|refine Qa ?_ xA|refine Qa ?_ hb6|refine Qa ?_ hb7:Zb xB w7).size
        exact Qe ⟨JN w7 _ rfl zM,by with_reducible repeat first|exact Lb _ _|refine LK ?_|refine bal ?_ _|refine Qa ?_ xA|refine Qa ?_ hb6|refine Qa ?_ hb7⟩
  case rest =>
    clear yX yY zD d0 d1 d2 d3;obtain⟨zR,xL⟩:=hcut.out;have HO:=Qe hcut.out;clear hcut;obtain⟨⟨d0,d1,d2,d3⟩,_⟩:=HX.out _ xL;obtain⟨wA,rfl⟩ : ∃wA,wA=wc:=⟨_,rfl⟩
    go_upto_region 14 with (fail)
    go_upto_region 15 with (go_at_call 91;with_reducible refine(zE.out _).mono ?_;rintro e w7 ⟨rfl,hb7⟩)
    obtain⟨wB,zN,xH,xL⟩ : ∃wB,w7.alloc (.cells #[.string t2] 9)=wB∧Pr xB.heap.size wB u21 (.slice (some ⟨w7.heap.size,0,none⟩) 1 1) [t1] [t2]∧Zb xB wB:=by
      have zM:=hb7.size;have zX:=HO.out.2.size;refine⟨_,rfl,⟨Qm HO.out.1 (bal hb7 _) (Ld _),JN w7 _ rfl (by omega),fun g h1 h2 => ?_⟩,bal (Qa HO.out.2 hb7) _⟩
      have q1:=(LP HO.out.1 g h1).2;simp only[Value.ownBlock,Option.some.injEq] at h2;omega
    try rw[zN]
    clear zN zE d0 d1 d2 d3 HO zR;obtain⟨⟨d0,d1,d2,d3⟩,zI⟩:=HX.out _ xL
    · skip
      go_upto_region 16 with (go_at_call 50;with_reducible refine(zB.out _ zI).mono ?_;rintro e w5 ⟨v5,u5,rfl,p5,xA⟩)
      obtain⟨⟨f0,f1,f2,f3⟩,yB⟩:=HX.out _ (Qa xL xA);clear d0 d1 d2 d3
      go_upto_region 17 with (go_at_call 50;with_reducible refine(zC.out _ yB).mono ?_;rintro e w6 ⟨v6,u6,rfl,p6,hb6⟩)
      have yQ:xB.heap.size<=wB.heap.size:=xL.size;have yR:wB.heap.size<=w5.heap.size:=xA.size;have zH:xB.heap.size<=w6.heap.size:=by have:=hb6.size;omega
      have A1:=Qe (xH.next (Qa xA hb6));have q2:=(UZ xH.ov (Ld _) p5.ov xA yQ).next hb6;have A3:=Qe ((UZ xH.ov (Ld _) p5.ou xA yQ).next hb6);have q4:=UZ xH.ov yR p6.ov (Qa xA hb6) (by omega)
      have A5:=Qe (UZ xH.ov yR p6.ou (Qa xA hb6) (by omega))
      have C3:=Qe ((UZ xH.ou (Ld _) p5.ou xA yQ).next hb6);have C5:=Qe (UZ xH.ou yR p6.ou (Qa xA hb6) (by omega))
      obtain⟨a5,b5,c5,rfl,r5,_,n5⟩:=Qt q2.ou xC.out.2.1;obtain⟨a6,_,c6,rfl,_⟩:=Qt q4.ou xC.out.2.2.1;obtain⟨a7,_,c7,rfl,_⟩:=Qt A3.out.ou xC.out.2.2.2.1;obtain⟨a8,_,c8,rfl,_⟩:=Qt A5.out.ou xC.out.2.2.2.2;have A2:=Qe (Lo r5 n5);have A4:=Qe q4;have HW:=Qe (HX.out _ (Qa xL (Qa xA hb6))).2;have zO:[t1].length+P1.length<=1048576:=by have:=xC.out.1.1;simp;omega
      have yS:([t1]++P1).length+P2.length<=1048576:=by have:=xC.out.1.1;have:=xC.out.1.2.1;simp;omega
      have zP:[t2].length+Q1.length<=1048576:=by have:=xC.out.1.2.2.1;simp;omega
      have zQ:([t2]++Q1).length+Q2.length<=1048576:=by have:=xC.out.1.2.2.1;have:=xC.out.1.2.2.2;simp;omega
      have xS:w.heap.size<=xB.heap.size:=(HX.out xB (Lb _ _)).2.size;clear xH p5 p6 q2 q4 r5 n5 f0 f1 f2 f3 zI yB xL xA hb6 HX zB zC
      go_wp2_with (first
        | (at_builtin;refine QS _ rfl _ _ rfl xB.heap.size _ [t1] rfl A1.out.ov a5 b5 0 P1.length c5 P1 rfl A2.out.1 A2.out.2 zO zH ?_
           intro v9 w9 o9 g9 f9;have D1:=Qe (A1.out.app o9 g9 f9);have D3:=Qe (A3.out.app o9 g9 f9);have D5:=Qe (A5.out.app o9 g9 f9);have zL:=A4.out.app o9 g9 f9;obtain⟨b6,r6,n6⟩:=OY zL.ou xC.out.2.2.1;have zG:xB.heap.size<=w9.heap.size:=Lz zH g9.size;have zF:=Qe (HW.out.grown g9 HW.out.size (fun b hb=>Lz xS (LP A1.out.ov b hb).1))
           have G9:=Qe (Lo o9 (Lo r6 n6));clear A1 A2 A3 A4 A5 o9 g9 f9 zL r6 n6)
        | (at_builtin;refine QS _ rfl _ _ rfl xB.heap.size _ ([t1]++P1) rfl G9.out.1 a6 b6 0 P2.length c6 P2 rfl G9.out.2.1 G9.out.2.2 yS zG ?_
           intro v10 w10 o10 g10 f10;have E1:=Qe (D1.out.app o10 g10 f10);have zK:=D3.out.app o10 g10 f10;have yD:=D5.out.app o10 g10 f10;obtain⟨b7,r7,n7⟩:=OY zK.ou xC.out.2.2.2.1;have E5:=Qe (Pr.mk E1.out.ou yD.ou C5.out.ap);have xR:xB.heap.size<=w10.heap.size:=Lz zG g10.size;have xP:=Qe (zF.out.grown g10 zF.out.size (fun b hb=>Lz xS (LP G9.out.1 b hb).1))
           have yM:=Qe (Lo r7 n7);clear D1 D3 D5 G9 o10 g10 f10 zK yD r7 n7)
        | (at_builtin;refine QS _ rfl _ _ rfl xB.heap.size _ [t2] rfl E1.out.ou a7 b7 0 Q1.length c7 Q1 rfl yM.out.1 yM.out.2 zP xR ?_
           intro v11 w11 o11 g11 f11;have I1:=Qe (E1.out.swap.app o11 g11 f11);have yD:=E5.out.app o11 g11 f11;obtain⟨b8,r8,n8⟩:=OY yD.ou xC.out.2.2.2.2;have yP:xB.heap.size<=w11.heap.size:=Lz xR g11.size;have xQ:=Qe (xP.out.grown g11 xP.out.size (fun b hb=>Lz xS (LP E1.out.ou b hb).1))
           have yF:=Qe (Lo o11 (Lo r8 n8));clear E1 E5 yM o11 g11 f11 yD r8 n8)
        | (at_builtin;refine QS _ rfl _ _ rfl xB.heap.size _ ([t2]++Q1) rfl yF.out.1 a8 b8 0 Q2.length c8 Q2 rfl yF.out.2.1 yF.out.2.2 zQ yP ?_
           intro v12 w12 o12 g12 f12;have J1:=Qe (I1.out.app o12 g12 f12);have yN:=Qe (xQ.out.grown g12 xQ.out.size (fun b hb=>Lz xS (LP yF.out.1 b hb).1))))
      exact Lp (v := .tuple #[_,_]) (by simp[results,results50,go_sem]) rfl ⟨_,_,rfl,Qg4 J1.out.swap xS,yN.out⟩
theorem Qfb(w0:World)(k:Int)(pa:OA)(pb po pc:Nat)(A:LB)(hA:RdS w0 pa pb po A.length A)(hAs : ∀s∈A,s.size<=140737488351232)(ca:OA)(cb co cc:Nat)(l:List (Nat×BA))(hK:RdK w0 ca cb co l.length l)(hls : ∀c∈l,c.2.size<=140737488351232)(sa:OA)(sb so sc:Nat)(S:List Nat)(hS:RdU w0 sa sb so S.length S)(hmS:S.length<=100000000)(hSl:S.length=l.length)(ao:OA)(cap:Nat)(K:List He)(M:Nat->Nat->Option Nat)(D:LB)(V:Nat->BA)(HH : ∀h i v,Tl (clk k) K h i v->((∃s∈S,s / 2^h=i)↔M h i=none))(HV : ∀j,j<S.length->(l.getD j noC).2=V (S.getD j 0))(n:Nat)(hnA:n<=A.length)(hmA:A.length<=8796093022208):BeC w0 k pa A.length pc ca l.length cc sa S.length sc ao cap A K M D V n 0:=by
 intro i w v0 hb0 hi htl;rw[NC,Iw] at hi;have xB:=HH _ _ _ htl;obtain⟨r,hr⟩:=Ze (decide (∃s∈S,s / 2^0=i))
 have xK:Hr w 99 #[.agg #[.int .i64 0,.int .u64 (i:Int)],.slice sa S.length sc] (.bool r):=fun W hb=>Qco W 0 i (by omega) sa sb so sc S (hS.next (Qa hb0 hb)) hmS r hr
 unfold bkV;rw[show((0:Nat):Int)=0 from rfl]
 obtain⟨F,xF,xG,xC⟩:=Qan w 0 (i:Int);obtain⟨k0,k1⟩:=xG.cells
 cases r with
 | false =>
  obtain⟨j,hj⟩ : ∃j,M 0 i=some j:=by
   cases e:M 0 i with
   | none=>exact absurd (xB.2 e) (of_decide_eq_false hr)
   | some j=>exact⟨j,rfl⟩
  rw[QaP hj,Qc8 hj];clear hA hAs hS hi HH HV htl hj xG xB hr hK hls hSl
  go_enter func50,ntmps50
  go_upto_region 1 with (fail)
  try rw[xF]
  clear xF
  go_wp2_with (go_at_call 99;with_reducible refine(xK.out _ xC).mono ?_;rintro e w5 ⟨rfl,xA⟩)
  exact Lp (v := .tuple #[.slice none 0 0,.slice none 0 0]) (by simp[results,results50,go_sem]) rfl ⟨_,_,rfl,Qf0 _ _,Qa xC xA⟩
 | true =>
  have xR:=Ij hr;have xN:=xB.1 xR;obtain⟨x,hx⟩:=Ze (A.getD i ByteArray.empty);obtain⟨y,hy⟩:=Ze (V i);rw[Qbh xN,QdV xN,hx,hy];have yA:x.size<=140737488351232:=by rw[<-hx];exact hAs _ (Qv (by omega))
  have xO : ∀j,j<S.length->S.getD j 0=i->(l.getD j noC).2=y:=fun j hj e=>by rw[HV j hj,e,hy]
  have xQ : ∃j,j<S.length∧S.getD j 0=i:=by
   obtain⟨s,hs,he⟩:=xR;rw[NC,Ih] at he;subst he;obtain⟨j,hj,he⟩:=LS hs;exact⟨j,hj,by rw[La,Lc hj,he];rfl⟩
  have yB:y.size<=140737488351232:=by
   obtain⟨j,hj,he⟩:=xQ;rw[<-xO j hj he];exact hls _ (by rw[La,Lc (show j<l.length by omega)];exact LG _)
  obtain⟨r1,xS⟩:=Ze (Qh x);obtain⟨r2,xT⟩:=Ze (Qh y);have xV:Hid (∀W,Zr 93 #[.string x] W (.string r1)):=fun W=>by rw[<-xS];exact Jn W x (by omega)
  have xW:Hid (∀W,Zr 93 #[.string y] W (.string r2)):=fun W=>by rw[<-xT];exact Jn W y (by omega)
  rw[xS,xT];have HX:Hid (∀V,Zb F V->(V.cell? ⟨w.heap.size,0,none⟩=some (.int .i64 0)∧V.cell? ⟨w.heap.size,1,none⟩=some (.int .u64 (i:Int)))∧RdU V sa sb so S.length S∧RdK V ca cb co l.length l∧V.cell? ⟨pb,po+i,none⟩=some (.string x)∧Zb w V):=fun V hb=>by
   have c1:=(hA.next (Qa hb0 (Qa xC hb)) (Ld _)).at (k:=i) (by omega)
   rw[hx] at c1;exact⟨(xG.next hb).cells,hS.next (Qa hb0 (Qa xC hb)),hK.next (Qa hb0 (Qa xC hb)),c1,Qa xC hb⟩
  have HE:=Qe xQ;have xE:=Qe hSl;have xJ:=Qe xO;have xZ:=hA.ptr (by omega)
  subst xZ;have z0:(0:Int)<=(i:Int):=Lf _;have z1:(i:Int)<(A.length:Int):=by omega
  have z3:(A.length:Int)<=8796093022208:=by omega
  have z4:(S.length:Int)<=100000000:=by omega
  clear hA hAs hS hi HH HV htl xG xB hr hK hls hx hy yA yB xS xT xQ xO xR xN hmA hnA hmS hSl
  go_enter func50,ntmps50
  go_upto_region 1 with (fail)
  try rw[xF]
  clear xF
  go_upto_region 3 with (go_at_call 99;with_reducible refine(xK.out _ xC).mono ?_;rintro e w3 ⟨rfl,xP⟩)
  obtain⟨⟨d0,d1⟩,_⟩:=HX.out _ xP;have H0:Hid ((∀q,q<0->S.getD q 0≠i)∧Zb F w3):=⟨fun q hq=>absurd hq (by omega),xP⟩
  clear k0 k1 xP xK xC;go_wp2
  go_loopg [14] S.length (fun t x wr => ∃j:Nat,t=S.length - j∧j<=S.length∧x = .int .i64 (j:Int)∧Hid ((∀q,q<j->S.getD q 0≠i)∧Zb F wr))
  case atStart=>go_light;exact⟨0,rfl,Ll _,rfl,H0⟩
  case round =>
   clear H0 d0 d1;obtain⟨j,rfl,hj,rfl,HI⟩:=hrel
   by_cases hlt:j<S.length
   ·have y0:(0:Int)<=(j:Int):=Lf _;have y1:(j:Int)<(S.length:Int):=by omega
    have y2:(j:Int)<(l.length:Int):=by have:=xE.out;omega
    obtain⟨⟨d0,d1⟩,xI,xH,xU,_⟩:=HX.out wr HI.out.2;obtain rfl:=xI.ptr (by omega)
    obtain rfl:=xH.ptr (by have:=xE.out;omega)
    have c0:=xI.at hlt;obtain⟨s,he⟩:=Ze (S.getD j 0);rw[he] at c0;have xL:Hid (∀t,Zb F (wr.drewN t)):=fun t=>Qd HI.out.2 t
    by_cases hq:s=i
    ·subst hq;obtain⟨_,e1⟩:=xH.at (show j<l.length by have:=xE.out;omega)
     rw[xJ.out j hlt he] at e1;have HY:Hid (∀t V,Below (wr.drewN t).heap.size (wr.drewN t) V->(V.cell? ⟨w.heap.size,1,none⟩=some (.int .u64 (s:Int))∧V.cell? ⟨pb,po+s,none⟩=some (.string x)∧V.cell? ⟨cb,co+j*2+1,none⟩=some (.string y))∧Zb w V):=fun t V hb=>by
      have xX:=Qa (xL.out t) hb;obtain⟨⟨_,q1⟩,_,xY,q2,q3⟩:=HX.out V xX;obtain⟨_,q4⟩:=xY.at (show j<l.length by have:=xE.out;omega)
      rw[xJ.out j hlt he] at q4;exact⟨⟨q1,q2,q4⟩,q3⟩
     clear xI xH he HX HE xJ HI xL
     go_upto_region 7 with (fail)
     go_quiet (fail)
     go_upto_region 8 with (fail)
     obtain⟨G,hG⟩:=Ze (wr.drewN nq);have HZ:=Qe (HY.out nq);rw[hG] at HZ
     try rw[hG]
     clear HY hG d0 d1 c0 e1 xU;obtain⟨⟨d1,xU,e1⟩,_⟩:=HZ.out G (Lb _ _);have xM:=Qe (HZ.out G (Lb _ _)).2
     go_cut [12,13] from 47 to 60 (fun v u wx=>Hid (Pr w.heap.size wx v u [r1] [r2]∧Zb w wx))
     case first =>
      go_region_held3 (fun V=>V.cell? ⟨w.heap.size,1,none⟩=some (.int .u64 (s:Int))∧V.cell? ⟨pb,po+s,none⟩=some (.string x)∧V.cell? ⟨cb,co+j*2+1,none⟩=some (.string y))
       (with_reducible exact(HZ.out _ (by with_reducible repeat first|exact Lb _ _|refine LK ?_|refine bal ?_ _|refine Qa ?_ xA|refine Qa ?_ hb6|refine Qa ?_ hb7)).1)
       (first
        | (go_at_call 93;with_reducible refine(xV.out _).mono ?_;rintro e w5 ⟨rfl,xA⟩)
        | (go_at_call 93;with_reducible refine(xW.out _).mono ?_;rintro e w6 ⟨rfl,hb6⟩))
      all_goals
       go_wp2
       go_meet
       case rel =>
        go_light;have yC:=(Qa xM.out (by with_reducible repeat first|exact Lb _ _|refine LK ?_|refine bal ?_ _|refine Qa ?_ xA|refine Qa ?_ hb6|refine Qa ?_ hb7):Zb w w5).size
        have yD:=(Qa xM.out (by with_reducible repeat first|exact Lb _ _|refine LK ?_|refine bal ?_ _|refine Qa ?_ xA|refine Qa ?_ hb6|refine Qa ?_ hb7):Zb w w6).size
        have xD:=hb6.size
        try rw[World.size_drew] at xD
        try rw[LA] at xD
        exact Qe ⟨⟨by(first|exact Qm (JN w5 _ rfl (by omega)) (by with_reducible repeat first|exact Lb _ _|refine LK ?_|refine bal ?_ _|refine Qa ?_ xA|refine Qa ?_ hb6|refine Qa ?_ hb7) (Ld _)|exact Qm (JN w6 _ rfl (by omega)) (by with_reducible repeat first|exact Lb _ _|refine LK ?_|refine bal ?_ _|refine Qa ?_ xA|refine Qa ?_ hb6|refine Qa ?_ hb7) (Ld _)|exact Qm (JN (w6.alloc _) _ (LA ..) (by omega)) (by with_reducible repeat first|exact Lb _ _|refine LK ?_|refine bal ?_ _|refine Qa ?_ xA|refine Qa ?_ hb6|refine Qa ?_ hb7) (Ld _)),by(first|exact Qm (JN w5 _ rfl (by omega)) (by with_reducible repeat first|exact Lb _ _|refine LK ?_|refine bal ?_ _|refine Qa ?_ xA|refine Qa ?_ hb6|refine Qa ?_ hb7) (Ld _)|exact Qm (JN w6 _ rfl (by omega)) (by with_reducible repeat first|exact Lb _ _|refine LK ?_|refine bal ?_ _|refine Qa ?_ xA|refine Qa ?_ hb6|refine Qa ?_ hb7) (Ld _)|exact Qm (JN (w6.alloc _) _ (LA ..) (by omega)) (by with_reducible repeat first|exact Lb _ _|refine LK ?_|refine bal ?_ _|refine Qa ?_ xA|refine Qa ?_ hb6|refine Qa ?_ hb7) (Ld _)),fun g h1 h2=>by simp only[Value.ownBlock,Option.some.injEq] at h1 h2;omega⟩,Qa xM.out (by with_reducible repeat first|exact Lb _ _|refine LK ?_|refine bal ?_ _|refine Qa ?_ xA|refine Qa ?_ hb6|refine Qa ?_ hb7)⟩
     case rest=>go_wp2;exact Lp (v := .tuple #[_,_]) (by simp[results,results50,go_sem]) rfl ⟨_,_,rfl,hcut.out.1,hcut.out.2⟩
    ·have hz : ¬(s:Int)=(i:Int):=by omega
     have yE:((s:Int) == (i:Int))=false:=by simpa using hz
     have HN:Hid (∀q,q<j+1->S.getD q 0≠i):=fun q hq'=>by
      by_cases e:q=j
      ·subst e;rw[he];exact hq
      ·exact HI.out.1 q (by omega)
     clear xI xH he hq HI
     go_upto_region 7 with (fail)
     go_quiet (fail)
     go_wp2
     go_roundg (S.length - (j+1))
     case rel=>go_light;exact⟨j+1,rfl,by omega,by go_num,HN.out,xL.out _⟩
     case measure=>go_light;omega
   ·obtain⟨q,h1,h2⟩:=HE.out;exact absurd h2 (HI.out.1 q (by omega))
theorem Qf4(w0:World)(ht:Tr w0)(k:Int)(pa:OA)(pb po pc:Nat)(A:LB)(hA:RdS w0 pa pb po A.length A)(hAs : ∀s∈A,s.size<=140737488351232)(hpc:A.length<=pc)(ca:OA)(cb co cc:Nat)(l:List (Nat×BA))(hK:RdK w0 ca cb co l.length l)(hls : ∀c∈l,c.2.size<=140737488351232)(sa:OA)(sb so sc:Nat)(S:List Nat)(hS:RdU w0 sa sb so S.length S)(hmS:S.length<=100000000)(hSl:S.length=l.length)(ao:OA)(g cap:Nat)(K:List He)(hR:RdH w0 ao g K.length K)(hm:K.length<=100000000)(hF:Fn K)(hKb : ∀e∈K,e.1.1<=40∧e.1.2<2^40∧e.2.size<=32)(M:Nat->Nat->Option Nat)(D:LB)(V:Nat->BA)(HT : ∀h i v,Tl (clk k) K h i v->xd (clk k) M D V h i=v)(HH : ∀h i v,Tl (clk k) K h i v->((∃s∈S,s / 2^h=i)↔M h i=none))(HNk : ∀h i u,M (h+1) i=none->((h+1,i),u) ∉ K)(HV : ∀j,j<S.length->(l.getD j noC).2=V (S.getD j 0))(hxs : ∀h i,(xd (clk k) M D V h i).size<=32)(hV : ∀i,M 0 i=none->(V i).size+1<=9223372036854775807)(n:Nat)(hnA:n<=A.length)(hmA:A.length<=8796093022208)(hn:n<=1000) : ∀h,h<=40->BeC w0 k pa A.length pc ca l.length cc sa S.length sc ao cap A K M D V n h:=by
 intro h
 induction h with
 | zero=>intro _;exact Qfb w0 k pa pb po pc A hA hAs ca cb co cc l hK hls sa sb so sc S hS hmS hSl ao cap K M D V HH HV n hnA hmA
 | succ h ih=>intro hh;exact Qfc w0 ht k pa pb po pc A hA hAs hpc ca l.length cc sa sb so sc S hS hmS ao g cap K hR hm hF hKb M D V HT HH HNk hxs hV n hnA hmA hn h (by omega) (ih (by omega))
def gen{α:Type}(f:Nat->α)(n:Nat):Nat->List α
 | 0=>[]
 | h+1=>(if n / 2^h % 2=1 then [f h] else [])++gen f n h
theorem QgN(c:Nat)(L:LB) : ∀h,gen (fun s=>nd c L s (L.length / 2^s - 1)) L.length h=pks c L h
 | 0=>rfl
 | h+1=>by rw[gen,pks,QgN c L h]
theorem QdI{α β:Type}(g:α->β)(f:Nat->α)(n:Nat) : ∀h,(gen f n h).map g=gen (fun s=>g (f s)) n h
 | 0=>rfl
 | h+1=>by
  rw[gen,gen,L8,QdI g f n h]
  by_cases e:n / 2^h % 2=1
  ·rw[Lm e,Lm e];rfl
  ·rw[Le e,Le e];rfl
theorem QbS{α:Type}{f:Nat->α}{n h:Nat}(e:n / 2^h % 2≠1):gen f n (h+1)=gen f n h:=by rw[gen,Le e];rfl
theorem QdK{α:Type}{f:Nat->α}{n h:Nat}(e:n / 2^h % 2=1):gen f n (h+1)=f h::gen f n h:=by rw[gen,Lm e];rfl
theorem QbT{α:Type}{f:Nat->α}{n s:Nat} : ∀d,n % 2^(s+d)<2^s->gen f n (s+d)=gen f n s
 | 0,_=>rfl
 | d+1,h=>by
  have hs:2^s<=2^(s+d):=L7 (by decide) (by omega)
  have h2:n % 2^(s+(d+1)) / 2^(s+d) % 2≠1:=Qhx (by omega)
  rw[Qgv (by omega)] at h2
  rw[show s+(d+1)=s+d+1 by omega,QbS h2]
  refine QbT d ?_
  have:n % 2^(s+d)=n % 2^(s+(d+1)) % 2^(s+d):=by
   rw[show s+(d+1)=(s+d)+1 by omega,LM,Nat.mod_mul_right_mod]
  rw[this,NI (L5 h hs)];exact h
theorem Qjs{α:Type}{f:Nat->α}{n g s:Nat}(h1:2^s<=n % 2^g)(h2:n % 2^g<2^(s+1)):gen f n g=f s::gen f n s:=by
 obtain⟨xA,e2,e1,_⟩:=Qhk h1 h2;obtain⟨d,rfl⟩ : ∃d,g=s+1+d:=⟨g - s - 1,by omega⟩
 rw[QbT d (by rw[e1,<-e1];exact h2),QdK e2]
theorem Qjt{α:Type}{f:Nat->α}{n g:Nat}(h:n % 2^g=0):gen f n g=[]:=by
 have:=QbT (f:=f) (n:=n) (s:=0) g (by rw[Lr,h];decide)
 rw[Lr] at this;rw[this,gen]
theorem QdH{α:Type}(f:Nat->α)(n:Nat) : ∀h,(gen f n h).length<=h
 | 0=>Ld _
 | h+1=>by
  have:=QdH f n h
  by_cases e:n / 2^h % 2=1
  ·rw[QdK e,Lt];omega
  ·rw[QbS e];omega
theorem QdJ{n:Nat} : ∀h s,s∈gen id n h->s<h∧n / 2^s % 2=1
 | 0,s,hs=>by cases hs
 | h+1,s,hs=>by
  by_cases e:n / 2^h % 2=1
  ·rw[QdK e] at hs
   rcases List.mem_cons.1 hs with rfl|hs
   ·exact⟨NR _,e⟩
   ·have:=QdJ h s hs;exact⟨by omega,this.2⟩
  ·rw[QbS e] at hs;have:=QdJ h s hs;exact⟨by omega,this.2⟩
def cP:List (Nat×Nat)->List Value
 | []=>[]
 | p::r => .int .i64 (p.1:Int) :: .int .i64 (p.2:Int)::cP r
theorem Qm4(l m:List (Nat×Nat)):cP (l++m)=cP l++cP m:=by
 induction l with
 | nil=>rfl
 | cons b r ih=>simp[cP,ih]
theorem Qm5(l:List (Nat×Nat))(j:Nat)(hj:j<l.length):(cP l)[j*2]? = some (.int .i64 ((l.getD j (0,0)).1:Int))∧(cP l)[j*2+1]? = some (.int .i64 ((l.getD j (0,0)).2:Int)):=by
 induction l generalizing j with
 | nil=>simp at hj
 | cons b r ih =>
  cases j with
  | zero=>exact⟨rfl,rfl⟩
  | succ j =>
   have:=ih j (by simpa using hj)
   rw[show(j+1)*2=j*2+1+1 by omega]
   simpa [cP] using this
theorem Tryz.infoP:(prog.info? 101).map (fun i=>(i.zero,i.size,i.bytes))=some (some (.agg #[.int .i64 0,.int .i64 0]),2,16):=by kernel_rfl
def OwnP(w:World)(B:Nat)(v:Value)(l:List (Nat×Nat)):Prop:=w.ownsRow B 101 2 v l.length (cP l)
theorem Qc4{w W:World}{B:Nat}{v:Value}{l:List (Nat×Nat)}(h:OwnP w B v l)(hb:Zb w W):OwnP W B v l:=by
 obtain⟨h1,h2⟩:=h;refine⟨h1,?_⟩
 rcases h2 with h2|⟨g,cap,cur,rfl,hg,hh,r⟩
 ·exact .inl h2
 ·exact .inr ⟨g,cap,cur,rfl,hg,by rw[hb.block g (Array.getElem?_eq_some_iff.1 hh).1];exact hh,r⟩
theorem QjU(w:World)(B:Nat):OwnP w B (.slice none 0 0) []:=⟨rfl,.inl ⟨rfl,rfl⟩⟩
theorem Qh2{w:World}{B g n cap:Nat}{l:List (Nat×Nat)}(h:OwnP w B (.slice (some ⟨g,0,none⟩) n cap) l){j:Nat}(hj:j<l.length):w.cell? ⟨g,j*2,none⟩=some (.int .i64 ((l.getD j (0,0)).1:Int))∧w.cell? ⟨g,j*2+1,none⟩=some (.int .i64 ((l.getD j (0,0)).2:Int)):=by
 obtain⟨k1,k2⟩:=Qm5 l j hj;have h1:=I7 h (g:=g) rfl _ _ k1;have h2:=I7 h (g:=g) rfl _ _ k2;rw[Addr.add_mid,Lr] at h1 h2;exact⟨h1,h2⟩
theorem Qa0(w:World){ops:Array Oper}{rest:List Oper}{o:Oper}{a:Act}{Q:Exit->Act->World->Prop}
  (hg:o.guard=none) (s x:Operand) (hop:o.op=Op.call { callee:=Callee.builtin Builtin.append,args:=#[s,x],argTypes:=#[99,99] })
  (B:Nat) (v:Value) (L:List (Nat×Nat)) (w0:World) (p q:Nat) (hw:w=w0.alloc (.cells #[.int .i64 (p:Int),.int .i64 (q:Int)] 101)) (hs:a.eval s=v) (hown:OwnP w B v L) (hx:a.eval x = .slice (some ⟨w0.heap.size,0,none⟩) 1 1)
  (hlen:L.length+1<=1048576) (hB:B<=w.heap.size)
  (hK : ∀v' w',OwnP w' B v' (L++[(p,q)])->Below B w w'->wpList prog ops Q rest (a.put o.dst v') w'):wpList prog ops Q (o::rest) a w:=by
 obtain⟨i0,hi,xC,xD,xE⟩:=info_parts Tryz.infoP;have xB : ∀k,v.ownBlock=some k->B<=k:=by
  obtain⟨_,h2⟩:=hown
  rcases h2 with ⟨rfl,_⟩|⟨g,cp,cur,rfl,hg,_⟩
  ·intro k hk;cases hk
  ·intro k hk;cases hk;exact hg
 have xA : ∀j u,([.int .i64 (p:Int),.int .i64 (q:Int)]:List Value)[j]? = some u->w.cell? ((⟨w0.heap.size,0,none⟩:Addr).add j)=some u:=by
  subst hw;exact World.news_of_block (cs:=#[.int .i64 (p:Int),.int .i64 (q:Int)]) (t:=101) (fr:=(0,0)) (Lu w0 _)
 refine wpList_append_own w hg s x _ hop B 101 i0 (.agg #[.int .i64 0,.int .i64 0]) 2 16 underlying99 hi xC xD xE rfl (by decide) _ _ _ hs hown ⟨w0.heap.size,0,none⟩ 1 1 [.int .i64 (p:Int),.int .i64 (q:Int)] hx rfl xA (by intro u hu;simp at hu;rcases hu with rfl|rfl <;> rfl) (by unfold maxLen;omega) (by omega) hB ?_
 intro v' w' h1 h2 _;refine hK v' w' ?_ ((Lb _ _).grown h2 hB xB)
 rw[OwnP,Lg,Qm4];exact h1
def mtP(n s:Nat):Nat×Nat:=((n / 2^s - 1)*2^s,2^s)
theorem YH(w:World)(n:Nat)(hn:n<=1099511627776)(P:List (Nat×Nat))(hP:Hid (gen (mtP n) n 41=P)) :
  Calls prog 54 #[.int .i64 (n:Int)] w fun e w' => ∃v,e = .returned v∧OwnP w' w.heap.size v P∧Zb w w':=by
 have hb:=Lb w.heap.size w;have HS:Hid ([]++gen (mtP n) n 41=P):=by rw[Ie];exact hP
 have xM:Hid (P.length<=41):=by show _<=_;rw[<-hP.out];exact QdH _ _ _
 have HN:Hid (n<=1099511627776):=hn;have xT:(n:Int)<=1099511627776:=by omega
 clear hn hP
 go_enter func54,ntmps54;go_wp2
 go_loopg [3,4] n (fun gg v a wr => ∃(g t:Nat) (A:List (Nat×Nat)),t<=n∧gg=n - t∧a = .int .i64 (t:Int)∧Hid (t+n % 2^g=n∧A++gen (mtP n) n g=P)∧OwnP wr w.heap.size v A∧Zb w wr)
 case atStart=>go_light;exact⟨41,0,[],Ll _,rfl,rfl,⟨by have:=HN.out;omega,HS.out⟩,QjU _ _,hb⟩
 case round =>
  clear hb HS;obtain⟨g,t,A,xS,rfl,rfl,HE,ho,hb⟩:=hrel;have xU:(0:Int)<=(t:Int):=Lf _
  by_cases hlt:t<n
  ·have xI:(t:Int)<(n:Int):=by omega
   have HX:Hid (OwnP wr w.heap.size u3 A∧Zb w wr∧t<n):=⟨ho,hb,hlt⟩;obtain⟨m,hm⟩:=Ze (n - t);have em:IntKind.i64.wrap ((n:Int) - (t:Int))=(m:Int):=by rw[Nd];omega
   have xJ:Hid (t+m=n):=by show _=_;omega
   clear ho hb xS hlt hm;go_wp2
   go_loopg [5] 64 (fun gg zv wx => ∃(h z:Nat),h<=64∧gg=64 - h∧zv = .int .i64 (z:Int)∧Hid (2^h=z∧z<=m)∧wr=wx)
   case atStart=>go_light;exact⟨0,1,by omega,rfl,rfl,⟨rfl,by have:=HX.out.2.2;have:=xJ.out;omega⟩,rfl⟩
   case round =>
    obtain⟨h,z,xD,rfl,rfl,HH,rfl⟩:=hrel;have hz:=HH.out;have xK:=xJ.out;have xL:=HN.out;have xA:h<=40:=by
     apply IU
     intro h9;have:=L7 (n:=2) (by decide) (show 41<=h from h9)
     omega
    obtain⟨q,hq⟩:=Ze (2*z);have e1:IntKind.i64.wrap (2*(z:Int))=(q:Int):=by rw[Nd];omega
    by_cases hgo:q<=m
    ·have xH:(q:Int)<=(m:Int):=by omega
     have HY:Hid (2^(h+1)=q∧q<=m∧h<=40):=⟨by rw[LM,hz.1];omega,hgo,xA⟩
     clear HH hq hgo xD xA hz xK xL;go_wp2
     go_roundg (64 - (h+1))
     case rel=>go_light;exact⟨h+1,q,by have:=HY.out.2.2;omega,rfl,rfl,⟨HY.out.1,HY.out.2.1⟩,rfl⟩
     case measure=>go_light;have:=HY.out.2.2;omega
    ·have xH : ¬((q:Int)<=(m:Int)):=by omega
     have hE:=HE.out;have xF:2^h<=n % 2^g:=by omega
     have xG:n % 2^g<2^(h+1):=by rw[LM];omega
     obtain⟨xR,xC,xP,xQ⟩:=Qhk xF xG;obtain⟨xN,xO⟩:=QeX xC;have xB:(n / 2^h - 1)*2^h=t:=by omega
     have e7:IntKind.i64.wrap ((t:Int)+(z:Int))=(t:Int)+(z:Int):=by rw[Nd];omega
     have xE:Hid (t+z<=n∧t+z+n % 2^h=n∧A++[(t,z)]++gen (mtP n) n h=P∧1<=z):=by
      refine⟨by omega,by omega,?_,?_⟩
      ·have h3:=Qjs (f:=mtP n) xF xG;rw[mtP,xB,hz.1] at h3;rw[<-hE.2,h3];simp
      ·rw[<-hz.1];exact LQ h
     clear hgo xF xG xR xC xP xQ xN xO xB hE HE HH hz xK xL xA xD hq
     go_wp2_with (at_builtin;refine Qa0 _ rfl _ _ rfl w.heap.size _ A wr t z rfl rfl (Qc4 HX.out.1 (bal (Lb _ _) _)) rfl ?c1 ?c2 ?_)
     case c1=>have h1:=LU List.length xE.out.2.2.1;have h2:=xM.out;simp at h1;omega
     case c2=>have:=HX.out.2.1.size;simp;omega
     intro v2 w6 h6 hb6;have HY:Hid (OwnP w6 w.heap.size v2 (A++[(t,z)])∧Zb w w6):=⟨h6,(bal HX.out.2.1 _).trans hb6⟩;clear h6 hb6;go_wp2
     go_roundg (n - (t+z))
     case rel=>go_light;obtain⟨k1,k2,k3,k4⟩:=xE.out;exact⟨h,t+z,A++[(t,z)],k1,rfl,by go_num,⟨k2,k3⟩,HY.out.1,HY.out.2⟩
     case measure=>go_light;obtain⟨k1,k2,k3,k4⟩:=xE.out;have:=HX.out.2.2;omega
  ·obtain rfl:t=n:=by omega
   have xI : ¬((t:Int)<(t:Int)):=by omega
   have HA:Hid (A=P):=by
    obtain⟨k1,k2⟩:=HE.out;rw[Qjt (by omega),Na] at k2
    exact k2
   clear HE;go_wp2
   go_ret
   exact⟨_,rfl,by rw[<-HA.out];exact ho,hb⟩
end Go.Proofs.YtdocjikpcbmcgaaGreatDoor
