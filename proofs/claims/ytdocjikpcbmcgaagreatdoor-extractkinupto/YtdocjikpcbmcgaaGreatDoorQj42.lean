/- Own work. -/
import Derived.Test.YtdocjikpcbmcgaaGreatDoorQj41
set_option maxRecDepth 100000
set_option maxHeartbeats 2000000
namespace Go.Proofs.YtdocjikpcbmcgaaGreatDoor
open Go.RowKit
attribute [local go_sem ↓] Go.wp_at_zero Go.wp_at_succ
def AbC(w0:World)(k:Int)(pa:OA)(pn pc:Nat)(ao:OA)(cap:Nat)(A:LB)(K:List He)(M:Nat->Nat->Option Nat)(D:LB)(V:Nat->BA)(n h:Nat):Prop := ∀i W v0,Zb w0 W->(i+1)*2^h<=n->Tl (clk k) K h i v0 ->
 Calls Tryz.prog 45 #[.int .i64 k,.slice pa pn pc,.slice ao K.length cap,bkV h i] W fun e w' => ∃v u,e = .returned (.tuple #[v,u])∧Pr W.heap.size w' v u (ra (clk k) A M h i) (rb (clk k) M D V h i)∧Zb W w'
theorem QeB(w0:World)(ht:Tr w0)(k:Int)(pa:OA)(pb po pc:Nat)(A:LB)(hA:RdS w0 pa pb po A.length A)(hAs : ∀s∈A,s.size<=140737488351232)(hpc:A.length<=pc)(ao:OA)(g cap:Nat)(K:List He)(hR:RdH w0 ao g K.length K)(hm:K.length<=100000000)(hF:Fn K)(hKb : ∀e∈K,e.1.1<=40∧e.1.2<2^40∧e.2.size<=32)(M:Nat->Nat->Option Nat)(D:LB)(V:Nat->BA)(HT : ∀h i v,Tl (clk k) K h i v->xd (clk k) M D V h i=v)(HG : ∀h i,(∃e∈K,e.1=(h,i))↔(M h i).isSome=true)(hxs : ∀h i,(xd (clk k) M D V h i).size<=32)(hV : ∀i,M 0 i=none->(V i).size+1<=9223372036854775807)(n:Nat)(hnA:n<=A.length)(hmA:A.length<=8796093022208)(hn:n<=1000)(h:Nat)(hh:h<40)(IH:AbC w0 k pa A.length pc ao cap A K M D V n h):AbC w0 k pa A.length pc ao cap A K M D V n (h+1):=by
  intro i w v0 hb0 hi htl;have hc:=Qx k;have hi1:(2*i+1+1)*2^h<=n:=by
    have e:(i+1)*2^(h+1)=(2*i+1+1)*2^h:=by rw[LA,show 2*i+1+1=2*(i+1) by omega,LY 2 (i+1),L4,LY 2]
    rw[<-e];exact hi
  have hi0:(2*i+1)*2^h<=n:=Lm (Lo _ (by omega)) hi1
  have hp2:2^h<=1000:=by have:=Lo (2^h) (show 1<=2*i+1 by omega);omega
  have hib:i<1000:=by have:=NT (2*i+1) (Ie (n:=h));omega
  obtain⟨x1,hx1⟩:=Ze (nd (clk k) A h (2*i));obtain⟨x2,hx2⟩:=Ze (nd (clk k) A h (2*i+1))
  by_cases hgv : ∃e∈K,e.1=(h+1,i)
  · obtain⟨j,hj⟩:=NM.1 ((HG (h+1) i).1 hgv);have HGv:Hid (∀W,Zb w W->Zr 90 #[.agg #[.int .i64 ((h:Int)+1),.int .u64 (i:Int)],.slice ao K.length cap] W (.bool true)):=fun W hb=>by
      have:=Qb3 W (h+1) i ao g cap K (hR.next (Qa hb0 hb)) hm true (decide_eq_true hgv);unfold bkV at this;rwa [show((h+1:Nat):Int)=(h:Int)+1 by omega] at this
    rw[QaN hj,QcM hj];unfold bkV;rw[show((h+1:Nat):Int)=(h:Int)+1 by omega]
    have z0 : ¬(h:Int)+1=0:=by omega
    obtain⟨F,hFe,hbk,hbF⟩:=US w ((h:Int)+1) (i:Int);obtain⟨k0,k1⟩:=hbk.cells;clear hA hAs hR hi hi0 hi1 IH hp2 hc ht hpc hn HG HT hKb hF htl hgv hj hbk
    go_enter Tryz.func45,Tryz.ntmps45
    go_upto_region 1 with (fail)
    try rw[hFe]
    clear hFe
    go_wp2_with (go_at_call 90;with_reducible refine(HGv.out _ hbF).mono ?_;rintro e w5 ⟨rfl,hb5⟩)
    exact bodyPost_ret (v := .tuple #[.slice none 0 0,.slice none 0 0]) (by simp[results,Tryz.results45,go_sem]) rfl ⟨_,_,rfl,Qdy _ _,Qa hbF hb5⟩
  have hMn:M (h+1) i=none:=by
    cases e:M (h+1) i with
    | none=>rfl
    | some j=>exact absurd ((HG (h+1) i).2 (by rw[e];rfl)) hgv
  have HGv:Hid (∀W,Zb w W->Zr 90 #[.agg #[.int .i64 ((h:Int)+1),.int .u64 (i:Int)],.slice ao K.length cap] W (.bool false)):=fun W hb=>by
    have:=Qb3 W (h+1) i ao g cap K (hR.next (Qa hb0 hb)) hm false (decide_eq_false hgv);unfold bkV at this;rwa [show((h+1:Nat):Int)=(h:Int)+1 by omega] at this
  obtain⟨y1,y2,htl1,htl2,_⟩ : ∃x y,Tl (clk k) K h (2*i) x∧Tl (clk k) K h (2*i+1) y∧v0=dg (clk k) (QE x y):=by
    rcases htl with h1|⟨_,h1⟩
    · exact absurd ⟨_,h1,rfl⟩ hgv
    · exact h1
  have hy1:=HT _ _ _ htl1;have hy2:=HT _ _ _ htl2;have sx1:x1.size<=32:=by rw[<-hx1,QD hc];exact hc
  have sx2:x2.size<=32:=by rw[<-hx2,QD hc];exact hc
  have sy1:y1.size<=32:=by rw[<-hy1];exact hxs _ _
  have sy2:y2.size<=32:=by rw[<-hy2];exact hxs _ _
  obtain⟨t1,ht1⟩:=Ze (QE x1 x2);obtain⟨t2,ht2⟩:=Ze (QE y1 y2);have c2:((2*i:Nat):Int)=2*(i:Int):=by omega
  have c3:((2*i+1:Nat):Int)=2*(i:Int)+1:=by omega
  have HA1:Hid (∀W,Zb w W->Zr 92 #[.int .i64 k,.slice pa A.length pc,.agg #[.int .i64 (h:Int),.int .u64 (2*(i:Int))]] W (.string x1)):=fun W hb=>by
    have:=Oi W (ht.next (Qa hb0 hb)) k pa pb po pc A (hA.next (Qa hb0 hb) (Lb _)) hAs hmA hpc h (2*i) (by omega) (by omega) x1 hx1
    unfold bkV at this;rwa [c2] at this
  have HA2:Hid (∀W,Zb w W->Zr 92 #[.int .i64 k,.slice pa A.length pc,.agg #[.int .i64 (h:Int),.int .u64 (2*(i:Int)+1)]] W (.string x2)):=fun W hb=>by
    have:=Oi W (ht.next (Qa hb0 hb)) k pa pb po pc A (hA.next (Qa hb0 hb) (Lb _)) hAs hmA hpc h (2*i+1) (by omega) (by omega) x2 hx2
    unfold bkV at this;rwa [c3] at this
  have h40 : ∀q,(q+1)*2^h<=n->(q+1)*2^h<=2^40:=fun q hq=>Lm hq (Lm hn (by decide))
  have HB1:Hid (∀W,Zb w W->Zr 89 #[.int .i64 k,.agg #[.int .i64 (h:Int),.int .u64 (2*(i:Int))],.slice ao K.length cap] W (.tuple #[.string y1,.bool true])):=fun W hb=>by
    have:=Qbd k h (by omega) (2*i) (h40 _ hi0) K y1 W ao g cap (ht.next (Qa hb0 hb)) (hR.next (Qa hb0 hb)) hm hF htl1 hKb
    rwa [c2] at this
  have HB2:Hid (∀W,Zb w W->Zr 89 #[.int .i64 k,.agg #[.int .i64 (h:Int),.int .u64 (2*(i:Int)+1)],.slice ao K.length cap] W (.tuple #[.string y2,.bool true])):=fun W hb=>by
    have:=Qbd k h (by omega) (2*i+1) (h40 _ hi1) K y2 W ao g cap (ht.next (Qa hb0 hb)) (hR.next (Qa hb0 hb)) hm hF htl2 hKb
    rwa [c3] at this
  have HN1:Hid (∀W,Zr 91 #[.string x1,.string x2] W (.string t1)):=fun W=>by rw[<-ht1];exact YX W x1 x2 (by omega) (by omega)
  have HN2:Hid (∀W,Zr 91 #[.string y1,.string y2] W (.string t2)):=fun W=>by rw[<-ht2];exact YX W y1 y2 (by omega) (by omega)
  obtain⟨P1,hP1⟩:=Ze (ra (clk k) A M h (2*i));obtain⟨P2,hP2⟩:=Ze (ra (clk k) A M h (2*i+1));obtain⟨Q1,hQ1⟩:=Ze (rb (clk k) M D V h (2*i));obtain⟨Q2,hQ2⟩:=Ze (rb (clk k) M D V h (2*i+1));have HI1:Hid (∀W,Zb w W->Calls Tryz.prog 45 #[.int .i64 k,.slice pa A.length pc,.slice ao K.length cap,.agg #[.int .i64 (h:Int),.int .u64 (2*(i:Int))]] W fun e w' => ∃v u,e = .returned (.tuple #[v,u])∧Pr W.heap.size w' v u P1 Q1∧Zb W w'):=fun W hb=>by
    have:=IH (2*i) W y1 (Qa hb0 hb) hi0 htl1;rw[hP1,hQ1] at this;unfold bkV at this;rwa [c2] at this
  have HI2:Hid (∀W,Zb w W->Calls Tryz.prog 45 #[.int .i64 k,.slice pa A.length pc,.slice ao K.length cap,.agg #[.int .i64 (h:Int),.int .u64 (2*(i:Int)+1)]] W fun e w' => ∃v u,e = .returned (.tuple #[v,u])∧Pr W.heap.size w' v u P2 Q2∧Zb W w'):=fun W hb=>by
    have:=IH (2*i+1) W y2 (Qa hb0 hb) hi1 htl2;rw[hP2,hQ2] at this;unfold bkV at this;rwa [c3] at this
  have e1:ra (clk k) A M (h+1) i=([t1]++P1)++P2:=by rw[Qaa hMn,hx1,hx2,ht1,hP1,hP2];simp
  have e2:rb (clk k) M D V (h+1) i=([t2]++Q1)++Q2:=by rw[Qa7 hMn,hy1,hy2,ht2,hQ1,hQ2];simp
  have hl2:2^(h+1)<=2000:=by rw[LA];omega
  have HLn:Hid ((P1.length<=2000∧P2.length<=2000∧Q1.length<=2000∧Q2.length<=2000)∧(∀s∈P1,s.size<=9223372036854775807)∧(∀s∈P2,s.size<=9223372036854775807)∧(∀s∈Q1,s.size<=9223372036854775807)∧(∀s∈Q2,s.size<=9223372036854775807)):=by
    have a1:=Qay (clk k) A M h (2*i);have a2:=Qay (clk k) A M h (2*i+1);have b1:=(rab (clk k) A M D V h (2*i)).1;have b2:=(rab (clk k) A M D V h (2*i+1)).1;rw[hP1] at a1;rw[hP2] at a2;rw[hP1,hQ1] at b1;rw[hP2,hQ2] at b2;have sA : ∀j,(A.getD j ByteArray.empty).size+1<=9223372036854775807:=fun j=>by have:=Oe hAs j;omega
    refine⟨⟨by omega,by omega,by omega,by omega⟩,?_,?_,?_,?_⟩
    · rw[<-hP1];exact QcK hc (by decide) sA _ _
    · rw[<-hP2];exact QcK hc (by decide) sA _ _
    · rw[<-hQ1];exact QcN hxs (by decide) hV _ _
    · rw[<-hQ2];exact QcN hxs (by decide) hV _ _
  rw[e1,e2];unfold bkV;rw[show((h+1:Nat):Int)=(h:Int)+1 by omega]
  have zw1:IntKind.i64.wrap ((h:Int)+1 - 1)=(h:Int):=by rw[LW];omega
  have zw2:IntKind.u64.wrap (2*(i:Int))=2*(i:Int):=by rw[IntKind.wrap_u64];omega
  have zw3:IntKind.u64.wrap (2*(i:Int)+1)=2*(i:Int)+1:=by rw[IntKind.wrap_u64];omega
  have z0 : ¬(h:Int)+1=0:=by omega
  have zi:(i:Int)<1000:=by omega
  have zi0:(0:Int)<=(i:Int):=Le _;have zh:(h:Int)<40:=by omega
  have zh0:(0:Int)<=(h:Int):=Le _;obtain⟨F,hFe,hbk,hbF⟩:=US w ((h:Int)+1) (i:Int);clear hA hAs hx1 hx2 hy1 hy2 sx1 sx2 sy1 sy2 ht1 ht2 hP1 hP2 hQ1 hQ2 e1 e2 hmA hnA hi hi0 hi1 IH hp2 hl2 c2 c3 hc ht hpc hn HG HT hKb hF hR htl htl1 htl2 hgv hMn hxs hV h40 hm;obtain⟨k0,k1⟩:=hbk.cells
  go_enter Tryz.func45,Tryz.ntmps45
  go_upto_region 1 with (fail)
  try rw[hFe]
  clear hFe
  go_upto_region 3 with (go_at_call 90;with_reducible refine(HGv.out _ hbF).mono ?_;rintro e w3 ⟨rfl,hb3⟩)
  obtain⟨F1,hF1e,hbk1,hbF1⟩:=US w3 (h:Int) (2*(i:Int));obtain⟨F2,hF2e,hbk2,hbF2⟩:=US F1 (h:Int) (2*(i:Int)+1);obtain⟨k4,k5⟩:=(hbk.next hb3).cells
  go_upto_region 4 with (fail)
  try rw[hF1e]
  clear hF1e;obtain⟨k2,k3⟩:=(hbk.next (Qa hb3 hbF1)).cells
  go_upto_region 5 with (fail)
  try rw[hF2e]
  clear hF2e;have HX:Hid (∀V,Zb F2 V->(V.cell? ⟨w3.heap.size,0,none⟩=some (.int .i64 (h:Int))∧V.cell? ⟨w3.heap.size,1,none⟩=some (.int .u64 (2*(i:Int)))∧V.cell? ⟨F1.heap.size,0,none⟩=some (.int .i64 (h:Int))∧V.cell? ⟨F1.heap.size,1,none⟩=some (.int .u64 (2*(i:Int)+1)))∧Zb w V):=fun V hb=>by
    obtain⟨a0,a1⟩:=(hbk1.next (Qa hbF2 hb)).cells;obtain⟨b0,b1⟩:=(hbk2.next hb).cells;exact⟨⟨a0,a1,b0,b1⟩,Qa (Qa (Qa (Qa hbF hb3) hbF1) hbF2) hb⟩
  clear hbk hbk1 hbk2 hbF hbF1 hbF2 k0 k1 k2 k3 k4 k5 hb0 hb3 HGv;obtain⟨⟨d0,d1,d2,d3⟩,_⟩:=HX.out F2 (Below.refl _ _)
  go_upto_region 6 with (go_at_call 89;with_reducible refine(HB1.out _ (HX.out _ (Below.refl _ _)).2).mono ?_;rintro e w20 ⟨rfl,hb20⟩)
  obtain⟨⟨g0,g1,g2,g3⟩,_⟩:=HX.out _ hb20;clear d0 d1 d2 d3
  go_upto_region 7 with (go_at_call 89;with_reducible refine(HB2.out _ (HX.out _ hb20).2).mono ?_;rintro e w21 ⟨rfl,hb21⟩)
  have hz21:=Qa hb20 hb21;replace HX:Hid (∀V,Zb w21 V->(V.cell? ⟨w3.heap.size,0,none⟩=some (.int .i64 (h:Int))∧V.cell? ⟨w3.heap.size,1,none⟩=some (.int .u64 (2*(i:Int)))∧V.cell? ⟨F1.heap.size,0,none⟩=some (.int .i64 (h:Int))∧V.cell? ⟨F1.heap.size,1,none⟩=some (.int .u64 (2*(i:Int)+1)))∧Zb w V):=fun V hb=>HX.out V (Qa hz21 hb)
  clear g0 g1 g2 g3 hb20 hb21 hz21 HB1 HB2;obtain⟨⟨d0,d1,d2,d3⟩,_⟩:=HX.out w21 (Below.refl _ _)
  go_cut [16] from 59 to 68 (fun v wx=>Hid (Qk wx w21.heap.size v [t1]∧Zb w21 wx))
  case first =>
    go_region_held3 (fun V=>V.cell? ⟨w3.heap.size,0,none⟩=some (.int .i64 (h:Int))∧V.cell? ⟨w3.heap.size,1,none⟩=some (.int .u64 (2*(i:Int)))∧V.cell? ⟨F1.heap.size,0,none⟩=some (.int .i64 (h:Int))∧V.cell? ⟨F1.heap.size,1,none⟩=some (.int .u64 (2*(i:Int)+1)))
      (with_reducible exact(HX.out _ (by with_reducible repeat first|exact Below.refl _ _|refine Below.drew ?_|refine bal ?_ _|refine Qa ?_ hb5|refine Qa ?_ hb6|refine Qa ?_ hb7)).1)
      (first
        | (go_at_call 92;with_reducible refine(HA1.out _ (HX.out _ (by with_reducible repeat first|exact Below.refl _ _|refine Below.drew ?_|refine bal ?_ _|refine Qa ?_ hb5|refine Qa ?_ hb6|refine Qa ?_ hb7)).2).mono ?_;rintro e w5 ⟨rfl,hb5⟩)
        | (go_at_call 92;with_reducible refine(HA2.out _ (HX.out _ (by with_reducible repeat first|exact Below.refl _ _|refine Below.drew ?_|refine bal ?_ _|refine Qa ?_ hb5|refine Qa ?_ hb6|refine Qa ?_ hb7)).2).mono ?_;rintro e w6 ⟨rfl,hb6⟩)
        | (go_at_call 91;with_reducible refine(HN1.out _).mono ?_;rintro e w7 ⟨rfl,hb7⟩))
    all_goals
      go_wp2
      go_meet
      case rel =>
        go_light;have hs7:=(by with_reducible repeat first|exact Below.refl _ _|refine Below.drew ?_|refine bal ?_ _|refine Qa ?_ hb5|refine Qa ?_ hb6|refine Qa ?_ hb7:Zb w21 w7).size
        exact Qc ⟨UX w7 _ rfl hs7,by with_reducible repeat first|exact Below.refl _ _|refine Below.drew ?_|refine bal ?_ _|refine Qa ?_ hb5|refine Qa ?_ hb6|refine Qa ?_ hb7⟩
  case rest =>
    clear HA1 HA2 HN1 d0 d1 d2 d3;obtain⟨o16,hbx⟩:=hcut.out;have HO:=Qc hcut.out;clear hcut;obtain⟨⟨d0,d1,d2,d3⟩,_⟩:=HX.out _ hbx;obtain⟨wA,rfl⟩ : ∃wA,wA=wc:=⟨_,rfl⟩
    go_upto_region 8 with (fail)
    go_upto_region 9 with (go_at_call 91;with_reducible refine(HN2.out _).mono ?_;rintro e w7 ⟨rfl,hb7⟩)
    obtain⟨wB,hwB,hpr,hbx⟩ : ∃wB,w7.alloc (.cells #[.string t2] 9)=wB∧Pr w21.heap.size wB u16 (.slice (some ⟨w7.heap.size,0,none⟩) 1 1) [t1] [t2]∧Zb w21 wB:=by
      have hs7:=hb7.size;have hsA:=HO.out.2.size;refine⟨_,rfl,⟨QC HO.out.1 (bal hb7 _) (Lb _),UX w7 _ rfl (by omega),fun g h1 h2 => ?_⟩,bal (Qa HO.out.2 hb7) _⟩
      have q1:=(Lq HO.out.1 g h1).2;simp only[Value.ownBlock,Option.some.injEq] at h2;omega
    try rw[hwB]
    clear hwB HN2 d0 d1 d2 d3 HO o16;obtain⟨⟨d0,d1,d2,d3⟩,hbw⟩:=HX.out _ hbx
    · skip
      go_upto_region 10 with (go_at_call 45;with_reducible refine(HI1.out _ hbw).mono ?_;rintro e w5 ⟨v5,u5,rfl,p5,hb5⟩)
      obtain⟨⟨f0,f1,f2,f3⟩,hbw5⟩:=HX.out _ (Qa hbx hb5);clear d0 d1 d2 d3
      go_upto_region 11 with (go_at_call 45;with_reducible refine(HI2.out _ hbw5).mono ?_;rintro e w6 ⟨v6,u6,rfl,p6,hb6⟩)
      have hB5:w21.heap.size<=wB.heap.size:=hbx.size;have hB6:wB.heap.size<=w5.heap.size:=hb5.size;have hBw:w21.heap.size<=w6.heap.size:=by have:=hb6.size;omega
      have A1:=Qc (hpr.next (Qa hb5 hb6));have q2:=(Ym hpr.ov (Lb _) p5.ov hb5 hB5).next hb6;have A3:=Qc ((Ym hpr.ov (Lb _) p5.ou hb5 hB5).next hb6);have q4:=Ym hpr.ov hB6 p6.ov (Qa hb5 hb6) (by omega)
      have A5:=Qc (Ym hpr.ov hB6 p6.ou (Qa hb5 hb6) (by omega))
      have C3:=Qc ((Ym hpr.ou (Lb _) p5.ou hb5 hB5).next hb6);have C5:=Qc (Ym hpr.ou hB6 p6.ou (Qa hb5 hb6) (by omega))
      obtain⟨a5,b5,c5,rfl,r5,_,n5⟩:=Qn q2.ou HLn.out.2.1;obtain⟨a6,_,c6,rfl,_⟩:=Qn q4.ou HLn.out.2.2.1;obtain⟨a7,_,c7,rfl,_⟩:=Qn A3.out.ou HLn.out.2.2.2.1;obtain⟨a8,_,c8,rfl,_⟩:=Qn A5.out.ou HLn.out.2.2.2.2;have A2:=Qc (And.intro r5 n5);have A4:=Qc q4;have HW:=Qc (HX.out _ (Qa hbx (Qa hb5 hb6))).2;have hl1:[t1].length+P1.length<=1048576:=by have:=HLn.out.1.1;simp;omega
      have hl2:([t1]++P1).length+P2.length<=1048576:=by have:=HLn.out.1.1;have:=HLn.out.1.2.1;simp;omega
      have hl3:[t2].length+Q1.length<=1048576:=by have:=HLn.out.1.2.2.1;simp;omega
      have hl4:([t2]++Q1).length+Q2.length<=1048576:=by have:=HLn.out.1.2.2.1;have:=HLn.out.1.2.2.2;simp;omega
      have hBF:w.heap.size<=w21.heap.size:=(HX.out w21 (Below.refl _ _)).2.size;clear hpr p5 p6 q2 q4 r5 n5 f0 f1 f2 f3 hbw hbw5 hbx hb5 hb6 HX HI1 HI2
      go_wp2_with (first
        | (at_builtin;refine Qs _ rfl _ _ rfl w21.heap.size _ [t1] rfl A1.out.ov a5 b5 0 P1.length c5 P1 rfl A2.out.1 A2.out.2 hl1 hBw ?_
           intro v9 w9 o9 g9 f9;have D1:=Qc (A1.out.app o9 g9 f9);have D3:=Qc (A3.out.app o9 g9 f9);have D5:=Qc (A5.out.app o9 g9 f9);have hq4:=A4.out.app o9 g9 f9;obtain⟨b6,r6,n6⟩:=Ui hq4.ou HLn.out.2.2.1;have hB9:w21.heap.size<=w9.heap.size:=Lm hBw g9.size;have HW9:=Qc (HW.out.grown g9 HW.out.size (fun b hb=>Lm hBF (Lq A1.out.ov b hb).1))
           have G9:=Qc (And.intro o9 (And.intro r6 n6));clear A1 A2 A3 A4 A5 o9 g9 f9 hq4 r6 n6)
        | (at_builtin;refine Qs _ rfl _ _ rfl w21.heap.size _ ([t1]++P1) rfl G9.out.1 a6 b6 0 P2.length c6 P2 rfl G9.out.2.1 G9.out.2.2 hl2 hB9 ?_
           intro v10 w10 o10 g10 f10;have E1:=Qc (D1.out.app o10 g10 f10);have hq3:=D3.out.app o10 g10 f10;have hq5:=D5.out.app o10 g10 f10;obtain⟨b7,r7,n7⟩:=Ui hq3.ou HLn.out.2.2.2.1;have E5:=Qc (Pr.mk E1.out.ou hq5.ou C5.out.ap);have hB10:w21.heap.size<=w10.heap.size:=Lm hB9 g10.size;have HW10:=Qc (HW9.out.grown g10 HW9.out.size (fun b hb=>Lm hBF (Lq G9.out.1 b hb).1))
           have G10:=Qc (And.intro r7 n7);clear D1 D3 D5 G9 o10 g10 f10 hq3 hq5 r7 n7)
        | (at_builtin;refine Qs _ rfl _ _ rfl w21.heap.size _ [t2] rfl E1.out.ou a7 b7 0 Q1.length c7 Q1 rfl G10.out.1 G10.out.2 hl3 hB10 ?_
           intro v11 w11 o11 g11 f11;have I1:=Qc (E1.out.swap.app o11 g11 f11);have hq5:=E5.out.app o11 g11 f11;obtain⟨b8,r8,n8⟩:=Ui hq5.ou HLn.out.2.2.2.2;have hB11:w21.heap.size<=w11.heap.size:=Lm hB10 g11.size;have HW11:=Qc (HW10.out.grown g11 HW10.out.size (fun b hb=>Lm hBF (Lq E1.out.ou b hb).1))
           have G11:=Qc (And.intro o11 (And.intro r8 n8));clear E1 E5 G10 o11 g11 f11 hq5 r8 n8)
        | (at_builtin;refine Qs _ rfl _ _ rfl w21.heap.size _ ([t2]++Q1) rfl G11.out.1 a8 b8 0 Q2.length c8 Q2 rfl G11.out.2.1 G11.out.2.2 hl4 hB11 ?_
           intro v12 w12 o12 g12 f12;have J1:=Qc (I1.out.app o12 g12 f12);have HW12:=Qc (HW11.out.grown g12 HW11.out.size (fun b hb=>Lm hBF (Lq G11.out.1 b hb).1))))
      exact bodyPost_ret (v := .tuple #[_,_]) (by simp[results,Tryz.results45,go_sem]) rfl ⟨_,_,rfl,Qgl J1.out.swap hBF,HW12.out⟩
theorem QeA(w0:World)(k:Int)(pa:OA)(pn pc:Nat)(A:LB)(ao:OA)(cap:Nat)(K:List He)(M:Nat->Nat->Option Nat)(D:LB)(V:Nat->BA)(HG : ∀h i,(∃e∈K,e.1=(h,i))↔(M h i).isSome=true)(n:Nat):AbC w0 k pa pn pc ao cap A K M D V n 0:=by
 intro i w v0 hb0 hi htl;obtain⟨j,hj⟩:=NM.1 ((HG 0 i).1 ⟨_,htl,rfl⟩);rw[QaN hj,QcM hj];unfold bkV;rw[show((0:Nat):Int)=0 from rfl]
 obtain⟨F,hFe,hbk,hbF⟩:=US w 0 (i:Int);obtain⟨k0,k1⟩:=hbk.cells;clear hi HG htl hj hbk hb0
 go_enter Tryz.func45,Tryz.ntmps45
 go_upto_region 1 with (fail)
 try rw[hFe]
 clear hFe;go_wp2;exact bodyPost_ret (v := .tuple #[.slice none 0 0,.slice none 0 0]) (by simp[results,Tryz.results45,go_sem]) rfl ⟨_,_,rfl,Qdy _ _,hbF⟩
theorem Qfv(w0:World)(ht:Tr w0)(k:Int)(pa:OA)(pb po pc:Nat)(A:LB)(hA:RdS w0 pa pb po A.length A)(hAs : ∀s∈A,s.size<=140737488351232)(hpc:A.length<=pc)(ao:OA)(g cap:Nat)(K:List He)(hR:RdH w0 ao g K.length K)(hm:K.length<=100000000)(hF:Fn K)(hKb : ∀e∈K,e.1.1<=40∧e.1.2<2^40∧e.2.size<=32)(M:Nat->Nat->Option Nat)(D:LB)(V:Nat->BA)(HT : ∀h i v,Tl (clk k) K h i v->xd (clk k) M D V h i=v)(HG : ∀h i,(∃e∈K,e.1=(h,i))↔(M h i).isSome=true)(hxs : ∀h i,(xd (clk k) M D V h i).size<=32)(hV : ∀i,M 0 i=none->(V i).size+1<=9223372036854775807)(n:Nat)(hnA:n<=A.length)(hmA:A.length<=8796093022208)(hn:n<=1000) : ∀h,h<=40->AbC w0 k pa A.length pc ao cap A K M D V n h:=by
 intro h
 induction h with
 | zero=>intro _;exact QeA w0 k pa A.length pc A ao cap K M D V HG n
 | succ h ih=>intro hh;exact QeB w0 ht k pa pb po pc A hA hAs hpc ao g cap K hR hm hF hKb M D V HT HG hxs hV n hnA hmA hn h (by omega) (ih (by omega))
theorem QeS{A B:LB} : (A.length<=B.length∧A.take A.length=B.take A.length)↔A=B.take A.length:=by
 rw[LR]
 constructor
 ·exact fun h=>h.2
 ·intro h;refine⟨?_,h⟩
  have:=congrArg List.length h;rw[Lv] at this;omega
theorem Qln{A B:LB}{j:Nat}(ha:j<A.length)(hb:j<B.length):A.take (j+1)=B.take (j+1)↔A.take j=B.take j∧A.getD j ByteArray.empty=B.getD j ByteArray.empty:=by
 rw[LQ ha,LQ hb,La,Lc ha,La,Lc hb]
 constructor
 ·intro h;have:=List.append_inj' h rfl;exact⟨this.1,by simpa using this.2⟩
 ·rintro⟨h1,h2⟩;rw[h1];simp only[Option.getD_some] at h2;rw[h2]
theorem QaO(w:World)(pa:OA)(pb po pc:Nat)(A:LB)(hA:RdS w pa pb po A.length A)(qa:OA)(qb qo qc:Nat)(B:LB)(hB:RdS w qa qb qo B.length B)(hmA:A.length<=8796093022208)(hmB:B.length<=8796093022208)(r:Bool)(hr:decide (A=B.take A.length)=r) :
  Zr 38 #[.slice pa A.length pc,.slice qa B.length qc] w (.bool r):=by
 have zA:(A.length:Int)<=8796093022208:=by omega
 have zB:(B.length:Int)<=8796093022208:=by omega
 by_cases hAB:A.length<=B.length
 ·have HRd:Hid (∀W,Zb w W->RdS W pa pb po A.length A∧RdS W qa qb qo B.length B):=fun W hb=>⟨hA.next hb (Lb _),hB.next hb (Lb _)⟩
  have H0:Hid (A.take 0=B.take 0∧Zb w w):=⟨by simp,Below.refl _ _⟩
  have HR:=Qc hr;have zAB : ¬(B.length:Int)<(A.length:Int):=by omega
  have HAB:=Qc hAB;clear hA hB hr hmA hmB hAB
  go_enter Tryz.func38,Tryz.ntmps38;go_wp2
  go_loopg [5] A.length (fun g i wr => ∃j:Nat,g=A.length - j∧j<=A.length∧i = .int .i64 (j:Int)∧Hid (A.take j=B.take j∧Zb w wr))
  case atStart =>
   go_light;exact⟨0,rfl,Lf _,rfl,H0⟩
  case round =>
   clear H0;obtain⟨j,rfl,hj,rfl,HI⟩:=hrel
   by_cases hlt:j<A.length
   ·have y0:(0:Int)<=(j:Int):=Le _;have y1:(j:Int)<(A.length:Int):=by omega
    have hjB:j<B.length:=LS hlt HAB.out;have y2:(j:Int)<(B.length:Int):=by omega
    obtain⟨hrA,hrB⟩:=HRd.out wr HI.out.2;obtain rfl:=hrA.ptr (by omega)
    obtain rfl:=hrB.ptr (by omega)
    have ca:=hrA.at hlt;have cb:=hrB.at hjB;have hstep:=Qln (A:=A) (B:=B) hlt hjB;obtain⟨x,hx⟩:=Ze (A.getD j ByteArray.empty);obtain⟨y,hy⟩:=Ze (B.getD j ByteArray.empty);rw[hx] at ca hstep;rw[hy] at cb hstep;have HW1:Hid (∀t,Zb w (wr.drewN t)):=fun t=>Qd HI.out.2 t
    by_cases he:x=y
    ·have HN:Hid (A.take (j+1)=B.take (j+1)):=hstep.2 ⟨HI.out.1,he⟩;subst he;clear hrA hrB hx hy hstep HI
     go_upto_region 6 with (fail)
     go_quiet (fail)
     go_wp2
     go_roundg (A.length - (j+1))
     case rel =>
      go_light;exact⟨j+1,rfl,by omega,by go_num,HN.out,HW1.out _⟩
     case measure=>go_light;omega
    ·obtain rfl:false=r:=by
      rw[<-HR.out];refine(decide_eq_false fun h=>he ?_).symm
      have h2:=congrArg (fun l=>l.getD j ByteArray.empty) h
      simp only[Qkw ByteArray.empty B hlt] at h2;rw[<-hx,<-hy];exact h2
     have hzb:=Yo he;have hz:=YG he;clear hrA hrB hx hy hstep HI he HR
     go_upto_region 6 with (fail)
     go_quiet (fail)
     go_wp2
     go_ret
     exact⟨rfl,HW1.out _⟩
   ·obtain rfl:j=A.length:=by omega
    obtain rfl:true=r:=by
     rw[<-HR.out];exact(decide_eq_true (QeS.1 ⟨HAB.out,HI.out.1⟩)).symm
    have hz1 : ¬(A.length:Int)<(A.length:Int):=by omega
    have hB':=HI.out.2;clear HI hlt hj HR;go_wp2
    go_ret
    exact⟨rfl,hB'⟩
 ·obtain rfl:false=r:=by
   rw[<-hr];exact(decide_eq_false fun h=>hAB (QeS.2 h).1).symm
  have zAB:(B.length:Int)<(A.length:Int):=by omega
  clear hA hB hr hmA hmB hAB
  go_enter Tryz.func38,Tryz.ntmps38;go_wp2
  go_ret
  exact⟨rfl,Below.refl _ _⟩
section
open Cv (cov)
def kinT(c m n:Nat)(old now:LB)(D:LB)(V:Nat->BA):Pq :=
 (tp c m ((Cv.dnL 41 0 m).map fun b=>nd c old b.1 b.2) (D.take (Cv.dnL 41 0 m).length)).or ((wk c n now (ixM (kb m n)) D V (Cv.dnL 41 0 n)).or (wk c m old (fun _ _=>none) [] (fun i=>now.getD i ByteArray.empty) (Cv.dnL 41 0 m)))
theorem Qhg{c n m:Nat}{now D:LB}{V:Nat->BA}{K:List He}{R:LB}{Q:Nat->Prop}(hc:c<=32)(hm:m<=n)(hn:n<=2^40)(T:Tre c n (kb m n) D V Q K R)(h : ∀b∈Cv.dnL 41 0 n,nd c now b.1 b.2=xd c (ixM (kb m n)) D V b.1 b.2∧fp c now (ixM (kb m n)) D V b.1 b.2=none){j:Nat}(hj:j<(kb m n).length):nd c now ((kb m n).getD j (0,0)).1 ((kb m n).getD j (0,0)).2=D.getD j ByteArray.empty:=by
 obtain⟨b,hb⟩:=Ze ((kb m n).getD j (0,0));have hbm:b∈kb m n:=by rw[<-hb];exact Q5 hj
 have hin:=(JZ (JO hm hn) b hbm).2;unfold Pl.pw at hin;have hlt:b.2*2^b.1<n:=by have:=LL b.1;rw[LI,LP] at hin;omega
 obtain⟨A,H,B,wy⟩:=QlV n (b.2*2^b.1) hn hlt;have hi:(b.2*2^b.1) / 2^b.1=b.2:=Ng _ (LL _);have hH:b.1<=H:=Qiv hn wy.top hin rfl hi;obtain⟨h1,h2⟩:=h _ wy.top;have e:b.2 / 2^(H - b.1)=b.2*2^b.1 / 2^H:=by rw[Us hH,hi]
 have key:=(Qeg hc T.lt T.dsz H (b.2*2^b.1 / 2^H) h1 h2 b.1 b.2 hH e (fun t ht _=>QiV hm hn hbm ht)).1
 rw[hb,key];have hx:=Qfo T.nodup hj;rw[hb] at hx;exact Qc4 hx
end
end Go.Proofs.YtdocjikpcbmcgaaGreatDoor
