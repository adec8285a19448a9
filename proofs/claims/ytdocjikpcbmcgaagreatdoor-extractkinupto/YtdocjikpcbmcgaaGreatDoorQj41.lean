/- Own work. -/
import Derived.Test.YtdocjikpcbmcgaaGreatDoorQj40
set_option maxRecDepth 100000
set_option maxHeartbeats 2000000
namespace Go.Proofs.YtdocjikpcbmcgaaGreatDoor
open Go.RowKit
attribute [local go_sem ↓] Go.wp_at_zero Go.wp_at_succ
theorem QcK{c:Nat}{L:LB}{M:Nat->Nat->Option Nat}{N:Nat}(hc:c<=32)(hN:65<=N)(hL : ∀i,(L.getD i ByteArray.empty).size+1<=N) : ∀h k,∀s∈ra c L M h k,s.size<=N:=by
 intro h
 induction h with
 | zero =>
  intro k s hs
  cases e:M 0 k with
  | some j=>rw[QaN e] at hs;cases hs
  | none=>rw[Qa6 e,Id] at hs;subst hs;rw[Yk];have:=hL k;omega
 | succ h ih =>
  intro k s hs
  cases e:M (h+1) k with
  | some j=>rw[QaN e] at hs;cases hs
  | none =>
   rw[Qaa e,LH,Nk] at hs
   rcases hs with rfl|hs|hs
   ·rw[Yx,QD hc,QD hc];omega
   ·exact ih _ s hs
   ·exact ih _ s hs
theorem QcN{c:Nat}{M:Nat->Nat->Option Nat}{D:LB}{V:Nat->BA}{N:Nat}(hx : ∀h k,(xd c M D V h k).size<=32)(hN:65<=N)(hV : ∀k,M 0 k=none->(V k).size+1<=N) : ∀h k,∀s∈rb c M D V h k,s.size<=N:=by
 intro h
 induction h with
 | zero =>
  intro k s hs
  cases e:M 0 k with
  | some j=>rw[QcM e] at hs;cases hs
  | none=>rw[Qdz e,Id] at hs;subst hs;rw[Yk];have:=hV k e;omega
 | succ h ih =>
  intro k s hs
  cases e:M (h+1) k with
  | some j=>rw[QcM e] at hs;cases hs
  | none =>
   rw[Qa7 e,LH,Nk] at hs
   rcases hs with rfl|hs|hs
   ·have h1:=hx h (2*k);have h2:=hx h (2*k+1);rw[Yx];omega
   ·exact ih _ s hs
   ·exact ih _ s hs
theorem Ym{B s:Nat}{w1 w2:World}{a x:Value}{PA L:LB}(ho:Qk w1 B a PA)(hs:w1.heap.size<=s)(hx:Qk w2 s x L)(hb:Zb w1 w2)(hBs:B<=s):Pr B w2 a x PA L :=
 ⟨QC ho hb (Lb _),World.ownsRow.mono hx hBs,fun g h1 h2=>by have:=(Lq ho g h1).2;have:=(Lq hx g h2).1;omega⟩
theorem Qgl{B B':Nat}{w:World}{v u:Value}{P Q:LB}(h:Pr B w v u P Q)(hB:B'<=B):Pr B' w v u P Q:=⟨World.ownsRow.mono h.ov hB,World.ownsRow.mono h.ou hB,h.ap⟩
theorem Ui{w:World}{B n cap:Nat}{ao:OA}{L:LB}(h:Qk w B (.slice ao n cap) L)(hs : ∀s∈L,s.size<=9223372036854775807) : ∃b,RdS w ao b 0 L.length L∧(ao=none->cap=0):=by
 obtain⟨ao',b,cap',e,r,_,hn⟩:=Qn h hs;injection e with e1 e2 e3
 subst e1 e2 e3;exact⟨b,r,hn⟩
theorem Qfz(w0:World)(ht:Tr w0)(k:Int)(pa:OA)(pb po pc:Nat)(A:LB)(hA:RdS w0 pa pb po A.length A)(hAs : ∀s∈A,s.size<=140737488351232)(hpc:A.length<=pc)(qa:OA)(qb qo qc:Nat)(B:LB)(hB:RdS w0 qa qb qo B.length B)(hBs : ∀s∈B,s.size<=140737488351232)(hqc:B.length<=qc)(n:Nat)(hnA:n<=A.length)(hnB:n<=B.length)(hmA:A.length<=8796093022208)(hmB:B.length<=8796093022208)(hn:n<=1000)(h:Nat)(hh:h<40)(IH:BoC w0 k pa A.length pc qa B.length qc A B n h):BoC w0 k pa A.length pc qa B.length qc A B n (h+1):=by
  intro i w hb0 hi;have hc:=Qx k;have hi1:(2*i+1+1)*2^h<=n:=by
    have e:(i+1)*2^(h+1)=(2*i+1+1)*2^h:=by rw[LA,show 2*i+1+1=2*(i+1) by omega,LY 2 (i+1),L4,LY 2]
    rw[<-e];exact hi
  have hi0:(2*i+1)*2^h<=n:=Lm (Lo _ (by omega)) hi1
  have hp2:2^h<=1000:=by have:=Lo (2^h) (show 1<=2*i+1 by omega);omega
  have hib:i<1000:=by have:=NT (2*i+1) (Ie (n:=h));omega
  obtain⟨x1,hx1⟩:=Ze (nd (clk k) A h (2*i));obtain⟨x2,hx2⟩:=Ze (nd (clk k) A h (2*i+1));obtain⟨y1,hy1⟩:=Ze (nd (clk k) B h (2*i));obtain⟨y2,hy2⟩:=Ze (nd (clk k) B h (2*i+1));have sx1:x1.size<=32:=by rw[<-hx1,QD hc];exact hc
  have sx2:x2.size<=32:=by rw[<-hx2,QD hc];exact hc
  have sy1:y1.size<=32:=by rw[<-hy1,QD hc];exact hc
  have sy2:y2.size<=32:=by rw[<-hy2,QD hc];exact hc
  obtain⟨t1,ht1⟩:=Ze (QE x1 x2);obtain⟨t2,ht2⟩:=Ze (QE y1 y2);have c2:((2*i:Nat):Int)=2*(i:Int):=by omega
  have c3:((2*i+1:Nat):Int)=2*(i:Int)+1:=by omega
  have HA1:Hid (∀W,Zb w W->Zr 92 #[.int .i64 k,.slice pa A.length pc,.agg #[.int .i64 (h:Int),.int .u64 (2*(i:Int))]] W (.string x1)):=fun W hb=>by
    have:=Oi W (ht.next (Qa hb0 hb)) k pa pb po pc A (hA.next (Qa hb0 hb) (Lb _)) hAs hmA hpc h (2*i) (by omega) (by omega) x1 hx1
    unfold bkV at this;rwa [c2] at this
  have HA2:Hid (∀W,Zb w W->Zr 92 #[.int .i64 k,.slice pa A.length pc,.agg #[.int .i64 (h:Int),.int .u64 (2*(i:Int)+1)]] W (.string x2)):=fun W hb=>by
    have:=Oi W (ht.next (Qa hb0 hb)) k pa pb po pc A (hA.next (Qa hb0 hb) (Lb _)) hAs hmA hpc h (2*i+1) (by omega) (by omega) x2 hx2
    unfold bkV at this;rwa [c3] at this
  have HB1:Hid (∀W,Zb w W->Zr 92 #[.int .i64 k,.slice qa B.length qc,.agg #[.int .i64 (h:Int),.int .u64 (2*(i:Int))]] W (.string y1)):=fun W hb=>by
    have:=Oi W (ht.next (Qa hb0 hb)) k qa qb qo qc B (hB.next (Qa hb0 hb) (Lb _)) hBs hmB hqc h (2*i) (by omega) (by omega) y1 hy1
    unfold bkV at this;rwa [c2] at this
  have HB2:Hid (∀W,Zb w W->Zr 92 #[.int .i64 k,.slice qa B.length qc,.agg #[.int .i64 (h:Int),.int .u64 (2*(i:Int)+1)]] W (.string y2)):=fun W hb=>by
    have:=Oi W (ht.next (Qa hb0 hb)) k qa qb qo qc B (hB.next (Qa hb0 hb) (Lb _)) hBs hmB hqc h (2*i+1) (by omega) (by omega) y2 hy2
    unfold bkV at this;rwa [c3] at this
  have HN1:Hid (∀W,Zr 91 #[.string x1,.string x2] W (.string t1)):=fun W=>by rw[<-ht1];exact YX W x1 x2 (by omega) (by omega)
  have HN2:Hid (∀W,Zr 91 #[.string y1,.string y2] W (.string t2)):=fun W=>by rw[<-ht2];exact YX W y1 y2 (by omega) (by omega)
  obtain⟨P1,hP1⟩:=Ze (ra (clk k) A (fun _ _=>none) h (2*i))
  obtain⟨P2,hP2⟩:=Ze (ra (clk k) A (fun _ _=>none) h (2*i+1))
  obtain⟨Q1,hQ1⟩:=Ze (rb (clk k) (fun _ _=>none) [] (fun j=>B.getD j ByteArray.empty) h (2*i))
  obtain⟨Q2,hQ2⟩:=Ze (rb (clk k) (fun _ _=>none) [] (fun j=>B.getD j ByteArray.empty) h (2*i+1))
  have HI1:Hid (∀W,Zb w W->Calls Tryz.prog 46 #[.int .i64 k,.slice pa A.length pc,.slice qa B.length qc,.agg #[.int .i64 (h:Int),.int .u64 (2*(i:Int))]] W fun e w' => ∃v u,e = .returned (.tuple #[v,u])∧Pr W.heap.size w' v u P1 Q1∧Zb W w'):=fun W hb=>by
    have:=IH (2*i) W (Qa hb0 hb) hi0;rw[hP1,hQ1] at this;unfold bkV at this;rwa [c2] at this
  have HI2:Hid (∀W,Zb w W->Calls Tryz.prog 46 #[.int .i64 k,.slice pa A.length pc,.slice qa B.length qc,.agg #[.int .i64 (h:Int),.int .u64 (2*(i:Int)+1)]] W fun e w' => ∃v u,e = .returned (.tuple #[v,u])∧Pr W.heap.size w' v u P2 Q2∧Zb W w'):=fun W hb=>by
    have:=IH (2*i+1) W (Qa hb0 hb) hi1;rw[hP2,hQ2] at this;unfold bkV at this;rwa [c3] at this
  have e1:ra (clk k) A (fun _ _=>none) (h+1) i=([t1]++P1)++P2:=by rw[Qaa rfl,hx1,hx2,ht1,hP1,hP2];simp
  have e2:rb (clk k) (fun _ _=>none) [] (fun j=>B.getD j ByteArray.empty) (h+1) i=([t2]++Q1)++Q2:=by rw[Qa7 rfl,Qc5,Qc5,hy1,hy2,ht2,hQ1,hQ2];simp
  have hl2:2^(h+1)<=2000:=by rw[LA];omega
  have HLn:Hid ((P1.length<=2000∧P2.length<=2000∧Q1.length<=2000∧Q2.length<=2000)∧(∀s∈P1,s.size<=9223372036854775807)∧(∀s∈P2,s.size<=9223372036854775807)∧(∀s∈Q1,s.size<=9223372036854775807)∧(∀s∈Q2,s.size<=9223372036854775807)):=by
    have a1:=Qay (clk k) A (fun _ _=>none) h (2*i)
    have a2:=Qay (clk k) A (fun _ _=>none) h (2*i+1)
    have b1:=(rab (clk k) A (fun _ _=>none) [] (fun j=>B.getD j ByteArray.empty) h (2*i)).1
    have b2:=(rab (clk k) A (fun _ _=>none) [] (fun j=>B.getD j ByteArray.empty) h (2*i+1)).1
    rw[hP1] at a1;rw[hP2] at a2;rw[hP1,hQ1] at b1;rw[hP2,hQ2] at b2;have sA : ∀j,(A.getD j ByteArray.empty).size+1<=9223372036854775807:=fun j=>by have:=Oe hAs j;omega
    have sB : ∀j,(B.getD j ByteArray.empty).size+1<=9223372036854775807:=fun j=>by have:=Oe hBs j;omega
    refine⟨⟨by omega,by omega,by omega,by omega⟩,?_,?_,?_,?_⟩
    · rw[<-hP1];exact QcK hc (by decide) sA _ _
    · rw[<-hP2];exact QcK hc (by decide) sA _ _
    · rw[<-hQ1];exact QcN (fun h k=>by rw[Qc5,QD hc];exact hc) (by decide) (fun k _=>sB k) _ _
    · rw[<-hQ2];exact QcN (fun h k=>by rw[Qc5,QD hc];exact hc) (by decide) (fun k _=>sB k) _ _
  rw[e1,e2];unfold bkV;rw[show((h+1:Nat):Int)=(h:Int)+1 by omega]
  have zw1:IntKind.i64.wrap ((h:Int)+1 - 1)=(h:Int):=by rw[LW];omega
  have zw2:IntKind.u64.wrap (2*(i:Int))=2*(i:Int):=by rw[IntKind.wrap_u64];omega
  have zw3:IntKind.u64.wrap (2*(i:Int)+1)=2*(i:Int)+1:=by rw[IntKind.wrap_u64];omega
  have z0 : ¬(h:Int)+1=0:=by omega
  have zi:(i:Int)<1000:=by omega
  have zi0:(0:Int)<=(i:Int):=Le _;have zh:(h:Int)<40:=by omega
  have zh0:(0:Int)<=(h:Int):=Le _;obtain⟨F,hFe,hbk,hbF⟩:=US w ((h:Int)+1) (i:Int);obtain⟨F1,hF1e,hbk1,hbF1⟩:=US F (h:Int) (2*(i:Int));obtain⟨F2,hF2e,hbk2,hbF2⟩:=US F1 (h:Int) (2*(i:Int)+1);clear hA hB hAs hBs hx1 hx2 hy1 hy2 sx1 sx2 sy1 sy2 ht1 ht2 hP1 hP2 hQ1 hQ2 e1 e2 hmA hmB hnA hnB hi hi0 hi1 IH hp2 hl2 c2 c3 hc ht hpc hqc hn;obtain⟨k0,k1⟩:=hbk.cells
  go_enter Tryz.func46,Tryz.ntmps46
  go_upto_region 1 with (fail)
  try rw[hFe]
  clear hFe
  go_upto_region 4 with (fail)
  try rw[hF1e]
  clear hF1e;obtain⟨k2,k3⟩:=(hbk.next hbF1).cells
  go_upto_region 5 with (fail)
  try rw[hF2e]
  clear hF2e;have HX:Hid (∀V,Zb F2 V->(V.cell? ⟨F.heap.size,0,none⟩=some (.int .i64 (h:Int))∧V.cell? ⟨F.heap.size,1,none⟩=some (.int .u64 (2*(i:Int)))∧V.cell? ⟨F1.heap.size,0,none⟩=some (.int .i64 (h:Int))∧V.cell? ⟨F1.heap.size,1,none⟩=some (.int .u64 (2*(i:Int)+1)))∧Zb w V):=fun V hb=>by
    obtain⟨a0,a1⟩:=(hbk1.next (Qa hbF2 hb)).cells;obtain⟨b0,b1⟩:=(hbk2.next hb).cells;exact⟨⟨a0,a1,b0,b1⟩,Qa (Qa (Qa hbF hbF1) hbF2) hb⟩
  clear hbk hbk1 hbk2 hbF hbF1 hbF2 k0 k1 k2 k3 hb0;obtain⟨⟨d0,d1,d2,d3⟩,_⟩:=HX.out F2 (Below.refl _ _)
  go_cut [12] from 50 to 59 (fun v wx=>Hid (Qk wx F2.heap.size v [t1]∧Zb F2 wx))
  case first =>
    go_region_held3 (fun V=>V.cell? ⟨F.heap.size,0,none⟩=some (.int .i64 (h:Int))∧V.cell? ⟨F.heap.size,1,none⟩=some (.int .u64 (2*(i:Int)))∧V.cell? ⟨F1.heap.size,0,none⟩=some (.int .i64 (h:Int))∧V.cell? ⟨F1.heap.size,1,none⟩=some (.int .u64 (2*(i:Int)+1)))
      (with_reducible exact(HX.out _ (by with_reducible repeat first|exact Below.refl _ _|refine Below.drew ?_|refine bal ?_ _|refine Qa ?_ hb5|refine Qa ?_ hb6|refine Qa ?_ hb7)).1)
      (first
        | (go_at_call 92;with_reducible refine(HA1.out _ (HX.out _ (by with_reducible repeat first|exact Below.refl _ _|refine Below.drew ?_|refine bal ?_ _|refine Qa ?_ hb5|refine Qa ?_ hb6|refine Qa ?_ hb7)).2).mono ?_;rintro e w5 ⟨rfl,hb5⟩)
        | (go_at_call 92;with_reducible refine(HA2.out _ (HX.out _ (by with_reducible repeat first|exact Below.refl _ _|refine Below.drew ?_|refine bal ?_ _|refine Qa ?_ hb5|refine Qa ?_ hb6|refine Qa ?_ hb7)).2).mono ?_;rintro e w6 ⟨rfl,hb6⟩)
        | (go_at_call 91;with_reducible refine(HN1.out _).mono ?_;rintro e w7 ⟨rfl,hb7⟩))
    all_goals
      go_wp2
      go_meet
      case rel =>
        go_light;have hs7:=(by with_reducible repeat first|exact Below.refl _ _|refine Below.drew ?_|refine bal ?_ _|refine Qa ?_ hb5|refine Qa ?_ hb6|refine Qa ?_ hb7:Zb F2 w7).size
        exact Qc ⟨UX w7 _ rfl hs7,by with_reducible repeat first|exact Below.refl _ _|refine Below.drew ?_|refine bal ?_ _|refine Qa ?_ hb5|refine Qa ?_ hb6|refine Qa ?_ hb7⟩
  case rest =>
    clear HA1 HA2 HN1 d0 d1 d2 d3;obtain⟨o12,hbx⟩:=hcut.out;have HO:=Qc hcut.out;clear hcut;obtain⟨⟨d0,d1,d2,d3⟩,_⟩:=HX.out _ hbx;obtain⟨wA,rfl⟩ : ∃wA,wA=wc:=⟨_,rfl⟩
    go_upto_region 6 with (fail)
    go_cut [13] from 60 to 69 (fun u wx=>Hid (Pr F2.heap.size wx u12 u [t1] [t2]∧Zb F2 wx))
    case first =>
      go_region_held3 (fun V=>V.cell? ⟨F.heap.size,0,none⟩=some (.int .i64 (h:Int))∧V.cell? ⟨F.heap.size,1,none⟩=some (.int .u64 (2*(i:Int)))∧V.cell? ⟨F1.heap.size,0,none⟩=some (.int .i64 (h:Int))∧V.cell? ⟨F1.heap.size,1,none⟩=some (.int .u64 (2*(i:Int)+1)))
        (with_reducible exact(HX.out _ (Qa HO.out.2 (by with_reducible repeat first|exact Below.refl _ _|refine Below.drew ?_|refine bal ?_ _|refine Qa ?_ hb5|refine Qa ?_ hb6|refine Qa ?_ hb7))).1)
        (first
          | (go_at_call 92;with_reducible refine(HB1.out _ (HX.out _ (Qa HO.out.2 (by with_reducible repeat first|exact Below.refl _ _|refine Below.drew ?_|refine bal ?_ _|refine Qa ?_ hb5|refine Qa ?_ hb6|refine Qa ?_ hb7))).2).mono ?_;rintro e w5 ⟨rfl,hb5⟩)
          | (go_at_call 92;with_reducible refine(HB2.out _ (HX.out _ (Qa HO.out.2 (by with_reducible repeat first|exact Below.refl _ _|refine Below.drew ?_|refine bal ?_ _|refine Qa ?_ hb5|refine Qa ?_ hb6|refine Qa ?_ hb7))).2).mono ?_;rintro e w6 ⟨rfl,hb6⟩)
          | (go_at_call 91;with_reducible refine(HN2.out _).mono ?_;rintro e w7 ⟨rfl,hb7⟩))
      all_goals
        go_wp2
        go_meet
        case rel =>
          go_light;have hz7:Zb wA w7:=by with_reducible repeat first|exact Below.refl _ _|refine Below.drew ?_|refine bal ?_ _|refine Qa ?_ hb5|refine Qa ?_ hb6|refine Qa ?_ hb7
          have hs7:=hz7.size;have hsA:=HO.out.2.size;refine Qc ⟨⟨QC HO.out.1 (by with_reducible repeat first|exact Below.refl _ _|refine Below.drew ?_|refine bal ?_ _|refine Qa ?_ hb5|refine Qa ?_ hb6|refine Qa ?_ hb7) (Lb _),UX w7 _ rfl (by omega),fun g h1 h2 => ?_⟩,Qa HO.out.2 (by with_reducible repeat first|exact Below.refl _ _|refine Below.drew ?_|refine bal ?_ _|refine Qa ?_ hb5|refine Qa ?_ hb6|refine Qa ?_ hb7)⟩
          have q1:=(Lq HO.out.1 g h1).2;simp only[Value.ownBlock,Option.some.injEq] at h2;omega
    case rest =>
      clear HB1 HB2 HN2 d0 d1 d2 d3 HO o12 hbx;obtain⟨hpr,hbx⟩:=hcut.out;have HO:=Qc hcut.out;clear hcut;obtain⟨⟨d0,d1,d2,d3⟩,hbw⟩:=HX.out _ hbx;obtain⟨wB,rfl⟩ : ∃wB,wB=wc:=⟨_,rfl⟩
      go_upto_region 8 with (go_at_call 46;with_reducible refine(HI1.out _ hbw).mono ?_;rintro e w5 ⟨v5,u5,rfl,p5,hb5⟩)
      obtain⟨⟨f0,f1,f2,f3⟩,hbw5⟩:=HX.out _ (Qa hbx hb5);clear d0 d1 d2 d3
      go_upto_region 9 with (go_at_call 46;with_reducible refine(HI2.out _ hbw5).mono ?_;rintro e w6 ⟨v6,u6,rfl,p6,hb6⟩)
      have hB5:F2.heap.size<=wB.heap.size:=hbx.size;have hB6:wB.heap.size<=w5.heap.size:=hb5.size;have hBw:F2.heap.size<=w6.heap.size:=by have:=hb6.size;omega
      have A1:=Qc (hpr.next (Qa hb5 hb6));have q2:=(Ym hpr.ov (Lb _) p5.ov hb5 hB5).next hb6;have A3:=Qc ((Ym hpr.ov (Lb _) p5.ou hb5 hB5).next hb6);have q4:=Ym hpr.ov hB6 p6.ov (Qa hb5 hb6) (by omega)
      have A5:=Qc (Ym hpr.ov hB6 p6.ou (Qa hb5 hb6) (by omega))
      have C3:=Qc ((Ym hpr.ou (Lb _) p5.ou hb5 hB5).next hb6);have C5:=Qc (Ym hpr.ou hB6 p6.ou (Qa hb5 hb6) (by omega))
      obtain⟨a5,b5,c5,rfl,r5,_,n5⟩:=Qn q2.ou HLn.out.2.1;obtain⟨a6,_,c6,rfl,_⟩:=Qn q4.ou HLn.out.2.2.1;obtain⟨a7,_,c7,rfl,_⟩:=Qn A3.out.ou HLn.out.2.2.2.1;obtain⟨a8,_,c8,rfl,_⟩:=Qn A5.out.ou HLn.out.2.2.2.2;have A2:=Qc (And.intro r5 n5);have A4:=Qc q4;have HW:=Qc (HX.out _ (Qa hbx (Qa hb5 hb6))).2;have hl1:[t1].length+P1.length<=1048576:=by have:=HLn.out.1.1;simp;omega
      have hl2:([t1]++P1).length+P2.length<=1048576:=by have:=HLn.out.1.1;have:=HLn.out.1.2.1;simp;omega
      have hl3:[t2].length+Q1.length<=1048576:=by have:=HLn.out.1.2.2.1;simp;omega
      have hl4:([t2]++Q1).length+Q2.length<=1048576:=by have:=HLn.out.1.2.2.1;have:=HLn.out.1.2.2.2;simp;omega
      have hBF:w.heap.size<=F2.heap.size:=(HX.out F2 (Below.refl _ _)).2.size;clear hpr p5 p6 q2 q4 r5 n5 f0 f1 f2 f3 hbw hbw5 hbx hb5 hb6 HX HI1 HI2 HO
      go_wp2_with (first
        | (at_builtin;refine Qs _ rfl _ _ rfl F2.heap.size _ [t1] rfl A1.out.ov a5 b5 0 P1.length c5 P1 rfl A2.out.1 A2.out.2 hl1 hBw ?_
           intro v9 w9 o9 g9 f9;have D1:=Qc (A1.out.app o9 g9 f9);have D3:=Qc (A3.out.app o9 g9 f9);have D5:=Qc (A5.out.app o9 g9 f9);have hq4:=A4.out.app o9 g9 f9;obtain⟨b6,r6,n6⟩:=Ui hq4.ou HLn.out.2.2.1;have hB9:F2.heap.size<=w9.heap.size:=Lm hBw g9.size;have HW9:=Qc (HW.out.grown g9 HW.out.size (fun b hb=>Lm hBF (Lq A1.out.ov b hb).1))
           have G9:=Qc (And.intro o9 (And.intro r6 n6));clear A1 A2 A3 A4 A5 o9 g9 f9 hq4 r6 n6)
        | (at_builtin;refine Qs _ rfl _ _ rfl F2.heap.size _ ([t1]++P1) rfl G9.out.1 a6 b6 0 P2.length c6 P2 rfl G9.out.2.1 G9.out.2.2 hl2 hB9 ?_
           intro v10 w10 o10 g10 f10;have E1:=Qc (D1.out.app o10 g10 f10);have hq3:=D3.out.app o10 g10 f10;have hq5:=D5.out.app o10 g10 f10;obtain⟨b7,r7,n7⟩:=Ui hq3.ou HLn.out.2.2.2.1;have E5:=Qc (Pr.mk E1.out.ou hq5.ou C5.out.ap);have hB10:F2.heap.size<=w10.heap.size:=Lm hB9 g10.size;have HW10:=Qc (HW9.out.grown g10 HW9.out.size (fun b hb=>Lm hBF (Lq G9.out.1 b hb).1))
           have G10:=Qc (And.intro r7 n7);clear D1 D3 D5 G9 o10 g10 f10 hq3 hq5 r7 n7)
        | (at_builtin;refine Qs _ rfl _ _ rfl F2.heap.size _ [t2] rfl E1.out.ou a7 b7 0 Q1.length c7 Q1 rfl G10.out.1 G10.out.2 hl3 hB10 ?_
           intro v11 w11 o11 g11 f11;have I1:=Qc (E1.out.swap.app o11 g11 f11);have hq5:=E5.out.app o11 g11 f11;obtain⟨b8,r8,n8⟩:=Ui hq5.ou HLn.out.2.2.2.2;have hB11:F2.heap.size<=w11.heap.size:=Lm hB10 g11.size;have HW11:=Qc (HW10.out.grown g11 HW10.out.size (fun b hb=>Lm hBF (Lq E1.out.ou b hb).1))
           have G11:=Qc (And.intro o11 (And.intro r8 n8));clear E1 E5 G10 o11 g11 f11 hq5 r8 n8)
        | (at_builtin;refine Qs _ rfl _ _ rfl F2.heap.size _ ([t2]++Q1) rfl G11.out.1 a8 b8 0 Q2.length c8 Q2 rfl G11.out.2.1 G11.out.2.2 hl4 hB11 ?_
           intro v12 w12 o12 g12 f12;have J1:=Qc (I1.out.app o12 g12 f12);have HW12:=Qc (HW11.out.grown g12 HW11.out.size (fun b hb=>Lm hBF (Lq G11.out.1 b hb).1))))
      exact bodyPost_ret (v := .tuple #[_,_]) (by simp[results,Tryz.results46,go_sem]) rfl ⟨_,_,rfl,Qgl J1.out.swap hBF,HW12.out⟩
theorem QhA(w0:World)(ht:Tr w0)(k:Int)(pa:OA)(pb po pc:Nat)(A:LB)(hA:RdS w0 pa pb po A.length A)(hAs : ∀s∈A,s.size<=140737488351232)(hpc:A.length<=pc)(qa:OA)(qb qo qc:Nat)(B:LB)(hB:RdS w0 qa qb qo B.length B)(hBs : ∀s∈B,s.size<=140737488351232)(hqc:B.length<=qc)(n:Nat)(hnA:n<=A.length)(hnB:n<=B.length)(hmA:A.length<=8796093022208)(hmB:B.length<=8796093022208)(hn:n<=1000) : ∀h,h<=40->BoC w0 k pa A.length pc qa B.length qc A B n h:=by
 intro h
 induction h with
 | zero=>intro _;exact Qfy w0 k pa pb po pc A hA hAs qa qb qo qc B hB hBs n hnA hnB hmA hmB
 | succ h ih=>intro hh;exact Qfz w0 ht k pa pb po pc A hA hAs hpc qa qb qo qc B hB hBs hqc n hnA hnB hmA hmB hn h (by omega) (ih (by omega))
theorem Qi3{a b c d:Nat}(h:(a,b)≠(c,d)) : ¬((a:Int)=(c:Int)∧(b:Int)=(d:Int)):=fun⟨h1,h2⟩=>h (by rw[show a=c by omega,show b=d by omega])
theorem Qb3(w:World)(h i:Nat)(ao:OA)(g cap:Nat)(K:List He)(hR:RdH w ao g K.length K)(hm:K.length<=100000000)(r:Bool)(hr:decide (∃e∈K,e.1=(h,i))=r) :
  Zr 90 #[bkV h i,.slice ao K.length cap] w (.bool r):=by
 unfold bkV;obtain⟨F,hFe,hbk,hbF⟩:=US w (h:Int) (i:Int);have HX:Hid (∀V,Zb F V->(V.cell? ⟨w.heap.size,0,none⟩=some (.int .i64 (h:Int))∧V.cell? ⟨w.heap.size,1,none⟩=some (.int .u64 (i:Int)))∧RdH V ao g K.length K∧Zb w V):=fun V hb=>⟨(hbk.next hb).cells,hR.next (Qa hbF hb),Qa hbF hb⟩
 have HR:=Qc hr;have H0:Hid ((∀e∈K.take 0,e.1≠(h,i))∧Zb F F):=⟨fun e he=>(by simp at he),Below.refl _ _⟩
 have zm:(K.length:Int)<=100000000:=by omega
 clear hR hm hr hbk hbF
 go_enter Tryz.func90,Tryz.ntmps90
 go_upto_region 1 with (fail)
 try rw[hFe]
 clear hFe;go_wp2
 go_loopg [5] K.length (fun t x wr => ∃j:Nat,t=K.length - j∧j<=K.length∧x = .int .i64 (j:Int)∧Hid ((∀e∈K.take j,e.1≠(h,i))∧Zb F wr))
 case atStart =>
  go_light;exact⟨0,rfl,Lf _,rfl,H0⟩
 case round =>
  clear H0;obtain⟨j,rfl,hj,rfl,HI⟩:=hrel
  by_cases hlt:j<K.length
  ·have z0:(0:Int)<=(j:Int):=Le _;have z1:(j:Int)<(K.length:Int):=by omega
   obtain⟨⟨d0,d1⟩,hrd,_⟩:=HX.out wr HI.out.2;obtain rfl:=hrd.addr (by omega)
   obtain⟨c0,c1,_⟩:=hrd.cell j hlt;obtain⟨e,he⟩:=Ze (K.getD j dH);rw[he] at c0 c1;have hem:e∈K:=by rw[<-he,La,Lc hlt];exact LO _
   have htk:K.take (j+1)=K.take j++[e]:=by rw[LQ hlt,<-he,La,Lc hlt];rfl
   obtain⟨⟨eh,ek⟩,ed⟩:=e;simp only at c0 c1;have HW1:Hid (∀t,Zb F (wr.drewN t)):=fun t=>Qd HI.out.2 t
   by_cases hq:(eh,ek)=(h,i)
   ·obtain⟨rfl,rfl⟩:=Prod.mk.inj hq;obtain rfl:true=r:=by rw[<-HR.out];exact(decide_eq_true ⟨_,hem,rfl⟩).symm
    clear hrd he hem htk HI HR
    go_upto_region 4 with (fail)
    go_quiet (fail)
    go_wp2
    go_ret
    exact⟨rfl,(HX.out _ (HW1.out _)).2.2⟩
   ·have hne:=Qi3 hq;have HN:Hid (∀e∈K.take (j+1),e.1≠(h,i)):=fun e he=>by
     rw[htk,Nk,Id] at he
     rcases he with he|rfl
     ·exact HI.out.1 e he
     ·exact hq
    by_cases hq1:eh=h
    ·subst hq1;have hz : ¬(ek:Int)=(i:Int):=fun e=>hne ⟨rfl,e⟩
     have hzb:((ek:Int) == (i:Int))=false:=by simpa using hz
     clear hrd he hem htk HI HR hq hne
     go_upto_region 4 with (fail)
     go_quiet (fail)
     go_wp2
     go_roundg (K.length - (j+1))
     case rel =>
      go_light;exact⟨j+1,rfl,by omega,by go_num,HN.out,HW1.out _⟩
     case measure=>go_light;omega
    ·have hz : ¬(eh:Int)=(h:Int):=by omega
     have hzb:((eh:Int) == (h:Int))=false:=by simpa using hz
     clear hrd he hem htk HI HR hq hne
     go_upto_region 4 with (fail)
     go_quiet (fail)
     go_wp2
     go_roundg (K.length - (j+1))
     case rel =>
      go_light;exact⟨j+1,rfl,by omega,by go_num,HN.out,HW1.out _⟩
     case measure=>go_light;omega
  ·obtain rfl:j=K.length:=by omega
   have hz1 : ¬(K.length:Int)<(K.length:Int):=by omega
   obtain rfl:false=r:=by
    rw[<-HR.out];refine(decide_eq_false fun⟨e,he,h1⟩ => ?_).symm
    have:=HI.out.1 e (by rw[LR];exact he)
    exact this h1
   have hB':=(HX.out _ HI.out.2).2.2;clear HI HR hlt hj;go_wp2
   go_ret
   exact⟨rfl,hB'⟩
end Go.Proofs.YtdocjikpcbmcgaaGreatDoor
