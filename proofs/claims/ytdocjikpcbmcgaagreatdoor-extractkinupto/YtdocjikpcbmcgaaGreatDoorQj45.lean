/- Own work. -/
import Derived.Test.YtdocjikpcbmcgaaGreatDoorQj44
set_option maxRecDepth 100000
set_option maxHeartbeats 4000000
namespace Go.Proofs.YtdocjikpcbmcgaaGreatDoor
open Go.RowKit
attribute [local go_sem ↓] Go.wp_at_zero Go.wp_at_succ
section
open Cv (zl)
theorem QcE{w w':World}{B:Nat}{v u:Value}{L:LB}{l:List (Int×Nat)}(ho:Qk w B v L)(hB:Cv.Qz w B u l)(g:w.grownBy w' v.ownBlock):Cv.Qz w' B u l :=
 Qj hB fun b hb _=>g.block b (Lq hB b hb).2 fun e=>Qk7 hB ho (by decide) hb e.symm
theorem Jk{f:Nat×Nat->LB}{N:List (Nat×Nat)}{j:Nat}(hj:j<N.length):(N.take (j+1)).flatMap f=(N.take j).flatMap f++f (N.getD j (0,0)):=by
 rw[Qcg (0,0) N j hj,NR];simp
theorem YM{f:Nat×Nat->LB}{N:List (Nat×Nat)}{m:Nat}(h : ∀b∈N,(f b).length<=m):(N.flatMap f).length<=N.length*m:=by
 induction N with
 | nil=>simp
 | cons b N ih =>
  have h1:=ih (fun x hx=>h x (LX _ hx))
  have h2:=h b (Nq ..);rw[NP,Ld,Lu,Nat.succ_mul];omega
theorem OU{f:Nat×Nat->LB}{N:List (Nat×Nat)}{m:Nat}(h : ∀b∈N,∀x∈f b,x.size<=m) : ∀x∈N.flatMap f,x.size<=m:=fun x hx=>by
 obtain⟨b,hb,hx⟩:=List.mem_flatMap.1 hx;exact h b hb x hx
section
variable (w:World) (k:Int) (pa:OA) (pn pc:Nat) (qa:OA) (qn qc:Nat) (hp:pn<=1000) (hq:qn<=1000) (s:BA) (c1 c2:BA)
  (HRA:Hid (∀W,Zb w W->Zr 9 #[.int .i64 k,.slice pa pn pc,.int .u64 (pn:Int)] W (.tuple #[.agg #[.int .u64 (pn:Int),.string c1],.int .i64 0])))
  (HRB:Hid (∀W,Zb w W->Zr 9 #[.int .i64 k,.slice qa qn qc,.int .u64 (qn:Int)] W (.tuple #[.agg #[.int .u64 (qn:Int),.string c2],.int .i64 0])))
include hp hq HRA HRB
theorem rk_not (old size:Nat) (M R N:List (Nat×Nat)) (D R1 R2 R3 X1 Y1 X2 Y2:LB) (fA fB gA gB:Nat×Nat->LB)
    (hD:D.length=M.length+R.length) (hM:M.length<=41) (hR:R.length<=200) (hN:N.length<=41)
    (hfN : ∀b∈N,(b.2+1)*2^b.1<=2^40)
    (hs1 : ∀x∈R1,x.size<=9223372036854775807) (hs2 : ∀x∈R2,x.size<=9223372036854775807) (hs3 : ∀x∈R3,x.size<=9223372036854775807)
    (hx1:(∀x∈X1,x.size<=9223372036854775807)∧X1.length<=100) (hy1:(∀x∈Y1,x.size<=9223372036854775807)∧Y1.length<=100) (hx2:(∀x∈X2,x.size<=9223372036854775807)∧X2.length<=100) (hy2:(∀x∈Y2,x.size<=9223372036854775807)∧Y2.length<=100)
    (hfa : ∀b∈N,(fA b).length<=2000 ∧ ∀x∈fA b,x.size<=9223372036854775807) (hfb : ∀b∈N,(fB b).length<=2000 ∧ ∀x∈fB b,x.size<=9223372036854775807)
    (hga : ∀b∈M,(gA b).length<=2000 ∧ ∀x∈gA b,x.size<=9223372036854775807) (hgb : ∀b∈M,(gB b).length<=2000 ∧ ∀x∈gB b,x.size<=9223372036854775807)
    (T:Pq) (hT:(fr X1 Y1).or ((fr (X2++N.flatMap fA) (Y2++N.flatMap fB)).or (fr (M.flatMap gA) (M.flatMap gB)))=T)
    (HL:Hid (∀W,Zb w W->Zr 37 #[.int .i64 k,.agg #[.int .u64 (pn:Int),.string c1],.agg #[.int .u64 (qn:Int),.string c2],.string s] W (.int .i64 0)))
    (HS:Hid (∀W,Zb w W->Zr 38 #[.slice pa pn pc,.slice qa qn qc] W (.bool false)))
    (HDe:Hid (∀W,Calls Tryz.prog 39 #[.string s] W fun e w' => ∃(kd kk:Int) (sa:OA) (sn sc:Nat) (da:OA) (db dc:Nat),e = .returned (.tuple #[.agg #[.int .i64 kd,.int .i64 kk,.int .u64 (old:Int),.int .u64 (size:Int),.slice sa sn sc,.slice da D.length dc],.int .i64 0])∧RdS w' da db 0 D.length D∧D.length<=dc∧Zb W w'))
    (HMo:Hid (∀W,Calls Tryz.prog 40 #[.int .u64 (old:Int)] W fun e w' => ∃ao g cap,e = .returned (.tuple #[.slice ao M.length cap,.int .i64 0])∧RdB w' ao g 0 M.length (zl M)∧Zb W w'))
    (HRa:Hid (∀W,Calls Tryz.prog 41 #[.int .u64 (old:Int),.int .u64 (size:Int),.int .u64 (size:Int)] W fun e w' => ∃ao g cap,e = .returned (.tuple #[.slice ao R.length cap,.int .i64 0])∧RdB w' ao g 0 R.length (zl R)∧Zb W w'))
    (HNo:Hid (∀W,Calls Tryz.prog 40 #[.int .u64 (size:Int)] W fun e w' => ∃ao cap,e = .returned (.tuple #[.slice ao N.length cap,.int .i64 0])∧Cv.Qz w' W.heap.size (.slice ao N.length cap) (zl N)∧Zb W w'))
    (HP1:Hid (∀W,Zb w W->Calls Tryz.prog 22 #[.int .i64 k,.slice pa pn pc] W fun e w' => ∃v,e = .returned v∧Qk w' W.heap.size v R1∧Zb W w'))
    (HP2:Hid (∀W,Zb w W->Calls Tryz.prog 22 #[.int .i64 k,.slice qa qn qc] W fun e w' => ∃v,e = .returned v∧Qk w' W.heap.size v R2∧Zb W w'))
    (HP3:Hid (∀W ao g cap,Zb w W->RdH W ao g ((M++R).zip D).length ((M++R).zip D)->Calls Tryz.prog 44 #[.int .i64 k,.int .u64 (size:Int),.slice ao ((M++R).zip D).length cap] W fun e w' => ∃v,e = .returned v∧Qk w' W.heap.size v R3∧Zb W w'))
    (HT1:Hid (∀W ta tb tc,Zb w W->RdS W ta tb 0 R1.length R1->R1.length<=tc->Calls Tryz.prog 43 #[.int .i64 k,.int .u64 (old:Int),.slice ta R1.length tc] W fun e w' => ∃v,e = .returned v∧Qk w' W.heap.size v X1∧Zb W w'))
    (HT2:Hid (∀W ta tb tc,Zb w W->RdS W ta tb 0 D.length D->D.length<=tc->Calls Tryz.prog 43 #[.int .i64 k,.int .u64 (old:Int),.slice ta M.length tc] W fun e w' => ∃v,e = .returned v∧Qk w' W.heap.size v Y1∧Zb W w'))
    (HT3:Hid (∀W ta tb tc,Zb w W->RdS W ta tb 0 R2.length R2->R2.length<=tc->Calls Tryz.prog 43 #[.int .i64 k,.int .u64 (size:Int),.slice ta R2.length tc] W fun e w' => ∃v,e = .returned v∧Qk w' W.heap.size v X2∧Zb W w'))
    (HT4:Hid (∀W ta tb tc,Zb w W->RdS W ta tb 0 R3.length R3->R3.length<=tc->Calls Tryz.prog 43 #[.int .i64 k,.int .u64 (size:Int),.slice ta R3.length tc] W fun e w' => ∃v,e = .returned v∧Qk w' W.heap.size v Y2∧Zb W w'))
    (HAb:Hid (∀W ao g cap j,Zb w W->RdH W ao g ((M++R).zip D).length ((M++R).zip D)->j<N.length->Calls Tryz.prog 45 #[.int .i64 k,.slice qa qn qc,.slice ao ((M++R).zip D).length cap,.agg #[.int .i64 ((N.getD j (0,0)).1:Nat),.int .u64 ((N.getD j (0,0)).2:Nat)]] W fun e w' => ∃v u,e = .returned (.tuple #[v,u])∧Pr W.heap.size w' v u (fA (N.getD j (0,0))) (fB (N.getD j (0,0)))∧Zb W w'))
    (HBo:Hid (∀W j,Zb w W->j<M.length->Calls Tryz.prog 46 #[.int .i64 k,.slice pa pn pc,.slice qa qn qc,.agg #[.int .i64 ((M.getD j (0,0)).1:Nat),.int .u64 ((M.getD j (0,0)).2:Nat)]] W fun e w' => ∃v u,e = .returned (.tuple #[v,u])∧Pr W.heap.size w' v u (gA (M.getD j (0,0))) (gB (M.getD j (0,0)))∧Zb W w')) :
    Zr 16 #[.int .i64 k,.slice pa pn pc,.slice qa qn qc,.string s] w (tri T):=by
  have hBl:D.length=(M++R).length:=by rw[Ld];exact hD
  have hZl:((M++R).zip D).length=M.length+R.length:=by rw[List.length_zip,<-hBl,Nat.min_self];exact hD
  have hZ1 : ∀j,j<M.length->((M++R).zip D).take (j+1)=((M++R).zip D).take j++[(M.getD j (0,0),D.getD j ByteArray.empty)]:=fun j hj=>by
    rw[NA,QdW hBl (by rw[Ld];omega),JJ _ _ _ hj];rfl
  have hZ2 : ∀j,j<R.length->((M++R).zip D).take (M.length+j+1)=((M++R).zip D).take (M.length+j)++[(R.getD j (0,0),D.getD (M.length+j) ByteArray.empty)]:=fun j hj=>by
    rw[NA,QdW hBl (by rw[Ld];omega),JI];rfl
  obtain⟨Z,hZ⟩:=Ze ((M++R).zip D);rw[hZ] at hZl hZ1 hZ2 HP3 HAb;obtain⟨T1,hT1⟩:=Ze (fr X1 Y1);obtain⟨T2,hT2⟩:=Ze (fr (X2++N.flatMap fA) (Y2++N.flatMap fB));obtain⟨T3,hT3⟩:=Ze (fr (M.flatMap gA) (M.flatMap gB));rw[hT1,hT2,hT3] at hT;have lfa:=YM (fun b hb=>(hfa b hb).1)
  have lfb:=YM (fun b hb=>(hfb b hb).1)
  have lga:=YM (fun b hb=>(hga b hb).1)
  have lgb:=YM (fun b hb=>(hgb b hb).1)
  have lfa':N.length*2000<=82000:=by omega
  have lga':M.length*2000<=82000:=by omega
  have HF1:Hid (∀W ta tb tc ua ub uc,RdS W ta tb 0 X1.length X1->RdS W ua ub 0 Y1.length Y1->Zr 42 #[.slice ta X1.length tc,.slice ua Y1.length uc] W (tri T1)):=fun W ta tb tc ua ub uc h1 h2=>OE W ta tb 0 tc X1 h1 ua ub 0 uc Y1 h2 (by omega) (by omega) T1 hT1
  obtain⟨XN,hXN⟩:=Ze (X2++N.flatMap fA);obtain⟨YN,hYN⟩:=Ze (Y2++N.flatMap fB);obtain⟨GX,hGX⟩:=Ze (M.flatMap gA);obtain⟨GY,hGY⟩:=Ze (M.flatMap gB);have lXN:XN.length<=90000:=by rw[<-hXN,Ld];omega
  have lYN:YN.length<=90000:=by rw[<-hYN,Ld];omega
  have lGX:GX.length<=90000:=by rw[<-hGX];omega
  have lGY:GY.length<=90000:=by rw[<-hGY];omega
  rw[hXN,hYN] at hT2;rw[hGX,hGY] at hT3;have HEq:=Qc (And.intro hXN (And.intro hYN (And.intro hGX hGY)));have HF2:Hid (∀W ta tb tc ua ub uc,RdS W ta tb 0 XN.length XN->RdS W ua ub 0 YN.length YN->Zr 42 #[.slice ta XN.length tc,.slice ua YN.length uc] W (tri T2)):=fun W ta tb tc ua ub uc h1 h2=>OE W ta tb 0 tc _ h1 ua ub 0 uc _ h2 (by omega) (by omega) T2 hT2
  have HF3:Hid (∀W ta tb tc ua ub uc,RdS W ta tb 0 GX.length GX->RdS W ua ub 0 GY.length GY->Zr 42 #[.slice ta GX.length tc,.slice ua GY.length uc] W (tri T3)):=fun W ta tb tc ua ub uc h1 h2=>OE W ta tb 0 tc _ h1 ua ub 0 uc _ h2 (by omega) (by omega) T3 hT3
  have HZf:Hid (∀(L:List (Nat×Nat)) (j:Nat),j<L.length->L.getD j (0,0)∈L):=fun L j hj=>by rw[La,Lc hj];exact LO _
  have HS1:=Qc (And.intro hs1 (And.intro hs2 hs3));have HXS:Hid ((∀x∈XN,x.size<=9223372036854775807)∧(∀x∈YN,x.size<=9223372036854775807)∧(∀x∈GX,x.size<=9223372036854775807)∧(∀x∈GY,x.size<=9223372036854775807)∧(∀x∈X1,x.size<=9223372036854775807)∧(∀x∈Y1,x.size<=9223372036854775807)) :=
    ⟨fun x hx=>(Nk.1 (by rw[hXN];exact hx)).elim (hx2.1 x) (OU (fun b hb=>(hfa b hb).2) x),fun x hx=>(Nk.1 (by rw[hYN];exact hx)).elim (hy2.1 x) (OU (fun b hb=>(hfb b hb).2) x),fun x hx=>OU (fun b hb=>(hga b hb).2) x (by rw[hGX];exact hx),fun x hx=>OU (fun b hb=>(hgb b hb).2) x (by rw[hGY];exact hx),hx1.1,hy1.1⟩
  have HLA:Hid (∀j,j<N.length->(X2++(N.take j).flatMap fA).length+(fA (N.getD j (0,0))).length<=1048576∧(Y2++(N.take j).flatMap fB).length+(fB (N.getD j (0,0))).length<=1048576∧(∀x∈fA (N.getD j (0,0)),x.size<=9223372036854775807)∧(∀x∈fB (N.getD j (0,0)),x.size<=9223372036854775807)∧X2++(N.take (j+1)).flatMap fA=X2++(N.take j).flatMap fA++fA (N.getD j (0,0))∧Y2++(N.take (j+1)).flatMap fB=Y2++(N.take j).flatMap fB++fB (N.getD j (0,0))):=fun j hj=>by
    have m:=HZf.out N j hj;have a1:=YM (N:=N.take j) (fun b hb=>(hfa b (LJ hb)).1)
    have a2:=YM (N:=N.take j) (fun b hb=>(hfb b (LJ hb)).1)
    have a3:(N.take j).length<=41:=by rw[Lv];omega
    have a4:=(hfa _ m).1;have a5:=(hfb _ m).1;have a6:=hx2.2;have a7:=hy2.2;refine⟨by rw[Ld];omega,by rw[Ld];omega,(hfa _ m).2,(hfb _ m).2,by rw[Jk hj,Lt],by rw[Jk hj,Lt]⟩
  have HLG:Hid (∀j,j<M.length->((M.take j).flatMap gA).length+(gA (M.getD j (0,0))).length<=1048576∧((M.take j).flatMap gB).length+(gB (M.getD j (0,0))).length<=1048576∧(∀x∈gA (M.getD j (0,0)),x.size<=9223372036854775807)∧(∀x∈gB (M.getD j (0,0)),x.size<=9223372036854775807)∧(M.take (j+1)).flatMap gA=(M.take j).flatMap gA++gA (M.getD j (0,0))∧(M.take (j+1)).flatMap gB=(M.take j).flatMap gB++gB (M.getD j (0,0))):=fun j hj=>by
    have m:=HZf.out M j hj;have a1:=YM (N:=M.take j) (fun b hb=>(hga b (LJ hb)).1)
    have a2:=YM (N:=M.take j) (fun b hb=>(hgb b (LJ hb)).1)
    have a3:(M.take j).length<=41:=by rw[Lv];omega
    have a4:=(hga _ m).1;have a5:=(hgb _ m).1;refine⟨by omega,by omega,(hga _ m).2,(hgb _ m).2,by rw[Jk hj],by rw[Jk hj]⟩
  have HQ:Hid (D.length=M.length+R.length∧Z.length=M.length+R.length∧(∀j,j<M.length->Z.take (j+1)=Z.take j++[(M.getD j (0,0),D.getD j ByteArray.empty)])∧(∀j,j<R.length->Z.take (M.length+j+1)=Z.take (M.length+j)++[(R.getD j (0,0),D.getD (M.length+j) ByteArray.empty)])∧(∀b∈N,(b.2+1)*2^b.1<=2^40)):=⟨hD,hZl,hZ1,hZ2,hfN⟩;have HT:=Qc hT;have zM:(M.length:Int)<=41:=by omega
  have zR:(R.length:Int)<=200:=by omega
  have zN:(N.length:Int)<=41:=by omega
  have zD:(D.length:Int)<=241:=by omega
  have zMD:(M.length:Int)<=(D.length:Int):=by omega
  have zMR:(M.length:Int)+(R.length:Int)=(D.length:Int):=by omega
  have z1:(pn:Int)<=1000:=by omega
  have z2:(qn:Int)<=1000:=by omega
  clear hp hq hD hM hR hN hfN hs1 hs2 hs3 hx1 hy1 hx2 hy2 hfa hfb hga hgb hT hT1 hT2 hT3 hBl hZl hZ1 hZ2 hZ lfa lfb lga lgb lfa' lga' hXN hYN hGX hGY lXN lYN lGX lGY
  go_enter Tryz.func16,Tryz.ntmps16
  go_upto_region 2 with (go_at_call 9;with_reducible refine(HRA.out _ (Below.refl _ _)).mono ?_;rintro e w2 ⟨rfl,hb2⟩)
  obtain⟨F,hFe,hrh,hb3⟩ : ∃W,w2.alloc (.cells #[.int .u64 (pn:Int),.string c1] 30)=W∧Rh W w2.heap.size pn c1∧Zb w2 W:=⟨_,rfl,YC w2 pn c1,bal (Below.refl _ _) _⟩
  try rw[hFe]
  clear hFe;have hbF:=Qa hb2 hb3
  go_upto_region 3 with (go_at_call 9;with_reducible refine(HRB.out _ hbF).mono ?_;rintro e w4 ⟨rfl,hb4⟩)
  obtain⟨G,hGe,hrh2,hb5⟩ : ∃W,w4.alloc (.cells #[.int .u64 (qn:Int),.string c2] 30)=W∧Rh W w4.heap.size qn c2∧Zb w4 W:=⟨_,rfl,YC w4 qn c2,bal (Below.refl _ _) _⟩
  try rw[hGe]
  clear hGe;obtain⟨e0,e1⟩:=(hrh.next (Qa hb4 hb5)).cells;obtain⟨f0,f1⟩:=hrh2.cells;have hbG:=Qa (Qa hbF hb4) hb5;clear hbF hb2 hb3 hb4 hb5 hrh hrh2 HRA HRB
  go_upto_region 6 with (first
    | (go_at_call 37;with_reducible refine(HL.out _ hbG).mono ?_;rintro e w5 ⟨rfl,hb6⟩)
    | (go_at_call 38;with_reducible refine(HS.out _ (Qa hbG hb6)).mono ?_;rintro e w6 ⟨rfl,hb7⟩)
    | (go_at_call 39;with_reducible refine(HDe.out _).mono ?_;rintro e w7 ⟨kd,kk,sa,sn,sc,da,db,dc,rfl,hRD,hdc,hb8⟩))
  obtain⟨F6,hF6,h6,hb9,hF1⟩:=Yu w7 (.int .i64 kd) (.int .i64 kk) (.int .u64 (old:Int)) (.int .u64 (size:Int)) (.slice sa sn sc) (.slice da D.length dc);clear hF1
  try rw[hF6]
  clear hF6;have hbF:=Qa (Qa (Qa (Qa hbG hb6) hb7) hb8) hb9;have hRD6:=hRD.next hb9 (Lb _);obtain⟨m0,m1,m2,m3,m4,m5⟩:=h6.cells;clear e0 e1 f0 f1 hbG hb6 hb7 hb8 hb9 hRD HL HS HDe
  go_upto_region 7 with (go_at_call 40;with_reducible refine(HMo.out _).mono ?_;rintro e w9 ⟨ma,mg,mc,rfl,hRm,hb5⟩)
  clear m0 m1 m2 m3 m4 m5;obtain⟨m0,m1,m2,m3,m4,m5⟩:=(h6.next hb5).cells
  go_upto_region 8 with (go_at_call 41;with_reducible refine(HRa.out _).mono ?_;rintro e w10 ⟨ra,rg,rc,rfl,hRr,hb6⟩)
  have HX:Hid (∀V,Zb w10 V->(V.cell? ⟨w7.heap.size,2,none⟩=some (.int .u64 (old:Int))∧V.cell? ⟨w7.heap.size,3,none⟩=some (.int .u64 (size:Int))∧V.cell? ⟨w7.heap.size,5,none⟩=some (.slice da D.length dc))∧RdS V da db 0 D.length D∧RdB V ma mg 0 M.length (zl M)∧RdB V ra rg 0 R.length (zl R)∧Zb w V):=fun V hb=>by
    obtain⟨_,_,a2,a3,_,a5⟩:=(h6.next (Qa (Qa hb5 hb6) hb)).cells;exact⟨⟨a2,a3,a5⟩,hRD6.next (Qa (Qa hb5 hb6) hb) (Lb _),hRm.below (Qa hb6 hb),hRr.below hb,Qa (Qa (Qa hbF hb5) hb6) hb⟩
  have zdc:(D.length:Int)<=(dc:Int):=by omega
  have zmc:(M.length:Int)<=(dc:Int):=by omega
  have HDc:=Qc hdc;clear m0 m1 m2 m3 m4 m5 hRD6 hRm hRr h6 hb5 hb6 hbF hdc HMo HRa;go_wp2
  go_loopg [21,22] M.length (fun g v i wr => ∃j:Nat,g=M.length - j∧j<=M.length∧i = .int .i64 (j:Int)∧Hid (OwnH wr w10.heap.size v (Z.take j)∧Zb w10 wr))
  case atStart =>
    go_light;exact⟨0,rfl,Lf _,rfl,Lz _ _ _ _,Below.refl _ _⟩
  case round =>
    obtain⟨j,rfl,hj,rfl,HI⟩:=hrel
    by_cases hlt:j<M.length
    · have hz:(j:Int)<(M.length:Int):=by omega
      have hz0:(0:Int)<=(j:Int):=Le _;have hdl:j<D.length:=by have:=HQ.out.1;omega
      have hzd:(j:Int)<(D.length:Int):=by omega
      obtain⟨_,hDr,hMr,_,_⟩:=HX.out wr HI.out.2;obtain rfl:=hMr.addr (by omega)
      obtain rfl:=hDr.ptr (by omega)
      have HC:Hid (∀W,Zb w10 W->W.cell? ⟨w7.heap.size,5,none⟩=some (.slice (some ⟨db,0,none⟩) D.length dc)∧W.cell? ⟨db,0+j,none⟩=some (.string (D.getD j ByteArray.empty))∧W.cell? ⟨mg,j*2,none⟩=some (.int .i64 ((M.getD j (0,0)).1:Nat))∧W.cell? ⟨mg,j*2+1,none⟩=some (.int .u64 ((M.getD j (0,0)).2:Nat))):=fun W hW=>by
        obtain⟨⟨_,_,k5⟩,kd',km,_,_⟩:=HX.out W hW;have hc:=km.cell j hlt;rw[Cv.Uf,Ll] at hc;exact⟨k5,kd'.at hdl,hc.1,hc.2⟩
      have htk:=HQ.out.2.2.1 j hlt;obtain⟨x,hx⟩:=Ze (D.getD j ByteArray.empty);obtain⟨⟨mh,mk⟩,hm⟩ : ∃m,M.getD j (0,0)=m:=⟨_,rfl⟩;rw[hx,hm] at HC htk;simp only[Nat.zero_add] at HC;obtain⟨va,vm,vc,rfl⟩:=Cv.Qh HI.out.1;have HG:Hid (Z.take (j+1)=Z.take j++[((mh,mk),x)]∧(Z.take j).length<=100000000∧j<M.length):=⟨htk,by rw[Lv];omega,hlt⟩
      have hdr:=(Below.refl wr.heap.size wr).drew;have hal:=bal (Below.refl wr.heap.size wr) (.cells #[.int .i64 (mh:Int),.int .u64 (mk:Int),.string x] 85);obtain⟨q5,q6,q7,q8⟩:=HC.out _ (Qa HI.out.2 hdr);obtain⟨r5,r6,r7,r8⟩:=HC.out _ HI.out.2;have HO1:=Qc (Y7 HI.out.1 hal.drew);have HB1:=Qc (Qa HI.out.2 hal.drew);have HCe:=Qc (Qh7 wr ((mh,mk),x));clear hDr hMr htk hx hm hlt hj hdl
      go_upto_region 12 with (fail)
      go_region_held3 (fun Z'=>Z'.cell? ⟨w7.heap.size,5,none⟩=some (.slice (some ⟨db,0,none⟩) D.length dc)∧Z'.cell? ⟨db,j,none⟩=some (.string x)∧Z'.cell? ⟨mg,j*2,none⟩=some (.int .i64 (mh:Int))∧Z'.cell? ⟨mg,j*2+1,none⟩=some (.int .u64 (mk:Int))) (first|assumption|(exact HC.out _ hB3)|(exact HC.out _ (Qa HI.out.2 hdr))|(exact HC.out _ (Qa HI.out.2 hal.drew))|(exact HC.out _ (Qa HI.out.2 hal))|(exact HC.out _ HI.out.2)) (first
        | (refine Qcd _ (by rfl) _ _ (by rfl) w10.heap.size _ (Z.take j) (by rfl) HO1.out ⟨wr.heap.size,0,none⟩ 1 ((mh,mk),x) (by rfl) HCe.out (by have:=HG.out.2.1;omega) HB1.out.size ?_;intro v' w3 o1 o2 o3;obtain⟨ya,ym,yc,rfl⟩:=Cv.Qh o1;have hB3:=HB1.out.trans o2))
      all_goals
        have HZ:Hid (OwnH w3 w10.heap.size (.slice ya ym yc) (Z.take (j+1))∧Zb w10 w3):=⟨by rw[HG.out.1];exact o1,hB3⟩
        clear o1 o2 o3 hB3 HO1 HB1 HCe HC hal q5 q6 q7 q8 r5 r6 r7 r8;go_wp2
        go_roundg (M.length - (j+1))
        case rel =>
          go_light;exact⟨j+1,rfl,HG.out.2.2,by go_num,HZ⟩
        case measure=>go_light;have:=HG.out.2.2;omega
    · obtain rfl:j=M.length:=by omega
      have hz : ¬((M.length:Int)<(M.length:Int)):=by omega
      clear hlt hj;obtain⟨WL,rfl⟩ : ∃W,W=wr:=⟨_,rfl⟩
      go_upto_region 13 with (fail)
      have HE:Hid (∀V,Zb WL V->Zb w10 V):=fun V hb=>Qa HI.out.2 hb
      obtain⟨⟨a2,_,a5⟩,_⟩:=HX.out WL HI.out.2
      go_cut [23,24,25] from 114 to 134 (fun va vb vf wx=>Hid ((va = .string (pA T1)∧vb = .string (pB' T1)∧vf = .bool T1.isSome)∧Zb WL wx))
      case first =>
        go_region_held3 (fun V=>V.cell? ⟨w7.heap.size,2,none⟩=some (.int .u64 (old:Int))∧V.cell? ⟨w7.heap.size,5,none⟩=some (.slice da D.length dc))
          (first|assumption|exact⟨(HX.out _ (HE.out _ (by with_reducible repeat first|exact Below.refl _ _|refine Below.drew ?_|refine bal ?_ _|refine Qa ?_ hb5|refine Qa ?_ hb6|refine Qa ?_ hb7|refine Qa ?_ hb8))).1.1,(HX.out _ (HE.out _ (by with_reducible repeat first|exact Below.refl _ _|refine Below.drew ?_|refine bal ?_ _|refine Qa ?_ hb5|refine Qa ?_ hb6|refine Qa ?_ hb7|refine Qa ?_ hb8))).1.2.2⟩)
          (first
            | (go_at_call 22;with_reducible refine(HP1.out _ (HX.out _ (HE.out _ (by with_reducible repeat first|exact Below.refl _ _|refine Below.drew ?_|refine bal ?_ _|refine Qa ?_ hb5|refine Qa ?_ hb6|refine Qa ?_ hb7|refine Qa ?_ hb8))).2.2.2.2).mono ?_;rintro e w5 ⟨v5,rfl,o5,hb5⟩;obtain⟨a5',b5',c5',rfl,r5',k5',n5'⟩:=Qn o5 HS1.out.1)
            | (go_at_call 43;with_reducible refine(HT1.out _ _ b5' _ (HX.out _ (HE.out _ (by with_reducible repeat first|exact Below.refl _ _|refine Below.drew ?_|refine bal ?_ _|refine Qa ?_ hb5|refine Qa ?_ hb6|refine Qa ?_ hb7|refine Qa ?_ hb8))).2.2.2.2 (r5'.next (by with_reducible repeat first|exact Below.refl _ _|refine Below.drew ?_|refine bal ?_ _|refine Qa ?_ hb5|refine Qa ?_ hb6|refine Qa ?_ hb7|refine Qa ?_ hb8) (Lb _)) k5').mono ?_;rintro e w6 ⟨v6,rfl,o6,hb6⟩;obtain⟨a6',b6',c6',rfl,r6',k6',n6'⟩:=Qn o6 HXS.out.2.2.2.2.1)
            | (go_at_call 43;with_reducible refine(HT2.out _ _ db _ (HX.out _ (HE.out _ (by with_reducible repeat first|exact Below.refl _ _|refine Below.drew ?_|refine bal ?_ _|refine Qa ?_ hb5|refine Qa ?_ hb6|refine Qa ?_ hb7|refine Qa ?_ hb8))).2.2.2.2 (HX.out _ (HE.out _ (by with_reducible repeat first|exact Below.refl _ _|refine Below.drew ?_|refine bal ?_ _|refine Qa ?_ hb5|refine Qa ?_ hb6|refine Qa ?_ hb7|refine Qa ?_ hb8))).2.1 HDc.out).mono ?_;rintro e w7' ⟨v7,rfl,o7,hb7⟩;obtain⟨a7',b7',c7',rfl,r7',k7',n7'⟩:=Qn o7 HXS.out.2.2.2.2.2)
            | (go_at_call 42;with_reducible refine(HF1.out _ _ b6' _ _ b7' _ (r6'.next (by with_reducible repeat first|exact Below.refl _ _|refine Below.drew ?_|refine bal ?_ _|refine Qa ?_ hb5|refine Qa ?_ hb6|refine Qa ?_ hb7|refine Qa ?_ hb8) (Lb _)) (r7'.next (by with_reducible repeat first|exact Below.refl _ _|refine Below.drew ?_|refine bal ?_ _|refine Qa ?_ hb5|refine Qa ?_ hb6|refine Qa ?_ hb7|refine Qa ?_ hb8) (Lb _))).mono ?_;rintro e w8 ⟨rfl,hb8⟩))
        all_goals
          go_wp2
          go_meet
          case rel =>
            go_light;exact Qc ⟨⟨rfl,rfl,rfl⟩,by with_reducible repeat first|exact Below.refl _ _|refine Below.drew ?_|refine bal ?_ _|refine Qa ?_ hb5|refine Qa ?_ hb6|refine Qa ?_ hb7|refine Qa ?_ hb8⟩
      case rest =>
        clear HP1 HT1 HT2 HF1 a2 a5;obtain⟨⟨rfl,rfl,rfl⟩,hbx⟩:=hcut.out;clear hcut;obtain⟨WM,rfl⟩ : ∃W,W=wc:=⟨_,rfl⟩;have HM:Hid (OwnH WM w10.heap.size u21 (Z.take (M.length+0))∧Zb w10 WM):=⟨Y7 HI.out.1 hbx,Qa HI.out.2 hbx⟩;clear HI HE hbx
        cases T1 with
        | some y =>
          obtain rfl:some y=T:=HT.out;simp only[pA,pB',Option.isSome_some];have HBw:=Qc (HX.out _ HM.out.2).2.2.2.2;go_wp2;exact bodyPost_ret (v:=tri (some y)) (by simp[results,Tryz.results16,go_sem,pA,pB']) rfl ⟨rfl,HBw.out⟩
        | none =>
          have HT':=Qc (show T2.or T3=T from HT.out)
          clear HT;simp only[pA,pB',Option.isSome_none];go_wp2
          go_loopg [21,26] R.length (fun g v i wr => ∃j:Nat,g=R.length - j∧j<=R.length∧i = .int .i64 (j:Int)∧Hid (OwnH wr w10.heap.size v (Z.take (M.length+j))∧Zb w10 wr))
          case atStart =>
            go_light;exact⟨0,rfl,Lf _,rfl,HM⟩
          case round =>
            clear HM;obtain⟨j,rfl,hj,rfl,HI⟩:=hrel
            by_cases hlt:j<R.length
            · have hz:(j:Int)<(R.length:Int):=by omega
              have hz0:(0:Int)<=(j:Int):=Le _;have hdl:M.length+j<D.length:=by have:=HQ.out.1;omega
              have hzd:(M.length:Int)+(j:Int)<(D.length:Int):=by omega
              have hzw:IntKind.i64.wrap ((M.length:Int)+(j:Int))=(M.length:Int)+(j:Int):=by rw[LW];omega
              have hzp:(0:Int)<=(M.length:Int)+(j:Int):=by omega
              have hzt:((M.length:Int)+(j:Int)).toNat=M.length+j:=by omega
              obtain⟨_,hDr,_,hRr,_⟩:=HX.out wr HI.out.2;obtain rfl:=hRr.addr (by omega)
              obtain rfl:=hDr.ptr (by omega)
              have HC:Hid (∀W,Zb w10 W->W.cell? ⟨w7.heap.size,5,none⟩=some (.slice (some ⟨db,0,none⟩) D.length dc)∧W.cell? ⟨db,0+(M.length+j),none⟩=some (.string (D.getD (M.length+j) ByteArray.empty))∧W.cell? ⟨rg,j*2,none⟩=some (.int .i64 ((R.getD j (0,0)).1:Nat))∧W.cell? ⟨rg,j*2+1,none⟩=some (.int .u64 ((R.getD j (0,0)).2:Nat))):=fun W hW=>by
                obtain⟨⟨_,_,k5⟩,kd',_,km,_⟩:=HX.out W hW;have hc:=km.cell j hlt;rw[Cv.Uf,Ll] at hc;exact⟨k5,kd'.at hdl,hc.1,hc.2⟩
              have htk:=HQ.out.2.2.2.1 j hlt;obtain⟨x,hx⟩:=Ze (D.getD (M.length+j) ByteArray.empty);obtain⟨⟨mh,mk⟩,hm⟩ : ∃m,R.getD j (0,0)=m:=⟨_,rfl⟩;rw[hx,hm] at HC htk;simp only[Nat.zero_add] at HC;obtain⟨va,vm,vc,rfl⟩:=Cv.Qh HI.out.1;have HG:Hid (Z.take (M.length+(j+1))=Z.take (M.length+j)++[((mh,mk),x)]∧(Z.take (M.length+j)).length<=100000000∧j<R.length):=⟨htk,by rw[Lv];omega,hlt⟩
              have hdr:=(Below.refl wr.heap.size wr).drew;have hal:=bal (Below.refl wr.heap.size wr) (.cells #[.int .i64 (mh:Int),.int .u64 (mk:Int),.string x] 85);obtain⟨q5,q6,q7,q8⟩:=HC.out _ (Qa HI.out.2 hdr);obtain⟨r5,r6,r7,r8⟩:=HC.out _ HI.out.2;have HO1:=Qc (Y7 HI.out.1 hal.drew);have HB1:=Qc (Qa HI.out.2 hal.drew);have HCe:=Qc (Qh7 wr ((mh,mk),x));clear hDr hRr htk hx hm hlt hj hdl
              go_upto_region 19 with (fail)
              go_region_held3 (fun Z'=>Z'.cell? ⟨w7.heap.size,5,none⟩=some (.slice (some ⟨db,0,none⟩) D.length dc)∧Z'.cell? ⟨db,M.length+j,none⟩=some (.string x)∧Z'.cell? ⟨rg,j*2,none⟩=some (.int .i64 (mh:Int))∧Z'.cell? ⟨rg,j*2+1,none⟩=some (.int .u64 (mk:Int))) (first|assumption|(exact HC.out _ hB3)|(exact HC.out _ (Qa HI.out.2 hdr))|(exact HC.out _ (Qa HI.out.2 hal.drew))|(exact HC.out _ (Qa HI.out.2 hal))|(exact HC.out _ HI.out.2)) (first
                | (refine Qcd _ (by rfl) _ _ (by rfl) w10.heap.size _ (Z.take (M.length+j)) (by rfl) HO1.out ⟨wr.heap.size,0,none⟩ 1 ((mh,mk),x) (by rfl) HCe.out (by have:=HG.out.2.1;omega) HB1.out.size ?_;intro v' w3 o1 o2 o3;obtain⟨ya,ym,yc,rfl⟩:=Cv.Qh o1;have hB3:=HB1.out.trans o2))
              all_goals
                have HZ:Hid (OwnH w3 w10.heap.size (.slice ya ym yc) (Z.take (M.length+(j+1)))∧Zb w10 w3):=⟨by rw[HG.out.1];exact o1,hB3⟩
                clear o1 o2 o3 hB3 HO1 HB1 HCe HC hal q5 q6 q7 q8 r5 r6 r7 r8;go_wp2
                go_roundg (R.length - (j+1))
                case rel =>
                  go_light;exact⟨j+1,rfl,HG.out.2.2,by go_num,HZ⟩
                case measure=>go_light;have:=HG.out.2.2;omega
            · obtain rfl:j=R.length:=by omega
              have hz : ¬((R.length:Int)<(R.length:Int)):=by omega
              obtain⟨la,lg,lc,hlv,hlR⟩ : ∃ao g cap,u21 = .slice ao Z.length cap∧RdH wr ao g Z.length Z:=by
                have:=Qgi HI.out.1
                rwa [Lx (by rw[HQ.out.2.1];exact Lb _)] at this
              subst hlv;obtain⟨WA,rfl⟩ : ∃W,W=wr:=⟨_,rfl⟩;have HA:Hid (∀V,Zb WA V->RdH V la lg Z.length Z∧V.cell? ⟨w7.heap.size,3,none⟩=some (.int .u64 (size:Int))∧RdB V ma mg 0 M.length (zl M)∧Zb w V):=fun V hb=>by
                obtain⟨⟨_,k3,_⟩,_,km,_,kb⟩:=HX.out V (Qa HI.out.2 hb);exact⟨hlR.next hb,k3,km,kb⟩
              clear hlt hj HI hlR HX
              go_upto_region 20 with (fail)
              have a3:=(HA.out WA (Below.refl _ _)).2.1
              go_cut [27] from 160 to 166 (fun v wx=>Hid (Qk wx WA.heap.size v X2∧Zb WA wx))
              case first =>
                go_region_held3 (fun V=>V.cell? ⟨w7.heap.size,3,none⟩=some (.int .u64 (size:Int)))
                  (first|assumption|exact(HA.out _ (by with_reducible repeat first|exact Below.refl _ _|refine Below.drew ?_|refine bal ?_ _|refine Qa ?_ hb5|refine Qa ?_ hb6|refine Qa ?_ hb7|refine Qa ?_ hb8)).2.1)
                  (first
                    | (go_at_call 22;with_reducible refine(HP2.out _ (HA.out _ (by with_reducible repeat first|exact Below.refl _ _|refine Below.drew ?_|refine bal ?_ _|refine Qa ?_ hb5|refine Qa ?_ hb6|refine Qa ?_ hb7|refine Qa ?_ hb8)).2.2.2).mono ?_;rintro e w5 ⟨v5,rfl,o5,hb5⟩;obtain⟨a5',b5',c5',rfl,r5',k5',n5'⟩:=Qn o5 HS1.out.2.1)
                    | (go_at_call 43;with_reducible refine(HT3.out _ _ b5' _ (HA.out _ (by with_reducible repeat first|exact Below.refl _ _|refine Below.drew ?_|refine bal ?_ _|refine Qa ?_ hb5|refine Qa ?_ hb6|refine Qa ?_ hb7|refine Qa ?_ hb8)).2.2.2 (r5'.next (by with_reducible repeat first|exact Below.refl _ _|refine Below.drew ?_|refine bal ?_ _|refine Qa ?_ hb5|refine Qa ?_ hb6|refine Qa ?_ hb7|refine Qa ?_ hb8) (Lb _)) k5').mono ?_;rintro e w6 ⟨v6,rfl,o6,hb6⟩))
                all_goals
                  go_wp2
                  go_meet
                  case rel =>
                    go_light;exact Qc ⟨World.ownsRow.mono o6 (by have:=hb5.size;have:=(by with_reducible repeat first|exact Below.refl _ _|refine Below.drew ?_|refine bal ?_ _|refine Qa ?_ hb5|refine Qa ?_ hb6|refine Qa ?_ hb7|refine Qa ?_ hb8:Zb WA w5).size;simp only[World.drew] at *;omega),by with_reducible repeat first|exact Below.refl _ _|refine Below.drew ?_|refine bal ?_ _|refine Qa ?_ hb5|refine Qa ?_ hb6|refine Qa ?_ hb7|refine Qa ?_ hb8⟩
              case rest =>
                clear HP2 HT3 a3;have HO:=Qc hcut.out;clear hcut;obtain⟨wB,rfl⟩ : ∃W,W=wc:=⟨_,rfl⟩;have a3:=(HA.out _ HO.out.2).2.1
                go_upto_region 21 with (fail)
                go_cut [28] from 167 to 175 (fun u wx=>Hid (Pr WA.heap.size wx u27 u X2 Y2∧Zb WA wx))
                case first =>
                  go_region_held3 (fun V=>V.cell? ⟨w7.heap.size,3,none⟩=some (.int .u64 (size:Int)))
                    (first|assumption|exact(HA.out _ (Qa HO.out.2 (by with_reducible repeat first|exact Below.refl _ _|refine Below.drew ?_|refine bal ?_ _|refine Qa ?_ hb5|refine Qa ?_ hb6|refine Qa ?_ hb7|refine Qa ?_ hb8))).2.1)
                    (first
                      | (go_at_call 44;with_reducible refine(HP3.out _ _ lg _ (HA.out _ (Qa HO.out.2 (by with_reducible repeat first|exact Below.refl _ _|refine Below.drew ?_|refine bal ?_ _|refine Qa ?_ hb5|refine Qa ?_ hb6|refine Qa ?_ hb7|refine Qa ?_ hb8))).2.2.2 (HA.out _ (Qa HO.out.2 (by with_reducible repeat first|exact Below.refl _ _|refine Below.drew ?_|refine bal ?_ _|refine Qa ?_ hb5|refine Qa ?_ hb6|refine Qa ?_ hb7|refine Qa ?_ hb8))).1).mono ?_;rintro e w5 ⟨v5,rfl,o5,hb5⟩;obtain⟨a5',b5',c5',rfl,r5',k5',n5'⟩:=Qn o5 HS1.out.2.2)
                      | (go_at_call 43;with_reducible refine(HT4.out _ _ b5' _ (HA.out _ (Qa HO.out.2 (by with_reducible repeat first|exact Below.refl _ _|refine Below.drew ?_|refine bal ?_ _|refine Qa ?_ hb5|refine Qa ?_ hb6|refine Qa ?_ hb7|refine Qa ?_ hb8))).2.2.2 (r5'.next (by with_reducible repeat first|exact Below.refl _ _|refine Below.drew ?_|refine bal ?_ _|refine Qa ?_ hb5|refine Qa ?_ hb6|refine Qa ?_ hb7|refine Qa ?_ hb8) (Lb _)) k5').mono ?_;rintro e w6 ⟨v6,rfl,o6,hb6⟩))
                  all_goals
                    go_wp2
                    go_meet
                    case rel =>
                      go_light;have hz7:=(by with_reducible repeat first|exact Below.refl _ _|refine Below.drew ?_|refine bal ?_ _|refine Qa ?_ hb5|refine Qa ?_ hb6|refine Qa ?_ hb7|refine Qa ?_ hb8:Zb wB w5).size
                      have hsA:=HO.out.2.size;exact Qc ⟨Ym HO.out.1 hz7 o6 (by with_reducible repeat first|exact Below.refl _ _|refine Below.drew ?_|refine bal ?_ _|refine Qa ?_ hb5|refine Qa ?_ hb6|refine Qa ?_ hb7|refine Qa ?_ hb8) (by omega),Qa HO.out.2 (by with_reducible repeat first|exact Below.refl _ _|refine Below.drew ?_|refine bal ?_ _|refine Qa ?_ hb5|refine Qa ?_ hb6|refine Qa ?_ hb7|refine Qa ?_ hb8)⟩
                case rest =>
                  clear HP3 HT4 a3 HO;have HO:=Qc hcut.out;clear hcut;obtain⟨wC,rfl⟩ : ∃W,W=wc:=⟨_,rfl⟩;have a3:=(HA.out _ HO.out.2).2.1
                  go_upto_region 23 with (go_at_call 40;with_reducible refine(HNo.out _).mono ?_;rintro e w5 ⟨na,nc,rfl,oN,hb5⟩)
                  have HI:Hid (Pr WA.heap.size w5 u27 u28 (X2++(N.take 0).flatMap fA) (Y2++(N.take 0).flatMap fB)∧Cv.Qz w5 WA.heap.size (.slice na N.length nc) (zl N)∧Zb WA w5):=⟨by rw[IW,List.flatMap_nil,List.flatMap_nil,L6,L6];exact HO.out.1.next hb5,World.ownsRow.mono oN HO.out.2.size,Qa HO.out.2 hb5⟩
                  clear HO oN hb5 a3 HNo;go_wp2
                  go_loopg [27,28,31] N.length (fun g v u i wr => ∃j:Nat,g=N.length - j∧j<=N.length∧i = .int .i64 (j:Int)∧Hid (Pr WA.heap.size wr v u (X2++(N.take j).flatMap fA) (Y2++(N.take j).flatMap fB)∧Cv.Qz wr WA.heap.size (.slice na N.length nc) (zl N)∧Zb WA wr))
                  case atStart =>
                    go_light;exact⟨0,rfl,Lf _,rfl,HI⟩
                  case round =>
                    clear HI;obtain⟨j,rfl,hj,rfl,HI⟩:=hrel
                    by_cases hlt:j<N.length
                    · have hz:(j:Int)<(N.length:Int):=by omega
                      have hz0:(0:Int)<=(j:Int):=Le _;obtain⟨ng,hrd⟩:=QfD HI.out.2.1 HQ.out.2.2.2.2;obtain rfl:=hrd.addr (by omega)
                      obtain⟨c0,c1'⟩:=hrd.cell j hlt;rw[Cv.Uf,Ll] at c0 c1';have HLj:=HLA.out j hlt;have HAj:=HAb.out wr la lg lc j (HA.out _ HI.out.2.2).2.2.2 (HA.out _ HI.out.2.2).1 hlt;obtain⟨P1,hP1⟩:=Ze (fA (N.getD j (0,0)));obtain⟨Q1,hQ1⟩:=Ze (fB (N.getD j (0,0)));obtain⟨XJ,hXJ⟩:=Ze (X2++(N.take j).flatMap fA);obtain⟨YJ,hYJ⟩:=Ze (Y2++(N.take j).flatMap fB);rw[hP1,hQ1,hXJ,hYJ] at HLj;rw[hP1,hQ1] at HAj;rw[hXJ,hYJ] at HI;obtain⟨⟨mh,mk⟩,hm⟩ : ∃m,N.getD j (0,0)=m:=⟨_,rfl⟩;rw[hm] at c0 c1' HAj;simp only at c0 c1' HAj;have HL:=Qc (And.intro HLj hlt);have HAc:=Qc HAj;clear hrd HLj HAj hP1 hQ1 hXJ hYJ hm hlt hj
                      go_upto_region 27 with (go_at_call 45;with_reducible refine HAc.out.mono ?_;rintro e w5 ⟨v5,u5,rfl,p5,hb5⟩)
                      have hB5:WA.heap.size<=wr.heap.size:=HI.out.2.2.size;have hBw:WA.heap.size<=w5.heap.size:=by have:=hb5.size;omega
                      have hpr:=HI.out.1;have A1:=Qc (hpr.next hb5);have q2:=Ym hpr.ov (Lb _) p5.ov hb5 hB5;have A3:=Qc (Ym hpr.ov (Lb _) p5.ou hb5 hB5);have C3:=Qc (Ym hpr.ou (Lb _) p5.ou hb5 hB5);obtain⟨a5,b5,c5,rfl,r5,_,n5⟩:=Qn q2.ou HL.out.1.2.2.1;obtain⟨a7,_,c7,rfl,_⟩:=Qn A3.out.ou HL.out.1.2.2.2.1;have A2:=Qc (And.intro r5 n5);have HN5:=Qc (And.intro (Y7 HI.out.2.1 hb5) (Qa HI.out.2.2 hb5));clear hpr p5 q2 r5 n5 HI hb5 c0 c1' HAc
                      go_wp2_with (first
                        | (at_builtin;refine Qs _ rfl _ _ rfl WA.heap.size _ XJ rfl A1.out.ov a5 b5 0 P1.length c5 P1 rfl A2.out.1 A2.out.2 HL.out.1.1 hBw ?_
                           intro v9 w9 o9 g9 f9;have D1:=Qc (A1.out.app o9 g9 f9);have hq3:=A3.out.app o9 g9 f9;obtain⟨b7,r7,n7⟩:=Ui hq3.ou HL.out.1.2.2.2.1;have hB9:WA.heap.size<=w9.heap.size:=Lm hBw g9.size;have HN9:=Qc (And.intro (QcE A1.out.ov HN5.out.1 g9) (HN5.out.2.grown g9 HN5.out.2.size (fun b hb=>(Lq A1.out.ov b hb).1)))
                           have G9:=Qc (And.intro r7 n7);clear A1 A2 A3 HN5 o9 g9 f9 hq3 r7 n7)
                        | (at_builtin;refine Qs _ rfl _ _ rfl WA.heap.size _ YJ rfl D1.out.ou a7 b7 0 Q1.length c7 Q1 rfl G9.out.1 G9.out.2 HL.out.1.2.1 hB9 ?_
                           intro v11 w11 o11 g11 f11;have J1:=Qc (And.intro (D1.out.swap.app o11 g11 f11).swap (And.intro (QcE D1.out.ou HN9.out.1 g11) (HN9.out.2.grown g11 HN9.out.2.size (fun b hb=>(Lq D1.out.ou b hb).1))))
                           clear D1 G9 HN9 o11 g11 f11))
                      go_roundg (N.length - (j+1))
                      case rel =>
                        go_light;exact⟨j+1,rfl,HL.out.2,by go_num,by rw[HL.out.1.2.2.2.2.1,HL.out.1.2.2.2.2.2];exact J1.out.1,J1.out.2.1,J1.out.2.2⟩
                      case measure=>go_light;have:=HL.out.2;omega
                    · obtain rfl:j=N.length:=by omega
                      have hz : ¬((N.length:Int)<(N.length:Int)):=by omega
                      have hI:=HI.out;rw[Lx (Lb _),HEq.out.1,HEq.out.2.1] at hI;obtain⟨xa,xb,xc,hxv,rx,_⟩:=Qn hI.1.ov HXS.out.1;obtain⟨ya,yb,yc,hyv,ry,_⟩:=Qn hI.1.ou HXS.out.2.1;subst hxv hyv;have HFc:=Qc (HF2.out _ _ xb xc _ yb yc rx ry);have HBw:=hI.2.2;clear hI HI rx ry hlt hj HAb HF2
                      go_upto_region 30 with (go_at_call 42;with_reducible refine HFc.out.mono ?_;rintro e w5 ⟨rfl,hb5⟩)
                      have HB5:=Qc (Qa HBw hb5);clear HBw hb5
                      cases T2 with
                      | some y =>
                        obtain rfl:some y=T:=HT'.out;simp only[pA,pB',Option.isSome_some];have HBw:=Qc (HA.out _ HB5.out).2.2.2;go_wp2;exact bodyPost_ret (v:=tri (some y)) (by simp[results,Tryz.results16,go_sem,pA,pB']) rfl ⟨rfl,HBw.out⟩
                      | none =>
                        obtain rfl:T3=T:=HT'.out;simp only[pA,pB',Option.isSome_none];have HI:Hid (Pr WA.heap.size w5 (.slice none 0 0) (.slice none 0 0) ((M.take 0).flatMap gA) ((M.take 0).flatMap gB)∧Zb WA w5):=⟨Qdy _ _,HB5.out⟩;clear HB5 HT';go_wp2
                        go_loopg [27,28,34] M.length (fun g v u i wr => ∃j:Nat,g=M.length - j∧j<=M.length∧i = .int .i64 (j:Int)∧Hid (Pr WA.heap.size wr v u ((M.take j).flatMap gA) ((M.take j).flatMap gB)∧Zb WA wr))
                        case atStart =>
                          go_light;exact⟨0,rfl,Lf _,rfl,HI⟩
                        case round =>
                          clear HI;obtain⟨j,rfl,hj,rfl,HI⟩:=hrel
                          by_cases hlt:j<M.length
                          · have hz:(j:Int)<(M.length:Int):=by omega
                            have hz0:(0:Int)<=(j:Int):=Le _;have hrd:=(HA.out _ HI.out.2).2.2.1;obtain rfl:=hrd.addr (by omega)
                            obtain⟨c0,c1'⟩:=hrd.cell j hlt;rw[Cv.Uf,Ll] at c0 c1';have HLj:=HLG.out j hlt;have HAj:=HBo.out wr j (HA.out _ HI.out.2).2.2.2 hlt;obtain⟨P1,hP1⟩:=Ze (gA (M.getD j (0,0)));obtain⟨Q1,hQ1⟩:=Ze (gB (M.getD j (0,0)));obtain⟨XJ,hXJ⟩:=Ze ((M.take j).flatMap gA);obtain⟨YJ,hYJ⟩:=Ze ((M.take j).flatMap gB);rw[hP1,hQ1,hXJ,hYJ] at HLj;rw[hP1,hQ1] at HAj;rw[hXJ,hYJ] at HI;obtain⟨⟨mh,mk⟩,hm⟩ : ∃m,M.getD j (0,0)=m:=⟨_,rfl⟩;rw[hm] at c0 c1' HAj;simp only at c0 c1' HAj;have HL:=Qc (And.intro HLj hlt);have HAc:=Qc HAj;clear hrd HLj HAj hP1 hQ1 hXJ hYJ hm hlt hj
                            go_upto_region 37 with (go_at_call 46;with_reducible refine HAc.out.mono ?_;rintro e w5 ⟨v5,u5,rfl,p5,hb5⟩)
                            have hB5:WA.heap.size<=wr.heap.size:=HI.out.2.size;have hBw:WA.heap.size<=w5.heap.size:=by have:=hb5.size;omega
                            have hpr:=HI.out.1;have A1:=Qc (hpr.next hb5);have q2:=Ym hpr.ov (Lb _) p5.ov hb5 hB5;have A3:=Qc (Ym hpr.ov (Lb _) p5.ou hb5 hB5);have C3:=Qc (Ym hpr.ou (Lb _) p5.ou hb5 hB5);obtain⟨a5,b5,c5,rfl,r5,_,n5⟩:=Qn q2.ou HL.out.1.2.2.1;obtain⟨a7,_,c7,rfl,_⟩:=Qn A3.out.ou HL.out.1.2.2.2.1;have A2:=Qc (And.intro r5 n5);have HN5:=Qc (Qa HI.out.2 hb5);clear hpr p5 q2 r5 n5 HI hb5 c0 c1' HAc
                            go_wp2_with (first
                              | (at_builtin;refine Qs _ rfl _ _ rfl WA.heap.size _ XJ rfl A1.out.ov a5 b5 0 P1.length c5 P1 rfl A2.out.1 A2.out.2 HL.out.1.1 hBw ?_
                                 intro v9 w9 o9 g9 f9;have D1:=Qc (A1.out.app o9 g9 f9);have hq3:=A3.out.app o9 g9 f9;obtain⟨b7,r7,n7⟩:=Ui hq3.ou HL.out.1.2.2.2.1;have hB9:WA.heap.size<=w9.heap.size:=Lm hBw g9.size;have HN9:=Qc (HN5.out.grown g9 HN5.out.size (fun b hb=>(Lq A1.out.ov b hb).1))
                                 have G9:=Qc (And.intro r7 n7);clear A1 A2 A3 HN5 o9 g9 f9 hq3 r7 n7)
                              | (at_builtin;refine Qs _ rfl _ _ rfl WA.heap.size _ YJ rfl D1.out.ou a7 b7 0 Q1.length c7 Q1 rfl G9.out.1 G9.out.2 HL.out.1.2.1 hB9 ?_
                                 intro v11 w11 o11 g11 f11;have J1:=Qc (And.intro (D1.out.swap.app o11 g11 f11).swap (HN9.out.grown g11 HN9.out.size (fun b hb=>(Lq D1.out.ou b hb).1)))
                                 clear D1 G9 HN9 o11 g11 f11))
                            go_roundg (M.length - (j+1))
                            case rel =>
                              go_light;exact⟨j+1,rfl,HL.out.2,by go_num,by rw[HL.out.1.2.2.2.2.1,HL.out.1.2.2.2.2.2];exact J1.out.1,J1.out.2⟩
                            case measure=>go_light;have:=HL.out.2;omega
                          · obtain rfl:j=M.length:=by omega
                            have hz : ¬((M.length:Int)<(M.length:Int)):=by omega
                            have hI:=HI.out;rw[Lx (Lb _),HEq.out.2.2.1,HEq.out.2.2.2] at hI;obtain⟨xa,xb,xc,hxv,rx,_⟩:=Qn hI.1.ov HXS.out.2.2.1;obtain⟨ya,yb,yc,hyv,ry,_⟩:=Qn hI.1.ou HXS.out.2.2.2.1;subst hxv hyv;have HFc:=Qc (HF3.out _ _ xb xc _ yb yc rx ry);have HBw:=Qc hI.2;clear hI HI rx ry hlt hj HBo HF3
                            go_wp2_with (go_at_call 42;with_reducible refine HFc.out.mono ?_;rintro e w5 ⟨rfl,hb5⟩)
                            exact bodyPost_ret (v:=tri T3) (by simp[results,Tryz.results16,go_sem]) rfl ⟨rfl,(HA.out _ (Qa HBw.out hb5)).2.2.2⟩
end
end
end Go.Proofs.YtdocjikpcbmcgaaGreatDoor
