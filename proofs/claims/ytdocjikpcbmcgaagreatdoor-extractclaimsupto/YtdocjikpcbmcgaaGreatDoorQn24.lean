/- Own work. -/
import Derived.Test.YtdocjikpcbmcgaaGreatDoorQn23
set_option maxRecDepth 100000
set_option maxHeartbeats 2000000
namespace Go.Proofs.YtdocjikpcbmcgaaGreatDoor
open Go.RowKit
attribute [local go_sem ↓] Go.wp_at_zero Go.wp_at_succ
open Go.Proofs.Tryz
section
open Cv (RdC zl cU)
theorem Oy(w:World){ops:Array Oper}{o:Oper}{a:Act}{K:Act->World->Prop}{Q:Exit->Act->World->Prop}{E:Prop}(hgd:o.guard=none)
  (s x:Operand) (hop:o.op=Op.call { callee:=Callee.builtin Builtin.append,args:=#[s,x],argTypes:=#[81,81] })
  (B:Nat) (v:Value) (L:List He) (hs:a.eval s=v) (hown:Up w B v L) (ad:Addr) (cap:Nat) (e:He) (hx:a.eval x = .slice (some ad) 1 cap) (hr : ∀j u,(cH [e])[j]? = some u->w.cell? (ad.add j)=some u)
  (hlen:L.length+1<=1099511627776) (hB:B<=w.heap.size)
  (hK : ∀v' w',Up w' B v' (L++[e])->Below B w w'->w.grownBy w' v.ownBlock->K (a.put o.dst v') w'):if Region.wanted o (yielded ops a.tmps)=true then Oper.wp prog o a w K Q else E:=by
 have hw:Region.wanted o (yielded ops a.tmps)=true:=by simp[Region.wanted,hgd]
 rw[Lm hw];obtain⟨i0,hi,xC,xD,xE⟩:=info_parts Tryz.infoH;have xB : ∀k,v.ownBlock=some k->B<=k:=fun k hk=>(LP hown k hk).1
 obtain⟨v',w',xA,r1,r2,_⟩:=run_append_own (P:=prog) w B 81 o.type 85 i0 (.agg #[.int .i64 0,.int .u64 0,.string ByteArray.empty]) 3 32 underlying81 hi xC xD xE rfl (by decide) v L.length _ hown ad 1 cap (cH [e]) rfl hr (QiS [e]) (by unfold maxLen;omega) (by omega) hB
 unfold Oper.wp;simp[execOp,hop,resolve,invoke,builtin,hs,hx,xA,Result.andThen];refine hK v' w' ?_ ((Lb _ _).grown r2 hB xB) r2
 rw[Up,Lg,QiR];exact r1
theorem Qd7{w:World}{B B' e e' s s' n n' g:Nat}{v v':Value}{xs xs':List Value}(h:w.ownsRow B e s v n xs)(h':w.ownsRow B' e' s' v' n' xs')(he:e≠e')(hg:v.ownBlock=some g):v'.ownBlock≠some g:=fun hg'=>by
 obtain⟨_,cur,hc⟩:=Qaw h hg;obtain⟨_,cur',hc'⟩:=Qaw h' hg';rw[hc] at hc';injection hc' with hc'
 injection hc' with _ h2 _
 exact he h2
theorem Qay{w:World}{B n c:Nat}{a:OA}{R:List (Nat×Nat)}(h:Cv.Qx w B (.slice a n c) (zl R))(hf : ∀b∈R,(b.2+1)*2^b.1<=2^40) : ∃g,RdB w a g 0 R.length (zl R):=by
 obtain⟨ao,g,n',xB,hv,hr,_⟩:=Y4 h (fun x hx=>by
  obtain⟨b0,xA,rfl⟩:=List.mem_map.1 hx;exact(UF (hf b0 xA) (Ld _)).1)
 obtain⟨rfl,_,_⟩:=Iq hv;have hl:=hr.len;rw[Cv.QC] at hl;subst hl;exact⟨g,hr⟩
theorem QiU(w:World)(e:He) : ∀j u,(cH [e])[j]? = some u->(w.alloc (.cells #[.int .i64 (e.1.1:Int),.int .u64 (e.1.2:Int),.string e.2] 85)).drew.cell? (Addr.add ⟨w.heap.size,0,none⟩ j)=some u:=fun j u hj=>by
 rw[Addr.add_mid,Lr,cell_of_row (w.alloc (.cells #[.int .i64 (e.1.1:Int),.int .u64 (e.1.2:Int),.string e.2] 85)).drew _ _ _ _ (0,0) (Lu w _)]
 match j,hj with
 | 0,hj=>exact hj
 | 1,hj=>exact hj
 | 2,hj=>exact hj
theorem Qk7(w:World)(e:He) : ∀j u,(cH [e])[j]? = some u->(w.alloc (.cells #[.int .i64 (e.1.1:Int),.int .u64 (e.1.2:Int),.string e.2] 85)).cell? (Addr.add ⟨w.heap.size,0,none⟩ j)=some u:=fun j u hj=>by
 rw[Addr.add_mid,Lr,cell_of_row (w.alloc (.cells #[.int .i64 (e.1.1:Int),.int .u64 (e.1.2:Int),.string e.2] 85)) _ _ _ _ (0,0) (Lu w _)]
 match j,hj with
 | 0,hj=>exact hj
 | 1,hj=>exact hj
 | 2,hj=>exact hj
theorem Qcp(w:World)(hT:Tr w)(kd k:Int)(old size:Nat)(sa:OA)(sb so sc:Nat)(S:List Nat)(X:LB)(hs:RdU w sa sb so X.length S)(hns:X.length<=1048576)(da:OA)(db dO dc:Nat)(D:LB)(hr:RdS w da db dO D.length D)(xa:OA)(xb xo xc:Nat)(hx:RdS w xa xb xo X.length X)(hsz : ∀s∈X,s.size<=1048576)(he:Cv.QR size S=0)(hD:D.length=(Cv.rst 0 size S).length)(Kn:List He)(hK:knS (clk k) S X++(Cv.rst 0 size S).zip D=Kn) :
  Calls prog 97 #[vP kd k old size (.slice sa X.length sc) (.slice da D.length dc),.slice xa X.length xc] w fun e w' => ∃ao g cap,e = .returned (.slice ao Kn.length cap)∧RdH w' ao g Kn.length Kn∧Zb w w':=by
 obtain⟨xL,_,_,hc⟩:=Cv.QJ he;have xN:X.length=S.length:=hs.hl.symm;have xP:=Qko he;obtain⟨R,xM⟩:=Ze (Cv.rst 0 size S);have yE:R.length<=80*1048577:=by rw[<-xM];have:=Cv.O7 size xL S 0 hc;omega
 rw[xM] at hD hK xP;obtain⟨c,xO⟩:=Ze (clk k);rw[xO] at hK;have xV:c<=32:=by rw[<-xO];exact Qp k
 obtain⟨N,hN⟩:=Ze (knS c S X);have yD:N.length=X.length:=by rw[<-hN,Ut c S X xN,xN]
 have xH : ∀j,j<X.length->N.take (j+1)=N.take j++[((0,S.getD j 0),dg c (Qh (X.getD j ByteArray.empty)))]:=fun j hj=>by
  rw[Nz,<-hN,QbZ c xN (by omega)];rfl
 have xB : ∀j,j<R.length->(R.zip D).take (j+1)=(R.zip D).take j++[(R.getD j (0,0),D.getD j ByteArray.empty)]:=fun j hj=>by
  rw[Nz,QaK hD hj];rfl
 rw[hN] at hK;have xU:=Uy hD;obtain⟨Z,hZ⟩:=Ze (R.zip D);rw[hZ] at hK xB xU;have yA:Hid (∀W,Zb w W->Calls prog 150 #[.int .u64 (size:Int),.slice sa X.length sc] W fun e w' => ∃ao cap,e = .returned (.tuple #[.slice ao R.length cap,.int .i64 0])∧Cv.Qx w' W.heap.size (.slice ao R.length cap) (zl R)∧Zb W w'):=fun W hb=>by
  refine(Cv.Qfj size W _ sb so X.length sc S (UK (hs.next hb)) hns he).mono fun e w' ⟨v,e1,e2,e3⟩ => ?_
  rw[xM] at e2;obtain⟨ao,g,n',cap,rfl,yL,_⟩:=Y4 e2 (fun x hx=>by
   obtain⟨b0,yK,rfl⟩:=List.mem_map.1 hx;exact(UF (xP b0 yK) xL).1)
  have hl:=yL.len;rw[Cv.QC] at hl;subst hl;exact⟨ao,cap,e1,e2,e3⟩
 have xZ:Hid (∀W,Zb w W -> ∀j,j<X.length->Zr 98 #[.int .i64 k,.string (X.getD j ByteArray.empty)] W (.string (dg c (Qh (X.getD j ByteArray.empty))))):=fun W hb j hj=>JQ W (hT.next hb) k _ (by have:=hsz _ (Qv hj);omega) _ (by rw[xO])
 have h6:=Q8 w (.int .i64 kd) (.int .i64 k) (.int .u64 (old:Int)) (.int .u64 (size:Int)) (.slice sa X.length sc) (.slice da D.length dc);have hb:=bal (Lb w.heap.size w) (.cells #[.int .i64 kd,.int .i64 k,.int .u64 (old:Int),.int .u64 (size:Int),.slice sa X.length sc,.slice da D.length dc] 55);obtain⟨W0,xT⟩:=Ze (w.alloc (.cells #[.int .i64 kd,.int .i64 k,.int .u64 (old:Int),.int .u64 (size:Int),.slice sa X.length sc,.slice da D.length dc] 55));rw[xT] at h6 hb;have HS:Hid (∀W,Zb W0 W->Six W w.heap.size (.int .i64 kd) (.int .i64 k) (.int .u64 (old:Int)) (.int .u64 (size:Int)) (.slice sa X.length sc) (.slice da D.length dc)∧RdU W sa sb so X.length S∧RdS W da db dO D.length D∧RdS W xa xb xo X.length X∧Zb w W):=fun W hW=>⟨h6.next hW,hs.next (Qa hb hW),hr.next (Qa hb hW) (Ld _),hx.next (Qa hb hW) (Ld _),Qa hb hW⟩
 have HQ:Hid (N.length=X.length∧(∀j,j<X.length->N.take (j+1)=N.take j++[((0,S.getD j 0),dg c (Qh (X.getD j ByteArray.empty)))])∧(∀j,j<R.length->Z.take (j+1)=Z.take j++[(R.getD j (0,0),D.getD j ByteArray.empty)])∧Z.length=R.length∧N++Z=Kn∧R.length<=80*1048577∧X.length<=1048576∧D.length=R.length∧(∀b∈R,(b.2+1)*2^b.1<=2^40)):=⟨yD,xH,xB,xU,hK,yE,hns,hD,fun b hb=>Lz (xP b hb) xL⟩
 have yP:(X.length:Int)<=1048576:=by omega
 have yO:(R.length:Int)<=83886160:=by omega
 clear hT hs hns hr hx hsz he hD hK xL hc xN xP yE xO xV hN yD xH xB xU hZ xM h6 hb;unfold vP
 go_enter func97,ntmps97
 go_upto_region 1 with (fail)
 try rw[xT]
 clear xT;go_wp2
 go_loopg [5,6] X.length (fun gh v jj wr => ∃j:Nat,j<=X.length∧gh=X.length - j∧jj = .int .i64 (j:Int)∧Hid (Up wr W0.heap.size v (N.take j))∧Hid (Zb W0 wr))
 case atStart=>go_light;exact⟨0,Ll _,rfl,rfl,LT _ _ _ _,Lb _ _⟩
 case round =>
  obtain⟨j,hj,rfl,rfl,HO,HB⟩:=hrel
  by_cases hlt:j<X.length
  ·have hz:(j:Int)<(X.length:Int):=by omega
   have yM:(0:Int)<=(j:Int):=Lf _;obtain⟨_,hU,_,hX,xI⟩:=HS.out wr HB.out;obtain rfl:=hU.ptr (by omega)
   obtain rfl:=hX.ptr (by omega)
   have HC:Hid (∀W,Zb W0 W->W.cell? ⟨w.heap.size,1,none⟩=some (.int .i64 k)∧W.cell? ⟨w.heap.size,4,none⟩=some (.slice (some ⟨sb,so,none⟩) X.length sc)∧W.cell? ⟨sb,so+j,none⟩=some (.int .u64 (S.getD j 0:Nat))∧W.cell? ⟨xb,xo+j,none⟩=some (.string (X.getD j ByteArray.empty))):=fun W hW=>by
    obtain⟨k1,k2,_,k4,_⟩:=HS.out W hW;exact⟨k1.cells.2.1,k1.cells.2.2.2.2.1,k2.at hlt,k4.at hlt⟩
   have xS:=fun W (hW:Zb wr W)=>xZ.out W (Qa xI hW) j hlt
   have xE:=HQ.out.2.1 j hlt;obtain⟨x,hx⟩:=Ze (X.getD j ByteArray.empty);obtain⟨i,hi⟩:=Ze (S.getD j 0);obtain⟨d,hd⟩:=Ze (dg c (Qh x));rw[hx,hi] at HC;rw[hx,hd] at xS;rw[hx,hi,hd] at xE;have HL:=Qe xS;obtain⟨va,vm,vc,rfl⟩:=Cv.Qj HO.out;have HG:Hid (N.take (j+1)=N.take j++[((0,i),d)]∧(N.take j).length<=1048576∧j<X.length):=⟨xE,by rw[Lq];have:=HQ.out.2.2.2.2.2.2.1;omega,hlt⟩
   have xD:=(Lb wr.heap.size wr).drew;obtain⟨q5,q6,q7,q8⟩:=HC.out _ (Qa HB.out xD);clear hU hX xI xS xE hx hi hd hlt hj
   go_upto_region 5 with (fail)
   go_region_held3 (fun Z=>Z.cell? ⟨w.heap.size,1,none⟩=some (.int .i64 k)∧Z.cell? ⟨w.heap.size,4,none⟩=some (.slice (some ⟨sb,so,none⟩) X.length sc)∧Z.cell? ⟨sb,so+j,none⟩=some (.int .u64 (i:Int))∧Z.cell? ⟨xb,xo+j,none⟩=some (.string x)) (first|assumption|(exact HC.out _ hB3)|(exact HC.out _ (Qa HB.out hr2))|(exact HC.out _ (bal (Qa HB.out hr2) _))|(exact HC.out _ (Qa HB.out xD))) (first
    | (go_at_call 98;with_reducible refine(HL.out _ xD).mono ?_;rintro e w2 ⟨rfl,xG⟩;have hr2:=Qa xD xG)
    | (refine Oy _ (by rfl) _ _ (by rfl) W0.heap.size _ (N.take j) (by rfl) (NP (QA HO.out hr2) _) ⟨w2.heap.size,0,none⟩ 1 ((0,i),d) (by rfl) (Qk7 w2 ((0,i),d)) (by have:=HG.out.2.1;omega) (by have:=(Qa HB.out hr2).size;rw[LA];omega) ?_;intro v' w3 o1 o2 _;obtain⟨ya,ym,yc,rfl⟩:=Cv.Qj o1;have hB3:=(bal (Qa HB.out hr2) (.cells #[.int .i64 0,.int .u64 (i:Int),.string d] 85)).trans o2))
   all_goals
    have HZ:=Qe (Lo o1 hB3);clear o1 o2 hB3 hr2 xG HL HO;go_wp2
    go_roundg (X.length - (j+1))
    case rel=>go_light;exact⟨j+1,HG.out.2.2,rfl,by go_num,by rw[HG.out.1];exact HZ.out.1,HZ.out.2⟩
    case measure=>go_light;have:=HG.out.2.2;omega
  ·obtain rfl:j=X.length:=by omega
   have hz : ¬((X.length:Int)<(X.length:Int)):=by omega
   obtain⟨yH,_,_,_,xI⟩:=HS.out wr HB.out;obtain⟨k0,k1,k2,k3,k4,k5⟩:=yH.cells;have hO:=HO.out;rw[LD (by rw[HQ.out.1];exact Ld _)] at hO
   have xF:=Qe hO;have yB:=yA.out wr xI;clear hO HO yH xI hlt hj yA xZ
   go_upto_region 7 with (go_at_call 150;with_reducible refine yB.mono ?_;rintro e w2 ⟨ra,rc,rfl,yG,xG⟩)
   have xJ:Hid (Cv.Qx w2 W0.heap.size (.slice ra R.length rc) (zl R)∧Zb W0 w2∧Up w2 W0.heap.size u5 N):=⟨yG.mono HB.out.size,Qa HB.out xG,QA xF.out xG⟩;clear yG xG xF yB k0 k1 k2 k3 k4 k5;go_wp2
   go_loopg [5,9] R.length (fun gh v jj wr => ∃j:Nat,j<=R.length∧gh=R.length - j∧jj = .int .i64 (j:Int)∧Hid (Up wr W0.heap.size v (N++Z.take j))∧Hid (Zb W0 wr)∧Hid (Cv.Qx wr W0.heap.size (.slice ra R.length rc) (zl R)))
   case atStart=>go_light;exact⟨0,Ll _,rfl,rfl,by rw[NS,Na];exact xJ.out.2.2,xJ.out.2.1,xJ.out.1⟩
   case round =>
    clear xJ;obtain⟨j,hj,rfl,rfl,HO,HB,xK⟩:=hrel
    by_cases hlt:j<R.length
    ·have hz:(j:Int)<(R.length:Int):=by omega
     have yM:(0:Int)<=(j:Int):=Lf _;obtain⟨rg,xX⟩:=Qay xK.out HQ.out.2.2.2.2.2.2.2.2;obtain rfl:=xX.addr (by omega)
     have xW:j<D.length:=by rw[HQ.out.2.2.2.2.2.2.2.1];exact hlt
     have yN:(j:Int)<(D.length:Int):=by omega
     obtain⟨_,_,yC,_,_⟩:=HS.out wr HB.out;obtain rfl:=yC.ptr (by omega)
     have HC:Hid (∀W,Zb wr W->W.cell? ⟨w.heap.size,5,none⟩=some (.slice (some ⟨db,dO,none⟩) D.length dc)∧W.cell? ⟨db,dO+j,none⟩=some (.string (D.getD j ByteArray.empty))∧W.cell? ⟨rg,j*2,none⟩=some (.int .i64 ((R.getD j (0,0)).1:Nat))∧W.cell? ⟨rg,j*2+1,none⟩=some (.int .u64 ((R.getD j (0,0)).2:Nat))):=fun W hW=>by
      obtain⟨k1,_,k3,_,_⟩:=HS.out W (Qa HB.out hW);have hc:=(xX.below hW).cell j hlt;rw[Cv.Uz,Lr] at hc;exact⟨k1.cells.2.2.2.2.2,k3.at xW,hc.1,hc.2⟩
     have xE:=HQ.out.2.2.1 j hlt;obtain⟨x,hx⟩:=Ze (D.getD j ByteArray.empty);obtain⟨⟨mh,mk⟩,hm⟩ : ∃m,R.getD j (0,0)=m:=⟨_,rfl⟩;rw[hx,hm] at HC xE;simp only at HC;obtain⟨va,vm,vc,rfl⟩:=Cv.Qj HO.out;have HG:Hid (Z.take (j+1)=Z.take j++[((mh,mk),x)]∧(N++Z.take j).length<=100000000∧j<R.length):=⟨xE,by
      rw[Lg,Lq];obtain⟨a1,_,_,a4,_,a6,a7,_⟩:=HQ.out;omega,hlt⟩
     have xD:=(Lb wr.heap.size wr).drew;have xC:=bal (Lb wr.heap.size wr) (.cells #[.int .i64 (mh:Int),.int .u64 (mk:Int),.string x] 85);obtain⟨q5,q6,q7,q8⟩:=HC.out _ xD;obtain⟨r5,r6,r7,r8⟩:=HC.out _ (Lb _ _);have xF:=Qe (QA HO.out xC.drew);have xA:=Qe (QA xK.out xC.drew);have xQ:=Qe (Qa HB.out xC.drew);have xY:=Qe (QiU wr ((mh,mk),x));have xR:Hid (∀w3,Zb W0 w3->(wr.alloc (.cells #[.int .i64 (mh:Int),.int .u64 (mk:Int),.string x] 85)).drew.grownBy w3 (Value.slice va vm vc).ownBlock->(w3.cell? ⟨w.heap.size,5,none⟩=some (.slice (some ⟨db,dO,none⟩) D.length dc)∧w3.cell? ⟨db,dO+j,none⟩=some (.string x)∧w3.cell? ⟨rg,j*2,none⟩=some (.int .i64 (mh:Int))∧w3.cell? ⟨rg,j*2+1,none⟩=some (.int .u64 (mk:Int)))∧Cv.Qx w3 W0.heap.size (.slice (some ⟨rg,0,none⟩) R.length rc) (zl R)):=fun w3 h1 h2=>by
      obtain⟨k1,_,k3,_,_⟩:=HS.out w3 h1;have c2:=k3.at xW;rw[hx] at c2;obtain⟨_,_,c3,c4⟩:=HC.out _ xC.drew;have yJ : ∀g,(Value.slice (some ⟨rg,0,none⟩) R.length rc).ownBlock=some g->some g≠(Value.slice va vm vc).ownBlock:=fun g hg e=>Qd7 xA.out xF.out (by decide) hg e.symm
      have yI:=h2.block rg (LP xA.out rg rfl).2 (yJ rg rfl);exact⟨⟨k1.cells.2.2.2.2.2,c2,(LC (a:=⟨rg,j*2,none⟩) yI).trans c3,(LC (a:=⟨rg,j*2+1,none⟩) yI).trans c4⟩,Qi xA.out fun g hg _=>h2.block g (LP xA.out g hg).2 (yJ g hg)⟩
     clear xX yC xE hx hm hlt hj xW HO xK
     go_upto_region 10 with (fail)
     go_region_held3 (fun Z'=>Z'.cell? ⟨w.heap.size,5,none⟩=some (.slice (some ⟨db,dO,none⟩) D.length dc)∧Z'.cell? ⟨db,dO+j,none⟩=some (.string x)∧Z'.cell? ⟨rg,j*2,none⟩=some (.int .i64 (mh:Int))∧Z'.cell? ⟨rg,j*2+1,none⟩=some (.int .u64 (mk:Int))) (first|assumption|(exact(xR.out _ hB3 o3).1)|(exact HC.out _ xD)|(exact HC.out _ xC.drew)|(exact HC.out _ xC)) (first
      | (refine Oy _ (by rfl) _ _ (by rfl) W0.heap.size _ (N++Z.take j) (by rfl) xF.out ⟨wr.heap.size,0,none⟩ 1 ((mh,mk),x) (by rfl) xY.out (by have:=HG.out.2.1;omega) xQ.out.size ?_;intro v' w3 o1 o2 o3;obtain⟨ya,ym,yc,rfl⟩:=Cv.Qj o1;have hB3:=xQ.out.trans o2))
     all_goals
      have HZ:Hid (Up w3 W0.heap.size (.slice ya ym yc) (N++Z.take (j+1))∧Zb W0 w3∧Cv.Qx w3 W0.heap.size (.slice (some ⟨rg,0,none⟩) R.length rc) (zl R)):=⟨by rw[HG.out.1,<-LH];exact o1,hB3,(xR.out _ hB3 o3).2⟩
      clear o1 o2 o3 hB3 xR xF xA xQ xY HC xC q5 q6 q7 q8 r5 r6 r7 r8;go_wp2
      go_roundg (R.length - (j+1))
      case rel=>go_light;exact⟨j+1,HG.out.2.2,rfl,by go_num,HZ.out.1,HZ.out.2.1,HZ.out.2.2⟩
      case measure=>go_light;have:=HG.out.2.2;omega
    ·obtain rfl:j=R.length:=by omega
     have hz : ¬((R.length:Int)<(R.length:Int)):=by omega
     have hO:=HO.out;rw[LD (by rw[HQ.out.2.2.2.1];exact Ld _),HQ.out.2.2.2.2.1] at hO
     obtain⟨oa,og,oc,rfl,yF⟩:=QdR hO;have HF:=Qe (Lo yF (HS.out wr HB.out).2.2.2.2);clear hO yF hlt hj HO xK;go_wp2
     go_ret
     exact⟨oa,⟨oc,rfl⟩,⟨og,HF.out.1⟩,HF.out.2⟩
end
section
open Cv (RdC zl cU Rd YE QY)
theorem Yx(w:World)(ao:OA)(b off n cap:Nat)(l:List Nat)(r:Rd w ao b off n l)(hn:n<=maxLen) :
  Calls prog 173 #[.slice ao n cap] w fun e w'=>e = .returned (.bool (YE l)) ∧ ∃m,w'=w.drewN m:=by
 have xF:(n:Int)<=9223372036854775807:=by unfold maxLen at hn;omega
 have HR:Hid (Rd w ao b off n l):=r;clear hn r
 go_enter func173,ntmps173;go_wp2
 go_loopg [3] n (fun g i wr => ∃k:Nat,(k<=n∨k=1)∧1<=k∧g=n+1 - k∧i = .int .i64 (k:Int)∧(∀j,j+1<k->l.getD j 0<l.getD (j+1) 0) ∧ ∃m,wr=w.drewN m)
 case atStart=>go_light;exact⟨1,.inr rfl,Ld _,by omega,rfl,fun j hj=>absurd hj (by omega),0,rfl⟩
 case round =>
  obtain⟨k,hk,xE,rfl,rfl,he,m,hm⟩:=hrel;have hb:Zb w wr:=by rw[hm];exact Qd (Lb _ _) _
  have HM:=Qe hm;clear hm;have xD:(0:Int)<=(k:Int):=Lf _
  by_cases hlt:k<n
  ·obtain⟨i,rfl⟩ : ∃i,k=i+1:=⟨k - 1,by omega⟩
   have r1:=HR.out.below hb;obtain rfl:=r1.addr (by omega)
   have c1:=r1.cell (i+1) hlt;have c2:=r1.cell i (by omega)
   have hz:((i+1:Nat):Int)<(n:Int):=by omega
   have ei:(((i+1:Nat):Int) - 1)=(i:Int):=by omega
   have ec:((i+1:Nat):Int)=(i:Int)+1:=by omega
   have xH:(i:Int)+1<(n:Int):=by omega
   have xI:(i:Int)<(n:Int):=by omega
   have xB:(0:Int)<=(i:Int):=Lf _;have xC:(0:Int)<=(i:Int)+1:=by omega
   have HE:Hid (∀j,j+1<i+1->l.getD j 0<l.getD (j+1) 0):=he;have HI:Hid (¬l.getD i 0<l.getD (i+1) 0->YE l=false):=fun hno=>by
    cases hB:YE l with
    | false=>rfl
    | true=>exact absurd (((QY l).1 hB).2 i (by have:=HR.out.len;omega)) hno
   obtain⟨x,hx⟩:=Ze (l.getD (i+1) 0);obtain⟨y,hy⟩:=Ze (l.getD i 0);rw[hx] at c1;rw[hy] at c2;rw[hx,hy] at HI;have HX:Hid (l.getD (i+1) 0=x∧l.getD i 0=y):=⟨hx,hy⟩;have xA:i+1<n:=hlt;clear hx hy r1 hb he hk hlt
   by_cases hxy:x<=y
   ·have HN:Hid (YE l=false):=HI.out (by omega)
    go_wp2
    go_quiet (fail)
    go_wp2
    go_ret
    exact⟨by rw[HN.out];rfl,_,by rw[HM.out,World.drewN_drewN]⟩
   ·go_wp2
    go_quiet (fail)
    go_wp2
    go_roundg (n+1 - (i+1+1))
    case rel =>
     go_light;refine⟨i+1+1,by omega,by omega,rfl,by go_num,fun j hj => ?_,_,by rw[HM.out,World.drewN_drewN]⟩
     by_cases hjk:j=i
     ·subst hjk;rw[HX.out.1,HX.out.2];omega
     ·exact HE.out j (by omega)
    case measure=>go_light;omega
  ·have hz : ¬(k:Int)<(n:Int):=by omega
   have xG : ¬k<n:=by omega
   have HN:Hid (decide ((0:Int)<(n:Int))=YE l):=by
    have hl:=HR.out.len
    cases hB:YE l with
    | true=>have:=((QY l).1 hB).1;exact Ln (by omega)
    | false =>
     refine Lj (fun hp => ?_)
     have:YE l=true:=(QY l).2 ⟨by omega,fun i hi=>he i (by omega)⟩
     rw[this] at hB;cases hB
   clear he hb hk;go_wp2
   go_ret
   refine⟨?_,m,HM.out⟩
   have:=HN.out;simp at this ⊢;exact this
theorem Qii(w:World)(kd k:Int)(old size:Nat)(sa:OA)(sb so sc:Nat)(S:List Nat)(hs:RdU w sa sb so S.length S)(hns:S.length<=1048576)(da:OA)(dn dc:Nat)(c1 : ¬kd=2) :
  Zr 149 #[vP kd k old size (.slice sa S.length sc) (.slice da dn dc)] w (.bool false):=by
 have h6:=Q8 w (.int .i64 kd) (.int .i64 k) (.int .u64 (old:Int)) (.int .u64 (size:Int)) (.slice sa S.length sc) (.slice da dn dc);have hb:=bal (Lb w.heap.size w) (.cells #[.int .i64 kd,.int .i64 k,.int .u64 (old:Int),.int .u64 (size:Int),.slice sa S.length sc,.slice da dn dc] 55);obtain⟨W0,xA⟩:=Ze (w.alloc (.cells #[.int .i64 kd,.int .i64 k,.int .u64 (old:Int),.int .u64 (size:Int),.slice sa S.length sc,.slice da dn dc] 55));rw[xA] at h6 hb;obtain⟨g0,g1,g2,g3,g4,g5⟩:=h6.cells;have HB:=Qe hb;have HC:Hid (∀W,Calls prog 20 #[.int .i64 k] W fun e w'=>e = .returned (.int .i64 (chk k))∧w'=W):=fun W=>Qy W k
 have xB:Hid (∀W,Zb W0 W->Calls prog 173 #[.slice sa S.length sc] W fun e w'=>e = .returned (.bool (YE S)) ∧ ∃m,w'=W.drewN m):=fun W hW=>Yx W sa sb so S.length sc S (UK (hs.next (Qa hb hW))) (by unfold maxLen;omega)
 unfold vP;have f2:decide (kd=2)=false:=Lj c1
 have f3:(kd != 2)=true:=by simp;exact c1
 have f4:(!decide (kd=2))=true:=by rw[f2];rfl
 clear hs h6 hb hns f2
 go_enter func149,ntmps149
 go_upto_region 1 with (fail)
 try rw[xA]
 clear xA
 go_quiet (fail)
 go_wp2
 go_ret
 exact⟨rfl,Qd HB.out _⟩
theorem Qij(w:World)(kd k:Int)(old size:Nat)(sa:OA)(sb so sc:Nat)(S:List Nat)(hs:RdU w sa sb so S.length S)(hns:S.length<=1048576)(da:OA)(dn dc:Nat)(c1:kd=2)(c2 : ¬(1<=k∧k<=32)) :
  Zr 149 #[vP kd k old size (.slice sa S.length sc) (.slice da dn dc)] w (.bool false):=by
 have h6:=Q8 w (.int .i64 kd) (.int .i64 k) (.int .u64 (old:Int)) (.int .u64 (size:Int)) (.slice sa S.length sc) (.slice da dn dc);have hb:=bal (Lb w.heap.size w) (.cells #[.int .i64 kd,.int .i64 k,.int .u64 (old:Int),.int .u64 (size:Int),.slice sa S.length sc,.slice da dn dc] 55);obtain⟨W0,xA⟩:=Ze (w.alloc (.cells #[.int .i64 kd,.int .i64 k,.int .u64 (old:Int),.int .u64 (size:Int),.slice sa S.length sc,.slice da dn dc] 55));rw[xA] at h6 hb;obtain⟨g0,g1,g2,g3,g4,g5⟩:=h6.cells;have HB:=Qe hb;have HC:Hid (∀W,Calls prog 20 #[.int .i64 k] W fun e w'=>e = .returned (.int .i64 70)∧w'=W):=fun W=>by have:=Qy W k;rw[show chk k=70 by rw[chk,Lm (by omega)]] at this;exact this
 have xB:Hid (∀W,Zb W0 W->Calls prog 173 #[.slice sa S.length sc] W fun e w'=>e = .returned (.bool (YE S)) ∧ ∃m,w'=W.drewN m):=fun W hW=>Yx W sa sb so S.length sc S (UK (hs.next (Qa hb hW))) (by unfold maxLen;omega)
 unfold vP;subst c1;clear hs h6 hb hns c2
 go_enter func149,ntmps149
 go_upto_region 1 with (fail)
 try rw[xA]
 clear xA
 go_quiet (first
  | (go_at_call 20;refine Calls.quiet_of_same (HC.out _)))
 go_wp2
 go_ret
 exact⟨rfl,Qd HB.out _⟩
theorem Qik(w:World)(kd k:Int)(old size:Nat)(sa:OA)(sb so sc:Nat)(S:List Nat)(hs:RdU w sa sb so S.length S)(hns:S.length<=1048576)(da:OA)(dn dc:Nat)(c1:kd=2)(c2:1<=k∧k<=32)(c3:2^40<size) :
  Zr 149 #[vP kd k old size (.slice sa S.length sc) (.slice da dn dc)] w (.bool false):=by
 have h6:=Q8 w (.int .i64 kd) (.int .i64 k) (.int .u64 (old:Int)) (.int .u64 (size:Int)) (.slice sa S.length sc) (.slice da dn dc);have hb:=bal (Lb w.heap.size w) (.cells #[.int .i64 kd,.int .i64 k,.int .u64 (old:Int),.int .u64 (size:Int),.slice sa S.length sc,.slice da dn dc] 55);obtain⟨W0,xA⟩:=Ze (w.alloc (.cells #[.int .i64 kd,.int .i64 k,.int .u64 (old:Int),.int .u64 (size:Int),.slice sa S.length sc,.slice da dn dc] 55));rw[xA] at h6 hb;obtain⟨g0,g1,g2,g3,g4,g5⟩:=h6.cells;have HB:=Qe hb;have HC:Hid (∀W,Calls prog 20 #[.int .i64 k] W fun e w'=>e = .returned (.int .i64 0)∧w'=W):=fun W=>by have:=Qy W k;rw[show chk k=0 by rw[chk,Le (by omega)]] at this;exact this
 have xB:Hid (∀W,Zb W0 W->Calls prog 173 #[.slice sa S.length sc] W fun e w'=>e = .returned (.bool (YE S)) ∧ ∃m,w'=W.drewN m):=fun W hW=>Yx W sa sb so S.length sc S (UK (hs.next (Qa hb hW))) (by unfold maxLen;omega)
 unfold vP;subst c1;have f8:decide ((1099511627776:Int)<(size:Int))=true:=Ln (by omega)
 clear hs h6 hb hns c2 c3
 go_enter func149,ntmps149
 go_upto_region 1 with (fail)
 try rw[xA]
 clear xA
 go_quiet (first
  | (go_at_call 20;refine Calls.quiet_of_same (HC.out _)))
 go_wp2
 go_ret
 exact⟨rfl,Qd HB.out _⟩
theorem Qil(w:World)(kd k:Int)(old size:Nat)(sa:OA)(sb so sc:Nat)(S:List Nat)(hs:RdU w sa sb so S.length S)(hns:S.length<=1048576)(da:OA)(dn dc:Nat)(c1:kd=2)(c2:1<=k∧k<=32)(c3 : ¬2^40<size)(c4 : ¬old=0) :
  Zr 149 #[vP kd k old size (.slice sa S.length sc) (.slice da dn dc)] w (.bool false):=by
 have h6:=Q8 w (.int .i64 kd) (.int .i64 k) (.int .u64 (old:Int)) (.int .u64 (size:Int)) (.slice sa S.length sc) (.slice da dn dc);have hb:=bal (Lb w.heap.size w) (.cells #[.int .i64 kd,.int .i64 k,.int .u64 (old:Int),.int .u64 (size:Int),.slice sa S.length sc,.slice da dn dc] 55);obtain⟨W0,xA⟩:=Ze (w.alloc (.cells #[.int .i64 kd,.int .i64 k,.int .u64 (old:Int),.int .u64 (size:Int),.slice sa S.length sc,.slice da dn dc] 55));rw[xA] at h6 hb;obtain⟨g0,g1,g2,g3,g4,g5⟩:=h6.cells;have HB:=Qe hb;have HC:Hid (∀W,Calls prog 20 #[.int .i64 k] W fun e w'=>e = .returned (.int .i64 0)∧w'=W):=fun W=>by have:=Qy W k;rw[show chk k=0 by rw[chk,Le (by omega)]] at this;exact this
 have xB:Hid (∀W,Zb W0 W->Calls prog 173 #[.slice sa S.length sc] W fun e w'=>e = .returned (.bool (YE S)) ∧ ∃m,w'=W.drewN m):=fun W hW=>Yx W sa sb so S.length sc S (UK (hs.next (Qa hb hW))) (by unfold maxLen;omega)
 unfold vP;subst c1;have f8:decide ((1099511627776:Int)<(size:Int))=false:=Lj (by omega)
 have f6:decide (old=0)=false:=Lj c4
 have f7:decide ((old:Int)=0)=false:=Lj (by omega)
 have f9:((old:Int) != 0)=true:=by simp;omega
 have xC:(!decide (old=0))=true:=by rw[f6];rfl
 have xD:(!decide ((old:Int)=0))=true:=by rw[f7];rfl
 clear hs h6 hb hns c2 c3 c4 f6 f7
 go_enter func149,ntmps149
 go_upto_region 1 with (fail)
 try rw[xA]
 clear xA
 go_quiet (first
  | (go_at_call 20;refine Calls.quiet_of_same (HC.out _)))
 go_wp2
 go_ret
 exact⟨rfl,Qd HB.out _⟩
theorem Qim(w:World)(kd k:Int)(old size:Nat)(sa:OA)(sb so sc:Nat)(S:List Nat)(hs:RdU w sa sb so S.length S)(hns:S.length<=1048576)(da:OA)(dn dc:Nat)(c1:kd=2)(c2:1<=k∧k<=32)(c3 : ¬2^40<size)(c4:old=0)(c5:YE S=false) :
  Zr 149 #[vP kd k old size (.slice sa S.length sc) (.slice da dn dc)] w (.bool false):=by
 have h6:=Q8 w (.int .i64 kd) (.int .i64 k) (.int .u64 (old:Int)) (.int .u64 (size:Int)) (.slice sa S.length sc) (.slice da dn dc);have hb:=bal (Lb w.heap.size w) (.cells #[.int .i64 kd,.int .i64 k,.int .u64 (old:Int),.int .u64 (size:Int),.slice sa S.length sc,.slice da dn dc] 55);obtain⟨W0,xA⟩:=Ze (w.alloc (.cells #[.int .i64 kd,.int .i64 k,.int .u64 (old:Int),.int .u64 (size:Int),.slice sa S.length sc,.slice da dn dc] 55));rw[xA] at h6 hb;obtain⟨g0,g1,g2,g3,g4,g5⟩:=h6.cells;have HB:=Qe hb;have HC:Hid (∀W,Calls prog 20 #[.int .i64 k] W fun e w'=>e = .returned (.int .i64 0)∧w'=W):=fun W=>by have:=Qy W k;rw[show chk k=0 by rw[chk,Le (by omega)]] at this;exact this
 have xB:Hid (∀W,Zb W0 W->Calls prog 173 #[.slice sa S.length sc] W fun e w'=>e = .returned (.bool false) ∧ ∃m,w'=W.drewN m):=fun W hW=>by rw[<-c5];exact Yx W sa sb so S.length sc S (UK (hs.next (Qa hb hW))) (by unfold maxLen;omega)
 unfold vP;subst c1 c4;have f8:decide ((1099511627776:Int)<(size:Int))=false:=Lj (by omega)
 rw[show((0:Nat):Int)=0 from rfl] at *
 clear hs h6 hb hns c2 c3 c5
 go_enter func149,ntmps149
 go_upto_region 1 with (fail)
 try rw[xA]
 clear xA
 go_quiet (first
  | (go_at_call 20;refine Calls.quiet_of_same (HC.out _))
  | (go_at_call 173;refine Calls.quiet_of (xB.out _ (Qd (Lb _ _) _))))
 go_wp2
 go_ret
 exact⟨rfl,Qd HB.out _⟩
theorem Qin(w:World)(kd k:Int)(old size:Nat)(sa:OA)(sb so sc:Nat)(S:List Nat)(hs:RdU w sa sb so S.length S)(hns:S.length<=1048576)(da:OA)(dn dc:Nat)(c1:kd=2)(c2:1<=k∧k<=32)(c3 : ¬2^40<size)(c4:old=0)(c5:YE S=true)(c6:size<=S.getD (S.length - 1) 0) :
  Zr 149 #[vP kd k old size (.slice sa S.length sc) (.slice da dn dc)] w (.bool false):=by
 have h6:=Q8 w (.int .i64 kd) (.int .i64 k) (.int .u64 (old:Int)) (.int .u64 (size:Int)) (.slice sa S.length sc) (.slice da dn dc);have hb:=bal (Lb w.heap.size w) (.cells #[.int .i64 kd,.int .i64 k,.int .u64 (old:Int),.int .u64 (size:Int),.slice sa S.length sc,.slice da dn dc] 55);obtain⟨W0,xA⟩:=Ze (w.alloc (.cells #[.int .i64 kd,.int .i64 k,.int .u64 (old:Int),.int .u64 (size:Int),.slice sa S.length sc,.slice da dn dc] 55));rw[xA] at h6 hb;obtain⟨g0,g1,g2,g3,g4,g5⟩:=h6.cells;have HB:=Qe hb;have HC:Hid (∀W,Calls prog 20 #[.int .i64 k] W fun e w'=>e = .returned (.int .i64 0)∧w'=W):=fun W=>by have:=Qy W k;rw[show chk k=0 by rw[chk,Le (by omega)]] at this;exact this
 have xD:Hid (∀W,Zb W0 W->Calls prog 173 #[.slice sa S.length sc] W fun e w'=>e = .returned (.bool true) ∧ ∃m,w'=W.drewN m):=fun W hW=>by rw[<-c5];exact Yx W sa sb so S.length sc S (UK (hs.next (Qa hb hW))) (by unfold maxLen;omega)
 unfold vP;subst c1 c4;have f8:decide ((1099511627776:Int)<(size:Int))=false:=Lj (by omega)
 have xB:=((QY S).1 c5).1;obtain rfl:=hs.ptr xB;obtain⟨l1,xC⟩:=Ze (S.length - 1);have xF:(S.length:Int) - 1=(l1:Int):=by omega
 have xG:(l1:Int)<(S.length:Int):=by omega
 have xH:(0:Int)<=(l1:Int):=Lf _;have cl:=(hs.next hb).at (j:=l1) (by omega)
 rw[xC] at c6;obtain⟨y,hy⟩:=Ze (S.getD l1 0);rw[hy] at cl c6;have xE:(S.length:Int)<=1048576:=by omega
 have d1:decide ((size:Int)<=(y:Int))=true:=Ln (by omega)
 have d2:decide (size<=y)=true:=Ln c6
 rw[show((0:Nat):Int)=0 from rfl] at *
 clear hs h6 hb hns c2 c3 c5 xB xC hy
 go_enter func149,ntmps149
 go_upto_region 1 with (fail)
 try rw[xA]
 clear xA
 go_quiet (first
  | (go_at_call 20;refine Calls.quiet_of_same (HC.out _))
  | (go_at_call 173;refine Calls.quiet_of (xD.out _ (Qd (Lb _ _) _))))
 go_wp2
 go_ret
 exact⟨rfl,Qd HB.out _⟩
theorem Qio(w:World)(kd k:Int)(old size:Nat)(sa:OA)(sb so sc:Nat)(S:List Nat)(hs:RdU w sa sb so S.length S)(hns:S.length<=1048576)(da:OA)(dn dc:Nat)(c1:kd=2)(c2:1<=k∧k<=32)(c3 : ¬2^40<size)(c4:old=0)(c5:YE S=true)(c6 : ¬size<=S.getD (S.length - 1) 0)(db dO:Nat)(D:LB)(hdn:D.length=dn)(hr:RdS w da db dO dn D)(hm:dn<=8796093022208)(q:Nat)(hq:(Cv.rst 0 size S).length=q)(r:Bool)(hq2:decide (fil k q D)=r) :
  Zr 149 #[vP kd k old size (.slice sa S.length sc) (.slice da dn dc)] w (.bool r):=by
 have xA:Cv.QR size S=0:=by rw[Cv.QR,Le c3,Le (by rw[c5];decide),Le c6]
 have h6:=Q8 w (.int .i64 kd) (.int .i64 k) (.int .u64 (old:Int)) (.int .u64 (size:Int)) (.slice sa S.length sc) (.slice da dn dc);have hb:=bal (Lb w.heap.size w) (.cells #[.int .i64 kd,.int .i64 k,.int .u64 (old:Int),.int .u64 (size:Int),.slice sa S.length sc,.slice da dn dc] 55);obtain⟨W0,xE⟩:=Ze (w.alloc (.cells #[.int .i64 kd,.int .i64 k,.int .u64 (old:Int),.int .u64 (size:Int),.slice sa S.length sc,.slice da dn dc] 55));rw[xE] at h6 hb;obtain⟨g0,g1,g2,g3,g4,g5⟩:=h6.cells;have HB:=Qe hb;have HC:Hid (∀W,Calls prog 20 #[.int .i64 k] W fun e w'=>e = .returned (.int .i64 0)∧w'=W):=fun W=>by have:=Qy W k;rw[show chk k=0 by rw[chk,Le (by omega)]] at this;exact this
 have xL:Hid (∀W,Zb W0 W->Calls prog 173 #[.slice sa S.length sc] W fun e w'=>e = .returned (.bool true) ∧ ∃m,w'=W.drewN m):=fun W hW=>by rw[<-c5];exact Yx W sa sb so S.length sc S (UK (hs.next (Qa hb hW))) (by unfold maxLen;omega)
 unfold vP;subst c1 c4 hdn;have f8:decide ((1099511627776:Int)<(size:Int))=false:=Lj (by omega)
 have xH:=((QY S).1 c5).1;obtain rfl:=hs.ptr xH;obtain⟨l1,xI⟩:=Ze (S.length - 1);have xR:(S.length:Int) - 1=(l1:Int):=by omega
 have xS:(l1:Int)<(S.length:Int):=by omega
 have xT:(0:Int)<=(l1:Int):=Lf _;have cl:=(hs.next hb).at (j:=l1) (by omega)
 rw[xI] at c6;obtain⟨y,hy⟩:=Ze (S.getD l1 0);rw[hy] at cl c6;have xM:(S.length:Int)<=1048576:=by omega
 have d1:decide ((size:Int)<=(y:Int))=false:=Lj (by omega)
 have d2:decide (size<=y)=false:=Lj c6
 have xF:q<2^40:=by
  have h1:=Cv.O7 size (by omega) S 0 (Cv.QJ xA).2.2.2
  omega
 have xJ:Hr W0 174 #[.int .u64 (size:Int),.slice (some ⟨sb,so,none⟩) S.length sc] (.tuple #[.int .u64 (q:Int),.int .i64 0]):=fun W hW=>Qif size W _ sb so S.length sc S (UK (hs.next (Qa hb hW))) hns xA q hq
 have xK:Hr W0 175 #[.int .i64 k,.slice da D.length dc,.int .i64 (D.length:Int)] (.bool (decide (fil k D.length D))):=fun W hW=>Qig W k da db dO dc D (hr.next (Qa hb hW) (Ld _)) hm D.length _ rfl
 have HS:Hid (∀W,Zb W0 W->Six W w.heap.size (.int .i64 2) (.int .i64 k) (.int .u64 0) (.int .u64 (size:Int)) (.slice (some ⟨sb,so,none⟩) S.length sc) (.slice da D.length dc)):=fun W hW=>h6.next hW
 have xQ:(D.length:Int)<=8796093022208:=by omega
 rw[show((0:Nat):Int)=0 from rfl] at *
 clear hs h6 hb hns c2 c3 c5 xH xI hy c6 xA hr hm hq xF
 go_enter func149,ntmps149
 go_upto_region 1 with (fail)
 try rw[xE]
 clear xE
 go_quiet (first
  | (go_at_call 20;refine Calls.quiet_of_same (HC.out _))
  | (go_at_call 173;refine Calls.quiet_of (xL.out _ (Qd (Lb _ _) _))))
 have xD:=Qd (Lb W0.heap.size W0) nq;obtain⟨m0,m1,m2,m3,m4,m5⟩:=(HS.out _ xD).cells;have xG:=xJ.out _ xD;have xC:=Qe xD;clear xD;generalize W0.drewN nq=wq at *
 by_cases hDq:D.length=q
 ·obtain rfl:decide (fil k D.length D)=r:=by rw[hDq];exact hq2
  subst hDq;have eD:IntKind.u64.wrap (D.length:Int)=(D.length:Int):=by rw[IntKind.wrap_u64];omega
  clear hq2
  go_wp2_with (first
   | (go_at_call 174;with_reducible refine xG.mono ?_;rintro e w2 ⟨rfl,xB⟩;obtain⟨n0,n1,n2,n3,n4,n5⟩:=(HS.out _ (Qa xC.out xB)).cells)
   | (go_at_call 175;with_reducible refine(xK.out _ (Qa xC.out xB)).mono ?_;rintro e w3 ⟨rfl,xN⟩))
  go_ret
  exact⟨rfl,Qa HB.out (Qa (Qa xC.out xB) xN)⟩
 ·obtain rfl:false=r:=by rw[<-hq2];exact(Lj fun h=>hDq h.1).symm
  have eD:IntKind.u64.wrap (D.length:Int)=(D.length:Int):=by rw[IntKind.wrap_u64];omega
  have xP : ¬(D.length:Int)=(q:Int):=by omega
  have xO:decide (D.length=q)=false:=Lj hDq
  clear hq2
  go_wp2_with (first
   | (go_at_call 174;with_reducible refine xG.mono ?_;rintro e w2 ⟨rfl,xB⟩;obtain⟨n0,n1,n2,n3,n4,n5⟩:=(HS.out _ (Qa xC.out xB)).cells))
  go_ret
  exact⟨rfl,Qa HB.out (Qa xC.out xB)⟩
theorem JT(w:World)(kd k:Int)(old size:Nat)(sa:OA)(sb so sc:Nat)(S:List Nat)(hs:RdU w sa sb so S.length S)(hns:S.length<=1048576)(da:OA)(db dO dc:Nat)(D:LB)(hr:RdS w da db dO D.length D)(hm:D.length<=8796093022208)(r:Bool)(hq:decide (okB kd k old size S D)=r) :
  Zr 149 #[vP kd k old size (.slice sa S.length sc) (.slice da D.length dc)] w (.bool r):=by
 have no : ¬okB kd k old size S D->r=false:=fun h=>by rw[<-hq];exact Lj h
 by_cases c1:kd=2
 ·by_cases c2:1<=k∧k<=32
  ·by_cases c3:2^40<size
   ·rw[no (fun h=>by have:=(Cv.QJ h.2.1).1;omega)]
    exact Qik w kd k old size sa sb so sc S hs hns da D.length dc c1 c2 c3
   ·by_cases c4:old=0
    ·by_cases c5:YE S=true
     ·by_cases c6:size<=S.getD (S.length - 1) 0
      ·rw[no (fun h=>by have:=(Cv.QJ h.2.1).2.2.1;omega)]
       exact Qin w kd k old size sa sb so sc S hs hns da D.length dc c1 c2 c3 c4 c5 c6
      ·have xA:Cv.QR size S=0:=by rw[Cv.QR,Le c3,Le (by rw[c5];decide),Le c6]
       refine Qio w kd k old size sa sb so sc S hs hns da D.length dc c1 c2 c3 c4 c5 c6 db dO D rfl hr hm _ rfl r ?_
       rw[<-hq];have:okB kd k old size S D↔fil k (Cv.rst 0 size S).length D:=by
        rw[okB,Cv.rstS,Lm xA];exact⟨fun h=>h.2.2,fun h=>⟨⟨c1,c2,c4⟩,xA,h⟩⟩
       simp only[this]
     ·rw[no (fun h=>c5 ((QY S).2 (Cv.QJ h.2.1).2.1))]
      exact Qim w kd k old size sa sb so sc S hs hns da D.length dc c1 c2 c3 c4 (by simpa using c5)
    ·rw[no (fun h=>c4 h.1.2.2)]
     exact Qil w kd k old size sa sb so sc S hs hns da D.length dc c1 c2 c3 c4
  ·rw[no (fun h=>c2 h.1.2.1)]
   exact Qij w kd k old size sa sb so sc S hs hns da D.length dc c1 c2
 ·rw[no (fun h=>c1 h.1.1)]
  exact Qii w kd k old size sa sb so sc S hs hns da D.length dc c1
end
end Go.Proofs.YtdocjikpcbmcgaaGreatDoor
