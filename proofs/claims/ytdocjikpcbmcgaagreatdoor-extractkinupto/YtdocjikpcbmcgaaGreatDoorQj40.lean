/- Own work. -/
import Derived.Test.YtdocjikpcbmcgaaGreatDoorQj39
set_option maxRecDepth 100000
set_option maxHeartbeats 1000000
namespace Go.Proofs.YtdocjikpcbmcgaaGreatDoor
open Go.RowKit
attribute [local go_sem ↓] Go.wp_at_zero Go.wp_at_succ
theorem Qgh(w:World)(s:BA){B:Nat}(hB:B<=w.heap.size):Qk (w.alloc (.cells #[.string s] 9)) B (.slice (some ⟨w.heap.size,0,none⟩) 1 1) [s] :=
 ⟨rfl,.inr ⟨w.heap.size,1,#[.string s],rfl,hB,heap_alloc_new w _,Lb _,by decide,rfl,rfl⟩⟩
theorem rtop_any (w:World) (ht:Tr w) (k:Int) (n:Nat) (hn:n<18446744073709551616) (pa:OA) (pb po pc:Nat) (P:LB) (hP:RdS w pa pb po P.length P) (hpc:P.length<=pc) (hm:P.length<=100) (hsz : ∀s∈P,s.size<=32) (R:LB) (hR:tx (clk k) n P=R) :
    Calls Tryz.prog 43 #[.int .i64 k,.int .u64 (n:Int),.slice pa P.length pc] w fun e w' => ∃v,e = .returned v∧Qk w' w.heap.size v R∧Zb w w':=by
  have hc:=Qx k;obtain⟨x,hx⟩:=Ze (QA (clk k) P);obtain⟨r0,hr0⟩:=Ze (QN n x);have hxs:x.size<=32:=by rw[<-hx];exact Yc hc (Lb _) _ hsz
  have HB0:Hid (∀W,Zb w W->Zr 53 #[.int .i64 k,.slice pa P.length pc] W (.string x)):=fun W hb=>UY W (ht.next hb) k pa pb po P.length pc P (hP.next hb (Lb _)) (fun s hs=>Lm (hsz s hs) (by decide)) (by omega) x hx
  have HR0:Hid (∀W,Zr 52 #[.int .u64 (n:Int),.string x] W (.string r0)):=fun W=>Qac W n hn x (by omega) r0 hr0
  have HS:Hid (∀j,j+1<P.length -> ∃a y t,pa=some ⟨pb,po,none⟩∧(∀W,Zb w W->W.cell? ⟨pb,po+j,none⟩=some (.string a))∧(∀W,Zb w W->Zr 53 #[.int .i64 k,.slice (some ⟨pb,po+(j+1),none⟩) (P.length - (j+1)) (pc - (j+1))] W (.string y))∧(∀W,Zr 88 #[.string a,.string y] W (.string t))∧(bx (clk k) P).take (j+1)=(bx (clk k) P).take j++[t]):=fun j hj=>by
    have hptr:=hP.ptr (by omega)
    obtain⟨a,ha⟩:=Ze (P.getD j ByteArray.empty);obtain⟨y,hy⟩:=Ze (QA (clk k) (P.drop (j+1)));have hys:y.size<=32:=by rw[<-hy];exact Yc hc (Lb _) _ (fun s hs=>hsz s (LU hs))
    have has:a.size<=32:=by rw[<-ha];exact hsz _ (QI (by omega))
    refine⟨a,y,UG a y,hptr,fun W hb => ?_,fun W hb => ?_,fun W=>QaQ W a y (by omega) (by omega) _ rfl,?_⟩
    · have:=(hP.next hb (Lb _)).at (k:=j) (by omega)
      rw[ha] at this;exact this
    · have hd:=Jf (H:=j+1) (dc:=pc) hP hpc (by omega) (fun h=>by rw[hptr] at h;cases h) (ax:=some ⟨pb,po+(j+1),none⟩) (by rw[if_neg (by omega),hptr];simp[Addr.add_mid])
      have:=UY W (ht.next hb) k (some ⟨pb,po+(j+1),none⟩) pb (po+(j+1)) _ (pc - (j+1)) _ (hd.1.next hb (Lb _)) (fun s hs=>Lm (hsz s (LU hs)) (by decide)) (by rw[LD];omega) y hy
      rwa [LD] at this
    · rw[Qj9 _ _ _ hj,ha,hy]
  have HEnd:Hid (∀j,P.length<=j+1->[r0]++(bx (clk k) P).take j=R):=fun j hj=>by
    rw[Lx (by rw[Qbq];omega),<-hR,tx,hx,hr0];rfl
  have HLn:Hid (∀j,([r0]++(bx (clk k) P).take j).length<=1000):=fun j=>by
    rw[Ld,Lv,Qbq];simp;omega
  have zc:(P.length:Int)<=(pc:Int):=by omega
  have zm:(P.length:Int)<=100:=by omega
  have hpc':=Qc hpc;clear hP hpc hm hsz hR hx hr0 hxs hc ht hn
  go_enter Tryz.func43,Tryz.ntmps43
  go_upto_region 2 with (first
    | (go_at_call 53;with_reducible refine(HB0.out _ (Below.refl _ _)).mono ?_;rintro e w1 ⟨rfl,hb1⟩)
    | (go_at_call 52;with_reducible refine(HR0.out _).mono ?_;rintro e w2 ⟨rfl,hb2⟩))
  have hb12:=Qa hb1 hb2;obtain⟨F,hFe,oF,hbF⟩ : ∃F,w2.alloc (.cells #[.string r0] 9)=F∧Qk F w.heap.size (.slice (some ⟨w2.heap.size,0,none⟩) 1 1) ([r0]++(bx (clk k) P).take 0)∧Zb w F:=⟨_,rfl,Qgh w2 r0 hb12.size,bal hb12 _⟩
  try rw[hFe]
  clear hFe hb1 hb2 hb12 HB0 HR0;have HO:=Qc (And.intro oF hbF);clear oF hbF;go_wp2
  go_loopg [7,8] P.length (fun g v i wr => ∃j:Nat,g=P.length - j∧j<=P.length∧i = .int .i64 (j:Int)∧Hid (Qk wr w.heap.size v ([r0]++(bx (clk k) P).take j)∧Zb w wr))
  case atStart =>
    go_light;exact⟨0,rfl,Lf _,rfl,HO⟩
  case round =>
    clear HO;obtain⟨j,rfl,hj,rfl,HI⟩:=hrel
    by_cases hlt:j+1<P.length
    · obtain⟨a,y,t,rfl,ca,hB,hT,htk⟩:=HS.out j hlt;have HB:=Qc hB;have HT:=Qc hT;have HC:=Qc ca;have HN:=Qc htk;have z0:(0:Int)<=(j:Int):=Le _;have z1:(j:Int)+1<(P.length:Int):=by omega
      have z2:(j:Int)<(P.length:Int):=by omega
      have z3 : ¬pc=j+1:=by have:=hpc'.out;omega
      have z4:(j:Int)+1<=(pc:Int):=by omega
      have z5:(j:Int)+1<=(P.length:Int):=by omega
      have z6:(0:Int)<=(j:Int)+1:=by omega
      have z7:((j:Int)+1).toNat=j+1:=by omega
      have zw:IntKind.i64.wrap ((j:Int)+1)=(j:Int)+1:=by rw[LW];omega
      have z8 : ¬(pc:Int)=(j:Int)+1:=by omega
      have z9 : ¬pc<=j+1:=by omega
      have z10:j+1<=P.length:=by omega
      have z11:P.length<=pc:=hpc'.out;have z12:j+1<=pc:=by omega
      have cc:=ca wr HI.out.2;clear hB hT ca htk
      go_upto_region 5 with (fail)
      have hc9:=(Below.refl wr.heap.size wr).drew;have HL:=Qc (HLn.out j)
      go_region_held3 (fun V=>V.cell? ⟨pb,po+j,none⟩=some (.string a))
        (first|with_reducible exact HC.out _ hq7.out|with_reducible exact HC.out _ (Qa HI.out.2 hc9)|with_reducible exact HC.out _ (bal (Qa HI.out.2 hc9) _)|with_reducible exact HC.out _ HI.out.2)
        (first
        | (go_at_call 53;with_reducible refine(HB.out _ (Qa HI.out.2 hc9)).mono ?_;rintro e w5 ⟨rfl,hb5⟩;replace hc9:=Qa hc9 hb5)
        | (go_at_call 88;with_reducible refine(HT.out _).mono ?_;rintro e w6 ⟨rfl,hb6⟩;replace hc9:=Qa hc9 hb6)
        | (refine Qcc _ (by rfl) _ _ (by rfl) w.heap.size u7 ([r0]++(bx (clk k) P).take j) (by rfl) (QC HI.out.1 (bal hc9 _) (Lb _)) _ t (by rfl) (cell_of_one (heap_alloc_new _ _)) HL.out (bal (Qa HI.out.2 hc9) _).size ?_
           intro v7 w7 o7 g7 f7;have hq7:=Qc ((bal (Qa HI.out.2 hc9) (.cells #[.string t] 9)).grown g7 (bal (Qa HI.out.2 hc9) _).size (fun b hb=>(Lq HI.out.1 b hb).1))))
      all_goals
        have HF:Hid (Qk w7 w.heap.size v7 ([r0]++(bx (clk k) P).take (j+1))∧Zb w w7):=by
          exact⟨by rw[HN.out,<-Lt];exact o7,hq7.out⟩
        clear o7 g7 f7 hq7;go_wp2
        go_roundg (P.length - (j+1))
        case rel =>
          go_light;exact⟨j+1,rfl,by omega,by go_num,HF⟩
        case measure=>go_light;omega
    · have hz1 : ¬(j:Int)+1<(P.length:Int):=by omega
      have he:=HEnd.out j (by omega)
      have hB':=HI.out;rw[he] at hB';clear HI HEnd HLn HS;go_wp2
      go_ret
      exact⟨_,rfl,hB'.1,hB'.2⟩
theorem Qay(c:Nat)(L:LB)(M:Nat->Nat->Option Nat) : ∀h k,(ra c L M h k).length+1<=2^(h+1):=by
 intro h
 induction h with
 | zero =>
  intro k
  cases e:M 0 k with
  | some j=>rw[QaN e];simp
  | none=>rw[Qa6 e];simp
 | succ h ih =>
  intro k
  cases e:M (h+1) k with
  | some j=>rw[QaN e];exact Ie
  | none =>
   have h1:=ih (2*k);have h2:=ih (2*k+1);rw[Qaa e,Lu,Ld];have:2^(h+1+1)=2*2^(h+1):=by rw[LA,LY]
   omega
def Bk(w:World)(g:Nat)(h i:Int):Prop:=w.heap[g]? = some (.cells #[.int .i64 h,.int .u64 i] 83 (0,0))
section
variable {w W:World} {g:Nat} {h i:Int}
theorem Bk.cells(t:Bk w g h i):w.cell? ⟨g,0,none⟩=some (.int .i64 h)∧w.cell? ⟨g,1,none⟩=some (.int .u64 i) :=
 ⟨by rw[cell_of_row w g 0 _ _ (0,0) t];rfl,by rw[cell_of_row w g 1 _ _ (0,0) t];rfl⟩
theorem Bk.lt(t:Bk w g h i):g<w.heap.size:=(Lg.1 t).1
theorem Bk.next(t:Bk w g h i)(hb:Zb w W):Bk W g h i:=(hb.block g t.lt).trans t
theorem US(w:World)(h i:Int) : ∃W,w.alloc (.cells #[.int .i64 h,.int .u64 i] 83)=W∧Bk W w.heap.size h i∧Zb w W:=⟨_,rfl,heap_alloc_new w _,bal (Below.refl _ _) _⟩
end
theorem UX(w:World)(s:BA){B g:Nat}(hg:w.heap.size=g)(hB:B<=g):Qk (w.alloc (.cells #[.string s] 9)) B (.slice (some ⟨g,0,none⟩) 1 1) [s]:=by
 subst hg;exact Qgh w s hB
def BoC(w0:World)(k:Int)(pa:OA)(pn pc:Nat)(qa:OA)(qn qc:Nat)(A B:LB)(n h:Nat):Prop := ∀i W,Zb w0 W->(i+1)*2^h<=n ->
 Calls Tryz.prog 46 #[.int .i64 k,.slice pa pn pc,.slice qa qn qc,bkV h i] W fun e w' => ∃v u,e = .returned (.tuple #[v,u])∧Pr W.heap.size w' v u (ra (clk k) A (fun _ _=>none) h i) (rb (clk k) (fun _ _=>none) [] (fun j=>B.getD j ByteArray.empty) h i)∧Zb W w'
theorem Qfy(w0:World)(k:Int)(pa:OA)(pb po pc:Nat)(A:LB)(hA:RdS w0 pa pb po A.length A)(hAs : ∀s∈A,s.size<=140737488351232)(qa:OA)(qb qo qc:Nat)(B:LB)(hB:RdS w0 qa qb qo B.length B)(hBs : ∀s∈B,s.size<=140737488351232)(n:Nat)(hnA:n<=A.length)(hnB:n<=B.length)(hmA:A.length<=8796093022208)(hmB:B.length<=8796093022208):BoC w0 k pa A.length pc qa B.length qc A B n 0:=by
 intro i w hb0 hi;rw[Nj,NN] at hi;obtain⟨x,hx⟩:=Ze (A.getD i ByteArray.empty);obtain⟨y,hy⟩:=Ze (B.getD i ByteArray.empty);have hxs:x.size<=140737488351232:=by rw[<-hx];exact hAs _ (QI (by omega))
 have hys:y.size<=140737488351232:=by rw[<-hy];exact hBs _ (QI (by omega))
 obtain⟨r1,hr1⟩:=Ze (Qm x);obtain⟨r2,hr2⟩:=Ze (Qm y);have HL1:Hid (∀W,Zr 93 #[.string x] W (.string r1)):=fun W=>by rw[<-hr1];exact Jr W x (by omega)
 have HL2:Hid (∀W,Zr 93 #[.string y] W (.string r2)):=fun W=>by rw[<-hr2];exact Jr W y (by omega)
 have e1:ra (clk k) A (fun _ _=>none) 0 i=[r1]:=by rw[Qa6 rfl,hx,hr1]
 have e2:rb (clk k) (fun _ _=>none) [] (fun j=>B.getD j ByteArray.empty) 0 i=[r2]:=by rw[Qdz rfl];show[Qm (B.getD i ByteArray.empty)]=_;rw[hy,hr2]
 rw[e1,e2];unfold bkV;rw[show((0:Nat):Int)=0 from rfl]
 obtain⟨F,hFe,hbk,hbF⟩:=US w 0 (i:Int);have hpA:=hA.ptr (by omega)
 have hpB:=hB.ptr (by omega)
 subst hpA hpB;have HX:Hid (∀V,Zb F V->(V.cell? ⟨w.heap.size,1,none⟩=some (.int .u64 (i:Int))∧V.cell? ⟨pb,po+i,none⟩=some (.string x)∧V.cell? ⟨qb,qo+i,none⟩=some (.string y))∧Zb w V):=fun V hb=>by
  have c1:=(hA.next (Qa hb0 (Qa hbF hb)) (Lb _)).at (k:=i) (by omega)
  have c2:=(hB.next (Qa hb0 (Qa hbF hb)) (Lb _)).at (k:=i) (by omega)
  rw[hx] at c1;rw[hy] at c2;exact⟨⟨(hbk.next hb).cells.2,c1,c2⟩,Qa hbF hb⟩
 obtain⟨k0,_⟩:=hbk.cells;obtain⟨⟨k1,k2,k3⟩,_⟩:=HX.out F (Below.refl _ _);have z0:(0:Int)<=(i:Int):=Le _;have z1:(i:Int)<(A.length:Int):=by omega
 have z2:(i:Int)<(B.length:Int):=by omega
 have z3:(A.length:Int)<=8796093022208:=by omega
 have z4:(B.length:Int)<=8796093022208:=by omega
 clear hA hB hAs hBs hx hy hxs hys hr1 hr2 e1 e2 hmA hmB hnA hnB hi hbk hbF
 go_enter Tryz.func46,Tryz.ntmps46
 go_upto_region 1 with (fail)
 try rw[hFe]
 clear hFe
 go_upto_region 2 with (fail)
 have HWF:=Qc (HX.out F (Below.refl _ _)).2
 go_cut [8,9] from 21 to 34 (fun v u wx=>Hid (Pr w.heap.size wx v u [r1] [r2]∧Zb w wx))
 case first =>
  go_region_held3 (fun V=>V.cell? ⟨w.heap.size,1,none⟩=some (.int .u64 (i:Int))∧V.cell? ⟨pb,po+i,none⟩=some (.string x)∧V.cell? ⟨qb,qo+i,none⟩=some (.string y))
   (with_reducible exact(HX.out _ (by with_reducible repeat first|exact Below.refl _ _|refine Below.drew ?_|refine bal ?_ _|refine Qa ?_ hb5|refine Qa ?_ hb6|refine Qa ?_ hb7)).1)
   (first
    | (go_at_call 93;with_reducible refine(HL1.out _).mono ?_;rintro e w5 ⟨rfl,hb5⟩)
    | (go_at_call 93;with_reducible refine(HL2.out _).mono ?_;rintro e w6 ⟨rfl,hb6⟩))
  all_goals
   go_wp2
   go_meet
   case rel =>
    go_light;have hs5:=(Qa HWF.out (by with_reducible repeat first|exact Below.refl _ _|refine Below.drew ?_|refine bal ?_ _|refine Qa ?_ hb5|refine Qa ?_ hb6|refine Qa ?_ hb7):Zb w w5).size
    have hs6:=(Qa HWF.out (by with_reducible repeat first|exact Below.refl _ _|refine Below.drew ?_|refine bal ?_ _|refine Qa ?_ hb5|refine Qa ?_ hb6|refine Qa ?_ hb7):Zb w w6).size
    have hs56:=hb6.size
    try rw[World.size_drew] at hs56
    try rw[Lp] at hs56
    exact Qc ⟨⟨by(first|exact QC (UX w5 _ rfl (by omega)) (by with_reducible repeat first|exact Below.refl _ _|refine Below.drew ?_|refine bal ?_ _|refine Qa ?_ hb5|refine Qa ?_ hb6|refine Qa ?_ hb7) (Lb _)|exact QC (UX w6 _ rfl (by omega)) (by with_reducible repeat first|exact Below.refl _ _|refine Below.drew ?_|refine bal ?_ _|refine Qa ?_ hb5|refine Qa ?_ hb6|refine Qa ?_ hb7) (Lb _)|exact QC (UX (w6.alloc _) _ (Lp ..) (by omega)) (by with_reducible repeat first|exact Below.refl _ _|refine Below.drew ?_|refine bal ?_ _|refine Qa ?_ hb5|refine Qa ?_ hb6|refine Qa ?_ hb7) (Lb _)),by(first|exact QC (UX w5 _ rfl (by omega)) (by with_reducible repeat first|exact Below.refl _ _|refine Below.drew ?_|refine bal ?_ _|refine Qa ?_ hb5|refine Qa ?_ hb6|refine Qa ?_ hb7) (Lb _)|exact QC (UX w6 _ rfl (by omega)) (by with_reducible repeat first|exact Below.refl _ _|refine Below.drew ?_|refine bal ?_ _|refine Qa ?_ hb5|refine Qa ?_ hb6|refine Qa ?_ hb7) (Lb _)|exact QC (UX (w6.alloc _) _ (Lp ..) (by omega)) (by with_reducible repeat first|exact Below.refl _ _|refine Below.drew ?_|refine bal ?_ _|refine Qa ?_ hb5|refine Qa ?_ hb6|refine Qa ?_ hb7) (Lb _)),fun g h1 h2=>by simp only[Value.ownBlock,Option.some.injEq] at h1 h2;omega⟩,Qa HWF.out (by with_reducible repeat first|exact Below.refl _ _|refine Below.drew ?_|refine bal ?_ _|refine Qa ?_ hb5|refine Qa ?_ hb6|refine Qa ?_ hb7)⟩
 case rest =>
  go_wp2;exact bodyPost_ret (v := .tuple #[_,_]) (by simp[results,Tryz.results46,go_sem]) rfl ⟨_,_,rfl,hcut.out.1,hcut.out.2⟩
theorem Qaj{w:World}(ht:Tb w){k:Int}{la:OA}{lb lo lc:Nat}{L:LB}(hr:RdS w la lb lo L.length L)(hsz : ∀s∈L,s.size<=140737488351232)(hm:L.length<=1099511627776){n:Nat}{Bs:List (Nat×Nat)}{D:LB}{K:List He}{R:LB}{V:Nat->BA}{Q:Nat->Prop}(T:Tre (clk k) n Bs D V Q K R)(hD:D.length<=8796093022208){da:OA}{db dc:Nat}(hd:RdS w da db 0 D.length D)
  {ca:OA} {cb co cc:Nat} {l:List (Nat×BA)} (hc:RdK w ca cb co l.length l) (hl:l.length<=8796093022208) (hp:Asc (ixs l)) (hv : ∀x∈vls l,x.size<2305843009213693952) (hQ : ∀i,Q i -> ∃p,p<l.length∧l.getD p noC=(i,V i)) {mb:Nat} (hM:Mi w mb (fun h i=>if 0<=h then ixM Bs h.toNat i else none)) :
  SdP w k L (ixM Bs) D V Q (lsV k la L.length lc (some mb)) (prV' da D.length dc ca l.length cc (some mb)):=by
 have hCm:Cm w (some mb) (ixM Bs) := .inl ⟨mb,rfl,hM⟩;refine⟨ht,fun W h i hb hh hi => ?_,fun W h i hb hh hi hq => ?_,hsz,fun i hq => ?_,T.lt,T.dsz,hm⟩
 ·exact QbP W (ht.next hb) k la lb lo lc L (hr.next hb (Lb _)) hsz hm (some mb) (ixM Bs) (hCm.next hb) h i hh hi _ rfl
 ·exact Qjm W da db 0 dc D (hd.next hb (Lb _)) hD ca cb co cc l (hc.next hb) hl hp hv V (some mb) (ixM Bs) (hCm.next hb) h i hh (by have:=Qaq hi;omega) (T.lt h i) (fun h0 e=>hQ i (hq h0 e)) _ rfl
 ·obtain⟨p,h1,h2⟩:=hQ i hq;refine hv _ (LE.2 ⟨(i,V i),?_,rfl⟩)
  rw[<-h2,La,Lc h1];exact LO _
theorem Qda{k:Int}{L:LB}(hm:L.length<=5000)(hsz : ∀s∈L,s.size<=140737488351232){l:List (Nat×BA)}{s:BA}{P:PV}{Bs:List (Nat×Nat)}{K:List He}{R:LB}{c1:BA}(A:Acc k L.length c1 l s P)(T:AccT k L.length c1 l P Bs K R)(hl:l.length<=8796093021952){W:World}(ht:Tb W){sa:OA}{sb sc:Nat}{da:OA}{db dc:Nat}(hF:RdF W sa sb sc da db dc P){la:OA}{lb lo lc:Nat}(hr:RdS W la lb lo L.length L){ca:OA}{cb co cc:Nat}(hc:RdK W ca cb co l.length l) :
  Zr 26 #[vP P.kd P.k P.old P.size (.slice sa P.S.length sc) (.slice da P.D.length dc),.slice la L.length lc,.slice ca l.length cc] W (pv (wk (clk k) L.length L (ixM Bs) P.D (vlC l) (Cv.dnL 41 0 L.length))):=by
 have hlen:=T.len;rw[A.hk,A.size];refine QaL W P.kd k P.old L.length _ da P.D.length dc la L.length lc ca l.length cc Bs T.tre.fit (by omega) T.tre.nodup (fun W' hb => ?_) _ (fun W' mb hb hM => ?_)
 ·have:=T.call W' sa sb sc da db dc hm (hF.next hb)
  rwa [A.size] at this
 ·have S:=Qaj (k:=k) (la:=la) (lc:=lc) (dc:=dc) (cc:=cc) (ht.next hb) (hr.next hb (Lb _)) hsz (by omega) T.tre (by rw[T.tre.len];omega) (hF.next hb).p.rd (hc.next hb) (by omega) T.asc (fun x hx=>by have:=A.hv x hx;omega) (fun i hi=>⟨_,QjT hi⟩) hM
  exact Qc2 S L.length (Lb _) _ rfl T.tre.vis _ rfl
structure ClmX(k:Int)(L:LB)(l:List (Nat×BA))(s:BA)(o:Nat)(c:BA)(r:Int)(T:Pq):Prop where
 ext : ∀W la lb lo lc ca cb co cc,Tb W->RdS W la lb lo L.length L->L.length<=lc->RdK W ca cb co l.length l->Zr 10 #[.int .i64 k,.slice la L.length lc,.slice ca l.length cc,.string s] W (tri T)
 light : ∀W ca cb co cc,Tb W->RdK W ca cb co l.length l->Zr 11 #[.int .i64 k,.agg #[.int .u64 (o:Int),.string c],.slice ca l.length cc,.string s] W (.int .i64 r)
 good:1<=k->k<=32->o=L.length∧c=rtD (clk k) L L.length
 no:r≠0->T=none
 bad : ¬(1<=k∧k<=32)->r≠0
 yes:r=0->(1<=k∧k<=32) ∧ ∃P Bs K R,Acc k L.length (rtD (clk k) L L.length) l s P∧AccT k L.length (rtD (clk k) L L.length) l P Bs K R∧(soC L l->T=none)∧(¬soC L l->T=wk (clk k) L.length L (ixM Bs) P.D (vlC l) (Cv.dnL 41 0 L.length))
theorem QgS{k:Int}{L:LB}{l:List (Nat×BA)}{s:BA}{o:Nat}{c:BA}{T:Pq}(X:ClmX k L l s o c 0 T):(∀x∈l,x.1<L.length)∧(soC L l->T=none)∧(¬soC L l -> ∃q,T=some q∧Clx (clk k) q):=by
 obtain⟨_,P,Bs,K,R,A,Tr,h1,h2⟩:=X.yes rfl;refine⟨fun x hx=>(Tr.free x.1 (LE.2 ⟨x,hx,rfl⟩)).1,h1,fun hso => ?_⟩
 rcases Qdb A Tr with ⟨q,hq,hc⟩|h
 ·exact⟨q,by rw[h2 hso,hq],hc⟩
 ·exact absurd h hso
theorem Oe{L:LB}{N:Nat}(h : ∀s∈L,s.size<=N)(i:Nat):(L.getD i ByteArray.empty).size<=N:=by
 by_cases hi:i<L.length
 ·exact h _ (QI hi)
 ·rw[La,NK (by omega)];exact Lf _
theorem Qm5{l:List (Nat×BA)}{N:Nat}(h : ∀x∈vls l,x.size<=N)(i:Nat):(vlC l i).size<=N:=by
 unfold vlC
 by_cases hi:(ixs l).idxOf i<l.length
 ·refine h _ (LE.2 ⟨_,?_,rfl⟩)
  rw[La,Lc hi];exact LO _
 ·rw[La,NK (by omega)];exact Lf _
end Go.Proofs.YtdocjikpcbmcgaaGreatDoor
