/- Own work. -/
import Derived.Test.YtdocjikpcbmcgaaGreatDoorQn37
set_option maxRecDepth 100000
set_option maxHeartbeats 4000000
namespace Go.Proofs.YtdocjikpcbmcgaaGreatDoor
open Go.RowKit
open Go.Proofs.Tryz
section
open Cv (zl cov)
theorem QhA{f:FuncId}{args:Array Value}{w:World}{v1 v2:Value}{Q1 Q2:World->Prop}(hi:prog.inits.idxOf? f=none)(h1:Calls prog f args w fun e w'=>e = .returned v1∧Q1 w')(h2:Calls prog f args w fun e w'=>e = .returned v2∧Q2 w'):v1=v2:=by
 obtain⟨n1,a1,u1,r1,e1,_⟩:=Calls.done (R:=fun v w'=>v=v1∧Q1 w') (h1.mono fun e w' ⟨h,hq⟩=>by subst h;exact⟨rfl,hq⟩) hi
 obtain⟨n2,a2,u2,r2,e2,_⟩:=Calls.done (R:=fun v w'=>v=v2∧Q2 w') (h2.mono fun e w' ⟨h,hq⟩=>by subst h;exact⟨rfl,hq⟩) hi
 have k1:=runN_add prog n1 n2 (lone (Frame.enter prog f args .normal) [] w);have k2:=runN_add prog n2 n1 (lone (Frame.enter prog f args .normal) [] w);rw[r1] at k1;rw[r2,Wn n2 n1,k1] at k2;simp only at k2;injection k2 with k2 _
 injection k2 with k2
 rw[<-e1,<-e2,k2]
theorem QlX(w:World)(hr:Tr w)(k:Int)(pa:OA)(pb po pc:Nat)(L:LB)(hL:RdS w pa pb po L.length L)(hls : ∀s∈L,s.size<=140737488351232)(hpc:L.length<=pc)(ca:OA)(cb co cc:Nat)(l:List (Nat×BA))(hK:RdK w ca cb co l.length l)(hlm:L.length<=150)(hl:l.length<=1048576)(s:BA)(hs:s.size<=8796093021952)(P:PV)(Bs:List (Nat×Nat))(K:List He)(R:LB)(A:Acc k L.length (rtD (clk k) L L.length) l s P)(AT:AccT k L.length (rtD (clk k) L L.length) l P Bs K R)(AR:AccR k L.length l P Bs K)(hso : ¬soC L l)
  (HL : ∀W,Tr W->RdK W ca cb co l.length l->Zr 47 #[.int .i64 k,.agg #[.int .u64 (L.length:Int),.string (rtD (clk k) L L.length)],.slice ca l.length cc,.string s] W (.int .i64 0)) :
  Zr 18 #[.int .i64 k,.slice pa L.length pc,.slice ca l.length cc,.string s] w (tri (wk (clk k) L.length L (ixM Bs) P.D (vlC l) (Cv.dnL 41 0 L.length))):=by
 have hc:=Qp k;have hk:1<=k∧k<=32:=⟨A.k1,A.k2⟩;have xA:=A.n40;have xD:=Cv.YS 41 0 L.length;have T:=AT.tre;have xH : ∀h i,(xd (clk k) (ixM Bs) P.D (vlC l) h i).size<=32:=fun h i=>by rw[Og hc T.lt T.dsz];exact hc
 have hV : ∀i,ixM Bs 0 i=none->(vlC l i).size+1<=9223372036854775807:=fun i _=>by have:=QnT A.hv i;omega
 have xB : ∀x∈(Cv.dnL 41 0 L.length).map (fun b=>nd (clk k) L b.1 b.2),x.size<=32:=fun x hx=>by obtain⟨b,_,rfl⟩:=List.mem_map.1 hx;rw[Q7 hc];exact hc
 have xC : ∀x∈(Cv.dnL 41 0 L.length).map (fun b=>xd (clk k) (ixM Bs) P.D (vlC l) b.1 b.2),x.size<=32:=fun x hx=>by obtain⟨b,_,rfl⟩:=List.mem_map.1 hx;exact xH _ _
 have xE : ∀ {R:LB},R.length<=41->(∀x∈R,x.size<=32) -> ∀W ta tb tc,Zb w W->RdS W ta tb 0 R.length R->R.length<=tc->Ro 43 #[.int .i64 k,.int .u64 (L.length:Int),.slice ta R.length tc] W (tx (clk k) L.length R) :=
  fun {R} h2 h3 W ta tb tc hb hR hc'=>rtop_any W (hr.next hb) k L.length (by omega) ta tb 0 tc R hR hc' (by omega) h3 _ rfl
 have xI : ∀ {L:LB},(∀x∈L,x.size<=32) -> ∀x∈L,x.size<=9223372036854775807:=fun h x hx=>by have:=h x hx;omega
 have sN : ∀j,(L.getD j ByteArray.empty).size+1<=9223372036854775807:=fun j=>by have:=QgO hls j;omega
 have xG : ∀b∈Cv.dnL 41 0 L.length,(b.2+1)*2^b.1<=L.length:=U4 _ xA;have lN : ∀b∈Cv.dnL 41 0 L.length,(ra (clk k) L (ixM Bs) b.1 b.2).length<=2000:=fun b hb=>by
  have h1:=Qf1 (clk k) L (ixM Bs) b.1 b.2;have h2:=Qoh (xG b hb) (by omega)
  omega
 have xJ:P.S.length=l.length:=by rw[A.hS,Lx]
 have xK : ∀x∈l,x.1<L.length:=fun x hx=>(AT.free x.1 (List.mem_map.2 ⟨x,hx,rfl⟩)).1
 have xL : ∀x∈vls l,x.size<=9223372036854775807:=fun x hx=>by have:=A.hv x hx;omega
 have xF:=A.size;refine rc_not w k pa pb po pc L hL ca cb co cc l hK (by omega) (by omega) xK hso s _ (fun W hb => ?_) (fun W hb=>HL W (hr.next hb) (hK.next hb)) P (vls l) K (Cv.dnL 41 0 L.length)
  ((Cv.dnL 41 0 L.length).map fun b:Nat×Nat=>nd (clk k) L b.1 b.2) ((Cv.dnL 41 0 L.length).map fun b:Nat×Nat=>xd (clk k) (ixM Bs) P.D (vlC l) b.1 b.2)
  (tx (clk k) L.length ((Cv.dnL 41 0 L.length).map fun b:Nat×Nat=>nd (clk k) L b.1 b.2)) (tx (clk k) L.length ((Cv.dnL 41 0 L.length).map fun b:Nat×Nat=>xd (clk k) (ixM Bs) P.D (vlC l) b.1 b.2)) (fun b=>ra (clk k) L (ixM Bs) b.1 b.2) (fun b=>rb (clk k) (ixM Bs) P.D (vlC l) b.1 b.2)
  xD (fun b hb=>Lz (xG b hb) xA) xL (xI xB) (xI xC) ⟨QmV hc xB,by rw[Qel,Lx];omega⟩ ⟨QmV hc xC,by rw[Qel,Lx];omega⟩
  (fun b hb=>⟨lN b hb,Qkf hc (by decide) sN _ _⟩) (fun b hb=>⟨by rw[<-(rab (clk k) L (ixM Bs) P.D (vlC l) b.1 b.2).1];exact lN b hb,Qkg xH (by decide) hV _ _⟩)
  _ (QmA _ _ _ _ _ _ _) (fun W=>YC s (Ue s hs) P A.hd W) (fun W hb=>QaW W ca cb co _ cc l (hK.next hb) (by omega)) (fun W sa sb sc da db dc xa xb xc hb hF hx=>AR.known W sa sb sc da db dc xa xb xc (hr.next hb) hF hx) (fun W => ?_) (fun W hb => ?_) (fun W ao g cap hb hR => ?_)
  (fun W ta tb tc hb hR hc' => ?_) (fun W ta tb tc hb hR hc' => ?_) (fun W sa sb sc ao g cap j hb hS hR hj => ?_)
 ·exact Qfk W (hr.next hb) k hk.1 hk.2 pa pb po L.length pc L (hL.next hb (Ld _)) hls (by omega) hpc L.length (Ld _) _ rfl
 ·rw[xF];exact Ql5 _ xA W
 ·exact Qcs W (hr.next hb) k pa pb po L.length pc L (hL.next hb (Ld _)) hls (by omega) hpc _ (Qka xA)
 ·rw[xF];refine Qg9 W (hr.next hb) k L.length xA ao g cap _ hR AR.kl T.fn AR.kb _ _ rfl (Lx ..) (fun j hj => ?_)
  rw[Qb4 (fun b=>xd (clk k) (ixM Bs) P.D (vlC l) b.1 b.2) (0,0) _ _ _ hj]
  exact T.tl _ (Yv hj)
 ·rw[xF];exact xE (by rw[Lx];exact xD) xB W ta tb tc hb hR hc'
 ·rw[xF];exact xE (by rw[Lx];exact xD) xC W ta tb tc hb hR hc'
 ·have hm:=Yv hj;refine Qf4 W (hr.next hb) k pa pb po pc L (hL.next hb (Ld _)) hls hpc ca cb co cc l (hK.next hb) (fun c hc' => ?_) sa sb 0 sc P.S hS (by omega) xJ ao g cap K hR AR.kl T.fn AR.kb (ixM Bs) P.D (vlC l) AR.ht AR.hh AR.nk (fun j hj => ?_) xH hV L.length (Ld _) (by omega) (by omega) _ (UF (xG _ hm) xA).2.1 _ W _ (Lb _ _) (xG _ hm) (T.tl _ hm)
  ·have:=A.hv c.2 (List.mem_map.2 ⟨c,hc',rfl⟩);omega
  ·rw[A.hS,JK,Qer AT.asc (by omega)]
theorem Qdt(w:World)(ht:Tb w)(hr:Tr w)(k:Int)(la:OA)(lb lo ln lc:Nat)(Li:LB)(hL:RdS w la lb lo ln Li)(hlz : ∀s∈Li,s.size<=140737488351232)(hlc:ln<=lc)(hln:la=none->lc=0)(ca:OA)(cb co cc:Nat)(l:List (Nat×BA))(hK:RdK w ca cb co l.length l)(hl:l.length<=1048576)(hv : ∀x∈vls l,x.size<=9223372036854775807)(s:BA)(hs:s.size<=8796093021952) :
  Zr 6 #[.int .i64 k,.slice la ln lc,.agg #[.slice ca l.length cc,.string s]] w (.bool true):=by
 obtain⟨xC,xH,xI⟩:=Qfe hL;have xA : ∀s∈Li.take 150,s.size<=140737488351232:=fun s hs=>hlz s (Nf hs)
 have xF:(Li.take 150).length<=lc:=by omega
 have xB:s.size<=281474976710656:=Lz hs (by decide)
 by_cases hk:1<=k∧k<=32
 ·obtain⟨c,hc⟩:=Ze (rtD (clk k) (Li.take 150) (Li.take 150).length);obtain⟨r,h1,h2⟩:=Ol k (Li.take 150).length c l (by omega) hv s xB
  obtain⟨r',g1,g2⟩:=QeF k (Li.take 150).length c l hl hv s hs;obtain rfl:r=r':=by
   have:=QhA (by kernel_rfl) (h1 w ca cb co cc ht hK) (g1 w ca cb co cc ht hK)
   injection this
  have RA : ∀ {W},Zb w W->Hid (∀V,Zb W V->Zr 9 #[.int .i64 k,.slice la (Li.take 150).length lc,.int .u64 ((Li.take 150).length:Int)] V (.tuple #[.agg #[.int .u64 ((Li.take 150).length:Int),.string c],.int .i64 0])):=fun {W} hb V hV=>Qfk V (hr.next (Qa hb hV)) k hk.1 hk.2 la lb lo _ lc _ (xC.next (Qa hb hV) (Ld _)) xA (by omega) xF _ (Ld _) _ hc
  by_cases h0:r=0
  ·subst h0;obtain⟨P,A⟩:=h2 rfl;obtain⟨Bs,K,R,AT,AR⟩:=QkX A (by omega)
   have xD : ∀x∈l,x.1<(Li.take 150).length:=fun x hx=>(AT.free x.1 (List.mem_map.2 ⟨x,hx,rfl⟩)).1
   have xE : ∀ {W la' lb' lo' lc'},Tb W->RdS W la' lb' lo' (Li.take 150).length (Li.take 150)->(Li.take 150).length<=lc'->Hid (∀V,Zb W V->Zr 23 #[.int .i64 k,.slice la' (Li.take 150).length lc'] V (.agg #[.int .u64 ((Li.take 150).length:Int),.string c])):=fun {W la' lb' lo' lc'} ht hr hlc V hb=>Qgz V (ht.next hb) k hk.1 hk.2 la' lb' lo' lc' _ (hr.next hb (Ld _)) xA (by omega) hlc c hc
   by_cases hso:soC (Li.take 150) l
   ·refine Ji w ht hr k la lb lo ln lc Li hL hlc hln ca l.length cc s none (fun W la' lb' lo' lc' hb h1' h2' => ?_) (fun W hb => ?_)
    ·refine Qjg W k la' _ lc' ca l.length cc s _ c (xE (ht.next hb) h1' h2') (fun V hV=>h1 V ca cb co cc (ht.next (Qa hb hV)) (hK.next (Qa hb hV))) (fun V hV => ?_)
     exact JW V ca cb co cc l (hK.next (Qa hb hV)) (by omega) la' lb' lo' lc' _ (h1'.next hV (Ld _)) (by omega) xD true (Ln hso)
    ·exact Qol W k la lb lo lc _ (xC.next hb (Ld _)) ca cb co cc l (hK.next hb) (by omega) (by omega) xD hso s c (RA hb) (fun V hV=>g2 V ca cb co cc (hr.next (Qa hb hV)) (hK.next (Qa hb hV)))
   ·refine Ji w ht hr k la lb lo ln lc Li hL hlc hln ca l.length cc s (wk (clk k) (Li.take 150).length (Li.take 150) (ixM Bs) P.D (vlC l) (Cv.dnL 41 0 (Li.take 150).length)) (fun W la' lb' lo' lc' hb h1' h2' => ?_) (fun W hb => ?_)
    ·refine QgC W k la' _ lc' ca l.length cc s _ c (xE (ht.next hb) h1' h2') P _ (fun V hV=>h1 V ca cb co cc (ht.next (Qa hb hV)) (hK.next (Qa hb hV))) (fun V hV => ?_) (fun V=>(UP V s xB P A.hd).mono fun e w' ⟨sa,sb,sc,da,db,dc,h1,h2,_,h3⟩=>⟨sa,sb,sc,da,db,dc,h1,h2,h3⟩) (fun V sa sb sc da db dc hV hF => ?_)
     ·exact JW V ca cb co cc l (hK.next (Qa hb hV)) (by omega) la' lb' lo' lc' _ (h1'.next hV (Ld _)) (by omega) xD false (Lj hso)
     ·exact OF (by omega) xA A AT (by omega) (ht.next (Qa hb hV)) hF (h1'.next hV (Ld _)) (hK.next (Qa hb hV))
    ·subst hc;exact QlX W (hr.next hb) k la lb lo lc _ (xC.next hb (Ld _)) xA xF ca cb co cc l (hK.next hb) (by omega) hl s hs P Bs K R A AT AR hso (fun V hT hKV=>g2 V ca cb co cc hT hKV)
  ·obtain⟨T,X⟩:=QbL k hk (Li.take 150) (by omega) xA l (by omega) s xB c hc r h1 h2
   refine Ji w ht hr k la lb lo ln lc Li hL hlc hln ca l.length cc s T (fun W la' lb' lo' lc' hb h1' h2'=>X.ext W la' lb' lo' lc' ca cb co cc (ht.next hb) h1' h2' (hK.next hb)) (fun W hb => ?_)
   rw[X.no h0];exact Qok W k la _ lc ca l.length cc (by omega) s c (RA hb) r h0 (fun V hV=>g2 V ca cb co cc (hr.next (Qa hb hV)) (hK.next (Qa hb hV)))
 ·have xG:k<1∨32<k:=by omega
  obtain⟨o,c,r,T,X⟩:=QfO k (Li.take 150) (by omega) xA l (by omega) hv s xB
  refine Ji w ht hr k la lb lo ln lc Li hL hlc hln ca l.length cc s T (fun W la' lb' lo' lc' hb h1' h2'=>X.ext W la' lb' lo' lc' ca cb co cc (ht.next hb) h1' h2' (hK.next hb)) (fun W hb => ?_)
  rw[X.no (X.bad hk)];exact QnG W k xG la _ lc ca l.length cc (by omega) s
end
theorem Qmw{a:Int}(wf:(Lit.int .u64 a).wf=true) : ∃n:Nat,a=(n:Int)∧n<18446744073709551616:=by
 have:=bounds_u64 wf;exact⟨a.toNat,by omega,by omega⟩
end Go.Proofs.YtdocjikpcbmcgaaGreatDoor
