/- Own work. -/
import Derived.Test.YtdocjikpcbmcgaaGreatDoorQj33
import Derived.Test.YtdocjikpcbmcgaaGreatDoorQj36
set_option maxRecDepth 100000
set_option maxHeartbeats 1000000
namespace Go.Proofs.YtdocjikpcbmcgaaGreatDoor
open Go.RowKit
attribute [local go_sem ↓] Go.wp_at_zero Go.wp_at_succ
section
open Cv (zl cov)
theorem Qj8(w:World)(k:Int)(old:Nat){n i H:Nat}{A B:List (Nat×Nat)}(h:Wy n i A H B)(hn:n<=2^40)(hi:i<n)(sa:OA)(sb so sc:Nat)(hs:RdU w sa sb so 1 [i])(vd:Value) :
  Calls Tryz.prog 60 #[vP 1 k old n (.slice sa 1 sc) vd] w fun e w' => ∃v,e = .returned v∧Cv.Qz w' w.heap.size v (zl (wyB i H A B))∧Zb w w':=by
 obtain⟨F,hFe,h6,hb,_⟩:=Yu w (.int .i64 1) (.int .i64 k) (.int .u64 (old:Int)) (.int .u64 (n:Int)) (.slice sa 1 sc) vd;obtain rfl:=hs.ptr (by omega)
 have HE:Hid (∀W,Calls Tryz.prog 108 #[.int .u64 (n:Int),.int .u64 (i:Int)] W fun e w' => ∃v,e = .returned v∧Cv.Qz w' W.heap.size v (zl (wyB i H A B))∧Zb W w'):=fun W=>Qix W h hn hi
 obtain⟨c0,c1,c2,c3,c4,c5⟩:=h6.cells;have ci:F.cell? ⟨sb,so,none⟩=some (.int .u64 (i:Int)):=(hs.next hb).at (j:=0) (by omega)
 unfold vP;clear h hn hi hs h6
 go_enter Tryz.func60,Tryz.ntmps60
 go_upto_region 1 with (fail)
 try rw[hFe]
 clear hFe
 go_upto_region 3 with (fail)
 go_region_with (go_at_call 108;with_reducible refine(HE.out _).mono ?_;rintro e w3 ⟨v,rfl,h3,hb3⟩;obtain⟨a3,n3,c3,rfl⟩:=Cv.Qh h3)
 all_goals
  go_wp2
  go_ret
  exact⟨_,rfl,World.ownsRow.mono h3 (hb.drew.size),Qa hb.drew hb3⟩
theorem Ql1(w:World)(k:Int)(m n:Nat)(hm:m<=n)(hn:n<=2^40)(vs vd:Value) :
  Calls Tryz.prog 60 #[vP 3 k m n vs vd] w fun e w' => ∃v,e = .returned v∧Cv.Qz w' w.heap.size v (zl (kb m n))∧Zb w w':=by
 obtain⟨F,hFe,h6,hb,_⟩:=Yu w (.int .i64 3) (.int .i64 k) (.int .u64 (m:Int)) (.int .u64 (n:Int)) vs vd;have HM:Hid (∀W,Calls Tryz.prog 75 #[.int .u64 (m:Int)] W fun e w' => ∃ao n1 cap,e = .returned (.tuple #[.slice ao n1 cap,.int .i64 0])∧Cv.Qz w' W.heap.size (.slice ao n1 cap) (zl (cov 0 m))∧Zb W w'):=fun W=>by
  have h:=Cv.Yq m W;rw[(Yt (Lf _) (by omega)).1,(Yt (Lf _) (by omega)).2] at h
  refine h.mono fun e w' ⟨v,e1,e2,e3⟩ => ?_
  obtain⟨ao,n1,cap,rfl⟩:=Cv.Qh e2;exact⟨ao,n1,cap,e1,e2,e3⟩
 have HR:Hid (∀W,Calls Tryz.prog 110 #[.int .u64 (m:Int),.int .u64 (n:Int),.int .u64 (n:Int)] W fun e w' => ∃ao n1 cap,e = .returned (.tuple #[.slice ao n1 cap,.int .i64 0])∧Cv.Qz w' W.heap.size (.slice ao n1 cap) (zl (cov m n))∧Zb W w'):=fun W=>by
  have h:=Cv.Oh m n n W;rw[(Yt hm hn).1,(Yt hm hn).2] at h;refine h.mono fun e w' ⟨v,e1,e2,e3⟩ => ?_
  obtain⟨ao,n1,cap,rfl⟩:=Cv.Qh e2;exact⟨ao,n1,cap,e1,e2,e3⟩
 have hl:=OB hm hn;rw[kb,Ld] at hl;have HX:Hid (∀W,Zb F W->W.cell? ⟨w.heap.size,2,none⟩=some (.int .u64 (m:Int))∧W.cell? ⟨w.heap.size,3,none⟩=some (.int .u64 (n:Int))):=fun W hb=>⟨(h6.next hb).cells.2.2.1,(h6.next hb).cells.2.2.2.1⟩
 obtain⟨c0,c1,c2,c3,c4,c5⟩:=h6.cells;unfold vP kb;clear hm hn h6
 go_enter Tryz.func60,Tryz.ntmps60
 go_upto_region 1 with (fail)
 try rw[hFe]
 clear hFe
 go_wp2_with (first
  | (go_at_call 75;with_reducible refine(HM.out _).mono ?_;rintro e w1 ⟨a1,n1,c1,rfl,h1,hb1⟩;obtain⟨k2,k3⟩:=HX.out _ hb1)
  | (go_at_call 110;with_reducible refine(HR.out _).mono ?_;rintro e w2 ⟨a2,n2,c2,rfl,h2,hb2⟩)
  | (go_at_call 111;with_reducible refine(Qbr w2 w.heap.size _ _ _ _ (World.ownsRow.mono (Yf h1 hb2) hb.size) (World.ownsRow.mono h2 (Qa hb hb1).size) (by omega) _).mono ?_;rintro e w3 ⟨v,rfl,h3,hb3⟩))
 obtain⟨a3,n3,c3,rfl⟩:=Cv.Qh h3
 go_ret
 exact⟨_,rfl,World.ownsRow.mono h3 (Qa (Qa hb hb1) hb2).size,Qa (Qa (Qa hb hb1) hb2) hb3⟩
end
theorem Qct(w:World)(k:Int)(la:OA)(ln lc:Nat)(hn:ln<=8796093022208)(o:Nat)(c:BA)(e0:Int)
  (HR:Hid (∀W,Zb w W->Zr 56 #[.int .i64 k,.slice la ln lc,.int .u64 (ln:Int)] W (.tuple #[.agg #[.int .u64 (o:Int),.string c],.int .i64 e0]))) :
  Zr 23 #[.int .i64 k,.slice la ln lc] w (.agg #[.int .u64 (o:Int),.string c]):=by
 have hb0:=bal (Below.refl w.heap.size w) (.cells #[.int .u64 0,.string ⟨#[]⟩] 30);have h0:Rh (w.alloc (.cells #[.int .u64 0,.string ⟨#[]⟩] 30)) w.heap.size 0 ⟨#[]⟩:=YC w 0 ⟨#[]⟩;have z1:(ln:Int)<=8796093022208:=by omega
 obtain⟨W0,hW0⟩:=Ze (w.alloc (.cells #[.int .u64 0,.string ⟨#[]⟩] 30));rw[hW0] at hb0 h0;clear hn
 go_enter Tryz.func23,Tryz.ntmps23
 go_upto_region 1 with (fail)
 try rw[hW0]
 clear hW0
 go_upto_region 2 with (go_at_call 56;with_reducible refine(HR.out _ hb0).mono ?_;rintro e w1 ⟨rfl,hb1⟩)
 obtain⟨F,hFe,hr,hb2⟩ : ∃W,w1.alloc (.cells #[.int .u64 (o:Int),.string c] 30)=W∧Rh W w1.heap.size o c∧Zb w1 W:=⟨_,rfl,YC w1 o c,bal (Below.refl _ _) _⟩
 try rw[hFe]
 clear hFe;have hx:=h0.next (Qa hb1 hb2);obtain⟨c0,c1⟩:=hr.cells;obtain⟨d0,d1⟩:=hx.cells;have df:=hx.fz;have hp:=hx.put o c;have hch:=QU F w.heap.size o c;unfold UH at hp hch;obtain⟨s0,s1⟩:=hp.cells;clear h0 hx hr;go_wp2;refine bodyPost_ret (v := .agg #[.int .u64 (o:Int),.string c]) (by simp[results,Tryz.results23,go_sem,s0,s1]) rfl ⟨rfl,?_⟩
 exact(Qa (Qa hb0 hb1) hb2).trans (hch.below (by rintro b rfl;exact Lb _))
theorem QfY(w:World)(ht:Tb w)(k:Int)(k1:1<=k)(k2:k<=32)(la:OA)(lb lo lc:Nat)(L:LB)(hr:RdS w la lb lo L.length L)(hsz : ∀s∈L,s.size<=140737488351232)(hm:L.length<=1099511627776)(hlc:L.length<=lc)(c:BA)(hc:rtD (clk k) L L.length=c) :
  Zr 23 #[.int .i64 k,.slice la L.length lc] w (.agg #[.int .u64 (L.length:Int),.string c]) :=
 Qct w k la L.length lc (by omega) L.length c 0 fun W hb=>Qjo W (ht.next hb) k k1 k2 la lb lo L.length lc L (hr.next hb (Lb _)) hsz (by omega) hlc L.length (Lb _) c hc
theorem Qd7(w:World)(k:Int)(hk:k<1∨32<k)(la:OA)(ln lc:Nat)(hn:ln<=1099511627776) :
  Zr 23 #[.int .i64 k,.slice la ln lc] w (.agg #[.int .u64 ((0:Nat):Int),.string ⟨#[]⟩]) :=
 Qct w k la ln lc (by omega) 0 ⟨#[]⟩ 70 fun W _=>Qhw W k hk la ln lc ln
def soC(L:LB)(l:List (Nat×BA)):Prop := ∀c∈l,L.getD c.1 ByteArray.empty=c.2
instance (L:LB) (l:List (Nat×BA)):Decidable (soC L l):=by unfold soC;infer_instance
theorem Qcm(w:World)(ca:OA)(cb co cc:Nat)(l:List (Nat×BA))(hc:RdK w ca cb co l.length l)(hcm:l.length<=1099511627776)(la:OA)(lb lo lc:Nat)(L:LB)(hr:RdS w la lb lo L.length L)(hm:L.length<=1099511627776)(hin : ∀c∈l,c.1<L.length)(r:Bool)(hq:decide (soC L l)=r) :
  Zr 24 #[.slice ca l.length cc,.slice la L.length lc] w (.bool r):=by
 have HC:Hid (∀W,Zb w W->RdK W ca cb co l.length l∧RdS W la lb lo L.length L):=fun W hb=>⟨hc.next hb,hr.next hb (Lb _)⟩
 have z1:(l.length:Int)<=1099511627776:=by omega
 have z2:(L.length:Int)<=1099511627776:=by omega
 have HIn:=Qc hin;have HQ:=Qc hq;clear hc hr hcm hm hin hq
 go_enter Tryz.func24,Tryz.ntmps24;go_wp2
 go_loopg [9] l.length (fun g i wr => ∃j:Nat,j<=l.length∧g=l.length - j∧i = .int .i64 (j:Int)∧Hid (∀t,t<j->L.getD (l.getD t noC).1 ByteArray.empty=(l.getD t noC).2)∧Hid (Zb w wr))
 case atStart =>
  go_light;exact⟨0,Lf _,rfl,rfl,fun t ht=>absurd ht (NC _),Below.refl _ _⟩
 case round =>
  obtain⟨j,hj,rfl,rfl,HAl,HBw⟩:=hrel
  by_cases hlt:j<l.length
  ·have y0:(0:Int)<=(j:Int):=Le _;have y1:(j:Int)<(l.length:Int):=by omega
   obtain⟨hk,hs⟩:=HC.out wr HBw.out;obtain rfl:=hk.ptr (by omega)
   obtain⟨c0,c1⟩:=hk.at hlt;have hmem:l.getD j noC∈l:=by rw[La,Lc hlt];exact LO _
   have hi:=HIn.out _ hmem;obtain⟨a,ha⟩:=Ze ((l.getD j noC).1);obtain⟨x,hx⟩:=Ze ((l.getD j noC).2);rw[ha] at c0 hi;rw[hx] at c1;obtain⟨W1,hW1⟩:=Ze (wr.alloc (.cells #[.int .u64 (a:Int),.string x] 38));have hb1:Zb wr W1:=by rw[<-hW1];exact bal (Below.refl _ _) _
   have t1:W1.heap[wr.heap.size]? = some (.cells #[.int .u64 (a:Int),.string x] 38 (0,0)):=by rw[<-hW1];exact heap_alloc_new wr _
   have d0:W1.cell? ⟨wr.heap.size,0,none⟩=some (.int .u64 (a:Int)):=by rw[cell_of_row W1 wr.heap.size 0 _ _ (0,0) t1];rfl
   have d1:W1.cell? ⟨wr.heap.size,1,none⟩=some (.string x):=by rw[cell_of_row W1 wr.heap.size 1 _ _ (0,0) t1];rfl
   have hs1:=hs.next hb1 (Lb _);obtain rfl:=hs1.ptr (by omega)
   have ci:=hs1.at hi;obtain⟨y,hy⟩:=Ze (L.getD a ByteArray.empty);rw[hy] at ci;have q0:(0:Int)<=(a:Int):=Le _;have q1:(a:Int)<(L.length:Int):=by omega
   have HW1:Hid (∀t,Zb w (W1.drewN t)):=fun t=>Qd (Qa HBw.out hb1) t
   by_cases he:y=x
   ·subst he;have HN:Hid (∀t,t<j+1->L.getD (l.getD t noC).1 ByteArray.empty=(l.getD t noC).2):=fun t ht=>by
     rcases Nu (NI ht) with h|rfl
     ·exact HAl.out t h
     ·rw[ha,hx];exact hy
    clear hk hs hs1 hmem ha hx hy t1 HAl hi hb1
    go_upto_region 4 with (fail)
    try rw[hW1]
    clear hW1 c0 c1
    go_quiet (fail)
    go_wp2
    go_roundg (l.length - (j+1))
    case rel =>
     go_light;exact⟨j+1,by omega,rfl,by go_num,HN,HW1.out _⟩
    case measure=>go_light;omega
   ·have hzb:=Yo he;have hz:=YG he;obtain rfl:false=r:=by
     rw[<-HQ.out];refine(decide_eq_false fun h=>he ?_).symm
     have:=h _ hmem;rw[ha,hx,hy] at this;exact this
    clear hk hs hs1 hmem ha hx hy t1 HAl hi hb1 he
    go_upto_region 4 with (fail)
    try rw[hW1]
    clear hW1 c0 c1
    go_quiet (fail)
    go_wp2
    go_ret
    exact⟨rfl,HW1.out _⟩
  ·obtain rfl:j=l.length:=by omega
   have hz : ¬(l.length:Int)<(l.length:Int):=by omega
   obtain rfl:true=r:=by
    rw[<-HQ.out];refine(decide_eq_true fun c hc => ?_).symm
    obtain⟨t,ht,rfl⟩:=LZ hc;have:=HAl.out t ht;rw[La (l:=l),Lc ht] at this;exact this
   have hB:=HBw.out;clear hlt hj;go_wp2
   go_ret
   exact⟨rfl,hB⟩
theorem Qg2(w:World)(pa:OA)(pb po pc:Nat)(P:LB)(hP:RdS w pa pb po P.length P)(qa:OA)(qb qo qc:Nat)(Q:LB)(hQ:RdS w qa qb qo P.length Q)(hm:P.length<=1099511627776)(r:Bool)(hq:decide (P=Q)=r) :
  Zr 67 #[.slice pa P.length pc,.slice qa P.length qc] w (.bool r):=by
 have HC:Hid (∀W,Zb w W->RdS W pa pb po P.length P∧RdS W qa qb qo P.length Q):=fun W hb=>⟨hP.next hb (Lb _),hQ.next hb (Lb _)⟩
 have z1:(P.length:Int)<=1099511627776:=by omega
 have HL:=Qc hQ.hl;have HQ:=Qc hq;clear hP hQ hm hq
 go_enter Tryz.func67,Tryz.ntmps67;go_wp2
 go_loopg [13] P.length (fun g i wr => ∃j:Nat,j<=P.length∧g=P.length - j∧i = .int .i64 (j:Int)∧Hid (∀t,t<j->P.getD t ByteArray.empty=Q.getD t ByteArray.empty)∧Hid (Zb w wr))
 case atStart =>
  go_light;exact⟨0,Lf _,rfl,rfl,fun t ht=>absurd ht (NC _),Below.refl _ _⟩
 case round =>
  obtain⟨j,hj,rfl,rfl,HAl,HBw⟩:=hrel
  by_cases hlt:j<P.length
  ·have y0:(0:Int)<=(j:Int):=Le _;have y1:(j:Int)<(P.length:Int):=by omega
   obtain⟨hp,hs⟩:=HC.out wr HBw.out;obtain rfl:=hp.ptr (by omega)
   obtain rfl:=hs.ptr (by omega)
   have ci:=hp.at hlt;have cj:=hs.at hlt;obtain⟨x,hx⟩:=Ze (P.getD j ByteArray.empty);obtain⟨y,hy⟩:=Ze (Q.getD j ByteArray.empty);rw[hx] at ci;rw[hy] at cj;have HW1:Hid (∀t,Zb w (wr.drewN t)):=fun t=>Qd HBw.out t
   by_cases he:x=y
   ·subst he;have HN:Hid (∀t,t<j+1->P.getD t ByteArray.empty=Q.getD t ByteArray.empty):=fun t ht=>by
     rcases Nu (NI ht) with h|rfl
     ·exact HAl.out t h
     ·rw[hx,hy]
    clear hp hs hx hy HAl
    go_upto_region 6 with (fail)
    go_quiet (fail)
    go_wp2
    go_roundg (P.length - (j+1))
    case rel =>
     go_light;exact⟨j+1,by omega,rfl,by go_num,HN,HW1.out _⟩
    case measure=>go_light;omega
   ·have hzb:=Yo he;have hz:=YG he;obtain rfl:false=r:=by
     rw[<-HQ.out];refine(decide_eq_false fun h=>he ?_).symm
     rw[<-hx,<-hy,h]
    clear hp hs hx hy HAl he
    go_upto_region 6 with (fail)
    go_quiet (fail)
    go_wp2
    go_ret
    exact⟨rfl,HW1.out _⟩
  ·obtain rfl:j=P.length:=by omega
   have hz : ¬(P.length:Int)<(P.length:Int):=by omega
   obtain rfl:true=r:=by
    rw[<-HQ.out];refine(decide_eq_true (II HL.out.symm fun t h1 h2 => ?_)).symm
    have:=HAl.out t h1
    rwa [La,Lc h1,La,Lc h2] at this
   have hB:=HBw.out;clear hlt hj;go_wp2
   go_ret
   exact⟨rfl,hB⟩
theorem Qbm(w:World)(pa:OA)(pb po pc:Nat)(P:LB)(hP:RdS w pa pb po P.length P)(qa:OA)(qb qo qc:Nat)(Q:LB)(hQ:RdS w qa qb qo Q.length Q)(hqc:Q.length<=qc)(hPQ:P.length<=Q.length)(hm:Q.length<=1099511627776)(r:Bool)(hq:decide (P=Q.take P.length)=r) :
  Zr 32 #[.slice pa P.length pc,.slice qa Q.length qc] w (.bool r):=by
 have ht:=Uk hQ hPQ;rw[Lv,N6 hPQ] at ht;have HE:Hid (∀c,Zr 67 #[.slice pa P.length pc,.slice qa P.length c] w (.bool r)):=fun c=>Qg2 w pa pb po pc P hP qa qb qo c (Q.take P.length) ht (by omega) r hq
 have z1:(P.length:Int)<=(Q.length:Int):=by omega
 have z2:(Q.length:Int)<=(qc:Int):=by omega
 have z3:(P.length:Int)<=(qc:Int):=by omega
 have z4:(P.length:Int)<=1099511627776:=by omega
 clear hP hQ hqc hPQ hm hq ht
 go_enter Tryz.func32,Tryz.ntmps32
 go_wp2_with (go_at_call 67;with_reducible refine(HE.out _).mono ?_;rintro e w1 ⟨rfl,hb1⟩)
 go_ret
 exact⟨rfl,hb1⟩
section
open Pl (pw QB)
open Cv (Row All Til But cov zl)
theorem QkC{i:Nat} : ∀ {l:List (Nat×BA)},[i]=ixs l -> ∃x,l=[(i,x)]
 | [(a,x)],hS=>by
  simp only[List.map_cons,List.map_nil] at hS;injection hS with hS _
  exact⟨x,by rw[hS]⟩
theorem Qku(i:Nat):(fun t:Nat=>t=i)=fun t=>t∈[i]:=by funext t;simp
structure AccT(k:Int)(o1:Nat)(c1:BA)(l:List (Nat×BA))(P:PV)(Bs:List (Nat×Nat))(K:List He)(R:LB):Prop where
 tre:Tre (clk k) o1 Bs P.D (vlC l) (fun i=>i∈ixs l) K R
 root:dg (clk k) (QN o1 (QA (clk k) R))=c1
 free : ∀i∈ixs l,i<o1 ∧ ∀t,ixM Bs t (i / 2^t)=none
 asc:Asc (ixs l)
 len:Bs.length<=2*o1+200
 call : ∀W sa sb sc da db dc,o1<=5000->RdF W sa sb sc da db dc P->Calls Tryz.prog 60 #[vP P.kd k P.old P.size (.slice sa P.S.length sc) (.slice da P.D.length dc)] W fun e w' => ∃v,e = .returned v∧Cv.Qz w' W.heap.size v (zl Bs)∧Zb W w'
theorem QgM{n:Nat}{S:List Nat}(hp:Asc S)(hb : ∀i∈S,i<n):S.length<=n:=by
 have key : ∀(S:List Nat) (x:Nat),Asc S->(∀i∈S,x<=i∧i<n)->x<=n->S.length+x<=n:=by
  intro S
  induction S with
  | nil=>intro x _ _ hx;simpa using hx
  | cons a S ih =>
   intro x hp hb hx;obtain⟨h1,h2⟩:=List.pairwise_cons.1 hp;have ha:=hb a (Nq ..);have:=ih (a+1) h2 (fun i hi=>⟨h1 i hi,(hb i (LX _ hi)).2⟩) (by omega)
   rw[Lu];omega
 have:=key S 0 hp (fun i hi=>⟨Lf _,hb i hi⟩) (Lf _)
 omega
theorem QdG{c:Nat}{L:LB}(hL:L.length<=2^40):rtD c L L.length=dg c (QN L.length (QA c ((Cv.dnL 41 0 L.length).map fun b=>nd c L b.1 b.2))):=by
 have:=(U2 c L L.length (Lb _) hL).1;rw[Cv.QH L.length hL] at this;rw[rtD,this]
theorem Qdb{k:Int}{L:LB}{l:List (Nat×BA)}{s:BA}{P:PV}{Bs:List (Nat×Nat)}{K:List He}{R:LB}(A:Acc k L.length (rtD (clk k) L L.length) l s P)(T:AccT k L.length (rtD (clk k) L L.length) l P Bs K R) :
  (∃q,wk (clk k) L.length L (ixM Bs) P.D (vlC l) (Cv.dnL 41 0 L.length)=some q∧Clx (clk k) q)∨soC L l:=by
 have he:=T.root;rw[QdG A.n40,<-T.tre.pk] at he
 rcases Qe1 (Qx k) T.tre.lt T.tre.dsz he.symm with h|⟨_,h⟩
 ·exact .inl h
 ·refine .inr fun c hc => ?_
  have hm:c.1∈ixs l:=LE.2 ⟨c,hc,rfl⟩;obtain⟨hi,hfree⟩:=T.free c.1 hm;obtain⟨A',H,B,wy⟩:=QlV L.length c.1 A.n40 hi;obtain⟨h1,h2⟩:=h _ wy.top;have:=(Qeg (Qx k) T.tre.lt T.tre.dsz H (c.1 / 2^H) h1 h2 0 c.1 (Lf _) rfl (fun t _ _=>hfree t)).2 rfl (by have:=hfree 0;rwa [Nj,Ib] at this)
  rw[this];obtain⟨j,hj,rfl⟩:=LZ hc;have e:=Qm4 T.asc hj;rw[La,Lc hj] at e;exact e
end
end Go.Proofs.YtdocjikpcbmcgaaGreatDoor
