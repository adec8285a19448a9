/- Own work. -/
import Derived.Test.YtdocjikpcbmcgaaGreatDoorQj31
set_option maxRecDepth 100000
set_option maxHeartbeats 4000000
namespace Go.Proofs.YtdocjikpcbmcgaaGreatDoor
open Go.RowKit
attribute [local go_sem ↓] Go.wp_at_zero Go.wp_at_succ
section
open Cv (RdC zl cU cov)
theorem Qg9(w:World)(kd k:Int)(old size:Nat)(sa:OA)(ns sc:Nat)(da:OA)(dn dc:Nat)(c1 : ¬kd=3) :
  Zr 133 #[vP kd k old size (.slice sa ns sc) (.slice da dn dc)] w (.bool false):=by
 have h6:=QV w (.int .i64 kd) (.int .i64 k) (.int .u64 (old:Int)) (.int .u64 (size:Int)) (.slice sa ns sc) (.slice da dn dc);have hb:=bal (Below.refl w.heap.size w) (.cells #[.int .i64 kd,.int .i64 k,.int .u64 (old:Int),.int .u64 (size:Int),.slice sa ns sc,.slice da dn dc] 55);obtain⟨W0,hW0⟩:=Ze (w.alloc (.cells #[.int .i64 kd,.int .i64 k,.int .u64 (old:Int),.int .u64 (size:Int),.slice sa ns sc,.slice da dn dc] 55));rw[hW0] at h6 hb;obtain⟨g0,g1,g2,g3,g4,g5⟩:=h6.cells;have HB:=Qc hb;unfold vP;have a1:decide (kd=3)=false:=decide_eq_false c1
 have a2:(kd != 3)=true:=by simp;exact c1
 have a3:(!decide (kd=3))=true:=by rw[a1];rfl
 clear h6 hb a1
 go_enter Tryz.func133,Tryz.ntmps133
 go_upto_region 1 with (fail)
 try rw[hW0]
 clear hW0
 go_quiet (fail)
 go_wp2
 go_ret
 exact⟨rfl,Qd HB.out _⟩
theorem Qha(w:World)(kd k:Int)(old size:Nat)(sa:OA)(ns sc:Nat)(da:OA)(dn dc:Nat)(c1:kd=3)(c2:k<1) :
  Zr 133 #[vP kd k old size (.slice sa ns sc) (.slice da dn dc)] w (.bool false):=by
 have h6:=QV w (.int .i64 kd) (.int .i64 k) (.int .u64 (old:Int)) (.int .u64 (size:Int)) (.slice sa ns sc) (.slice da dn dc);have hb:=bal (Below.refl w.heap.size w) (.cells #[.int .i64 kd,.int .i64 k,.int .u64 (old:Int),.int .u64 (size:Int),.slice sa ns sc,.slice da dn dc] 55);obtain⟨W0,hW0⟩:=Ze (w.alloc (.cells #[.int .i64 kd,.int .i64 k,.int .u64 (old:Int),.int .u64 (size:Int),.slice sa ns sc,.slice da dn dc] 55));rw[hW0] at h6 hb;obtain⟨g0,g1,g2,g3,g4,g5⟩:=h6.cells;have HB:=Qc hb;subst c1;unfold vP;have f2:decide (k<1)=true:=decide_eq_true (by omega)
 clear h6 hb c2
 go_enter Tryz.func133,Tryz.ntmps133
 go_upto_region 1 with (fail)
 try rw[hW0]
 clear hW0
 go_quiet (fail)
 go_wp2
 go_ret
 exact⟨rfl,Qd HB.out _⟩
theorem Qhb(w:World)(kd k:Int)(old size:Nat)(sa:OA)(ns sc:Nat)(da:OA)(dn dc:Nat)(c1:kd=3)(c2 : ¬k<1)(c3:32<k) :
  Zr 133 #[vP kd k old size (.slice sa ns sc) (.slice da dn dc)] w (.bool false):=by
 have h6:=QV w (.int .i64 kd) (.int .i64 k) (.int .u64 (old:Int)) (.int .u64 (size:Int)) (.slice sa ns sc) (.slice da dn dc);have hb:=bal (Below.refl w.heap.size w) (.cells #[.int .i64 kd,.int .i64 k,.int .u64 (old:Int),.int .u64 (size:Int),.slice sa ns sc,.slice da dn dc] 55);obtain⟨W0,hW0⟩:=Ze (w.alloc (.cells #[.int .i64 kd,.int .i64 k,.int .u64 (old:Int),.int .u64 (size:Int),.slice sa ns sc,.slice da dn dc] 55));rw[hW0] at h6 hb;obtain⟨g0,g1,g2,g3,g4,g5⟩:=h6.cells;have HB:=Qc hb;subst c1;unfold vP;have f2:decide (k<1)=false:=decide_eq_false (by omega)
 have f3:decide (32<k)=true:=decide_eq_true (by omega)
 clear h6 hb c2 c3
 go_enter Tryz.func133,Tryz.ntmps133
 go_upto_region 1 with (fail)
 try rw[hW0]
 clear hW0
 go_quiet (fail)
 go_wp2
 go_ret
 exact⟨rfl,Qd HB.out _⟩
theorem Qhc(w:World)(kd k:Int)(old size:Nat)(sa:OA)(ns sc:Nat)(da:OA)(dn dc:Nat)(c1:kd=3)(c2 : ¬k<1)(c3 : ¬32<k)(c4:2^40<size) :
  Zr 133 #[vP kd k old size (.slice sa ns sc) (.slice da dn dc)] w (.bool false):=by
 have h6:=QV w (.int .i64 kd) (.int .i64 k) (.int .u64 (old:Int)) (.int .u64 (size:Int)) (.slice sa ns sc) (.slice da dn dc);have hb:=bal (Below.refl w.heap.size w) (.cells #[.int .i64 kd,.int .i64 k,.int .u64 (old:Int),.int .u64 (size:Int),.slice sa ns sc,.slice da dn dc] 55);obtain⟨W0,hW0⟩:=Ze (w.alloc (.cells #[.int .i64 kd,.int .i64 k,.int .u64 (old:Int),.int .u64 (size:Int),.slice sa ns sc,.slice da dn dc] 55));rw[hW0] at h6 hb;obtain⟨g0,g1,g2,g3,g4,g5⟩:=h6.cells;have HB:=Qc hb;subst c1;unfold vP;have f2:decide (k<1)=false:=decide_eq_false (by omega)
 have f3:decide (32<k)=false:=decide_eq_false (by omega)
 have f4:decide ((1099511627776:Int)<(size:Int))=true:=decide_eq_true (by omega)
 clear h6 hb c2 c3 c4
 go_enter Tryz.func133,Tryz.ntmps133
 go_upto_region 1 with (fail)
 try rw[hW0]
 clear hW0
 go_quiet (fail)
 go_wp2
 go_ret
 exact⟨rfl,Qd HB.out _⟩
theorem Qhd(w:World)(kd k:Int)(old size:Nat)(sa:OA)(ns sc:Nat)(da:OA)(dn dc:Nat)(c1:kd=3)(c2 : ¬k<1)(c3 : ¬32<k)(c4 : ¬2^40<size)(c5:size<old) :
  Zr 133 #[vP kd k old size (.slice sa ns sc) (.slice da dn dc)] w (.bool false):=by
 have h6:=QV w (.int .i64 kd) (.int .i64 k) (.int .u64 (old:Int)) (.int .u64 (size:Int)) (.slice sa ns sc) (.slice da dn dc);have hb:=bal (Below.refl w.heap.size w) (.cells #[.int .i64 kd,.int .i64 k,.int .u64 (old:Int),.int .u64 (size:Int),.slice sa ns sc,.slice da dn dc] 55);obtain⟨W0,hW0⟩:=Ze (w.alloc (.cells #[.int .i64 kd,.int .i64 k,.int .u64 (old:Int),.int .u64 (size:Int),.slice sa ns sc,.slice da dn dc] 55));rw[hW0] at h6 hb;obtain⟨g0,g1,g2,g3,g4,g5⟩:=h6.cells;have HB:=Qc hb;subst c1;unfold vP;have f2:decide (k<1)=false:=decide_eq_false (by omega)
 have f3:decide (32<k)=false:=decide_eq_false (by omega)
 have f4:decide ((1099511627776:Int)<(size:Int))=false:=decide_eq_false (by omega)
 have f5:decide ((size:Int)<(old:Int))=true:=decide_eq_true (by omega)
 have f5n:decide (size<old)=true:=decide_eq_true (by omega)
 clear h6 hb c2 c3 c4 c5
 go_enter Tryz.func133,Tryz.ntmps133
 go_upto_region 1 with (fail)
 try rw[hW0]
 clear hW0
 go_quiet (fail)
 go_wp2
 go_ret
 exact⟨rfl,Qd HB.out _⟩
theorem Qhe(w:World)(kd k:Int)(old size:Nat)(sa:OA)(ns sc:Nat)(da:OA)(dn dc:Nat)(c1:kd=3)(c2 : ¬k<1)(c3 : ¬32<k)(c4 : ¬2^40<size)(c5 : ¬size<old)(c6 : ¬ns=0) :
  Zr 133 #[vP kd k old size (.slice sa ns sc) (.slice da dn dc)] w (.bool false):=by
 have h6:=QV w (.int .i64 kd) (.int .i64 k) (.int .u64 (old:Int)) (.int .u64 (size:Int)) (.slice sa ns sc) (.slice da dn dc);have hb:=bal (Below.refl w.heap.size w) (.cells #[.int .i64 kd,.int .i64 k,.int .u64 (old:Int),.int .u64 (size:Int),.slice sa ns sc,.slice da dn dc] 55);obtain⟨W0,hW0⟩:=Ze (w.alloc (.cells #[.int .i64 kd,.int .i64 k,.int .u64 (old:Int),.int .u64 (size:Int),.slice sa ns sc,.slice da dn dc] 55));rw[hW0] at h6 hb;obtain⟨g0,g1,g2,g3,g4,g5⟩:=h6.cells;have HB:=Qc hb;subst c1;unfold vP;have f2:decide (k<1)=false:=decide_eq_false (by omega)
 have f3:decide (32<k)=false:=decide_eq_false (by omega)
 have f4:decide ((1099511627776:Int)<(size:Int))=false:=decide_eq_false (by omega)
 have f5:decide ((size:Int)<(old:Int))=false:=decide_eq_false (by omega)
 have f5n:decide (size<old)=false:=decide_eq_false (by omega)
 have a1:decide (ns=0)=false:=decide_eq_false c6
 have a2:decide ((ns:Int)=0)=false:=decide_eq_false (by omega)
 have a3:((ns:Int) != 0)=true:=by simp;omega
 have a4:(!decide (ns=0))=true:=by rw[a1];rfl
 have a5:(!decide ((ns:Int)=0))=true:=by rw[a2];rfl
 clear h6 hb c2 c3 c4 c5 c6 a1 a2
 go_enter Tryz.func133,Tryz.ntmps133
 go_upto_region 1 with (fail)
 try rw[hW0]
 clear hW0
 go_quiet (fail)
 go_wp2
 go_ret
 exact⟨rfl,Qd HB.out _⟩
theorem Qhf(w:World)(k:Int)(old size:Nat)(sa:OA)(sc:Nat)(da:OA)(db dO dc:Nat)(D:LB)(hr:RdS w da db dO D.length D)(hm:D.length<=8796093022208)(c2 : ¬k<1)(c3 : ¬32<k)(c4 : ¬2^40<size)(c5 : ¬size<old)(r:Bool)(hq:decide (fil k (kb old size).length D)=r) :
  Zr 133 #[vP 3 k old size (.slice sa 0 sc) (.slice da D.length dc)] w (.bool r):=by
 have h6:=QV w (.int .i64 3) (.int .i64 k) (.int .u64 (old:Int)) (.int .u64 (size:Int)) (.slice sa 0 sc) (.slice da D.length dc);have hb:=bal (Below.refl w.heap.size w) (.cells #[.int .i64 3,.int .i64 k,.int .u64 (old:Int),.int .u64 (size:Int),.slice sa 0 sc,.slice da D.length dc] 55);obtain⟨W0,hW0⟩:=Ze (w.alloc (.cells #[.int .i64 3,.int .i64 k,.int .u64 (old:Int),.int .u64 (size:Int),.slice sa 0 sc,.slice da D.length dc] 55));rw[hW0] at h6 hb;obtain⟨g0,g1,g2,g3,g4,g5⟩:=h6.cells;have HB:=Qc hb;have f2:decide (k<1)=false:=decide_eq_false (by omega)
 have f3:decide (32<k)=false:=decide_eq_false (by omega)
 have f4:decide ((1099511627776:Int)<(size:Int))=false:=decide_eq_false (by omega)
 have f5:decide ((size:Int)<(old:Int))=false:=decide_eq_false (by omega)
 have f5n:decide (size<old)=false:=decide_eq_false (by omega)
 have HBk:Hid (∀W,Calls Tryz.prog 134 #[.int .u64 (old:Int),.int .u64 (size:Int)] W fun e w' => ∃ao cap,e = .returned (.slice ao (kb old size).length cap)∧Zb W w'):=fun W=>(QaP W old size (by omega) (by omega)).mono fun e w' ⟨v,e1,e2,e3⟩=>by
  obtain⟨ao,n',cap,rfl⟩:=Cv.Qh e2;have hl:=Og e2;rw[Cv.Qq] at hl;subst hl;exact⟨_,_,e1,e3⟩
 obtain⟨lb,hlb⟩:=Ze ((kb old size).length);rw[hlb] at HBk hq;have HX:Hid (∀Z,Zb W0 Z->Zb w Z∧RdS Z da db dO D.length D∧Six Z w.heap.size (.int .i64 3) (.int .i64 k) (.int .u64 (old:Int)) (.int .u64 (size:Int)) (.slice sa 0 sc) (.slice da D.length dc)):=fun Z hZ=>⟨Qa hb hZ,hr.next (Qa hb hZ) (Lb _),h6.next hZ⟩
 have HC:Hid (∀Z,Zb W0 Z->Z.cell? ⟨w.heap.size,0,none⟩=some (.int .i64 3)∧Z.cell? ⟨w.heap.size,1,none⟩=some (.int .i64 k)∧Z.cell? ⟨w.heap.size,2,none⟩=some (.int .u64 (old:Int))∧Z.cell? ⟨w.heap.size,3,none⟩=some (.int .u64 (size:Int))∧Z.cell? ⟨w.heap.size,4,none⟩=some (.slice sa 0 sc)∧Z.cell? ⟨w.heap.size,5,none⟩=some (.slice da D.length dc)):=fun Z hZ=>(HX.out Z hZ).2.2.cells
 have hb0:=Below.refl W0.heap.size W0;have hm1:(D.length:Int)<=8796093022208:=by omega
 unfold vP;clear h6 hb c2 c3 c4 c5 hr hm hlb
 go_enter Tryz.func133,Tryz.ntmps133
 go_upto_region 1 with (fail)
 try rw[hW0]
 clear hW0
 by_cases hl:D.length=lb
 ·have HQ:Hid (decide (∀d∈D,(d.size:Int)=k)=r):=by
   rw[<-hq]
   show decide _=decide _
   simp only[fil,hl,true_and]
  subst hl;clear hq
  go_region_held3 (fun Z=>Z.cell? ⟨w.heap.size,0,none⟩=some (.int .i64 3)∧Z.cell? ⟨w.heap.size,1,none⟩=some (.int .i64 k)∧Z.cell? ⟨w.heap.size,2,none⟩=some (.int .u64 (old:Int))∧Z.cell? ⟨w.heap.size,3,none⟩=some (.int .u64 (size:Int))∧Z.cell? ⟨w.heap.size,4,none⟩=some (.slice sa 0 sc)∧Z.cell? ⟨w.heap.size,5,none⟩=some (.slice da D.length dc))
   (exact HC.out _ (by first|exact hb0|exact hb0.drew|exact hb1)) (first
   | (go_at_call 134;with_reducible refine(HBk.out _).mono ?_;rintro e w1 ⟨ao,cap,rfl,hb1'⟩;have hb1:Zb W0 w1:=by first|exact Qa hb0.drew hb1'|exact Qa hb0 hb1'))
  all_goals
   have HBx:=Qc hb1;obtain⟨m0,m1,m2,m3,m4,m5⟩:=(HX.out w1 hb1).2.2.cells;clear hb1 hb1' hb0 HBk HC g0 g1 g2 g3 g4 g5 m0 m2 m3 m4;go_wp2
   go_loopg [3] D.length (fun gg i wr => ∃j:Nat,j<=D.length∧gg=D.length - j∧i = .int .i64 (j:Int)∧(∀t,t<j->((D.getD t ByteArray.empty).size:Int)=k)∧Hid (Zb W0 wr))
   case atStart =>
    go_light;exact⟨0,Lf _,rfl,rfl,fun t ht=>absurd ht (NC _),HBx⟩
   case round =>
    clear HBx m1 m5;obtain⟨j,hj,rfl,rfl,hal,HI⟩:=hrel;obtain⟨_,m1,_,_,_,m5⟩:=(HX.out wr HI.out).2.2.cells
    by_cases hlt:j<D.length
    ·have hz:(j:Int)<(D.length:Int):=by omega
     have hz0:(0:Int)<=(j:Int):=Le _;have hrd:=(HX.out wr HI.out).2.1;obtain rfl:=hrd.ptr (by omega)
     have cj:=hrd.at hlt;obtain⟨d,hd⟩:=Ze (D.getD j ByteArray.empty);rw[hd] at cj;have HBw:Hid (Zb W0 wr.drew):=HI.out.drew;have HBy:Hid (Zb w wr.drew):=(HX.out wr HI.out).1.drew
     by_cases hk:(d.size:Int)=k
     ·have HN:Hid (∀t,t<j+1->((D.getD t ByteArray.empty).size:Int)=k):=fun t ht=>by
       rcases Nu (NI ht) with hx|rfl
       ·exact hal t hx
       ·rw[hd];exact hk
      clear hd hal hrd HI
      go_upto_region 6 with (fail)
      go_region
      go_wp2
      go_roundg (D.length - (j+1))
      case rel =>
       go_light;exact⟨j+1,by omega,rfl,by go_num,HN.out,HBw⟩
      case measure=>go_light;omega
     ·obtain rfl:false=r:=by
       rw[<-HQ.out];refine(decide_eq_false fun h=>hk ?_).symm
       rw[<-hd];exact h _ (QI hlt)
      clear hd hal hrd HI
      go_upto_region 6 with (fail)
      go_region
      go_wp2
      go_ret
      exact⟨rfl,HBy.out⟩
    ·obtain rfl:j=D.length:=by omega
     have hz : ¬((D.length:Int)<(D.length:Int)):=by omega
     obtain rfl:true=r:=by
      rw[<-HQ.out];refine(decide_eq_true fun d hd => ?_).symm
      obtain⟨t,ht,rfl⟩:=LZ hd;have:=hal t ht
      rwa [La,Lc ht] at this
     have HBy:=Qc (HX.out wr HI.out).1;clear hal hlt HI;go_wp2
     go_ret
     exact⟨rfl,HBy.out⟩
 ·have hne:(!decide (D.length=lb))=true:=by rw[decide_eq_false hl];rfl
  have hne2:((D.length:Int) != (lb:Int))=true:=by simp;omega
  have hne3:(!decide ((D.length:Int)=(lb:Int)))=true:=by rw[decide_eq_false (by omega)];rfl
  obtain rfl:false=r:=by rw[<-hq];exact(decide_eq_false (by rintro⟨h,_⟩;exact hl h)).symm
  clear hl hq
  go_region_held3 (fun Z=>Z.cell? ⟨w.heap.size,0,none⟩=some (.int .i64 3)∧Z.cell? ⟨w.heap.size,1,none⟩=some (.int .i64 k)∧Z.cell? ⟨w.heap.size,2,none⟩=some (.int .u64 (old:Int))∧Z.cell? ⟨w.heap.size,3,none⟩=some (.int .u64 (size:Int))∧Z.cell? ⟨w.heap.size,4,none⟩=some (.slice sa 0 sc)∧Z.cell? ⟨w.heap.size,5,none⟩=some (.slice da D.length dc))
   (exact HC.out _ (by first|exact hb0|exact hb0.drew|exact hb1)) (first
   | (go_at_call 134;with_reducible refine(HBk.out _).mono ?_;rintro e w1 ⟨ao,cap,rfl,hb1'⟩;have hb1:Zb W0 w1:=by first|exact Qa hb0.drew hb1'|exact Qa hb0 hb1'))
  all_goals
   have HBy:=Qc (HX.out w1 hb1).1;clear hb1 hb1' hb0 HBk HC g0 g1 g2 g3 g4 g5;go_wp2
   go_ret
   exact⟨rfl,HBy.out⟩
theorem QaJ(w:World)(kd k:Int)(old size:Nat)(sa:OA)(ns sc:Nat)(da:OA)(db dO dc:Nat)(D:LB)(hr:RdS w da db dO D.length D)(hm:D.length<=8796093022208)(r:Bool)(hq:decide (okK kd k old size ns D)=r) :
  Zr 133 #[vP kd k old size (.slice sa ns sc) (.slice da D.length dc)] w (.bool r):=by
 have no : ¬isK kd k old size ns->false=r:=fun h=>by rw[<-hq];exact(decide_eq_false fun h'=>h h'.1).symm
 by_cases c1:kd=3
 ·by_cases c2:k<1
  ·obtain rfl:=no fun h=>by have:=h.1.2;omega
   exact Qha w kd k old size sa ns sc da D.length dc c1 c2
  ·by_cases c3:32<k
   ·obtain rfl:=no fun h=>by have:=h.1.2;omega
    exact Qhb w kd k old size sa ns sc da D.length dc c1 c2 c3
   ·by_cases c4:2^40<size
    ·obtain rfl:=no fun h=>by have:=h.2.1;omega
     exact Qhc w kd k old size sa ns sc da D.length dc c1 c2 c3 c4
    ·by_cases c5:size<old
     ·obtain rfl:=no fun h=>by have:=h.2.2.1;omega
      exact Qhd w kd k old size sa ns sc da D.length dc c1 c2 c3 c4 c5
     ·by_cases c6:ns=0
      ·subst c1 c6;refine Qhf w k old size sa sc da db dO dc D hr hm c2 c3 c4 c5 r ?_
       rw[<-hq];refine decide_eq_decide.2 ⟨fun h=>⟨⟨⟨rfl,by omega,by omega⟩,by omega,by omega,rfl⟩,h⟩,fun h=>h.2⟩
      ·obtain rfl:=no fun h=>c6 h.2.2.2
       exact Qhe w kd k old size sa ns sc da D.length dc c1 c2 c3 c4 c5 c6
 ·obtain rfl:=no fun h=>c1 h.1.1
  exact Qg9 w kd k old size sa ns sc da D.length dc c1
end
section
open Cv (RdC zl cU cov)
open Pl (pw)
theorem QhH(w:World)(kd k:Int)(old size:Nat)(sa:OA)(ns sc:Nat)(da:OA)(db dO dc:Nat)(D:LB)(hr:RdS w da db dO D.length D)(hm:D.length<=8796093022208)(hno : ¬okK kd k old size ns D) :
  Zr 83 #[vP kd k old size (.slice sa ns sc) (.slice da D.length dc)] w (.tuple #[noR,noR,.int .i64 150]):=by
 obtain⟨W0,hW0⟩:=Ze (((w.alloc (.cells #[.int .i64 kd,.int .i64 k,.int .u64 (old:Int),.int .u64 (size:Int),.slice sa ns sc,.slice da D.length dc] 55)).alloc (.cells #[.int .u64 0,.string ⟨#[]⟩] 30)).alloc (.cells #[.int .u64 0,.string ⟨#[]⟩] 30));obtain⟨h3,hb⟩:=OZ w kd k old size (.slice sa ns sc) (.slice da D.length dc) hW0;obtain⟨c0,c1,c2,c3,c4,c5⟩:=h3.six.cells;have H3:=Qc h3;have HI:Hid (∀W,Zb w W->Zr 133 #[vP kd k old size (.slice sa ns sc) (.slice da D.length dc)] W (.bool false)):=fun W hb=>QaJ W kd k old size sa ns sc da db dO dc D (hr.next hb (Lb _)) hm false (decide_eq_false hno)
 clear hr hm hno h3;unfold vP at HI;unfold vP
 go_enter Tryz.func83,Tryz.ntmps83
 go_wp2_with (go_at_call 133;with_reducible refine(HI.out _ hb).mono ?_;rintro e w3 ⟨rfl,hb3⟩;have hK:=H3.out.next hb3;obtain⟨k0,k1⟩:=hK.r1.cells;obtain⟨k2,k3⟩:=hK.r2.cells;have f0:=hK.r1.fz;have f1:=hK.r2.fz)
 have hK1:=(hK.put1 0 ⟨#[]⟩).put2 0 ⟨#[]⟩;have hc1:=QU w3 (w.heap.size+1) 0 ⟨#[]⟩;have hc2:=QU (UH w3 (w.heap.size+1) 0 ⟨#[]⟩) (w.heap.size+2) 0 ⟨#[]⟩;unfold UH at hK1 hc1 hc2;rw[show((0:Nat):Int)=0 from rfl] at hK1 hc1 hc2
 obtain⟨s0,s1⟩:=hK1.r1.cells;obtain⟨s2,s3⟩:=hK1.r2.cells;refine bodyPost_ret (v := .tuple #[noR,noR,.int .i64 150]) (by simp[results,Tryz.results83,go_sem,s0,s1,s2,s3]) rfl ⟨rfl,?_⟩
 exact((Qa hb hb3).trans (hc1.below (by rintro b rfl;omega))).trans (hc2.below (by rintro b rfl;omega))
theorem Qmc(F:Nat->Nat->BA)(T:List (Nat×Nat)){j:Nat}(hj:j<T.length):dgF F (T.take (j+1))=dgF F (T.take j)++[F (T.getD j (0,0)).1 (T.getD j (0,0)).2]:=by
 rw[Yg (0,0) T j hj,dgF,LK];rfl
theorem rroots_ok (w:World) (hT:Tr w) (k:Int) (old size:Nat) (sa:OA) (sc:Nat) (da:OA) (db dO dc:Nat) (D:LB) (hr:RdS w da db dO D.length D) (hdc:D.length<=dc) (hok:okK 3 k old size 0 D) (r1 r2:BA) (hr1:kOld (clk k) old D=r1) (hr2:kNow (clk k) size (dgK (clk k) (kb old size) D)=r2) :
    Zr 83 #[vP 3 k old size (.slice sa 0 sc) (.slice da D.length dc)] w (.tuple #[.agg #[.int .u64 (old:Int),.string r1],.agg #[.int .u64 (size:Int),.string r2],.int .i64 0]):=by
  obtain⟨W0,hW0⟩:=Ze (((w.alloc (.cells #[.int .i64 3,.int .i64 k,.int .u64 (old:Int),.int .u64 (size:Int),.slice sa 0 sc,.slice da D.length dc] 55)).alloc (.cells #[.int .u64 0,.string ⟨#[]⟩] 30)).alloc (.cells #[.int .u64 0,.string ⟨#[]⟩] 30));obtain⟨h3,hb⟩:=OZ w 3 k old size (.slice sa 0 sc) (.slice da D.length dc) hW0;obtain⟨c0,c1,c2,c3,c4,c5⟩:=h3.six.cells;have H3:=Qc h3;obtain⟨h1,h2⟩:=hok;have hos:old<=size:=h1.2.2.1;have hs40:size<=2^40:=h1.2.1;have hkk:1<=k∧k<=32:=h1.1.2;have hfl:D.length=(kb old size).length:=h2.1;have hfs : ∀d∈D,(d.size:Int)=k:=h2.2;have hkl:=OB hos hs40;have hmm:D.length<=8796093022208:=by omega
  have hD32 : ∀d∈D,d.size<=32:=fun d hd=>by have:=hfs d hd;omega
  have hon:(cov 0 old).length<=D.length:=by rw[hfl,kb,Ld];omega
  obtain⟨t,htl⟩:=Ze ((cov 0 old).length);rw[htl] at hon;have HI:Hid (∀W,Zb w W->Zr 133 #[vP 3 k old size (.slice sa 0 sc) (.slice da D.length dc)] W (.bool true)):=fun W hb=>QaJ W 3 k old size sa 0 sc da db dO dc D (hr.next hb (Lb _)) hmm true (decide_eq_true ⟨h1,h2⟩)
  have HBk:Hid (∀W,Calls Tryz.prog 134 #[.int .u64 (old:Int),.int .u64 (size:Int)] W fun e w' => ∃ao g cap,e = .returned (.slice ao (kb old size).length cap)∧RdB w' ao g 0 (kb old size).length (zl (kb old size))∧Zb W w'):=fun W=>(QaP W old size hos hs40).mono fun e w' ⟨v,e1,e2,e3⟩=>by
    obtain⟨ao,g,n',cap,rfl,hr',_⟩:=Uc e2 (fun x hx=>by
      obtain⟨b0,hb0,rfl⟩:=LE.1 hx;exact(Oq (QlL hos hs40 b0 hb0) hs40).1)
    have hl:=hr'.len;rw[Cv.Qq] at hl;subst hl;exact⟨ao,g,cap,e1,hr',e3⟩
  have HM:Hid (∀(W:World) (n:Nat),n<=2^40->Calls Tryz.prog 40 #[.int .u64 (n:Int)] W fun e w' => ∃ao g cap,e = .returned (.tuple #[.slice ao (cov 0 n).length cap,.int .i64 0])∧RdB w' ao g 0 (cov 0 n).length (zl (cov 0 n))∧Zb W w'):=fun W n hn=>by
    have h:=Cv.YW n W;rw[(Yt (Lf _) hn).1,(Yt (Lf _) hn).2] at h;refine h.mono fun e w' ⟨v,e1,e2,e3⟩ => ?_
    obtain⟨ao,g,n',cap,rfl,hr',_⟩:=Uc e2 (fun x hx=>by
      obtain⟨b0,hb0,rfl⟩:=LE.1 hx;exact(Oq ((Uy (Cv.UI 0 n (Lf _) hn) b0 hb0).2) hn).1)
    have hl:=hr'.len;rw[Cv.Qq] at hl;subst hl;exact⟨ao,g,cap,e1,hr',e3⟩
  have HM1:Hid (∀W,Calls Tryz.prog 40 #[.int .u64 (old:Int)] W fun e w' => ∃ao cap,e = .returned (.tuple #[.slice ao t cap,.int .i64 0])∧Zb W w'):=fun W=>(HM.out W old (by omega)).mono fun e w' ⟨ao,g,cap,e1,_,e3⟩=>by
    rw[htl] at e1;exact⟨ao,cap,e1,e3⟩
  obtain⟨T,hTd⟩:=Ze (cov 0 size);have hTl:T.length<=40:=by rw[<-hTd];exact Cv.Uu size hs40
  have hTin : ∀b∈T,b.1<=40∧(b.2+1)*pw b.1<=2^41:=fun b hb=>by
    rw[<-hTd] at hb;have h5:=(Uy (Cv.UI 0 size (Lf _) hs40) b hb).2;exact⟨Qfm (Nat.succ_pos _) (Lm h5 hs40),by omega⟩
  have HM2:Hid (∀W,Calls Tryz.prog 40 #[.int .u64 (size:Int)] W fun e w' => ∃ao g cap,e = .returned (.tuple #[.slice ao T.length cap,.int .i64 0])∧RdB w' ao g 0 T.length (zl T)∧Zb W w'):=fun W=>by rw[<-hTd];exact HM.out W size hs40
  obtain⟨F,hFd⟩:=Ze (dgK (clk k) (kb old size) D);have hFs : ∀a b,(F a b).size<=32:=fun a b=>by rw[<-hFd];exact OT (Qx k) hD32 a b
  rw[hFd,kNow,hTd] at hr2;have HDg:Hid (∀W ao g cap j,Zb w W->RdB W ao g 0 (kb old size).length (zl (kb old size))->j<T.length->Zr 135 #[vP 3 k old size (.slice sa 0 sc) (.slice da D.length dc),.slice ao (kb old size).length cap,.agg #[.int .i64 ((T.getD j (0,0)).1:Int),.int .u64 ((T.getD j (0,0)).2:Int)]] W (.string (F (T.getD j (0,0)).1 (T.getD j (0,0)).2))):=fun W ao g cap j hb hB hj=>by
    have hin:=hTin _ (Q5 hj);exact QeE 3 k old size sa 0 sc da db dO dc D hD32 ao g cap (kb old size) (by omega) (by omega) _ _ hin.1 hin.2 W (hT.next hb) (hr.next hb (Lb _)) hB _ (by rw[hFd])
  have HR1:Hid (∀W,Zb w W->Zr 21 #[.int .i64 k,.int .u64 (old:Int),.slice da t dc] W (.string r1)):=fun W hb=>by
    have hrd:=Uk (hr.next hb (Lb _)) hon;rw[Lv,N6 hon] at hrd;exact JY W (hT.next hb) k old (by omega) da db dO t dc (D.take t) hrd (fun s hs=>by have:=hfs s (LJ hs);omega) (by omega) r1 (by rw[<-hr1,kOld,htl])
  have HR2:Hid (∀W ap bp cp,Zb w W->RdS W ap bp 0 T.length (dgF F T)->Zr 21 #[.int .i64 k,.int .u64 (size:Int),.slice ap T.length cp] W (.string r2)):=fun W ap bp cp hb hR=>JY W (hT.next hb) k size (by omega) ap bp 0 T.length cp (dgF F T) hR (fun s hs=>by
      obtain⟨b,_,rfl⟩:=LE.1 hs;have:=hFs b.1 b.2;omega) (by omega) r2 hr2
  have htz:(t:Int)<=(D.length:Int):=by omega
  have htc:(t:Int)<=(dc:Int):=by omega
  have ht0:(0:Int)<=(t:Int):=Le _;have hTz:(T.length:Int)<=40:=by omega
  obtain⟨lb,hlb⟩:=Ze ((kb old size).length);obtain⟨zb,hzb⟩:=Ze (zl (kb old size));rw[hlb,hzb] at HBk HDg;have HFs:Hid ((∀a b,(F a b).size<=32)∧T.length<=40∧(∀b∈T,b.1<=40∧(b.2+1)*pw b.1<=2^41)):=⟨hFs,hTl,hTin⟩;clear hT hr hdc h1 h2 hos hs40 hkk hfl hfs hkl hmm hon htl hr1 hr2 h3 hlb hzb hTd hFd hFs hTl hTin HM hD32;unfold vP at HI HDg;unfold vP
  go_enter Tryz.func83,Tryz.ntmps83
  go_upto_region 6 with (first
    | (go_at_call 133;with_reducible refine(HI.out _ hb).mono ?_;rintro e w1 ⟨rfl,hb1⟩;obtain⟨d0,d1,d2,d3,d4,d5⟩:=(H3.out.next hb1).six.cells)
    | (go_at_call 134;with_reducible refine(HBk.out _).mono ?_;rintro e w2 ⟨ao,g,cap,rfl,hB2,hb2⟩;obtain⟨g0,g1,g2,g3,g4,g5⟩:=(H3.out.next (Qa hb1 hb2)).six.cells)
    | (go_at_call 40;with_reducible refine(HM2.out _).mono ?_;rintro e w4 ⟨at4,gt,cap4,rfl,hB4,hb4⟩;have hb24:=Qa hb3 hb4)
    | (go_at_call 40;with_reducible refine(HM1.out _).mono ?_;rintro e w3 ⟨ao3,cap3,rfl,hb3⟩;obtain⟨k0,k1,k2,k3,k4,k5⟩:=(H3.out.next (Qa (Qa hb1 hb2) hb3)).six.cells))
  have hB4b:=hB2.below hb24;have hbw:=Qa (Qa (Qa hb hb1) hb2) hb24;have hK4:=H3.out.next (Qa (Qa hb1 hb2) hb24);have HX:Hid (∀Z,Zb w4 Z->Zb w Z∧K3 Z w.heap.size 3 k old size (.slice sa 0 sc) (.slice da D.length dc) 0 ⟨#[]⟩ 0 ⟨#[]⟩∧RdB Z ao g 0 lb zb∧RdB Z at4 gt 0 T.length (zl T)):=fun Z hZ=>⟨Qa hbw hZ,hK4.next hZ,hB4b.below hZ,hB4.below hZ⟩
  clear H3 HI HBk HM1 HM2 hb hb1 hb2 hb3 hb4 hb24 hW0 c0 c1 c2 c3 c4 c5 d0 d1 d2 d3 d4 d5 g0 g1 g2 g3 g4 g5 k0 k1 k2 k3 k4 k5 hB2 hB4 hK4 hB4b hbw;go_wp2
  go_loopg [10,11] T.length (fun gg v i wr => ∃j:Nat,j<=T.length∧gg=T.length - j∧i = .int .i64 (j:Int)∧Hid (Qk wr w4.heap.size v (dgF F (T.take j))∧Zb w4 wr))
  case atStart =>
    go_light;exact⟨0,Lf _,rfl,rfl,YV _ _,Below.refl _ _⟩
  case round =>
    obtain⟨j,hj,rfl,rfl,HI⟩:=hrel
    by_cases hlt:j<T.length
    · have hz:(j:Int)<(T.length:Int):=by omega
      have hz0:(0:Int)<=(j:Int):=Le _;obtain rfl:=(HX.out wr HI.out.2).2.2.2.addr (by omega)
      obtain⟨⟨x,y⟩,hxy⟩ : ∃b,T.getD j (0,0)=b:=⟨_,rfl⟩;obtain⟨d,hd⟩:=Ze (F x y);have hnx:=Qmc F T hlt;rw[hxy] at hnx
      dsimp only at hnx
      rw[hd] at hnx;have HDj:Hid (∀W,Zb w4 W->Zr 135 #[.agg #[.int .i64 3,.int .i64 k,.int .u64 (old:Int),.int .u64 (size:Int),.slice sa 0 sc,.slice da D.length dc],.slice ao lb cap,.agg #[.int .i64 (x:Int),.int .u64 (y:Int)]] W (.string d)):=fun W hb=>by
        have h:=HDg.out W ao g cap j (HX.out W hb).1 (HX.out W hb).2.2.1 hlt;rw[hxy] at h
        dsimp only at h
        rw[hd] at h;exact h
      have HC:Hid (∀Z,Zb wr Z->Z.cell? ⟨w.heap.size,0,none⟩=some (.int .i64 3)∧Z.cell? ⟨w.heap.size,1,none⟩=some (.int .i64 k)∧Z.cell? ⟨w.heap.size,2,none⟩=some (.int .u64 (old:Int))∧Z.cell? ⟨w.heap.size,3,none⟩=some (.int .u64 (size:Int))∧Z.cell? ⟨w.heap.size,4,none⟩=some (.slice sa 0 sc)∧Z.cell? ⟨w.heap.size,5,none⟩=some (.slice da D.length dc)∧Z.cell? ⟨gt,j*2,none⟩=some (.int .i64 (x:Int))∧Z.cell? ⟨gt,j*2+1,none⟩=some (.int .u64 (y:Int))):=fun Z hZ=>by
        have hx:=HX.out Z (Qa HI.out.2 hZ);obtain⟨a0,a1,a2,a3,a4,a5⟩:=hx.2.1.six.cells;obtain⟨b0,b1⟩:=hx.2.2.2.cell j hlt;rw[Uf,hxy] at b0 b1
        dsimp only at b0 b1
        rw[Ll] at b0 b1;exact⟨a0,a1,a2,a3,a4,a5,b0,b1⟩
      have hds:d.size<=32:=by rw[<-hd];exact HFs.out.1 x y
      obtain⟨A,hA⟩:=Ze (dgF F (T.take j));have hAl:A.length<=40:=by rw[<-hA,Ln,Lv];have:=HFs.out.2.1;omega
      rw[hA] at HI hnx;have HN:Hid (dgF F (T.take (j+1))=A++[d]∧d.size<=32∧A.length<=40):=⟨hnx,hds,hAl⟩;have hb0:=Below.refl wr.heap.size wr;clear hxy hd hnx hds hA hAl
      go_upto_region 10 with (fail)
      go_region_held3 (fun Z=>Z.cell? ⟨w.heap.size,0,none⟩=some (.int .i64 3)∧Z.cell? ⟨w.heap.size,1,none⟩=some (.int .i64 k)∧Z.cell? ⟨w.heap.size,2,none⟩=some (.int .u64 (old:Int))∧Z.cell? ⟨w.heap.size,3,none⟩=some (.int .u64 (size:Int))∧Z.cell? ⟨w.heap.size,4,none⟩=some (.slice sa 0 sc)∧Z.cell? ⟨w.heap.size,5,none⟩=some (.slice da D.length dc)∧Z.cell? ⟨gt,j*2,none⟩=some (.int .i64 (x:Int))∧Z.cell? ⟨gt,j*2+1,none⟩=some (.int .u64 (y:Int)))
        (exact HC.out _ (by first|exact hb0|exact hb0.drew|exact hb5)) (first
        | (go_at_call 135;with_reducible refine(HDj.out _ (by first|exact HI.out.2.drew|exact HI.out.2)).mono ?_;rintro e w5 ⟨rfl,hb5'⟩;have hb5:Zb wr w5:=by first|exact Qa hb0.drew hb5'|exact Qa hb0 hb5'))
      all_goals
        have hO5:=QC HI.out.1 hb5 (Lb _);have hb45:=Qa HI.out.2 hb5;have HO5:=Qc (And.intro hO5 hb45);clear hO5 hb45 HI HC HDj hb0 hb5 hb5'
        go_wp2_with (at_builtin;refine QS _ rfl _ _ rfl w4.heap.size _ A rfl (UW HO5.out.1 _) (some ⟨w5.heap.size,0,none⟩) w5.heap.size 0 1 [d] rfl (UN w5 d (by have:=HN.out.2.1;omega)) (fun h=>by cases h) ?c1 ?c2 ?_)
        case c1=>have:=HN.out.2.2;simp;omega
        case c2=>have:=HO5.out.2.size;simp;omega
        intro v' w6 h1 h2;have HY:Hid (Qk w6 w4.heap.size v' (dgF F (T.take (j+1)))∧Zb w4 w6):=⟨by rw[HN.out.1];exact h1,(bal HO5.out.2 _).trans h2⟩
        clear h1 h2 HO5 HN;go_wp2
        go_roundg (T.length - (j+1))
        case rel =>
          go_light;exact⟨j+1,by omega,rfl,by go_num,HY.out.1,HY.out.2⟩
        case measure=>go_light;omega
    · obtain rfl:j=T.length:=by omega
      have hz : ¬((T.length:Int)<(T.length:Int)):=by omega
      have hO:=HI.out.1;rw[LR] at hO;obtain⟨aP,bP,cP,rfl,rP,_,_⟩:=Qn hO (fun s hs=>by
        obtain⟨b,_,rfl⟩:=LE.1 hs;have:=HFs.out.1 b.1 b.2;omega)
      rw[Ln] at rP ⊢;have HXr:Hid (∀Z,Zb wr Z->Zb w Z∧K3 Z w.heap.size 3 k old size (.slice sa 0 sc) (.slice da D.length dc) 0 ⟨#[]⟩ 0 ⟨#[]⟩∧RdS Z aP bP 0 T.length (dgF F T)):=fun Z hZ=>by
        obtain⟨a1,a2,_⟩:=HX.out Z (Qa HI.out.2 hZ);exact⟨a1,a2,rP.next hZ (Lb _)⟩
      have hb0:=Below.refl wr.heap.size wr;have HC:Hid (∀Z,Zb wr Z->Z.cell? ⟨w.heap.size,1,none⟩=some (.int .i64 k)∧Z.cell? ⟨w.heap.size,2,none⟩=some (.int .u64 (old:Int))∧Z.cell? ⟨w.heap.size,5,none⟩=some (.slice da D.length dc)):=fun Z hZ=>by
        obtain⟨_,a1,a2,_,_,a5⟩:=(HXr.out Z hZ).2.1.six.cells;exact⟨a1,a2,a5⟩
      clear hO rP HI HX hlt HDg;have n0 : ∀W:World,(W.alloc (.cells #[.int .u64 0,.string ⟨#[]⟩] 30)).cell? ⟨W.heap.size,0,none⟩=some (.int .u64 0):=fun W=>(YC W 0 ⟨#[]⟩).cells.1
      have n1 : ∀W:World,(W.alloc (.cells #[.int .u64 0,.string ⟨#[]⟩] 30)).cell? ⟨W.heap.size,1,none⟩=some (.string ⟨#[]⟩):=fun W=>(YC W 0 ⟨#[]⟩).cells.2
      have n2 : ∀(W:World) (i:Nat),(W.alloc (.cells #[.int .u64 0,.string ⟨#[]⟩] 30)).frozen? ⟨W.heap.size,i,none⟩=false:=fun W i=>(YC W 0 ⟨#[]⟩).fz i
      go_upto_region 12 with (fail)
      go_cut [13] from 53 to 65 (fun x wx => ∃q,x = .pointer (some ⟨q,0,none⟩)∧Rh wx q old r1∧wr.heap.size<=q∧Zb wr wx)
      case first =>
        go_region_held3 (fun Z=>Z.cell? ⟨w.heap.size,1,none⟩=some (.int .i64 k)∧Z.cell? ⟨w.heap.size,2,none⟩=some (.int .u64 (old:Int))∧Z.cell? ⟨w.heap.size,5,none⟩=some (.slice da D.length dc))
          (exact HC.out _ (by repeat (first|exact hb0|exact hb5|refine Below.drew ?_|refine bal ?_ _|refine QgN ?_ (by first|exact Lb _|exact hb5.size)))) (first
          | (go_at_call 21;with_reducible refine(HR1.out _ (HXr.out _ (by repeat (first|exact hb0|refine Below.drew ?_|refine bal ?_ _))).1).mono ?_;rintro e w5 ⟨rfl,hb5'⟩
             have hb5:Zb wr w5:=Qa (by repeat (first|exact hb0|refine Below.drew ?_|refine bal ?_ _)) hb5'
             try (have hq5:Rh w5 wr.heap.size 0 ⟨#[]⟩:=(by refine Rh.next ?_ hb5';exact YC wr 0 ⟨#[]⟩);obtain⟨k0,k1⟩:=hq5.cells;have f0:=hq5.fz)))
        all_goals
          have HF:Hid (Zb wr w5∧wr.heap.size<=w5.heap.size):=⟨hb5,hb5.size⟩;clear hb5 hb5';go_wp2
          go_meet
          case rel =>
            go_light
            first
              | exact⟨w5.heap.size,rfl,YC w5 old r1,HF.out.2,bal HF.out.1 _⟩
              | exact⟨w5.heap.size,rfl,(YC w5 0 ⟨#[]⟩).put old r1,HF.out.2,(bal HF.out.1 _).trans ((QU _ w5.heap.size old r1).below (by rintro b rfl;exact HF.out.2))⟩
              | exact⟨wr.heap.size,rfl,hq5.put old r1,Lb _,HF.out.1.trans ((QU _ wr.heap.size old r1).below (by rintro b rfl;exact Lb _))⟩
      case rest =>
        obtain⟨q,rfl,hq,hqs,hbc⟩:=hcut;have HXc:Hid (∀Z,Zb wc Z->(Zb w Z∧K3 Z w.heap.size 3 k old size (.slice sa 0 sc) (.slice da D.length dc) 0 ⟨#[]⟩ 0 ⟨#[]⟩∧RdS Z aP bP 0 T.length (dgF F T))∧Rh Z q old r1):=fun Z hZ=>⟨HXr.out Z (Qa hbc hZ),hq.next hZ⟩
        have hq2:w.heap.size+2<q:=LS (HXr.out wr hb0).2.1.r2.lt hqs;have hb1:=Below.refl wc.heap.size wc;clear HXr HC hq hqs hbc hb0 n0 n1 n2 HR1;have HC:Hid (∀Z,Zb wc Z->Z.cell? ⟨w.heap.size,1,none⟩=some (.int .i64 k)∧Z.cell? ⟨w.heap.size,3,none⟩=some (.int .u64 (size:Int))∧Z.cell? ⟨q,0,none⟩=some (.int .u64 (old:Int))∧Z.cell? ⟨q,1,none⟩=some (.string r1)):=fun Z hZ=>by
          obtain⟨a,b⟩:=HXc.out Z hZ;obtain⟨_,a1,_,a3,_,_⟩:=a.2.1.six.cells;exact⟨a1,a3,b.cells.1,b.cells.2⟩
        have HP:Hid (∀(Y:World) (g:Nat) (a b:Value),(g=w.heap.size+1∨g=w.heap.size+1+1)->(∀Z:World,Z=Y->Z.cell? ⟨w.heap.size,1,none⟩=some (.int .i64 k)∧Z.cell? ⟨w.heap.size,3,none⟩=some (.int .u64 (size:Int))∧Z.cell? ⟨q,0,none⟩=some (.int .u64 (old:Int))∧Z.cell? ⟨q,1,none⟩=some (.string r1)) -> ∀Z:World,Z=(Y.setCell ⟨g,0,none⟩ a).setCell ⟨g,1,none⟩ b->Z.cell? ⟨w.heap.size,1,none⟩=some (.int .i64 k)∧Z.cell? ⟨w.heap.size,3,none⟩=some (.int .u64 (size:Int))∧Z.cell? ⟨q,0,none⟩=some (.int .u64 (old:Int))∧Z.cell? ⟨q,1,none⟩=some (.string r1)):=fun Y g a b hg hY Z hZ=>by
          subst hZ;obtain⟨x1,x2,x3,x4⟩:=hY Y rfl;have hg1:w.heap.size≠g:=by omega
          have hg2:q≠g:=by omega
          have e : ∀(p i:Nat),p≠g->((Y.setCell ⟨g,0,none⟩ a).setCell ⟨g,1,none⟩ b).cell? ⟨p,i,none⟩=Y.cell? ⟨p,i,none⟩:=fun p i hp=>Lr (a:=⟨p,i,none⟩) ((((ChT.refl (fun x=>x=g) Y).set g 0 a rfl).set g 1 b rfl).block p hp)
          exact⟨(e _ _ hg1).trans x1,(e _ _ hg1).trans x2,(e _ _ hg2).trans x3,(e _ _ hg2).trans x4⟩
        go_upto_region 13 with (fail)
        go_region_held3 (fun Z=>Z.cell? ⟨w.heap.size,1,none⟩=some (.int .i64 k)∧Z.cell? ⟨w.heap.size,3,none⟩=some (.int .u64 (size:Int))∧Z.cell? ⟨q,0,none⟩=some (.int .u64 (old:Int))∧Z.cell? ⟨q,1,none⟩=some (.string r1))
          (first|exact HC.out _ (by first|exact hb1|exact hb1.drew|exact hb14)|exact HP.out w14 (w.heap.size+1) _ _ (.inl rfl) (fun Z e=>by rw[e];exact HC.out _ hb14) _ rfl|exact HP.out _ (w.heap.size+1+1) _ _ (.inr rfl) (fun Z e=>HP.out w14 (w.heap.size+1) _ _ (.inl rfl) (fun Z e=>by rw[e];exact HC.out _ hb14) Z e) _ rfl) (first
          | (go_at_call 21;with_reducible refine(HR2.out _ _ _ _ (HXc.out _ (by first|exact hb1.drew|exact hb1)).1.1 (HXc.out _ (by first|exact hb1.drew|exact hb1)).1.2.2).mono ?_;rintro e w14 ⟨rfl,hb14'⟩
             have hb14:Zb wc w14:=by first|exact Qa hb1.drew hb14'|exact Qa hb1 hb14'
             have hK14:=(HXc.out w14 hb14).1.2.1;obtain⟨k0,k1⟩:=hK14.r1.cells;have f0:=hK14.r1.fz;have hK15:=hK14.put1 old r1;obtain⟨k2,k3⟩:=hK15.r2.cells;have f1:=hK15.r2.fz;unfold UH at k2 k3 f1))
        all_goals
          have hK16:=hK15.put2 size r2;have hc13:=QU w14 (w.heap.size+1) old r1;have hc14:=QU (UH w14 (w.heap.size+1) old r1) (w.heap.size+2) size r2;unfold UH at hK16 hc13 hc14;obtain⟨y0,y1⟩:=hK16.r1.cells;obtain⟨y2,y3⟩:=hK16.r2.cells;have HB:=Qc (((HXc.out w14 hb14).1.1.trans (hc13.below (by rintro b rfl;omega))).trans (hc14.below (by rintro b rfl;omega)))
          clear hK14 hK15 hK16 hc13 hc14 hb14 hb14' HXc HC HP;go_wp2;refine bodyPost_ret (v := .tuple #[.agg #[.int .u64 (old:Int),.string r1],.agg #[.int .u64 (size:Int),.string r2],.int .i64 0]) (by simp[results,Tryz.results83,go_sem,y0,y1,y2,y3]) rfl ⟨rfl,?_⟩
          exact HB.out
end
end Go.Proofs.YtdocjikpcbmcgaaGreatDoor
