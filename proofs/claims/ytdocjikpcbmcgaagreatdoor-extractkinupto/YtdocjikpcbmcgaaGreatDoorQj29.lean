/- Own work. -/
import Derived.Test.YtdocjikpcbmcgaaGreatDoorQj26
import Derived.Test.YtdocjikpcbmcgaaGreatDoorQj28
set_option maxRecDepth 100000
set_option maxHeartbeats 1000000
namespace Go.Proofs.YtdocjikpcbmcgaaGreatDoor
open Go.RowKit
attribute [local go_sem ↓] Go.wp_at_zero Go.wp_at_succ
section
open Cv (RdC zl cU)
theorem QgP(w:World)(ax ay:OA)(db off na nb cx cy:Nat)(E:LB)(pk:BA)(zk:pk.size<=9223372036854775807)(hr:RdS w ax db off E.length E)(hn:ax=none->cx=0)(hl:E.length=na+nb)(hs:E.length<=1000)(hcx:E.length<=cx)(hcy:cx - na=cy)(hay:(if cx=na then ax else Option.map (fun x=>x.add na) ax)=ay) :
  Calls Tryz.prog 117 #[.slice (some ⟨w.heap.size+1,0,none⟩) 3 3] ((w.alloc (.cells #[.string pk] 9)).alloc (.cells #[.slice ax na cx,.slice (some ⟨w.heap.size,0,none⟩) 1 1,.slice ay nb cy] 22)).drew fun e w' => ∃ao b cap,e = .returned (.slice ao (na+1+nb) cap)∧RdS w' ao b 0 (na+1+nb) (E.take na++pk::E.drop na)∧Zb w w':=by
 subst hcy;obtain⟨o1,ho1⟩:=Ze (Obj.cells #[.string pk] 9 (0,0));obtain⟨o2,ho2⟩:=Ze (Obj.cells #[.slice ax na cx,.slice (some ⟨w.heap.size,0,none⟩) 1 1,.slice ay nb (cx - na)] 22 (0,0));have hb1:=bal (Below.refl w.heap.size w) o1;have hb2:=(bal hb1 o2).drew;have hx:((w.alloc o1).alloc o2).drew.heap[w.heap.size+1]? = some (.cells #[.slice ax na cx,.slice (some ⟨w.heap.size,0,none⟩) 1 1,.slice ay nb (cx - na)] 22 (0,0)):=by
  have:=heap_alloc_new (w.alloc o1) o2;rw[Lp] at this;rw[ho2];exact this
 have hr2:=hr.next hb2 (Lb _);obtain⟨rd,rn⟩:=Jf hr2 hcx (by omega) hn hay
 have rt:=Uk hr2 (H:=na) (by omega)
 have r1:RdS ((w.alloc o1).alloc o2).drew (some ⟨w.heap.size,0,none⟩) w.heap.size 0 1 [pk]:=by
  have h0:RdS (w.alloc o1) (some ⟨w.heap.size,0,none⟩) w.heap.size 0 1 [pk]:=by rw[<-ho1];exact UN w pk zk
  exact h0.next ((bal (Below.refl _ _) o2).drew) (Lb _)
 have lt:(E.take na).length=na:=by rw[Lv];omega
 have ld:(E.drop na).length=nb:=by rw[LD];omega
 have hc:CatS ((w.alloc o1).alloc o2).drew (w.heap.size+1) [.slice ax na cx,.slice (some ⟨w.heap.size,0,none⟩) 1 1,.slice ay nb (cx - na)] [E.take na,[pk],E.drop na]:=by
  refine Ql9 ?_ ?_ ?_ ?_ (QdB r1 (fun e=>by cases e)) ?_
  ·rw[cell_of_row _ _ 0 _ _ (0,0) hx];rfl
  ·rw[cell_of_row _ _ 1 _ _ (0,0) hx];rfl
  ·rw[cell_of_row _ _ 2 _ _ (0,0) hx];rfl
  ·rw[lt] at rt ⊢;exact QdB rt hn
  ·rw[ld] at rd ⊢;exact QdB rd rn
 have hfl:([E.take na,[pk],E.drop na]:List LB).flatten=E.take na++pk::E.drop na:=by simp
 have hll:(E.take na++pk::E.drop na).length=na+1+nb:=by rw[Ld,Lu,lt,ld];omega
 rw[ho1,ho2];refine(show Calls Tryz.prog 117 #[.slice (some ⟨w.heap.size+1,0,none⟩) 3 3] ((w.alloc o1).alloc o2).drew _ from Qid _ _ 3 _ _ hc (by simp) (by rw[hfl,hll];omega) _ hfl).mono fun e w' ⟨v,e1,e2,e3⟩ => ?_
 obtain⟨ao,b,cap,rfl,hr',_⟩:=Qn (show Qk w' _ v _ from e2) (fun s hs=>by
  rcases Nk.1 hs with hs|hs
  ·exact hr.sz s (LJ hs)
  ·rcases LH.1 hs with rfl|hs
   ·exact zk
   ·exact hr.sz s (LU hs))
 rw[hll] at e1 hr';exact⟨ao,b,cap,e1,hr',Qa hb2 e3⟩
structure RA(w:World)(k:Int)(size:Nat)(b o:Nat)(i H:Nat)(A B:List (Nat×Nat)):Prop where
 k1:1<=k∧k<=32
 n:size<=2^40
 il:i<size
 wy:Wy size i A H B
 ci:w.cell? ⟨b,o,none⟩=some (.int .u64 (i:Int))
theorem Qhx(w:World)(k:Int)(size:Nat)(b o sc:Nat)(i H:Nat)(A B:List (Nat×Nat))(ha:RA w k size b o i H A B)(da:OA)(db dO dc:Nat)(D:LB)(hr:RdS w da db dO D.length D)(hm:D.length<=9223372036854775807)(x:BA)(hf:fil k (H+A.length+B.length) D)(hxl:x.size<=1048576)(ht:Tb w)(hcd:D.length<=dc)(hc63:dc<=9223372036854775807)(hnd:da=none->dc=0)(r:BA)(hq:rtP (clk k) size i A.length H D x=r) :
  Zr 63 #[.agg #[.int .i64 1,.int .i64 k,.int .u64 0,.int .u64 (size:Int),.slice (some ⟨b,o,none⟩) 1 sc,.slice da D.length dc],.string x] w (.tuple #[.agg #[.int .u64 (size:Int),.string r],.int .i64 0]):=by
 have HI:Hid (∀W,Zb w W->Zr 112 #[.agg #[.int .i64 1,.int .i64 k,.int .u64 0,.int .u64 (size:Int),.slice (some ⟨b,o,none⟩) 1 sc,.slice da D.length dc]] W (.bool true)):=fun W hb =>
  Qej W 1 k 0 size (some ⟨b,o,none⟩) 1 sc da D.length dc i (fun h=>⟨b,o,rfl,(hb.cell (p:=⟨b,o,none⟩) (Lh w _ ha.ci)).trans ha.ci⟩) true (decide_eq_true ⟨rfl,ha.k1,ha.n,rfl,rfl,ha.il⟩)
 have HCi:Hid (∀W,Zb w W->W.cell? ⟨b,o,none⟩=some (.int .u64 (i:Int))):=fun W hb=>(hb.cell (p:=⟨b,o,none⟩) (Lh w _ ha.ci)).trans ha.ci
 have hln:=ha.wy.len;have hH:=ha.wy.hH;have HW:Hid (∀W,Calls Tryz.prog 113 #[.int .u64 (size:Int),.int .u64 (i:Int)] W fun e w' => ∃a0 c0 a1 c1 a2 c2,e = .returned (.agg #[.slice a0 H c0,.slice a1 A.length c1,.slice a2 B.length c2])∧Zb W w'):=fun W =>
  (QlA W size i H A B ha.wy ha.n ha.il).mono fun e w' ⟨vb,va,vc,e1,r0,r1,r2,hb⟩=>by
   obtain⟨a0,c0,rfl⟩:=Qaz r0;obtain⟨a1,c1,rfl⟩:=Qaz r1;obtain⟨a2,c2,rfl⟩:=Qaz r2;exact⟨a0,c0,a1,c1,a2,c2,e1,hb⟩
 have HF:Hid (∀W a0 c0 a1 c1 a2 c2,Zb w W->Zr 114 #[.agg #[.slice a0 H c0,.slice a1 A.length c1,.slice a2 B.length c2],.agg #[.int .i64 1,.int .i64 k,.int .u64 0,.int .u64 (size:Int),.slice (some ⟨b,o,none⟩) 1 sc,.slice da D.length dc]] W (.bool true)):=fun W a0 c0 a1 c1 a2 c2 hb =>
  Qed W 1 k 0 size (some ⟨b,o,none⟩) 1 sc da db dO dc D (hr.next hb (Lb _)) hm a0 a1 a2 H A.length B.length c0 c1 c2 (by omega) (by omega) (by omega) true (decide_eq_true hf)
 have HX:Hid (x.size<=1048576∧fil k (H+A.length+B.length) D∧D.length<=dc∧(da=none->dc=0)∧i<2^40∧(1<=k∧k<=32)∧H<=40∧A.length+B.length<=40∧dc<=9223372036854775807):=⟨hxl,hf,hcd,hnd,by have:=ha.n;have:=ha.il;omega,ha.k1,ha.wy.hH,ha.wy.len,hc63⟩
 have HQ:=Qc hq;have HT:Hid (∀W,Zb w W->Tb W):=fun W hb=>ht.next hb
 have HD:Hid (∀W,Zb w W->RdS W da db dO D.length D):=fun W hb=>hr.next hb (Lb _)
 have hxz:decide ((1048576:Int)<(x.size:Int))=false:=decide_eq_false (by omega)
 have hcz : ¬((dc:Int)<(H:Int)):=by have:=hf.1;omega
 have hnz:(H:Int)<=(D.length:Int):=by have:=hf.1;omega
 clear hf hxl ht hcd hc63 hnd hq ha hr hm hln hH
 go_enter Tryz.func63,Tryz.ntmps63
 go_upto_region 1 with (fail)
 obtain⟨W0,hW0⟩:=Ze ((w.alloc (.cells #[.int .i64 1,.int .i64 k,.int .u64 ((0:Nat):Int),.int .u64 (size:Int),.slice (some ⟨b,o,none⟩) 1 sc,.slice da D.length dc] 55)).alloc (.cells #[.int .u64 0,.string ⟨#[]⟩] 30));obtain⟨hb,h6,hRt,hz⟩:=QfH hW0;rw[show((0:Nat):Int)=0 from rfl] at hW0 h6
 rw[hW0];obtain⟨c0,c1,c2,c3,c4,c5⟩:=h6.cells;have HR:=Qc (And.intro hRt hz);have H6:=Qc h6;clear hW0 h6 hRt hz
 go_upto_region 9 with (first
  | (go_at_call 112;with_reducible refine(HI.out _ hb).mono ?_;rintro e w1 ⟨rfl,hb1⟩;obtain⟨d0,d1,d2,d3,d4,d5⟩:=(H6.out.next hb1).cells;have ci:=HCi.out _ (Qa hb hb1))
  | (go_at_call 113;with_reducible refine(HW.out _).mono ?_;rintro e w2 ⟨a0,n0,a1,n1,a2,n2,rfl,hb2⟩;obtain⟨g0,g1,g2,g3,g4,g5⟩:=(H6.out.next (bal (Qa hb1 hb2) (.cells #[.slice a0 H n0,.slice a1 A.length n1,.slice a2 B.length n2] 154))).cells)
  | (go_at_call 114;with_reducible refine(HF.out _ _ _ _ _ _ _ (bal (Qa (Qa hb hb1) hb2) _)).mono ?_;rintro e w3 ⟨rfl,hb3⟩;have hR:=HR.out.1.below (Qa (bal (Qa hb1 hb2) _) hb3) (by rw[HR.out.2];omega);have k0:=hR.c0;have k1:=hR.c1;have f0:=hR.f0;have f1:=hR.f1))
 have hwB:=heap_alloc_new w2 (.cells #[.slice a0 H n0,.slice a1 A.length n1,.slice a2 B.length n2] 154);have hw3:=(hb3.block w2.heap.size (by simp)).trans hwB
 have q0:w3.cell? ⟨w2.heap.size,0,none⟩=some (.slice a0 H n0):=by rw[cell_of_row w3 _ 0 _ _ (0,0) hw3];rfl
 have q1:w3.cell? ⟨w2.heap.size,1,none⟩=some (.slice a1 A.length n1):=by rw[cell_of_row w3 _ 1 _ _ (0,0) hw3];rfl
 have h63:=H6.out.next (Qa (bal (Qa hb1 hb2) _) hb3);have hbw3:=Qa (bal (Qa (Qa hb hb1) hb2) (.cells #[.slice a0 H n0,.slice a1 A.length n1,.slice a2 B.length n2] 154)) hb3;obtain⟨e0,e1,e2,e3,e4,e5⟩:=h63.cells;have HS:Hid (Six w3 w.heap.size (.int .i64 1) (.int .i64 k) (.int .u64 0) (.int .u64 (size:Int)) (.slice (some ⟨b,o,none⟩) 1 sc) (.slice da D.length dc)∧Rt w3 (w.heap.size+1) 0 ⟨#[]⟩∧w3.heap[w2.heap.size]? = some (.cells #[.slice a0 H n0,.slice a1 A.length n1,.slice a2 B.length n2] 154 (0,0))∧Zb w w3):=⟨h63,hR,hw3,hbw3⟩;generalize w2.heap.size=y at *;clear hwB hw3 h63 hbw3 HR H6 HW HF HI HCi hb hb1 hb2 hb3 c0 c1 c2 c3 c4 c5 d0 d1 d2 d3 d4 d5 g0 g1 g2 g3 g4 g5 ci k0 k1 f0 f1 hR
 go_quiet (fail)
 go_upto_region 10 with (fail)
 obtain⟨W4,hW4⟩:=Ze (w3.drewN nq);have HS4:Hid (Six W4 w.heap.size (.int .i64 1) (.int .i64 k) (.int .u64 0) (.int .u64 (size:Int)) (.slice (some ⟨b,o,none⟩) 1 sc) (.slice da D.length dc)∧Rt W4 (w.heap.size+1) 0 ⟨#[]⟩∧W4.heap[y]? = some (.cells #[.slice a0 H n0,.slice a1 A.length n1,.slice a2 B.length n2] 154 (0,0))∧Zb w W4):=by
  rw[<-hW4];exact⟨HS.out.1,⟨HS.out.2.1.c0,HS.out.2.1.c1,HS.out.2.1.f0,HS.out.2.1.f1⟩,HS.out.2.2.1,Qd HS.out.2.2.2 nq⟩
 obtain⟨ax,hax⟩:=Ze (if dc=H then da else Option.map (fun x=>x.add H) da)
 have HA:Hid (∀W,Zb w W->RdS W ax db (dO+H) (D.drop H).length (D.drop H)∧(ax=none->dc - H=0)):=fun W hb=>Jf (HD.out W hb) HX.out.2.2.1 (by omega) HX.out.2.2.2.1 hax
 rw[hW4,hax];have hEl:(D.drop H).length=A.length+B.length:=by rw[LD,HX.out.2.1.1];omega
 have hck:(k:Int)=(clk k:Int):=by have:=HX.out.2.2.2.2.2.1;unfold clk;rw[if_neg (by omega),if_neg (by omega)];omega
 have hsD : ∀s∈D,s.size=clk k:=fun s hs=>by have:=HX.out.2.1.2 s hs;omega
 obtain⟨lf,hlf⟩:=Ze (dg (clk k) (Qm x));obtain⟨pk,hpk⟩:=Ze (rs (clk k) i lf (D.take H));have zlf:lf.size=clk k:=by rw[<-hlf];exact YS (Qx k) _
 have HLf:Hid (∀W,Zb w W->Zr 116 #[.int .i64 k,.string x] W (.string lf)):=fun W hb=>Qel W (HT.out W hb) k x (by have:=HX.out.1;omega) lf hlf
 have HRs:Hid (∀W,Zb w W->Zr 115 #[.int .i64 k,.int .u64 (i:Int),.string lf,.slice da H dc] W (.string pk)):=fun W hb=>by
  have:=Qfw W (HT.out W hb) k i HX.out.2.2.2.2.1 lf zlf da db dO dc (D.take H) (Uk (HD.out W hb) (by omega)) (by rw[Lv];have:=HX.out.2.2.2.2.2.2.1;omega) (fun s hs=>hsD s (LJ hs)) pk hpk
  rw[Lv,N6 (by omega)] at this
  exact this
 obtain⟨k0,k1,k2,k3,k4,k5⟩:=HS4.out.1.cells;have hb4:=HS4.out.2.2.2;have HE:=Qc (And.intro hEl (And.intro hsD (And.intro hlf (And.intro hpk (And.intro hck zlf)))));have HAX:=Qc hax;clear hW4 HS e0 e1 e2 e3 e4 e5 q0 q1 hck hsD hlf hpk zlf hEl hax;refine Q4 (by kernel_rfl) [46,47,48,49,50,51,52,53,54,10] [] [.pointer (some ⟨w.heap.size,1,none⟩),.int .i64 k,.int .u64 (i:Int),.pointer (some ⟨w.heap.size,1,none⟩),.int .i64 k,.string x,.string lf,.slice da H dc,.string pk,.string pk] (by kernel_rfl) rfl (fun j hj=>by cases hj) (fun _ W=>Zb W4 W) (fun W _ hb=>hb) ?step ?fin
 case step =>
  refine⟨?_,?_,?_,?_,?_,?_,?_,?_,?_,?_,trivial⟩
  ·intro L Ac Wc K hI hj hcl hsm dep hK;have t2:Ac.tmps.getD 2 undef = .pointer (some ⟨w.heap.size,0,none⟩):=hsm 2 rfl
   show Oper.wp _ _ Ac Wc K _
   go_simp
   exact hK _ _ (.inr rfl) hI
  ·intro L Ac Wc K hI hj hcl hsm dep hK;have t46:Ac.tmps.getD 46 undef = .pointer (some ⟨w.heap.size,1,none⟩):=dep 0 rfl
   show Oper.wp _ _ Ac Wc K _
   obtain⟨g0,g1,g2,g3,g4,g5⟩:=(HS4.out.1.next hI).cells
   go_simp
   exact hK _ _ (.inr rfl) hI
  ·intro L Ac Wc K hI hj hcl hsm dep hK;have t6:Ac.tmps.getD 6 undef = .int .u64 (i:Int):=hsm 6 rfl
   show Oper.wp _ _ Ac Wc K _
   go_simp
   exact hK _ _ (.inr rfl) hI
  ·intro L Ac Wc K hI hj hcl hsm dep hK;have t2:Ac.tmps.getD 2 undef = .pointer (some ⟨w.heap.size,0,none⟩):=hsm 2 rfl
   show Oper.wp _ _ Ac Wc K _
   go_simp
   exact hK _ _ (.inr rfl) hI
  ·intro L Ac Wc K hI hj hcl hsm dep hK;have t49:Ac.tmps.getD 49 undef = .pointer (some ⟨w.heap.size,1,none⟩):=dep 3 rfl
   show Oper.wp _ _ Ac Wc K _
   obtain⟨g0,g1,g2,g3,g4,g5⟩:=(HS4.out.1.next hI).cells
   go_simp
   exact hK _ _ (.inr rfl) hI
  ·intro L Ac Wc K hI hj hcl hsm dep hK;have t1:Ac.tmps.getD 1 undef = .string x:=hsm 1 rfl
   show Oper.wp _ _ Ac Wc K _
   go_simp
   exact hK _ _ (.inr rfl) hI
  ·intro L Ac Wc K hI hj hcl hsm dep hK;have t50:Ac.tmps.getD 50 undef = .int .i64 k:=dep 4 rfl;have t51:Ac.tmps.getD 51 undef = .string x:=dep 5 rfl
   show Oper.wp _ _ Ac Wc K _
   go_simp
   refine(HLf.out Wc (Qa hb4 hI)).mono ?_
   rintro e w' ⟨rfl,hb⟩;exact hK _ _ (.inr rfl) (Qa hI hb)
  ·intro L Ac Wc K hI hj hcl hsm dep hK;have t8:Ac.tmps.getD 8 undef = .slice da H dc:=hsm 8 rfl
   show Oper.wp _ _ Ac Wc K _
   go_simp
   exact hK _ _ (.inr rfl) hI
  ·intro L Ac Wc K hI hj hcl hsm dep hK;have t47:Ac.tmps.getD 47 undef = .int .i64 k:=dep 1 rfl;have t48:Ac.tmps.getD 48 undef = .int .u64 (i:Int):=dep 2 rfl;have t52:Ac.tmps.getD 52 undef = .string lf:=dep 6 rfl;have t53:Ac.tmps.getD 53 undef = .slice da H dc:=dep 7 rfl
   show Oper.wp _ _ Ac Wc K _
   go_simp
   refine(HRs.out Wc (Qa hb4 hI)).mono ?_
   rintro e w' ⟨rfl,hb⟩;exact hK _ _ (.inr rfl) (Qa hI hb)
  ·intro L Ac Wc K hI hj hcl hsm dep hK;have t54:Ac.tmps.getD 54 undef = .string pk:=dep 8 rfl
   show Oper.wp _ _ Ac Wc K _
   go_simp
   exact hK _ _ (.inr rfl) hI
 case fin =>
  intro L w6 hall hB;have hb6':=Qa hb4 hB;have h6d:=HS4.out.1.next hB;have hRt:=HS4.out.2.1.below hB (Lh W4 _ HS4.out.2.1.c0);have hwy:w6.heap[y]? = some (.cells #[.slice a0 H n0,.slice a1 A.length n1,.slice a2 B.length n2] 154 (0,0)):=(hB.block y (Lg.1 HS4.out.2.2.1).1).trans HS4.out.2.2.1;have u1:w6.cell? ⟨y,1,none⟩=some (.slice a1 A.length n1):=by rw[cell_of_row w6 _ 1 _ _ (0,0) hwy];rfl
  have HS6:Hid (Six w6 w.heap.size (.int .i64 1) (.int .i64 k) (.int .u64 0) (.int .u64 (size:Int)) (.slice (some ⟨b,o,none⟩) 1 sc) (.slice da D.length dc)∧Rt w6 (w.heap.size+1) 0 ⟨#[]⟩∧Zb w w6):=⟨h6d,hRt,hb6'⟩;clear HS4 hb4 hb6' hB h6d hRt hwy k0 k1 k2 k3 k4 k5 hall;simp only[Un]
  go_simp
  go_upto_region 12 with (fail)
  obtain⟨ay,hay⟩:=Ze (if dc - H=A.length then ax else Option.map (fun x=>x.add A.length) ax)
  have hEl:=HE.out.1;have hDl:D.length - H=A.length+B.length:=by rw[<-hEl,LD]
  have hAz:(A.length:Int)<=((dc - H:Nat):Int):=by have:=HX.out.2.2.1;omega
  have hAz2:(A.length:Int)<=((D.length - H:Nat):Int):=by omega
  have hc3:((dc - H:Nat):Int)<=9223372036854775807:=by have:=HX.out.2.2.2.2.2.2.2.2;omega
  have hcl:A.length+B.length<=dc - H:=by have:=HX.out.2.2.1;omega
  obtain⟨E,hE⟩:=Ze (D.drop H);obtain⟨cx,hcx⟩:=Ze (dc - H);rw[hE] at HA hEl;rw[hcx] at HA hay hAz hc3 hcl ⊢;rw[hDl] at hAz2 ⊢;have zpk:pk.size=clk k:=by rw[<-HE.out.2.2.2.1];exact Qgv (Qx k) _ _ _ HE.out.2.2.2.2.2
  have hck:=Qx k;have HC:=QgP w6 ax ay db (dO+H) A.length B.length cx (cx - A.length) E pk (by omega) (HA.out w6 HS6.out.2.2).1 (fun e=>(HA.out w6 HS6.out.2.2).2 e) hEl (by have:=HX.out.2.2.2.2.2.2.2.1;omega) (by omega) rfl hay
  obtain⟨P,hP⟩:=Ze (E.take A.length++pk::E.drop A.length);obtain⟨pn,hpn⟩:=Ze (A.length+1+B.length);rw[hP,hpn] at HC;have hPk:pkP (clk k) i A.length H D x=P:=by
   rw[<-hP,pkP,hE,HE.out.2.2.1,HE.out.2.2.2.1]
  have hPs : ∀s∈P,s.size<=140737488351232:=fun s hs=>by
   rw[<-hP] at hs
   rcases Nk.1 hs with hs|hs
   ·have:=HE.out.2.1 s (LU (by rw[hE];exact LJ hs));omega
   ·rcases LH.1 hs with rfl|hs
    ·omega
    ·have:=HE.out.2.1 s (LU (by rw[hE];exact LU hs));omega
  have hpn8:pn<=8796093022208:=by have:=HX.out.2.2.2.2.2.2.2.1;omega
  have hrq:dg (clk k) (QN size (QA (clk k) P))=r:=by rw[<-hPk];exact HQ.out
  have HRo:Hid (∀W,Zb w W -> ∀ao' b' cap',RdS W ao' b' 0 pn P->Zr 81 #[.int .i64 k,.int .u64 (size:Int),.slice ao' pn cap'] W (.string r)):=fun W hb ao' b' cap' hr'=>Qad W (HT.out W hb) k size ao' b' 0 pn cap' P hr' hPs hpn8 r hrq
  have hb6:=HS6.out.2.2;have hbp:=bal (bal (Below.refl w6.heap.size w6) (.cells #[.string pk] 9)) (.cells #[.slice ax A.length cx,.slice (some ⟨w6.heap.size,0,none⟩) 1 1,.slice ay B.length (cx - A.length)] 22);have hAz3:(A.length:Int)<=(A.length:Int)+(B.length:Int):=by omega
  have hAz4:A.length<=A.length+B.length:=by omega
  clear hDl hP hpn hPk hPs hpn8 hrq hE hcx hEl zpk hck
  go_region_with (go_at_call 117;with_reducible refine HC.mono ?_;rintro e w8 ⟨ao8,b8,c8,rfl,r8,hb8⟩)
  have h68:=HS6.out.1.next hb8;obtain⟨t0,t1,t2,t3,t4,t5⟩:=h68.cells;have hb68:=Qa hb6 hb8;have hR8:=HS6.out.2.1.below hb8 (Lh w6 _ HS6.out.2.1.c0);have HR8:=Qc hR8;have H68:=Qc h68;clear hR8 h68 HC hbp hb6 hAz hAz2 hc3 hcl
  go_upto_region 13 with (fail)
  refine Q4 (by kernel_rfl) [68,69,70,71,72,73,74,75,76,1009,5] [9] [.pointer (some ⟨w.heap.size,3,none⟩),.int .u64 (size:Int),.pointer (some ⟨w.heap.size,1,none⟩),.int .i64 k,.pointer (some ⟨w.heap.size,3,none⟩),.int .u64 (size:Int),.slice ao8 pn c8,.string r,.agg #[.int .u64 (size:Int),.string r],undef,.int .i64 0] (by kernel_rfl) rfl (fun j hj=>by simp at hj;subst hj;rfl) (fun L W=>(L 9=false->Zb w8 W)∧(L 9=true->W.cell? ⟨w.heap.size+1,0,none⟩=some (.int .u64 (size:Int))∧W.cell? ⟨w.heap.size+1,1,none⟩=some (.string r)∧Zb w W)) (fun W _ hb=>⟨fun _=>hb,fun h=>by cases h⟩) ?step ?fin
  case step =>
   refine⟨?_,?_,?_,?_,?_,?_,?_,?_,?_,?_,?_,trivial⟩
   ·intro L Ac Wc K hI hj hcl hsm dep hK;have t2:Ac.tmps.getD 2 undef = .pointer (some ⟨w.heap.size,0,none⟩):=hsm 2 rfl
    show Oper.wp _ _ Ac Wc K _
    go_simp
    exact hK _ _ (.inr rfl) hI
   ·intro L Ac Wc K hI hj hcl hsm dep hK;have t68:Ac.tmps.getD 68 undef = .pointer (some ⟨w.heap.size,3,none⟩):=dep 0 rfl
    show Oper.wp _ _ Ac Wc K _
    have hL:L 9=false:=by
     cases h:L 9 with
     | false=>rfl
     | true=>rw[hcl 8 1 (hcl 9 8 h rfl) rfl] at hj;cases hj
    obtain⟨g0,g1,g2,g3,g4,g5⟩:=(H68.out.next (hI.1 hL)).cells
    go_simp
    exact hK _ _ (.inr rfl) hI
   ·intro L Ac Wc K hI hj hcl hsm dep hK;have t2:Ac.tmps.getD 2 undef = .pointer (some ⟨w.heap.size,0,none⟩):=hsm 2 rfl
    show Oper.wp _ _ Ac Wc K _
    go_simp
    exact hK _ _ (.inr rfl) hI
   ·intro L Ac Wc K hI hj hcl hsm dep hK;have t70:Ac.tmps.getD 70 undef = .pointer (some ⟨w.heap.size,1,none⟩):=dep 2 rfl
    show Oper.wp _ _ Ac Wc K _
    have hL:L 9=false:=by
     cases h:L 9 with
     | false=>rfl
     | true=>rw[hcl 7 3 (hcl 8 7 (hcl 9 8 h rfl) rfl) rfl] at hj;cases hj
    obtain⟨g0,g1,g2,g3,g4,g5⟩:=(H68.out.next (hI.1 hL)).cells
    go_simp
    exact hK _ _ (.inr rfl) hI
   ·intro L Ac Wc K hI hj hcl hsm dep hK;have t2:Ac.tmps.getD 2 undef = .pointer (some ⟨w.heap.size,0,none⟩):=hsm 2 rfl
    show Oper.wp _ _ Ac Wc K _
    go_simp
    exact hK _ _ (.inr rfl) hI
   ·intro L Ac Wc K hI hj hcl hsm dep hK;have t72:Ac.tmps.getD 72 undef = .pointer (some ⟨w.heap.size,3,none⟩):=dep 4 rfl
    show Oper.wp _ _ Ac Wc K _
    have hL:L 9=false:=by
     cases h:L 9 with
     | false=>rfl
     | true=>rw[hcl 7 5 (hcl 8 7 (hcl 9 8 h rfl) rfl) rfl] at hj;cases hj
    obtain⟨g0,g1,g2,g3,g4,g5⟩:=(H68.out.next (hI.1 hL)).cells
    go_simp
    exact hK _ _ (.inr rfl) hI
   ·intro L Ac Wc K hI hj hcl hsm dep hK;have t12:Ac.tmps.getD 12 undef = .slice ao8 pn c8:=hsm 12 rfl
    show Oper.wp _ _ Ac Wc K _
    go_simp
    exact hK _ _ (.inr rfl) hI
   ·intro L Ac Wc K hI hj hcl hsm dep hK;have t71:Ac.tmps.getD 71 undef = .int .i64 k:=dep 3 rfl;have t73:Ac.tmps.getD 73 undef = .int .u64 (size:Int):=dep 5 rfl;have t74:Ac.tmps.getD 74 undef = .slice ao8 pn c8:=dep 6 rfl
    show Oper.wp _ _ Ac Wc K _
    have hL:L 9=false:=by
     cases h:L 9 with
     | false=>rfl
     | true=>rw[hcl 8 7 (hcl 9 8 h rfl) rfl] at hj;cases hj
    go_simp
    refine(HRo.out Wc (Qa hb68 (hI.1 hL)) _ _ _ (r8.next (hI.1 hL) (Lb _))).mono ?_
    rintro e w' ⟨rfl,hb⟩;exact hK _ _ (.inr rfl) ⟨fun _=>Qa (hI.1 hL) hb,fun h=>by have h':L 9=true:=h;rw[hL] at h';cases h'⟩
   ·intro L Ac Wc K hI hj hcl hsm dep hK;have t69:Ac.tmps.getD 69 undef = .int .u64 (size:Int):=dep 1 rfl;have u69:Ac.tmps[69]?.getD undef = .int .u64 (size:Int):=by rw[<-NH];exact t69
    have t75:Ac.tmps.getD 75 undef = .string r:=dep 7 rfl;have u75:Ac.tmps[75]?.getD undef = .string r:=by rw[<-NH];exact t75
    show Oper.wp _ _ Ac Wc K _
    go_simp
    exact hK _ _ (.inr rfl) hI
   ·intro L Ac Wc K hI hj hcl hsm dep hK;have t4:Ac.tmps.getD 4 undef = .pointer (some ⟨w.heap.size+1,0,none⟩):=hsm 4 rfl;have t76:Ac.tmps.getD 76 undef = .agg #[.int .u64 (size:Int),.string r]:=dep 8 rfl
    show Oper.wp _ _ Ac Wc K _
    have hR9:=HR8.out.below (hI.1 hj) (Lh w8 _ HR8.out.c0);have z0:=hR9.c0;have z1:=hR9.c1;have y0:=hR9.f0;have y1:=hR9.f1;obtain⟨s0,s1,hch⟩:=QmR hR9 (size:Int) r
    go_simp
    exact hK undef _ (.inl rfl) ⟨(fun h=>by cases h),fun _=>⟨s0,s1,(Qa hb68 (hI.1 hj)).trans (hch.below (by rintro b rfl;omega))⟩⟩
   ·intro L Ac Wc K hI hj hcl hsm dep hK
    show Oper.wp _ _ Ac Wc K _
    go_simp
    exact hK _ _ (.inr rfl) hI
  case fin =>
   intro L wF hall hI;obtain⟨s0,s1,hbF⟩:=hI.2 (hall 9 (by decide))
   clear hI hall;simp only[Un]
   go_simp
   go_wp2;refine bodyPost_ret (v := .tuple #[.agg #[.int .u64 (size:Int),.string r],.int .i64 0]) (by simp[results,Tryz.results63,go_sem,s0,s1]) rfl ⟨rfl,hbF⟩
end
section
open Cv (zl)
theorem QmJ{c i a H:Nat}{D:LB}{x:BA}(h:H+a<=D.length)(j:Nat):(pkP c i a H D x).getD j ByteArray.empty=if j<a then D.getD (H+j) ByteArray.empty else if j=a then rs c i (dg c (Qm x)) (D.take H) else D.getD (H+(j - 1)) ByteArray.empty:=by
 have lt:((D.drop H).take a).length=a:=by rw[Lv,LD];omega
 rw[pkP,La]
 split
 ·rename_i h1
  rw[LN (by omega),Ip h1,NL,La]
 ·rw[LM (by omega),lt]
  split
  ·rename_i h2
   rw[h2,ND];rfl
  ·obtain⟨u,rfl⟩ : ∃u,j=a+(u+1):=⟨j - a - 1,by omega⟩
   rw[show a+(u+1) - a=u+1 by omega,Nt,NL,NL,La]
   congr 2
end
theorem QiW(w:World)(k:Int)(o1:Nat)(c1:BA)(o2:Nat)(c2:BA)(s:BA)(hs:s.size<=281474976710656)(e0:Int)(he:tkE k s=e0)(h0:e0≠0) :
  Zr 14 #[.int .i64 k,.agg #[.int .u64 (o1:Int),.string c1],.agg #[.int .u64 (o2:Int),.string c2],.string s] w (.int .i64 e0):=by
 have HT:Hid (∀W,Zr 27 #[.int .i64 k,.string s] W (.tuple #[noP,.int .i64 e0])):=fun W=>QjJ W k s hs e0 he h0
 have hb0:=bal (bal (Below.refl w.heap.size w) (.cells #[.int .u64 (o1:Int),.string c1] 30)) (.cells #[.int .u64 (o2:Int),.string c2] 30);have hz:(e0 == 0)=false:=by simpa using h0
 clear he hs
 go_enter Tryz.func14,Tryz.ntmps14
 go_wp2_with (go_at_call 27;with_reducible refine(HT.out _).mono ?_;rintro e w1 ⟨rfl,hb1⟩)
 go_ret
 exact⟨rfl,bal (Qa hb0 hb1) _⟩
def kinD(n1:Nat)(d1:BA)(n2:Nat)(d2:BA)(er:Nat)(o1:Nat)(c1:BA)(o2:Nat)(c2:BA):Int:=if er=0∧(n1=o1∧d1=c1)∧(n2=o2∧d2=c2) then 0 else 150
theorem O1(w:World)(k:Int)(k1:1<=k)(k2:k<=32)(o1:Nat)(c1:BA)(o2:Nat)(c2:BA)(s:BA)(hs:s.size<=281474976710656)(P:PV)(hd:dec s.data.toList=some P)(hk:P.k=k)
  (n1:Nat) (d1:BA) (n2:Nat) (d2:BA) (er:Nat)
  (hR : ∀W sa sb sc da db dc,Zb w W->RdF W sa sb sc da db dc P->Zr 36 #[vP P.kd k P.old P.size (.slice sa P.S.length sc) (.slice da P.D.length dc)] W (.tuple #[.agg #[.int .u64 (n1:Int),.string d1],.agg #[.int .u64 (n2:Int),.string d2],.int .i64 (er:Int)]))
  (r:Int) (hr:kinD n1 d1 n2 d2 er o1 c1 o2 c2=r) :
  Zr 14 #[.int .i64 k,.agg #[.int .u64 (o1:Int),.string c1],.agg #[.int .u64 (o2:Int),.string c2],.string s] w (.int .i64 r):=by
 have HT:Hid (∀W,Calls Tryz.prog 27 #[.int .i64 k,.string s] W fun e w' => ∃sa sb sc da db dc,e = .returned (.tuple #[.agg #[.int .i64 P.kd,.int .i64 k,.int .u64 (P.old:Int),.int .u64 (P.size:Int),.slice sa P.S.length sc,.slice da P.D.length dc],.int .i64 0])∧RdF w' sa sb sc da db dc P∧Zb W w'):=fun W=>QeT W k k1 k2 s hs P hd hk
 obtain⟨kd,kk,old,size,S,D⟩:=P;simp only at HT hR;have HR:=Qc hR;unfold vP at HR;obtain⟨W0,hW0⟩:=Ze ((w.alloc (.cells #[.int .u64 (o1:Int),.string c1] 30)).alloc (.cells #[.int .u64 (o2:Int),.string c2] 30));have hb0:Zb w W0:=by rw[<-hW0];exact bal (bal (Below.refl _ _) _) _
 have hq:Rh W0 w.heap.size o1 c1∧Rh W0 (w.heap.size+1) o2 c2:=by
  obtain⟨e1,e2⟩:=Jh w (.cells #[.int .u64 (o1:Int),.string c1] 30) (.cells #[.int .u64 (o2:Int),.string c2] 30);rw[<-hW0];exact⟨e1,e2⟩
 have HX:Hid (∀F,Zb W0 F->Rh F w.heap.size o1 c1∧Rh F (w.heap.size+1) o2 c2∧Zb w F):=fun F hF=>⟨hq.1.next hF,hq.2.next hF,Qa hb0 hF⟩
 clear hs hd hk hR hq hb0 k1 k2
 go_enter Tryz.func14,Tryz.ntmps14
 go_upto_region 1 with (fail)
 try rw[hW0]
 clear hW0
 go_upto_region 4 with (go_at_call 27;with_reducible refine(HT.out _).mono ?_;rintro e w1 ⟨sa,sb,sc,da,db,dc,rfl,hF,hb1⟩)
 obtain⟨F,hFe,h7,hb2,_⟩:=Yu w1 (.int .i64 kd) (.int .i64 k) (.int .u64 (old:Int)) (.int .u64 (size:Int)) (.slice sa S.length sc) (.slice da D.length dc)
 try rw[hFe]
 clear hFe;obtain⟨m0,m1,m2,m3,m4,m5⟩:=h7.cells;have hF2:=hF.next hb2;have xb:=(HX.out _ (Qa hb1 hb2)).2.2
 go_upto_region 5 with (go_at_call 36;with_reducible refine(HR.out _ _ _ _ _ _ _ xb hF2).mono ?_;rintro e w3 ⟨rfl,hb3⟩)
 obtain⟨G,hG⟩:=Ze ((w3.alloc (.cells #[.int .u64 (n1:Int),.string d1] 30)).alloc (.cells #[.int .u64 (n2:Int),.string d2] 30))
 try rw[hG]
 have hbG:Zb w3 G:=by rw[<-hG];exact bal (bal (Below.refl _ _) _) _
 have hg:Rh G w3.heap.size n1 d1∧Rh G (w3.heap.size+1) n2 d2:=by
  obtain⟨e1,e2⟩:=Jh w3 (.cells #[.int .u64 (n1:Int),.string d1] 30) (.cells #[.int .u64 (n2:Int),.string d2] 30);rw[<-hG];exact⟨e1,e2⟩
 obtain⟨x1,x2,xB⟩:=HX.out _ (Qa (Qa hb1 hb2) (Qa hb3 hbG));obtain⟨a0,a1⟩:=x1.cells;obtain⟨a2,a3⟩:=x2.cells;obtain⟨b0,b1⟩:=hg.1.cells;obtain⟨b2,b3⟩:=hg.2.cells;clear hG hg x1 x2 hbG hb3 hF2 xb m0 m1 m2 m3 m4 m5 h7 hb2 hF hb1 HR HT HX;have HB:=Qc xB;clear xB;unfold kinD at hr
 by_cases h1:er=0
 ·subst h1
  by_cases h2:n1=o1∧d1=c1
  ·obtain⟨rfl,rfl⟩:=h2
   by_cases h3:n2=o2∧d2=c2
   ·obtain⟨rfl,rfl⟩:=h3;rw[if_pos ⟨rfl,⟨rfl,rfl⟩,rfl,rfl⟩] at hr;subst hr;go_wp2
    go_ret
    exact⟨rfl,HB.out⟩
   ·rw[if_neg (fun h=>h3 h.2.2)] at hr
    subst hr
    rcases Qae h3 with hn|⟨rfl,hd⟩
    ·have hz : ¬(n2:Int)=(o2:Int):=by omega
     have hzb:((n2:Int) == (o2:Int))=false:=by simpa using hz
     clear h3 hn;go_wp2
     go_ret
     exact⟨rfl,HB.out⟩
    ·have hz:=YG hd;have hzb:=Yo hd;clear h3 hd;go_wp2
     go_ret
     exact⟨rfl,HB.out⟩
  ·rw[if_neg (fun h=>h2 h.2.1)] at hr
   subst hr
   rcases Qae h2 with hn|⟨rfl,hd⟩
   ·have hz : ¬(n1:Int)=(o1:Int):=by omega
    have hzb:((n1:Int) == (o1:Int))=false:=by simpa using hz
    clear h2 hn;go_wp2
    go_ret
    exact⟨rfl,HB.out⟩
   ·have hz:=YG hd;have hzb:=Yo hd;clear h2 hd;go_wp2
    go_ret
    exact⟨rfl,HB.out⟩
 ·rw[if_neg (fun h=>h1 h.1)] at hr
  subst hr;have hz : ¬(er:Int)=0:=by omega
  have hzb:((er:Int) == 0)=false:=by simpa using hz
  go_wp2
  go_ret
  exact⟨rfl,HB.out⟩
end Go.Proofs.YtdocjikpcbmcgaaGreatDoor
