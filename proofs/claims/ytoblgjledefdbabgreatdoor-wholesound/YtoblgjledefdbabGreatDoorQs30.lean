/- Own work. -/
import Derived.Test.YtoblgjledefdbabGreatDoorQs28
import Derived.Test.YtoblgjledefdbabGreatDoorQs29
set_option maxRecDepth 100000
set_option maxHeartbeats 1000000
namespace Go.Proofs.YtoblgjledefdbabGreatDoor
open Go.RowKit
attribute [local go_sem ↓] Go.wp_at_zero Go.wp_at_succ
open Go.Proofs.Tryz
section
open Cv (RdC zl cU)
theorem Qht(w:World)(ax ay:OA)(db off na nb cx cy:Nat)(E:LB)(pk:BA)(zk:pk.size<=9223372036854775807)(hr:RdS w ax db off E.length E)(hn:ax=none->cx=0)(hl:E.length=na+nb)(hs:E.length<=1000)(hcx:E.length<=cx)(hcy:cx-na=cy)(hay:(if cx=na then ax else Option.map (fun x=>x.add na) ax)=ay) :
  Calls prog 88 #[.slice (some ⟨w.heap.size+1,0,none⟩) 3 3] ((w.alloc (.cells #[.string pk] 9)).alloc (.cells #[.slice ax na cx,.slice (Zp w.heap.size) 1 1,.slice ay nb cy] 22)).drew fun e w'=> ∃ao b cap,e= .returned (.slice ao (na+1+nb) cap)∧RdS w' ao b 0 (na+1+nb) (E.take na++pk::E.drop na)∧Below w.heap.size w w':=by
 subst hcy;obtain⟨o1,ho1⟩:∃o1,Obj.cells #[.string pk] 9 (0,0)=o1:=⟨_,rfl⟩;obtain⟨o2,ho2⟩:∃o2,Obj.cells #[.slice ax na cx,.slice (Zp w.heap.size) 1 1,.slice ay nb (cx-na)] 22 (0,0)=o2:=⟨_,rfl⟩;have hb1:=bal (Lc w.heap.size w) o1;have hb2:=(bal hb1 o2).drew;have hx:((w.alloc o1).alloc o2).drew.heap[w.heap.size+1]? = some (.cells #[.slice ax na cx,.slice (Zp w.heap.size) 1 1,.slice ay nb (cx-na)] 22 (0,0)):=by
  have:=Lr (w.alloc o1) o2;rw[LK] at this;rw[ho2];exact this
 have hr2:=hr.next hb2 (Lb _);obtain⟨rd,rn⟩:=Ud hr2 hcx (by omega) hn hay
 have rt:=QbP hr2 (H:=na) (by omega)
 have r1:RdS ((w.alloc o1).alloc o2).drew (Zp w.heap.size) w.heap.size 0 1 [pk]:=by
  have h0:RdS (w.alloc o1) (Zp w.heap.size) w.heap.size 0 1 [pk]:=by rw[<-ho1];exact YT w pk zk
  exact h0.next ((bal (Lc _ _) o2).drew) (Lb _)
 have lt:(E.take na).length=na:=by rw[Lv];omega
 have ld:(E.drop na).length=nb:=by rw[LD];omega
 have hc:CatS ((w.alloc o1).alloc o2).drew (w.heap.size+1) [.slice ax na cx,.slice (Zp w.heap.size) 1 1,.slice ay nb (cx-na)] [E.take na,[pk],E.drop na]:=by
  refine Qoc ?_ ?_ ?_ ?_ (QdA r1 (fun e=>by cases e)) ?_
  ·rw[cell_of_row _ _ 0 _ _ (0,0) hx];rfl
  ·rw[cell_of_row _ _ 1 _ _ (0,0) hx];rfl
  ·rw[cell_of_row _ _ 2 _ _ (0,0) hx];rfl
  ·rw[lt] at rt ⊢;exact QdA rt hn
  ·rw[ld] at rd ⊢;exact QdA rd rn
 have hfl:([E.take na,[pk],E.drop na]:List LB).flatten=E.take na++pk::E.drop na:=by simp
 have hll:(E.take na++pk::E.drop na).length=na+1+nb:=by rw[Lh,LJ,lt,ld];omega
 rw[ho1,ho2];refine(show Calls prog 88 #[.slice (some ⟨w.heap.size+1,0,none⟩) 3 3] ((w.alloc o1).alloc o2).drew _ from QiY _ _ 3 _ _ hc (by simp) (by rw[hfl,hll];omega) _ hfl).mono fun e w' ⟨v,e1,e2,e3⟩=> ?_
 obtain⟨ao,b,cap,rfl,hr',_⟩:=QJ (show Qg w' _ v _ from e2) (fun s hs=>by
  rcases List.mem_append.1 hs with hs|hs
  ·exact hr.sz s (Nn hs)
  ·rcases List.mem_cons.1 hs with rfl|hs
   ·exact zk
   ·exact hr.sz s (Nm hs))
 rw[hll] at e1 hr';exact⟨ao,b,cap,e1,hr',Qa hb2 e3⟩
theorem QfV(w:World)(kd k:Int)(old size:Nat)(sa:OA)(ns sc:Nat)(da:OA)(n2 dc:Nat)(i:Nat)(hx:ns=1 -> ∃b o,sa=some ⟨b,o,none⟩∧w.cell? ⟨b,o,none⟩=some (.int .u64 i))
  (hno:¬(kd=1∧(1<=k∧k<=32)∧size<=2^40∧old=0∧ns=1∧i<size)) (x:BA) :
  Calls prog 49 #[.agg #[.int .i64 kd,.int .i64 k,.int .u64 old,.int .u64 size,.slice sa ns sc,.slice da n2 dc],.string x] w fun e w'=>e= .returned (.tuple #[noR,.int .i64 150])∧Below w.heap.size w w':=by
 have HI:Hid (∀W,Below w.heap.size w W->Calls prog 84 #[.agg #[.int .i64 kd,.int .i64 k,.int .u64 old,.int .u64 size,.slice sa ns sc,.slice da n2 dc]] W fun e w'=>e= .returned (.bool false)∧Below W.heap.size W w'):=fun W hb=>
  Um W kd k old size sa ns sc da n2 dc i (fun h=>by
   obtain⟨b,o,h1,h2⟩:=hx h;exact⟨b,o,h1,(hb.cell (p:=⟨b,o,none⟩) (Ll w _ h2)).trans h2⟩) false (LC hno)
 clear hx hno
 go_enter func49,ntmps49
 go_upto_region 1 with (fail)
 obtain⟨W0,hW0⟩:∃W0,(w.alloc (.cells #[.int .i64 kd,.int .i64 k,.int .u64 old,.int .u64 size,.slice sa ns sc,.slice da n2 dc] 68)).alloc (.cells #[.int .u64 0,.string ⟨#[]⟩] 33)=W0:=⟨_,rfl⟩;rw[hW0];obtain⟨hb,h6,hRt,hz⟩:=Yj hW0;obtain⟨c0,c1,c2,c3,c4,c5⟩:=h6.cells;have HR:=Qc (Lx hRt hz);clear hW0 h6 hRt hz
 go_wp2_with (go_at_call 84;with_reducible refine(HI.out _ hb).mono ?_;rintro e w1 ⟨rfl,hb1⟩;have hR:=HR.out.1.below hb1 (by rw[HR.out.2];omega);have k0:=hR.c0;have k1:=hR.c1;have f0:=hR.f0;have f1:=hR.f1)
 obtain⟨s0,s1,hch⟩:=Uu hR 0 ⟨#[]⟩;refine LA (v := .tuple #[noR,.int .i64 150]) (by simp[results,results49,go_sem,s0,s1]) rfl ⟨rfl,?_⟩
 exact(Qa hb hb1).trans (hch.below (by rintro b rfl;omega))
structure RA(w:World)(k:Int)(size:Nat)(b o:Nat)(i H:Nat)(A B:List (Nat×Nat)):Prop where
 k1:1<=k∧k<=32
 n:size<=2^40
 il:i<size
 wy:Wy size i A H B
 ci:w.cell? ⟨b,o,none⟩=some (.int .u64 i)
theorem QfU(w:World)(k:Int)(size:Nat)(b o sc:Nat)(i H:Nat)(A B:List (Nat×Nat))(ha:RA w k size b o i H A B)(da:OA)(db dO dc:Nat)(D:LB)(hr:RdS w da db dO D.length D)(hm:D.length<=9223372036854775807)(x:BA)(hno:¬fil k (H+A.length+B.length) D) :
  Calls prog 49 #[.agg #[.int .i64 1,.int .i64 k,.int .u64 0,.int .u64 size,.slice (some ⟨b,o,none⟩) 1 sc,.slice da D.length dc],.string x] w fun e w'=>e= .returned (.tuple #[noR,.int .i64 150])∧Below w.heap.size w w':=by
 have HI:Hid (∀W,Below w.heap.size w W->Calls prog 84 #[.agg #[.int .i64 1,.int .i64 k,.int .u64 0,.int .u64 size,.slice (some ⟨b,o,none⟩) 1 sc,.slice da D.length dc]] W fun e w'=>e= .returned (.bool true)∧Below W.heap.size W w'):=fun W hb=>
  Um W 1 k 0 size (some ⟨b,o,none⟩) 1 sc da D.length dc i (fun h=>⟨b,o,rfl,(hb.cell (p:=⟨b,o,none⟩) (Ll w _ ha.ci)).trans ha.ci⟩) true (LS ⟨rfl,ha.k1,ha.n,rfl,rfl,ha.il⟩)
 have HCi:Hid (∀W,Below w.heap.size w W->W.cell? ⟨b,o,none⟩=some (.int .u64 i)):=fun W hb=>(hb.cell (p:=⟨b,o,none⟩) (Ll w _ ha.ci)).trans ha.ci
 have hln:=ha.wy.len;have hH:=ha.wy.hH;have HW:Hid (∀W,Calls prog 85 #[.int .u64 size,.int .u64 i] W fun e w'=> ∃a0 c0 a1 c1 a2 c2,e= .returned (.agg #[.slice a0 H c0,.slice a1 A.length c1,.slice a2 B.length c2])∧Below W.heap.size W w'):=fun W=>
  (QdX W size i H A B ha.wy ha.n ha.il).mono fun e w' ⟨vb,va,vc,e1,r0,r1,r2,hb⟩=>by
   obtain⟨a0,c0,rfl⟩:=Yn r0;obtain⟨a1,c1,rfl⟩:=Yn r1;obtain⟨a2,c2,rfl⟩:=Yn r2;exact⟨a0,c0,a1,c1,a2,c2,e1,hb⟩
 have HF:Hid (∀W a0 c0 a1 c1 a2 c2,Below w.heap.size w W->Calls prog 86 #[.agg #[.slice a0 H c0,.slice a1 A.length c1,.slice a2 B.length c2],.agg #[.int .i64 1,.int .i64 k,.int .u64 0,.int .u64 size,.slice (some ⟨b,o,none⟩) 1 sc,.slice da D.length dc]] W fun e w'=>e= .returned (.bool false)∧Below W.heap.size W w'):=fun W a0 c0 a1 c1 a2 c2 hb=>
  Jw W 1 k 0 size (some ⟨b,o,none⟩) 1 sc da db dO dc D (hr.next hb (Lb _)) hm a0 a1 a2 H A.length B.length c0 c1 c2 (by omega) (by omega) (by omega) false (LC hno)
 clear hno ha hr hm hln hH
 go_enter func49,ntmps49
 go_upto_region 1 with (fail)
 obtain⟨W0,hW0⟩:∃W0,(w.alloc (.cells #[.int .i64 1,.int .i64 k,.int .u64 ((0:Nat):Int),.int .u64 size,.slice (some ⟨b,o,none⟩) 1 sc,.slice da D.length dc] 68)).alloc (.cells #[.int .u64 0,.string ⟨#[]⟩] 33)=W0:=⟨_,rfl⟩;obtain⟨hb,h6,hRt,hz⟩:=Yj hW0;rw[show((0:Nat):Int)=0 from rfl] at hW0 h6
 rw[hW0];obtain⟨c0,c1,c2,c3,c4,c5⟩:=h6.cells;have HR:=Qc (Lx hRt hz);have H6:=Qc h6;clear hW0 h6 hRt hz
 go_wp2_with (first
  | (go_at_call 84;with_reducible refine(HI.out _ hb).mono ?_;rintro e w1 ⟨rfl,hb1⟩;obtain⟨d0,d1,d2,d3,d4,d5⟩:=(H6.out.next hb1).cells;have ci:=HCi.out _ (Qa hb hb1))
  | (go_at_call 85;with_reducible refine(HW.out _).mono ?_;rintro e w2 ⟨a0,n0,a1,n1,a2,n2,rfl,hb2⟩;obtain⟨g0,g1,g2,g3,g4,g5⟩:=(H6.out.next (bal (Qa hb1 hb2) (.cells #[.slice a0 H n0,.slice a1 A.length n1,.slice a2 B.length n2] 161))).cells)
  | (go_at_call 86;with_reducible refine(HF.out _ _ _ _ _ _ _ (bal (Qa (Qa hb hb1) hb2) _)).mono ?_;rintro e w3 ⟨rfl,hb3⟩;have hR:=HR.out.1.below (Qa (bal (Qa hb1 hb2) _) hb3) (by rw[HR.out.2];omega);have k0:=hR.c0;have k1:=hR.c1;have f0:=hR.f0;have f1:=hR.f1))
 obtain⟨s0,s1,hch⟩:=Uu hR 0 ⟨#[]⟩;refine LA (v := .tuple #[noR,.int .i64 150]) (by simp[results,results49,go_sem,s0,s1]) rfl ⟨rfl,?_⟩
 exact(Qa (bal (Qa (Qa hb hb1) hb2) _) hb3).trans (hch.below (by rintro b rfl;omega))
theorem QfW(w:World)(k:Int)(size:Nat)(b o sc:Nat)(i H:Nat)(A B:List (Nat×Nat))(ha:RA w k size b o i H A B)(da:OA)(db dO dc:Nat)(D:LB)(hr:RdS w da db dO D.length D)(hm:D.length<=9223372036854775807)(x:BA)(hf:fil k (H+A.length+B.length) D)(hxl:1048576<x.size) :
  Calls prog 49 #[.agg #[.int .i64 1,.int .i64 k,.int .u64 0,.int .u64 size,.slice (some ⟨b,o,none⟩) 1 sc,.slice da D.length dc],.string x] w fun e w'=>e= .returned (.tuple #[noR,.int .i64 100])∧Below w.heap.size w w':=by
 have HI:Hid (∀W,Below w.heap.size w W->Calls prog 84 #[.agg #[.int .i64 1,.int .i64 k,.int .u64 0,.int .u64 size,.slice (some ⟨b,o,none⟩) 1 sc,.slice da D.length dc]] W fun e w'=>e= .returned (.bool true)∧Below W.heap.size W w'):=fun W hb=>
  Um W 1 k 0 size (some ⟨b,o,none⟩) 1 sc da D.length dc i (fun h=>⟨b,o,rfl,(hb.cell (p:=⟨b,o,none⟩) (Ll w _ ha.ci)).trans ha.ci⟩) true (LS ⟨rfl,ha.k1,ha.n,rfl,rfl,ha.il⟩)
 have HCi:Hid (∀W,Below w.heap.size w W->W.cell? ⟨b,o,none⟩=some (.int .u64 i)):=fun W hb=>(hb.cell (p:=⟨b,o,none⟩) (Ll w _ ha.ci)).trans ha.ci
 have hln:=ha.wy.len;have hH:=ha.wy.hH;have HW:Hid (∀W,Calls prog 85 #[.int .u64 size,.int .u64 i] W fun e w'=> ∃a0 c0 a1 c1 a2 c2,e= .returned (.agg #[.slice a0 H c0,.slice a1 A.length c1,.slice a2 B.length c2])∧Below W.heap.size W w'):=fun W=>
  (QdX W size i H A B ha.wy ha.n ha.il).mono fun e w' ⟨vb,va,vc,e1,r0,r1,r2,hb⟩=>by
   obtain⟨a0,c0,rfl⟩:=Yn r0;obtain⟨a1,c1,rfl⟩:=Yn r1;obtain⟨a2,c2,rfl⟩:=Yn r2;exact⟨a0,c0,a1,c1,a2,c2,e1,hb⟩
 have HF:Hid (∀W a0 c0 a1 c1 a2 c2,Below w.heap.size w W->Calls prog 86 #[.agg #[.slice a0 H c0,.slice a1 A.length c1,.slice a2 B.length c2],.agg #[.int .i64 1,.int .i64 k,.int .u64 0,.int .u64 size,.slice (some ⟨b,o,none⟩) 1 sc,.slice da D.length dc]] W fun e w'=>e= .returned (.bool true)∧Below W.heap.size W w'):=fun W a0 c0 a1 c1 a2 c2 hb=>
  Jw W 1 k 0 size (some ⟨b,o,none⟩) 1 sc da db dO dc D (hr.next hb (Lb _)) hm a0 a1 a2 H A.length B.length c0 c1 c2 (by omega) (by omega) (by omega) true (LS hf)
 have hxz:(1048576:Int)<(x.size:Int):=by omega
 clear hf hxl ha hr hm hln hH
 go_enter func49,ntmps49
 go_upto_region 1 with (fail)
 obtain⟨W0,hW0⟩:∃W0,(w.alloc (.cells #[.int .i64 1,.int .i64 k,.int .u64 ((0:Nat):Int),.int .u64 size,.slice (some ⟨b,o,none⟩) 1 sc,.slice da D.length dc] 68)).alloc (.cells #[.int .u64 0,.string ⟨#[]⟩] 33)=W0:=⟨_,rfl⟩;obtain⟨hb,h6,hRt,hz⟩:=Yj hW0;rw[show((0:Nat):Int)=0 from rfl] at hW0 h6
 rw[hW0];obtain⟨c0,c1,c2,c3,c4,c5⟩:=h6.cells;have HR:=Qc (Lx hRt hz);have H6:=Qc h6;clear hW0 h6 hRt hz
 go_wp2_with (first
  | (go_at_call 84;with_reducible refine(HI.out _ hb).mono ?_;rintro e w1 ⟨rfl,hb1⟩;obtain⟨d0,d1,d2,d3,d4,d5⟩:=(H6.out.next hb1).cells;have ci:=HCi.out _ (Qa hb hb1))
  | (go_at_call 85;with_reducible refine(HW.out _).mono ?_;rintro e w2 ⟨a0,n0,a1,n1,a2,n2,rfl,hb2⟩;obtain⟨g0,g1,g2,g3,g4,g5⟩:=(H6.out.next (bal (Qa hb1 hb2) (.cells #[.slice a0 H n0,.slice a1 A.length n1,.slice a2 B.length n2] 161))).cells)
  | (go_at_call 86;with_reducible refine(HF.out _ _ _ _ _ _ _ (bal (Qa (Qa hb hb1) hb2) _)).mono ?_;rintro e w3 ⟨rfl,hb3⟩;have hR:=HR.out.1.below (Qa (bal (Qa hb1 hb2) _) hb3) (by rw[HR.out.2];omega);have k0:=hR.c0;have k1:=hR.c1;have f0:=hR.f0;have f1:=hR.f1))
 obtain⟨s0,s1,hch⟩:=Uu hR 0 ⟨#[]⟩;refine LA (v := .tuple #[noR,.int .i64 100]) (by simp[results,results49,go_sem,s0,s1]) rfl ⟨rfl,?_⟩
 exact(Qa (bal (Qa (Qa hb hb1) hb2) _) hb3).trans (hch.below (by rintro b rfl;omega))
theorem Qh9(w:World)(k:Int)(size:Nat)(b o sc:Nat)(i H:Nat)(A B:List (Nat×Nat))(ha:RA w k size b o i H A B)(da:OA)(db dO dc:Nat)(D:LB)(hr:RdS w da db dO D.length D)(hm:D.length<=9223372036854775807)(x:BA)(hf:fil k (H+A.length+B.length) D)(hxl:x.size<=1048576)(ht:Tb w)(hcd:D.length<=dc)(hc63:dc<=9223372036854775807)(hnd:da=none->dc=0)(r:BA)(hq:rtP (clk k) size i A.length H D x=r) :
  Calls prog 49 #[.agg #[.int .i64 1,.int .i64 k,.int .u64 0,.int .u64 size,.slice (some ⟨b,o,none⟩) 1 sc,.slice da D.length dc],.string x] w fun e w'=>e= .returned (.tuple #[.agg #[.int .u64 size,.string r],.int .i64 0])∧Below w.heap.size w w':=by
 have HI:Hid (∀W,Below w.heap.size w W->Calls prog 84 #[.agg #[.int .i64 1,.int .i64 k,.int .u64 0,.int .u64 size,.slice (some ⟨b,o,none⟩) 1 sc,.slice da D.length dc]] W fun e w'=>e= .returned (.bool true)∧Below W.heap.size W w'):=fun W hb=>
  Um W 1 k 0 size (some ⟨b,o,none⟩) 1 sc da D.length dc i (fun h=>⟨b,o,rfl,(hb.cell (p:=⟨b,o,none⟩) (Ll w _ ha.ci)).trans ha.ci⟩) true (LS ⟨rfl,ha.k1,ha.n,rfl,rfl,ha.il⟩)
 have HCi:Hid (∀W,Below w.heap.size w W->W.cell? ⟨b,o,none⟩=some (.int .u64 i)):=fun W hb=>(hb.cell (p:=⟨b,o,none⟩) (Ll w _ ha.ci)).trans ha.ci
 have hln:=ha.wy.len;have hH:=ha.wy.hH;have HW:Hid (∀W,Calls prog 85 #[.int .u64 size,.int .u64 i] W fun e w'=> ∃a0 c0 a1 c1 a2 c2,e= .returned (.agg #[.slice a0 H c0,.slice a1 A.length c1,.slice a2 B.length c2])∧Below W.heap.size W w'):=fun W=>
  (QdX W size i H A B ha.wy ha.n ha.il).mono fun e w' ⟨vb,va,vc,e1,r0,r1,r2,hb⟩=>by
   obtain⟨a0,c0,rfl⟩:=Yn r0;obtain⟨a1,c1,rfl⟩:=Yn r1;obtain⟨a2,c2,rfl⟩:=Yn r2;exact⟨a0,c0,a1,c1,a2,c2,e1,hb⟩
 have HF:Hid (∀W a0 c0 a1 c1 a2 c2,Below w.heap.size w W->Calls prog 86 #[.agg #[.slice a0 H c0,.slice a1 A.length c1,.slice a2 B.length c2],.agg #[.int .i64 1,.int .i64 k,.int .u64 0,.int .u64 size,.slice (some ⟨b,o,none⟩) 1 sc,.slice da D.length dc]] W fun e w'=>e= .returned (.bool true)∧Below W.heap.size W w'):=fun W a0 c0 a1 c1 a2 c2 hb=>
  Jw W 1 k 0 size (some ⟨b,o,none⟩) 1 sc da db dO dc D (hr.next hb (Lb _)) hm a0 a1 a2 H A.length B.length c0 c1 c2 (by omega) (by omega) (by omega) true (LS hf)
 have HX:Hid (x.size<=1048576∧fil k (H+A.length+B.length) D∧D.length<=dc∧(da=none->dc=0)∧i<2^40∧(1<=k∧k<=32)∧H<=40∧A.length+B.length<=40∧dc<=9223372036854775807):=⟨hxl,hf,hcd,hnd,by have:=ha.n;have:=ha.il;omega,ha.k1,ha.wy.hH,ha.wy.len,hc63⟩
 have HQ:=Qc hq;have HT:Hid (∀W,Below w.heap.size w W->Tb W):=fun W hb=>ht.next hb
 have HD:Hid (∀W,Below w.heap.size w W->RdS W da db dO D.length D):=fun W hb=>hr.next hb (Lb _)
 have hxz:decide ((1048576:Int)<(x.size:Int))=false:=LC (by omega)
 have hcz:¬((dc:Int)<(H:Int)):=by have:=hf.1;omega
 have hnz:(H:Int)<=(D.length:Int):=by have:=hf.1;omega
 clear hf hxl ht hcd hc63 hnd hq ha hr hm hln hH
 go_enter func49,ntmps49
 go_upto_region 1 with (fail)
 obtain⟨W0,hW0⟩:∃W0,(w.alloc (.cells #[.int .i64 1,.int .i64 k,.int .u64 ((0:Nat):Int),.int .u64 size,.slice (some ⟨b,o,none⟩) 1 sc,.slice da D.length dc] 68)).alloc (.cells #[.int .u64 0,.string ⟨#[]⟩] 33)=W0:=⟨_,rfl⟩;obtain⟨hb,h6,hRt,hz⟩:=Yj hW0;rw[show((0:Nat):Int)=0 from rfl] at hW0 h6
 rw[hW0];obtain⟨c0,c1,c2,c3,c4,c5⟩:=h6.cells;have HR:=Qc (Lx hRt hz);have H6:=Qc h6;clear hW0 h6 hRt hz
 go_upto_region 9 with (first
  | (go_at_call 84;with_reducible refine(HI.out _ hb).mono ?_;rintro e w1 ⟨rfl,hb1⟩;obtain⟨d0,d1,d2,d3,d4,d5⟩:=(H6.out.next hb1).cells;have ci:=HCi.out _ (Qa hb hb1))
  | (go_at_call 85;with_reducible refine(HW.out _).mono ?_;rintro e w2 ⟨a0,n0,a1,n1,a2,n2,rfl,hb2⟩;obtain⟨g0,g1,g2,g3,g4,g5⟩:=(H6.out.next (bal (Qa hb1 hb2) (.cells #[.slice a0 H n0,.slice a1 A.length n1,.slice a2 B.length n2] 161))).cells)
  | (go_at_call 86;with_reducible refine(HF.out _ _ _ _ _ _ _ (bal (Qa (Qa hb hb1) hb2) _)).mono ?_;rintro e w3 ⟨rfl,hb3⟩;have hR:=HR.out.1.below (Qa (bal (Qa hb1 hb2) _) hb3) (by rw[HR.out.2];omega);have k0:=hR.c0;have k1:=hR.c1;have f0:=hR.f0;have f1:=hR.f1))
 have hwB:=Lr w2 (.cells #[.slice a0 H n0,.slice a1 A.length n1,.slice a2 B.length n2] 161);have hw3:=(hb3.block w2.heap.size (by simp)).trans hwB
 have q0:w3.cell? ⟨w2.heap.size,0,none⟩=some (.slice a0 H n0):=by rw[cell_of_row w3 _ 0 _ _ (0,0) hw3];rfl
 have q1:w3.cell? ⟨w2.heap.size,1,none⟩=some (.slice a1 A.length n1):=by rw[cell_of_row w3 _ 1 _ _ (0,0) hw3];rfl
 have h63:=H6.out.next (Qa (bal (Qa hb1 hb2) _) hb3);have hbw3:=Qa (bal (Qa (Qa hb hb1) hb2) (.cells #[.slice a0 H n0,.slice a1 A.length n1,.slice a2 B.length n2] 161)) hb3;obtain⟨e0,e1,e2,e3,e4,e5⟩:=h63.cells;have HS:Hid (Six w3 w.heap.size (.int .i64 1) (.int .i64 k) (.int .u64 0) (.int .u64 size) (.slice (some ⟨b,o,none⟩) 1 sc) (.slice da D.length dc)∧Rt w3 (w.heap.size+1) 0 ⟨#[]⟩∧w3.heap[w2.heap.size]? = some (.cells #[.slice a0 H n0,.slice a1 A.length n1,.slice a2 B.length n2] 161 (0,0))∧Below w.heap.size w w3):=⟨h63,hR,hw3,hbw3⟩;generalize w2.heap.size=y at *;clear hwB hw3 h63 hbw3 HR H6 HW HF HI HCi hb hb1 hb2 hb3 c0 c1 c2 c3 c4 c5 d0 d1 d2 d3 d4 d5 g0 g1 g2 g3 g4 g5 ci k0 k1 f0 f1 hR
 go_quiet (fail)
 go_upto_region 10 with (fail)
 obtain⟨W4,hW4⟩:∃W4,w3.drewN nq=W4:=⟨_,rfl⟩;have HS4:Hid (Six W4 w.heap.size (.int .i64 1) (.int .i64 k) (.int .u64 0) (.int .u64 size) (.slice (some ⟨b,o,none⟩) 1 sc) (.slice da D.length dc)∧Rt W4 (w.heap.size+1) 0 ⟨#[]⟩∧W4.heap[y]? = some (.cells #[.slice a0 H n0,.slice a1 A.length n1,.slice a2 B.length n2] 161 (0,0))∧Below w.heap.size w W4):=by
  rw[<-hW4];exact⟨HS.out.1,⟨HS.out.2.1.c0,HS.out.2.1.c1,HS.out.2.1.f0,HS.out.2.1.f1⟩,HS.out.2.2.1,Qi HS.out.2.2.2 nq⟩
 obtain⟨ax,hax⟩:∃ax,(if dc=H then da else Option.map (fun x=>x.add H) da)=ax:=⟨_,rfl⟩
 have HA:Hid (∀W,Below w.heap.size w W->RdS W ax db (dO+H) (D.drop H).length (D.drop H)∧(ax=none->dc-H=0)):=fun W hb=>Ud (HD.out W hb) HX.out.2.2.1 (by omega) HX.out.2.2.2.1 hax
 rw[hW4,hax];have hEl:(D.drop H).length=A.length+B.length:=by rw[LD,HX.out.2.1.1];omega
 have hck:(k:Int)=(clk k:Int):=by have:=HX.out.2.2.2.2.2.1;unfold clk;rw[Le (by omega),Le (by omega)];omega
 have hsD:∀s∈D,s.size=clk k:=fun s hs=>by have:=HX.out.2.1.2 s hs;omega
 obtain⟨lf,hlf⟩:∃lf,dg (clk k) (Qw x)=lf:=⟨_,rfl⟩;obtain⟨pk,hpk⟩:∃pk,rs (clk k) i lf (D.take H)=pk:=⟨_,rfl⟩;have zlf:lf.size=clk k:=by rw[<-hlf];exact Q3 (Qn k) _
 have HLf:Hid (∀W,Below w.heap.size w W->Calls prog 55 #[.int .i64 k,.string x] W fun e w'=>e= .returned (.string lf)∧Below W.heap.size W w'):=fun W hb=>JB W (HT.out W hb) k x (by have:=HX.out.1;omega) lf hlf
 have HRs:Hid (∀W,Below w.heap.size w W->Calls prog 87 #[.int .i64 k,.int .u64 i,.string lf,.slice da H dc] W fun e w'=>e= .returned (.string pk)∧Below W.heap.size W w'):=fun W hb=>by
  have:=QfX W (HT.out W hb) k i HX.out.2.2.2.2.1 lf zlf da db dO dc (D.take H) (QbP (HD.out W hb) (by omega)) (by rw[Lv];have:=HX.out.2.2.2.2.2.2.1;omega) (fun s hs=>hsD s (Nn hs)) pk hpk
  rw[Lv,Ir (by omega)] at this
  exact this
 obtain⟨k0,k1,k2,k3,k4,k5⟩:=HS4.out.1.cells;have hb4:=HS4.out.2.2.2;have HE:=Qc (Lx hEl (Lx hsD (Lx hlf (Lx hpk (Lx hck zlf)))));have HAX:=Qc hax;clear hW4 HS e0 e1 e2 e3 e4 e5 q0 q1 hck hsD hlf hpk zlf hEl hax;refine Jk (by kernel_rfl) [46,47,48,49,50,51,52,53,54,10] [] [.pointer (some ⟨w.heap.size,1,none⟩),.int .i64 k,.int .u64 i,.pointer (some ⟨w.heap.size,1,none⟩),.int .i64 k,.string x,.string lf,.slice da H dc,.string pk,.string pk] (by kernel_rfl) rfl (fun j hj=>by cases hj) (fun _ W=>Below W4.heap.size W4 W) (fun W _ hb=>hb) ?step ?fin
 case step=>
  refine⟨?_,?_,?_,?_,?_,?_,?_,?_,?_,?_,trivial⟩
  ·intro L Ac Wc K hI hj hcl hsm dep hK;have t2:Ac.tmps.getD 2 undef=Zv w.heap.size:=hsm 2 rfl
   show Oper.wp _ _ Ac Wc K _
   go_simp
   exact hK _ _ (.inr rfl) hI
  ·intro L Ac Wc K hI hj hcl hsm dep hK;have t46:Ac.tmps.getD 46 undef= .pointer (some ⟨w.heap.size,1,none⟩):=dep 0 rfl
   show Oper.wp _ _ Ac Wc K _
   obtain⟨g0,g1,g2,g3,g4,g5⟩:=(HS4.out.1.next hI).cells
   go_simp
   exact hK _ _ (.inr rfl) hI
  ·intro L Ac Wc K hI hj hcl hsm dep hK;have t6:Ac.tmps.getD 6 undef= .int .u64 i:=hsm 6 rfl
   show Oper.wp _ _ Ac Wc K _
   go_simp
   exact hK _ _ (.inr rfl) hI
  ·intro L Ac Wc K hI hj hcl hsm dep hK;have t2:Ac.tmps.getD 2 undef=Zv w.heap.size:=hsm 2 rfl
   show Oper.wp _ _ Ac Wc K _
   go_simp
   exact hK _ _ (.inr rfl) hI
  ·intro L Ac Wc K hI hj hcl hsm dep hK;have t49:Ac.tmps.getD 49 undef= .pointer (some ⟨w.heap.size,1,none⟩):=dep 3 rfl
   show Oper.wp _ _ Ac Wc K _
   obtain⟨g0,g1,g2,g3,g4,g5⟩:=(HS4.out.1.next hI).cells
   go_simp
   exact hK _ _ (.inr rfl) hI
  ·intro L Ac Wc K hI hj hcl hsm dep hK;have t1:Ac.tmps.getD 1 undef= .string x:=hsm 1 rfl
   show Oper.wp _ _ Ac Wc K _
   go_simp
   exact hK _ _ (.inr rfl) hI
  ·intro L Ac Wc K hI hj hcl hsm dep hK;have t50:Ac.tmps.getD 50 undef= .int .i64 k:=dep 4 rfl;have t51:Ac.tmps.getD 51 undef= .string x:=dep 5 rfl
   show Oper.wp _ _ Ac Wc K _
   go_simp
   refine(HLf.out Wc (Qa hb4 hI)).mono ?_
   rintro e w' ⟨rfl,hb⟩;exact hK _ _ (.inr rfl) (Qa hI hb)
  ·intro L Ac Wc K hI hj hcl hsm dep hK;have t8:Ac.tmps.getD 8 undef= .slice da H dc:=hsm 8 rfl
   show Oper.wp _ _ Ac Wc K _
   go_simp
   exact hK _ _ (.inr rfl) hI
  ·intro L Ac Wc K hI hj hcl hsm dep hK;have t47:Ac.tmps.getD 47 undef= .int .i64 k:=dep 1 rfl;have t48:Ac.tmps.getD 48 undef= .int .u64 i:=dep 2 rfl;have t52:Ac.tmps.getD 52 undef= .string lf:=dep 6 rfl;have t53:Ac.tmps.getD 53 undef= .slice da H dc:=dep 7 rfl
   show Oper.wp _ _ Ac Wc K _
   go_simp
   refine(HRs.out Wc (Qa hb4 hI)).mono ?_
   rintro e w' ⟨rfl,hb⟩;exact hK _ _ (.inr rfl) (Qa hI hb)
  ·intro L Ac Wc K hI hj hcl hsm dep hK;have t54:Ac.tmps.getD 54 undef= .string pk:=dep 8 rfl
   show Oper.wp _ _ Ac Wc K _
   go_simp
   exact hK _ _ (.inr rfl) hI
 case fin=>
  intro L w6 hall hB;have hb6':=Qa hb4 hB;have h6d:=HS4.out.1.next hB;have hRt:=HS4.out.2.1.below hB (Ll W4 _ HS4.out.2.1.c0);have hwy:w6.heap[y]? = some (.cells #[.slice a0 H n0,.slice a1 A.length n1,.slice a2 B.length n2] 161 (0,0)):=(hB.block y (Array.getElem?_eq_some_iff.1 HS4.out.2.2.1).1).trans HS4.out.2.2.1
  have u1:w6.cell? ⟨y,1,none⟩=some (.slice a1 A.length n1):=by rw[cell_of_row w6 _ 1 _ _ (0,0) hwy];rfl
  have HS6:Hid (Six w6 w.heap.size (.int .i64 1) (.int .i64 k) (.int .u64 0) (.int .u64 size) (.slice (some ⟨b,o,none⟩) 1 sc) (.slice da D.length dc)∧Rt w6 (w.heap.size+1) 0 ⟨#[]⟩∧Below w.heap.size w w6):=⟨h6d,hRt,hb6'⟩;clear HS4 hb4 hb6' hB h6d hRt hwy k0 k1 k2 k3 k4 k5 hall;simp only[UM]
  go_simp
  go_upto_region 12 with (fail)
  obtain⟨ay,hay⟩:∃ay,(if dc-H=A.length then ax else Option.map (fun x=>x.add A.length) ax)=ay:=⟨_,rfl⟩
  have hEl:=HE.out.1;have hDl:D.length-H=A.length+B.length:=by rw[<-hEl,LD]
  have hAz:(A.length:Int)<=((dc-H:Nat):Int):=by have:=HX.out.2.2.1;omega
  have hAz2:(A.length:Int)<=((D.length-H:Nat):Int):=by omega
  have hc3:((dc-H:Nat):Int)<=9223372036854775807:=by have:=HX.out.2.2.2.2.2.2.2.2;omega
  have hcl:A.length+B.length<=dc-H:=by have:=HX.out.2.2.1;omega
  obtain⟨E,hE⟩:∃E,D.drop H=E:=⟨_,rfl⟩;obtain⟨cx,hcx⟩:∃cx,dc-H=cx:=⟨_,rfl⟩;rw[hE] at HA hEl;rw[hcx] at HA hay hAz hc3 hcl ⊢;rw[hDl] at hAz2 ⊢;have zpk:pk.size=clk k:=by rw[<-HE.out.2.2.2.1];exact Qg6 (Qn k) _ _ _ HE.out.2.2.2.2.2
  have hck:=Qn k;have HC:=Qht w6 ax ay db (dO+H) A.length B.length cx (cx-A.length) E pk (by omega) (HA.out w6 HS6.out.2.2).1 (fun e=>(HA.out w6 HS6.out.2.2).2 e) hEl (by have:=HX.out.2.2.2.2.2.2.2.1;omega) (by omega) rfl hay
  obtain⟨P,hP⟩:∃P,E.take A.length++pk::E.drop A.length=P:=⟨_,rfl⟩;obtain⟨pn,hpn⟩:∃pn,A.length+1+B.length=pn:=⟨_,rfl⟩;rw[hP,hpn] at HC;have hPk:pkP (clk k) i A.length H D x=P:=by
   rw[<-hP,pkP,hE,HE.out.2.2.1,HE.out.2.2.2.1]
  have hPs:∀s∈P,s.size<=140737488351232:=fun s hs=>by
   rw[<-hP] at hs
   rcases List.mem_append.1 hs with hs|hs
   ·have:=HE.out.2.1 s (Nm (by rw[hE];exact Nn hs));omega
   ·rcases List.mem_cons.1 hs with rfl|hs
    ·omega
    ·have:=HE.out.2.1 s (Nm (by rw[hE];exact Nm hs));omega
  have hpn8:pn<=8796093022208:=by have:=HX.out.2.2.2.2.2.2.2.1;omega
  have hrq:dg (clk k) (QO size (Qx (clk k) P))=r:=by rw[<-hPk];exact HQ.out
  have HRo:Hid (∀W,Below w.heap.size w W -> ∀ao' b' cap',RdS W ao' b' 0 pn P->Calls prog 46 #[.int .i64 k,.int .u64 size,.slice ao' pn cap'] W fun e w'=>e= .returned (.string r)∧Below W.heap.size W w'):=fun W hb ao' b' cap' hr'=>OV W (HT.out W hb) k size ao' b' 0 pn cap' P hr' hPs hpn8 r hrq
  have hb6:=HS6.out.2.2;have hbp:=bal (bal (Lc w6.heap.size w6) (.cells #[.string pk] 9)) (.cells #[.slice ax A.length cx,.slice (Zp w6.heap.size) 1 1,.slice ay B.length (cx-A.length)] 22);have hAz3:(A.length:Int)<=(A.length:Int)+(B.length:Int):=by omega
  have hAz4:A.length<=A.length+B.length:=by omega
  clear hDl hP hpn hPk hPs hpn8 hrq hE hcx hEl zpk hck
  go_region_with (go_at_call 88;with_reducible refine HC.mono ?_;rintro e w8 ⟨ao8,b8,c8,rfl,r8,hb8⟩)
  have h68:=HS6.out.1.next hb8;obtain⟨t0,t1,t2,t3,t4,t5⟩:=h68.cells;have hb68:=Qa hb6 hb8;have hR8:=HS6.out.2.1.below hb8 (Ll w6 _ HS6.out.2.1.c0);have HR8:=Qc hR8;have H68:=Qc h68;clear hR8 h68 HC hbp hb6 hAz hAz2 hc3 hcl
  go_upto_region 13 with (fail)
  refine Jk (by kernel_rfl) [68,69,70,71,72,73,74,75,76,1009,5] [9] [.pointer (some ⟨w.heap.size,3,none⟩),.int .u64 size,.pointer (some ⟨w.heap.size,1,none⟩),.int .i64 k,.pointer (some ⟨w.heap.size,3,none⟩),.int .u64 size,.slice ao8 pn c8,.string r,.agg #[.int .u64 size,.string r],undef,.int .i64 0] (by kernel_rfl) rfl (fun j hj=>by simp at hj;subst hj;rfl) (fun L W=>(L 9=false->Below w8.heap.size w8 W)∧(L 9=true->W.cell? ⟨w.heap.size+1,0,none⟩=some (.int .u64 size)∧W.cell? ⟨w.heap.size+1,1,none⟩=some (.string r)∧Below w.heap.size w W)) (fun W _ hb=>⟨fun _=>hb,fun h=>by cases h⟩) ?step ?fin
  case step=>
   refine⟨?_,?_,?_,?_,?_,?_,?_,?_,?_,?_,?_,trivial⟩
   ·intro L Ac Wc K hI hj hcl hsm dep hK;have t2:Ac.tmps.getD 2 undef=Zv w.heap.size:=hsm 2 rfl
    show Oper.wp _ _ Ac Wc K _
    go_simp
    exact hK _ _ (.inr rfl) hI
   ·intro L Ac Wc K hI hj hcl hsm dep hK;have t68:Ac.tmps.getD 68 undef= .pointer (some ⟨w.heap.size,3,none⟩):=dep 0 rfl
    show Oper.wp _ _ Ac Wc K _
    have hL:L 9=false:=by
     cases h:L 9 with
     | false=>rfl
     | true=>rw[hcl 8 1 (hcl 9 8 h rfl) rfl] at hj;cases hj
    obtain⟨g0,g1,g2,g3,g4,g5⟩:=(H68.out.next (hI.1 hL)).cells
    go_simp
    exact hK _ _ (.inr rfl) hI
   ·intro L Ac Wc K hI hj hcl hsm dep hK;have t2:Ac.tmps.getD 2 undef=Zv w.heap.size:=hsm 2 rfl
    show Oper.wp _ _ Ac Wc K _
    go_simp
    exact hK _ _ (.inr rfl) hI
   ·intro L Ac Wc K hI hj hcl hsm dep hK;have t70:Ac.tmps.getD 70 undef= .pointer (some ⟨w.heap.size,1,none⟩):=dep 2 rfl
    show Oper.wp _ _ Ac Wc K _
    have hL:L 9=false:=by
     cases h:L 9 with
     | false=>rfl
     | true=>rw[hcl 7 3 (hcl 8 7 (hcl 9 8 h rfl) rfl) rfl] at hj;cases hj
    obtain⟨g0,g1,g2,g3,g4,g5⟩:=(H68.out.next (hI.1 hL)).cells
    go_simp
    exact hK _ _ (.inr rfl) hI
   ·intro L Ac Wc K hI hj hcl hsm dep hK;have t2:Ac.tmps.getD 2 undef=Zv w.heap.size:=hsm 2 rfl
    show Oper.wp _ _ Ac Wc K _
    go_simp
    exact hK _ _ (.inr rfl) hI
   ·intro L Ac Wc K hI hj hcl hsm dep hK;have t72:Ac.tmps.getD 72 undef= .pointer (some ⟨w.heap.size,3,none⟩):=dep 4 rfl
    show Oper.wp _ _ Ac Wc K _
    have hL:L 9=false:=by
     cases h:L 9 with
     | false=>rfl
     | true=>rw[hcl 7 5 (hcl 8 7 (hcl 9 8 h rfl) rfl) rfl] at hj;cases hj
    obtain⟨g0,g1,g2,g3,g4,g5⟩:=(H68.out.next (hI.1 hL)).cells
    go_simp
    exact hK _ _ (.inr rfl) hI
   ·intro L Ac Wc K hI hj hcl hsm dep hK;have t12:Ac.tmps.getD 12 undef= .slice ao8 pn c8:=hsm 12 rfl
    show Oper.wp _ _ Ac Wc K _
    go_simp
    exact hK _ _ (.inr rfl) hI
   ·intro L Ac Wc K hI hj hcl hsm dep hK;have t71:Ac.tmps.getD 71 undef= .int .i64 k:=dep 3 rfl;have t73:Ac.tmps.getD 73 undef= .int .u64 size:=dep 5 rfl;have t74:Ac.tmps.getD 74 undef= .slice ao8 pn c8:=dep 6 rfl
    show Oper.wp _ _ Ac Wc K _
    have hL:L 9=false:=by
     cases h:L 9 with
     | false=>rfl
     | true=>rw[hcl 8 7 (hcl 9 8 h rfl) rfl] at hj;cases hj
    go_simp
    refine(HRo.out Wc (Qa hb68 (hI.1 hL)) _ _ _ (r8.next (hI.1 hL) (Lb _))).mono ?_
    rintro e w' ⟨rfl,hb⟩;exact hK _ _ (.inr rfl) ⟨fun _=>Qa (hI.1 hL) hb,fun h=>by have h':L 9=true:=h;rw[hL] at h';cases h'⟩
   ·intro L Ac Wc K hI hj hcl hsm dep hK;have t69:Ac.tmps.getD 69 undef= .int .u64 size:=dep 1 rfl;have u69:Ac.tmps[69]?.getD undef= .int .u64 size:=by rw[<-Is];exact t69
    have t75:Ac.tmps.getD 75 undef= .string r:=dep 7 rfl;have u75:Ac.tmps[75]?.getD undef= .string r:=by rw[<-Is];exact t75
    show Oper.wp _ _ Ac Wc K _
    go_simp
    exact hK _ _ (.inr rfl) hI
   ·intro L Ac Wc K hI hj hcl hsm dep hK;have t4:Ac.tmps.getD 4 undef= .pointer (some ⟨w.heap.size+1,0,none⟩):=hsm 4 rfl;have t76:Ac.tmps.getD 76 undef= .agg #[.int .u64 size,.string r]:=dep 8 rfl
    show Oper.wp _ _ Ac Wc K _
    have hR9:=HR8.out.below (hI.1 hj) (Ll w8 _ HR8.out.c0);have z0:=hR9.c0;have z1:=hR9.c1;have y0:=hR9.f0;have y1:=hR9.f1;obtain⟨s0,s1,hch⟩:=Uu hR9 (size:Int) r
    go_simp
    exact hK undef _ (.inl rfl) ⟨(fun h=>by cases h),fun _=>⟨s0,s1,(Qa hb68 (hI.1 hj)).trans (hch.below (by rintro b rfl;omega))⟩⟩
   ·intro L Ac Wc K hI hj hcl hsm dep hK
    show Oper.wp _ _ Ac Wc K _
    go_simp
    exact hK _ _ (.inr rfl) hI
  case fin=>
   intro L wF hall hI;obtain⟨s0,s1,hbF⟩:=hI.2 (hall 9 (by decide))
   clear hI hall;simp only[UM]
   go_simp
   go_wp2;refine LA (v := .tuple #[.agg #[.int .u64 size,.string r],.int .i64 0]) (by simp[results,results49,go_sem,s0,s1]) rfl ⟨rfl,hbF⟩
end
theorem QcR(l:List (Nat×BA)):(vls l).getD 0 ByteArray.empty=(l.getD 0 noC).2:=by
 cases l with
 | nil=>rfl
 | cons c l=>rfl
structure Acc(k:Int)(o1:Nat)(c1:BA)(l:List (Nat×BA))(s:BA)(P:PV):Prop where
 k1:1<=k
 k2:k<=32
 hd:dec s.data.toList=some P
 hk:P.k=k
 old:P.old=0
 size:P.size=o1
 hS:P.S=ixs l
 n40:o1<=2^40
 hv:∀x∈vls l,x.size<=1048576
 how:(P.kd=1 ∧ ∃i A H B,P.S=[i]∧Wy o1 i A H B∧i<o1∧fil k (H+A.length+B.length) P.D∧rtP (clk k) o1 i A.length H P.D ((vls l).getD 0 ByteArray.empty)=c1) ∨
  (P.kd=2∧okB 2 k 0 o1 P.S P.D∧dg (clk k) (QO o1 (Qx (clk k) (pB (clk k) (Cv.dnL 41 0 o1) P.S (vls l) P.D)))=c1)
theorem Qcg{n:Nat}{d:BA}{er:Int}{o1:Nat}{c1:BA}(h:clmD n d er o1 c1=0):er=0∧n=o1∧d=c1:=by
 unfold clmD at h
 split at h
 ·assumption
 ·cases h
theorem Qkl(kd k:Int)(old size:Nat)(S:List Nat)(D:LB)(hD:D.length<=9223372036854775807)(x:BA):∃(n:Nat) (r:BA) (er:Int),
  (∀W sa sb so sc da db dO dc,Tb W->RdU W sa sb so S.length S->RdS W da db dO D.length D->D.length<=dc->dc<=9223372036854775807->(da=none->dc=0)->Calls prog 49 #[.agg #[.int .i64 kd,.int .i64 k,.int .u64 old,.int .u64 size,.slice sa S.length sc,.slice da D.length dc],.string x] W fun e w'=>e= .returned (.tuple #[.agg #[.int .u64 n,.string r],.int .i64 er])∧Below W.heap.size W w') ∧
  (er=0->n=size∧old=0∧size<=2^40∧x.size<=1048576 ∧ ∃i A H B,S=[i]∧Wy size i A H B∧i<size∧fil k (H+A.length+B.length) D∧rtP (clk k) size i A.length H D x=r):=by
 by_cases hp:kd=1∧(1<=k∧k<=32)∧size<=2^40∧old=0∧S.length=1∧S.getD 0 0<size
 ·obtain⟨rfl,hk,hn,rfl,hS,hi⟩:=hp;obtain⟨i,hi'⟩:∃i,S.getD 0 0=i:=⟨_,rfl⟩;rw[hi'] at hi;obtain⟨A,H,B,wy⟩:=QnT size i hn hi;have hSi:S=[i]:=by
   match S,hS,hi' with
   | [a],_,h=>rw[show a=i from h]
  have ra:∀ {W sa sb so},RdU W sa sb so S.length S->sa=some ⟨sb,so,none⟩∧RA W k size sb so i H A B:=fun {W sa sb so} u=>by
   refine⟨u.ptr (by omega),hk,hn,hi,wy,?_⟩
   have:=u.at (j:=0) (by omega)
   rw[hi'] at this;exact this
  by_cases hf:fil k (H+A.length+B.length) D
  ·by_cases hx:1048576<x.size
   ·refine⟨0,⟨#[]⟩,100,fun W sa sb so sc da db dO dc tb u d h1 h2 h3=> ?_,fun h=>absurd h (by decide)⟩
    obtain⟨rfl,a⟩:=ra u;rw[hS];exact QfW W k size sb so sc i H A B a da db dO dc D d hD x hf hx
   ·obtain⟨r,hr⟩:∃r,rtP (clk k) size i A.length H D x=r:=⟨_,rfl⟩;refine⟨size,r,0,fun W sa sb so sc da db dO dc tb u d h1 h2 h3=> ?_,fun _=>⟨rfl,rfl,hn,by omega,i,A,H,B,hSi,wy,hi,hf,hr⟩⟩
    obtain⟨rfl,a⟩:=ra u;rw[hS];exact Qh9 W k size sb so sc i H A B a da db dO dc D d hD x hf (by omega) tb h1 h2 h3 r hr
  ·refine⟨0,⟨#[]⟩,150,fun W sa sb so sc da db dO dc tb u d h1 h2 h3=> ?_,fun h=>absurd h (by decide)⟩
   obtain⟨rfl,a⟩:=ra u;rw[hS];exact QfU W k size sb so sc i H A B a da db dO dc D d hD x hf
 ·have hc:∀ {W sa sb so},RdU W sa sb so S.length S->S.length=1 -> ∃b o,sa=some ⟨b,o,none⟩∧W.cell? ⟨b,o,none⟩=some (.int .u64 ((S.getD 0 0:Nat):Int)):=fun {W sa sb so} u h=>⟨sb,so,u.ptr (by omega),u.at (j:=0) (by omega)⟩
  exact⟨0,⟨#[]⟩,150,fun W sa sb so sc da db dO dc tb u d h1 h2 h3=>QfV W kd k old size sa S.length sc da D.length dc (S.getD 0 0) (hc u) hp x,fun h=>absurd h (by decide)⟩
theorem Qhm(kd k:Int)(old size:Nat)(S:List Nat)(hS:S.length<=8796093022208)(D X:LB)(hD:D.length<=8796093022208):∃(n:Nat) (rr:BA) (er:Int),
  (∀W sa sb so sc da db dO dc xa xb xo xc,Tb W->RdU W sa sb so S.length S->S.length<=sc->(sa=none->sc=0)->RdS W da db dO D.length D->D.length<=dc->(da=none->dc=0)->RdS W xa xb xo X.length X->X.length<=xc->(xa=none->xc=0)->Calls prog 50 #[vP kd k old size (.slice sa S.length sc) (.slice da D.length dc),.slice xa X.length xc] W fun e w'=>e= .returned (.tuple #[.agg #[.int .u64 n,.string rr],.int .i64 er])∧Below W.heap.size W w') ∧
  (er=0->n=size∧old=0∧(∀s∈X,s.size<=1048576)∧okB 2 k 0 size S D∧dg (clk k) (QO size (Qx (clk k) (pB (clk k) (Cv.dnL 41 0 size) S X D)))=rr):=by
 by_cases h1:okB kd k old size S D∧X.length=S.length
 ·obtain⟨hok,hXS⟩:=h1;obtain rfl:kd=2:=hok.1.1;obtain rfl:old=0:=hok.1.2.2
  by_cases h2:∀s∈X,s.size<=1048576
  ·refine⟨size,dg (clk k) (QO size (Qx (clk k) (pB (clk k) (Cv.dnL 41 0 size) S X D))),0,fun W sa sb so sc da db dO dc xa xb xo xc hT hU u1 u2 hR r1 r2 hx x1 x2=> ?_,fun _=>⟨rfl,rfl,h2,hok,rfl⟩⟩
   have:=broot_ok W hT k size sa sb so sc S X (by rw[hXS];exact hU) (by omega) (by omega) u2 da db dO dc D hR hD r1 r2 xa xb xo xc hx x1 x2 hok h2 _ rfl
   rw[hXS] at this;rw[hXS];exact this
  ·refine⟨0,⟨#[]⟩,100,fun W sa sb so sc da db dO dc xa xb xo xc hT hU u1 u2 hR r1 r2 hx x1 x2=> ?_,fun h=>absurd h (by decide)⟩
   have:=Qfk W k size sa sb so sc S X (by rw[hXS];exact hU) (by omega) da db dO dc D hR hD xa xb xo xc hx hok h2
   rw[hXS] at this;rw[hXS];exact this
 ·exact⟨0,⟨#[]⟩,150,fun W sa sb so sc da db dO dc xa xb xo xc hT hU u1 u2 hR r1 r2 hx x1 x2=>QiN W kd k old size sa sb so S.length sc S hU (by omega) da db dO D.length dc D hR hD xa X.length xc h1,fun h=>absurd h (by decide)⟩
theorem QmC:∀ {l:List (Nat×BA)},l.length=1->(l.getD 0 noC).2.size<=1048576 -> ∀x∈vls l,x.size<=1048576
 | [c],_,n4,x,hx=>by
  simp only[List.map_cons,List.map_nil,List.mem_singleton] at hx;subst hx;exact n4
theorem Qa7(k:Int)(o1:Nat)(c1:BA)(l:List (Nat×BA))(hl:l.length<=8796093021952)(hv:∀x∈vls l,x.size<=9223372036854775807)(s:BA)(hs2:s.size<=281474976710656):∃r:Int,
  (∀W ca cb co cc,Tb W->RdK W ca cb co l.length l->Calls prog 7 #[.int .i64 k,.agg #[.int .u64 o1,.string c1],.slice ca l.length cc,.string s] W fun e w'=>e= .returned (.int .i64 r)∧Below W.heap.size W w') ∧
  (r=0 -> ∃P,Acc k o1 c1 l s P):=by
 by_cases h0:tkE k s=0
 ·obtain⟨⟨k1,k2⟩,P,hd,hk⟩:=QkV h0;have hco:=Yy (Qc1 hd).1.1;have hD:P.D.length<=8796093022208:=by have:=hco.hc;omega
  by_cases hS:P.S=ixs l
  ·have hSl:P.S.length=l.length:=by rw[hS,LI]
   have hVl:(vls l).length=l.length:=LI ..
   by_cases h1:P.kd=1
   ·have hl0:0<l.length:=by have:=(hco.one h1).1;omega
    have hl1:l.length=1:=by have:=(hco.one h1).1;omega
    obtain⟨n,d,er,g1,g2⟩:=Qkl 1 k P.old P.size P.S P.D (by omega) (l.getD 0 noC).2
    refine⟨clmD n d er o1 c1,fun W ca cb co cc hT hc=> ?_,fun h=> ?_⟩
    ·refine Qa8 W k k1 k2 o1 c1 ca cb co l.length cc l hc (by omega) s hs2 P hd hk ⟨.inl h1,hS⟩ n d er (fun V sa sb sc da db dc ao m c hb hF ho=> ?_) _ rfl
     obtain⟨ao',xb,c',hv',hx,hxc,hxn⟩:=QJ ho hv;injection hv' with e1 e2 e3
     subst e1 e2 e3;rw[h1];refine QfI V k P.old P.size sa P.S.length sc da P.D.length dc ao xb 0 (vls l).length c (vls l) hx (by omega) n d er fun Z hbZ=> ?_
     have hF2:=hF.next hbZ;rw[QcR];exact g1 Z sa sb 0 sc da db 0 dc (hT.next (Qa hb hbZ)) hF2.p.rs hF2.p.rd hF2.p.cD hF2.mC hF2.nD
    ·obtain⟨e0,e1,e2⟩:=Qcg h;obtain⟨n1,n2,n3,n4,i,A,H,B,n5,n6,n7,n8,n9⟩:=g2 e0;have hn:P.size=o1:=by rw[<-n1,e1]
     rw[hn] at n3 n6 n7 n9;refine⟨P,k1,k2,hd,hk,n2,hn,hS,n3,QmC hl1 n4,.inl ⟨h1,i,A,H,B,n5,n6,n7,n8,?_⟩⟩
     rw[QcR,n9,e2]
   ·by_cases h2:P.kd=2
    ·obtain⟨n,d,er,g1,g2⟩:=Qhm 2 k P.old P.size P.S (by omega) P.D (vls l) hD
     refine⟨clmD n d er o1 c1,fun W ca cb co cc hT hc=> ?_,fun h=> ?_⟩
     ·refine Qa8 W k k1 k2 o1 c1 ca cb co l.length cc l hc (by omega) s hs2 P hd hk ⟨.inr h2,hS⟩ n d er (fun V sa sb sc da db dc ao m c hb hF ho=> ?_) _ rfl
      obtain⟨ao',xb,c',hv',hx,hxc,hxn⟩:=QJ ho hv;injection hv' with e1 e2 e3
      subst e1 e2 e3;refine Qev V P.kd k h1 P.old P.size sa P.S.length sc da P.D.length dc ao (vls l).length c n d er fun Z hbZ=> ?_
      have hF2:=hF.next hbZ;rw[h2];exact g1 Z sa sb 0 sc da db 0 dc ao xb 0 c (hT.next (Qa hb hbZ)) hF2.p.rs hF2.cS hF2.nS hF2.p.rd hF2.p.cD hF2.nD (hx.next hbZ (Lb _)) hxc hxn
     ·obtain⟨e0,e1,e2⟩:=Qcg h;obtain⟨n1,n2,n3,n4,n5⟩:=g2 e0;have hn:P.size=o1:=by rw[<-n1,e1]
      rw[hn] at n4 n5;exact⟨P,k1,k2,hd,hk,n2,hn,hS,(Cv.Yt n4.2.1).1,n3,.inr ⟨h2,n4,by rw[n5,e2]⟩⟩
    ·exact⟨150,fun W ca cb co cc hT hc=>Qa9 W k k1 k2 o1 c1 ca cb co l.length cc l hc s hs2 P hd hk (fun h=>h.1.elim h1 h2),fun h=>absurd h (by decide)⟩
  ·exact⟨150,fun W ca cb co cc hT hc=>Qa9 W k k1 k2 o1 c1 ca cb co l.length cc l hc s hs2 P hd hk (fun h=>hS h.2),fun h=>absurd h (by decide)⟩
 ·exact⟨tkE k s,fun W ca cb co cc hT hc=>Qhx W k o1 c1 ca l.length cc s hs2 _ rfl h0,fun h=>absurd h h0⟩
section
open Pl (pw QE QA Yw)
open Cv (Row All Til But)
theorem QfD{h k i:Nat} : i/2^h=k↔k*pw h<=i∧i<(k+1)*pw h:=by
 unfold pw;rw[WA (LM h)];have:=LM h;rw[L4,Na];omega
theorem QaY{i h g:Nat}(hg:h<=g):i/2^g=i/2^h/2^(g-h):=by
 rw[LY,<-If,show h+(g-h)=g by omega]
theorem Qg5{q:Nat} : ∀ {L:List (Nat×Nat)} {p:Nat},Row q p L -> ∀b∈L,∀b'∈L,∀i,i/2^b.1=b.2->i/2^b'.1=b'.2->b=b'
 | [],_,_,b,hb,_,_,_,_,_=>by cases hb
 | m::L,p,h,b,hb,b',hb',i,e,e'=>by
  have hf:=OX h.2.2.2;have x:=QfD.1 e;have x':=QfD.1 e'
  rcases List.mem_cons.1 hb with h1|h1
  ·rcases List.mem_cons.1 hb' with h2|h2
   ·rw[h1,h2]
   ·have:=hf b' h2;rw[h1] at x;omega
  ·rcases List.mem_cons.1 hb' with h2|h2
   ·have:=hf b h1;rw[h2] at x';omega
   ·exact Qg5 h.2.2.2 b h1 b' h2 i e e'
theorem QcH{q:Nat} : ∀ {L:List (Nat×Nat)} {p:Nat},Row q p L->L.Nodup
 | [],_,_=>List.nodup_nil
 | m::L,p,h=>List.nodup_cons.2 ⟨fun hm=>by have:=OX h.2.2.2 m hm;have:=Cv.Yx m.1 m.2;omega,QcH h.2.2.2⟩
theorem Qoj(n:Nat)(hn:n<=2^40):Row n 0 (Cv.dnL 41 0 n):=by rw[<-Cv.Yh n hn];exact Cv.QaH 0 n (Lm _) hn
theorem Qd2{Bs:List (Nat×Nat)}{D:LB}(h:D.length=Bs.length){j:Nat}(hj:j<Bs.length):(Bs.getD j (0,0),D.getD j ByteArray.empty)∈Bs.zip D:=Nk (Qd1 h hj)
theorem OK{Bs:List (Nat×Nat)}{D:LB}(h:D.length=Bs.length){e:He}(he:e∈Bs.zip D):∃j,j<Bs.length∧e=(Bs.getD j (0,0),D.getD j ByteArray.empty):=by
 obtain⟨j,hj,hv⟩:=L8 he;rw[Qa0 h] at hj;refine⟨j,hj,?_⟩
 have:=Qd1 h hj;rw[Ld (by rw[Qa0 h];exact hj),hv] at this
 exact NN this
theorem QeD{L:List (Nat×Nat)}(hn:L.Nodup){i j:Nat}(hi:i<L.length)(hj:j<L.length)(h:L[i]=L[j]):i=j:=by
 have hw:=List.pairwise_iff_getElem.1 hn
 rcases Ie i j with h1|h1|h1
 ·exact absurd h (hw i j hi hj h1)
 ·exact h1
 ·exact absurd h.symm (hw j i hj hi h1)
theorem Qoz{Bs:List (Nat×Nat)}(hn:Bs.Nodup){j:Nat}(hj:j<Bs.length):ixM Bs (Bs.getD j (0,0)).1 (Bs.getD j (0,0)).2=some j:=by
 have hm:Bs.getD j (0,0)∈Bs:=QbB hj;have e:((Bs.getD j (0,0)).1,(Bs.getD j (0,0)).2)=Bs.getD j (0,0):=rfl;unfold ixM;rw[e,Lo hm]
 congr 1
 have hlt:=N6 hm;have h1:Bs[Bs.idxOf (Bs.getD j (0,0))]=Bs[j]:=by
  rw[Wb hlt,La,Ld hj];rfl
 exact QeD hn hlt hj h1
theorem Qmb{Bs:List (Nat×Nat)}{D:LB}(h:D.length=Bs.length){x k j:Nat}(e:ixM Bs x k=some j):((x,k),D.getD j ByteArray.empty)∈Bs.zip D:=by
 have:=Qd2 h (QjE e)
 rwa [Qoy e] at this
def vlC(l:List (Nat×BA))(i:Nat):BA:=(l.getD ((ixs l).idxOf i) noC).2
theorem Qk9{l:List (Nat×BA)}{i:Nat}(h:i∈ixs l):(ixs l).idxOf i<l.length∧l.getD ((ixs l).idxOf i) noC=(i,vlC l i):=by
 have hlt:=N6 h;have hlt2:(ixs l).idxOf i<l.length:=by rwa [LI] at hlt
 refine⟨hlt2,Prod.ext ?_ rfl⟩
 have:=Wb hlt;rw[Wn] at this;rw[La,Ld hlt2];exact this
theorem Qla{l:List (Nat×BA)}(hp:Asc (ixs l)){j:Nat}(hj:j<l.length):vlC l (l.getD j noC).1=(l.getD j noC).2:=by
 have hm:(l.getD j noC).1∈ixs l:=List.mem_map.2 ⟨_,by rw[La,Ld hj];exact LN _,rfl⟩
 obtain⟨h1,h2⟩:=Qk9 hm;have e:(ixs l).idxOf (l.getD j noC).1=j:=by
  refine Qa1 hp (by rw[LI];exact h1) (by rw[LI];exact hj) ?_
  rw[Qbw,Qbw,h2]
 rw[vlC,e]
structure Tre(c n:Nat)(Bs:List (Nat×Nat))(D:LB)(V:Nat->BA)(Q:Nat->Prop)(K:List He)(R:LB):Prop where
 nodup:Bs.Nodup
 fit:∀b∈Bs,b.1<=40∧b.2<2^40
 len:D.length=Bs.length
 dsz:∀d∈D,d.size=c
 fn:Fn K
 tl:∀b∈Cv.dnL 41 0 n,Tl c K b.1 b.2 (xd c (ixM Bs) D V b.1 b.2)
 vis:∀b∈Cv.dnL 41 0 n,Vis (ixM Bs) Q b.1 b.2
 pk:(Cv.dnL 41 0 n).map (fun b=>xd c (ixM Bs) D V b.1 b.2)=R
theorem Tre.lt{c n:Nat}{Bs:List (Nat×Nat)}{D:LB}{V:Nat->BA}{Q:Nat->Prop}{K:List He}{R:LB}(t:Tre c n Bs D V Q K R):∀h k j,ixM Bs h k=some j->j<D.length:=fun h k j e=>by rw[t.len];exact QjE e
theorem Qk5{c n:Nat}{Bs:List (Nat×Nat)}{D:LB}{V:Nat->BA}{Q:Nat->Prop}{K:List He}{R:LB}(nodup:Bs.Nodup)(fit:∀b∈Bs,b.1<=40∧b.2<2^40)(len:D.length=Bs.length)(dsz:∀d∈D,d.size=c)(fn:Fn K)
  (h1:∀e∈K,e∈Bs.zip D∨(e.1 ∉ Bs∧e.1.1=0∧Q e.1.2∧e.2=dg c (Qw (V e.1.2)))) (h2:∀e∈Bs.zip D,e∈K)
  (hR:R.length=(Cv.dnL 41 0 n).length) (ht:∀j,j<(Cv.dnL 41 0 n).length->Tl c K ((Cv.dnL 41 0 n).getD j (0,0)).1 ((Cv.dnL 41 0 n).getD j (0,0)).2 (R.getD j ByteArray.empty)):Tre c n Bs D V Q K R:=by
 have key:=QpY (c:=c) (M:=ixM Bs) (D:=D) (V:=V) (Q:=Q) (K:=K) (fun e he=>by
  rcases h1 e he with h|⟨h,h'⟩
  ·obtain⟨j,hj,rfl⟩:=OK len h;exact .inl ⟨j,Qoz nodup hj,rfl⟩
  ·exact .inr ⟨OF.2 h,h'⟩) (fun h k j e=>⟨_,h2 _ (Qmb len e)⟩)
 have at':∀b∈Cv.dnL 41 0 n,∃j,j<(Cv.dnL 41 0 n).length∧(Cv.dnL 41 0 n).getD j (0,0)=b:=fun b hb=>by
  obtain⟨j,hj,rfl⟩:=L8 hb;exact⟨j,hj,by rw[La,Ld hj];rfl⟩
 refine⟨nodup,fit,len,dsz,fn,fun b hb=> ?_,fun b hb=> ?_,?_⟩
 ·obtain⟨j,hj,rfl⟩:=at' b hb;have:=ht j hj;rw[(key _ _ _ this).2];exact this
 ·obtain⟨j,hj,rfl⟩:=at' b hb;exact(key _ _ _ (ht j hj)).1
 ·refine List.ext_getElem (by rw[LI,hR]) fun j a b=> ?_
  rw[LI] at a;have:=(key _ _ _ (ht j a)).2;rw[Wn];rw[La,Ld a,La,Ld b] at this;exact this
section
variable {k:Int} {n:Nat} {l:List (Nat×BA)} {D:LB}
theorem Qiq(hok:okB 2 k 0 n (ixs l) D):Tre (clk k) n (Cv.rst 0 n (ixs l)) D (vlC l) (fun i=>i∈ixs l) (knS (clk k) (ixs l) (vls l)++(Cv.rst 0 n (ixs l)).zip D) (pB (clk k) (Cv.dnL 41 0 n) (ixs l) (vls l) D):=by
 obtain⟨⟨_,hk,_⟩,he,hf⟩:=hok;obtain⟨h40,_,_,hc⟩:=Cv.Yt he;have hp:=Y9 hc;have ht:=Cv.Jd n (ixs l) h40 hc;have hck:(clk k:Int)=k:=Ut hk.1 hk.2;have hX:(vls l).length=(ixs l).length:=by rw[LI,LI]
 have hlen:D.length=(Cv.rst 0 n (ixs l)).length:=by rw[hf.1,Cv.rstS,Lo he]
 have hnd:(Cv.rst 0 n (ixs l)).Nodup:=List.pairwise_iff_getElem.2 fun i j hi hj hij=>by
  have:=Jg ht i j hij hj
  rwa [La,Ld hi,La,Ld hj] at this
 refine Qk5 hnd (fun b hb=> ?_) hlen (fun d hd=>by have:=hf.2 d hd;omega) (QpE he hX hlen) (fun e he'=> ?_) (fun e he'=>Id _ he') (QfR ..) (QpF he hX hlen)
 ·have:=(Cv.Qni ht b hb).2;unfold pw at this;have h1:b.2<n:=Qbs this;refine⟨Cv.pw40 (Lt (by have:=LT (pw b.1) (show 1<=b.2+1 by omega);rw[Na] at this;exact this) (Lt this h40)),by omega⟩
 ·rcases List.mem_append.1 he' with h|h
  ·obtain⟨j,hj,hv⟩:=L8 h;rw[QaN _ _ _ hX] at hj;have hat:=QfF (clk k) hX hj;rw[Ld (by rw[QaN _ _ _ hX];exact hj),hv] at hat
   obtain rfl:=NN hat;have hjl:j<l.length:=by rwa [LI] at hj
   have hm:(ixs l).getD j 0∈ixs l:=by rw[La,Ld hj];exact LN _
   refine .inr ⟨fun hb=> ?_,rfl,hm,?_⟩
   ·have h2:=(J1 ht _ hb).2 ((ixs l).getD j 0) (by simp[pw]) (by simp[pw])
    exact h2.2 hm
   ·show dg (clk k) (Qw ((vls l).getD j ByteArray.empty))=dg (clk k) (Qw (vlC l ((ixs l).getD j 0)))
    rw[Qbw,Qla hp hjl]
    congr 2
    rw[La,No,La]
    cases l[j]? <;> rfl
  ·exact .inl h
theorem Qfg(hok:okB 2 k 0 n (ixs l) D){i:Nat}(hi:i∈ixs l)(t:Nat):ixM (Cv.rst 0 n (ixs l)) t (i/2^t)=none:=by
 obtain⟨_,he,_⟩:=hok;obtain⟨h40,_,_,hc⟩:=Cv.Yt he;have ht:=Cv.Jd n (ixs l) h40 hc;refine OF.2 fun hb=> ?_
 have x:=QfD.1 (show i/2^t=i/2^t from rfl)
 exact((J1 ht _ hb).2 i x.1 x.2).2 hi
end
end
end Go.Proofs.YtoblgjledefdbabGreatDoor
