/- Own work. -/
import Derived.Test.YtdocjikpcbmcgaaGreatDoorQn25
set_option maxRecDepth 100000
set_option maxHeartbeats 1000000
namespace Go.Proofs.YtdocjikpcbmcgaaGreatDoor
open Go.RowKit
attribute [local go_sem ↓] Go.wp_at_zero Go.wp_at_succ
open Go.Proofs.Tryz
section
open Cv (RdC zl cU)
theorem QhB(w:World)(ax ay:OA)(db off na nb cx cy:Nat)(E:LB)(pk:BA)(zk:pk.size<=9223372036854775807)(hr:RdS w ax db off E.length E)(hn:ax=none->cx=0)(hl:E.length=na+nb)(hs:E.length<=1000)(hcx:E.length<=cx)(hcy:cx - na=cy)(hay:(if cx=na then ax else Option.map (fun x=>x.add na) ax)=ay) :
  Calls prog 117 #[.slice (some ⟨w.heap.size+1,0,none⟩) 3 3] ((w.alloc (.cells #[.string pk] 9)).alloc (.cells #[.slice ax na cx,.slice (some ⟨w.heap.size,0,none⟩) 1 1,.slice ay nb cy] 22)).drew fun e w' => ∃ao b cap,e = .returned (.slice ao (na+1+nb) cap)∧RdS w' ao b 0 (na+1+nb) (E.take na++pk::E.drop na)∧Zb w w':=by
 subst hcy;obtain⟨o1,xD⟩:=Ze (Obj.cells #[.string pk] 9 (0,0));obtain⟨o2,xE⟩:=Ze (Obj.cells #[.slice ax na cx,.slice (some ⟨w.heap.size,0,none⟩) 1 1,.slice ay nb (cx - na)] 22 (0,0));have xH:=bal (Lb w.heap.size w) o1;have xA:=(bal xH o2).drew;have hx:((w.alloc o1).alloc o2).drew.heap[w.heap.size+1]? = some (.cells #[.slice ax na cx,.slice (some ⟨w.heap.size,0,none⟩) 1 1,.slice ay nb (cx - na)] 22 (0,0)):=by
  have:=Lu (w.alloc o1) o2;rw[LA] at this;rw[xE];exact this
 have xG:=hr.next xA (Ld _);obtain⟨rd,rn⟩:=Uo xG hcx (by omega) hn hay
 have rt:=O4 xG (H:=na) (by omega)
 have r1:RdS ((w.alloc o1).alloc o2).drew (some ⟨w.heap.size,0,none⟩) w.heap.size 0 1 [pk]:=by
  have h0:RdS (w.alloc o1) (some ⟨w.heap.size,0,none⟩) w.heap.size 0 1 [pk]:=by rw[<-xD];exact YO w pk zk
  exact h0.next ((bal (Lb _ _) o2).drew) (Ld _)
 have lt:(E.take na).length=na:=by rw[Lq];omega
 have ld:(E.drop na).length=nb:=by rw[Lv];omega
 have hc:CatS ((w.alloc o1).alloc o2).drew (w.heap.size+1) [.slice ax na cx,.slice (some ⟨w.heap.size,0,none⟩) 1 1,.slice ay nb (cx - na)] [E.take na,[pk],E.drop na]:=by
  refine Qna ?_ ?_ ?_ ?_ (Qd0 r1 (fun e=>by cases e)) ?_
  ·rw[cell_of_row _ _ 0 _ _ (0,0) hx];rfl
  ·rw[cell_of_row _ _ 1 _ _ (0,0) hx];rfl
  ·rw[cell_of_row _ _ 2 _ _ (0,0) hx];rfl
  ·rw[lt] at rt ⊢;exact Qd0 rt hn
  ·rw[ld] at rd ⊢;exact Qd0 rd rn
 have xB:([E.take na,[pk],E.drop na]:List LB).flatten=E.take na++pk::E.drop na:=by simp
 have xC:(E.take na++pk::E.drop na).length=na+1+nb:=by rw[Lg,Lt,lt,ld];omega
 rw[xD,xE];refine(show Calls prog 117 #[.slice (some ⟨w.heap.size+1,0,none⟩) 3 3] ((w.alloc o1).alloc o2).drew _ from Qi2 _ _ 3 _ _ hc (by simp) (by rw[xB,xC];omega) _ xB).mono fun e w' ⟨v,e1,e2,e3⟩ => ?_
 obtain⟨ao,b,cap,rfl,xF,_⟩:=Qt (show Qk w' _ v _ from e2) (fun s hs=>by
  rcases List.mem_append.1 hs with hs|hs
  ·exact hr.sz s (Nf hs)
  ·rcases List.mem_cons.1 hs with rfl|hs
   ·exact zk
   ·exact hr.sz s (LV hs))
 rw[xC] at e1 xF;exact⟨ao,b,cap,e1,xF,Qa xA e3⟩
theorem Qch(w:World)(kd k:Int)(old size:Nat)(sa:OA)(ns sc:Nat)(da:OA)(n2 dc:Nat)(i:Nat)(hx:ns=1 -> ∃b o,sa=some ⟨b,o,none⟩∧w.cell? ⟨b,o,none⟩=some (.int .u64 (i:Int)))
  (hno : ¬(kd=1∧(1<=k∧k<=32)∧size<=2^40∧old=0∧ns=1∧i<size)) (x:BA) :
  Zr 63 #[.agg #[.int .i64 kd,.int .i64 k,.int .u64 (old:Int),.int .u64 (size:Int),.slice sa ns sc,.slice da n2 dc],.string x] w (.tuple #[noR,.int .i64 150]):=by
 have HI:Hr w 112 #[.agg #[.int .i64 kd,.int .i64 k,.int .u64 (old:Int),.int .u64 (size:Int),.slice sa ns sc,.slice da n2 dc]] (.bool false):=fun W hb =>
  UR W kd k old size sa ns sc da n2 dc i (fun h=>by
   obtain⟨b,o,h1,h2⟩:=hx h;exact⟨b,o,h1,(hb.cell (p:=⟨b,o,none⟩) (Lh w _ h2)).trans h2⟩) false (Lj hno)
 clear hx hno
 go_enter func63,ntmps63
 go_upto_region 1 with (fail)
 obtain⟨W0,xA⟩:=Ze ((w.alloc (.cells #[.int .i64 kd,.int .i64 k,.int .u64 (old:Int),.int .u64 (size:Int),.slice sa ns sc,.slice da n2 dc] 55)).alloc (.cells #[.int .u64 0,.string ⟨#[]⟩] 30));rw[xA];obtain⟨hb,h6,xB,hz⟩:=QO xA;obtain⟨c0,c1,c2,c3,c4,c5⟩:=h6.cells;have HR:=Qe (Lo xB hz);clear xA h6 xB hz
 go_wp2_with (go_at_call 112;with_reducible refine(HI.out _ hb).mono ?_;rintro e w1 ⟨rfl,xC⟩;have hR:=HR.out.1.below xC (by rw[HR.out.2];omega);have k0:=hR.c0;have k1:=hR.c1;have f0:=hR.f0;have f1:=hR.f1)
 obtain⟨s0,s1,xD⟩:=Yr hR 0 ⟨#[]⟩;refine Lp (v := .tuple #[noR,.int .i64 150]) (by simp[results,results63,go_sem,s0,s1]) rfl ⟨rfl,?_⟩
 exact(Qa hb xC).trans (xD.below (by rintro b rfl;omega))
structure RA(w:World)(k:Int)(size:Nat)(b o:Nat)(i H:Nat)(A B:List (Nat×Nat)):Prop where
 k1:1<=k∧k<=32
 n:size<=2^40
 il:i<size
 wy:Wy size i A H B
 ci:w.cell? ⟨b,o,none⟩=some (.int .u64 (i:Int))
theorem Qcg(w:World)(k:Int)(size:Nat)(b o sc:Nat)(i H:Nat)(A B:List (Nat×Nat))(ha:RA w k size b o i H A B)(da:OA)(db dO dc:Nat)(D:LB)(hr:RdS w da db dO D.length D)(hm:D.length<=9223372036854775807)(x:BA)(hno : ¬fil k (H+A.length+B.length) D) :
  Zr 63 #[.agg #[.int .i64 1,.int .i64 k,.int .u64 0,.int .u64 (size:Int),.slice (some ⟨b,o,none⟩) 1 sc,.slice da D.length dc],.string x] w (.tuple #[noR,.int .i64 150]):=by
 have HI:Hr w 112 #[.agg #[.int .i64 1,.int .i64 k,.int .u64 0,.int .u64 (size:Int),.slice (some ⟨b,o,none⟩) 1 sc,.slice da D.length dc]] (.bool true):=fun W hb =>
  UR W 1 k 0 size (some ⟨b,o,none⟩) 1 sc da D.length dc i (fun h=>⟨b,o,rfl,(hb.cell (p:=⟨b,o,none⟩) (Lh w _ ha.ci)).trans ha.ci⟩) true (Ln ⟨rfl,ha.k1,ha.n,rfl,rfl,ha.il⟩)
 have xF:Hid (∀W,Zb w W->W.cell? ⟨b,o,none⟩=some (.int .u64 (i:Int))):=fun W hb=>(hb.cell (p:=⟨b,o,none⟩) (Lh w _ ha.ci)).trans ha.ci
 have xH:=ha.wy.len;have hH:=ha.wy.hH;have HW:Hid (∀W,Calls prog 113 #[.int .u64 (size:Int),.int .u64 (i:Int)] W fun e w' => ∃a0 c0 a1 c1 a2 c2,e = .returned (.agg #[.slice a0 H c0,.slice a1 A.length c1,.slice a2 B.length c2])∧Zb W w'):=fun W =>
  (Qes W size i H A B ha.wy ha.n ha.il).mono fun e w' ⟨vb,va,vc,e1,r0,r1,r2,hb⟩=>by
   obtain⟨a0,c0,rfl⟩:=YB r0;obtain⟨a1,c1,rfl⟩:=YB r1;obtain⟨a2,c2,rfl⟩:=YB r2;exact⟨a0,c0,a1,c1,a2,c2,e1,hb⟩
 have HF:Hid (∀W a0 c0 a1 c1 a2 c2,Zb w W->Zr 114 #[.agg #[.slice a0 H c0,.slice a1 A.length c1,.slice a2 B.length c2],.agg #[.int .i64 1,.int .i64 k,.int .u64 0,.int .u64 (size:Int),.slice (some ⟨b,o,none⟩) 1 sc,.slice da D.length dc]] W (.bool false)):=fun W a0 c0 a1 c1 a2 c2 hb =>
  JH W 1 k 0 size (some ⟨b,o,none⟩) 1 sc da db dO dc D (hr.next hb (Ld _)) hm a0 a1 a2 H A.length B.length c0 c1 c2 (by omega) (by omega) (by omega) false (Lj hno)
 clear hno ha hr hm xH hH
 go_enter func63,ntmps63
 go_upto_region 1 with (fail)
 obtain⟨W0,xB⟩:=Ze ((w.alloc (.cells #[.int .i64 1,.int .i64 k,.int .u64 ((0:Nat):Int),.int .u64 (size:Int),.slice (some ⟨b,o,none⟩) 1 sc,.slice da D.length dc] 55)).alloc (.cells #[.int .u64 0,.string ⟨#[]⟩] 30));obtain⟨hb,h6,xD,hz⟩:=QO xB;rw[show((0:Nat):Int)=0 from rfl] at xB h6
 rw[xB];obtain⟨c0,c1,c2,c3,c4,c5⟩:=h6.cells;have HR:=Qe (Lo xD hz);have H6:=Qe h6;clear xB h6 xD hz
 go_wp2_with (first
  | (go_at_call 112;with_reducible refine(HI.out _ hb).mono ?_;rintro e w1 ⟨rfl,xA⟩;obtain⟨d0,d1,d2,d3,d4,d5⟩:=(H6.out.next xA).cells;have ci:=xF.out _ (Qa hb xA))
  | (go_at_call 113;with_reducible refine(HW.out _).mono ?_;rintro e w2 ⟨a0,n0,a1,n1,a2,n2,rfl,xC⟩;obtain⟨g0,g1,g2,g3,g4,g5⟩:=(H6.out.next (bal (Qa xA xC) (.cells #[.slice a0 H n0,.slice a1 A.length n1,.slice a2 B.length n2] 154))).cells)
  | (go_at_call 114;with_reducible refine(HF.out _ _ _ _ _ _ _ (bal (Qa (Qa hb xA) xC) _)).mono ?_;rintro e w3 ⟨rfl,xE⟩;have hR:=HR.out.1.below (Qa (bal (Qa xA xC) _) xE) (by rw[HR.out.2];omega);have k0:=hR.c0;have k1:=hR.c1;have f0:=hR.f0;have f1:=hR.f1))
 obtain⟨s0,s1,xG⟩:=Yr hR 0 ⟨#[]⟩;refine Lp (v := .tuple #[noR,.int .i64 150]) (by simp[results,results63,go_sem,s0,s1]) rfl ⟨rfl,?_⟩
 exact(Qa (bal (Qa (Qa hb xA) xC) _) xE).trans (xG.below (by rintro b rfl;omega))
theorem Qci(w:World)(k:Int)(size:Nat)(b o sc:Nat)(i H:Nat)(A B:List (Nat×Nat))(ha:RA w k size b o i H A B)(da:OA)(db dO dc:Nat)(D:LB)(hr:RdS w da db dO D.length D)(hm:D.length<=9223372036854775807)(x:BA)(hf:fil k (H+A.length+B.length) D)(hxl:1048576<x.size) :
  Zr 63 #[.agg #[.int .i64 1,.int .i64 k,.int .u64 0,.int .u64 (size:Int),.slice (some ⟨b,o,none⟩) 1 sc,.slice da D.length dc],.string x] w (.tuple #[noR,.int .i64 100]):=by
 have HI:Hr w 112 #[.agg #[.int .i64 1,.int .i64 k,.int .u64 0,.int .u64 (size:Int),.slice (some ⟨b,o,none⟩) 1 sc,.slice da D.length dc]] (.bool true):=fun W hb =>
  UR W 1 k 0 size (some ⟨b,o,none⟩) 1 sc da D.length dc i (fun h=>⟨b,o,rfl,(hb.cell (p:=⟨b,o,none⟩) (Lh w _ ha.ci)).trans ha.ci⟩) true (Ln ⟨rfl,ha.k1,ha.n,rfl,rfl,ha.il⟩)
 have xF:Hid (∀W,Zb w W->W.cell? ⟨b,o,none⟩=some (.int .u64 (i:Int))):=fun W hb=>(hb.cell (p:=⟨b,o,none⟩) (Lh w _ ha.ci)).trans ha.ci
 have xH:=ha.wy.len;have hH:=ha.wy.hH;have HW:Hid (∀W,Calls prog 113 #[.int .u64 (size:Int),.int .u64 (i:Int)] W fun e w' => ∃a0 c0 a1 c1 a2 c2,e = .returned (.agg #[.slice a0 H c0,.slice a1 A.length c1,.slice a2 B.length c2])∧Zb W w'):=fun W =>
  (Qes W size i H A B ha.wy ha.n ha.il).mono fun e w' ⟨vb,va,vc,e1,r0,r1,r2,hb⟩=>by
   obtain⟨a0,c0,rfl⟩:=YB r0;obtain⟨a1,c1,rfl⟩:=YB r1;obtain⟨a2,c2,rfl⟩:=YB r2;exact⟨a0,c0,a1,c1,a2,c2,e1,hb⟩
 have HF:Hid (∀W a0 c0 a1 c1 a2 c2,Zb w W->Zr 114 #[.agg #[.slice a0 H c0,.slice a1 A.length c1,.slice a2 B.length c2],.agg #[.int .i64 1,.int .i64 k,.int .u64 0,.int .u64 (size:Int),.slice (some ⟨b,o,none⟩) 1 sc,.slice da D.length dc]] W (.bool true)):=fun W a0 c0 a1 c1 a2 c2 hb =>
  JH W 1 k 0 size (some ⟨b,o,none⟩) 1 sc da db dO dc D (hr.next hb (Ld _)) hm a0 a1 a2 H A.length B.length c0 c1 c2 (by omega) (by omega) (by omega) true (Ln hf)
 have xI:(1048576:Int)<(x.size:Int):=by omega
 clear hf hxl ha hr hm xH hH
 go_enter func63,ntmps63
 go_upto_region 1 with (fail)
 obtain⟨W0,xB⟩:=Ze ((w.alloc (.cells #[.int .i64 1,.int .i64 k,.int .u64 ((0:Nat):Int),.int .u64 (size:Int),.slice (some ⟨b,o,none⟩) 1 sc,.slice da D.length dc] 55)).alloc (.cells #[.int .u64 0,.string ⟨#[]⟩] 30));obtain⟨hb,h6,xD,hz⟩:=QO xB;rw[show((0:Nat):Int)=0 from rfl] at xB h6
 rw[xB];obtain⟨c0,c1,c2,c3,c4,c5⟩:=h6.cells;have HR:=Qe (Lo xD hz);have H6:=Qe h6;clear xB h6 xD hz
 go_wp2_with (first
  | (go_at_call 112;with_reducible refine(HI.out _ hb).mono ?_;rintro e w1 ⟨rfl,xA⟩;obtain⟨d0,d1,d2,d3,d4,d5⟩:=(H6.out.next xA).cells;have ci:=xF.out _ (Qa hb xA))
  | (go_at_call 113;with_reducible refine(HW.out _).mono ?_;rintro e w2 ⟨a0,n0,a1,n1,a2,n2,rfl,xC⟩;obtain⟨g0,g1,g2,g3,g4,g5⟩:=(H6.out.next (bal (Qa xA xC) (.cells #[.slice a0 H n0,.slice a1 A.length n1,.slice a2 B.length n2] 154))).cells)
  | (go_at_call 114;with_reducible refine(HF.out _ _ _ _ _ _ _ (bal (Qa (Qa hb xA) xC) _)).mono ?_;rintro e w3 ⟨rfl,xE⟩;have hR:=HR.out.1.below (Qa (bal (Qa xA xC) _) xE) (by rw[HR.out.2];omega);have k0:=hR.c0;have k1:=hR.c1;have f0:=hR.f0;have f1:=hR.f1))
 obtain⟨s0,s1,xG⟩:=Yr hR 0 ⟨#[]⟩;refine Lp (v := .tuple #[noR,.int .i64 100]) (by simp[results,results63,go_sem,s0,s1]) rfl ⟨rfl,?_⟩
 exact(Qa (bal (Qa (Qa hb xA) xC) _) xE).trans (xG.below (by rintro b rfl;omega))
theorem Qax(w:World)(k:Int)(size:Nat)(b o sc:Nat)(i H:Nat)(A B:List (Nat×Nat))(ha:RA w k size b o i H A B)(da:OA)(db dO dc:Nat)(D:LB)(hr:RdS w da db dO D.length D)(hm:D.length<=9223372036854775807)(x:BA)(hf:fil k (H+A.length+B.length) D)(hxl:x.size<=1048576)(ht:Tb w)(hcd:D.length<=dc)(hc63:dc<=9223372036854775807)(hnd:da=none->dc=0)(r:BA)(hq:rtP (clk k) size i A.length H D x=r) :
  Zr 63 #[.agg #[.int .i64 1,.int .i64 k,.int .u64 0,.int .u64 (size:Int),.slice (some ⟨b,o,none⟩) 1 sc,.slice da D.length dc],.string x] w (.tuple #[.agg #[.int .u64 (size:Int),.string r],.int .i64 0]):=by
 have HI:Hr w 112 #[.agg #[.int .i64 1,.int .i64 k,.int .u64 0,.int .u64 (size:Int),.slice (some ⟨b,o,none⟩) 1 sc,.slice da D.length dc]] (.bool true):=fun W hb =>
  UR W 1 k 0 size (some ⟨b,o,none⟩) 1 sc da D.length dc i (fun h=>⟨b,o,rfl,(hb.cell (p:=⟨b,o,none⟩) (Lh w _ ha.ci)).trans ha.ci⟩) true (Ln ⟨rfl,ha.k1,ha.n,rfl,rfl,ha.il⟩)
 have yC:Hid (∀W,Zb w W->W.cell? ⟨b,o,none⟩=some (.int .u64 (i:Int))):=fun W hb=>(hb.cell (p:=⟨b,o,none⟩) (Lh w _ ha.ci)).trans ha.ci
 have zA:=ha.wy.len;have hH:=ha.wy.hH;have HW:Hid (∀W,Calls prog 113 #[.int .u64 (size:Int),.int .u64 (i:Int)] W fun e w' => ∃a0 c0 a1 c1 a2 c2,e = .returned (.agg #[.slice a0 H c0,.slice a1 A.length c1,.slice a2 B.length c2])∧Zb W w'):=fun W =>
  (Qes W size i H A B ha.wy ha.n ha.il).mono fun e w' ⟨vb,va,vc,e1,r0,r1,r2,hb⟩=>by
   obtain⟨a0,c0,rfl⟩:=YB r0;obtain⟨a1,c1,rfl⟩:=YB r1;obtain⟨a2,c2,rfl⟩:=YB r2;exact⟨a0,c0,a1,c1,a2,c2,e1,hb⟩
 have HF:Hid (∀W a0 c0 a1 c1 a2 c2,Zb w W->Zr 114 #[.agg #[.slice a0 H c0,.slice a1 A.length c1,.slice a2 B.length c2],.agg #[.int .i64 1,.int .i64 k,.int .u64 0,.int .u64 (size:Int),.slice (some ⟨b,o,none⟩) 1 sc,.slice da D.length dc]] W (.bool true)):=fun W a0 c0 a1 c1 a2 c2 hb =>
  JH W 1 k 0 size (some ⟨b,o,none⟩) 1 sc da db dO dc D (hr.next hb (Ld _)) hm a0 a1 a2 H A.length B.length c0 c1 c2 (by omega) (by omega) (by omega) true (Ln hf)
 have HX:Hid (x.size<=1048576∧fil k (H+A.length+B.length) D∧D.length<=dc∧(da=none->dc=0)∧i<2^40∧(1<=k∧k<=32)∧H<=40∧A.length+B.length<=40∧dc<=9223372036854775807):=⟨hxl,hf,hcd,hnd,by have:=ha.n;have:=ha.il;omega,ha.k1,ha.wy.hH,ha.wy.len,hc63⟩
 have HQ:=Qe hq;have HT:Hid (∀W,Zb w W->Tb W):=fun W hb=>ht.next hb
 have HD:Hid (∀W,Zb w W->RdS W da db dO D.length D):=fun W hb=>hr.next hb (Ld _)
 have zH:decide ((1048576:Int)<(x.size:Int))=false:=Lj (by omega)
 have zF : ¬((dc:Int)<(H:Int)):=by have:=hf.1;omega
 have zG:(H:Int)<=(D.length:Int):=by have:=hf.1;omega
 clear hf hxl ht hcd hc63 hnd hq ha hr hm zA hH
 go_enter func63,ntmps63
 go_upto_region 1 with (fail)
 obtain⟨W0,xN⟩:=Ze ((w.alloc (.cells #[.int .i64 1,.int .i64 k,.int .u64 ((0:Nat):Int),.int .u64 (size:Int),.slice (some ⟨b,o,none⟩) 1 sc,.slice da D.length dc] 55)).alloc (.cells #[.int .u64 0,.string ⟨#[]⟩] 30));obtain⟨hb,h6,xH,hz⟩:=QO xN;rw[show((0:Nat):Int)=0 from rfl] at xN h6
 rw[xN];obtain⟨c0,c1,c2,c3,c4,c5⟩:=h6.cells;have HR:=Qe (Lo xH hz);have H6:=Qe h6;clear xN h6 xH hz
 go_upto_region 9 with (first
  | (go_at_call 112;with_reducible refine(HI.out _ hb).mono ?_;rintro e w1 ⟨rfl,xB⟩;obtain⟨d0,d1,d2,d3,d4,d5⟩:=(H6.out.next xB).cells;have ci:=yC.out _ (Qa hb xB))
  | (go_at_call 113;with_reducible refine(HW.out _).mono ?_;rintro e w2 ⟨a0,n0,a1,n1,a2,n2,rfl,xE⟩;obtain⟨g0,g1,g2,g3,g4,g5⟩:=(H6.out.next (bal (Qa xB xE) (.cells #[.slice a0 H n0,.slice a1 A.length n1,.slice a2 B.length n2] 154))).cells)
  | (go_at_call 114;with_reducible refine(HF.out _ _ _ _ _ _ _ (bal (Qa (Qa hb xB) xE) _)).mono ?_;rintro e w3 ⟨rfl,xI⟩;have hR:=HR.out.1.below (Qa (bal (Qa xB xE) _) xI) (by rw[HR.out.2];omega);have k0:=hR.c0;have k1:=hR.c1;have f0:=hR.f0;have f1:=hR.f1))
 have yQ:=Lu w2 (.cells #[.slice a0 H n0,.slice a1 A.length n1,.slice a2 B.length n2] 154);have xS:=(xI.block w2.heap.size (by simp)).trans yQ
 have q0:w3.cell? ⟨w2.heap.size,0,none⟩=some (.slice a0 H n0):=by rw[cell_of_row w3 _ 0 _ _ (0,0) xS];rfl
 have q1:w3.cell? ⟨w2.heap.size,1,none⟩=some (.slice a1 A.length n1):=by rw[cell_of_row w3 _ 1 _ _ (0,0) xS];rfl
 have xV:=H6.out.next (Qa (bal (Qa xB xE) _) xI);have xL:=Qa (bal (Qa (Qa hb xB) xE) (.cells #[.slice a0 H n0,.slice a1 A.length n1,.slice a2 B.length n2] 154)) xI;obtain⟨e0,e1,e2,e3,e4,e5⟩:=xV.cells;have HS:Hid (Six w3 w.heap.size (.int .i64 1) (.int .i64 k) (.int .u64 0) (.int .u64 (size:Int)) (.slice (some ⟨b,o,none⟩) 1 sc) (.slice da D.length dc)∧Rt w3 (w.heap.size+1) 0 ⟨#[]⟩∧w3.heap[w2.heap.size]? = some (.cells #[.slice a0 H n0,.slice a1 A.length n1,.slice a2 B.length n2] 154 (0,0))∧Zb w w3):=⟨xV,hR,xS,xL⟩;generalize w2.heap.size=y at *;clear yQ xS xV xL HR H6 HW HF HI yC hb xB xE xI c0 c1 c2 c3 c4 c5 d0 d1 d2 d3 d4 d5 g0 g1 g2 g3 g4 g5 ci k0 k1 f0 f1 hR
 go_quiet (fail)
 go_upto_region 10 with (fail)
 obtain⟨W4,xX⟩:=Ze (w3.drewN nq);have xA:Hid (Six W4 w.heap.size (.int .i64 1) (.int .i64 k) (.int .u64 0) (.int .u64 (size:Int)) (.slice (some ⟨b,o,none⟩) 1 sc) (.slice da D.length dc)∧Rt W4 (w.heap.size+1) 0 ⟨#[]⟩∧W4.heap[y]? = some (.cells #[.slice a0 H n0,.slice a1 A.length n1,.slice a2 B.length n2] 154 (0,0))∧Zb w W4):=by
  rw[<-xX];exact⟨HS.out.1,⟨HS.out.2.1.c0,HS.out.2.1.c1,HS.out.2.1.f0,HS.out.2.1.f1⟩,HS.out.2.2.1,Qd HS.out.2.2.2 nq⟩
 obtain⟨ax,xO⟩:=Ze (if dc=H then da else Option.map (fun x=>x.add H) da)
 have HA:Hid (∀W,Zb w W->RdS W ax db (dO+H) (D.drop H).length (D.drop H)∧(ax=none->dc - H=0)):=fun W hb=>Uo (HD.out W hb) HX.out.2.2.1 (by omega) HX.out.2.2.2.1 xO
 rw[xX,xO];have xC:(D.drop H).length=A.length+B.length:=by rw[Lv,HX.out.2.1.1];omega
 have xQ:(k:Int)=(clk k:Int):=by have:=HX.out.2.2.2.2.2.1;unfold clk;rw[Le (by omega),Le (by omega)];omega
 have yA : ∀s∈D,s.size=clk k:=fun s hs=>by have:=HX.out.2.1.2 s hs;omega
 obtain⟨lf,xR⟩:=Ze (dg (clk k) (Qh x));obtain⟨pk,xZ⟩:=Ze (rs (clk k) i lf (D.take H));have yB:lf.size=clk k:=by rw[<-xR];exact Q6 (Qp k) _
 have yS:Hr w 116 #[.int .i64 k,.string x] (.string lf):=fun W hb=>Qb1 W (HT.out W hb) k x (by have:=HX.out.1;omega) lf xR
 have yU:Hr w 115 #[.int .i64 k,.int .u64 (i:Int),.string lf,.slice da H dc] (.string pk):=fun W hb=>by
  have:=Qf2 W (HT.out W hb) k i HX.out.2.2.2.2.1 lf yB da db dO dc (D.take H) (O4 (HD.out W hb) (by omega)) (by rw[Lq];have:=HX.out.2.2.2.2.2.2.1;omega) (fun s hs=>yA s (Nf hs)) pk xZ
  rw[Lq,If (by omega)] at this
  exact this
 obtain⟨k0,k1,k2,k3,k4,k5⟩:=xA.out.1.cells;have xP:=xA.out.2.2.2;have HE:=Qe (Lo xC (Lo yA (Lo xR (Lo xZ (Lo xQ yB)))));have zE:=Qe xO;clear xX HS e0 e1 e2 e3 e4 e5 q0 q1 xQ yA xR xZ yB xC xO;refine Yo (by kernel_rfl) [46,47,48,49,50,51,52,53,54,10] [] [.pointer (some ⟨w.heap.size,1,none⟩),.int .i64 k,.int .u64 (i:Int),.pointer (some ⟨w.heap.size,1,none⟩),.int .i64 k,.string x,.string lf,.slice da H dc,.string pk,.string pk] (by kernel_rfl) rfl (fun j hj=>by cases hj) (fun _ W=>Zb W4 W) (fun W _ hb=>hb) ?step ?fin
 case step =>
  refine⟨?_,?_,?_,?_,?_,?_,?_,?_,?_,?_,trivial⟩
  ·intro L Ac Wc K hI hj hcl hsm dep hK;have t2:Ac.tmps.getD 2 undef = .pointer (some ⟨w.heap.size,0,none⟩):=hsm 2 rfl
   show Oper.wp _ _ Ac Wc K _
   go_simp
   exact hK _ _ (.inr rfl) hI
  ·intro L Ac Wc K hI hj hcl hsm dep hK;have zJ:Ac.tmps.getD 46 undef = .pointer (some ⟨w.heap.size,1,none⟩):=dep 0 rfl
   show Oper.wp _ _ Ac Wc K _
   obtain⟨g0,g1,g2,g3,g4,g5⟩:=(xA.out.1.next hI).cells
   go_simp
   exact hK _ _ (.inr rfl) hI
  ·intro L Ac Wc K hI hj hcl hsm dep hK;have t6:Ac.tmps.getD 6 undef = .int .u64 (i:Int):=hsm 6 rfl
   show Oper.wp _ _ Ac Wc K _
   go_simp
   exact hK _ _ (.inr rfl) hI
  ·intro L Ac Wc K hI hj hcl hsm dep hK;have t2:Ac.tmps.getD 2 undef = .pointer (some ⟨w.heap.size,0,none⟩):=hsm 2 rfl
   show Oper.wp _ _ Ac Wc K _
   go_simp
   exact hK _ _ (.inr rfl) hI
  ·intro L Ac Wc K hI hj hcl hsm dep hK;have zM:Ac.tmps.getD 49 undef = .pointer (some ⟨w.heap.size,1,none⟩):=dep 3 rfl
   show Oper.wp _ _ Ac Wc K _
   obtain⟨g0,g1,g2,g3,g4,g5⟩:=(xA.out.1.next hI).cells
   go_simp
   exact hK _ _ (.inr rfl) hI
  ·intro L Ac Wc K hI hj hcl hsm dep hK;have t1:Ac.tmps.getD 1 undef = .string x:=hsm 1 rfl
   show Oper.wp _ _ Ac Wc K _
   go_simp
   exact hK _ _ (.inr rfl) hI
  ·intro L Ac Wc K hI hj hcl hsm dep hK;have zN:Ac.tmps.getD 50 undef = .int .i64 k:=dep 4 rfl;have zO:Ac.tmps.getD 51 undef = .string x:=dep 5 rfl
   show Oper.wp _ _ Ac Wc K _
   go_simp
   refine(yS.out Wc (Qa xP hI)).mono ?_
   rintro e w' ⟨rfl,hb⟩;exact hK _ _ (.inr rfl) (Qa hI hb)
  ·intro L Ac Wc K hI hj hcl hsm dep hK;have t8:Ac.tmps.getD 8 undef = .slice da H dc:=hsm 8 rfl
   show Oper.wp _ _ Ac Wc K _
   go_simp
   exact hK _ _ (.inr rfl) hI
  ·intro L Ac Wc K hI hj hcl hsm dep hK;have zK:Ac.tmps.getD 47 undef = .int .i64 k:=dep 1 rfl;have zL:Ac.tmps.getD 48 undef = .int .u64 (i:Int):=dep 2 rfl;have zP:Ac.tmps.getD 52 undef = .string lf:=dep 6 rfl;have zQ:Ac.tmps.getD 53 undef = .slice da H dc:=dep 7 rfl
   show Oper.wp _ _ Ac Wc K _
   go_simp
   refine(yU.out Wc (Qa xP hI)).mono ?_
   rintro e w' ⟨rfl,hb⟩;exact hK _ _ (.inr rfl) (Qa hI hb)
  ·intro L Ac Wc K hI hj hcl hsm dep hK;have zR:Ac.tmps.getD 54 undef = .string pk:=dep 8 rfl
   show Oper.wp _ _ Ac Wc K _
   go_simp
   exact hK _ _ (.inr rfl) hI
 case fin =>
  intro L w6 hall hB;have xJ:=Qa xP hB;have yE:=xA.out.1.next hB;have xH:=xA.out.2.1.below hB (Lh W4 _ xA.out.2.1.c0);have yR:w6.heap[y]? = some (.cells #[.slice a0 H n0,.slice a1 A.length n1,.slice a2 B.length n2] 154 (0,0)):=(hB.block y (Array.getElem?_eq_some_iff.1 xA.out.2.2.1).1).trans xA.out.2.2.1
  have u1:w6.cell? ⟨y,1,none⟩=some (.slice a1 A.length n1):=by rw[cell_of_row w6 _ 1 _ _ (0,0) yR];rfl
  have xD:Hid (Six w6 w.heap.size (.int .i64 1) (.int .i64 k) (.int .u64 0) (.int .u64 (size:Int)) (.slice (some ⟨b,o,none⟩) 1 sc) (.slice da D.length dc)∧Rt w6 (w.heap.size+1) 0 ⟨#[]⟩∧Zb w w6):=⟨yE,xH,xJ⟩;clear xA xP xJ hB yE xH yR k0 k1 k2 k3 k4 k5 hall;simp only[UI]
  go_simp
  go_upto_region 12 with (fail)
  obtain⟨ay,yK⟩:=Ze (if dc - H=A.length then ax else Option.map (fun x=>x.add A.length) ax)
  have xC:=HE.out.1;have yG:D.length - H=A.length+B.length:=by rw[<-xC,Lv]
  have yF:(A.length:Int)<=((dc - H:Nat):Int):=by have:=HX.out.2.2.1;omega
  have xF:(A.length:Int)<=((D.length - H:Nat):Int):=by omega
  have yM:((dc - H:Nat):Int)<=9223372036854775807:=by have:=HX.out.2.2.2.2.2.2.2.2;omega
  have hcl:A.length+B.length<=dc - H:=by have:=HX.out.2.2.1;omega
  obtain⟨E,hE⟩:=Ze (D.drop H);obtain⟨cx,yN⟩:=Ze (dc - H);rw[hE] at HA xC;rw[yN] at HA yK yF yM hcl ⊢;rw[yG] at xF ⊢;have zD:pk.size=clk k:=by rw[<-HE.out.2.2.2.1];exact Qd9 (Qp k) _ _ _ HE.out.2.2.2.2.2
  have xQ:=Qp k;have HC:=QhB w6 ax ay db (dO+H) A.length B.length cx (cx - A.length) E pk (by omega) (HA.out w6 xD.out.2.2).1 (fun e=>(HA.out w6 xD.out.2.2).2 e) xC (by have:=HX.out.2.2.2.2.2.2.2.1;omega) (by omega) rfl yK
  obtain⟨P,hP⟩:=Ze (E.take A.length++pk::E.drop A.length);obtain⟨pn,yO⟩:=Ze (A.length+1+B.length);rw[hP,yO] at HC;have yH:pkP (clk k) i A.length H D x=P:=by
   rw[<-hP,pkP,hE,HE.out.2.2.1,HE.out.2.2.2.1]
  have yI : ∀s∈P,s.size<=140737488351232:=fun s hs=>by
   rw[<-hP] at hs
   rcases List.mem_append.1 hs with hs|hs
   ·have:=HE.out.2.1 s (LV (by rw[hE];exact Nf hs));omega
   ·rcases List.mem_cons.1 hs with rfl|hs
    ·omega
    ·have:=HE.out.2.1 s (LV (by rw[hE];exact LV hs));omega
  have xM:pn<=8796093022208:=by have:=HX.out.2.2.2.2.2.2.2.1;omega
  have yP:dg (clk k) (QI size (Qr (clk k) P))=r:=by rw[<-yH];exact HQ.out
  have yT:Hid (∀W,Zb w W -> ∀ao' b' cap',RdS W ao' b' 0 pn P->Zr 81 #[.int .i64 k,.int .u64 (size:Int),.slice ao' pn cap'] W (.string r)):=fun W hb ao' b' cap' hr'=>Qcr W (HT.out W hb) k size ao' b' 0 pn cap' P hr' yI xM r yP
  have yL:=xD.out.2.2;have yY:=bal (bal (Lb w6.heap.size w6) (.cells #[.string pk] 9)) (.cells #[.slice ax A.length cx,.slice (some ⟨w6.heap.size,0,none⟩) 1 1,.slice ay B.length (cx - A.length)] 22);have yV:(A.length:Int)<=(A.length:Int)+(B.length:Int):=by omega
  have yW:A.length<=A.length+B.length:=by omega
  clear yG hP yO yH yI xM yP hE yN xC zD xQ
  go_region_with (go_at_call 117;with_reducible refine HC.mono ?_;rintro e w8 ⟨xU,b8,c8,rfl,r8,xY⟩)
  have xW:=xD.out.1.next xY;obtain⟨t0,t1,t2,t3,t4,t5⟩:=xW.cells;have xK:=Qa yL xY;have yJ:=xD.out.2.1.below xY (Lh w6 _ xD.out.2.1.c0);have yD:=Qe yJ;have xT:=Qe xW;clear yJ xW HC yY yL yF xF yM hcl
  go_upto_region 13 with (fail)
  refine Yo (by kernel_rfl) [68,69,70,71,72,73,74,75,76,1009,5] [9] [.pointer (some ⟨w.heap.size,3,none⟩),.int .u64 (size:Int),.pointer (some ⟨w.heap.size,1,none⟩),.int .i64 k,.pointer (some ⟨w.heap.size,3,none⟩),.int .u64 (size:Int),.slice xU pn c8,.string r,.agg #[.int .u64 (size:Int),.string r],undef,.int .i64 0] (by kernel_rfl) rfl (fun j hj=>by simp at hj;subst hj;rfl) (fun L W=>(L 9=false->Zb w8 W)∧(L 9=true->W.cell? ⟨w.heap.size+1,0,none⟩=some (.int .u64 (size:Int))∧W.cell? ⟨w.heap.size+1,1,none⟩=some (.string r)∧Zb w W)) (fun W _ hb=>⟨fun _=>hb,fun h=>by cases h⟩) ?step ?fin
  case step =>
   refine⟨?_,?_,?_,?_,?_,?_,?_,?_,?_,?_,?_,trivial⟩
   ·intro L Ac Wc K hI hj hcl hsm dep hK;have t2:Ac.tmps.getD 2 undef = .pointer (some ⟨w.heap.size,0,none⟩):=hsm 2 rfl
    show Oper.wp _ _ Ac Wc K _
    go_simp
    exact hK _ _ (.inr rfl) hI
   ·intro L Ac Wc K hI hj hcl hsm dep hK;have zS:Ac.tmps.getD 68 undef = .pointer (some ⟨w.heap.size,3,none⟩):=dep 0 rfl
    show Oper.wp _ _ Ac Wc K _
    have hL:L 9=false:=by
     cases h:L 9 with
     | false=>rfl
     | true=>rw[hcl 8 1 (hcl 9 8 h rfl) rfl] at hj;cases hj
    obtain⟨g0,g1,g2,g3,g4,g5⟩:=(xT.out.next (hI.1 hL)).cells
    go_simp
    exact hK _ _ (.inr rfl) hI
   ·intro L Ac Wc K hI hj hcl hsm dep hK;have t2:Ac.tmps.getD 2 undef = .pointer (some ⟨w.heap.size,0,none⟩):=hsm 2 rfl
    show Oper.wp _ _ Ac Wc K _
    go_simp
    exact hK _ _ (.inr rfl) hI
   ·intro L Ac Wc K hI hj hcl hsm dep hK;have zT:Ac.tmps.getD 70 undef = .pointer (some ⟨w.heap.size,1,none⟩):=dep 2 rfl
    show Oper.wp _ _ Ac Wc K _
    have hL:L 9=false:=by
     cases h:L 9 with
     | false=>rfl
     | true=>rw[hcl 7 3 (hcl 8 7 (hcl 9 8 h rfl) rfl) rfl] at hj;cases hj
    obtain⟨g0,g1,g2,g3,g4,g5⟩:=(xT.out.next (hI.1 hL)).cells
    go_simp
    exact hK _ _ (.inr rfl) hI
   ·intro L Ac Wc K hI hj hcl hsm dep hK;have t2:Ac.tmps.getD 2 undef = .pointer (some ⟨w.heap.size,0,none⟩):=hsm 2 rfl
    show Oper.wp _ _ Ac Wc K _
    go_simp
    exact hK _ _ (.inr rfl) hI
   ·intro L Ac Wc K hI hj hcl hsm dep hK;have zV:Ac.tmps.getD 72 undef = .pointer (some ⟨w.heap.size,3,none⟩):=dep 4 rfl
    show Oper.wp _ _ Ac Wc K _
    have hL:L 9=false:=by
     cases h:L 9 with
     | false=>rfl
     | true=>rw[hcl 7 5 (hcl 8 7 (hcl 9 8 h rfl) rfl) rfl] at hj;cases hj
    obtain⟨g0,g1,g2,g3,g4,g5⟩:=(xT.out.next (hI.1 hL)).cells
    go_simp
    exact hK _ _ (.inr rfl) hI
   ·intro L Ac Wc K hI hj hcl hsm dep hK;have zI:Ac.tmps.getD 12 undef = .slice xU pn c8:=hsm 12 rfl
    show Oper.wp _ _ Ac Wc K _
    go_simp
    exact hK _ _ (.inr rfl) hI
   ·intro L Ac Wc K hI hj hcl hsm dep hK;have zU:Ac.tmps.getD 71 undef = .int .i64 k:=dep 3 rfl;have zW:Ac.tmps.getD 73 undef = .int .u64 (size:Int):=dep 5 rfl;have zX:Ac.tmps.getD 74 undef = .slice xU pn c8:=dep 6 rfl
    show Oper.wp _ _ Ac Wc K _
    have hL:L 9=false:=by
     cases h:L 9 with
     | false=>rfl
     | true=>rw[hcl 8 7 (hcl 9 8 h rfl) rfl] at hj;cases hj
    go_simp
    refine(yT.out Wc (Qa xK (hI.1 hL)) _ _ _ (r8.next (hI.1 hL) (Ld _))).mono ?_
    rintro e w' ⟨rfl,hb⟩;exact hK _ _ (.inr rfl) ⟨fun _=>Qa (hI.1 hL) hb,fun h=>by have h':L 9=true:=h;rw[hL] at h';cases h'⟩
   ·intro L Ac Wc K hI hj hcl hsm dep hK;have zB:Ac.tmps.getD 69 undef = .int .u64 (size:Int):=dep 1 rfl;have u69:Ac.tmps[69]?.getD undef = .int .u64 (size:Int):=by rw[<-Ir];exact zB
    have zC:Ac.tmps.getD 75 undef = .string r:=dep 7 rfl;have u75:Ac.tmps[75]?.getD undef = .string r:=by rw[<-Ir];exact zC
    show Oper.wp _ _ Ac Wc K _
    go_simp
    exact hK _ _ (.inr rfl) hI
   ·intro L Ac Wc K hI hj hcl hsm dep hK;have t4:Ac.tmps.getD 4 undef = .pointer (some ⟨w.heap.size+1,0,none⟩):=hsm 4 rfl;have zY:Ac.tmps.getD 76 undef = .agg #[.int .u64 (size:Int),.string r]:=dep 8 rfl
    show Oper.wp _ _ Ac Wc K _
    have xG:=yD.out.below (hI.1 hj) (Lh w8 _ yD.out.c0);have z0:=xG.c0;have z1:=xG.c1;have y0:=xG.f0;have y1:=xG.f1;obtain⟨s0,s1,yZ⟩:=Yr xG (size:Int) r
    go_simp
    exact hK undef _ (.inl rfl) ⟨(fun h=>by cases h),fun _=>⟨s0,s1,(Qa xK (hI.1 hj)).trans (yZ.below (by rintro b rfl;omega))⟩⟩
   ·intro L Ac Wc K hI hj hcl hsm dep hK
    show Oper.wp _ _ Ac Wc K _
    go_simp
    exact hK _ _ (.inr rfl) hI
  case fin =>
   intro L wF hall hI;obtain⟨s0,s1,yX⟩:=hI.2 (hall 9 (by decide))
   clear hI hall;simp only[UI]
   go_simp
   go_wp2;refine Lp (v := .tuple #[.agg #[.int .u64 (size:Int),.string r],.int .i64 0]) (by simp[results,results63,go_sem,s0,s1]) rfl ⟨rfl,yX⟩
end
section
open Cv (zl)
open Pl (pw)
theorem Qcl(w:World)(ht:Tr w)(k:Int)(k1:1<=k)(k2:k<=32)(t:BA)(hs:t.size<1152921504606846976)(r:BA)(hr:dg (clk k) t=r) :
  Zr 145 #[.int .i64 k,.string t] w (.string r):=by
 subst hr;have HS:=Qd1 w ht t hs _ rfl;unfold dg;have hz:=Je RS (tB t);generalize Jd RS (tB t)=z at *;clear ht hs;obtain⟨c,rfl⟩ : ∃c:Nat,k=(c:Int):=⟨k.toNat,by omega⟩
 have hc:clk (c:Int)=c:=by unfold clk;rw[Le (by omega),Le (by omega)];simp
 rw[hc];have h3:(0:Int)<=(c:Int):=by omega
 have h4:(c:Int)<=32:=by omega
 clear hc k1 k2
 go_enter func145,ntmps145
 go_wp2_with (go_at_call 31;with_reducible refine HS.mono ?_;rintro e w1 ⟨rfl,xA⟩)
 go_ret
 exact⟨rfl,xA⟩
theorem QlU(w:World)(h:Nat)(hh:h<=40)(p:Nat)(hp:2^h=p) :
  Calls prog 171 #[.int .i64 (h:Int)] w fun e w'=>e = .returned (.int .u64 (p:Int))∧w=w':=by
 have HP:=Qe hp;clear hp;have xA:(h:Int)<=40:=by omega
 go_enter func171,ntmps171;go_wp2
 go_loopg [3,4] h (fun g n i wr => ∃j:Nat,j<=h∧g=h - j∧n = .int .u64 ((2^j:Nat):Int)∧i = .int .i64 (j:Int)∧w=wr)
 case atStart=>go_light;exact⟨0,Ll _,rfl,rfl,rfl,rfl⟩
 case round =>
  obtain⟨j,hj,rfl,rfl,rfl,rfl⟩:=hrel
  by_cases hlt:j<h
  ·have hz:(j:Int)<(h:Int):=by omega
   obtain⟨q,hq⟩:=Ze (2^j);have hb:2^j<=2^40:=L7 (by decide) (by omega)
   rw[hq] at hb ⊢;have e1:IntKind.u64.wrap (2*(q:Int))=2*(q:Int):=by rw[IntKind.wrap_u64];omega
   have HQ:Hid (2*(q:Int)=((2^(j+1):Nat):Int)):=by show _=_;rw[LM,hq];omega
   clear hq hb;go_wp2
   go_roundg (h - (j+1))
   case rel=>go_light;exact⟨j+1,by omega,rfl,by rw[HQ.out],by go_num,rfl⟩
   case measure=>go_light;omega
  ·obtain rfl:j=h:=by omega
   have hz : ¬((j:Int)<(j:Int)):=by omega
   rw[HP.out];clear hlt;go_wp2
   go_ret
   exact⟨rfl,rfl⟩
theorem Qcv(w:World)(h k:Nat)(hh:h<=40)(p:Nat)(hp:2^h=p) :
  Zr 147 #[.agg #[.int .i64 (h:Int),.int .u64 (k:Int)]] w (.int .u64 (p:Int)):=by
 have HP:=Qe hp;clear hp;have xB:(h:Int)<=40:=by omega
 have hb:=bal (Lb w.heap.size w) (.cells #[.int .i64 (h:Int),.int .u64 (k:Int)] 83);obtain⟨w1,xA⟩:=Ze (w.alloc (.cells #[.int .i64 (h:Int),.int .u64 (k:Int)] 83));have c0:w1.cell? ⟨w.heap.size,0,none⟩=some (.int .i64 (h:Int)):=by rw[<-xA];simp
 go_enter func147,ntmps147;go_wp2;rw[xA] at hb;clear xA
 go_loopg [3,4] h (fun g n i wr => ∃j:Nat,j<=h∧g=h - j∧n = .int .u64 ((2^j:Nat):Int)∧i = .int .i64 (j:Int)∧w1=wr)
 case atStart=>go_light;exact⟨0,Ll _,rfl,rfl,rfl,rfl⟩
 case round =>
  obtain⟨j,hj,rfl,rfl,rfl,rfl⟩:=hrel
  by_cases hlt:j<h
  ·have hz:(j:Int)<(h:Int):=by omega
   obtain⟨q,hq⟩:=Ze (2^j);have hb:2^j<=2^40:=L7 (by decide) (by omega)
   rw[hq] at hb ⊢;have e1:IntKind.u64.wrap (2*(q:Int))=2*(q:Int):=by rw[IntKind.wrap_u64];omega
   have HQ:Hid (2*(q:Int)=((2^(j+1):Nat):Int)):=by show _=_;rw[LM,hq];omega
   clear hq hb;go_wp2
   go_roundg (h - (j+1))
   case rel=>go_light;exact⟨j+1,by omega,rfl,by rw[HQ.out],by go_num,rfl⟩
   case measure=>go_light;omega
  ·obtain rfl:j=h:=by omega
   have hz : ¬((j:Int)<(j:Int)):=by omega
   rw[HP.out];clear hlt;go_wp2
   go_ret
   exact⟨rfl,hb⟩
theorem QaD(w:World)(h k:Nat)(hh:h<=40)(hk:k*2^h<=2^41)(p:Nat)(hp:k*2^h=p) :
  Zr 146 #[.agg #[.int .i64 (h:Int),.int .u64 (k:Int)]] w (.int .u64 (p:Int)):=by
 have HP:=Qe hp;clear hp;have xB:(h:Int)<=40:=by omega
 have hb:=bal (Lb w.heap.size w) (.cells #[.int .i64 (h:Int),.int .u64 (k:Int)] 83);obtain⟨w1,xA⟩:=Ze (w.alloc (.cells #[.int .i64 (h:Int),.int .u64 (k:Int)] 83));have c0:w1.cell? ⟨w.heap.size,0,none⟩=some (.int .i64 (h:Int)):=by rw[<-xA];simp
 have c1:w1.cell? ⟨w.heap.size,1,none⟩=some (.int .u64 (k:Int)):=by rw[<-xA];simp
 go_enter func146,ntmps146;go_wp2;rw[xA] at hb;clear xA
 go_loopg [3,4] h (fun g n i wr => ∃j:Nat,j<=h∧g=h - j∧n = .int .u64 ((k*2^j:Nat):Int)∧i = .int .i64 (j:Int)∧w1=wr)
 case atStart=>go_light;exact⟨0,Ll _,rfl,by simp,rfl,rfl⟩
 case round =>
  obtain⟨j,hj,rfl,rfl,rfl,rfl⟩:=hrel
  by_cases hlt:j<h
  ·have hz:(j:Int)<(h:Int):=by omega
   obtain⟨q,hq⟩:=Ze (k*2^j);have hb:k*2^j<=k*2^h:=NZ _ (L7 (by decide) (by omega))
   rw[hq] at hb ⊢;have e1:IntKind.u64.wrap (2*(q:Int))=2*(q:Int):=by rw[IntKind.wrap_u64];omega
   have HQ:Hid (2*(q:Int)=((k*2^(j+1):Nat):Int)):=by show _=_;rw[LM,<-L9,hq];omega
   clear hq hb;go_wp2
   go_roundg (h - (j+1))
   case rel=>go_light;exact⟨j+1,by omega,rfl,by rw[HQ.out],by go_num,rfl⟩
   case measure=>go_light;omega
  ·obtain rfl:j=h:=by omega
   have hz : ¬((j:Int)<(j:Int)):=by omega
   rw[HP.out];clear hlt hk;go_wp2
   go_ret
   exact⟨rfl,hb⟩
theorem Qge(n:Nat)(w:World)(hn:n<=2^40) :
  Calls prog 144 #[.int .u64 (n:Int)] w fun e w' => ∃v,e = .returned v∧Cv.Qx w' w.heap.size v (zl (Cv.dnL 41 0 n))∧Zb w w':=by
 have HN:Hid (n<=2^40):=hn;clear hn
 go_enter func144,ntmps144;go_wp2
 go_loopg [3,4,5] 41 (fun g v f h wr => ∃(m x:Nat) (acc:List (Nat×Nat)),m<=41∧m=g∧h = .int .i64 ((m:Int) - 1)∧f = .int .u64 (x:Int)∧x<=n∧Cv.Qx wr w.heap.size v (zl acc)∧acc++Cv.dnL m x n=Cv.dnL 41 0 n∧acc.length+m<=41∧Zb w wr)
 case atStart=>go_light;exact⟨41,0,[],by decide,rfl,rfl,rfl,Ll _,LT _ _ _ _,rfl,by decide,Lb _ _⟩
 case round =>
  obtain⟨m,x,acc,hm,rfl,rfl,rfl,hx,xB,xA,xC,hb⟩:=hrel;have hn:=HN.out
  by_cases hm0:m=0
  ·subst hm0;have ht : ¬(0:Int)<=((0:Nat):Int) - 1:=by omega
   have HF:Hid (Cv.Qx wr w.heap.size u3 (zl (Cv.dnL 41 0 n))∧Zb w wr):=⟨by
    rw[<-xA];simpa [Cv.dnL] using xB,hb⟩
   clear hx xB xA xC hb hn hm;go_wp2
   go_ret
   exact⟨_,rfl,HF.out⟩
  ·obtain⟨i,rfl⟩ : ∃i,m=i+1:=⟨m - 1,by omega⟩
   have ei:(((i+1:Nat):Int) - 1)=(i:Int):=by omega
   rw[ei];have xM:(0:Int)<=(i:Int):=Lf _;have xN:(i:Int)<=40:=by omega
   obtain⟨p,hp⟩:=Ze (pw i);have xD:pw i<=pw 40:=Pl.JP (by omega)
   have xH:pw 40=2^40:=rfl;have xF:=Pl.QF i;rw[hp] at xD xF;have xE:Hid (∀W,Calls prog 171 #[.int .i64 (i:Int)] W fun e w'=>e = .returned (.int .u64 (p:Int))∧W=w'):=fun W=>QlU W i (by omega) p hp
   obtain⟨d,hd⟩:=Ze (n - x);have ed:IntKind.u64.wrap ((n:Int) - (x:Int))=(d:Int):=by rw[IntKind.wrap_u64];omega
   have xO : ¬(p:Int)=0:=by omega
   have xG:=hb.size
   by_cases hfit:p<=d
   ·have xJ:(p:Int)<=(d:Int):=by omega
    obtain⟨q,hq⟩:=Ze (x / pw i);have xI:x / p=q:=by rw[<-hp];exact hq
    have xK:q<=x:=by rw[<-hq];exact Nt _ _
    have eq:(x:Int) / (p:Int)=(q:Int):=by rw[<-xI];rfl
    have xL:IntKind.u64.wrap (q:Int)=(q:Int):=by rw[IntKind.wrap_u64];omega
    have ef:IntKind.u64.wrap ((x:Int)+(p:Int))=((x+p:Nat):Int):=by rw[IntKind.wrap_u64];omega
    have hu:=Cv.QbJ (h:=i) (lo:=x) (hi:=n) (by omega)
    rw[hq,hp] at hu;have HX:Hid (acc++[(i,q)]++Cv.dnL i (x+p) n=Cv.dnL 41 0 n∧x+p<=n∧(acc++[(i,q)]).length+i<=41∧Zb w wr∧w.heap.size<=wr.heap.size∧acc.length<=41):=by
     refine⟨?_,by omega,by simp;omega,hb,xG,by omega⟩
     rw[LH,<-xA,hu];rfl
    clear hx xA xC hb hn hm hm0 hp hd hq xI xK hu xH xD xF xG hfit
    go_wp2_with (first
     | (go_at_call 171;with_reducible refine(xE.out _).mono ?_;rintro e wp ⟨rfl,rfl⟩)
     | (at_builtin;refine Cv.QP _ rfl _ _ rfl w.heap.size _ (zl acc) rfl (xB.alloc _) _ [((i:Int),q)] rfl (Cv.YU wr (i:Int) q 83) ?c1 ?c2 ?_))
    case c1=>have:=HX.out.2.2.2.2.2;rw[Cv.QC];simp;omega
    case c2=>have:=HX.out.2.2.2.2.1;simp;omega
    intro v' w1 r1 r2 _;have R:=Cv.Ja HX.out.2.2.2.1 HX.out.2.2.2.2.1 xB r2;clear r2 xB
    go_wp2_with (go_at_call 171;with_reducible refine(xE.out _).mono ?_;rintro e wp ⟨rfl,rfl⟩)
    go_roundg i
    case rel =>
     go_light;obtain⟨x1,x2,x3,x4,x5,x6⟩:=HX.out;refine⟨i,x+p,acc++[(i,q)],by omega,rfl,by go_num,by go_num,x2,?_,x1,x3,R.1⟩
     rw[Cv.UO];exact r1
    case measure=>go_light;omega
   ·have xJ : ¬(p:Int)<=(d:Int):=by omega
    have hu:=Cv.QeK (h:=i) (lo:=x) (hi:=n) (by omega)
    rw[hu] at xA;have HX:Hid (acc++Cv.dnL i x n=Cv.dnL 41 0 n∧x<=n∧acc.length+i<=41∧Zb w wr):=⟨xA,hx,by omega,hb⟩
    clear hx xA xC hb hn hm hm0 hp hd hu xH xD xF xG
    go_wp2_with (go_at_call 171;with_reducible refine(xE.out _).mono ?_;rintro e wp ⟨rfl,rfl⟩)
    go_roundg i
    case rel=>go_light;obtain⟨x1,x2,x3,x4⟩:=HX.out;exact⟨i,x,acc,by omega,rfl,by go_num,rfl,x2,xB,x1,x3,x4⟩
    case measure=>go_light;omega
end
end Go.Proofs.YtdocjikpcbmcgaaGreatDoor
