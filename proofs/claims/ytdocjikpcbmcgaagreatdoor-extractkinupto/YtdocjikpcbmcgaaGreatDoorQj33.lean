/- Own work. -/
import Derived.Test.YtdocjikpcbmcgaaGreatDoorQj24
import Derived.Test.YtdocjikpcbmcgaaGreatDoorQj27
import Derived.Test.YtdocjikpcbmcgaaGreatDoorQj29
import Derived.Test.YtdocjikpcbmcgaaGreatDoorQj32
set_option maxRecDepth 100000
set_option maxHeartbeats 1000000
namespace Go.Proofs.YtdocjikpcbmcgaaGreatDoor
open Go.RowKit
attribute [local go_sem ↓] Go.wp_at_zero Go.wp_at_succ
theorem Qk5(w:World)(k:Int)(o1:Nat)(c1:BA)(o2:Nat)(c2:BA)(s:BA)(hs:s.size<=8796093021952)(e0:Int)(he:tkE k s=e0)(h0:e0≠0) :
  Zr 37 #[.int .i64 k,.agg #[.int .u64 (o1:Int),.string c1],.agg #[.int .u64 (o2:Int),.string c2],.string s] w (.int .i64 e0):=by
 obtain⟨W0,hW0⟩:=Ze ((w.alloc (.cells #[.int .u64 (o1:Int),.string c1] 30)).alloc (.cells #[.int .u64 (o2:Int),.string c2] 30));have hb0:Zb w W0:=by rw[<-hW0];exact bal (bal (Below.refl _ _) _) _
 rcases Qc1 he h0 with ⟨hc,rfl⟩|⟨hc,hd,rfl⟩|⟨hc,P,hd,hp,rfl⟩
 ·have HC:Hid (∀W,Calls Tryz.prog 20 #[.int .i64 k] W fun e w'=>e = .returned (.int .i64 70)∧w'=W):=fun W=>by rw[<-hc];exact Yn W k
  clear hc he h0 hs
  go_enter Tryz.func37,Tryz.ntmps37
  go_upto_region 1 with (fail)
  try rw[hW0]
  clear hW0
  go_wp2_with (go_at_call 20;with_reducible refine(HC.out _).mono ?_;rintro e w1 ⟨rfl,rfl⟩)
  go_ret
  exact⟨rfl,hb0⟩
 ·have HC:Hid (∀W,Calls Tryz.prog 20 #[.int .i64 k] W fun e w'=>e = .returned (.int .i64 0)∧w'=W):=fun W=>by rw[<-hc];exact Yn W k
  have HD:Hid (∀W,Zr 39 #[.string s] W (.tuple #[.agg #[.int .i64 0,.int .i64 0,.int .u64 0,.int .u64 0,.slice none 0 0,.slice none 0 0],.int .i64 140])):=fun W=>QdA s (Jg s hs) hd W
  clear hc he h0 hs hd
  go_enter Tryz.func37,Tryz.ntmps37
  go_upto_region 1 with (fail)
  try rw[hW0]
  clear hW0
  go_wp2_with (first
   | (go_at_call 20;with_reducible refine(HC.out _).mono ?_;rintro e w1 ⟨rfl,rfl⟩)
   | (go_at_call 39;with_reducible refine(HD.out _).mono ?_;rintro e w2 ⟨rfl,hb2⟩))
  go_ret
  exact⟨rfl,bal (Qa hb0 hb2) _⟩
 ·have HC:Hid (∀W,Calls Tryz.prog 20 #[.int .i64 k] W fun e w'=>e = .returned (.int .i64 0)∧w'=W):=fun W=>by rw[<-hc];exact Yn W k
  have HD:Hid (∀W,Calls Tryz.prog 39 #[.string s] W fun e w' => ∃(old size:Nat) (sa:OA) (ns sc:Nat) (da:OA) (nd' dc:Nat),e = .returned (.tuple #[.agg #[.int .i64 P.kd,.int .i64 P.k,.int .u64 (old:Int),.int .u64 (size:Int),.slice sa ns sc,.slice da nd' dc],.int .i64 0])∧Zb W w'):=fun W=>(Up s (Jg s hs) P hd W).mono fun e w' ⟨sa,sb,sc,da,db,dc,h1,_,h3⟩=>⟨P.old,P.size,sa,P.S.length,sc,da,P.D.length,dc,h1,h3⟩
  have hkb:(P.k == k)=false:=by simpa using hp
  generalize P.k=kk at *;generalize P.kd=kd at *;clear hc he h0 hs hd
  by_cases h3:kd=3
  ·subst h3
   go_enter Tryz.func37,Tryz.ntmps37
   go_upto_region 1 with (fail)
   try rw[hW0]
   clear hW0
   go_upto_region 6 with (first
    | (go_at_call 20;with_reducible refine(HC.out _).mono ?_;rintro e w1 ⟨rfl,rfl⟩)
    | (go_at_call 39;with_reducible refine(HD.out _).mono ?_;rintro e w2 ⟨old,size,sa,ns,sc,da,nd',dc,rfl,hb2⟩))
   obtain⟨F,hF,h7,hb3,_⟩:=Yu w2 (.int .i64 3) (.int .i64 kk) (.int .u64 (old:Int)) (.int .u64 (size:Int)) (.slice sa ns sc) (.slice da nd' dc)
   try rw[hF]
   clear hF;have m0:=h7.cells.1;have m1:=h7.cells.2.1;clear h7;go_wp2
   go_ret
   exact⟨rfl,Qa hb0 (Qa hb2 hb3)⟩
  ·have h3b:(kd == 3)=false:=by simpa using h3
   go_enter Tryz.func37,Tryz.ntmps37
   go_upto_region 1 with (fail)
   try rw[hW0]
   clear hW0
   go_upto_region 6 with (first
    | (go_at_call 20;with_reducible refine(HC.out _).mono ?_;rintro e w1 ⟨rfl,rfl⟩)
    | (go_at_call 39;with_reducible refine(HD.out _).mono ?_;rintro e w2 ⟨old,size,sa,ns,sc,da,nd',dc,rfl,hb2⟩))
   obtain⟨F,hF,h7,hb3,_⟩:=Yu w2 (.int .i64 kd) (.int .i64 kk) (.int .u64 (old:Int)) (.int .u64 (size:Int)) (.slice sa ns sc) (.slice da nd' dc)
   try rw[hF]
   clear hF;have m0:=h7.cells.1;have m1:=h7.cells.2.1;clear h7;go_wp2
   go_ret
   exact⟨rfl,Qa hb0 (Qa hb2 hb3)⟩
theorem QhF(w:World)(k:Int)(k1:1<=k)(k2:k<=32)(o1:Nat)(c1:BA)(o2:Nat)(c2:BA)(s:BA)(hs:s.size<=8796093021952)(P:PV)(hd:dec s.data.toList=some P)(h3:P.kd≠3) :
  Zr 37 #[.int .i64 k,.agg #[.int .u64 (o1:Int),.string c1],.agg #[.int .u64 (o2:Int),.string c2],.string s] w (.int .i64 150):=by
 obtain⟨W0,hW0⟩:=Ze ((w.alloc (.cells #[.int .u64 (o1:Int),.string c1] 30)).alloc (.cells #[.int .u64 (o2:Int),.string c2] 30));have hb0:Zb w W0:=by rw[<-hW0];exact bal (bal (Below.refl _ _) _) _
 have HC:Hid (∀W,Calls Tryz.prog 20 #[.int .i64 k] W fun e w'=>e = .returned (.int .i64 0)∧w'=W):=fun W=>by
  have hc:chk k=0:=by rw[chk,if_neg (by omega)]
  rw[<-hc];exact Yn W k
 have HD:Hid (∀W,Calls Tryz.prog 39 #[.string s] W fun e w' => ∃(kk:Int) (old size:Nat) (sa:OA) (ns sc:Nat) (da:OA) (nd' dc:Nat),e = .returned (.tuple #[.agg #[.int .i64 P.kd,.int .i64 kk,.int .u64 (old:Int),.int .u64 (size:Int),.slice sa ns sc,.slice da nd' dc],.int .i64 0])∧Zb W w'):=fun W=>(Up s (Jg s hs) P hd W).mono fun e w' ⟨sa,sb,sc,da,db,dc,h1,_,h3⟩=>⟨P.k,P.old,P.size,sa,P.S.length,sc,da,P.D.length,dc,h1,h3⟩
 generalize P.kd=kd at *;have h3b:(kd == 3)=false:=by simpa using h3
 clear hs hd k1 k2
 go_enter Tryz.func37,Tryz.ntmps37
 go_upto_region 1 with (fail)
 try rw[hW0]
 clear hW0
 go_upto_region 6 with (first
  | (go_at_call 20;with_reducible refine(HC.out _).mono ?_;rintro e w1 ⟨rfl,rfl⟩)
  | (go_at_call 39;with_reducible refine(HD.out _).mono ?_;rintro e w2 ⟨kk,old,size,sa,ns,sc,da,nd',dc,rfl,hb2⟩))
 obtain⟨F,hF,h7,hb3,_⟩:=Yu w2 (.int .i64 kd) (.int .i64 kk) (.int .u64 (old:Int)) (.int .u64 (size:Int)) (.slice sa ns sc) (.slice da nd' dc)
 try rw[hF]
 clear hF;have m0:=h7.cells.1;have m1:=h7.cells.2.1;clear h7;go_wp2
 go_ret
 exact⟨rfl,Qa hb0 (Qa hb2 hb3)⟩
theorem QeJ(w:World)(k:Int)(k1:1<=k)(k2:k<=32)(o1:Nat)(c1:BA)(o2:Nat)(c2:BA)(s:BA)(hs:s.size<=8796093021952)(P:PV)(hd:dec s.data.toList=some P)(hk:P.k=k)(h3:P.kd=3)
  (n1:Nat) (d1:BA) (n2:Nat) (d2:BA) (er:Nat)
  (hR : ∀W sa sb sc da db dc,Zb w W->RdPC W sa sb 0 sc da db 0 dc P->Zr 83 #[vP 3 k P.old P.size (.slice sa P.S.length sc) (.slice da P.D.length dc)] W (.tuple #[.agg #[.int .u64 (n1:Int),.string d1],.agg #[.int .u64 (n2:Int),.string d2],.int .i64 (er:Int)]))
  (r:Int) (hr:kinD n1 d1 n2 d2 er o1 c1 o2 c2=r) :
  Zr 37 #[.int .i64 k,.agg #[.int .u64 (o1:Int),.string c1],.agg #[.int .u64 (o2:Int),.string c2],.string s] w (.int .i64 r):=by
 have HC:Hid (∀W,Calls Tryz.prog 20 #[.int .i64 k] W fun e w'=>e = .returned (.int .i64 0)∧w'=W):=fun W=>by
  have hc:chk k=0:=by rw[chk,if_neg (by omega)]
  rw[<-hc];exact Yn W k
 have HT:Hid (∀W,Calls Tryz.prog 39 #[.string s] W fun e w' => ∃sa sb sc da db dc,e = .returned (.tuple #[.agg #[.int .i64 3,.int .i64 k,.int .u64 (P.old:Int),.int .u64 (P.size:Int),.slice sa P.S.length sc,.slice da P.D.length dc],.int .i64 0])∧RdPC w' sa sb 0 sc da db 0 dc P∧Zb W w'):=fun W=>(Up s (Jg s hs) P hd W).mono fun e w' ⟨sa,sb,sc,da,db,dc,g1,g2,g3⟩=>⟨sa,sb,sc,da,db,dc,by rw[<-h3,<-hk];exact g1,g2,g3⟩
 obtain⟨kd,kk,old,size,S,D⟩:=P;simp only at HT hR;have HR:=Qc hR;unfold vP at HR;obtain⟨W0,hW0⟩:=Ze ((w.alloc (.cells #[.int .u64 (o1:Int),.string c1] 30)).alloc (.cells #[.int .u64 (o2:Int),.string c2] 30));have hb0:Zb w W0:=by rw[<-hW0];exact bal (bal (Below.refl _ _) _) _
 have hq:Rh W0 w.heap.size o1 c1∧Rh W0 (w.heap.size+1) o2 c2:=by
  obtain⟨e1,e2⟩:=Jh w (.cells #[.int .u64 (o1:Int),.string c1] 30) (.cells #[.int .u64 (o2:Int),.string c2] 30);rw[<-hW0];exact⟨e1,e2⟩
 have HX:Hid (∀F,Zb W0 F->Rh F w.heap.size o1 c1∧Rh F (w.heap.size+1) o2 c2∧Zb w F):=fun F hF=>⟨hq.1.next hF,hq.2.next hF,Qa hb0 hF⟩
 clear hs hd hk hR hq hb0 k1 k2 h3
 go_enter Tryz.func37,Tryz.ntmps37
 go_upto_region 1 with (fail)
 try rw[hW0]
 clear hW0
 go_upto_region 6 with (first
  | (go_at_call 20;with_reducible refine(HC.out _).mono ?_;rintro e w1 ⟨rfl,rfl⟩)
  | (go_at_call 39;with_reducible refine(HT.out _).mono ?_;rintro e w2 ⟨sa,sb,sc,da,db,dc,rfl,hF,hb1⟩))
 obtain⟨F,hFe,h7,hb2,_⟩:=Yu w2 (.int .i64 3) (.int .i64 k) (.int .u64 (old:Int)) (.int .u64 (size:Int)) (.slice sa S.length sc) (.slice da D.length dc)
 try rw[hFe]
 clear hFe;obtain⟨m0,m1,m2,m3,m4,m5⟩:=h7.cells;have hF2:=hF.next hb2;have xb:=(HX.out _ (Qa hb1 hb2)).2.2
 go_upto_region 9 with (go_at_call 83;with_reducible refine(HR.out _ _ _ _ _ _ _ xb hF2).mono ?_;rintro e w3 ⟨rfl,hb3⟩)
 obtain⟨G,hG⟩:=Ze ((w3.alloc (.cells #[.int .u64 (n1:Int),.string d1] 30)).alloc (.cells #[.int .u64 (n2:Int),.string d2] 30))
 try rw[hG]
 have hbG:Zb w3 G:=by rw[<-hG];exact bal (bal (Below.refl _ _) _) _
 have hg:Rh G w3.heap.size n1 d1∧Rh G (w3.heap.size+1) n2 d2:=by
  obtain⟨e1,e2⟩:=Jh w3 (.cells #[.int .u64 (n1:Int),.string d1] 30) (.cells #[.int .u64 (n2:Int),.string d2] 30);rw[<-hG];exact⟨e1,e2⟩
 obtain⟨x1,x2,xB⟩:=HX.out _ (Qa (Qa hb1 hb2) (Qa hb3 hbG));obtain⟨a0,a1⟩:=x1.cells;obtain⟨a2,a3⟩:=x2.cells;obtain⟨b0,b1⟩:=hg.1.cells;obtain⟨b2,b3⟩:=hg.2.cells;clear hG hg x1 x2 hbG hb3 hF2 xb m0 m1 m2 m3 m4 m5 h7 hb2 hF hb1 HR HT HX;have HB:=Qc xB;clear xB;unfold kinD at hr
 by_cases h1:er=0
 ·subst h1
  by_cases h2:n1=o1∧d1=c1
  ·obtain⟨rfl,rfl⟩:=h2
   by_cases h3:n2=o2∧d2=c2
   ·obtain⟨rfl,rfl⟩:=h3;rw[if_pos ⟨rfl,⟨rfl,rfl⟩,rfl,rfl⟩] at hr;subst hr;go_wp2
    go_ret
    exact⟨rfl,HB.out⟩
   ·rw[if_neg (fun h=>h3 h.2.2)] at hr
    subst hr
    rcases Qae h3 with hn|⟨rfl,hd⟩
    ·have hz : ¬(n2:Int)=(o2:Int):=by omega
     have hzb:((n2:Int) == (o2:Int))=false:=by simpa using hz
     clear h3 hn;go_wp2
     go_ret
     exact⟨rfl,HB.out⟩
    ·have hz:=YG hd;have hzb:=Yo hd;clear h3 hd;go_wp2
     go_ret
     exact⟨rfl,HB.out⟩
  ·rw[if_neg (fun h=>h2 h.2.1)] at hr
   subst hr
   rcases Qae h2 with hn|⟨rfl,hd⟩
   ·have hz : ¬(n1:Int)=(o1:Int):=by omega
    have hzb:((n1:Int) == (o1:Int))=false:=by simpa using hz
    clear h2 hn;go_wp2
    go_ret
    exact⟨rfl,HB.out⟩
   ·have hz:=YG hd;have hzb:=Yo hd;clear h2 hd;go_wp2
    go_ret
    exact⟨rfl,HB.out⟩
 ·rw[if_neg (fun h=>h1 h.1)] at hr
  subst hr;have hz : ¬(er:Int)=0:=by omega
  have hzb:((er:Int) == 0)=false:=by simpa using hz
  go_wp2
  go_ret
  exact⟨rfl,HB.out⟩
structure Acc(k:Int)(o1:Nat)(c1:BA)(l:List (Nat×BA))(s:BA)(P:PV):Prop where
 k1:1<=k
 k2:k<=32
 hd:dec s.data.toList=some P
 hk:P.k=k
 old:P.old=0
 size:P.size=o1
 hS:P.S=ixs l
 n40:o1<=2^40
 hv : ∀x∈vls l,x.size<=1048576
 how:(P.kd=1 ∧ ∃i A H B,P.S=[i]∧Wy o1 i A H B∧i<o1∧fil k (H+A.length+B.length) P.D∧rtP (clk k) o1 i A.length H P.D ((vls l).getD 0 ByteArray.empty)=c1) ∨
  (P.kd=2∧okB 2 k 0 o1 P.S P.D∧dg (clk k) (QN o1 (QA (clk k) (pB (clk k) (Cv.dnL 41 0 o1) P.S (vls l) P.D)))=c1)
structure AccK(k:Int)(o1:Nat)(c1:BA)(o2:Nat)(c2:BA)(s:BA)(P:PV):Prop where
 k1:1<=k
 k2:k<=32
 hd:dec s.data.toList=some P
 hk:P.k=k
 kd:P.kd=3
 old:P.old=o1
 size:P.size=o2
 hS:P.S.length=0
 ok:okK 3 k o1 o2 0 P.D
 one:kOld (clk k) o1 P.D=c1
 two:kNow (clk k) o2 (dgK (clk k) (kb o1 o2) P.D)=c2
theorem Qgb(k:Int)(o1:Nat)(c1:BA)(o2:Nat)(c2:BA)(s:BA)(hs2:s.size<=281474976710656) : ∃r:Int,
  (∀W,Tb W->Zr 14 #[.int .i64 k,.agg #[.int .u64 (o1:Int),.string c1],.agg #[.int .u64 (o2:Int),.string c2],.string s] W (.int .i64 r)) ∧
  (r=0 -> ∃P,AccK k o1 c1 o2 c2 s P):=by
 by_cases h0:tkE k s=0
 ·obtain⟨⟨k1,k2⟩,P,hd,hk⟩:=QeX h0;have hD:P.D.length<=8796093022208:=by have:=(QL (J9 hd).1.1).hc;omega
  by_cases h1:okK P.kd k P.old P.size P.S.length P.D
  ·have h3:P.kd=3:=h1.1.1.1;have hns:P.S.length=0:=h1.1.2.2.2;rw[h3,hns] at h1;have hD32 : ∀d∈P.D,d.size<=32:=fun d hd=>by have:=h1.2.2 d hd;have:=h1.1.1.2;omega
   refine⟨kinD P.old (kOld (clk k) P.old P.D) P.size (kNow (clk k) P.size (dgK (clk k) (kb P.old P.size) P.D)) 0 o1 c1 o2 c2,fun W hT => ?_,fun h => ?_⟩
   ·refine O1 W k k1 k2 o1 c1 o2 c2 s hs2 P hd hk _ _ _ _ 0 (fun V sa sb sc da db dc hb hF => ?_) _ rfl
    rw[h3,hns];exact kroots_ok V (hT.next hb) k P.old P.size sa sc da db 0 dc P.D hF.p.rd hF.p.cD h1 _ (QiQ (Qx k) (JO h1.1.2.2.1 h1.1.2.1) hD32) _ _ rfl rfl
   ·unfold kinD at h
    split at h
    ·rename_i hh
     obtain⟨_,⟨a1,a2⟩,b1,b2⟩:=hh;subst a1 b1;exact⟨P,k1,k2,hd,hk,h3,rfl,rfl,hns,h1,a2,b2⟩
    ·cases h
  ·refine⟨150,fun W hT => ?_,fun h=>absurd h (by decide)⟩
   exact O1 W k k1 k2 o1 c1 o2 c2 s hs2 P hd hk 0 ⟨#[]⟩ 0 ⟨#[]⟩ 150 (fun V sa sb sc da db dc hb hF=>Qas V P.kd k P.old P.size sa P.S.length sc da db 0 dc P.D hF.p.rd hD h1) _ (by rw[kinD,if_neg (fun h=>absurd h.1 (by decide))])
 ·exact⟨tkE k s,fun W _=>QiW W k o1 c1 o2 c2 s hs2 _ rfl h0,fun h=>absurd h h0⟩
section
open Pl (pw QK QB Ue)
open Cv (Row All Til But)
theorem QbL{h k i:Nat} : i / 2^h=k↔k*pw h<=i∧i<(k+1)*pw h:=by
 unfold pw;rw[We (LL h)];have:=LL h;rw[LI,LP];omega
theorem Us{i h g:Nat}(hg:h<=g):i / 2^g=i / 2^h / 2^(g - h):=by
 rw[Nc,<-I0,show h+(g - h)=g by omega]
theorem QdF{q:Nat} : ∀ {L:List (Nat×Nat)} {p:Nat},Row q p L -> ∀b∈L,∀b'∈L,∀i,i / 2^b.1=b.2->i / 2^b'.1=b'.2->b=b'
 | [],_,_,b,hb,_,_,_,_,_=>by cases hb
 | m::L,p,h,b,hb,b',hb',i,e,e'=>by
  have hf:=JZ h.2.2.2;have x:=QbL.1 e;have x':=QbL.1 e'
  rcases LH.1 hb with h1|h1
  ·rcases LH.1 hb' with h2|h2
   ·rw[h1,h2]
   ·have:=hf b' h2;rw[h1] at x;omega
  ·rcases LH.1 hb' with h2|h2
   ·have:=hf b h1;rw[h2] at x';omega
   ·exact QdF h.2.2.2 b h1 b' h2 i e e'
theorem Qgu{q i:Nat} : ∀ {L:List (Nat×Nat)} {p:Nat},Row q p L->p<=i->i<q -> ∃b∈L,i / 2^b.1=b.2
 | [],p,h,h1,h2=>by have h:p=q:=h;omega
 | m::L,p,h,h1,h2=>by
  by_cases hi:i<(m.2+1)*pw m.1
  ·exact⟨m,Nq ..,QbL.2 ⟨by have:=h.1;omega,hi⟩⟩
  ·obtain⟨b,hb,e⟩:=Qgu h.2.2.2 (by omega) h2
   exact⟨b,LX _ hb,e⟩
theorem QaB{q:Nat} : ∀ {L:List (Nat×Nat)} {p:Nat},Row q p L->L.Nodup
 | [],_,_=>List.nodup_nil
 | m::L,p,h=>List.nodup_cons.2 ⟨fun hm=>by have:=JZ h.2.2.2 m hm;have:=Cv.Yr m.1 m.2;omega,QaB h.2.2.2⟩
theorem Qgt{q:Nat} : ∀ {L:List (Nat×Nat)} {p:Nat},Row q p L -> ∀b∈L,b.1<=40∧b.2<2^40
 | [],_,_,b,hb=>by cases hb
 | m::L,p,h,b,hb=>by
  rcases LH.1 hb with rfl|hb
  ·refine⟨h.2.1,LS h.2.2.1 (L5 (by decide) (by omega))⟩
  ·exact Qgt h.2.2.2 b hb
theorem Qme(n:Nat)(hn:n<=2^40):Row n 0 (Cv.dnL 41 0 n):=by rw[<-Cv.QH n hn];exact Cv.UI 0 n (Lf _) hn
theorem Qiv{n:Nat}(hn:n<=2^40){m b:Nat×Nat}(hm:m∈Cv.dnL 41 0 n)(hb:(b.2+1)*2^b.1<=n){i:Nat}(e1:i / 2^m.1=m.2)(e2:i / 2^b.1=b.2):b.1<=m.1:=by
 apply Classical.byContradiction
 intro hlt;have ht:=Cv.J7 0 n (Lf _) hn;rw[Cv.QH n hn] at ht;refine(Cv.Qlp ht m hm).1 fun x h1 h2 => ?_
 have hx:x / 2^(m.1+1)=m.2 / 2:=QbL.2 ⟨h1,h2⟩;have hi:i / 2^(m.1+1)=m.2 / 2:=by rw[Us (show m.1<=m.1+1 by omega),e1,show m.1+1 - m.1=1 by omega,Nat.pow_one]
 have hxb:x / 2^b.1=b.2:=by
  rw[Us (show m.1+1<=b.1 by omega),hx,<-hi,<-Us (show m.1+1<=b.1 by omega)];exact e2
 have:=(QbL.1 hxb).2;unfold pw at this;exact⟨Lf _,by omega⟩
theorem Qbk{Bs:List (Nat×Nat)}{D:LB}(h:D.length=Bs.length){j:Nat}(hj:j<Bs.length):(Bs.getD j (0,0),D.getD j ByteArray.empty)∈Bs.zip D:=Ik (QdW h hj)
theorem YT{Bs:List (Nat×Nat)}{D:LB}(h:D.length=Bs.length){e:He}(he:e∈Bs.zip D) : ∃j,j<Bs.length∧e=(Bs.getD j (0,0),D.getD j ByteArray.empty):=by
 obtain⟨j,hj,hv⟩:=LZ he;rw[QdX h] at hj;refine⟨j,hj,?_⟩
 have:=QdW h hj;rw[Lc (by rw[QdX h];exact hj),hv] at this
 exact NE this
theorem QbU{L:List (Nat×Nat)}(hn:L.Nodup){i j:Nat}(hi:i<L.length)(hj:j<L.length)(h:L[i]=L[j]):i=j:=by
 have hw:=Np.1 hn
 rcases Ii i j with h1|h1|h1
 ·exact absurd h (hw i j hi hj h1)
 ·exact h1
 ·exact absurd h.symm (hw j i hj hi h1)
theorem Qfo{Bs:List (Nat×Nat)}(hn:Bs.Nodup){j:Nat}(hj:j<Bs.length):ixM Bs (Bs.getD j (0,0)).1 (Bs.getD j (0,0)).2=some j:=by
 have hm:Bs.getD j (0,0)∈Bs:=Q5 hj;have e:((Bs.getD j (0,0)).1,(Bs.getD j (0,0)).2)=Bs.getD j (0,0):=rfl;unfold ixM;rw[e,if_pos hm]
 congr 1
 have hlt:=NU hm;have h1:Bs[Bs.idxOf (Bs.getD j (0,0))]=Bs[j]:=by
  rw[IT hlt,La,Lc hj];rfl
 exact QbU hn hlt hj h1
theorem Qdr{Bs:List (Nat×Nat)}{D:LB}(h:D.length=Bs.length){x k j:Nat}(e:ixM Bs x k=some j):((x,k),D.getD j ByteArray.empty)∈Bs.zip D:=by
 have:=Qbk h (QiP e)
 rwa [Qmt e] at this
def vlC(l:List (Nat×BA))(i:Nat):BA:=(l.getD ((ixs l).idxOf i) noC).2
theorem QjT{l:List (Nat×BA)}{i:Nat}(h:i∈ixs l):(ixs l).idxOf i<l.length∧l.getD ((ixs l).idxOf i) noC=(i,vlC l i):=by
 have hlt:=NU h;have hlt2:(ixs l).idxOf i<l.length:=by rwa [Ln] at hlt
 refine⟨hlt2,Prod.ext ?_ rfl⟩
 have:=IT hlt;rw[IJ] at this;rw[La,Lc hlt2];exact this
theorem Qm4{l:List (Nat×BA)}(hp:Asc (ixs l)){j:Nat}(hj:j<l.length):vlC l (l.getD j noC).1=(l.getD j noC).2:=by
 have hm:(l.getD j noC).1∈ixs l:=LE.2 ⟨_,by rw[La,Lc hj];exact LO _,rfl⟩
 obtain⟨h1,h2⟩:=QjT hm;have e:(ixs l).idxOf (l.getD j noC).1=j:=by
  refine Qe5 hp (by rw[Ln];exact h1) (by rw[Ln];exact hj) ?_
  rw[Qds,Qds,h2]
 rw[vlC,e]
structure Tre(c n:Nat)(Bs:List (Nat×Nat))(D:LB)(V:Nat->BA)(Q:Nat->Prop)(K:List He)(R:LB):Prop where
 nodup:Bs.Nodup
 fit : ∀b∈Bs,b.1<=40∧b.2<2^40
 len:D.length=Bs.length
 dsz : ∀d∈D,d.size=c
 fn:Fn K
 tl : ∀b∈Cv.dnL 41 0 n,Tl c K b.1 b.2 (xd c (ixM Bs) D V b.1 b.2)
 vis : ∀b∈Cv.dnL 41 0 n,Vis (ixM Bs) Q b.1 b.2
 pk:(Cv.dnL 41 0 n).map (fun b=>xd c (ixM Bs) D V b.1 b.2)=R
theorem Tre.lt{c n:Nat}{Bs:List (Nat×Nat)}{D:LB}{V:Nat->BA}{Q:Nat->Prop}{K:List He}{R:LB}(t:Tre c n Bs D V Q K R) : ∀h k j,ixM Bs h k=some j->j<D.length:=fun h k j e=>by rw[t.len];exact QiP e
theorem QjO{c n:Nat}{Bs:List (Nat×Nat)}{D:LB}{V:Nat->BA}{Q:Nat->Prop}{K:List He}{R:LB}(nodup:Bs.Nodup)(fit : ∀b∈Bs,b.1<=40∧b.2<2^40)(len:D.length=Bs.length)(dsz : ∀d∈D,d.size=c)(fn:Fn K)
  (h1 : ∀e∈K,e∈Bs.zip D∨(e.1 ∉ Bs∧e.1.1=0∧Q e.1.2∧e.2=dg c (Qm (V e.1.2)))) (h2 : ∀e∈Bs.zip D,e∈K)
  (hR:R.length=(Cv.dnL 41 0 n).length) (ht : ∀j,j<(Cv.dnL 41 0 n).length->Tl c K ((Cv.dnL 41 0 n).getD j (0,0)).1 ((Cv.dnL 41 0 n).getD j (0,0)).2 (R.getD j ByteArray.empty)):Tre c n Bs D V Q K R:=by
 have key:=QlW (c:=c) (M:=ixM Bs) (D:=D) (V:=V) (Q:=Q) (K:=K) (fun e he=>by
  rcases h1 e he with h|⟨h,h'⟩
  ·obtain⟨j,hj,rfl⟩:=YT len h;exact .inl ⟨j,Qfo nodup hj,rfl⟩
  ·exact .inr ⟨JN.2 h,h'⟩) (fun h k j e=>⟨_,h2 _ (Qdr len e)⟩)
 have at' : ∀b∈Cv.dnL 41 0 n,∃j,j<(Cv.dnL 41 0 n).length∧(Cv.dnL 41 0 n).getD j (0,0)=b:=fun b hb=>by
  obtain⟨j,hj,rfl⟩:=LZ hb;exact⟨j,hj,by rw[La,Lc hj];rfl⟩
 refine⟨nodup,fit,len,dsz,fn,fun b hb => ?_,fun b hb => ?_,?_⟩
 ·obtain⟨j,hj,rfl⟩:=at' b hb;have:=ht j hj;rw[(key _ _ _ this).2];exact this
 ·obtain⟨j,hj,rfl⟩:=at' b hb;exact(key _ _ _ (ht j hj)).1
 ·refine II (by rw[Ln,hR]) fun j a b => ?_
  rw[Ln] at a;have:=(key _ _ _ (ht j a)).2;rw[IJ];rw[La,Lc a,La,Lc b] at this;exact this
section
variable {k:Int} {n:Nat} {l:List (Nat×BA)} {D:LB}
end
end
section
open Pl (pw QK QB Ue)
open Cv (Row All Til But cov)
theorem Qnz(q:Nat):sb q≠q:=by unfold sb;split <;> omega
theorem Qlc(q:Nat):sb q / 2=q / 2:=by unfold sb;split <;> omega
section
variable {n i H:Nat} {A B:List (Nat×Nat)}
theorem Wy.top(h:Wy n i A H B):(H,i / 2^H)∈Cv.dnL 41 0 n:=by rw[h.all];simp
theorem Wy.free(h:Wy n i A H B)(t:Nat):(t,i / 2^t) ∉ wyB i H A B:=fun hm=>by
 rw[wyB,Nk,Nk] at hm
 rcases hm with hm|hm|hm
 ·obtain⟨g,_,e⟩:=LE.1 hm;injection e with e1 e2
  subst e1;exact Qnz _ e2
 ·have:=h.no_left hm;simp at this
 ·have:=h.no_right hm;simp at this
theorem Wy.others(h:Wy n i A H B){b:Nat×Nat}(hb:b∈A++B):b∈Cv.dnL 41 0 n∧b≠(H,i / 2^H):=by
 refine⟨?_,fun e => ?_⟩
 ·rw[h.all]
  rcases Nk.1 hb with hb|hb
  ·exact List.mem_append_left _ hb
  ·exact List.mem_append_right _ (LX _ hb)
 ·refine h.free H ?_
  rw[wyB,<-e];exact List.mem_append_right _ hb
theorem Wy.nodup(h:Wy n i A H B)(hn:n<=2^40):(wyB i H A B).Nodup:=by
 have hr:=Qme n hn;refine List.nodup_append.2 ⟨?_,?_,fun a ha b hb e => ?_⟩
 ·refine Np.2 fun x y hx hy hxy e => ?_
  simp only[bes,List.getElem_map,List.getElem_range] at e;injection e with e1 _
  omega
 ·have:=QaB hr;rw[h.all] at this;exact this.sublist ((List.Sublist.refl A).append (List.sublist_cons_self _ _))
 ·subst e;obtain⟨o1,o2⟩:=h.others hb;obtain⟨g,hg,e⟩:=LE.1 ha;have hg:=IU.1 hg;subst e;have hi:(sb (i / 2^g)*2^g) / 2^g=sb (i / 2^g):=Ng _ (LL g);have hH:(sb (i / 2^g)*2^g) / 2^H=i / 2^H:=by
   rw[Us (show g+1<=H by omega),Us (i:=i) (show g+1<=H by omega)]
   congr 1
   rw[Us (show g<=g+1 by omega),hi,Us (i:=i) (show g<=g+1 by omega),show g+1 - g=1 by omega,Nat.pow_one]
   exact Qlc _
  exact o2 (QdF hr _ o1 _ h.top _ hi hH)
end
theorem Qj5{i H:Nat} : ∀b∈bes i H,(b.2+1)*2^b.1<=(i / 2^H+1)*2^H:=by
 intro b hb;obtain⟨h,hh,rfl⟩:=LE.1 hb;have hh:=IU.1 hh;obtain⟨d,rfl⟩ : ∃d,H=h+1+d:=⟨H - h - 1,by omega⟩
 have h1:(sb (i / 2^h)+1)<=(i / 2^(h+1)+1)*2:=by
  rw[<-Of];generalize i / 2^h=q;unfold sb
  split <;> omega
 have h2:(sb (i / 2^h)+1)*2^h<=(i / 2^(h+1)+1)*2^(h+1):=by
  rw[LA,<-L4,Nat.mul_right_comm];exact Lo _ (by rw[<-LA];exact h1)
 refine Lm h2 ?_
 have h3:i / 2^(h+1)+1<=(i / 2^(h+1+d)+1)*2^d:=by
  have e:i / 2^(h+1+d)=i / 2^(h+1) / 2^d:=by rw[Nc,<-I0]
  rw[e];exact Nat.lt_mul_of_div_lt (Im _) (LL d)
 calc (i / 2^(h+1)+1)*2^(h+1)<=(i / 2^(h+1+d)+1)*2^d*2^(h+1):=Lo _ h3
  _=(i / 2^(h+1+d)+1)*2^(h+1+d):=by rw[L4,<-I0,I9 d]
theorem Wy.innX{n i H:Nat}{A B:List (Nat×Nat)}(h:Wy n i A H B)(hn:n<=2^40) : ∀b∈wyB i H A B,(b.2+1)*2^b.1<=n:=by
 have hall:=JG n hn;rw[h.all] at hall;intro b hb;rw[wyB,Nk,Nk] at hb
 rcases hb with hb|hb|hb
 ·exact Lm (Qj5 b hb) (hall (H,i / 2^H) (by simp))
 ·exact hall b (by simp[hb])
 ·exact hall b (by simp[hb])
section
variable {n i H:Nat} {A B:List (Nat×Nat)}
def knP(c:Nat)(i:Nat)(x:BA)(Bs:List (Nat×Nat))(D:LB):List He:=((0,i),dg c (Qm x))::Bs.zip D
theorem Qm7(h:Wy n i A H B)(c:Nat)(x:BA){D:LB}(hD:D.length=(wyB i H A B).length) : ∀g,g<=H->Tl c (knP c i x (wyB i H A B) D) g (i / 2^g) (rs c i (dg c (Qm x)) (D.take g)):=by
 have hlen:=QdV i H A B;intro g
 induction g with
 | zero =>
  intro _;rw[Nj,Ib,IW,rs];exact Nq ..
 | succ g ih =>
  intro hg;have hgD:g<D.length:=by omega
  have hsib:((g,sb (i / 2^g)),D.getD g ByteArray.empty)∈knP c i x (wyB i H A B) D:=by
   refine LX _ ?_
   have:=Qbk hD (show g<(wyB i H A B).length by omega)
   have e:(wyB i H A B).getD g (0,0)=(g,sb (i / 2^g)):=by
    rw[wyB,JJ _ _ _ (by rw[Jj];omega),La,bes,Nn,List.getElem?_range (by omega)];rfl
   rwa [e] at this
  have hhalf:i / 2^(g+1)=i / 2^g / 2:=by rw[Of]
  rw[LQ hgD,QfK,Lv,N6 (by omega)]
  have hDg:D[g]=D.getD g ByteArray.empty:=by rw[La,Lc hgD];rfl
  rw[hDg];refine .inr ⟨fun u hu => ?_,?_⟩
  ·rcases LH.1 hu with e|hu
   ·injection e with e _
    injection e with e _
    cases e
   ·obtain⟨j,hj,e⟩:=YT hD hu;injection e with e _
    exact h.free (g+1) (by rw[e];exact Q5 hj)
  ·have own:=ih (by omega)
   have oth:=Tl.at (c:=c) hsib;generalize i / 2^g=q at *;rw[hhalf];unfold stT;unfold sb at oth
   by_cases hq:q % 2=1
   ·rw[if_pos hq] at oth ⊢;refine⟨_,_,?_,?_,rfl⟩
    ·rwa [show 2*(q / 2)=q - 1 by omega]
    ·rwa [show 2*(q / 2)+1=q by omega]
   ·rw[if_neg hq] at oth ⊢;refine⟨_,_,?_,?_,rfl⟩
    ·rwa [show 2*(q / 2)=q by omega]
    ·rwa [show 2*(q / 2)+1=q+1 by omega]
theorem QjP{k:Int}(h:Wy n i A H B)(hn:n<=2^40)(hk:1<=k∧k<=32){D:LB}(hf:fil k (H+A.length+B.length) D){V:Nat->BA}(x:BA)(hx:V i=x):Tre (clk k) n (wyB i H A B) D V (fun t=>t=i) (knP (clk k) i x (wyB i H A B) D) (pkP (clk k) i A.length H D x):=by
 have hlen:=QdV i H A B;have hD:D.length=(wyB i H A B).length:=by rw[hf.1,hlen];omega
 have hck:(clk k:Int)=k:=Qbs hk.1 hk.2;have hnd:=h.nodup hn;have hin:=h.innX hn;have hfree : ∀e∈(wyB i H A B).zip D,e.1≠(0,i):=fun e he e0=>by
  obtain⟨j,hj,rfl⟩:=YT hD he;refine h.free 0 ?_
  rw[Nj,Ib,<-e0];exact Q5 hj
 have hlA:A.length+B.length+H=D.length:=by omega
 have hM:(Cv.dnL 41 0 n).length=A.length+(B.length+1):=by rw[h.all,Ld,Lu]
 refine QjO hnd (fun b hb => ?_) hD (fun d hd=>by have:=hf.2 d hd;omega) (fun e he e' he' heq => ?_) (fun e he => ?_) (fun e he=>LX _ he) ?_ (fun j hj => ?_)
 ·have:=hin b hb;have h1:b.2<n:=Qaq this;refine⟨Cv.pw40 (Lm (by have:=Lo (pw b.1) (show 1<=b.2+1 by omega);rw[LP] at this;exact this) (Lm this hn)),by omega⟩
 ·rcases LH.1 he with rfl|he <;> rcases LH.1 he' with rfl|he'
  ·rfl
  ·exact absurd heq.symm (hfree e' he')
  ·exact absurd heq (hfree e he)
  ·obtain⟨a,ha,rfl⟩:=YT hD he;obtain⟨b,hb,rfl⟩:=YT hD he';have heq:(wyB i H A B).getD a (0,0)=(wyB i H A B).getD b (0,0):=heq;rw[La,Lc ha,La,Lc hb] at heq;obtain rfl:=QbU hnd ha hb heq
   rfl
 ·rcases LH.1 he with rfl|he
  ·refine .inr ⟨fun hb=>h.free 0 ?_,rfl,rfl,?_⟩
   ·rw[Nj,Ib];exact hb
   ·show dg (clk k) (Qm x)=dg (clk k) (Qm (V i))
    rw[hx]
  ·exact .inl he
 ·rw[pkP,Ld,Lu,Lv,LD,LD,LD,hM];omega
 ·have hmem : ∀t,t<A.length+B.length->((A++B).getD t (0,0),D.getD (H+t) ByteArray.empty)∈knP (clk k) i x (wyB i H A B) D:=fun t ht=>by
   have:=Qbk hD (show H+t<(wyB i H A B).length by omega)
   have e:(wyB i H A B).getD (H+t) (0,0)=(A++B).getD t (0,0):=by
    rw[wyB];have:=JI (0,0) (bes i H) (A++B) t
    rwa [Jj] at this
   rw[e] at this;exact LX _ this
  rw[hM] at hj;have hpk:=QmJ (c:=clk k) (i:=i) (a:=A.length) (H:=H) (D:=D) (x:=x) (by omega) j
  rw[hpk,h.all]
  by_cases h1:j<A.length
  ·rw[if_pos h1,JJ _ _ _ h1];have:=hmem j (by omega)
   rw[JJ _ _ _ h1] at this;exact Tl.at this
  ·rw[if_neg h1]
   by_cases h2:j=A.length
   ·rw[if_pos h2,h2];have e:(A++(H,i / 2^H)::B).getD A.length (0,0)=(H,i / 2^H):=by
     have:=JI (0,0) A ((H,i / 2^H)::B) 0
     rwa [IQ] at this
    rw[e];exact Qm7 h (clk k) x hD H (Lb _)
   ·rw[if_neg h2];obtain⟨t,rfl⟩ : ∃t,j=A.length+(t+1):=⟨j - A.length - 1,by omega⟩
    have e:(A++(H,i / 2^H)::B).getD (A.length+(t+1)) (0,0)=B.getD t (0,0):=by rw[JI,Nz]
    have:=hmem (A.length+t) (by omega)
    rw[JI] at this;rw[e,show H+(A.length+(t+1) - 1)=H+(A.length+t) by omega]
    exact Tl.at this
end
section
variable {k:Int} {m n:Nat} {D:LB}
theorem Qmw(c:Nat)(hm:m<=n)(hn:n<=2^40)(hD:D.length=(kb m n).length) : ∀h x,(x+1)*2^h<=n->(∀b∈kb m n,∀i,i / 2^h=x->i / 2^b.1=b.2->b.1<=h)->Tl c ((kb m n).zip D) h x (dgK c (kb m n) D h x):=by
 have hr:=JO hm hn;have hin : ∀h x,(h,x)∈kb m n->((h,x),dgK c (kb m n) D h x)∈(kb m n).zip D:=fun h x hb=>by
  obtain⟨j,hj,e⟩:=LZ hb;have e':(kb m n).getD j (0,0)=(h,x):=by rw[La,Lc hj];exact e
  have h1:=Qbk hD hj;have h2:=Qil (c:=c) (D:=D) hr hj;rw[e'] at h1 h2;rw[h2];exact h1
 intro h
 induction h with
 | zero =>
  intro x hx hb
  by_cases hin':(0,x)∈kb m n
  ·exact hin 0 x hin'
  ·exfalso
   rw[Nj,NN] at hx;obtain⟨b,hbm,e⟩:=Qgu hr (Lf x) (by omega)
   have h0:=hb b hbm x (by rw[Nj,Ib]) e
   have h1:b.1=0:=by omega
   rw[h1,Nj,Ib] at e;exact hin' (by rw[e,<-h1];exact hbm)
 | succ h ih =>
  intro x hx hb
  by_cases hin':(h+1,x)∈kb m n
  ·exact .inl (hin (h+1) x hin')
  ·obtain⟨i1,i2⟩:=Qdq hx;rw[Qbz hin'];have low : ∀y,y / 2=x -> ∀b∈kb m n,∀i,i / 2^h=y->i / 2^b.1=b.2->b.1<=h:=fun y hy b hbm i e1 e2=>by
    have e3:i / 2^(h+1)=x:=by rw[<-Of,e1,hy]
    have h1:=hb b hbm i e3 e2
    by_cases h2:b.1=h+1
    ·rw[h2,e3] at e2;exact absurd (show(h+1,x)∈kb m n by rw[e2,<-h2];exact hbm) hin'
    ·omega
   refine .inr ⟨fun u hu => ?_,_,_,ih _ i1 (low _ (by omega)),ih _ i2 (low _ (by omega)),rfl⟩
   obtain⟨j,hj,e⟩:=YT hD hu;injection e with e _
   exact hin' (by rw[e];exact Q5 hj)
theorem QdR(hok:okK 3 k m n 0 D)(V:Nat->BA):Tre (clk k) n (kb m n) D V (fun _=>False) ((kb m n).zip D) (dgF (dgK (clk k) (kb m n) D) (cov 0 n)):=by
 obtain⟨⟨⟨_,hk⟩,hn,hm,_⟩,hf⟩:=hok;have hr:=JO hm hn;have hck:(clk k:Int)=k:=Qbs hk.1 hk.2;have hD:D.length=(kb m n).length:=hf.1;have hnd:=QaB hr;have hin:=JG n hn;refine QjO hnd (Qgt hr) hD (fun d hd=>by have:=hf.2 d hd;omega) (fun e he e' he' heq => ?_) (fun e he => .inl he) (fun e he=>he) ?_ (fun j hj => ?_)
 ·obtain⟨a,ha,rfl⟩:=YT hD he;obtain⟨b,hb,rfl⟩:=YT hD he';have heq:(kb m n).getD a (0,0)=(kb m n).getD b (0,0):=heq;rw[La,Lc ha,La,Lc hb] at heq;obtain rfl:=QbU hnd ha hb heq
  rfl
 ·rw[dgF,Ln,Cv.QH n hn]
 ·have hmm:(Cv.dnL 41 0 n).getD j (0,0)∈Cv.dnL 41 0 n:=Q5 hj;have e:(dgF (dgK (clk k) (kb m n) D) (cov 0 n)).getD j ByteArray.empty=dgK (clk k) (kb m n) D ((Cv.dnL 41 0 n).getD j (0,0)).1 ((Cv.dnL 41 0 n).getD j (0,0)).2:=by
   rw[dgF,Cv.QH n hn,La,Nn,Lc hj,La,Lc hj]
   rfl
  rw[e];refine Qmw (clk k) hm hn hD _ _ (hin _ hmm) fun b hb i e1 e2 => ?_
  have hbn:=(JZ hr b hb).2;unfold pw at hbn;exact Qiv hn hmm hbn e1 e2
theorem QiV(hm:m<=n)(hn:n<=2^40){b:Nat×Nat}(hb:b∈kb m n){t:Nat}(ht:b.1<t):ixM (kb m n) t (b.2 / 2^(t - b.1))=none:=JN.2 fun hx=>by
 have hi:(b.2*2^b.1) / 2^b.1=b.2:=Ng _ (LL _);have:=QdF (JO hm hn) _ hx _ hb (b.2*2^b.1) (by rw[Us (show b.1<=t by omega),hi]) hi
 rw[<-this] at ht;exact absurd ht (NB _)
end
end
end Go.Proofs.YtdocjikpcbmcgaaGreatDoor
