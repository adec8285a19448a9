/- Own work. -/
import Derived.Test.YtdocjikpcbmcgaaGreatDoorQj10
set_option maxRecDepth 100000
set_option maxHeartbeats 1000000
namespace Go.Proofs.YtdocjikpcbmcgaaGreatDoor
open Go.RowKit
attribute [local go_sem ↓] Go.wp_at_zero Go.wp_at_succ
theorem Qbl{a b:BA}(h:a.data.toList=b.data.toList):a=b:=by
 obtain⟨⟨l⟩⟩:=a;obtain⟨⟨m⟩⟩:=b;simp only at h;rw[h]
theorem QfQ(w:World)(x:BA) : ∀(j:Nat) u,([x].map Value.string)[j]? = some u->(w.alloc (.cells #[.string x] 9)).cell? ((⟨w.heap.size,0,none⟩:Addr).add j)=some u:=fun j u hu=>by
 rw[Addr.add_mid];exact Qv w [.string x] 9 j u hu
structure DigS(w:World)(p g c k:Nat)(l0:List UInt8)(wr:World)(j:Nat)(acc:LB)(s:BA):Prop where
 rd:Rdr wr p s 0
 ch:Ch p w wr
 own:wr.ownsRow g 9 1 (.slice (some ⟨g,0,none⟩) j c) j (acc.map Value.string)
 jc:j<=c
 hg:w.heap.size<=g
 go:YB c k l0=acc++YB (c - j) k s.data.toList
 sz:(c - j)*k=s.size
theorem Qg0{c j k:Nat}(hj:j<c){s:BA}{l0:List UInt8}{acc:LB}(h1:YB c k l0=acc++YB (c - j) k s.data.toList)(h2:(c - j)*k=s.size) :
  k<=s.size∧YB c k l0=(acc++[s.extract 0 k])++YB (c - (j+1)) k (s.extract k s.size).data.toList∧(c - (j+1))*k=(s.extract k s.size).size:=by
 obtain⟨m,hm⟩:=Ze (c - (j+1));have e:c - j=m+1:=by omega
 rw[e,LI,LP] at h2;have h3:=congrArg List.length (JH s k);rw[Qo,LD,Qo] at h3;refine⟨by omega,?_,by rw[hm];omega⟩
 rw[h1,e,hm,YB,JH,Lt,List.singleton_append]
 congr 2
 apply Qbl
 rw[Qec]
theorem Ox(w:World)(p c k:Nat)(s:BA)(hr:Rdr w p s 0)(hs:s.size<=281474976710656)(hc:c<=1099511627776)(hk:k<=32)(h : ¬c*k=s.data.toList.length) :
  Calls Tryz.prog 107 #[.pointer (some ⟨p,0,none⟩),.int .u64 (c:Int),.int .i64 (k:Int)] w fun e w'=>e=pnc∧w'=w:=by
 have HL:=JP w p 0 s hr;rw[Qo] at h;have hm:c*k<=1099511627776*32:=Wg hc hk;have e1:IntKind.u64.wrap (k:Int)=(k:Int):=by rw[IntKind.wrap_u64];omega
 have e2:IntKind.u64.wrap ((c:Int)*(k:Int))=((c*k:Nat):Int):=by rw[IntKind.wrap_u64,<-N5];omega
 have e3:=szw hs;have e4:(((c*k:Nat):Int) == (s.size:Int))=false:=beq_false_of_ne (by omega)
 generalize c*k=q at *;clear hr hs hc hk h hm
 go_enter Tryz.func107,Tryz.ntmps107
 go_wp2_with (first
  | (go_at_call 153;with_reducible refine HL.mono ?_;rintro x w2 ⟨rfl,rfl⟩)
  | (go_at_call 106;refine(Ub _ _ (by first|rfl|exact e4|exact decide_eq_false (by omega))).mono ?_;rintro x w3 ⟨rfl,rfl⟩))
 exact⟨rfl,rfl,rfl⟩
theorem Oy(w:World)(p c k:Nat)(s:BA)(hr:Rdr w p s 0)(hs:s.size<=281474976710656)(hc:c<=1099511627776)(hk:k<=32)(h:c*k=s.data.toList.length) :
  Calls Tryz.prog 107 #[.pointer (some ⟨p,0,none⟩),.int .u64 (c:Int),.int .i64 (k:Int)] w fun e w' => ∃g,e = .returned (.slice (some ⟨g,0,none⟩) c c)∧Qk w' w.heap.size (.slice (some ⟨g,0,none⟩) c c) (YB c k s.data.toList)∧Ch p w w' ∧ ∃t,Rdr w' p t 0:=by
 have HL:=JP w p 0 s hr;rw[Qo] at h;have hm:c*k<=1099511627776*32:=Wg hc hk;obtain⟨i0,i1,i2,i3,i4⟩:=info_parts Tryz.infoS;have HI:Hid (Tryz.prog.info? 9=some i0∧i0.zero=some (.string ByteArray.empty)∧i0.size=1∧i0.bytes=16):=⟨i1,i2,i3,i4⟩;have e1:IntKind.u64.wrap (k:Int)=(k:Int):=by rw[IntKind.wrap_u64];omega
 have e2:IntKind.u64.wrap ((c:Int)*(k:Int))=(s.size:Int):=by rw[IntKind.wrap_u64,<-N5];omega
 have e3:=szw hs;have HK:Hid (Rdr w p s 0∧s.size<=281474976710656∧c<=1099511627776∧k<=32∧c*k=s.size∧p<w.heap.size):=⟨hr,hs,hc,hk,h,hr.lt⟩;have hc':(c:Int)<=1099511627776:=by omega
 clear hr hs hc hk h hm i1 i2 i3 i4
 go_enter Tryz.func107,Tryz.ntmps107
 go_wp2_with (first
  | (go_at_call 153;with_reducible refine HL.mono ?_;rintro x w2 ⟨rfl,rfl⟩)
  | (go_at_call 106;refine(YD _ _ rfl).mono ?_;rintro x w3 ⟨rfl,rfl⟩)
  | (at_make;refine wpList_make_own _ rfl _ _ _ rfl w3.heap.size 9 i0 (.string ByteArray.empty) 1 Tryz.underlying22 HI.out.1 HI.out.2.1 HI.out.2.2.1 .i64 .u64 _ c rfl rfl rfl ?c1 ?c2 (Lb _) ?_))
 case c1=>rw[HI.out.2.2.2];have:=HK.out;omega
 case c2=>have:=HK.out;unfold maxLen;omega
 intro w4 o4 g4;obtain⟨g,hg⟩:=Ze w3.heap.size;rw[hg] at o4;have HS:Hid (DigS w3 p g c k s.data.toList w4 0 [] s):=by
  obtain⟨k1,k2,k3,k4,k5,k6⟩:=HK.out;have hb:Zb w3 w4:=(Below.refl _ _).grown g4 (Lb _) (fun k hk=>by cases hk)
  exact⟨k1.next hb k6,(Ch.refl p w3).low hb k6,o4,Lf _,by omega,by simp,by simpa using k5⟩
 rw[hg];clear o4 g4 HL hg e1 e2 e3;go_wp2
 go_loopg [7,8,9,22] c (fun m l d8 e9 ix wr => ∃(j:Nat) (acc:LB) (t:BA),m=c - j∧ix = .int .u64 (j:Int)∧l = .slice (some ⟨g,0,none⟩) j c∧DigS w3 p g c k s.data.toList wr j acc t)
 case atStart =>
  go_light;exact⟨0,[],s,rfl,rfl,rfl,HS.out⟩
 case round =>
  obtain⟨j,acc,t,rfl,rfl,rfl,hS⟩:=hrel;obtain⟨k1,k2,k3,k4,k5,k6⟩:=HK.out;have HT:Hid (DigS w3 p g c k s.data.toList wr j acc t):=hS;have hj0:(0:Int)<=(j:Int):=Le _
  by_cases hlt:j<c
  ·have hlt':(j:Int)<(c:Int):=by omega
   obtain⟨n1,n2,n3⟩:=Qg0 hlt hS.go hS.sz;have HR:=Qak wr p 0 t k hS.rd;have htk:tkC t 0 (k:Int)=(t.extract 0 k,0,t.extract k t.size):=by rw[tkC,if_neg (by simp),if_neg (by omega)];rfl
   rw[htk] at HR;have e2:IntKind.u64.wrap ((j:Int)+1)=((j+1:Nat):Int):=by rw[IntKind.wrap_u64];omega
   have HX:Hid (j+1<=c∧w3.heap.size<=g∧p<w3.heap.size):=⟨hlt,hS.hg,k6⟩;generalize t.extract 0 k=d at *;generalize t.extract k t.size=t2 at *;have HN:Hid (YB c k s.data.toList=(acc++[d])++YB (c - (j+1)) k t2.data.toList∧(c - (j+1))*k=t2.size):=⟨n2,n3⟩;have HO:Hid (∀w1,Ch p wr w1->w1.ownsRow g 9 1 (.slice (some ⟨g,0,none⟩) j c) j (acc.map Value.string)∧Ch p w3 w1):=fun w1 hc1=>by
    refine⟨Qj hS.own fun b hb _ => ?_,hS.ch.trans hc1⟩
    cases hb;exact hc1.block g (hS.own.lt g rfl).2 (by have:=hS.hg;omega)
   clear hS k1 k2 k3 k4 k5 k6 n1 n2 n3 htk HS HT
   go_wp2_with (first
    | (go_at_call 151;with_reducible refine HR.mono ?_;rintro x w1 ⟨rfl,q1,q2⟩;replace HO:=Qg (HO.out _ q2))
    | (go_at_call 106;refine(YD _ _ rfl).mono ?_;rintro x w5 ⟨rfl,rfl⟩)
    | (at_builtin;refine wpList_append_fits _ rfl _ _ _ rfl g 9 i0 1 Tryz.underlying22 HI.out.1 HI.out.2.2.1 g j c (acc.map Value.string) rfl (HO.out.1.alloc _) ⟨w5.heap.size,0,none⟩ 1 1 ([d].map Value.string) rfl rfl (QfQ w5 d) (by intro u hu;obtain⟨y,_,rfl⟩:=LE.1 hu;rfl) HX.out.1 ?_;intro w4 o4 g4))
   go_roundg (c - (j+1))
   case rel =>
    go_light;obtain⟨x3,x6,x7⟩:=HX.out;obtain⟨y1,y2⟩:=HO.out;have hlt:=y1.lt g rfl;have hb:Below w3.heap.size w5 w4:=(((Below.refl _ w5).alloc y2.below.size _)).grown g4 (by simp;have:=y2.below.size;omega) (fun k hk=>by cases hk;omega)
    have hb':Below (p+1) w5 w4:=hb.mono (by omega)
    refine⟨j+1,acc++[d],t2,rfl,by first|rfl|(congr 1),rfl,⟨q1.next hb' (by omega),y2.low hb x7,?_,x3,x6,HN.out.1,HN.out.2⟩⟩
    rw[LK];exact o4
   case measure=>go_light;have:=HX.out.1;omega
  ·obtain rfl:j=c:=by have:=hS.jc;omega
   have hlt' : ¬(j:Int)<(j:Int):=by omega
   clear hS k1 k2 k3 k4 k5 k6 hlt;go_wp2
   go_ret
   have hS:=HT.out;have hl:acc.length=j:=by have:=hS.own.1;simpa using this
   have e:=hS.go;rw[ND,YB,L6] at e;refine⟨g,rfl,?_,hS.ch,_,hS.rd⟩
   rw[e,Qk,hl];exact hS.own.mono hS.hg
section
open Cv (rst cov Yh)
abbrev pv6(kd k:Int)(old size:Nat)(s d:Value):Value := .agg #[.int .i64 kd,.int .i64 k,.int .u64 (old:Int),.int .u64 (size:Int),s,d]
theorem Yu(w:World)(a b c d e f:Value) : ∃W,w.alloc (.cells #[a,b,c,d,e,f] 55)=W∧Six W w.heap.size a b c d e f∧Zb w W∧W.heap.size=w.heap.size+1 :=
 ⟨_,rfl,QV w a b c d e f,bal (Below.refl _ _) _,by simp⟩
theorem QlQ{w:World}{ao:OA}{b off len:Nat}{l:List Nat}(h:RdU w ao b off len l):Cv.Rd w ao b off len l:=⟨h.hl,h.ptr,fun _ hj=>h.at hj⟩
theorem QnA(a b:Nat)(ha:a<=100)(hb:b<=100):wrap64 ((a:Int)+(b:Int))=(a:Int)+(b:Int):=by unfold wrap64;omega
theorem Qns(a:Nat)(ha:a<=100):wrap64 (a:Int)=(a:Int):=by unfold wrap64;omega
theorem JT{w:World}{B e size n m c:Nat}{ao:OA}{xs:List Value}(h:w.ownsRow B e size (.slice ao m c) n xs):m=n:=by
 rcases h.2 with ⟨h,h0⟩|⟨g,cap,cur,h,_⟩
 ·cases h;omega
 ·cases h;rfl
section
variable (w:World) (kd k:Int) (old size:Nat) (sa:OA) (sb so sc:Nat) (S:List Nat) (d:Value)
theorem Qii(rs:RdU w sa sb so S.length S)(h : ¬(old=0∧S.length=1∧S.getD 0 0<size)) :
  Zr 155 #[pv6 kd k old size (.slice sa S.length sc) d] w (.tuple #[.int .u64 0,.int .i64 150]):=by
 by_cases h1:old=0
 ·subst h1
  by_cases h2:S.length=1
  ·have h3 : ¬S.getD 0 0<size:=fun h3=>h ⟨rfl,h2,h3⟩
   have hp:=rs.ptr (by omega)
   subst hp;obtain⟨W,hW,h6,hb,hz⟩:=Yu w (.int .i64 kd) (.int .i64 k) (.int .u64 0) (.int .u64 (size:Int)) (.slice (some ⟨sb,so,none⟩) 1 sc) d;obtain⟨e0,e1,e2,e3,e4,e5⟩:=h6.cells;have HB:Hid (Zb w W):=hb;have hc:=(rs.next hb).at (j:=0) (by omega)
   rw[IQ] at hc;generalize S.getD 0 0=i at *;have h3':decide ((size:Int)<=(i:Int))=true:=decide_eq_true (by omega)
   have h3n:size<=i:=by omega
   rw[h2];clear rs h h2 h3 h6 hb
   go_enter Tryz.func155,Tryz.ntmps155
   go_upto_region 1 with (fail)
   try rw[hW];clear hW
   go_quiet (fail)
   go_wp2
   go_ret2
   exact⟨rfl,Qd HB.out _⟩
  ·have h2' : ¬(S.length:Int)=1:=by omega
   generalize S.length=m at *;obtain⟨W,hW,h6,hb,hz⟩:=Yu w (.int .i64 kd) (.int .i64 k) (.int .u64 0) (.int .u64 (size:Int)) (.slice sa m sc) d;obtain⟨e0,e1,e2,e3,e4,e5⟩:=h6.cells;have HB:Hid (Zb w W):=hb;clear rs h h2 h6 hb
   go_enter Tryz.func155,Tryz.ntmps155
   go_upto_region 1 with (fail)
   try rw[hW];clear hW
   go_quiet (fail)
   go_wp2
   go_ret2
   exact⟨rfl,Qd HB.out _⟩
 ·have h1':((old:Int) != 0)=true:=bne_iff_ne.2 (by omega)
  obtain⟨W,hW,h6,hb,hz⟩:=Yu w (.int .i64 kd) (.int .i64 k) (.int .u64 (old:Int)) (.int .u64 (size:Int)) (.slice sa S.length sc) d;obtain⟨e0,e1,e2,e3,e4,e5⟩:=h6.cells;have HB:Hid (Zb w W):=hb;clear rs h h6 hb h1
  go_enter Tryz.func155,Tryz.ntmps155
  go_upto_region 1 with (fail)
  try rw[hW];clear hW
  go_quiet (fail)
  go_wp2
  go_ret2
  exact⟨rfl,Qd HB.out _⟩
theorem QgQ(hold:old<18446744073709551616)(rs:RdU w sa sb so S.length S)(hm:S.length<=17592186044416)(h : ¬(old=0∧Yh size S=0)) :
  Zr 156 #[pv6 kd k old size (.slice sa S.length sc) d] w (.tuple #[.int .u64 0,.int .i64 150]):=by
 obtain⟨W,hW,h6,hb,hz⟩:=Yu w (.int .i64 kd) (.int .i64 k) (.int .u64 (old:Int)) (.int .u64 (size:Int)) (.slice sa S.length sc) d;obtain⟨e0,e1,e2,e3,e4,e5⟩:=h6.cells;have HC:=Cv.Ut size W sa sb so S.length sc S (QlQ (rs.next hb)) hm;have HB:Hid (∀w',Zb W w'->Zb w w'∧w'.cell? ⟨w.heap.size,2,none⟩=some (.int .u64 (old:Int))):=fun w' hb'=>⟨Qa hb hb',(h6.next hb').cells.2.2.1⟩
 have HE:Hid (¬(old=0∧Yh size S=0)∧old<18446744073709551616):=⟨h,hold⟩;clear rs h h6 hb hm hold;generalize Yh size S=er at *;generalize (Cv.rstS size S).length=cc at *;generalize S.length=m at *
 by_cases h1:er=0
 ·subst h1;have h2:((old:Int) != 0)=true:=bne_iff_ne.2 (by have:=HE.out;omega)
  go_enter Tryz.func156,Tryz.ntmps156
  go_wp2_with (go_at_call 166;(try rw[hW]);with_reducible refine HC.mono ?_;rintro x w1 ⟨rfl,hb1⟩;obtain⟨q1,q2⟩:=HB.out _ hb1)
  go_ret2
  exact⟨rfl,q1⟩
 ·have h2:((er:Int) != 0)=true:=bne_iff_ne.2 (by omega)
  go_enter Tryz.func156,Tryz.ntmps156
  go_wp2_with (go_at_call 166;(try rw[hW]);with_reducible refine HC.mono ?_;rintro x w1 ⟨rfl,hb1⟩;obtain⟨q1,q2⟩:=HB.out _ hb1)
  go_ret2
  exact⟨rfl,q1⟩
theorem Qfb(rs:RdU w sa sb so S.length S)(hm:S.length<=17592186044416)(h:Yh size S=0) :
  Zr 156 #[pv6 kd k 0 size (.slice sa S.length sc) d] w (.tuple #[.int .u64 ((rst 0 size S).length:Nat),.int .i64 0]):=by
 obtain⟨W,hW,h6,hb,hz⟩:=Yu w (.int .i64 kd) (.int .i64 k) (.int .u64 0) (.int .u64 (size:Int)) (.slice sa S.length sc) d;obtain⟨e0,e1,e2,e3,e4,e5⟩:=h6.cells;have HC:=Cv.Qea size W sa sb so S.length sc S (QlQ (rs.next hb)) hm h;have HB:Hid (∀w',Zb W w'->Zb w w'∧w'.cell? ⟨w.heap.size,2,none⟩=some (.int .u64 0)):=fun w' hb'=>⟨Qa hb hb',(h6.next hb').cells.2.2.1⟩
 clear rs h h6 hb hm;generalize (rst 0 size S).length=cc at *;generalize S.length=m at *
 go_enter Tryz.func156,Tryz.ntmps156
 go_wp2_with (go_at_call 166;(try rw[hW]);with_reducible refine HC.mono ?_;rintro x w1 ⟨rfl,hb1⟩;obtain⟨q1,q2⟩:=HB.out _ hb1)
 go_ret2
 exact⟨rfl,q1⟩
theorem Qke(hn:size<=2^40)(hS:S.length<=17592186044416)(h : ¬(old<=size∧S.length=0)) :
  Zr 157 #[pv6 kd k old size (.slice sa S.length sc) d] w (.tuple #[.int .u64 0,.int .i64 150]):=by
 obtain⟨W,hW,h6,hb,hz⟩:=Yu w (.int .i64 kd) (.int .i64 k) (.int .u64 (old:Int)) (.int .u64 (size:Int)) (.slice sa S.length sc) d;obtain⟨e0,e1,e2,e3,e4,e5⟩:=h6.cells;have HC:=Cv.Oh old size size W;have HB:Hid (∀w',Zb W w'->Zb w w'∧w'.cell? ⟨w.heap.size,4,none⟩=some (.slice sa S.length sc)):=fun w' hb'=>⟨Qa hb hb',(h6.next hb').cells.2.2.2.2.1⟩
 have he:Cv.YK old size size=0↔old<=size:=by
  unfold Cv.YK;rw[if_neg (by omega),if_neg (by omega)]
  split <;> omega
 have HE:Hid (¬(Cv.YK old size size=0∧S.length=0)∧S.length<=17592186044416):=⟨by rw[he];exact h,hS⟩
 clear h h6 hb he hn hS;generalize Cv.YK old size size=er at *;generalize Cv.zl (Cv.JC old size size)=cc at *;generalize S.length=m at *
 by_cases h1:er=0
 ·subst h1;have h2:((m:Int) != 0)=true:=bne_iff_ne.2 (by have:=HE.out;omega)
  go_enter Tryz.func157,Tryz.ntmps157
  go_wp2_with (go_at_call 110;(try rw[hW]);with_reducible refine HC.mono ?_;rintro x w1 ⟨v,rfl,ho,hb1⟩;obtain⟨q1,q2⟩:=HB.out _ hb1)
  go_ret2
  exact⟨rfl,q1⟩
 ·have h2:((er:Int) != 0)=true:=bne_iff_ne.2 (by omega)
  go_enter Tryz.func157,Tryz.ntmps157
  go_wp2_with (go_at_call 110;(try rw[hW]);with_reducible refine HC.mono ?_;rintro x w1 ⟨v,rfl,ho,hb1⟩;obtain⟨q1,q2⟩:=HB.out _ hb1)
  go_ret2
  exact⟨rfl,q1⟩
theorem Qic(hn:size<=2^40)(h1:old<=size) :
  Zr 157 #[pv6 kd k old size (.slice sa 0 sc) d] w (.tuple #[.int .u64 (((cov 0 old).length+(cov old size).length:Nat):Int),.int .i64 0]):=by
 obtain⟨W,hW,h6,hb,hz⟩:=Yu w (.int .i64 kd) (.int .i64 k) (.int .u64 (old:Int)) (.int .u64 (size:Int)) (.slice sa 0 sc) d;obtain⟨e0,e1,e2,e3,e4,e5⟩:=h6.cells;have HC:=Cv.QeD old size size W hn (Lb _) h1;have HB:Hid (∀w',Zb W w'->Zb w w'∧w'.cell? ⟨w.heap.size,4,none⟩=some (.slice sa 0 sc)∧w'.cell? ⟨w.heap.size,2,none⟩=some (.int .u64 (old:Int))):=fun w' hb'=>⟨Qa hb hb',(h6.next hb').cells.2.2.2.2.1,(h6.next hb').cells.2.2.1⟩
 have HO:=fun W'=>Pl.QbW old W' (by omega)
 have hc1:=Cv.OR old (by omega)
 have hc2:=Cv.OQ old size h1 hn;have hc3:=Cv.Uu old (by omega)
 have hc4:(Cv.zl (cov old size)).length=(cov old size).length:=Cv.Qq _;rw[<-hc1] at HO;generalize (cov 0 old).length=a at *;generalize Cv.zl (cov old size)=Z at *;generalize (cov old size).length=b at *;obtain⟨c,hc⟩:=Ze (a+b);rw[hc];have ew2:wrap64 ((a:Int)+(b:Int))=(c:Int):=by unfold wrap64;omega
 have es:IntKind.u64.wrap (c:Int)=(c:Int):=by rw[IntKind.wrap_u64];omega
 have ha:(a:Int)<=40:=by omega
 have hbb:(b:Int)<=80:=by omega
 have HZ:Hid (Z.length=b):=hc4;have HCc:Hid ((a:Int)+(b:Int)=(c:Int)):=(by omega:(a:Int)+(b:Int)=(c:Int))
 clear h6 hb hn h1 hc1 hc2 hc3 hc hc4
 go_enter Tryz.func157,Tryz.ntmps157
 go_upto_region 4 with (go_at_call 110;(try rw[hW]);with_reducible refine HC.mono ?_;rintro x w1 ⟨v,rfl,ho,hb1⟩;obtain⟨q1,q2,q3⟩:=HB.out _ hb1;obtain⟨ao,m,cp,rfl⟩:=Cv.Qh ho;obtain rfl:m=b:=by(have h:=JT ho;rw[HZ.out] at h;exact h))
 clear ho hb1;have HQ:=Qg q1;clear q1
 go_wp2_with (go_at_call 80;with_reducible refine(HO _).mono ?_;rintro x w2 ⟨rfl,rfl⟩)
 go_ret2
 refine⟨?_,HQ.out⟩
 show Ending.returned (.tuple #[.int .u64 ((a:Int)+(m:Int)),.int .i64 0])=_
 rw[HCc.out]
end
section
variable (w:World) (kd k:Int) (old size:Nat) (sa:OA) (sb so sc:Nat) (S:List Nat) (d:Value)
theorem QgW(hn:size<=2^40)(rs:RdU w sa sb so S.length S)(h2:S.length=1)(h3:S.getD 0 0<size) :
  Zr 155 #[pv6 kd k 0 size (.slice sa S.length sc) d] w (.tuple #[.int .u64 ((rst 0 size S).length:Nat),.int .i64 0]):=by
 obtain⟨i,rfl⟩:=Iw.1 h2;have hp:=rs.ptr (by simp)
 subst hp;rw[show[i].getD 0 0=i from rfl] at h3
 obtain⟨H,g1,g2,g3,g4⟩:=Qjj hn h3;obtain⟨W,hW,h6,hb,hz⟩:=Yu w (.int .i64 kd) (.int .i64 k) (.int .u64 0) (.int .u64 (size:Int)) (.slice (some ⟨sb,so,none⟩) 1 sc) d;obtain⟨e0,e1,e2,e3,e4,e5⟩:=h6.cells;have HB:Hid (Zb w W):=hb;have hc:W.cell? ⟨sb,so,none⟩=some (.int .u64 (i:Int)):=by
  have:=(rs.next hb).at (j:=0) (by simp)
  rw[IQ] at this;exact this
 have hx:=u64_xor_nat size i (by omega) (by omega)
 have h41:(2:Nat)^(H+1)<=2^41:=L5 (by decide) (by omega)
 have HL:=fun W'=>Qmx (size ^^^ i) H W' (by omega) g2 g3
 clear h41 g2 g3;have HO:=fun W'=>Pl.QbW size W' (by omega)
 have ho:Pl.Y5 64 size<=64:=Pl.QkR 64 size;obtain⟨c,hcn⟩:=Ze ((rst 0 size [i]).length);rw[hcn] at g1 ⊢;have hq0:0<Pl.Y5 64 size:=by
  rw[<-Cv.OR size hn]
  cases hz:cov 0 size with
  | nil =>
   have ht:=Cv.J7 0 size (Lf _) hn;rw[hz] at ht;exact absurd ⟨Lf _,h3⟩ (ht.2 i (Lf _) h3)
  | cons b r=>simp
 generalize Pl.Y5 64 size=q at *;have h3':decide ((size:Int)<=(i:Int))=false:=decide_eq_false (by omega)
 have h3n : ¬size<=i:=by omega
 obtain⟨q',rfl⟩ : ∃q',q=q'+1:=⟨q - 1,by omega⟩
 have eq:((q'+1:Nat):Int) - 1=(q':Int):=by omega
 have hq':(q':Int)<=64:=by omega
 have hH':(H:Int)<=40:=by omega
 have hq2:q'<=100:=by omega
 have hc2:c<=1000∧H+q'=c:=by omega
 have HCc:Hid ((H:Int)+(q':Int)=(c:Int)):=(by omega:(H:Int)+(q':Int)=(c:Int))
 have hH2:H<=100:=by omega
 have ew:=Qns q' hq2;have ew2:=QnA H q' hH2 hq2;clear hq2 hc2 g1 hH2;have HB6:Hid (∀n,Six (W.drewN n) w.heap.size (.int .i64 kd) (.int .i64 k) (.int .u64 0) (.int .u64 (size:Int)) (.slice (some ⟨sb,so,none⟩) 1 sc) d∧(W.drewN n).cell? ⟨sb,so,none⟩=some (.int .u64 (i:Int))∧Zb w (W.drewN n)):=fun n=>⟨h6.next (Qd (Below.refl _ _) n),((Qd (Below.refl W.heap.size W) n).cell (Lh W _ hc)).trans hc,Qd hb n⟩
 clear rs hn h2 h3 g4 h6 hb ho hcn hq0
 go_enter Tryz.func155,Tryz.ntmps155
 go_upto_region 1 with (fail)
 try rw[hW];clear hW
 go_quiet (fail)
 go_upto_region 3 with (fail)
 have k0:=HB6.out nq;obtain⟨W2,hW2⟩:=Ze (W.drewN nq)
 try rw[hW2];rw[hW2] at k0;clear hW2 e0 e1 e2 e3 e4 e5 hc;obtain⟨k0,hc,HW⟩:=k0;obtain⟨e0,e1,e2,e3,e4,e5⟩:=k0.cells;have HW:=Qg HW
 go_quiet ((go_at_call 179;refine Calls.quiet_of_same (HL _)))
 go_wp2_with (go_at_call 80;with_reducible refine(HO _).mono ?_;rintro x w2 ⟨rfl,rfl⟩)
 go_ret2
 refine⟨?_,Qd HW.out _⟩
 show Ending.returned (.tuple #[.int .u64 ((H:Int)+(q':Int)),.int .i64 0])=_
 rw[HCc.out]
end
def cV:Option Nat->Value
 | some c => .tuple #[.int .u64 (c:Int),.int .i64 0]
 | none => .tuple #[.int .u64 0,.int .i64 150]
theorem Qkn{size i:Nat}(hn:size<=2^40):Yh size [i]=0↔i<size :=
 ⟨fun h=>by have:=(Cv.Oa h).2.2.1;simpa using this,fun h=>Cv.Qcq ⟨Lf _,h⟩ (by simp) hn⟩
theorem Qd6{k:Int}{old size:Nat}{S:List Nat}(hk:1<=k∧k<=32∧size<=2^40):cnt 1 k old size S=if old=0∧S.length=1∧S.getD 0 0<size then some (rst 0 size S).length else none:=by
 rw[cnt,if_pos hk,if_pos rfl]
 by_cases h1:S.length=1
 ·obtain⟨i,rfl⟩:=Iw.1 h1;have:=Qkn (i:=i) hk.2.2;simp only[this]
  rfl
 ·rw[if_neg (by rintro⟨_,h,_⟩;exact h1 h),if_neg (by rintro⟨_,h,_⟩;exact h1 h)]
theorem Qap{k:Int}{old size:Nat}{S:List Nat}(hk:1<=k∧k<=32∧size<=2^40):cnt 2 k old size S=if old=0∧Yh size S=0 then some (rst 0 size S).length else none:=by
 rw[cnt,if_pos hk,if_neg (by decide),if_pos rfl]
theorem OP{k:Int}{old size:Nat}{S:List Nat}(hk:1<=k∧k<=32∧size<=2^40):cnt 3 k old size S=if old<=size∧S=[] then some ((cov 0 old).length+(cov old size).length) else none:=by
 rw[cnt,if_pos hk,if_neg (by decide),if_neg (by decide),if_pos rfl]
theorem Qdd{kd k:Int}{old size:Nat}{S:List Nat}(h : ¬(1<=k∧k<=32∧size<=2^40)):cnt kd k old size S=none:=by rw[cnt,if_neg h]
theorem J6{kd k:Int}{old size:Nat}{S:List Nat}(h1:kd≠1)(h2:kd≠2)(h3:kd≠3):cnt kd k old size S=none:=by
 rw[cnt,if_neg h1,if_neg h2,if_neg h3]
 split <;> rfl
section
variable (w:World) (kd k:Int) (old size:Nat) (sa:OA) (sb so sc:Nat) (S:List Nat) (d:Value)
theorem Ut(hold:old<18446744073709551616)(hsz:size<18446744073709551616)(rs:RdU w sa sb so S.length S)(hm0:size<=2^40->S.length<=17592186044416) :
  Zr 105 #[pv6 kd k old size (.slice sa S.length sc) d] w (cV (cnt kd k old size S)):=by
 obtain⟨W,hW,h6,hb,hz⟩:=Yu w (.int .i64 kd) (.int .i64 k) (.int .u64 (old:Int)) (.int .u64 (size:Int)) (.slice sa S.length sc) d;obtain⟨e0,e1,e2,e3,e4,e5⟩:=h6.cells;have HB:Hid (∀w',Zb W w'->Zb w w'):=fun w' hb'=>Qa hb hb'
 have HBW:Hid (Zb w W):=hb;have rs':=rs.next hb
 by_cases h0:1<=k∧k<=32∧size<=2^40
 ·have hm:=hm0 h0.2.2;clear hm0;have hk1 : ¬k<1:=by omega
  have hk2 : ¬32<k:=by omega
  have hk3 : ¬(1099511627776:Int)<(size:Int):=by omega
  by_cases h1:kd=1
  ·subst h1;rw[Qd6 h0]
   by_cases hc:old=0∧S.length=1∧S.getD 0 0<size
   ·rw[if_pos hc];obtain⟨rfl,hc2,hc3⟩:=hc;have HC:Zr 155 #[.agg #[.int .i64 1,.int .i64 k,.int .u64 0,.int .u64 (size:Int),.slice sa S.length sc,d]] W (.tuple #[.int .u64 ((rst 0 size S).length:Nat),.int .i64 0]):=QgW W 1 k size sa sb so sc S d h0.2.2 rs' hc2 hc3;have hz0:((0:Nat):Int)=0:=rfl;rw[hz0] at hW e2;clear hz0;generalize (rst 0 size S).length=cc at *;generalize S.length=m at *;clear rs rs' h6 hb hm h0 hold hsz hc2 hc3
    go_enter Tryz.func105,Tryz.ntmps105
    go_wp2_with (go_at_call 155;with_reducible refine HC.mono ?_;rintro x w1 ⟨rfl,hb1⟩)
    go_ret2
    exact⟨rfl,HB.out _ hb1⟩
   ·rw[if_neg hc];have HC:=Qii W 1 k old size sa sb so sc S d rs' hc;generalize S.length=m at *;clear rs rs' h6 hb hm h0 hold hsz hc
    go_enter Tryz.func105,Tryz.ntmps105
    go_wp2_with (go_at_call 155;with_reducible refine HC.mono ?_;rintro x w1 ⟨rfl,hb1⟩)
    go_ret2
    exact⟨rfl,HB.out _ hb1⟩
  ·by_cases h2:kd=2
   ·subst h2;rw[Qap h0]
    by_cases hc:old=0∧Yh size S=0
    ·rw[if_pos hc];obtain⟨rfl,hc2⟩:=hc;have HC:Zr 156 #[.agg #[.int .i64 2,.int .i64 k,.int .u64 0,.int .u64 (size:Int),.slice sa S.length sc,d]] W (.tuple #[.int .u64 ((rst 0 size S).length:Nat),.int .i64 0]):=Qfb W 2 k size sa sb so sc S d rs' hm hc2;have hz0:((0:Nat):Int)=0:=rfl;rw[hz0] at hW e2;clear hz0;generalize (rst 0 size S).length=cc at *;generalize S.length=m at *;clear rs rs' h6 hb hm h0 hold hsz hc2 h1
     go_enter Tryz.func105,Tryz.ntmps105
     go_wp2_with (go_at_call 156;with_reducible refine HC.mono ?_;rintro x w1 ⟨rfl,hb1⟩)
     go_ret2
     exact⟨rfl,HB.out _ hb1⟩
    ·rw[if_neg hc];have HC:=QgQ W 2 k old size sa sb so sc S d hold rs' hm hc;generalize S.length=m at *;clear rs rs' h6 hb hm h0 hold hsz hc h1
     go_enter Tryz.func105,Tryz.ntmps105
     go_wp2_with (go_at_call 156;with_reducible refine HC.mono ?_;rintro x w1 ⟨rfl,hb1⟩)
     go_ret2
     exact⟨rfl,HB.out _ hb1⟩
   ·by_cases h3:kd=3
    ·subst h3;rw[OP h0]
     by_cases hc:old<=size∧S=[]
     ·rw[if_pos hc];obtain⟨hc1,rfl⟩:=hc;have HC:=Qic W 3 k old size sa sc d h0.2.2 hc1;rw[IL] at *;generalize (cov 0 old).length+(cov old size).length=cc at *;clear rs rs' h6 hb hm h0 hold hsz hc1 h1 h2
      go_enter Tryz.func105,Tryz.ntmps105
      go_wp2_with (go_at_call 157;with_reducible refine HC.mono ?_;rintro x w1 ⟨rfl,hb1⟩)
      go_ret2
      exact⟨rfl,HB.out _ hb1⟩
     ·rw[if_neg hc];have HC:=Qke W 3 k old size sa sc S d h0.2.2 hm (by rintro⟨a,b⟩;exact hc ⟨a,LG.1 b⟩)
      generalize S.length=m at *;clear rs rs' h6 hb hm h0 hold hsz hc h1 h2
      go_enter Tryz.func105,Tryz.ntmps105
      go_wp2_with (go_at_call 157;with_reducible refine HC.mono ?_;rintro x w1 ⟨rfl,hb1⟩)
      go_ret2
      exact⟨rfl,HB.out _ hb1⟩
    ·rw[J6 h1 h2 h3];generalize S.length=m at *;clear rs rs' h6 hb hm h0 hold hsz
     go_enter Tryz.func105,Tryz.ntmps105;go_wp2
     go_ret2
     exact⟨rfl,HBW.out⟩
 ·rw[Qdd h0];clear hm0;generalize S.length=m at *
  by_cases hk1:k<1
  ·clear rs rs' h6 hb h0 hold hsz
   go_enter Tryz.func105,Tryz.ntmps105;go_wp2
   go_ret2
   exact⟨rfl,HBW.out⟩
  ·by_cases hk2:32<k
   ·clear rs rs' h6 hb h0 hold hsz
    go_enter Tryz.func105,Tryz.ntmps105;go_wp2
    go_ret2
    exact⟨rfl,HBW.out⟩
   ·have hk3:(1099511627776:Int)<(size:Int):=by omega
    clear rs rs' h6 hb h0 hold hsz
    go_enter Tryz.func105,Tryz.ntmps105;go_wp2
    go_ret2
    exact⟨rfl,HBW.out⟩
end
end
end Go.Proofs.YtdocjikpcbmcgaaGreatDoor
