/- Own work. -/
import Derived.Test.YtdocjikpcbmcgaaGreatDoorQj23
set_option maxRecDepth 100000
set_option maxHeartbeats 32000000
namespace Go.Proofs.YtdocjikpcbmcgaaGreatDoor
open Go.RowKit
attribute [local go_sem ↓] Go.wp_at_zero Go.wp_at_succ
theorem Jg(s:BA)(hs:s.size<=8796093021952)(w:World):Calls Tryz.prog 84 #[.string s] w (RdQ w s):=by
 obtain⟨W0,hW0⟩:=Ze ((w.alloc (.cells #[.int .i64 0,.int .i64 0,.int .u64 0,.int .u64 0,.slice none 0 0,.slice none 0 0] 55)).alloc (.cells #[.int .i64 0,.int .i64 0,.int .u64 0,.int .u64 0,.slice none 0 0,.slice none 0 0] 55));have hb:Zb w W0:=by rw[<-hW0];exact bal (bal (Below.refl _ _) _) _
 have h6:Six W0 w.heap.size (.int .i64 0) (.int .i64 0) (.int .u64 0) (.int .u64 0) (.slice none 0 0) (.slice none 0 0):=by rw[<-hW0];exact(QV w _ _ _ _ _ _).next (bal (Below.refl _ _) _)
 have h7:Six W0 (w.heap.size+1) (.int .i64 0) (.int .i64 0) (.int .u64 0) (.int .u64 0) (.slice none 0 0) (.slice none 0 0):=by
  rw[<-hW0];have:=QV (w.alloc (.cells #[.int .i64 0,.int .i64 0,.int .u64 0,.int .u64 0,.slice none 0 0,.slice none 0 0] 55)) (.int .i64 0) (.int .i64 0) (.int .u64 0) (.int .u64 0) (.slice none 0 0) (.slice none 0 0)
  rwa [Lp] at this
 have hz:W0.heap.size=w.heap.size+2:=by rw[<-hW0];simp
 obtain⟨c0,c1,c2,c3,c4,c5⟩:=h6.cells;obtain⟨d0,d1,d2,d3,d4,d5⟩:=h7.cells;have f6:=h6.fz;have f7:=h7.fz;have hs1:(s.size:Int)<=8796093021952:=by omega
 by_cases h2:s.size<2
 ·have h2':(s.size:Int)<2:=by omega
  have hn:dec s.data.toList=none:=by
   have hl:=Qo s
   match hm:s.data.toList with
   | []=>rfl
   | [_]=>rfl
   | a::b::l=>rw[hm] at hl;simp at hl;omega
  have hp:=h6.put (.int .i64 0) (.int .i64 0) (.int .u64 0) (.int .u64 0) (.slice none 0 0) (.slice none 0 0);have hc:=QP W0 w.heap.size (.int .i64 0) (.int .i64 0) (.int .u64 0) (.int .u64 0) (.slice none 0 0) (.slice none 0 0);unfold QT at hp hc;have HN:=Qg hn;have HB:=Qg hb;clear h6 h7 hb hz h2 hn
  go_enter Tryz.func84,Tryz.ntmps84
  go_upto_region 2 with (fail)
  try rw[hW0]
  clear hW0;go_wp2;obtain⟨s0,s1,s2,s3,s4,s5⟩:=hp.cells;refine bodyPost_ret (v := .tuple #[.agg #[.int .i64 0,.int .i64 0,.int .u64 0,.int .u64 0,.slice none 0 0,.slice none 0 0],.bool false]) (by simp[results,Tryz.results84,go_sem,s0,s1,s2,s3,s4,s5]) rfl ?_
  exact .inl ⟨0,0,0,0,none,0,0,none,0,0,rfl,HN.out,HB.out.trans (hc.below (by rintro b rfl;omega))⟩
 ·have h2' : ¬(s.size:Int)<2:=by omega
  obtain⟨b0,b1,l,hl⟩ : ∃b0 b1 l,s.data.toList=b0::b1::l:=by
   have hl:=Qo s
   match hm:s.data.toList with
   | []=>rw[hm] at hl;simp at hl;omega
   | [_]=>rw[hm] at hl;simp at hl;omega
   | a::b::l=>exact⟨a,b,l,rfl⟩
  go_enter Tryz.func84,Tryz.ntmps84
  go_upto_region 2 with (fail)
  try rw[hW0]
  clear hW0
  go_upto_region 6 with (fail)
  have hx0:(s[0]'(by omega)).toNat=b0.toNat:=by
   have:s[0]'(by omega)=s.data.toList[0]'(by rw[Qo];omega):=by simp[ByteArray.getElem_eq_getElem_data]
   rw[this];simp[hl]
  have hx1:(s[1]'(by omega)).toNat=b1.toNat:=by
   have:s[1]'(by omega)=s.data.toList[1]'(by rw[Qo];omega):=by simp[ByteArray.getElem_eq_getElem_data]
   rw[this];simp[hl]
  obtain⟨y0,hy0⟩:=Ze b0.toNat;obtain⟨y1,hy1⟩:=Ze b1.toNat;rw[hy0] at hx0;rw[hy1] at hx1;have hw0:wrap64 (y0:Int)=(y0:Int):=by have:=b0.toNat_lt;unfold wrap64;omega
  have hw1:wrap64 (y1:Int)=(y1:Int):=by have:=b1.toNat_lt;unfold wrap64;omega
  rw[hx0,hx1,hw0,hw1];have HB0:=Qg (And.intro hy0 hy1);clear hw0 hw1 hx0 hx1 hy0 hy1;have g7:=(h7.set0 (.int .i64 (y0:Int))).set1 (.int .i64 (y1:Int));have gc:=((ChT.refl (fun x=>x=w.heap.size+1) W0).set (w.heap.size+1) 0 (.int .i64 (y0:Int)) rfl).set (w.heap.size+1) 1 (.int .i64 (y1:Int)) rfl
  obtain⟨W2,hW2⟩:=Ze ((W0.setCell ⟨w.heap.size+1,0,none⟩ (.int .i64 (y0:Int))).setCell ⟨w.heap.size+1,1,none⟩ (.int .i64 (y1:Int)));rw[hW2] at g7 gc;rw[hW2];have g6:=h6.same (gc.block _ (by show ¬_=_;omega))
  have gb:Zb w W2:=hb.trans (gc.below (by rintro b rfl;omega))
  have gz:W2.heap.size=w.heap.size+2:=by rw[gc.size,hz]
  obtain⟨T,hT⟩:=Ze (s.extract 2 s.size);have hT2:T.data.toList=l:=by
   rw[<-hT,Nw,N7,N4,hl];simp[<-Qo,hl]
  have hTz:T.size=s.size - 2:=by rw[<-Qo,hT2,<-Qo,hl];simp
  have rs0:RSC w (W2.alloc (.cells #[.string T,.int .i64 ((0:Nat):Int),.int .i64 ((0:Nat):Int)] 181)) T 0 0 y0 y1 0 0 (.slice none 0 0) (.slice none 0 0):=by
   have hbb:=bal (Below.refl W2.heap.size W2) (.cells #[.string T,.int .i64 ((0:Nat):Int),.int .i64 ((0:Nat):Int)] 181);refine⟨g6.next hbb,g7.next hbb,?_,Qa gb hbb⟩
   have:=Qlw W2 T 0 0
   rwa [gz] at this
  clear hW2 g6 g7 gc gb h6 h7 hb c0 c1 c2 c3 c4 c5 d0 d1 d2 d3 d4 d5 f6 f7
  go_upto_region 7 with (fail)
  obtain⟨W3,hW3⟩:=Ze (W2.alloc (.cells #[.string T,.int .i64 0,.int .i64 0] 181));have rs3:RSC w W3 T 0 0 y0 y1 0 0 (.slice none 0 0) (.slice none 0 0):=by rw[<-hW3];exact rs0
  rw[hW3];clear hW3 rs0;have HX3:Hid (∀F,Zb W3 F->RSC w F T 0 0 y0 y1 0 0 (.slice none 0 0) (.slice none 0 0)):=fun F hF=>rs3.next hF
  obtain⟨a1,e1,z1,hr1⟩ : ∃a1 e1 z1,rnb T 0 0=(a1,e1,z1):=⟨_,_,_,rfl⟩;have hra:=Qa9 T 0 0 (Lf _);rw[hr1] at hra;have HNum:Calls Tryz.prog 136 #[.agg #[.string T,.int .i64 0,.int .i64 0]] W3 fun x w'=>x = .returned (.tuple #[.agg #[.string T,.int .i64 (a1:Int),.int .i64 (e1:Int)],.int .u64 (z1:Int),.int .i64 (e1:Int)])∧Zb W3 w':=by
   have:=UO W3 T 0 0 (Lf _) (by omega)
   rw[hr1] at this;exact this
  obtain⟨k0,k1,k2⟩:=rs3.rd.cells;have HR1:=Qg (And.intro hr1 hra);clear rs3 hr1 hra
  go_upto_region 8 with (go_at_call 136;with_reducible refine HNum.mono ?_;rintro x w4 ⟨rfl,hb4⟩;(have r4:=HX3.out _ hb4);(obtain⟨n0,n1,n2⟩:=r4.rd.cells);(have nf:=r4.rd.fz))
  have r5:=r4.put a1 e1;unfold put3 at r5;obtain⟨w5,hw5⟩:=Ze (((w4.setCell ⟨w.heap.size+2,0,none⟩ (.string T)).setCell ⟨w.heap.size+2,1,none⟩ (.int .i64 (a1:Int))).setCell ⟨w.heap.size+2,2,none⟩ (.int .i64 (e1:Int)));rw[hw5] at r5;rw[hw5];obtain⟨p0,p1,p2,p3,p4,p5⟩:=r5.pr.cells;have pf:=r5.pr.fz;clear hw5 r4 n0 n1 n2 nf k0 k1 k2 HNum HX3 hb4
  go_upto_region 10 with (fail)
  have r6:=r5.putSize z1;obtain⟨w7,hw7⟩:=Ze (w5.setCell ⟨w.heap.size+1,3,none⟩ (.int .u64 (z1:Int)));rw[hw7] at r6;rw[hw7];clear hw7 p0 p1 p2 p3 p4 p5 pf r5;obtain⟨p0,p1,p2,p3,p4,p5⟩:=r6.pr.cells;have pf:=r6.pr.fz;obtain⟨k0,k1,k2⟩:=r6.rd.cells;have HX7:Hid (∀F,Zb w7 F->RSC w F T a1 e1 y0 y1 0 z1 (.slice none 0 0) (.slice none 0 0)):=fun F hF=>r6.next hF
  obtain⟨a2,e2,z2,hr2⟩ : ∃a2 e2 z2,rnb T a1 e1=(a2,e2,z2):=⟨_,_,_,rfl⟩;have hra:=Qa9 T a1 e1 HR1.out.2.1;rw[hr2] at hra;have HNum:Calls Tryz.prog 136 #[.agg #[.string T,.int .i64 (a1:Int),.int .i64 (e1:Int)]] w7 fun x w'=>x = .returned (.tuple #[.agg #[.string T,.int .i64 (a2:Int),.int .i64 (e2:Int)],.int .u64 (z2:Int),.int .i64 (e2:Int)])∧Zb w7 w':=by
   have:=UO w7 T a1 e1 HR1.out.2.1 (by omega)
   rw[hr2] at this;exact this
  have HR2:=Qg (And.intro hr2 hra);have R6:=Qg r6;clear hr2 hra r6;have HS1:Hid (Sp1 s T y0 y1 z1 a1 e1):=QhM hl hT2 HB0.out.1 HB0.out.2 HR1.out.1;have HY:Hid (y1<256∧z1<18446744073709551616∧T.size<=8796093021952∧a1<=T.size):=⟨by rw[<-HB0.out.2];exact b1.toNat_lt,HR1.out.2.2,by omega,HR1.out.2.1⟩
  clear hl hT2 hTz HB0 HR1 hT hz h2 h2' hs hs1
  go_cut [42] from 36 to 41 (fun c wx=>c = .bool (decide (y0=3∧e1=0))∧w7=wx)
  case first =>
   clear HNum HX7 R6 HS1 HR2 HY
   by_cases hk:y0=3
   ·subst hk;have p0:w7.cell? ⟨w.heap.size+1,0,none⟩=some (.int .i64 3):=p0
    by_cases he:e1=0
    ·subst he;go_wp2
     go_meet
     case rel=>exact⟨rfl,rfl⟩
    ·have he':((e1:Int) == 0)=false:=beq_eq_false_iff_ne.2 (by omega)
     have HD:Hid (decide (3=3∧e1=0)=false):=decide_eq_false (by omega)
     clear he;go_wp2
     go_meet
     case rel=>exact⟨by rw[HD.out],rfl⟩
   ·have he':((y0:Int) == 3)=false:=beq_eq_false_iff_ne.2 (by omega)
    have HD:Hid (decide (y0=3∧e1=0)=false):=decide_eq_false (by omega)
    clear hk;go_wp2
    go_meet
    case rel=>exact⟨by rw[HD.out],rfl⟩
  case rest =>
   obtain⟨rfl,rfl⟩:=hcut
   go_upto_if 42 with (fail)
   go_cut [7] from 42 to 49 (fun ev wx => ∃a e old:Nat,ev = .int .i64 (e:Int)∧RSC w wx T a e (y0:Int) (y1:Int) old z1 (.slice none 0 0) (.slice none 0 0)∧a<=T.size∧old<18446744073709551616∧SpA s T y0 y1 z1 old a e)
   case first =>
    by_cases hk:y0=3∧e1=0
    ·obtain⟨rfl,rfl⟩:=hk;rw[decide_eq_true (⟨rfl,rfl⟩:3=3∧0=0)];have HNum:Calls Tryz.prog 136 #[.agg #[.string T,.int .i64 (a1:Int),.int .i64 0]] w7 fun x w'=>x = .returned (.tuple #[.agg #[.string T,.int .i64 (a2:Int),.int .i64 (e2:Int)],.int .u64 (z2:Int),.int .i64 (e2:Int)])∧Zb w7 w':=HNum
     have k2:w7.cell? ⟨w.heap.size+2,2,none⟩=some (.int .i64 0):=k2;clear R6
     go_wp2_with (go_at_call 136;with_reducible refine HNum.mono ?_;rintro x w8 ⟨rfl,hb8⟩;(have r8:=HX7.out _ hb8);(obtain⟨n0,n1,n2⟩:=r8.rd.cells);(have nf:=r8.rd.fz);(obtain⟨p0',p1',p2',p3',p4',p5'⟩:=r8.pr.cells);(have pf':=r8.pr.fz))
     go_meet
     case rel =>
      go_light;have r9:=(r8.put a2 e2).putOld z2;unfold put3 at r9;exact⟨a2,e2,z2,rfl,r9,HR2.out.2.1,HR2.out.2.2,Qlg HS1.out rfl HR2.out.1⟩
    ·rw[decide_eq_false hk];have HK:=Qg hk;clear hk HNum HX7 p0 p1 p2 p3 p4 p5 pf k0 k1 k2;go_wp2
     go_meet
     case rel =>
      go_light;exact⟨a1,e1,0,rfl,R6.out,HY.out.2.2.2,by decide,QhN HS1.out (fun h h'=>HK.out ⟨h,h'⟩)⟩
   case rest =>
    obtain⟨a3,e3,old,rfl,r9,b9,bo,sA⟩:=hcut;obtain⟨w9,rfl⟩ : ∃w9,w9=wc:=⟨_,rfl⟩;have HA:=Qg (And.intro b9 (And.intro bo sA));clear HNum HX7 p0 p1 p2 p3 p4 p5 pf k0 k1 k2 HS1 HR2 R6 b9 bo sA;obtain⟨p0,p1,p2,p3,p4,p5⟩:=r9.pr.cells;obtain⟨k0,k1,k2⟩:=r9.rd.cells;have HX9:Hid (∀F,Zb w9 F->RSC w F T a3 e3 y0 y1 old z1 (.slice none 0 0) (.slice none 0 0)):=fun F hF=>r9.next hF
    have R9:=Qg r9;clear r9
    go_upto_if 52 with (fail)
    go_cut [8] from 50 to 52 (fun mv wx=>mv = .int .u64 (((if y0=1 then 1 else 0:Nat)):Int)∧w9=wx)
    case first =>
     clear HX9 R9 HA k0 k1 k2 p0 p1 p2 p3 p4 p5
     by_cases hk:y0=1
     ·subst hk;go_wp2
      go_meet
      case rel=>exact⟨rfl,rfl⟩
     ·have he':((y0:Int) == 1)=false:=beq_eq_false_iff_ne.2 (by omega)
      have HD:=Qg hk;clear hk;go_wp2
      go_meet
      case rel=>exact⟨by rw[if_neg HD.out];rfl,rfl⟩
    case rest =>
     obtain⟨rfl,rfl⟩:=hcut;obtain⟨m0,hm0⟩ : ∃m0:Nat,(if y0=1 then 1 else 0)=m0:=⟨_,rfl⟩
     rw[hm0];have HM0:=Qg hm0;clear hm0
     go_upto_region 14 with (fail)
     go_cut [59] from 53 to 58 (fun c wx=>c = .bool (decide (y0=2∧e3=0))∧w9=wx)
     case first =>
      clear HX9 R9 HA HM0
      by_cases hk:y0=2
      ·subst hk;have p0:w9.cell? ⟨w.heap.size+1,0,none⟩=some (.int .i64 2):=p0
       by_cases he:e3=0
       ·subst he;go_wp2
        go_meet
        case rel=>exact⟨rfl,rfl⟩
       ·have he':((e3:Int) == 0)=false:=beq_eq_false_iff_ne.2 (by omega)
        have HD:Hid (decide (2=2∧e3=0)=false):=decide_eq_false (by omega)
        clear he;go_wp2
        go_meet
        case rel=>exact⟨by rw[HD.out],rfl⟩
      ·have he':((y0:Int) == 2)=false:=beq_eq_false_iff_ne.2 (by omega)
       have HD:Hid (decide (y0=2∧e3=0)=false):=decide_eq_false (by omega)
       clear hk;go_wp2
       go_meet
       case rel=>exact⟨by rw[HD.out],rfl⟩
     case rest =>
      obtain⟨rfl,rfl⟩:=hcut
      go_upto_if 59 with (fail)
      go_cut [7,8] from 59 to 65 (fun ev mv wx => ∃a e m:Nat,ev = .int .i64 (e:Int)∧mv = .int .u64 (m:Int)∧RSC w wx T a e (y0:Int) (y1:Int) old z1 (.slice none 0 0) (.slice none 0 0)∧a<=T.size∧m<18446744073709551616∧SpB s T y0 y1 z1 old a e m)
      case first =>
       by_cases hk:y0=2∧e3=0
       ·obtain⟨rfl,rfl⟩:=hk;rw[decide_eq_true (⟨rfl,rfl⟩:2=2∧0=0)];obtain⟨a4,e4,z4,hr4⟩ : ∃a' e' n',rnb T a3 0=(a',e',n'):=⟨_,_,_,rfl⟩;have hra:=Qa9 T a3 0 HA.out.1;rw[hr4] at hra;have HNum:Calls Tryz.prog 136 #[.agg #[.string T,.int .i64 (a3:Int),.int .i64 0]] w9 fun x w'=>x = .returned (.tuple #[.agg #[.string T,.int .i64 (a4:Int),.int .i64 (e4:Int)],.int .u64 (z4:Int),.int .i64 (e4:Int)])∧Zb w9 w':=by
         have:=UO w9 T a3 0 HA.out.1 (by have:=HY.out.2.2.1;omega)
         rw[hr4] at this;exact this
        have k2:w9.cell? ⟨w.heap.size+2,2,none⟩=some (.int .i64 0):=k2;have HR4:=Qg (And.intro hr4 hra);clear R9 hr4 hra
        go_wp2_with (go_at_call 136;with_reducible refine HNum.mono ?_;rintro x w8 ⟨rfl,hb8⟩;(have r8:=HX9.out _ hb8);(obtain⟨n0,n1,n2⟩:=r8.rd.cells);(have nf:=r8.rd.fz))
        go_meet
        case rel =>
         go_light;have r9:=r8.put a4 e4;unfold put3 at r9;exact⟨a4,e4,z4,rfl,rfl,r9,HR4.out.2.1,HR4.out.2.2,QhO HA.out.2.2 rfl HR4.out.1⟩
       ·rw[decide_eq_false hk];have HK:=Qg hk;clear hk HX9 p0 p1 p2 p3 p4 p5 k0 k1 k2;go_wp2
        go_meet
        case rel =>
         go_light;exact⟨a3,e3,m0,rfl,rfl,R9.out,HA.out.1,by rw[<-HM0.out];split <;> decide,QhP HA.out.2.2 (fun h h'=>HK.out ⟨h,h'⟩) HM0.out.symm⟩
      case rest =>
       obtain⟨a5,e5,m,rfl,rfl,r10,b10,bm,sB⟩:=hcut;obtain⟨w10,rfl⟩ : ∃w10,w10=wc:=⟨_,rfl⟩;have HBx:=Qg (And.intro b10 (And.intro bm (And.intro HA.out.2.1 sB)));clear HX9 R9 p0 p1 p2 p3 p4 p5 k0 k1 k2 HA HM0 b10 bm sB;obtain⟨k0,k1,k2⟩:=r10.rd.cells;have HX10:Hid (∀F,Zb w10 F->RSC w F T a5 e5 y0 y1 old z1 (.slice none 0 0) (.slice none 0 0)):=fun F hF=>r10.next hF
       have R10:=Qg r10;clear r10
       go_upto_region 16 with (fail)
       go_cut [74] from 66 to 73 (fun c wx=>c = .bool (decide (e5≠0∨T.size - a5<m))∧RSC w wx T a5 e5 y0 y1 old z1 (.slice none 0 0) (.slice none 0 0))
       case first =>
        by_cases he:e5=0
        ·subst he;have k2:w10.cell? ⟨w.heap.size+2,2,none⟩=some (.int .i64 0):=k2;obtain⟨lf,hlf⟩:=Ze (T.size - a5);have HL:Calls Tryz.prog 137 #[.agg #[.string T,.int .i64 (a5:Int),.int .i64 0]] w10 fun x w'=>x = .returned (.int .i64 (lf:Int))∧Zb w10 w':=JW w10 T a5 0 lf HBx.out.1 (by rw[if_pos rfl,hlf]) (by have:=HY.out.2.2.1;omega)
         have hw:IntKind.u64.wrap (lf:Int)=(lf:Int):=by have:=HY.out.2.2.1;rw[IntKind.wrap_u64];omega
         have HLF:=Qg hlf;clear hlf
         by_cases hm:lf<m
         ·have hm':(lf:Int)<(m:Int):=by omega
          have HM:=Qg hm;clear hm
          go_wp2_with (go_at_call 137;with_reducible refine HL.mono ?_;rintro x w8 ⟨rfl,hb8⟩)
          go_meet
          case rel=>exact⟨congrArg Value.bool (decide_eq_true (.inr (by rw[HLF.out];exact HM.out))).symm,HX10.out _ hb8⟩
         ·have hm' : ¬(lf:Int)<(m:Int):=by omega
          have HM:=Qg hm;clear hm
          go_wp2_with (go_at_call 137;with_reducible refine HL.mono ?_;rintro x w8 ⟨rfl,hb8⟩)
          go_meet
          case rel=>exact⟨congrArg Value.bool (by rw[HLF.out];exact decide_eq_decide.2 (by omega)),HX10.out _ hb8⟩
        ·have he':((e5:Int) == 0)=false:=beq_eq_false_iff_ne.2 (by omega)
         have he2:((e5:Int) != 0)=true:=by simp;omega
         have HM:=Qg he;clear he HX10;go_wp2
         go_meet
         case rel=>exact⟨congrArg Value.bool (decide_eq_true (.inl HM.out)).symm,R10.out⟩
       case rest =>
        obtain⟨rfl,r11⟩:=hcut;obtain⟨w11,rfl⟩ : ∃w11,w11=wc:=⟨_,rfl⟩;clear HX10 R10 k0 k1 k2
        go_upto_if 74 with (fail)
        by_cases hbad:e5≠0∨T.size - a5<m
        ·rw[decide_eq_true hbad];have hp:=r11.res.put (.int .i64 (y0:Int)) (.int .i64 (y1:Int)) (.int .u64 (old:Int)) (.int .u64 (z1:Int)) (.slice none 0 0) (.slice none 0 0);have hc:=QP w11 w.heap.size (.int .i64 (y0:Int)) (.int .i64 (y1:Int)) (.int .u64 (old:Int)) (.int .u64 (z1:Int)) (.slice none 0 0) (.slice none 0 0);have HB:=Qg (R2.no r11 hc);unfold QT at hp HB;have HP:=Qg hp;clear hp;have HN:=Qg (QjC HBx.out.2.2.2 hbad);obtain⟨p0,p1,p2,p3,p4,p5⟩:=r11.pr.cells;obtain⟨q0,q1,q2,q3,q4,q5⟩:=r11.res.cells;have qf:=r11.res.fz;clear hc r11 hbad HBx HY
         repeat go_step
         obtain⟨s0,s1,s2,s3,s4,s5⟩:=HP.out.cells;refine bodyPost_ret (v := .tuple #[.agg #[.int .i64 (y0:Int),.int .i64 (y1:Int),.int .u64 (old:Int),.int .u64 (z1:Int),(.slice none 0 0),(.slice none 0 0)],.bool false]) (by simp[results,Tryz.results84,go_sem,s0,s1,s2,s3,s4,s5]) rfl ?_
         exact .inl ⟨_,_,_,_,_,_,_,_,_,_,rfl,HN.out,HB.out⟩
        obtain rfl:e5=0:=by omega
        rw[decide_eq_false hbad];have HST:Hid (R2 w w11 T a5 y0 y1 old z1 (.slice none 0 0) (.slice none 0 0) [] []∧a5<=T.size∧m<=T.size∧SpC s T y0 y1 z1 old m a5 []):=⟨Qjr r11,HBx.out.1,by omega,QhQ HBx.out.2.2.2⟩
        have HO:Hid (old<18446744073709551616):=HBx.out.2.2.1;have hmT:m<=8796093021952:=by have:=HY.out.2.2.1;omega
        clear hbad HBx r11;obtain⟨i0,hi0,hi1,hi2,hi3⟩:=Qfn;obtain⟨j0,hj0,hj1,hj2,hj3⟩:=info_parts Tryz.infoS;have HI:Hid (Tryz.prog.info? 28=some i0∧i0.zero=some (.int .u64 0)∧i0.size=1∧i0.bytes=8):=⟨hi0,hi1,hi2,hi3⟩;have HJ:Hid (Tryz.prog.info? 9=some j0∧j0.zero=some (.string ByteArray.empty)∧j0.size=1∧j0.bytes=16):=⟨hj0,hj1,hj2,hj3⟩;clear hi0 hi1 hi2 hi3 hj0 hj1 hj2 hj3;go_wp2
        go_loopg [7,9,10,11] m (fun g ev lv iv nv wr => ∃(L:List Nat) (a:Nat) (sv:Value),g=m - L.length∧ev = .int .i64 0∧lv = .int .u64 ((nxt 0 L - 1:Nat):Int)∧iv = .int .u64 (L.length:Int)∧L.length<=m∧a<=T.size∧nxt 0 L - 1<18446744073709551616∧R2 w wr T a y0 y1 old z1 sv (.slice none 0 0) L []∧SpC s T y0 y1 z1 old m a L)
        case atStart =>
         go_light;exact⟨[],a5,.slice none 0 0,rfl,rfl,rfl,rfl,Lf _,HST.out.2.1,by decide,HST.out.1,HST.out.2.2.2⟩
        case round =>
         obtain⟨L,a,sv,rfl,rfl,rfl,rfl,hLm,ha,hnx,hR,hC⟩:=hrel;obtain⟨sa,sn,sc,rfl⟩:=Cv.Qh hR.os;obtain⟨lt,hlt⟩:=Ze (nxt 0 L - 1);rw[hlt] at hnx ⊢;obtain⟨ll,hll⟩:=Ze L.length;rw[hll] at hLm ⊢;have hl0:(0:Int)<=(ll:Int):=Le _;have HQ:=Qg (And.intro hlt hll);clear hlt hll HST
         by_cases hj:ll<m
         ·have hj':(ll:Int)<(m:Int):=by omega
          have HL:Hid (ll<8796093021952∧ll<m):=⟨by omega,hj⟩
          have HC:=Qg hC;obtain⟨a',e',n,hr⟩ : ∃a' e' n',rnb T a 0=(a',e',n'):=⟨_,_,_,rfl⟩;have hra:=Qa9 T a 0 ha;rw[hr] at hra;have HNum:Calls Tryz.prog 136 #[.agg #[.string T,.int .i64 (a:Int),.int .i64 0]] wr fun x w'=>x = .returned (.tuple #[.agg #[.string T,.int .i64 (a':Int),.int .i64 (e':Int)],.int .u64 (n:Int),.int .i64 (e':Int)])∧Zb wr w':=by
           have:=UO wr T a 0 ha (by have:=HY.out.2.2.1;omega)
           rw[hr] at this;exact this
          have HX:Hid (∀F,Zb wr F->R2 w F T a y0 y1 old z1 (.slice sa sn sc) (.slice none 0 0) L []):=fun F hF=>hR.next hF
          obtain⟨k0,k1,k2⟩:=hR.rs.rd.cells;have k2:wr.cell? ⟨w.heap.size+2,2,none⟩=some (.int .i64 0):=k2;have HR:=Qg (And.intro hr hra);clear hR hC hr hra hj hLm ha
          go_upto_region 24 with (go_at_call 136;with_reducible refine HNum.mono ?_;rintro x w3 ⟨rfl,hb3⟩;(have r3:=HX.out _ hb3);(obtain⟨n0,n1,n2⟩:=r3.rs.rd.cells);(have nf:=r3.rs.rd.fz))
          clear k0 k1 k2 HNum HX hb3;have HZ:Hid (RSC w (put3 w3 (w.heap.size+2) T a' e') T a' e' (y0:Int) (y1:Int) old z1 (.slice sa sn sc) (.slice none 0 0)∧(e'=0->R2 w (put3 w3 (w.heap.size+2) T a' e') T a' y0 y1 old z1 (.slice sa sn sc) (.slice none 0 0) L [])):=⟨r3.rs.put a' e',fun h=>by rw[h];exact r3.put a'⟩
          unfold put3 at HZ;obtain⟨w4,hw4⟩:=Ze (((w3.setCell ⟨w.heap.size+2,0,none⟩ (.string T)).setCell ⟨w.heap.size+2,1,none⟩ (.int .i64 (a':Int))).setCell ⟨w.heap.size+2,2,none⟩ (.int .i64 (e':Int)));rw[hw4] at HZ ⊢;clear hw4 r3 n0 n1 n2 nf
          by_cases he:e'=0
          ·subst he;have r4:=HZ.out.2 rfl;have HN:=Qg HR.out.2.2
           by_cases h0:ll=0
           ·have h0' : ¬(0:Int)<(ll:Int):=by omega
            have HSp:=Qg (QeQ (x:=n) HC.out (by rw[HQ.out.2];exact HL.out.2) HR.out.1 (by rw[if_pos (by rw[HQ.out.2];exact h0)]))
            clear h0;obtain⟨g0,g1,g2,g3,g4,g5⟩:=r4.rs.pr.cells;have hos:=r4.os;rw[Cv.Own,HQ.out.2] at hos;have R4:=Qg r4;clear r4 HZ
            go_wp2_with (at_builtin;refine wpList_append_own _ rfl _ _ 53 rfl (w.heap.size+3) 28 i0 (.int .u64 0) 1 8 Tryz.underlying53 HI.out.1 HI.out.2.1 HI.out.2.2.1 HI.out.2.2.2 rfl (by decide) _ _ _ rfl (hos.alloc _) ⟨w4.heap.size,0,none⟩ 1 1 [.int .u64 (n:Int)] rfl rfl ?cn1 ?cn2 ?cn3 ?cn4 ?cn5 ?_)
            try
             case cn1 =>
              intro j u hj
              match j,hj with
              | 0,hj=>simp at hj;subst hj;simp[Addr.add]
            case cn2=>first|(intro u hu;simp at hu;subst hu;rfl)|rfl
            case cn3=>have:=HL.out.1;unfold maxLen;omega
            case cn4=>have:=HL.out.1;omega
            case cn5=>have:=R4.out.sz;simp;omega
            ·intro v' w6 hown' hgrow _;obtain⟨xa,xn,xc,rfl⟩:=Cv.Qh hown';have HD:=Qg (R2.addS R4.out hgrow (x:=n) (by rw[HQ.out.2,LK];exact hown'))
             have r5:=R4.out.next (bal (Below.refl w4.heap.size w4) (.cells #[.int .u64 (n:Int)] 28));have r6:=r5.rs.low ((Below.refl _ _).grown hgrow r5.sz (fun k hk=>(r5.os.lt k hk).1))
             obtain⟨t0,t1,t2,t3,t4,t5⟩:=r6.pr.cells;have tf:=r6.pr.fz;clear hown' hgrow hos g0 g1 g2 g3 g4 g5 r5 r6;have ej:IntKind.u64.wrap ((ll:Int)+1)=((ll+1:Nat):Int):=by have:=HL.out.1;rw[IntKind.wrap_u64];omega
             go_wp2
             go_roundg (m - (ll+1))
             case rel =>
              go_light;refine⟨L++[n],a',.slice xa xn xc,by rw[Ld,HQ.out.2];rfl,rfl,by rw[Jo];rfl,by rw[Ld,HQ.out.2];first|rfl|(congr 1),by rw[Ld,HQ.out.2];exact HL.out.2,HR.out.2.1,by rw[Jo];exact HN.out,HD.out,HSp.out⟩
             case measure=>go_light;have h1:=HL.out.2;have h2:=HQ.out.2;omega
           ·have h0':(0:Int)<(ll:Int):=by omega
            have H0:Hid (0<ll):=by show 0<ll;omega
            by_cases hbn:1099511627776<=n
            ·have hbn':(1099511627776:Int)<=(n:Int):=by omega
             have HBN:=Qg hbn;clear hbn h0
             go_upto_region 28 with (fail)
             have hp:=r4.rs.res.put (.int .i64 (y0:Int)) (.int .i64 (y1:Int)) (.int .u64 (old:Int)) (.int .u64 (z1:Int)) (.slice sa sn sc) (.slice none 0 0);have hc:=QP w4 w.heap.size (.int .i64 (y0:Int)) (.int .i64 (y1:Int)) (.int .u64 (old:Int)) (.int .u64 (z1:Int)) (.slice sa sn sc) (.slice none 0 0);have HB:=Qg (R2.no r4.rs hc);unfold QT at hp HB;have HP:=Qg hp;clear hp;have HN:=Qg (Qcb HC.out (by rw[HQ.out.2];exact HL.out.2) HR.out.1 (.inr ⟨by rw[HQ.out.2];exact H0.out,.inl HBN.out⟩))
             obtain⟨p0,p1,p2,p3,p4,p5⟩:=r4.rs.pr.cells;obtain⟨q0,q1,q2,q3,q4,q5⟩:=r4.rs.res.cells;have qf:=r4.rs.res.fz;clear hc r4 HZ HR
             repeat go_step
             obtain⟨s0,s1,s2,s3,s4,s5⟩:=HP.out.cells;refine bodyPost_ret (v := .tuple #[.agg #[.int .i64 (y0:Int),.int .i64 (y1:Int),.int .u64 (old:Int),.int .u64 (z1:Int),(.slice sa sn sc),(.slice none 0 0)],.bool false]) (by simp[results,Tryz.results84,go_sem,s0,s1,s2,s3,s4,s5]) rfl ?_
             exact .inl ⟨_,_,_,_,_,_,_,_,_,_,rfl,HN.out,HB.out⟩
            ·have hbn' : ¬(1099511627776:Int)<=(n:Int):=by omega
             by_cases hbl:1099511627776<=lt
             ·have hbl':(1099511627776:Int)<=(lt:Int):=by omega
              have HBL:=Qg hbl;clear h0 hbn hbl
              go_upto_region 28 with (fail)
              have hp:=r4.rs.res.put (.int .i64 (y0:Int)) (.int .i64 (y1:Int)) (.int .u64 (old:Int)) (.int .u64 (z1:Int)) (.slice sa sn sc) (.slice none 0 0);have hc:=QP w4 w.heap.size (.int .i64 (y0:Int)) (.int .i64 (y1:Int)) (.int .u64 (old:Int)) (.int .u64 (z1:Int)) (.slice sa sn sc) (.slice none 0 0);have HB:=Qg (R2.no r4.rs hc);unfold QT at hp HB;have HP:=Qg hp;clear hp;have HN:=Qg (Qcb HC.out (by rw[HQ.out.2];exact HL.out.2) HR.out.1 (.inr ⟨by rw[HQ.out.2];exact H0.out,.inr (by rw[HQ.out.1];exact HBL.out)⟩))
              obtain⟨p0,p1,p2,p3,p4,p5⟩:=r4.rs.pr.cells;obtain⟨q0,q1,q2,q3,q4,q5⟩:=r4.rs.res.cells;have qf:=r4.rs.res.fz;clear hc r4 HZ HR
              repeat go_step
              obtain⟨s0,s1,s2,s3,s4,s5⟩:=HP.out.cells;refine bodyPost_ret (v := .tuple #[.agg #[.int .i64 (y0:Int),.int .i64 (y1:Int),.int .u64 (old:Int),.int .u64 (z1:Int),(.slice sa sn sc),(.slice none 0 0)],.bool false]) (by simp[results,Tryz.results84,go_sem,s0,s1,s2,s3,s4,s5]) rfl ?_
              exact .inl ⟨_,_,_,_,_,_,_,_,_,_,rfl,HN.out,HB.out⟩
             ·have hbl' : ¬(1099511627776:Int)<=(lt:Int):=by omega
              obtain⟨x,hx⟩:=Ze (n+lt+1);have hxi:(n:Int)+(lt:Int)+1=(x:Int):=by omega
              have HXI:=Qg hxi;have hxb:x<18446744073709551616:=by omega
              have HSp:=Qg (QeQ (x:=x) HC.out (by rw[HQ.out.2];exact HL.out.2) HR.out.1 (by rw[if_neg (by rw[HQ.out.2];exact h0),HQ.out.1,hx]))
              have HXB:=Qg hxb;clear hx hxb hbn hbl h0 hxi
              go_upto_region 30 with (fail)
              rw[HXI.out];obtain⟨g0,g1,g2,g3,g4,g5⟩:=r4.rs.pr.cells;have hos:=r4.os;rw[Cv.Own,HQ.out.2] at hos;have R4:=Qg r4;clear r4 HZ 
              go_wp2_with (at_builtin;refine wpList_append_own _ rfl _ _ 53 rfl (w.heap.size+3) 28 i0 (.int .u64 0) 1 8 Tryz.underlying53 HI.out.1 HI.out.2.1 HI.out.2.2.1 HI.out.2.2.2 rfl (by decide) _ _ _ rfl (hos.alloc _) ⟨w4.heap.size,0,none⟩ 1 1 [.int .u64 (x:Int)] rfl rfl ?cx1 ?cx2 ?cx3 ?cx4 ?cx5 ?_)
              try
               case cx1 =>
                intro j u hj
                match j,hj with
                | 0,hj=>simp at hj;subst hj;simp[Addr.add]
              case cx2=>first|(intro u hu;simp at hu;subst hu;rfl)|rfl
              case cx3=>have:=HL.out.1;unfold maxLen;omega
              case cx4=>have:=HL.out.1;omega
              case cx5=>have:=R4.out.sz;simp;omega
              ·intro v' w6 hown' hgrow _;obtain⟨xa,xn,xc,rfl⟩:=Cv.Qh hown';have HD:=Qg (R2.addS R4.out hgrow (x:=x) (by rw[HQ.out.2,LK];exact hown'))
               have r5:=R4.out.next (bal (Below.refl w4.heap.size w4) (.cells #[.int .u64 (x:Int)] 28));have r6:=r5.rs.low ((Below.refl _ _).grown hgrow r5.sz (fun k hk=>(r5.os.lt k hk).1))
               obtain⟨t0,t1,t2,t3,t4,t5⟩:=r6.pr.cells;have tf:=r6.pr.fz;clear hown' hgrow hos g0 g1 g2 g3 g4 g5 r5 r6;have ej:IntKind.u64.wrap ((ll:Int)+1)=((ll+1:Nat):Int):=by have:=HL.out.1;rw[IntKind.wrap_u64];omega
               go_wp2
               go_roundg (m - (ll+1))
               case rel =>
                go_light;refine⟨L++[x],a',.slice xa xn xc,by rw[Ld,HQ.out.2];rfl,rfl,by rw[Jo];rfl,by rw[Ld,HQ.out.2];first|rfl|(congr 1),by rw[Ld,HQ.out.2];exact HL.out.2,HR.out.2.1,by rw[Jo];exact HXB.out,HD.out,HSp.out⟩
               case measure=>go_light;have h1:=HL.out.2;have h2:=HQ.out.2;omega
          ·have he':((e':Int) == 0)=false:=beq_eq_false_iff_ne.2 (by omega)
           have he2:((e':Int) != 0)=true:=by simp;omega
           have r4:=HZ.out.1;have HE0:=Qg he;clear he
           go_upto_region 25 with (fail)
           have hp:=r4.res.put (.int .i64 (y0:Int)) (.int .i64 (y1:Int)) (.int .u64 (old:Int)) (.int .u64 (z1:Int)) (.slice sa sn sc) (.slice none 0 0);have hc:=QP w4 w.heap.size (.int .i64 (y0:Int)) (.int .i64 (y1:Int)) (.int .u64 (old:Int)) (.int .u64 (z1:Int)) (.slice sa sn sc) (.slice none 0 0);have HB:=Qg (R2.no r4 hc);unfold QT at hp HB;have HP:=Qg hp;clear hp;have HN:=Qg (Qcb HC.out (by rw[HQ.out.2];exact HL.out.2) HR.out.1 (.inl HE0.out))
           obtain⟨p0,p1,p2,p3,p4,p5⟩:=r4.pr.cells;obtain⟨q0,q1,q2,q3,q4,q5⟩:=r4.res.cells;have qf:=r4.res.fz;clear hc r4 HZ HR
           repeat go_step
           obtain⟨s0,s1,s2,s3,s4,s5⟩:=HP.out.cells;refine bodyPost_ret (v := .tuple #[.agg #[.int .i64 (y0:Int),.int .i64 (y1:Int),.int .u64 (old:Int),.int .u64 (z1:Int),(.slice sa sn sc),(.slice none 0 0)],.bool false]) (by simp[results,Tryz.results84,go_sem,s0,s1,s2,s3,s4,s5]) rfl ?_
           exact .inl ⟨_,_,_,_,_,_,_,_,_,_,rfl,HN.out,HB.out⟩
         ·have hj' : ¬(ll:Int)<(m:Int):=by omega
          have HE:Hid (SpD s T y0 y1 z1 old a L []∧L.length<=8796093021952∧a<=T.size):=⟨Qlh hC (by rw[HQ.out.2];omega),by rw[HQ.out.2];omega,ha⟩
          obtain⟨k0,k1,k2⟩:=hR.rs.rd.cells;have k2:wr.cell? ⟨w.heap.size+2,2,none⟩=some (.int .i64 0):=k2;obtain⟨p0,p1,p2,p3,p4,p5⟩:=hR.rs.pr.cells;have HX:Hid (∀F,Zb wr F->R2 w F T a y0 y1 old z1 (.slice sa sn sc) (.slice none 0 0) L []):=fun F hF=>hR.next hF
          have RW:=Qg hR;clear hR hC hj hLm ha hnx hmT HI
          go_upto_region 32 with (fail)
          go_cut [120] from 110 to 119 (fun c wx=>c = .bool (decide (y1=0∨(T.size - a) % y1≠0))∧R2 w wx T a y0 y1 old z1 (.slice sa sn sc) (.slice none 0 0) L [])
          case first =>
           by_cases hk:y1=0
           ·subst hk;have p1:wr.cell? ⟨w.heap.size+1,1,none⟩=some (.int .i64 0):=p1
            go_quiet (fail)
            go_wp2
            go_meet
            case rel=>exact⟨rfl,RW.out.next (Qd (Below.refl _ _) _)⟩
           ·obtain⟨lf,hlf⟩:=Ze (T.size - a);have HLc:Hid (∀W,Calls Tryz.prog 137 #[.agg #[.string T,.int .i64 (a:Int),.int .i64 0]] W fun x w'=>x = .returned (.int .i64 (lf:Int))∧Zb W w'):=fun W=>JW W T a 0 lf HE.out.2.2 (by rw[if_pos rfl,hlf]) (by have:=HY.out.2.2.1;omega)
            have hk0:((y1:Int) == 0)=false:=beq_eq_false_iff_ne.2 (by omega)
            have hk1 : ¬(y1:Int)=0:=by omega
            obtain⟨rm,hrm⟩:=Ze (lf % y1);have hti:Int.tmod (lf:Int) (y1:Int)=(rm:Int):=by rw[Int.tmod_eq_emod_of_nonneg (by omega),<-hrm];rfl
            have hwr:IntKind.i64.wrap (rm:Int)=(rm:Int):=by have h1:=HY.out.2.2.1;have h2:=Nat.mod_le lf y1;rw[LW];omega
            have HRM:Hid ((T.size - a) % y1=rm∧y1≠0):=⟨by rw[hlf];exact hrm,hk⟩
            have hpc:Hid (∀F,Zb wr F->F.cell? ⟨w.heap.size+1,1,none⟩=some (.int .i64 (y1:Int))∧F.cell? ⟨w.heap.size+2,0,none⟩=some (.string T)∧F.cell? ⟨w.heap.size+2,1,none⟩=some (.int .i64 (a:Int))∧F.cell? ⟨w.heap.size+2,2,none⟩=some (.int .i64 0)):=fun F hF=>⟨(HX.out F hF).rs.pr.cells.2.1,(HX.out F hF).rs.rd.cells.1,(HX.out F hF).rs.rd.cells.2.1,(HX.out F hF).rs.rd.cells.2.2⟩
            have hb0:Zb wr wr:=Below.refl _ _;clear hlf hrm hk RW
            go_region_with (first|(go_at_call 137;with_reducible refine(HLc.out _).mono ?_;rintro x w8 ⟨rfl,hb8'⟩;(have hb8:Zb wr w8:=(by first|exact Qa hb0.drew hb8'|exact Qa hb0 hb8'));(obtain⟨m1,m2,m3,m4⟩:=hpc.out _ hb8)))
            all_goals
             go_wp2
             go_meet
             case rel=>exact⟨congrArg Value.bool (by rw[HRM.out.1];have:=HRM.out.2;by_cases hz:rm=0 <;> simp[hz,this]),HX.out _ hb8⟩
          case rest =>
           obtain⟨rfl,r12⟩:=hcut;obtain⟨w12,rfl⟩ : ∃w12,w12=wc:=⟨_,rfl⟩;clear HX RW k0 k1 k2 p0 p1 p2 p3 p4 p5
           go_upto_if 120 with (fail)
           by_cases hbad:y1=0∨(T.size - a) % y1≠0
           ·rw[decide_eq_true hbad];have hp:=r12.rs.res.put (.int .i64 (y0:Int)) (.int .i64 (y1:Int)) (.int .u64 (old:Int)) (.int .u64 (z1:Int)) (.slice sa sn sc) (.slice none 0 0);have hc:=QP w12 w.heap.size (.int .i64 (y0:Int)) (.int .i64 (y1:Int)) (.int .u64 (old:Int)) (.int .u64 (z1:Int)) (.slice sa sn sc) (.slice none 0 0);have HB:=Qg (R2.no r12.rs hc);unfold QT at hp HB;have HP:=Qg hp;clear hp;have HN:=Qg (QjD HE.out.1 hbad);obtain⟨p0,p1,p2,p3,p4,p5⟩:=r12.rs.pr.cells;obtain⟨q0,q1,q2,q3,q4,q5⟩:=r12.rs.res.cells;have qf:=r12.rs.res.fz;clear hc r12 hbad
            repeat go_step
            obtain⟨s0,s1,s2,s3,s4,s5⟩:=HP.out.cells;refine bodyPost_ret (v := .tuple #[.agg #[.int .i64 (y0:Int),.int .i64 (y1:Int),.int .u64 (old:Int),.int .u64 (z1:Int),(.slice sa sn sc),(.slice none 0 0)],.bool false]) (by simp[results,Tryz.results84,go_sem,s0,s1,s2,s3,s4,s5]) rfl ?_
            exact .inl ⟨_,_,_,_,_,_,_,_,_,_,rfl,HN.out,HB.out⟩
           rw[decide_eq_false hbad];have hy1:0<y1:=by omega
           have HST:Hid (R2 w w12 T a y0 y1 old z1 (.slice sa sn sc) (.slice none 0 0) L []∧(T.size - a) % y1=0∧0<y1):=⟨r12,by omega,hy1⟩
           clear hbad r12 hy1;go_wp2
           go_loopg [12] (T.size - a) (fun g dd wr => ∃(D:LB) (b:Nat) (dv:Value),g=T.size - b∧b<=T.size∧(T.size - b) % y1=0∧D.length<=b∧(∀d∈D,d.size<=T.size)∧R2 w wr T b y0 y1 old z1 (.slice sa sn sc) dv L D∧SpD s T y0 y1 z1 old b L D)
           case atStart =>
            go_light;exact⟨[],a,.slice none 0 0,rfl,HE.out.2.2,HST.out.2.1,Lf _,(fun d hd=>by cases hd),HST.out.1,HE.out.1⟩
           case round =>
            obtain⟨D,b,dv,rfl,hb,hmod,hDb,hDs,hR,hSp⟩:=hrel;obtain⟨da,dn,dc,rfl⟩:=Cv.Qh hR.od;obtain⟨lf,hlf⟩:=Ze (T.size - b);have HLc:Hid (∀W,Calls Tryz.prog 137 #[.agg #[.string T,.int .i64 (b:Int),.int .i64 0]] W fun x w'=>x = .returned (.int .i64 (lf:Int))∧Zb W w'):=fun W=>JW W T b 0 lf hb (by rw[if_pos rfl,hlf]) (by have:=HY.out.2.2.1;omega)
            obtain⟨k0,k1,k2⟩:=hR.rs.rd.cells;have k2:wr.cell? ⟨w.heap.size+2,2,none⟩=some (.int .i64 0):=k2;have HX:Hid (∀F,Zb wr F->R2 w F T b y0 y1 old z1 (.slice sa sn sc) (.slice da dn dc) L D):=fun F hF=>hR.next hF
            have HQ2:Hid (T.size - b=lf∧b<=T.size∧(T.size - b) % y1=0∧D.length<=b∧(∀d∈D,d.size<=T.size)∧SpD s T y0 y1 z1 old b L D):=⟨hlf,hb,hmod,hDb,hDs,hSp⟩;clear hlf hb hmod hDb hDs hR hSp
            by_cases hl:0<lf
            ·have hl':(0:Int)<(lf:Int):=by omega
             have HLF:Hid (y1<=lf∧0<y1):=⟨Nat.le_of_dvd hl (by have:=HQ2.out.2.2.1;rw[HQ2.out.1] at this;exact Nat.dvd_of_mod_eq_zero this),HST.out.2.2⟩
             clear hl;obtain⟨d,hd⟩:=Ze (T.extract b (b+y1));obtain⟨b2,hbe⟩:=Ze (b+y1);have HBE:=Qg hbe;have HT:Hid (∀W,Calls Tryz.prog 138 #[.agg #[.string T,.int .i64 (b:Int),.int .i64 0],.int .i64 (y1:Int)] W fun x w'=>x = .returned (.tuple #[.agg #[.string T,.int .i64 (b2:Int),.int .i64 0],.string d,.int .i64 0])∧Zb W w'):=fun W=>by
              have:=QeG W T b 0 (y1:Int) HQ2.out.2.1 (by have:=HY.out.2.2.1;omega)
              have h1:=HLF.out.1;have h2:=HQ2.out.1;rw[rtk,if_neg (by simp),if_neg (by omega),Iu] at this
              rw[<-hd,<-hbe];exact this
             have HSp:=Qg (QjE HQ2.out.2.2.2.2.2 HLF.out.2 (by rw[HQ2.out.1];exact HLF.out.1) hd.symm)
             have HDz:Hid (d.size<=T.size):=by show d.size<=T.size;rw[<-hd,It];omega
             clear hd hbe
             go_upto_region 36 with (go_at_call 137;with_reducible refine(HLc.out _).mono ?_;rintro x w2 ⟨rfl,hb2⟩)
             have r2:=HX.out _ hb2;have HX2:Hid (∀F,Zb w2 F->R2 w F T b y0 y1 old z1 (.slice sa sn sc) (.slice da dn dc) L D):=fun F hF=>r2.next hF
             clear k0 k1 k2 HX hb2 HLc;obtain⟨k0,k1,k2⟩:=r2.rs.rd.cells;have k2:w2.cell? ⟨w.heap.size+2,2,none⟩=some (.int .i64 0):=k2;obtain⟨p0,p1,p2,p3,p4,p5⟩:=r2.rs.pr.cells;clear r2
             go_upto_region 37 with (go_at_call 138;with_reducible refine(HT.out _).mono ?_;rintro x w3 ⟨rfl,hb3⟩;(have r3:=HX2.out _ hb3);(obtain⟨n0,n1,n2⟩:=r3.rs.rd.cells);(have nf:=r3.rs.rd.fz))
             clear k0 k1 k2 p0 p1 p2 p3 p4 p5 HX2 hb3 HT;have r4:=r3.put b2;unfold put3 at r4;obtain⟨w4,hw4⟩:=Ze (((w3.setCell ⟨w.heap.size+2,0,none⟩ (.string T)).setCell ⟨w.heap.size+2,1,none⟩ (.int .i64 (b2:Int))).setCell ⟨w.heap.size+2,2,none⟩ (.int .i64 ((0:Nat):Int)));rw[hw4] at r4
             try rw[show(Value.int .i64 ((0:Nat):Int)) = .int .i64 0 from rfl] at hw4
             rw[hw4];clear hw4 r3 n0 n1 n2 nf;obtain⟨g0,g1,g2,g3,g4,g5⟩:=r4.rs.pr.cells;have hos:=r4.od;obtain⟨dl,hdl⟩:=Ze D.length;rw[Qk,hdl] at hos;have HDL:Hid (D.length=dl∧dl<=8796093021952):=⟨hdl,by have h1:=HQ2.out.2.2.2.1;have h2:=HQ2.out.2.1;have h3:=HY.out.2.2.1;omega⟩
             have R4:=Qg r4;clear r4 hdl
             go_wp2_with (at_builtin;refine wpList_append_own _ rfl _ _ 22 rfl (w.heap.size+3) 9 j0 (.string ByteArray.empty) 1 16 Tryz.underlying22 HJ.out.1 HJ.out.2.1 HJ.out.2.2.1 HJ.out.2.2.2 rfl (by decide) _ _ _ rfl (hos.alloc _) ⟨w4.heap.size,0,none⟩ 1 1 [.string d] rfl rfl ?cd1 ?cd2 ?cd3 ?cd4 ?cd5 ?_)
             try
              case cd1 =>
               intro j u hj
               match j,hj with
               | 0,hj=>simp at hj;subst hj;simp[Addr.add]
             case cd2=>first|(intro u hu;simp at hu;subst hu;rfl)|rfl
             case cd3=>have:=HDL.out.2;unfold maxLen;omega
             case cd4=>have:=HDL.out.2;omega
             case cd5=>have:=R4.out.sz;simp;omega
             ·intro v' w6 hown' hgrow _;obtain⟨xa,xn,xc,rfl⟩:=Cv.Qh hown';have HD:=Qg (R2.addD R4.out hgrow (x:=d) (by rw[HDL.out.1,LK];exact hown'))
              have r5:=R4.out.next (bal (Below.refl w4.heap.size w4) (.cells #[.string d] 9));have r6:=r5.rs.low ((Below.refl _ _).grown hgrow r5.sz (fun k hk=>(r5.od.lt k hk).1))
              obtain⟨t0,t1,t2,t3,t4,t5⟩:=r6.pr.cells;have tf:=r6.pr.fz;clear hown' hgrow hos g0 g1 g2 g3 g4 g5 r5 r6;go_wp2
              go_roundg (T.size - b2)
              case rel =>
               go_light;have hbe:=HBE.out;refine⟨D++[d],b2,.slice xa xn xc,rfl,?_,?_,?_,?_,HD.out,by rw[<-hbe];exact HSp.out⟩
               ·have h1:=HLF.out.1;have h2:=HQ2.out.1;omega
               ·have h1:=HLF.out.1;have h2:=HQ2.out.1;have h3:=HQ2.out.2.2.1;rw[show T.size - b2=T.size - b - y1 by omega,<-Nat.mod_eq_sub_mod (by omega)];exact h3
               ·rw[Ld,L3];have h1:=HQ2.out.2.2.2.1;have h2:=HLF.out.2;omega
               ·intro x hx
                rcases Nk.1 hx with h|h
                ·exact HQ2.out.2.2.2.2.1 x h
                ·rw[Id.1 h];exact HDz.out
              case measure=>go_light;have h1:=HLF.out;have h2:=HQ2.out.1;have h3:=HBE.out;omega
            ·have hl' : ¬(0:Int)<(lf:Int):=by omega
             have HZ:Hid (T.size - b=0):=by have:=HQ2.out.1;show T.size - b=0;omega
             clear hl
             go_upto_region 38 with (go_at_call 137;with_reducible refine(HLc.out _).mono ?_;rintro x w2 ⟨rfl,hb2⟩)
             have r3:=HX.out _ hb2;clear k0 k1 k2 HX HLc hb2;have hn1:=JT r3.os;have hn2:=JT r3.od;subst hn1 hn2;obtain⟨sa',sb,sc',da',db,dc',hv1,hv2,q1,q2,q3⟩:=R2.yes r3 (QP w2 w.heap.size (.int .i64 (y0:Int)) (.int .i64 (y1:Int)) (.int .u64 (old:Int)) (.int .u64 (z1:Int)) (.slice sa L.length sc) (.slice da D.length dc)) HO.out HY.out.2.1 HE.out.2.1 (by have h1:=HQ2.out.2.2.2.1;have h2:=HQ2.out.2.1;have h3:=HY.out.2.2.1;omega) (fun d hd=>by have h1:=HQ2.out.2.2.2.2.1 d hd;have h3:=HY.out.2.2.1;omega)
             obtain⟨e1,_,e2⟩:=NJ hv1;obtain⟨e3,_,e4⟩:=NJ hv2;subst e1 e2 e3 e4;have hp:=r3.rs.res.put (.int .i64 (y0:Int)) (.int .i64 (y1:Int)) (.int .u64 (old:Int)) (.int .u64 (z1:Int)) (.slice sa L.length sc) (.slice da D.length dc);have HF:=Qg (And.intro q1 (And.intro q2 (And.intro (Qli HQ2.out.2.2.2.2.2 HST.out.2.2 HZ.out) q3)));unfold QT at hp HF;have HP:=Qg hp;clear hp;obtain⟨p0,p1,p2,p3,p4,p5⟩:=r3.rs.pr.cells;obtain⟨m0,m1,m2,m3,m4,m5⟩:=r3.rs.res.cells;have qf:=r3.rs.res.fz;clear r3 q1 q2 q3 HZ hv1 hv2 HQ2 HST HE
             repeat go_step
             obtain⟨s0,s1,s2,s3,s4,s5⟩:=HP.out.cells;refine bodyPost_ret (v := .tuple #[.agg #[.int .i64 (y0:Int),.int .i64 (y1:Int),.int .u64 (old:Int),.int .u64 (z1:Int),.slice sa L.length sc,.slice da D.length dc],.bool true]) (by simp[results,Tryz.results84,go_sem,s0,s1,s2,s3,s4,s5]) rfl ?_
             exact .inr ⟨⟨y0,y1,old,z1,L,D⟩,sa,sb,sc,da,db,dc,rfl,HF.out.1,HF.out.2.1,HF.out.2.2.1,HF.out.2.2.2⟩
end Go.Proofs.YtdocjikpcbmcgaaGreatDoor
