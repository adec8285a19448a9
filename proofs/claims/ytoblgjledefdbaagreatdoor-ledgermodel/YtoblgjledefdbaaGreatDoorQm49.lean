/- Own work. -/
import Derived.Test.YtoblgjledefdbaaGreatDoorQm48
set_option maxRecDepth 100000
set_option maxHeartbeats 32000000
namespace Go.Proofs.YtoblgjledefdbaaGreatDoor
open Go.RowKit
attribute [local go_sem ↓] Go.wp_at_zero Go.wp_at_succ
open Go.Proofs.Tryz
theorem QiH(s:BA)(hs:s.size<=8796093021952)(w:World):Calls prog 113 #[.string s] w (RdQ w s):=by
 obtain⟨W0,xK⟩:=Ze ((w.alloc (.cells #[.int .i64 0,.int .i64 0,.int .u64 0,.int .u64 0,.slice none 0 0,.slice none 0 0] 138)).alloc (.cells #[.int .i64 0,.int .i64 0,.int .u64 0,.int .u64 0,.slice none 0 0,.slice none 0 0] 138));have hb:Below w.heap.size w W0:=by rw[<-xK];exact bal (bal (Lb _ _) _) _
 have h6:Six W0 w.heap.size (.int .i64 0) (.int .i64 0) (.int .u64 0) (.int .u64 0) (.slice none 0 0) (.slice none 0 0):=by rw[<-xK];exact(Qaa w _ _ _ _ _ _).next (bal (Lb _ _) _)
 have h7:Six W0 (w.heap.size+1) (.int .i64 0) (.int .i64 0) (.int .u64 0) (.int .u64 0) (.slice none 0 0) (.slice none 0 0):=by
  rw[<-xK];have:=Qaa (w.alloc (.cells #[.int .i64 0,.int .i64 0,.int .u64 0,.int .u64 0,.slice none 0 0,.slice none 0 0] 138)) (.int .i64 0) (.int .i64 0) (.int .u64 0) (.int .u64 0) (.slice none 0 0) (.slice none 0 0)
  rwa [NQ] at this
 have hz:W0.heap.size=w.heap.size+2:=by rw[<-xK];simp
 obtain⟨c0,c1,c2,c3,c4,c5⟩:=h6.cells;obtain⟨d0,d1,d2,d3,d4,d5⟩:=h7.cells;have f6:=h6.fz;have f7:=h7.fz;have kX:(s.size:Int)<=8796093021952:=by omega
 by_cases h2:s.size<2
 ·have zL:(s.size:Int)<2:=by omega
  have hn:dec s.data.toList=none:=by
   have hl:=Qb s
   match hm:s.data.toList with
   | []=>rfl
   | [_]=>rfl
   | a::b::l=>rw[hm] at hl;simp at hl;omega
  have hp:=h6.put (.int .i64 0) (.int .i64 0) (.int .u64 0) (.int .u64 0) (.slice none 0 0) (.slice none 0 0);have hc:=Yy W0 w.heap.size (.int .i64 0) (.int .i64 0) (.int .u64 0) (.int .u64 0) (.slice none 0 0) (.slice none 0 0);unfold Jy at hp hc;have HN:=Qg hn;have HB:=Qg hb;clear h6 h7 hb hz h2 hn
  go_enter func113,ntmps113
  go_upto_region 2 with (fail)
  try rw[xK]
  clear xK;go_wp2;obtain⟨s0,s1,s2,s3,s4,s5⟩:=hp.cells;refine Lv (v := .tuple #[.agg #[.int .i64 0,.int .i64 0,.int .u64 0,.int .u64 0,.slice none 0 0,.slice none 0 0],.bool false]) (by simp[results,results113,go_sem,s0,s1,s2,s3,s4,s5]) rfl ?_
  exact .inl ⟨0,0,0,0,none,0,0,none,0,0,rfl,HN.out,HB.out.trans (hc.below (by rintro b rfl;omega))⟩
 ·have zL : ¬(s.size:Int)<2:=by omega
  obtain⟨b0,b1,l,hl⟩ : ∃b0 b1 l,s.data.toList=b0::b1::l:=by
   have hl:=Qb s
   match hm:s.data.toList with
   | []=>rw[hm] at hl;simp at hl;omega
   | [_]=>rw[hm] at hl;simp at hl;omega
   | a::b::l=>exact⟨a,b,l,rfl⟩
  go_enter func113,ntmps113
  go_upto_region 2 with (fail)
  try rw[xK]
  clear xK
  go_upto_region 6 with (fail)
  have zB:(s[0]'(by omega)).toNat=b0.toNat:=by
   have:s[0]'(by omega)=s.data.toList[0]'(by rw[Qb];omega):=by simp[ByteArray.getElem_eq_getElem_data]
   rw[this];simp[hl]
  have zC:(s[1]'(by omega)).toNat=b1.toNat:=by
   have:s[1]'(by omega)=s.data.toList[1]'(by rw[Qb];omega):=by simp[ByteArray.getElem_eq_getElem_data]
   rw[this];simp[hl]
  obtain⟨y0,zD⟩:=Ze b0.toNat;obtain⟨y1,xS⟩:=Ze b1.toNat;rw[zD] at zB;rw[xS] at zC;have kC:wrap64 (y0:Int)=(y0:Int):=by have:=b0.toNat_lt;unfold wrap64;omega
  have kD:wrap64 (y1:Int)=(y1:Int):=by have:=b1.toNat_lt;unfold wrap64;omega
  rw[zB,zC,kC,kD];have yB:=Qg (L6 zD xS);clear kC kD zB zC zD xS;have g7:=(h7.set0 (.int .i64 (y0:Int))).set1 (.int .i64 (y1:Int));have gc:=((ChT.refl (fun x=>x=w.heap.size+1) W0).set (w.heap.size+1) 0 (.int .i64 (y0:Int)) rfl).set (w.heap.size+1) 1 (.int .i64 (y1:Int)) rfl
  obtain⟨W2,yP⟩:=Ze ((W0.setCell ⟨w.heap.size+1,0,none⟩ (.int .i64 (y0:Int))).setCell ⟨w.heap.size+1,1,none⟩ (.int .i64 (y1:Int)));rw[yP] at g7 gc;rw[yP];have g6:=h6.same (gc.block _ (by show ¬_=_;omega))
  have gb:Below w.heap.size w W2:=hb.trans (gc.below (by rintro b rfl;omega))
  have gz:W2.heap.size=w.heap.size+2:=by rw[gc.size,hz]
  obtain⟨T,hT⟩:=Ze (s.extract 2 s.size);have yO:T.data.toList=l:=by
   rw[<-hT,Nz,Ie,NV,hl];simp[<-Qb,hl]
  have kO:T.size=s.size - 2:=by rw[<-Qb,yO,<-Qb,hl];simp
  have kG:RSC w (W2.alloc (.cells #[.string T,.int .i64 ((0:Nat):Int),.int .i64 ((0:Nat):Int)] 256)) T 0 0 y0 y1 0 0 (.slice none 0 0) (.slice none 0 0):=by
   have yR:=bal (Lb W2.heap.size W2) (.cells #[.string T,.int .i64 ((0:Nat):Int),.int .i64 ((0:Nat):Int)] 256);refine⟨g6.next yR,g7.next yR,?_,Qa gb yR⟩
   have:=Qnq W2 T 0 0
   rwa [gz] at this
  clear yP g6 g7 gc gb h6 h7 hb c0 c1 c2 c3 c4 c5 d0 d1 d2 d3 d4 d5 f6 f7
  go_upto_region 7 with (fail)
  obtain⟨W3,yQ⟩:=Ze (W2.alloc (.cells #[.string T,.int .i64 0,.int .i64 0] 256));have zE:RSC w W3 T 0 0 y0 y1 0 0 (.slice none 0 0) (.slice none 0 0):=by rw[<-yQ];exact kG
  rw[yQ];clear yQ kG;have zI:Hid (∀F,Below W3.heap.size W3 F->RSC w F T 0 0 y0 y1 0 0 (.slice none 0 0) (.slice none 0 0)):=fun F hF=>zE.next hF
  obtain⟨a1,e1,z1,yF⟩ : ∃a1 e1 z1,rnb T 0 0=(a1,e1,z1):=⟨_,_,_,rfl⟩;have xC:=Qa1 T 0 0 (Ll _);rw[yF] at xC;have xA:Calls prog 191 #[.agg #[.string T,.int .i64 0,.int .i64 0]] W3 fun x w'=>x = .returned (.tuple #[.agg #[.string T,.int .i64 (a1:Int),.int .i64 (e1:Int)],.int .u64 (z1:Int),.int .i64 (e1:Int)])∧Below W3.heap.size W3 w':=by
   have:=Uz W3 T 0 0 (Ll _) (by omega)
   rw[yF] at this;exact this
  obtain⟨k0,k1,k2⟩:=zE.rd.cells;have xQ:=Qg (L6 yF xC);clear zE yF xC
  go_upto_region 8 with (go_at_call 191;with_reducible refine xA.mono ?_;rintro x w4 ⟨rfl,zQ⟩;(have r4:=zI.out _ zQ);(obtain⟨n0,n1,n2⟩:=r4.rd.cells);(have nf:=r4.rd.fz))
  have r5:=r4.put a1 e1;unfold put3 at r5;obtain⟨w5,yZ⟩:=Ze (((w4.setCell ⟨w.heap.size+2,0,none⟩ (.string T)).setCell ⟨w.heap.size+2,1,none⟩ (.int .i64 (a1:Int))).setCell ⟨w.heap.size+2,2,none⟩ (.int .i64 (e1:Int)));rw[yZ] at r5;rw[yZ];obtain⟨p0,p1,p2,p3,p4,p5⟩:=r5.pr.cells;have pf:=r5.pr.fz;clear yZ r4 n0 n1 n2 nf k0 k1 k2 xA zI zQ
  go_upto_region 10 with (fail)
  have r6:=r5.putSize z1;obtain⟨w7,zA⟩:=Ze (w5.setCell ⟨w.heap.size+1,3,none⟩ (.int .u64 (z1:Int)));rw[zA] at r6;rw[zA];clear zA p0 p1 p2 p3 p4 p5 pf r5;obtain⟨p0,p1,p2,p3,p4,p5⟩:=r6.pr.cells;have pf:=r6.pr.fz;obtain⟨k0,k1,k2⟩:=r6.rd.cells;have yE:Hid (∀F,Below w7.heap.size w7 F->RSC w F T a1 e1 y0 y1 0 z1 (.slice none 0 0) (.slice none 0 0)):=fun F hF=>r6.next hF
  obtain⟨a2,e2,z2,yG⟩ : ∃a2 e2 z2,rnb T a1 e1=(a2,e2,z2):=⟨_,_,_,rfl⟩;have xC:=Qa1 T a1 e1 xQ.out.2.1;rw[yG] at xC;have xA:Calls prog 191 #[.agg #[.string T,.int .i64 (a1:Int),.int .i64 (e1:Int)]] w7 fun x w'=>x = .returned (.tuple #[.agg #[.string T,.int .i64 (a2:Int),.int .i64 (e2:Int)],.int .u64 (z2:Int),.int .i64 (e2:Int)])∧Below w7.heap.size w7 w':=by
   have:=Uz w7 T a1 e1 xQ.out.2.1 (by omega)
   rw[yG] at this;exact this
  have xT:=Qg (L6 yG xC);have R6:=Qg r6;clear yG xC r6;have yD:Hid (Sp1 s T y0 y1 z1 a1 e1):=QiQ hl yO yB.out.1 yB.out.2 xQ.out.1;have HY:Hid (y1<256∧z1<18446744073709551616∧T.size<=8796093021952∧a1<=T.size):=⟨by rw[<-yB.out.2];exact b1.toNat_lt,xQ.out.2.2,by omega,xQ.out.2.1⟩
  clear hl yO kO yB xQ hT hz h2 zL hs kX
  go_cut [42] from 36 to 41 (fun c wx=>c = .bool (decide (y0=3∧e1=0))∧w7=wx)
  case first =>
   clear xA yE R6 yD xT HY
   by_cases hk:y0=3
   ·subst hk;have p0:w7.cell? ⟨w.heap.size+1,0,none⟩=some (.int .i64 3):=p0
    by_cases he:e1=0
    ·subst he;go_wp2
     go_meet
     case rel=>exact⟨rfl,rfl⟩
    ·have xR:((e1:Int) == 0)=false:=beq_eq_false_iff_ne.2 (by omega)
     have HD:Hid (decide (3=3∧e1=0)=false):=Ls (by omega)
     clear he;go_wp2
     go_meet
     case rel=>exact⟨by rw[HD.out],rfl⟩
   ·have xR:((y0:Int) == 3)=false:=beq_eq_false_iff_ne.2 (by omega)
    have HD:Hid (decide (y0=3∧e1=0)=false):=Ls (by omega)
    clear hk;go_wp2
    go_meet
    case rel=>exact⟨by rw[HD.out],rfl⟩
  case rest =>
   obtain⟨rfl,rfl⟩:=hcut
   go_upto_if 42 with (fail)
   go_cut [7] from 42 to 49 (fun ev wx => ∃a e old:Nat,ev = .int .i64 (e:Int)∧RSC w wx T a e (y0:Int) (y1:Int) old z1 (.slice none 0 0) (.slice none 0 0)∧a<=T.size∧old<18446744073709551616∧SpA s T y0 y1 z1 old a e)
   case first =>
    by_cases hk:y0=3∧e1=0
    ·obtain⟨rfl,rfl⟩:=hk;rw[LA (⟨rfl,rfl⟩:3=3∧0=0)];have xA:Calls prog 191 #[.agg #[.string T,.int .i64 (a1:Int),.int .i64 0]] w7 fun x w'=>x = .returned (.tuple #[.agg #[.string T,.int .i64 (a2:Int),.int .i64 (e2:Int)],.int .u64 (z2:Int),.int .i64 (e2:Int)])∧Below w7.heap.size w7 w':=xA
     have k2:w7.cell? ⟨w.heap.size+2,2,none⟩=some (.int .i64 0):=k2;clear R6
     go_wp2_with (go_at_call 191;with_reducible refine xA.mono ?_;rintro x w8 ⟨rfl,xH⟩;(have r8:=yE.out _ xH);(obtain⟨n0,n1,n2⟩:=r8.rd.cells);(have nf:=r8.rd.fz);(obtain⟨pF,pG,pH,pI,pJ,pK⟩:=r8.pr.cells);(have pL:=r8.pr.fz))
     go_meet
     case rel=>go_light;have r9:=(r8.put a2 e2).putOld z2;unfold put3 at r9;exact⟨a2,e2,z2,rfl,r9,xT.out.2.1,xT.out.2.2,Qm7 yD.out rfl xT.out.1⟩
    ·rw[Ls hk];have HK:=Qg hk;clear hk xA yE p0 p1 p2 p3 p4 p5 pf k0 k1 k2;go_wp2
     go_meet
     case rel=>go_light;exact⟨a1,e1,0,rfl,R6.out,HY.out.2.2.2,by decide,QiR yD.out (fun h h'=>HK.out ⟨h,h'⟩)⟩
   case rest =>
    obtain⟨a3,e3,old,rfl,r9,b9,bo,sA⟩:=hcut;obtain⟨w9,rfl⟩ : ∃w9,w9=wc:=⟨_,rfl⟩;have HA:=Qg (L6 b9 (L6 bo sA));clear xA yE p0 p1 p2 p3 p4 p5 pf k0 k1 k2 yD xT R6 b9 bo sA;obtain⟨p0,p1,p2,p3,p4,p5⟩:=r9.pr.cells;obtain⟨k0,k1,k2⟩:=r9.rd.cells;have xV:Hid (∀F,Below w9.heap.size w9 F->RSC w F T a3 e3 y0 y1 old z1 (.slice none 0 0) (.slice none 0 0)):=fun F hF=>r9.next hF
    have R9:=Qg r9;clear r9
    go_upto_if 52 with (fail)
    go_cut [8] from 50 to 52 (fun mv wx=>mv = .int .u64 (((if y0=1 then 1 else 0:Nat)):Int)∧w9=wx)
    case first =>
     clear xV R9 HA k0 k1 k2 p0 p1 p2 p3 p4 p5
     by_cases hk:y0=1
     ·subst hk;go_wp2
      go_meet
      case rel=>exact⟨rfl,rfl⟩
     ·have xR:((y0:Int) == 1)=false:=beq_eq_false_iff_ne.2 (by omega)
      have HD:=Qg hk;clear hk;go_wp2
      go_meet
      case rel=>exact⟨by rw[Le HD.out];rfl,rfl⟩
    case rest =>
     obtain⟨rfl,rfl⟩:=hcut;obtain⟨m0,yX⟩ : ∃m0:Nat,(if y0=1 then 1 else 0)=m0:=⟨_,rfl⟩
     rw[yX];have yC:=Qg yX;clear yX
     go_upto_region 14 with (fail)
     go_cut [59] from 53 to 58 (fun c wx=>c = .bool (decide (y0=2∧e3=0))∧w9=wx)
     case first =>
      clear xV R9 HA yC
      by_cases hk:y0=2
      ·subst hk;have p0:w9.cell? ⟨w.heap.size+1,0,none⟩=some (.int .i64 2):=p0
       by_cases he:e3=0
       ·subst he;go_wp2
        go_meet
        case rel=>exact⟨rfl,rfl⟩
       ·have xR:((e3:Int) == 0)=false:=beq_eq_false_iff_ne.2 (by omega)
        have HD:Hid (decide (2=2∧e3=0)=false):=Ls (by omega)
        clear he;go_wp2
        go_meet
        case rel=>exact⟨by rw[HD.out],rfl⟩
      ·have xR:((y0:Int) == 2)=false:=beq_eq_false_iff_ne.2 (by omega)
       have HD:Hid (decide (y0=2∧e3=0)=false):=Ls (by omega)
       clear hk;go_wp2
       go_meet
       case rel=>exact⟨by rw[HD.out],rfl⟩
     case rest =>
      obtain⟨rfl,rfl⟩:=hcut
      go_upto_if 59 with (fail)
      go_cut [7,8] from 59 to 65 (fun ev mv wx => ∃a e m:Nat,ev = .int .i64 (e:Int)∧mv = .int .u64 (m:Int)∧RSC w wx T a e (y0:Int) (y1:Int) old z1 (.slice none 0 0) (.slice none 0 0)∧a<=T.size∧m<18446744073709551616∧SpB s T y0 y1 z1 old a e m)
      case first =>
       by_cases hk:y0=2∧e3=0
       ·obtain⟨rfl,rfl⟩:=hk;rw[LA (⟨rfl,rfl⟩:2=2∧0=0)];obtain⟨a4,e4,z4,yH⟩ : ∃a' e' n',rnb T a3 0=(a',e',n'):=⟨_,_,_,rfl⟩;have xC:=Qa1 T a3 0 HA.out.1;rw[yH] at xC;have xA:Calls prog 191 #[.agg #[.string T,.int .i64 (a3:Int),.int .i64 0]] w9 fun x w'=>x = .returned (.tuple #[.agg #[.string T,.int .i64 (a4:Int),.int .i64 (e4:Int)],.int .u64 (z4:Int),.int .i64 (e4:Int)])∧Below w9.heap.size w9 w':=by
         have:=Uz w9 T a3 0 HA.out.1 (by have:=HY.out.2.2.1;omega)
         rw[yH] at this;exact this
        have k2:w9.cell? ⟨w.heap.size+2,2,none⟩=some (.int .i64 0):=k2;have yM:=Qg (L6 yH xC);clear R9 yH xC
        go_wp2_with (go_at_call 191;with_reducible refine xA.mono ?_;rintro x w8 ⟨rfl,xH⟩;(have r8:=xV.out _ xH);(obtain⟨n0,n1,n2⟩:=r8.rd.cells);(have nf:=r8.rd.fz))
        go_meet
        case rel=>go_light;have r9:=r8.put a4 e4;unfold put3 at r9;exact⟨a4,e4,z4,rfl,rfl,r9,yM.out.2.1,yM.out.2.2,QiS HA.out.2.2 rfl yM.out.1⟩
       ·rw[Ls hk];have HK:=Qg hk;clear hk xV p0 p1 p2 p3 p4 p5 k0 k1 k2;go_wp2
        go_meet
        case rel=>go_light;exact⟨a3,e3,m0,rfl,rfl,R9.out,HA.out.1,by rw[<-yC.out];split <;> decide,QiT HA.out.2.2 (fun h h'=>HK.out ⟨h,h'⟩) yC.out.symm⟩
      case rest =>
       obtain⟨a5,e5,m,rfl,rfl,yI,zK,bm,sB⟩:=hcut;obtain⟨xJ,rfl⟩ : ∃xJ,xJ=wc:=⟨_,rfl⟩;have xN:=Qg (L6 zK (L6 bm (L6 HA.out.2.1 sB)));clear xV R9 p0 p1 p2 p3 p4 p5 k0 k1 k2 HA yC zK bm sB;obtain⟨k0,k1,k2⟩:=yI.rd.cells;have xI:Hid (∀F,Below xJ.heap.size xJ F->RSC w F T a5 e5 y0 y1 old z1 (.slice none 0 0) (.slice none 0 0)):=fun F hF=>yI.next hF
       have zJ:=Qg yI;clear yI
       go_upto_region 16 with (fail)
       go_cut [74] from 66 to 73 (fun c wx=>c = .bool (decide (e5≠0∨T.size - a5<m))∧RSC w wx T a5 e5 y0 y1 old z1 (.slice none 0 0) (.slice none 0 0))
       case first =>
        by_cases he:e5=0
        ·subst he;have k2:xJ.cell? ⟨w.heap.size+2,2,none⟩=some (.int .i64 0):=k2;obtain⟨lf,xD⟩:=Ze (T.size - a5);have HL:Calls prog 192 #[.agg #[.string T,.int .i64 (a5:Int),.int .i64 0]] xJ fun x w'=>x = .returned (.int .i64 (lf:Int))∧Below xJ.heap.size xJ w':=JA xJ T a5 0 lf xN.out.1 (by rw[Lk rfl,xD]) (by have:=HY.out.2.2.1;omega)
         have hw:IntKind.u64.wrap (lf:Int)=(lf:Int):=by have:=HY.out.2.2.1;rw[IntKind.wrap_u64];omega
         have xF:=Qg xD;clear xD
         by_cases hm:lf<m
         ·have kS:(lf:Int)<(m:Int):=by omega
          have HM:=Qg hm;clear hm
          go_wp2_with (go_at_call 192;with_reducible refine HL.mono ?_;rintro x w8 ⟨rfl,xH⟩)
          go_meet
          case rel=>exact⟨Lw Value.bool (LA (.inr (by rw[xF.out];exact HM.out))).symm,xI.out _ xH⟩
         ·have kS : ¬(lf:Int)<(m:Int):=by omega
          have HM:=Qg hm;clear hm
          go_wp2_with (go_at_call 192;with_reducible refine HL.mono ?_;rintro x w8 ⟨rfl,xH⟩)
          go_meet
          case rel=>exact⟨Lw Value.bool (by rw[xF.out];exact decide_eq_decide.2 (by omega)),xI.out _ xH⟩
        ·have xR:((e5:Int) == 0)=false:=beq_eq_false_iff_ne.2 (by omega)
         have kP:((e5:Int) != 0)=true:=by simp;omega
         have HM:=Qg he;clear he xI;go_wp2
         go_meet
         case rel=>exact⟨Lw Value.bool (LA (.inl HM.out)).symm,zJ.out⟩
       case rest =>
        obtain⟨rfl,xL⟩:=hcut;obtain⟨yJ,rfl⟩ : ∃yJ,yJ=wc:=⟨_,rfl⟩;clear xI zJ k0 k1 k2
        go_upto_if 74 with (fail)
        by_cases hbad:e5≠0∨T.size - a5<m
        ·rw[LA hbad];have hp:=xL.res.put (.int .i64 (y0:Int)) (.int .i64 (y1:Int)) (.int .u64 (old:Int)) (.int .u64 (z1:Int)) (.slice none 0 0) (.slice none 0 0);have hc:=Yy yJ w.heap.size (.int .i64 (y0:Int)) (.int .i64 (y1:Int)) (.int .u64 (old:Int)) (.int .u64 (z1:Int)) (.slice none 0 0) (.slice none 0 0);have HB:=Qg (R2.no xL hc);unfold Jy at hp HB;have HP:=Qg hp;clear hp;have HN:=Qg (Qk3 xN.out.2.2.2 hbad);obtain⟨p0,p1,p2,p3,p4,p5⟩:=xL.pr.cells;obtain⟨q0,q1,q2,q3,q4,q5⟩:=xL.res.cells;have qf:=xL.res.fz;clear hc xL hbad xN HY
         repeat go_step
         obtain⟨s0,s1,s2,s3,s4,s5⟩:=HP.out.cells;refine Lv (v := .tuple #[.agg #[.int .i64 (y0:Int),.int .i64 (y1:Int),.int .u64 (old:Int),.int .u64 (z1:Int),(.slice none 0 0),(.slice none 0 0)],.bool false]) (by simp[results,results113,go_sem,s0,s1,s2,s3,s4,s5]) rfl ?_
         exact .inl ⟨_,_,_,_,_,_,_,_,_,_,rfl,HN.out,HB.out⟩
        obtain rfl:e5=0:=by omega
        rw[Ls hbad];have xG:Hid (R2 w yJ T a5 y0 y1 old z1 (.slice none 0 0) (.slice none 0 0) [] []∧a5<=T.size∧m<=T.size∧SpC s T y0 y1 z1 old m a5 []):=⟨QkI xL,xN.out.1,by omega,QiU xN.out.2.2.2⟩
        have HO:Hid (old<18446744073709551616):=xN.out.2.2.1;have kT:m<=8796093021952:=by have:=HY.out.2.2.1;omega
        clear hbad xN xL;obtain⟨i0,zR,zS,zT,zU⟩:=Qn8;obtain⟨j0,zV,zW,zX,zY⟩:=info_parts Tryz.infoS;have HI:Hid (prog.info? 48=some i0∧i0.zero=some (.int .u64 0)∧i0.size=1∧i0.bytes=8):=⟨zR,zS,zT,zU⟩;have HJ:Hid (prog.info? 9=some j0∧j0.zero=some (.string ByteArray.empty)∧j0.size=1∧j0.bytes=16):=⟨zV,zW,zX,zY⟩;clear zR zS zT zU zV zW zX zY;go_wp2
        go_loopg [7,9,10,11] m (fun g ev lv iv nv wr => ∃(L:List Nat) (a:Nat) (sv:Value),g=m - L.length∧ev = .int .i64 0∧lv = .int .u64 ((nxt 0 L - 1:Nat):Int)∧iv = .int .u64 (L.length:Int)∧L.length<=m∧a<=T.size∧nxt 0 L - 1<18446744073709551616∧R2 w wr T a y0 y1 old z1 sv (.slice none 0 0) L []∧SpC s T y0 y1 z1 old m a L)
        case atStart=>go_light;exact⟨[],a5,.slice none 0 0,rfl,rfl,rfl,rfl,Ll _,xG.out.2.1,by decide,xG.out.1,xG.out.2.2.2⟩
        case round =>
         obtain⟨L,a,sv,rfl,rfl,rfl,rfl,yN,ha,zZ,hR,hC⟩:=hrel;obtain⟨sa,sn,sc,rfl⟩:=Cv.Qx hR.os;obtain⟨lt,yW⟩:=Ze (nxt 0 L - 1);rw[yW] at zZ ⊢;obtain⟨ll,yV⟩:=Ze L.length;rw[yV] at yN ⊢;have pC:(0:Int)<=(ll:Int):=Lf _;have HQ:=Qg (L6 yW yV);clear yW yV xG
         by_cases hj:ll<m
         ·have kQ:(ll:Int)<(m:Int):=by omega
          have HL:Hid (ll<8796093021952∧ll<m):=⟨by omega,hj⟩
          have HC:=Qg hC;obtain⟨a',e',n,hr⟩ : ∃a' e' n',rnb T a 0=(a',e',n'):=⟨_,_,_,rfl⟩;have xC:=Qa1 T a 0 ha;rw[hr] at xC;have xA:Calls prog 191 #[.agg #[.string T,.int .i64 (a:Int),.int .i64 0]] wr fun x w'=>x = .returned (.tuple #[.agg #[.string T,.int .i64 (a':Int),.int .i64 (e':Int)],.int .u64 (n:Int),.int .i64 (e':Int)])∧Below wr.heap.size wr w':=by
           have:=Uz wr T a 0 ha (by have:=HY.out.2.2.1;omega)
           rw[hr] at this;exact this
          have HX:Hid (∀F,Below wr.heap.size wr F->R2 w F T a y0 y1 old z1 (.slice sa sn sc) (.slice none 0 0) L []):=fun F hF=>hR.next hF
          obtain⟨k0,k1,k2⟩:=hR.rs.rd.cells;have k2:wr.cell? ⟨w.heap.size+2,2,none⟩=some (.int .i64 0):=k2;have HR:=Qg (L6 hr xC);clear hR hC hr xC hj yN ha
          go_upto_region 24 with (go_at_call 191;with_reducible refine xA.mono ?_;rintro x w3 ⟨rfl,xX⟩;(have r3:=HX.out _ xX);(obtain⟨n0,n1,n2⟩:=r3.rs.rd.cells);(have nf:=r3.rs.rd.fz))
          clear k0 k1 k2 xA HX xX;have HZ:Hid (RSC w (put3 w3 (w.heap.size+2) T a' e') T a' e' (y0:Int) (y1:Int) old z1 (.slice sa sn sc) (.slice none 0 0)∧(e'=0->R2 w (put3 w3 (w.heap.size+2) T a' e') T a' y0 y1 old z1 (.slice sa sn sc) (.slice none 0 0) L [])):=⟨r3.rs.put a' e',fun h=>by rw[h];exact r3.put a'⟩
          unfold put3 at HZ;obtain⟨w4,xO⟩:=Ze (((w3.setCell ⟨w.heap.size+2,0,none⟩ (.string T)).setCell ⟨w.heap.size+2,1,none⟩ (.int .i64 (a':Int))).setCell ⟨w.heap.size+2,2,none⟩ (.int .i64 (e':Int)));rw[xO] at HZ ⊢;clear xO r3 n0 n1 n2 nf
          by_cases he:e'=0
          ·subst he;have r4:=HZ.out.2 rfl;have HN:=Qg HR.out.2.2
           by_cases h0:ll=0
           ·have kN : ¬(0:Int)<(ll:Int):=by omega
            have xU:=Qg (Qfe (x:=n) HC.out (by rw[HQ.out.2];exact HL.out.2) HR.out.1 (by rw[Lk (by rw[HQ.out.2];exact h0)]))
            clear h0;obtain⟨g0,g1,g2,g3,g4,g5⟩:=r4.rs.pr.cells;have xE:=r4.os;rw[Cv.Own,HQ.out.2] at xE;have R4:=Qg r4;clear r4 HZ
            go_wp2_with (at_builtin;refine wpList_append_own _ rfl _ _ 66 rfl (w.heap.size+3) 48 i0 (.int .u64 0) 1 8 underlying66 HI.out.1 HI.out.2.1 HI.out.2.2.1 HI.out.2.2.2 rfl (by decide) _ _ _ rfl (xE.alloc _) ⟨w4.heap.size,0,none⟩ 1 1 [.int .u64 (n:Int)] rfl rfl ?cn1 ?cn2 ?cn3 ?cn4 ?cn5 ?_)
            try
             case cn1 =>
              intro j u hj
              match j,hj with
              | 0,hj=>simp at hj;subst hj;simp[Addr.add]
            case cn2=>first|(intro u hu;simp at hu;subst hu;rfl)|rfl
            case cn3=>have:=HL.out.1;unfold maxLen;omega
            case cn4=>have:=HL.out.1;omega
            case cn5=>have:=R4.out.sz;simp;omega
            ·intro v' w6 hown' hgrow _;obtain⟨xa,xn,xc,rfl⟩:=Cv.Qx hown';have HD:=Qg (R2.addS R4.out hgrow (x:=n) (by rw[HQ.out.2,L5];exact hown'))
             have r5:=R4.out.next (bal (Lb w4.heap.size w4) (.cells #[.int .u64 (n:Int)] 48));have r6:=r5.rs.low ((Lb _ _).grown hgrow r5.sz (fun k hk=>(r5.os.lt k hk).1))
             obtain⟨t0,t1,t2,t3,t4,t5⟩:=r6.pr.cells;have tf:=r6.pr.fz;clear hown' hgrow xE g0 g1 g2 g3 g4 g5 r5 r6;have ej:IntKind.u64.wrap ((ll:Int)+1)=((ll+1:Nat):Int):=by have:=HL.out.1;rw[IntKind.wrap_u64];omega
             go_wp2
             go_roundg (m - (ll+1))
             case rel=>go_light;refine⟨L++[n],a',.slice xa xn xc,by rw[Lc,HQ.out.2];rfl,rfl,by rw[Ux];rfl,by rw[Lc,HQ.out.2];first|rfl|(congr 1),by rw[Lc,HQ.out.2];exact HL.out.2,HR.out.2.1,by rw[Ux];exact HN.out,HD.out,xU.out⟩
             case measure=>go_light;have h1:=HL.out.2;have h2:=HQ.out.2;omega
           ·have kN:(0:Int)<(ll:Int):=by omega
            have H0:Hid (0<ll):=by show 0<ll;omega
            by_cases hbn:1099511627776<=n
            ·have yT:(1099511627776:Int)<=(n:Int):=by omega
             have kI:=Qg hbn;clear hbn h0
             go_upto_region 28 with (fail)
             have hp:=r4.rs.res.put (.int .i64 (y0:Int)) (.int .i64 (y1:Int)) (.int .u64 (old:Int)) (.int .u64 (z1:Int)) (.slice sa sn sc) (.slice none 0 0);have hc:=Yy w4 w.heap.size (.int .i64 (y0:Int)) (.int .i64 (y1:Int)) (.int .u64 (old:Int)) (.int .u64 (z1:Int)) (.slice sa sn sc) (.slice none 0 0);have HB:=Qg (R2.no r4.rs hc);unfold Jy at hp HB;have HP:=Qg hp;clear hp;have HN:=Qg (Qb2 HC.out (by rw[HQ.out.2];exact HL.out.2) HR.out.1 (.inr ⟨by rw[HQ.out.2];exact H0.out,.inl kI.out⟩))
             obtain⟨p0,p1,p2,p3,p4,p5⟩:=r4.rs.pr.cells;obtain⟨q0,q1,q2,q3,q4,q5⟩:=r4.rs.res.cells;have qf:=r4.rs.res.fz;clear hc r4 HZ HR
             repeat go_step
             obtain⟨s0,s1,s2,s3,s4,s5⟩:=HP.out.cells;refine Lv (v := .tuple #[.agg #[.int .i64 (y0:Int),.int .i64 (y1:Int),.int .u64 (old:Int),.int .u64 (z1:Int),(.slice sa sn sc),(.slice none 0 0)],.bool false]) (by simp[results,results113,go_sem,s0,s1,s2,s3,s4,s5]) rfl ?_
             exact .inl ⟨_,_,_,_,_,_,_,_,_,_,rfl,HN.out,HB.out⟩
            ·have yT : ¬(1099511627776:Int)<=(n:Int):=by omega
             by_cases hbl:1099511627776<=lt
             ·have yS:(1099511627776:Int)<=(lt:Int):=by omega
              have kH:=Qg hbl;clear h0 hbn hbl
              go_upto_region 28 with (fail)
              have hp:=r4.rs.res.put (.int .i64 (y0:Int)) (.int .i64 (y1:Int)) (.int .u64 (old:Int)) (.int .u64 (z1:Int)) (.slice sa sn sc) (.slice none 0 0);have hc:=Yy w4 w.heap.size (.int .i64 (y0:Int)) (.int .i64 (y1:Int)) (.int .u64 (old:Int)) (.int .u64 (z1:Int)) (.slice sa sn sc) (.slice none 0 0);have HB:=Qg (R2.no r4.rs hc);unfold Jy at hp HB;have HP:=Qg hp;clear hp;have HN:=Qg (Qb2 HC.out (by rw[HQ.out.2];exact HL.out.2) HR.out.1 (.inr ⟨by rw[HQ.out.2];exact H0.out,.inr (by rw[HQ.out.1];exact kH.out)⟩))
              obtain⟨p0,p1,p2,p3,p4,p5⟩:=r4.rs.pr.cells;obtain⟨q0,q1,q2,q3,q4,q5⟩:=r4.rs.res.cells;have qf:=r4.rs.res.fz;clear hc r4 HZ HR
              repeat go_step
              obtain⟨s0,s1,s2,s3,s4,s5⟩:=HP.out.cells;refine Lv (v := .tuple #[.agg #[.int .i64 (y0:Int),.int .i64 (y1:Int),.int .u64 (old:Int),.int .u64 (z1:Int),(.slice sa sn sc),(.slice none 0 0)],.bool false]) (by simp[results,results113,go_sem,s0,s1,s2,s3,s4,s5]) rfl ?_
              exact .inl ⟨_,_,_,_,_,_,_,_,_,_,rfl,HN.out,HB.out⟩
             ·have yS : ¬(1099511627776:Int)<=(lt:Int):=by omega
              obtain⟨x,hx⟩:=Ze (n+lt+1);have kF:(n:Int)+(lt:Int)+1=(x:Int):=by omega
              have kM:=Qg kF;have kE:x<18446744073709551616:=by omega
              have xU:=Qg (Qfe (x:=x) HC.out (by rw[HQ.out.2];exact HL.out.2) HR.out.1 (by rw[Le (by rw[HQ.out.2];exact h0),HQ.out.1,hx]))
              have kL:=Qg kE;clear hx kE hbn hbl h0 kF
              go_upto_region 30 with (fail)
              rw[kM.out];obtain⟨g0,g1,g2,g3,g4,g5⟩:=r4.rs.pr.cells;have xE:=r4.os;rw[Cv.Own,HQ.out.2] at xE;have R4:=Qg r4;clear r4 HZ 
              go_wp2_with (at_builtin;refine wpList_append_own _ rfl _ _ 66 rfl (w.heap.size+3) 48 i0 (.int .u64 0) 1 8 underlying66 HI.out.1 HI.out.2.1 HI.out.2.2.1 HI.out.2.2.2 rfl (by decide) _ _ _ rfl (xE.alloc _) ⟨w4.heap.size,0,none⟩ 1 1 [.int .u64 (x:Int)] rfl rfl ?cx1 ?cx2 ?cx3 ?cx4 ?cx5 ?_)
              try
               case cx1 =>
                intro j u hj
                match j,hj with
                | 0,hj=>simp at hj;subst hj;simp[Addr.add]
              case cx2=>first|(intro u hu;simp at hu;subst hu;rfl)|rfl
              case cx3=>have:=HL.out.1;unfold maxLen;omega
              case cx4=>have:=HL.out.1;omega
              case cx5=>have:=R4.out.sz;simp;omega
              ·intro v' w6 hown' hgrow _;obtain⟨xa,xn,xc,rfl⟩:=Cv.Qx hown';have HD:=Qg (R2.addS R4.out hgrow (x:=x) (by rw[HQ.out.2,L5];exact hown'))
               have r5:=R4.out.next (bal (Lb w4.heap.size w4) (.cells #[.int .u64 (x:Int)] 48));have r6:=r5.rs.low ((Lb _ _).grown hgrow r5.sz (fun k hk=>(r5.os.lt k hk).1))
               obtain⟨t0,t1,t2,t3,t4,t5⟩:=r6.pr.cells;have tf:=r6.pr.fz;clear hown' hgrow xE g0 g1 g2 g3 g4 g5 r5 r6;have ej:IntKind.u64.wrap ((ll:Int)+1)=((ll+1:Nat):Int):=by have:=HL.out.1;rw[IntKind.wrap_u64];omega
               go_wp2
               go_roundg (m - (ll+1))
               case rel=>go_light;refine⟨L++[x],a',.slice xa xn xc,by rw[Lc,HQ.out.2];rfl,rfl,by rw[Ux];rfl,by rw[Lc,HQ.out.2];first|rfl|(congr 1),by rw[Lc,HQ.out.2];exact HL.out.2,HR.out.2.1,by rw[Ux];exact kL.out,HD.out,xU.out⟩
               case measure=>go_light;have h1:=HL.out.2;have h2:=HQ.out.2;omega
          ·have xR:((e':Int) == 0)=false:=beq_eq_false_iff_ne.2 (by omega)
           have kP:((e':Int) != 0)=true:=by simp;omega
           have r4:=HZ.out.1;have kK:=Qg he;clear he
           go_upto_region 25 with (fail)
           have hp:=r4.res.put (.int .i64 (y0:Int)) (.int .i64 (y1:Int)) (.int .u64 (old:Int)) (.int .u64 (z1:Int)) (.slice sa sn sc) (.slice none 0 0);have hc:=Yy w4 w.heap.size (.int .i64 (y0:Int)) (.int .i64 (y1:Int)) (.int .u64 (old:Int)) (.int .u64 (z1:Int)) (.slice sa sn sc) (.slice none 0 0);have HB:=Qg (R2.no r4 hc);unfold Jy at hp HB;have HP:=Qg hp;clear hp;have HN:=Qg (Qb2 HC.out (by rw[HQ.out.2];exact HL.out.2) HR.out.1 (.inl kK.out))
           obtain⟨p0,p1,p2,p3,p4,p5⟩:=r4.pr.cells;obtain⟨q0,q1,q2,q3,q4,q5⟩:=r4.res.cells;have qf:=r4.res.fz;clear hc r4 HZ HR
           repeat go_step
           obtain⟨s0,s1,s2,s3,s4,s5⟩:=HP.out.cells;refine Lv (v := .tuple #[.agg #[.int .i64 (y0:Int),.int .i64 (y1:Int),.int .u64 (old:Int),.int .u64 (z1:Int),(.slice sa sn sc),(.slice none 0 0)],.bool false]) (by simp[results,results113,go_sem,s0,s1,s2,s3,s4,s5]) rfl ?_
           exact .inl ⟨_,_,_,_,_,_,_,_,_,_,rfl,HN.out,HB.out⟩
         ·have kQ : ¬(ll:Int)<(m:Int):=by omega
          have HE:Hid (SpD s T y0 y1 z1 old a L []∧L.length<=8796093021952∧a<=T.size):=⟨Qm8 hC (by rw[HQ.out.2];omega),by rw[HQ.out.2];omega,ha⟩
          obtain⟨k0,k1,k2⟩:=hR.rs.rd.cells;have k2:wr.cell? ⟨w.heap.size+2,2,none⟩=some (.int .i64 0):=k2;obtain⟨p0,p1,p2,p3,p4,p5⟩:=hR.rs.pr.cells;have HX:Hid (∀F,Below wr.heap.size wr F->R2 w F T a y0 y1 old z1 (.slice sa sn sc) (.slice none 0 0) L []):=fun F hF=>hR.next hF
          have RW:=Qg hR;clear hR hC hj yN ha zZ kT HI
          go_upto_region 32 with (fail)
          go_cut [120] from 110 to 119 (fun c wx=>c = .bool (decide (y1=0∨(T.size - a) % y1≠0))∧R2 w wx T a y0 y1 old z1 (.slice sa sn sc) (.slice none 0 0) L [])
          case first =>
           by_cases hk:y1=0
           ·subst hk;have p1:wr.cell? ⟨w.heap.size+1,1,none⟩=some (.int .i64 0):=p1
            go_quiet (fail)
            go_wp2
            go_meet
            case rel=>exact⟨rfl,RW.out.next (Qf (Lb _ _) _)⟩
           ·obtain⟨lf,xD⟩:=Ze (T.size - a);have xP:Hid (∀W,Calls prog 192 #[.agg #[.string T,.int .i64 (a:Int),.int .i64 0]] W fun x w'=>x = .returned (.int .i64 (lf:Int))∧Below W.heap.size W w'):=fun W=>JA W T a 0 lf HE.out.2.2 (by rw[Lk rfl,xD]) (by have:=HY.out.2.2.1;omega)
            have pA:((y1:Int) == 0)=false:=beq_eq_false_iff_ne.2 (by omega)
            have pB : ¬(y1:Int)=0:=by omega
            obtain⟨rm,yY⟩:=Ze (lf % y1);have pD:Int.tmod (lf:Int) (y1:Int)=(rm:Int):=by rw[Int.tmod_eq_emod_of_nonneg (by omega),<-yY];rfl
            have pE:IntKind.i64.wrap (rm:Int)=(rm:Int):=by have h1:=HY.out.2.2.1;have h2:=Nat.mod_le lf y1;rw[Lr];omega
            have zG:Hid ((T.size - a) % y1=rm∧y1≠0):=⟨by rw[xD];exact yY,hk⟩
            have kW:Hid (∀F,Below wr.heap.size wr F->F.cell? ⟨w.heap.size+1,1,none⟩=some (.int .i64 (y1:Int))∧F.cell? ⟨w.heap.size+2,0,none⟩=some (.string T)∧F.cell? ⟨w.heap.size+2,1,none⟩=some (.int .i64 (a:Int))∧F.cell? ⟨w.heap.size+2,2,none⟩=some (.int .i64 0)):=fun F hF=>⟨(HX.out F hF).rs.pr.cells.2.1,(HX.out F hF).rs.rd.cells.1,(HX.out F hF).rs.rd.cells.2.1,(HX.out F hF).rs.rd.cells.2.2⟩
            have zP:Below wr.heap.size wr wr:=Lb _ _;clear xD yY hk RW
            go_region_with (first|(go_at_call 192;with_reducible refine(xP.out _).mono ?_;rintro x w8 ⟨rfl,xY⟩;(have xH:Below wr.heap.size wr w8:=(by first|exact Qa zP.drew xY|exact Qa zP xY));(obtain⟨m1,m2,m3,m4⟩:=kW.out _ xH)))
            all_goals
             go_wp2
             go_meet
             case rel=>exact⟨Lw Value.bool (by rw[zG.out.1];have:=zG.out.2;by_cases hz:rm=0 <;> simp[hz,this]),HX.out _ xH⟩
          case rest =>
           obtain⟨rfl,xM⟩:=hcut;obtain⟨yK,rfl⟩ : ∃yK,yK=wc:=⟨_,rfl⟩;clear HX RW k0 k1 k2 p0 p1 p2 p3 p4 p5
           go_upto_if 120 with (fail)
           by_cases hbad:y1=0∨(T.size - a) % y1≠0
           ·rw[LA hbad];have hp:=xM.rs.res.put (.int .i64 (y0:Int)) (.int .i64 (y1:Int)) (.int .u64 (old:Int)) (.int .u64 (z1:Int)) (.slice sa sn sc) (.slice none 0 0);have hc:=Yy yK w.heap.size (.int .i64 (y0:Int)) (.int .i64 (y1:Int)) (.int .u64 (old:Int)) (.int .u64 (z1:Int)) (.slice sa sn sc) (.slice none 0 0);have HB:=Qg (R2.no xM.rs hc);unfold Jy at hp HB;have HP:=Qg hp;clear hp;have HN:=Qg (Qk4 HE.out.1 hbad);obtain⟨p0,p1,p2,p3,p4,p5⟩:=xM.rs.pr.cells;obtain⟨q0,q1,q2,q3,q4,q5⟩:=xM.rs.res.cells;have qf:=xM.rs.res.fz;clear hc xM hbad
            repeat go_step
            obtain⟨s0,s1,s2,s3,s4,s5⟩:=HP.out.cells;refine Lv (v := .tuple #[.agg #[.int .i64 (y0:Int),.int .i64 (y1:Int),.int .u64 (old:Int),.int .u64 (z1:Int),(.slice sa sn sc),(.slice none 0 0)],.bool false]) (by simp[results,results113,go_sem,s0,s1,s2,s3,s4,s5]) rfl ?_
            exact .inl ⟨_,_,_,_,_,_,_,_,_,_,rfl,HN.out,HB.out⟩
           rw[Ls hbad];have xS:0<y1:=by omega
           have xG:Hid (R2 w yK T a y0 y1 old z1 (.slice sa sn sc) (.slice none 0 0) L []∧(T.size - a) % y1=0∧0<y1):=⟨xM,by omega,xS⟩
           clear hbad xM xS;go_wp2
           go_loopg [12] (T.size - a) (fun g dd wr => ∃(D:LB) (b:Nat) (dv:Value),g=T.size - b∧b<=T.size∧(T.size - b) % y1=0∧D.length<=b∧(∀d∈D,d.size<=T.size)∧R2 w wr T b y0 y1 old z1 (.slice sa sn sc) dv L D∧SpD s T y0 y1 z1 old b L D)
           case atStart=>go_light;exact⟨[],a,.slice none 0 0,rfl,HE.out.2.2,xG.out.2.1,Ll _,(fun d hd=>by cases hd),xG.out.1,HE.out.1⟩
           case round =>
            obtain⟨D,b,dv,rfl,hb,yA,zM,zN,hR,zO⟩:=hrel;obtain⟨da,dn,dc,rfl⟩:=Cv.Qx hR.od;obtain⟨lf,xD⟩:=Ze (T.size - b);have xP:Hid (∀W,Calls prog 192 #[.agg #[.string T,.int .i64 (b:Int),.int .i64 0]] W fun x w'=>x = .returned (.int .i64 (lf:Int))∧Below W.heap.size W w'):=fun W=>JA W T b 0 lf hb (by rw[Lk rfl,xD]) (by have:=HY.out.2.2.1;omega)
            obtain⟨k0,k1,k2⟩:=hR.rs.rd.cells;have k2:wr.cell? ⟨w.heap.size+2,2,none⟩=some (.int .i64 0):=k2;have HX:Hid (∀F,Below wr.heap.size wr F->R2 w F T b y0 y1 old z1 (.slice sa sn sc) (.slice da dn dc) L D):=fun F hF=>hR.next hF
            have xB:Hid (T.size - b=lf∧b<=T.size∧(T.size - b) % y1=0∧D.length<=b∧(∀d∈D,d.size<=T.size)∧SpD s T y0 y1 z1 old b L D):=⟨xD,hb,yA,zM,zN,zO⟩;clear xD hb yA zM zN hR zO
            by_cases hl:0<lf
            ·have kR:(0:Int)<(lf:Int):=by omega
             have xF:Hid (y1<=lf∧0<y1):=⟨Nat.le_of_dvd hl (by have:=xB.out.2.2.1;rw[xB.out.1] at this;exact Nat.dvd_of_mod_eq_zero this),xG.out.2.2⟩
             clear hl;obtain⟨d,hd⟩:=Ze (T.extract b (b+y1));obtain⟨b2,xZ⟩:=Ze (b+y1);have zF:=Qg xZ;have HT:Hid (∀W,Calls prog 193 #[.agg #[.string T,.int .i64 (b:Int),.int .i64 0],.int .i64 (y1:Int)] W fun x w'=>x = .returned (.tuple #[.agg #[.string T,.int .i64 (b2:Int),.int .i64 0],.string d,.int .i64 0])∧Below W.heap.size W w'):=fun W=>by
              have:=Qe3 W T b 0 (y1:Int) xB.out.2.1 (by have:=HY.out.2.2.1;omega)
              have h1:=xF.out.1;have h2:=xB.out.1;rw[rtk,Le (by simp),Le (by omega),LM] at this
              rw[<-hd,<-xZ];exact this
             have xU:=Qg (Qk5 xB.out.2.2.2.2.2 xF.out.2 (by rw[xB.out.1];exact xF.out.1) hd.symm)
             have kJ:Hid (d.size<=T.size):=by show d.size<=T.size;rw[<-hd,Iz];omega
             clear hd xZ
             go_upto_region 36 with (go_at_call 192;with_reducible refine(xP.out _).mono ?_;rintro x w2 ⟨rfl,xW⟩)
             have r2:=HX.out _ xW;have zH:Hid (∀F,Below w2.heap.size w2 F->R2 w F T b y0 y1 old z1 (.slice sa sn sc) (.slice da dn dc) L D):=fun F hF=>r2.next hF
             clear k0 k1 k2 HX xW xP;obtain⟨k0,k1,k2⟩:=r2.rs.rd.cells;have k2:w2.cell? ⟨w.heap.size+2,2,none⟩=some (.int .i64 0):=k2;obtain⟨p0,p1,p2,p3,p4,p5⟩:=r2.rs.pr.cells;clear r2
             go_upto_region 37 with (go_at_call 193;with_reducible refine(HT.out _).mono ?_;rintro x w3 ⟨rfl,xX⟩;(have r3:=zH.out _ xX);(obtain⟨n0,n1,n2⟩:=r3.rs.rd.cells);(have nf:=r3.rs.rd.fz))
             clear k0 k1 k2 p0 p1 p2 p3 p4 p5 zH xX HT;have r4:=r3.put b2;unfold put3 at r4;obtain⟨w4,xO⟩:=Ze (((w3.setCell ⟨w.heap.size+2,0,none⟩ (.string T)).setCell ⟨w.heap.size+2,1,none⟩ (.int .i64 (b2:Int))).setCell ⟨w.heap.size+2,2,none⟩ (.int .i64 ((0:Nat):Int)));rw[xO] at r4
             try rw[show(Value.int .i64 ((0:Nat):Int)) = .int .i64 0 from rfl] at xO
             rw[xO];clear xO r3 n0 n1 n2 nf;obtain⟨g0,g1,g2,g3,g4,g5⟩:=r4.rs.pr.cells;have xE:=r4.od;obtain⟨dl,yU⟩:=Ze D.length;rw[Qi,yU] at xE;have yL:Hid (D.length=dl∧dl<=8796093021952):=⟨yU,by have h1:=xB.out.2.2.2.1;have h2:=xB.out.2.1;have h3:=HY.out.2.2.1;omega⟩
             have R4:=Qg r4;clear r4 yU
             go_wp2_with (at_builtin;refine wpList_append_own _ rfl _ _ 22 rfl (w.heap.size+3) 9 j0 (.string ByteArray.empty) 1 16 underlying22 HJ.out.1 HJ.out.2.1 HJ.out.2.2.1 HJ.out.2.2.2 rfl (by decide) _ _ _ rfl (xE.alloc _) ⟨w4.heap.size,0,none⟩ 1 1 [.string d] rfl rfl ?cd1 ?cd2 ?cd3 ?cd4 ?cd5 ?_)
             try
              case cd1 =>
               intro j u hj
               match j,hj with
               | 0,hj=>simp at hj;subst hj;simp[Addr.add]
             case cd2=>first|(intro u hu;simp at hu;subst hu;rfl)|rfl
             case cd3=>have:=yL.out.2;unfold maxLen;omega
             case cd4=>have:=yL.out.2;omega
             case cd5=>have:=R4.out.sz;simp;omega
             ·intro v' w6 hown' hgrow _;obtain⟨xa,xn,xc,rfl⟩:=Cv.Qx hown';have HD:=Qg (R2.addD R4.out hgrow (x:=d) (by rw[yL.out.1,L5];exact hown'))
              have r5:=R4.out.next (bal (Lb w4.heap.size w4) (.cells #[.string d] 9));have r6:=r5.rs.low ((Lb _ _).grown hgrow r5.sz (fun k hk=>(r5.od.lt k hk).1))
              obtain⟨t0,t1,t2,t3,t4,t5⟩:=r6.pr.cells;have tf:=r6.pr.fz;clear hown' hgrow xE g0 g1 g2 g3 g4 g5 r5 r6;go_wp2
              go_roundg (T.size - b2)
              case rel =>
               go_light;have xZ:=zF.out;refine⟨D++[d],b2,.slice xa xn xc,rfl,?_,?_,?_,?_,HD.out,by rw[<-xZ];exact xU.out⟩
               ·have h1:=xF.out.1;have h2:=xB.out.1;omega
               ·have h1:=xF.out.1;have h2:=xB.out.1;have h3:=xB.out.2.2.1;rw[show T.size - b2=T.size - b - y1 by omega,<-Nat.mod_eq_sub_mod (by omega)];exact h3
               ·rw[Lc,LF];have h1:=xB.out.2.2.2.1;have h2:=xF.out.2;omega
               ·intro x hx
                rcases List.mem_append.1 hx with h|h
                ·exact xB.out.2.2.2.2.1 x h
                ·rw[List.mem_singleton.1 h];exact kJ.out
              case measure=>go_light;have h1:=xF.out;have h2:=xB.out.1;have h3:=zF.out;omega
            ·have kR : ¬(0:Int)<(lf:Int):=by omega
             have HZ:Hid (T.size - b=0):=by have:=xB.out.1;show T.size - b=0;omega
             clear hl
             go_upto_region 38 with (go_at_call 192;with_reducible refine(xP.out _).mono ?_;rintro x w2 ⟨rfl,xW⟩)
             have r3:=HX.out _ xW;clear k0 k1 k2 HX xP xW;have kU:=QbL r3.os;have kV:=QbL r3.od;subst kU kV;obtain⟨pM,sb,pN,kY,db,kZ,kA,kB,q1,q2,q3⟩:=R2.yes r3 (Yy w2 w.heap.size (.int .i64 (y0:Int)) (.int .i64 (y1:Int)) (.int .u64 (old:Int)) (.int .u64 (z1:Int)) (.slice sa L.length sc) (.slice da D.length dc)) HO.out HY.out.2.1 HE.out.2.1 (by have h1:=xB.out.2.2.2.1;have h2:=xB.out.2.1;have h3:=HY.out.2.2.1;omega) (fun d hd=>by have h1:=xB.out.2.2.2.2.1 d hd;have h3:=HY.out.2.2.1;omega)
             obtain⟨e1,_,e2⟩:=Iv kA;obtain⟨e3,_,e4⟩:=Iv kB;subst e1 e2 e3 e4;have hp:=r3.rs.res.put (.int .i64 (y0:Int)) (.int .i64 (y1:Int)) (.int .u64 (old:Int)) (.int .u64 (z1:Int)) (.slice sa L.length sc) (.slice da D.length dc);have HF:=Qg (L6 q1 (L6 q2 (L6 (Qm9 xB.out.2.2.2.2.2 xG.out.2.2 HZ.out) q3)));unfold Jy at hp HF;have HP:=Qg hp;clear hp;obtain⟨p0,p1,p2,p3,p4,p5⟩:=r3.rs.pr.cells;obtain⟨m0,m1,m2,m3,m4,m5⟩:=r3.rs.res.cells;have qf:=r3.rs.res.fz;clear r3 q1 q2 q3 HZ kA kB xB xG HE
             repeat go_step
             obtain⟨s0,s1,s2,s3,s4,s5⟩:=HP.out.cells;refine Lv (v := .tuple #[.agg #[.int .i64 (y0:Int),.int .i64 (y1:Int),.int .u64 (old:Int),.int .u64 (z1:Int),.slice sa L.length sc,.slice da D.length dc],.bool true]) (by simp[results,results113,go_sem,s0,s1,s2,s3,s4,s5]) rfl ?_
             exact .inr ⟨⟨y0,y1,old,z1,L,D⟩,sa,sb,sc,da,db,dc,rfl,HF.out.1,HF.out.2.1,HF.out.2.2.1,HF.out.2.2.2⟩
end Go.Proofs.YtoblgjledefdbaaGreatDoor
