/- Own work. -/
import Derived.Test.YtoblgjledefdbaaGreatDoorQm26
set_option maxRecDepth 100000
set_option maxHeartbeats 4000000
namespace Go.Proofs.YtoblgjledefdbaaGreatDoor
open Go.RowKit
attribute [local go_sem ↓] Go.wp_at_zero Go.wp_at_succ
open Go.Proofs.Tryz
namespace St
open Rc
theorem QdK{n:Nat}{D:DV}(s:List UInt8)(m:Nat)(hz:(Qe D.L s).now.length<=268435456)(h:Rm (n+1) D):Rm n (cutI s m D).1:=by
 unfold cutI
 split
 ·exact h.mono (by omega)
 ·exact Qov s _ hz h
section
variable {q p:Nat} {T:Nat->Prop} {D:DV} {S:SV}
theorem Qnf{W:World}{g:Nat}{a b c:Value}{U:TypeId}(h:W.heap[g]? = some (.cells #[a,b,c] U (0,0))):W.cell? ⟨g,0,none⟩=some a∧W.cell? ⟨g,1,none⟩=some b∧W.cell? ⟨g,2,none⟩=some c:=Qs h
theorem Sk.cutI{w w0:World}{T1:Nat->Prop}{D1:DV}(h:Sk w q p T1 D1 S)(hT : ∀x,T1 x->T x∨w0.heap.size<=x)(hu:Upo T w0 w)(hr:Rmy D1)(s:BA)(hs:s.size<=maxLen)(n:Nat)(hn:n<=9223372036854775807)(D2:DV)(r:Int)(hD:Jg D1 s.data.toList (n:Int)=(D2,r)) :
  Hid (∀W,Below w.heap.size w W->Calls prog 156 #[.pointer (some ⟨p,0,none⟩),.string s,.int .i64 (n:Int)] W fun e w'=>e = .returned (.int .i64 r)∧SkM w0 w' q p T D2 S):=fun W hW=>by
 have:=(h.next hW).cut hr s hs n (by omega) (by omega)
 rw[hD] at this;exact this.mono fun e w' z=>⟨z.1,QS hT hu (z.2.first hW)⟩
theorem Qgy(w:World)(h:Sk w q p T D S)(hrm:Rm 7 D)(D':DV)(r:Int)(hR:Qz (stl S.ends) D=(D',r)) :
  Calls prog 93 #[.pointer (some ⟨q,0,none⟩)] w fun e w'=>e = .returned (.int .i64 r)∧SkM w w' q p T D' S:=by
 obtain⟨xV,xW,hf,_,_,xU⟩:=h.small;have xX:=Od S.ends.length;obtain⟨w1,xQ⟩:=Ze (w.alloc (.cells #[.string ⟨#[105,116,101,109,115]⟩,.string ⟨#[110,111,100,101,115]⟩,.string ⟨#[109,97,114,107,115]⟩] 9));have u1:Below w.heap.size w w1:=by rw[<-xQ];exact bal (Lb _ _) _
 obtain⟨bn,xR⟩:=Ze w.heap.size;have k1:w1.heap[bn]? = some (.cells #[.string ⟨#[105,116,101,109,115]⟩,.string ⟨#[110,111,100,101,115]⟩,.string ⟨#[109,97,114,107,115]⟩] 9 (0,0)):=by rw[<-xQ,<-xR];exact Yq _ _
 have nT : ¬T bn:=fun e=>by have:=h.lt e;omega
 have HW:=Qd xQ;have HB:=Qd xR;have HC:Hid (∀W Dj,SkM w1 W q p T Dj S->W.cell? ⟨bn,0,none⟩=some (.string ⟨#[105,116,101,109,115]⟩)∧W.cell? ⟨bn,1,none⟩=some (.string ⟨#[110,111,100,101,115]⟩)∧W.cell? ⟨bn,2,none⟩=some (.string ⟨#[109,97,114,107,115]⟩)∧W.cell? ⟨q,0,none⟩=some (.pointer (some ⟨p,0,none⟩))):=fun W Dj hW=>by
  obtain⟨y0,y1,y2⟩:=Qnf k1;refine⟨hW.cell y0 nT,hW.cell y1 nT,hW.cell y2 nT,?_⟩
  obtain⟨T1,hk,_,_⟩:=hW;obtain⟨_,_,⟨c0,_⟩,_⟩:=hk.cells;exact c0
 have xT:Hid (SkM w1 w1 q p T D S):=SkM.of (h.next u1) (Lb _ _);have xS:=Qd hrm;have HU:=Qd u1;have HQ:Hid (Qz (stl S.ends) D=(D',r)):=hR;have xP : ∀(Dj:DV) (W:World),SkM w1 W q p T Dj S -> ∀s,JD Dj s<=268435456:=fun Dj W hW s=>by
  obtain⟨T1,hk,_,_⟩:=hW;unfold JD
  split
  ·omega
  ·exact hk.sz s
 clear xQ xR u1 h k1 nT hrm hR
 go_enter func93,ntmps93
 go_upto_region 2 with (fail)
 try rw[HW.out,HB.out]
 go_wp2
 go_loopg [13] 3 (fun g x wr => ∃(j:Nat) (Dj:DV),j<=3∧g=3 - j∧x = .int .i64 (j:Int)∧Hid (SkM w1 wr q p T Dj S)∧Hid (Rm (7 - j) Dj)∧Hid (Qz ((stl S.ends).drop j) Dj=(D',r)))
 case atStart=>go_light;exact⟨0,D,by decide,rfl,rfl,xT,xS,HQ⟩
 case round =>
  obtain⟨j,Dj,hj,rfl,rfl,HS,xG,HI⟩:=hrel;have HI:=HI.out;clear xT xS HQ
  rcases(show j=0∨j=1∨j=2∨j=3 by omega) with rfl|rfl|rfl|rfl
  ·have xC:Rm 7 Dj:=xG.out;obtain⟨T1,hk,hT,hu⟩:=HS.out;have HL:Hid (∀W,Below wr.heap.size wr W->Calls prog 155 #[.pointer (some ⟨q,0,none⟩),.string ⟨#[105,116,101,109,115]⟩] W fun e w'=>e = .returned (.int .i64 ((lst S.ends:Nat):Int))∧w'=W):=fun W hW=>YH W (hk.next hW)
   have xH:Hid (∀W,Below wr.heap.size wr W->Calls prog 151 #[.pointer (some ⟨p,0,none⟩),.string ⟨#[105,116,101,109,115]⟩] W fun e w'=>e = .returned (.int .i64 (JD Dj nmI:Int))∧w'=W):=fun W hW=>(hk.next hW).size ⟨#[105,116,101,109,115]⟩ (by decide)
   have xA:Rm 6 (cutI nmI (lst S.ends) Dj).1:=QdK _ _ (hk.sz _) xC;have hE:Qz ((stl S.ends).drop 0) Dj=if (cutI nmI (lst S.ends) Dj).2=0 then Qz ((stl S.ends).drop 1) (cutI nmI (lst S.ends) Dj).1 else cutI nmI (lst S.ends) Dj:=rfl
   rw[hE] at HI;obtain⟨c0,c1,c2,c3⟩:=HC.out _ _ HS.out;have hz:((0:Nat):Int)<3:=by decide
   have xO:=xP Dj wr HS.out nmI;obtain⟨D1,r1,xB⟩ : ∃D1 r1,Jg Dj nmI ((lst S.ends:Nat):Int)=(D1,r1):=⟨_,_,rfl⟩;have xD:=Sk.cutI hk hT hu xC.rmy ⟨#[105,116,101,109,115]⟩ (by decide) (lst S.ends) (by omega) D1 r1 xB
   unfold cutI at HI xA;rw[xB] at HI xA;clear hE xB hk hT hu xC xG;generalize (lst S.ends)=ls at *;obtain⟨z,xM⟩:=Ze (JD Dj nmI);rw[xM] at HI xA xH xO;clear xM
   by_cases hle:z<=ls
   ·have xI:(z:Int)<=(ls:Int):=by omega
    rw[Lk hle,Lk rfl] at HI;rw[Lk hle] at xA;have xE:=Qd HI;have xF:=Qd xA;clear HI xA xD
    go_wp2_with (first
     | (go_at_call 151;(with_reducible refine(xH.out _ (Lb _ _)).mono ?_);rintro e w2 ⟨rfl,rfl⟩)
     | (go_at_call 155;(with_reducible refine(HL.out _ (Lb _ _)).mono ?_);rintro e w2 ⟨rfl,rfl⟩))
    go_roundg 2
    case rel=>go_light;exact⟨1,Dj,by decide,rfl,by first|rfl|go_num,HS,xF,xE⟩
    case measure=>go_light;decide
   ·have xI : ¬(z:Int)<=(ls:Int):=by omega
    rw[Le hle] at HI xA;have xK:Hid (∀W,SkM w1 W q p T D1 S->W.cell? ⟨q,0,none⟩=some (.pointer (some ⟨p,0,none⟩))):=fun W hW=>(HC.out _ _ hW).2.2.2
    have xL:Hid (∀W,Below wr.heap.size wr W->W.cell? ⟨q,0,none⟩=some (.pointer (some ⟨p,0,none⟩))):=fun W hW=>(HC.out _ _ (SkM.last HS.out hW)).2.2.2
    by_cases h0:r1=0
    ·subst h0;simp only[if_true] at HI;have xE:=Qd HI;have xF:=Qd xA;clear HI xA
     go_upto_region 6 with (first
      | (go_at_call 151;(with_reducible refine(xH.out _ (Lb _ _)).mono ?_);rintro e w2 ⟨rfl,rfl⟩)
      | (go_at_call 155;(with_reducible refine(HL.out _ (Lb _ _)).mono ?_);rintro e w2 ⟨rfl,rfl⟩))
     have u:=bdz w2
     go_region_held3 (fun Z=>Z.cell? ⟨q,0,none⟩=some (.pointer (some ⟨p,0,none⟩))) (first|assumption|(with_reducible exact xK.out _ t9)|(with_reducible exact xL.out _ u)) (first
      | (go_at_call 155;(with_reducible refine(HL.out _ u).mono ?_);rintro e w2 ⟨rfl,rfl⟩)
      | (go_at_call 156;(with_reducible refine(xD.out _ u).mono ?_);rintro e w9 ⟨rfl,t9⟩))
     all_goals
      go_wp2
      go_roundg 2
      case rel=>go_light;exact⟨1,D1,by decide,rfl,by first|rfl|go_num,t9,xF,xE⟩
      case measure=>go_light;decide
    ·simp only[if_neg h0] at HI;injection HI with HI1 HI3
     subst HI1 HI3;have xN:(r1 != 0)=true:=by simp[h0]
     have HZ:Hid (∀W,SkM w1 W q p T D1 S->SkM w W q p T D1 S):=fun W hW=>hW.first HU.out
     go_upto_region 6 with (first
      | (go_at_call 151;(with_reducible refine(xH.out _ (Lb _ _)).mono ?_);rintro e w2 ⟨rfl,rfl⟩)
      | (go_at_call 155;(with_reducible refine(HL.out _ (Lb _ _)).mono ?_);rintro e w2 ⟨rfl,rfl⟩))
     have u:=bdz w2
     go_region_held3 (fun Z=>Z.cell? ⟨q,0,none⟩=some (.pointer (some ⟨p,0,none⟩))) (first|assumption|(with_reducible exact xK.out _ t9)|(with_reducible exact xL.out _ u)) (first
      | (go_at_call 155;(with_reducible refine(HL.out _ u).mono ?_);rintro e w2 ⟨rfl,rfl⟩)
      | (go_at_call 156;(with_reducible refine(xD.out _ u).mono ?_);rintro e w9 ⟨rfl,t9⟩))
     all_goals
      go_wp2
      go_ret
      exact⟨rfl,HZ.out _ t9⟩
  ·have xC:Rm 6 Dj:=xG.out;obtain⟨T1,hk,hT,hu⟩:=HS.out;have HL:Hid (∀W,Below wr.heap.size wr W->Calls prog 155 #[.pointer (some ⟨q,0,none⟩),.string ⟨#[110,111,100,101,115]⟩] W fun e w'=>e = .returned (.int .i64 ((nn S.ends.length*40:Nat):Int))∧w'=W):=fun W hW=>ON W (hk.next hW)
   have xH:Hid (∀W,Below wr.heap.size wr W->Calls prog 151 #[.pointer (some ⟨p,0,none⟩),.string ⟨#[110,111,100,101,115]⟩] W fun e w'=>e = .returned (.int .i64 (JD Dj nmN:Int))∧w'=W):=fun W hW=>(hk.next hW).size ⟨#[110,111,100,101,115]⟩ (by decide)
   have xA:Rm 5 (cutI nmN (nn S.ends.length*40) Dj).1:=QdK _ _ (hk.sz _) xC;have hE:Qz ((stl S.ends).drop 1) Dj=if (cutI nmN (nn S.ends.length*40) Dj).2=0 then Qz ((stl S.ends).drop 2) (cutI nmN (nn S.ends.length*40) Dj).1 else cutI nmN (nn S.ends.length*40) Dj:=rfl
   rw[hE] at HI;obtain⟨c0,c1,c2,c3⟩:=HC.out _ _ HS.out;have hz:((1:Nat):Int)<3:=by decide
   have xO:=xP Dj wr HS.out nmN;obtain⟨D1,r1,xB⟩ : ∃D1 r1,Jg Dj nmN ((nn S.ends.length*40:Nat):Int)=(D1,r1):=⟨_,_,rfl⟩;have xD:=Sk.cutI hk hT hu xC.rmy ⟨#[110,111,100,101,115]⟩ (by decide) (nn S.ends.length*40) (by omega) D1 r1 xB
   unfold cutI at HI xA;rw[xB] at HI xA;clear hE xB hk hT hu xC xG;generalize (nn S.ends.length*40)=ln at *;obtain⟨z,xM⟩:=Ze (JD Dj nmN);rw[xM] at HI xA xH xO;clear xM
   by_cases hle:z<=ln
   ·have xI:(z:Int)<=(ln:Int):=by omega
    rw[Lk hle,Lk rfl] at HI;rw[Lk hle] at xA;have xE:=Qd HI;have xF:=Qd xA;clear HI xA xD
    go_wp2_with (first
     | (go_at_call 151;(with_reducible refine(xH.out _ (Lb _ _)).mono ?_);rintro e w2 ⟨rfl,rfl⟩)
     | (go_at_call 155;(with_reducible refine(HL.out _ (Lb _ _)).mono ?_);rintro e w2 ⟨rfl,rfl⟩))
    go_roundg 1
    case rel=>go_light;exact⟨2,Dj,by decide,rfl,by first|rfl|go_num,HS,xF,xE⟩
    case measure=>go_light;decide
   ·have xI : ¬(z:Int)<=(ln:Int):=by omega
    rw[Le hle] at HI xA;have xK:Hid (∀W,SkM w1 W q p T D1 S->W.cell? ⟨q,0,none⟩=some (.pointer (some ⟨p,0,none⟩))):=fun W hW=>(HC.out _ _ hW).2.2.2
    have xL:Hid (∀W,Below wr.heap.size wr W->W.cell? ⟨q,0,none⟩=some (.pointer (some ⟨p,0,none⟩))):=fun W hW=>(HC.out _ _ (SkM.last HS.out hW)).2.2.2
    by_cases h0:r1=0
    ·subst h0;simp only[if_true] at HI;have xE:=Qd HI;have xF:=Qd xA;clear HI xA
     go_upto_region 6 with (first
      | (go_at_call 151;(with_reducible refine(xH.out _ (Lb _ _)).mono ?_);rintro e w2 ⟨rfl,rfl⟩)
      | (go_at_call 155;(with_reducible refine(HL.out _ (Lb _ _)).mono ?_);rintro e w2 ⟨rfl,rfl⟩))
     have u:=bdz w2
     go_region_held3 (fun Z=>Z.cell? ⟨q,0,none⟩=some (.pointer (some ⟨p,0,none⟩))) (first|assumption|(with_reducible exact xK.out _ t9)|(with_reducible exact xL.out _ u)) (first
      | (go_at_call 155;(with_reducible refine(HL.out _ u).mono ?_);rintro e w2 ⟨rfl,rfl⟩)
      | (go_at_call 156;(with_reducible refine(xD.out _ u).mono ?_);rintro e w9 ⟨rfl,t9⟩))
     all_goals
      go_wp2
      go_roundg 1
      case rel=>go_light;exact⟨2,D1,by decide,rfl,by first|rfl|go_num,t9,xF,xE⟩
      case measure=>go_light;decide
    ·simp only[if_neg h0] at HI;injection HI with HI1 HI3
     subst HI1 HI3;have xN:(r1 != 0)=true:=by simp[h0]
     have HZ:Hid (∀W,SkM w1 W q p T D1 S->SkM w W q p T D1 S):=fun W hW=>hW.first HU.out
     go_upto_region 6 with (first
      | (go_at_call 151;(with_reducible refine(xH.out _ (Lb _ _)).mono ?_);rintro e w2 ⟨rfl,rfl⟩)
      | (go_at_call 155;(with_reducible refine(HL.out _ (Lb _ _)).mono ?_);rintro e w2 ⟨rfl,rfl⟩))
     have u:=bdz w2
     go_region_held3 (fun Z=>Z.cell? ⟨q,0,none⟩=some (.pointer (some ⟨p,0,none⟩))) (first|assumption|(with_reducible exact xK.out _ t9)|(with_reducible exact xL.out _ u)) (first
      | (go_at_call 155;(with_reducible refine(HL.out _ u).mono ?_);rintro e w2 ⟨rfl,rfl⟩)
      | (go_at_call 156;(with_reducible refine(xD.out _ u).mono ?_);rintro e w9 ⟨rfl,t9⟩))
     all_goals
      go_wp2
      go_ret
      exact⟨rfl,HZ.out _ t9⟩
  ·have xC:Rm 5 Dj:=xG.out;obtain⟨T1,hk,hT,hu⟩:=HS.out;have HL:Hid (∀W,Below wr.heap.size wr W->Calls prog 155 #[.pointer (some ⟨q,0,none⟩),.string ⟨#[109,97,114,107,115]⟩] W fun e w'=>e = .returned (.int .i64 ((S.ends.length*64:Nat):Int))∧w'=W):=fun W hW=>OM W (hk.next hW)
   have xH:Hid (∀W,Below wr.heap.size wr W->Calls prog 151 #[.pointer (some ⟨p,0,none⟩),.string ⟨#[109,97,114,107,115]⟩] W fun e w'=>e = .returned (.int .i64 (JD Dj nmM:Int))∧w'=W):=fun W hW=>(hk.next hW).size ⟨#[109,97,114,107,115]⟩ (by decide)
   have xA:Rm 4 (cutI nmM (S.ends.length*64) Dj).1:=QdK _ _ (hk.sz _) xC;have hE:Qz ((stl S.ends).drop 2) Dj=if (cutI nmM (S.ends.length*64) Dj).2=0 then Qz ((stl S.ends).drop 3) (cutI nmM (S.ends.length*64) Dj).1 else cutI nmM (S.ends.length*64) Dj:=rfl
   rw[hE] at HI;obtain⟨c0,c1,c2,c3⟩:=HC.out _ _ HS.out;have hz:((2:Nat):Int)<3:=by decide
   have xO:=xP Dj wr HS.out nmM;obtain⟨D1,r1,xB⟩ : ∃D1 r1,Jg Dj nmM ((S.ends.length*64:Nat):Int)=(D1,r1):=⟨_,_,rfl⟩;have xD:=Sk.cutI hk hT hu xC.rmy ⟨#[109,97,114,107,115]⟩ (by decide) (S.ends.length*64) (by omega) D1 r1 xB
   unfold cutI at HI xA;rw[xB] at HI xA;clear hE xB hk hT hu xC xG;generalize (S.ends.length*64)=lm at *;obtain⟨z,xM⟩:=Ze (JD Dj nmM);rw[xM] at HI xA xH xO;clear xM
   by_cases hle:z<=lm
   ·have xI:(z:Int)<=(lm:Int):=by omega
    rw[Lk hle,Lk rfl] at HI;rw[Lk hle] at xA;have xE:=Qd HI;have xF:=Qd xA;clear HI xA xD
    go_wp2_with (first
     | (go_at_call 151;(with_reducible refine(xH.out _ (Lb _ _)).mono ?_);rintro e w2 ⟨rfl,rfl⟩)
     | (go_at_call 155;(with_reducible refine(HL.out _ (Lb _ _)).mono ?_);rintro e w2 ⟨rfl,rfl⟩))
    go_roundg 0
    case rel=>go_light;exact⟨3,Dj,by decide,rfl,by first|rfl|go_num,HS,xF,xE⟩
    case measure=>go_light;decide
   ·have xI : ¬(z:Int)<=(lm:Int):=by omega
    rw[Le hle] at HI xA;have xK:Hid (∀W,SkM w1 W q p T D1 S->W.cell? ⟨q,0,none⟩=some (.pointer (some ⟨p,0,none⟩))):=fun W hW=>(HC.out _ _ hW).2.2.2
    have xL:Hid (∀W,Below wr.heap.size wr W->W.cell? ⟨q,0,none⟩=some (.pointer (some ⟨p,0,none⟩))):=fun W hW=>(HC.out _ _ (SkM.last HS.out hW)).2.2.2
    by_cases h0:r1=0
    ·subst h0;simp only[if_true] at HI;have xE:=Qd HI;have xF:=Qd xA;clear HI xA
     go_upto_region 6 with (first
      | (go_at_call 151;(with_reducible refine(xH.out _ (Lb _ _)).mono ?_);rintro e w2 ⟨rfl,rfl⟩)
      | (go_at_call 155;(with_reducible refine(HL.out _ (Lb _ _)).mono ?_);rintro e w2 ⟨rfl,rfl⟩))
     have u:=bdz w2
     go_region_held3 (fun Z=>Z.cell? ⟨q,0,none⟩=some (.pointer (some ⟨p,0,none⟩))) (first|assumption|(with_reducible exact xK.out _ t9)|(with_reducible exact xL.out _ u)) (first
      | (go_at_call 155;(with_reducible refine(HL.out _ u).mono ?_);rintro e w2 ⟨rfl,rfl⟩)
      | (go_at_call 156;(with_reducible refine(xD.out _ u).mono ?_);rintro e w9 ⟨rfl,t9⟩))
     all_goals
      go_wp2
      go_roundg 0
      case rel=>go_light;exact⟨3,D1,by decide,rfl,by first|rfl|go_num,t9,xF,xE⟩
      case measure=>go_light;decide
    ·simp only[if_neg h0] at HI;injection HI with HI1 HI3
     subst HI1 HI3;have xN:(r1 != 0)=true:=by simp[h0]
     have HZ:Hid (∀W,SkM w1 W q p T D1 S->SkM w W q p T D1 S):=fun W hW=>hW.first HU.out
     go_upto_region 6 with (first
      | (go_at_call 151;(with_reducible refine(xH.out _ (Lb _ _)).mono ?_);rintro e w2 ⟨rfl,rfl⟩)
      | (go_at_call 155;(with_reducible refine(HL.out _ (Lb _ _)).mono ?_);rintro e w2 ⟨rfl,rfl⟩))
     have u:=bdz w2
     go_region_held3 (fun Z=>Z.cell? ⟨q,0,none⟩=some (.pointer (some ⟨p,0,none⟩))) (first|assumption|(with_reducible exact xK.out _ t9)|(with_reducible exact xL.out _ u)) (first
      | (go_at_call 155;(with_reducible refine(HL.out _ u).mono ?_);rintro e w2 ⟨rfl,rfl⟩)
      | (go_at_call 156;(with_reducible refine(xD.out _ u).mono ?_);rintro e w9 ⟨rfl,t9⟩))
     all_goals
      go_wp2
      go_ret
      exact⟨rfl,HZ.out _ t9⟩
  ·have hz : ¬((3:Nat):Int)<3:=by decide
   have xE:Hid (Qz ((stl S.ends).drop 3) Dj=(D',r)):=HI;have xF:Hid (Rm 4 Dj):=xG.out;clear HI xG xP;go_wp2
   go_loopg [42] 3 (fun g x wr => ∃(j:Nat) (Dj:DV),j<=3∧g=3 - j∧x = .int .i64 (j:Int)∧Hid (SkM w1 wr q p T Dj S)∧Hid (Rm (4 - j) Dj)∧Hid (Qz ((stl S.ends).drop (3+j)) Dj=(D',r)))
   case atStart=>go_light;exact⟨0,Dj,by decide,rfl,rfl,HS,xF,xE⟩
   case round =>
    clear HS xF xE;obtain⟨j,Di,hj,rfl,rfl,HS,xG,HI⟩:=hrel;have HI:=HI.out
    rcases(show j=0∨j=1∨j=2∨j=3 by omega) with rfl|rfl|rfl|rfl
    ·have xC:Rm 4 Di:=xG.out;obtain⟨T1,hk,hT,hu⟩:=HS.out;obtain⟨D1,r1,xB⟩ : ∃D1 r1,Q1 Di nmI=(D1,r1):=⟨_,_,rfl⟩;have xD:Hid (Calls prog 157 #[.pointer (some ⟨p,0,none⟩),.string ⟨#[105,116,101,109,115]⟩] wr fun e w'=>e = .returned (.int .i64 r1)∧SkM w1 w' q p T D1 S):=by
      have:=hk.sync xC.rmy ⟨#[105,116,101,109,115]⟩ (by decide)
      rw[show(ByteArray.mk #[105,116,101,109,115]).data.toList=nmI from rfl,xB] at this
      exact this.mono fun e w' z=>⟨z.1,QS hT hu z.2⟩
     have xJ:Rm 3 D1:=by
      have:Rm 3 (Q1 Di nmI).1:=Qax _ (hk.sz _) xC;rw[xB] at this;exact this
     have hE:Qz ((stl S.ends).drop (3+0)) Di=if r1=0 then Qz ((stl S.ends).drop (3+1)) D1 else (D1,r1):=by
      show Qz ((fun D=>Q1 D nmI)::((stl S.ends).drop (3+1))) Di=_
      simp only[Qz,xB]
     rw[hE] at HI;obtain⟨c0,c1,c2,c3⟩:=HC.out _ _ HS.out;have hz:((0:Nat):Int)<3:=by decide
     clear hE xB hk hT hu xC xG
     by_cases h0:r1=0
     ·subst h0;rw[Lk rfl] at HI;have xE:=Qd HI;have xF:=Qd xJ;clear HI xJ HS HC
      go_wp2_with (go_at_call 157;(with_reducible refine xD.out.mono ?_);rintro e w9 ⟨rfl,t9⟩)
      go_roundg 2
      case rel=>go_light;exact⟨1,D1,by decide,rfl,by first|rfl|go_num,t9,xF,xE⟩
      case measure=>go_light;decide
     ·rw[Le h0] at HI;injection HI with HI1 HI3
      subst HI1 HI3;have xN:(r1 != 0)=true:=by simp[h0]
      have HZ:Hid (∀W,SkM w1 W q p T D1 S->SkM w W q p T D1 S):=fun W hW=>hW.first HU.out
      clear xJ HS HC
      go_wp2_with (go_at_call 157;(with_reducible refine xD.out.mono ?_);rintro e w9 ⟨rfl,t9⟩)
      go_ret
      exact⟨rfl,HZ.out _ t9⟩
    ·have xC:Rm 3 Di:=xG.out;obtain⟨T1,hk,hT,hu⟩:=HS.out;obtain⟨D1,r1,xB⟩ : ∃D1 r1,Q1 Di nmN=(D1,r1):=⟨_,_,rfl⟩;have xD:Hid (Calls prog 157 #[.pointer (some ⟨p,0,none⟩),.string ⟨#[110,111,100,101,115]⟩] wr fun e w'=>e = .returned (.int .i64 r1)∧SkM w1 w' q p T D1 S):=by
      have:=hk.sync xC.rmy ⟨#[110,111,100,101,115]⟩ (by decide)
      rw[show(ByteArray.mk #[110,111,100,101,115]).data.toList=nmN from rfl,xB] at this
      exact this.mono fun e w' z=>⟨z.1,QS hT hu z.2⟩
     have xJ:Rm 2 D1:=by
      have:Rm 2 (Q1 Di nmN).1:=Qax _ (hk.sz _) xC;rw[xB] at this;exact this
     have hE:Qz ((stl S.ends).drop (3+1)) Di=if r1=0 then Qz ((stl S.ends).drop (3+2)) D1 else (D1,r1):=by
      show Qz ((fun D=>Q1 D nmN)::((stl S.ends).drop (3+2))) Di=_
      simp only[Qz,xB]
     rw[hE] at HI;obtain⟨c0,c1,c2,c3⟩:=HC.out _ _ HS.out;have hz:((1:Nat):Int)<3:=by decide
     clear hE xB hk hT hu xC xG
     by_cases h0:r1=0
     ·subst h0;rw[Lk rfl] at HI;have xE:=Qd HI;have xF:=Qd xJ;clear HI xJ HS HC
      go_wp2_with (go_at_call 157;(with_reducible refine xD.out.mono ?_);rintro e w9 ⟨rfl,t9⟩)
      go_roundg 1
      case rel=>go_light;exact⟨2,D1,by decide,rfl,by first|rfl|go_num,t9,xF,xE⟩
      case measure=>go_light;decide
     ·rw[Le h0] at HI;injection HI with HI1 HI3
      subst HI1 HI3;have xN:(r1 != 0)=true:=by simp[h0]
      have HZ:Hid (∀W,SkM w1 W q p T D1 S->SkM w W q p T D1 S):=fun W hW=>hW.first HU.out
      clear xJ HS HC
      go_wp2_with (go_at_call 157;(with_reducible refine xD.out.mono ?_);rintro e w9 ⟨rfl,t9⟩)
      go_ret
      exact⟨rfl,HZ.out _ t9⟩
    ·have xC:Rm 2 Di:=xG.out;obtain⟨T1,hk,hT,hu⟩:=HS.out;obtain⟨D1,r1,xB⟩ : ∃D1 r1,Q1 Di nmM=(D1,r1):=⟨_,_,rfl⟩;have xD:Hid (Calls prog 157 #[.pointer (some ⟨p,0,none⟩),.string ⟨#[109,97,114,107,115]⟩] wr fun e w'=>e = .returned (.int .i64 r1)∧SkM w1 w' q p T D1 S):=by
      have:=hk.sync xC.rmy ⟨#[109,97,114,107,115]⟩ (by decide)
      rw[show(ByteArray.mk #[109,97,114,107,115]).data.toList=nmM from rfl,xB] at this
      exact this.mono fun e w' z=>⟨z.1,QS hT hu z.2⟩
     have xJ:Rm 1 D1:=by
      have:Rm 1 (Q1 Di nmM).1:=Qax _ (hk.sz _) xC;rw[xB] at this;exact this
     have hE:Qz ((stl S.ends).drop (3+2)) Di=if r1=0 then Qz ((stl S.ends).drop (3+3)) D1 else (D1,r1):=by
      show Qz ((fun D=>Q1 D nmM)::((stl S.ends).drop (3+3))) Di=_
      simp only[Qz,xB]
     rw[hE] at HI;obtain⟨c0,c1,c2,c3⟩:=HC.out _ _ HS.out;have hz:((2:Nat):Int)<3:=by decide
     clear hE xB hk hT hu xC xG
     by_cases h0:r1=0
     ·subst h0;rw[Lk rfl] at HI;have xE:=Qd HI;have xF:=Qd xJ;clear HI xJ HS HC
      go_wp2_with (go_at_call 157;(with_reducible refine xD.out.mono ?_);rintro e w9 ⟨rfl,t9⟩)
      go_roundg 0
      case rel=>go_light;exact⟨3,D1,by decide,rfl,by first|rfl|go_num,t9,xF,xE⟩
      case measure=>go_light;decide
     ·rw[Le h0] at HI;injection HI with HI1 HI3
      subst HI1 HI3;have xN:(r1 != 0)=true:=by simp[h0]
      have HZ:Hid (∀W,SkM w1 W q p T D1 S->SkM w W q p T D1 S):=fun W hW=>hW.first HU.out
      clear xJ HS HC
      go_wp2_with (go_at_call 157;(with_reducible refine xD.out.mono ?_);rintro e w9 ⟨rfl,t9⟩)
      go_ret
      exact⟨rfl,HZ.out _ t9⟩
    ·have hz : ¬((3:Nat):Int)<3:=by decide
     injection (show(Di,(0:Int))=(D',r) from HI) with HI1 HI3
     subst HI1 HI3;have HZ:Hid (SkM w wr q p T Di S):=SkM.first HU.out HS.out;clear HI xG HS HC;go_wp2
     go_ret
     exact⟨rfl,HZ.out⟩
end
def chk(k:Int):Int:=if k<1∨32<k then 70 else 0
theorem Ym(w:World)(k:Int):Calls prog 91 #[.int .i64 k] w fun e w'=>e = .returned (.int .i64 (chk k))∧w'=w:=by
 unfold chk
 go_enter func91,ntmps91
 by_cases h1:k<1
 ·rw[Lk (.inl h1)];go_wp2
  go_ret
  simp
 ·by_cases h2:32<k
  ·rw[Lk (.inr h2)];go_wp2
   go_ret
   simp
  ·rw[Le (by omega)]
   go_wp2
   go_ret
   simp
def OpQ(w:World)(p:Nat)(S0:Nat->Prop)(x:DV×Option SV×Int)(e:Ending)(w':World):Prop:=match x.2.1 with
 | none=>e = .returned (.tuple #[.pointer none,.int .i64 x.2.2])∧Mvd w w' p S0 x.1
 | some S => ∃q T,e = .returned (.tuple #[.pointer (some ⟨q,0,none⟩),.int .i64 x.2.2])∧Sk w' q p T x.1 S∧(∀y,T y->S0 y∨w.heap.size<=y)∧w.heap.size<=q∧Upo S0 w w'
theorem QeG{w W:World}{p:Nat}{S0:Nat->Prop}{D:DV}(h:Dsk w p S0 D)(hb:Below w.heap.size w W):Mvd w W p S0 D:=⟨S0,h.next hb,fun _ hx => .inl hx,Upo.of hb⟩
theorem QhB{w w1 W:World}{S0 T:Nat->Prop}(hb:Below w.heap.size w w1)(hu:Upo T w1 W)(hT : ∀x,T x->S0 x∨w.heap.size<=x):Upo S0 w W :=
 (Upo.of hb).trans hu (fun x hx ht=>(hT x ht).elim id (fun e=>by omega))
theorem Qhp{w w1 W:World}{q p:Nat}{S0 T:Nat->Prop}{D:DV}{S:SV}(hb:Below w.heap.size w w1)(hT : ∀x,T x->S0 x∨w.heap.size<=x)(h:SkM w1 W q p T D S):Mvd w W p S0 D:=by
 obtain⟨T',⟨S1,v,d1,d2,d3,d4,d5⟩,h2,h3⟩:=h;refine⟨S1,d1,fun x hx => ?_,QhB hb h3 hT⟩
 rcases h2 x ((d5 x).2 (.inl hx)) with e|e
 ·exact hT x e
 ·exact .inr (Lu hb.size e)
theorem Qh7(w:World){p:Nat}{S0:Nat->Prop}{D:DV}(h:Dsk w p S0 D)(hrm:Rm 7 D)(k:Int)(x:DV×Option SV×Int)(hx:YX D k=x) :
  Calls prog 42 #[.pointer (some ⟨p,0,none⟩),.int .i64 k] w (OpQ w p S0 x):=by
 have HC:=Qd (Ym w k);have xA:=Qd h.down;unfold YX at hx
 by_cases hk:1<=k∧k<=32
 ·rw[Le (fun q=>q hk)] at hx
  have hc:chk k=0:=Le (by omega)
  rw[hc] at HC
  by_cases hd:D.down=true
  ·rw[Lk hd] at hx;subst hx;rw[hd] at xA;have HZ:=Qd (QeG h (Lb _ _));clear h
   go_enter func42,ntmps42
   go_wp2_with (first
    | (go_at_call 91;(with_reducible refine HC.out.mono ?_);rintro e w1 ⟨rfl,rfl⟩)
    | (go_at_call 15;(with_reducible refine xA.out.mono ?_);rintro e w1 ⟨rfl,rfl⟩))
   go_ret2
   exact⟨rfl,HZ.out⟩
  ·rw[Le hd] at hx;have xG:D.down=false:=by simpa using hd
   rw[xG] at xA;obtain⟨w1,xC⟩:=Ze (w.alloc (.cells #[.pointer (some ⟨p,0,none⟩),.int .i64 k,.slice none 0 0,.int .u32 0,.bool false] 169));have u1:Below w.heap.size w w1:=by rw[<-xC];exact bal (Lb _ _) _
   have k1:w1.heap[w.heap.size]? = some (.cells #[.pointer (some ⟨p,0,none⟩),.int .i64 k,.slice none 0 0,.int .u32 0,.bool false] 169 (0,0)):=by rw[<-xC];exact Yq _ _
   obtain⟨kn,xK⟩ : ∃n:Nat,k.toNat=n:=⟨_,rfl⟩;have xJ:k=(kn:Int):=by omega
   rw[xK] at hx;subst xJ;have hS:Sk w1 w.heap.size p (fun y=>S0 y∨y=w.heap.size) D ⟨kn,[],0#32,false⟩ :=
    ⟨S0,.slice none 0 0,h.next u1,⟨k1,Qkv _ _,by show 1<=kn;omega,by show kn<=32;omega,by simp,by simp⟩,fun e=>(by have:=h.lt e;omega),fun g hg=>(by cases hg),fun y=>⟨fun e=>e.elim .inl (fun e => .inr (.inl e)),fun e=>e.elim .inl (fun e=>e.elim .inr (fun e=>by cases e))⟩⟩
   have hT : ∀y,(S0 y∨y=w.heap.size)->S0 y∨w.heap.size<=y:=fun y e=>e.imp id (fun e=>by omega)
   have HA:=Qd (JE w1 hS xG rfl rfl);obtain⟨bq,xB⟩:=Ze w.heap.size;have HW:=Qd xC;have HB:=Qd xB;rw[xB] at HA
   change Hid (Calls prog 92 #[.pointer (some ⟨bq,0,none⟩)] w1 (TaQ w1 bq p _ D _ (Oe kn (now D nmI) (now D nmN) (now D nmM)))) at HA
   cases ht:Oe kn (now D nmI) (now D nmN) (now D nmM) with
   | none =>
    rw[ht] at HA hx;subst hx;have xD:Hid (Calls prog 92 #[.pointer (some ⟨bq,0,none⟩)] w1 fun e w'=>e = .returned (.int .i64 190)∧Mvd w w' p S0 D):=HA.out.mono fun e w' z=>⟨z.1,by obtain⟨S',z2⟩:=z.2;rw[<-xB] at z2;exact Qhp u1 hT z2⟩
    clear h HA hS hT u1 k1 xC xB ht
    go_enter func42,ntmps42
    go_upto_region 7 with (first
     | (go_at_call 91;(with_reducible refine HC.out.mono ?_);rintro e w2 ⟨rfl,rfl⟩)
     | (go_at_call 15;(with_reducible refine xA.out.mono ?_);rintro e w2 ⟨rfl,rfl⟩))
    rw[HW.out,HB.out]
    go_wp2_with (go_at_call 92;(with_reducible refine xD.out.mono ?_);rintro e w3 ⟨rfl,t3⟩)
    go_ret2
    exact⟨rfl,t3⟩
   | some st =>
    rw[ht] at HA hx;simp only at hx;have xD:Hid (Calls prog 92 #[.pointer (some ⟨bq,0,none⟩)] w1 fun e w'=>e = .returned (.int .i64 0)∧SkM w1 w' bq p (fun y=>S0 y∨y=bq) D ⟨kn,st.1,st.2,false⟩):=HA.out.mono fun e w' z=>⟨z.1,z.2⟩
    obtain⟨D1,r1,xF⟩ : ∃D1 r1,Qz (stl st.1) D=(D1,r1):=⟨_,_,rfl⟩;rw[xF] at hx;have xE:Hid (∀W,SkM w1 W bq p (fun y=>S0 y∨y=bq) D ⟨kn,st.1,st.2,false⟩->Calls prog 93 #[.pointer (some ⟨bq,0,none⟩)] W fun e w'=>e = .returned (.int .i64 r1)∧SkM w1 w' bq p (fun y=>S0 y∨y=bq) D1 ⟨kn,st.1,st.2,false⟩):=fun W hW=>by
     obtain⟨T1,xI,xH,xL⟩:=hW;exact(Qgy W xI hrm D1 r1 xF).mono fun e w' z=>⟨z.1,QS xH xL z.2⟩
    rw[xB] at hT;have HU:=Qd u1;have HT:=Qd hT
    by_cases h0:r1=0
    ·subst h0;rw[Lk rfl] at hx;subst hx;clear h HA hS u1 k1 xC xB ht hT
     go_enter func42,ntmps42
     go_upto_region 7 with (first
      | (go_at_call 91;(with_reducible refine HC.out.mono ?_);rintro e w2 ⟨rfl,rfl⟩)
      | (go_at_call 15;(with_reducible refine xA.out.mono ?_);rintro e w2 ⟨rfl,rfl⟩))
     rw[HW.out,HB.out]
     go_wp2_with (first
      | (go_at_call 92;(with_reducible refine xD.out.mono ?_);rintro e w3 ⟨rfl,t3⟩)
      | (go_at_call 93;(with_reducible refine(xE.out _ t3).mono ?_);rintro e w4 ⟨rfl,t4⟩))
     go_ret2
     obtain⟨T4,z1,z2,z3⟩:=t4;exact⟨bq,T4,rfl,z1,fun y hy=>(z2 y hy).elim (fun e=>(HT.out y e).imp id (fun e=>by rw[HB.out];exact e)) (fun e => .inr (Lu HU.out.size e)),N9 HB.out,QhB HU.out z3 (fun y hy=>(HT.out y hy).imp id (fun e=>by rw[HB.out];exact e))⟩
    ·rw[Le h0] at hx;subst hx;have xM:(r1 != 0)=true:=by simp[h0]
     clear h HA hS u1 k1 xC xB ht hT
     go_enter func42,ntmps42
     go_upto_region 7 with (first
      | (go_at_call 91;(with_reducible refine HC.out.mono ?_);rintro e w2 ⟨rfl,rfl⟩)
      | (go_at_call 15;(with_reducible refine xA.out.mono ?_);rintro e w2 ⟨rfl,rfl⟩))
     rw[HW.out,HB.out]
     go_wp2_with (first
      | (go_at_call 92;(with_reducible refine xD.out.mono ?_);rintro e w3 ⟨rfl,t3⟩)
      | (go_at_call 93;(with_reducible refine(xE.out _ t3).mono ?_);rintro e w4 ⟨rfl,t4⟩))
     go_ret2
     exact⟨rfl,Qhp HU.out (fun y hy=>(HT.out y hy).imp id (fun e=>by rw[HB.out];exact e)) t4⟩
 ·rw[Lk hk] at hx;subst hx;have hc:chk k=70:=Lk (by omega)
  rw[hc] at HC;have HZ:=Qd (QeG h (Lb _ _));clear h xA
  go_enter func42,ntmps42
  go_wp2_with (go_at_call 91;(with_reducible refine HC.out.mono ?_);rintro e w1 ⟨rfl,rfl⟩)
  go_ret2
  exact⟨rfl,HZ.out⟩
end St
end Go.Proofs.YtoblgjledefdbaaGreatDoor
