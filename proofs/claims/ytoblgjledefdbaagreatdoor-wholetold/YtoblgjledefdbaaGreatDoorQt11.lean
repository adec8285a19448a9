/- Own work. -/
import Derived.Conc.MuLone
import Derived.Test.YtoblgjledefdbaaGreatDoorQt10
set_option maxRecDepth 100000
set_option maxHeartbeats 4000000
namespace Go.Proofs.YtoblgjledefdbaaGreatDoor
open Go.RowKit
attribute [local go_sem ↓] Go.wp_at_zero Go.wp_at_succ
open Go.Proofs.Tryz
namespace St
open Rc
variable{i j k:Nat}{a b m:List UInt8}
theorem Ql8(h:tkA k a b m j=none):∀i,j<=i->tkA k a b m i=none:=fun i hi=>by
 induction i with
 | zero=> obtain rfl:j=0:=by omega
          exact h
 | succ i ih=>
  by_cases e:j=i+1
  ·rw[<-e];exact h
  ·rw[tkA,ih (by omega)]
theorem QmM(m:List UInt8):Ot m<=m.length/64:=by unfold Ot;split <;> omega
theorem Qiq(hi:i<m.length/64)(hr:¬(i=m.length/64-1∧UJ m i=zer 64)):i+1<=Ot m:=by
 unfold Ot
 split
 ·rename_i h
  by_cases e:i=m.length/64-1
  ·exact absurd ⟨e,by rw[e];exact h.2⟩ hr
  ·omega
 ·omega
theorem Qir(hi:i<m.length/64)(e:i=m.length/64-1)(hr:UJ m i=zer 64):Ot m=i:=by
 unfold Ot;rw[Lf ⟨by omega,by rw[<-e];exact hr⟩];exact e.symm
def TaQ(w:World)(q p:Nat)(T:Nat->Prop)(D:DV)(S:SV)(o:Option (List Nat×BitVec 32))(e:Ending)(w':World):Prop:=match o with
 | none=>e= .returned (.int .i64 190) ∧ ∃S',SkM w w' q p T D S'
 | some st=>e= .returned (.int .i64 0)∧SkM w w' q p T D { S with ends:=st.1,chain:=st.2 }
section
variable {q p:Nat} {T:Nat->Prop} {D:DV} {S:SV}
theorem JY(w:World)(h:Sk w q p T D S)(hd:D.down=false)(h0:S.ends=[])(hc0:S.chain=0#32) :
  Calls prog 92 #[Pq q] w (TaQ w q p T D S (OF S.k (now D nmI) (now D nmN) (now D nmM))):=by
 have xM:=h.sz nmM;have xL:Jy D nmM=(now D nmM).length:=by unfold Jy now;rw[hd];rfl
 have HS:Hid (Re 151 #[Pq p,.string ⟨#[109,97,114,107,115]⟩] w (.int .i64 ((now D nmM).length:Int))):=by
  have:=h.size ⟨#[109,97,114,107,115]⟩ (by decide)
  rw[show(ByteArray.mk #[109,97,114,107,115]).data.toList=nmM from rfl,xL] at this
  exact this
 obtain⟨_,_,⟨c0,_⟩,_⟩:=h.cells;obtain⟨M,hM⟩:=Ze (now D nmM);have xA:=fun i=>Qau hd nmM (i*64) 64
 rw[hM] at HS xA ⊢;have xT:M.length<=268435456:=by rw[<-hM];exact xM
 obtain⟨c,hc⟩:=Ze (M.length/64);have hq:Int.tdiv (M.length:Int) 64=(c:Int):=by rw[<-hc];rfl
 have xF:Hid (∀wr S',SkM w wr q p T D S' -> ∀i:Nat,i<c->Zr 152 #[Pq p,.string ⟨#[109,97,114,107,115]⟩,.int .i64 ((i:Int)*64),.int .i64 64] wr (.tuple #[.string (tx (UJ M i)),.int .i64 0])):=fun wr S' hS i hi=>by
  obtain⟨T1,hk,_,_⟩:=hS;have:=hk.read ⟨#[109,97,114,107,115]⟩ (by decide) ((i:Int)*64) 64 (by omega) (by omega) (by omega) (by omega)
  have h1:=xA i;rw[Lf (by omega)] at h1
  unfold rdS at h1;rw[show(ByteArray.mk #[109,97,114,107,115]).data.toList=nmM from rfl,show(i:Int)*64=((i*64:Nat):Int) by omega] at this
  rw[show(i:Int)*64=((i*64:Nat):Int) by omega]
  split at h1
  ·injection h1 with _ h1;cases h1
  ·rw[show((64:Nat):Int)=64 from rfl] at h1
   rw[h1] at this;rw[UJ,LF 64 i];exact this
 have xK:Hid (∀wr st i,SkM w wr q p T D { S with ends:=st.1,chain:=st.2 } -> Calls prog 154 #[Pq q,.string (tx (UJ M i))] wr fun e w'=>(tkN S.k (now D nmI) (now D nmN) st (UJ M i)=none∧e= .returned (.int .i64 190) ∧ ∃S',SkM w w' q p T D S')∨(∃st',tkN S.k (now D nmI) (now D nmN) st (UJ M i)=some st'∧e= .returned (.int .i64 0)∧SkM w w' q p T D { S with ends:=st'.1,chain:=st'.2 })):=fun wr st i hS=>by
  obtain⟨T1,hk,hT,hu⟩:=hS;refine(QeH wr hk hd (tx (UJ M i))).mono fun e w' z=> ?_
  rw[JA] at z
  change TkQ wr q p T1 D _ (tkN S.k (now D nmI) (now D nmN) (st.1,st.2) (UJ M i)) e w' at z
  cases ht:tkN S.k (now D nmI) (now D nmN) (st.1,st.2) (UJ M i) with
  | none=>
   rw[ht] at z;exact .inl ⟨rfl,z.1,_,QW hT hu z.2⟩
  | some st'=>
   rw[ht] at z;exact .inr ⟨st',rfl,z.1,QW hT hu z.2⟩
 have HC:Hid (∀wr S',SkM w wr q p T D S'->wr.cell? ⟨q,0,none⟩=some (Pq p)):=fun wr S' hS=>by
  obtain⟨T1,hk,_,_⟩:=hS;obtain⟨_,_,⟨c0,_⟩,_⟩:=hk.cells;exact c0
 have HN:Hid (∀i W b,decide (UJ M i=zer 64)=b->Zr 153 #[.string (tx (UJ M i))] W (.bool b)):=fun i W b hb=>Qgt W (tx (UJ M i)) b hb
 obtain⟨o,ho⟩:=Ze (OF S.k (now D nmI) (now D nmN) M);have HA:Hid (∀j,tkA S.k (now D nmI) (now D nmN) M j=none->j<=Ot M->o=none):=fun j h1 h2=>by rw[<-ho];exact Ql8 h1 _ h2
 have xG:Hid (∀j st,tkA S.k (now D nmI) (now D nmN) M j=some st->Ot M=j->o=some st):=fun j st h1 h2=>by rw[<-ho,OF,h2];exact h1
 rw[ho];have xJ:Hid (SkM w w q p T D { S with ends:=[],chain:=0#32 }):=by
  have:({ S with ends:=[],chain:=0#32 } : SV)=S:=by rw[<-h0,<-hc0]
  rw[this];exact SkM.of h (Lb _ _)
 have xH:=Qc (QmM M);rw[hc] at xH;have xI:Hid (∀i,i<c -> ¬(i=c-1∧UJ M i=zer 64)->i+1<=Ot M):=fun i h1 h2=>Qiq (by rw[hc];exact h1) (by rw[hc];exact h2)
 have xN:Hid (∀i,i<c->i=c-1->UJ M i=zer 64->Ot M=i):=fun i h1 h2 h3=>Qir (by rw[hc];exact h1) (by rw[hc];exact h2) h3
 have xU:c<=4194304:=by omega
 clear h h0 hc0 xM xL hM xA ho hc;generalize M.length=ml at *
 go_enter func92,ntmps92
 go_wp2_with (go_at_call 151;(with_reducible refine HS.out.mono ?_);rintro e w1 ⟨rfl,rfl⟩)
 go_loopg [15] c (fun g x wr=> ∃(i:Nat) (st:List Nat×BitVec 32),i<=c∧i<=Ot M∧g=c-i∧x= .int .i64 i∧Hid (tkA S.k (now D nmI) (now D nmN) M i=some st)∧Hid (SkM w1 wr q p T D { S with ends:=st.1,chain:=st.2 }))
 case atStart=>go_light;exact⟨0,([],0#32),Ln _,Ln _,rfl,rfl,rfl,xJ⟩
 case round=>
  obtain⟨i,st,hi,xV,rfl,rfl,HI,HT⟩:=hrel;clear xJ;have c0:=HC.out _ _ HT.out
  by_cases hlt:i<c
  ·have hz:(i:Int)<(c:Int):=by omega
   have xQ:IntKind.i64.wrap ((i:Int)*64)=(i:Int)*64:=by rw[Lq];omega
   have xR:IntKind.i64.wrap ((c:Int)-1)=(c:Int)-1:=by rw[Lq];omega
   have xS:IntKind.i64.wrap ((i:Int)+1)=(i:Int)+1:=by rw[Lq];omega
   by_cases hl:i=c-1
   ·have xP:((i:Int) == (c:Int)-1)=true:=by simp;omega
    have xO:=Qc hl;clear hl
    by_cases hzr:UJ M i=zer 64
    ·have xE:=Qc (fun W=>HN.out i W true (LW hzr))
     have HZ:Hid (∀W W',Bl wr W->Bl W W'->TaQ w1 q p T D S o (.returned (.int .i64 0)) W'):=fun W W' h1 h2=>by
      rw[xG.out i st HI.out (xN.out i hlt xO.out hzr)];exact⟨rfl,(HT.out.last h1).last h2⟩
     clear hzr HN
     go_wp2_with (first
      | (go_at_call 152;(with_reducible refine(xF.out _ _ HT.out _ hlt).mono ?_);rintro e w2 ⟨rfl,u2⟩)
      | (go_at_call 153;(with_reducible refine(xE.out _).mono ?_);rintro e w3 ⟨rfl,u3⟩))
     go_ret
     exact HZ.out _ _ u2 u3
    ·have xE:=Qc (fun W=>HN.out i W false (LA hzr))
     have xB:i+1<=Ot M:=xI.out i hlt (fun h=>hzr h.2)
     clear hzr HN
     go_wp2_with (first
      | (go_at_call 152;(with_reducible refine(xF.out _ _ HT.out _ hlt).mono ?_);rintro e w2 ⟨rfl,u2⟩)
      | (go_at_call 153;(with_reducible refine(xE.out _).mono ?_);rintro e w3 ⟨rfl,u3⟩)
      | (go_at_call 154;(with_reducible refine(xK.out _ _ _ ((HT.out.last u2).last u3)).mono ?_);rintro e w4 (⟨h4,rfl,S4,t4⟩|⟨xC,h4,rfl,t4⟩)))
     ·have HZ:Hid (TaQ w1 q p T D S o (.returned (.int .i64 190)) w4):=by
       rw[HA.out (i+1) (by rw[tkA,HI.out];exact h4) xB]
       exact⟨rfl,S4,t4⟩
      clear h4;go_wp2
      go_ret
      exact HZ.out
     ·have xD:Hid (tkA S.k (now D nmI) (now D nmN) M (i+1)=some xC):=by show _=_;rw[tkA,HI.out];exact h4
      clear h4;go_wp2
      go_roundg (c-(i+1))
      case rel=>go_light;exact⟨i+1,xC,by omega,xB,rfl,by go_num,xD,t4⟩
      case measure=>go_light;omega
   ·have xP:((i:Int) == (c:Int)-1)=false:=by simp;omega
    have xW:¬(i:Int)=(c:Int)-1:=by omega
    have xB:i+1<=Ot M:=xI.out i hlt (fun h=>hl h.1)
    go_wp2_with (first
     | (go_at_call 152;(with_reducible refine(xF.out _ _ HT.out _ hlt).mono ?_);rintro e w2 ⟨rfl,u2⟩)
     | (go_at_call 154;(with_reducible refine(xK.out _ _ _ (HT.out.last u2)).mono ?_);rintro e w4 (⟨h4,rfl,S4,t4⟩|⟨xC,h4,rfl,t4⟩)))
    ·have HZ:Hid (TaQ w1 q p T D S o (.returned (.int .i64 190)) w4):=by
      rw[HA.out (i+1) (by rw[tkA,HI.out];exact h4) xB]
      exact⟨rfl,S4,t4⟩
     clear h4;go_wp2
     go_ret
     exact HZ.out
    ·have xD:Hid (tkA S.k (now D nmI) (now D nmN) M (i+1)=some xC):=by show _=_;rw[tkA,HI.out];exact h4
     clear h4;go_wp2
     go_roundg (c-(i+1))
     case rel=>go_light;exact⟨i+1,xC,by omega,xB,rfl,by go_num,xD,t4⟩
     case measure=>go_light;omega
  ·have hz:¬(i:Int)<(c:Int):=by omega
   have HZ:Hid (TaQ w1 q p T D S o (.returned (.int .i64 0)) wr):=by
    rw[xG.out i st HI.out (by have:=xH.out;omega)]
    exact⟨rfl,HT.out⟩
   go_wp2
   go_ret
   exact HZ.out
end
theorem Qeq{n:Nat}{D:DV}(s:List UInt8)(m:Nat)(hz:(Qe D.L s).now.length<=268435456)(h:Rm (n+1) D):Rm n (cutI s m D).1:=by
 unfold cutI
 split
 ·exact h.mono (by omega)
 ·exact QpU s _ hz h
section
variable {q p:Nat} {T:Nat->Prop} {D:DV} {S:SV}
theorem Qop{W:World}{g:Nat}{a b c:Value}{U:TypeId}(h:W.heap[g]? = some (.cells #[a,b,c] U (0,0))):W.cell? ⟨g,0,none⟩=some a∧W.cell? ⟨g,1,none⟩=some b∧W.cell? ⟨g,2,none⟩=some c:=Qp h
theorem Sk.cutI{w w0:World}{T1:Nat->Prop}{D1:DV}(h:Sk w q p T1 D1 S)(hT:∀x,T1 x->T x∨w0.heap.size<=x)(hu:Upo T w0 w)(hr:Rmy D1)(s:BA)(hs:s.size<=maxLen)(n:Nat)(hn:n<=9223372036854775807)(D2:DV)(r:Int)(hD:Jq D1 s.data.toList (n:Int)=(D2,r)) :
  Hid (∀W,Bl w W->Calls prog 156 #[Pq p,.string s,.int .i64 n] W fun e w'=>e= .returned (.int .i64 r)∧SkM w0 w' q p T D2 S):=fun W hW=>by
 have:=(h.next hW).cut hr s hs n (by omega) (by omega)
 rw[hD] at this;exact this.mono fun e w' z=>⟨z.1,QW hT hu (z.2.first hW)⟩
theorem QgW(w:World)(h:Sk w q p T D S)(hrm:Rm 7 D)(D':DV)(r:Int)(hR:Qx (stl S.ends) D=(D',r)) :
  Calls prog 93 #[Pq q] w fun e w'=>e= .returned (.int .i64 r)∧SkM w w' q p T D' S:=by
 obtain⟨xV,xW,hf,_,_,xU⟩:=h.small;have xX:=OD S.ends.length;obtain⟨w1,xQ⟩:=Ze (w.alloc (.cells #[.string ⟨#[105,116,101,109,115]⟩,.string ⟨#[110,111,100,101,115]⟩,.string ⟨#[109,97,114,107,115]⟩] 9));have u1:Bl w w1:=by rw[<-xQ];exact bal (Lb _ _) _
 obtain⟨bn,xR⟩:=Ze w.heap.size;have k1:w1.heap[bn]? = some (.cells #[.string ⟨#[105,116,101,109,115]⟩,.string ⟨#[110,111,100,101,115]⟩,.string ⟨#[109,97,114,107,115]⟩] 9 (0,0)):=by rw[<-xQ,<-xR];exact Yc _ _
 have nT:¬T bn:=fun e=>by have:=h.lt e;omega
 have HW:=Qc xQ;have HB:=Qc xR;have HC:Hid (∀W Dj,SkM w1 W q p T Dj S->W.cell? ⟨bn,0,none⟩=some (.string ⟨#[105,116,101,109,115]⟩)∧W.cell? ⟨bn,1,none⟩=some (.string ⟨#[110,111,100,101,115]⟩)∧W.cell? ⟨bn,2,none⟩=some (.string ⟨#[109,97,114,107,115]⟩)∧W.cell? ⟨q,0,none⟩=some (Pq p)):=fun W Dj hW=>by
  obtain⟨y0,y1,y2⟩:=Qop k1;refine⟨hW.cell y0 nT,hW.cell y1 nT,hW.cell y2 nT,?_⟩
  obtain⟨T1,hk,_,_⟩:=hW;obtain⟨_,_,⟨c0,_⟩,_⟩:=hk.cells;exact c0
 have xT:Hid (SkM w1 w1 q p T D S):=SkM.of (h.next u1) (Lb _ _);have xS:=Qc hrm;have HU:=Qc u1;have HQ:Hid (Qx (stl S.ends) D=(D',r)):=hR;have xP:∀(Dj:DV) (W:World),SkM w1 W q p T Dj S -> ∀s,Jy Dj s<=268435456:=fun Dj W hW s=>by
  obtain⟨T1,hk,_,_⟩:=hW;unfold Jy
  split
  ·omega
  ·exact hk.sz s
 clear xQ xR u1 h k1 nT hrm hR
 go_enter func93,ntmps93
 go_upto_region 2 with (fail)
 try rw[HW.out,HB.out]
 go_wp2
 go_loopg [13] 3 (fun g x wr=> ∃(j:Nat) (Dj:DV),j<=3∧g=3-j∧x= .int .i64 j∧Hid (SkM w1 wr q p T Dj S)∧Hid (Rm (7-j) Dj)∧Hid (Qx ((stl S.ends).drop j) Dj=(D',r)))
 case atStart=>go_light;exact⟨0,D,by decide,rfl,rfl,xT,xS,HQ⟩
 case round=>
  obtain⟨j,Dj,hj,rfl,rfl,HS,xG,HI⟩:=hrel;have HI:=HI.out;clear xT xS HQ
  rcases(show j=0∨j=1∨j=2∨j=3 by omega) with rfl|rfl|rfl|rfl
  ·have xC:Rm 7 Dj:=xG.out;obtain⟨T1,hk,hT,hu⟩:=HS.out;have HL:Hid (∀W,Bl wr W->Re 155 #[Pq q,.string ⟨#[105,116,101,109,115]⟩] W (.int .i64 ((lst S.ends:Nat):Int))):=fun W hW=>YN W (hk.next hW)
   have xH:Hid (∀W,Bl wr W->Re 151 #[Pq p,.string ⟨#[105,116,101,109,115]⟩] W (.int .i64 (Jy Dj nmI:Int))):=fun W hW=>(hk.next hW).size ⟨#[105,116,101,109,115]⟩ (by decide)
   have xA:Rm 6 (cutI nmI (lst S.ends) Dj).1:=Qeq _ _ (hk.sz _) xC;have hE:Qx ((stl S.ends).drop 0) Dj=if (cutI nmI (lst S.ends) Dj).2=0 then Qx ((stl S.ends).drop 1) (cutI nmI (lst S.ends) Dj).1 else cutI nmI (lst S.ends) Dj:=rfl
   rw[hE] at HI;obtain⟨c0,c1,c2,c3⟩:=HC.out _ _ HS.out;have hz:((0:Nat):Int)<3:=by decide
   have xO:=xP Dj wr HS.out nmI;obtain⟨D1,r1,xB⟩:∃D1 r1,Jq Dj nmI ((lst S.ends:Nat):Int)=(D1,r1):=⟨_,_,rfl⟩;have xD:=Sk.cutI hk hT hu xC.rmy ⟨#[105,116,101,109,115]⟩ (by decide) (lst S.ends) (by omega) D1 r1 xB
   unfold cutI at HI xA;rw[xB] at HI xA;clear hE xB hk hT hu xC xG;generalize (lst S.ends)=ls at *;obtain⟨z,xM⟩:=Ze (Jy Dj nmI);rw[xM] at HI xA xH xO;clear xM
   by_cases hle:z<=ls
   ·have xI:(z:Int)<=(ls:Int):=by omega
    rw[Lf hle,Lf rfl] at HI;rw[Lf hle] at xA;have xE:=Qc HI;have xF:=Qc xA;clear HI xA xD
    go_wp2_with (first
     | (go_at_call 151;(with_reducible refine(xH.out _ (Lb _ _)).mono ?_);rintro e w2 ⟨rfl,rfl⟩)
     | (go_at_call 155;(with_reducible refine(HL.out _ (Lb _ _)).mono ?_);rintro e w2 ⟨rfl,rfl⟩))
    go_roundg 2
    case rel=>go_light;exact⟨1,Dj,by decide,rfl,by first|rfl|go_num,HS,xF,xE⟩
    case measure=>go_light;decide
   ·have xI:¬(z:Int)<=(ls:Int):=by omega
    rw[Le hle] at HI xA;have xK:Hid (∀W,SkM w1 W q p T D1 S->W.cell? ⟨q,0,none⟩=some (Pq p)):=fun W hW=>(HC.out _ _ hW).2.2.2
    have xL:Hid (∀W,Bl wr W->W.cell? ⟨q,0,none⟩=some (Pq p)):=fun W hW=>(HC.out _ _ (SkM.last HS.out hW)).2.2.2
    by_cases h0:r1=0
    ·subst h0;simp only[if_true] at HI;have xE:=Qc HI;have xF:=Qc xA;clear HI xA
     go_upto_region 6 with (first
      | (go_at_call 151;(with_reducible refine(xH.out _ (Lb _ _)).mono ?_);rintro e w2 ⟨rfl,rfl⟩)
      | (go_at_call 155;(with_reducible refine(HL.out _ (Lb _ _)).mono ?_);rintro e w2 ⟨rfl,rfl⟩))
     have u:=bdz w2
     go_region_held3 (fun Z=>Z.cell? ⟨q,0,none⟩=some (Pq p)) (first|assumption|(with_reducible exact xK.out _ t9)|(with_reducible exact xL.out _ u)) (first
      | (go_at_call 155;(with_reducible refine(HL.out _ u).mono ?_);rintro e w2 ⟨rfl,rfl⟩)
      | (go_at_call 156;(with_reducible refine(xD.out _ u).mono ?_);rintro e w9 ⟨rfl,t9⟩))
     all_goals
      go_wp2
      go_roundg 2
      case rel=>go_light;exact⟨1,D1,by decide,rfl,by first|rfl|go_num,t9,xF,xE⟩
      case measure=>go_light;decide
    ·simp only[if_neg h0] at HI;injection HI with HI1 HI3
     subst HI1 HI3;have xN:(r1 != 0)=true:=by simp[h0]
     have HZ:Hid (∀W,SkM w1 W q p T D1 S->SkM w W q p T D1 S):=fun W hW=>hW.first HU.out
     go_upto_region 6 with (first
      | (go_at_call 151;(with_reducible refine(xH.out _ (Lb _ _)).mono ?_);rintro e w2 ⟨rfl,rfl⟩)
      | (go_at_call 155;(with_reducible refine(HL.out _ (Lb _ _)).mono ?_);rintro e w2 ⟨rfl,rfl⟩))
     have u:=bdz w2
     go_region_held3 (fun Z=>Z.cell? ⟨q,0,none⟩=some (Pq p)) (first|assumption|(with_reducible exact xK.out _ t9)|(with_reducible exact xL.out _ u)) (first
      | (go_at_call 155;(with_reducible refine(HL.out _ u).mono ?_);rintro e w2 ⟨rfl,rfl⟩)
      | (go_at_call 156;(with_reducible refine(xD.out _ u).mono ?_);rintro e w9 ⟨rfl,t9⟩))
     all_goals
      go_wp2
      go_ret
      exact⟨rfl,HZ.out _ t9⟩
  ·have xC:Rm 6 Dj:=xG.out;obtain⟨T1,hk,hT,hu⟩:=HS.out;have HL:Hid (∀W,Bl wr W->Re 155 #[Pq q,.string ⟨#[110,111,100,101,115]⟩] W (.int .i64 ((nn S.ends.length*40:Nat):Int))):=fun W hW=>Qai W (hk.next hW)
   have xH:Hid (∀W,Bl wr W->Re 151 #[Pq p,.string ⟨#[110,111,100,101,115]⟩] W (.int .i64 (Jy Dj nmN:Int))):=fun W hW=>(hk.next hW).size ⟨#[110,111,100,101,115]⟩ (by decide)
   have xA:Rm 5 (cutI nmN (nn S.ends.length*40) Dj).1:=Qeq _ _ (hk.sz _) xC;have hE:Qx ((stl S.ends).drop 1) Dj=if (cutI nmN (nn S.ends.length*40) Dj).2=0 then Qx ((stl S.ends).drop 2) (cutI nmN (nn S.ends.length*40) Dj).1 else cutI nmN (nn S.ends.length*40) Dj:=rfl
   rw[hE] at HI;obtain⟨c0,c1,c2,c3⟩:=HC.out _ _ HS.out;have hz:((1:Nat):Int)<3:=by decide
   have xO:=xP Dj wr HS.out nmN;obtain⟨D1,r1,xB⟩:∃D1 r1,Jq Dj nmN ((nn S.ends.length*40:Nat):Int)=(D1,r1):=⟨_,_,rfl⟩;have xD:=Sk.cutI hk hT hu xC.rmy ⟨#[110,111,100,101,115]⟩ (by decide) (nn S.ends.length*40) (by omega) D1 r1 xB
   unfold cutI at HI xA;rw[xB] at HI xA;clear hE xB hk hT hu xC xG;generalize (nn S.ends.length*40)=ln at *;obtain⟨z,xM⟩:=Ze (Jy Dj nmN);rw[xM] at HI xA xH xO;clear xM
   by_cases hle:z<=ln
   ·have xI:(z:Int)<=(ln:Int):=by omega
    rw[Lf hle,Lf rfl] at HI;rw[Lf hle] at xA;have xE:=Qc HI;have xF:=Qc xA;clear HI xA xD
    go_wp2_with (first
     | (go_at_call 151;(with_reducible refine(xH.out _ (Lb _ _)).mono ?_);rintro e w2 ⟨rfl,rfl⟩)
     | (go_at_call 155;(with_reducible refine(HL.out _ (Lb _ _)).mono ?_);rintro e w2 ⟨rfl,rfl⟩))
    go_roundg 1
    case rel=>go_light;exact⟨2,Dj,by decide,rfl,by first|rfl|go_num,HS,xF,xE⟩
    case measure=>go_light;decide
   ·have xI:¬(z:Int)<=(ln:Int):=by omega
    rw[Le hle] at HI xA;have xK:Hid (∀W,SkM w1 W q p T D1 S->W.cell? ⟨q,0,none⟩=some (Pq p)):=fun W hW=>(HC.out _ _ hW).2.2.2
    have xL:Hid (∀W,Bl wr W->W.cell? ⟨q,0,none⟩=some (Pq p)):=fun W hW=>(HC.out _ _ (SkM.last HS.out hW)).2.2.2
    by_cases h0:r1=0
    ·subst h0;simp only[if_true] at HI;have xE:=Qc HI;have xF:=Qc xA;clear HI xA
     go_upto_region 6 with (first
      | (go_at_call 151;(with_reducible refine(xH.out _ (Lb _ _)).mono ?_);rintro e w2 ⟨rfl,rfl⟩)
      | (go_at_call 155;(with_reducible refine(HL.out _ (Lb _ _)).mono ?_);rintro e w2 ⟨rfl,rfl⟩))
     have u:=bdz w2
     go_region_held3 (fun Z=>Z.cell? ⟨q,0,none⟩=some (Pq p)) (first|assumption|(with_reducible exact xK.out _ t9)|(with_reducible exact xL.out _ u)) (first
      | (go_at_call 155;(with_reducible refine(HL.out _ u).mono ?_);rintro e w2 ⟨rfl,rfl⟩)
      | (go_at_call 156;(with_reducible refine(xD.out _ u).mono ?_);rintro e w9 ⟨rfl,t9⟩))
     all_goals
      go_wp2
      go_roundg 1
      case rel=>go_light;exact⟨2,D1,by decide,rfl,by first|rfl|go_num,t9,xF,xE⟩
      case measure=>go_light;decide
    ·simp only[if_neg h0] at HI;injection HI with HI1 HI3
     subst HI1 HI3;have xN:(r1 != 0)=true:=by simp[h0]
     have HZ:Hid (∀W,SkM w1 W q p T D1 S->SkM w W q p T D1 S):=fun W hW=>hW.first HU.out
     go_upto_region 6 with (first
      | (go_at_call 151;(with_reducible refine(xH.out _ (Lb _ _)).mono ?_);rintro e w2 ⟨rfl,rfl⟩)
      | (go_at_call 155;(with_reducible refine(HL.out _ (Lb _ _)).mono ?_);rintro e w2 ⟨rfl,rfl⟩))
     have u:=bdz w2
     go_region_held3 (fun Z=>Z.cell? ⟨q,0,none⟩=some (Pq p)) (first|assumption|(with_reducible exact xK.out _ t9)|(with_reducible exact xL.out _ u)) (first
      | (go_at_call 155;(with_reducible refine(HL.out _ u).mono ?_);rintro e w2 ⟨rfl,rfl⟩)
      | (go_at_call 156;(with_reducible refine(xD.out _ u).mono ?_);rintro e w9 ⟨rfl,t9⟩))
     all_goals
      go_wp2
      go_ret
      exact⟨rfl,HZ.out _ t9⟩
  ·have xC:Rm 5 Dj:=xG.out;obtain⟨T1,hk,hT,hu⟩:=HS.out;have HL:Hid (∀W,Bl wr W->Re 155 #[Pq q,.string ⟨#[109,97,114,107,115]⟩] W (.int .i64 ((S.ends.length*64:Nat):Int))):=fun W hW=>Qah W (hk.next hW)
   have xH:Hid (∀W,Bl wr W->Re 151 #[Pq p,.string ⟨#[109,97,114,107,115]⟩] W (.int .i64 (Jy Dj nmM:Int))):=fun W hW=>(hk.next hW).size ⟨#[109,97,114,107,115]⟩ (by decide)
   have xA:Rm 4 (cutI nmM (S.ends.length*64) Dj).1:=Qeq _ _ (hk.sz _) xC;have hE:Qx ((stl S.ends).drop 2) Dj=if (cutI nmM (S.ends.length*64) Dj).2=0 then Qx ((stl S.ends).drop 3) (cutI nmM (S.ends.length*64) Dj).1 else cutI nmM (S.ends.length*64) Dj:=rfl
   rw[hE] at HI;obtain⟨c0,c1,c2,c3⟩:=HC.out _ _ HS.out;have hz:((2:Nat):Int)<3:=by decide
   have xO:=xP Dj wr HS.out nmM;obtain⟨D1,r1,xB⟩:∃D1 r1,Jq Dj nmM ((S.ends.length*64:Nat):Int)=(D1,r1):=⟨_,_,rfl⟩;have xD:=Sk.cutI hk hT hu xC.rmy ⟨#[109,97,114,107,115]⟩ (by decide) (S.ends.length*64) (by omega) D1 r1 xB
   unfold cutI at HI xA;rw[xB] at HI xA;clear hE xB hk hT hu xC xG;generalize (S.ends.length*64)=lm at *;obtain⟨z,xM⟩:=Ze (Jy Dj nmM);rw[xM] at HI xA xH xO;clear xM
   by_cases hle:z<=lm
   ·have xI:(z:Int)<=(lm:Int):=by omega
    rw[Lf hle,Lf rfl] at HI;rw[Lf hle] at xA;have xE:=Qc HI;have xF:=Qc xA;clear HI xA xD
    go_wp2_with (first
     | (go_at_call 151;(with_reducible refine(xH.out _ (Lb _ _)).mono ?_);rintro e w2 ⟨rfl,rfl⟩)
     | (go_at_call 155;(with_reducible refine(HL.out _ (Lb _ _)).mono ?_);rintro e w2 ⟨rfl,rfl⟩))
    go_roundg 0
    case rel=>go_light;exact⟨3,Dj,by decide,rfl,by first|rfl|go_num,HS,xF,xE⟩
    case measure=>go_light;decide
   ·have xI:¬(z:Int)<=(lm:Int):=by omega
    rw[Le hle] at HI xA;have xK:Hid (∀W,SkM w1 W q p T D1 S->W.cell? ⟨q,0,none⟩=some (Pq p)):=fun W hW=>(HC.out _ _ hW).2.2.2
    have xL:Hid (∀W,Bl wr W->W.cell? ⟨q,0,none⟩=some (Pq p)):=fun W hW=>(HC.out _ _ (SkM.last HS.out hW)).2.2.2
    by_cases h0:r1=0
    ·subst h0;simp only[if_true] at HI;have xE:=Qc HI;have xF:=Qc xA;clear HI xA
     go_upto_region 6 with (first
      | (go_at_call 151;(with_reducible refine(xH.out _ (Lb _ _)).mono ?_);rintro e w2 ⟨rfl,rfl⟩)
      | (go_at_call 155;(with_reducible refine(HL.out _ (Lb _ _)).mono ?_);rintro e w2 ⟨rfl,rfl⟩))
     have u:=bdz w2
     go_region_held3 (fun Z=>Z.cell? ⟨q,0,none⟩=some (Pq p)) (first|assumption|(with_reducible exact xK.out _ t9)|(with_reducible exact xL.out _ u)) (first
      | (go_at_call 155;(with_reducible refine(HL.out _ u).mono ?_);rintro e w2 ⟨rfl,rfl⟩)
      | (go_at_call 156;(with_reducible refine(xD.out _ u).mono ?_);rintro e w9 ⟨rfl,t9⟩))
     all_goals
      go_wp2
      go_roundg 0
      case rel=>go_light;exact⟨3,D1,by decide,rfl,by first|rfl|go_num,t9,xF,xE⟩
      case measure=>go_light;decide
    ·simp only[if_neg h0] at HI;injection HI with HI1 HI3
     subst HI1 HI3;have xN:(r1 != 0)=true:=by simp[h0]
     have HZ:Hid (∀W,SkM w1 W q p T D1 S->SkM w W q p T D1 S):=fun W hW=>hW.first HU.out
     go_upto_region 6 with (first
      | (go_at_call 151;(with_reducible refine(xH.out _ (Lb _ _)).mono ?_);rintro e w2 ⟨rfl,rfl⟩)
      | (go_at_call 155;(with_reducible refine(HL.out _ (Lb _ _)).mono ?_);rintro e w2 ⟨rfl,rfl⟩))
     have u:=bdz w2
     go_region_held3 (fun Z=>Z.cell? ⟨q,0,none⟩=some (Pq p)) (first|assumption|(with_reducible exact xK.out _ t9)|(with_reducible exact xL.out _ u)) (first
      | (go_at_call 155;(with_reducible refine(HL.out _ u).mono ?_);rintro e w2 ⟨rfl,rfl⟩)
      | (go_at_call 156;(with_reducible refine(xD.out _ u).mono ?_);rintro e w9 ⟨rfl,t9⟩))
     all_goals
      go_wp2
      go_ret
      exact⟨rfl,HZ.out _ t9⟩
  ·have hz:¬((3:Nat):Int)<3:=by decide
   have xE:Hid (Qx ((stl S.ends).drop 3) Dj=(D',r)):=HI;have xF:Hid (Rm 4 Dj):=xG.out;clear HI xG xP;go_wp2
   go_loopg [42] 3 (fun g x wr=> ∃(j:Nat) (Dj:DV),j<=3∧g=3-j∧x= .int .i64 j∧Hid (SkM w1 wr q p T Dj S)∧Hid (Rm (4-j) Dj)∧Hid (Qx ((stl S.ends).drop (3+j)) Dj=(D',r)))
   case atStart=>go_light;exact⟨0,Dj,by decide,rfl,rfl,HS,xF,xE⟩
   case round=>
    clear HS xF xE;obtain⟨j,Di,hj,rfl,rfl,HS,xG,HI⟩:=hrel;have HI:=HI.out
    rcases(show j=0∨j=1∨j=2∨j=3 by omega) with rfl|rfl|rfl|rfl
    ·have xC:Rm 4 Di:=xG.out;obtain⟨T1,hk,hT,hu⟩:=HS.out;obtain⟨D1,r1,xB⟩:∃D1 r1,QP Di nmI=(D1,r1):=⟨_,_,rfl⟩;have xD:Hid (Calls prog 157 #[Pq p,.string ⟨#[105,116,101,109,115]⟩] wr fun e w'=>e= .returned (.int .i64 r1)∧SkM w1 w' q p T D1 S):=by
      have:=hk.sync xC.rmy ⟨#[105,116,101,109,115]⟩ (by decide)
      rw[show(ByteArray.mk #[105,116,101,109,115]).data.toList=nmI from rfl,xB] at this
      exact this.mono fun e w' z=>⟨z.1,QW hT hu z.2⟩
     have xJ:Rm 3 D1:=by
      have:Rm 3 (QP Di nmI).1:=Qa2 _ (hk.sz _) xC;rw[xB] at this;exact this
     have hE:Qx ((stl S.ends).drop (3+0)) Di=if r1=0 then Qx ((stl S.ends).drop (3+1)) D1 else (D1,r1):=by
      show Qx ((fun D=>QP D nmI)::((stl S.ends).drop (3+1))) Di=_
      simp only[Qx,xB]
     rw[hE] at HI;obtain⟨c0,c1,c2,c3⟩:=HC.out _ _ HS.out;have hz:((0:Nat):Int)<3:=by decide
     clear hE xB hk hT hu xC xG
     by_cases h0:r1=0
     ·subst h0;rw[Lf rfl] at HI;have xE:=Qc HI;have xF:=Qc xJ;clear HI xJ HS HC
      go_wp2_with (go_at_call 157;(with_reducible refine xD.out.mono ?_);rintro e w9 ⟨rfl,t9⟩)
      go_roundg 2
      case rel=>go_light;exact⟨1,D1,by decide,rfl,by first|rfl|go_num,t9,xF,xE⟩
      case measure=>go_light;decide
     ·rw[Le h0] at HI;injection HI with HI1 HI3
      subst HI1 HI3;have xN:(r1 != 0)=true:=by simp[h0]
      have HZ:Hid (∀W,SkM w1 W q p T D1 S->SkM w W q p T D1 S):=fun W hW=>hW.first HU.out
      clear xJ HS HC
      go_wp2_with (go_at_call 157;(with_reducible refine xD.out.mono ?_);rintro e w9 ⟨rfl,t9⟩)
      go_ret
      exact⟨rfl,HZ.out _ t9⟩
    ·have xC:Rm 3 Di:=xG.out;obtain⟨T1,hk,hT,hu⟩:=HS.out;obtain⟨D1,r1,xB⟩:∃D1 r1,QP Di nmN=(D1,r1):=⟨_,_,rfl⟩;have xD:Hid (Calls prog 157 #[Pq p,.string ⟨#[110,111,100,101,115]⟩] wr fun e w'=>e= .returned (.int .i64 r1)∧SkM w1 w' q p T D1 S):=by
      have:=hk.sync xC.rmy ⟨#[110,111,100,101,115]⟩ (by decide)
      rw[show(ByteArray.mk #[110,111,100,101,115]).data.toList=nmN from rfl,xB] at this
      exact this.mono fun e w' z=>⟨z.1,QW hT hu z.2⟩
     have xJ:Rm 2 D1:=by
      have:Rm 2 (QP Di nmN).1:=Qa2 _ (hk.sz _) xC;rw[xB] at this;exact this
     have hE:Qx ((stl S.ends).drop (3+1)) Di=if r1=0 then Qx ((stl S.ends).drop (3+2)) D1 else (D1,r1):=by
      show Qx ((fun D=>QP D nmN)::((stl S.ends).drop (3+2))) Di=_
      simp only[Qx,xB]
     rw[hE] at HI;obtain⟨c0,c1,c2,c3⟩:=HC.out _ _ HS.out;have hz:((1:Nat):Int)<3:=by decide
     clear hE xB hk hT hu xC xG
     by_cases h0:r1=0
     ·subst h0;rw[Lf rfl] at HI;have xE:=Qc HI;have xF:=Qc xJ;clear HI xJ HS HC
      go_wp2_with (go_at_call 157;(with_reducible refine xD.out.mono ?_);rintro e w9 ⟨rfl,t9⟩)
      go_roundg 1
      case rel=>go_light;exact⟨2,D1,by decide,rfl,by first|rfl|go_num,t9,xF,xE⟩
      case measure=>go_light;decide
     ·rw[Le h0] at HI;injection HI with HI1 HI3
      subst HI1 HI3;have xN:(r1 != 0)=true:=by simp[h0]
      have HZ:Hid (∀W,SkM w1 W q p T D1 S->SkM w W q p T D1 S):=fun W hW=>hW.first HU.out
      clear xJ HS HC
      go_wp2_with (go_at_call 157;(with_reducible refine xD.out.mono ?_);rintro e w9 ⟨rfl,t9⟩)
      go_ret
      exact⟨rfl,HZ.out _ t9⟩
    ·have xC:Rm 2 Di:=xG.out;obtain⟨T1,hk,hT,hu⟩:=HS.out;obtain⟨D1,r1,xB⟩:∃D1 r1,QP Di nmM=(D1,r1):=⟨_,_,rfl⟩;have xD:Hid (Calls prog 157 #[Pq p,.string ⟨#[109,97,114,107,115]⟩] wr fun e w'=>e= .returned (.int .i64 r1)∧SkM w1 w' q p T D1 S):=by
      have:=hk.sync xC.rmy ⟨#[109,97,114,107,115]⟩ (by decide)
      rw[show(ByteArray.mk #[109,97,114,107,115]).data.toList=nmM from rfl,xB] at this
      exact this.mono fun e w' z=>⟨z.1,QW hT hu z.2⟩
     have xJ:Rm 1 D1:=by
      have:Rm 1 (QP Di nmM).1:=Qa2 _ (hk.sz _) xC;rw[xB] at this;exact this
     have hE:Qx ((stl S.ends).drop (3+2)) Di=if r1=0 then Qx ((stl S.ends).drop (3+3)) D1 else (D1,r1):=by
      show Qx ((fun D=>QP D nmM)::((stl S.ends).drop (3+3))) Di=_
      simp only[Qx,xB]
     rw[hE] at HI;obtain⟨c0,c1,c2,c3⟩:=HC.out _ _ HS.out;have hz:((2:Nat):Int)<3:=by decide
     clear hE xB hk hT hu xC xG
     by_cases h0:r1=0
     ·subst h0;rw[Lf rfl] at HI;have xE:=Qc HI;have xF:=Qc xJ;clear HI xJ HS HC
      go_wp2_with (go_at_call 157;(with_reducible refine xD.out.mono ?_);rintro e w9 ⟨rfl,t9⟩)
      go_roundg 0
      case rel=>go_light;exact⟨3,D1,by decide,rfl,by first|rfl|go_num,t9,xF,xE⟩
      case measure=>go_light;decide
     ·rw[Le h0] at HI;injection HI with HI1 HI3
      subst HI1 HI3;have xN:(r1 != 0)=true:=by simp[h0]
      have HZ:Hid (∀W,SkM w1 W q p T D1 S->SkM w W q p T D1 S):=fun W hW=>hW.first HU.out
      clear xJ HS HC
      go_wp2_with (go_at_call 157;(with_reducible refine xD.out.mono ?_);rintro e w9 ⟨rfl,t9⟩)
      go_ret
      exact⟨rfl,HZ.out _ t9⟩
    ·have hz:¬((3:Nat):Int)<3:=by decide
     injection (show(Di,(0:Int))=(D',r) from HI) with HI1 HI3
     subst HI1 HI3;have HZ:Hid (SkM w wr q p T Di S):=SkM.first HU.out HS.out;clear HI xG HS HC;go_wp2
     go_ret
     exact⟨rfl,HZ.out⟩
end
def OpQ(w:World)(p:Nat)(S0:Nat->Prop)(x:DV×Option SV×Int)(e:Ending)(w':World):Prop:=match x.2.1 with
 | none=>e= .returned (.tuple #[.pointer none,.int .i64 x.2.2])∧Mvd w w' p S0 x.1
 | some S=> ∃q T,e= .returned (.tuple #[Pq q,.int .i64 x.2.2])∧Sk w' q p T x.1 S∧(∀y,T y->S0 y∨w.heap.size<=y)∧w.heap.size<=q∧Upo S0 w w'
variable{W w w1:World}{p q:Nat}{S0 T:Nat->Prop}{D:DV}
theorem Qfh(h:Dsk w p S0 D)(hb:Bl w W):Mvd w W p S0 D:=⟨S0,h.next hb,fun _ hx=> .inl hx,Upo.of hb⟩
theorem Qic(hb:Bl w w1)(hu:Upo T w1 W)(hT:∀x,T x->S0 x∨w.heap.size<=x):Upo S0 w W :=
 (Upo.of hb).trans hu (fun x hx ht=>(hT x ht).elim id (fun e=>by omega))
theorem Qh1{S:SV}(hb:Bl w w1)(hT:∀x,T x->S0 x∨w.heap.size<=x)(h:SkM w1 W q p T D S):Mvd w W p S0 D:=by
 obtain⟨T',⟨S1,v,d1,d2,d3,d4,d5⟩,h2,h3⟩:=h;refine⟨S1,d1,fun x hx=> ?_,Qic hb h3 hT⟩
 rcases h2 x ((d5 x).2 (.inl hx)) with e|e
 ·exact hT x e
 ·exact .inr (Lr hb.size e)
theorem QiD(w:World)(h:Dsk w p S0 D)(hrm:Rm 7 D)(k:Int)(x:DV×Option SV×Int)(hx:YQ D k=x) :
  Calls prog 42 #[Pq p,.int .i64 k] w (OpQ w p S0 x):=by
 have HC:=Qc (Yp w k);have xA:=Qc h.down;unfold YQ at hx
 by_cases hk:1<=k∧k<=32
 ·rw[Le (fun q=>q hk)] at hx
  have hc:chk k=0:=Le (by omega)
  rw[hc] at HC
  by_cases hd:D.down=true
  ·rw[Lf hd] at hx;subst hx;rw[hd] at xA;have HZ:=Qc (Qfh h (Lb _ _));clear h
   go_enter func42,ntmps42
   go_wp2_with (first
    | (go_at_call 91;(with_reducible refine HC.out.mono ?_);rintro e w1 ⟨rfl,rfl⟩)
    | (go_at_call 15;(with_reducible refine xA.out.mono ?_);rintro e w1 ⟨rfl,rfl⟩))
   go_ret2
   exact⟨rfl,HZ.out⟩
  ·rw[Le hd] at hx;have xG:D.down=false:=by simpa using hd
   rw[xG] at xA;obtain⟨w1,xC⟩:=Ze (w.alloc (.cells #[Pq p,.int .i64 k,.slice none 0 0,.int .u32 0,.bool false] 169));have u1:Bl w w1:=by rw[<-xC];exact bal (Lb _ _) _
   have k1:w1.heap[w.heap.size]? = some (.cells #[Pq p,.int .i64 k,.slice none 0 0,.int .u32 0,.bool false] 169 (0,0)):=by rw[<-xC];exact Yc _ _
   obtain⟨kn,xK⟩:∃n:Nat,k.toNat=n:=⟨_,rfl⟩;have xJ:k=(kn:Int):=by omega
   rw[xK] at hx;subst xJ;have hS:Sk w1 w.heap.size p (fun y=>S0 y∨y=w.heap.size) D ⟨kn,[],0#32,false⟩ :=
    ⟨S0,.slice none 0 0,h.next u1,⟨k1,Qlf _ _,by show 1<=kn;omega,by show kn<=32;omega,by simp,by simp⟩,fun e=>(by have:=h.lt e;omega),fun g hg=>(by cases hg),fun y=>⟨fun e=>e.elim .inl (fun e=> .inr (.inl e)),fun e=>e.elim .inl (fun e=>e.elim .inr (fun e=>by cases e))⟩⟩
   have hT:∀y,(S0 y∨y=w.heap.size)->S0 y∨w.heap.size<=y:=fun y e=>e.imp id (fun e=>by omega)
   have HA:=Qc (JY w1 hS xG rfl rfl);obtain⟨bq,xB⟩:=Ze w.heap.size;have HW:=Qc xC;have HB:=Qc xB;rw[xB] at HA
   change Hid (Calls prog 92 #[Pq bq] w1 (TaQ w1 bq p _ D _ (OF kn (now D nmI) (now D nmN) (now D nmM)))) at HA
   cases ht:OF kn (now D nmI) (now D nmN) (now D nmM) with
   | none=>
    rw[ht] at HA hx;subst hx;have xD:Hid (Calls prog 92 #[Pq bq] w1 fun e w'=>e= .returned (.int .i64 190)∧Mvd w w' p S0 D):=HA.out.mono fun e w' z=>⟨z.1,by obtain⟨S',z2⟩:=z.2;rw[<-xB] at z2;exact Qh1 u1 hT z2⟩
    clear h HA hS hT u1 k1 xC xB ht
    go_enter func42,ntmps42
    go_upto_region 7 with (first
     | (go_at_call 91;(with_reducible refine HC.out.mono ?_);rintro e w2 ⟨rfl,rfl⟩)
     | (go_at_call 15;(with_reducible refine xA.out.mono ?_);rintro e w2 ⟨rfl,rfl⟩))
    rw[HW.out,HB.out]
    go_wp2_with (go_at_call 92;(with_reducible refine xD.out.mono ?_);rintro e w3 ⟨rfl,t3⟩)
    go_ret2
    exact⟨rfl,t3⟩
   | some st=>
    rw[ht] at HA hx;simp only at hx;have xD:Hid (Calls prog 92 #[Pq bq] w1 fun e w'=>e= .returned (.int .i64 0)∧SkM w1 w' bq p (fun y=>S0 y∨y=bq) D ⟨kn,st.1,st.2,false⟩):=HA.out.mono fun e w' z=>⟨z.1,z.2⟩
    obtain⟨D1,r1,xF⟩:∃D1 r1,Qx (stl st.1) D=(D1,r1):=⟨_,_,rfl⟩;rw[xF] at hx;have xE:Hid (∀W,SkM w1 W bq p (fun y=>S0 y∨y=bq) D ⟨kn,st.1,st.2,false⟩->Calls prog 93 #[Pq bq] W fun e w'=>e= .returned (.int .i64 r1)∧SkM w1 w' bq p (fun y=>S0 y∨y=bq) D1 ⟨kn,st.1,st.2,false⟩):=fun W hW=>by
     obtain⟨T1,xI,xH,xL⟩:=hW;exact(QgW W xI hrm D1 r1 xF).mono fun e w' z=>⟨z.1,QW xH xL z.2⟩
    rw[xB] at hT;have HU:=Qc u1;have HT:=Qc hT
    by_cases h0:r1=0
    ·subst h0;rw[Lf rfl] at hx;subst hx;clear h HA hS u1 k1 xC xB ht hT
     go_enter func42,ntmps42
     go_upto_region 7 with (first
      | (go_at_call 91;(with_reducible refine HC.out.mono ?_);rintro e w2 ⟨rfl,rfl⟩)
      | (go_at_call 15;(with_reducible refine xA.out.mono ?_);rintro e w2 ⟨rfl,rfl⟩))
     rw[HW.out,HB.out]
     go_wp2_with (first
      | (go_at_call 92;(with_reducible refine xD.out.mono ?_);rintro e w3 ⟨rfl,t3⟩)
      | (go_at_call 93;(with_reducible refine(xE.out _ t3).mono ?_);rintro e w4 ⟨rfl,t4⟩))
     go_ret2
     obtain⟨T4,z1,z2,z3⟩:=t4;exact⟨bq,T4,rfl,z1,fun y hy=>(z2 y hy).elim (fun e=>(HT.out y e).imp id (fun e=>by rw[HB.out];exact e)) (fun e=> .inr (Lr HU.out.size e)),NE HB.out,Qic HU.out z3 (fun y hy=>(HT.out y hy).imp id (fun e=>by rw[HB.out];exact e))⟩
    ·rw[Le h0] at hx;subst hx;have xM:(r1 != 0)=true:=by simp[h0]
     clear h HA hS u1 k1 xC xB ht hT
     go_enter func42,ntmps42
     go_upto_region 7 with (first
      | (go_at_call 91;(with_reducible refine HC.out.mono ?_);rintro e w2 ⟨rfl,rfl⟩)
      | (go_at_call 15;(with_reducible refine xA.out.mono ?_);rintro e w2 ⟨rfl,rfl⟩))
     rw[HW.out,HB.out]
     go_wp2_with (first
      | (go_at_call 92;(with_reducible refine xD.out.mono ?_);rintro e w3 ⟨rfl,t3⟩)
      | (go_at_call 93;(with_reducible refine(xE.out _ t3).mono ?_);rintro e w4 ⟨rfl,t4⟩))
     go_ret2
     exact⟨rfl,Qh1 HU.out (fun y hy=>(HT.out y hy).imp id (fun e=>by rw[HB.out];exact e)) t4⟩
 ·rw[Lf hk] at hx;subst hx;have hc:chk k=70:=Lf (by omega)
  rw[hc] at HC;have HZ:=Qc (Qfh h (Lb _ _));clear h xA
  go_enter func42,ntmps42
  go_wp2_with (go_at_call 91;(with_reducible refine HC.out.mono ?_);rintro e w1 ⟨rfl,rfl⟩)
  go_ret2
  exact⟨rfl,HZ.out⟩
end St
namespace St
open Rc
theorem U7:nmI≠nmN:=by decide
theorem JB:nmI≠nmM:=by decide
theorem JP:nmN≠nmM:=by decide
def Oth(L:List (List UInt8×FV)):Prop := ∀s,s≠nmI->s≠nmN->s≠nmM->Qe L s=fz
variable{L:List (List UInt8×FV)}
theorem QjZ(ho:Ord L)(h:Oth L):L=QL (QL (QL [] nmI (Qe L nmI)) nmN (Qe L nmN)) nmM (Qe L nmM):=by
 have o1:=Q3 Ut nmI (Qe L nmI);have o2:=Q3 o1 nmN (Qe L nmN);refine QnJ ho (Q3 o2 nmM (Qe L nmM)) fun s=> ?_
 rw[Qs o2,Qs o1,Qs Ut]
 by_cases h1:s=nmM
 ·rw[Lf h1,h1]
 ·rw[Le h1]
  by_cases h2:s=nmN
  ·rw[Lf h2,h2]
  ·rw[Le h2]
   by_cases h3:s=nmI
   ·rw[Lf h3,h3]
   ·rw[Le h3,h s h3 h2 h1];rfl
theorem Y3(ho:Ord L)(h:Oth L):tot L=(Qe L nmI).now.length+(Qe L nmN).now.length+(Qe L nmM).now.length∧L.length<=3:=by
 have e:=QjZ ho h;have o1:=Q3 Ut nmI (Qe L nmI);have o2:=Q3 o1 nmN (Qe L nmN);have t1:=On Ut nmI (Qe L nmI);have t2:=On o1 nmN (Qe L nmN);have t3:=On o2 nmM (Qe L nmM);rw[Qs Ut,Le U7.symm] at t2;rw[Qs o1,Le JP.symm,Qs Ut,Le JB.symm] at t3;have z:(Qe ([]:List (List UInt8×FV)) nmI).now.length=0:=rfl;have z2:(Qe ([]:List (List UInt8×FV)) nmN).now.length=0:=rfl;have z3:(Qe ([]:List (List UInt8×FV)) nmM).now.length=0:=rfl;have z4:tot []=0:=rfl;have l1:=Jt (L:=[]) nmI (Qe L nmI);have l2:=Jt (L:=QL [] nmI (Qe L nmI)) nmN (Qe L nmN);have l3:=Jt (L:=QL (QL [] nmI (Qe L nmI)) nmN (Qe L nmN)) nmM (Qe L nmM);rw[<-e] at t3 l3;simp only[List.length_nil] at l1;exact⟨by omega,by omega⟩
structure Qt(R:Nat)(D:DV):Prop where
 down:D.down=false
 fk:D.fk=0
 ord:Ord D.L
 tot:D.free+tot D.L=R
theorem Qt.put{R:Nat}{D:DV}(h:Qt R D)(s:List UInt8)(f:FV)(hf:f.now.length<=D.free+(Qe D.L s).now.length):Yw D s f=(Q8 { D with acts:=D.acts+1 } s f,0)∧Qt R (Q8 { D with acts:=D.acts+1 } s f):=by
 refine⟨QbH h.fk s f,h.down,h.fk,Q3 h.ord s f,?_⟩
 have:=On h.ord s f;have:=h.tot
 show D.free+(Qe D.L s).now.length-f.now.length+Go.Proofs.YtoblgjledefdbaaGreatDoor.St.tot (QL D.L s f)=R
 omega
structure Lft(R:Nat)(D D':DV)(s:List UInt8)(f:FV)(n:Nat):Prop where
 qt:Qt R D'
 at_:Qe D'.L s=f
 oth:∀t,t≠s->Qe D'.L t=Qe D.L t
 acts:D'.acts=D.acts+n
variable{R:Nat}{D:DV}
theorem Qt.act(h:Qt R D)(s:List UInt8)(f:FV)(hf:f.now.length<=D.free+(Qe D.L s).now.length):∃D',Yw D s f=(D',0)∧Lft R D D' s f 1:=by
 obtain⟨h1,h2⟩:=h.put s f hf;refine⟨_,h1,h2,?_,fun t ht=> ?_,rfl⟩
 ·show Qe (QL D.L s f) s=f
  rw[Qs h.ord,Lf rfl]
 ·show Qe (QL D.L s f) t=_
  rw[Qs h.ord,Le ht]
theorem Qt.syn(h:Qt R D)(s:List UInt8):∃D',QP D s=(D',0)∧Lft R D D' s ⟨(Qe D.L s).now,(Qe D.L s).now⟩ 1:=by
 unfold QP;rw[Le (by rw[h.down];exact L5)]
 exact h.act s _ (by show(Qe D.L s).now.length<=_;omega)
theorem Qmo(l t:List UInt8):wr l l.length t=l++t:=by simp[wr]
theorem Qt.wr(h:Qt R D)(s t:List UInt8)(n:Nat)(hn:(Qe D.L s).now.length=n)(h1:n+t.length<=268435456)(h2:t.length<=D.free):∃D',wrD D s (n:Int) t=(D',0)∧Lft R D D' s ⟨(Qe D.L s).now++t,(Qe D.L s).syn⟩ 1:=by
 unfold wrD;rw[Le (by rw[h.down];exact L5),Le (by omega),Le (by omega)]
 have:=h.act s ⟨(Qe D.L s).now++t,(Qe D.L s).syn⟩ (by show((Qe D.L s).now++t).length<=_;rw[Lc];omega)
 rwa [LP,<-hn,Qmo]
theorem Qt.cutI(h:Qt R D)(s P:List UInt8)(hP:P <+: (Qe D.L s).now)(n:Nat)(hn:P.length=n):∃D' j,cutI s n D=(D',0)∧Lft R D D' s ⟨P,(Qe D.L s).syn⟩ j∧j<=1∧((Qe D.L s).now=P->D'=D):=by
 unfold Go.Proofs.YtoblgjledefdbaaGreatDoor.St.cutI;have hs:Jy D s=(Qe D.L s).now.length:=by unfold Jy;rw[h.down];rfl
 have hl:=hP.length_le;rw[hs]
 by_cases he:(Qe D.L s).now.length<=n
 ·rw[Lf he];have e:(Qe D.L s).now=P:=(IZ hP (by omega)).symm
  exact⟨D,0,rfl,⟨h,by rw[<-e],fun _ _=>rfl,rfl⟩,by omega,fun _=>rfl⟩
 ·rw[Le he];unfold Jq;rw[Le (by rw[h.down];exact L5),Le (by omega)]
  have ht:(Qe D.L s).now.take n=P:=by rw[<-hn];exact(List.prefix_iff_eq_take.1 hP).symm
  obtain⟨D',h1,h2⟩:=h.act s ⟨(Qe D.L s).now.take n,(Qe D.L s).syn⟩ (by show(List.take n _).length<=_;rw[Lx];omega)
  rw[LP,h1];rw[ht] at h2;exact⟨D',1,rfl,h2,La _,fun e=>absurd (by rw[e,hn];exact La _) he⟩
structure Ext(k:Nat)(A:List It)(L:List (List UInt8×FV)):Prop where
 i:Qe L nmI=⟨(bA k A).a,(bA k A).a⟩
 n:Qe L nmN=⟨(bA k A).b,(bA k A).b⟩
 m:Qe L nmM=⟨(bA k A).m,(bA k A).m⟩
 oth:Oth L
variable{A:List It}
theorem Ext.one{k:Nat}{M:List (List UInt8×FV)}(hL:Ord L)(hM:Ord M)(h:Ext k A L)(g:Ext k A M):L=M:=by
 rw[QjZ hL h.oth,QjZ hM g.oth,h.i,h.n,h.m,g.i,g.n,g.m]
theorem Qo3{k:Nat}{x:It}(h:OkA k (A++[x]))(hq:Qt R D)(he:Ext k A D.L)(hR:(bA k (A++[x])).a.length+(bA k (A++[x])).b.length+(bA k (A++[x])).m.length<=R)(hz:R<=268435456) :
  ∃D',Uy D (sA k A) x.1 x.2=(D',sA k (A++[x]),0)∧Qt R D'∧Ext k (A++[x]) D'.L∧D'.acts=D.acts+6:=by
 have l:=h.init.lens;have l2:=h.lens;have hx:=h.last;have hf:=h.few;simp only[List.length_append,List.length_cons,List.length_nil,Nat.zero_add] at hf;have ea:(bA k (A++[x])).a=(bA k A).a++pay x.1:=by rw[QT];rfl
 have eb:(bA k (A++[x])).b=(bA k A).b++Rc.Qj (QV (nn A.length) x.2):=by rw[QT,<-l.ends];rfl
 have em:(bA k (A++[x])).m=(bA k A).m++mrk ((bA k A).mk' k x):=by rw[QT];rfl
 have et:=(Y3 hq.ord he.oth).1;rw[he.i,he.n,he.m] at et;have xF:=hq.tot;have xC:(bA k (A++[x])).a.length=(bA k A).a.length+(pay x.1).length:=by rw[ea,Lc]
 have xD:(bA k (A++[x])).b.length=(bA k A).b.length+(Rc.Qj (QV (nn A.length) x.2)).length:=by rw[eb,Lc]
 have xE:(bA k (A++[x])).m.length=(bA k A).m.length+(mrk ((bA k A).mk' k x)).length:=by rw[em,Lc]
 simp only at et
 -- the six acts
 obtain⟨D1,a1,l1⟩:=hq.wr nmI (pay x.1) (bA k A).a.length (by rw[he.i]) (by omega) (by omega)
 rw[he.i] at l1;have t1:=(Y3 l1.qt.ord (fun s h1 h2 h3=>by rw[l1.oth s h1];exact he.oth s h1 h2 h3)).1
 rw[l1.at_,l1.oth _ U7.symm,l1.oth _ JB.symm,he.n,he.m] at t1;have q1:=l1.qt.tot;simp only[List.length_append] at t1;obtain⟨D2,a2,xA⟩:=l1.qt.wr nmN (Rc.Qj (QV (nn A.length) x.2)) (bA k A).b.length (by rw[l1.oth _ U7.symm,he.n]) (by omega) (by omega)
 rw[l1.oth _ U7.symm,he.n] at xA;obtain⟨D3,a3,l3⟩:=xA.qt.syn nmI;rw[xA.oth _ U7,l1.at_] at l3;obtain⟨D4,a4,l4⟩:=l3.qt.syn nmN;rw[l3.oth _ U7.symm,xA.at_] at l4;have m4:Qe D4.L nmM=⟨(bA k A).m,(bA k A).m⟩:=by rw[l4.oth _ JP.symm,l3.oth _ JB.symm,xA.oth _ JP.symm,l1.oth _ JB.symm,he.m]
 have i4:Qe D4.L nmI=⟨(bA k A).a++pay x.1,(bA k A).a++pay x.1⟩:=by rw[l4.oth _ U7,l3.at_]
 have o4:Oth D4.L:=fun s h1 h2 h3=>by rw[l4.oth s h2,l3.oth s h1,xA.oth s h2,l1.oth s h1];exact he.oth s h1 h2 h3
 have t4:=(Y3 l4.qt.ord o4).1;rw[i4,l4.at_,m4] at t4;have q4:=l4.qt.tot;simp only[List.length_append] at t4;obtain⟨D5,a5,l5⟩:=l4.qt.wr nmM (mrk ((bA k A).mk' k x)) (bA k A).m.length (by rw[m4]) (by omega) (by omega)
 rw[m4] at l5;obtain⟨D6,a6,l6⟩:=l5.qt.syn nmM;rw[l5.at_] at l6;have hA:Qx (addA (sA k A) x.1 x.2) D=(D6,0):=by
  show Qx (six (sA k A) (pay x.1) (Rc.Qj (QV (nn (bA k A).ends.length) x.2)) (mrk ((bA k A).mk' k x))) D=_
  unfold six;have e1:((lst (sA k A).ends:Nat):Int)=((bA k A).a.length:Int):=by show((lst (bA k A).ends:Nat):Int)=_;rw[l.lst]
  have e2:((nn (sA k A).ends.length*40:Nat):Int)=((bA k A).b.length:Int):=by show((nn (bA k A).ends.length*40:Nat):Int)=_;rw[l.ends,l.b,LF]
  have e3:(((sA k A).ends.length*64:Nat):Int)=((bA k A).m.length:Int):=by show(((bA k A).ends.length*64:Nat):Int)=_;rw[l.ends,l.m,LF]
  rw[e1,e2,e3,l.ends];simp only[Qx,a1,a2,a3,a4,a5,a6,if_true]
 have hr:refD (sA k A) x.1 x.2=0:=by
  have xB:nxt (sA k A) x.2=true:=(Qbz _ _).2 ⟨by show _=nn ((bA k A).ends.length+1)-nn (bA k A).ends.length;rw[l.ends];exact hx.cnt,hx.sz⟩
  unfold refD;rw[Le (show ¬(sA k A).lame=true from L5),Le (by have:=hx.len;omega),Le (by show ¬65536<=(bA k A).ends.length;rw[l.ends];omega),Le (by rw[xB];simp),Le (by show ¬_<lst (bA k A).ends+_;have:=pay_len x.1;rw[l.lst];omega)]
 refine⟨D6,?_,l6.qt,⟨?_,?_,?_,?_⟩,?_⟩
 ·unfold Uy;rw[hr,Le (show ¬((0:Int)≠0) from fun h=>h rfl),hA,Lf rfl]
  show(D6,(⟨k,(bA k A).ends++[((bA k A).mk' k x).items],((bA k A).mk' k x).chain,false⟩:SV),(0:Int))=_
  unfold sA;rw[QT];rfl
 ·rw[l6.oth _ JB,l5.oth _ JB,i4,ea]
 ·rw[l6.oth _ JP,l5.oth _ JP,l4.at_,eb]
 ·rw[l6.at_,em]
 ·intro s h1 h2 h3;rw[l6.oth s h3,l5.oth s h3];exact o4 s h1 h2 h3
 ·rw[l6.acts,l5.acts,l4.acts,l3.acts,xA.acts,l1.acts]
structure Beh(k:Nat)(A:List It)(L:List (List UInt8×FV)):Prop where
 i:(bA k A).a <+: (Qe L nmI).now
 n:(bA k A).b <+: (Qe L nmN).now
 m:∃t,(Qe L nmM).now=(bA k A).m++t∧(t.length<64∨t=zer 64)
 oth:Oth L
variable{k m n:Nat}{S:SV}
theorem Ext.beh(h:Ext k A L):Beh k A L:=⟨by rw[h.i];exact Ny,by rw[h.n];exact Ny,⟨[],by rw[h.m,LU],.inl (by decide)⟩,h.oth⟩
theorem Beh.read(h:OkA k A)(hb:Beh k A D.L):OF k (now D nmI) (now D nmN) (now D nmM)=some ((bA k A).ends,(bA k A).chain):=by
 obtain⟨t,e,ht⟩:=hb.m;have e2:now D nmM=(bA k A).m++t:=e;rw[e2];exact Qg1 h hb.i hb.n ht
theorem QnH(h:OkA k A)(hq:Qt R D)(hb:Beh k A D.L) :
  ∃D' j,YQ D (k:Int)=(D',some (sA k A),0)∧Qt R D'∧Ext k A D'.L∧D'.acts=D.acts+3+j∧j<=3∧(Ext k A D.L->D'.L=D.L∧j=0):=by
 have l:=h.lens;have hr:=hb.read h;have k1:=h.k1;have k2:=h.k2;obtain⟨D1,j1,a1,l1,n1,s1⟩:=hq.cutI nmI _ hb.i (lst (bA k A).ends) l.lst.symm;obtain⟨D2,j2,a2,l2,n2,s2⟩:=l1.qt.cutI nmN (bA k A).b (by rw[l1.oth _ U7.symm];exact hb.n) (nn (bA k A).ends.length*40) (by rw[l.b,l.ends,LF])
 obtain⟨D3,j3,a3,l3,n3,s3⟩:=l2.qt.cutI nmM (bA k A).m (by obtain⟨t,e,_⟩:=hb.m;rw[l2.oth _ JP.symm,l1.oth _ JB.symm,e];exact Nk _ _) ((bA k A).ends.length*64) (by rw[l.m,l.ends,LF])
 obtain⟨D4,a4,l4⟩:=l3.qt.syn nmI;obtain⟨D5,a5,l5⟩:=l4.qt.syn nmN;obtain⟨D6,a6,l6⟩:=l5.qt.syn nmM;have hA:Qx (stl (bA k A).ends) D=(D6,0):=by
  unfold stl;simp only[Qx,a1,a2,a3,a4,a5,a6,if_true]
 have hE:Ext k A D6.L:=by
  refine⟨?_,?_,?_,fun s h1 h2 h3=> ?_⟩
  ·rw[l6.oth _ JB,l5.oth _ U7,l4.at_,l3.oth _ JB,l2.oth _ U7,l1.at_]
  ·rw[l6.oth _ JP,l5.at_,l4.oth _ U7.symm,l3.oth _ JP,l2.at_]
  ·rw[l6.at_,l5.oth _ JP.symm,l4.oth _ JB.symm,l3.at_]
  ·rw[l6.oth s h3,l5.oth s h2,l4.oth s h1,l3.oth s h3,l2.oth s h2,l1.oth s h1];exact hb.oth s h1 h2 h3
 refine⟨D6,j1+j2+j3,?_,l6.qt,hE,?_,by omega,fun he=> ?_⟩
 ·unfold YQ;rw[Le (fun q=>q ⟨by omega,by omega⟩),Le (by rw[hq.down];exact L5),LP,hr]
  simp only;rw[hA,Lf rfl];rfl
 ·rw[l6.acts,l5.acts,l4.acts,l3.acts,l2.acts,l1.acts];omega
 ·refine⟨Ext.one l6.qt.ord hq.ord hE he,?_⟩
  have e1:=s1 (by rw[he.i])
  subst e1;have e2:=s2 (by rw[he.n])
  subst e2;have e3:=s3 (by rw[he.m])
  subst e3;have b1:=l1.acts;have b2:=l2.acts;have b3:=l3.acts;omega
theorem QmY(h:OkA k A)(i:Nat)(x:It)(hx:A[i]? = some x):(bA k A).ends.getD i 0=(bA k (A.take i)).a.length+(x.1.length+8)∧UX (bA k A).ends i=(bA k (A.take i)).a.length∧pay x.1 <+: (bA k A).a.drop (bA k (A.take i)).a.length:=by
 revert h hx
 refine UN (P:=fun A=>OkA k A->A[i]? = some x->(bA k A).ends.getD i 0=(bA k (A.take i)).a.length+(x.1.length+8)∧UX (bA k A).ends i=(bA k (A.take i)).a.length∧pay x.1 <+: (bA k A).a.drop (bA k (A.take i)).a.length) (fun _ h=>by simp at h) (fun A y ih h hx=> ?_) A
 have l:=h.init.lens
 by_cases hi:i<A.length
 ·rw[Ly hi] at hx;obtain⟨h1,h2,h3⟩:=ih h.init hx;have et:(A++[y]).take i=A.take i:=by rw[Lu (by omega)]
  rw[et,QT]
  show((bA k A).ends++[((bA k A).mk' k y).items]).getD i 0=_∧UX ((bA k A).ends++[((bA k A).mk' k y).items]) i=_∧pay x.1 <+: ((bA k A).a++pay y.1).drop _
  refine⟨?_,?_,?_⟩
  ·rw[<-h1,Ld,Ld,Ly (by rw[l.ends];exact hi)]
  ·rw[<-h2];unfold UX
   split
   ·rfl
   ·rw[Ld,Ld,Ly (by rw[l.ends];omega)]
  ·obtain⟨t,ht⟩:=h3;refine⟨t++pay y.1,?_⟩
   rw[LR ((Qbp k A i).1.length_le),<-ht,Lw]
 ·have hl:=(List.getElem?_eq_some_iff.1 hx).1
  obtain rfl:i=A.length:=by simp at hl;omega
  simp only[List.getElem?_concat_length,Option.some.injEq] at hx
  subst hx;have et:(A++[y]).take A.length=A:=I1;rw[et,QT]
  show((bA k A).ends++[((bA k A).mk' k y).items]).getD A.length 0=_∧UX ((bA k A).ends++[((bA k A).mk' k y).items]) A.length=_∧pay y.1 <+: ((bA k A).a++pay y.1).drop _
  refine⟨?_,?_,?_⟩
  ·rw[Ld,<-l.ends,Io]
   show lst (bA k A).ends+(pay y.1).length=_
   rw[l.lst,pay_len]
  ·rw[<-l.lst,<-QbY,l.ends];unfold UX
   split
   ·rfl
   ·rw[Ld,Ld,Ly (by rw[l.ends];omega)]
  ·rw[IJ];exact Ny
theorem Qna(h:OkA k A)(hS:S.ends=(bA k A).ends)(hd:D.down=false)(hb:(bA k A).a <+: (Qe D.L nmI).now)(i:Nat)(x:It)(hx:A[i]? = some x):JK D S i=(x.1,0):=by
 obtain⟨e1,e2,e3⟩:=QmY h i x hx;have l:=h.lens;have hi:=(List.getElem?_eq_some_iff.1 hx).1
 have xA:=(h.it i x hx).len;have ht:=(Qbp k A i).1.length_le;obtain⟨t3,e3⟩:=e3;obtain⟨tb,hb⟩:=hb;have xB:(now D nmI).length=(bA k A).a.length+tb.length:=by show(Qe D.L nmI).now.length=_;rw[<-hb,Lc]
 have xC:(bA k A).a.length=(bA k (A.take i)).a.length+((x.1.length+8)+t3.length):=by
  have:=Lv List.length e3;rw[Lc,pay_len,Ni] at this;omega
 have hR:itmR D S i=(pay x.1,0):=by
  unfold itmR;rw[hS,e1,e2];rw[show(((bA k (A.take i)).a.length+(x.1.length+8):Nat):Int)-((bA k (A.take i)).a.length:Int)=((x.1.length+8:Nat):Int) by omega,Qau hd,Lf (by rw[xB];omega)]
  congr 1
  show((Qe D.L nmI).now.drop _).take _=_
  rw[<-hb,LR (by omega),<-e3,Lw]
  rw[Lu (by rw[pay_len];exact La _),Lp (by rw[pay_len];exact La _)]
 unfold JK;rw[hR,Le (by rw[hS,l.ends];omega),Le (fun h=>h rfl),Lf (Qid _ xA)]
 have:=QfJ x.1 [] xA;rw[LU] at this;rw[this];rfl
theorem Qk6(h:m<=n)(hn:n<=65536):nn m<=nn n:=by
 induction n with
 | zero=> obtain rfl:m=0:=by omega
          exact La _
 | succ n ih=>
  by_cases e:m=n+1
  ·rw[e];exact La _
  ·exact Lr (ih (by omega) (by omega)) (Us n (by omega)).1
theorem Qn4(h:OkA k A)(i j:Nat)(x:It)(d:BA)(hx:A[i]? = some x)(hd:x.2[j]? = some d):((bA k A).b.drop (40*(nn i+j))).take 40=nod (nn i+j) d.data.toList∧nn i+j<nn A.length:=by
 have hi:=(List.getElem?_eq_some_iff.1 hx).1
 have hj:=(List.getElem?_eq_some_iff.1 hd).1
 have xA:=h.it i x hx;have hf:=h.few;have e:=Qdu A i hi;have ht:=h.take (i+1);have xB:A[i]=x:=NR ((Lk hi).symm.trans hx);rw[xB] at e;rw[e] at ht;have l:=ht.init.lens;have hl:(A.take i).length=i:=by rw[Lx];omega
 obtain⟨t,hp⟩:=(Qbp k A (i+1)).2.1;rw[e,QT] at hp;have hm:=Us i (by omega)
 have xC:=Qk6 (show i+1<=A.length by omega) hf
 have hc:=xA.cnt;refine⟨?_,by omega⟩
 rw[<-hp]
 show((((bA k (A.take i)).b++Rc.Qj (QV (nn (bA k (A.take i)).ends.length) x.2))++t).drop _).take 40=_
 rw[Lw,show 40*(nn i+j)=(bA k (A.take i)).b.length+40*j by rw[l.b,hl];omega,<-I0,IJ,l.ends,hl]
 exact Qe1 (nn i) x.2 t (fun y hy=>by rw[xA.sz y hy];exact h.k2) j d hd
theorem Qnz(h:OkA k A)(hS:S.ends=(bA k A).ends)(hk:S.k=k)(hd:D.down=false)(hb:(bA k A).b <+: (Qe D.L nmN).now)(i j:Nat)(x:It)(d:BA)(hx:A[i]? = some x)(hj:x.2[j]? = some d):OQ D S (nn i+j)=(d.data.toList,0):=by
 obtain⟨e1,e2⟩:=Qn4 h i j x d hx hj;have l:=h.lens;obtain⟨t,hb⟩:=hb;have xB:(now D nmN).length=40*nn A.length+t.length:=by show(Qe D.L nmN).now.length=_;rw[<-hb,Lc,l.b]
 have xA:d.size=k:=(h.it i x hx).sz d (N8 hj);have hR:nodR D (nn i+j)=(nod (nn i+j) d.data.toList,0):=by
  unfold nodR;rw[show(40:Int)=((40:Nat):Int) from rfl,Qau hd,Lf (by rw[xB];omega)]
  congr 1
  show((Qe D.L nmN).now.drop _).take _=_
  rw[<-hb,LF,<-e1,LR (by rw[l.b];omega),Lu (by rw[Ni,l.b];omega)]
 unfold OQ;rw[hR,Le (by rw[hS,l.ends];omega),Le (fun h=>h rfl),hk]
 have:=QfH (nn i+j) d.data.toList (by rw[Qb,xA];exact h.k2)
 rw[Qb,xA] at this;rw[this]
end St
theorem QoS(n:Nat)(h:n<=65536):St.nn (n+1)=St.nn n+(Pl.trl 40 n+1):=by
 obtain⟨h1,h2⟩:=Qf0 40 n (by omega)
 unfold St.nn;rw[St.Pl.new_N _ n h1 h2 (by omega)]
 omega
def itL(c:Nat)(L:LB):List St.It:=(List.range L.length).map fun i=>((L.getD i ByteArray.empty).data.toList,mdL c (L.take i) (L.getD i ByteArray.empty))
theorem Oa(c:Nat)(L:LB):(itL c L).length=L.length:=by simp[itL]
theorem UA(c:Nat)(L:LB)(x:BA):itL c (L++[x])=itL c L++[(x.data.toList,mdL c L x)]:=by
 simp only[itL,List.length_append,List.length_cons,List.length_nil,Nat.zero_add,List.range_succ,List.map_append,List.map_cons,List.map_nil]
 congr 1
 ·refine NG fun i hi=> ?_
  have hi:=List.mem_range.1 hi;rw[Ld,Ld,Ly hi,Lu (by omega)]
 ·rw[I1,Ld,Io];rfl
theorem Qgu(c:Nat)(L:LB)(i:Nat)(x:BA)(h:L[i]? = some x):(itL c L)[i]? = some (x.data.toList,mdL c (L.take i) x):=by
 have hi:=(List.getElem?_eq_some_iff.1 h).1
 have:L.getD i ByteArray.empty=x:=by rw[Ld,h];rfl
 rw[itL,No,Iy hi,N7,this]
theorem QaT{k:Nat}(h1:1<=k)(h2:k<=32){L:LB}(hf:L.length<=65536)(hs:∀s∈L,s.size<=1048576):St.OkA k (itL k L):=by
 refine⟨h1,h2,by rw[Oa];exact hf,fun i x hx=> ?_⟩
 have hi:=(List.getElem?_eq_some_iff.1 hx).1
 rw[Oa] at hi;have hy:L[i]? = some L[i]:=Lk hi;rw[Qgu k L i _ hy] at hx
 cases hx;have hl:(L.take i).length=i:=by rw[Lx];omega
 refine⟨hs _ (L8 hi),?_,QgD h2 _ _⟩
 show(mdL k (L.take i) L[i]).length=_
 rw[Qak,hl,QoS i (by omega)];omega
abbrev Tryz.muLink:Go.Conc.Locks.MuLink := { lock:=98,unlock:=99,ilock:=164,iunlock:=165,lockSlow:=258,unlockSlow:=261,disable:=254,enable:=256,acquire:=257,relMerge:=259,cas32:=255,add32:=260,tMutex:=114,tIMutex:=112,tPMutex:=237,tPIMutex:=316,tPI32:=318,tUP:=320,tNoCopy:=109,tU32:=110 }
theorem Tryz.muLib:Go.Conc.Locks.MuLib prog Tryz.muLink :=
  ⟨func98,func99,func164,func165,func254,func256,func257,func259,func255,func260,
   underlying112,Tryz.runUnderlying112,Tryz.sizeOf112,Tryz.isAgg112,Tryz.zeroValue112,underlying114,Tryz.runUnderlying114,Tryz.sizeOf114,Tryz.isAgg114,Tryz.zeroValue114,underlying237,Tryz.runUnderlying237,Tryz.sizeOf237,Tryz.isAgg237,Tryz.zeroValue237,underlying316,Tryz.runUnderlying316,Tryz.sizeOf316,Tryz.isAgg316,Tryz.zeroValue316,underlying318,Tryz.runUnderlying318,Tryz.sizeOf318,Tryz.isAgg318,Tryz.zeroValue318,underlying320,Tryz.runUnderlying320,Tryz.sizeOf320,Tryz.isAgg320,Tryz.zeroValue320,underlying109,Tryz.runUnderlying109,Tryz.sizeOf109,Tryz.isAgg109,Tryz.zeroValue109,underlying21,Tryz.runUnderlying21,Tryz.sizeOf21,Tryz.isAgg21,Tryz.zeroValue21,(by kernel_rfl)⟩
section
open Go.MuLone
def Inn(a:Nat)(R:Value->Value->World->Prop)(e:Ending)(w':World):Prop := ∃x y,e= .returned (.tuple #[x,y])∧w'.cell? ⟨a,0,none⟩=some (.int .i32 1)∧w'.frozen? ⟨a,0,none⟩=false∧R x y w'
def Out(a:Nat)(R:Value->Value->World->Prop)(e:Ending)(w':World):Prop := ∃x y w1,e= .returned (.tuple #[x,y])∧R x y w1∧w'=w1.setCell ⟨a,0,none⟩ (.int .i32 0)
def rwL(g:Int)(x1:Value)(st:OA)(x3 x4 x5:Value):Obj := .cells #[.int .i32 g,x1,.pointer st,x3,x4,x5] 116 (0,0)
theorem Ym{w:World}{a:Nat}{g:Int}{x1:Value}{st:OA}{x3 x4 x5:Value}(h:w.heap[a]? = some (rwL g x1 st x3 x4 x5)):w.cell? ⟨a,0,none⟩=some (.int .i32 g)∧w.cell? ⟨a,2,none⟩=some (.pointer st)∧w.cell? ⟨a,3,none⟩=some x3∧w.cell? ⟨a,4,none⟩=some x4∧w.cell? ⟨a,5,none⟩=some x5 ∧ ∀j,w.frozen? ⟨a,j,none⟩=false :=
 ⟨by rw[cell_of_row w a 0 _ _ (0,0) h];rfl,by rw[cell_of_row w a 2 _ _ (0,0) h];rfl,by rw[cell_of_row w a 3 _ _ (0,0) h];rfl,by rw[cell_of_row w a 4 _ _ (0,0) h];rfl,by rw[cell_of_row w a 5 _ _ (0,0) h];rfl,fun j=>frozen_of_row w a j _ _ h⟩
structure Lkd(a:Nat)(w W:World):Prop where
 os:W.os=w.os
 tape:W.tape=w.tape
 output:W.output=w.output
 size:w.heap.size<=W.heap.size
 oth:∀b,b<w.heap.size->b≠a->W.heap[b]? = w.heap[b]?
 self:∀x1 st x3 x4 x5,w.heap[a]? = some (rwL 0 x1 st x3 x4 x5)->W.heap[a]? = some (rwL 1 x1 st x3 x4 x5)
variable{x1 x3 x4 x5:Value}
theorem QgB{a:Nat}{w W:World}(h:Bl w W)(ha:a<w.heap.size):Lkd a w (W.setCell ⟨a,0,none⟩ (.int .i32 1)):=by
 refine⟨h.os,h.tape,h.output,by simpa using h.size,fun b hb hne=> ?_,fun x1 st x3 x4 x5 hr=> ?_⟩
 ·rw[<-h.block b hb];exact Below.heap_setCell _ _ _ _ hne
 ·exact Lm W a 0 _ _ (.int .i32 1) ((h.block a ha).trans hr)
theorem QdZ{a:Nat}{w W w1:World}{st:OA}(hr:w.heap[a]? = some (rwL 0 x1 st x3 x4 x5))(hL:Lkd a w W)(hb:Below w.heap.size W w1):Bl w (w1.setCell ⟨a,0,none⟩ (.int .i32 0)):=by
 refine⟨hb.os.trans hL.os,hb.tape.trans hL.tape,hb.output.trans hL.output,by simpa using Lr hL.size hb.size,fun b hlt=> ?_⟩
 by_cases e:b=a
 ·subst e;rw[hr];exact Lm w1 b 0 _ _ (.int .i32 0) ((hb.block b hlt).trans (hL.self _ _ _ _ _ hr))
 ·rw[<-hL.oth b hlt e,<-hb.block b hlt];exact Below.heap_setCell _ _ _ _ e
theorem Qg5(w:World)(a st k:Nat)(caps:Array Value)(hk:k=48∨k=61)(h0:w.cell? ⟨a,0,none⟩=some (.int .i32 0))(hf:w.frozen? ⟨a,0,none⟩=false)(h2:w.cell? ⟨a,2,none⟩=some (Pq st))(R:Value->Value->World->Prop)
  (HC:Calls prog k caps (w.setCell ⟨a,0,none⟩ (.int .i32 1)) (Inn a R)) :
  Calls prog 47 #[Pq a,.func (.func k) #[] caps] w (Out a R):=by
 have c2:(w.setCell ⟨a,0,none⟩ (.int .i32 1)).cell? ⟨a,2,none⟩=some (Pq st):=by
  rw[Lt _ ⟨a,0,none⟩ ⟨a,2,none⟩ _ (by simp)];exact h2
 generalize hW:w.setCell ⟨a,0,none⟩ (.int .i32 1)=W at *
 rcases hk with rfl|rfl
 all_goals
  go_enter_defers func47,ntmps47
  go_wp2_with (go_at_call 98;refine(lock_free Tryz.muLib ⟨a,0,none⟩ _ h0 hf).mono ?_;rintro e w' ⟨rfl,hw⟩;rw[hW] at hw;subst hw)
  refine HC.mono ?_
  rintro e w' ⟨x,y,rfl,g0,g1,g2⟩;go_wp2;refine leaves_cons (f:=99) (args:=#[Pq a]) (by simp) (by simp[go_sem]) ?_
  refine(unlock_deferred Tryz.muLib ⟨a,0,none⟩ .returning _ g0 g1).mono ?_
  rintro e u' xA ⟨rfl,rfl,rfl⟩;exact⟨_,results_tmp2 rfl _ _ _,x,y,w',rfl,g2,rfl⟩
theorem Qg8(w:World)(a:Nat)(sa:Addr)(k:Nat)(caps:Array Value)(hk:k=73)(hr:w.heap[a]? = some (rwL 0 x1 (some sa) x3 x4 x5))(x y:Value)
  (HC:∀W,Lkd a w W->Calls prog k caps W fun e w'=>e= .returned (.tuple #[x,y])∧Bl W w') :
  Zr 72 #[Pq a,.func (.func k) #[] caps] w (.tuple #[x,y]):=by
 have hL:=QgB (Lb w.heap.size w) (Array.getElem?_eq_some_iff.1 hr).1
 have ha:=(Array.getElem?_eq_some_iff.1 hr).1
 obtain⟨h0,_,_,_,_,hf⟩:=Ym hr;obtain⟨c0,c2,_,_,_,cf⟩:=Ym (hL.self _ _ _ _ _ hr);generalize hW:w.setCell ⟨a,0,none⟩ (.int .i32 1)=W at *;have HC:=HC W hL;subst hk
 all_goals
  go_enter_defers func72,ntmps72
  go_wp2_with (go_at_call 98;refine(lock_free Tryz.muLib ⟨a,0,none⟩ _ h0 (hf 0)).mono ?_;rintro e w' ⟨rfl,hw⟩;rw[hW] at hw;subst hw)
  refine HC.mono ?_
  rintro e w1 ⟨rfl,hb⟩;have xA:=(hb.block a (Lz ha hL.size)).trans (hL.self _ _ _ _ _ hr);obtain⟨g0,_,_,_,_,gf⟩:=Ym xA;have hE:=QdZ hr hL (hb.mono hL.size);go_wp2;refine leaves_cons (f:=99) (args:=#[Pq a]) (by simp) (by simp[go_sem]) ?_
  refine(unlock_deferred Tryz.muLib ⟨a,0,none⟩ .returning _ g0 (gf 0)).mono ?_
  rintro e u' xB ⟨rfl,rfl,rfl⟩;exact⟨_,results_tmp2 rfl _ _ _,rfl,hE⟩
theorem Qg7(w:World)(a:Nat)(sa:Addr)(k:Nat)(caps:Array Value)(hk:k=83∨k=86∨k=81∨k=76)(hr:w.heap[a]? = some (rwL 0 x1 (some sa) x3 x4 x5))(x y:Value)
  (HC:∀W,Lkd a w W->Calls prog k caps W fun e w'=>e= .returned (.tuple #[x,y])∧Bl W w') :
  Zr 75 #[Pq a,.func (.func k) #[] caps] w (.tuple #[x,y]):=by
 have hL:=QgB (Lb w.heap.size w) (Array.getElem?_eq_some_iff.1 hr).1
 have ha:=(Array.getElem?_eq_some_iff.1 hr).1
 obtain⟨h0,_,_,_,_,hf⟩:=Ym hr;obtain⟨c0,c2,_,_,_,cf⟩:=Ym (hL.self _ _ _ _ _ hr);generalize hW:w.setCell ⟨a,0,none⟩ (.int .i32 1)=W at *;have HC:=HC W hL
 rcases hk with rfl|rfl|rfl|rfl
 all_goals
  go_enter_defers func75,ntmps75
  go_wp2_with (go_at_call 98;refine(lock_free Tryz.muLib ⟨a,0,none⟩ _ h0 (hf 0)).mono ?_;rintro e w' ⟨rfl,hw⟩;rw[hW] at hw;subst hw)
  refine HC.mono ?_
  rintro e w1 ⟨rfl,hb⟩;have xA:=(hb.block a (Lz ha hL.size)).trans (hL.self _ _ _ _ _ hr);obtain⟨g0,_,_,_,_,gf⟩:=Ym xA;have hE:=QdZ hr hL (hb.mono hL.size);go_wp2;refine leaves_cons (f:=99) (args:=#[Pq a]) (by simp) (by simp[go_sem]) ?_
  refine(unlock_deferred Tryz.muLib ⟨a,0,none⟩ .returning _ g0 (gf 0)).mono ?_
  rintro e u' xB ⟨rfl,rfl,rfl⟩;exact⟨_,results_tmp2 rfl _ _ _,rfl,hE⟩
theorem Qg6(w:World)(a:Nat)(sa:Addr)(caps:Array Value)(hr:w.heap[a]? = some (rwL 0 x1 (some sa) x3 x4 x5))(n:Int)(r:BA)(y:Value)
  (HC:∀W,Lkd a w W->Calls prog 56 caps W fun e w'=>e= .returned (.tuple #[.agg #[.int .u64 n,.string r],y])∧Bl W w') :
  Zr 55 #[Pq a,.func (.func 56) #[] caps] w (.tuple #[.agg #[.int .u64 n,.string r],y]):=by
 have ha:=(Array.getElem?_eq_some_iff.1 hr).1
 have xA:Bl w ((w.alloc (.cells #[.int .u64 0,.string ⟨#[]⟩] 50)).alloc (.cells #[.int .u64 0,.string ⟨#[]⟩] 50)):=(Lb _ _).alloc (La _) _ |>.alloc (by simp) _
 have k4:((w.alloc (.cells #[.int .u64 0,.string ⟨#[]⟩] 50)).alloc (.cells #[.int .u64 0,.string ⟨#[]⟩] 50)).heap[w.heap.size]? = some (.cells #[.int .u64 0,.string ⟨#[]⟩] 50 (0,0)):=by
  rw[(MapKept.heap_alloc _ _).2 _ (by simp)];exact(MapKept.heap_alloc w _).1
 generalize hW0:(w.alloc (.cells #[.int .u64 0,.string ⟨#[]⟩] 50)).alloc (.cells #[.int .u64 0,.string ⟨#[]⟩] 50)=W0 at *;have hL:=QgB xA ha;have xB:=(xA.block a ha).trans hr;obtain⟨h0,_,_,_,_,hf⟩:=Ym xB;obtain⟨c0,c2,_,_,_,cf⟩:=Ym (hL.self _ _ _ _ _ hr);have k5:(W0.setCell ⟨a,0,none⟩ (.int .i32 1)).heap[w.heap.size]? = some (.cells #[.int .u64 0,.string ⟨#[]⟩] 50 (0,0)):=(Below.heap_setCell _ _ _ _ (by show w.heap.size≠a;omega)).trans k4
 have hz:w.heap.size<(W0.setCell ⟨a,0,none⟩ (.int .i32 1)).heap.size:=(Array.getElem?_eq_some_iff.1 k5).1
 generalize hW:W0.setCell ⟨a,0,none⟩ (.int .i32 1)=W at *;have HC:=HC W hL
 go_enter_defers func55,ntmps55
 go_wp2_with (go_at_call 98;refine(lock_free Tryz.muLib ⟨a,0,none⟩ _ h0 (hf 0)).mono ?_;rintro e w' ⟨rfl,hw⟩;rw[hW] at hw;subst hw)
 refine HC.mono ?_
 rintro e w1 ⟨rfl,hb⟩;have k6:=(hb.block _ hz).trans k5;have k7:w1.cell? ⟨w.heap.size,0,none⟩=some (.int .u64 0):=by rw[cell_of_row w1 _ 0 _ _ (0,0) k6];rfl
 have k8:w1.cell? ⟨w.heap.size,1,none⟩=some (.string ⟨#[]⟩):=by rw[cell_of_row w1 _ 1 _ _ (0,0) k6];rfl
 have k9:∀j,w1.frozen? ⟨w.heap.size,j,none⟩=false:=fun j=>frozen_of_row w1 _ j _ _ k6
 have xD:=k9 0;have xE:=k9 1;have xC:((w1.setCell ⟨w.heap.size,0,none⟩ (.int .u64 n)).setCell ⟨w.heap.size,1,none⟩ (.string r)).heap[a]? = _:=(Below.heap_setCell _ _ _ _ (by show a≠w.heap.size;omega)).trans ((Below.heap_setCell _ _ _ _ (by show a≠w.heap.size;omega)).trans ((hb.block a (Lz ha hL.size)).trans (hL.self _ _ _ _ _ hr)))
 obtain⟨g0,_,_,_,_,gf⟩:=Ym xC;have hE:=QdZ hr hL (((hb.mono hL.size).setCell (p:=⟨w.heap.size,0,none⟩) (La _) (.int .u64 n)).setCell (p:=⟨w.heap.size,1,none⟩) (La _) (.string r));go_wp2;refine leaves_cons (f:=99) (args:=#[Pq a]) (by simp) (by simp[go_sem]) ?_
 refine(unlock_deferred Tryz.muLib ⟨a,0,none⟩ .returning _ g0 (gf 0)).mono ?_
 rintro e u' xF ⟨rfl,rfl,rfl⟩;refine⟨_,?_,rfl,hE⟩
 have q6:=Lm _ w.heap.size 1 _ _ (.string r) (Lm w1 w.heap.size 0 _ _ (.int .u64 n) k6);have q7:(((w1.setCell ⟨w.heap.size,0,none⟩ (.int .u64 n)).setCell ⟨w.heap.size,1,none⟩ (.string r)).setCell ⟨a,0,none⟩ (.int .i32 0)).heap[w.heap.size]? = _:=(Below.heap_setCell _ _ _ _ (by show w.heap.size≠a;omega)).trans q6
 have q8:=cell_of_row _ w.heap.size 0 _ _ (0,0) q7;have q9:=cell_of_row _ w.heap.size 1 _ _ (0,0) q7;simp at q8 q9;generalize ((w1.setCell ⟨w.heap.size,0,none⟩ (.int .u64 n)).setCell ⟨w.heap.size,1,none⟩ (.string r)).setCell ⟨a,0,none⟩ (.int .i32 0)=W9 at *;simp[results,results55,go_sem,q8,q9]
end
def sm(x:BA):BA:=dg 32 (Up x)
def smL(L:LB):LB:=L.map sm
theorem Qog(x:BA):(sm x).size=32:=Jr (La _) _
theorem Qjr(w:World)(ht:Tb w)(x:BA)(hx:x.size<=1048576)(s:BA)(hs:sm x=s) :
  Zr 85 #[.string x] w (.string s):=by
 have xA:Hid (Zr 145 #[.int .i64 32,.string x] w (.string s)):=Qfa w ht 32 x (by omega) s hs
 clear ht hx hs
 go_enter func85,ntmps85
 go_wp2_with (go_at_call 145;(with_reducible refine xA.out.mono ?_);rintro e w1 ⟨rfl,hb⟩)
 go_ret
 exact⟨rfl,hb⟩
def NxQ(w:World)(k:Nat)(L:LB)(x:BA)(e:Ending)(w':World):Prop :=
 ∃vm r' vr',e= .returned (.agg #[.string x,.string (sm x),vm,Pq r'])∧Qh w' w.heap.size vm (mdL k L x)∧Kp.Rg w' r' vr' (k:Int) (L.length+1) (pkL k (L++[x]))∧w.heap.size<=r'∧(∀g,vr'.ownBlock=some g->w.heap.size<=g)∧Bl w w'
variable{B b i n p r:Nat}{P l:LB}{w:World}{v x x0 x1 x2 x3:Value}
theorem Qpk(k:Nat)(hk:k<=32)(t:BA):(dg 32 t).extract 0 k=dg k t:=by
 unfold dg;rw[ByteArray.extract_extract,Ll,Ll,IT hk]
theorem Qp2(k:Nat)(hk:k<=32)(L:LB)(x:BA):(sm x).extract 0 k=nd k (L++[x]) 0 L.length:=by
 unfold sm;rw[Qpk k hk,nd,Ld,Io];rfl
theorem Qqq{k:Nat}(h:Kp.Rg w r v (k:Int) n P)(hk:clk (k:Int)=k):Kp.fe (k:Int) n P=0:=by
 have h1:=h.k1;have h2:=h.k2;have hn:=h.hn;unfold Kp.fe;rw[Le (by omega),Le (by omega),Le]
 rw[h.hl,Qe6 hn];refine fun q=>q.elim (fun q=>q rfl) (fun q=>q fun s hs=> ?_)
 have:=h.hs s hs;omega
theorem Qep{k:Int}(h:Kp.Rg w r v k n P)(h1:r≠p)(h2:∀g,v.ownBlock=some g->g≠p):Kp.Rg (w.setCell ⟨p,i,none⟩ x) r v k n P :=
 ⟨(Below.heap_setCell _ _ _ _ h1).trans h.blk,St.Qy h.own (fun g hg=>Below.heap_setCell _ _ _ _ (h2 g hg)),h.k1,h.k2,h.hn,h.hl,h.hs⟩
theorem Qky{T:TypeId}(h:w.heap[b]? = some (.cells #[x0,x1,x2,x3] T (0,0)))(y0 y1 y2 y3:Value):((((w.setCell ⟨b,0,none⟩ y0).setCell ⟨b,1,none⟩ y1).setCell ⟨b,2,none⟩ y2).setCell ⟨b,3,none⟩ y3).heap[b]? = some (.cells #[y0,y1,y2,y3] T (0,0)) :=
 Lm _ b 3 _ _ y3 (Lm _ b 2 _ _ y2 (Lm _ b 1 _ _ y1 (Lm w b 0 _ _ y0 h)))
theorem YE(h:Qh w B v l):∃ao n cap,v= .slice ao n cap:=by
 obtain⟨_,h2⟩:=h
 rcases h2 with ⟨rfl,_⟩|⟨g,cap,cur,rfl,_⟩
 ·exact⟨_,_,_,rfl⟩
 ·exact⟨_,_,_,rfl⟩
theorem JQ(w:World)(ht:Tb w)(a m r:Nat)(vr:Value)(k:Nat)(L:LB)(hF:Frs w m (k:Int) L)(hR:Kp.Rg w r vr (k:Int) L.length (pkL k L))(hc:clk (k:Int)=k)
  (c3:w.cell? ⟨a,3,none⟩=some (.pointer (some ⟨m+1,0,none⟩))) (c4:w.cell? ⟨a,4,none⟩=some (Pq r)) (x:BA) (hx:x.size<=1048576) (hL:L.length<65536) :
  Calls prog 95 #[Pq a,.string x] w (NxQ w k L x):=by
 have k1:(1:Int)<=(k:Int):=hF.k1;have k2:(k:Int)<=32:=hF.k2;have xA:=Lo _ _ c3;obtain⟨s,hs⟩:=Ze (sm x);have xI:s.size=32:=by rw[<-hs];exact Qog x
 obtain⟨P,hP⟩:=Ze (pkL k L);rw[hP] at hR;obtain⟨w1,xC⟩:=Ze (w.alloc (.cells #[.string ⟨#[]⟩,.string ⟨#[]⟩,.slice none 0 0,.pointer none] 175));have u1:Bl w w1:=by rw[<-xC];exact bal (Lb _ _) _
 have k4:w1.heap[w.heap.size]? = some (.cells #[.string ⟨#[]⟩,.string ⟨#[]⟩,.slice none 0 0,.pointer none] 175 (0,0)):=by rw[<-xC];exact LC w _
 have ht:=ht.next u1;have hF:=hF.next u1 (La _);have hR:=hR.next u1 (La _);have c3:=(u1.cell (p:=⟨a,3,none⟩) xA).trans c3;have c4:=(u1.cell (p:=⟨a,4,none⟩) xA).trans c4;have xA:a<w1.heap.size:=Lz xA u1.size;have xB:w.heap.size<w1.heap.size:=(Array.getElem?_eq_some_iff.1 k4).1
 have HF:Hid (∀W,Bl w1 W->W.cell? ⟨a,3,none⟩=some (.pointer (some ⟨m+1,0,none⟩))∧W.cell? ⟨a,4,none⟩=some (Pq r)):=fun W hW=>⟨(hW.cell (p:=⟨a,3,none⟩) xA).trans c3,(hW.cell (p:=⟨a,4,none⟩) xA).trans c4⟩
 have HS:Hid (∀W,Bl w1 W->Calls prog 85 #[.string x] W fun e w'=>e= .returned (.string s)∧Bl w1 w'):=fun W hW=>(Qjr W (ht.next hW) x hx s hs).mono fun e w' z=>⟨z.1,Qa hW z.2⟩
 have HK:Hid (∀W,Bl w1 W->Rf 134 #[.pointer (some ⟨m+1,0,none⟩)] W (.int .i64 k)):=fun W hW=>(OB W m k L (hF.next hW (La _))).mono fun e w' z=>⟨z.1,z.2.symm⟩
 have HZ:Hid (∀W,Bl w1 W->Calls prog 159 #[Pq r] W fun e w'=>e= .returned (.int .u64 L.length)∧Bl w1 w'∧Bl W w'):=fun W hW=>(Kp.Qcz W r vr k L.length P (hR.next hW (La _))).mono fun e w' z=>⟨z.1,Qa hW z.2,z.2⟩
 have HP:Hid (∀W,Bl w1 W->Calls prog 160 #[Pq r] W fun e w'=> ∃u,e= .returned u∧Qh w' w1.heap.size u P∧Bl w1 w'):=fun W hW=>(Kp.QgU W r vr k L.length P (hR.next hW (La _))).mono fun e w' z=>by
  obtain⟨u,z1,z2,z3⟩:=z;exact⟨u,z1,QO z2 hW.size,Qa hW z3⟩
 have HM:Hid (∀W u,Bl w1 W->Qh W w1.heap.size u P->Calls prog 94 #[.int .i64 k,.int .u64 L.length,u] W fun e w'=> ∃p v,e= .returned (.tuple #[Pq p,.int .i64 0])∧Kp.Rg w' p v (k:Int) L.length P∧w1.heap.size<=p∧(∀g,v.ownBlock=some g->w1.heap.size<=g)∧Bl w1 w'):=fun W u hW ho=>by
  obtain⟨ao,b,xE,rfl,hr,_,xG⟩:=Ya ho (fun y hy=>by have:=hR.small y hy;omega)
  have xM:=hR.short;refine(Kp.Qe3 W k L.length (by omega) ao b 0 xE P hr xG (by omega) 0 (Qqq hR hc)).mono fun e w' z=> ?_
  obtain⟨p,v,z1,z2,z3,z4,z5⟩:=z.ok;exact⟨p,v,z1,z2,Lr hW.size z3,fun g hg=>Lr hW.size (z4 g hg),Qa hW z5⟩
 have HA:Hid (∀W p v,Bl w1 W->w1.heap.size<=p->(∀g,v.ownBlock=some g->w1.heap.size<=g)->Kp.Rg W p v (k:Int) L.length P->Calls prog 161 #[Pq p,.string (s.extract 0 k)] W fun e w'=> ∃vm vr',e= .returned (.tuple #[vm,.int .i64 0])∧Qh w' w1.heap.size vm (mdL k L x)∧Kp.Rg w' p vr' (k:Int) (L.length+1) (pkL k (L++[x]))∧(∀g,vr'.ownBlock=some g->w1.heap.size<=g)∧Bl w1 w'):=fun W p v hW hp hv hr=>by
  have hd:=Kp.Qki k1 k2 (L++[x]) 0 L.length L.length (by rw[Iw,L9]) (by decide) (by rw[Iw];omega)
  rw[hc,Qlt,hP,show L.length+2^0=L.length+1 from rfl,show((0:Nat):Int)=0 from rfl,<-Qp2 k (by omega) L x,hs] at hd
  have xF:Hid (er (k:Int) L.length 0 (s.extract 0 k)=0∧nxN (k:Int) L.length 0 (s.extract 0 k)=L.length+1∧nxP (k:Int) L.length P 0 (s.extract 0 k)=pkL k (L++[x])∧an (k:Int) L.length P 0 (s.extract 0 k)=mdL k L x):=by
   obtain⟨d1,d2,d3,d4⟩:=hd.out;refine⟨d1,d2,?_,?_⟩
   ·rw[d3];unfold pkL;rw[Lc];rfl
   ·rw[d4];unfold mdL;rw[show 40-0=40 from rfl]
    refine NG fun j _=> ?_
    rw[Ll]
  refine(Kp.OZ W (ht.next hW) p v k L.length P hr (s.extract 0 k) 0 _ _ _ xF).mono fun e w' z=> ?_
  obtain⟨vm,v',z1,z2⟩:=z;refine⟨vm,v',z1,QO z2.own hW.size,z2.rg,fun g hg=> ?_,hW.trans (z2.ch.below.mono hp)⟩
  rcases z2.new with e|e
  ·rw[e] at hg;exact hv g hg
  ·exact Lr hW.size (e g hg)
 have xK:(0:Int)<=(k:Int):=by omega
 have xL:(k:Int)<=(s.size:Int):=by omega
 have HE:Hid (∀W va vn vc r' vr',Bl w1 W->Qh W w1.heap.size (.slice va vn vc) (mdL k L x)->Kp.Rg W r' vr' (k:Int) (L.length+1) (pkL k (L++[x]))->w1.heap.size<=r'->(∀g,vr'.ownBlock=some g->w1.heap.size<=g) ->
   NxQ w k L x (.returned (.agg #[.string x,.string s,.slice va vn vc,Pq r'])) ((((W.setCell ⟨w.heap.size,0,none⟩ (.string x)).setCell ⟨w.heap.size,1,none⟩ (.string s)).setCell ⟨w.heap.size,2,none⟩ (.slice va vn vc)).setCell ⟨w.heap.size,3,none⟩ (Pq r'))):=fun W va vn vc r' vr' g1 g2 g3 g4 g5=>by
  rw[<-hs];have h1:r'≠w.heap.size:=by omega
  have h2:∀g,vr'.ownBlock=some g->g≠w.heap.size:=fun g hg=>by have:=g5 g hg;omega
  have hb:Bl w W:=u1.trans (g1.mono u1.size);exact⟨_,r',vr',rfl,QO (Kp.Uf (Kp.Uf (Kp.Uf (Kp.Uf g2 xB) xB) xB) xB) u1.size,Qep (Qep (Qep (Qep g3 h1 h2) h1 h2) h1 h2) h1 h2,Lr u1.size g4,fun g hg=>Lr u1.size (g5 g hg),
   (((hb.setCell (p:=⟨w.heap.size,0,none⟩) (La _) _).setCell (p:=⟨w.heap.size,1,none⟩) (La _) _).setCell (p:=⟨w.heap.size,2,none⟩) (La _) _).setCell (p:=⟨w.heap.size,3,none⟩) (La _) _⟩
 have xD:Hid (∀W,Bl w1 W->W.heap[w.heap.size]? = some (.cells #[.string ⟨#[]⟩,.string ⟨#[]⟩,.slice none 0 0,.pointer none] 175 (0,0))):=fun W hW=>(hW.block _ xB).trans k4
 have u:Bl w1 w1.drew:=(Lb _ _).drew;clear ht hF hR hP hx hs k4 u1 hL k1 k2 xI hc
 go_enter func95,ntmps95
 go_upto_region 1 with (fail)
 go_region_held3 (fun Z=>Z.cell? ⟨a,3,none⟩=some (.pointer (some ⟨m+1,0,none⟩))) (first|assumption|(with_reducible exact(HF.out _ u).1)) (first
  | (go_at_call 85;(with_reducible refine(HS.out _ u).mono ?_);rintro e w2 ⟨rfl,u⟩)
  | (go_at_call 134;(with_reducible refine(HK.out _ u).mono ?_);rintro e w3 ⟨rfl,rfl⟩))
 all_goals
  obtain⟨d3,d4⟩:=HF.out _ u;replace u:Bl w1 w2.drew:=u.drew
  go_upto_region 2 with (fail)
  go_region_held3 (fun Z=>Z.cell? ⟨a,4,none⟩=some (Pq r)) (first|assumption|(with_reducible exact(HF.out _ u).2)) (first
   | (go_at_call 159;(with_reducible refine(HZ.out _ u).mono ?_);rintro e w4 ⟨rfl,u,-⟩)
   | (go_at_call 160;(with_reducible refine(HP.out _ u).mono ?_);rintro e w5 ⟨vp,rfl,op,u⟩)
   | (go_at_call 94;(with_reducible refine(HM.out _ _ u op).mono ?_);rintro e w6 ⟨p,v,rfl,hr,hp,hv,u⟩))
 all_goals
  go_upto_region 4 with (go_at_call 161;(with_reducible refine(HA.out _ _ _ u hp hv hr).mono ?_);rintro e w7 ⟨vm,vr',rfl,om,xH,xJ,u⟩)
  obtain⟨va,vn,vc,rfl⟩:=YE om;have k7:=xD.out _ u;have e0:w7.cell? ⟨w.heap.size,0,none⟩=some (.string ⟨#[]⟩):=by rw[cell_of_row w7 _ 0 _ _ (0,0) k7];rfl
  have e1:w7.cell? ⟨w.heap.size,1,none⟩=some (.string ⟨#[]⟩):=by rw[cell_of_row w7 _ 1 _ _ (0,0) k7];rfl
  have e2:w7.cell? ⟨w.heap.size,2,none⟩=some (.slice none 0 0):=by rw[cell_of_row w7 _ 2 _ _ (0,0) k7];rfl
  have e3:w7.cell? ⟨w.heap.size,3,none⟩=some (.pointer none):=by rw[cell_of_row w7 _ 3 _ _ (0,0) k7];rfl
  have z0:=frozen_of_row w7 _ 0 _ _ k7;have z1:=frozen_of_row w7 _ 1 _ _ k7;have z2:=frozen_of_row w7 _ 2 _ _ k7;have z3:=frozen_of_row w7 _ 3 _ _ k7;go_wp2;have HN:=HE.out w7 va vn vc p vr' u om xH hp xJ;have q:=Qky k7 (.string x) (.string s) (.slice va vn vc) (Pq p);have q0:=cell_of_row _ w.heap.size 0 _ _ (0,0) q;have q1:=cell_of_row _ w.heap.size 1 _ _ (0,0) q;have q2:=cell_of_row _ w.heap.size 2 _ _ (0,0) q;have q3:=cell_of_row _ w.heap.size 3 _ _ (0,0) q;simp at q0 q1 q2 q3;generalize (((w7.setCell ⟨w.heap.size,0,none⟩ (.string x)).setCell ⟨w.heap.size,1,none⟩ (.string s)).setCell ⟨w.heap.size,2,none⟩ (.slice va vn vc)).setCell ⟨w.heap.size,3,none⟩ (Pq p)=W9 at *;exact LD (v := .agg #[.string x,.string s,.slice va vn vc,Pq p]) (by simp[results,results95,go_sem,q0,q1,q2,q3]) rfl HN
def Lef(a m r:Nat)(vr vs:Value)(x:Nat):Prop:=x=a∨x=m∨x=m+1∨x=r∨vr.ownBlock=some x∨vs.ownBlock=some x
structure Led(w:World)(g:Int)(a q p m r:Nat)(vr vs:Value)(T:Nat->Prop)(D:St.DV)(S:St.SV)(L:LB):Prop where
 blk:w.heap[a]? = some (rwL g (.int .u32 0) (Zp q) (.pointer (some ⟨m+1,0,none⟩)) (Pq r) vs)
 sk:St.Sk w q p T D S
 fr:Frs w m (S.k:Int) L
 rg:Kp.Rg w r vr (S.k:Int) L.length (pkL S.k L)
 own:Qh w 0 vs (smL L)
 sz:∀s∈L,s.size<=1048576
 ap:∀x,T x -> ¬Lef a m r vr vs x
 av:∀x,vr.ownBlock=some x->vs.ownBlock≠some x
section
variable {w W:World} {g:Int} {a q p m r:Nat} {vr vs:Value} {T:Nat->Prop} {D D':St.DV} {S S':St.SV} {L:LB}
variable{s x:Nat}
theorem JR(h:Qh w B v l)(hx:v.ownBlock=some x):x<w.heap.size:=(LO h x hx).2
theorem Qav{T:Nat}{xs:List Value}(h:w.ownsRow B T s v n xs)(hx:v.ownBlock=some x):∃cur,w.heap[x]? = some (.cells cur T (0,0)):=by
 obtain⟨_,h2⟩:=h
 rcases h2 with ⟨rfl,_⟩|⟨g,cap,cur,rfl,_,hh,_⟩
 ·cases hx
 ·cases hx;exact⟨cur,hh⟩
theorem Led.k1(h:Led w g a q p m r vr vs T D S L):1<=S.k∧S.k<=32:=⟨h.sk.small.1,h.sk.small.2.1⟩
theorem Led.clk(h:Led w g a q p m r vr vs T D S L):clk (S.k:Int)=S.k:=by
 have:=JF h.fr.k1 h.fr.k2;omega
theorem Led.lt(h:Led w g a q p m r vr vs T D S L)(hx:Lef a m r vr vs x):x<w.heap.size:=by
 rcases hx with rfl|rfl|rfl|rfl|e|e
 ·exact(Array.getElem?_eq_some_iff.1 h.blk).1
 ·have:=h.fr.lt;omega
 ·exact h.fr.lt
 ·exact h.rg.lt
 ·exact JR h.rg.own e
 ·exact JR h.own e
theorem Led.same(h:Led w g a q p m r vr vs T D S L)(h1:∀x,T x->W.heap[x]? = w.heap[x]?)(h2:∀x,Lef a m r vr vs x->W.heap[x]? = w.heap[x]?):Led W g a q p m r vr vs T D S L :=
 ⟨(h2 a (.inl rfl)).trans h.blk,h.sk.same h1,h.fr.same (h2 m (.inr (.inl rfl))) (h2 _ (.inr (.inr (.inl rfl)))),
  ⟨(h2 r (.inr (.inr (.inr (.inl rfl))))).trans h.rg.blk,St.Qy h.rg.own fun x hx=>h2 x (.inr (.inr (.inr (.inr (.inl hx))))),h.rg.k1,h.rg.k2,h.rg.hn,h.rg.hl,h.rg.hs⟩,
  St.Qy h.own fun x hx=>h2 x (.inr (.inr (.inr (.inr (.inr hx))))),h.sz,h.ap,h.av⟩
theorem Led.next(h:Led w g a q p m r vr vs T D S L)(hb:Bl w W):Led W g a q p m r vr vs T D S L :=
 h.same (fun x hx=>hb.block x (h.sk.lt hx)) (fun x hx=>hb.block x (h.lt hx))
theorem Led.nr(h:Led w g a q p m r vr vs T D S L):a≠m∧a≠m+1∧a≠r∧(∀x,vr.ownBlock=some x->x≠a) ∧ ∀x,vs.ownBlock=some x->x≠a:=by
 have hb:=h.blk;refine⟨?_,?_,?_,?_,?_⟩
 ·rintro rfl;obtain⟨es,c,hx,_⟩:=h.fr.mp;rw[hb] at hx;cases hx
 ·rintro rfl;have:=h.fr.blk;rw[hb] at this;cases this
 ·rintro rfl;have:=h.rg.blk;rw[hb] at this;cases this
 ·rintro x hx rfl;obtain⟨xA,hc⟩:=Qav h.rg.own hx;rw[hb] at hc;cases hc
 ·rintro x hx rfl;obtain⟨xA,hc⟩:=Qav h.own hx;rw[hb] at hc;cases hc
theorem Led.lock{g':Int}(h:Led w g a q p m r vr vs T D S L)(ho:∀b,b<w.heap.size->b≠a->W.heap[b]? = w.heap[b]?)(hr:W.heap[a]? = some (rwL g' (.int .u32 0) (Zp q) (.pointer (some ⟨m+1,0,none⟩)) (Pq r) vs)):Led W g' a q p m r vr vs T D S L:=by
 obtain⟨n1,n2,n3,n4,n5⟩:=h.nr;have hk:∀x,Lef a m r vr vs x->x≠a->W.heap[x]? = w.heap[x]? := fun x hx hne=>ho x (h.lt hx) hne
 exact⟨hr,h.sk.same fun x hx=>ho x (h.sk.lt hx) (fun e=>h.ap x hx (.inl e)),h.fr.same (hk m (.inr (.inl rfl)) n1.symm) (hk _ (.inr (.inr (.inl rfl))) n2.symm),
  ⟨(hk r (.inr (.inr (.inr (.inl rfl)))) n3.symm).trans h.rg.blk,St.Qy h.rg.own fun x hx=>hk x (.inr (.inr (.inr (.inr (.inl hx))))) (n4 x hx),h.rg.k1,h.rg.k2,h.rg.hn,h.rg.hl,h.rg.hs⟩,
  St.Qy h.own fun x hx=>hk x (.inr (.inr (.inr (.inr (.inr hx))))) (n5 x hx),h.sz,h.ap,h.av⟩
theorem Led.lkd(h:Led w 0 a q p m r vr vs T D S L)(hL:Lkd a w W):Led W 1 a q p m r vr vs T D S L:=h.lock hL.oth (hL.self _ _ _ _ _ h.blk)
theorem Led.set(h:Led w g a q p m r vr vs T D S L)(g':Int):Led (w.setCell ⟨a,0,none⟩ (.int .i32 g')) g' a q p m r vr vs T D S L :=
 h.lock (fun _ _ hne=>Below.heap_setCell _ _ _ _ hne) (Lm w a 0 _ _ (.int .i32 g') h.blk)
theorem Led.cells(h:Led w g a q p m r vr vs T D S L):w.cell? ⟨a,0,none⟩=some (.int .i32 g)∧w.cell? ⟨a,2,none⟩=some (Pq q)∧w.cell? ⟨a,3,none⟩=some (.pointer (some ⟨m+1,0,none⟩))∧w.cell? ⟨a,4,none⟩=some (Pq r)∧w.cell? ⟨a,5,none⟩=some vs ∧ ∀j,w.frozen? ⟨a,j,none⟩=false:=Ym h.blk
end
def stE(D:St.DV)(S:St.SV):Nat->LB->Int
 | _,[]=>0
 | p,d::ds=>if (St.OQ D S p).2≠0 then (St.OQ D S p).2 else if St.tx (St.OQ D S p).1=d then stE D S (p+1) ds else 190
theorem Qp3{D:St.DV}{S:St.SV}{j:Nat}{ds:LB}(hj:j<ds.length)(t:BA)(r:Int)(ht:St.tx (St.OQ D S (p+j)).1=t)(hr:(St.OQ D S (p+j)).2=r) :
  stE D S (p+j) (ds.drop j)=if r≠0 then r else if t=ds.getD j ByteArray.empty then stE D S (p+(j+1)) (ds.drop (j+1)) else 190:=by
 have e:ds.getD j ByteArray.empty=ds[j]:=by rw[Ld,Lk hj];rfl
 rw[LX hj,stE,ht,hr,e,Ns]
theorem Qoh(D:St.DV)(S:St.SV)(p:Nat)(ds:LB):stE D S (p+ds.length) (ds.drop ds.length)=0:=by
 rw[IN];rfl
theorem Qga(bs:BA):∀(n i:Nat) (r:List UInt8),bs.size-i=n->ByteArray.toList.loop bs i r=r.reverse++bs.data.toList.drop i:=by
 intro n
 induction n with
 | zero=>
  intro i r h;rw[ByteArray.toList.loop,Le (by omega)]
  rw[L3 (by simp;exact(by omega:bs.size<=i)),LU]
 | succ n ih=>
  intro i r h;have hi:i<bs.size:=by omega
  rw[ByteArray.toList.loop,Lf hi,ih (i+1) _ (by omega)]
  have hl:i<bs.data.toList.length:=by simp;exact hi
  rw[LX hl,Ip,Lw];have:bs.get! i=bs.data.toList[i]:=by
   show bs.data[i]! = _
   have xA:i<bs.data.size:=hi;rw[getElem!_pos bs.data i xA];simp
  rw[this];rfl
theorem QeR(bs:BA):bs.toList=bs.data.toList:=by
 rw[ByteArray.toList,Qga bs bs.size 0 [] rfl];rfl
theorem QjR{x y:BA}(h:x≠y):(x.toList == y.toList)=false:=by
 rw[QeR,QeR];simp only[beq_eq_false_iff_ne,ne_eq];intro e;exact h (I8 (Array.toList_inj.1 e))
section
variable {w W:World} {g:Int} {a q p m r:Nat} {vr vs:Value} {T:Nat->Prop} {D D':St.DV} {S S':St.SV} {L:LB}
theorem Qjp(w:World)(h:Led w g a q p m r vr vs T D S L)(pl:Nat)(ao:OA)(b len cap:Nat)(ds:LB)(hr:RdS w ao b 0 len ds)(hz:len<=1000)(hpl:pl<=1000000)(e0:Int)(he:stE D S pl ds=e0) :
  Zr 96 #[Pq a,.int .u64 pl,.slice ao len cap] w (.int .i64 e0):=by
 have hl:=hr.hl;have hc:=h.cells.2.1;have xF:=Lo _ _ hc;have HC:Hid (∀W,Bl w W->W.cell? ⟨a,2,none⟩=some (Pq q)):=fun W hW=>(hW.cell (p:=⟨a,2,none⟩) xF).trans hc
 have HR:Hid (∀W,Bl w W->RdS W ao b 0 len ds):=fun W hW=>hr.next hW (La _)
 have HN:Hid (∀(W:World) (i:Nat) (t:BA) (y:Int),Bl w W->i<18446744073709551616->St.tx (St.OQ D S i).1=t->(St.OQ D S i).2=y->Calls prog 162 #[Pq q,.int .u64 i] W fun e w'=>e= .returned (.tuple #[.string t,.int .i64 y])∧Bl w w'):=fun W i t y hW hi g1 g2=>(St.QiA W (h.sk.next hW) i hi t y g1 g2).mono fun e w' z=>⟨z.1,Qa hW z.2⟩
 have HE:=Qc he;have xD:=hr.ptr;clear h hr he hc
 go_enter func96,ntmps96;go_wp2
 go_loopg [13] len (fun g x wr=> ∃j:Nat,j<=len∧g=len-j∧x= .int .i64 j∧Hid (stE D S (pl+j) (ds.drop j)=stE D S pl ds)∧Hid (Bl w wr))
 case atStart=>go_light;exact⟨0,Ln _,rfl,rfl,rfl,Lb _ _⟩
 case round=>
  obtain⟨j,hj,rfl,rfl,HS,HB⟩:=hrel
  by_cases hlt:j<len
  ·have xG:(j:Int)<(len:Int):=by omega
   obtain rfl:=xD (by omega)
   obtain⟨d,hd⟩:=Ze (ds.getD j ByteArray.empty);have c0:=(HR.out wr HB.out).at hlt;rw[hd,Ll] at c0;have c2:=HC.out wr HB.out;obtain⟨t,ht⟩:=Ze (St.tx (St.OQ D S (pl+j)).1);obtain⟨y,hy⟩:=Ze ((St.OQ D S (pl+j)).2);have hs:=Qp3 (D:=D) (S:=S) (p:=pl) (j:=j) (ds:=ds) (by omega) t y ht hy
   rw[HS.out,hd,HE.out] at hs;obtain⟨i,hi⟩:=Ze (pl+j);rw[hi] at ht hy;have xC:Hid (Calls prog 162 #[Pq q,.int .u64 i] wr fun e w'=>e= .returned (.tuple #[.string t,.int .i64 y])∧Bl w w'):=HN.out wr i t y HB.out (by omega) ht hy
   have xH:IntKind.u64.wrap (j:Int)=(j:Int):=by rw[IntKind.wrap_u64];omega
   have xI:IntKind.u64.wrap ((pl:Int)+(j:Int))=(i:Int):=by rw[IntKind.wrap_u64];omega
   have xJ:IntKind.i64.wrap ((j:Int)+1)=((j+1:Nat):Int):=by rw[Lq];omega
   have HQ:Hid (y≠0->e0=y):=fun q=>by rw[Lf q] at hs;exact hs
   have xA:Hid (y=0 -> ¬t=d->e0=190):=fun q q2=>by rw[Le (fun x=>x q),Le q2] at hs;exact hs
   have xB:Hid (y=0->t=d->stE D S (pl+(j+1)) (ds.drop (j+1))=stE D S pl ds):=fun q q2=>by rw[Le (fun x=>x q),Lf q2] at hs;rw[HE.out];exact hs.symm
   clear ht hy hs hd hi HS HE HR HC HN hl
   by_cases h0:y=0
   ·subst h0
    by_cases h1:t=d
    ·subst h1;have xE:=Qc (xB.out rfl rfl);clear HQ xA xB
     go_wp2_with (go_at_call 162;(with_reducible refine xC.out.mono ?_);rintro e w2 ⟨rfl,u⟩)
     go_roundg (len-(j+1))
     case rel=>go_light;exact⟨j+1,by omega,rfl,rfl,xE,u⟩
     case measure=>go_light;omega
    ·have hb:=QjR h1;have hz:=xA.out rfl h1;subst hz;clear HQ xA xB
     go_wp2_with (go_at_call 162;(with_reducible refine xC.out.mono ?_);rintro e w2 ⟨rfl,u⟩)
     go_ret
     exact⟨rfl,u⟩
   ·have hz:=HQ.out h0;subst hz;have xK:(e0 == 0)=false:=by simpa using h0
    clear HQ xA xB
    go_wp2_with (go_at_call 162;(with_reducible refine xC.out.mono ?_);rintro e w2 ⟨rfl,u⟩)
    go_ret
    exact⟨rfl,u⟩
  ·have xG:¬(j:Int)<(len:Int):=by omega
   obtain rfl:j=len:=by omega
   have hz:e0=0:=by
    rw[<-HE.out,<-HS.out,<-hl];exact Qoh D S pl ds
   subst hz;have u:=HB.out;clear HS HE HR HC HN hl HB;go_wp2
   go_ret
   exact⟨rfl,u⟩
end
end Go.Proofs.YtoblgjledefdbaaGreatDoor
