/- Own work. -/
import Derived.Test.YtoblgjledefdbaaGreatDoorQm25
set_option maxRecDepth 100000
set_option maxHeartbeats 4000000
namespace Go.Proofs.YtoblgjledefdbaaGreatDoor
open Go.RowKit
attribute [local go_sem ↓] Go.wp_at_zero Go.wp_at_succ
open Go.Proofs.Tryz
namespace St
open Rc
theorem dN(w:World)(n:Nat):Below w.heap.size w (w.drewN n):=Qf (Lb _ _) n
section
variable {q p:Nat} {T:Nat->Prop} {D:DV} {S:SV}
def TkQ(w:World)(q p:Nat)(T:Nat->Prop)(D:DV)(S:SV)(o:Option (List Nat×BitVec 32))(e:Ending)(w':World):Prop:=match o with
 | none=>e = .returned (.int .i64 190)∧SkM w w' q p T D S
 | some st=>e = .returned (.int .i64 0)∧SkM w w' q p T D { S with ends:=st.1,chain:=st.2 }
theorem QnJ{w w':World}(h:Sk w q p T D S)(hb:Below w.heap.size w w'){o:Option (List Nat×BitVec 32)}(ho:o=none):TkQ w q p T D S o (.returned (.int .i64 190)) w':=by
 rw[ho];exact⟨rfl,SkM.of h hb⟩
theorem Qle{k:Nat}{a b:List UInt8}{st:List Nat×BitVec 32}{row:List UInt8}(h:rmrk row=none):tkN k a b st row=none:=by unfold tkN;rw[h]
theorem Qa6{k:Nat}{a b:List UInt8}{st:List Nat×BitVec 32}{row:List UInt8}{m:MV}(h:rmrk row=some m)(hc:65536<=st.1.length∨m.items<=lst st.1∨a.length<m.items∨whl ((a.drop (lst st.1)).take (m.items - lst st.1))=false):tkN k a b st row=none:=by
 unfold tkN;rw[h];exact Lk hc
theorem QiZ{k:Nat}{a b:List UInt8}{st:List Nat×BitVec 32}{row:List UInt8}{m:MV}(h:rmrk row=some m)(hr:rdN k b (nn st.1.length) (nn (st.1.length+1) - nn st.1.length)=none):tkN k a b st row=none:=by
 unfold tkN;rw[h];simp only
 split
 ·rfl
 ·rw[hr]
theorem Qnn{k:Nat}{a b:List UInt8}{st:List Nat×BitVec 32}{row:List UInt8}{m:MV}{rows:LB}(h:rmrk row=some m)(hc : ¬(65536<=st.1.length∨m.items<=lst st.1∨a.length<m.items∨whl ((a.drop (lst st.1)).take (m.items - lst st.1))=false))(hr:rdN k b (nn st.1.length) (nn (st.1.length+1) - nn st.1.length)=some rows) :
  tkN k a b st row=if m=nxM k st.1 st.2 ((a.drop (lst st.1)).take (m.items - lst st.1)) rows then some (st.1++[m.items],m.chain) else none:=by
 unfold tkN;rw[h];simp only;rw[Le hc,hr]
theorem Qd1(w:World)(h:Sk w q p T D S)(hd:D.down=false)(row:BA) :
  Calls prog 154 #[.pointer (some ⟨q,0,none⟩),.string row] w (TkQ w q p T D S (tkN S.k (now D nmI) (now D nmN) (S.ends,S.chain) row.data.toList)):=by
 obtain⟨yT,yU,hf,_,_,xU⟩:=h.small;obtain⟨ea,ec,xN⟩:=h.seen
 cases hm:rmrk row.data.toList with
 | none =>
  have HM:Hid (Calls prog 243 #[.string row] w fun e w'=>e = .returned (.tuple #[.agg #[.int .i64 0,.int .u64 0,.int .u64 0,.int .u64 0,.int .u32 0],.int .i64 180])∧Below w.heap.size w w'):=QcO w row _ _ (Qge hm)
  have HZ:Hid (∀W,Below w.heap.size w W->TkQ w q p T D S (tkN S.k (now D nmI) (now D nmN) (S.ends,S.chain) row.data.toList) (.returned (.int .i64 190)) W):=fun W hW=>QnJ h hW (Qle hm)
  generalize tkN S.k (now D nmI) (now D nmN) (S.ends,S.chain) row.data.toList=o at *;clear h hm xN
  go_enter func154,ntmps154
  go_wp2_with (go_at_call 243;(with_reducible refine HM.out.mono ?_);rintro e w1 ⟨rfl,u1⟩)
  go_ret
  exact HZ.out _ (bal u1 _)
 | some m =>
  obtain⟨m0,e0⟩:=Ze m.k;obtain⟨m1,e1⟩:=Ze m.size;obtain⟨m2,e2⟩:=Ze m.items;obtain⟨m3,e3⟩:=Ze m.nodes;obtain⟨md,e4⟩:=Ze m.chain.toNat;have HM:Hid (Calls prog 243 #[.string row] w fun e w'=>e = .returned (.tuple #[.agg #[.int .i64 m0,.int .u64 (m1:Int),.int .u64 (m2:Int),.int .u64 (m3:Int),.int .u32 (md:Int)],.int .i64 0])∧Below w.heap.size w w'):=by
   have:=QcO w row _ _ (Qhj hm);rw[mC,e0,e1,e2,e3,e4] at this;exact this
  have HZ:Hid (∀W,Below w.heap.size w W->tkN S.k (now D nmI) (now D nmN) (S.ends,S.chain) row.data.toList=none->TkQ w q p T D S (tkN S.k (now D nmI) (now D nmN) (S.ends,S.chain) row.data.toList) (.returned (.int .i64 190)) W):=fun W hW ho=>QnJ h hW ho
  have CQ:Hid (∀W,Below w.heap.size w W->W.cell? ⟨q,0,none⟩=some (.pointer (some ⟨p,0,none⟩))∧W.cell? ⟨q,2,none⟩=some (.slice ea S.ends.length ec)):=fun W hW=>⟨(xN W hW).1,(xN W hW).2.2.1⟩
  by_cases hB:65536<=S.ends.length
  ·have xB:=Qd (fun W hW=>HZ.out W hW (Qa6 hm (.inl hB)))
   have xT:(65536:Int)<=(S.ends.length:Int):=by omega
   generalize tkN S.k (now D nmI) (now D nmN) (S.ends,S.chain) row.data.toList=o at *;clear h hm xN HZ e0 e1 e2 e3 e4;generalize S.ends.length=n at *
   go_enter func154,ntmps154
   go_wp2_with (go_at_call 243;(with_reducible refine HM.out.mono ?_);rintro e w1 ⟨rfl,u1⟩;have cq:=(CQ.out _ u1).2;have xZ:=(CQ.out _ (bal u1 (.cells #[.int .i64 m0,.int .u64 (m1:Int),.int .u64 (m2:Int),.int .u64 (m3:Int),.int .u32 (md:Int)] 239))).2)
   go_ret
   exact xB.out _ (bal u1 _)
  ·have xT : ¬(65536:Int)<=(S.ends.length:Int):=by omega
   have HL:Hid (∀W,Below w.heap.size w W->Calls prog 155 #[.pointer (some ⟨q,0,none⟩),.string ⟨#[105,116,101,109,115]⟩] W fun e w'=>e = .returned (.int .i64 (lst S.ends:Int))∧w'=W):=fun W hW=>YH W (h.next hW)
   have yH:=h.sz nmI;have yG:JD D nmI=(now D nmI).length:=by unfold JD now;rw[hd];rfl
   have HS:Hid (∀W,Below w.heap.size w W->Calls prog 151 #[.pointer (some ⟨p,0,none⟩),.string ⟨#[105,116,101,109,115]⟩] W fun e w'=>e = .returned (.int .i64 ((now D nmI).length:Int))∧w'=W):=fun W hW=>by
    have:=(h.next hW).size ⟨#[105,116,101,109,115]⟩ (by decide)
    rw[show(ByteArray.mk #[105,116,101,109,115]).data.toList=nmI from rfl,yG] at this
    exact this
   obtain⟨ls,xV⟩:=Ze (lst S.ends);obtain⟨li,xS⟩:=Ze ((now D nmI).length);have yN:li<=268435456:=by rw[<-xS];exact yH
   rw[xV] at HL xU;rw[xS] at HS;have yO:IntKind.u64.wrap (ls:Int)=(ls:Int):=YD _ (by omega) (by omega)
   have yP:IntKind.u64.wrap (li:Int)=(li:Int):=YD _ (by omega) (by omega)
   have CM:Hid (∀w1 W,Below w.heap.size w w1->Below (w1.alloc (.cells #[.int .i64 m0,.int .u64 (m1:Int),.int .u64 (m2:Int),.int .u64 (m3:Int),.int .u32 (md:Int)] 239)).heap.size (w1.alloc (.cells #[.int .i64 m0,.int .u64 (m1:Int),.int .u64 (m2:Int),.int .u64 (m3:Int),.int .u32 (md:Int)] 239)) W->Below w.heap.size w W∧W.cell? ⟨w1.heap.size,0,none⟩=some (.int .i64 m0)∧W.cell? ⟨w1.heap.size,1,none⟩=some (.int .u64 (m1:Int))∧W.cell? ⟨w1.heap.size,2,none⟩=some (.int .u64 (m2:Int))∧W.cell? ⟨w1.heap.size,3,none⟩=some (.int .u64 (m3:Int))∧W.cell? ⟨w1.heap.size,4,none⟩=some (.int .u32 (md:Int))):=fun w1 W hb hW=>⟨Qa (bal hb _) hW,Yn ((hW.block w1.heap.size (by rw[Y3];omega)).trans (Yq _ _))⟩
   have HE:=Qd (L6 e0 (L6 e1 (L6 e2 (L6 e3 e4))));have xG:=Qd xV;have xE:=Qd xS;have xC:=Qd hm;have xF:=Qd h;clear e0 e1 e2 e3 e4 xV xS hm h yG yH xN;obtain⟨o,ho⟩:=Ze (tkN S.k (now D nmI) (now D nmN) (S.ends,S.chain) row.data.toList);rw[ho] at HZ ⊢;have xK:=Qd ho;obtain⟨n,hn⟩:=Ze S.ends.length;rw[hn] at hB xT hf CQ;have xP:=Qd hn;have yS:(n:Int)<65536:=by omega
   have xY:=Qd hB;clear ho hn hB hf xT
   go_enter func154,ntmps154
   go_upto_region 2 with (go_at_call 243;(with_reducible refine HM.out.mono ?_);rintro e w1 ⟨rfl,u1⟩;have cq:=(CQ.out _ u1).2;have xZ:=(CQ.out _ (bal u1 (.cells #[.int .i64 m0,.int .u64 (m1:Int),.int .u64 (m2:Int),.int .u64 (m3:Int),.int .u32 (md:Int)] 239))).2)
   have yK:decide ((65536:Int)<=(n:Int))=false:=Ls (by omega)
   have yL:decide (65536<=n)=false:=Ls xY.out
   go_upto_region 5 with (go_at_call 155;(with_reducible refine(HL.out _ (bal u1 _)).mono ?_);rintro e w2 ⟨rfl,rfl⟩)
   have k2:=fun W=>CM.out w1 W u1
   obtain⟨bm,yE⟩:=Ze w1.heap.size;have u2:=bal u1 (.cells #[.int .i64 m0,.int .u64 (m1:Int),.int .u64 (m2:Int),.int .u64 (m3:Int),.int .u32 (md:Int)] 239);rw[yE] at k2 ⊢;generalize w1.alloc (.cells #[.int .i64 m0,.int .u64 (m1:Int),.int .u64 (m2:Int),.int .u64 (m3:Int),.int .u32 (md:Int)] 239)=w2 at *;have K2:=Qd k2;clear k2 CM cq xZ yE u1 HM
   by_cases hC:m2<=ls
   ·have yA:decide ((m2:Int)<=(ls:Int))=true:=LA (by omega)
    have yB:decide (m2<=ls)=true:=LA hC
    have xB:Hid (∀W,Below w2.heap.size w2 W->TkQ w q p T D S o (.returned (.int .i64 190)) W):=fun W hW=>HZ.out W (K2.out W hW).1 (xK.out.symm.trans (Qa6 xC.out (.inr (.inl (by rw[HE.out.2.2.1];exact Lu hC (N9 xG.out.symm))))))
    have ⟨uq,d0,d1,d2,d3,d4⟩:=K2.out w2 (Lb _ _);have q0:=(CQ.out _ u2).1
    go_quiet (first
      | (go_at_call 151;refine Calls.quiet_of_same (HS.out _ (K2.out _ (dN w2 _)).1)))
    all_goals
     go_wp2
     go_ret
     exact xB.out _ (dN w2 _)
   ·have yA:decide ((m2:Int)<=(ls:Int))=false:=Ls (by omega)
    have yB:decide (m2<=ls)=false:=Ls hC
    by_cases hD:li<m2
    ·have yC:decide ((li:Int)<(m2:Int))=true:=LA (by omega)
     have yD:decide (li<m2)=true:=LA hD
     have xB:Hid (∀W,Below w2.heap.size w2 W->TkQ w q p T D S o (.returned (.int .i64 190)) W):=fun W hW=>HZ.out W (K2.out W hW).1 (xK.out.symm.trans (Qa6 xC.out (.inr (.inr (.inl (by rw[HE.out.2.2.1,xE.out];exact hD))))))
     have ⟨uq,d0,d1,d2,d3,d4⟩:=K2.out w2 (Lb _ _);have q0:=(CQ.out _ u2).1
     go_quiet (first
      | (go_at_call 151;refine Calls.quiet_of_same (HS.out _ (K2.out _ (dN w2 _)).1)))
     all_goals
      go_wp2
      go_ret
      exact xB.out _ (dN w2 _)
    ·have yC:decide ((li:Int)<(m2:Int))=false:=Ls (by omega)
     have yD:decide (li<m2)=false:=Ls hD
     have ⟨uq,d0,d1,d2,d3,d4⟩:=K2.out w2 (Lb _ _);have q0:=(CQ.out _ u2).1
     go_quiet (first
      | (go_at_call 151;refine Calls.quiet_of_same (HS.out _ (K2.out _ (dN w2 _)).1)))
     have u3:=dN w2 nq;generalize w2.drewN nq=w3 at *;obtain⟨pl,xJ⟩:=Ze (((now D nmI).drop ls).take (m2 - ls));have yV:pl.length=m2 - ls:=by rw[<-xJ,Lz,Nb,xE.out];omega
     have xI:((now D nmI).drop (lst (S.ends,S.chain).1)).take (m.items - lst (S.ends,S.chain).1)=pl:=by rw[<-xJ,HE.out.2.2.1];show List.take (m2 - lst S.ends) (List.drop (lst S.ends) _)=_;rw[xG.out]
     have HR:Hid (∀W,Below w2.heap.size w2 W->Calls prog 143 #[.pointer (some ⟨q,0,none⟩),.string ⟨#[105,116,101,109,115]⟩,.int .i64 (ls:Int),.int .i64 ((m2:Int) - (ls:Int))] W fun e w'=>e = .returned (.tuple #[.string (tx pl),.int .i64 0])∧Below w2.heap.size w2 w'):=fun W hW=>by
      have h1:=O0 hd nmI ls (m2 - ls);rw[xE.out,Lk (by omega),xJ] at h1
      rw[show(m2:Int) - (ls:Int)=((m2 - ls:Nat):Int) by omega]
      exact(JO W (xF.out.next (K2.out W hW).1) ⟨#[105,116,101,109,115]⟩ (by decide) _ _ (by omega) (by omega) (by omega) (by omega) (tx pl) 0 (by rw[show(ByteArray.mk #[105,116,101,109,115]).data.toList=nmI from rfl,h1]) (by rw[show(ByteArray.mk #[105,116,101,109,115]).data.toList=nmI from rfl,h1])).mono fun e w' z=>⟨z.1,Qa hW z.2⟩
     have yQ:IntKind.i64.wrap (m2:Int)=(m2:Int):=by rw[Lr];omega
     have yR:IntKind.i64.wrap ((m2:Int) - (ls:Int))=(m2:Int) - (ls:Int):=by rw[Lr];omega
     have ⟨_,_,_,c2,_,_⟩:=K2.out w3 u3;clear d0 d1 d2 d3 d4 q0 uq HS HL yA yB yC yD yK yL
     by_cases hW:whl pl=false
     ·have xM:Hid (∀W,Calls prog 144 #[.string (tx pl)] W fun e w'=>e = .returned (.tuple #[.string (whT pl),.bool false])∧Below W.heap.size W w'):=fun W=>QaE W (tx pl) (by rw[Yp];omega) false hW _ rfl
      have xB:Hid (∀W,Below w2.heap.size w2 W->TkQ w q p T D S o (.returned (.int .i64 190)) W):=fun W hW'=>HZ.out W (K2.out W hW').1 (xK.out.symm.trans (Qa6 xC.out (.inr (.inr (.inr (by rw[xI];exact hW))))))
      clear xI xJ xF HE xG xE xC;generalize tx pl=tp at *;generalize whT pl=tw at *
      go_wp2_with (first
       | (go_at_call 143;(with_reducible refine(HR.out _ u3).mono ?_);rintro e w4 ⟨rfl,u4⟩)
       | (go_at_call 144;(with_reducible refine(xM.out _).mono ?_);rintro e w5 ⟨rfl,u5⟩))
      go_ret
      exact xB.out _ (Qa u4 u5)
     ·have xM:Hid (∀W,Calls prog 144 #[.string (tx pl)] W fun e w'=>e = .returned (.tuple #[.string (whT pl),.bool true])∧Below W.heap.size W w'):=fun W=>QaE W (tx pl) (by rw[Yp];omega) true (by show whl pl=true;simpa using hW) _ rfl
      have xA:Hid (∀W,Below w2.heap.size w2 W->Calls prog 244 #[.pointer (some ⟨q,0,none⟩)] W (RnQ W (rdN S.k (now D nmN) (nn S.ends.length) (nn (S.ends.length+1) - nn S.ends.length)))):=fun W hW'=>Qdr W (xF.out.next (K2.out W hW').1) hd (by rw[xP.out];omega)
      cases hN:rdN S.k (now D nmN) (nn S.ends.length) (nn (S.ends.length+1) - nn S.ends.length) with
      | none =>
       rw[hN] at xA;have xQ:Hid (∀W,Below w2.heap.size w2 W->Calls prog 244 #[.pointer (some ⟨q,0,none⟩)] W fun e w'=>e = .returned (.tuple #[.slice none 0 0,.int .i64 190])∧Below w2.heap.size w2 w'):=fun W hW'=>(xA.out W hW').mono fun e w' z=>⟨z.2,Qa hW' z.1⟩
       have xB:Hid (∀W,Below w2.heap.size w2 W->TkQ w q p T D S o (.returned (.int .i64 190)) W):=fun W hW'=>HZ.out W (K2.out W hW').1 (xK.out.symm.trans (QiZ xC.out hN))
       clear xI xJ xF HE xG xE xC xA hN;generalize tx pl=tp at *;generalize whT pl=tw at *
       go_wp2_with (first
        | (go_at_call 143;(with_reducible refine(HR.out _ u3).mono ?_);rintro e w4 ⟨rfl,u4⟩)
        | (go_at_call 144;(with_reducible refine(xM.out _).mono ?_);rintro e w5 ⟨rfl,u5⟩)
        | (go_at_call 244;(with_reducible refine(xQ.out _ (Qa u4 u5)).mono ?_);rintro e w6 ⟨rfl,u6⟩))
       go_ret
       exact xB.out _ u6
      | some rows =>
       rw[hN] at xA;obtain⟨yF,xX⟩:=QdE _ _ _ hN;obtain⟨rl,xD⟩:=Ze rows.length;have xQ:Hid (∀W,Below w2.heap.size w2 W->Calls prog 244 #[.pointer (some ⟨q,0,none⟩)] W fun e w' => ∃va vc,e = .returned (.tuple #[.slice va rl vc,.int .i64 0])∧Rc.Qi w' W.heap.size (.slice va rl vc) rows∧Below w2.heap.size w2 w'):=fun W hW'=>(xA.out W hW').mono fun e w' z=>by
        obtain⟨z1,va,vc,z2,z3⟩:=z;rw[xD] at z2 z3;exact⟨va,vc,z2,z3,Qa hW' z1⟩
       obtain⟨m',xW⟩ : ∃m',nxM S.k S.ends S.chain pl rows=m':=⟨_,rfl⟩;have xL:tkN S.k (now D nmI) (now D nmN) (S.ends,S.chain) row.data.toList=if m=m' then some (S.ends++[m.items],m.chain) else none:=by
        have yM : ¬(65536<=(S.ends,S.chain).1.length∨m.items<=lst (S.ends,S.chain).1∨(now D nmI).length<m.items∨whl (((now D nmI).drop (lst (S.ends,S.chain).1)).take (m.items - lst (S.ends,S.chain).1))=false):=by
         rw[xI,HE.out.2.2.1,xE.out]
         show ¬(65536<=S.ends.length∨m2<=lst S.ends∨li<m2∨whl pl=false)
         rw[xG.out,xP.out];have:=xY.out;simp only[not_or];exact⟨this,hC,hD,hW⟩
        rw[Qnn xC.out yM hN,xI,<-xW]
       have xR:Hid (∀w6 va vc B,Below w2.heap.size w2 w6->Rc.Qi w6 B (.slice va rl vc) rows -> ∀W,Below w6.heap.size w6 W->Calls prog 169 #[.pointer (some ⟨q,0,none⟩),.string (tx pl),.slice va rl vc] W fun e w'=>e = .returned (.agg (mC m'))∧Below w6.heap.size w6 w'):=fun w6 va vc B u6 o6 W hW'=>by
        obtain⟨yW,rb,yX,hv,yI,_,_⟩:=Rc.QR o6 (fun s hs=>by rw[xX s hs];omega)
        injection hv with e1 e2 e3
        subst e1 e3;rw[xD] at yI;exact(Qcu W (xF.out.next (K2.out W (Qa u6 hW')).1) (tx pl) (by rw[Yp];omega) va rb 0 rl vc rows (yI.next hW' (La _)) (by have:=Uk S.ends.length (by rw[xP.out];omega);omega) m' xW).mono fun e w' z=>⟨z.1,Qa hW' z.2⟩
       by_cases hE:m=m'
       ·rw[Lk hE] at xL;subst hE;have yJ:Hid (∀W,Below w2.heap.size w2 W->Calls prog 179 #[.pointer (some ⟨q,0,none⟩),.agg #[.int .i64 m0,.int .u64 (m1:Int),.int .u64 (m2:Int),.int .u64 (m3:Int),.int .u32 (md:Int)]] W fun e w'=>e = .returned (.tuple #[])∧TkQ w q p T D S o (.returned (.int .i64 0)) w'):=fun W hW'=>by
         have:=Qac W (xF.out.next (K2.out W hW').1) m (by rw[HE.out.2.2.1];omega) (by rw[xP.out];omega)
         rw[mC,HE.out.1,HE.out.2.1,HE.out.2.2.1,HE.out.2.2.2.1,HE.out.2.2.2.2] at this;refine this.mono fun e w' z=>⟨z.1,?_⟩
         rw[<-xK.out,xL,HE.out.2.2.1];exact⟨rfl,z.2.first (K2.out W hW').1⟩
        rw[mC,HE.out.1,HE.out.2.1,HE.out.2.2.1,HE.out.2.2.2.1,HE.out.2.2.2.2] at xR;clear xI xJ xF HE xG xE xC xA hN xL xX yF xD hW;generalize tx pl=tp at *;generalize whT pl=tw at *
        go_upto_region 16 with (first
         | (go_at_call 143;(with_reducible refine(HR.out _ u3).mono ?_);rintro e w4 ⟨rfl,u4⟩)
         | (go_at_call 144;(with_reducible refine(xM.out _).mono ?_);rintro e w5 ⟨rfl,u5⟩)
         | (go_at_call 244;(with_reducible refine(xQ.out _ (Qa u4 u5)).mono ?_);rintro e w6 ⟨va,vc,rfl,o6,u6⟩))
        have xH:=Qd (fun W hW=>xR.out w6 va vc _ u6 o6 W hW)
        have u:=bdz w6;have ⟨c20,c21,c22,c23,c24⟩:=(K2.out w6 u6).2
        go_region_held3 (fun Z=>Z.cell? ⟨bm,0,none⟩=some (.int .i64 m0)∧Z.cell? ⟨bm,1,none⟩=some (.int .u64 (m1:Int))∧Z.cell? ⟨bm,2,none⟩=some (.int .u64 (m2:Int))∧Z.cell? ⟨bm,3,none⟩=some (.int .u64 (m3:Int))∧Z.cell? ⟨bm,4,none⟩=some (.int .u32 (md:Int))) (first|assumption|(with_reducible exact(K2.out _ (Qa u6 u)).2)) (first
         | (go_at_call 169;(with_reducible refine(xH.out _ u).mono ?_);rintro e w7 ⟨rfl,u⟩))
        all_goals
         have u7:=Qa u6 u;have ⟨y20,y21,y22,y23,y24⟩:=(K2.out _ u7).2
         go_wp2_with (go_at_call 179;(with_reducible refine(yJ.out _ u7).mono ?_);rintro e w8 ⟨rfl,t8⟩)
         go_ret
         exact t8
       ·rw[Le hE] at xL;have xB:Hid (∀W,Below w2.heap.size w2 W->TkQ w q p T D S o (.returned (.int .i64 190)) W):=fun W hW'=>HZ.out W (K2.out W hW').1 (xK.out.symm.trans xL)
        obtain⟨n0,f0⟩:=Ze m'.k;obtain⟨n1,f1⟩:=Ze m'.size;obtain⟨n2,f2⟩:=Ze m'.items;obtain⟨n3,f3⟩:=Ze m'.nodes;obtain⟨nd,f4⟩:=Ze m'.chain.toNat;have xO : ¬(m0=n0∧m1=n1∧m2=n2∧m3=n3∧md=nd):=fun⟨a0,a1,a2,a3,a4⟩=>hE (MV.ext' (by rw[HE.out.1,f0,a0]) (by rw[HE.out.2.1,f1,a1]) (by rw[HE.out.2.2.1,f2,a2]) (by rw[HE.out.2.2.2.1,f3,a3]) (BitVec.eq_of_toNat_eq (by rw[HE.out.2.2.2.2,f4,a4])))
        rw[mC,f0,f1,f2,f3,f4] at xR;clear f0 f1 f2 f3 f4 xW hE;clear xI xJ xF HE xG xE xC xA hN xL xX yF xD hW;generalize tx pl=tp at *;generalize whT pl=tw at *
        go_upto_region 16 with (first
         | (go_at_call 143;(with_reducible refine(HR.out _ u3).mono ?_);rintro e w4 ⟨rfl,u4⟩)
         | (go_at_call 144;(with_reducible refine(xM.out _).mono ?_);rintro e w5 ⟨rfl,u5⟩)
         | (go_at_call 244;(with_reducible refine(xQ.out _ (Qa u4 u5)).mono ?_);rintro e w6 ⟨va,vc,rfl,o6,u6⟩))
        have xH:=Qd (fun W hW=>xR.out w6 va vc _ u6 o6 W hW)
        have u:=bdz w6;have ⟨c20,c21,c22,c23,c24⟩:=(K2.out w6 u6).2
        rcases(show ¬m0=n0∨(m0=n0 ∧ ¬m1=n1)∨(m0=n0∧m1=n1 ∧ ¬m2=n2)∨(m0=n0∧m1=n1∧m2=n2 ∧ ¬m3=n3)∨(m0=n0∧m1=n1∧m2=n2∧m3=n3 ∧ ¬md=nd) by omega) with g|⟨rfl,g⟩|⟨rfl,rfl,g⟩|⟨rfl,rfl,rfl,g⟩|⟨rfl,rfl,rfl,rfl,g⟩
        ·have g1:(m0 == n0)=false:=by simp;omega
         clear xO
         go_region_held3 (fun Z=>Z.cell? ⟨bm,0,none⟩=some (.int .i64 m0)∧Z.cell? ⟨bm,1,none⟩=some (.int .u64 (m1:Int))∧Z.cell? ⟨bm,2,none⟩=some (.int .u64 (m2:Int))∧Z.cell? ⟨bm,3,none⟩=some (.int .u64 (m3:Int))∧Z.cell? ⟨bm,4,none⟩=some (.int .u32 (md:Int))) (first|assumption|(with_reducible exact(K2.out _ (Qa u6 u)).2)) (first
          | (go_at_call 169;(with_reducible refine(xH.out _ u).mono ?_);rintro e w7 ⟨rfl,u⟩))
         all_goals
          have u7:=Qa u6 u;go_wp2
          go_ret
          exact xB.out _ u7
        ·have g1:((m1:Int) == (n1:Int))=false:=by simp;omega
         have g2:(m1 == n1)=false:=by simpa using g
         have g3 : ¬(m1:Int)=(n1:Int):=by omega
         clear xO
         go_region_held3 (fun Z=>Z.cell? ⟨bm,0,none⟩=some (.int .i64 m0)∧Z.cell? ⟨bm,1,none⟩=some (.int .u64 (m1:Int))∧Z.cell? ⟨bm,2,none⟩=some (.int .u64 (m2:Int))∧Z.cell? ⟨bm,3,none⟩=some (.int .u64 (m3:Int))∧Z.cell? ⟨bm,4,none⟩=some (.int .u32 (md:Int))) (first|assumption|(with_reducible exact(K2.out _ (Qa u6 u)).2)) (first
          | (go_at_call 169;(with_reducible refine(xH.out _ u).mono ?_);rintro e w7 ⟨rfl,u⟩))
         all_goals
          have u7:=Qa u6 u;go_wp2
          go_ret
          exact xB.out _ u7
        ·have g1:((m2:Int) == (n2:Int))=false:=by simp;omega
         have g2:(m2 == n2)=false:=by simpa using g
         have g3 : ¬(m2:Int)=(n2:Int):=by omega
         clear xO
         go_region_held3 (fun Z=>Z.cell? ⟨bm,0,none⟩=some (.int .i64 m0)∧Z.cell? ⟨bm,1,none⟩=some (.int .u64 (m1:Int))∧Z.cell? ⟨bm,2,none⟩=some (.int .u64 (m2:Int))∧Z.cell? ⟨bm,3,none⟩=some (.int .u64 (m3:Int))∧Z.cell? ⟨bm,4,none⟩=some (.int .u32 (md:Int))) (first|assumption|(with_reducible exact(K2.out _ (Qa u6 u)).2)) (first
          | (go_at_call 169;(with_reducible refine(xH.out _ u).mono ?_);rintro e w7 ⟨rfl,u⟩))
         all_goals
          have u7:=Qa u6 u;go_wp2
          go_ret
          exact xB.out _ u7
        ·have g1:((m3:Int) == (n3:Int))=false:=by simp;omega
         have g2:(m3 == n3)=false:=by simpa using g
         have g3 : ¬(m3:Int)=(n3:Int):=by omega
         clear xO
         go_region_held3 (fun Z=>Z.cell? ⟨bm,0,none⟩=some (.int .i64 m0)∧Z.cell? ⟨bm,1,none⟩=some (.int .u64 (m1:Int))∧Z.cell? ⟨bm,2,none⟩=some (.int .u64 (m2:Int))∧Z.cell? ⟨bm,3,none⟩=some (.int .u64 (m3:Int))∧Z.cell? ⟨bm,4,none⟩=some (.int .u32 (md:Int))) (first|assumption|(with_reducible exact(K2.out _ (Qa u6 u)).2)) (first
          | (go_at_call 169;(with_reducible refine(xH.out _ u).mono ?_);rintro e w7 ⟨rfl,u⟩))
         all_goals
          have u7:=Qa u6 u;go_wp2
          go_ret
          exact xB.out _ u7
        ·have g1:((md:Int) == (nd:Int))=false:=by simp;omega
         have g2:(md == nd)=false:=by simpa using g
         have g3 : ¬(md:Int)=(nd:Int):=by omega
         clear xO
         go_region_held3 (fun Z=>Z.cell? ⟨bm,0,none⟩=some (.int .i64 m0)∧Z.cell? ⟨bm,1,none⟩=some (.int .u64 (m1:Int))∧Z.cell? ⟨bm,2,none⟩=some (.int .u64 (m2:Int))∧Z.cell? ⟨bm,3,none⟩=some (.int .u64 (m3:Int))∧Z.cell? ⟨bm,4,none⟩=some (.int .u32 (md:Int))) (first|assumption|(with_reducible exact(K2.out _ (Qa u6 u)).2)) (first
          | (go_at_call 169;(with_reducible refine(xH.out _ u).mono ?_);rintro e w7 ⟨rfl,u⟩))
         all_goals
          have u7:=Qa u6 u;go_wp2
          go_ret
          exact xB.out _ u7
end
theorem Qlc{k:Nat}{a b m:List UInt8}{j:Nat}(h:tkA k a b m j=none) : ∀i,j<=i->tkA k a b m i=none:=fun i hi=>by
 induction i with
 | zero => obtain rfl : j = 0:=by omega
           exact h
 | succ i ih =>
  by_cases e:j=i+1
  ·rw[<-e];exact h
  ·rw[tkA,ih (by omega)]
theorem QlO(m:List UInt8):J3 m<=m.length / 64:=by unfold J3;split <;> omega
theorem QhS{m:List UInt8}{i:Nat}(hi:i<m.length / 64)(hr : ¬(i=m.length / 64 - 1∧Uw m i=zer 64)):i+1<=J3 m:=by
 unfold J3
 split
 ·rename_i h
  by_cases e:i=m.length / 64 - 1
  ·exact absurd ⟨e,by rw[e];exact h.2⟩ hr
  ·omega
 ·omega
theorem QhT{m:List UInt8}{i:Nat}(hi:i<m.length / 64)(e:i=m.length / 64 - 1)(hr:Uw m i=zer 64):J3 m=i:=by
 unfold J3;rw[Lk ⟨by omega,by rw[<-e];exact hr⟩];exact e.symm
def TaQ(w:World)(q p:Nat)(T:Nat->Prop)(D:DV)(S:SV)(o:Option (List Nat×BitVec 32))(e:Ending)(w':World):Prop:=match o with
 | none=>e = .returned (.int .i64 190) ∧ ∃S',SkM w w' q p T D S'
 | some st=>e = .returned (.int .i64 0)∧SkM w w' q p T D { S with ends:=st.1,chain:=st.2 }
section
variable {q p:Nat} {T:Nat->Prop} {D:DV} {S:SV}
theorem JE(w:World)(h:Sk w q p T D S)(hd:D.down=false)(h0:S.ends=[])(hc0:S.chain=0#32) :
  Calls prog 92 #[.pointer (some ⟨q,0,none⟩)] w (TaQ w q p T D S (Oe S.k (now D nmI) (now D nmN) (now D nmM))):=by
 have xM:=h.sz nmM;have xL:JD D nmM=(now D nmM).length:=by unfold JD now;rw[hd];rfl
 have HS:Hid (Calls prog 151 #[.pointer (some ⟨p,0,none⟩),.string ⟨#[109,97,114,107,115]⟩] w fun e w'=>e = .returned (.int .i64 ((now D nmM).length:Int))∧w'=w):=by
  have:=h.size ⟨#[109,97,114,107,115]⟩ (by decide)
  rw[show(ByteArray.mk #[109,97,114,107,115]).data.toList=nmM from rfl,xL] at this
  exact this
 obtain⟨_,_,⟨c0,_⟩,_⟩:=h.cells;obtain⟨M,hM⟩:=Ze (now D nmM);have xA:=fun i=>O0 hd nmM (i*64) 64
 rw[hM] at HS xA ⊢;have xT:M.length<=268435456:=by rw[<-hM];exact xM
 obtain⟨c,hc⟩:=Ze (M.length / 64);have hq:Int.tdiv (M.length:Int) 64=(c:Int):=by rw[<-hc];rfl
 have xF:Hid (∀wr S',SkM w wr q p T D S' -> ∀i:Nat,i<c->Calls prog 152 #[.pointer (some ⟨p,0,none⟩),.string ⟨#[109,97,114,107,115]⟩,.int .i64 ((i:Int)*64),.int .i64 64] wr fun e w'=>e = .returned (.tuple #[.string (tx (Uw M i)),.int .i64 0])∧Below wr.heap.size wr w'):=fun wr S' hS i hi=>by
  obtain⟨T1,hk,_,_⟩:=hS;have:=hk.read ⟨#[109,97,114,107,115]⟩ (by decide) ((i:Int)*64) 64 (by omega) (by omega) (by omega) (by omega)
  have h1:=xA i;rw[Lk (by omega)] at h1
  unfold rdS at h1;rw[show(ByteArray.mk #[109,97,114,107,115]).data.toList=nmM from rfl,show(i:Int)*64=((i*64:Nat):Int) by omega] at this
  rw[show(i:Int)*64=((i*64:Nat):Int) by omega]
  split at h1
  ·injection h1 with _ h1;cases h1
  ·rw[show((64:Nat):Int)=64 from rfl] at h1
   rw[h1] at this;rw[Uw,LG 64 i];exact this
 have xK:Hid (∀wr st i,SkM w wr q p T D { S with ends:=st.1,chain:=st.2 } -> Calls prog 154 #[.pointer (some ⟨q,0,none⟩),.string (tx (Uw M i))] wr fun e w'=>(tkN S.k (now D nmI) (now D nmN) st (Uw M i)=none∧e = .returned (.int .i64 190) ∧ ∃S',SkM w w' q p T D S')∨(∃st',tkN S.k (now D nmI) (now D nmN) st (Uw M i)=some st'∧e = .returned (.int .i64 0)∧SkM w w' q p T D { S with ends:=st'.1,chain:=st'.2 })):=fun wr st i hS=>by
  obtain⟨T1,hk,hT,hu⟩:=hS;refine(Qd1 wr hk hd (tx (Uw M i))).mono fun e w' z => ?_
  rw[Jc] at z
  change TkQ wr q p T1 D _ (tkN S.k (now D nmI) (now D nmN) (st.1,st.2) (Uw M i)) e w' at z
  cases ht:tkN S.k (now D nmI) (now D nmN) (st.1,st.2) (Uw M i) with
  | none =>
   rw[ht] at z;exact .inl ⟨rfl,z.1,_,QS hT hu z.2⟩
  | some st' =>
   rw[ht] at z;exact .inr ⟨st',rfl,z.1,QS hT hu z.2⟩
 have HC:Hid (∀wr S',SkM w wr q p T D S'->wr.cell? ⟨q,0,none⟩=some (.pointer (some ⟨p,0,none⟩))):=fun wr S' hS=>by
  obtain⟨T1,hk,_,_⟩:=hS;obtain⟨_,_,⟨c0,_⟩,_⟩:=hk.cells;exact c0
 have HN:Hid (∀i W b,decide (Uw M i=zer 64)=b->Calls prog 153 #[.string (tx (Uw M i))] W fun e w'=>e = .returned (.bool b)∧Below W.heap.size W w'):=fun i W b hb=>QfR W (tx (Uw M i)) b hb
 obtain⟨o,ho⟩:=Ze (Oe S.k (now D nmI) (now D nmN) M);have HA:Hid (∀j,tkA S.k (now D nmI) (now D nmN) M j=none->j<=J3 M->o=none):=fun j h1 h2=>by rw[<-ho];exact Qlc h1 _ h2
 have xG:Hid (∀j st,tkA S.k (now D nmI) (now D nmN) M j=some st->J3 M=j->o=some st):=fun j st h1 h2=>by rw[<-ho,Oe,h2];exact h1
 rw[ho];have xJ:Hid (SkM w w q p T D { S with ends:=[],chain:=0#32 }):=by
  have:({ S with ends:=[],chain:=0#32 } : SV)=S:=by rw[<-h0,<-hc0]
  rw[this];exact SkM.of h (Lb _ _)
 have xH:=Qd (QlO M);rw[hc] at xH;have xI:Hid (∀i,i<c -> ¬(i=c - 1∧Uw M i=zer 64)->i+1<=J3 M):=fun i h1 h2=>QhS (by rw[hc];exact h1) (by rw[hc];exact h2)
 have xN:Hid (∀i,i<c->i=c - 1->Uw M i=zer 64->J3 M=i):=fun i h1 h2 h3=>QhT (by rw[hc];exact h1) (by rw[hc];exact h2) h3
 have xU:c<=4194304:=by omega
 clear h h0 hc0 xM xL hM xA ho hc;generalize M.length=ml at *
 go_enter func92,ntmps92
 go_wp2_with (go_at_call 151;(with_reducible refine HS.out.mono ?_);rintro e w1 ⟨rfl,rfl⟩)
 go_loopg [15] c (fun g x wr => ∃(i:Nat) (st:List Nat×BitVec 32),i<=c∧i<=J3 M∧g=c - i∧x = .int .i64 (i:Int)∧Hid (tkA S.k (now D nmI) (now D nmN) M i=some st)∧Hid (SkM w1 wr q p T D { S with ends:=st.1,chain:=st.2 }))
 case atStart=>go_light;exact⟨0,([],0#32),Ll _,Ll _,rfl,rfl,rfl,xJ⟩
 case round =>
  obtain⟨i,st,hi,xV,rfl,rfl,HI,HT⟩:=hrel;clear xJ;have c0:=HC.out _ _ HT.out
  by_cases hlt:i<c
  ·have hz:(i:Int)<(c:Int):=by omega
   have xQ:IntKind.i64.wrap ((i:Int)*64)=(i:Int)*64:=by rw[Lr];omega
   have xR:IntKind.i64.wrap ((c:Int) - 1)=(c:Int) - 1:=by rw[Lr];omega
   have xS:IntKind.i64.wrap ((i:Int)+1)=(i:Int)+1:=by rw[Lr];omega
   by_cases hl:i=c - 1
   ·have xP:((i:Int) == (c:Int) - 1)=true:=by simp;omega
    have xO:=Qd hl;clear hl
    by_cases hzr:Uw M i=zer 64
    ·have xE:=Qd (fun W=>HN.out i W true (LA hzr))
     have HZ:Hid (∀W W',Below wr.heap.size wr W->Below W.heap.size W W'->TaQ w1 q p T D S o (.returned (.int .i64 0)) W'):=fun W W' h1 h2=>by
      rw[xG.out i st HI.out (xN.out i hlt xO.out hzr)];exact⟨rfl,(HT.out.last h1).last h2⟩
     clear hzr HN
     go_wp2_with (first
      | (go_at_call 152;(with_reducible refine(xF.out _ _ HT.out _ hlt).mono ?_);rintro e w2 ⟨rfl,u2⟩)
      | (go_at_call 153;(with_reducible refine(xE.out _).mono ?_);rintro e w3 ⟨rfl,u3⟩))
     go_ret
     exact HZ.out _ _ u2 u3
    ·have xE:=Qd (fun W=>HN.out i W false (Ls hzr))
     have xB:i+1<=J3 M:=xI.out i hlt (fun h=>hzr h.2)
     clear hzr HN
     go_wp2_with (first
      | (go_at_call 152;(with_reducible refine(xF.out _ _ HT.out _ hlt).mono ?_);rintro e w2 ⟨rfl,u2⟩)
      | (go_at_call 153;(with_reducible refine(xE.out _).mono ?_);rintro e w3 ⟨rfl,u3⟩)
      | (go_at_call 154;(with_reducible refine(xK.out _ _ _ ((HT.out.last u2).last u3)).mono ?_);rintro e w4 (⟨h4,rfl,S4,t4⟩|⟨xC,h4,rfl,t4⟩)))
     ·have HZ:Hid (TaQ w1 q p T D S o (.returned (.int .i64 190)) w4):=by
       rw[HA.out (i+1) (by rw[tkA,HI.out];exact h4) xB]
       exact⟨rfl,S4,t4⟩
      clear h4;go_wp2
      go_ret
      exact HZ.out
     ·have xD:Hid (tkA S.k (now D nmI) (now D nmN) M (i+1)=some xC):=by show _=_;rw[tkA,HI.out];exact h4
      clear h4;go_wp2
      go_roundg (c - (i+1))
      case rel=>go_light;exact⟨i+1,xC,by omega,xB,rfl,by go_num,xD,t4⟩
      case measure=>go_light;omega
   ·have xP:((i:Int) == (c:Int) - 1)=false:=by simp;omega
    have xW : ¬(i:Int)=(c:Int) - 1:=by omega
    have xB:i+1<=J3 M:=xI.out i hlt (fun h=>hl h.1)
    go_wp2_with (first
     | (go_at_call 152;(with_reducible refine(xF.out _ _ HT.out _ hlt).mono ?_);rintro e w2 ⟨rfl,u2⟩)
     | (go_at_call 154;(with_reducible refine(xK.out _ _ _ (HT.out.last u2)).mono ?_);rintro e w4 (⟨h4,rfl,S4,t4⟩|⟨xC,h4,rfl,t4⟩)))
    ·have HZ:Hid (TaQ w1 q p T D S o (.returned (.int .i64 190)) w4):=by
      rw[HA.out (i+1) (by rw[tkA,HI.out];exact h4) xB]
      exact⟨rfl,S4,t4⟩
     clear h4;go_wp2
     go_ret
     exact HZ.out
    ·have xD:Hid (tkA S.k (now D nmI) (now D nmN) M (i+1)=some xC):=by show _=_;rw[tkA,HI.out];exact h4
     clear h4;go_wp2
     go_roundg (c - (i+1))
     case rel=>go_light;exact⟨i+1,xC,by omega,xB,rfl,by go_num,xD,t4⟩
     case measure=>go_light;omega
  ·have hz : ¬(i:Int)<(c:Int):=by omega
   have HZ:Hid (TaQ w1 q p T D S o (.returned (.int .i64 0)) wr):=by
    rw[xG.out i st HI.out (by have:=xH.out;omega)]
    exact⟨rfl,HT.out⟩
   go_wp2
   go_ret
   exact HZ.out
end
end St
end Go.Proofs.YtoblgjledefdbaaGreatDoor
