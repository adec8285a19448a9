/- Own work. -/
import Derived.Test.YtoblgjledefdbaaGreatDoorQm32
set_option maxRecDepth 100000
set_option maxHeartbeats 4000000
namespace Go.Proofs.YtoblgjledefdbaaGreatDoor
open Go.RowKit
attribute [local go_sem ↓] Go.wp_at_zero Go.wp_at_succ
open Go.Proofs.Tryz
def Lg(w:World)(g:Int)(a p:Nat)(U:Nat->Prop)(D:St.DV)(S:St.SV)(L:LB):Prop :=
 ∃q m r vr vs T,Led w g a q p m r vr vs T D S L∧(∀x,U x↔T x∨Lef a m r vr vs x) ∧ ¬U 3
def LgM(w w':World)(g:Int)(a p:Nat)(U:Nat->Prop)(D':St.DV)(S':St.SV)(L':LB):Prop :=
 ∃U',Lg w' g a p U' D' S' L'∧(∀x,U' x->U x∨w.heap.size<=x)∧St.Upo U w w'
theorem Tb.lt{w:World}(ht:Tb w):3<w.heap.size:=QE ht.rs (Qef (by rw[Of];decide))
theorem Tb.upo{w W:World}{U:Nat->Prop}(ht:Tb w)(h:St.Upo U w W)(hn : ¬U 3):Tb W:=by
 refine⟨fun j u hu => ?_⟩
 rw[<-ht.rs j u hu];have:=h.block _ ht.lt hn;simp only[World.cell?,this]
section
variable {w w1 W:World} {g:Int} {a q p m r:Nat} {vr vs:Value} {T U:Nat->Prop} {D D' D2:St.DV} {S S' S2:St.SV} {L L' L2:LB}
theorem Lg.lt(h:Lg w g a p U D S L){x:Nat}(hx:U x):x<w.heap.size:=by
 obtain⟨q,m,r,vr,vs,T,h1,h2,_⟩:=h;exact((h2 x).1 hx).elim h1.sk.lt h1.lt
theorem Lg.own(h:Lg w g a p U D S L):U a:=by
 obtain⟨q,m,r,vr,vs,T,h1,h2,_⟩:=h;exact(h2 a).2 (.inr (.inl rfl))
theorem Lg.same(h:Lg w g a p U D S L)(hb : ∀x,U x->W.heap[x]? = w.heap[x]?):Lg W g a p U D S L:=by
 obtain⟨q,m,r,vr,vs,T,h1,h2,h3⟩:=h;exact⟨q,m,r,vr,vs,T,h1.same (fun x hx=>hb x ((h2 x).2 (.inl hx))) (fun x hx=>hb x ((h2 x).2 (.inr hx))),h2,h3⟩
theorem Lg.next(h:Lg w g a p U D S L)(hb:Below w.heap.size w W):Lg W g a p U D S L:=h.same fun x hx=>hb.block x (h.lt hx)
theorem Lg.lkd(h:Lg w 0 a p U D S L)(hL:Lkd a w W):Lg W 1 a p U D S L:=by
 obtain⟨q,m,r,vr,vs,T,h1,h2,h3⟩:=h;exact⟨q,m,r,vr,vs,T,h1.lkd hL,h2,h3⟩
theorem Lg.set(h:Lg w g a p U D S L)(g':Int):Lg (w.setCell ⟨a,0,none⟩ (.int .i32 g')) g' a p U D S L:=by
 obtain⟨q,m,r,vr,vs,T,h1,h2,h3⟩:=h;exact⟨q,m,r,vr,vs,T,h1.set g',h2,h3⟩
theorem Lg.sk(h:Lg w g a p U D S L) : ∃q T,w.cell? ⟨a,2,none⟩=some (.pointer (some ⟨q,0,none⟩))∧St.Sk w q p T D S:=by
 obtain⟨q,m,r,vr,vs,T,h1,h2,h3⟩:=h;exact⟨q,T,h1.cells.2.1,h1.sk⟩
theorem Lg.row(h:Lg w g a p U D S L) : ∃q m r vs,w.heap[a]? = some (rwL g (.int .u32 0) (some ⟨q,0,none⟩) (.pointer (some ⟨m+1,0,none⟩)) (.pointer (some ⟨r,0,none⟩)) vs)∧Frs w m (S.k:Int) L∧Qi w 0 vs (smL L):=by
 obtain⟨q,m,r,vr,vs,T,h1,h2,h3⟩:=h;exact⟨q,m,r,vs,h1.blk,h1.fr,h1.own⟩
theorem LgM.of(h:Lg w g a p U D S L)(hb:Below w.heap.size w W):LgM w W g a p U D S L:=⟨U,h.next hb,fun _ hx => .inl hx,St.Upo.of hb⟩
theorem Led.add(h:Led w g a q p m r vr vs T D S L)(hm:St.SkM w W q p T D' S')(hk:S'.k=S.k) : ∃T',Led W g a q p m r vr vs T' D' S' L∧(∀x,T' x->T x∨w.heap.size<=x)∧St.Upo T w W:=by
 obtain⟨T',h1,h2,h3⟩:=hm;have xA : ∀x,Lef a m r vr vs x->W.heap[x]? = w.heap[x]? := fun x hx=>h3.block x (h.lt hx) (fun e=>h.ap x e hx)
 refine⟨T',⟨(xA a (.inl rfl)).trans h.blk,h1,?_,?_,St.QF h.own fun x hx=>xA x (.inr (.inr (.inr (.inr (.inr hx))))),h.sz,fun x hx hl => ?_,h.av⟩,h2,h3⟩
 ·rw[hk];exact h.fr.same (xA m (.inr (.inl rfl))) (xA _ (.inr (.inr (.inl rfl))))
 ·rw[hk];exact⟨(xA r (.inr (.inr (.inr (.inl rfl))))).trans h.rg.blk,St.QF h.rg.own fun x hx=>xA x (.inr (.inr (.inr (.inr (.inl hx))))),h.rg.k1,h.rg.k2,h.rg.hn,h.rg.hl,h.rg.hs⟩
 ·rcases h2 x hx with e|e
  ·exact h.ap x e hl
  ·have:=h.lt hl;omega
end
theorem Qi8(D:St.DV)(S:St.SV)(x:List UInt8)(ds:LB):(St.addD D S x ds).2.1.k=S.k:=by
 unfold St.addD
 split
 ·rfl
 ·split <;> rfl
theorem Qci(D:St.DV)(S:St.SV)(x:List UInt8)(ds:LB):((St.addD D S x ds).2.2=0∧(St.addD D S x ds).2.1.ends.length=S.ends.length+1)∨((St.addD D S x ds).2.2≠0∧(St.addD D S x ds).2.1.ends=S.ends):=by
 unfold St.addD
 split
 ·exact .inr ⟨by assumption,rfl⟩
 ·split
  ·exact .inl ⟨rfl,by simp⟩
  ·exact .inr ⟨by assumption,rfl⟩
def aD(D:St.DV)(S:St.SV)(L:LB)(x:BA):St.DV×St.SV×LB×Int :=
 if 1048576<x.size then (D,S,L,100) else if 65536<=S.ends.length then (D,S,L,101) else
 ((St.addD D S x.data.toList (mdL S.k L x)).1,(St.addD D S x.data.toList (mdL S.k L x)).2.1,if (St.addD D S x.data.toList (mdL S.k L x)).2.2=0 then L++[x] else L,(St.addD D S x.data.toList (mdL S.k L x)).2.2)
theorem Qot{w:World}{ao:OA}{b off len:Nat}{ss:LB}(h:RdS w ao b off len ss):St.Rc.RdS w ao b off len ss:=⟨h.hl,h.ptr,h.rng,h.sz⟩
theorem Qd5(f n:Nat):Pl.trl f n<=f:=by
 induction f generalizing n with
 | zero=>exact La _
 | succ f ih =>
  have:=ih (n / 2);simp only[Pl.trl]
  split <;> omega
section
variable {p:Nat} {U:Nat->Prop} {D D':St.DV} {S S':St.SV} {L L':LB}
theorem Oy(w:World)(ht:Tb w)(a:Nat)(h:Lg w 1 a p U D S L)(he:S.ends.length=L.length)(hrm:St.Rm 7 D)(x:BA)(hx:x.size<=9223372036854775807)(e0:Int)(hA:aD D S L x=(D',S',L',e0)) :
  Calls prog 49 #[.pointer (some ⟨a,0,none⟩),.string x] w fun e w'=>e = .returned (.int .i64 e0)∧LgM w w' 1 a p U D' S' L':=by
 obtain⟨q,m,r,vr,vs,T,hl,hU,hn⟩:=h;have xE:Lg w 1 a p U D S L:=⟨q,m,r,vr,vs,T,hl,hU,hn⟩;have xW:=hl.cells.2.1;have yC:=Ln _ _ xW;unfold aD at hA
 by_cases h1:1048576<x.size
 ·rw[Lk h1] at hA;obtain⟨rfl,rfl,rfl,rfl⟩:D=D'∧S=S'∧L=L'∧100=e0:=by injection hA with e1 e2;injection e2 with e2 e3;injection e3 with e3 e4;exact⟨e1,e2,e3,e4⟩
  have hd:decide ((1048576:Int)<(x.size:Int))=true:=LA (by omega)
  have HZ:=Qd xE;clear hA ht hrm hl hU hn xE h1 he
  go_enter func49,ntmps49;go_wp2
  go_ret
  exact⟨rfl,LgM.of HZ.out (Lb _ _)⟩
 rw[Le h1] at hA;have yP:decide ((1048576:Int)<(x.size:Int))=false:=Ls (by omega)
 have xT:Hid (Calls prog 74 #[.pointer (some ⟨q,0,none⟩)] w fun e w'=>e = .returned (.int .u64 (S.ends.length:Int))∧w=w'):=(St.Yo w hl.sk).mono fun e w' z=>⟨z.1,z.2.symm⟩
 by_cases h2:65536<=S.ends.length
 ·rw[Lk h2] at hA;obtain⟨rfl,rfl,rfl,rfl⟩:D=D'∧S=S'∧L=L'∧101=e0:=by injection hA with e1 e2;injection e2 with e2 e3;injection e3 with e3 e4;exact⟨e1,e2,e3,e4⟩
  have hd:decide ((65536:Int)<=(S.ends.length:Int))=true:=LA (by omega)
  have HZ:=Qd xE;clear hA ht hrm hl hU hn xE h1 h2 he
  go_enter func49,ntmps49
  go_wp2_with (go_at_call 74;(with_reducible refine xT.out.mono ?_);rintro e w1 ⟨rfl,rfl⟩)
  go_ret
  exact⟨rfl,LgM.of HZ.out (Lb _ _)⟩
 rw[Le h2] at hA;have yQ:decide ((65536:Int)<=(S.ends.length:Int))=false:=Ls (by omega)
 have k2:=hl.k1;have yD:=hl.clk;obtain⟨DA,xI⟩:=Ze (St.addD D S x.data.toList (mdL S.k L x));rw[xI] at hA;have xK:=Qi8 D S x.data.toList (mdL S.k L x);have xJ:=Qci D S x.data.toList (mdL S.k L x);rw[xI] at xK xJ;obtain⟨D1,S1,e1⟩:=DA;obtain⟨rfl,rfl,yA,rfl⟩:D1=D'∧S1=S'∧(if e1=0 then L++[x] else L)=L'∧e1=e0:=by injection hA with e1 e2;injection e2 with e2 e3;injection e3 with e3 e4;exact⟨e1,e2,e3,e4⟩
 simp only at xK xJ;obtain⟨s,hs⟩:=Ze (sm x);have xZ:Hid (Calls prog 95 #[.pointer (some ⟨a,0,none⟩),.string x] w (NxQ w S.k L x)):=Js w ht a m r vr S.k L hl.fr hl.rg yD hl.cells.2.2.1 hl.cells.2.2.2.1 x (by omega) (by omega)
 have yK:(mdL S.k L x).length<=1000:=by rw[OP];have:=Qd5 40 L.length;omega
 have xX:Hid (∀W va vn vc,Below w.heap.size w W->Qi W w.heap.size (.slice va vn vc) (mdL S.k L x)->Calls prog 100 #[.pointer (some ⟨q,0,none⟩),.string x,.slice va vn vc] W fun e w'=>e = .returned (.int .i64 e1)∧St.SkM W w' q p T D1 S1):=fun W va vn vc hW ho=>by
  obtain⟨ao,b,yN,hv,hr,_,_⟩:=QR ho (fun y hy=>by rw[QfY k2.2 L x y hy];omega)
  injection hv with e1 e2 e3
  subst e1 e2 e3;exact St.Oy W (hl.sk.next hW) hrm x hx va b 0 _ vc (mdL S.k L x) (Qot hr) (by omega) D1 S1 e1 xI
 have HC:Hid (∀W,Below w.heap.size w W->W.cell? ⟨a,2,none⟩=some (.pointer (some ⟨q,0,none⟩))):=fun W hW=>(hW.cell (p:=⟨a,2,none⟩) yC).trans xW
 have HU:=Qd hU;have xB:=Qd hn;have xA:=Qd hl;have xQ:=Qd yA;have xG:=Qd xK;have yI:=Qd xJ;have xY:=Qd he;have xS:=Qd hs;have xU:=Qd (L6 h1 h2);have xH:=Qd ht;clear hU hn hl yA xK xJ he hs hx h1 h2 ht hA xI yK yD k2 hrm xE yC
 go_enter func49,ntmps49
 go_upto_region 6 with (first
  | (go_at_call 74;(with_reducible refine xT.out.mono ?_);rintro e w1 ⟨rfl,rfl⟩)
  | (go_at_call 95;(with_reducible refine xZ.out.mono ?_);rintro e w1 ⟨vm,r',xM,rfl,om,yE,lr,lv,u1⟩;obtain⟨va,vn,vc,rfl⟩:=YC om;rw[xS.out]))
 obtain⟨b0,xV⟩:=Ze w1.heap.size;obtain⟨w2,xL⟩:=Ze (w1.alloc (.cells #[.string x,.string s,.slice va vn vc,.pointer (some ⟨r',0,none⟩)] 175));have k2:w2.heap[b0]? = some (.cells #[.string x,.string s,.slice va vn vc,.pointer (some ⟨r',0,none⟩)] 175 (0,0)):=by rw[<-xL,<-xV];exact LH w1 _
 have u2:Below w1.heap.size w1 w2:=by rw[<-xL];exact bal (Lb _ _) _
 have z2:=(Array.getElem?_eq_some_iff.1 k2).1
 have v2:Below w.heap.size w w2:=Qa u1 u2;have o2:Qi w2 w.heap.size (.slice va vn vc) (mdL S.k L x):=Qv om u2 (La _);have yH:=Qd xV;have g2:Kp.Rg w2 r' xM (S.k:Int) (L.length+1) (pkL S.k (L++[x])):=yE.next u2 (La _);have yJ:=Qd xL;have xF:Hid (∀W,Below w2.heap.size w2 W->W.cell? ⟨a,2,none⟩=some (.pointer (some ⟨q,0,none⟩))∧W.cell? ⟨b0,2,none⟩=some (.slice va vn vc)):=fun W hW=>⟨HC.out W (Qa v2 hW),by rw[cell_of_row W b0 2 _ _ (0,0) ((hW.block _ z2).trans k2)];rfl⟩
 have xN:Hid (∀W,Below w2.heap.size w2 W->Calls prog 100 #[.pointer (some ⟨q,0,none⟩),.string x,.slice va vn vc] W fun e w'=>e = .returned (.int .i64 e1)∧St.SkM w2 w' q p T D1 S1):=fun W hW=>(xX.out W va vn vc (Qa v2 hW) (QN (Qv o2 hW (La _)) (La _))).mono fun e w' z=>⟨z.1,St.SkM.first hW z.2⟩
 have xC:Hid (∀W,St.SkM w2 W q p T D1 S1->W.cell? ⟨a,2,none⟩=some (.pointer (some ⟨q,0,none⟩))∧W.heap[b0]? = some (.cells #[.string x,.string s,.slice va vn vc,.pointer (some ⟨r',0,none⟩)] 175 (0,0))):=fun W hW=>by
  obtain⟨T',t1,t2,t3⟩:=hW;have hT : ∀b,T b->b<w.heap.size:=fun b hb=>xA.out.sk.lt hb
  exact⟨(LD (a:=⟨a,2,none⟩) (t3.block a (by have:=v2.size;have:=xA.out.lt (x:=a) (.inl rfl);omega) (fun e=>xA.out.ap a e (.inl rfl)))).trans (HC.out w2 v2),(t3.block _ z2 (fun e=>by have:=hT _ e;have:=u1.size;omega)).trans k2⟩
 have xP:Hid (∀W,St.SkM w2 W q p T D1 S1->W.cell? ⟨a,2,none⟩=some (.pointer (some ⟨q,0,none⟩))∧W.cell? ⟨b0,2,none⟩=some (.slice va vn vc)):=fun W hW=>⟨(xC.out W hW).1,by rw[cell_of_row W b0 2 _ _ (0,0) (xC.out W hW).2];rfl⟩
 have xO:Hid (∀W,¬e1=0->St.SkM w2 W q p T D1 S1->LgM w W 1 a p U D1 S1 L'):=fun W h0 hW=>by
  obtain⟨T',t1,t2,t3⟩:=(xA.out.next v2).add hW xG.out;have xD:=xQ.out;rw[Le h0] at xD;subst xD;refine⟨fun y=>T' y∨Lef a m r vr vs y,⟨q,m,r,vr,vs,T',t1,fun _=>Iff.rfl,fun e => ?_⟩,fun y hy => ?_,(St.Upo.of v2).trans t3 fun y _ ht=>(HU.out y).2 (.inl ht)⟩
  ·rcases e with e|e
   ·rcases t2 _ e with e|e
    ·exact xB.out ((HU.out _).2 (.inl e))
    ·have:=xH.out.lt;have:=v2.size;omega
   ·exact xB.out ((HU.out _).2 (.inr e))
  ·rcases hy with e|e
   ·exact(t2 y e).imp (fun e=>(HU.out y).2 (.inl e)) (fun e=>Lu v2.size e)
   ·exact .inl ((HU.out y).2 (.inr e))
 have xR:Hid (∀W,e1=0->St.SkM w2 W q p T D1 S1->Calls prog 97 #[.pointer (some ⟨a,0,none⟩),.agg #[.string x,.string s,.slice va vn vc,.pointer (some ⟨r',0,none⟩)]] W fun e w'=>e = .returned (.tuple #[])∧LgM w w' 1 a p U D1 S1 L'):=fun W h0 hW=>by
  obtain⟨T',t1,t2,t3⟩:=(xA.out.next v2).add hW xG.out;have xD:=xQ.out;rw[Lk h0] at xD;have yB : ∀y,T' y->y<w.heap.size∨w2.heap.size<=y:=fun y hy=>(t2 y hy).imp (fun e=>xA.out.sk.lt e) id
  have nw:Nw W T' vs S1 L x r' xM:=by
   refine⟨?_,fun e => ?_,fun b hb=>⟨fun e => ?_,fun e => ?_⟩⟩
   ·rw[xG.out];exact⟨(t3.block _ g2.lt (fun e=>by have:=xA.out.sk.lt e;omega)).trans g2.blk,St.QF g2.own fun b hb=>t3.block b (UE g2.own hb) (fun e=>by have:=xA.out.sk.lt e;have:=lv b hb;omega),g2.k1,g2.k2,g2.hn,g2.hl,g2.hs⟩
   ·have:=g2.lt;rcases yB _ e with e|e <;> omega
   ·have:=UE g2.own hb;have:=lv b hb;rcases yB _ e with e|e <;> omega
   ·have:=lv b hb;have:=UE xA.out.own e;omega
  have yM:Tb W:=(xH.out.next v2).upo t3 fun e=>xB.out ((HU.out _).2 (.inl e))
  have yF:=QcC W yM t1 (by have:=xU.out.2;have:=xY.out;omega) (by have:=xU.out.1;omega) nw va vn vc
  rw[xS.out] at yF;refine yF.mono fun e w' z=>⟨z.1,?_⟩
  obtain⟨yG,y1,y2,y3⟩:=z.2;rw[xD] at y1;refine⟨fun y=>T' y∨Lef a m r' xM yG y,⟨q,m,r',xM,yG,T',y1,fun _=>Iff.rfl,fun e => ?_⟩,fun y hy => ?_,((St.Upo.of v2).trans t3 fun y _ ht=>(HU.out y).2 (.inl ht)).trans y2 fun y _ ht=>(HU.out y).2 (.inr ht)⟩
  ·have yR:=xH.out.lt;have h3:=t3.size;have yL:=v2.size
   rcases e with e|e|e|e|e|e|e
   ·rcases t2 _ e with e|e
    ·exact xB.out ((HU.out _).2 (.inl e))
    ·omega
   ·exact xB.out ((HU.out _).2 (.inr (.inl e)))
   ·exact xB.out ((HU.out _).2 (.inr (.inr (.inl e))))
   ·exact xB.out ((HU.out _).2 (.inr (.inr (.inr (.inl e)))))
   ·omega
   ·have:=lv _ e;omega
   ·rcases y3 _ e with e|e
    ·exact xB.out ((HU.out _).2 (.inr (.inr (.inr (.inr (.inr (.inr e)))))))
    ·omega
  ·have h3:=t3.size;have yL:=v2.size
   rcases hy with e|e|e|e|e|e|e
   ·exact(t2 y e).imp (fun e=>(HU.out y).2 (.inl e)) (fun e=>by omega)
   ·exact .inl ((HU.out y).2 (.inr (.inl e)))
   ·exact .inl ((HU.out y).2 (.inr (.inr (.inl e))))
   ·exact .inl ((HU.out y).2 (.inr (.inr (.inr (.inl e)))))
   ·exact .inr (by omega)
   ·exact .inr (lv y e)
   ·exact(y3 y e).imp (fun e=>(HU.out y).2 (.inr (.inr (.inr (.inr (.inr (.inr e))))))) (fun e=>by omega)
 obtain⟨d1,d2⟩:=xF.out w2 (Lb _ _);have u:Below w2.heap.size w2 w2.drew:=(Lb _ _).drew;rw[yJ.out,yH.out];clear k2 z2 v2 u2 u1 o2 om g2 yE lr lv xX xV xL xA HU xB xQ xG yI xY xS xU xH xW xT xZ HC
 go_region_held3 (fun Z=>Z.cell? ⟨a,2,none⟩=some (.pointer (some ⟨q,0,none⟩))∧Z.cell? ⟨b0,2,none⟩=some (.slice va vn vc)) (first|assumption|(with_reducible exact xP.out _ t3)|(with_reducible exact xF.out _ u)) (first
  | (go_at_call 100;(with_reducible refine(xN.out _ u).mono ?_);rintro e w3 ⟨rfl,t3⟩))
 all_goals
  by_cases h0:e1=0
  ·have HT:=Qd (xR.out w3 h0 t3);have k3:=(xC.out w3 t3).2;have y0:w3.cell? ⟨b0,0,none⟩=some (.string x):=by rw[cell_of_row w3 b0 0 _ _ (0,0) k3];rfl
   have y1:w3.cell? ⟨b0,1,none⟩=some (.string s):=by rw[cell_of_row w3 b0 1 _ _ (0,0) k3];rfl
   have y2:w3.cell? ⟨b0,2,none⟩=some (.slice va vn vc):=by rw[cell_of_row w3 b0 2 _ _ (0,0) k3];rfl
   have y3:w3.cell? ⟨b0,3,none⟩=some (.pointer (some ⟨r',0,none⟩)):=by rw[cell_of_row w3 b0 3 _ _ (0,0) k3];rfl
   clear xR xO xC xP xF xN t3 k3 d1 d2;subst h0
   go_wp2_with (go_at_call 97;(with_reducible refine HT.out.mono ?_);rintro e w4 ⟨rfl,t4⟩)
   go_ret
   exact⟨rfl,t4⟩
  ·have HT:=Qd (xO.out w3 h0 t3);have yO:(e1 == 0)=false:=by simpa using h0
   clear xR xO xC xP xF xN t3 d1 d2;go_wp2
   go_ret
   exact⟨rfl,HT.out⟩
end
def apD:St.DV->St.SV->LB->LB->St.DV×St.SV×LB×Nat×Int
 | D,S,L,[]=>(D,S,L,0,0)
 | D,S,L,x::xs=>if (aD D S L x).2.2.2=0 then
   ((apD (aD D S L x).1 (aD D S L x).2.1 (aD D S L x).2.2.1 xs).1,(apD (aD D S L x).1 (aD D S L x).2.1 (aD D S L x).2.2.1 xs).2.1,(apD (aD D S L x).1 (aD D S L x).2.1 (aD D S L x).2.2.1 xs).2.2.1,(apD (aD D S L x).1 (aD D S L x).2.1 (aD D S L x).2.2.1 xs).2.2.2.1+1,(apD (aD D S L x).1 (aD D S L x).2.1 (aD D S L x).2.2.1 xs).2.2.2.2)
  else ((aD D S L x).1,(aD D S L x).2.1,(aD D S L x).2.2.1,0,(aD D S L x).2.2.2)
def RmA:St.DV->St.SV->LB->LB->Prop
 | _,_,_,[]=>True
 | D,S,L,x::xs=>St.Rm 7 D∧((aD D S L x).2.2.2=0->RmA (aD D S L x).1 (aD D S L x).2.1 (aD D S L x).2.2.1 xs)
theorem Qlv(D:St.DV)(S:St.SV)(L:LB)(x:BA)(he:S.ends.length=L.length):(aD D S L x).2.1.ends.length=(aD D S L x).2.2.1.length∧(aD D S L x).2.1.k=S.k:=by
 unfold aD
 split
 ·exact⟨he,rfl⟩
 ·split
  ·exact⟨he,rfl⟩
  ·refine⟨?_,Qi8 ..⟩
   rcases Qci D S x.data.toList (mdL S.k L x) with ⟨e1,e2⟩|⟨e1,e2⟩
   ·simp only[e1,if_true,e2,List.length_append,List.length_cons,List.length_nil,he]
   ·simp only[if_neg e1,e2,he]
section
variable {w W:World} {a p:Nat} {U:Nat->Prop} {D D' D0:St.DV} {S S' S0:St.SV} {L L' L0:LB} {g:Int}
theorem LgM.cell{b i:Nat}{v:Value}(h:LgM w W g a p U D S L)(hc:w.cell? ⟨b,i,none⟩=some v)(hb : ¬U b):W.cell? ⟨b,i,none⟩=some v:=by
 obtain⟨U',h1,h2,h3⟩:=h;exact(LD (a:=⟨b,i,none⟩) (h3.block b (Ln _ _ hc) hb)).trans hc
theorem LgM.rds{ao:OA}{b off len:Nat}{xs:LB}(h:LgM w W g a p U D S L)(hr:RdS w ao b off len xs)(hb:0<len -> ¬U b):RdS W ao b off len xs :=
 ⟨hr.hl,hr.ptr,fun j v hv=>h.cell (hr.rng j v hv) (hb (by have:=(List.getElem?_eq_some_iff.1 hv).1;rw[Nc] at this;have:=hr.hl;omega)),hr.sz⟩
theorem LgM.tb(h:LgM w W g a p U D S L)(h0:Lg w g a p U D0 S0 L0)(ht:Tb w):Tb W:=by
 obtain⟨U',h1,h2,h3⟩:=h;obtain⟨_,_,_,_,_,_,_,_,hn⟩:=h0;exact ht.upo h3 hn
theorem Qeb(w:World)(ht:Tb w)(h:Lg w 1 a p U D S L)(he:S.ends.length=L.length)(bi bl:Nat)(ao:OA)(b len cap:Nat)(xs:LB)(hr:RdS w ao b 0 len xs)(hlen:len<=9223372036854775806)
  (ci:w.cell? ⟨bi,0,none⟩=some (.slice ao len cap)) (cl:w.cell? ⟨bl,0,none⟩=some (.pointer (some ⟨a,0,none⟩))) (n1 : ¬U bi) (n2 : ¬U bl) (n3:0<len -> ¬U b) (hR:RmA D S L xs) (n:Nat) (e0:Int) (hA:apD D S L xs=(D',S',L',n,e0)) :
  Calls prog 48 #[.pointer (some ⟨bi,0,none⟩),.pointer (some ⟨bl,0,none⟩)] w fun e w'=>e = .returned (.tuple #[.int .i64 (n:Int),.int .i64 e0])∧LgM w w' 1 a p U D' S' L':=by
 have xB:=hr.hl;have HC:Hid (∀W Di Si Li,LgM w W 1 a p U Di Si Li->W.cell? ⟨bi,0,none⟩=some (.slice ao len cap)∧W.cell? ⟨bl,0,none⟩=some (.pointer (some ⟨a,0,none⟩))∧RdS W ao b 0 len xs):=fun W Di Si Li hW=>⟨hW.cell ci n1,hW.cell cl n2,hW.rds hr n3⟩
 have HA:Hid (∀W Di Si Li x Dj Sj Lj ej,LgM w W 1 a p U Di Si Li->Si.ends.length=Li.length->St.Rm 7 Di->x.size<=9223372036854775807->aD Di Si Li x=(Dj,Sj,Lj,ej)->Calls prog 49 #[.pointer (some ⟨a,0,none⟩),.string x] W fun e w'=>e = .returned (.int .i64 ej)∧LgM w w' 1 a p U Dj Sj Lj):=fun W Di Si Li x Dj Sj Lj ej hW g1 g2 g3 g4=>by
  obtain⟨U1,y1,y2,y3⟩:=hW;exact(Oy W (LgM.tb ⟨U1,y1,y2,y3⟩ h ht) a y1 g1 g2 x g3 ej g4).mono fun e w' z=>by
   obtain⟨U2,z1,z2,z3⟩:=z.2;exact⟨z.1,U2,z1,fun y hy=>(z2 y hy).elim (y2 y) (fun e => .inr (Lu y3.size e)),y3.trans z3 fun y _ ht=>(y2 y ht).elim id (fun e=>by omega)⟩
 have HM:=Qd (LgM.of h (Lb _ _));have HQ:=Qd (L6 he (L6 hR hA));have xC:=hr.ptr;clear h he hR hA hr n1 n2 n3
 go_enter func48,ntmps48;go_wp2
 go_loopg [9] len (fun g x wr => ∃(j m:Nat) (Di:St.DV) (Si:St.SV) (Li:LB),j<=len∧g=len - j∧x = .int .i64 (j:Int)∧Hid (LgM w wr 1 a p U Di Si Li)∧Hid (Si.ends.length=Li.length∧RmA Di Si Li (xs.drop j)∧apD Di Si Li (xs.drop j)=(D',S',L',m,e0)∧j+m=n))
 case atStart=>go_light;exact⟨0,n,D,S,L,Ll _,rfl,rfl,HM,HQ.out.1,HQ.out.2.1,HQ.out.2.2,Lm _⟩
 case round =>
  clear HM HQ ci cl;obtain⟨j,m,Di,Si,Li,hj,rfl,rfl,HM,HQ⟩:=hrel;obtain⟨ci,cl,hr⟩:=HC.out wr Di Si Li HM.out
  by_cases hlt:j<len
  ·have xG:(j:Int)<(len:Int):=by omega
   obtain rfl:=xC (by omega)
   obtain⟨x,hx⟩:=Ze (xs.getD j ByteArray.empty);have c0:=hr.at hlt;rw[hx,Lm] at c0;obtain⟨q1,q2,q3,q4⟩:=HQ.out;have hd:xs.drop j=x::xs.drop (j+1):=by
    rw[LN (by omega),<-hx,Ld,Lh (by omega)];rfl
   rw[hd] at q2 q3;have xD:x.size<=9223372036854775807:=hr.sz x (by rw[<-hx,Ld,Lh (by omega)];exact L3 _)
   obtain⟨Dj,Sj,Lj,ej,xA⟩ : ∃Dj Sj Lj ej,aD Di Si Li x=(Dj,Sj,Lj,ej):=⟨_,_,_,_,rfl⟩;have ha:=Qlv Di Si Li x q1;rw[xA] at ha;have xE:=Qd (HA.out wr Di Si Li x Dj Sj Lj ej HM.out q1 q2.1 xD xA);unfold RmA at q2;unfold apD at q3;rw[xA] at q2 q3;have xH:IntKind.i64.wrap ((j:Int)+1)=((j+1:Nat):Int):=by rw[Lr];omega
   by_cases h0:ej=0
   ·subst h0;simp only[if_true] at q3;obtain⟨m',xF⟩ : ∃m',m=m'+1:=by
     injection q3 with _ q3;injection q3 with _ q3;injection q3 with _ q3;injection q3 with q3 _
     exact⟨_,q3.symm⟩
    subst xF;have HN:Hid (Sj.ends.length=Lj.length∧RmA Dj Sj Lj (xs.drop (j+1))∧apD Dj Sj Lj (xs.drop (j+1))=(D',S',L',m',e0)∧(j+1)+m'=n):=by
     refine⟨ha.1,q2.2 rfl,?_,by omega⟩
     generalize apD Dj Sj Lj (xs.drop (j+1))=y at q3;obtain⟨y1,y2,y3,y4,y5⟩:=y;injection q3 with e1 q3;injection q3 with e2 q3;injection q3 with e3 q3;injection q3 with e4 q3
     simp only at e1 e2 e3 e4 q3;rw[e1,e2,e3,q3,show y4=m' by omega]
    clear q1 q2 q3 q4 hd hx xD xA ha HQ HM HA hr xB
    go_wp2_with (go_at_call 49;(with_reducible refine xE.out.mono ?_);rintro e w2 ⟨rfl,t2⟩)
    go_roundg (len - (j+1))
    case rel=>go_light;exact⟨j+1,m',Dj,Sj,Lj,by omega,rfl,rfl,t2,HN⟩
    case measure=>go_light;omega
   ·simp only[if_neg h0] at q3;obtain⟨rfl,rfl,rfl,rfl,rfl⟩:Dj=D'∧Sj=S'∧Lj=L'∧0=m∧ej=e0:=by injection q3 with e1 q3;injection q3 with e2 q3;injection q3 with e3 q3;injection q3 with e4 q3;exact⟨e1,e2,e3,e4,q3⟩
    have xI:(ej == 0)=false:=by simpa using h0
    obtain rfl:j=n:=by omega
    clear q1 q2 q3 q4 hd hx xD xA ha HQ HM HA hr xB HC
    go_wp2_with (go_at_call 49;(with_reducible refine xE.out.mono ?_);rintro e w2 ⟨rfl,t2⟩)
    go_ret2
    exact⟨rfl,t2⟩
  ·have xG : ¬(j:Int)<(len:Int):=by omega
   obtain rfl:j=len:=by omega
   obtain⟨q1,q2,q3,q4⟩:=HQ.out;rw[<-xB,II] at q3;obtain⟨rfl,rfl,rfl,rfl,rfl⟩:Di=D'∧Si=S'∧Li=L'∧0=m∧0=e0:=by injection q3 with e1 q3;injection q3 with e2 q3;injection q3 with e3 q3;injection q3 with e4 q3;exact⟨e1,e2,e3,e4,q3⟩
   obtain rfl:j=n:=by omega
   clear q1 q2 q3 q4 HQ HA hr xB HC;go_wp2
   go_ret2
   exact⟨rfl,HM.out⟩
end
section
variable {w W W1:World} {a p:Nat} {U:Nat->Prop} {D D':St.DV} {S S':St.SV} {L L':LB} {g:Int}
theorem LgM.whole(h:Lg w 0 a p U D S L)(hb:Below w.heap.size w W)(hm:LgM (W.setCell ⟨a,0,none⟩ (.int .i32 1)) W1 1 a p U D' S' L'):LgM w (W1.setCell ⟨a,0,none⟩ (.int .i32 0)) 0 a p U D' S' L':=by
 obtain⟨U',h1,h2,h3⟩:=hm;have q1:St.Upo U w (W.setCell ⟨a,0,none⟩ (.int .i32 1)):=(St.Upo.of hb).set a 0 _ (.inl h.own);have hz:(W.setCell ⟨a,0,none⟩ (.int .i32 1)).heap.size=W.heap.size:=by simp
 refine⟨U',h1.set 0,fun x hx=>(h2 x hx).imp id (fun e => ?_),(q1.trans h3 fun _ _ e=>e).set a 0 _ (.inl h.own)⟩
 have:=hb.size;omega
theorem Lg.inn(h:Lg w 1 a p U D S L):w.cell? ⟨a,0,none⟩=some (.int .i32 1)∧w.frozen? ⟨a,0,none⟩=false:=by
 obtain⟨q,m,r,vs,h1,_⟩:=h.row;obtain⟨c,_,_,_,_,f⟩:=Yc h1;exact⟨c,f 0⟩
theorem LgM.inn(h:LgM w W 1 a p U D S L):W.cell? ⟨a,0,none⟩=some (.int .i32 1)∧W.frozen? ⟨a,0,none⟩=false:=by
 obtain⟨U',h1,_⟩:=h;exact h1.inn
theorem QaK(w:World)(ht:Tb w)(h:Lg w 0 a p U D S L)(he:S.ends.length=L.length)(ao:OA)(b len cap:Nat)(xs:LB)(hr:RdS w ao b 0 len xs)(hlen:len<=9223372036854775806)(n3:0<len -> ¬U b)(hR:RmA D S L xs)(n:Nat)(e0:Int)(hA:apD D S L xs=(D',S',L',n,e0)) :
  Calls prog 14 #[.pointer (some ⟨a,0,none⟩),.slice ao len cap] w fun e w'=>e = .returned (.tuple #[.int .i64 (n:Int),.int .i64 e0])∧LgM w w' 0 a p U D' S' L':=by
 obtain⟨w1,xC⟩:=Ze ((w.alloc (.cells #[.pointer (some ⟨a,0,none⟩)] 27)).alloc (.cells #[.slice ao len cap] 22));have u1:Below w.heap.size w w1:=by rw[<-xC];exact bal (bal (Lb _ _) _) _
 have k0:w1.heap[w.heap.size]? = some (.cells #[.pointer (some ⟨a,0,none⟩)] 27 (0,0)):=by rw[<-xC];exact St.new0 _ _ _
 have k1:w1.heap[w.heap.size+1]? = some (.cells #[.slice ao len cap] 22 (0,0)):=by rw[<-xC];exact St.new2 _ _ _
 have h1:=h.next u1;obtain⟨q,m,r,vs,xB,_⟩:=h1.row;obtain⟨c0,c2,_,_,_,cf⟩:=Yc xB;have xI:=h.lt h.own;have xA : ∀b,b≠a->(w1.setCell ⟨a,0,none⟩ (.int .i32 1)).heap[b]? = w1.heap[b]? := fun b hb=>Below.heap_setCell _ _ _ _ hb
 have xD : ∀b,w.heap.size<=b -> ¬U b:=fun b hb hu=>by have:=h.lt hu;omega
 have HW:Hid (Calls prog 47 #[.pointer (some ⟨a,0,none⟩),.func (.func 48) #[] #[.pointer (some ⟨w.heap.size+1,0,none⟩),.pointer (some ⟨w.heap.size,0,none⟩)]] w1 fun e w'=>e = .returned (.tuple #[.int .i64 (n:Int),.int .i64 e0])∧LgM w w' 0 a p U D' S' L'):=by
  refine(QgC w1 a q _ _ (.inl rfl) c0 (cf 0) c2 (fun x y W=>x = .int .i64 (n:Int)∧y = .int .i64 e0∧LgM (w1.setCell ⟨a,0,none⟩ (.int .i32 1)) W 1 a p U D' S' L') ?_).mono fun e w' z => ?_
  ·have t1:Tb (w1.setCell ⟨a,0,none⟩ (.int .i32 1)):=(ht.next u1).upo (U:=U) ((St.Upo.refl U w1).set a 0 _ (.inl h.own)) (by obtain⟨_,_,_,_,_,_,_,_,hn⟩:=h;exact hn)
   have hx:=hr.hl;refine(Qeb (w1.setCell ⟨a,0,none⟩ (.int .i32 1)) t1 (h1.set 1) he (w.heap.size+1) w.heap.size ao b len cap xs ⟨hr.hl,hr.ptr,fun j v hv => ?_,hr.sz⟩ hlen ?_ ?_ (xD _ (by omega)) (xD _ (by omega)) n3 hR n e0 hA).mono fun e w' z => ?_
   ·have hc:=hr.rng j v hv;have xH:=Ln _ _ hc;have xF : ¬U b:=n3 (by have:=(List.getElem?_eq_some_iff.1 hv).1;rw[Nc] at this;omega)
    have xG:b≠a:=fun e=>xF (e ▸ h.own)
    exact(LD (a:=⟨b,0+j,none⟩) ((xA b xG).trans (u1.block b xH))).trans hc
   ·rw[cell_of_row _ (w.heap.size+1) 0 _ _ (0,0) ((xA _ (by omega)).trans k1)];rfl
   ·rw[cell_of_row _ w.heap.size 0 _ _ (0,0) ((xA _ (by omega)).trans k0)];rfl
   ·exact⟨_,_,z.1,z.2.inn.1,z.2.inn.2,rfl,rfl,z.2⟩
  ·obtain⟨x,y,w2,rfl,⟨rfl,rfl,z2⟩,rfl⟩:=z;exact⟨rfl,LgM.whole h u1 z2⟩
 have b0:w1.cell? ⟨w.heap.size,0,none⟩=some (.pointer (some ⟨a,0,none⟩)):=by rw[cell_of_row _ _ 0 _ _ (0,0) k0];rfl
 clear ht h he hr hR hA h1 k1 xB c0 c2 cf xA xD n3 u1 k0;have xE:=Qd xC;clear xC
 go_enter func14,ntmps14
 go_upto_region 1 with (fail)
 rw[xE.out]
 go_wp2_with (go_at_call 47;(with_reducible refine HW.out.mono ?_);rintro e w2 ⟨rfl,t2⟩)
 go_ret2
 exact⟨rfl,t2⟩
end
end Go.Proofs.YtoblgjledefdbaaGreatDoor
