/- Own work. -/
import Derived.Test.YtoblgjledefdbaaGreatDoorQm31
set_option maxRecDepth 100000
set_option maxHeartbeats 2000000
namespace Go.Proofs.YtoblgjledefdbaaGreatDoor
open Go.RowKit
attribute [local go_sem ↓] Go.wp_at_zero Go.wp_at_succ
open Go.Proofs.Tryz
theorem Ql2(w:World)(s:BA):(Instr.field 315 (.agg #[.string s]) 0).run prog w = .ok (.string s) w:=by kernel_rfl
structure Ap(w wr:World)(m:Nat)(k:Int)(L:LB)(x:BA)(j:Nat)(v:Value):Prop where
 blk:wr.heap[m+1]? = some (.cells #[.int .i64 k,.int .u64 ((L.length+1:Nat):Int),.map (some m)] 172 (0,0))
 lst:wr.heap[w.heap.size]? = some (.cells #[.int .i64 (j:Int),.int .u64 (((L.length+1) / 2^j - 1:Nat):Int)] 249 (0,0))
 mp:Mp wr m (fj (clk k) L x j)
 own:Qi wr (w.heap.size+1) v (nw (clk k) (L++[x]) j)
 ch:Chf m w wr
theorem QfM(w:World)(ht:Tb w)(m:Nat)(k:Int)(L:LB)(hF:Frs w m k L)(s:BA)(hs:s.size<=1048576)(hL:L.length<65536)(t:Nat)(hT:tr 64 (L.length+1)=t) :
  Calls prog 163 #[.pointer (some ⟨m+1,0,none⟩),.string s] w fun e w' => ∃v,e = .returned (.tuple #[v,.int .i64 0])∧Frs w' m k (L++[s])∧Qi w' w.heap.size v (nw (clk k) (L++[s]) t)∧Chf m w w':=by
 have h1:decide ((1048576:Int)<(s.size:Int))=false:=Ls (by omega)
 have h2:decide ((65536:Int)<=(L.length:Int))=false:=Ls (by omega)
 have c1:=hF.c1;have f1:=hF.fz 1;have zS:=hF.lt;have zV:IntKind.u64.wrap ((L.length:Int)+1)=((L.length+1:Nat):Int):=by rw[Qd6 _ (by omega) (by omega)];omega
 obtain⟨d0,yL⟩:=Ze (dg (clk k) (Uf s));have yU:Hid (∀W,Tb W->Calls prog 145 #[.int .i64 k,.string s] W fun e w'=>e = .returned (.string d0)∧Below W.heap.size W w'):=fun W hT=>Qez W hT k s (by omega) d0 yL
 go_enter func163,ntmps163
 go_upto_region 7 with (fail)
 obtain⟨w0,xY⟩:=Ze ((w.setCell ⟨m+1,1,none⟩ (.int .u64 ((L.length:Int)+1))).alloc (.cells #[.int .i64 0,.int .u64 (L.length:Int)] 249));rw[xY];have xL:(w.setCell ⟨m+1,1,none⟩ (.int .u64 ((L.length:Int)+1))).heap.size=w.heap.size:=by simp
 have yI : ∀q,q<w.heap.size->w0.heap[q]? = (w.setCell ⟨m+1,1,none⟩ (.int .u64 ((L.length:Int)+1))).heap[q]? := fun q hq=>by
  rw[<-xY];exact(MapKept.heap_alloc _ _).2 q (by rw[xL];exact hq)
 have xD:w0.heap[m+1]? = some (.cells #[.int .i64 k,.int .u64 ((L.length:Int)+1),.map (some m)] 172 (0,0)):=by
  rw[yI _ zS];exact Lp w (m+1) 1 _ 172 (.int .u64 ((L.length:Int)+1)) hF.blk
 have xG:w0.heap[w.heap.size]? = some (.cells #[.int .i64 0,.int .u64 (L.length:Int)] 249 (0,0)):=by
  have:=LH (w.setCell ⟨m+1,1,none⟩ (.int .u64 ((L.length:Int)+1))) (.cells #[.int .i64 0,.int .u64 (L.length:Int)] 249);rw[xL,xY] at this;exact this
 have xW:Mp w0 m (ff (clk k) L):=hF.mp.same (by rw[yI m (by omega)];exact Below.heap_setCell _ _ _ _ (by simp))
 have yR:w.heap.size<w0.heap.size:=(Array.getElem?_eq_some_iff.1 xG).1
 have xJ:Chf m w w0:=by
  have h:=(Chf.refl m w).set (b:=m+1) 1 (.int .u64 ((L.length:Int)+1)) (.inl rfl) (by omega)
  have:=h.next (w2:=w0) (by rw[<-xY];exact bal (Lb _ _) _) (by omega)
  exact this
 have c0:w0.cell? ⟨m+1,0,none⟩=some (.int .i64 k):=by rw[cell_of_row w0 (m+1) 0 _ _ (0,0) xD];rfl
 have xP:=ht.chf hF xJ;have zO:Hid (∀W,Chf m w W->Tb W):=fun W hc=>ht.chf hF hc
 clear xY xL yI c1 f1 h1 h2 zV
 go_upto_region 8 with (go_at_call 145;with_reducible refine(yU.out _ xP).mono ?_;rintro e w1 ⟨rfl,xQ⟩)
 have xE:w1.heap[m+1]? = _:=(xQ.block (m+1) (by omega)).trans xD
 have xB:w1.heap[w.heap.size]? = _:=(xQ.block w.heap.size yR).trans xG;have xX:=xW.same (xQ.block m (by omega))
 have xT:=xJ.next xQ (by omega)
 obtain⟨es,cl,xM,xI⟩:=(xX.same (W:=w1.drew) rfl).write (h:=0) (k:=L.length) ⟨⟨by omega,by omega⟩,by omega⟩ d0
 have xH:nd (clk k) (L++[s]) 0 L.length=d0:=by rw[nd,<-yL];simp
 rw[<-xH,QjO] at xI;have xK:Chf m w (ChangeMaps.setBlock w1.drew m (.map es cl)):=(Chf.next xT (Lb _ _).drew (by omega)).put _
 have xF:(ChangeMaps.setBlock w1.drew m (.map es cl)).heap[m+1]? = _:=(UV _ (by omega)).trans xE
 have xC:(ChangeMaps.setBlock w1.drew m (.map es cl)).heap[w.heap.size]? = _:=(UV _ (by omega)).trans xB
 obtain⟨w2,zK⟩:=Ze (ChangeMaps.setBlock w1.drew m (.map es cl));rw[zK] at xM xI xK xF xC;have x2:w1.cell? ⟨m+1,2,none⟩=some (.map (some m)):=by rw[cell_of_row w1 (m+1) 2 _ _ (0,0) xE];rfl
 have y0:w1.cell? ⟨w.heap.size,0,none⟩=some (.int .i64 0):=by rw[cell_of_row w1 _ 0 _ _ (0,0) xB];rfl
 have y1:w1.cell? ⟨w.heap.size,1,none⟩=some (.int .u64 (L.length:Int)):=by rw[cell_of_row w1 _ 1 _ _ (0,0) xB];rfl
 unfold kv nv at xM;clear zK xW xX xJ xT xD xG xQ xP c0 yU xE xB;have yX:Hid (∀W,Calls prog 253 #[.int .u64 ((L.length:Int)+1)] W fun e w'=>e = .returned (.int .i64 (t:Int))∧W=w'):=fun W=>(J0 (L.length+1) W (by omega) t hT).mono fun _ _ h=>⟨h.1,h.2.symm⟩
 have yF:Hid (Ap w (w2.alloc (.cells #[.string d0] 9)) m k L s 0 (.slice (some ⟨w2.heap.size,0,none⟩) 1 1)):=by
  have zW:w.heap.size<w2.heap.size:=(Array.getElem?_eq_some_iff.1 xC).1
  refine⟨((MapKept.heap_alloc _ _).2 _ (by omega)).trans xF,((MapKept.heap_alloc _ _).2 _ zW).trans ?_,xI.same ((MapKept.heap_alloc _ _).2 _ (by omega)),?_,xK.next (bal (Lb _ _) _) (by omega)⟩
  ·rw[xC];simp
  ·rw[Qmu,Lc,LF,LP,xH];exact QN (Qdz w2 d0) (by omega)
 have xS:(w2.alloc (.cells #[.string d0] 9)).cell? ⟨m+1,1,none⟩=some (.int .u64 ((L.length:Int)+1)):=by rw[cell_of_row _ (m+1) 1 _ _ (0,0) yF.out.blk];rfl
 have zT : ∀q,q<w2.heap.size->(w2.alloc (.cells #[.string d0] 9)).heap[q]? = w2.heap[q]? := fun q hq=>(MapKept.heap_alloc _ _).2 _ hq
 have zU:t<=16:=by rw[<-hT];exact Qll (by omega) (by omega)
 clear zT xI xK xF xC
 go_region
 go_wp2_with (go_at_call 253;with_reducible refine(yX.out _).mono ?_;rintro e w3 ⟨rfl,rfl⟩)
 have HK:=Qd hF;have yM:=QO k;have yS:Hid (d0=nd (clk k) (L++[s]) 0 ((L.length+1) / 2^0 - 1)):=by show d0=_;rw[Ik,Nat.div_one,LP,xH]
 have yT:=Qd hT;clear yX xS x2 y0 y1 xM xH yL ht hF hs yR hT;generalize w2.alloc (.cells #[.string d0] 9)=w3 at *;generalize w2.heap.size=z2 at *
 go_loopg [7,8,50] t (fun g x v i wr => ∃(j:Nat) (d:BA),j<=t∧g=t - j∧x = .string d∧Hid (d=nd (clk k) (L++[s]) j ((L.length+1) / 2^j - 1))∧i = .int .i64 (j:Int)∧Hid (Ap w wr m k L s j v))
 case atStart=>go_light;exact⟨0,d0,Ll _,rfl,rfl,yS,rfl,yF⟩
 case round =>
  clear yF yS;obtain⟨j,d,hj,rfl,rfl,yG,rfl,HA⟩:=hrel
  by_cases hjt:j<t
  ·have hz:(j:Int)<(t:Int):=by omega
   have yR:(0:Int)<=(j:Int):=Lf _;have kB:(j:Int)<=16:=by omega
   obtain⟨q',xO⟩:=Qli (j:=j+1) yT.out (by omega)
   obtain⟨q,rfl⟩ : ∃q,q'=q+1:=⟨q' - 1,by
    have:q'≠0:=by rintro rfl;simp at xO
    omega⟩
   have e1:(L.length+1) / 2^(j+1) - 1=q:=by rw[Qg3 xO];omega
   have e2:(L.length+1) / 2^j - 1=2*q+1:=by
    rw[Qg3 (q:=2*(q+1)) (by rw[xO,LC,LY])];omega
   obtain⟨a,ha⟩:=Ze (2*q+1);have zP:a<=L.length+1:=by rw[<-ha,<-e2];exact Lu (Nat.sub_le _ _) (NM _ _)
   have zY:(1:Int)<=(a:Int):=by omega
   have zZ:(a:Int)<=65536:=by omega
   obtain⟨lf,yN⟩:=Ze (nd (clk k) (L++[s]) j (2*q));have hb:=HA.out.blk;have hl:=HA.out.lst;rw[e2,ha] at hl;have z0:wr.cell? ⟨m+1,0,none⟩=some (.int .i64 k):=by rw[cell_of_row wr (m+1) 0 _ _ (0,0) hb];rfl
   have z2:wr.cell? ⟨m+1,2,none⟩=some (.map (some m)):=by rw[cell_of_row wr (m+1) 2 _ _ (0,0) hb];rfl
   have l0:wr.cell? ⟨w.heap.size,0,none⟩=some (.int .i64 (j:Int)):=by rw[cell_of_row wr _ 0 _ _ (0,0) hl];rfl
   have l1:wr.cell? ⟨w.heap.size,1,none⟩=some (.int .u64 (a:Int)):=by rw[cell_of_row wr _ 1 _ _ (0,0) hl];rfl
   have xA:=(HA.out.mp.same (W:=wr.drew) rfl).look (h:=(j:Int)) (k:=2*q) ⟨⟨by omega,by omega⟩,by omega⟩ false
   rw[Ql3 (clk k) L s j q xO,yN] at xA;unfold kv nv at xA;rw[show((2*q:Nat):Int)=(a:Int) - 1 by omega] at xA
   simp only[Option.getD_some,Bool.false_eq_true,if_false] at xA;obtain⟨d',yK⟩ : ∃d',dg (clk k) (QV lf d)=d':=⟨_,rfl⟩;have zl:lf.size=clk k:=by rw[<-yN];exact Yx yM _ _ _
   have zd:d.size=clk k:=by rw[yG.out];exact Yx yM _ _ _
   have yV:Hid (∀W,Tb W->Calls prog 227 #[.int .i64 k,.string lf,.string d] W fun e w'=>e = .returned (.string d')∧Below W.heap.size W w'):=fun W hT=>Ju W hT k lf d (by omega) (by omega) d' yK
   have xZ:Hid (d'=nd (clk k) (L++[s]) (j+1) ((L.length+1) / 2^(j+1) - 1)):=by
    show d'=_
    rw[e1,nd,yN,<-yK,yG.out,e2]
   have zA:=(zO.out wr HA.out.ch);have yW:Hid (Tb wr.drew):=⟨zA.rs⟩;have zR:=Ql2 wr.drew lf;have HW:Hid (∀W,Below wr.drew.heap.size wr.drew W->W.cell? ⟨w.heap.size,0,none⟩=some (.int .i64 (j:Int))∧W.cell? ⟨w.heap.size,1,none⟩=some (.int .u64 (a:Int))∧W.frozen? ⟨w.heap.size,0,none⟩=false∧W.frozen? ⟨w.heap.size,1,none⟩=false ∧
     W.heap[w.heap.size]? = some (.cells #[.int .i64 (j:Int),.int .u64 (a:Int)] 249 (0,0))∧W.heap[m+1]? = some (.cells #[.int .i64 k,.int .u64 ((L.length+1:Nat):Int),.map (some m)] 172 (0,0))∧Mp W m (fj (clk k) L s j)∧Chf m w W ∧ ∀v l,Qi wr (w.heap.size+1) v l->Qi W (w.heap.size+1) v l):=fun W hbW=>by
    have xV:=(hbW.block w.heap.size (Array.getElem?_eq_some_iff.1 hl).1).trans hl
    have yO:m+1<wr.heap.size:=(Array.getElem?_eq_some_iff.1 hb).1
    refine⟨?_,?_,frozen_of_row W _ 0 _ _ xV,frozen_of_row W _ 1 _ _ xV,xV,(hbW.block (m+1) yO).trans hb,HA.out.mp.same (hbW.block m (by show m<wr.heap.size;omega)),HA.out.ch.trans (Chf.of (w:=wr) ⟨hbW.os,hbW.tape,hbW.output,hbW.size,hbW.block⟩ (by omega)),fun v l ho=>Qv (w:=wr) ho ⟨hbW.os,hbW.tape,hbW.output,hbW.size,hbW.block⟩ (La _)⟩
    ·rw[cell_of_row W _ 0 _ _ (0,0) xV];rfl
    ·rw[cell_of_row W _ 1 _ _ (0,0) xV];rfl
   clear hb hl zl zd yK yG zA
   go_upto_region 12 with (fail)
   go_region
   go_upto_region 15 with (go_at_call 227;with_reducible refine(yV.out _ yW.out).mono ?_;rintro e w4 ⟨rfl,zB⟩;obtain⟨p0,p1,p2,p3,P⟩:=HW.out _ zB)
   obtain⟨zE,zC,zG,zD,zH⟩:=P;have yZ:=Lp w4 w.heap.size 0 _ 249 (.int .i64 ((j:Int)+1)) zE;have yH:=Lp _ w.heap.size 1 _ 249 (.int .u64 ((a:Int) / 2)) yZ;have yO:m+1<w.heap.size:=HK.out.lt;have yD : ∀b,b≠w.heap.size->((w4.setCell ⟨w.heap.size,0,none⟩ (.int .i64 ((j:Int)+1))).setCell ⟨w.heap.size,1,none⟩ (.int .u64 ((a:Int) / 2))).heap[b]? = w4.heap[b]? := fun b hb =>
    (Below.heap_setCell _ ⟨w.heap.size,1,none⟩ _ b hb).trans (Below.heap_setCell _ ⟨w.heap.size,0,none⟩ _ b hb)
   have xS:Chf m w ((w4.setCell ⟨w.heap.size,0,none⟩ (.int .i64 ((j:Int)+1))).setCell ⟨w.heap.size,1,none⟩ (.int .u64 ((a:Int) / 2))) :=
    (zD.set 0 _ (.inr (La _)) (by omega)).set 1 _ (.inr (La _)) (by omega)
   have yA:=(yD (m+1) (by omega)).trans zC
   have yP:=zG.same (yD m (by omega))
   have zI : ∀v l,Qi wr (w.heap.size+1) v l->Qi ((w4.setCell ⟨w.heap.size,0,none⟩ (.int .i64 ((j:Int)+1))).setCell ⟨w.heap.size,1,none⟩ (.int .u64 ((a:Int) / 2))) (w.heap.size+1) v l:=fun v l ho=>by
    obtain⟨g1,g2⟩:=zH v l ho;refine⟨g1,?_⟩
    rcases g2 with g2|⟨g,cap,cur,rfl,hg,hh,r⟩
    ·exact .inl g2
    ·exact .inr ⟨g,cap,cur,rfl,hg,(yD g (by omega)).trans hh,r⟩
   obtain⟨w5,yE⟩:=Ze ((w4.setCell ⟨w.heap.size,0,none⟩ (.int .i64 ((j:Int)+1))).setCell ⟨w.heap.size,1,none⟩ (.int .u64 ((a:Int) / 2)));rw[yE] at yH xS yA yP;rw[yE];have xU:w5.heap[w.heap.size]? = some (.cells #[.int .i64 ((j:Int)+1),.int .u64 ((a:Int) / 2)] 249 (0,0)):=yH;have zJ : ∀v l,Qi wr (w.heap.size+1) v l->Qi w5 (w.heap.size+1) v l:=fun v l ho=>by rw[<-yE];exact zI v l ho
   obtain⟨es,cl,xM,yC⟩:=(yP.same (W:=w5.drew) rfl).write (h:=((j+1:Nat):Int)) (k:=q) ⟨⟨by omega,by omega⟩,by omega⟩ d'
   rw[show d'=nd (clk k) (L++[s]) (j+1) q by rw[xZ.out,e1],Ql4 (clk k) L s j q xO] at yC
   have zX:w.heap.size<w5.heap.size:=(Array.getElem?_eq_some_iff.1 xU).1
   have yJ:Chf m w (ChangeMaps.setBlock w5.drew m (.map es cl)):=(Chf.next xS (Lb _ _).drew (by omega)).put _
   have xN:(ChangeMaps.setBlock w5.drew m (.map es cl)).heap[m+1]? = _:=(UV _ (by omega)).trans yA
   have yB:(ChangeMaps.setBlock w5.drew m (.map es cl)).heap[w.heap.size]? = _:=(UV _ (by omega)).trans xU
   have yQ:Qi (ChangeMaps.setBlock w5.drew m (.map es cl)) (w.heap.size+1) u8 (nw (clk k) (L++[s]) j):=by
    obtain⟨g1,g2⟩:=zJ _ _ HA.out.own;refine⟨g1,?_⟩
    rcases g2 with g2|⟨g,cap,cur,e,hg,hh,r⟩
    ·exact .inl g2
    ·exact .inr ⟨g,cap,cur,e,hg,(UV _ (by omega)).trans hh,r⟩
   obtain⟨w6,zL⟩:=Ze (ChangeMaps.setBlock w5.drew m (.map es cl));rw[zL] at xM yC yJ xN yB yQ;have x2:w5.cell? ⟨m+1,2,none⟩=some (.map (some m)):=by rw[cell_of_row w5 (m+1) 2 _ _ (0,0) yA];rfl
   have y0:w5.cell? ⟨w.heap.size,0,none⟩=some (.int .i64 ((j:Int)+1)):=by rw[cell_of_row w5 _ 0 _ _ (0,0) xU];rfl
   have y1:w5.cell? ⟨w.heap.size,1,none⟩=some (.int .u64 ((a:Int) / 2)):=by rw[cell_of_row w5 _ 1 _ _ (0,0) xU];rfl
   unfold kv nv at xM;have ea:(a:Int) / 2=(q:Int):=by omega
   rw[<-ea,show((j+1:Nat):Int)=(j:Int)+1 by omega] at xM
   have HY:Hid (d'.size<=9223372036854775807):=by show d'.size<=_;rw[xZ.out,Yx yM];omega
   have HO:=Qd yQ;have yY:Hid (w.heap.size<w6.heap.size):=(Array.getElem?_eq_some_iff.1 yB).1
   have zN:Hid ((nw (clk k) (L++[s]) j).length<=17):=by show _<=_;rw[Qon];omega
   have HG:Hid (Mp w6 m (fj (clk k) L s (j+1))∧Chf m w w6∧w6.heap[m+1]? = some (.cells #[.int .i64 k,.int .u64 ((L.length+1:Nat):Int),.map (some m)] 172 (0,0))∧w6.heap[w.heap.size]? = some (.cells #[.int .i64 ((j+1:Nat):Int),.int .u64 (((L.length+1) / 2^(j+1) - 1:Nat):Int)] 249 (0,0))∧m+1<w.heap.size) :=
    ⟨yC,yJ,xN,by rw[yB,e1,<-ea];rfl,yO⟩
   clear zL yE yZ yH zB zE zC zG zD zH yD xS yA yP zI xU zJ yC zX yJ xN yB yQ xA zR HW yV yW z0 z2 l0 l1 p0 p1 p2 p3 ea xO e1 e2 zP
   go_region
   go_wp2_with (at_builtin;refine QM _ rfl _ _ rfl (w.heap.size+1) _ _ rfl (Yr HO.out _) (some ⟨w6.heap.size,0,none⟩) w6.heap.size 0 1 [d'] rfl (Uy w6 d' HY.out) (fun h=>by cases h) ?c1 ?c2 ?_)
   case c1=>have:=zN.out;simp;omega
   case c2=>have:=yY.out;simp;omega
   intro v2 w7 h7 xN;have zM:Hid (Ap w w7 m k L s (j+1) v2):=by
    obtain⟨g1,g2,g3,g4,g5⟩:=HG.out;have kA:=yY.out;have xR:Below (w.heap.size+1) w6 w7:=((Lb _ _).alloc (by omega) _).trans xN
    have zQ:Chf m w w7:=⟨g2.below.trans (xR.mono (by omega)),fun b hb x y=>(xR.block b (by omega)).trans (g2.block b hb x y)⟩
    refine⟨(xR.block _ (by omega)).trans g3,(xR.block _ (by omega)).trans g4,g1.same (xR.block m (by omega)),?_,zQ⟩
    rw[Qmt,Lc,LF,<-xZ.out];exact h7
   clear h7 xN;go_wp2
   go_roundg (t - (j+1))
   case rel=>go_light;exact⟨j+1,d',by omega,rfl,rfl,xZ,by go_num,zM⟩
   case measure=>go_light;omega
  ·obtain rfl:j=t:=by omega
   have hz : ¬((j:Int)<(j:Int)):=by omega
   go_wp2
   go_ret2
   have zF:=HA.out.mp;rw[Qn3 (clk k) L s j hL yT.out] at zF;refine⟨_,rfl,⟨?_,zF,HK.out.k1,HK.out.k2,by simp;omega⟩,QN HA.out.own (by omega),HA.out.ch⟩
   rw[HA.out.blk];simp
section
attribute [local go_sem ↓] St.Qam
theorem QcR(w:World)(ty B:Nat)(v:Value)(L:LB)(hown:Qi w B v L)(ad:Addr)(mc:Nat)(c:BA)(hr : ∀j u,[Value.string c][j]? = some u->w.cell? (ad.add j)=some u)
  (hlen:L.length+1<=1048576) (hB:B<=w.heap.size) :
  ∃v' w',(Builtin.append_ #[22,22] ty #[v,.slice (some ad) 1 mc]).run prog w = .ok v' w'∧Qi w' B v' (L++[c])∧St.Qny w w' v v':=by
 obtain⟨i0,hi,xF,xD,xG⟩:=info_parts Tryz.infoS;have xC : ∀ {w':World} {v':Value} {n:Nat},n=L.length+1->w'.ownsRow B 9 1 v' n (L.map Value.string++[.string c])->Qi w' B v' (L++[c]):=fun hn h=>by
  rw[Qi,L5,Lc,LE,NL,Lm,<-hn];exact h
 have xE : ∀u∈([.string c]:List Value),u.oneCell'=true:=by intro u hu;simp at hu;subst hu;rfl
 have xA:=hown
 rcases hown.2 with ⟨rfl,h0⟩|⟨g,cp,cur,rfl,hgb,hh,hc⟩
 ·have hL:L=[]:=List.length_eq_zero_iff.1 h0;subst hL;obtain⟨v',w',xB,r1,r2,_⟩:=run_append_own (P:=prog) w w.heap.size 22 ty 9 i0 (.string ByteArray.empty) 1 16 underlying22 hi xF xD xG rfl (by decide) _ 0 [] (Nh _ _ _ _) ad 1 mc [.string c] rfl hr xE (by decide) (by decide) (La _)
  exact⟨v',w',xB,xC rfl (by simpa using World.ownsRow.mono r1 hB),.inr ⟨r2,fun k hk=>(Ng r1 k hk).1⟩⟩
 ·by_cases hfit:L.length+1<=cp
  ·obtain⟨w',xB,r1,r2⟩:=run_append_fits (P:=prog) w B 22 ty 9 i0 1 underlying22 hi xD g L.length cp (L.map Value.string) xA ad 1 mc [.string c] rfl hr xE hfit;exact⟨_,w',xB,xC rfl r1,.inl ⟨g,L.length,cp,rfl,rfl,r2⟩⟩
  ·obtain⟨v',w',xB,r1,r2⟩:=run_append_arg_grows (P:=prog) w 22 ty 9 i0 (.string ByteArray.empty) 1 16 underlying22 hi xF xD xG rfl (by decide) ⟨g,0,none⟩ L.length cp (L.map Value.string) xA.1 (Ip xA rfl) ad 1 mc [.string c] rfl hr (by omega) (by unfold maxLen;omega) (by omega)
   exact⟨v',w',xB,xC rfl (World.ownsRow.mono r1 hB),.inr ⟨r2,fun k hk=>(Ng r1 k hk).1⟩⟩
def TkQ(w:World)(g:Int)(a q p m r:Nat)(vr vs:Value)(T:Nat->Prop)(D:St.DV)(S:St.SV)(L:LB)(x:BA)(r':Nat)(vr':Value)(W:World):Prop :=
 ∃vs',Led W g a q p m r' vr' vs' T D S (L++[x])∧St.Upo (Lef a m r vr vs) w W ∧ ∀b,vs'.ownBlock=some b->vs.ownBlock=some b∨w.heap.size<=b
section
variable {w w1 w2:World} {g:Int} {a q p m r r':Nat} {vr vs vr':Value} {T:Nat->Prop} {D:St.DV} {S:St.SV} {L:LB} {x:BA}
structure Nw(w:World)(T:Nat->Prop)(vs:Value)(S:St.SV)(L:LB)(x:BA)(r':Nat)(vr':Value):Prop where
 rg:Kp.Rg w r' vr' (S.k:Int) (L.length+1) (pkL S.k (L++[x]))
 nt : ¬T r'
 nv : ∀b,vr'.ownBlock=some b -> ¬T b∧vs.ownBlock≠some b
theorem Qb9{w:World}{b:Nat}{c c':Array Value}{t t':TypeId}{f f':Nat×Nat}(h:w.heap[b]? = some (.cells c t f))(h':w.heap[b]? = some (.cells c' t' f'))(hne:t≠t'):False:=by
 rw[h] at h';injection h' with h'
 injection h' with _ h'
 exact hne h'
theorem QiY(h:Led w g a q p m r vr vs T D S L)(hL:L.length<65536)(hx:x.size<=1048576)(hn:Nw w T vs S L x r' vr')(hb1:Below w.heap.size w w1)(hz1:w.heap.size<w1.heap.size)
  (hF2:Frs w2 m (S.k:Int) (L++[x])) (hU2:St.Upo (fun b=>b=m∨b=m+1) w1 w2) (w3 w4:World) (hw3:w2.setCell ⟨a,4,none⟩ (.pointer (some ⟨r',0,none⟩))=w3) (hw4:(w3.alloc (.cells #[.string (sm x)] 9)).drew=w4) :
  ∃ao n cap w5,(Builtin.append_ #[22,22] 22 #[vs,.slice (some ⟨w3.heap.size,0,none⟩) 1 1]).run prog w4 = .ok (.slice ao n cap) w5∧w5.heap[a]? = some (rwL g (.int .u32 0) (some ⟨q,0,none⟩) (.pointer (some ⟨m+1,0,none⟩)) (.pointer (some ⟨r',0,none⟩)) vs) ∧
   w3.heap[a]? = some (rwL g (.int .u32 0) (some ⟨q,0,none⟩) (.pointer (some ⟨m+1,0,none⟩)) (.pointer (some ⟨r',0,none⟩)) vs)∧w2.heap[a]? = some (rwL g (.int .u32 0) (some ⟨q,0,none⟩) (.pointer (some ⟨m+1,0,none⟩)) (.pointer (some ⟨r,0,none⟩)) vs) ∧
   TkQ w g a q p m r vr vs T D S L x r' vr' (w5.setCell ⟨a,5,none⟩ (.slice ao n cap)):=by
 obtain⟨n1,n2,n3,n4,n5⟩:=h.nr;have xC:r'≠m∧r'≠m+1∧r'≠a:=by
  refine⟨?_,?_,?_⟩
  ·rintro rfl;obtain⟨es,c,hx,_⟩:=h.fr.mp;rw[hn.rg.blk] at hx;cases hx
  ·rintro rfl;exact Qb9 hn.rg.blk h.fr.blk (by decide)
  ·rintro rfl;exact Qb9 hn.rg.blk h.blk (by decide)
 have xA : ∀b,(vs.ownBlock=some b∨vr'.ownBlock=some b)->b≠m∧b≠m+1∧b≠a∧b<w.heap.size:=fun b hb=>by
  have hr : ∃cur,w.heap[b]? = some (.cells cur 9 (0,0)):=hb.elim (O2 h.own) (O2 hn.rg.own);obtain⟨cur,hc⟩:=hr;refine⟨?_,?_,?_,(Array.getElem?_eq_some_iff.1 hc).1⟩
  ·rintro rfl;obtain⟨es,c,hx,_⟩:=h.fr.mp;rw[hc] at hx;cases hx
  ·rintro rfl;exact Qb9 hc h.fr.blk (by decide)
  ·rintro rfl;exact Qb9 hc h.blk (by decide)
 have xB:=hn.rg.lt;have xE:a<w.heap.size:=h.lt (.inl rfl)
 -- the worlds
 have b2 : ∀b,b<w.heap.size->b≠m->b≠m+1->w2.heap[b]? = w.heap[b]? := fun b hb e1 e2=>(hU2.block b (by omega) (fun e=>e.elim e1 e2)).trans (hb1.block b hb)
 have s2:=hU2.size;have b3 : ∀b,b≠a->w3.heap[b]? = w2.heap[b]? := fun b hb=>by rw[<-hw3];exact Below.heap_setCell _ _ _ _ hb
 have s3:w3.heap.size=w2.heap.size:=by rw[<-hw3];simp
 have u4:Below w3.heap.size w3 w4:=by rw[<-hw4];exact(bal (Lb _ _) _).drew
 have s4:w4.heap.size=w3.heap.size+1:=by rw[<-hw4];simp
 have a2:w2.heap[a]? = some (rwL g (.int .u32 0) (some ⟨q,0,none⟩) (.pointer (some ⟨m+1,0,none⟩)) (.pointer (some ⟨r,0,none⟩)) vs):=(b2 a xE n1 n2).trans h.blk;have a3:w3.heap[a]? = some (rwL g (.int .u32 0) (some ⟨q,0,none⟩) (.pointer (some ⟨m+1,0,none⟩)) (.pointer (some ⟨r',0,none⟩)) vs):=by rw[<-hw3];exact Lp w2 a 4 _ _ _ a2
 have b4 : ∀b,b<w.heap.size->b≠m->b≠m+1->b≠a->w4.heap[b]? = w.heap[b]? := fun b hb e1 e2 e3=>(u4.block b (by omega)).trans ((b3 b e3).trans (b2 b hb e1 e2))
 have o4:Qi w4 0 vs (smL L):=St.QF h.own fun b hb=>b4 b (xA b (.inl hb)).2.2.2 (xA b (.inl hb)).1 (xA b (.inl hb)).2.1 (xA b (.inl hb)).2.2.1
 have c4 : ∀j u,[Value.string (sm x)][j]? = some u->w4.cell? ((⟨w3.heap.size,0,none⟩:Addr).add j)=some u:=fun j u hu=>by
  rw[<-hw4]
  show(w3.alloc (.cells #[.string (sm x)] 9)).cell? _=some u
  exact St.Qdx w3 _ _ j u hu
 have xI:(smL L).length=L.length:=by simp[smL]
 obtain⟨v',w5,xH,o5,g5⟩:=QcR w4 22 0 vs (smL L) o4 ⟨w3.heap.size,0,none⟩ 1 (sm x) c4 (by omega) (Ll _)
 obtain⟨ao,n,cap,rfl⟩:=YC o5;have t5:St.Upo (fun b=>vs.ownBlock=some b) w4 w5:=by
  rcases g5 with ⟨g,n,c,e1,e2,g3⟩|⟨g3,_⟩
  ·rw[e1];exact St.Upo.grown g3 (fun b hb=>by cases hb;rfl)
  ·exact St.Upo.grown g3 (fun b hb=>by cases hb)
 have xD : ∀b,(Value.slice ao n cap).ownBlock=some b->vs.ownBlock=some b∨w4.heap.size<=b:=fun b hb=>by
  rcases g5 with ⟨g',n,c,e1,e2,g3⟩|⟨_,g3⟩
  ·rw[e1];rw[e2] at hb;exact .inl hb
  ·exact .inr (g3 b hb)
 have a5:w5.heap[a]? = some (rwL g (.int .u32 0) (some ⟨q,0,none⟩) (.pointer (some ⟨m+1,0,none⟩)) (.pointer (some ⟨r',0,none⟩)) vs):=(t5.block a (by omega) (fun e=>(xA a (.inl e)).2.2.1 rfl)).trans ((u4.block a (by omega)).trans a3)
 refine⟨ao,n,cap,w5,xH,a5,a3,a2,.slice ao n cap,?_,?_,fun b hb=>(xD b hb).imp id (fun e=>by omega)⟩
 ·have b5 : ∀b,b<w4.heap.size->b≠a->vs.ownBlock≠some b->(w5.setCell ⟨a,5,none⟩ (.slice ao n cap)).heap[b]? = w4.heap[b]? := fun b hb e1 e2=>(Below.heap_setCell _ _ _ _ e1).trans (t5.block b hb e2)
  have xG : ∀b,T b->b<w.heap.size∧b≠m∧b≠m+1∧b≠a∧vs.ownBlock≠some b:=fun b hb =>
   ⟨h.sk.lt hb,fun e=>h.ap b hb (.inr (.inl e)),fun e=>h.ap b hb (.inr (.inr (.inl e))),fun e=>h.ap b hb (.inl e),fun e=>h.ap b hb (.inr (.inr (.inr (.inr (.inr e)))))⟩
  have xJ:=hF2.lt;have xF : ∀b,(b=m∨b=m+1)->b<w4.heap.size∧b≠a∧vs.ownBlock≠some b:=fun b hb=>by
   refine⟨by omega,fun e => ?_,fun e => ?_⟩
   ·rcases hb with hb|hb
    ·exact n1 (e.symm.trans hb)
    ·exact n2 (e.symm.trans hb)
   ·rcases hb with hb|hb
    ·exact(xA b (.inl e)).1 hb
    ·exact(xA b (.inl e)).2.1 hb
  have hk : ∀b,(b=m∨b=m+1)->(w5.setCell ⟨a,5,none⟩ (.slice ao n cap)).heap[b]? = w2.heap[b]? := fun b hb=>by
   obtain⟨e1,e2,e3⟩:=xF b hb;exact(b5 b e1 e2 e3).trans ((u4.block b (by rcases hb with rfl|rfl <;> omega)).trans (b3 b e2))
  refine⟨Lp w5 a 5 _ _ _ a5,h.sk.same fun b hb => ?_,hF2.same (hk m (.inl rfl)) (hk _ (.inr rfl)),⟨?_,St.QF hn.rg.own fun b hb => ?_,hn.rg.k1,hn.rg.k2,?_,?_,hn.rg.hs⟩,?_,?_,fun b hb hl => ?_,fun b hb => ?_⟩
  ·obtain⟨e1,e2,e3,e4,e5⟩:=xG b hb;exact(b5 b (by omega) e4 e5).trans (b4 b e1 e2 e3 e4)
  ·rw[Lc,LF];have:vs.ownBlock≠some r':=fun e=>by
    obtain⟨cur,hc⟩:=O2 h.own e;exact Qb9 hc hn.rg.blk (by decide)
   exact(b5 r' (by omega) xC.2.2 this).trans ((b4 r' xB xC.1 xC.2.1 xC.2.2).trans hn.rg.blk)
  ·obtain⟨e1,e2,e3,e4⟩:=xA b (.inr hb);exact(b5 b (by omega) e3 (hn.nv b hb).2).trans (b4 b e4 e1 e2 e3)
  ·rw[Lc,LF];exact hn.rg.hn
  ·rw[Lc,LF];exact hn.rg.hl
  ·rw[smL,L5];refine St.QF (v := .slice ao n cap) o5 fun b hb=>Below.heap_setCell _ _ _ _ ?_
   rcases xD b hb with e|e
   ·exact(xA b (.inl e)).2.2.1
   ·show b≠a;omega
  ·intro s hs
   rcases List.mem_append.1 hs with e|e
   ·exact h.sz s e
   ·rw[List.mem_singleton.1 e];exact hx
  ·obtain⟨e1,e2,e3,e4,e5⟩:=xG b hb
   rcases hl with e|e|e|e|e|e
   ·exact e4 e
   ·exact e2 e
   ·exact e3 e
   ·exact hn.nt (e ▸ hb)
   ·exact(hn.nv b e).1 hb
   ·exact(xD b e).elim e5 (fun e=>by omega)
  ·intro e;obtain⟨e1,e2,e3,e4⟩:=xA b (.inr hb);exact(xD b e).elim (hn.nv b hb).2 (fun e=>by omega)
 ·have q1:St.Upo (fun b=>b=m∨b=m+1) w w2:=(St.Upo.of hb1).trans hU2 fun _ _ e=>e
  have q2:St.Upo (fun b=>b=m∨b=m+1∨b=a) w w3:=by rw[<-hw3];exact(q1.mono fun b _ e=>e.elim .inl (fun e => .inr (.inl e))).set a 4 _ (.inl (.inr (.inr rfl)))
  have q3:=(q2.next u4).mono (T:=Lef a m r vr vs) fun b _ e=>by
   rcases e with e|e|e
   ·exact .inr (.inl e)
   ·exact .inr (.inr (.inl e))
   ·exact .inl e
  exact(q3.trans t5 fun b _ e => .inr (.inr (.inr (.inr (.inr e))))).set a 5 _ (.inl (.inl rfl))
end
section
variable {g:Int} {a q p m r r':Nat} {vr vs vr':Value} {T:Nat->Prop} {D:St.DV} {S:St.SV} {L:LB} {x:BA}
theorem QcC(w:World)(ht:Tb w)(h:Led w g a q p m r vr vs T D S L)(hL:L.length<65536)(hx:x.size<=1048576)(hn:Nw w T vs S L x r' vr')(va:OA)(vn vc:Nat) :
  Calls prog 97 #[.pointer (some ⟨a,0,none⟩),.agg #[.string x,.string (sm x),.slice va vn vc,.pointer (some ⟨r',0,none⟩)]] w fun e w'=>e = .returned (.tuple #[])∧TkQ w g a q p m r vr vs T D S L x r' vr' w':=by
 obtain⟨s,hs⟩:=Ze (sm x);obtain⟨w1,xA⟩:=Ze (w.alloc (.cells #[.string x,.string s,.slice va vn vc,.pointer (some ⟨r',0,none⟩)] 175));have u1:Below w.heap.size w w1:=by rw[<-xA];exact bal (Lb _ _) _
 have k1:w1.heap[w.heap.size]? = some (.cells #[.string x,.string s,.slice va vn vc,.pointer (some ⟨r',0,none⟩)] 175 (0,0)):=by rw[<-xA];exact LH w _
 have xG:=(Array.getElem?_eq_some_iff.1 k1).1
 obtain⟨b0,xD⟩:=Ze w.heap.size;rw[xD] at k1;have h1:=h.next u1;have hm:=h.fr.lt;have HF:Hid (∀W,Below w1.heap.size w1 W->Calls prog 163 #[.pointer (some ⟨m+1,0,none⟩),.string x] W fun e w' => ∃v,e = .returned (.tuple #[v,.int .i64 0])∧Frs w' m (S.k:Int) (L++[x])∧St.Upo (fun b=>b=m∨b=m+1) w1 w'):=fun W hW =>
  (QfM W ((ht.next u1).next hW) m S.k L (h1.next hW).fr x hx hL _ rfl).mono fun e w' z=>by
   obtain⟨v,z1,z2,z3,z4⟩:=z;exact⟨v,z1,z2,(St.Upo.of hW).trans ⟨z4.below.os,z4.below.tape,z4.below.output,z4.below.size,fun b hb hne=>z4.block b hb (fun e=>hne (.inl e)) (fun e=>hne (.inr e))⟩ fun _ _ e=>e⟩
 obtain⟨c0,c2,c3,c4,c5,cf⟩:=h1.cells;have xC:=h1.lt (x:=a) (.inl rfl);have HC:Hid (∀W,Below w1.heap.size w1 W->W.cell? ⟨a,3,none⟩=some (.pointer (some ⟨m+1,0,none⟩))∧W.cell? ⟨b0,0,none⟩=some (.string x)):=fun W hW=>⟨(hW.cell (p:=⟨a,3,none⟩) xC).trans c3,by rw[cell_of_row W b0 0 _ _ (0,0) ((hW.block _ (by omega)).trans k1)];rfl⟩
 have HK:Hid (∀W,St.Upo (fun b=>b=m∨b=m+1) w1 W->W.heap[b0]? = some (.cells #[.string x,.string s,.slice va vn vc,.pointer (some ⟨r',0,none⟩)] 175 (0,0))):=fun W hW=>(hW.block _ (by omega) (by omega)).trans k1
 have xE:Hid (∀W,St.Upo (fun b=>b=m∨b=m+1) w1 W->W.cell? ⟨a,3,none⟩=some (.pointer (some ⟨m+1,0,none⟩))∧W.cell? ⟨b0,0,none⟩=some (.string x)):=fun W hW=>by
  obtain⟨n1,n2,_⟩:=h1.nr;exact⟨(LD (a:=⟨a,3,none⟩) (hW.block a xC (fun e=>e.elim n1 n2))).trans c3,by rw[cell_of_row W b0 0 _ _ (0,0) (HK.out W hW)];rfl⟩
 have HT:=Qd (fun(W:World) (z1:Frs W m (S.k:Int) (L++[x])) (z2:St.Upo (fun b=>b=m∨b=m+1) w1 W)=>QiY h hL hx hn u1 xG z1 z2 _ _ rfl rfl)
 obtain⟨xL,xM,xN,rfl⟩:=YC h.own;have hne : ¬b0=a:=by have:=h.lt (x:=a) (.inl rfl);omega
 have u:Below w1.heap.size w1 w1.drew:=(Lb _ _).drew;rw[hs] at HT ⊢;have xI:=Qd xA;have xH:=Qd xD;obtain⟨d3,d4⟩:=HC.out _ (Lb _ _);clear ht h h1 hx hL hn k1 u1 c0 c2 c3 c4 c5 cf hs xG xA xD xC hm
 go_enter func97,ntmps97
 go_upto_region 1 with (fail)
 rw[xI.out,xH.out]
 go_region_held3 (fun Z=>Z.cell? ⟨a,3,none⟩=some (.pointer (some ⟨m+1,0,none⟩))∧Z.cell? ⟨b0,0,none⟩=some (.string x)) (first|assumption|(with_reducible exact xE.out _ u2)|(with_reducible exact HC.out _ u)) (first
  | (go_at_call 163;(with_reducible refine(HF.out _ u).mono ?_);rintro e w2 ⟨v,rfl,f2,u2⟩))
 all_goals
  obtain⟨ao,n,xK,w5,xB,a5,a3,a2,ht⟩:=HT.out w2 f2 u2;have HZ:=Qd ht;have k2:=HK.out w2 u2;have e3:w2.cell? ⟨b0,3,none⟩=some (.pointer (some ⟨r',0,none⟩)):=by rw[cell_of_row w2 b0 3 _ _ (0,0) k2];rfl
  obtain⟨_,_,_,d4,_,df⟩:=Yc a2;have f4:=df 4;obtain⟨w3,xF⟩:=Ze (w2.setCell ⟨a,4,none⟩ (.pointer (some ⟨r',0,none⟩)));rw[xF] at xB a3;have k3:w3.heap[b0]? = some (.cells #[.string x,.string s,.slice va vn vc,.pointer (some ⟨r',0,none⟩)] 175 (0,0)):=by rw[<-xF];exact(Below.heap_setCell _ _ _ _ hne).trans k2
  clear ht HT HK HC xE HF f2 u2 d3 df k2 a2;obtain⟨_,_,_,_,q5,_⟩:=Yc a3;obtain⟨_,_,_,_,q6,qf⟩:=Yc a5;have q7:=qf 5;have x1:w3.cell? ⟨b0,1,none⟩=some (.string s):=by rw[cell_of_row w3 b0 1 _ _ (0,0) k3];rfl
  have ub:Below w3.heap.size w3 (w3.alloc (.cells #[.string s] 9)).drew:=(bal (Lb _ _) _).drew;have q8:(w3.alloc (.cells #[.string s] 9)).drew.cell? ⟨a,5,none⟩=_:=(ub.cell (p:=⟨a,5,none⟩) (Array.getElem?_eq_some_iff.1 a3).1).trans q5
  have x2:(w3.alloc (.cells #[.string s] 9)).drew.cell? ⟨b0,1,none⟩=_:=(ub.cell (p:=⟨b0,1,none⟩) (Array.getElem?_eq_some_iff.1 k3).1).trans x1
  have ha:=St.Qc6 xB;have xJ : ¬a=b0:=fun e=>hne e.symm
  clear a5 a3 k3 ub qf xB
  go_upto_region 3 with (fail)
  go_region
  all_goals
   go_wp2;exact bodyPost_end (results_none rfl _ prog _) rfl ⟨rfl,HZ.out⟩
end
end
end Go.Proofs.YtoblgjledefdbaaGreatDoor
