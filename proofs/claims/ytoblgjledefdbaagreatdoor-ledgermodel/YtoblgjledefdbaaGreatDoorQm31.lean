/- Own work. -/
import Derived.Test.YtoblgjledefdbaaGreatDoorQm28
import Derived.Test.YtoblgjledefdbaaGreatDoorQm30
set_option maxRecDepth 100000
set_option maxHeartbeats 4000000
namespace Go.Proofs.YtoblgjledefdbaaGreatDoor
open Go.RowKit
attribute [local go_sem ↓] Go.wp_at_zero Go.wp_at_succ
open Go.Proofs.Tryz
def NxQ(w:World)(k:Nat)(L:LB)(x:BA)(e:Ending)(w':World):Prop :=
 ∃vm r' vr',e = .returned (.agg #[.string x,.string (sm x),vm,.pointer (some ⟨r',0,none⟩)])∧Qi w' w.heap.size vm (mdL k L x)∧Kp.Rg w' r' vr' (k:Int) (L.length+1) (pkL k (L++[x]))∧w.heap.size<=r'∧(∀g,vr'.ownBlock=some g->w.heap.size<=g)∧Below w.heap.size w w'
theorem QnY(k:Nat)(hk:k<=32)(t:BA):(dg 32 t).extract 0 k=dg k t:=by
 unfold dg;rw[ByteArray.extract_extract,Lm,Lm,Wc hk]
theorem QoD(k:Nat)(hk:k<=32)(L:LB)(x:BA):(sm x).extract 0 k=nd k (L++[x]) 0 L.length:=by
 unfold sm;rw[QnY k hk,nd,Ld,Ic];rfl
theorem QoY{k n:Nat}{P:LB}{w:World}{r:Nat}{v:Value}(h:Kp.Rg w r v (k:Int) n P)(hk:clk (k:Int)=k):Kp.fe (k:Int) n P=0:=by
 have h1:=h.k1;have h2:=h.k2;have hn:=h.hn;unfold Kp.fe;rw[Le (by omega),Le (by omega),Le]
 rw[h.hl,Qeu hn];refine fun q=>q.elim (fun q=>q rfl) (fun q=>q fun s hs => ?_)
 have:=h.hs s hs;omega
theorem QdJ{w:World}{r p i:Nat}{v x:Value}{k:Int}{n:Nat}{P:LB}(h:Kp.Rg w r v k n P)(h1:r≠p)(h2 : ∀g,v.ownBlock=some g->g≠p):Kp.Rg (w.setCell ⟨p,i,none⟩ x) r v k n P :=
 ⟨(Below.heap_setCell _ _ _ _ h1).trans h.blk,St.QF h.own (fun g hg=>Below.heap_setCell _ _ _ _ (h2 g hg)),h.k1,h.k2,h.hn,h.hl,h.hs⟩
theorem QjP{w:World}{b:Nat}{x0 x1 x2 x3:Value}{T:TypeId}(h:w.heap[b]? = some (.cells #[x0,x1,x2,x3] T (0,0)))(y0 y1 y2 y3:Value):((((w.setCell ⟨b,0,none⟩ y0).setCell ⟨b,1,none⟩ y1).setCell ⟨b,2,none⟩ y2).setCell ⟨b,3,none⟩ y3).heap[b]? = some (.cells #[y0,y1,y2,y3] T (0,0)) :=
 Lp _ b 3 _ _ y3 (Lp _ b 2 _ _ y2 (Lp _ b 1 _ _ y1 (Lp w b 0 _ _ y0 h)))
theorem YC{w:World}{B:Nat}{v:Value}{l:LB}(h:Qi w B v l) : ∃ao n cap,v = .slice ao n cap:=by
 obtain⟨_,h2⟩:=h
 rcases h2 with ⟨rfl,_⟩|⟨g,cap,cur,rfl,_⟩
 ·exact⟨_,_,_,rfl⟩
 ·exact⟨_,_,_,rfl⟩
theorem Js(w:World)(ht:Tb w)(a m r:Nat)(vr:Value)(k:Nat)(L:LB)(hF:Frs w m (k:Int) L)(hR:Kp.Rg w r vr (k:Int) L.length (pkL k L))(hc:clk (k:Int)=k)
  (c3:w.cell? ⟨a,3,none⟩=some (.pointer (some ⟨m+1,0,none⟩))) (c4:w.cell? ⟨a,4,none⟩=some (.pointer (some ⟨r,0,none⟩))) (x:BA) (hx:x.size<=1048576) (hL:L.length<65536) :
  Calls prog 95 #[.pointer (some ⟨a,0,none⟩),.string x] w (NxQ w k L x):=by
 have k1:(1:Int)<=(k:Int):=hF.k1;have k2:(k:Int)<=32:=hF.k2;have xA:=Ln _ _ c3;obtain⟨s,hs⟩:=Ze (sm x);have xI:s.size=32:=by rw[<-hs];exact Qhq x
 obtain⟨P,hP⟩:=Ze (pkL k L);rw[hP] at hR;obtain⟨w1,xC⟩:=Ze (w.alloc (.cells #[.string ⟨#[]⟩,.string ⟨#[]⟩,.slice none 0 0,.pointer none] 175));have u1:Below w.heap.size w w1:=by rw[<-xC];exact bal (Lb _ _) _
 have k4:w1.heap[w.heap.size]? = some (.cells #[.string ⟨#[]⟩,.string ⟨#[]⟩,.slice none 0 0,.pointer none] 175 (0,0)):=by rw[<-xC];exact LH w _
 have ht:=ht.next u1;have hF:=hF.next u1 (La _);have hR:=hR.next u1 (La _);have c3:=(u1.cell (p:=⟨a,3,none⟩) xA).trans c3;have c4:=(u1.cell (p:=⟨a,4,none⟩) xA).trans c4;have xA:a<w1.heap.size:=Lx xA u1.size;have xB:w.heap.size<w1.heap.size:=(Array.getElem?_eq_some_iff.1 k4).1
 have HF:Hid (∀W,Below w1.heap.size w1 W->W.cell? ⟨a,3,none⟩=some (.pointer (some ⟨m+1,0,none⟩))∧W.cell? ⟨a,4,none⟩=some (.pointer (some ⟨r,0,none⟩))):=fun W hW=>⟨(hW.cell (p:=⟨a,3,none⟩) xA).trans c3,(hW.cell (p:=⟨a,4,none⟩) xA).trans c4⟩
 have HS:Hid (∀W,Below w1.heap.size w1 W->Calls prog 85 #[.string x] W fun e w'=>e = .returned (.string s)∧Below w1.heap.size w1 w'):=fun W hW=>(QcX W (ht.next hW) x hx s hs).mono fun e w' z=>⟨z.1,Qa hW z.2⟩
 have HK:Hid (∀W,Below w1.heap.size w1 W->Calls prog 134 #[.pointer (some ⟨m+1,0,none⟩)] W fun e w'=>e = .returned (.int .i64 (k:Int))∧W=w'):=fun W hW=>(Ob W m k L (hF.next hW (La _))).mono fun e w' z=>⟨z.1,z.2.symm⟩
 have HZ:Hid (∀W,Below w1.heap.size w1 W->Calls prog 159 #[.pointer (some ⟨r,0,none⟩)] W fun e w'=>e = .returned (.int .u64 (L.length:Int))∧Below w1.heap.size w1 w'∧Below W.heap.size W w'):=fun W hW=>(Kp.QbZ W r vr k L.length P (hR.next hW (La _))).mono fun e w' z=>⟨z.1,Qa hW z.2,z.2⟩
 have HP:Hid (∀W,Below w1.heap.size w1 W->Calls prog 160 #[.pointer (some ⟨r,0,none⟩)] W fun e w' => ∃u,e = .returned u∧Qi w' w1.heap.size u P∧Below w1.heap.size w1 w'):=fun W hW=>(Kp.Qgt W r vr k L.length P (hR.next hW (La _))).mono fun e w' z=>by
  obtain⟨u,z1,z2,z3⟩:=z;exact⟨u,z1,QN z2 hW.size,Qa hW z3⟩
 have HM:Hid (∀W u,Below w1.heap.size w1 W->Qi W w1.heap.size u P->Calls prog 94 #[.int .i64 (k:Int),.int .u64 (L.length:Int),u] W fun e w' => ∃p v,e = .returned (.tuple #[.pointer (some ⟨p,0,none⟩),.int .i64 0])∧Kp.Rg w' p v (k:Int) L.length P∧w1.heap.size<=p∧(∀g,v.ownBlock=some g->w1.heap.size<=g)∧Below w1.heap.size w1 w'):=fun W u hW ho=>by
  obtain⟨ao,b,xE,rfl,hr,_,xG⟩:=QR ho (fun y hy=>by have:=hR.small y hy;omega)
  have xM:=hR.short;refine(Kp.Qer W k L.length (by omega) ao b 0 xE P hr xG (by omega) 0 (QoY hR hc)).mono fun e w' z => ?_
  obtain⟨p,v,z1,z2,z3,z4,z5⟩:=z.ok;exact⟨p,v,z1,z2,Lu hW.size z3,fun g hg=>Lu hW.size (z4 g hg),Qa hW z5⟩
 have HA:Hid (∀W p v,Below w1.heap.size w1 W->w1.heap.size<=p->(∀g,v.ownBlock=some g->w1.heap.size<=g)->Kp.Rg W p v (k:Int) L.length P->Calls prog 161 #[.pointer (some ⟨p,0,none⟩),.string (s.extract 0 k)] W fun e w' => ∃vm vr',e = .returned (.tuple #[vm,.int .i64 0])∧Qi w' w1.heap.size vm (mdL k L x)∧Kp.Rg w' p vr' (k:Int) (L.length+1) (pkL k (L++[x]))∧(∀g,vr'.ownBlock=some g->w1.heap.size<=g)∧Below w1.heap.size w1 w'):=fun W p v hW hp hv hr=>by
  have hd:=Kp.Qjy k1 k2 (L++[x]) 0 L.length L.length (by rw[Ik,LV]) (by decide) (by rw[Ik];omega)
  rw[hc,QkF,hP,show L.length+2^0=L.length+1 from rfl,show((0:Nat):Int)=0 from rfl,<-QoD k (by omega) L x,hs] at hd
  have xF:Hid (er (k:Int) L.length 0 (s.extract 0 k)=0∧nxN (k:Int) L.length 0 (s.extract 0 k)=L.length+1∧nxP (k:Int) L.length P 0 (s.extract 0 k)=pkL k (L++[x])∧an (k:Int) L.length P 0 (s.extract 0 k)=mdL k L x):=by
   obtain⟨d1,d2,d3,d4⟩:=hd.out;refine⟨d1,d2,?_,?_⟩
   ·rw[d3];unfold pkL;rw[Lc];rfl
   ·rw[d4];unfold mdL;rw[show 40 - 0=40 from rfl]
    refine NA fun j _ => ?_
    rw[Lm]
  refine(Kp.Oy W (ht.next hW) p v k L.length P hr (s.extract 0 k) 0 _ _ _ xF).mono fun e w' z => ?_
  obtain⟨vm,v',z1,z2⟩:=z;refine⟨vm,v',z1,QN z2.own hW.size,z2.rg,fun g hg => ?_,hW.trans (z2.ch.below.mono hp)⟩
  rcases z2.new with e|e
  ·rw[e] at hg;exact hv g hg
  ·exact Lu hW.size (e g hg)
 have xK:(0:Int)<=(k:Int):=by omega
 have xL:(k:Int)<=(s.size:Int):=by omega
 have HE:Hid (∀W va vn vc r' vr',Below w1.heap.size w1 W->Qi W w1.heap.size (.slice va vn vc) (mdL k L x)->Kp.Rg W r' vr' (k:Int) (L.length+1) (pkL k (L++[x]))->w1.heap.size<=r'->(∀g,vr'.ownBlock=some g->w1.heap.size<=g) ->
   NxQ w k L x (.returned (.agg #[.string x,.string s,.slice va vn vc,.pointer (some ⟨r',0,none⟩)])) ((((W.setCell ⟨w.heap.size,0,none⟩ (.string x)).setCell ⟨w.heap.size,1,none⟩ (.string s)).setCell ⟨w.heap.size,2,none⟩ (.slice va vn vc)).setCell ⟨w.heap.size,3,none⟩ (.pointer (some ⟨r',0,none⟩)))):=fun W va vn vc r' vr' g1 g2 g3 g4 g5=>by
  rw[<-hs];have h1:r'≠w.heap.size:=by omega
  have h2 : ∀g,vr'.ownBlock=some g->g≠w.heap.size:=fun g hg=>by have:=g5 g hg;omega
  have hb:Below w.heap.size w W:=u1.trans (g1.mono u1.size);exact⟨_,r',vr',rfl,QN (Kp.Y9 (Kp.Y9 (Kp.Y9 (Kp.Y9 g2 xB) xB) xB) xB) u1.size,QdJ (QdJ (QdJ (QdJ g3 h1 h2) h1 h2) h1 h2) h1 h2,Lu u1.size g4,fun g hg=>Lu u1.size (g5 g hg),
   (((hb.setCell (p:=⟨w.heap.size,0,none⟩) (La _) _).setCell (p:=⟨w.heap.size,1,none⟩) (La _) _).setCell (p:=⟨w.heap.size,2,none⟩) (La _) _).setCell (p:=⟨w.heap.size,3,none⟩) (La _) _⟩
 have xD:Hid (∀W,Below w1.heap.size w1 W->W.heap[w.heap.size]? = some (.cells #[.string ⟨#[]⟩,.string ⟨#[]⟩,.slice none 0 0,.pointer none] 175 (0,0))):=fun W hW=>(hW.block _ xB).trans k4
 have u:Below w1.heap.size w1 w1.drew:=(Lb _ _).drew;clear ht hF hR hP hx hs k4 u1 hL k1 k2 xI hc
 go_enter func95,ntmps95
 go_upto_region 1 with (fail)
 go_region_held3 (fun Z=>Z.cell? ⟨a,3,none⟩=some (.pointer (some ⟨m+1,0,none⟩))) (first|assumption|(with_reducible exact(HF.out _ u).1)) (first
  | (go_at_call 85;(with_reducible refine(HS.out _ u).mono ?_);rintro e w2 ⟨rfl,u⟩)
  | (go_at_call 134;(with_reducible refine(HK.out _ u).mono ?_);rintro e w3 ⟨rfl,rfl⟩))
 all_goals
  obtain⟨d3,d4⟩:=HF.out _ u;replace u:Below w1.heap.size w1 w2.drew:=u.drew
  go_upto_region 2 with (fail)
  go_region_held3 (fun Z=>Z.cell? ⟨a,4,none⟩=some (.pointer (some ⟨r,0,none⟩))) (first|assumption|(with_reducible exact(HF.out _ u).2)) (first
   | (go_at_call 159;(with_reducible refine(HZ.out _ u).mono ?_);rintro e w4 ⟨rfl,u,-⟩)
   | (go_at_call 160;(with_reducible refine(HP.out _ u).mono ?_);rintro e w5 ⟨vp,rfl,op,u⟩)
   | (go_at_call 94;(with_reducible refine(HM.out _ _ u op).mono ?_);rintro e w6 ⟨p,v,rfl,hr,hp,hv,u⟩))
 all_goals
  go_upto_region 4 with (go_at_call 161;(with_reducible refine(HA.out _ _ _ u hp hv hr).mono ?_);rintro e w7 ⟨vm,vr',rfl,om,xH,xJ,u⟩)
  obtain⟨va,vn,vc,rfl⟩:=YC om;have k7:=xD.out _ u;have e0:w7.cell? ⟨w.heap.size,0,none⟩=some (.string ⟨#[]⟩):=by rw[cell_of_row w7 _ 0 _ _ (0,0) k7];rfl
  have e1:w7.cell? ⟨w.heap.size,1,none⟩=some (.string ⟨#[]⟩):=by rw[cell_of_row w7 _ 1 _ _ (0,0) k7];rfl
  have e2:w7.cell? ⟨w.heap.size,2,none⟩=some (.slice none 0 0):=by rw[cell_of_row w7 _ 2 _ _ (0,0) k7];rfl
  have e3:w7.cell? ⟨w.heap.size,3,none⟩=some (.pointer none):=by rw[cell_of_row w7 _ 3 _ _ (0,0) k7];rfl
  have z0:=frozen_of_row w7 _ 0 _ _ k7;have z1:=frozen_of_row w7 _ 1 _ _ k7;have z2:=frozen_of_row w7 _ 2 _ _ k7;have z3:=frozen_of_row w7 _ 3 _ _ k7;go_wp2;have HN:=HE.out w7 va vn vc p vr' u om xH hp xJ;have q:=QjP k7 (.string x) (.string s) (.slice va vn vc) (.pointer (some ⟨p,0,none⟩));have q0:=cell_of_row _ w.heap.size 0 _ _ (0,0) q;have q1:=cell_of_row _ w.heap.size 1 _ _ (0,0) q;have q2:=cell_of_row _ w.heap.size 2 _ _ (0,0) q;have q3:=cell_of_row _ w.heap.size 3 _ _ (0,0) q;simp at q0 q1 q2 q3;generalize (((w7.setCell ⟨w.heap.size,0,none⟩ (.string x)).setCell ⟨w.heap.size,1,none⟩ (.string s)).setCell ⟨w.heap.size,2,none⟩ (.slice va vn vc)).setCell ⟨w.heap.size,3,none⟩ (.pointer (some ⟨p,0,none⟩))=W9 at *;exact Lv (v := .agg #[.string x,.string s,.slice va vn vc,.pointer (some ⟨p,0,none⟩)]) (by simp[results,results95,go_sem,q0,q1,q2,q3]) rfl HN
def Lef(a m r:Nat)(vr vs:Value)(x:Nat):Prop:=x=a∨x=m∨x=m+1∨x=r∨vr.ownBlock=some x∨vs.ownBlock=some x
structure Led(w:World)(g:Int)(a q p m r:Nat)(vr vs:Value)(T:Nat->Prop)(D:St.DV)(S:St.SV)(L:LB):Prop where
 blk:w.heap[a]? = some (rwL g (.int .u32 0) (some ⟨q,0,none⟩) (.pointer (some ⟨m+1,0,none⟩)) (.pointer (some ⟨r,0,none⟩)) vs)
 sk:St.Sk w q p T D S
 fr:Frs w m (S.k:Int) L
 rg:Kp.Rg w r vr (S.k:Int) L.length (pkL S.k L)
 own:Qi w 0 vs (smL L)
 sz : ∀s∈L,s.size<=1048576
 ap : ∀x,T x -> ¬Lef a m r vr vs x
 av : ∀x,vr.ownBlock=some x->vs.ownBlock≠some x
section
variable {w W:World} {g:Int} {a q p m r:Nat} {vr vs:Value} {T:Nat->Prop} {D D':St.DV} {S S':St.SV} {L:LB}
theorem UE{B:Nat}{v:Value}{l:LB}(h:Qi w B v l){x:Nat}(hx:v.ownBlock=some x):x<w.heap.size:=(Ng h x hx).2
theorem O2{B T s n:Nat}{v:Value}{xs:List Value}(h:w.ownsRow B T s v n xs){x:Nat}(hx:v.ownBlock=some x) : ∃cur,w.heap[x]? = some (.cells cur T (0,0)):=by
 obtain⟨_,h2⟩:=h
 rcases h2 with ⟨rfl,_⟩|⟨g,cap,cur,rfl,_,hh,_⟩
 ·cases hx
 ·cases hx;exact⟨cur,hh⟩
theorem Led.k1(h:Led w g a q p m r vr vs T D S L):1<=S.k∧S.k<=32:=⟨h.sk.small.1,h.sk.small.2.1⟩
theorem Led.clk(h:Led w g a q p m r vr vs T D S L):clk (S.k:Int)=S.k:=by
 have:=Qbd h.fr.k1 h.fr.k2;omega
theorem Led.lt(h:Led w g a q p m r vr vs T D S L){x:Nat}(hx:Lef a m r vr vs x):x<w.heap.size:=by
 rcases hx with rfl|rfl|rfl|rfl|e|e
 ·exact(Array.getElem?_eq_some_iff.1 h.blk).1
 ·have:=h.fr.lt;omega
 ·exact h.fr.lt
 ·exact h.rg.lt
 ·exact UE h.rg.own e
 ·exact UE h.own e
theorem Led.same(h:Led w g a q p m r vr vs T D S L)(h1 : ∀x,T x->W.heap[x]? = w.heap[x]?)(h2 : ∀x,Lef a m r vr vs x->W.heap[x]? = w.heap[x]?):Led W g a q p m r vr vs T D S L :=
 ⟨(h2 a (.inl rfl)).trans h.blk,h.sk.same h1,h.fr.same (h2 m (.inr (.inl rfl))) (h2 _ (.inr (.inr (.inl rfl)))),
  ⟨(h2 r (.inr (.inr (.inr (.inl rfl))))).trans h.rg.blk,St.QF h.rg.own fun x hx=>h2 x (.inr (.inr (.inr (.inr (.inl hx))))),h.rg.k1,h.rg.k2,h.rg.hn,h.rg.hl,h.rg.hs⟩,
  St.QF h.own fun x hx=>h2 x (.inr (.inr (.inr (.inr (.inr hx))))),h.sz,h.ap,h.av⟩
theorem Led.next(h:Led w g a q p m r vr vs T D S L)(hb:Below w.heap.size w W):Led W g a q p m r vr vs T D S L :=
 h.same (fun x hx=>hb.block x (h.sk.lt hx)) (fun x hx=>hb.block x (h.lt hx))
theorem Led.nr(h:Led w g a q p m r vr vs T D S L):a≠m∧a≠m+1∧a≠r∧(∀x,vr.ownBlock=some x->x≠a) ∧ ∀x,vs.ownBlock=some x->x≠a:=by
 have hb:=h.blk;refine⟨?_,?_,?_,?_,?_⟩
 ·rintro rfl;obtain⟨es,c,hx,_⟩:=h.fr.mp;rw[hb] at hx;cases hx
 ·rintro rfl;have:=h.fr.blk;rw[hb] at this;cases this
 ·rintro rfl;have:=h.rg.blk;rw[hb] at this;cases this
 ·rintro x hx rfl;obtain⟨xA,hc⟩:=O2 h.rg.own hx;rw[hb] at hc;cases hc
 ·rintro x hx rfl;obtain⟨xA,hc⟩:=O2 h.own hx;rw[hb] at hc;cases hc
theorem Led.lock{g':Int}(h:Led w g a q p m r vr vs T D S L)(ho : ∀b,b<w.heap.size->b≠a->W.heap[b]? = w.heap[b]?)(hr:W.heap[a]? = some (rwL g' (.int .u32 0) (some ⟨q,0,none⟩) (.pointer (some ⟨m+1,0,none⟩)) (.pointer (some ⟨r,0,none⟩)) vs)):Led W g' a q p m r vr vs T D S L:=by
 obtain⟨n1,n2,n3,n4,n5⟩:=h.nr;have hk : ∀x,Lef a m r vr vs x->x≠a->W.heap[x]? = w.heap[x]? := fun x hx hne=>ho x (h.lt hx) hne
 exact⟨hr,h.sk.same fun x hx=>ho x (h.sk.lt hx) (fun e=>h.ap x hx (.inl e)),h.fr.same (hk m (.inr (.inl rfl)) n1.symm) (hk _ (.inr (.inr (.inl rfl))) n2.symm),
  ⟨(hk r (.inr (.inr (.inr (.inl rfl)))) n3.symm).trans h.rg.blk,St.QF h.rg.own fun x hx=>hk x (.inr (.inr (.inr (.inr (.inl hx))))) (n4 x hx),h.rg.k1,h.rg.k2,h.rg.hn,h.rg.hl,h.rg.hs⟩,
  St.QF h.own fun x hx=>hk x (.inr (.inr (.inr (.inr (.inr hx))))) (n5 x hx),h.sz,h.ap,h.av⟩
theorem Led.lkd(h:Led w 0 a q p m r vr vs T D S L)(hL:Lkd a w W):Led W 1 a q p m r vr vs T D S L:=h.lock hL.oth (hL.self _ _ _ _ _ h.blk)
theorem Led.set(h:Led w g a q p m r vr vs T D S L)(g':Int):Led (w.setCell ⟨a,0,none⟩ (.int .i32 g')) g' a q p m r vr vs T D S L :=
 h.lock (fun _ _ hne=>Below.heap_setCell _ _ _ _ hne) (Lp w a 0 _ _ (.int .i32 g') h.blk)
theorem Led.cells(h:Led w g a q p m r vr vs T D S L):w.cell? ⟨a,0,none⟩=some (.int .i32 g)∧w.cell? ⟨a,2,none⟩=some (.pointer (some ⟨q,0,none⟩))∧w.cell? ⟨a,3,none⟩=some (.pointer (some ⟨m+1,0,none⟩))∧w.cell? ⟨a,4,none⟩=some (.pointer (some ⟨r,0,none⟩))∧w.cell? ⟨a,5,none⟩=some vs ∧ ∀j,w.frozen? ⟨a,j,none⟩=false:=Yc h.blk
end
def stE(D:St.DV)(S:St.SV):Nat->LB->Int
 | _,[]=>0
 | p,d::ds=>if (St.Om D S p).2≠0 then (St.Om D S p).2 else if St.tx (St.Om D S p).1=d then stE D S (p+1) ds else 190
theorem QoE{D:St.DV}{S:St.SV}{p j:Nat}{ds:LB}(hj:j<ds.length)(t:BA)(r:Int)(ht:St.tx (St.Om D S (p+j)).1=t)(hr:(St.Om D S (p+j)).2=r) :
  stE D S (p+j) (ds.drop j)=if r≠0 then r else if t=ds.getD j ByteArray.empty then stE D S (p+(j+1)) (ds.drop (j+1)) else 190:=by
 have e:ds.getD j ByteArray.empty=ds[j]:=by rw[Ld,Lh hj];rfl
 rw[LN hj,stE,ht,hr,e,Ni]
theorem Qna(D:St.DV)(S:St.SV)(p:Nat)(ds:LB):stE D S (p+ds.length) (ds.drop ds.length)=0:=by
 rw[II];rfl
theorem QfA(bs:BA) : ∀(n i:Nat) (r:List UInt8),bs.size - i=n->ByteArray.toList.loop bs i r=r.reverse++bs.data.toList.drop i:=by
 intro n
 induction n with
 | zero =>
  intro i r h;rw[ByteArray.toList.loop,Le (by omega)]
  rw[LZ (by simp;exact(by omega:bs.size<=i)),LS]
 | succ n ih =>
  intro i r h;have hi:i<bs.size:=by omega
  rw[ByteArray.toList.loop,Lk hi,ih (i+1) _ (by omega)]
  have hl:i<bs.data.toList.length:=by simp;exact hi
  rw[LN hl,Id,Lq];have:bs.get! i=bs.data.toList[i]:=by
   show bs.data[i]! = _
   have xA:i<bs.data.size:=hi;rw[getElem!_pos bs.data i xA];simp
  rw[this];rfl
theorem Qba(bs:BA):bs.toList=bs.data.toList:=by
 rw[ByteArray.toList,QfA bs bs.size 0 [] rfl];rfl
theorem Qec{x y:BA}(h:x≠y):(x.toList == y.toList)=false:=by
 rw[Qba,Qba];simp only[beq_eq_false_iff_ne,ne_eq];intro e;exact h (I4 (Array.toList_inj.1 e))
section
variable {w W:World} {g:Int} {a q p m r:Nat} {vr vs:Value} {T:Nat->Prop} {D D':St.DV} {S S':St.SV} {L:LB}
theorem QiV(w:World)(h:Led w g a q p m r vr vs T D S L)(pl:Nat)(ao:OA)(b len cap:Nat)(ds:LB)(hr:RdS w ao b 0 len ds)(hz:len<=1000)(hpl:pl<=1000000)(e0:Int)(he:stE D S pl ds=e0) :
  Calls prog 96 #[.pointer (some ⟨a,0,none⟩),.int .u64 (pl:Int),.slice ao len cap] w fun e w'=>e = .returned (.int .i64 e0)∧Below w.heap.size w w':=by
 have hl:=hr.hl;have hc:=h.cells.2.1;have xF:=Ln _ _ hc;have HC:Hid (∀W,Below w.heap.size w W->W.cell? ⟨a,2,none⟩=some (.pointer (some ⟨q,0,none⟩))):=fun W hW=>(hW.cell (p:=⟨a,2,none⟩) xF).trans hc
 have HR:Hid (∀W,Below w.heap.size w W->RdS W ao b 0 len ds):=fun W hW=>hr.next hW (La _)
 have HN:Hid (∀(W:World) (i:Nat) (t:BA) (y:Int),Below w.heap.size w W->i<18446744073709551616->St.tx (St.Om D S i).1=t->(St.Om D S i).2=y->Calls prog 162 #[.pointer (some ⟨q,0,none⟩),.int .u64 (i:Int)] W fun e w'=>e = .returned (.tuple #[.string t,.int .i64 y])∧Below w.heap.size w w'):=fun W i t y hW hi g1 g2=>(St.Qh4 W (h.sk.next hW) i hi t y g1 g2).mono fun e w' z=>⟨z.1,Qa hW z.2⟩
 have HE:=Qd he;have xD:=hr.ptr;clear h hr he hc
 go_enter func96,ntmps96;go_wp2
 go_loopg [13] len (fun g x wr => ∃j:Nat,j<=len∧g=len - j∧x = .int .i64 (j:Int)∧Hid (stE D S (pl+j) (ds.drop j)=stE D S pl ds)∧Hid (Below w.heap.size w wr))
 case atStart=>go_light;exact⟨0,Ll _,rfl,rfl,rfl,Lb _ _⟩
 case round =>
  obtain⟨j,hj,rfl,rfl,HS,HB⟩:=hrel
  by_cases hlt:j<len
  ·have xG:(j:Int)<(len:Int):=by omega
   obtain rfl:=xD (by omega)
   obtain⟨d,hd⟩:=Ze (ds.getD j ByteArray.empty);have c0:=(HR.out wr HB.out).at hlt;rw[hd,Lm] at c0;have c2:=HC.out wr HB.out;obtain⟨t,ht⟩:=Ze (St.tx (St.Om D S (pl+j)).1);obtain⟨y,hy⟩:=Ze ((St.Om D S (pl+j)).2);have hs:=QoE (D:=D) (S:=S) (p:=pl) (j:=j) (ds:=ds) (by omega) t y ht hy
   rw[HS.out,hd,HE.out] at hs;obtain⟨i,hi⟩:=Ze (pl+j);rw[hi] at ht hy;have xC:Hid (Calls prog 162 #[.pointer (some ⟨q,0,none⟩),.int .u64 (i:Int)] wr fun e w'=>e = .returned (.tuple #[.string t,.int .i64 y])∧Below w.heap.size w w'):=HN.out wr i t y HB.out (by omega) ht hy
   have xH:IntKind.u64.wrap (j:Int)=(j:Int):=by rw[IntKind.wrap_u64];omega
   have xI:IntKind.u64.wrap ((pl:Int)+(j:Int))=(i:Int):=by rw[IntKind.wrap_u64];omega
   have xJ:IntKind.i64.wrap ((j:Int)+1)=((j+1:Nat):Int):=by rw[Lr];omega
   have HQ:Hid (y≠0->e0=y):=fun q=>by rw[Lk q] at hs;exact hs
   have xA:Hid (y=0 -> ¬t=d->e0=190):=fun q q2=>by rw[Le (fun x=>x q),Le q2] at hs;exact hs
   have xB:Hid (y=0->t=d->stE D S (pl+(j+1)) (ds.drop (j+1))=stE D S pl ds):=fun q q2=>by rw[Le (fun x=>x q),Lk q2] at hs;rw[HE.out];exact hs.symm
   clear ht hy hs hd hi HS HE HR HC HN hl
   by_cases h0:y=0
   ·subst h0
    by_cases h1:t=d
    ·subst h1;have xE:=Qd (xB.out rfl rfl);clear HQ xA xB
     go_wp2_with (go_at_call 162;(with_reducible refine xC.out.mono ?_);rintro e w2 ⟨rfl,u⟩)
     go_roundg (len - (j+1))
     case rel=>go_light;exact⟨j+1,by omega,rfl,rfl,xE,u⟩
     case measure=>go_light;omega
    ·have hb:=Qec h1;have hz:=xA.out rfl h1;subst hz;clear HQ xA xB
     go_wp2_with (go_at_call 162;(with_reducible refine xC.out.mono ?_);rintro e w2 ⟨rfl,u⟩)
     go_ret
     exact⟨rfl,u⟩
   ·have hz:=HQ.out h0;subst hz;have xK:(e0 == 0)=false:=by simpa using h0
    clear HQ xA xB
    go_wp2_with (go_at_call 162;(with_reducible refine xC.out.mono ?_);rintro e w2 ⟨rfl,u⟩)
    go_ret
    exact⟨rfl,u⟩
  ·have xG : ¬(j:Int)<(len:Int):=by omega
   obtain rfl:j=len:=by omega
   have hz:e0=0:=by
    rw[<-HE.out,<-HS.out,<-hl];exact Qna D S pl ds
   subst hz;have u:=HB.out;clear HS HE HR HC HN hl HB;go_wp2
   go_ret
   exact⟨rfl,u⟩
end
end Go.Proofs.YtoblgjledefdbaaGreatDoor
