/- Own work. -/
import Derived.Test.YtoblgjledefdbaaGreatDoorQt11
set_option maxRecDepth 100000
set_option maxHeartbeats 4000000
namespace Go.Proofs.YtoblgjledefdbaaGreatDoor
open Go.RowKit
attribute [local go_sem ↓] Go.wp_at_zero Go.wp_at_succ
open Go.Proofs.Tryz
section
attribute [local go_sem ↓] St.UY
theorem Qdk(w:World)(ty B:Nat)(v:Value)(L:LB)(hown:Qh w B v L)(ad:Addr)(mc:Nat)(c:BA)(hr:∀j u,[Value.string c][j]? = some u->w.cell? (ad.add j)=some u)
  (hlen:L.length+1<=1048576) (hB:B<=w.heap.size) :
  ∃v' w',(Builtin.append_ #[22,22] ty #[v,.slice (some ad) 1 mc]).run prog w= .ok v' w'∧Qh w' B v' (L++[c])∧St.QjA w w' v v':=by
 obtain⟨i0,hi,xF,xD,xG⟩:=info_parts Tryz.infoS;have xC:∀ {w':World} {v':Value} {n:Nat},n=L.length+1->w'.ownsRow B 9 1 v' n (L.map Value.string++[.string c])->Qh w' B v' (L++[c]):=fun hn h=>by
  rw[Qh,LQ,Lc,LG,NZ,Ll,<-hn];exact h
 have xE:∀u∈([.string c]:List Value),u.oneCell'=true:=by intro u hu;simp at hu;subst hu;rfl
 have xA:=hown
 rcases hown.2 with ⟨rfl,h0⟩|⟨g,cp,cur,rfl,hgb,hh,hc⟩
 ·have hL:L=[]:=List.length_eq_zero_iff.1 h0;subst hL;obtain⟨v',w',xB,r1,r2,_⟩:=run_append_own (P:=prog) w w.heap.size 22 ty 9 i0 (.string ByteArray.empty) 1 16 underlying22 hi xF xD xG rfl (by decide) _ 0 [] (Np _ _ _ _) ad 1 mc [.string c] rfl hr xE (by decide) (by decide) (La _)
  exact⟨v',w',xB,xC rfl (by simpa using World.ownsRow.mono r1 hB),.inr ⟨r2,fun k hk=>(LO r1 k hk).1⟩⟩
 ·by_cases hfit:L.length+1<=cp
  ·obtain⟨w',xB,r1,r2⟩:=run_append_fits (P:=prog) w B 22 ty 9 i0 1 underlying22 hi xD g L.length cp (L.map Value.string) xA ad 1 mc [.string c] rfl hr xE hfit;exact⟨_,w',xB,xC rfl r1,.inl ⟨g,L.length,cp,rfl,rfl,r2⟩⟩
  ·obtain⟨v',w',xB,r1,r2⟩:=run_append_arg_grows (P:=prog) w 22 ty 9 i0 (.string ByteArray.empty) 1 16 underlying22 hi xF xD xG rfl (by decide) ⟨g,0,none⟩ L.length cp (L.map Value.string) xA.1 (Ib xA rfl) ad 1 mc [.string c] rfl hr (by omega) (by unfold maxLen;omega) (by omega)
   exact⟨v',w',xB,xC rfl (World.ownsRow.mono r1 hB),.inr ⟨r2,fun k hk=>(LO r1 k hk).1⟩⟩
def TkQ(w:World)(g:Int)(a q p m r:Nat)(vr vs:Value)(T:Nat->Prop)(D:St.DV)(S:St.SV)(L:LB)(x:BA)(r':Nat)(vr':Value)(W:World):Prop :=
 ∃vs',Led W g a q p m r' vr' vs' T D S (L++[x])∧St.Upo (Lef a m r vr vs) w W ∧ ∀b,vs'.ownBlock=some b->vs.ownBlock=some b∨w.heap.size<=b
section
variable {w w1 w2:World} {g:Int} {a q p m r r':Nat} {vr vs vr':Value} {T:Nat->Prop} {D:St.DV} {S:St.SV} {L:LB} {x:BA}
structure Nw(w:World)(T:Nat->Prop)(vs:Value)(S:St.SV)(L:LB)(x:BA)(r':Nat)(vr':Value):Prop where
 rg:Kp.Rg w r' vr' (S.k:Int) (L.length+1) (pkL S.k (L++[x]))
 nt:¬T r'
 nv:∀b,vr'.ownBlock=some b -> ¬T b∧vs.ownBlock≠some b
theorem QcF{b:Nat}{c c':Array Value}{t t':TypeId}{f f':Nat×Nat}(h:w.heap[b]? = some (.cells c t f))(h':w.heap[b]? = some (.cells c' t' f'))(hne:t≠t'):False:=by
 rw[h] at h';injection h' with h'
 injection h' with _ h'
 exact hne h'
theorem Qju(h:Led w g a q p m r vr vs T D S L)(hL:L.length<65536)(hx:x.size<=1048576)(hn:Nw w T vs S L x r' vr')(hb1:Bl w w1)(hz1:w.heap.size<w1.heap.size)
  (hF2:Frs w2 m (S.k:Int) (L++[x])) (hU2:St.Upo (fun b=>b=m∨b=m+1) w1 w2) (w3 w4:World) (hw3:w2.setCell ⟨a,4,none⟩ (Pq r')=w3) (hw4:(w3.alloc (.cells #[.string (sm x)] 9)).drew=w4) :
  ∃ao n cap w5,(Builtin.append_ #[22,22] 22 #[vs,.slice (Zp w3.heap.size) 1 1]).run prog w4= .ok (.slice ao n cap) w5∧w5.heap[a]? = some (rwL g (.int .u32 0) (Zp q) (.pointer (some ⟨m+1,0,none⟩)) (Pq r') vs) ∧
   w3.heap[a]? = some (rwL g (.int .u32 0) (Zp q) (.pointer (some ⟨m+1,0,none⟩)) (Pq r') vs)∧w2.heap[a]? = some (rwL g (.int .u32 0) (Zp q) (.pointer (some ⟨m+1,0,none⟩)) (Pq r) vs) ∧
   TkQ w g a q p m r vr vs T D S L x r' vr' (w5.setCell ⟨a,5,none⟩ (.slice ao n cap)):=by
 obtain⟨n1,n2,n3,n4,n5⟩:=h.nr;have xC:r'≠m∧r'≠m+1∧r'≠a:=by
  refine⟨?_,?_,?_⟩
  ·rintro rfl;obtain⟨es,c,hx,_⟩:=h.fr.mp;rw[hn.rg.blk] at hx;cases hx
  ·rintro rfl;exact QcF hn.rg.blk h.fr.blk (by decide)
  ·rintro rfl;exact QcF hn.rg.blk h.blk (by decide)
 have xA:∀b,(vs.ownBlock=some b∨vr'.ownBlock=some b)->b≠m∧b≠m+1∧b≠a∧b<w.heap.size:=fun b hb=>by
  have hr:∃cur,w.heap[b]? = some (.cells cur 9 (0,0)):=hb.elim (Qav h.own) (Qav hn.rg.own);obtain⟨cur,hc⟩:=hr;refine⟨?_,?_,?_,(Array.getElem?_eq_some_iff.1 hc).1⟩
  ·rintro rfl;obtain⟨es,c,hx,_⟩:=h.fr.mp;rw[hc] at hx;cases hx
  ·rintro rfl;exact QcF hc h.fr.blk (by decide)
  ·rintro rfl;exact QcF hc h.blk (by decide)
 have xB:=hn.rg.lt;have xE:a<w.heap.size:=h.lt (.inl rfl)
 -- the worlds
 have b2:∀b,b<w.heap.size->b≠m->b≠m+1->w2.heap[b]? = w.heap[b]? := fun b hb e1 e2=>(hU2.block b (by omega) (fun e=>e.elim e1 e2)).trans (hb1.block b hb)
 have s2:=hU2.size;have b3:∀b,b≠a->w3.heap[b]? = w2.heap[b]? := fun b hb=>by rw[<-hw3];exact Below.heap_setCell _ _ _ _ hb
 have s3:w3.heap.size=w2.heap.size:=by rw[<-hw3];simp
 have u4:Bl w3 w4:=by rw[<-hw4];exact(bal (Lb _ _) _).drew
 have s4:w4.heap.size=w3.heap.size+1:=by rw[<-hw4];simp
 have a2:w2.heap[a]? = some (rwL g (.int .u32 0) (Zp q) (.pointer (some ⟨m+1,0,none⟩)) (Pq r) vs):=(b2 a xE n1 n2).trans h.blk;have a3:w3.heap[a]? = some (rwL g (.int .u32 0) (Zp q) (.pointer (some ⟨m+1,0,none⟩)) (Pq r') vs):=by rw[<-hw3];exact Lm w2 a 4 _ _ _ a2
 have b4:∀b,b<w.heap.size->b≠m->b≠m+1->b≠a->w4.heap[b]? = w.heap[b]? := fun b hb e1 e2 e3=>(u4.block b (by omega)).trans ((b3 b e3).trans (b2 b hb e1 e2))
 have o4:Qh w4 0 vs (smL L):=St.Qy h.own fun b hb=>b4 b (xA b (.inl hb)).2.2.2 (xA b (.inl hb)).1 (xA b (.inl hb)).2.1 (xA b (.inl hb)).2.2.1
 have c4:∀j u,[Value.string (sm x)][j]? = some u->w4.cell? ((⟨w3.heap.size,0,none⟩:Addr).add j)=some u:=fun j u hu=>by
  rw[<-hw4]
  show(w3.alloc (.cells #[.string (sm x)] 9)).cell? _=some u
  exact St.Qeb w3 _ _ j u hu
 have xI:(smL L).length=L.length:=by simp[smL]
 obtain⟨v',w5,xH,o5,g5⟩:=Qdk w4 22 0 vs (smL L) o4 ⟨w3.heap.size,0,none⟩ 1 (sm x) c4 (by omega) (Ln _)
 obtain⟨ao,n,cap,rfl⟩:=YE o5;have t5:St.Upo (fun b=>vs.ownBlock=some b) w4 w5:=by
  rcases g5 with ⟨g,n,c,e1,e2,g3⟩|⟨g3,_⟩
  ·rw[e1];exact St.Upo.grown g3 (fun b hb=>by cases hb;rfl)
  ·exact St.Upo.grown g3 (fun b hb=>by cases hb)
 have xD:∀b,(Value.slice ao n cap).ownBlock=some b->vs.ownBlock=some b∨w4.heap.size<=b:=fun b hb=>by
  rcases g5 with ⟨g',n,c,e1,e2,g3⟩|⟨_,g3⟩
  ·rw[e1];rw[e2] at hb;exact .inl hb
  ·exact .inr (g3 b hb)
 have a5:w5.heap[a]? = some (rwL g (.int .u32 0) (Zp q) (.pointer (some ⟨m+1,0,none⟩)) (Pq r') vs):=(t5.block a (by omega) (fun e=>(xA a (.inl e)).2.2.1 rfl)).trans ((u4.block a (by omega)).trans a3)
 refine⟨ao,n,cap,w5,xH,a5,a3,a2,.slice ao n cap,?_,?_,fun b hb=>(xD b hb).imp id (fun e=>by omega)⟩
 ·have b5:∀b,b<w4.heap.size->b≠a->vs.ownBlock≠some b->(w5.setCell ⟨a,5,none⟩ (.slice ao n cap)).heap[b]? = w4.heap[b]? := fun b hb e1 e2=>(Below.heap_setCell _ _ _ _ e1).trans (t5.block b hb e2)
  have xG:∀b,T b->b<w.heap.size∧b≠m∧b≠m+1∧b≠a∧vs.ownBlock≠some b:=fun b hb=>
   ⟨h.sk.lt hb,fun e=>h.ap b hb (.inr (.inl e)),fun e=>h.ap b hb (.inr (.inr (.inl e))),fun e=>h.ap b hb (.inl e),fun e=>h.ap b hb (.inr (.inr (.inr (.inr (.inr e)))))⟩
  have xJ:=hF2.lt;have xF:∀b,(b=m∨b=m+1)->b<w4.heap.size∧b≠a∧vs.ownBlock≠some b:=fun b hb=>by
   refine⟨by omega,fun e=> ?_,fun e=> ?_⟩
   ·rcases hb with hb|hb
    ·exact n1 (e.symm.trans hb)
    ·exact n2 (e.symm.trans hb)
   ·rcases hb with hb|hb
    ·exact(xA b (.inl e)).1 hb
    ·exact(xA b (.inl e)).2.1 hb
  have hk:∀b,(b=m∨b=m+1)->(w5.setCell ⟨a,5,none⟩ (.slice ao n cap)).heap[b]? = w2.heap[b]? := fun b hb=>by
   obtain⟨e1,e2,e3⟩:=xF b hb;exact(b5 b e1 e2 e3).trans ((u4.block b (by rcases hb with rfl|rfl <;> omega)).trans (b3 b e2))
  refine⟨Lm w5 a 5 _ _ _ a5,h.sk.same fun b hb=> ?_,hF2.same (hk m (.inl rfl)) (hk _ (.inr rfl)),⟨?_,St.Qy hn.rg.own fun b hb=> ?_,hn.rg.k1,hn.rg.k2,?_,?_,hn.rg.hs⟩,?_,?_,fun b hb hl=> ?_,fun b hb=> ?_⟩
  ·obtain⟨e1,e2,e3,e4,e5⟩:=xG b hb;exact(b5 b (by omega) e4 e5).trans (b4 b e1 e2 e3 e4)
  ·rw[Lc,LK];have:vs.ownBlock≠some r':=fun e=>by
    obtain⟨cur,hc⟩:=Qav h.own e;exact QcF hc hn.rg.blk (by decide)
   exact(b5 r' (by omega) xC.2.2 this).trans ((b4 r' xB xC.1 xC.2.1 xC.2.2).trans hn.rg.blk)
  ·obtain⟨e1,e2,e3,e4⟩:=xA b (.inr hb);exact(b5 b (by omega) e3 (hn.nv b hb).2).trans (b4 b e4 e1 e2 e3)
  ·rw[Lc,LK];exact hn.rg.hn
  ·rw[Lc,LK];exact hn.rg.hl
  ·rw[smL,LQ];refine St.Qy (v := .slice ao n cap) o5 fun b hb=>Below.heap_setCell _ _ _ _ ?_
   rcases xD b hb with e|e
   ·exact(xA b (.inl e)).2.2.1
   ·show b≠a;omega
  ·intro s hs
   rcases List.mem_append.1 hs with e|e
   ·exact h.sz s e
   ·rw[List.mem_singleton.1 e];exact hx
  ·obtain⟨e1,e2,e3,e4,e5⟩:=xG b hb
   rcases hl with e|e|e|e|e|e
   ·exact e4 e
   ·exact e2 e
   ·exact e3 e
   ·exact hn.nt (e ▸ hb)
   ·exact(hn.nv b e).1 hb
   ·exact(xD b e).elim e5 (fun e=>by omega)
  ·intro e;obtain⟨e1,e2,e3,e4⟩:=xA b (.inr hb);exact(xD b e).elim (hn.nv b hb).2 (fun e=>by omega)
 ·have q1:St.Upo (fun b=>b=m∨b=m+1) w w2:=(St.Upo.of hb1).trans hU2 fun _ _ e=>e
  have q2:St.Upo (fun b=>b=m∨b=m+1∨b=a) w w3:=by rw[<-hw3];exact(q1.mono fun b _ e=>e.elim .inl (fun e=> .inr (.inl e))).set a 4 _ (.inl (.inr (.inr rfl)))
  have q3:=(q2.next u4).mono (T:=Lef a m r vr vs) fun b _ e=>by
   rcases e with e|e|e
   ·exact .inr (.inl e)
   ·exact .inr (.inr (.inl e))
   ·exact .inl e
  exact(q3.trans t5 fun b _ e=> .inr (.inr (.inr (.inr (.inr e))))).set a 5 _ (.inl (.inl rfl))
end
section
variable {g:Int} {a q p m r r':Nat} {vr vs vr':Value} {T:Nat->Prop} {D:St.DV} {S:St.SV} {L:LB} {x:BA}
theorem Qda(w:World)(ht:Tb w)(h:Led w g a q p m r vr vs T D S L)(hL:L.length<65536)(hx:x.size<=1048576)(hn:Nw w T vs S L x r' vr')(va:OA)(vn vc:Nat) :
  Calls prog 97 #[Pq a,.agg #[.string x,.string (sm x),.slice va vn vc,Pq r']] w fun e w'=>e= .returned (.tuple #[])∧TkQ w g a q p m r vr vs T D S L x r' vr' w':=by
 obtain⟨s,hs⟩:=Ze (sm x);obtain⟨w1,xA⟩:=Ze (w.alloc (.cells #[.string x,.string s,.slice va vn vc,Pq r'] 175));have u1:Bl w w1:=by rw[<-xA];exact bal (Lb _ _) _
 have k1:w1.heap[w.heap.size]? = some (.cells #[.string x,.string s,.slice va vn vc,Pq r'] 175 (0,0)):=by rw[<-xA];exact LC w _
 have xG:=(Array.getElem?_eq_some_iff.1 k1).1
 obtain⟨b0,xD⟩:=Ze w.heap.size;rw[xD] at k1;have h1:=h.next u1;have hm:=h.fr.lt;have HF:Hid (∀W,Bl w1 W->Calls prog 163 #[.pointer (some ⟨m+1,0,none⟩),.string x] W fun e w'=> ∃v,e= .returned (.tuple #[v,.int .i64 0])∧Frs w' m (S.k:Int) (L++[x])∧St.Upo (fun b=>b=m∨b=m+1) w1 w'):=fun W hW=>
  (Qgo W ((ht.next u1).next hW) m S.k L (h1.next hW).fr x hx hL _ rfl).mono fun e w' z=>by
   obtain⟨v,z1,z2,z3,z4⟩:=z;exact⟨v,z1,z2,(St.Upo.of hW).trans ⟨z4.below.os,z4.below.tape,z4.below.output,z4.below.size,fun b hb hne=>z4.block b hb (fun e=>hne (.inl e)) (fun e=>hne (.inr e))⟩ fun _ _ e=>e⟩
 obtain⟨c0,c2,c3,c4,c5,cf⟩:=h1.cells;have xC:=h1.lt (x:=a) (.inl rfl);have HC:Hid (∀W,Bl w1 W->W.cell? ⟨a,3,none⟩=some (.pointer (some ⟨m+1,0,none⟩))∧W.cell? ⟨b0,0,none⟩=some (.string x)):=fun W hW=>⟨(hW.cell (p:=⟨a,3,none⟩) xC).trans c3,by rw[cell_of_row W b0 0 _ _ (0,0) ((hW.block _ (by omega)).trans k1)];rfl⟩
 have HK:Hid (∀W,St.Upo (fun b=>b=m∨b=m+1) w1 W->W.heap[b0]? = some (.cells #[.string x,.string s,.slice va vn vc,Pq r'] 175 (0,0))):=fun W hW=>(hW.block _ (by omega) (by omega)).trans k1
 have xE:Hid (∀W,St.Upo (fun b=>b=m∨b=m+1) w1 W->W.cell? ⟨a,3,none⟩=some (.pointer (some ⟨m+1,0,none⟩))∧W.cell? ⟨b0,0,none⟩=some (.string x)):=fun W hW=>by
  obtain⟨n1,n2,_⟩:=h1.nr;exact⟨(LE (a:=⟨a,3,none⟩) (hW.block a xC (fun e=>e.elim n1 n2))).trans c3,by rw[cell_of_row W b0 0 _ _ (0,0) (HK.out W hW)];rfl⟩
 have HT:=Qc (fun(W:World) (z1:Frs W m (S.k:Int) (L++[x])) (z2:St.Upo (fun b=>b=m∨b=m+1) w1 W)=>Qju h hL hx hn u1 xG z1 z2 _ _ rfl rfl)
 obtain⟨xL,xM,xN,rfl⟩:=YE h.own;have hne:¬b0=a:=by have:=h.lt (x:=a) (.inl rfl);omega
 have u:Bl w1 w1.drew:=(Lb _ _).drew;rw[hs] at HT ⊢;have xI:=Qc xA;have xH:=Qc xD;obtain⟨d3,d4⟩:=HC.out _ (Lb _ _);clear ht h h1 hx hL hn k1 u1 c0 c2 c3 c4 c5 cf hs xG xA xD xC hm
 go_enter func97,ntmps97
 go_upto_region 1 with (fail)
 rw[xI.out,xH.out]
 go_region_held3 (fun Z=>Z.cell? ⟨a,3,none⟩=some (.pointer (some ⟨m+1,0,none⟩))∧Z.cell? ⟨b0,0,none⟩=some (.string x)) (first|assumption|(with_reducible exact xE.out _ u2)|(with_reducible exact HC.out _ u)) (first
  | (go_at_call 163;(with_reducible refine(HF.out _ u).mono ?_);rintro e w2 ⟨v,rfl,f2,u2⟩))
 all_goals
  obtain⟨ao,n,xK,w5,xB,a5,a3,a2,ht⟩:=HT.out w2 f2 u2;have HZ:=Qc ht;have k2:=HK.out w2 u2;have e3:w2.cell? ⟨b0,3,none⟩=some (Pq r'):=by rw[cell_of_row w2 b0 3 _ _ (0,0) k2];rfl
  obtain⟨_,_,_,d4,_,df⟩:=Ym a2;have f4:=df 4;obtain⟨w3,xF⟩:=Ze (w2.setCell ⟨a,4,none⟩ (Pq r'));rw[xF] at xB a3;have k3:w3.heap[b0]? = some (.cells #[.string x,.string s,.slice va vn vc,Pq r'] 175 (0,0)):=by rw[<-xF];exact(Below.heap_setCell _ _ _ _ hne).trans k2
  clear ht HT HK HC xE HF f2 u2 d3 df k2 a2;obtain⟨_,_,_,_,q5,_⟩:=Ym a3;obtain⟨_,_,_,_,q6,qf⟩:=Ym a5;have q7:=qf 5;have x1:w3.cell? ⟨b0,1,none⟩=some (.string s):=by rw[cell_of_row w3 b0 1 _ _ (0,0) k3];rfl
  have ub:Bl w3 (w3.alloc (.cells #[.string s] 9)).drew:=(bal (Lb _ _) _).drew;have q8:(w3.alloc (.cells #[.string s] 9)).drew.cell? ⟨a,5,none⟩=_:=(ub.cell (p:=⟨a,5,none⟩) (Array.getElem?_eq_some_iff.1 a3).1).trans q5
  have x2:(w3.alloc (.cells #[.string s] 9)).drew.cell? ⟨b0,1,none⟩=_:=(ub.cell (p:=⟨b0,1,none⟩) (Array.getElem?_eq_some_iff.1 k3).1).trans x1
  have ha:=St.O1 xB;have xJ:¬a=b0:=fun e=>hne e.symm
  clear a5 a3 k3 ub qf xB
  go_upto_region 3 with (fail)
  go_region
  all_goals
   go_wp2;exact bodyPost_end (results_none rfl _ prog _) rfl ⟨rfl,HZ.out⟩
end
end
def Lg(w:World)(g:Int)(a p:Nat)(U:Nat->Prop)(D:St.DV)(S:St.SV)(L:LB):Prop :=
 ∃q m r vr vs T,Led w g a q p m r vr vs T D S L∧(∀x,U x↔T x∨Lef a m r vr vs x) ∧ ¬U 3
def LgM(w w':World)(g:Int)(a p:Nat)(U:Nat->Prop)(D':St.DV)(S':St.SV)(L':LB):Prop :=
 ∃U',Lg w' g a p U' D' S' L'∧(∀x,U' x->U x∨w.heap.size<=x)∧St.Upo U w w'
theorem Tb.lt{w:World}(ht:Tb w):3<w.heap.size:=QF ht.rs (QeS (by rw[OG];decide))
theorem Tb.upo{w W:World}{U:Nat->Prop}(ht:Tb w)(h:St.Upo U w W)(hn:¬U 3):Tb W:=by
 refine⟨fun j u hu=> ?_⟩
 rw[<-ht.rs j u hu];have:=h.block _ ht.lt hn;simp only[World.cell?,this]
section
variable {w w1 W:World} {g:Int} {a q p m r:Nat} {vr vs:Value} {T U:Nat->Prop} {D D' D2:St.DV} {S S' S2:St.SV} {L L' L2:LB}
theorem Lg.lt(h:Lg w g a p U D S L){x:Nat}(hx:U x):x<w.heap.size:=by
 obtain⟨q,m,r,vr,vs,T,h1,h2,_⟩:=h;exact((h2 x).1 hx).elim h1.sk.lt h1.lt
theorem Lg.own(h:Lg w g a p U D S L):U a:=by
 obtain⟨q,m,r,vr,vs,T,h1,h2,_⟩:=h;exact(h2 a).2 (.inr (.inl rfl))
theorem Lg.same(h:Lg w g a p U D S L)(hb:∀x,U x->W.heap[x]? = w.heap[x]?):Lg W g a p U D S L:=by
 obtain⟨q,m,r,vr,vs,T,h1,h2,h3⟩:=h;exact⟨q,m,r,vr,vs,T,h1.same (fun x hx=>hb x ((h2 x).2 (.inl hx))) (fun x hx=>hb x ((h2 x).2 (.inr hx))),h2,h3⟩
theorem Lg.next(h:Lg w g a p U D S L)(hb:Bl w W):Lg W g a p U D S L:=h.same fun x hx=>hb.block x (h.lt hx)
theorem Lg.lkd(h:Lg w 0 a p U D S L)(hL:Lkd a w W):Lg W 1 a p U D S L:=by
 obtain⟨q,m,r,vr,vs,T,h1,h2,h3⟩:=h;exact⟨q,m,r,vr,vs,T,h1.lkd hL,h2,h3⟩
theorem Lg.set(h:Lg w g a p U D S L)(g':Int):Lg (w.setCell ⟨a,0,none⟩ (.int .i32 g')) g' a p U D S L:=by
 obtain⟨q,m,r,vr,vs,T,h1,h2,h3⟩:=h;exact⟨q,m,r,vr,vs,T,h1.set g',h2,h3⟩
theorem Lg.sk(h:Lg w g a p U D S L):∃q T,w.cell? ⟨a,2,none⟩=some (Pq q)∧St.Sk w q p T D S:=by
 obtain⟨q,m,r,vr,vs,T,h1,h2,h3⟩:=h;exact⟨q,T,h1.cells.2.1,h1.sk⟩
theorem Lg.row(h:Lg w g a p U D S L):∃q m r vs,w.heap[a]? = some (rwL g (.int .u32 0) (Zp q) (.pointer (some ⟨m+1,0,none⟩)) (Pq r) vs)∧Frs w m (S.k:Int) L∧Qh w 0 vs (smL L):=by
 obtain⟨q,m,r,vr,vs,T,h1,h2,h3⟩:=h;exact⟨q,m,r,vs,h1.blk,h1.fr,h1.own⟩
theorem LgM.of(h:Lg w g a p U D S L)(hb:Bl w W):LgM w W g a p U D S L:=⟨U,h.next hb,fun _ hx=> .inl hx,St.Upo.of hb⟩
theorem Led.add(h:Led w g a q p m r vr vs T D S L)(hm:St.SkM w W q p T D' S')(hk:S'.k=S.k):∃T',Led W g a q p m r vr vs T' D' S' L∧(∀x,T' x->T x∨w.heap.size<=x)∧St.Upo T w W:=by
 obtain⟨T',h1,h2,h3⟩:=hm;have xA:∀x,Lef a m r vr vs x->W.heap[x]? = w.heap[x]? := fun x hx=>h3.block x (h.lt hx) (fun e=>h.ap x e hx)
 refine⟨T',⟨(xA a (.inl rfl)).trans h.blk,h1,?_,?_,St.Qy h.own fun x hx=>xA x (.inr (.inr (.inr (.inr (.inr hx))))),h.sz,fun x hx hl=> ?_,h.av⟩,h2,h3⟩
 ·rw[hk];exact h.fr.same (xA m (.inr (.inl rfl))) (xA _ (.inr (.inr (.inl rfl))))
 ·rw[hk];exact⟨(xA r (.inr (.inr (.inr (.inl rfl))))).trans h.rg.blk,St.Qy h.rg.own fun x hx=>xA x (.inr (.inr (.inr (.inr (.inl hx))))),h.rg.k1,h.rg.k2,h.rg.hn,h.rg.hl,h.rg.hs⟩
 ·rcases h2 x hx with e|e
  ·exact h.ap x e hl
  ·have:=h.lt hl;omega
end
theorem QjI(D:St.DV)(S:St.SV)(x:List UInt8)(ds:LB):(St.Uy D S x ds).2.1.k=S.k:=by
 unfold St.Uy
 split
 ·rfl
 ·split <;> rfl
theorem QcO(D:St.DV)(S:St.SV)(x:List UInt8)(ds:LB):((St.Uy D S x ds).2.2=0∧(St.Uy D S x ds).2.1.ends.length=S.ends.length+1)∨((St.Uy D S x ds).2.2≠0∧(St.Uy D S x ds).2.1.ends=S.ends):=by
 unfold St.Uy
 split
 ·exact .inr ⟨by assumption,rfl⟩
 ·split
  ·exact .inl ⟨rfl,by simp⟩
  ·exact .inr ⟨by assumption,rfl⟩
def aD(D:St.DV)(S:St.SV)(L:LB)(x:BA):St.DV×St.SV×LB×Int :=
 if 1048576<x.size then (D,S,L,100) else if 65536<=S.ends.length then (D,S,L,101) else
 ((St.Uy D S x.data.toList (mdL S.k L x)).1,(St.Uy D S x.data.toList (mdL S.k L x)).2.1,if (St.Uy D S x.data.toList (mdL S.k L x)).2.2=0 then L++[x] else L,(St.Uy D S x.data.toList (mdL S.k L x)).2.2)
theorem QpS{w:World}{ao:OA}{b off len:Nat}{ss:LB}(h:RdS w ao b off len ss):RdS w ao b off len ss:=⟨h.hl,h.ptr,h.rng,h.sz⟩
theorem QeK(f n:Nat):Pl.trl f n<=f:=by
 induction f generalizing n with
 | zero=>exact La _
 | succ f ih=>
  have:=ih (n/2);simp only[Pl.trl]
  split <;> omega
section
variable {p:Nat} {U:Nat->Prop} {D D':St.DV} {S S':St.SV} {L L':LB}
theorem OZ(w:World)(ht:Tb w)(a:Nat)(h:Lg w 1 a p U D S L)(he:S.ends.length=L.length)(hrm:St.Rm 7 D)(x:BA)(hx:x.size<=9223372036854775807)(e0:Int)(hA:aD D S L x=(D',S',L',e0)) :
  Calls prog 49 #[Pq a,.string x] w fun e w'=>e= .returned (.int .i64 e0)∧LgM w w' 1 a p U D' S' L':=by
 obtain⟨q,m,r,vr,vs,T,hl,hU,hn⟩:=h;have xE:Lg w 1 a p U D S L:=⟨q,m,r,vr,vs,T,hl,hU,hn⟩;have xW:=hl.cells.2.1;have yC:=Lo _ _ xW;unfold aD at hA
 by_cases h1:1048576<x.size
 ·rw[Lf h1] at hA;obtain⟨rfl,rfl,rfl,rfl⟩:D=D'∧S=S'∧L=L'∧100=e0:=by injection hA with e1 e2;injection e2 with e2 e3;injection e3 with e3 e4;exact⟨e1,e2,e3,e4⟩
  have hd:decide ((1048576:Int)<(x.size:Int))=true:=LW (by omega)
  have HZ:=Qc xE;clear hA ht hrm hl hU hn xE h1 he
  go_enter func49,ntmps49;go_wp2
  go_ret
  exact⟨rfl,LgM.of HZ.out (Lb _ _)⟩
 rw[Le h1] at hA;have yP:decide ((1048576:Int)<(x.size:Int))=false:=LA (by omega)
 have xT:Hid (Rf 74 #[Pq q] w (.int .u64 S.ends.length)):=(St.YX w hl.sk).mono fun e w' z=>⟨z.1,z.2.symm⟩
 by_cases h2:65536<=S.ends.length
 ·rw[Lf h2] at hA;obtain⟨rfl,rfl,rfl,rfl⟩:D=D'∧S=S'∧L=L'∧101=e0:=by injection hA with e1 e2;injection e2 with e2 e3;injection e3 with e3 e4;exact⟨e1,e2,e3,e4⟩
  have hd:decide ((65536:Int)<=(S.ends.length:Int))=true:=LW (by omega)
  have HZ:=Qc xE;clear hA ht hrm hl hU hn xE h1 h2 he
  go_enter func49,ntmps49
  go_wp2_with (go_at_call 74;(with_reducible refine xT.out.mono ?_);rintro e w1 ⟨rfl,rfl⟩)
  go_ret
  exact⟨rfl,LgM.of HZ.out (Lb _ _)⟩
 rw[Le h2] at hA;have yQ:decide ((65536:Int)<=(S.ends.length:Int))=false:=LA (by omega)
 have k2:=hl.k1;have yD:=hl.clk;obtain⟨DA,xI⟩:=Ze (St.Uy D S x.data.toList (mdL S.k L x));rw[xI] at hA;have xK:=QjI D S x.data.toList (mdL S.k L x);have xJ:=QcO D S x.data.toList (mdL S.k L x);rw[xI] at xK xJ;obtain⟨D1,S1,e1⟩:=DA;obtain⟨rfl,rfl,yA,rfl⟩:D1=D'∧S1=S'∧(if e1=0 then L++[x] else L)=L'∧e1=e0:=by injection hA with e1 e2;injection e2 with e2 e3;injection e3 with e3 e4;exact⟨e1,e2,e3,e4⟩
 simp only at xK xJ;obtain⟨s,hs⟩:=Ze (sm x);have xZ:Hid (Calls prog 95 #[Pq a,.string x] w (NxQ w S.k L x)):=JQ w ht a m r vr S.k L hl.fr hl.rg yD hl.cells.2.2.1 hl.cells.2.2.2.1 x (by omega) (by omega)
 have yK:(mdL S.k L x).length<=1000:=by rw[Qak];have:=QeK 40 L.length;omega
 have xX:Hid (∀W va vn vc,Bl w W->Qh W w.heap.size (.slice va vn vc) (mdL S.k L x)->Calls prog 100 #[Pq q,.string x,.slice va vn vc] W fun e w'=>e= .returned (.int .i64 e1)∧St.SkM W w' q p T D1 S1):=fun W va vn vc hW ho=>by
  obtain⟨ao,b,yN,hv,hr,_,_⟩:=Ya ho (fun y hy=>by rw[QgD k2.2 L x y hy];omega)
  injection hv with e1 e2 e3
  subst e1 e2 e3;exact St.OZ W (hl.sk.next hW) hrm x hx va b 0 _ vc (mdL S.k L x) (QpS hr) (by omega) D1 S1 e1 xI
 have HC:Hid (∀W,Bl w W->W.cell? ⟨a,2,none⟩=some (Pq q)):=fun W hW=>(hW.cell (p:=⟨a,2,none⟩) yC).trans xW
 have HU:=Qc hU;have xB:=Qc hn;have xA:=Qc hl;have xQ:=Qc yA;have xG:=Qc xK;have yI:=Qc xJ;have xY:=Qc he;have xS:=Qc hs;have xU:=Qc (Nx h1 h2);have xH:=Qc ht;clear hU hn hl yA xK xJ he hs hx h1 h2 ht hA xI yK yD k2 hrm xE yC
 go_enter func49,ntmps49
 go_upto_region 6 with (first
  | (go_at_call 74;(with_reducible refine xT.out.mono ?_);rintro e w1 ⟨rfl,rfl⟩)
  | (go_at_call 95;(with_reducible refine xZ.out.mono ?_);rintro e w1 ⟨vm,r',xM,rfl,om,yE,lr,lv,u1⟩;obtain⟨va,vn,vc,rfl⟩:=YE om;rw[xS.out]))
 obtain⟨b0,xV⟩:=Ze w1.heap.size;obtain⟨w2,xL⟩:=Ze (w1.alloc (.cells #[.string x,.string s,.slice va vn vc,Pq r'] 175));have k2:w2.heap[b0]? = some (.cells #[.string x,.string s,.slice va vn vc,Pq r'] 175 (0,0)):=by rw[<-xL,<-xV];exact LC w1 _
 have u2:Bl w1 w2:=by rw[<-xL];exact bal (Lb _ _) _
 have z2:=(Array.getElem?_eq_some_iff.1 k2).1
 have v2:Bl w w2:=Qa u1 u2;have o2:Qh w2 w.heap.size (.slice va vn vc) (mdL S.k L x):=QB om u2 (La _);have yH:=Qc xV;have g2:Kp.Rg w2 r' xM (S.k:Int) (L.length+1) (pkL S.k (L++[x])):=yE.next u2 (La _);have yJ:=Qc xL;have xF:Hid (∀W,Bl w2 W->W.cell? ⟨a,2,none⟩=some (Pq q)∧W.cell? ⟨b0,2,none⟩=some (.slice va vn vc)):=fun W hW=>⟨HC.out W (Qa v2 hW),by rw[cell_of_row W b0 2 _ _ (0,0) ((hW.block _ z2).trans k2)];rfl⟩
 have xN:Hid (∀W,Bl w2 W->Calls prog 100 #[Pq q,.string x,.slice va vn vc] W fun e w'=>e= .returned (.int .i64 e1)∧St.SkM w2 w' q p T D1 S1):=fun W hW=>(xX.out W va vn vc (Qa v2 hW) (QO (QB o2 hW (La _)) (La _))).mono fun e w' z=>⟨z.1,St.SkM.first hW z.2⟩
 have xC:Hid (∀W,St.SkM w2 W q p T D1 S1->W.cell? ⟨a,2,none⟩=some (Pq q)∧W.heap[b0]? = some (.cells #[.string x,.string s,.slice va vn vc,Pq r'] 175 (0,0))):=fun W hW=>by
  obtain⟨T',t1,t2,t3⟩:=hW;have hT:∀b,T b->b<w.heap.size:=fun b hb=>xA.out.sk.lt hb
  exact⟨(LE (a:=⟨a,2,none⟩) (t3.block a (by have:=v2.size;have:=xA.out.lt (x:=a) (.inl rfl);omega) (fun e=>xA.out.ap a e (.inl rfl)))).trans (HC.out w2 v2),(t3.block _ z2 (fun e=>by have:=hT _ e;have:=u1.size;omega)).trans k2⟩
 have xP:Hid (∀W,St.SkM w2 W q p T D1 S1->W.cell? ⟨a,2,none⟩=some (Pq q)∧W.cell? ⟨b0,2,none⟩=some (.slice va vn vc)):=fun W hW=>⟨(xC.out W hW).1,by rw[cell_of_row W b0 2 _ _ (0,0) (xC.out W hW).2];rfl⟩
 have xO:Hid (∀W,¬e1=0->St.SkM w2 W q p T D1 S1->LgM w W 1 a p U D1 S1 L'):=fun W h0 hW=>by
  obtain⟨T',t1,t2,t3⟩:=(xA.out.next v2).add hW xG.out;have xD:=xQ.out;rw[Le h0] at xD;subst xD;refine⟨fun y=>T' y∨Lef a m r vr vs y,⟨q,m,r,vr,vs,T',t1,fun _=>Iff.rfl,fun e=> ?_⟩,fun y hy=> ?_,(St.Upo.of v2).trans t3 fun y _ ht=>(HU.out y).2 (.inl ht)⟩
  ·rcases e with e|e
   ·rcases t2 _ e with e|e
    ·exact xB.out ((HU.out _).2 (.inl e))
    ·have:=xH.out.lt;have:=v2.size;omega
   ·exact xB.out ((HU.out _).2 (.inr e))
  ·rcases hy with e|e
   ·exact(t2 y e).imp (fun e=>(HU.out y).2 (.inl e)) (fun e=>Lr v2.size e)
   ·exact .inl ((HU.out y).2 (.inr e))
 have xR:Hid (∀W,e1=0->St.SkM w2 W q p T D1 S1->Calls prog 97 #[Pq a,.agg #[.string x,.string s,.slice va vn vc,Pq r']] W fun e w'=>e= .returned (.tuple #[])∧LgM w w' 1 a p U D1 S1 L'):=fun W h0 hW=>by
  obtain⟨T',t1,t2,t3⟩:=(xA.out.next v2).add hW xG.out;have xD:=xQ.out;rw[Lf h0] at xD;have yB:∀y,T' y->y<w.heap.size∨w2.heap.size<=y:=fun y hy=>(t2 y hy).imp (fun e=>xA.out.sk.lt e) id
  have nw:Nw W T' vs S1 L x r' xM:=by
   refine⟨?_,fun e=> ?_,fun b hb=>⟨fun e=> ?_,fun e=> ?_⟩⟩
   ·rw[xG.out];exact⟨(t3.block _ g2.lt (fun e=>by have:=xA.out.sk.lt e;omega)).trans g2.blk,St.Qy g2.own fun b hb=>t3.block b (JR g2.own hb) (fun e=>by have:=xA.out.sk.lt e;have:=lv b hb;omega),g2.k1,g2.k2,g2.hn,g2.hl,g2.hs⟩
   ·have:=g2.lt;rcases yB _ e with e|e <;> omega
   ·have:=JR g2.own hb;have:=lv b hb;rcases yB _ e with e|e <;> omega
   ·have:=lv b hb;have:=JR xA.out.own e;omega
  have yM:Tb W:=(xH.out.next v2).upo t3 fun e=>xB.out ((HU.out _).2 (.inl e))
  have yF:=Qda W yM t1 (by have:=xU.out.2;have:=xY.out;omega) (by have:=xU.out.1;omega) nw va vn vc
  rw[xS.out] at yF;refine yF.mono fun e w' z=>⟨z.1,?_⟩
  obtain⟨yG,y1,y2,y3⟩:=z.2;rw[xD] at y1;refine⟨fun y=>T' y∨Lef a m r' xM yG y,⟨q,m,r',xM,yG,T',y1,fun _=>Iff.rfl,fun e=> ?_⟩,fun y hy=> ?_,((St.Upo.of v2).trans t3 fun y _ ht=>(HU.out y).2 (.inl ht)).trans y2 fun y _ ht=>(HU.out y).2 (.inr ht)⟩
  ·have yR:=xH.out.lt;have h3:=t3.size;have yL:=v2.size
   rcases e with e|e|e|e|e|e|e
   ·rcases t2 _ e with e|e
    ·exact xB.out ((HU.out _).2 (.inl e))
    ·omega
   ·exact xB.out ((HU.out _).2 (.inr (.inl e)))
   ·exact xB.out ((HU.out _).2 (.inr (.inr (.inl e))))
   ·exact xB.out ((HU.out _).2 (.inr (.inr (.inr (.inl e)))))
   ·omega
   ·have:=lv _ e;omega
   ·rcases y3 _ e with e|e
    ·exact xB.out ((HU.out _).2 (.inr (.inr (.inr (.inr (.inr (.inr e)))))))
    ·omega
  ·have h3:=t3.size;have yL:=v2.size
   rcases hy with e|e|e|e|e|e|e
   ·exact(t2 y e).imp (fun e=>(HU.out y).2 (.inl e)) (fun e=>by omega)
   ·exact .inl ((HU.out y).2 (.inr (.inl e)))
   ·exact .inl ((HU.out y).2 (.inr (.inr (.inl e))))
   ·exact .inl ((HU.out y).2 (.inr (.inr (.inr (.inl e)))))
   ·exact .inr (by omega)
   ·exact .inr (lv y e)
   ·exact(y3 y e).imp (fun e=>(HU.out y).2 (.inr (.inr (.inr (.inr (.inr (.inr e))))))) (fun e=>by omega)
 obtain⟨d1,d2⟩:=xF.out w2 (Lb _ _);have u:Bl w2 w2.drew:=(Lb _ _).drew;rw[yJ.out,yH.out];clear k2 z2 v2 u2 u1 o2 om g2 yE lr lv xX xV xL xA HU xB xQ xG yI xY xS xU xH xW xT xZ HC
 go_region_held3 (fun Z=>Z.cell? ⟨a,2,none⟩=some (Pq q)∧Z.cell? ⟨b0,2,none⟩=some (.slice va vn vc)) (first|assumption|(with_reducible exact xP.out _ t3)|(with_reducible exact xF.out _ u)) (first
  | (go_at_call 100;(with_reducible refine(xN.out _ u).mono ?_);rintro e w3 ⟨rfl,t3⟩))
 all_goals
  by_cases h0:e1=0
  ·have HT:=Qc (xR.out w3 h0 t3);have k3:=(xC.out w3 t3).2;have y0:w3.cell? ⟨b0,0,none⟩=some (.string x):=by rw[cell_of_row w3 b0 0 _ _ (0,0) k3];rfl
   have y1:w3.cell? ⟨b0,1,none⟩=some (.string s):=by rw[cell_of_row w3 b0 1 _ _ (0,0) k3];rfl
   have y2:w3.cell? ⟨b0,2,none⟩=some (.slice va vn vc):=by rw[cell_of_row w3 b0 2 _ _ (0,0) k3];rfl
   have y3:w3.cell? ⟨b0,3,none⟩=some (Pq r'):=by rw[cell_of_row w3 b0 3 _ _ (0,0) k3];rfl
   clear xR xO xC xP xF xN t3 k3 d1 d2;subst h0
   go_wp2_with (go_at_call 97;(with_reducible refine HT.out.mono ?_);rintro e w4 ⟨rfl,t4⟩)
   go_ret
   exact⟨rfl,t4⟩
  ·have HT:=Qc (xO.out w3 h0 t3);have yO:(e1 == 0)=false:=by simpa using h0
   clear xR xO xC xP xF xN t3 d1 d2;go_wp2
   go_ret
   exact⟨rfl,HT.out⟩
end
def apD:St.DV->St.SV->LB->LB->St.DV×St.SV×LB×Nat×Int
 | D,S,L,[]=>(D,S,L,0,0)
 | D,S,L,x::xs=>if (aD D S L x).2.2.2=0 then
   ((apD (aD D S L x).1 (aD D S L x).2.1 (aD D S L x).2.2.1 xs).1,(apD (aD D S L x).1 (aD D S L x).2.1 (aD D S L x).2.2.1 xs).2.1,(apD (aD D S L x).1 (aD D S L x).2.1 (aD D S L x).2.2.1 xs).2.2.1,(apD (aD D S L x).1 (aD D S L x).2.1 (aD D S L x).2.2.1 xs).2.2.2.1+1,(apD (aD D S L x).1 (aD D S L x).2.1 (aD D S L x).2.2.1 xs).2.2.2.2)
  else ((aD D S L x).1,(aD D S L x).2.1,(aD D S L x).2.2.1,0,(aD D S L x).2.2.2)
def RmA:St.DV->St.SV->LB->LB->Prop
 | _,_,_,[]=>True
 | D,S,L,x::xs=>St.Rm 7 D∧((aD D S L x).2.2.2=0->RmA (aD D S L x).1 (aD D S L x).2.1 (aD D S L x).2.2.1 xs)
theorem Qmv(D:St.DV)(S:St.SV)(L:LB)(x:BA)(he:S.ends.length=L.length):(aD D S L x).2.1.ends.length=(aD D S L x).2.2.1.length∧(aD D S L x).2.1.k=S.k:=by
 unfold aD
 split
 ·exact⟨he,rfl⟩
 ·split
  ·exact⟨he,rfl⟩
  ·refine⟨?_,QjI ..⟩
   rcases QcO D S x.data.toList (mdL S.k L x) with ⟨e1,e2⟩|⟨e1,e2⟩
   ·simp only[e1,if_true,e2,List.length_append,List.length_cons,List.length_nil,he]
   ·simp only[if_neg e1,e2,he]
section
variable {w W:World} {a p:Nat} {U:Nat->Prop} {D D' D0:St.DV} {S S' S0:St.SV} {L L' L0:LB} {g:Int}
theorem LgM.cell{b i:Nat}{v:Value}(h:LgM w W g a p U D S L)(hc:w.cell? ⟨b,i,none⟩=some v)(hb:¬U b):W.cell? ⟨b,i,none⟩=some v:=by
 obtain⟨U',h1,h2,h3⟩:=h;exact(LE (a:=⟨b,i,none⟩) (h3.block b (Lo _ _ hc) hb)).trans hc
theorem LgM.rds{ao:OA}{b off len:Nat}{xs:LB}(h:LgM w W g a p U D S L)(hr:RdS w ao b off len xs)(hb:0<len -> ¬U b):RdS W ao b off len xs :=
 ⟨hr.hl,hr.ptr,fun j v hv=>h.cell (hr.rng j v hv) (hb (by have:=(List.getElem?_eq_some_iff.1 hv).1;rw[LY] at this;have:=hr.hl;omega)),hr.sz⟩
theorem LgM.tb(h:LgM w W g a p U D S L)(h0:Lg w g a p U D0 S0 L0)(ht:Tb w):Tb W:=by
 obtain⟨U',h1,h2,h3⟩:=h;obtain⟨_,_,_,_,_,_,_,_,hn⟩:=h0;exact ht.upo h3 hn
theorem QeP(w:World)(ht:Tb w)(h:Lg w 1 a p U D S L)(he:S.ends.length=L.length)(bi bl:Nat)(ao:OA)(b len cap:Nat)(xs:LB)(hr:RdS w ao b 0 len xs)(hlen:len<=9223372036854775806)
  (ci:w.cell? ⟨bi,0,none⟩=some (.slice ao len cap)) (cl:w.cell? ⟨bl,0,none⟩=some (Pq a)) (n1:¬U bi) (n2:¬U bl) (n3:0<len -> ¬U b) (hR:RmA D S L xs) (n:Nat) (e0:Int) (hA:apD D S L xs=(D',S',L',n,e0)) :
  Calls prog 48 #[Pq bi,Pq bl] w fun e w'=>e= .returned (.tuple #[.int .i64 n,.int .i64 e0])∧LgM w w' 1 a p U D' S' L':=by
 have xB:=hr.hl;have HC:Hid (∀W Di Si Li,LgM w W 1 a p U Di Si Li->W.cell? ⟨bi,0,none⟩=some (.slice ao len cap)∧W.cell? ⟨bl,0,none⟩=some (Pq a)∧RdS W ao b 0 len xs):=fun W Di Si Li hW=>⟨hW.cell ci n1,hW.cell cl n2,hW.rds hr n3⟩
 have HA:Hid (∀W Di Si Li x Dj Sj Lj ej,LgM w W 1 a p U Di Si Li->Si.ends.length=Li.length->St.Rm 7 Di->x.size<=9223372036854775807->aD Di Si Li x=(Dj,Sj,Lj,ej)->Calls prog 49 #[Pq a,.string x] W fun e w'=>e= .returned (.int .i64 ej)∧LgM w w' 1 a p U Dj Sj Lj):=fun W Di Si Li x Dj Sj Lj ej hW g1 g2 g3 g4=>by
  obtain⟨U1,y1,y2,y3⟩:=hW;exact(OZ W (LgM.tb ⟨U1,y1,y2,y3⟩ h ht) a y1 g1 g2 x g3 ej g4).mono fun e w' z=>by
   obtain⟨U2,z1,z2,z3⟩:=z.2;exact⟨z.1,U2,z1,fun y hy=>(z2 y hy).elim (y2 y) (fun e=> .inr (Lr y3.size e)),y3.trans z3 fun y _ ht=>(y2 y ht).elim id (fun e=>by omega)⟩
 have HM:=Qc (LgM.of h (Lb _ _));have HQ:=Qc (Nx he (Nx hR hA));have xC:=hr.ptr;clear h he hR hA hr n1 n2 n3
 go_enter func48,ntmps48;go_wp2
 go_loopg [9] len (fun g x wr=> ∃(j m:Nat) (Di:St.DV) (Si:St.SV) (Li:LB),j<=len∧g=len-j∧x= .int .i64 j∧Hid (LgM w wr 1 a p U Di Si Li)∧Hid (Si.ends.length=Li.length∧RmA Di Si Li (xs.drop j)∧apD Di Si Li (xs.drop j)=(D',S',L',m,e0)∧j+m=n))
 case atStart=>go_light;exact⟨0,n,D,S,L,Ln _,rfl,rfl,HM,HQ.out.1,HQ.out.2.1,HQ.out.2.2,Ll _⟩
 case round=>
  clear HM HQ ci cl;obtain⟨j,m,Di,Si,Li,hj,rfl,rfl,HM,HQ⟩:=hrel;obtain⟨ci,cl,hr⟩:=HC.out wr Di Si Li HM.out
  by_cases hlt:j<len
  ·have xG:(j:Int)<(len:Int):=by omega
   obtain rfl:=xC (by omega)
   obtain⟨x,hx⟩:=Ze (xs.getD j ByteArray.empty);have c0:=hr.at hlt;rw[hx,Ll] at c0;obtain⟨q1,q2,q3,q4⟩:=HQ.out;have hd:xs.drop j=x::xs.drop (j+1):=by
    rw[LX (by omega),<-hx,Ld,Lk (by omega)];rfl
   rw[hd] at q2 q3;have xD:x.size<=9223372036854775807:=hr.sz x (by rw[<-hx,Ld,Lk (by omega)];exact L8 _)
   obtain⟨Dj,Sj,Lj,ej,xA⟩:∃Dj Sj Lj ej,aD Di Si Li x=(Dj,Sj,Lj,ej):=⟨_,_,_,_,rfl⟩;have ha:=Qmv Di Si Li x q1;rw[xA] at ha;have xE:=Qc (HA.out wr Di Si Li x Dj Sj Lj ej HM.out q1 q2.1 xD xA);unfold RmA at q2;unfold apD at q3;rw[xA] at q2 q3;have xH:IntKind.i64.wrap ((j:Int)+1)=((j+1:Nat):Int):=by rw[Lq];omega
   by_cases h0:ej=0
   ·subst h0;simp only[if_true] at q3;obtain⟨m',xF⟩:∃m',m=m'+1:=by
     injection q3 with _ q3;injection q3 with _ q3;injection q3 with _ q3;injection q3 with q3 _
     exact⟨_,q3.symm⟩
    subst xF;have HN:Hid (Sj.ends.length=Lj.length∧RmA Dj Sj Lj (xs.drop (j+1))∧apD Dj Sj Lj (xs.drop (j+1))=(D',S',L',m',e0)∧(j+1)+m'=n):=by
     refine⟨ha.1,q2.2 rfl,?_,by omega⟩
     generalize apD Dj Sj Lj (xs.drop (j+1))=y at q3;obtain⟨y1,y2,y3,y4,y5⟩:=y;injection q3 with e1 q3;injection q3 with e2 q3;injection q3 with e3 q3;injection q3 with e4 q3
     simp only at e1 e2 e3 e4 q3;rw[e1,e2,e3,q3,show y4=m' by omega]
    clear q1 q2 q3 q4 hd hx xD xA ha HQ HM HA hr xB
    go_wp2_with (go_at_call 49;(with_reducible refine xE.out.mono ?_);rintro e w2 ⟨rfl,t2⟩)
    go_roundg (len-(j+1))
    case rel=>go_light;exact⟨j+1,m',Dj,Sj,Lj,by omega,rfl,rfl,t2,HN⟩
    case measure=>go_light;omega
   ·simp only[if_neg h0] at q3;obtain⟨rfl,rfl,rfl,rfl,rfl⟩:Dj=D'∧Sj=S'∧Lj=L'∧0=m∧ej=e0:=by injection q3 with e1 q3;injection q3 with e2 q3;injection q3 with e3 q3;injection q3 with e4 q3;exact⟨e1,e2,e3,e4,q3⟩
    have xI:(ej == 0)=false:=by simpa using h0
    obtain rfl:j=n:=by omega
    clear q1 q2 q3 q4 hd hx xD xA ha HQ HM HA hr xB HC
    go_wp2_with (go_at_call 49;(with_reducible refine xE.out.mono ?_);rintro e w2 ⟨rfl,t2⟩)
    go_ret2
    exact⟨rfl,t2⟩
  ·have xG:¬(j:Int)<(len:Int):=by omega
   obtain rfl:j=len:=by omega
   obtain⟨q1,q2,q3,q4⟩:=HQ.out;rw[<-xB,IN] at q3;obtain⟨rfl,rfl,rfl,rfl,rfl⟩:Di=D'∧Si=S'∧Li=L'∧0=m∧0=e0:=by injection q3 with e1 q3;injection q3 with e2 q3;injection q3 with e3 q3;injection q3 with e4 q3;exact⟨e1,e2,e3,e4,q3⟩
   obtain rfl:j=n:=by omega
   clear q1 q2 q3 q4 HQ HA hr xB HC;go_wp2
   go_ret2
   exact⟨rfl,HM.out⟩
end
section
variable {w W W1:World} {a p:Nat} {U:Nat->Prop} {D D':St.DV} {S S':St.SV} {L L':LB} {g:Int}
theorem LgM.whole(h:Lg w 0 a p U D S L)(hb:Bl w W)(hm:LgM (W.setCell ⟨a,0,none⟩ (.int .i32 1)) W1 1 a p U D' S' L'):LgM w (W1.setCell ⟨a,0,none⟩ (.int .i32 0)) 0 a p U D' S' L':=by
 obtain⟨U',h1,h2,h3⟩:=hm;have q1:St.Upo U w (W.setCell ⟨a,0,none⟩ (.int .i32 1)):=(St.Upo.of hb).set a 0 _ (.inl h.own);have hz:(W.setCell ⟨a,0,none⟩ (.int .i32 1)).heap.size=W.heap.size:=by simp
 refine⟨U',h1.set 0,fun x hx=>(h2 x hx).imp id (fun e=> ?_),(q1.trans h3 fun _ _ e=>e).set a 0 _ (.inl h.own)⟩
 have:=hb.size;omega
theorem Lg.inn(h:Lg w 1 a p U D S L):w.cell? ⟨a,0,none⟩=some (.int .i32 1)∧w.frozen? ⟨a,0,none⟩=false:=by
 obtain⟨q,m,r,vs,h1,_⟩:=h.row;obtain⟨c,_,_,_,_,f⟩:=Ym h1;exact⟨c,f 0⟩
theorem LgM.inn(h:LgM w W 1 a p U D S L):W.cell? ⟨a,0,none⟩=some (.int .i32 1)∧W.frozen? ⟨a,0,none⟩=false:=by
 obtain⟨U',h1,_⟩:=h;exact h1.inn
theorem Qbg(w:World)(ht:Tb w)(h:Lg w 0 a p U D S L)(he:S.ends.length=L.length)(ao:OA)(b len cap:Nat)(xs:LB)(hr:RdS w ao b 0 len xs)(hlen:len<=9223372036854775806)(n3:0<len -> ¬U b)(hR:RmA D S L xs)(n:Nat)(e0:Int)(hA:apD D S L xs=(D',S',L',n,e0)) :
  Calls prog 14 #[Pq a,.slice ao len cap] w fun e w'=>e= .returned (.tuple #[.int .i64 n,.int .i64 e0])∧LgM w w' 0 a p U D' S' L':=by
 obtain⟨w1,xC⟩:=Ze ((w.alloc (.cells #[Pq a] 27)).alloc (.cells #[.slice ao len cap] 22));have u1:Bl w w1:=by rw[<-xC];exact bal (bal (Lb _ _) _) _
 have k0:w1.heap[w.heap.size]? = some (.cells #[Pq a] 27 (0,0)):=by rw[<-xC];exact St.new0 _ _ _
 have k1:w1.heap[w.heap.size+1]? = some (.cells #[.slice ao len cap] 22 (0,0)):=by rw[<-xC];exact St.new2 _ _ _
 have h1:=h.next u1;obtain⟨q,m,r,vs,xB,_⟩:=h1.row;obtain⟨c0,c2,_,_,_,cf⟩:=Ym xB;have xI:=h.lt h.own;have xA:∀b,b≠a->(w1.setCell ⟨a,0,none⟩ (.int .i32 1)).heap[b]? = w1.heap[b]? := fun b hb=>Below.heap_setCell _ _ _ _ hb
 have xD:∀b,w.heap.size<=b -> ¬U b:=fun b hb hu=>by have:=h.lt hu;omega
 have HW:Hid (Calls prog 47 #[Pq a,.func (.func 48) #[] #[.pointer (some ⟨w.heap.size+1,0,none⟩),Pq w.heap.size]] w1 fun e w'=>e= .returned (.tuple #[.int .i64 n,.int .i64 e0])∧LgM w w' 0 a p U D' S' L'):=by
  refine(Qg5 w1 a q _ _ (.inl rfl) c0 (cf 0) c2 (fun x y W=>x= .int .i64 n∧y= .int .i64 e0∧LgM (w1.setCell ⟨a,0,none⟩ (.int .i32 1)) W 1 a p U D' S' L') ?_).mono fun e w' z=> ?_
  ·have t1:Tb (w1.setCell ⟨a,0,none⟩ (.int .i32 1)):=(ht.next u1).upo (U:=U) ((St.Upo.refl U w1).set a 0 _ (.inl h.own)) (by obtain⟨_,_,_,_,_,_,_,_,hn⟩:=h;exact hn)
   have hx:=hr.hl;refine(QeP (w1.setCell ⟨a,0,none⟩ (.int .i32 1)) t1 (h1.set 1) he (w.heap.size+1) w.heap.size ao b len cap xs ⟨hr.hl,hr.ptr,fun j v hv=> ?_,hr.sz⟩ hlen ?_ ?_ (xD _ (by omega)) (xD _ (by omega)) n3 hR n e0 hA).mono fun e w' z=> ?_
   ·have hc:=hr.rng j v hv;have xH:=Lo _ _ hc;have xF:¬U b:=n3 (by have:=(List.getElem?_eq_some_iff.1 hv).1;rw[LY] at this;omega)
    have xG:b≠a:=fun e=>xF (e ▸ h.own)
    exact(LE (a:=⟨b,0+j,none⟩) ((xA b xG).trans (u1.block b xH))).trans hc
   ·rw[cell_of_row _ (w.heap.size+1) 0 _ _ (0,0) ((xA _ (by omega)).trans k1)];rfl
   ·rw[cell_of_row _ w.heap.size 0 _ _ (0,0) ((xA _ (by omega)).trans k0)];rfl
   ·exact⟨_,_,z.1,z.2.inn.1,z.2.inn.2,rfl,rfl,z.2⟩
  ·obtain⟨x,y,w2,rfl,⟨rfl,rfl,z2⟩,rfl⟩:=z;exact⟨rfl,LgM.whole h u1 z2⟩
 have b0:w1.cell? ⟨w.heap.size,0,none⟩=some (Pq a):=by rw[cell_of_row _ _ 0 _ _ (0,0) k0];rfl
 clear ht h he hr hR hA h1 k1 xB c0 c2 cf xA xD n3 u1 k0;have xE:=Qc xC;clear xC
 go_enter func14,ntmps14
 go_upto_region 1 with (fail)
 rw[xE.out]
 go_wp2_with (go_at_call 47;(with_reducible refine HW.out.mono ?_);rintro e w2 ⟨rfl,t2⟩)
 go_ret2
 exact⟨rfl,t2⟩
end
theorem Qpw{D:St.DV}{S:St.SV}{i:Nat} : (St.JK D S i).1.length<=1048576:=by
 unfold St.JK
 split
 ·exact Ln _
 ·split
  ·exact Ln _
  ·split
   ·cases h:St.Rc.rpay (St.itmR D S i).1 with
    | none=>exact Ln _
    | some x=>exact(St.Rc.rpay_len h).1
   ·exact Ln _
section
variable {w W w1:World} {a p:Nat} {U:Nat->Prop} {D D':St.DV} {S S':St.SV} {L L':LB} {g:Int}
theorem Lkd.cell{b i:Nat}{v:Value}(h:Lkd a w W)(hc:w.cell? ⟨b,i,none⟩=some v)(hb:b≠a):W.cell? ⟨b,i,none⟩=some v :=
 (LE (a:=⟨b,i,none⟩) (h.oth b (Lo _ _ hc) hb)).trans hc
theorem Tb.lkd(ht:Tb w)(h:Lg w 0 a p U D S L)(hL:Lkd a w W):Tb W:=by
 refine ht.upo (U:=U) ⟨hL.os,hL.tape,hL.output,hL.size,fun b hb hn=>hL.oth b hb (fun e=>hn (e ▸ h.own))⟩ ?_
 obtain⟨_,_,_,_,_,_,_,_,hn⟩:=h;exact hn
theorem Qjl(w:World)(h:Lg w 1 a p U D S L)(bl:Nat)(cl:w.cell? ⟨bl,0,none⟩=some (Pq a))(n:Nat)(hn:S.ends.length=n) :
  Zr 73 #[Pq bl] w (.tuple #[.int .u64 n,.int .i64 0]):=by
 obtain⟨q,T,c2,hs⟩:=h.sk;subst hn;have HS:Hid (Rf 74 #[Pq q] w (.int .u64 S.ends.length)):=(St.YX w hs).mono fun e w' z=>⟨z.1,z.2.symm⟩
 clear h hs
 go_enter func73,ntmps73
 go_wp2_with (go_at_call 74;(with_reducible refine HS.out.mono ?_);rintro e w1 ⟨rfl,rfl⟩)
 go_ret2
 exact⟨rfl,Lb _ _⟩
theorem Qc9(w:World)(h:Lg w 0 a p U D S L)(n:Nat)(hn:S.ends.length=n) :
  Zr 33 #[Pq a] w (.tuple #[.int .u64 n,.int .i64 0]):=by
 obtain⟨w1,xB⟩:=Ze (w.alloc (.cells #[Pq a] 27));have u1:Bl w w1:=by rw[<-xB];exact bal (Lb _ _) _
 have k0:w1.heap[w.heap.size]? = some (.cells #[Pq a] 27 (0,0)):=by rw[<-xB];exact LC w _
 have b0:w1.cell? ⟨w.heap.size,0,none⟩=some (Pq a):=by rw[cell_of_row _ _ 0 _ _ (0,0) k0];rfl
 have h1:=h.next u1;obtain⟨q,m,r,vs,xA,_⟩:=h1.row;have xC:w.heap.size≠a:=fun e=>by have:=h.lt h.own;omega
 have HW:Hid (Calls prog 72 #[Pq a,.func (.func 73) #[] #[Pq w.heap.size]] w1 fun e w'=>e= .returned (.tuple #[.int .u64 n,.int .i64 0])∧Bl w w') :=
  (Qg8 w1 a _ _ _ rfl xA _ _ fun W hW=>Qjl W (h1.lkd hW) w.heap.size (hW.cell b0 xC) n hn).mono fun e w' z=>⟨z.1,Qa u1 z.2⟩
 clear h h1 xA u1 k0 xC hn;have xD:=Qc xB;clear xB
 go_enter func33,ntmps33
 go_upto_region 1 with (fail)
 rw[xD.out]
 go_wp2_with (go_at_call 72;(with_reducible refine HW.out.mono ?_);rintro e w2 ⟨rfl,t2⟩)
 go_ret2
 exact⟨rfl,t2⟩
end
variable{B i pl vc vn:Nat}
def tkL(D:St.DV)(S:St.SV):Nat->LB×Int
 | 0=>([],0)
 | i+1=>if (tkL D S i).2≠0 then tkL D S i else if (St.JK D S i).2≠0 then ((tkL D S i).1,(St.JK D S i).2) else
  if stE D S (St.nn i) (mdL S.k (tkL D S i).1 (St.tx (St.JK D S i).1))≠0 then ((tkL D S i).1,stE D S (St.nn i) (mdL S.k (tkL D S i).1 (St.tx (St.JK D S i).1))) else ((tkL D S i).1++[St.tx (St.JK D S i).1],0)
theorem QeJ{D:St.DV}{S:St.SV} : ∀i,(tkL D S i).2=0->(tkL D S i).1.length=i
 | 0,_=>rfl
 | i+1,h=>by
  unfold tkL at h ⊢
  by_cases h0:(tkL D S i).2=0
  ·rw[Le (fun q=>q h0)] at h ⊢
   have ih:=QeJ i h0
   by_cases h1:(St.JK D S i).2=0
   ·rw[Le (fun q=>q h1)] at h ⊢
    by_cases h2:stE D S (St.nn i) (mdL S.k (tkL D S i).1 (St.tx (St.JK D S i).1))=0
    ·rw[Le (fun q=>q h2),Lc,ih];rfl
    ·rw[Lf h2] at h;exact absurd h h2
   ·rw[Lf h1] at h;exact absurd h h1
  ·rw[Lf h0] at h;exact absurd h h0
theorem QfW{D:St.DV}{S:St.SV}(h:(tkL D S i).2≠0):∀j,tkL D S (i+j)=tkL D S i
 | 0=>rfl
 | j+1=>by
  have ih:=QfW h j;rw[<-Ns,tkL,ih,Lf h]
theorem QpP{w:World}{va:OA}{l:LB}(h:Qh w B (.slice va vn vc) l):l.length=vn:=by
 obtain⟨_,h2⟩:=h
 rcases h2 with ⟨h2,h3⟩|⟨g,cap,cur,h2,_⟩
 ·injection h2 with _ h2
  rw[h2];exact h3
 ·injection h2 with _ h2
  exact h2.symm
theorem wr3(h1:vn<=41)(h2:pl<=200000)(h3:i<65536):IntKind.u64.wrap (vn:Int)=(vn:Int)∧IntKind.u64.wrap ((pl:Int)+(vn:Int))=((pl+vn:Nat):Int)∧IntKind.u64.wrap ((i:Int)+1)=((i+1:Nat):Int) :=
 ⟨by rw[IntKind.wrap_u64];omega,by rw[IntKind.wrap_u64];omega,by rw[IntKind.wrap_u64];omega⟩
section
variable {w W:World} {a q p m:Nat} {T:Nat->Prop} {D:St.DV} {S:St.SV} {B:Nat}
def LdA(w W:World)(a q p m:Nat)(T:Nat->Prop)(D:St.DV)(S:St.SV)(B:Nat)(L:LB):Prop :=
 ∃r vr vs,Led W 0 a q p m r vr vs T D S L∧(∀b,Lef a m r vr vs b->B<=b)∧Below B w W
theorem JY(w:World)(ht:Tb w)(h:LdA w w a q p m T D S B [])(hB:B<=w.heap.size)(htB:3<B)(hf:S.ends.length<=65536) :
  Calls prog 45 #[Pq a] w fun e w'=>e= .returned (.int .i64 (tkL D S S.ends.length).2)∧LdA w w' a q p m T D S B (tkL D S S.ends.length).1:=by
 obtain⟨n,hn⟩:=Ze S.ends.length;rw[hn] at hf ⊢;have yL:S.k<=32:=by obtain⟨_,_,_,h1,_⟩:=h;exact h1.k1.2
 have xW:Hid (∀W L,LdA w W a q p m T D S B L->Tb W):=fun W L hW=>by
  obtain⟨_,_,_,_,_,hb⟩:=hW;exact⟨fun j u hu=>by
   rw[<-ht.rs j u hu];have:=hb.block _ htB;simp only[World.cell?,this]⟩
 have xV:Hid (Rf 74 #[Pq q] w (.int .u64 n)):=by
  obtain⟨_,_,_,h1,_⟩:=h;rw[<-hn];exact(St.YX w h1.sk).mono fun e w' z=>⟨z.1,z.2.symm⟩
 have yK:w.cell? ⟨a,2,none⟩=some (Pq q):=by
  obtain⟨_,_,_,h1,_⟩:=h;exact h1.cells.2.1
 have H0:=Qc h;have HN:=Qc hn;clear h ht hn
 go_enter func45,ntmps45
 go_wp2_with (go_at_call 74;(with_reducible refine xV.out.mono ?_);rintro e w1 ⟨rfl,rfl⟩)
 go_loopg [3,14] n (fun g v3 v14 wr=> ∃(i pl:Nat),i<=n∧g=n-i∧v14= .int .u64 i∧v3= .int .u64 pl∧Hid (St.nn i=pl)∧Hid ((tkL D S i).2=0)∧Hid (LdA w wr a q p m T D S B (tkL D S i).1))
 case atStart=>go_light;exact⟨0,0,Ln _,rfl,rfl,rfl,rfl,rfl,H0⟩
 case round=>
  clear xV yK;obtain⟨i,pl,hi,rfl,rfl,rfl,xD,HE,HL⟩:=hrel
  by_cases hlt:i<n
  ·have yM:(i:Int)<(n:Int):=by omega
   obtain⟨L,hL⟩:=Ze ((tkL D S i).1);have xC:L.length=i:=by rw[<-hL];exact QeJ i HE.out
   rw[hL] at HL;obtain⟨r,vr,vs,hl,xB,hb⟩:=HL.out;have ht:=xW.out wr L HL.out;obtain⟨x,hx⟩:=Ze (St.tx (St.JK D S i).1);obtain⟨y,hy⟩:=Ze ((St.JK D S i).2);have xI:x.size<=1048576:=by rw[<-hx,St.YA];exact Qpw
   obtain⟨e1,xG⟩:=Ze (stE D S pl (mdL S.k L x));have xA:tkL D S (i+1)=if y≠0 then (L,y) else if e1≠0 then (L,e1) else (L++[x],0):=by
    rw[tkL,Le (fun q=>q HE.out),hL,hx,hy,xD.out,xG]
   have xQ:=hl.cells.2.1;have xN:=Lo _ _ xQ;have HC:Hid (∀W,Bl wr W->W.cell? ⟨a,2,none⟩=some (Pq q)):=fun W hW=>(hW.cell (p:=⟨a,2,none⟩) xN).trans xQ
   have HI:Hid (Zr 84 #[Pq q,.int .u64 i] wr (.tuple #[.string x,.int .i64 y])):=St.QkK wr hl.sk i (by omega) x y hx hy
   have HZ:Hid (∀W e2,Bl wr W->e2≠0->tkL D S (i+1)=(L,e2)->(tkL D S n).2=e2∧LdA w W a q p m T D S B (tkL D S n).1):=fun W e2 hW h2 h3=>by
    have h4:=QfW (D:=D) (S:=S) (i:=i+1) (by rw[h3];exact h2) (n-(i+1))
    rw[show i+1+(n-(i+1))=n by omega,h3] at h4
    rw[h4];exact⟨rfl,r,vr,vs,hl.next hW,xB,hb.trans (hW.mono (Lr hB hb.size))⟩
   by_cases h0:y=0
   ·subst h0;rw[Le (fun q=>q rfl)] at xA
    obtain⟨s,hs⟩:=Ze (sm x);have xS:Hid (∀W,Bl wr W->Calls prog 95 #[Pq a,.string x] W (NxQ W S.k L x)):=fun W hW=>by
     have h1:=hl.next hW;exact JQ W (ht.next hW) a m r vr S.k L h1.fr h1.rg h1.clk h1.cells.2.2.1 h1.cells.2.2.2.1 x xI (by omega)
    have xU:Hid (∀W va vn vc,Bl wr W->Qh W wr.heap.size (.slice va vn vc) (mdL S.k L x)->Zr 96 #[Pq a,.int .u64 pl,.slice va vn vc] W (.int .i64 e1)):=fun W va vn vc hW ho=>by
     obtain⟨ao,b,yO,hv,hr,_,_⟩:=Ya ho (fun y hy=>by rw[QgD yL L x y hy];omega)
     injection hv with e1 e2 e3
     subst e1 e2 e3;exact Qjp W (hl.next hW) pl va b _ vc (mdL S.k L x) hr (by rw[Qak];have:=QeK 40 L.length;omega) (by have:=St.OD i;rw[<-xD.out];omega) e1 xG
    have xX:Hid (∀W va vn vc r' vr',Bl wr W->Kp.Rg W r' vr' (S.k:Int) (L.length+1) (pkL S.k (L++[x]))->wr.heap.size<=r'->(∀g,vr'.ownBlock=some g->wr.heap.size<=g)->Calls prog 97 #[Pq a,.agg #[.string x,.string s,.slice va vn vc,Pq r']] W fun e w'=>e= .returned (.tuple #[])∧LdA w w' a q p m T D S B (L++[x])):=fun W va vn vc r' vr' hW hr hr1 hr2=>by
     have h1:=hl.next hW;rw[<-hs];refine(Qda W (ht.next hW) h1 (by omega) xI ⟨hr,fun e=>by have:=hl.sk.lt e;omega,fun b hb=>⟨fun e=>by have:=hl.sk.lt e;have:=hr2 b hb;omega,fun e=>by have:=JR hl.own e;have:=hr2 b hb;omega⟩⟩ va vn vc).mono fun e w' z=>⟨z.1,?_⟩
     obtain⟨yN,z1,z2,z3⟩:=z.2;have yR:=hb.size;have yS:=hW.size;refine⟨r',vr',yN,z1,fun b hb=> ?_,(hb.trans (hW.mono (Lr hB hb.size))).trans (z2.below (by omega) xB)⟩
     rcases hb with e|e|e|e|e|e
     ·exact xB b (.inl e)
     ·exact xB b (.inr (.inl e))
     ·exact xB b (.inr (.inr (.inl e)))
     ·omega
     ·have:=hr2 b e;omega
     ·rcases z3 b e with e|e
      ·exact xB b (.inr (.inr (.inr (.inr (.inr e)))))
      ·omega
    have xP:=QoS i (by omega)
    rw[xD.out] at xP;have xT:Hid (St.nn (i+1)=pl+(mdL S.k L x).length):=by rw[Qak,xC];exact xP
    have yD:pl<=200000:=by have:=St.OD i;rw[xD.out] at this;omega
    have yB:(mdL S.k L x).length<=41:=by rw[Qak];have:=QeK 40 L.length;omega
    have yG:=Qc hs;have yC:=Qc hlt;have xF:=Qc xA;have xJ:=Qc (Nx yD yB);clear yD yB xA hl xB hb ht hx hy xI xG hL HL xC hs xP xN
    go_upto_region 9 with (first
     | (go_at_call 84;(with_reducible refine HI.out.mono ?_);rintro e w1 ⟨rfl,u1⟩)
     | (go_at_call 95;(with_reducible refine(xS.out _ u1).mono ?_);rintro e w2 ⟨vm,r',vr',rfl,om,yE,lr,lv,u2⟩;obtain⟨va,vn,vc,rfl⟩:=YE om;rw[yG.out]))
    obtain⟨b0,xO⟩:=Ze w2.heap.size;obtain⟨w3,xH⟩:=Ze (w2.alloc (.cells #[.string x,.string s,.slice va vn vc,Pq r'] 175));have k3:w3.heap[b0]? = some (.cells #[.string x,.string s,.slice va vn vc,Pq r'] 175 (0,0)):=by rw[<-xH,<-xO];exact LC w2 _
    have u3:Bl w2 w3:=by rw[<-xH];exact bal (Lb _ _) _
    have z3:=(Array.getElem?_eq_some_iff.1 k3).1
    have v3:Bl wr w3:=Qa (Qa u1 u2) u3;have o3:Qh w3 wr.heap.size (.slice va vn vc) (mdL S.k L x):=QO (QB om u3 (La _)) u1.size;have yF:(mdL S.k L x).length=vn:=QpP o3;rw[yF] at xJ xT;have g3:Kp.Rg w3 r' vr' (S.k:Int) (L.length+1) (pkL S.k (L++[x])):=yE.next u3 (La _);have xK:Hid (∀W,Bl w3 W->Calls prog 96 #[Pq a,.int .u64 pl,.slice va vn vc] W fun e w'=>e= .returned (.int .i64 e1)∧Bl w3 w'):=fun W hW=>(xU.out W va vn vc (Qa v3 hW) (QO (QB o3 hW (La _)) (La _))).mono fun e w' z=>⟨z.1,Qa hW z.2⟩
    have xL:Hid (∀W,Bl w3 W->Calls prog 97 #[Pq a,.agg #[.string x,.string s,.slice va vn vc,Pq r']] W fun e w'=>e= .returned (.tuple #[])∧LdA w w' a q p m T D S B (L++[x])):=fun W hW=>xX.out W va vn vc r' vr' (Qa v3 hW) (g3.next hW (La _)) (by have:=u1.size;omega) (fun g hg=>by have:=lv g hg;have:=u1.size;omega)
    have xE:Hid (∀W,Bl w3 W->W.cell? ⟨b0,0,none⟩=some (.string x)∧W.cell? ⟨b0,1,none⟩=some (.string s)∧W.cell? ⟨b0,2,none⟩=some (.slice va vn vc)∧W.cell? ⟨b0,3,none⟩=some (Pq r')):=fun W hW=>by
     have k:=(hW.block _ z3).trans k3;exact⟨by rw[cell_of_row W b0 0 _ _ (0,0) k];rfl,by rw[cell_of_row W b0 1 _ _ (0,0) k];rfl,by rw[cell_of_row W b0 2 _ _ (0,0) k];rfl,by rw[cell_of_row W b0 3 _ _ (0,0) k];rfl⟩
    obtain⟨y0,y1,y2,y3⟩:=xE.out w3 (Lb _ _);have yI:=Qc v3;rw[xH,xO];have u0:=Lb w3.heap.size w3;clear k3 u3 z3 v3 o3 yF g3 om yE lr lv u1 u2 xO xH xX xU xS HI HC xQ;have yJ:=Qc (wr3 xJ.out.2 xJ.out.1 (show i<65536 by omega))
    by_cases h1:e1=0
    ·subst h1;obtain⟨xY,xZ,yA⟩:=yJ.out;have xR:Hid (tkL D S (i+1)=(L++[x],0)):=by rw[xF.out,Le (fun q=>q rfl)];rfl
     clear HZ xF
     go_upto_region 12 with (go_at_call 96;(with_reducible refine(xK.out _ u0).mono ?_);rintro e w4 ⟨rfl,u4⟩)
     obtain⟨y0,y1,y2,y3⟩:=xE.out w4 u4;have yH:=Qc (xL.out w4 u4);clear xL xE xK
     go_wp2_with (go_at_call 97;(with_reducible refine yH.out.mono ?_);rintro e w5 ⟨rfl,t5⟩)
     go_roundg (n-(i+1))
     case rel=>go_light;clear xY xZ yA;exact⟨i+1,pl+vn,by have:=yC.out;omega,rfl,rfl,rfl,xT.out,by rw[xR.out];rfl,by rw[xR.out];exact t5⟩
     case measure=>go_light;clear xY xZ yA;have:=yC.out;omega
    ·have xM:Hid (∀W,Bl w3 W->(tkL D S n).2=e1∧LdA w W a q p m T D S B (tkL D S n).1):=fun W hW=>HZ.out W e1 (Qa yI.out hW) h1 (by rw[xF.out,Lf h1])
     have yQ:(e1 != (0:Int))=true:=by simpa using h1
     clear HZ xF xL xE
     go_wp2_with (go_at_call 96;(with_reducible refine(xK.out _ u0).mono ?_);rintro e w4 ⟨rfl,u4⟩)
     go_ret
     obtain⟨q1,q2⟩:=xM.out _ u4;exact⟨by rw[q1];rfl,q2⟩
   ·rw[Lf h0] at xA;have yP:(y != (0:Int))=true:=by simpa using h0
    have xM:Hid (∀W,Bl wr W->(tkL D S n).2=y∧LdA w W a q p m T D S B (tkL D S n).1):=fun W hW=>HZ.out W y hW h0 xA
    clear HZ hl xB hb ht hx hy xI xG hL HL xC xA xW xD HE xN
    go_wp2_with (go_at_call 84;(with_reducible refine HI.out.mono ?_);rintro e w1 ⟨rfl,u1⟩)
    go_ret
    obtain⟨z1,z2⟩:=xM.out _ u1;exact⟨by rw[z1];rfl,z2⟩
  ·have yM:¬(i:Int)<(n:Int):=by omega
   obtain rfl:i=n:=by omega
   go_wp2
   go_ret
   exact⟨by rw[HE.out];rfl,HL.out⟩
end
def loD(D:St.DV)(k:Int):St.DV×Option (St.SV×LB)×Int :=
 match (St.YQ D k).2.1 with
 | none=>((St.YQ D k).1,none,(St.YQ D k).2.2)
 | some S=>if (tkL (St.YQ D k).1 S S.ends.length).2=0 then ((St.YQ D k).1,some (S,(tkL (St.YQ D k).1 S S.ends.length).1),0) else ((St.YQ D k).1,none,(tkL (St.YQ D k).1 S S.ends.length).2)
def LoQ(w:World)(p:Nat)(S0:Nat->Prop)(x:St.DV×Option (St.SV×LB)×Int)(e:Ending)(w':World):Prop :=
 match x.2.1 with
 | none=>e= .returned (.tuple #[.pointer none,.int .i64 x.2.2])∧St.Mvd w w' p S0 x.1
 | some y=> ∃a U,e= .returned (.tuple #[Pq a,.int .i64 x.2.2])∧Lg w' 0 a p U x.1 y.1 y.2∧(∀b,U b->S0 b∨w.heap.size<=b)∧w.heap.size<=a∧St.Upo S0 w w'∧y.1.ends.length=y.2.length
theorem Qlb(D:St.DV)(k:Int):((St.YQ D k).2.1=none∧(St.YQ D k).2.2≠0)∨(∃S,(St.YQ D k).2.1=some S∧(St.YQ D k).2.2=0∧S.k=k.toNat∧1<=k∧k<=32):=by
 unfold St.YQ
 by_cases h1:1<=k∧k<=32
 ·rw[Le (fun q=>q h1)]
  by_cases h2:D.down=true
  ·rw[Lf h2];exact .inl ⟨rfl,fun q=>by cases q⟩
  ·rw[Le h2]
   cases St.OF k.toNat (St.now D St.nmI) (St.now D St.nmN) (St.now D St.nmM) with
   | none=>exact .inl ⟨rfl,fun(q:(190:Int)=0)=>by cases q⟩
   | some st=>
    simp only
    split
    ·exact .inr ⟨_,rfl,rfl,rfl,h1⟩
    ·exact .inl ⟨rfl,by assumption⟩
 ·rw[Lf h1];exact .inl ⟨rfl,fun q=>by cases q⟩
section
variable {w W:World} {a q p m:Nat} {S0 T:Nat->Prop} {D:St.DV} {S:St.SV} {B:Nat} {L:LB}
theorem LdA.lg(h:LdA w W a q p m T D S B L)(hT:¬T 3)(htB:3<B):∃U,Lg W 0 a p U D S L∧(∀x,U x->T x∨B<=x)∧B<=a:=by
 obtain⟨r,vr,vs,h1,h2,h3⟩:=h;refine⟨fun x=>T x∨Lef a m r vr vs x,⟨q,m,r,vr,vs,T,h1,fun _=>Iff.rfl,fun e=>e.elim hT (fun e=> ?_)⟩,fun x hx=>hx.imp id (h2 x),h2 a (.inl rfl)⟩
 have:=h2 _ e;omega
theorem Qa9{w1:World}(h:St.Sk W q p T D S)(hT:∀y,T y->S0 y∨w.heap.size<=y)(hu:St.Upo S0 w w1)(hb:Bl w1 W):St.Mvd w W p S0 D:=by
 obtain⟨S1,v,d1,d2,d3,d4,d5⟩:=h;exact⟨S1,d1,fun x hx=>hT x ((d5 x).2 (.inl hx)),hu.next hb⟩
theorem QnR(k:Nat):pkL k []=[]:=Qea _ 41 0 (by decide)
theorem QaW(w:World)(ht:Tb w)(h:St.Dsk w p S0 D)(hrm:St.Rm 7 D)(hn:¬S0 3)(k:Int) :
  Calls prog 11 #[Pq p,.int .i64 k] w (LoQ w p S0 (loD D k)):=by
 have HO:=Qc (St.QiD w h hrm k _ rfl)
 rcases Qlb D k with ⟨o1,o2⟩|⟨S,o1,o2,o3,k1,k2⟩
 ·have hz:loD D k=((St.YQ D k).1,none,(St.YQ D k).2.2):=by unfold loD;rw[o1]
  have xA:Hid (Calls prog 42 #[Pq p,.int .i64 k] w fun e w'=>e= .returned (.tuple #[.pointer none,.int .i64 (St.YQ D k).2.2])∧St.Mvd w w' p S0 (St.YQ D k).1):=HO.out.mono fun e w' z=>by
   unfold St.OpQ at z;rw[o1] at z;exact z
  rw[hz];obtain⟨y,hy⟩:=Ze ((St.YQ D k).2.2);obtain⟨D',hD⟩:∃y,(St.YQ D k).1=y:=⟨_,rfl⟩;rw[hy,hD] at xA ⊢;rw[hy] at o2;have xR:(y != (0:Int))=true:=by simpa using o2
  clear HO o1 h ht hrm hn hz hy hD
  go_enter func11,ntmps11
  go_wp2_with (go_at_call 42;(with_reducible refine xA.out.mono ?_);rintro e w1 ⟨rfl,t1⟩)
  go_ret2
  exact⟨rfl,t1⟩
 ·obtain⟨D',hD⟩:∃y,(St.YQ D k).1=y:=⟨_,rfl⟩;obtain⟨y,hy⟩:=Ze ((tkL D' S S.ends.length).2);obtain⟨L',xC⟩:∃y,(tkL D' S S.ends.length).1=y:=⟨_,rfl⟩;have xI:loD D k=if y=0 then (D',some (S,L'),0) else (D',none,y):=by
   unfold loD;rw[o1];simp only;rw[hD,hy,xC]
  have xD:(S.k:Int)=k:=by rw[o3];omega
  have xA:Hid (Calls prog 42 #[Pq p,.int .i64 k] w fun e w'=> ∃q T,e= .returned (.tuple #[Pq q,.int .i64 0])∧St.Sk w' q p T D' S∧(∀y,T y->S0 y∨w.heap.size<=y)∧St.Upo S0 w w'):=HO.out.mono fun e w' z=>by
   unfold St.OpQ at z;rw[o1,o2,hD] at z;obtain⟨q,T,z1,z2,z3,z4,z5⟩:=z;exact⟨q,T,z1,z2,z3,z5⟩
  have HF:Hid (∀W:World,Tb W->Calls prog 43 #[.int .i64 k] W fun e w'=> ∃m,e= .returned (.tuple #[.pointer (some ⟨m+1,0,none⟩),.int .i64 0])∧Frs w' m k []∧W.heap.size<=m∧Bl W w'):=fun W _=>(Qm7 W k k1 k2).mono fun e w' z=>⟨_,z.1,z.2.1,La _,z.2.2⟩
  have HP:Hid (∀W:World,Calls prog 44 #[.int .i64 k] W fun e w'=> ∃r vr,e= .returned (.tuple #[Pq r,.int .i64 0])∧Kp.Rg w' r vr k 0 []∧W.heap.size<=r∧(∀g,vr.ownBlock=some g->W.heap.size<=g)∧Bl W w'):=fun W=>(Kp.QkQ W k 0 (by unfold Kp.fe;rw[Le (by omega),Le (by omega),Le];refine fun q=>q.elim (fun q=>q rfl) (fun q=>q fun s hs=>by cases hs))).mono fun e w' z=>by
   obtain⟨r,vr,z1,z2,z3,z4,z5⟩:=z.ok;exact⟨r,vr,z1,z2,z3,z4,z5⟩
  have HT:Hid (∀(w1 w2 w3:World) q T m r vr,St.Sk w1 q p T D' S->(∀y,T y->S0 y∨w.heap.size<=y)->St.Upo S0 w w1->Frs w2 m k []->w1.heap.size<=m->Bl w1 w2->Kp.Rg w3 r vr k 0 []->w2.heap.size<=r->(∀g,vr.ownBlock=some g->w2.heap.size<=g)->Bl w2 w3 ->
    Calls prog 45 #[Pq w3.heap.size] (w3.alloc (.cells #[.int .i32 0,.int .u32 0,Pq q,.pointer (some ⟨m+1,0,none⟩),Pq r,.slice none 0 0] 116)) fun e w'=>e= .returned (.int .i64 y)∧LoQ w p S0 (loD D k) (.returned (if y=0 then .tuple #[Pq w3.heap.size,.int .i64 0] else .tuple #[.pointer none,.int .i64 y])) w'):=fun w1 w2 w3 q T m r vr h1 h2 h3 h4 h5 h6 h7 h8 h9 h10=>by
   obtain⟨w4,xE⟩:=Ze (w3.alloc (.cells #[.int .i32 0,.int .u32 0,Pq q,.pointer (some ⟨m+1,0,none⟩),Pq r,.slice none 0 0] 116));have u4:Bl w3 w4:=by rw[<-xE];exact bal (Lb _ _) _
   have k4:w4.heap[w3.heap.size]? = some (rwL 0 (.int .u32 0) (Zp q) (.pointer (some ⟨m+1,0,none⟩)) (Pq r) (.slice none 0 0)):=by rw[<-xE];exact LC w3 _
   rw[xE];have u13:Bl w1 w3:=Qa h6 h10;have u14:Bl w1 w4:=Qa u13 u4;have s1:=h3.size;have s2:=h6.size;have s3:=h10.size;have xP:=h7.lt;have xQ:=ht.lt;have t1:Tb w1:=ht.upo h3 hn;have xK:¬T 3:=fun e=>(h2 _ e).elim hn (fun e=>by omega)
   have xO:=h4.lt;have xM:Led w4 0 w3.heap.size q p m r vr (.slice none 0 0) T D' S []:=by
    refine⟨k4,h1.next u14,?_,?_,⟨rfl,.inl ⟨rfl,rfl⟩⟩,(by intro s hs;cases hs),fun x hx hl=> ?_,fun x _ e=>by cases e⟩
    ·rw[xD];exact h4.next (Qa h10 u4) (La _)
    ·rw[xD,QnR];exact h7.next u4 (La _)
    ·have:=h1.lt hx
     rcases hl with e|e|e|e|e|e
     ·omega
     ·omega
     ·omega
     ·omega
     ·have:=h9 x e;omega
     ·cases e
   have xJ:LdA w4 w4 w3.heap.size q p m T D' S w1.heap.size []:=⟨r,vr,.slice none 0 0,xM,(fun b hb=>by
    rcases hb with e|e|e|e|e|e
    ·omega
    ·omega
    ·omega
    ·omega
    ·have:=h9 b e;omega
    ·cases e),Lb _ _⟩
   have xL:S.ends.length<=65536:=h1.small.2.2.1;refine(JY w4 (t1.next u14) xJ u14.size (by omega) xL).mono fun e w' z=> ?_
   rw[hy,xC] at z;refine⟨z.1,?_⟩
   have xH:Bl w1 w':=by
    obtain⟨_,_,_,_,_,hb⟩:=z.2;exact u14.trans hb
   rw[xI]
   by_cases h0:y=0
   ·rw[Lf h0,Lf h0];obtain⟨U,y1,y2,y3⟩:=z.2.lg xK (by omega)
    exact⟨_,U,rfl,y1,fun b hb=>(y2 b hb).elim (h2 b) (fun e=> .inr (by omega)),by omega,h3.next xH,by rw[<-xC];exact(QeJ _ (by rw[hy];exact h0)).symm⟩
   ·rw[Le h0,Le h0];obtain⟨_,_,_,y1,_⟩:=z.2;exact⟨rfl,Qa9 y1.sk h2 h3 xH⟩
  have xF:Hid (∀W,St.Upo S0 w W->Tb W):=fun W hW=>ht.upo hW hn
  clear HO h ht hrm hn hD hy xC xI xD o1 o2 o3 k1 k2
  go_enter func11,ntmps11
  go_upto_region 7 with (first
   | (go_at_call 42;(with_reducible refine xA.out.mono ?_);rintro e w1 ⟨q,T,rfl,h1,h2,h3⟩)
   | (go_at_call 43;(with_reducible refine(HF.out _ (xF.out _ h3)).mono ?_);rintro e w2 ⟨m,rfl,h4,h5,h6⟩)
   | (go_at_call 44;(with_reducible refine(HP.out _).mono ?_);rintro e w3 ⟨r,vr,rfl,h7,h8,h9,h10⟩))
  have xB:=Qc (HT.out w1 w2 w3 q T m r vr h1 h2 h3 h4 h5 h6 h7 h8 h9 h10);obtain⟨b0,xG⟩:=Ze w3.heap.size;rw[xG] at xB ⊢;clear HT xF HP HF xA h1 h2 h3 h4 h5 h6 h7 h8 h9 h10 xG
  by_cases h0:y=0
  ·subst h0;rw[Lf rfl] at xB
   go_wp2_with (go_at_call 45;(with_reducible refine xB.out.mono ?_);rintro e w5 ⟨rfl,t5⟩)
   go_ret2
   exact t5
  ·rw[Le h0] at xB;have xN:(y != (0:Int))=true:=by simpa using h0
   go_wp2_with (go_at_call 45;(with_reducible refine xB.out.mono ?_);rintro e w5 ⟨rfl,t5⟩)
   go_ret2
   exact t5
end
section
open Cv (rst cov QZ dnL tno inb)
open Pl (pw)
theorem QoG(m:Nat):(2*m+1) ^^^ (2*m)=1:=by
 have h1:((2*m+1) ^^^ (2*m))/2=0:=by
  have e:((2*m+1) ^^^ (2*m)) >>> 1=((2*m+1) >>> 1) ^^^ ((2*m) >>> 1):=I4;rw[Nr,Nr,Nr,show(2*m+1)/2^1=m by omega,show 2*m/2^1=m by omega,Nat.xor_self] at e
  simpa using e
 have h2:((2*m+1) ^^^ (2*m))%2=1:=by
  have e:((2*m+1) ^^^ (2*m))%2^1=((2*m+1)%2^1) ^^^ ((2*m)%2^1):=Nat.xor_mod_two_pow;rw[show(2*m+1)%2^1=1 by omega,show 2*m%2^1=0 by omega] at e
  exact e
 omega
theorem Qmt{n H q:Nat}(hq:q%2=0)(h1:n/2^H=q+1)(h2:i/2^H=q):2^H<=n ^^^ i∧n ^^^ i<2^(H+1):=by
 have e:(n ^^^ i)/2^H=1:=by
  have e:(n ^^^ i) >>> H=(n >>> H) ^^^ (i >>> H):=I4;rw[Nr,Nr,Nr,h1,h2] at e;obtain⟨m,rfl⟩:∃m,q=2*m:=⟨q/2,by omega⟩
  rw[e,QoG]
 have hp:0<2^H:=LN H
 constructor
 ·have:=Iz (n ^^^ i) (2^H);rw[e] at this;omega
 ·have:=Nat.lt_mul_of_div_lt (show(n ^^^ i)/2^H<2 by omega) hp
  rw[LH];omega
theorem Qp9(i:Nat):∀H K,K*pw H<=i->i<(K+1)*pw H->(tno H K [i]).length=H:=by
 intro H
 induction H with
 | zero=>
  intro K h1 h2;have hb:inb 0 K i=true:=Cv.Yh.2 ⟨h1,h2⟩;rw[tno,Id hb];simp
 | succ H ih=>
  intro K h1 h2;have hb:inb (H+1) K i=true:=Cv.Yh.2 ⟨h1,h2⟩;have e1:=Cv.J9 H K;have e2:=Cv.Qb6 H K;have e3:=Cv.Qbu H K;have e4:=Cv.Qhf H K;rw[tno,Id hb,List.filter_nil,Le (by simp),Lc]
  have xA:∀K',¬(K' * pw H<=i∧i<(K'+1)*pw H)->(tno H K' [i]).length=1:=fun K' h=>by
   have hb:¬inb H K' i=true:=fun e=>h (Cv.Yh.1 e)
   exact(Cv.Qdv H K' [i]).1 (by rw[Ic hb];rfl)
  by_cases hm:i<K*pw (H+1)+pw H
  ·rw[ih (2*K) (by omega) (by rw[e2];exact hm),xA (2*K+1) (by omega)]
  ·rw[xA (2*K) (by omega),ih (2*K+1) (by omega) (by omega)]
   omega
theorem Qh9{H K:Nat}(h:¬(K*pw H<=i∧i<(K+1)*pw H)):(tno H K [i]).length=1:=by
 have hb:¬inb H K i=true:=fun e=>h (Cv.Yh.1 e)
 exact(Cv.Qdv H K [i]).1 (by rw[Ic hb];rfl)
theorem Qkl(n i:Nat):∀h lo,(∃c,lo=c*pw h)->i<lo->((dnL h lo n).flatMap fun b=>tno b.1 b.2 [i]).length=(dnL h lo n).length:=by
 intro h
 induction h with
 | zero=>intro lo _ _;rfl
 | succ h ih=>
  intro lo hc hi;obtain⟨c,rfl⟩:=hc;have e:=Cv.QE c h;rw[dnL]
  split
  ·rw[I6,Lc,LG,ih _ ⟨2*c+1,by rw[LS,L9,e]⟩ (by omega),Qh9 (by
    intro hx
    dsimp only at hx
    rw[e,ND _ (Pl.QC h)] at hx;omega)]
   omega
  ·exact ih _ ⟨2*c,e⟩ hi
theorem Qls(n i:Nat)(hin:i<n):∀h lo,(∃c,lo=c*pw h)->lo<=i->n-lo<pw h ->
  ∃H,((dnL h lo n).flatMap fun b=>tno b.1 b.2 [i]).length+1=H+(dnL h lo n).length∧2^H<=n ^^^ i∧n ^^^ i<2^(H+1)∧H<h:=by
 intro h
 induction h with
 | zero=>intro lo _ h1 h2;have:pw 0=1:=rfl;omega
 | succ h ih=>
  intro lo hc h1 h2;obtain⟨c,rfl⟩:=hc;have e:=Cv.QE c h;have hp:=Pl.QC h;have hs:=Pl.QH h;rw[dnL]
  split
  ·rename_i hfit
   have hq:c*pw (h+1)/pw h=2*c:=by rw[e,ND _ hp]
   rw[I6,Lc,LG,hq]
   by_cases hm:i<c*pw (h+1)+pw h
   ·refine⟨h,?_,?_⟩
    ·rw[Qp9 i h (2*c) (by omega) (by rw[LS,L9];omega),Qkl n i h _ ⟨2*c+1,by rw[LS,L9,e]⟩ hm]
     omega
    ·have a1:n/2^h=2*c+1:=by
      have:n/pw h=2*c+1:=by
       apply Nat.div_eq_of_lt_le
       ·rw[LS,L9];omega
       ·rw[LS,LS,L9];omega
      exact this
     have a2:i/2^h=2*c:=by
      have:i/pw h=2*c:=by
       apply Nat.div_eq_of_lt_le
       ·omega
       ·rw[LS,L9];omega
      exact this
     obtain⟨b1,b2⟩:=Qmt (q:=2*c) (by omega) a1 a2
     exact⟨b1,b2,by omega⟩
   ·obtain⟨H,g1,g2,g3,g4⟩:=ih (c*pw (h+1)+pw h) ⟨2*c+1,by rw[LS,L9,e]⟩ (by omega) (by omega)
    refine⟨H,?_,g2,g3,by omega⟩
    rw[Qh9 (by intro hx;dsimp only at hx;rw[LS,L9,<-e] at hx;omega)]
    omega
  ·rename_i hfit
   obtain⟨H,g1,g2,g3,g4⟩:=ih (c*pw (h+1)) ⟨2*c,e⟩ h1 (by omega)
   exact⟨H,g1,g2,g3,by omega⟩
theorem Qlr{n:Nat}(hn:n<=2^40)(hin:i<n):∃H,(rst 0 n [i]).length+1=H+Pl.Qz 64 n∧2^H<=n ^^^ i∧n ^^^ i<2^(H+1)∧H<=40:=by
 have hp:n<pw 41:=by
  have:pw 41=2*2^40:=rfl;omega
 obtain⟨H,g1,g2,g3,g4⟩:=Qls n i hin 41 0 ⟨0,by simp⟩ (Ln _) (by simpa using hp)
 have hc:QZ 0 [i] n:=⟨Ln _,hin⟩;refine⟨H,?_,g2,g3,by omega⟩
 rw[Cv.QlC n [i] hn hc,g1,<-Cv.Ub n hn,Cv.O6 n hn]
end
section
open Cv (rst cov YK)
abbrev pv6(kd k:Int)(old size:Nat)(s d:Value):Value := .agg #[.int .i64 kd,.int .i64 k,.int .u64 old,.int .u64 size,s,d]
theorem OH(w:World)(a b c d e f:Value):∃W,w.alloc (.cells #[a,b,c,d,e,f] 138)=W∧Six W w.heap.size a b c d e f∧Bl w W∧W.heap.size=w.heap.size+1 :=
 ⟨_,rfl,UO w a b c d e f,bal (Lb _ _) _,by simp⟩
theorem QoV{w:World}{ao:OA}{b off len:Nat}{l:List Nat}(h:RdU w ao b off len l):Cv.Rd w ao b off len l:=⟨h.hl,h.ptr,fun _ hj=>h.at hj⟩
theorem QqJ(a b:Nat)(ha:a<=100)(hb:b<=100):wrap64 ((a:Int)+(b:Int))=(a:Int)+(b:Int):=by unfold wrap64;omega
theorem QqD(a:Nat)(ha:a<=100):wrap64 (a:Int)=(a:Int):=by unfold wrap64;omega
theorem Qli{w:World}{e size n m c:Nat}{ao:OA}{xs:List Value}(h:w.ownsRow B e size (.slice ao m c) n xs):m=n:=by
 rcases h.2 with ⟨h,h0⟩|⟨g,cap,cur,h,_⟩
 ·cases h;omega
 ·cases h;rfl
section
variable (w:World) (kd k:Int) (old size:Nat) (sa:OA) (sb so sc:Nat) (S:List Nat) (d:Value)
theorem Qke(rs:RdU w sa sb so S.length S)(h:¬(old=0∧S.length=1∧S.getD 0 0<size)) :
  Zr 382 #[pv6 kd k old size (.slice sa S.length sc) d] w (.tuple #[.int .u64 0,.int .i64 150]):=by
 by_cases h1:old=0
 ·subst h1
  by_cases h2:S.length=1
  ·have h3:¬S.getD 0 0<size:=fun h3=>h ⟨rfl,h2,h3⟩
   have hp:=rs.ptr (by omega)
   subst hp;obtain⟨W,hW,h6,hb,hz⟩:=OH w (.int .i64 kd) (.int .i64 k) (.int .u64 0) (.int .u64 size) (.slice (some ⟨sb,so,none⟩) 1 sc) d;obtain⟨e0,e1,e2,e3,e4,e5⟩:=h6.cells;have HB:Hid (Bl w W):=hb;have hc:=(rs.next hb).at (j:=0) (by omega)
   rw[Ik] at hc;generalize S.getD 0 0=i at *;have xC:decide ((size:Int)<=(i:Int))=true:=LW (by omega)
   have xD:size<=i:=by omega
   rw[h2];clear rs h h2 h3 h6 hb
   go_enter func382,ntmps382
   go_upto_region 1 with (fail)
   try rw[hW]
   clear hW
   go_quiet (fail)
   go_wp2
   go_ret2
   exact⟨rfl,Qi HB.out _⟩
  ·have xB:¬(S.length:Int)=1:=by omega
   generalize S.length=m at *;obtain⟨W,hW,h6,hb,hz⟩:=OH w (.int .i64 kd) (.int .i64 k) (.int .u64 0) (.int .u64 size) (.slice sa m sc) d;obtain⟨e0,e1,e2,e3,e4,e5⟩:=h6.cells;have HB:Hid (Bl w W):=hb;clear rs h h2 h6 hb
   go_enter func382,ntmps382
   go_upto_region 1 with (fail)
   try rw[hW]
   clear hW
   go_quiet (fail)
   go_wp2
   go_ret2
   exact⟨rfl,Qi HB.out _⟩
 ·have xA:((old:Int) != 0)=true:=bne_iff_ne.2 (by omega)
  obtain⟨W,hW,h6,hb,hz⟩:=OH w (.int .i64 kd) (.int .i64 k) (.int .u64 old) (.int .u64 size) (.slice sa S.length sc) d;obtain⟨e0,e1,e2,e3,e4,e5⟩:=h6.cells;have HB:Hid (Bl w W):=hb;clear rs h h6 hb h1
  go_enter func382,ntmps382
  go_upto_region 1 with (fail)
  try rw[hW]
  clear hW
  go_quiet (fail)
  go_wp2
  go_ret2
  exact⟨rfl,Qi HB.out _⟩
theorem Qik(hold:old<18446744073709551616)(rs:RdU w sa sb so S.length S)(hm:S.length<=17592186044416)(h:¬(old=0∧YK size S=0)) :
  Zr 383 #[pv6 kd k old size (.slice sa S.length sc) d] w (.tuple #[.int .u64 0,.int .i64 150]):=by
 obtain⟨W,hW,h6,hb,hz⟩:=OH w (.int .i64 kd) (.int .i64 k) (.int .u64 old) (.int .u64 size) (.slice sa S.length sc) d;obtain⟨e0,e1,e2,e3,e4,e5⟩:=h6.cells;have HC:=Cv.Yq size W sa sb so S.length sc S (QoV (rs.next hb)) hm;have HB:Hid (∀w',Bl W w'->Bl w w'∧w'.cell? ⟨w.heap.size,2,none⟩=some (.int .u64 old)):=fun w' hb'=>⟨Qa hb hb',(h6.next hb').cells.2.2.1⟩
 have HE:Hid (¬(old=0∧YK size S=0)∧old<18446744073709551616):=⟨h,hold⟩;clear rs h h6 hb hm hold;generalize YK size S=er at *;generalize (Cv.rstS size S).length=cc at *;generalize S.length=m at *
 by_cases h1:er=0
 ·subst h1;have h2:((old:Int) != 0)=true:=bne_iff_ne.2 (by have:=HE.out;omega)
  go_enter func383,ntmps383
  go_wp2_with (go_at_call 323;(try rw[hW]);with_reducible refine HC.mono ?_;rintro x w1 ⟨rfl,xA⟩;obtain⟨q1,q2⟩:=HB.out _ xA)
  go_ret2
  exact⟨rfl,q1⟩
 ·have h2:((er:Int) != 0)=true:=bne_iff_ne.2 (by omega)
  go_enter func383,ntmps383
  go_wp2_with (go_at_call 323;(try rw[hW]);with_reducible refine HC.mono ?_;rintro x w1 ⟨rfl,xA⟩;obtain⟨q1,q2⟩:=HB.out _ xA)
  go_ret2
  exact⟨rfl,q1⟩
theorem Qgg(rs:RdU w sa sb so S.length S)(hm:S.length<=17592186044416)(h:YK size S=0) :
  Zr 383 #[pv6 kd k 0 size (.slice sa S.length sc) d] w (.tuple #[.int .u64 ((rst 0 size S).length:Nat),.int .i64 0]):=by
 obtain⟨W,hW,h6,hb,hz⟩:=OH w (.int .i64 kd) (.int .i64 k) (.int .u64 0) (.int .u64 size) (.slice sa S.length sc) d;obtain⟨e0,e1,e2,e3,e4,e5⟩:=h6.cells;have HC:=Cv.QeU size W sa sb so S.length sc S (QoV (rs.next hb)) hm h;have HB:Hid (∀w',Bl W w'->Bl w w'∧w'.cell? ⟨w.heap.size,2,none⟩=some (.int .u64 0)):=fun w' hb'=>⟨Qa hb hb',(h6.next hb').cells.2.2.1⟩
 clear rs h h6 hb hm;generalize (rst 0 size S).length=cc at *;generalize S.length=m at *
 go_enter func383,ntmps383
 go_wp2_with (go_at_call 323;(try rw[hW]);with_reducible refine HC.mono ?_;rintro x w1 ⟨rfl,xA⟩;obtain⟨q1,q2⟩:=HB.out _ xA)
 go_ret2
 exact⟨rfl,q1⟩
theorem QmL(hn:size<=2^40)(hS:S.length<=17592186044416)(h:¬(old<=size∧S.length=0)) :
  Zr 384 #[pv6 kd k old size (.slice sa S.length sc) d] w (.tuple #[.int .u64 0,.int .i64 150]):=by
 obtain⟨W,hW,h6,hb,hz⟩:=OH w (.int .i64 kd) (.int .i64 k) (.int .u64 old) (.int .u64 size) (.slice sa S.length sc) d;obtain⟨e0,e1,e2,e3,e4,e5⟩:=h6.cells;have HC:=Cv.Qa0 old size size W;have HB:Hid (∀w',Bl W w'->Bl w w'∧w'.cell? ⟨w.heap.size,4,none⟩=some (.slice sa S.length sc)):=fun w' hb'=>⟨Qa hb hb',(h6.next hb').cells.2.2.2.2.1⟩
 have he:Cv.Js old size size=0↔old<=size:=by
  unfold Cv.Js;rw[Le (by omega),Le (by omega)]
  split <;> omega
 have HE:Hid (¬(Cv.Js old size size=0∧S.length=0)∧S.length<=17592186044416):=⟨by rw[he];exact h,hS⟩
 clear h h6 hb he hn hS;generalize Cv.Js old size size=er at *;generalize Cv.zl (Cv.covR old size size)=cc at *;generalize S.length=m at *
 by_cases h1:er=0
 ·subst h1;have h2:((m:Int) != 0)=true:=bne_iff_ne.2 (by have:=HE.out;omega)
  go_enter func384,ntmps384
  go_wp2_with (go_at_call 181;(try rw[hW]);with_reducible refine HC.mono ?_;rintro x w1 ⟨v,rfl,ho,xA⟩;obtain⟨q1,q2⟩:=HB.out _ xA)
  go_ret2
  exact⟨rfl,q1⟩
 ·have h2:((er:Int) != 0)=true:=bne_iff_ne.2 (by omega)
  go_enter func384,ntmps384
  go_wp2_with (go_at_call 181;(try rw[hW]);with_reducible refine HC.mono ?_;rintro x w1 ⟨v,rfl,ho,xA⟩;obtain⟨q1,q2⟩:=HB.out _ xA)
  go_ret2
  exact⟨rfl,q1⟩
theorem Qj6(hn:size<=2^40)(h1:old<=size) :
  Zr 384 #[pv6 kd k old size (.slice sa 0 sc) d] w (.tuple #[.int .u64 (((cov 0 old).length+(cov old size).length:Nat):Int),.int .i64 0]):=by
 obtain⟨W,hW,h6,hb,hz⟩:=OH w (.int .i64 kd) (.int .i64 k) (.int .u64 old) (.int .u64 size) (.slice sa 0 sc) d;obtain⟨e0,e1,e2,e3,e4,e5⟩:=h6.cells;have HC:=Cv.Qfx old size size W hn (La _) h1;have HB:Hid (∀w',Bl W w'->Bl w w'∧w'.cell? ⟨w.heap.size,4,none⟩=some (.slice sa 0 sc)∧w'.cell? ⟨w.heap.size,2,none⟩=some (.int .u64 old)):=fun w' hb'=>⟨Qa hb hb',(h6.next hb').cells.2.2.2.2.1,(h6.next hb').cells.2.2.1⟩
 have HO:=fun W'=>Pl.Jb old W' (by omega)
 have xB:=Cv.O6 old (by omega)
 have xE:=Cv.O5 old size h1 hn;have xF:=Cv.UW old (by omega)
 have xC:(Cv.zl (cov old size)).length=(cov old size).length:=Cv.Ye _;rw[<-xB] at HO;generalize (cov 0 old).length=a at *;generalize Cv.zl (cov old size)=Z at *;generalize (cov old size).length=b at *;obtain⟨c,hc⟩:=Ze (a+b);rw[hc];have xG:wrap64 ((a:Int)+(b:Int))=(c:Int):=by unfold wrap64;omega
 have es:IntKind.u64.wrap (c:Int)=(c:Int):=by rw[IntKind.wrap_u64];omega
 have ha:(a:Int)<=40:=by omega
 have xH:(b:Int)<=80:=by omega
 have HZ:Hid (Z.length=b):=xC;have xD:Hid ((a:Int)+(b:Int)=(c:Int)):=(by omega:(a:Int)+(b:Int)=(c:Int))
 clear h6 hb hn h1 xB xE xF hc xC
 go_enter func384,ntmps384
 go_upto_region 4 with (go_at_call 181;(try rw[hW]);with_reducible refine HC.mono ?_;rintro x w1 ⟨v,rfl,ho,xA⟩;obtain⟨q1,q2,q3⟩:=HB.out _ xA;obtain⟨ao,m,cp,rfl⟩:=Cv.Qu ho;obtain rfl:m=b:=by(have h:=Qli ho;rw[HZ.out] at h;exact h))
 clear ho xA;have HQ:=QU q1;clear q1
 go_wp2_with (go_at_call 138;with_reducible refine(HO _).mono ?_;rintro x w2 ⟨rfl,rfl⟩)
 go_ret2
 refine⟨?_,HQ.out⟩
 show Ending.returned (.tuple #[.int .u64 ((a:Int)+(m:Int)),.int .i64 0])=_
 rw[xD.out]
end
section
variable (w:World) (kd k:Int) (old size:Nat) (sa:OA) (sb so sc:Nat) (S:List Nat) (d:Value)
theorem Qiv(hn:size<=2^40)(rs:RdU w sa sb so S.length S)(h2:S.length=1)(h3:S.getD 0 0<size) :
  Zr 382 #[pv6 kd k 0 size (.slice sa S.length sc) d] w (.tuple #[.int .u64 ((rst 0 size S).length:Nat),.int .i64 0]):=by
 obtain⟨i,rfl⟩:=List.length_eq_one_iff.1 h2;have hp:=rs.ptr (by simp)
 subst hp;rw[show[i].getD 0 0=i from rfl] at h3
 obtain⟨H,g1,g2,g3,g4⟩:=Qlr hn h3;obtain⟨W,hW,h6,hb,hz⟩:=OH w (.int .i64 kd) (.int .i64 k) (.int .u64 0) (.int .u64 size) (.slice (some ⟨sb,so,none⟩) 1 sc) d;obtain⟨e0,e1,e2,e3,e4,e5⟩:=h6.cells;have HB:Hid (Bl w W):=hb;have hc:W.cell? ⟨sb,so,none⟩=some (.int .u64 i):=by
  have:=(rs.next hb).at (j:=0) (by simp)
  rw[Ik] at this;exact this
 have hx:=u64_xor_nat size i (by omega) (by omega)
 have xG:(2:Nat)^(H+1)<=2^41:=Na (by decide) (by omega)
 have HL:=fun W'=>Qpy (size ^^^ i) H W' (by omega) g2 g3
 clear xG g2 g3;have HO:=fun W'=>Pl.Jb size W' (by omega)
 have ho:Pl.Qz 64 size<=64:=Pl.Qec 64 size;obtain⟨c,xD⟩:=Ze ((rst 0 size [i]).length);rw[xD] at g1 ⊢;have xI:0<Pl.Qz 64 size:=by
  rw[<-Cv.O6 size hn]
  cases hz:cov 0 size with
  | nil=>
   have ht:=Cv.Qbr 0 size (Ln _) hn;rw[hz] at ht;exact absurd ⟨Ln _,h3⟩ (ht.2 i (Ln _) h3)
  | cons b r=>simp
 generalize Pl.Qz 64 size=q at *;have xK:decide ((size:Int)<=(i:Int))=false:=LA (by omega)
 have xL:¬size<=i:=by omega
 obtain⟨q',rfl⟩:∃q',q=q'+1:=⟨q-1,by omega⟩
 have eq:((q'+1:Nat):Int)-1=(q':Int):=by omega
 have xN:(q':Int)<=64:=by omega
 have xM:(H:Int)<=40:=by omega
 have xB:q'<=100:=by omega
 have xH:c<=1000∧H+q'=c:=by omega
 have xF:Hid ((H:Int)+(q':Int)=(c:Int)):=(by omega:(H:Int)+(q':Int)=(c:Int))
 have xC:H<=100:=by omega
 have ew:=QqD q' xB;have xJ:=QqJ H q' xC xB;clear xB xH g1 xC;have xE:Hid (∀n,Six (W.drewN n) w.heap.size (.int .i64 kd) (.int .i64 k) (.int .u64 0) (.int .u64 size) (.slice (some ⟨sb,so,none⟩) 1 sc) d∧(W.drewN n).cell? ⟨sb,so,none⟩=some (.int .u64 i)∧Bl w (W.drewN n)):=fun n=>⟨h6.next (Qi (Lb _ _) n),((Qi (Lb W.heap.size W) n).cell (Lo W _ hc)).trans hc,Qi hb n⟩
 clear rs hn h2 h3 g4 h6 hb ho xD xI
 go_enter func382,ntmps382
 go_upto_region 1 with (fail)
 try rw[hW]
 clear hW
 go_quiet (fail)
 go_upto_region 3 with (fail)
 have k0:=xE.out nq;obtain⟨W2,xA⟩:=Ze (W.drewN nq)
 try rw[xA]
 rw[xA] at k0;clear xA e0 e1 e2 e3 e4 e5 hc;obtain⟨k0,hc,HW⟩:=k0;obtain⟨e0,e1,e2,e3,e4,e5⟩:=k0.cells;have HW:=QU HW
 go_quiet ((go_at_call 408;refine Calls.quiet_of_same (HL _)))
 go_wp2_with (go_at_call 138;with_reducible refine(HO _).mono ?_;rintro x w2 ⟨rfl,rfl⟩)
 go_ret2
 refine⟨?_,Qi HW.out _⟩
 show Ending.returned (.tuple #[.int .u64 ((H:Int)+(q':Int)),.int .i64 0])=_
 rw[xF.out]
end
variable{k kd:Int}{old:Nat}{S:List Nat}
def cV:Option Nat->Value
 | some c=> .tuple #[.int .u64 c,.int .i64 0]
 | none=> .tuple #[.int .u64 0,.int .i64 150]
theorem Qm0{size:Nat}(hn:size<=2^40):YK size [i]=0↔i<size :=
 ⟨fun h=>by have:=(Cv.Qbt h).2.2.1;simpa using this,fun h=>Cv.Qin ⟨Ln _,h⟩ (by simp) hn⟩
theorem Qj8{size:Nat}(hk:1<=k∧k<=32∧size<=2^40):cnt 1 k old size S=if old=0∧S.length=1∧S.getD 0 0<size then some (rst 0 size S).length else none:=by
 rw[cnt,Lf hk,Lf rfl]
 by_cases h1:S.length=1
 ·obtain⟨i,rfl⟩:=List.length_eq_one_iff.1 h1;have:=Qm0 (i:=i) hk.2.2;simp only[this]
  rfl
 ·rw[Le (by rintro⟨_,h,_⟩;exact h1 h),Le (by rintro⟨_,h,_⟩;exact h1 h)]
theorem Qis{size:Nat}(hk:1<=k∧k<=32∧size<=2^40):cnt 2 k old size S=if old=0∧YK size S=0 then some (rst 0 size S).length else none:=by
 rw[cnt,Lf hk,Le (by decide),Lf rfl]
theorem QmN{size:Nat}(hk:1<=k∧k<=32∧size<=2^40):cnt 3 k old size S=if old<=size∧S=[] then some ((cov 0 old).length+(cov old size).length) else none:=by
 rw[cnt,Lf hk,Le (by decide),Le (by decide),Lf rfl]
theorem Qhj{size:Nat}(h:¬(1<=k∧k<=32∧size<=2^40)):cnt kd k old size S=none:=by rw[cnt,Le h]
theorem QaP{size:Nat}(h1:kd≠1)(h2:kd≠2)(h3:kd≠3):cnt kd k old size S=none:=by
 rw[cnt,Le h1,Le h2,Le h3]
 split <;> rfl
section
variable (w:World) (kd k:Int) (old size:Nat) (sa:OA) (sb so sc:Nat) (S:List Nat) (d:Value)
theorem Yq(hold:old<18446744073709551616)(hsz:size<18446744073709551616)(rs:RdU w sa sb so S.length S)(hm0:size<=2^40->S.length<=17592186044416) :
  Zr 310 #[pv6 kd k old size (.slice sa S.length sc) d] w (cV (cnt kd k old size S)):=by
 obtain⟨W,hW,h6,hb,hz⟩:=OH w (.int .i64 kd) (.int .i64 k) (.int .u64 old) (.int .u64 size) (.slice sa S.length sc) d;obtain⟨e0,e1,e2,e3,e4,e5⟩:=h6.cells;have HB:Hid (∀w',Bl W w'->Bl w w'):=fun w' hb'=>Qa hb hb'
 have xE:Hid (Bl w W):=hb;have xA:=rs.next hb
 by_cases h0:1<=k∧k<=32∧size<=2^40
 ·have hm:=hm0 h0.2.2;clear hm0;have xH:¬k<1:=by omega
  have xI:¬32<k:=by omega
  have xJ:¬(1099511627776:Int)<(size:Int):=by omega
  by_cases h1:kd=1
  ·subst h1;rw[Qj8 h0]
   by_cases hc:old=0∧S.length=1∧S.getD 0 0<size
   ·rw[Lf hc];obtain⟨rfl,xC,xG⟩:=hc;have HC:Zr 382 #[.agg #[.int .i64 1,.int .i64 k,.int .u64 0,.int .u64 size,.slice sa S.length sc,d]] W (.tuple #[.int .u64 ((rst 0 size S).length:Nat),.int .i64 0]):=Qiv W 1 k size sa sb so sc S d h0.2.2 xA xC xG;have xD:((0:Nat):Int)=0:=rfl;rw[xD] at hW e2;clear xD;generalize (rst 0 size S).length=cc at *;generalize S.length=m at *;clear rs xA h6 hb hm h0 hold hsz xC xG
    go_enter func310,ntmps310
    go_wp2_with (go_at_call 382;with_reducible refine HC.mono ?_;rintro x w1 ⟨rfl,xB⟩)
    go_ret2
    exact⟨rfl,HB.out _ xB⟩
   ·rw[Le hc];have HC:=Qke W 1 k old size sa sb so sc S d xA hc;generalize S.length=m at *;clear rs xA h6 hb hm h0 hold hsz hc
    go_enter func310,ntmps310
    go_wp2_with (go_at_call 382;with_reducible refine HC.mono ?_;rintro x w1 ⟨rfl,xB⟩)
    go_ret2
    exact⟨rfl,HB.out _ xB⟩
  ·by_cases h2:kd=2
   ·subst h2;rw[Qis h0]
    by_cases hc:old=0∧YK size S=0
    ·rw[Lf hc];obtain⟨rfl,xC⟩:=hc;have HC:Zr 383 #[.agg #[.int .i64 2,.int .i64 k,.int .u64 0,.int .u64 size,.slice sa S.length sc,d]] W (.tuple #[.int .u64 ((rst 0 size S).length:Nat),.int .i64 0]):=Qgg W 2 k size sa sb so sc S d xA hm xC;have xD:((0:Nat):Int)=0:=rfl;rw[xD] at hW e2;clear xD;generalize (rst 0 size S).length=cc at *;generalize S.length=m at *;clear rs xA h6 hb hm h0 hold hsz xC h1
     go_enter func310,ntmps310
     go_wp2_with (go_at_call 383;with_reducible refine HC.mono ?_;rintro x w1 ⟨rfl,xB⟩)
     go_ret2
     exact⟨rfl,HB.out _ xB⟩
    ·rw[Le hc];have HC:=Qik W 2 k old size sa sb so sc S d hold xA hm hc;generalize S.length=m at *;clear rs xA h6 hb hm h0 hold hsz hc h1
     go_enter func310,ntmps310
     go_wp2_with (go_at_call 383;with_reducible refine HC.mono ?_;rintro x w1 ⟨rfl,xB⟩)
     go_ret2
     exact⟨rfl,HB.out _ xB⟩
   ·by_cases h3:kd=3
    ·subst h3;rw[QmN h0]
     by_cases hc:old<=size∧S=[]
     ·rw[Lf hc];obtain⟨xF,rfl⟩:=hc;have HC:=Qj6 W 3 k old size sa sc d h0.2.2 xF;rw[NZ] at *;generalize (cov 0 old).length+(cov old size).length=cc at *;clear rs xA h6 hb hm h0 hold hsz xF h1 h2
      go_enter func310,ntmps310
      go_wp2_with (go_at_call 384;with_reducible refine HC.mono ?_;rintro x w1 ⟨rfl,xB⟩)
      go_ret2
      exact⟨rfl,HB.out _ xB⟩
     ·rw[Le hc];have HC:=QmL W 3 k old size sa sc S d h0.2.2 hm (by rintro⟨a,b⟩;exact hc ⟨a,List.length_eq_zero_iff.1 b⟩)
      generalize S.length=m at *;clear rs xA h6 hb hm h0 hold hsz hc h1 h2
      go_enter func310,ntmps310
      go_wp2_with (go_at_call 384;with_reducible refine HC.mono ?_;rintro x w1 ⟨rfl,xB⟩)
      go_ret2
      exact⟨rfl,HB.out _ xB⟩
    ·rw[QaP h1 h2 h3];generalize S.length=m at *;clear rs xA h6 hb hm h0 hold hsz
     go_enter func310,ntmps310;go_wp2
     go_ret2
     exact⟨rfl,xE.out⟩
 ·rw[Qhj h0];clear hm0;generalize S.length=m at *
  by_cases xH:k<1
  ·clear rs xA h6 hb h0 hold hsz
   go_enter func310,ntmps310;go_wp2
   go_ret2
   exact⟨rfl,xE.out⟩
  ·by_cases xI:32<k
   ·clear rs xA h6 hb h0 hold hsz
    go_enter func310,ntmps310;go_wp2
    go_ret2
    exact⟨rfl,xE.out⟩
   ·have xJ:(1099511627776:Int)<(size:Int):=by omega
    clear rs xA h6 hb h0 hold hsz
    go_enter func310,ntmps310;go_wp2
    go_ret2
    exact⟨rfl,xE.out⟩
end
end
end Go.Proofs.YtoblgjledefdbaaGreatDoor
