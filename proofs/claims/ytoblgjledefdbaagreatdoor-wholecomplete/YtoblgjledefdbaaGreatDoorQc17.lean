/- Own work. -/
import Derived.Test.YtoblgjledefdbaaGreatDoorQc16
set_option maxRecDepth 100000
set_option maxHeartbeats 4000000
namespace Go.Proofs.YtoblgjledefdbaaGreatDoor
open Go.RowKit
attribute [local go_sem ↓] Go.wp_at_zero Go.wp_at_succ
open Go.Proofs.Tryz
section
attribute [local go_sem ↓] St.JJ
theorem Qfc(bs:BA):∀(n i:Nat) (r:List UInt8),bs.size-i=n->ByteArray.toList.loop bs i r=r.reverse++bs.data.toList.drop i:=by
 intro n
 induction n with
 | zero=>
  intro i r h;rw[ByteArray.toList.loop,Ld (by omega)]
  rw[Nk (by simp;exact(by omega:bs.size<=i)),Nd]
 | succ n ih=>
  intro i r h;have hi:i<bs.size:=by omega
  rw[ByteArray.toList.loop,Lm hi,ih (i+1) _ (by omega)]
  have hl:i<bs.data.toList.length:=by simp;exact hi
  rw[L8 hl,IB,LH];have:bs.get! i=bs.data.toList[i]:=by
   show bs.data[i]! = _
   have hi2:i<bs.data.size:=hi;rw[getElem!_pos bs.data i hi2];simp
  rw[this];rfl
theorem QdQ(bs:BA):bs.toList=bs.data.toList:=by
 rw[ByteArray.toList,Qfc bs bs.size 0 [] rfl];rfl
theorem QiO{x y:BA}(h:x≠y):(x.toList == y.toList)=false:=by
 rw[QdQ,QdQ];simp only[beq_eq_false_iff_ne,ne_eq];intro e;exact h (Wl (Array.toList_inj.1 e))
theorem Qcl(w:World)(ty B:Nat)(v:Value)(L:LB)(hown:Qg w B v L)(ad:Addr)(mc:Nat)(c:BA)(hr:∀j u,[Value.string c][j]? = some u->w.cell? (ad.add j)=some u)
  (hlen:L.length+1<=1048576) (hB:B<=w.heap.size) :
  ∃v' w',(Builtin.append_ #[22,22] ty #[v,.slice (some ad) 1 mc]).run prog w= .ok v' w'∧Qg w' B v' (L++[c])∧St.QnO w w' v v':=by
 obtain⟨i0,hi,hz0,hz1,hz2⟩:=info_parts Tryz.infoS;have hap:∀ {w':World} {v':Value} {n:Nat},n=L.length+1->w'.ownsRow B 9 1 v' n (L.map Value.string++[.string c])->Qg w' B v' (L++[c]):=fun hn h=>by
  rw[Qg,LL,Le,LD,N9,Lo,<-hn];exact h
 have h1c:∀u∈([.string c]:List Value),u.oneCell'=true:=by intro u hu;simp at hu;subst hu;rfl
 have hown0:=hown
 rcases hown.2 with ⟨rfl,h0⟩|⟨g,cp,cur,rfl,hgb,hh,hc⟩
 ·have hL:L=[]:=List.length_eq_zero_iff.1 h0;subst hL;obtain⟨v',w',hrun,r1,r2,_⟩:=run_append_own (P:=prog) w w.heap.size 22 ty 9 i0 (.string ByteArray.empty) 1 16 underlying22 hi hz0 hz1 hz2 rfl (by decide) _ 0 [] (Np _ _ _ _) ad 1 mc [.string c] rfl hr h1c (by decide) (by decide) (La _)
  exact⟨v',w',hrun,hap rfl (by simpa using World.ownsRow.mono r1 hB),.inr ⟨r2,fun k hk=>(LY r1 k hk).1⟩⟩
 ·by_cases hfit:L.length+1<=cp
  ·obtain⟨w',hrun,r1,r2⟩:=run_append_fits (P:=prog) w B 22 ty 9 i0 1 underlying22 hi hz1 g L.length cp (L.map Value.string) hown0 ad 1 mc [.string c] rfl hr h1c hfit;exact⟨_,w',hrun,hap rfl r1,.inl ⟨g,L.length,cp,rfl,rfl,r2⟩⟩
  ·obtain⟨v',w',hrun,r1,r2⟩:=run_append_arg_grows (P:=prog) w 22 ty 9 i0 (.string ByteArray.empty) 1 16 underlying22 hi hz0 hz1 hz2 rfl (by decide) ⟨g,0,none⟩ L.length cp (L.map Value.string) hown0.1 (II hown0 rfl) ad 1 mc [.string c] rfl hr (by omega) (by unfold maxLen;omega) (by omega)
   exact⟨v',w',hrun,hap rfl (World.ownsRow.mono r1 hB),.inr ⟨r2,fun k hk=>(LY r1 k hk).1⟩⟩
def TkQ(w:World)(g:Int)(a q p m r:Nat)(vr vs:Value)(T:Nat->Prop)(D:St.DV)(S:St.SV)(L:LB)(x:BA)(r':Nat)(vr':Value)(W:World):Prop :=
 ∃vs',Led W g a q p m r' vr' vs' T D S (L++[x])∧St.Upo (Lef a m r vr vs) w W ∧ ∀b,vs'.ownBlock=some b->vs.ownBlock=some b∨w.heap.size<=b
section
variable {w w1 w2:World} {g:Int} {a q p m r r':Nat} {vr vs vr':Value} {T:Nat->Prop} {D:St.DV} {S:St.SV} {L:LB} {x:BA}
structure Nw(w:World)(T:Nat->Prop)(vs:Value)(S:St.SV)(L:LB)(x:BA)(r':Nat)(vr':Value):Prop where
 rg:Kp.Rg w r' vr' (S.k:Int) (L.length+1) (pkL S.k (L++[x]))
 nt:¬T r'
 nv:∀b,vr'.ownBlock=some b -> ¬T b∧vs.ownBlock≠some b
theorem QbP{w:World}{b:Nat}{c c':Array Value}{t t':TypeId}{f f':Nat×Nat}(h:w.heap[b]? = some (.cells c t f))(h':w.heap[b]? = some (.cells c' t' f'))(hne:t≠t'):False:=by
 rw[h] at h';injection h' with h'
 injection h' with _ h'
 exact hne h'
theorem Qit(h:Led w g a q p m r vr vs T D S L)(hL:L.length<65536)(hx:x.size<=1048576)(hn:Nw w T vs S L x r' vr')(hb1:Below w.heap.size w w1)(hz1:w.heap.size<w1.heap.size)
  (hF2:Frs w2 m (S.k:Int) (L++[x])) (hU2:St.Upo (fun b=>b=m∨b=m+1) w1 w2) (w3 w4:World) (hw3:w2.setCell ⟨a,4,none⟩ (Pq r')=w3) (hw4:(w3.alloc (.cells #[.string (sm x)] 9)).drew=w4) :
  ∃ao n cap w5,(Builtin.append_ #[22,22] 22 #[vs,.slice (Zp w3.heap.size) 1 1]).run prog w4= .ok (.slice ao n cap) w5∧w5.heap[a]? = some (rwL g (.int .u32 0) (Zp q) (.pointer (some ⟨m+1,0,none⟩)) (Pq r') vs) ∧
   w3.heap[a]? = some (rwL g (.int .u32 0) (Zp q) (.pointer (some ⟨m+1,0,none⟩)) (Pq r') vs)∧w2.heap[a]? = some (rwL g (.int .u32 0) (Zp q) (.pointer (some ⟨m+1,0,none⟩)) (Pq r) vs) ∧
   TkQ w g a q p m r vr vs T D S L x r' vr' (w5.setCell ⟨a,5,none⟩ (.slice ao n cap)):=by
 obtain⟨n1,n2,n3,n4,n5⟩:=h.nr;have hrn:r'≠m∧r'≠m+1∧r'≠a:=by
  refine⟨?_,?_,?_⟩
  ·rintro rfl;obtain⟨es,c,hx,_⟩:=h.fr.mp;rw[hn.rg.blk] at hx;cases hx
  ·rintro rfl;exact QbP hn.rg.blk h.fr.blk (by decide)
  ·rintro rfl;exact QbP hn.rg.blk h.blk (by decide)
 have hvn:∀b,(vs.ownBlock=some b∨vr'.ownBlock=some b)->b≠m∧b≠m+1∧b≠a∧b<w.heap.size:=fun b hb=>by
  have hr:∃cur,w.heap[b]? = some (.cells cur 9 (0,0)):=hb.elim (OW h.own) (OW hn.rg.own);obtain⟨cur,hc⟩:=hr;refine⟨?_,?_,?_,(Array.getElem?_eq_some_iff.1 hc).1⟩
  ·rintro rfl;obtain⟨es,c,hx,_⟩:=h.fr.mp;rw[hc] at hx;cases hx
  ·rintro rfl;exact QbP hc h.fr.blk (by decide)
  ·rintro rfl;exact QbP hc h.blk (by decide)
 have hr'lt:=hn.rg.lt;have halt:a<w.heap.size:=h.lt (.inl rfl)
 -- the worlds
 have b2:∀b,b<w.heap.size->b≠m->b≠m+1->w2.heap[b]? = w.heap[b]? := fun b hb e1 e2=>(hU2.block b (by omega) (fun e=>e.elim e1 e2)).trans (hb1.block b hb)
 have s2:=hU2.size;have b3:∀b,b≠a->w3.heap[b]? = w2.heap[b]? := fun b hb=>by rw[<-hw3];exact Below.heap_setCell _ _ _ _ hb
 have s3:w3.heap.size=w2.heap.size:=by rw[<-hw3];simp
 have u4:Below w3.heap.size w3 w4:=by rw[<-hw4];exact(bal (Lb _ _) _).drew
 have s4:w4.heap.size=w3.heap.size+1:=by rw[<-hw4];simp
 have a2:w2.heap[a]? = some (rwL g (.int .u32 0) (Zp q) (.pointer (some ⟨m+1,0,none⟩)) (Pq r) vs):=(b2 a halt n1 n2).trans h.blk;have a3:w3.heap[a]? = some (rwL g (.int .u32 0) (Zp q) (.pointer (some ⟨m+1,0,none⟩)) (Pq r') vs):=by rw[<-hw3];exact Lp w2 a 4 _ _ _ a2
 have b4:∀b,b<w.heap.size->b≠m->b≠m+1->b≠a->w4.heap[b]? = w.heap[b]? := fun b hb e1 e2 e3=>(u4.block b (by omega)).trans ((b3 b e3).trans (b2 b hb e1 e2))
 have o4:Qg w4 0 vs (smL L):=St.QK h.own fun b hb=>b4 b (hvn b (.inl hb)).2.2.2 (hvn b (.inl hb)).1 (hvn b (.inl hb)).2.1 (hvn b (.inl hb)).2.2.1
 have c4:∀j u,[Value.string (sm x)][j]? = some u->w4.cell? ((⟨w3.heap.size,0,none⟩:Addr).add j)=some u:=fun j u hu=>by
  rw[<-hw4]
  show(w3.alloc (.cells #[.string (sm x)] 9)).cell? _=some u
  exact St.Qc8 w3 _ _ j u hu
 have hlen:(smL L).length=L.length:=by simp[smL]
 obtain⟨v',w5,hap,o5,g5⟩:=Qcl w4 22 0 vs (smL L) o4 ⟨w3.heap.size,0,none⟩ 1 (sm x) c4 (by omega) (Ln _)
 obtain⟨ao,n,cap,rfl⟩:=YR o5;have t5:St.Upo (fun b=>vs.ownBlock=some b) w4 w5:=by
  rcases g5 with ⟨g,n,c,e1,e2,g3⟩|⟨g3,_⟩
  ·rw[e1];exact St.Upo.grown g3 (fun b hb=>by cases hb;rfl)
  ·exact St.Upo.grown g3 (fun b hb=>by cases hb)
 have hv5:∀b,(Value.slice ao n cap).ownBlock=some b->vs.ownBlock=some b∨w4.heap.size<=b:=fun b hb=>by
  rcases g5 with ⟨g',n,c,e1,e2,g3⟩|⟨_,g3⟩
  ·rw[e1];rw[e2] at hb;exact .inl hb
  ·exact .inr (g3 b hb)
 have a5:w5.heap[a]? = some (rwL g (.int .u32 0) (Zp q) (.pointer (some ⟨m+1,0,none⟩)) (Pq r') vs):=(t5.block a (by omega) (fun e=>(hvn a (.inl e)).2.2.1 rfl)).trans ((u4.block a (by omega)).trans a3)
 refine⟨ao,n,cap,w5,hap,a5,a3,a2,.slice ao n cap,?_,?_,fun b hb=>(hv5 b hb).imp id (fun e=>by omega)⟩
 ·have b5:∀b,b<w4.heap.size->b≠a->vs.ownBlock≠some b->(w5.setCell ⟨a,5,none⟩ (.slice ao n cap)).heap[b]? = w4.heap[b]? := fun b hb e1 e2=>(Below.heap_setCell _ _ _ _ e1).trans (t5.block b hb e2)
  have hTn:∀b,T b->b<w.heap.size∧b≠m∧b≠m+1∧b≠a∧vs.ownBlock≠some b:=fun b hb=>
   ⟨h.sk.lt hb,fun e=>h.ap b hb (.inr (.inl e)),fun e=>h.ap b hb (.inr (.inr (.inl e))),fun e=>h.ap b hb (.inl e),fun e=>h.ap b hb (.inr (.inr (.inr (.inr (.inr e)))))⟩
  have hm2:=hF2.lt;have hmne:∀b,(b=m∨b=m+1)->b<w4.heap.size∧b≠a∧vs.ownBlock≠some b:=fun b hb=>by
   refine⟨by omega,fun e=> ?_,fun e=> ?_⟩
   ·rcases hb with hb|hb
    ·exact n1 (e.symm.trans hb)
    ·exact n2 (e.symm.trans hb)
   ·rcases hb with hb|hb
    ·exact(hvn b (.inl e)).1 hb
    ·exact(hvn b (.inl e)).2.1 hb
  have hk:∀b,(b=m∨b=m+1)->(w5.setCell ⟨a,5,none⟩ (.slice ao n cap)).heap[b]? = w2.heap[b]? := fun b hb=>by
   obtain⟨e1,e2,e3⟩:=hmne b hb;exact(b5 b e1 e2 e3).trans ((u4.block b (by rcases hb with rfl|rfl <;> omega)).trans (b3 b e2))
  refine⟨Lp w5 a 5 _ _ _ a5,h.sk.same fun b hb=> ?_,hF2.same (hk m (.inl rfl)) (hk _ (.inr rfl)),⟨?_,St.QK hn.rg.own fun b hb=> ?_,hn.rg.k1,hn.rg.k2,?_,?_,hn.rg.hs⟩,?_,?_,fun b hb hl=> ?_,fun b hb=> ?_⟩
  ·obtain⟨e1,e2,e3,e4,e5⟩:=hTn b hb;exact(b5 b (by omega) e4 e5).trans (b4 b e1 e2 e3 e4)
  ·rw[Le,LR];have:vs.ownBlock≠some r':=fun e=>by
    obtain⟨cur,hc⟩:=OW h.own e;exact QbP hc hn.rg.blk (by decide)
   exact(b5 r' (by omega) hrn.2.2 this).trans ((b4 r' hr'lt hrn.1 hrn.2.1 hrn.2.2).trans hn.rg.blk)
  ·obtain⟨e1,e2,e3,e4⟩:=hvn b (.inr hb);exact(b5 b (by omega) e3 (hn.nv b hb).2).trans (b4 b e4 e1 e2 e3)
  ·rw[Le,LR];exact hn.rg.hn
  ·rw[Le,LR];exact hn.rg.hl
  ·rw[smL,LL];refine St.QK (v := .slice ao n cap) o5 fun b hb=>Below.heap_setCell _ _ _ _ ?_
   rcases hv5 b hb with e|e
   ·exact(hvn b (.inl e)).2.2.1
   ·show b≠a;omega
  ·intro s hs
   rcases List.mem_append.1 hs with e|e
   ·exact h.sz s e
   ·rw[List.mem_singleton.1 e];exact hx
  ·obtain⟨e1,e2,e3,e4,e5⟩:=hTn b hb
   rcases hl with e|e|e|e|e|e
   ·exact e4 e
   ·exact e2 e
   ·exact e3 e
   ·exact hn.nt (e ▸ hb)
   ·exact(hn.nv b e).1 hb
   ·exact(hv5 b e).elim e5 (fun e=>by omega)
  ·intro e;obtain⟨e1,e2,e3,e4⟩:=hvn b (.inr hb);exact(hv5 b e).elim (hn.nv b hb).2 (fun e=>by omega)
 ·have q1:St.Upo (fun b=>b=m∨b=m+1) w w2:=(St.Upo.of hb1).trans hU2 fun _ _ e=>e
  have q2:St.Upo (fun b=>b=m∨b=m+1∨b=a) w w3:=by rw[<-hw3];exact(q1.mono fun b _ e=>e.elim .inl (fun e=> .inr (.inl e))).set a 4 _ (.inl (.inr (.inr rfl)))
  have q3:=(q2.next u4).mono (T:=Lef a m r vr vs) fun b _ e=>by
   rcases e with e|e|e
   ·exact .inr (.inl e)
   ·exact .inr (.inr (.inl e))
   ·exact .inl e
  exact(q3.trans t5 fun b _ e=> .inr (.inr (.inr (.inr (.inr e))))).set a 5 _ (.inl (.inl rfl))
end
section
variable {g:Int} {a q p m r r':Nat} {vr vs vr':Value} {T:Nat->Prop} {D:St.DV} {S:St.SV} {L:LB} {x:BA}
theorem QhS(w:World)(ht:Tb w)(h:Led w g a q p m r vr vs T D S L)(hL:L.length<65536)(hx:x.size<=1048576)(hn:Nw w T vs S L x r' vr')(va:OA)(vn vc:Nat) :
  Calls prog 97 #[Pq a,.agg #[.string x,.string (sm x),.slice va vn vc,Pq r']] w fun e w'=>e= .returned (.tuple #[])∧TkQ w g a q p m r vr vs T D S L x r' vr' w':=by
 obtain⟨s,hs⟩:∃s,sm x=s:=⟨_,rfl⟩;obtain⟨w1,hw1⟩:∃W,w.alloc (.cells #[.string x,.string s,.slice va vn vc,Pq r'] 175)=W:=⟨_,rfl⟩;have u1:Below w.heap.size w w1:=by rw[<-hw1];exact bal (Lb _ _) _
 have k1:w1.heap[w.heap.size]? = some (.cells #[.string x,.string s,.slice va vn vc,Pq r'] 175 (0,0)):=by rw[<-hw1];exact Lt w _
 have hz1:=(Array.getElem?_eq_some_iff.1 k1).1
 obtain⟨b0,hb0⟩:∃b,w.heap.size=b:=⟨_,rfl⟩;rw[hb0] at k1;have h1:=h.next u1;have hm:=h.fr.lt;have HF:Hid (∀W,Below w1.heap.size w1 W->Calls prog 163 #[.pointer (some ⟨m+1,0,none⟩),.string x] W fun e w'=> ∃v,e= .returned (.tuple #[v,.int .i64 0])∧Frs w' m (S.k:Int) (L++[x])∧St.Upo (fun b=>b=m∨b=m+1) w1 w'):=fun W hW=>
  (Qfo W ((ht.next u1).next hW) m S.k L (h1.next hW).fr x hx hL _ rfl).mono fun e w' z=>by
   obtain⟨v,z1,z2,z3,z4⟩:=z;exact⟨v,z1,z2,(St.Upo.of hW).trans ⟨z4.below.os,z4.below.tape,z4.below.output,z4.below.size,fun b hb hne=>z4.block b hb (fun e=>hne (.inl e)) (fun e=>hne (.inr e))⟩ fun _ _ e=>e⟩
 obtain⟨c0,c2,c3,c4,c5,cf⟩:=h1.cells;have hax:=h1.lt (x:=a) (.inl rfl);have HC:Hid (∀W,Below w1.heap.size w1 W->W.cell? ⟨a,3,none⟩=some (.pointer (some ⟨m+1,0,none⟩))∧W.cell? ⟨b0,0,none⟩=some (.string x)):=fun W hW=>⟨(hW.cell (p:=⟨a,3,none⟩) hax).trans c3,by rw[cell_of_row W b0 0 _ _ (0,0) ((hW.block _ (by omega)).trans k1)];rfl⟩
 have HK:Hid (∀W,St.Upo (fun b=>b=m∨b=m+1) w1 W->W.heap[b0]? = some (.cells #[.string x,.string s,.slice va vn vc,Pq r'] 175 (0,0))):=fun W hW=>(hW.block _ (by omega) (by omega)).trans k1
 have HC2:Hid (∀W,St.Upo (fun b=>b=m∨b=m+1) w1 W->W.cell? ⟨a,3,none⟩=some (.pointer (some ⟨m+1,0,none⟩))∧W.cell? ⟨b0,0,none⟩=some (.string x)):=fun W hW=>by
  obtain⟨n1,n2,_⟩:=h1.nr;exact⟨(LI (a:=⟨a,3,none⟩) (hW.block a hax (fun e=>e.elim n1 n2))).trans c3,by rw[cell_of_row W b0 0 _ _ (0,0) (HK.out W hW)];rfl⟩
 have HT:=Qd (fun(W:World) (z1:Frs W m (S.k:Int) (L++[x])) (z2:St.Upo (fun b=>b=m∨b=m+1) w1 W)=>Qit h hL hx hn u1 hz1 z1 z2 _ _ rfl rfl)
 obtain⟨va2,vl2,vn2,rfl⟩:=YR h.own;have hne:¬b0=a:=by have:=h.lt (x:=a) (.inl rfl);omega
 have u:Below w1.heap.size w1 w1.drew:=(Lb _ _).drew;rw[hs] at HT ⊢;have HW1:=Qd hw1;have HB0:=Qd hb0;obtain⟨d3,d4⟩:=HC.out _ (Lb _ _);clear ht h h1 hx hL hn k1 u1 c0 c2 c3 c4 c5 cf hs hz1 hw1 hb0 hax hm
 go_enter func97,ntmps97
 go_upto_region 1 with (fail)
 rw[HW1.out,HB0.out]
 go_region_held3 (fun Z=>Z.cell? ⟨a,3,none⟩=some (.pointer (some ⟨m+1,0,none⟩))∧Z.cell? ⟨b0,0,none⟩=some (.string x)) (first|assumption|(with_reducible exact HC2.out _ u2)|(with_reducible exact HC.out _ u)) (first
  | (go_at_call 163;(with_reducible refine(HF.out _ u).mono ?_);rintro e w2 ⟨v,rfl,f2,u2⟩))
 all_goals
  obtain⟨ao,n,cap,w5,hap,a5,a3,a2,ht⟩:=HT.out w2 f2 u2;have HZ:=Qd ht;have k2:=HK.out w2 u2;have e3:w2.cell? ⟨b0,3,none⟩=some (Pq r'):=by rw[cell_of_row w2 b0 3 _ _ (0,0) k2];rfl
  obtain⟨_,_,_,d4,_,df⟩:=Yo a2;have f4:=df 4;obtain⟨w3,hw3⟩:∃W,w2.setCell ⟨a,4,none⟩ (Pq r')=W:=⟨_,rfl⟩;rw[hw3] at hap a3;have k3:w3.heap[b0]? = some (.cells #[.string x,.string s,.slice va vn vc,Pq r'] 175 (0,0)):=by rw[<-hw3];exact(Below.heap_setCell _ _ _ _ hne).trans k2
  clear ht HT HK HC HC2 HF f2 u2 d3 df k2 a2;obtain⟨_,_,_,_,q5,_⟩:=Yo a3;obtain⟨_,_,_,_,q6,qf⟩:=Yo a5;have q7:=qf 5;have x1:w3.cell? ⟨b0,1,none⟩=some (.string s):=by rw[cell_of_row w3 b0 1 _ _ (0,0) k3];rfl
  have ub:Below w3.heap.size w3 (w3.alloc (.cells #[.string s] 9)).drew:=(bal (Lb _ _) _).drew;have q8:(w3.alloc (.cells #[.string s] 9)).drew.cell? ⟨a,5,none⟩=_:=(ub.cell (p:=⟨a,5,none⟩) (Array.getElem?_eq_some_iff.1 a3).1).trans q5
  have x2:(w3.alloc (.cells #[.string s] 9)).drew.cell? ⟨b0,1,none⟩=_:=(ub.cell (p:=⟨b0,1,none⟩) (Array.getElem?_eq_some_iff.1 k3).1).trans x1
  have ha:=St.QaI hap;have hne2:¬a=b0:=fun e=>hne e.symm
  clear a5 a3 k3 ub qf hap
  go_upto_region 3 with (fail)
  go_region
  all_goals
   go_wp2;exact bodyPost_end (results_none rfl _ prog _) rfl ⟨rfl,HZ.out⟩
end
end
def Lg(w:World)(g:Int)(a p:Nat)(U:Nat->Prop)(D:St.DV)(S:St.SV)(L:LB):Prop :=
 ∃q m r vr vs T,Led w g a q p m r vr vs T D S L∧(∀x,U x↔T x∨Lef a m r vr vs x) ∧ ¬U 3
def LgM(w w':World)(g:Int)(a p:Nat)(U:Nat->Prop)(D':St.DV)(S':St.SV)(L':LB):Prop :=
 ∃U',Lg w' g a p U' D' S' L'∧(∀x,U' x->U x∨w.heap.size<=x)∧St.Upo U w w'
theorem Tb.lt{w:World}(ht:Tb w):3<w.heap.size:=QI ht.rs (QdS (by rw[J4];decide))
theorem Tb.upo{w W:World}{U:Nat->Prop}(ht:Tb w)(h:St.Upo U w W)(hn:¬U 3):Tb W:=by
 refine⟨fun j u hu=> ?_⟩
 rw[<-ht.rs j u hu];have:=h.block _ ht.lt hn;simp only[World.cell?,this]
section
variable {w w1 W:World} {g:Int} {a q p m r:Nat} {vr vs:Value} {T U:Nat->Prop} {D D' D2:St.DV} {S S' S2:St.SV} {L L' L2:LB}
theorem Lg.lt(h:Lg w g a p U D S L){x:Nat}(hx:U x):x<w.heap.size:=by
 obtain⟨q,m,r,vr,vs,T,h1,h2,_⟩:=h;exact((h2 x).1 hx).elim h1.sk.lt h1.lt
theorem Lg.own(h:Lg w g a p U D S L):U a:=by
 obtain⟨q,m,r,vr,vs,T,h1,h2,_⟩:=h;exact(h2 a).2 (.inr (.inl rfl))
theorem Lg.same(h:Lg w g a p U D S L)(hb:∀x,U x->W.heap[x]? = w.heap[x]?):Lg W g a p U D S L:=by
 obtain⟨q,m,r,vr,vs,T,h1,h2,h3⟩:=h;exact⟨q,m,r,vr,vs,T,h1.same (fun x hx=>hb x ((h2 x).2 (.inl hx))) (fun x hx=>hb x ((h2 x).2 (.inr hx))),h2,h3⟩
theorem Lg.next(h:Lg w g a p U D S L)(hb:Below w.heap.size w W):Lg W g a p U D S L:=h.same fun x hx=>hb.block x (h.lt hx)
theorem Lg.lkd(h:Lg w 0 a p U D S L)(hL:Lkd a w W):Lg W 1 a p U D S L:=by
 obtain⟨q,m,r,vr,vs,T,h1,h2,h3⟩:=h;exact⟨q,m,r,vr,vs,T,h1.lkd hL,h2,h3⟩
theorem Lg.set(h:Lg w g a p U D S L)(g':Int):Lg (w.setCell ⟨a,0,none⟩ (.int .i32 g')) g' a p U D S L:=by
 obtain⟨q,m,r,vr,vs,T,h1,h2,h3⟩:=h;exact⟨q,m,r,vr,vs,T,h1.set g',h2,h3⟩
theorem Lg.sk(h:Lg w g a p U D S L):∃q T,w.cell? ⟨a,2,none⟩=some (Pq q)∧St.Sk w q p T D S:=by
 obtain⟨q,m,r,vr,vs,T,h1,h2,h3⟩:=h;exact⟨q,T,h1.cells.2.1,h1.sk⟩
theorem Lg.row(h:Lg w g a p U D S L):∃q m r vs,w.heap[a]? = some (rwL g (.int .u32 0) (Zp q) (.pointer (some ⟨m+1,0,none⟩)) (Pq r) vs)∧Frs w m (S.k:Int) L∧Qg w 0 vs (smL L):=by
 obtain⟨q,m,r,vr,vs,T,h1,h2,h3⟩:=h;exact⟨q,m,r,vs,h1.blk,h1.fr,h1.own⟩
theorem LgM.of(h:Lg w g a p U D S L)(hb:Below w.heap.size w W):LgM w W g a p U D S L:=⟨U,h.next hb,fun _ hx=> .inl hx,St.Upo.of hb⟩
theorem Led.add(h:Led w g a q p m r vr vs T D S L)(hm:St.SkM w W q p T D' S')(hk:S'.k=S.k):∃T',Led W g a q p m r vr vs T' D' S' L∧(∀x,T' x->T x∨w.heap.size<=x)∧St.Upo T w W:=by
 obtain⟨T',h1,h2,h3⟩:=hm;have hk':∀x,Lef a m r vr vs x->W.heap[x]? = w.heap[x]? := fun x hx=>h3.block x (h.lt hx) (fun e=>h.ap x e hx)
 refine⟨T',⟨(hk' a (.inl rfl)).trans h.blk,h1,?_,?_,St.QK h.own fun x hx=>hk' x (.inr (.inr (.inr (.inr (.inr hx))))),h.sz,fun x hx hl=> ?_,h.av⟩,h2,h3⟩
 ·rw[hk];exact h.fr.same (hk' m (.inr (.inl rfl))) (hk' _ (.inr (.inr (.inl rfl))))
 ·rw[hk];exact⟨(hk' r (.inr (.inr (.inr (.inl rfl))))).trans h.rg.blk,St.QK h.rg.own fun x hx=>hk' x (.inr (.inr (.inr (.inr (.inl hx))))),h.rg.k1,h.rg.k2,h.rg.hn,h.rg.hl,h.rg.hs⟩
 ·rcases h2 x hx with e|e
  ·exact h.ap x e hl
  ·have:=h.lt hl;omega
end
theorem QiF(D:St.DV)(S:St.SV)(x:List UInt8)(ds:LB):(St.UD D S x ds).2.1.k=S.k:=by
 unfold St.UD
 split
 ·rfl
 ·split <;> rfl
theorem QbX(D:St.DV)(S:St.SV)(x:List UInt8)(ds:LB):((St.UD D S x ds).2.2=0∧(St.UD D S x ds).2.1.ends.length=S.ends.length+1)∨((St.UD D S x ds).2.2≠0∧(St.UD D S x ds).2.1.ends=S.ends):=by
 unfold St.UD
 split
 ·exact .inr ⟨by assumption,rfl⟩
 ·split
  ·exact .inl ⟨rfl,by simp⟩
  ·exact .inr ⟨by assumption,rfl⟩
def aD(D:St.DV)(S:St.SV)(L:LB)(x:BA):St.DV×St.SV×LB×Int :=
 if 1048576<x.size then (D,S,L,100) else if 65536<=S.ends.length then (D,S,L,101) else
 ((St.UD D S x.data.toList (mdL S.k L x)).1,(St.UD D S x.data.toList (mdL S.k L x)).2.1,if (St.UD D S x.data.toList (mdL S.k L x)).2.2=0 then L++[x] else L,(St.UD D S x.data.toList (mdL S.k L x)).2.2)
theorem Qo0{w:World}{ao:OA}{b off len:Nat}{ss:LB}(h:RdS w ao b off len ss):RdS w ao b off len ss:=⟨h.hl,h.ptr,h.rng,h.sz⟩
theorem QnC(f n:Nat):Pl.trl f n<=f:=by
 induction f generalizing n with
 | zero=>exact La _
 | succ f ih=>
  have:=ih (n/2);simp only[Pl.trl]
  split <;> omega
section
variable {p:Nat} {U:Nat->Prop} {D D':St.DV} {S S':St.SV} {L L':LB}
theorem Ol(w:World)(ht:Tb w)(a:Nat)(h:Lg w 1 a p U D S L)(he:S.ends.length=L.length)(hrm:St.Rm 7 D)(x:BA)(hx:x.size<=9223372036854775807)(e0:Int)(hA:aD D S L x=(D',S',L',e0)) :
  Calls prog 49 #[Pq a,.string x] w fun e w'=>e= .returned (.int .i64 e0)∧LgM w w' 1 a p U D' S' L':=by
 obtain⟨q,m,r,vr,vs,T,hl,hU,hn⟩:=h;have hLg:Lg w 1 a p U D S L:=⟨q,m,r,vr,vs,T,hl,hU,hn⟩;have hst:=hl.cells.2.1;have hax:=Lf _ _ hst;unfold aD at hA
 by_cases h1:1048576<x.size
 ·rw[Lm h1] at hA;obtain⟨rfl,rfl,rfl,rfl⟩:D=D'∧S=S'∧L=L'∧100=e0:=by injection hA with e1 e2;injection e2 with e2 e3;injection e3 with e3 e4;exact⟨e1,e2,e3,e4⟩
  have hd:decide ((1048576:Int)<(x.size:Int))=true:=LV (by omega)
  have HZ:=Qd hLg;clear hA ht hrm hl hU hn hLg h1 he
  go_enter func49,ntmps49;go_wp2
  go_ret
  exact⟨rfl,LgM.of HZ.out (Lb _ _)⟩
 rw[Ld h1] at hA;have hd1:decide ((1048576:Int)<(x.size:Int))=false:=Lx (by omega)
 have HSz:Hid (Calls prog 74 #[Pq q] w fun e w'=>e= .returned (.int .u64 S.ends.length)∧w=w'):=(St.QW w hl.sk).mono fun e w' z=>⟨z.1,z.2.symm⟩
 by_cases h2:65536<=S.ends.length
 ·rw[Lm h2] at hA;obtain⟨rfl,rfl,rfl,rfl⟩:D=D'∧S=S'∧L=L'∧101=e0:=by injection hA with e1 e2;injection e2 with e2 e3;injection e3 with e3 e4;exact⟨e1,e2,e3,e4⟩
  have hd:decide ((65536:Int)<=(S.ends.length:Int))=true:=LV (by omega)
  have HZ:=Qd hLg;clear hA ht hrm hl hU hn hLg h1 h2 he
  go_enter func49,ntmps49
  go_wp2_with (go_at_call 74;(with_reducible refine HSz.out.mono ?_);rintro e w1 ⟨rfl,rfl⟩)
  go_ret
  exact⟨rfl,LgM.of HZ.out (Lb _ _)⟩
 rw[Ld h2] at hA;have hd2:decide ((65536:Int)<=(S.ends.length:Int))=false:=Lx (by omega)
 have k2:=hl.k1;have hcl:=hl.clk;obtain⟨DA,hDA⟩:∃y,St.UD D S x.data.toList (mdL S.k L x)=y:=⟨_,rfl⟩;rw[hDA] at hA;have hk':=QiF D S x.data.toList (mdL S.k L x);have he':=QbX D S x.data.toList (mdL S.k L x);rw[hDA] at hk' he';obtain⟨D1,S1,e1⟩:=DA;obtain⟨rfl,rfl,hL',rfl⟩:D1=D'∧S1=S'∧(if e1=0 then L++[x] else L)=L'∧e1=e0:=by injection hA with e1 e2;injection e2 with e2 e3;injection e3 with e3 e4;exact⟨e1,e2,e3,e4⟩
 simp only at hk' he';obtain⟨s,hs⟩:∃s,sm x=s:=⟨_,rfl⟩;have HNx:Hid (Calls prog 95 #[Pq a,.string x] w (NxQ w S.k L x)):=Qkl w ht a m r vr S.k L hl.fr hl.rg hcl hl.cells.2.2.1 hl.cells.2.2.2.1 x (by omega) (by omega)
 have hml:(mdL S.k L x).length<=1000:=by rw[QgL];have:=QnC 40 L.length;omega
 have HAd:Hid (∀W va vn vc,Below w.heap.size w W->Qg W w.heap.size (.slice va vn vc) (mdL S.k L x)->Calls prog 100 #[Pq q,.string x,.slice va vn vc] W fun e w'=>e= .returned (.int .i64 e1)∧St.SkM W w' q p T D1 S1):=fun W va vn vc hW ho=>by
  obtain⟨ao,b,cap,hv,hr,_,_⟩:=QH ho (fun y hy=>by rw[Qkb k2.2 L x y hy];omega)
  injection hv with e1 e2 e3
  subst e1 e2 e3;exact St.Ol W (hl.sk.next hW) hrm x hx va b 0 _ vc (mdL S.k L x) (Qo0 hr) (by omega) D1 S1 e1 hDA
 have HC:Hid (∀W,Below w.heap.size w W->W.cell? ⟨a,2,none⟩=some (Pq q)):=fun W hW=>(hW.cell (p:=⟨a,2,none⟩) hax).trans hst
 have HU:=Qd hU;have HNt:=Qd hn;have HLd:=Qd hl;have HLe:=Qd hL';have HK':=Qd hk';have HE':=Qd he';have HEL:=Qd he;have HSS:=Qd hs;have HXX:=Qd (LO h1 h2);have HTB:=Qd ht;clear hU hn hl hL' hk' he' he hs hx h1 h2 ht hA hDA hml hcl k2 hrm hLg hax
 go_enter func49,ntmps49
 go_upto_region 6 with (first
  | (go_at_call 74;(with_reducible refine HSz.out.mono ?_);rintro e w1 ⟨rfl,rfl⟩)
  | (go_at_call 95;(with_reducible refine HNx.out.mono ?_);rintro e w1 ⟨vm,r',vr',rfl,om,hr',lr,lv,u1⟩;obtain⟨va,vn,vc,rfl⟩:=YR om;rw[HSS.out]))
 obtain⟨b0,hb0⟩:∃b,w1.heap.size=b:=⟨_,rfl⟩;obtain⟨w2,hw2⟩:∃W,w1.alloc (.cells #[.string x,.string s,.slice va vn vc,Pq r'] 175)=W:=⟨_,rfl⟩;have k2:w2.heap[b0]? = some (.cells #[.string x,.string s,.slice va vn vc,Pq r'] 175 (0,0)):=by rw[<-hw2,<-hb0];exact Lt w1 _
 have u2:Below w1.heap.size w1 w2:=by rw[<-hw2];exact bal (Lb _ _) _
 have z2:=(Array.getElem?_eq_some_iff.1 k2).1
 have v2:Below w.heap.size w w2:=Qa u1 u2;have o2:Qg w2 w.heap.size (.slice va vn vc) (mdL S.k L x):=Qx om u2 (La _);have HB0:=Qd hb0;have g2:Kp.Rg w2 r' vr' (S.k:Int) (L.length+1) (pkL S.k (L++[x])):=hr'.next u2 (La _);have HW2:=Qd hw2;have HC2:Hid (∀W,Below w2.heap.size w2 W->W.cell? ⟨a,2,none⟩=some (Pq q)∧W.cell? ⟨b0,2,none⟩=some (.slice va vn vc)):=fun W hW=>⟨HC.out W (Qa v2 hW),by rw[cell_of_row W b0 2 _ _ (0,0) ((hW.block _ z2).trans k2)];rfl⟩
 have HA2:Hid (∀W,Below w2.heap.size w2 W->Calls prog 100 #[Pq q,.string x,.slice va vn vc] W fun e w'=>e= .returned (.int .i64 e1)∧St.SkM w2 w' q p T D1 S1):=fun W hW=>(HAd.out W va vn vc (Qa v2 hW) (QO (Qx o2 hW (La _)) (La _))).mono fun e w' z=>⟨z.1,St.SkM.first hW z.2⟩
 have HK2:Hid (∀W,St.SkM w2 W q p T D1 S1->W.cell? ⟨a,2,none⟩=some (Pq q)∧W.heap[b0]? = some (.cells #[.string x,.string s,.slice va vn vc,Pq r'] 175 (0,0))):=fun W hW=>by
  obtain⟨T',t1,t2,t3⟩:=hW;have hT:∀b,T b->b<w.heap.size:=fun b hb=>HLd.out.sk.lt hb
  exact⟨(LI (a:=⟨a,2,none⟩) (t3.block a (by have:=v2.size;have:=HLd.out.lt (x:=a) (.inl rfl);omega) (fun e=>HLd.out.ap a e (.inl rfl)))).trans (HC.out w2 v2),(t3.block _ z2 (fun e=>by have:=hT _ e;have:=u1.size;omega)).trans k2⟩
 have HK3:Hid (∀W,St.SkM w2 W q p T D1 S1->W.cell? ⟨a,2,none⟩=some (Pq q)∧W.cell? ⟨b0,2,none⟩=some (.slice va vn vc)):=fun W hW=>⟨(HK2.out W hW).1,by rw[cell_of_row W b0 2 _ _ (0,0) (HK2.out W hW).2];rfl⟩
 have HEr:Hid (∀W,¬e1=0->St.SkM w2 W q p T D1 S1->LgM w W 1 a p U D1 S1 L'):=fun W h0 hW=>by
  obtain⟨T',t1,t2,t3⟩:=(HLd.out.next v2).add hW HK'.out;have hLe:=HLe.out;rw[Ld h0] at hLe;subst hLe;refine⟨fun y=>T' y∨Lef a m r vr vs y,⟨q,m,r,vr,vs,T',t1,fun _=>Iff.rfl,fun e=> ?_⟩,fun y hy=> ?_,(St.Upo.of v2).trans t3 fun y _ ht=>(HU.out y).2 (.inl ht)⟩
  ·rcases e with e|e
   ·rcases t2 _ e with e|e
    ·exact HNt.out ((HU.out _).2 (.inl e))
    ·have:=HTB.out.lt;have:=v2.size;omega
   ·exact HNt.out ((HU.out _).2 (.inr e))
  ·rcases hy with e|e
   ·exact(t2 y e).imp (fun e=>(HU.out y).2 (.inl e)) (fun e=>Lu v2.size e)
   ·exact .inl ((HU.out y).2 (.inr e))
 have HOk:Hid (∀W,e1=0->St.SkM w2 W q p T D1 S1->Calls prog 97 #[Pq a,.agg #[.string x,.string s,.slice va vn vc,Pq r']] W fun e w'=>e= .returned (.tuple #[])∧LgM w w' 1 a p U D1 S1 L'):=fun W h0 hW=>by
  obtain⟨T',t1,t2,t3⟩:=(HLd.out.next v2).add hW HK'.out;have hLe:=HLe.out;rw[Lm h0] at hLe;have hT':∀y,T' y->y<w.heap.size∨w2.heap.size<=y:=fun y hy=>(t2 y hy).imp (fun e=>HLd.out.sk.lt e) id
  have nw:Nw W T' vs S1 L x r' vr':=by
   refine⟨?_,fun e=> ?_,fun b hb=>⟨fun e=> ?_,fun e=> ?_⟩⟩
   ·rw[HK'.out];exact⟨(t3.block _ g2.lt (fun e=>by have:=HLd.out.sk.lt e;omega)).trans g2.blk,St.QK g2.own fun b hb=>t3.block b (Ob g2.own hb) (fun e=>by have:=HLd.out.sk.lt e;have:=lv b hb;omega),g2.k1,g2.k2,g2.hn,g2.hl,g2.hs⟩
   ·have:=g2.lt;rcases hT' _ e with e|e <;> omega
   ·have:=Ob g2.own hb;have:=lv b hb;rcases hT' _ e with e|e <;> omega
   ·have:=lv b hb;have:=Ob HLd.out.own e;omega
  have htW:Tb W:=(HTB.out.next v2).upo t3 fun e=>HNt.out ((HU.out _).2 (.inl e))
  have htk:=QhS W htW t1 (by have:=HXX.out.2;have:=HEL.out;omega) (by have:=HXX.out.1;omega) nw va vn vc
  rw[HSS.out] at htk;refine htk.mono fun e w' z=>⟨z.1,?_⟩
  obtain⟨vs',y1,y2,y3⟩:=z.2;rw[hLe] at y1;refine⟨fun y=>T' y∨Lef a m r' vr' vs' y,⟨q,m,r',vr',vs',T',y1,fun _=>Iff.rfl,fun e=> ?_⟩,fun y hy=> ?_,((St.Upo.of v2).trans t3 fun y _ ht=>(HU.out y).2 (.inl ht)).trans y2 fun y _ ht=>(HU.out y).2 (.inr ht)⟩
  ·have htb:=HTB.out.lt;have h3:=t3.size;have hs2:=v2.size
   rcases e with e|e|e|e|e|e|e
   ·rcases t2 _ e with e|e
    ·exact HNt.out ((HU.out _).2 (.inl e))
    ·omega
   ·exact HNt.out ((HU.out _).2 (.inr (.inl e)))
   ·exact HNt.out ((HU.out _).2 (.inr (.inr (.inl e))))
   ·exact HNt.out ((HU.out _).2 (.inr (.inr (.inr (.inl e)))))
   ·omega
   ·have:=lv _ e;omega
   ·rcases y3 _ e with e|e
    ·exact HNt.out ((HU.out _).2 (.inr (.inr (.inr (.inr (.inr (.inr e)))))))
    ·omega
  ·have h3:=t3.size;have hs2:=v2.size
   rcases hy with e|e|e|e|e|e|e
   ·exact(t2 y e).imp (fun e=>(HU.out y).2 (.inl e)) (fun e=>by omega)
   ·exact .inl ((HU.out y).2 (.inr (.inl e)))
   ·exact .inl ((HU.out y).2 (.inr (.inr (.inl e))))
   ·exact .inl ((HU.out y).2 (.inr (.inr (.inr (.inl e)))))
   ·exact .inr (by omega)
   ·exact .inr (lv y e)
   ·exact(y3 y e).imp (fun e=>(HU.out y).2 (.inr (.inr (.inr (.inr (.inr (.inr e))))))) (fun e=>by omega)
 obtain⟨d1,d2⟩:=HC2.out w2 (Lb _ _);have u:Below w2.heap.size w2 w2.drew:=(Lb _ _).drew;rw[HW2.out,HB0.out];clear k2 z2 v2 u2 u1 o2 om g2 hr' lr lv HAd hb0 hw2 HLd HU HNt HLe HK' HE' HEL HSS HXX HTB hst HSz HNx HC
 go_region_held3 (fun Z=>Z.cell? ⟨a,2,none⟩=some (Pq q)∧Z.cell? ⟨b0,2,none⟩=some (.slice va vn vc)) (first|assumption|(with_reducible exact HK3.out _ t3)|(with_reducible exact HC2.out _ u)) (first
  | (go_at_call 100;(with_reducible refine(HA2.out _ u).mono ?_);rintro e w3 ⟨rfl,t3⟩))
 all_goals
  by_cases h0:e1=0
  ·have HT:=Qd (HOk.out w3 h0 t3);have k3:=(HK2.out w3 t3).2;have y0:w3.cell? ⟨b0,0,none⟩=some (.string x):=by rw[cell_of_row w3 b0 0 _ _ (0,0) k3];rfl
   have y1:w3.cell? ⟨b0,1,none⟩=some (.string s):=by rw[cell_of_row w3 b0 1 _ _ (0,0) k3];rfl
   have y2:w3.cell? ⟨b0,2,none⟩=some (.slice va vn vc):=by rw[cell_of_row w3 b0 2 _ _ (0,0) k3];rfl
   have y3:w3.cell? ⟨b0,3,none⟩=some (Pq r'):=by rw[cell_of_row w3 b0 3 _ _ (0,0) k3];rfl
   clear HOk HEr HK2 HK3 HC2 HA2 t3 k3 d1 d2;subst h0
   go_wp2_with (go_at_call 97;(with_reducible refine HT.out.mono ?_);rintro e w4 ⟨rfl,t4⟩)
   go_ret
   exact⟨rfl,t4⟩
  ·have HT:=Qd (HEr.out w3 h0 t3);have h0b:(e1 == 0)=false:=by simpa using h0
   clear HOk HEr HK2 HK3 HC2 HA2 t3 d1 d2;go_wp2
   go_ret
   exact⟨rfl,HT.out⟩
end
def apD:St.DV->St.SV->LB->LB->St.DV×St.SV×LB×Nat×Int
 | D,S,L,[]=>(D,S,L,0,0)
 | D,S,L,x::xs=>if (aD D S L x).2.2.2=0 then
   ((apD (aD D S L x).1 (aD D S L x).2.1 (aD D S L x).2.2.1 xs).1,(apD (aD D S L x).1 (aD D S L x).2.1 (aD D S L x).2.2.1 xs).2.1,(apD (aD D S L x).1 (aD D S L x).2.1 (aD D S L x).2.2.1 xs).2.2.1,(apD (aD D S L x).1 (aD D S L x).2.1 (aD D S L x).2.2.1 xs).2.2.2.1+1,(apD (aD D S L x).1 (aD D S L x).2.1 (aD D S L x).2.2.1 xs).2.2.2.2)
  else ((aD D S L x).1,(aD D S L x).2.1,(aD D S L x).2.2.1,0,(aD D S L x).2.2.2)
def RmA:St.DV->St.SV->LB->LB->Prop
 | _,_,_,[]=>True
 | D,S,L,x::xs=>St.Rm 7 D∧((aD D S L x).2.2.2=0->RmA (aD D S L x).1 (aD D S L x).2.1 (aD D S L x).2.2.1 xs)
theorem QlC(D:St.DV)(S:St.SV)(L:LB)(x:BA)(he:S.ends.length=L.length):(aD D S L x).2.1.ends.length=(aD D S L x).2.2.1.length∧(aD D S L x).2.1.k=S.k:=by
 unfold aD
 split
 ·exact⟨he,rfl⟩
 ·split
  ·exact⟨he,rfl⟩
  ·refine⟨?_,QiF ..⟩
   rcases QbX D S x.data.toList (mdL S.k L x) with ⟨e1,e2⟩|⟨e1,e2⟩
   ·simp only[e1,if_true,e2,List.length_append,List.length_cons,List.length_nil,he]
   ·simp only[if_neg e1,e2,he]
section
variable {w W:World} {a p:Nat} {U:Nat->Prop} {D D' D0:St.DV} {S S' S0:St.SV} {L L' L0:LB} {g:Int}
theorem LgM.cell{b i:Nat}{v:Value}(h:LgM w W g a p U D S L)(hc:w.cell? ⟨b,i,none⟩=some v)(hb:¬U b):W.cell? ⟨b,i,none⟩=some v:=by
 obtain⟨U',h1,h2,h3⟩:=h;exact(LI (a:=⟨b,i,none⟩) (h3.block b (Lf _ _ hc) hb)).trans hc
theorem LgM.rds{ao:OA}{b off len:Nat}{xs:LB}(h:LgM w W g a p U D S L)(hr:RdS w ao b off len xs)(hb:0<len -> ¬U b):RdS W ao b off len xs :=
 ⟨hr.hl,hr.ptr,fun j v hv=>h.cell (hr.rng j v hv) (hb (by have:=(List.getElem?_eq_some_iff.1 hv).1;rw[LC] at this;have:=hr.hl;omega)),hr.sz⟩
theorem LgM.tb(h:LgM w W g a p U D S L)(h0:Lg w g a p U D0 S0 L0)(ht:Tb w):Tb W:=by
 obtain⟨U',h1,h2,h3⟩:=h;obtain⟨_,_,_,_,_,_,_,_,hn⟩:=h0;exact ht.upo h3 hn
theorem QdL(w:World)(ht:Tb w)(h:Lg w 1 a p U D S L)(he:S.ends.length=L.length)(bi bl:Nat)(ao:OA)(b len cap:Nat)(xs:LB)(hr:RdS w ao b 0 len xs)(hlen:len<=9223372036854775806)
  (ci:w.cell? ⟨bi,0,none⟩=some (.slice ao len cap)) (cl:w.cell? ⟨bl,0,none⟩=some (Pq a)) (n1:¬U bi) (n2:¬U bl) (n3:0<len -> ¬U b) (hR:RmA D S L xs) (n:Nat) (e0:Int) (hA:apD D S L xs=(D',S',L',n,e0)) :
  Calls prog 48 #[Pq bi,Pq bl] w fun e w'=>e= .returned (.tuple #[.int .i64 n,.int .i64 e0])∧LgM w w' 1 a p U D' S' L':=by
 have hll:=hr.hl;have HC:Hid (∀W Di Si Li,LgM w W 1 a p U Di Si Li->W.cell? ⟨bi,0,none⟩=some (.slice ao len cap)∧W.cell? ⟨bl,0,none⟩=some (Pq a)∧RdS W ao b 0 len xs):=fun W Di Si Li hW=>⟨hW.cell ci n1,hW.cell cl n2,hW.rds hr n3⟩
 have HA:Hid (∀W Di Si Li x Dj Sj Lj ej,LgM w W 1 a p U Di Si Li->Si.ends.length=Li.length->St.Rm 7 Di->x.size<=9223372036854775807->aD Di Si Li x=(Dj,Sj,Lj,ej)->Calls prog 49 #[Pq a,.string x] W fun e w'=>e= .returned (.int .i64 ej)∧LgM w w' 1 a p U Dj Sj Lj):=fun W Di Si Li x Dj Sj Lj ej hW g1 g2 g3 g4=>by
  obtain⟨U1,y1,y2,y3⟩:=hW;exact(Ol W (LgM.tb ⟨U1,y1,y2,y3⟩ h ht) a y1 g1 g2 x g3 ej g4).mono fun e w' z=>by
   obtain⟨U2,z1,z2,z3⟩:=z.2;exact⟨z.1,U2,z1,fun y hy=>(z2 y hy).elim (y2 y) (fun e=> .inr (Lu y3.size e)),y3.trans z3 fun y _ ht=>(y2 y ht).elim id (fun e=>by omega)⟩
 have HM:=Qd (LgM.of h (Lb _ _));have HQ:=Qd (LO he (LO hR hA));have hptr:=hr.ptr;clear h he hR hA hr n1 n2 n3
 go_enter func48,ntmps48;go_wp2
 go_loopg [9] len (fun g x wr=> ∃(j m:Nat) (Di:St.DV) (Si:St.SV) (Li:LB),j<=len∧g=len-j∧x= .int .i64 j∧Hid (LgM w wr 1 a p U Di Si Li)∧Hid (Si.ends.length=Li.length∧RmA Di Si Li (xs.drop j)∧apD Di Si Li (xs.drop j)=(D',S',L',m,e0)∧j+m=n))
 case atStart=>go_light;exact⟨0,n,D,S,L,Ln _,rfl,rfl,HM,HQ.out.1,HQ.out.2.1,HQ.out.2.2,Lo _⟩
 case round=>
  clear HM HQ ci cl;obtain⟨j,m,Di,Si,Li,hj,rfl,rfl,HM,HQ⟩:=hrel;obtain⟨ci,cl,hr⟩:=HC.out wr Di Si Li HM.out
  by_cases hlt:j<len
  ·have hzj:(j:Int)<(len:Int):=by omega
   obtain rfl:=hptr (by omega)
   obtain⟨x,hx⟩:∃x,xs.getD j ByteArray.empty=x:=⟨_,rfl⟩;have c0:=hr.at hlt;rw[hx,Lo] at c0;obtain⟨q1,q2,q3,q4⟩:=HQ.out;have hd:xs.drop j=x::xs.drop (j+1):=by
    rw[L8 (by omega),<-hx,Lc,Ll (by omega)];rfl
   rw[hd] at q2 q3;have hxs:x.size<=9223372036854775807:=hr.sz x (by rw[<-hx,Lc,Ll (by omega)];exact LZ _)
   obtain⟨Dj,Sj,Lj,ej,hj4⟩:∃Dj Sj Lj ej,aD Di Si Li x=(Dj,Sj,Lj,ej):=⟨_,_,_,_,rfl⟩;have ha:=QlC Di Si Li x q1;rw[hj4] at ha;have HAd:=Qd (HA.out wr Di Si Li x Dj Sj Lj ej HM.out q1 q2.1 hxs hj4);unfold RmA at q2;unfold apD at q3;rw[hj4] at q2 q3;have ew3:IntKind.i64.wrap ((j:Int)+1)=((j+1:Nat):Int):=by rw[Lz];omega
   by_cases h0:ej=0
   ·subst h0;simp only[if_true] at q3;obtain⟨m',hm'⟩:∃m',m=m'+1:=by
     injection q3 with _ q3;injection q3 with _ q3;injection q3 with _ q3;injection q3 with q3 _
     exact⟨_,q3.symm⟩
    subst hm';have HN:Hid (Sj.ends.length=Lj.length∧RmA Dj Sj Lj (xs.drop (j+1))∧apD Dj Sj Lj (xs.drop (j+1))=(D',S',L',m',e0)∧(j+1)+m'=n):=by
     refine⟨ha.1,q2.2 rfl,?_,by omega⟩
     generalize apD Dj Sj Lj (xs.drop (j+1))=y at q3;obtain⟨y1,y2,y3,y4,y5⟩:=y;injection q3 with e1 q3;injection q3 with e2 q3;injection q3 with e3 q3;injection q3 with e4 q3
     simp only at e1 e2 e3 e4 q3;rw[e1,e2,e3,q3,show y4=m' by omega]
    clear q1 q2 q3 q4 hd hx hxs hj4 ha HQ HM HA hr hll
    go_wp2_with (go_at_call 49;(with_reducible refine HAd.out.mono ?_);rintro e w2 ⟨rfl,t2⟩)
    go_roundg (len-(j+1))
    case rel=>go_light;exact⟨j+1,m',Dj,Sj,Lj,by omega,rfl,rfl,t2,HN⟩
    case measure=>go_light;omega
   ·simp only[if_neg h0] at q3;obtain⟨rfl,rfl,rfl,rfl,rfl⟩:Dj=D'∧Sj=S'∧Lj=L'∧0=m∧ej=e0:=by injection q3 with e1 q3;injection q3 with e2 q3;injection q3 with e3 q3;injection q3 with e4 q3;exact⟨e1,e2,e3,e4,q3⟩
    have h0b:(ej == 0)=false:=by simpa using h0
    obtain rfl:j=n:=by omega
    clear q1 q2 q3 q4 hd hx hxs hj4 ha HQ HM HA hr hll HC
    go_wp2_with (go_at_call 49;(with_reducible refine HAd.out.mono ?_);rintro e w2 ⟨rfl,t2⟩)
    go_ret2
    exact⟨rfl,t2⟩
  ·have hzj:¬(j:Int)<(len:Int):=by omega
   obtain rfl:j=len:=by omega
   obtain⟨q1,q2,q3,q4⟩:=HQ.out;rw[<-hll,Wn] at q3;obtain⟨rfl,rfl,rfl,rfl,rfl⟩:Di=D'∧Si=S'∧Li=L'∧0=m∧0=e0:=by injection q3 with e1 q3;injection q3 with e2 q3;injection q3 with e3 q3;injection q3 with e4 q3;exact⟨e1,e2,e3,e4,q3⟩
   obtain rfl:j=n:=by omega
   clear q1 q2 q3 q4 HQ HA hr hll HC;go_wp2
   go_ret2
   exact⟨rfl,HM.out⟩
end
section
variable {w W W1:World} {a p:Nat} {U:Nat->Prop} {D D':St.DV} {S S':St.SV} {L L':LB} {g:Int}
theorem LgM.whole(h:Lg w 0 a p U D S L)(hb:Below w.heap.size w W)(hm:LgM (W.setCell ⟨a,0,none⟩ (.int .i32 1)) W1 1 a p U D' S' L'):LgM w (W1.setCell ⟨a,0,none⟩ (.int .i32 0)) 0 a p U D' S' L':=by
 obtain⟨U',h1,h2,h3⟩:=hm;have q1:St.Upo U w (W.setCell ⟨a,0,none⟩ (.int .i32 1)):=(St.Upo.of hb).set a 0 _ (.inl h.own);have hz:(W.setCell ⟨a,0,none⟩ (.int .i32 1)).heap.size=W.heap.size:=by simp
 refine⟨U',h1.set 0,fun x hx=>(h2 x hx).imp id (fun e=> ?_),(q1.trans h3 fun _ _ e=>e).set a 0 _ (.inl h.own)⟩
 have:=hb.size;omega
theorem Lg.inn(h:Lg w 1 a p U D S L):w.cell? ⟨a,0,none⟩=some (.int .i32 1)∧w.frozen? ⟨a,0,none⟩=false:=by
 obtain⟨q,m,r,vs,h1,_⟩:=h.row;obtain⟨c,_,_,_,_,f⟩:=Yo h1;exact⟨c,f 0⟩
theorem LgM.inn(h:LgM w W 1 a p U D S L):W.cell? ⟨a,0,none⟩=some (.int .i32 1)∧W.frozen? ⟨a,0,none⟩=false:=by
 obtain⟨U',h1,_⟩:=h;exact h1.inn
theorem Qeg(w:World)(ht:Tb w)(h:Lg w 0 a p U D S L)(he:S.ends.length=L.length)(ao:OA)(b len cap:Nat)(xs:LB)(hr:RdS w ao b 0 len xs)(hlen:len<=9223372036854775806)(n3:0<len -> ¬U b)(hR:RmA D S L xs)(n:Nat)(e0:Int)(hA:apD D S L xs=(D',S',L',n,e0)) :
  Calls prog 14 #[Pq a,.slice ao len cap] w fun e w'=>e= .returned (.tuple #[.int .i64 n,.int .i64 e0])∧LgM w w' 0 a p U D' S' L':=by
 obtain⟨w1,hw1⟩:∃W,(w.alloc (.cells #[Pq a] 27)).alloc (.cells #[.slice ao len cap] 22)=W:=⟨_,rfl⟩;have u1:Below w.heap.size w w1:=by rw[<-hw1];exact bal (bal (Lb _ _) _) _
 have k0:w1.heap[w.heap.size]? = some (.cells #[Pq a] 27 (0,0)):=by rw[<-hw1];exact St.new0 _ _ _
 have k1:w1.heap[w.heap.size+1]? = some (.cells #[.slice ao len cap] 22 (0,0)):=by rw[<-hw1];exact St.new2 _ _ _
 have h1:=h.next u1;obtain⟨q,m,r,vs,hrow,_⟩:=h1.row;obtain⟨c0,c2,_,_,_,cf⟩:=Yo hrow;have hax:=h.lt h.own;have hset:∀b,b≠a->(w1.setCell ⟨a,0,none⟩ (.int .i32 1)).heap[b]? = w1.heap[b]? := fun b hb=>Below.heap_setCell _ _ _ _ hb
 have hnU:∀b,w.heap.size<=b -> ¬U b:=fun b hb hu=>by have:=h.lt hu;omega
 have HW:Hid (Calls prog 47 #[Pq a,.func (.func 48) #[] #[.pointer (some ⟨w.heap.size+1,0,none⟩),Pq w.heap.size]] w1 fun e w'=>e= .returned (.tuple #[.int .i64 n,.int .i64 e0])∧LgM w w' 0 a p U D' S' L'):=by
  refine(Qgb w1 a q _ _ (.inl rfl) c0 (cf 0) c2 (fun x y W=>x= .int .i64 n∧y= .int .i64 e0∧LgM (w1.setCell ⟨a,0,none⟩ (.int .i32 1)) W 1 a p U D' S' L') ?_).mono fun e w' z=> ?_
  ·have t1:Tb (w1.setCell ⟨a,0,none⟩ (.int .i32 1)):=(ht.next u1).upo (U:=U) ((St.Upo.refl U w1).set a 0 _ (.inl h.own)) (by obtain⟨_,_,_,_,_,_,_,_,hn⟩:=h;exact hn)
   have hx:=hr.hl;refine(QdL (w1.setCell ⟨a,0,none⟩ (.int .i32 1)) t1 (h1.set 1) he (w.heap.size+1) w.heap.size ao b len cap xs ⟨hr.hl,hr.ptr,fun j v hv=> ?_,hr.sz⟩ hlen ?_ ?_ (hnU _ (by omega)) (hnU _ (by omega)) n3 hR n e0 hA).mono fun e w' z=> ?_
   ·have hc:=hr.rng j v hv;have hlt:=Lf _ _ hc;have hbU:¬U b:=n3 (by have:=(List.getElem?_eq_some_iff.1 hv).1;rw[LC] at this;omega)
    have hba:b≠a:=fun e=>hbU (e ▸ h.own)
    exact(LI (a:=⟨b,0+j,none⟩) ((hset b hba).trans (u1.block b hlt))).trans hc
   ·rw[cell_of_row _ (w.heap.size+1) 0 _ _ (0,0) ((hset _ (by omega)).trans k1)];rfl
   ·rw[cell_of_row _ w.heap.size 0 _ _ (0,0) ((hset _ (by omega)).trans k0)];rfl
   ·exact⟨_,_,z.1,z.2.inn.1,z.2.inn.2,rfl,rfl,z.2⟩
  ·obtain⟨x,y,w2,rfl,⟨rfl,rfl,z2⟩,rfl⟩:=z;exact⟨rfl,LgM.whole h u1 z2⟩
 have b0:w1.cell? ⟨w.heap.size,0,none⟩=some (Pq a):=by rw[cell_of_row _ _ 0 _ _ (0,0) k0];rfl
 clear ht h he hr hR hA h1 k1 hrow c0 c2 cf hset hnU n3 u1 k0;have HW1:=Qd hw1;clear hw1
 go_enter func14,ntmps14
 go_upto_region 1 with (fail)
 rw[HW1.out]
 go_wp2_with (go_at_call 47;(with_reducible refine HW.out.mono ?_);rintro e w2 ⟨rfl,t2⟩)
 go_ret2
 exact⟨rfl,t2⟩
end
end Go.Proofs.YtoblgjledefdbaaGreatDoor
