/- Own work. -/
import Derived.Test.YtoblgjledefdbaaGreatDoorQm05
set_option maxRecDepth 100000
set_option maxHeartbeats 4000000
namespace Go.Proofs.YtoblgjledefdbaaGreatDoor
open Go.RowKit
attribute [local go_sem ↓] Go.wp_at_zero Go.wp_at_succ
open Go.Proofs.Tryz
namespace Cv
open Pl
theorem Tryz.infoU:(prog.info? 48).map (fun i=>(i.zero,i.size,i.bytes))=some (some (.int .u64 0),1,8):=by kernel_rfl
theorem Tryz.infoB:(prog.info? 249).map (fun i=>(i.zero,i.size,i.bytes))=some (some (.agg #[.int .i64 0,.int .u64 0]),2,16):=by kernel_rfl
theorem Qa{w W w2:World}(h:Below w.heap.size w W)(h2:Below W.heap.size W w2):Below w.heap.size w w2:=h.trans (h2.mono h.size)
theorem Qf{B:Nat}{a w:World}(h:Below B a w)(n:Nat):Below B a (w.drewN n):=⟨h.os,h.tape,h.output,h.size,h.block⟩
abbrev cU(l:List Nat):List Value:=l.map (fun x:Nat=>Value.int .u64 (x:Int))
def cB:List (Int×Nat)->List Value
 | []=>[]
 | b::r => .int .i64 b.1 :: .int .u64 (b.2:Int)::cB r
def zl(L:List (Nat×Nat)):List (Int×Nat):=L.map (fun b=>((b.1:Int),b.2))
theorem Qlt(L M:List (Nat×Nat)):zl (L++M)=zl L++zl M:=L5
theorem Je(L:List (Nat×Nat)):(zl L).length=L.length:=Nc _
theorem QoT(h k:Nat):zl [(h,k)]=[((h:Int),k)]:=rfl
theorem QA(l:List (Int×Nat)):(cB l).length=l.length*2:=by
 induction l with
 | nil=>rfl
 | cons b r ih=>simp[cB,ih];omega
theorem QnP(l m:List (Int×Nat)):cB (l++m)=cB l++cB m:=by
 induction l with
 | nil=>rfl
 | cons b r ih=>simp[cB,ih]
theorem Qbb(l:List (Int×Nat)) : ∀u∈cB l,u.oneCell'=true:=by
 induction l with
 | nil=>intro u hu;cases hu
 | cons b r ih =>
  intro u hu;simp[cB] at hu
  rcases hu with rfl|rfl|hu
  ·rfl
  ·rfl
  ·exact ih u hu
theorem Qjl(l:List Nat) : ∀u∈cU l,u.oneCell'=true:=by
 intro u hu;simp[cU] at hu;obtain⟨y,_,rfl⟩:=hu;rfl
theorem Qjj(l:List (Int×Nat))(j:Nat)(h:Int)(k:Nat)(hj:l[j]? = some (h,k)):(cB l)[2*j]? = some (.int .i64 h)∧(cB l)[2*j+1]? = some (.int .u64 (k:Int)):=by
 induction l generalizing j with
 | nil=>simp at hj
 | cons b r ih =>
  cases j with
  | zero=>simp at hj;subst hj;exact⟨rfl,rfl⟩
  | succ j =>
   have:=ih j (by simpa using hj)
   rw[show 2*(j+1)=2*j+1+1 by omega]
   simpa [cB] using this
abbrev Uh(w:World)(base:Nat)(v:Value)(l:List (Int×Nat)):Prop:=w.ownsRow base 249 2 v l.length (cB l)
abbrev Own(w:World)(base:Nat)(v:Value)(l:List Nat):Prop:=w.ownsRow base 48 1 v l.length (cU l)
def RdC(w:World)(u:Value)(m:Nat)(news:List Value):Prop :=
 ∃ao cap,u = .slice ao m cap∧(ao=none->m=0∧cap=0) ∧ ∀ad,ao=some ad -> ∀j c,news[j]? = some c->w.cell? (ad.add j)=some c
structure Ap(w w':World)(B e size:Nat)(v v':Value)(n:Nat)(xs:List Value):Prop where
 own:w'.ownsRow B e size v' n xs
 grown:w.grownBy w' v.ownBlock
 fresh:v'.ownBlock=v.ownBlock ∨ ∀g,v'.ownBlock=some g->w.heap.size<=g
theorem YZ(w:World){ops:Array Oper}{rest:List Oper}{o:Oper}{a:Act}{Q:Exit->Act->World->Prop}
  (hg:o.guard=none) (s x:Operand) (t:TypeId) (hop:o.op=Op.call { callee:=Callee.builtin Builtin.append,args:=#[s,x],argTypes:=#[t,t] })
  (B:Nat) (e:TypeId) (i:TypeInfo) (z:Value) (size bytes:Nat) (h1:prog.underlying t=some (.slice e)) (h2:prog.info? e=some i) (h3:i.zero=some z) (h4:i.size=size) (h5:i.bytes=bytes) (h6:z.cells.size=size) (h7:0<size)
  (v:Value) (n:Nat) (xs:List Value) (hs:a.eval s=v) (hown:w.ownsRow B e size v n xs) (u:Value) (m:Nat) (news:List Value) (hx:a.eval x=u) (hr:RdC w u m news) (hn:news.length=m*size) (h1c : ∀u∈news,u.oneCell'=true)
  (b1:n+m<=maxLen) (b2:(n+m)*bytes<=140737488355328) (hB:B<=w.heap.size)
  (hK : ∀v' w',Ap w w' B e size v v' (n+m) (xs++news)->wpList prog ops Q rest (a.put o.dst v') w'):wpList prog ops Q (o::rest) a w:=by
 obtain⟨ao,xD,rfl,xC,xA⟩:=hr
 cases ao with
 | none =>
  obtain⟨rfl,rfl⟩:=xC rfl;have xE:news=[]:=List.length_eq_zero_iff.1 (by rw[hn];omega)
  subst xE;exact wpList_append_own_none hg s x _ hop B e i size h1 h2 v n xs hs hown hx (hK _ w ⟨by simpa using hown,World.grownBy.refl w _,.inl rfl⟩)
 | some ad =>
  have xB:=hown;obtain⟨g1,g2⟩:=hown
  rcases g2 with ⟨rfl,rfl⟩|⟨g,cp,cur,rfl,hgb,hh,hc⟩
  ·have xF:xs=[]:=List.length_eq_zero_iff.1 (by omega)
   subst xF;refine wpList_append_own w hg s x _ hop w.heap.size e i z size bytes h1 h2 h3 h4 h5 h6 h7 _ 0 [] hs (Nh _ _ _ _) ad m xD news hx hn (xA ad rfl) h1c b1 b2 (La _) ?_
   intro v' w' r1 r2 _;exact hK v' w' ⟨r1.mono hB,r2,.inr fun k hk=>(r1.lt k hk).1⟩
  ·by_cases hfit:n+m<=cp
   ·refine wpList_append_fits w hg s x _ hop B e i size h1 h2 h4 g n cp xs hs xB ad m xD news hx hn (xA ad rfl) h1c hfit ?_
    intro w' r1 r2;exact hK _ w' ⟨r1,r2,.inl rfl⟩
   ·refine wpList_append_grows w hg s x _ hop e i z size bytes h1 h2 h3 h4 h5 h6 h7 (some ⟨g,0,none⟩) n cp xs hs (fun h=>by cases h) g1 (fun b hb=>by cases hb;exact xB.cells rfl) ad m xD news hx hn (xA ad rfl) h1c (by omega) b1 b2 ?_
    intro v' w' r1 r2;exact hK v' w' ⟨r1.mono hB,⟨r2.os,r2.tape,r2.output,r2.size,fun k hk _=>r2.block k hk (by simp)⟩,.inr fun k hk=>(r1.lt k hk).1⟩
theorem Ue(w:World){ops:Array Oper}{rest:List Oper}{o:Oper}{a:Act}{Q:Exit->Act->World->Prop}
  (hg:o.guard=none) (s x:Operand) (hop:o.op=Op.call { callee:=Callee.builtin Builtin.append,args:=#[s,x],argTypes:=#[187,187] })
  (B:Nat) (v:Value) (L:List (Int×Nat)) (hs:a.eval s=v) (hown:Uh w B v L) (u:Value) (M:List (Int×Nat)) (hx:a.eval x=u) (hr:RdC w u M.length (cB M))
  (hlen:L.length+M.length<=1048576) (hB:B<=w.heap.size)
  (hK : ∀v' w',Uh w' B v' (L++M)->w.grownBy w' v.ownBlock->(v'.ownBlock=v.ownBlock ∨ ∀g,v'.ownBlock=some g->w.heap.size<=g)->wpList prog ops Q rest (a.put o.dst v') w'):wpList prog ops Q (o::rest) a w:=by
 obtain⟨i0,hi,xA,xB,xC⟩:=info_parts Tryz.infoB;refine YZ w hg s x _ hop B 249 i0 (.agg #[.int .i64 0,.int .u64 0]) 2 16 underlying187 hi xA xB xC rfl (by decide) v L.length (cB L) hs hown u M.length (cB M) hx hr (QA M) (Qbb M) (by unfold maxLen;omega) (by omega) hB ?_
 intro v' w' h;refine hK v' w' ?_ h.grown h.fresh
 rw[Uh,QnP,Lc];exact h.own
theorem QaQ(w:World){ops:Array Oper}{rest:List Oper}{o:Oper}{a:Act}{Q:Exit->Act->World->Prop}
  (hg:o.guard=none) (s x:Operand) (hop:o.op=Op.call { callee:=Callee.builtin Builtin.append,args:=#[s,x],argTypes:=#[66,66] })
  (B:Nat) (v:Value) (L:List Nat) (hs:a.eval s=v) (hown:Own w B v L) (u:Value) (M:List Nat) (hx:a.eval x=u) (hr:RdC w u M.length (cU M))
  (hlen:L.length+M.length<=1048576) (hB:B<=w.heap.size)
  (hK : ∀v' w',Own w' B v' (L++M)->w.grownBy w' v.ownBlock->(v'.ownBlock=v.ownBlock ∨ ∀g,v'.ownBlock=some g->w.heap.size<=g)->wpList prog ops Q rest (a.put o.dst v') w'):wpList prog ops Q (o::rest) a w:=by
 obtain⟨i0,hi,xA,xB,xC⟩:=info_parts Tryz.infoU;refine YZ w hg s x _ hop B 48 i0 (.int .u64 0) 1 8 underlying66 hi xA xB xC rfl (by decide) v L.length (cU L) hs hown u M.length (cU M) hx hr (by simp[cU]) (Qjl M) (by unfold maxLen;omega) (by omega) hB ?_
 intro v' w' h;refine hK v' w' ?_ h.grown h.fresh
 have:=h.own;rw[Own,Lc]
 simpa [cU] using this
theorem Qaw(w:World)(h:Int)(k t:Nat):RdC (w.alloc (.cells #[.int .i64 h,.int .u64 (k:Int)] t)) (.slice (some ⟨w.heap.size,0,none⟩) 1 1) [(h,k)].length (cB [(h,k)]):=by
 refine⟨some ⟨w.heap.size,0,none⟩,1,rfl,(fun h=>by cases h),fun ad ha j c hj => ?_⟩
 cases ha
 match j,hj with
 | 0,hj=>simp[cB] at hj;subst hj;simp[Addr.add,World.cell?_alloc_at]
 | 1,hj=>simp[cB] at hj;subst hj;simp[Addr.add,World.cell?_alloc_at]
theorem QcE{w w':World}{B e size n:Nat}{v:Value}{l:List Value}(h:w.ownsRow B e size v n l)(hb:Below w.heap.size w w'):w'.ownsRow B e size v n l:=by
 obtain⟨h1,h2⟩:=h;refine⟨h1,?_⟩
 rcases h2 with h2|⟨g,cap,cur,hv,hg,hh,h3⟩
 ·exact .inl h2
 ·exact .inr ⟨g,cap,cur,hv,hg,(hb.block g (by have:=(Array.getElem?_eq_some_iff.1 hh).1;exact this)).trans hh,h3⟩
theorem QcF{B:Nat}{w wr w1:World}{v:Value}{o:Obj}{e size n:Nat}{xs:List Value}(hB:Below B w wr)(hs:B<=wr.heap.size)(hown:wr.ownsRow B e size v n xs)(hg:(wr.alloc o).grownBy w1 v.ownBlock):Below B w w1∧B<=w1.heap.size:=by
 have h1:=hg.size;rw[NQ] at h1;exact⟨(hB.alloc hs o).grown hg (by simp;omega) (fun j hj=>(hown.lt j hj).1),by omega⟩
theorem QbC(h:Nat)(w:World)(hh:h<64):Calls prog 359 #[.int .i64 (h:Int)] w fun e w'=>e = .returned (.int .u64 (pw h:Nat))∧w=w':=by
 have xC:(0:Int)<=(h:Int):=Lf _;have xD:(h:Int)<64:=by omega
 have xE : ¬(h:Int)<0:=by omega
 obtain⟨p,hp⟩ : ∃p:Nat,pw h=p:=⟨_,rfl⟩;have e1:IntKind.u64.wrap ((2:Int)^h)=(p:Int):=by
  have xB:pw h<=pw 63:=OY (by omega)
  have xA:pw 63=2^63:=rfl;have e:((2:Int)^h)=(p:Int):=by rw[<-hp];simp[pw]
  rw[e,IntKind.wrap_u64];omega
 rw[hp];clear hp hh
 go_enter func359,ntmps359;go_wp2
 go_ret
 exact⟨rfl,rfl⟩
theorem Q4{w:World}{b:Nat}(o:Obj)(hb:b<w.heap.size):(w.alloc o).heap[b]? = w.heap[b]? := (World.grownBy_alloc w o none).block b hb (by simp)
theorem OX{w w':World}{B e size n:Nat}{v:Value}{xs:List Value}(h:w.ownsRow B e size v n xs)(hb : ∀g,v.ownBlock=some g->w'.heap[g]? = w.heap[g]?):w'.ownsRow B e size v n xs:=by
 obtain⟨h1,h2⟩:=h;refine⟨h1,?_⟩
 rcases h2 with h2|⟨g,cap,cur,hv,hg,hh,h3⟩
 ·exact .inl h2
 ·subst hv;exact .inr ⟨g,cap,cur,rfl,hg,(hb g rfl).trans hh,h3⟩
theorem Qx{w:World}{B e size n:Nat}{v:Value}{xs:List Value}(h:w.ownsRow B e size v n xs) : ∃ao m c,v = .slice ao m c:=by
 rcases h.2 with ⟨rfl,_⟩|⟨g,cap,cur,rfl,_⟩
 ·exact⟨_,_,_,rfl⟩
 ·exact⟨_,_,_,rfl⟩
structure Give(k B0 M:Nat)(I:(Nat->Prop)->List (Nat×Nat)->World->Prop):Prop where
 give : ∀X acc (h q:Nat) w,I X acc w->(∀x,X x->x<w.heap.size)->acc.length<M ->
  Calls prog k #[.agg #[.int .i64 (h:Int),.int .u64 (q:Int)],.pointer (some ⟨B0,0,none⟩)] w fun e w'=>e = .returned (.tuple #[])∧I X (acc++[(h,q)]) w'∧Below B0 w w' ∧ ∀x,X x->w'.heap[x]? = w.heap[x]?
 stay : ∀X X' acc w w',I X acc w->(∀b,b<w.heap.size -> ¬X b->w'.heap[b]? = w.heap[b]?)->(∀x,X' x->X x∨w.heap.size<=x)->I X' acc w'
 lt : ∀X acc w,I X acc w->B0<w.heap.size
structure IA(B0:Nat)(X:Nat->Prop)(acc:List (Nat×Nat))(w:World):Prop where
 ex : ∃v,w.heap[B0]? = some (.cells #[v] 187 (0,0))∧Uh w (B0+1) v (zl acc) ∧ ∀g,v.ownBlock=some g -> ¬X g
 nx : ¬X B0
theorem Qg1(B0:Nat)(X X':Nat->Prop)(acc:List (Nat×Nat))(w w':World)(h:IA B0 X acc w)(hb : ∀b,b<w.heap.size -> ¬X b->w'.heap[b]? = w.heap[b]?)(hx : ∀x,X' x->X x∨w.heap.size<=x):IA B0 X' acc w':=by
 obtain⟨⟨v,h1,h2,h3⟩,h4⟩:=h;have xA:B0<w.heap.size:=(Array.getElem?_eq_some_iff.1 h1).1
 refine⟨⟨v,(hb B0 xA h4).trans h1,OX h2 (fun g hg=>hb g (h2.lt g hg).2 (h3 g hg)),fun g hg hxg => ?_⟩,fun hx0 => ?_⟩
 ·rcases hx g hxg with h|h
  ·exact h3 g hg h
  ·have:=(h2.lt g hg).2;omega
 ·rcases hx B0 hx0 with h|h
  ·exact h4 h
  ·omega
theorem QnB(B0:Nat)(X:Nat->Prop)(acc:List (Nat×Nat))(w:World)(h:IA B0 X acc w):B0<w.heap.size:=by
 obtain⟨⟨v,h1,h2,h3⟩,h4⟩:=h;exact(Array.getElem?_eq_some_iff.1 h1).1
theorem Qev{B0 h q:Nat}{X:Nat->Prop}{acc:List (Nat×Nat)}{w w1:World}{v v':Value}{o1 o2:Obj}(h1:w.heap[B0]? = some (.cells #[v] 187 (0,0)))(h2:Uh w (B0+1) v (zl acc))(h3 : ∀g,v.ownBlock=some g -> ¬X g)(h4 : ¬X B0)(hX : ∀x,X x->x<w.heap.size)
  (hown:Uh w1 (B0+1) v' (zl acc++[((h:Int),q)])) (hg:((w.alloc o1).alloc o2).grownBy w1 v.ownBlock) (hf:v'.ownBlock=v.ownBlock ∨ ∀g,v'.ownBlock=some g->w.heap.size+1+1<=g) :
  IA B0 X (acc++[(h,q)]) (w1.setCell ⟨B0,0,none⟩ v')∧Below B0 w (w1.setCell ⟨B0,0,none⟩ v') ∧ ∀x,X x->(w1.setCell ⟨B0,0,none⟩ v').heap[x]? = w.heap[x]? := by
 have xD:B0<w.heap.size:=(Array.getElem?_eq_some_iff.1 h1).1
 have xC : ∀b,b<w.heap.size->some b≠v.ownBlock->w1.heap[b]? = w.heap[b]? := fun b hb hne=>by
  rw[hg.block b (by simp;omega) hne,Q4 _ (by simp;omega),Q4 _ hb]
 have xB:some B0≠v.ownBlock:=fun e=>by have:=(h2.lt B0 e.symm).1;omega
 have c1:w1.heap[B0]? = some (.cells #[v] 187 (0,0)):=(xC B0 xD xB).trans h1;have xA : ∀b,b≠B0->(w1.setCell ⟨B0,0,none⟩ v').heap[b]? = w1.heap[b]? := fun b hb=>Below.heap_setCell _ _ _ _ hb
 refine⟨⟨⟨v',one_setCell c1,?_,?_⟩,h4⟩,?_,?_⟩
 ·rw[Qlt,QoT];exact OX hown (fun g hgg=>xA g (by have:=(hown.lt g hgg).1;omega))
 ·intro g hgg hxg
  rcases hf with hf|hf
  ·exact h3 g (hf ▸ hgg) hxg
  ·have:=hf g hgg;have:=hX g hxg;simp at *;omega
 ·have b1:Below B0 w w1:=by
   have:=((Lb B0 w).alloc (by omega) o1).alloc (by simp;omega) o2
   exact this.grown hg (by simp;omega) (fun j hj=>by have:=(h2.lt j hj).1;omega)
  exact b1.setCell (La _) _
 ·intro x hx;have hne:x≠B0:=fun e=>h4 (e ▸ hx)
  rw[xA x hne];exact xC x (hX x hx) (fun e=>h3 x e.symm hx)
theorem QfQ(B0:Nat):Give 277 B0 1000000 (IA B0):=by
 refine⟨fun X acc h q w hI hX hl => ?_,Qg1 B0,QnB B0⟩
 obtain⟨⟨v,h1,h2,h3⟩,h4⟩:=hI;have xB:B0<w.heap.size:=(Array.getElem?_eq_some_iff.1 h1).1
 have cV:=cell_of_one h1;have HH:Hid (w.heap[B0]? = some (.cells #[v] 187 (0,0))∧Uh w (B0+1) v (zl acc)∧(∀g,v.ownBlock=some g -> ¬X g) ∧ ¬X B0∧(∀x,X x->x<w.heap.size)∧acc.length<1000000):=⟨h1,h2,h3,h4,hX,hl⟩;have xG : ¬B0=w.heap.size:=by omega
 have xF:B0+1<=w.heap.size:=xB;have xC : ∀o:Obj,(w.alloc o).cell? ⟨B0,0,none⟩=some v:=fun o=>(LD (Q4 o xB)).trans cV
 clear h1 h3 h4 hX hl xB cV;have xD:B0+1<=w.heap.size+1+1:=by omega
 have xA:=fun(o1 o2:Obj)=>(h2.alloc o1).alloc o2
 clear h2
 go_enter func277,ntmps277
 go_wp2_with (at_builtin;refine Ue _ rfl _ _ rfl (B0+1) v (zl acc) rfl (xA _ _) (.slice (some ⟨w.heap.size+1,0,none⟩) 1 1) [((h:Int),q)] rfl ?c1 ?c2 ?c3 ?_)
 case c1=>have:=Qaw (w.alloc (.cells #[.int .i64 (h:Int),.int .u64 (q:Int)] 249)) h q 249;rw[NQ] at this;exact this
 case c2=>have:=HH.out.2.2.2.2.2;simp[Je];omega
 case c3=>simp;omega
 intro v' w1 r1 r2 r3;obtain⟨ao,n1,xE,rfl⟩:=Qx r1;have R:=Qev HH.out.1 HH.out.2.1 HH.out.2.2.1 HH.out.2.2.2.1 HH.out.2.2.2.2.1 r1 r2 r3;have c1:w1.heap[B0]? = some (.cells #[v] 187 (0,0)):=by
  rw[r2.block B0 (by simp;omega) (fun e=>by have:=(HH.out.2.1.lt B0 e.symm).1;omega),Q4 _ (by simp;omega),Q4 _ (by omega)];exact HH.out.1
 have cW:=cell_of_one c1;have fW:=free_of_one c1;clear r1 r2 r3 c1 xC;go_wp2
 go_end0
 exact⟨rfl,R⟩
theorem Qh8(B0:Nat):Give 230 B0 1000000 (IA B0):=by
 refine⟨fun X acc h q w hI hX hl => ?_,Qg1 B0,QnB B0⟩
 obtain⟨⟨v,h1,h2,h3⟩,h4⟩:=hI;have xB:B0<w.heap.size:=(Array.getElem?_eq_some_iff.1 h1).1
 have cV:=cell_of_one h1;have HH:Hid (w.heap[B0]? = some (.cells #[v] 187 (0,0))∧Uh w (B0+1) v (zl acc)∧(∀g,v.ownBlock=some g -> ¬X g) ∧ ¬X B0∧(∀x,X x->x<w.heap.size)∧acc.length<1000000):=⟨h1,h2,h3,h4,hX,hl⟩;have xG : ¬B0=w.heap.size:=by omega
 have xF:B0+1<=w.heap.size:=xB;have xC : ∀o:Obj,(w.alloc o).cell? ⟨B0,0,none⟩=some v:=fun o=>(LD (Q4 o xB)).trans cV
 clear h1 h3 h4 hX hl xB cV;have xD:B0+1<=w.heap.size+1+1:=by omega
 have xA:=fun(o1 o2:Obj)=>(h2.alloc o1).alloc o2
 clear h2
 go_enter func230,ntmps230
 go_wp2_with (at_builtin;refine Ue _ rfl _ _ rfl (B0+1) v (zl acc) rfl (xA _ _) (.slice (some ⟨w.heap.size+1,0,none⟩) 1 1) [((h:Int),q)] rfl ?c1 ?c2 ?c3 ?_)
 case c1=>have:=Qaw (w.alloc (.cells #[.int .i64 (h:Int),.int .u64 (q:Int)] 249)) h q 249;rw[NQ] at this;exact this
 case c2=>have:=HH.out.2.2.2.2.2;simp[Je];omega
 case c3=>simp;omega
 intro v' w1 r1 r2 r3;obtain⟨ao,n1,xE,rfl⟩:=Qx r1;have R:=Qev HH.out.1 HH.out.2.1 HH.out.2.2.1 HH.out.2.2.2.1 HH.out.2.2.2.2.1 r1 r2 r3;have c1:w1.heap[B0]? = some (.cells #[v] 187 (0,0)):=by
  rw[r2.block B0 (by simp;omega) (fun e=>by have:=(HH.out.2.1.lt B0 e.symm).1;omega),Q4 _ (by simp;omega),Q4 _ (by omega)];exact HH.out.1
 have cW:=cell_of_one c1;have fW:=free_of_one c1;clear r1 r2 r3 c1 xC;go_wp2
 go_end0
 exact⟨rfl,R⟩
structure IC(B0:Nat)(X:Nat->Prop)(acc:List (Nat×Nat))(w:World):Prop where
 at0:w.heap[B0]? = some (.cells #[.int .u64 (acc.length:Int)] 48 (0,0))
 nx : ¬X B0
theorem QfP(B0:Nat):Give 389 B0 4611686018427387904 (IC B0):=by
 refine⟨fun X acc h q w hI hX hl => ?_,fun X X' acc w w' hI hb hx => ?_,fun X acc w hI=>(Array.getElem?_eq_some_iff.1 hI.at0).1⟩
 ·obtain⟨h1,h4⟩:=hI;have xA:B0<w.heap.size:=(Array.getElem?_eq_some_iff.1 h1).1
  have cV:=cell_of_one h1;have fV:=free_of_one h1;have xF : ∀o:Obj,(w.alloc o).cell? ⟨B0,0,none⟩=some (.int .u64 (acc.length:Int)):=fun o=>(LD (Q4 o xA)).trans cV
  have xG : ∀o:Obj,(w.alloc o).frozen? ⟨B0,0,none⟩=false:=fun o=>(NN (Q4 o xA)).trans fV
  have HH:Hid (w.heap[B0]? = some (.cells #[.int .u64 (acc.length:Int)] 48 (0,0)) ∧ ¬X B0∧(∀x,X x->x<w.heap.size)∧B0<w.heap.size):=⟨h1,h4,hX,xA⟩;have e1:IntKind.u64.wrap ((acc.length:Int)+1)=((acc.length+1:Nat):Int):=by rw[IntKind.wrap_u64];omega
  have xC : ¬B0=w.heap.size:=by omega
  clear h1 h4 hX xA cV fV hl
  go_enter func389,ntmps389;go_wp2
  go_end0
  obtain⟨h1,h4,hX,xA⟩:=HH.out;refine⟨rfl,?_⟩
  have e2:((acc.length:Int)+1)=((acc.length+1:Nat):Int):=by omega
  have xD : ∀o:Obj,(w.alloc o).heap[B0]? = some (.cells #[.int .u64 (acc.length:Int)] 48 (0,0)):=fun o=>(Q4 o xA).trans h1
  have xE : ∀o:Obj,((w.alloc o).setCell ⟨B0,0,none⟩ (.int .u64 ((acc.length:Int)+1))).heap[B0]? = some (.cells #[.int .u64 ((acc.length+1:Nat):Int)] 48 (0,0)):=fun o=>by
   rw[e2];exact one_setCell (xD o)
  have xB : ∀(o:Obj) b,b<w.heap.size->b≠B0->((w.alloc o).setCell ⟨B0,0,none⟩ (.int .u64 ((acc.length:Int)+1))).heap[b]? = w.heap[b]? := fun o b hb xC=>by
   rw[Below.heap_setCell _ _ _ _ xC];exact Q4 o hb
  refine⟨⟨?_,h4⟩,?_,fun x hx=>xB _ x (hX x hx) (fun e=>h4 (e ▸ hx))⟩
  ·rw[Lc];exact xE _
  ·exact((Lb B0 w).alloc (by omega) _).setCell (La B0) _
 ·have xA:=(Array.getElem?_eq_some_iff.1 hI.at0).1
  refine⟨(hb B0 xA hI.nx).trans hI.at0,fun hx0 => ?_⟩
  rcases hx B0 hx0 with h|h
  ·exact hI.nx h
  ·omega
abbrev gv(k B0:Nat):Value := .func (.func k) #[] #[.pointer (some ⟨B0,0,none⟩)]
theorem Qac{k B0 M:Nat}(hk:k=277∨k=230∨k=389){I:(Nat->Prop)->List (Nat×Nat)->World->Prop}(G:Give k B0 M I)(c:Nat)(X:Nat->Prop)(acc:List (Nat×Nat))(h lo:Nat)(w:World)
  (hI:I X acc w) (hX : ∀x,X x->x<w.heap.size) (hl:acc.length<M) (x0:X c) (x1:X (c+1)) (hc:B0<c)
  (c0:w.heap[c]? = some (.cells #[.int .u64 (lo:Int)] 48 (0,0))) (c1:w.heap[c+1]? = some (.cells #[gv k B0] 294 (0,0))) (hh:h<41) (hlo:lo<=2^40) :
  Calls prog 358 #[.int .i64 (h:Int),.pointer (some ⟨c+1,0,none⟩),.pointer (some ⟨c,0,none⟩)] w fun e w'=>e = .returned (.tuple #[])∧I X (acc++[(h,lo / pw h)]) w'∧Below B0 w w' ∧
   w'.heap[c]? = some (.cells #[.int .u64 ((lo+pw h:Nat):Int)] 48 (0,0)) ∧ ∀x,X x->x≠c->w'.heap[x]? = w.heap[x]? := by
 have d0:=cell_of_one c0;have d1:=cell_of_one c1;obtain⟨q,hq⟩:=Ze (lo / pw h);have eq:(lo:Int) / 2^h=(q:Int):=by rw[<-hq];simp[pw]
 have HG:Calls prog k #[.agg #[.int .i64 (h:Int),.int .u64 (q:Int)],.pointer (some ⟨B0,0,none⟩)] w.drew fun e w'=>e = .returned (.tuple #[])∧I X (acc++[(h,q)]) w'∧Below B0 w w' ∧ ∀x,X x->w'.heap[x]? = w.heap[x]? :=
  (G.give X acc h q w.drew (G.stay X X acc w w.drew hI (fun _ _ _=>rfl) (fun x hx => .inl hx)) hX hl).mono fun e w' r=>⟨r.1,r.2.1,⟨r.2.2.1.os,r.2.2.1.tape,r.2.2.1.output,r.2.2.1.size,r.2.2.1.block⟩,r.2.2.2⟩
 have HL:=fun w'=>QbC h w' (by omega)
 have hp:pw h<=pw 40:=OY (by omega)
 have xG:pw 40=2^40:=rfl;rw[hq];obtain⟨p,xC⟩:=Ze (pw h);rw[xC] at hp ⊢;simp only[xC] at HL;have es:IntKind.u64.wrap ((lo:Int)+(p:Int))=((lo+p:Nat):Int):=by rw[IntKind.wrap_u64];omega
 have xH:(0:Int)<=(h:Int):=Lf _;have xI:(h:Int)<64:=by omega
 have xJ : ¬(h:Int)<0:=by omega
 have HH:Hid (I X acc w∧(∀x,X x->x<w.heap.size)∧X c∧X (c+1)∧B0<c∧w.heap[c]? = some (.cells #[.int .u64 (lo:Int)] 48 (0,0))):=⟨hI,hX,x0,x1,hc,c0⟩;clear hI hX hl x0 x1 hc c0 c1 hh hlo hq hp xG xC
 rcases hk with rfl|rfl|rfl
 all_goals
  go_enter func358,ntmps358;go_wp2
  go_region_with (with_reducible refine HG.mono ?_;rintro e w1 ⟨rfl,xE,xF,xD⟩)
  all_goals
   have xB:w1.heap[c]? = some (.cells #[.int .u64 (lo:Int)] 48 (0,0)):=(xD c HH.out.2.2.1).trans HH.out.2.2.2.2.2;have k0:=cell_of_one xB;have k1:=free_of_one xB;have R : ∀W:World,W.heap=(w1.setCell ⟨c,0,none⟩ (.int .u64 ((lo+p:Nat):Int))).heap->Below B0 w W->I X (acc++[(h,q)]) W∧Below B0 w W ∧
     W.heap[c]? = some (.cells #[.int .u64 ((lo+p:Nat):Int)] 48 (0,0)) ∧ ∀x,X x->x≠c->W.heap[x]? = w.heap[x]? := fun W hW hbW=>by
    refine⟨G.stay X X _ w1 W xE (fun b hb hnx => ?_) (fun x hx => .inl hx),hbW,?_,fun x hx hne => ?_⟩
    ·rw[hW];exact Below.heap_setCell _ _ _ _ (fun e=>hnx (e ▸ HH.out.2.2.1))
    ·rw[hW];exact one_setCell xB
    ·rw[hW];exact(Below.heap_setCell _ _ _ _ hne).trans (xD x hx)
   have xA:Below B0 w (w1.setCell ⟨c,0,none⟩ (.int .u64 ((lo+p:Nat):Int))):=xF.setCell (Nat.le_of_lt HH.out.2.2.2.2.1) _;clear xB xE xF xD d0 d1 HG;go_wp2
   go_region_with (go_at_call 359;with_reducible refine(HL _).mono ?_;rintro e w2 ⟨rfl,rfl⟩)
   all_goals
    go_wp2
    go_end0
    exact⟨rfl,R _ rfl ⟨xA.os,xA.tape,xA.output,xA.size,xA.block⟩⟩
theorem QaL(h:Nat)(w:World)(hh:h<64):Calls prog 359 #[.int .i64 (h:Int)] w fun e w'=>e = .returned (.int .u64 (pw h:Nat))∧w'=w:=(QbC h w hh).mono fun _ _ r=>⟨r.1,r.2.symm⟩
theorem bit1(m:Nat)(hm:m<18446744073709551616):(bits BinOp.and IntKind.u64 (m:Int) 1 == 1)=decide (m % 2=1):=by
 have:=bits_and_u64_nat m 1 hm (by decide)
 rw[show(1:Int)=((1:Nat):Int) from rfl,this,IU]
 by_cases h:m % 2=1
 ·simp[h]
 ·have:m % 2=0:=by omega
  simp[this]
theorem OJ(w:World)(o:Obj):(w.alloc o).heap[w.heap.size]? = some o:=by
 show(w.heap.push o)[w.heap.size]? = _
 simp
structure Ev(k B0 c:Nat)(I:(Nat->Prop)->List (Nat×Nat)->World->Prop)(X:Nat->Prop)(w0:World)(acc:List (Nat×Nat))(lo:Nat)(wr:World):Prop where
 inv:I (fun x=>X x∨x=c∨x=c+1) acc wr
 lt : ∀x,(X x∨x=c∨x=c+1)->x<wr.heap.size
 c0:wr.heap[c]? = some (.cells #[.int .u64 (lo:Int)] 48 (0,0))
 c1:wr.heap[c+1]? = some (.cells #[gv k B0] 294 (0,0))
 below:Below B0 w0 wr
 keep : ∀x,X x->x≠c∧x≠c+1∧wr.heap[x]? = w0.heap[x]?
 bc:B0<c
theorem Ev.drewN{k B0 c M:Nat}{I:(Nat->Prop)->List (Nat×Nat)->World->Prop}{X:Nat->Prop}{w0 wr:World}{acc:List (Nat×Nat)}{lo:Nat}(G:Give k B0 M I)(h:Ev k B0 c I X w0 acc lo wr)(n:Nat):Ev k B0 c I X w0 acc lo (wr.drewN n) :=
 ⟨G.stay _ _ _ wr _ h.inv (fun _ _ _=>rfl) (fun _ hx => .inl hx),h.lt,h.c0,h.c1,Qf h.below n,h.keep,h.bc⟩
theorem Ev.take{k B0 c M:Nat}(hk:k=277∨k=230∨k=389){I:(Nat->Prop)->List (Nat×Nat)->World->Prop}{X:Nat->Prop}{w0 wr:World}{acc:List (Nat×Nat)}{lo:Nat}(G:Give k B0 M I)(h:Ev k B0 c I X w0 acc lo wr)(hl:acc.length<M)(j:Nat)(hj:j<41)(hlo:lo<=2^40) :
  Calls prog 358 #[.int .i64 (j:Int),.pointer (some ⟨c+1,0,none⟩),.pointer (some ⟨c,0,none⟩)] wr fun e w'=>e = .returned (.tuple #[])∧Ev k B0 c I X w0 (acc++[(j,lo / pw j)]) (lo+pw j) w':=by
 refine(Qac hk G c _ acc j lo wr h.inv h.lt hl (.inr (.inl rfl)) (.inr (.inr rfl)) h.bc h.c0 h.c1 hj hlo).mono ?_
 rintro e w' ⟨rfl,r1,r2,r3,r4⟩;refine⟨rfl,r1,fun x hx=>Lx (h.lt x hx) r2.size,r3,(r4 (c+1) (.inr (.inr rfl)) (by omega)).trans h.c1,h.below.trans r2,fun x hx => ?_,h.bc⟩
 obtain⟨a1,a2,a3⟩:=h.keep x hx;exact⟨a1,a2,(r4 x (.inl hx) a1).trans a3⟩
theorem QjL{k B0 M:Nat}{I:(Nat->Prop)->List (Nat×Nat)->World->Prop}{X:Nat->Prop}{w:World}{acc:List (Nat×Nat)}(G:Give k B0 M I)(lo:Nat)(hI:I X acc w)(hX : ∀x,X x->x<w.heap.size) :
  Ev k B0 w.heap.size I X w acc lo ((w.alloc (.cells #[.int .u64 (lo:Int)] 48)).alloc (.cells #[gv k B0] 294)):=by
 have xA:=G.lt X acc w hI;have hh : ∀b,b<w.heap.size->((w.alloc (.cells #[.int .u64 (lo:Int)] 48)).alloc (.cells #[gv k B0] 294)).heap[b]? = w.heap[b]? := fun b hb=>by
  rw[Q4 _ (by simp;omega),Q4 _ hb]
 refine⟨G.stay X _ acc w _ hI (fun b hb _=>hh b hb) (fun x hx => ?_),fun x hx => ?_,?_,?_,?_,fun x hx => ?_,xA⟩
 ·rcases hx with hx|hx|hx
  ·exact .inl hx
  ·exact .inr (by omega)
  ·exact .inr (by omega)
 ·have : ∀x,X x->x<w.heap.size:=hX
  rcases hx with hx|hx|hx
  ·have:=hX x hx;simp;omega
  ·simp;omega
  ·simp;omega
 ·rw[Q4 _ (by simp)];exact OJ _ _
 ·have:=OJ (w.alloc (.cells #[.int .u64 (lo:Int)] 48)) (.cells #[gv k B0] 294);rw[NQ] at this;exact this
 ·exact((Lb B0 w).alloc (by omega) _).alloc (by simp;omega) _
 ·have:=hX x hx;exact⟨by omega,by omega,hh x this⟩
theorem QoP{f h lo hi:Nat}(h1:pw h<=hi - lo)(h2:lo / pw h % 2=1):upL (f+1) h lo hi=(h,lo / pw h)::upL f (h+1) (lo+pw h) hi:=by rw[upL,Lk h1,Lk h2]
theorem Qns{f h lo hi:Nat}(h1:pw h<=hi - lo)(h2 : ¬lo / pw h % 2=1):upL (f+1) h lo hi=upL f (h+1) lo hi:=by rw[upL,Lk h1,Le h2]
theorem QoN{f h lo hi:Nat}(h1 : ¬pw h<=hi - lo):upL (f+1) h lo hi=dnL (h+1) lo hi:=by rw[upL,Le h1]
theorem QfH{h lo hi:Nat}(h1:pw h<=hi - lo):dnL (h+1) lo hi=(h,lo / pw h)::dnL h (lo+pw h) hi:=by rw[dnL,Lk h1]
theorem QjD{h lo hi:Nat}(h1 : ¬pw h<=hi - lo):dnL (h+1) lo hi=dnL h lo hi:=by rw[dnL,Le h1]
theorem QlZ{k B0 c M:Nat}{I:(Nat->Prop)->List (Nat×Nat)->World->Prop}{X:Nat->Prop}{w0 wr:World}{acc:List (Nat×Nat)}{lo:Nat}(G:Give k B0 M I)(h:Ev k B0 c I X w0 acc lo wr):I X acc wr∧Below B0 w0 wr ∧ ∀x,X x->wr.heap[x]? = w0.heap[x]? :=
 ⟨G.stay _ X acc wr wr h.inv (fun _ _ _=>rfl) (fun _ hx => .inl (.inl hx)),h.below,fun x hx=>(h.keep x hx).2.2⟩
theorem Qbl{k B0 M:Nat}(hk:k=277∨k=230∨k=389){I:(Nat->Prop)->List (Nat×Nat)->World->Prop}(G:Give k B0 M I)(X:Nat->Prop)(acc:List (Nat×Nat))(lo hi:Nat)(w:World)
  (hI:I X acc w) (hX : ∀x,X x->x<w.heap.size) (hl:acc.length+1000<M) (h1:lo<=hi) (h2:hi<=2^40) :
  Calls prog 276 #[.int .u64 (lo:Int),.int .u64 (hi:Int),gv k B0] w fun e w'=>e = .returned (.tuple #[])∧I X (acc++cov lo hi) w'∧Below B0 w w' ∧ ∀x,X x->w'.heap[x]? = w.heap[x]? := by
 have HS:Hid (Ev k B0 w.heap.size I X w acc lo ((w.alloc (.cells #[.int .u64 (lo:Int)] 48)).alloc (.cells #[gv k B0] 294))∧lo<=hi∧hi<=2^40∧acc.length+1000<M):=⟨QjL G lo hI hX,h1,h2,hl⟩;clear hI hX hl h1 h2
 go_enter func276,ntmps276;go_wp2
 go_loopg [7] 42 (fun g h wr => ∃(j lo':Nat) (acc':List (Nat×Nat)),j<=41∧g=42 - j∧h = .int .i64 (j:Int)∧Ev k B0 w.heap.size I X w acc' lo' wr∧acc'++upL (42 - j) j lo' hi=acc++cov lo hi∧lo'<=hi∧acc'.length<=acc.length+j)
 case atStart=>go_light;exact⟨0,lo,acc,by decide,rfl,rfl,HS.out.1,rfl,HS.out.2.1,La _⟩
 case round =>
  obtain⟨j,lo',acc',hj,rfl,rfl,HE,xB,xI,xG⟩:=hrel;obtain⟨_,xP,xF,hl⟩:=HS.out;have xU:(0:Int)<=(j:Int):=Lf _;have xV:(j:Int)<64:=by omega
  have xW : ¬(j:Int)<0:=by omega
  have k0:=cell_of_one HE.c0;have HL:=fun w'=>QaL j w' (by omega)
  obtain⟨p,hp⟩:=Ze (pw j);simp only[hp] at HL;obtain⟨d,hd⟩:=Ze (hi - lo');have ed:IntKind.u64.wrap ((hi:Int) - (lo':Int))=(d:Int):=by rw[IntKind.wrap_u64];omega
  by_cases hfit:p<=d
  ·have xK:(p:Int)<=(d:Int):=by omega
   have xH:j<=40:=pw40 (by rw[hp];omega)
   obtain⟨q,hq⟩:=Ze (lo' / pw j);have eq:(lo':Int) / 2^j=(q:Int):=by rw[<-hq];simp[pw]
   have xJ:=HE.drewN G
   by_cases hodd:q % 2=1
   ·have xN:(bits BinOp.and IntKind.u64 (q:Int) 1 == 1)=true:=by rw[bit1 q (by rw[<-hq];exact NT (NM _ _) (by omega))];exact LA hodd
    have HT:=fun n=>(xJ n).take hk G (by omega) j (by omega) (by omega)
    have hu:upL (42 - j) j lo' hi=(j,lo' / pw j)::upL (42 - (j+1)) (j+1) (lo'+pw j) hi:=by
     rw[show 42 - j=(42 - (j+1))+1 by omega];exact QoP (by omega) (by rw[hq];exact hodd)
    have HX:Hid (acc'++[(j,lo' / pw j)]++upL (42 - (j+1)) (j+1) (lo'+pw j) hi=acc++cov lo hi∧lo'+pw j<=hi∧(acc'++[(j,lo' / pw j)]).length<=acc.length+(j+1)∧j+1<=41):=by
     refine⟨?_,by omega,by simp;omega,by omega⟩
     rw[Lq,<-xB,hu];rfl
    have HN:Hid (hi - lo'=d∧pw j=p):=⟨hd,hp⟩;clear xB xI xG hd hp hq hodd hu xP xF hl HE xJ hfit hj xH;go_wp2
    go_quiet ((go_at_call 359;refine Calls.quiet_of_same (HL _)))
    go_wp2_with (go_at_call 358;with_reducible refine(HT _).mono ?_;rintro e w1 ⟨rfl,xM⟩)
    go_roundg (42 - (j+1))
    case rel=>go_light;obtain⟨x1,x2,x3,x4⟩:=HX.out;exact⟨j+1,_,_,x4,rfl,by go_num,xM,x1,x2,x3⟩
    case measure=>go_light;have:=HX.out.2.2.2;omega
   ·have xN:(bits BinOp.and IntKind.u64 (q:Int) 1 == 1)=false:=by rw[bit1 q (by rw[<-hq];exact NT (NM _ _) (by omega))];exact Ls hodd
    have hu:upL (42 - j) j lo' hi=upL (42 - (j+1)) (j+1) lo' hi:=by
     rw[show 42 - j=(42 - (j+1))+1 by omega];exact Qns (by omega) (by rw[hq];exact hodd)
    have HX:Hid (acc'++upL (42 - (j+1)) (j+1) lo' hi=acc++cov lo hi∧lo'<=hi∧acc'.length<=acc.length+(j+1)∧j+1<=41 ∧ ∀n,Ev k B0 w.heap.size I X w acc' lo' (wr.drewN n)):=by
     refine⟨?_,xI,by omega,by omega,xJ⟩
     rw[<-xB,hu]
    clear xB xI xG hd hp hq hodd hu xP xF hl HE xJ hfit hj xH;go_wp2
    go_quiet ((go_at_call 359;refine Calls.quiet_of_same (HL _)))
    go_wp2
    go_roundg (42 - (j+1))
    case rel=>go_light;obtain⟨x1,x2,x3,x4,x5⟩:=HX.out;exact⟨j+1,_,_,x4,rfl,by go_num,x5 _,x1,x2,x3⟩
    case measure=>go_light;have:=HX.out.2.2.2.1;omega
  ·have xK : ¬(p:Int)<=(d:Int):=by omega
   have hu:upL (42 - j) j lo' hi=dnL (j+1) lo' hi:=by
    rw[show 42 - j=(41 - j)+1 by omega];exact QoN (by omega)
   rw[hu] at xB;have HX:Hid (acc'++dnL (j+1) lo' hi=acc++cov lo hi∧lo'<=hi∧acc'.length<=acc.length+41∧j<=41∧hi<=2^40∧acc.length+1000<M ∧ ∀n,Ev k B0 w.heap.size I X w acc' lo' (wr.drewN n)):=⟨xB,xI,by omega,hj,xF,hl,HE.drewN G⟩
   clear xB xI xG hd hp hu xP xF hl HE hj;go_wp2
   go_quiet ((go_at_call 359;refine Calls.quiet_of_same (HL _)))
   go_wp2;clear HL k0 ed xK hfit
   go_loopg [7] 42 (fun g h wr2 => ∃(m lo2:Nat) (acc2:List (Nat×Nat)),m<=42∧m<=g∧h = .int .i64 ((m:Int) - 1)∧Ev k B0 w.heap.size I X w acc2 lo2 wr2∧acc2++dnL m lo2 hi=acc++cov lo hi∧lo2<=hi∧acc2.length+m<=acc.length+100)
   case atStart=>go_light;obtain⟨x1,x2,x3,x4,x5,x6,x7⟩:=HX.out;exact⟨j+1,lo',acc',by omega,by omega,by congr 1;omega,x7 _,x1,x2,by omega⟩
   case round =>
    obtain⟨m,lo2,acc2,hm,xX,rfl,xE,xA,xD,xC⟩:=hrel;obtain⟨_,_,_,_,xF,hl,_⟩:=HX.out
    by_cases hm0:m=0
    ·subst hm0;have ht : ¬(0:Int)<=((0:Nat):Int) - 1:=by omega
     have HF:Hid (I X (acc++cov lo hi) wr∧Below B0 w wr ∧ ∀x,X x->wr.heap[x]? = w.heap[x]?):=by
      have e:acc2=acc++cov lo hi:=by rw[<-xA];simp[dnL]
      rw[<-e];exact QlZ G xE
     clear xA xE xD xC hm;go_wp2
     go_end0
     exact⟨rfl,HF.out⟩
    ·obtain⟨i,rfl⟩ : ∃i,m=i+1:=⟨m - 1,by omega⟩
     have ei:(((i+1:Nat):Int) - 1)=(i:Int):=by omega
     rw[ei];have xR:(0:Int)<=(i:Int):=Lf _;have xS:(i:Int)<64:=by omega
     have xT : ¬(i:Int)<0:=by omega
     have k0:=cell_of_one xE.c0;have HL:=fun w'=>QaL i w' (by omega)
     obtain⟨p2,xL⟩:=Ze (pw i);simp only[xL] at HL;obtain⟨d2,xQ⟩:=Ze (hi - lo2);have ed:IntKind.u64.wrap ((hi:Int) - (lo2:Int))=(d2:Int):=by rw[IntKind.wrap_u64];omega
     by_cases hfit:p2<=d2
     ·have xK:(p2:Int)<=(d2:Int):=by omega
      have xO:i<=40:=pw40 (by rw[xL];omega)
      have HT:=fun n=>(xE.drewN G n).take hk G (by omega) i (by omega) (by omega)
      have hu:=QfH (h:=i) (lo:=lo2) (hi:=hi) (by omega)
      have HY:Hid (acc2++[(i,lo2 / pw i)]++dnL i (lo2+pw i) hi=acc++cov lo hi∧lo2+pw i<=hi∧(acc2++[(i,lo2 / pw i)]).length+i<=acc.length+100∧i<=42):=by
       refine⟨?_,by omega,by simp;omega,by omega⟩
       rw[Lq,<-xA,hu];rfl
      clear xA xD xC xQ xL hu xF hl xE hfit hm xO hm0;go_wp2
      go_quiet ((go_at_call 359;refine Calls.quiet_of_same (HL _)))
      go_wp2_with (go_at_call 358;with_reducible refine(HT _).mono ?_;rintro e w1 ⟨rfl,xM⟩)
      go_roundg i
      case rel=>go_light;obtain⟨x1,x2,x3,x4⟩:=HY.out;exact⟨i,_,_,x4,La _,by go_num,xM,x1,x2,x3⟩
      case measure=>go_light;omega
     ·have xK : ¬(p2:Int)<=(d2:Int):=by omega
      have hu:=QjD (h:=i) (lo:=lo2) (hi:=hi) (by omega)
      rw[hu] at xA;have HY:Hid (acc2++dnL i lo2 hi=acc++cov lo hi∧lo2<=hi∧acc2.length+i<=acc.length+100∧i<=42 ∧ ∀n,Ev k B0 w.heap.size I X w acc2 lo2 (wr.drewN n)):=⟨xA,xD,by omega,by omega,xE.drewN G⟩
      clear xA xD xC xQ xL hu xF hl xE hm hm0;go_wp2
      go_quiet ((go_at_call 359;refine Calls.quiet_of_same (HL _)))
      go_wp2
      go_roundg i
      case rel=>go_light;obtain⟨x1,x2,x3,x4,x5⟩:=HY.out;exact⟨i,_,_,x4,La _,by go_num,x5 _,x1,x2,x3⟩
      case measure=>go_light;omega
end Cv
end Go.Proofs.YtoblgjledefdbaaGreatDoor
