/- Own work. -/
import Derived.Test.YtoblgjledefdbabGreatDoorQs03
set_option maxRecDepth 100000
set_option maxHeartbeats 4000000
namespace Go.Proofs.YtoblgjledefdbabGreatDoor
open Go.RowKit
attribute [local go_sem ↓] Go.wp_at_zero Go.wp_at_succ
open Go.Proofs.Tryz
namespace Cv
open Pl
theorem Tryz.infoU:(prog.info? 31).map (fun i=>(i.zero,i.size,i.bytes))=some (some (.int .u64 0),1,8):=by kernel_rfl
theorem Tryz.infoB:(prog.info? 131).map (fun i=>(i.zero,i.size,i.bytes))=some (some (.agg #[.int .i64 0,.int .u64 0]),2,16):=by kernel_rfl
abbrev cU(l:List Nat):List Value:=l.map (fun x:Nat=>Value.int .u64 x)
def cB:List (Int×Nat)->List Value
 | []=>[]
 | b::r=> .int .i64 b.1 :: .int .u64 b.2::cB r
def zl(L:List (Nat×Nat)):List (Int×Nat):=L.map (fun b=>((b.1:Int),b.2))
theorem Qav(L M:List (Nat×Nat)):zl (L++M)=zl L++zl M:=Nd
theorem Yd(L:List (Nat×Nat)):(zl L).length=L.length:=LI _
theorem Qpm(h k:Nat):zl [(h,k)]=[((h:Int),k)]:=rfl
theorem Qu(l:List (Int×Nat)):(cB l).length=l.length*2:=by
 induction l with
 | nil=>rfl
 | cons b r ih=>simp[cB,ih];omega
theorem QcU(l m:List (Int×Nat)):cB (l++m)=cB l++cB m:=by
 induction l with
 | nil=>rfl
 | cons b r ih=>simp[cB,ih]
theorem Qac(l:List (Int×Nat)):∀u∈cB l,u.oneCell'=true:=by
 induction l with
 | nil=>intro u hu;cases hu
 | cons b r ih=>
  intro u hu;simp[cB] at hu
  rcases hu with rfl|rfl|hu
  ·rfl
  ·rfl
  ·exact ih u hu
theorem Qoa(l:List Nat):∀u∈cU l,u.oneCell'=true:=by
 intro u hu;simp[cU] at hu;obtain⟨y,_,rfl⟩:=hu;rfl
theorem Qn3(l:List (Int×Nat))(j:Nat)(h:Int)(k:Nat)(hj:l[j]? = some (h,k)):(cB l)[2*j]? = some (.int .i64 h)∧(cB l)[2*j+1]? = some (.int .u64 k):=by
 induction l generalizing j with
 | nil=>simp at hj
 | cons b r ih=>
  cases j with
  | zero=>simp at hj;subst hj;exact⟨rfl,rfl⟩
  | succ j=>
   have:=ih j (by simpa using hj)
   rw[show 2*(j+1)=2*j+1+1 by omega]
   simpa [cB] using this
abbrev Yp(w:World)(base:Nat)(v:Value)(l:List (Int×Nat)):Prop:=w.ownsRow base 131 2 v l.length (cB l)
abbrev Own(w:World)(base:Nat)(v:Value)(l:List Nat):Prop:=w.ownsRow base 31 1 v l.length (cU l)
def RdC(w:World)(u:Value)(m:Nat)(news:List Value):Prop :=
 ∃ao cap,u= .slice ao m cap∧(ao=none->m=0∧cap=0) ∧ ∀ad,ao=some ad -> ∀j c,news[j]? = some c->w.cell? (ad.add j)=some c
theorem Qdz{w:World}{B e size:Nat}{v:Value}{n:Nat}{xs:List Value}(h:w.ownsRow B e size v n xs):RdC w v n xs:=by
 have h0:=h;obtain⟨h1,h2⟩:=h
 rcases h2 with ⟨rfl,rfl⟩|⟨g,cap,cur,rfl,hg,hh,hc⟩
 ·exact⟨none,0,rfl,fun _=>⟨rfl,rfl⟩,fun ad h=>by cases h⟩
 ·exact⟨Zp g,cap,rfl,(fun h=>by cases h),fun ad h=>by cases h;exact h0.cells rfl⟩
theorem OT{w w':World}{u:Value}{m:Nat}{news:List Value}(h:RdC w u m news)(hb:Below w.heap.size w w'):RdC w' u m news:=by
 obtain⟨ao,cap,h1,h2,h3⟩:=h;exact⟨ao,cap,h1,h2,fun ad ha j c hj=>(hb.cell (Ll w _ (h3 ad ha j c hj))).trans (h3 ad ha j c hj)⟩
structure Ap(w w':World)(B e size:Nat)(v v':Value)(n:Nat)(xs:List Value):Prop where
 own:w'.ownsRow B e size v' n xs
 grown:w.grownBy w' v.ownBlock
 fresh:v'.ownBlock=v.ownBlock ∨ ∀g,v'.ownBlock=some g->w.heap.size<=g
theorem Yo(w:World){ops:Array Oper}{rest:List Oper}{o:Oper}{a:Act}{Q:Exit->Act->World->Prop}
  (hg:o.guard=none) (s x:Operand) (t:TypeId) (hop:o.op=Op.call { callee:=Callee.builtin Builtin.append,args:=#[s,x],argTypes:=#[t,t] })
  (B:Nat) (e:TypeId) (i:TypeInfo) (z:Value) (size bytes:Nat) (h1:prog.underlying t=some (.slice e)) (h2:prog.info? e=some i) (h3:i.zero=some z) (h4:i.size=size) (h5:i.bytes=bytes) (h6:z.cells.size=size) (h7:0<size)
  (v:Value) (n:Nat) (xs:List Value) (hs:a.eval s=v) (hown:w.ownsRow B e size v n xs) (u:Value) (m:Nat) (news:List Value) (hx:a.eval x=u) (hr:RdC w u m news) (hn:news.length=m*size) (h1c:∀u∈news,u.oneCell'=true)
  (b1:n+m<=maxLen) (b2:(n+m)*bytes<=140737488355328) (hB:B<=w.heap.size)
  (hK:∀v' w',Ap w w' B e size v v' (n+m) (xs++news)->wpList prog ops Q rest (a.put o.dst v') w'):wpList prog ops Q (o::rest) a w:=by
 obtain⟨ao,cap,rfl,hnone,hcells⟩:=hr
 cases ao with
 | none=>
  obtain⟨rfl,rfl⟩:=hnone rfl;have hnil:news=[]:=List.length_eq_zero_iff.1 (by rw[hn];omega)
  subst hnil;exact wpList_append_own_none hg s x _ hop B e i size h1 h2 v n xs hs hown hx (hK _ w ⟨by simpa using hown,World.grownBy.refl w _,.inl rfl⟩)
 | some ad=>
  have hown0:=hown;obtain⟨g1,g2⟩:=hown
  rcases g2 with ⟨rfl,rfl⟩|⟨g,cp,cur,rfl,hgb,hh,hc⟩
  ·have hxs:xs=[]:=List.length_eq_zero_iff.1 (by omega)
   subst hxs;refine wpList_append_own w hg s x _ hop w.heap.size e i z size bytes h1 h2 h3 h4 h5 h6 h7 _ 0 [] hs (Nj _ _ _ _) ad m cap news hx hn (hcells ad rfl) h1c b1 b2 (Lb _) ?_
   intro v' w' r1 r2 _;exact hK v' w' ⟨r1.mono hB,r2,.inr fun k hk=>(r1.lt k hk).1⟩
  ·by_cases hfit:n+m<=cp
   ·refine wpList_append_fits w hg s x _ hop B e i size h1 h2 h4 g n cp xs hs hown0 ad m cap news hx hn (hcells ad rfl) h1c hfit ?_
    intro w' r1 r2;exact hK _ w' ⟨r1,r2,.inl rfl⟩
   ·refine wpList_append_grows w hg s x _ hop e i z size bytes h1 h2 h3 h4 h5 h6 h7 (Zp g) n cp xs hs (fun h=>by cases h) g1 (fun b hb=>by cases hb;exact hown0.cells rfl) ad m cap news hx hn (hcells ad rfl) h1c (by omega) b1 b2 ?_
    intro v' w' r1 r2;exact hK v' w' ⟨r1.mono hB,⟨r2.os,r2.tape,r2.output,r2.size,fun k hk _=>r2.block k hk (by simp)⟩,.inr fun k hk=>(r1.lt k hk).1⟩
theorem Q7(w:World){ops:Array Oper}{rest:List Oper}{o:Oper}{a:Act}{Q:Exit->Act->World->Prop}
  (hg:o.guard=none) (s x:Operand) (hop:o.op=Op.call { callee:=Callee.builtin Builtin.append,args:=#[s,x],argTypes:=#[109,109] })
  (B:Nat) (v:Value) (L:List (Int×Nat)) (hs:a.eval s=v) (hown:Yp w B v L) (u:Value) (M:List (Int×Nat)) (hx:a.eval x=u) (hr:RdC w u M.length (cB M))
  (hlen:L.length+M.length<=1048576) (hB:B<=w.heap.size)
  (hK:∀v' w',Yp w' B v' (L++M)->w.grownBy w' v.ownBlock->(v'.ownBlock=v.ownBlock ∨ ∀g,v'.ownBlock=some g->w.heap.size<=g)->wpList prog ops Q rest (a.put o.dst v') w'):wpList prog ops Q (o::rest) a w:=by
 obtain⟨i0,hi,hz0,hz1,hz2⟩:=info_parts Tryz.infoB;refine Yo w hg s x _ hop B 131 i0 (.agg #[.int .i64 0,.int .u64 0]) 2 16 underlying109 hi hz0 hz1 hz2 rfl (by decide) v L.length (cB L) hs hown u M.length (cB M) hx hr (Qu M) (Qac M) (by unfold maxLen;omega) (by omega) hB ?_
 intro v' w' h;refine hK v' w' ?_ h.grown h.fresh
 rw[Yp,QcU,Lh];exact h.own
theorem UN(w:World)(h:Int)(k t:Nat):RdC (w.alloc (.cells #[.int .i64 h,.int .u64 k] t)) (.slice (Zp w.heap.size) 1 1) [(h,k)].length (cB [(h,k)]):=by
 refine⟨Zp w.heap.size,1,rfl,(fun h=>by cases h),fun ad ha j c hj=> ?_⟩
 cases ha
 match j,hj with
 | 0,hj=>simp[cB] at hj;subst hj;simp[Addr.add,World.cell?_alloc_at]
 | 1,hj=>simp[cB] at hj;subst hj;simp[Addr.add,World.cell?_alloc_at]
theorem Qcy{w w':World}{B e size n:Nat}{v:Value}{l:List Value}(h:w.ownsRow B e size v n l)(hb:Below w.heap.size w w'):w'.ownsRow B e size v n l:=by
 obtain⟨h1,h2⟩:=h;refine⟨h1,?_⟩
 rcases h2 with h2|⟨g,cap,cur,hv,hg,hh,h3⟩
 ·exact .inl h2
 ·exact .inr ⟨g,cap,cur,hv,hg,(hb.block g (by have:=(Array.getElem?_eq_some_iff.1 hh).1;exact this)).trans hh,h3⟩
theorem QbJ{B:Nat}{w wr w1:World}{v:Value}{e size n:Nat}{xs:List Value}(hB:Below B w wr)(hs:B<=wr.heap.size)(hown:wr.ownsRow B e size v n xs)(hg:wr.grownBy w1 v.ownBlock):Below B w w1∧B<=w1.heap.size:=by
 have h1:=hg.size;exact⟨hB.grown hg hs (fun j hj=>(hown.lt j hj).1),by omega⟩
theorem Qby(h:Nat)(w:World)(hh:h<64):Calls prog 213 #[.int .i64 h] w fun e w'=>e= .returned (.int .u64 (pw h:Nat))∧w=w':=by
 have hk0:(0:Int)<=(h:Int):=Lf _;have hk1:(h:Int)<64:=by omega
 have hk2:¬(h:Int)<0:=by omega
 obtain⟨p,hp⟩:∃p:Nat,pw h=p:=⟨_,rfl⟩;have e1:IntKind.u64.wrap ((2:Int)^h)=(p:Int):=by
  have h64:pw h<=pw 63:=OS (by omega)
  have e63:pw 63=2^63:=rfl;have e:((2:Int)^h)=(p:Int):=by rw[<-hp];simp[pw]
  rw[e,IntKind.wrap_u64];omega
 rw[hp];clear hp hh
 go_enter func213,ntmps213;go_wp2
 go_ret
 exact⟨rfl,rfl⟩
theorem QQ{w:World}{b:Nat}(o:Obj)(hb:b<w.heap.size):(w.alloc o).heap[b]? = w.heap[b]? := (World.grownBy_alloc w o none).block b hb (by simp)
theorem OO{w w':World}{B e size n:Nat}{v:Value}{xs:List Value}(h:w.ownsRow B e size v n xs)(hb:∀g,v.ownBlock=some g->w'.heap[g]? = w.heap[g]?):w'.ownsRow B e size v n xs:=by
 obtain⟨h1,h2⟩:=h;refine⟨h1,?_⟩
 rcases h2 with h2|⟨g,cap,cur,hv,hg,hh,h3⟩
 ·exact .inl h2
 ·subst hv;exact .inr ⟨g,cap,cur,rfl,hg,(hb g rfl).trans hh,h3⟩
theorem Qs{w:World}{B e size n:Nat}{v:Value}{xs:List Value}(h:w.ownsRow B e size v n xs):∃ao m c,v= .slice ao m c:=by
 rcases h.2 with ⟨rfl,_⟩|⟨g,cap,cur,rfl,_⟩
 ·exact⟨_,_,_,rfl⟩
 ·exact⟨_,_,_,rfl⟩
structure Give(k B0 M:Nat)(I:(Nat->Prop)->List (Nat×Nat)->World->Prop):Prop where
 give:∀X acc (h q:Nat) w,I X acc w->(∀x,X x->x<w.heap.size)->acc.length<M ->
  Calls prog k #[.agg #[.int .i64 h,.int .u64 q],Zv B0] w fun e w'=>e= .returned (.tuple #[])∧I X (acc++[(h,q)]) w'∧Below B0 w w' ∧ ∀x,X x->w'.heap[x]? = w.heap[x]?
 stay:∀X X' acc w w',I X acc w->(∀b,b<w.heap.size -> ¬X b->w'.heap[b]? = w.heap[b]?)->(∀x,X' x->X x∨w.heap.size<=x)->I X' acc w'
 lt:∀X acc w,I X acc w->B0<w.heap.size
structure IA(B0:Nat)(X:Nat->Prop)(acc:List (Nat×Nat))(w:World):Prop where
 ex:∃v,w.heap[B0]? = some (.cells #[v] 109 (0,0))∧Yp w (B0+1) v (zl acc) ∧ ∀g,v.ownBlock=some g -> ¬X g
 nx:¬X B0
theorem QgO(B0:Nat)(X X':Nat->Prop)(acc:List (Nat×Nat))(w w':World)(h:IA B0 X acc w)(hb:∀b,b<w.heap.size -> ¬X b->w'.heap[b]? = w.heap[b]?)(hx:∀x,X' x->X x∨w.heap.size<=x):IA B0 X' acc w':=by
 obtain⟨⟨v,h1,h2,h3⟩,h4⟩:=h;have hlt:B0<w.heap.size:=(Array.getElem?_eq_some_iff.1 h1).1
 refine⟨⟨v,(hb B0 hlt h4).trans h1,OO h2 (fun g hg=>hb g (h2.lt g hg).2 (h3 g hg)),fun g hg hxg=> ?_⟩,fun hx0=> ?_⟩
 ·rcases hx g hxg with h|h
  ·exact h3 g hg h
  ·have:=(h2.lt g hg).2;omega
 ·rcases hx B0 hx0 with h|h
  ·exact h4 h
  ·omega
theorem QnI(B0:Nat)(X:Nat->Prop)(acc:List (Nat×Nat))(w:World)(h:IA B0 X acc w):B0<w.heap.size:=by
 obtain⟨⟨v,h1,h2,h3⟩,h4⟩:=h;exact(Array.getElem?_eq_some_iff.1 h1).1
theorem Qer{B0 h q:Nat}{X:Nat->Prop}{acc:List (Nat×Nat)}{w w1:World}{v v':Value}{o1 o2:Obj}(h1:w.heap[B0]? = some (.cells #[v] 109 (0,0)))(h2:Yp w (B0+1) v (zl acc))(h3:∀g,v.ownBlock=some g -> ¬X g)(h4:¬X B0)(hX:∀x,X x->x<w.heap.size)
  (hown:Yp w1 (B0+1) v' (zl acc++[((h:Int),q)])) (hg:((w.alloc o1).alloc o2).grownBy w1 v.ownBlock) (hf:v'.ownBlock=v.ownBlock ∨ ∀g,v'.ownBlock=some g->w.heap.size+1+1<=g) :
  IA B0 X (acc++[(h,q)]) (w1.setCell ⟨B0,0,none⟩ v')∧Below B0 w (w1.setCell ⟨B0,0,none⟩ v') ∧ ∀x,X x->(w1.setCell ⟨B0,0,none⟩ v').heap[x]? = w.heap[x]? := by
 have hlt:B0<w.heap.size:=(Array.getElem?_eq_some_iff.1 h1).1
 have hbl:∀b,b<w.heap.size->some b≠v.ownBlock->w1.heap[b]? = w.heap[b]? := fun b hb hne=>by
  rw[hg.block b (by simp;omega) hne,QQ _ (by simp;omega),QQ _ hb]
 have hne0:some B0≠v.ownBlock:=fun e=>by have:=(h2.lt B0 e.symm).1;omega
 have c1:w1.heap[B0]? = some (.cells #[v] 109 (0,0)):=(hbl B0 hlt hne0).trans h1;have hoth:∀b,b≠B0->(w1.setCell ⟨B0,0,none⟩ v').heap[b]? = w1.heap[b]? := fun b hb=>Below.heap_setCell _ _ _ _ hb
 refine⟨⟨⟨v',one_setCell c1,?_,?_⟩,h4⟩,?_,?_⟩
 ·rw[Qav,Qpm];exact OO hown (fun g hgg=>hoth g (by have:=(hown.lt g hgg).1;omega))
 ·intro g hgg hxg
  rcases hf with hf|hf
  ·exact h3 g (hf ▸ hgg) hxg
  ·have:=hf g hgg;have:=hX g hxg;simp at *;omega
 ·have b1:Below B0 w w1:=by
   have:=((Lc B0 w).alloc (by omega) o1).alloc (by simp;omega) o2
   exact this.grown hg (by simp;omega) (fun j hj=>by have:=(h2.lt j hj).1;omega)
  exact b1.setCell (Lb _) _
 ·intro x hx;have hne:x≠B0:=fun e=>h4 (e ▸ hx)
  rw[hoth x hne];exact hbl x (hX x hx) (fun e=>h3 x e.symm hx)
theorem QfC(B0:Nat):Give 151 B0 1000000 (IA B0):=by
 refine⟨fun X acc h q w hI hX hl=> ?_,QgO B0,QnI B0⟩
 obtain⟨⟨v,h1,h2,h3⟩,h4⟩:=hI;have hlt:B0<w.heap.size:=(Array.getElem?_eq_some_iff.1 h1).1
 have cV:=cell_of_one h1;have HH:Hid (w.heap[B0]? = some (.cells #[v] 109 (0,0))∧Yp w (B0+1) v (zl acc)∧(∀g,v.ownBlock=some g -> ¬X g) ∧ ¬X B0∧(∀x,X x->x<w.heap.size)∧acc.length<1000000):=⟨h1,h2,h3,h4,hX,hl⟩;have hne:¬B0=w.heap.size:=by omega
 have hle:B0+1<=w.heap.size:=hlt;have cV1:∀o:Obj,(w.alloc o).cell? ⟨B0,0,none⟩=some v:=fun o=>(Lq (QQ o hlt)).trans cV
 clear h1 h3 h4 hX hl hlt cV;have hle2:B0+1<=w.heap.size+1+1:=by omega
 have hown2:=fun(o1 o2:Obj)=>(h2.alloc o1).alloc o2
 clear h2
 go_enter func151,ntmps151
 go_wp2_with (at_builtin;refine Q7 _ rfl _ _ rfl (B0+1) v (zl acc) rfl (hown2 _ _) (.slice (some ⟨w.heap.size+1,0,none⟩) 1 1) [((h:Int),q)] rfl ?c1 ?c2 ?c3 ?_)
 case c1=>have:=UN (w.alloc (.cells #[.int .i64 h,.int .u64 q] 131)) h q 131;rw[LK] at this;exact this
 case c2=>have:=HH.out.2.2.2.2.2;simp[Yd];omega
 case c3=>simp;omega
 intro v' w1 r1 r2 r3;obtain⟨ao,n1,cp1,rfl⟩:=Qs r1;have R:=Qer HH.out.1 HH.out.2.1 HH.out.2.2.1 HH.out.2.2.2.1 HH.out.2.2.2.2.1 r1 r2 r3;have c1:w1.heap[B0]? = some (.cells #[v] 109 (0,0)):=by
  rw[r2.block B0 (by simp;omega) (fun e=>by have:=(HH.out.2.1.lt B0 e.symm).1;omega),QQ _ (by simp;omega),QQ _ (by omega)];exact HH.out.1
 have cW:=cell_of_one c1;have fW:=free_of_one c1;clear r1 r2 r3 c1 cV1;go_wp2
 go_end0
 exact⟨rfl,R⟩
theorem QhL(B0:Nat):Give 173 B0 1000000 (IA B0):=by
 refine⟨fun X acc h q w hI hX hl=> ?_,QgO B0,QnI B0⟩
 obtain⟨⟨v,h1,h2,h3⟩,h4⟩:=hI;have hlt:B0<w.heap.size:=(Array.getElem?_eq_some_iff.1 h1).1
 have cV:=cell_of_one h1;have HH:Hid (w.heap[B0]? = some (.cells #[v] 109 (0,0))∧Yp w (B0+1) v (zl acc)∧(∀g,v.ownBlock=some g -> ¬X g) ∧ ¬X B0∧(∀x,X x->x<w.heap.size)∧acc.length<1000000):=⟨h1,h2,h3,h4,hX,hl⟩;have hne:¬B0=w.heap.size:=by omega
 have hle:B0+1<=w.heap.size:=hlt;have cV1:∀o:Obj,(w.alloc o).cell? ⟨B0,0,none⟩=some v:=fun o=>(Lq (QQ o hlt)).trans cV
 clear h1 h3 h4 hX hl hlt cV;have hle2:B0+1<=w.heap.size+1+1:=by omega
 have hown2:=fun(o1 o2:Obj)=>(h2.alloc o1).alloc o2
 clear h2
 go_enter func173,ntmps173
 go_wp2_with (at_builtin;refine Q7 _ rfl _ _ rfl (B0+1) v (zl acc) rfl (hown2 _ _) (.slice (some ⟨w.heap.size+1,0,none⟩) 1 1) [((h:Int),q)] rfl ?c1 ?c2 ?c3 ?_)
 case c1=>have:=UN (w.alloc (.cells #[.int .i64 h,.int .u64 q] 131)) h q 131;rw[LK] at this;exact this
 case c2=>have:=HH.out.2.2.2.2.2;simp[Yd];omega
 case c3=>simp;omega
 intro v' w1 r1 r2 r3;obtain⟨ao,n1,cp1,rfl⟩:=Qs r1;have R:=Qer HH.out.1 HH.out.2.1 HH.out.2.2.1 HH.out.2.2.2.1 HH.out.2.2.2.2.1 r1 r2 r3;have c1:w1.heap[B0]? = some (.cells #[v] 109 (0,0)):=by
  rw[r2.block B0 (by simp;omega) (fun e=>by have:=(HH.out.2.1.lt B0 e.symm).1;omega),QQ _ (by simp;omega),QQ _ (by omega)];exact HH.out.1
 have cW:=cell_of_one c1;have fW:=free_of_one c1;clear r1 r2 r3 c1 cV1;go_wp2
 go_end0
 exact⟨rfl,R⟩
structure IC(B0:Nat)(X:Nat->Prop)(acc:List (Nat×Nat))(w:World):Prop where
 at0:w.heap[B0]? = some (.cells #[.int .u64 acc.length] 31 (0,0))
 nx:¬X B0
theorem QfB(B0:Nat):Give 217 B0 4611686018427387904 (IC B0):=by
 refine⟨fun X acc h q w hI hX hl=> ?_,fun X X' acc w w' hI hb hx=> ?_,fun X acc w hI=>(Array.getElem?_eq_some_iff.1 hI.at0).1⟩
 ·obtain⟨h1,h4⟩:=hI;have hlt:B0<w.heap.size:=(Array.getElem?_eq_some_iff.1 h1).1
  have cV:=cell_of_one h1;have fV:=free_of_one h1;have cV1:∀o:Obj,(w.alloc o).cell? ⟨B0,0,none⟩=some (.int .u64 acc.length):=fun o=>(Lq (QQ o hlt)).trans cV
  have fV1:∀o:Obj,(w.alloc o).frozen? ⟨B0,0,none⟩=false:=fun o=>(N7 (QQ o hlt)).trans fV
  have HH:Hid (w.heap[B0]? = some (.cells #[.int .u64 acc.length] 31 (0,0)) ∧ ¬X B0∧(∀x,X x->x<w.heap.size)∧B0<w.heap.size):=⟨h1,h4,hX,hlt⟩;have e1:IntKind.u64.wrap ((acc.length:Int)+1)=((acc.length+1:Nat):Int):=by rw[IntKind.wrap_u64];omega
  have hne:¬B0=w.heap.size:=by omega
  clear h1 h4 hX hlt cV fV hl
  go_enter func217,ntmps217;go_wp2
  go_end0
  obtain⟨h1,h4,hX,hlt⟩:=HH.out;refine⟨rfl,?_⟩
  have e2:((acc.length:Int)+1)=((acc.length+1:Nat):Int):=by omega
  have h1':∀o:Obj,(w.alloc o).heap[B0]? = some (.cells #[.int .u64 acc.length] 31 (0,0)):=fun o=>(QQ o hlt).trans h1
  have key:∀o:Obj,((w.alloc o).setCell ⟨B0,0,none⟩ (.int .u64 ((acc.length:Int)+1))).heap[B0]? = some (.cells #[.int .u64 ((acc.length+1:Nat):Int)] 31 (0,0)):=fun o=>by
   rw[e2];exact one_setCell (h1' o)
  have hoth:∀(o:Obj) b,b<w.heap.size->b≠B0->((w.alloc o).setCell ⟨B0,0,none⟩ (.int .u64 ((acc.length:Int)+1))).heap[b]? = w.heap[b]? := fun o b hb hne=>by
   rw[Below.heap_setCell _ _ _ _ hne];exact QQ o hb
  refine⟨⟨?_,h4⟩,?_,fun x hx=>hoth _ x (hX x hx) (fun e=>h4 (e ▸ hx))⟩
  ·rw[Lh];exact key _
  ·exact((Lc B0 w).alloc (by omega) _).setCell (Lb B0) _
 ·have hlt:=(Array.getElem?_eq_some_iff.1 hI.at0).1
  refine⟨(hb B0 hlt hI.nx).trans hI.at0,fun hx0=> ?_⟩
  rcases hx B0 hx0 with h|h
  ·exact hI.nx h
  ·omega
abbrev gv(k B0:Nat):Value := .func (.func k) #[] #[Zv B0]
theorem UR{k B0 M:Nat}(hk:k=151∨k=173∨k=217){I:(Nat->Prop)->List (Nat×Nat)->World->Prop}(G:Give k B0 M I)(c:Nat)(X:Nat->Prop)(acc:List (Nat×Nat))(h lo:Nat)(w:World)
  (hI:I X acc w) (hX:∀x,X x->x<w.heap.size) (hl:acc.length<M) (x0:X c) (x1:X (c+1)) (hc:B0<c)
  (c0:w.heap[c]? = some (.cells #[.int .u64 lo] 31 (0,0))) (c1:w.heap[c+1]? = some (.cells #[gv k B0] 224 (0,0))) (hh:h<41) (hlo:lo<=2^40) :
  Calls prog 212 #[.int .i64 h,.pointer (some ⟨c+1,0,none⟩),Zv c] w fun e w'=>e= .returned (.tuple #[])∧I X (acc++[(h,lo/pw h)]) w'∧Below B0 w w' ∧
   w'.heap[c]? = some (.cells #[.int .u64 ((lo+pw h:Nat):Int)] 31 (0,0)) ∧ ∀x,X x->x≠c->w'.heap[x]? = w.heap[x]? := by
 have d0:=cell_of_one c0;have d1:=cell_of_one c1;obtain⟨q,hq⟩:∃q,lo/pw h=q:=⟨_,rfl⟩;have eq:(lo:Int)/2^h=(q:Int):=by rw[<-hq];simp[pw]
 have HG:Calls prog k #[.agg #[.int .i64 h,.int .u64 q],Zv B0] w.drew fun e w'=>e= .returned (.tuple #[])∧I X (acc++[(h,q)]) w'∧Below B0 w w' ∧ ∀x,X x->w'.heap[x]? = w.heap[x]? :=
  (G.give X acc h q w.drew (G.stay X X acc w w.drew hI (fun _ _ _=>rfl) (fun x hx=> .inl hx)) hX hl).mono fun e w' r=>⟨r.1,r.2.1,⟨r.2.2.1.os,r.2.2.1.tape,r.2.2.1.output,r.2.2.1.size,r.2.2.1.block⟩,r.2.2.2⟩
 have HL:=fun w'=>Qby h w' (by omega)
 have hp:pw h<=pw 40:=OS (by omega)
 have e40:pw 40=2^40:=rfl;rw[hq];obtain⟨p,hpp⟩:∃p,pw h=p:=⟨_,rfl⟩;rw[hpp] at hp ⊢;simp only[hpp] at HL;have es:IntKind.u64.wrap ((lo:Int)+(p:Int))=((lo+p:Nat):Int):=by rw[IntKind.wrap_u64];omega
 have hk0:(0:Int)<=(h:Int):=Lf _;have hk1:(h:Int)<64:=by omega
 have hk2:¬(h:Int)<0:=by omega
 have HH:Hid (I X acc w∧(∀x,X x->x<w.heap.size)∧X c∧X (c+1)∧B0<c∧w.heap[c]? = some (.cells #[.int .u64 lo] 31 (0,0))):=⟨hI,hX,x0,x1,hc,c0⟩;clear hI hX hl x0 x1 hc c0 c1 hh hlo hq hp e40 hpp
 rcases hk with rfl|rfl|rfl
 all_goals
  go_enter func212,ntmps212;go_wp2
  go_region_with (with_reducible refine HG.mono ?_;rintro e w1 ⟨rfl,hI1,hb1,hx1⟩)
  all_goals
   have c0':w1.heap[c]? = some (.cells #[.int .u64 lo] 31 (0,0)):=(hx1 c HH.out.2.2.1).trans HH.out.2.2.2.2.2;have k0:=cell_of_one c0';have k1:=free_of_one c0';have R:∀W:World,W.heap=(w1.setCell ⟨c,0,none⟩ (.int .u64 ((lo+p:Nat):Int))).heap->Below B0 w W->I X (acc++[(h,q)]) W∧Below B0 w W ∧
     W.heap[c]? = some (.cells #[.int .u64 ((lo+p:Nat):Int)] 31 (0,0)) ∧ ∀x,X x->x≠c->W.heap[x]? = w.heap[x]? := fun W hW hbW=>by
    refine⟨G.stay X X _ w1 W hI1 (fun b hb hnx=> ?_) (fun x hx=> .inl hx),hbW,?_,fun x hx hne=> ?_⟩
    ·rw[hW];exact Below.heap_setCell _ _ _ _ (fun e=>hnx (e ▸ HH.out.2.2.1))
    ·rw[hW];exact one_setCell c0'
    ·rw[hW];exact(Below.heap_setCell _ _ _ _ hne).trans (hx1 x hx)
   have hbs:Below B0 w (w1.setCell ⟨c,0,none⟩ (.int .u64 ((lo+p:Nat):Int))):=hb1.setCell (I8 HH.out.2.2.2.2.1) _;clear c0' hI1 hb1 hx1 d0 d1 HG;go_wp2
   go_region_with (go_at_call 213;with_reducible refine(HL _).mono ?_;rintro e w2 ⟨rfl,rfl⟩)
   all_goals
    go_wp2
    go_end0
    exact⟨rfl,R _ rfl ⟨hbs.os,hbs.tape,hbs.output,hbs.size,hbs.block⟩⟩
theorem Qaz(h:Nat)(w:World)(hh:h<64):Calls prog 213 #[.int .i64 h] w fun e w'=>e= .returned (.int .u64 (pw h:Nat))∧w'=w:=(Qby h w hh).mono fun _ _ r=>⟨r.1,r.2.symm⟩
theorem bit1(m:Nat)(hm:m<18446744073709551616):(bits BinOp.and IntKind.u64 (m:Int) 1 == 1)=decide (m%2=1):=by
 have:=bits_and_u64_nat m 1 hm (by decide)
 rw[show(1:Int)=((1:Nat):Int) from rfl,this,IN]
 by_cases h:m%2=1
 ·simp[h]
 ·have:m%2=0:=by omega
  simp[this]
theorem OB(w:World)(o:Obj):(w.alloc o).heap[w.heap.size]? = some o:=by
 show(w.heap.push o)[w.heap.size]? = _
 simp
structure Ev(k B0 c:Nat)(I:(Nat->Prop)->List (Nat×Nat)->World->Prop)(X:Nat->Prop)(w0:World)(acc:List (Nat×Nat))(lo:Nat)(wr:World):Prop where
 inv:I (fun x=>X x∨x=c∨x=c+1) acc wr
 lt:∀x,(X x∨x=c∨x=c+1)->x<wr.heap.size
 c0:wr.heap[c]? = some (.cells #[.int .u64 lo] 31 (0,0))
 c1:wr.heap[c+1]? = some (.cells #[gv k B0] 224 (0,0))
 below:Below B0 w0 wr
 keep:∀x,X x->x≠c∧x≠c+1∧wr.heap[x]? = w0.heap[x]?
 bc:B0<c
theorem Ev.drewN{k B0 c M:Nat}{I:(Nat->Prop)->List (Nat×Nat)->World->Prop}{X:Nat->Prop}{w0 wr:World}{acc:List (Nat×Nat)}{lo:Nat}(G:Give k B0 M I)(h:Ev k B0 c I X w0 acc lo wr)(n:Nat):Ev k B0 c I X w0 acc lo (wr.drewN n) :=
 ⟨G.stay _ _ _ wr _ h.inv (fun _ _ _=>rfl) (fun _ hx=> .inl hx),h.lt,h.c0,h.c1,Qi h.below n,h.keep,h.bc⟩
theorem Ev.take{k B0 c M:Nat}(hk:k=151∨k=173∨k=217){I:(Nat->Prop)->List (Nat×Nat)->World->Prop}{X:Nat->Prop}{w0 wr:World}{acc:List (Nat×Nat)}{lo:Nat}(G:Give k B0 M I)(h:Ev k B0 c I X w0 acc lo wr)(hl:acc.length<M)(j:Nat)(hj:j<41)(hlo:lo<=2^40) :
  Calls prog 212 #[.int .i64 j,.pointer (some ⟨c+1,0,none⟩),Zv c] wr fun e w'=>e= .returned (.tuple #[])∧Ev k B0 c I X w0 (acc++[(j,lo/pw j)]) (lo+pw j) w':=by
 refine(UR hk G c _ acc j lo wr h.inv h.lt hl (.inr (.inl rfl)) (.inr (.inr rfl)) h.bc h.c0 h.c1 hj hlo).mono ?_
 rintro e w' ⟨rfl,r1,r2,r3,r4⟩;refine⟨rfl,r1,fun x hx=>LL (h.lt x hx) r2.size,r3,(r4 (c+1) (.inr (.inr rfl)) (by omega)).trans h.c1,h.below.trans r2,fun x hx=> ?_,h.bc⟩
 obtain⟨a1,a2,a3⟩:=h.keep x hx;exact⟨a1,a2,(r4 x (.inl hx) a1).trans a3⟩
theorem Qjg{k B0 M:Nat}{I:(Nat->Prop)->List (Nat×Nat)->World->Prop}{X:Nat->Prop}{w:World}{acc:List (Nat×Nat)}(G:Give k B0 M I)(lo:Nat)(hI:I X acc w)(hX:∀x,X x->x<w.heap.size) :
  Ev k B0 w.heap.size I X w acc lo ((w.alloc (.cells #[.int .u64 lo] 31)).alloc (.cells #[gv k B0] 224)):=by
 have hlt:=G.lt X acc w hI;have hh:∀b,b<w.heap.size->((w.alloc (.cells #[.int .u64 lo] 31)).alloc (.cells #[gv k B0] 224)).heap[b]? = w.heap[b]? := fun b hb=>by
  rw[QQ _ (by simp;omega),QQ _ hb]
 refine⟨G.stay X _ acc w _ hI (fun b hb _=>hh b hb) (fun x hx=> ?_),fun x hx=> ?_,?_,?_,?_,fun x hx=> ?_,hlt⟩
 ·rcases hx with hx|hx|hx
  ·exact .inl hx
  ·exact .inr (by omega)
  ·exact .inr (by omega)
 ·have:∀x,X x->x<w.heap.size:=hX
  rcases hx with hx|hx|hx
  ·have:=hX x hx;simp;omega
  ·simp;omega
  ·simp;omega
 ·rw[QQ _ (by simp)];exact OB _ _
 ·have:=OB (w.alloc (.cells #[.int .u64 lo] 31)) (.cells #[gv k B0] 224);rw[LK] at this;exact this
 ·exact((Lc B0 w).alloc (by omega) _).alloc (by simp;omega) _
 ·have:=hX x hx;exact⟨by omega,by omega,hh x this⟩
theorem Qpe{f h lo hi:Nat}(h1:pw h<=hi-lo)(h2:lo/pw h%2=1):upL (f+1) h lo hi=(h,lo/pw h)::upL f (h+1) (lo+pw h) hi:=by rw[upL,Lo h1,Lo h2]
theorem Qnr{f h lo hi:Nat}(h1:pw h<=hi-lo)(h2:¬lo/pw h%2=1):upL (f+1) h lo hi=upL f (h+1) lo hi:=by rw[upL,Lo h1,Le h2]
theorem Qpc{f h lo hi:Nat}(h1:¬pw h<=hi-lo):upL (f+1) h lo hi=dnL (h+1) lo hi:=by rw[upL,Le h1]
theorem Qol{h lo hi:Nat}(h1:pw h<=hi-lo):dnL (h+1) lo hi=(h,lo/pw h)::dnL h (lo+pw h) hi:=by rw[dnL,Lo h1]
theorem Qpw{h lo hi:Nat}(h1:¬pw h<=hi-lo):dnL (h+1) lo hi=dnL h lo hi:=by rw[dnL,Le h1]
theorem QlU{k B0 c M:Nat}{I:(Nat->Prop)->List (Nat×Nat)->World->Prop}{X:Nat->Prop}{w0 wr:World}{acc:List (Nat×Nat)}{lo:Nat}(G:Give k B0 M I)(h:Ev k B0 c I X w0 acc lo wr):I X acc wr∧Below B0 w0 wr ∧ ∀x,X x->wr.heap[x]? = w0.heap[x]? :=
 ⟨G.stay _ X acc wr wr h.inv (fun _ _ _=>rfl) (fun _ hx=> .inl (.inl hx)),h.below,fun x hx=>(h.keep x hx).2.2⟩
theorem Qbi{k B0 M:Nat}(hk:k=151∨k=173∨k=217){I:(Nat->Prop)->List (Nat×Nat)->World->Prop}(G:Give k B0 M I)(X:Nat->Prop)(acc:List (Nat×Nat))(lo hi:Nat)(w:World)
  (hI:I X acc w) (hX:∀x,X x->x<w.heap.size) (hl:acc.length+1000<M) (h1:lo<=hi) (h2:hi<=2^40) :
  Calls prog 150 #[.int .u64 lo,.int .u64 hi,gv k B0] w fun e w'=>e= .returned (.tuple #[])∧I X (acc++cov lo hi) w'∧Below B0 w w' ∧ ∀x,X x->w'.heap[x]? = w.heap[x]? := by
 have HS:Hid (Ev k B0 w.heap.size I X w acc lo ((w.alloc (.cells #[.int .u64 lo] 31)).alloc (.cells #[gv k B0] 224))∧lo<=hi∧hi<=2^40∧acc.length+1000<M):=⟨Qjg G lo hI hX,h1,h2,hl⟩;clear hI hX hl h1 h2
 go_enter func150,ntmps150;go_wp2
 go_loopg [7] 42 (fun g h wr=> ∃(j lo':Nat) (acc':List (Nat×Nat)),j<=41∧g=42-j∧h= .int .i64 j∧Ev k B0 w.heap.size I X w acc' lo' wr∧acc'++upL (42-j) j lo' hi=acc++cov lo hi∧lo'<=hi∧acc'.length<=acc.length+j)
 case atStart=>go_light;exact⟨0,lo,acc,by decide,rfl,rfl,HS.out.1,rfl,HS.out.2.1,Lb _⟩
 case round=>
  obtain⟨j,lo',acc',hj,rfl,rfl,HE,hacc,hlo,hlen⟩:=hrel;obtain⟨_,hlh,hhi,hl⟩:=HS.out;have hj0:(0:Int)<=(j:Int):=Lf _;have hj1:(j:Int)<64:=by omega
  have hj2:¬(j:Int)<0:=by omega
  have k0:=cell_of_one HE.c0;have HL:=fun w'=>Qaz j w' (by omega)
  obtain⟨p,hp⟩:∃p,pw j=p:=⟨_,rfl⟩;simp only[hp] at HL;obtain⟨d,hd⟩:∃d,hi-lo'=d:=⟨_,rfl⟩;have ed:IntKind.u64.wrap ((hi:Int)-(lo':Int))=(d:Int):=by rw[IntKind.wrap_u64];omega
  by_cases hfit:p<=d
  ·have hfi:(p:Int)<=(d:Int):=by omega
   have hj40:j<=40:=pw40 (by rw[hp];omega)
   obtain⟨q,hq⟩:∃q,lo'/pw j=q:=⟨_,rfl⟩;have eq:(lo':Int)/2^j=(q:Int):=by rw[<-hq];simp[pw]
   have HE':=HE.drewN G
   by_cases hodd:q%2=1
   ·have hbit:(bits BinOp.and IntKind.u64 (q:Int) 1 == 1)=true:=by rw[bit1 q (by rw[<-hq];exact Ib (NI _ _) (by omega))];exact LS hodd
    have HT:=fun n=>(HE' n).take hk G (by omega) j (by omega) (by omega)
    have hu:upL (42-j) j lo' hi=(j,lo'/pw j)::upL (42-(j+1)) (j+1) (lo'+pw j) hi:=by
     rw[show 42-j=(42-(j+1))+1 by omega];exact Qpe (by omega) (by rw[hq];exact hodd)
    have HX:Hid (acc'++[(j,lo'/pw j)]++upL (42-(j+1)) (j+1) (lo'+pw j) hi=acc++cov lo hi∧lo'+pw j<=hi∧(acc'++[(j,lo'/pw j)]).length<=acc.length+(j+1)∧j+1<=41):=by
     refine⟨?_,by omega,by simp;omega,by omega⟩
     rw[LP,<-hacc,hu];rfl
    have HN:Hid (hi-lo'=d∧pw j=p):=⟨hd,hp⟩;clear hacc hlo hlen hd hp hq hodd hu hlh hhi hl HE HE' hfit hj hj40;go_wp2
    go_quiet ((go_at_call 213;refine Calls.quiet_of_same (HL _)))
    go_wp2_with (go_at_call 212;with_reducible refine(HT _).mono ?_;rintro e w1 ⟨rfl,HE1⟩)
    go_roundg (42-(j+1))
    case rel=>go_light;obtain⟨x1,x2,x3,x4⟩:=HX.out;exact⟨j+1,_,_,x4,rfl,by go_num,HE1,x1,x2,x3⟩
    case measure=>go_light;have:=HX.out.2.2.2;omega
   ·have hbit:(bits BinOp.and IntKind.u64 (q:Int) 1 == 1)=false:=by rw[bit1 q (by rw[<-hq];exact Ib (NI _ _) (by omega))];exact LC hodd
    have hu:upL (42-j) j lo' hi=upL (42-(j+1)) (j+1) lo' hi:=by
     rw[show 42-j=(42-(j+1))+1 by omega];exact Qnr (by omega) (by rw[hq];exact hodd)
    have HX:Hid (acc'++upL (42-(j+1)) (j+1) lo' hi=acc++cov lo hi∧lo'<=hi∧acc'.length<=acc.length+(j+1)∧j+1<=41 ∧ ∀n,Ev k B0 w.heap.size I X w acc' lo' (wr.drewN n)):=by
     refine⟨?_,hlo,by omega,by omega,HE'⟩
     rw[<-hacc,hu]
    clear hacc hlo hlen hd hp hq hodd hu hlh hhi hl HE HE' hfit hj hj40;go_wp2
    go_quiet ((go_at_call 213;refine Calls.quiet_of_same (HL _)))
    go_wp2
    go_roundg (42-(j+1))
    case rel=>go_light;obtain⟨x1,x2,x3,x4,x5⟩:=HX.out;exact⟨j+1,_,_,x4,rfl,by go_num,x5 _,x1,x2,x3⟩
    case measure=>go_light;have:=HX.out.2.2.2.1;omega
  ·have hfi:¬(p:Int)<=(d:Int):=by omega
   have hu:upL (42-j) j lo' hi=dnL (j+1) lo' hi:=by
    rw[show 42-j=(41-j)+1 by omega];exact Qpc (by omega)
   rw[hu] at hacc;have HX:Hid (acc'++dnL (j+1) lo' hi=acc++cov lo hi∧lo'<=hi∧acc'.length<=acc.length+41∧j<=41∧hi<=2^40∧acc.length+1000<M ∧ ∀n,Ev k B0 w.heap.size I X w acc' lo' (wr.drewN n)):=⟨hacc,hlo,by omega,hj,hhi,hl,HE.drewN G⟩
   clear hacc hlo hlen hd hp hu hlh hhi hl HE hj;go_wp2
   go_quiet ((go_at_call 213;refine Calls.quiet_of_same (HL _)))
   go_wp2;clear HL k0 ed hfi hfit
   go_loopg [7] 42 (fun g h wr2=> ∃(m lo2:Nat) (acc2:List (Nat×Nat)),m<=42∧m<=g∧h= .int .i64 ((m:Int)-1)∧Ev k B0 w.heap.size I X w acc2 lo2 wr2∧acc2++dnL m lo2 hi=acc++cov lo hi∧lo2<=hi∧acc2.length+m<=acc.length+100)
   case atStart=>go_light;obtain⟨x1,x2,x3,x4,x5,x6,x7⟩:=HX.out;exact⟨j+1,lo',acc',by omega,by omega,by congr 1;omega,x7 _,x1,x2,by omega⟩
   case round=>
    obtain⟨m,lo2,acc2,hm,hmg,rfl,HE2,hacc2,hlo2,hlen2⟩:=hrel;obtain⟨_,_,_,_,hhi,hl,_⟩:=HX.out
    by_cases hm0:m=0
    ·subst hm0;have ht:¬(0:Int)<=((0:Nat):Int)-1:=by omega
     have HF:Hid (I X (acc++cov lo hi) wr∧Below B0 w wr ∧ ∀x,X x->wr.heap[x]? = w.heap[x]?):=by
      have e:acc2=acc++cov lo hi:=by rw[<-hacc2];simp[dnL]
      rw[<-e];exact QlU G HE2
     clear hacc2 HE2 hlo2 hlen2 hm;go_wp2
     go_end0
     exact⟨rfl,HF.out⟩
    ·obtain⟨i,rfl⟩:∃i,m=i+1:=⟨m-1,by omega⟩
     have ei:(((i+1:Nat):Int)-1)=(i:Int):=by omega
     rw[ei];have hi0:(0:Int)<=(i:Int):=Lf _;have hi1:(i:Int)<64:=by omega
     have hi2:¬(i:Int)<0:=by omega
     have k0:=cell_of_one HE2.c0;have HL:=fun w'=>Qaz i w' (by omega)
     obtain⟨p2,hp2⟩:∃p2,pw i=p2:=⟨_,rfl⟩;simp only[hp2] at HL;obtain⟨d2,hd2⟩:∃d2,hi-lo2=d2:=⟨_,rfl⟩;have ed:IntKind.u64.wrap ((hi:Int)-(lo2:Int))=(d2:Int):=by rw[IntKind.wrap_u64];omega
     by_cases hfit:p2<=d2
     ·have hfi:(p2:Int)<=(d2:Int):=by omega
      have hi40:i<=40:=pw40 (by rw[hp2];omega)
      have HT:=fun n=>(HE2.drewN G n).take hk G (by omega) i (by omega) (by omega)
      have hu:=Qol (h:=i) (lo:=lo2) (hi:=hi) (by omega)
      have HY:Hid (acc2++[(i,lo2/pw i)]++dnL i (lo2+pw i) hi=acc++cov lo hi∧lo2+pw i<=hi∧(acc2++[(i,lo2/pw i)]).length+i<=acc.length+100∧i<=42):=by
       refine⟨?_,by omega,by simp;omega,by omega⟩
       rw[LP,<-hacc2,hu];rfl
      clear hacc2 hlo2 hlen2 hd2 hp2 hu hhi hl HE2 hfit hm hi40 hm0;go_wp2
      go_quiet ((go_at_call 213;refine Calls.quiet_of_same (HL _)))
      go_wp2_with (go_at_call 212;with_reducible refine(HT _).mono ?_;rintro e w1 ⟨rfl,HE1⟩)
      go_roundg i
      case rel=>go_light;obtain⟨x1,x2,x3,x4⟩:=HY.out;exact⟨i,_,_,x4,Lb _,by go_num,HE1,x1,x2,x3⟩
      case measure=>go_light;omega
     ·have hfi:¬(p2:Int)<=(d2:Int):=by omega
      have hu:=Qpw (h:=i) (lo:=lo2) (hi:=hi) (by omega)
      rw[hu] at hacc2;have HY:Hid (acc2++dnL i lo2 hi=acc++cov lo hi∧lo2<=hi∧acc2.length+i<=acc.length+100∧i<=42 ∧ ∀n,Ev k B0 w.heap.size I X w acc2 lo2 (wr.drewN n)):=⟨hacc2,hlo2,by omega,by omega,HE2.drewN G⟩
      clear hacc2 hlo2 hlen2 hd2 hp2 hu hhi hl HE2 hm hm0;go_wp2
      go_quiet ((go_at_call 213;refine Calls.quiet_of_same (HL _)))
      go_wp2
      go_roundg i
      case rel=>go_light;obtain⟨x1,x2,x3,x4,x5⟩:=HY.out;exact⟨i,_,_,x4,Lb _,by go_num,x5 _,x1,x2,x3⟩
      case measure=>go_light;omega
def UY(lo hi n:Nat):Nat:=if 2^40<n then 30 else if n<hi then 31 else if hi<lo then 41 else 0
def covR(lo hi n:Nat):List (Nat×Nat):=if UY lo hi n=0 then cov lo hi else []
theorem Qjy(w:World):IA w.heap.size (fun _=>False) [] (w.alloc (.cells #[.slice none 0 0] 109)) :=
 ⟨⟨.slice none 0 0,OB _ _,Nj _ _ _ _,fun _ _ h=>h⟩,fun h=>h⟩
theorem Qia(lo hi n e:Nat)(w:World)(he:UY lo hi n=e)(h0:e≠0) :
  Calls prog 79 #[.int .u64 lo,.int .u64 hi,.int .u64 n] w fun x w'=> ∃v,x= .returned (.tuple #[v,.int .i64 e])∧Yp w' w.heap.size v []∧Below w.heap.size w w':=by
 unfold UY at he
 by_cases h1:2^40<n
 ·rw[Lo h1] at he;subst he;have ht:decide ((1099511627776:Int)<(n:Int))=true:=LS (by omega)
  clear h0 h1
  go_enter func79,ntmps79;go_wp2
  go_ret2
  exact⟨_,rfl,Nj _ _ _ _,Lc _ _⟩
 ·rw[Le h1] at he;have ht:decide ((1099511627776:Int)<(n:Int))=false:=LC (by omega)
  by_cases h2:n<hi
  ·rw[Lo h2] at he;subst he;have ht2:(n:Int)<(hi:Int):=by omega
   clear h0 h1
   go_enter func79,ntmps79;go_wp2
   go_ret2
   exact⟨_,rfl,Nj _ _ _ _,Lc _ _⟩
  ·rw[Le h2] at he;have ht2:¬(n:Int)<(hi:Int):=by omega
   by_cases h3:hi<lo
   ·rw[Lo h3] at he;subst he;have ht3:(hi:Int)<(lo:Int):=by omega
    clear h0 h1
    go_enter func79,ntmps79;go_wp2
    go_ret2
    exact⟨_,rfl,Nj _ _ _ _,Lc _ _⟩
   ·rw[Le h3] at he;exact absurd he.symm h0
theorem QeQ(lo hi n:Nat)(w:World)(hn:n<=2^40)(hh:hi<=n)(hl:lo<=hi) :
  Calls prog 79 #[.int .u64 lo,.int .u64 hi,.int .u64 n] w fun x w'=> ∃v,x= .returned (.tuple #[v,.int .i64 0])∧Yp w' w.heap.size v (zl (cov lo hi))∧Below w.heap.size w w':=by
 have ht:decide ((1099511627776:Int)<(n:Int))=false:=LC (by omega)
 have ht2:¬(n:Int)<(hi:Int):=by omega
 have ht3:¬(hi:Int)<(lo:Int):=by omega
 have ht2':¬n<hi:=by omega
 have ht3':¬hi<lo:=by omega
 have HE:=Qbi (.inl rfl) (QfC w.heap.size) (fun _=>False) [] lo hi (w.alloc (.cells #[.slice none 0 0] 109)) (Qjy w) (fun _ h=>h.elim) (by decide) hl (by omega)
 clear hn hh hl
 go_enter func79,ntmps79
 go_upto_region 9 with ((go_at_call 150;with_reducible refine HE.mono ?_;rintro e w1 ⟨rfl,hI,hb,_⟩))
 obtain⟨⟨v,h1,h2,_⟩,_⟩:=hI;have c0:=cell_of_one h1;obtain⟨ao,m,c,rfl⟩:=Qs h2;have HF:Hid (Yp w1 w.heap.size (.slice ao m c) (zl (cov lo hi))∧Below w.heap.size w w1):=⟨by
  have:=h2.mono (base':=w.heap.size) (by omega)
  simpa using this,((Lc _ w).alloc (Lb _) _).trans hb⟩
 clear h1 h2 hb HE;go_wp2
 go_ret2
 exact⟨_,rfl,HF.out.1,HF.out.2⟩
theorem QcC(lo hi n:Nat)(w:World) :
  Calls prog 79 #[.int .u64 lo,.int .u64 hi,.int .u64 n] w fun x w'=> ∃v,x= .returned (.tuple #[v,.int .i64 (UY lo hi n:Nat)])∧Yp w' w.heap.size v (zl (covR lo hi n))∧Below w.heap.size w w':=by
 by_cases h:UY lo hi n=0
 ·have h':=h;unfold UY at h'
  split at h'
  ·cases h'
  ·split at h'
   ·cases h'
   ·split at h'
    ·cases h'
    ·rw[h,covR,Lo h];exact QeQ lo hi n w (by omega) (by omega) (by omega)
 ·rw[covR,Le h];exact Qia lo hi n _ w rfl h
theorem Q8(n:Nat)(w:World) :
  Calls prog 44 #[.int .u64 n] w fun x w'=> ∃v,x= .returned (.tuple #[v,.int .i64 (UY 0 n n:Nat)])∧Yp w' w.heap.size v (zl (covR 0 n n))∧Below w.heap.size w w':=by
 have HR:Calls prog 79 #[.int .u64 0,.int .u64 n,.int .u64 n] w fun x w'=> ∃v,x= .returned (.tuple #[v,.int .i64 (UY 0 n n:Nat)])∧Yp w' w.heap.size v (zl (covR 0 n n))∧Below w.heap.size w w':=QcC 0 n n w
 generalize UY 0 n n=e at *;generalize covR 0 n n=L at *
 go_enter func44,ntmps44
 go_wp2_with (go_at_call 79;with_reducible refine HR.mono ?_;rintro x w1 ⟨v,rfl,h1,h2⟩)
 go_ret2
 exact⟨_,rfl,h1,h2⟩
end Cv
structure Frs(w:World)(m:Nat)(k:Int)(L:LB):Prop where
 blk:w.heap[m+1]? = some (.cells #[.int .i64 k,.int .u64 L.length,.map (some m)] 108 (0,0))
 mp:Mp w m (ff (clk k) L)
 k1:1<=k
 k2:k<=32
 hn:L.length<=65536
section
variable {w W:World} {m:Nat} {k:Int} {L:LB}
theorem Frs.lt(h:Frs w m k L):m+1<w.heap.size:=(Array.getElem?_eq_some_iff.1 h.blk).1
theorem Frs.c0(h:Frs w m k L):w.cell? ⟨m+1,0,none⟩=some (.int .i64 k):=by rw[cell_of_row w (m+1) 0 _ _ (0,0) h.blk];rfl
theorem Frs.c1(h:Frs w m k L):w.cell? ⟨m+1,1,none⟩=some (.int .u64 L.length):=by rw[cell_of_row w (m+1) 1 _ _ (0,0) h.blk];rfl
theorem Frs.c2(h:Frs w m k L):w.cell? ⟨m+1,2,none⟩=some (.map (some m)):=by rw[cell_of_row w (m+1) 2 _ _ (0,0) h.blk];rfl
theorem Frs.fz(h:Frs w m k L)(j:Nat):w.frozen? ⟨m+1,j,none⟩=false:=frozen_of_row w (m+1) j _ _ h.blk
theorem Frs.same(h:Frs w m k L)(h0:W.heap[m]? = w.heap[m]?)(h1:W.heap[m+1]? = w.heap[m+1]?):Frs W m k L:=⟨h1.trans h.blk,h.mp.same h0,h.k1,h.k2,h.hn⟩
theorem Frs.next{B:Nat}(h:Frs w m k L)(hb:Below B w W)(hB:w.heap.size<=B):Frs W m k L :=
 h.same (hb.block m (by have:=h.lt;omega)) (hb.block (m+1) (by have:=h.lt;omega))
end
theorem Qon(c:Nat):(fun _ _=>none)=ff c []:=by
 funext h k
 rw[ff,Le];rintro⟨_,e⟩;have:=LM h.toNat;have:0<(k+1)*2^h.toNat:=Nat.mul_pos (by omega) this
 simp at e;omega
theorem Ql1(w:World)(k:Int)(h1:1<=k)(h2:k<=32) :
  Calls prog 36 #[.int .i64 k] w fun e w'=>e= .returned (.tuple #[.pointer (some ⟨w.heap.size+1,0,none⟩),.int .i64 0])∧Frs w' w.heap.size k []∧Below w.heap.size w w':=by
 have HC:Hid (∀W,Calls prog 47 #[.int .i64 k] W fun e w'=>e= .returned (.int .i64 0)∧W=w'):=fun W=>by
  have:=(QB W k);rw[show chk k=0 by rw[chk,Le (by omega)]] at this
  exact this.mono fun _ _ h=>⟨h.1,h.2.symm⟩
 have hmm := @run_makeMap prog;have HK:=Qc (Lx h1 h2);clear h1 h2
 go_enter func36,ntmps36
 go_wp2_with (go_at_call 47;with_reducible refine(HC.out _).mono ?_;rintro e w1 ⟨rfl,rfl⟩)
 go_ret2
 refine⟨rfl,⟨?_,?_,HK.out.1,HK.out.2,by simp⟩,bal (bal (Lc _ _) _) _⟩
 ·have:=Lr (w.alloc (.map #[] 0)) (.cells #[.int .i64 k,.int .u64 0,.map (some w.heap.size)] 108)
  simpa using this
 ·rw[<-Qon];refine(QoE w).same ?_
  exact(MapKept.heap_alloc (w.alloc (.map #[] 0)) _).2 w.heap.size (by simp)
theorem Qb3(w:World)(m:Nat)(k:Int)(L:LB)(hF:Frs w m k L) :
  Calls prog 122 #[.pointer (some ⟨m+1,0,none⟩)] w fun e w'=>e= .returned (.int .i64 k)∧w'=w:=by
 have c0:=hF.c0;clear hF
 go_enter func122,ntmps122;go_wp2
 go_ret
 exact⟨rfl,rfl⟩
theorem Qay(w:World)(m:Nat)(k:Int)(L:LB)(hF:Frs w m k L)(h:Int)(b:Nat)(hf:US h b)(s:BA)(ok:Bool)(hs:Hid ((ff (clk k) L h b).getD ByteArray.empty=s∧(ff (clk k) L h b).isSome=ok)) :
  Calls prog 80 #[.pointer (some ⟨m+1,0,none⟩),.agg #[.int .i64 h,.int .u64 b]] w fun e w'=>e= .returned (.tuple #[.string s,.bool ok])∧Below w.heap.size w w':=by
 have HL:∀W:World,W.heap[m]? = w.heap[m]? -> (Instr.lookup 106 (.map (some m)) (.agg #[.int .i64 h,.int .u64 b]) true).run prog W= .ok (.tuple #[.agg #[.string s],.bool ok]) W:=fun W hW=>by
  have:=(hF.mp.same hW).look hf true;rw[hs.out.1,hs.out.2] at this;exact this
 have HF:Hid (∀W,Below w.heap.size w W->W.cell? ⟨m+1,2,none⟩=some (.map (some m))∧(Instr.lookup 106 (.map (some m)) (.agg #[.int .i64 h,.int .u64 b]) true).run prog W= .ok (.tuple #[.agg #[.string s],.bool ok]) W):=fun W hb=>
  ⟨(hF.next hb (Lb _)).c2,HL W (hb.block m (by have:=hF.lt;omega))⟩
 clear hF hs hf HL
 go_enter func80,ntmps80
 go_upto_region 1 with (fail)
 obtain⟨w1,hw1⟩:∃w1,w.alloc (.cells #[.int .i64 h,.int .u64 b] 131)=w1:=⟨_,rfl⟩;have k0:w1.cell? ⟨w.heap.size,0,none⟩=some (.int .i64 h):=by rw[<-hw1];simp
 have k1:w1.cell? ⟨w.heap.size,1,none⟩=some (.int .u64 b):=by rw[<-hw1];simp
 have hb1:Below w.heap.size w w1:=by rw[<-hw1];exact bal (Lc _ _) _
 have hz:w.heap.size<w1.heap.size:=by rw[<-hw1];simp
 obtain⟨a1,a2⟩:=HF.out w1.drew hb1.drew;obtain⟨a3,a4⟩:=HF.out (w1.drew.alloc (.cells #[.string ⟨#[]⟩] 226)) (bal hb1.drew _);obtain⟨a5,a6⟩:=HF.out (w1.alloc (.cells #[.string ⟨#[]⟩] 226)).drew (bal hb1 _).drew;rw[hw1];clear hw1
 go_region
 all_goals
  go_wp2
  go_ret2
  exact⟨rfl,(bal hb1 _).drew⟩
theorem Yz(x:Int)(h0:0<=x)(h1:x<18446744073709551616):IntKind.u64.wrap x=x:=by
 simp[IntKind.wrap,IntKind.signed,IntKind.bits];omega
theorem RdS.take{w:World}{ao:OA}{b off len:Nat}{ss:LB}(h:RdS w ao b off len ss){n:Nat}(hn:n<=len):RdS w ao b off n (ss.take n):=by
 refine⟨by rw[Lv,h.hl];omega,fun h0=>h.ptr (by omega),fun j v hv=> ?_,fun s hs=>h.sz s (Nn hs)⟩
 rw[N8,Nf] at hv
 split at hv
 ·exact h.rng j v hv
 ·cases hv
theorem small{c:Nat}(hc:c<=32){L:LB}{h:Nat} : ∀s∈pks c L h,s.size<=140737488351232:=fun s hs=>by rw[QbN hc L h s hs];omega
theorem QiS{k:Int}(h1:1<=k)(h2:k<=32):chk k=0:=by rw[chk,Le (by omega)]
theorem Qod{k:Int}(h:k<1∨32<k):chk k=70:=by rw[chk,Lo h]
structure Rt(w:World)(g n:Nat)(d:BA):Prop where
 c0:w.cell? ⟨g,0,none⟩=some (.int .u64 n)
 c1:w.cell? ⟨g,1,none⟩=some (.string d)
 f0:w.frozen? ⟨g,0,none⟩=false
 f1:w.frozen? ⟨g,1,none⟩=false
theorem Rt.below{w w':World}{B g n:Nat}{d:BA}(t:Rt w g n d)(hb:Below B w w')(hg:g<B):Rt w' g n d :=
 ⟨(hb.cell (p:=⟨g,0,none⟩) hg).trans t.c0,(hb.cell (p:=⟨g,1,none⟩) hg).trans t.c1,(hb.frozen (p:=⟨g,0,none⟩) hg).trans t.f0,(hb.frozen (p:=⟨g,1,none⟩) hg).trans t.f1⟩
theorem QdJ(w:World)(n:Nat)(d:BA)(t:Nat):Rt (w.alloc (.cells #[.int .u64 n,.string d] t)) w.heap.size n d:=by
 refine⟨?_,?_,?_,?_⟩ <;> simp
def rtD(c:Nat)(L:LB)(n:Nat):BA:=dg c (QO n (Qx c (pks c (L.take n) 41)))
end Go.Proofs.YtoblgjledefdbabGreatDoor
