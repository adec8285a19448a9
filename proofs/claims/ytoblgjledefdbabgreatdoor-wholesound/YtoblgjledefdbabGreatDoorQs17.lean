/- Own work. -/
import Derived.Test.YtoblgjledefdbabGreatDoorQs16
set_option maxRecDepth 100000
set_option maxHeartbeats 4000000
namespace Go.Proofs.YtoblgjledefdbabGreatDoor
open Go.RowKit
attribute [local go_sem ↓] Go.wp_at_zero Go.wp_at_succ
open Go.Proofs.Tryz
section
attribute [local go_sem ↓] St.JO
section
variable {g:Int} {a q p m r r':Nat} {vr vs vr':Value} {T:Nat->Prop} {D:St.DV} {S:St.SV} {L:LB} {x:BA}
theorem QhT(w:World)(ht:Tb w)(h:Led w g a q p m r vr vs T D S L)(hL:L.length<65536)(hx:x.size<=1048576)(hn:Nw w T vs S L x r' vr')(va:OA)(vn vc:Nat) :
  Calls prog 75 #[Zv a,.agg #[.string x,.string (sm x),.slice va vn vc,Zv r']] w fun e w'=>e= .returned (.tuple #[])∧TkQ w g a q p m r vr vs T D S L x r' vr' w':=by
 obtain⟨s,hs⟩:∃s,sm x=s:=⟨_,rfl⟩;obtain⟨w1,hw1⟩:∃W,w.alloc (.cells #[.string x,.string s,.slice va vn vc,Zv r'] 151)=W:=⟨_,rfl⟩;have u1:Below w.heap.size w w1:=by rw[<-hw1];exact bal (Lc _ _) _
 have k1:w1.heap[w.heap.size]? = some (.cells #[.string x,.string s,.slice va vn vc,Zv r'] 151 (0,0)):=by rw[<-hw1];exact Lr w _
 have hz1:=(Array.getElem?_eq_some_iff.1 k1).1
 obtain⟨b0,hb0⟩:∃b,w.heap.size=b:=⟨_,rfl⟩;rw[hb0] at k1;have h1:=h.next u1;have hm:=h.fr.lt;have HF:Hid (∀W,Below w1.heap.size w1 W->Calls prog 127 #[.pointer (some ⟨m+1,0,none⟩),.string x] W fun e w'=> ∃v,e= .returned (.tuple #[v,.int .i64 0])∧Frs w' m (S.k:Int) (L++[x])∧St.Upo (fun b=>b=m∨b=m+1) w1 w'):=fun W hW=>
  (Qfy W ((ht.next u1).next hW) m S.k L (h1.next hW).fr x hx hL _ rfl).mono fun e w' z=>by
   obtain⟨v,z1,z2,z3,z4⟩:=z;exact⟨v,z1,z2,(St.Upo.of hW).trans ⟨z4.below.os,z4.below.tape,z4.below.output,z4.below.size,fun b hb hne=>z4.block b hb (fun e=>hne (.inl e)) (fun e=>hne (.inr e))⟩ fun _ _ e=>e⟩
 obtain⟨c0,c2,c3,c4,c5,cf⟩:=h1.cells;have hax:=h1.lt (x:=a) (.inl rfl);have HC:Hid (∀W,Below w1.heap.size w1 W->W.cell? ⟨a,3,none⟩=some (.pointer (some ⟨m+1,0,none⟩))∧W.cell? ⟨b0,0,none⟩=some (.string x)):=fun W hW=>⟨(hW.cell (p:=⟨a,3,none⟩) hax).trans c3,by rw[cell_of_row W b0 0 _ _ (0,0) ((hW.block _ (by omega)).trans k1)];rfl⟩
 have HK:Hid (∀W,St.Upo (fun b=>b=m∨b=m+1) w1 W->W.heap[b0]? = some (.cells #[.string x,.string s,.slice va vn vc,Zv r'] 151 (0,0))):=fun W hW=>(hW.block _ (by omega) (by omega)).trans k1
 have HC2:Hid (∀W,St.Upo (fun b=>b=m∨b=m+1) w1 W->W.cell? ⟨a,3,none⟩=some (.pointer (some ⟨m+1,0,none⟩))∧W.cell? ⟨b0,0,none⟩=some (.string x)):=fun W hW=>by
  obtain⟨n1,n2,_⟩:=h1.nr;exact⟨(Lq (a:=⟨a,3,none⟩) (hW.block a hax (fun e=>e.elim n1 n2))).trans c3,by rw[cell_of_row W b0 0 _ _ (0,0) (HK.out W hW)];rfl⟩
 have HT:=Qc (fun(W:World) (z1:Frs W m (S.k:Int) (L++[x])) (z2:St.Upo (fun b=>b=m∨b=m+1) w1 W)=>Qio h hL hx hn u1 hz1 z1 z2 _ _ rfl rfl)
 obtain⟨va2,vl2,vn2,rfl⟩:=YP h.own;have hne:¬b0=a:=by have:=h.lt (x:=a) (.inl rfl);omega
 have u:Below w1.heap.size w1 w1.drew:=(Lc _ _).drew;rw[hs] at HT ⊢;have HW1:=Qc hw1;have HB0:=Qc hb0;obtain⟨d3,d4⟩:=HC.out _ (Lc _ _);clear ht h h1 hx hL hn k1 u1 c0 c2 c3 c4 c5 cf hs hz1 hw1 hb0 hax hm
 go_enter func75,ntmps75
 go_upto_region 1 with (fail)
 rw[HW1.out,HB0.out]
 go_region_held3 (fun Z=>Z.cell? ⟨a,3,none⟩=some (.pointer (some ⟨m+1,0,none⟩))∧Z.cell? ⟨b0,0,none⟩=some (.string x)) (first|assumption|(with_reducible exact HC2.out _ u2)|(with_reducible exact HC.out _ u)) (first
  | (go_at_call 127;(with_reducible refine(HF.out _ u).mono ?_);rintro e w2 ⟨v,rfl,f2,u2⟩))
 all_goals
  obtain⟨ao,n,cap,w5,hap,a5,a3,a2,ht⟩:=HT.out w2 f2 u2;have HZ:=Qc ht;have k2:=HK.out w2 u2;have e3:w2.cell? ⟨b0,3,none⟩=some (Zv r'):=by rw[cell_of_row w2 b0 3 _ _ (0,0) k2];rfl
  obtain⟨_,_,_,d4,_,df⟩:=YI a2;have f4:=df 4;obtain⟨w3,hw3⟩:∃W,w2.setCell ⟨a,4,none⟩ (Zv r')=W:=⟨_,rfl⟩;rw[hw3] at hap a3;have k3:w3.heap[b0]? = some (.cells #[.string x,.string s,.slice va vn vc,Zv r'] 151 (0,0)):=by rw[<-hw3];exact(Below.heap_setCell _ _ _ _ hne).trans k2
  clear ht HT HK HC HC2 HF f2 u2 d3 df k2 a2;obtain⟨_,_,_,_,q5,_⟩:=YI a3;obtain⟨_,_,_,_,q6,qf⟩:=YI a5;have q7:=qf 5;have x1:w3.cell? ⟨b0,1,none⟩=some (.string s):=by rw[cell_of_row w3 b0 1 _ _ (0,0) k3];rfl
  have ub:Below w3.heap.size w3 (w3.alloc (.cells #[.string s] 9)).drew:=(bal (Lc _ _) _).drew;have q8:(w3.alloc (.cells #[.string s] 9)).drew.cell? ⟨a,5,none⟩=_:=(ub.cell (p:=⟨a,5,none⟩) (Array.getElem?_eq_some_iff.1 a3).1).trans q5
  have x2:(w3.alloc (.cells #[.string s] 9)).drew.cell? ⟨b0,1,none⟩=_:=(ub.cell (p:=⟨b0,1,none⟩) (Array.getElem?_eq_some_iff.1 k3).1).trans x1
  have ha:=St.QcT hap;have hne2:¬a=b0:=fun e=>hne e.symm
  clear a5 a3 k3 ub qf hap
  go_upto_region 3 with (fail)
  go_region
  all_goals
   go_wp2;exact bodyPost_end (results_none rfl _ prog _) rfl ⟨rfl,HZ.out⟩
end
end
def Lg(w:World)(g:Int)(a p:Nat)(U:Nat->Prop)(D:St.DV)(S:St.SV)(L:LB):Prop :=
 ∃q m r vr vs T,Led w g a q p m r vr vs T D S L∧(∀x,U x↔T x∨Lef a m r vr vs x) ∧ ¬U 2
def LgM(w w':World)(g:Int)(a p:Nat)(U:Nat->Prop)(D':St.DV)(S':St.SV)(L':LB):Prop :=
 ∃U',Lg w' g a p U' D' S' L'∧(∀x,U' x->U x∨w.heap.size<=x)∧St.Upo U w w'
theorem Tb.lt{w:World}(ht:Tb w):2<w.heap.size:=QH ht.rs (Qee (by rw[Jp];decide))
theorem Tb.upo{w W:World}{U:Nat->Prop}(ht:Tb w)(h:St.Upo U w W)(hn:¬U 2):Tb W:=by
 refine⟨fun j u hu=> ?_⟩
 rw[<-ht.rs j u hu];have:=h.block _ ht.lt hn;simp only[World.cell?,this]
section
variable {w w1 W:World} {g:Int} {a q p m r:Nat} {vr vs:Value} {T U:Nat->Prop} {D D' D2:St.DV} {S S' S2:St.SV} {L L' L2:LB}
theorem Lg.lt(h:Lg w g a p U D S L){x:Nat}(hx:U x):x<w.heap.size:=by
 obtain⟨q,m,r,vr,vs,T,h1,h2,_⟩:=h;exact((h2 x).1 hx).elim h1.sk.lt h1.lt
theorem Lg.own(h:Lg w g a p U D S L):U a:=by
 obtain⟨q,m,r,vr,vs,T,h1,h2,_⟩:=h;exact(h2 a).2 (.inr (.inl rfl))
theorem Lg.same(h:Lg w g a p U D S L)(hb:∀x,U x->W.heap[x]? = w.heap[x]?):Lg W g a p U D S L:=by
 obtain⟨q,m,r,vr,vs,T,h1,h2,h3⟩:=h;exact⟨q,m,r,vr,vs,T,h1.same (fun x hx=>hb x ((h2 x).2 (.inl hx))) (fun x hx=>hb x ((h2 x).2 (.inr hx))),h2,h3⟩
theorem Lg.next(h:Lg w g a p U D S L)(hb:Below w.heap.size w W):Lg W g a p U D S L:=h.same fun x hx=>hb.block x (h.lt hx)
theorem Lg.lkd(h:Lg w 0 a p U D S L)(hL:Lkd a w W):Lg W 1 a p U D S L:=by
 obtain⟨q,m,r,vr,vs,T,h1,h2,h3⟩:=h;exact⟨q,m,r,vr,vs,T,h1.lkd hL,h2,h3⟩
theorem Lg.set(h:Lg w g a p U D S L)(g':Int):Lg (w.setCell ⟨a,0,none⟩ (.int .i32 g')) g' a p U D S L:=by
 obtain⟨q,m,r,vr,vs,T,h1,h2,h3⟩:=h;exact⟨q,m,r,vr,vs,T,h1.set g',h2,h3⟩
theorem Lg.sk(h:Lg w g a p U D S L):∃q T,w.cell? ⟨a,2,none⟩=some (Zv q)∧St.Sk w q p T D S:=by
 obtain⟨q,m,r,vr,vs,T,h1,h2,h3⟩:=h;exact⟨q,T,h1.cells.2.1,h1.sk⟩
theorem Lg.row(h:Lg w g a p U D S L):∃q m r vs,w.heap[a]? = some (rwL g (.int .u32 0) (Zp q) (.pointer (some ⟨m+1,0,none⟩)) (Zv r) vs)∧Frs w m (S.k:Int) L∧Qg w 0 vs (smL L):=by
 obtain⟨q,m,r,vr,vs,T,h1,h2,h3⟩:=h;exact⟨q,m,r,vs,h1.blk,h1.fr,h1.own⟩
theorem LgM.of(h:Lg w g a p U D S L)(hb:Below w.heap.size w W):LgM w W g a p U D S L:=⟨U,h.next hb,fun _ hx=> .inl hx,St.Upo.of hb⟩
theorem Led.add(h:Led w g a q p m r vr vs T D S L)(hm:St.SkM w W q p T D' S')(hk:S'.k=S.k):∃T',Led W g a q p m r vr vs T' D' S' L∧(∀x,T' x->T x∨w.heap.size<=x)∧St.Upo T w W:=by
 obtain⟨T',h1,h2,h3⟩:=hm;have hk':∀x,Lef a m r vr vs x->W.heap[x]? = w.heap[x]? := fun x hx=>h3.block x (h.lt hx) (fun e=>h.ap x e hx)
 refine⟨T',⟨(hk' a (.inl rfl)).trans h.blk,h1,?_,?_,St.QK h.own fun x hx=>hk' x (.inr (.inr (.inr (.inr (.inr hx))))),h.sz,fun x hx hl=> ?_,h.av⟩,h2,h3⟩
 ·rw[hk];exact h.fr.same (hk' m (.inr (.inl rfl))) (hk' _ (.inr (.inr (.inl rfl))))
 ·rw[hk];exact⟨(hk' r (.inr (.inr (.inr (.inl rfl))))).trans h.rg.blk,St.QK h.rg.own fun x hx=>hk' x (.inr (.inr (.inr (.inr (.inl hx))))),h.rg.k1,h.rg.k2,h.rg.hn,h.rg.hl,h.rg.hs⟩
 ·rcases h2 x hx with e|e
  ·exact h.ap x e hl
  ·have:=h.lt hl;omega
end
theorem QiD(D:St.DV)(S:St.SV)(x:List UInt8)(ds:LB):(St.Ur D S x ds).2.1.k=S.k:=by
 unfold St.Ur
 split
 ·rfl
 ·split <;> rfl
theorem Qb8(D:St.DV)(S:St.SV)(x:List UInt8)(ds:LB):((St.Ur D S x ds).2.2=0∧(St.Ur D S x ds).2.1.ends.length=S.ends.length+1)∨((St.Ur D S x ds).2.2≠0∧(St.Ur D S x ds).2.1.ends=S.ends):=by
 unfold St.Ur
 split
 ·exact .inr ⟨by assumption,rfl⟩
 ·split
  ·exact .inl ⟨rfl,by simp⟩
  ·exact .inr ⟨by assumption,rfl⟩
def aD(D:St.DV)(S:St.SV)(L:LB)(x:BA):St.DV×St.SV×LB×Int :=
 if 1048576<x.size then (D,S,L,100) else if 65536<=S.ends.length then (D,S,L,101) else
 ((St.Ur D S x.data.toList (mdL S.k L x)).1,(St.Ur D S x.data.toList (mdL S.k L x)).2.1,if (St.Ur D S x.data.toList (mdL S.k L x)).2.2=0 then L++[x] else L,(St.Ur D S x.data.toList (mdL S.k L x)).2.2)
theorem QoX{w:World}{ao:OA}{b off len:Nat}{ss:LB}(h:RdS w ao b off len ss):RdS w ao b off len ss:=⟨h.hl,h.ptr,h.rng,h.sz⟩
theorem Qnm(f n:Nat):Pl.trl f n<=f:=by
 induction f generalizing n with
 | zero=>exact Lb _
 | succ f ih=>
  have:=ih (n/2);simp only[Pl.trl]
  split <;> omega
section
variable {p:Nat} {U:Nat->Prop} {D D':St.DV} {S S':St.SV} {L L':LB}
theorem Oo(w:World)(ht:Tb w)(a:Nat)(h:Lg w 1 a p U D S L)(he:S.ends.length=L.length)(hrm:St.Rm 7 D)(x:BA)(hx:x.size<=9223372036854775807)(e0:Int)(hA:aD D S L x=(D',S',L',e0)) :
  Calls prog 41 #[Zv a,.string x] w fun e w'=>e= .returned (.int .i64 e0)∧LgM w w' 1 a p U D' S' L':=by
 obtain⟨q,m,r,vr,vs,T,hl,hU,hn⟩:=h;have hLg:Lg w 1 a p U D S L:=⟨q,m,r,vr,vs,T,hl,hU,hn⟩;have hst:=hl.cells.2.1;have hax:=Ll _ _ hst;unfold aD at hA
 by_cases h1:1048576<x.size
 ·rw[Lo h1] at hA;obtain⟨rfl,rfl,rfl,rfl⟩:D=D'∧S=S'∧L=L'∧100=e0:=by injection hA with e1 e2;injection e2 with e2 e3;injection e3 with e3 e4;exact⟨e1,e2,e3,e4⟩
  have hd:decide ((1048576:Int)<(x.size:Int))=true:=LS (by omega)
  have HZ:=Qc hLg;clear hA ht hrm hl hU hn hLg h1 he
  go_enter func41,ntmps41;go_wp2
  go_ret
  exact⟨rfl,LgM.of HZ.out (Lc _ _)⟩
 rw[Le h1] at hA;have hd1:decide ((1048576:Int)<(x.size:Int))=false:=LC (by omega)
 have HSz:Hid (Calls prog 51 #[Zv q] w fun e w'=>e= .returned (.int .u64 S.ends.length)∧w=w'):=(St.JP w hl.sk).mono fun e w' z=>⟨z.1,z.2.symm⟩
 by_cases h2:65536<=S.ends.length
 ·rw[Lo h2] at hA;obtain⟨rfl,rfl,rfl,rfl⟩:D=D'∧S=S'∧L=L'∧101=e0:=by injection hA with e1 e2;injection e2 with e2 e3;injection e3 with e3 e4;exact⟨e1,e2,e3,e4⟩
  have hd:decide ((65536:Int)<=(S.ends.length:Int))=true:=LS (by omega)
  have HZ:=Qc hLg;clear hA ht hrm hl hU hn hLg h1 h2 he
  go_enter func41,ntmps41
  go_wp2_with (go_at_call 51;(with_reducible refine HSz.out.mono ?_);rintro e w1 ⟨rfl,rfl⟩)
  go_ret
  exact⟨rfl,LgM.of HZ.out (Lc _ _)⟩
 rw[Le h2] at hA;have hd2:decide ((65536:Int)<=(S.ends.length:Int))=false:=LC (by omega)
 have k2:=hl.k1;have hcl:=hl.clk;obtain⟨DA,hDA⟩:∃y,St.Ur D S x.data.toList (mdL S.k L x)=y:=⟨_,rfl⟩;rw[hDA] at hA;have hk':=QiD D S x.data.toList (mdL S.k L x);have he':=Qb8 D S x.data.toList (mdL S.k L x);rw[hDA] at hk' he';obtain⟨D1,S1,e1⟩:=DA;obtain⟨rfl,rfl,hL',rfl⟩:D1=D'∧S1=S'∧(if e1=0 then L++[x] else L)=L'∧e1=e0:=by injection hA with e1 e2;injection e2 with e2 e3;injection e3 with e3 e4;exact⟨e1,e2,e3,e4⟩
 simp only at hk' he';obtain⟨s,hs⟩:∃s,sm x=s:=⟨_,rfl⟩;have HNx:Hid (Calls prog 73 #[Zv a,.string x] w (NxQ w S.k L x)):=Qj1 w ht a m r vr S.k L hl.fr hl.rg hcl hl.cells.2.2.1 hl.cells.2.2.2.1 x (by omega) (by omega)
 have hml:(mdL S.k L x).length<=1000:=by rw[QgU];have:=Qnm 40 L.length;omega
 have HAd:Hid (∀W va vn vc,Below w.heap.size w W->Qg W w.heap.size (.slice va vn vc) (mdL S.k L x)->Calls prog 76 #[Zv q,.string x,.slice va vn vc] W fun e w'=>e= .returned (.int .i64 e1)∧St.SkM W w' q p T D1 S1):=fun W va vn vc hW ho=>by
  obtain⟨ao,b,cap,hv,hr,_,_⟩:=QJ ho (fun y hy=>by rw[QjT k2.2 L x y hy];omega)
  injection hv with e1 e2 e3
  subst e1 e2 e3;exact St.Oo W (hl.sk.next hW) hrm x hx va b 0 _ vc (mdL S.k L x) (QoX hr) (by omega) D1 S1 e1 hDA
 have HC:Hid (∀W,Below w.heap.size w W->W.cell? ⟨a,2,none⟩=some (Zv q)):=fun W hW=>(hW.cell (p:=⟨a,2,none⟩) hax).trans hst
 have HU:=Qc hU;have HNt:=Qc hn;have HLd:=Qc hl;have HLe:=Qc hL';have HK':=Qc hk';have HE':=Qc he';have HEL:=Qc he;have HSS:=Qc hs;have HXX:=Qc (Lx h1 h2);have HTB:=Qc ht;clear hU hn hl hL' hk' he' he hs hx h1 h2 ht hA hDA hml hcl k2 hrm hLg hax
 go_enter func41,ntmps41
 go_upto_region 6 with (first
  | (go_at_call 51;(with_reducible refine HSz.out.mono ?_);rintro e w1 ⟨rfl,rfl⟩)
  | (go_at_call 73;(with_reducible refine HNx.out.mono ?_);rintro e w1 ⟨vm,r',vr',rfl,om,hr',lr,lv,u1⟩;obtain⟨va,vn,vc,rfl⟩:=YP om;rw[HSS.out]))
 obtain⟨b0,hb0⟩:∃b,w1.heap.size=b:=⟨_,rfl⟩;obtain⟨w2,hw2⟩:∃W,w1.alloc (.cells #[.string x,.string s,.slice va vn vc,Zv r'] 151)=W:=⟨_,rfl⟩;have k2:w2.heap[b0]? = some (.cells #[.string x,.string s,.slice va vn vc,Zv r'] 151 (0,0)):=by rw[<-hw2,<-hb0];exact Lr w1 _
 have u2:Below w1.heap.size w1 w2:=by rw[<-hw2];exact bal (Lc _ _) _
 have z2:=(Array.getElem?_eq_some_iff.1 k2).1
 have v2:Below w.heap.size w w2:=Qa u1 u2;have o2:Qg w2 w.heap.size (.slice va vn vc) (mdL S.k L x):=Qv om u2 (Lb _);have HB0:=Qc hb0;have g2:Kp.Rg w2 r' vr' (S.k:Int) (L.length+1) (pkL S.k (L++[x])):=hr'.next u2 (Lb _);have HW2:=Qc hw2;have HC2:Hid (∀W,Below w2.heap.size w2 W->W.cell? ⟨a,2,none⟩=some (Zv q)∧W.cell? ⟨b0,2,none⟩=some (.slice va vn vc)):=fun W hW=>⟨HC.out W (Qa v2 hW),by rw[cell_of_row W b0 2 _ _ (0,0) ((hW.block _ z2).trans k2)];rfl⟩
 have HA2:Hid (∀W,Below w2.heap.size w2 W->Calls prog 76 #[Zv q,.string x,.slice va vn vc] W fun e w'=>e= .returned (.int .i64 e1)∧St.SkM w2 w' q p T D1 S1):=fun W hW=>(HAd.out W va vn vc (Qa v2 hW) (QN (Qv o2 hW (Lb _)) (Lb _))).mono fun e w' z=>⟨z.1,St.SkM.first hW z.2⟩
 have HK2:Hid (∀W,St.SkM w2 W q p T D1 S1->W.cell? ⟨a,2,none⟩=some (Zv q)∧W.heap[b0]? = some (.cells #[.string x,.string s,.slice va vn vc,Zv r'] 151 (0,0))):=fun W hW=>by
  obtain⟨T',t1,t2,t3⟩:=hW;have hT:∀b,T b->b<w.heap.size:=fun b hb=>HLd.out.sk.lt hb
  exact⟨(Lq (a:=⟨a,2,none⟩) (t3.block a (by have:=v2.size;have:=HLd.out.lt (x:=a) (.inl rfl);omega) (fun e=>HLd.out.ap a e (.inl rfl)))).trans (HC.out w2 v2),(t3.block _ z2 (fun e=>by have:=hT _ e;have:=u1.size;omega)).trans k2⟩
 have HK3:Hid (∀W,St.SkM w2 W q p T D1 S1->W.cell? ⟨a,2,none⟩=some (Zv q)∧W.cell? ⟨b0,2,none⟩=some (.slice va vn vc)):=fun W hW=>⟨(HK2.out W hW).1,by rw[cell_of_row W b0 2 _ _ (0,0) (HK2.out W hW).2];rfl⟩
 have HEr:Hid (∀W,¬e1=0->St.SkM w2 W q p T D1 S1->LgM w W 1 a p U D1 S1 L'):=fun W h0 hW=>by
  obtain⟨T',t1,t2,t3⟩:=(HLd.out.next v2).add hW HK'.out;have hLe:=HLe.out;rw[Le h0] at hLe;subst hLe;refine⟨fun y=>T' y∨Lef a m r vr vs y,⟨q,m,r,vr,vs,T',t1,fun _=>Iff.rfl,fun e=> ?_⟩,fun y hy=> ?_,(St.Upo.of v2).trans t3 fun y _ ht=>(HU.out y).2 (.inl ht)⟩
  ·rcases e with e|e
   ·rcases t2 _ e with e|e
    ·exact HNt.out ((HU.out _).2 (.inl e))
    ·have:=HTB.out.lt;have:=v2.size;omega
   ·exact HNt.out ((HU.out _).2 (.inr e))
  ·rcases hy with e|e
   ·exact(t2 y e).imp (fun e=>(HU.out y).2 (.inl e)) (fun e=>Lt v2.size e)
   ·exact .inl ((HU.out y).2 (.inr e))
 have HOk:Hid (∀W,e1=0->St.SkM w2 W q p T D1 S1->Calls prog 75 #[Zv a,.agg #[.string x,.string s,.slice va vn vc,Zv r']] W fun e w'=>e= .returned (.tuple #[])∧LgM w w' 1 a p U D1 S1 L'):=fun W h0 hW=>by
  obtain⟨T',t1,t2,t3⟩:=(HLd.out.next v2).add hW HK'.out;have hLe:=HLe.out;rw[Lo h0] at hLe;have hT':∀y,T' y->y<w.heap.size∨w2.heap.size<=y:=fun y hy=>(t2 y hy).imp (fun e=>HLd.out.sk.lt e) id
  have nw:Nw W T' vs S1 L x r' vr':=by
   refine⟨?_,fun e=> ?_,fun b hb=>⟨fun e=> ?_,fun e=> ?_⟩⟩
   ·rw[HK'.out];exact⟨(t3.block _ g2.lt (fun e=>by have:=HLd.out.sk.lt e;omega)).trans g2.blk,St.QK g2.own fun b hb=>t3.block b (Oi g2.own hb) (fun e=>by have:=HLd.out.sk.lt e;have:=lv b hb;omega),g2.k1,g2.k2,g2.hn,g2.hl,g2.hs⟩
   ·have:=g2.lt;rcases hT' _ e with e|e <;> omega
   ·have:=Oi g2.own hb;have:=lv b hb;rcases hT' _ e with e|e <;> omega
   ·have:=lv b hb;have:=Oi HLd.out.own e;omega
  have htW:Tb W:=(HTB.out.next v2).upo t3 fun e=>HNt.out ((HU.out _).2 (.inl e))
  have htk:=QhT W htW t1 (by have:=HXX.out.2;have:=HEL.out;omega) (by have:=HXX.out.1;omega) nw va vn vc
  rw[HSS.out] at htk;refine htk.mono fun e w' z=>⟨z.1,?_⟩
  obtain⟨vs',y1,y2,y3⟩:=z.2;rw[hLe] at y1;refine⟨fun y=>T' y∨Lef a m r' vr' vs' y,⟨q,m,r',vr',vs',T',y1,fun _=>Iff.rfl,fun e=> ?_⟩,fun y hy=> ?_,((St.Upo.of v2).trans t3 fun y _ ht=>(HU.out y).2 (.inl ht)).trans y2 fun y _ ht=>(HU.out y).2 (.inr ht)⟩
  ·have htb:=HTB.out.lt;have h3:=t3.size;have hs2:=v2.size
   rcases e with e|e|e|e|e|e|e
   ·rcases t2 _ e with e|e
    ·exact HNt.out ((HU.out _).2 (.inl e))
    ·omega
   ·exact HNt.out ((HU.out _).2 (.inr (.inl e)))
   ·exact HNt.out ((HU.out _).2 (.inr (.inr (.inl e))))
   ·exact HNt.out ((HU.out _).2 (.inr (.inr (.inr (.inl e)))))
   ·omega
   ·have:=lv _ e;omega
   ·rcases y3 _ e with e|e
    ·exact HNt.out ((HU.out _).2 (.inr (.inr (.inr (.inr (.inr (.inr e)))))))
    ·omega
  ·have h3:=t3.size;have hs2:=v2.size
   rcases hy with e|e|e|e|e|e|e
   ·exact(t2 y e).imp (fun e=>(HU.out y).2 (.inl e)) (fun e=>by omega)
   ·exact .inl ((HU.out y).2 (.inr (.inl e)))
   ·exact .inl ((HU.out y).2 (.inr (.inr (.inl e))))
   ·exact .inl ((HU.out y).2 (.inr (.inr (.inr (.inl e)))))
   ·exact .inr (by omega)
   ·exact .inr (lv y e)
   ·exact(y3 y e).imp (fun e=>(HU.out y).2 (.inr (.inr (.inr (.inr (.inr (.inr e))))))) (fun e=>by omega)
 obtain⟨d1,d2⟩:=HC2.out w2 (Lc _ _);have u:Below w2.heap.size w2 w2.drew:=(Lc _ _).drew;rw[HW2.out,HB0.out];clear k2 z2 v2 u2 u1 o2 om g2 hr' lr lv HAd hb0 hw2 HLd HU HNt HLe HK' HE' HEL HSS HXX HTB hst HSz HNx HC
 go_region_held3 (fun Z=>Z.cell? ⟨a,2,none⟩=some (Zv q)∧Z.cell? ⟨b0,2,none⟩=some (.slice va vn vc)) (first|assumption|(with_reducible exact HK3.out _ t3)|(with_reducible exact HC2.out _ u)) (first
  | (go_at_call 76;(with_reducible refine(HA2.out _ u).mono ?_);rintro e w3 ⟨rfl,t3⟩))
 all_goals
  by_cases h0:e1=0
  ·have HT:=Qc (HOk.out w3 h0 t3);have k3:=(HK2.out w3 t3).2;have y0:w3.cell? ⟨b0,0,none⟩=some (.string x):=by rw[cell_of_row w3 b0 0 _ _ (0,0) k3];rfl
   have y1:w3.cell? ⟨b0,1,none⟩=some (.string s):=by rw[cell_of_row w3 b0 1 _ _ (0,0) k3];rfl
   have y2:w3.cell? ⟨b0,2,none⟩=some (.slice va vn vc):=by rw[cell_of_row w3 b0 2 _ _ (0,0) k3];rfl
   have y3:w3.cell? ⟨b0,3,none⟩=some (Zv r'):=by rw[cell_of_row w3 b0 3 _ _ (0,0) k3];rfl
   clear HOk HEr HK2 HK3 HC2 HA2 t3 k3 d1 d2;subst h0
   go_wp2_with (go_at_call 75;(with_reducible refine HT.out.mono ?_);rintro e w4 ⟨rfl,t4⟩)
   go_ret
   exact⟨rfl,t4⟩
  ·have HT:=Qc (HEr.out w3 h0 t3);have h0b:(e1 == 0)=false:=by simpa using h0
   clear HOk HEr HK2 HK3 HC2 HA2 t3 d1 d2;go_wp2
   go_ret
   exact⟨rfl,HT.out⟩
end
def apD:St.DV->St.SV->LB->LB->St.DV×St.SV×LB×Nat×Int
 | D,S,L,[]=>(D,S,L,0,0)
 | D,S,L,x::xs=>if (aD D S L x).2.2.2=0 then
   ((apD (aD D S L x).1 (aD D S L x).2.1 (aD D S L x).2.2.1 xs).1,(apD (aD D S L x).1 (aD D S L x).2.1 (aD D S L x).2.2.1 xs).2.1,(apD (aD D S L x).1 (aD D S L x).2.1 (aD D S L x).2.2.1 xs).2.2.1,(apD (aD D S L x).1 (aD D S L x).2.1 (aD D S L x).2.2.1 xs).2.2.2.1+1,(apD (aD D S L x).1 (aD D S L x).2.1 (aD D S L x).2.2.1 xs).2.2.2.2)
  else ((aD D S L x).1,(aD D S L x).2.1,(aD D S L x).2.2.1,0,(aD D S L x).2.2.2)
def RmA:St.DV->St.SV->LB->LB->Prop
 | _,_,_,[]=>True
 | D,S,L,x::xs=>St.Rm 7 D∧((aD D S L x).2.2.2=0->RmA (aD D S L x).1 (aD D S L x).2.1 (aD D S L x).2.2.1 xs)
theorem Qlk(D:St.DV)(S:St.SV)(L:LB)(x:BA)(he:S.ends.length=L.length):(aD D S L x).2.1.ends.length=(aD D S L x).2.2.1.length∧(aD D S L x).2.1.k=S.k:=by
 unfold aD
 split
 ·exact⟨he,rfl⟩
 ·split
  ·exact⟨he,rfl⟩
  ·refine⟨?_,QiD ..⟩
   rcases Qb8 D S x.data.toList (mdL S.k L x) with ⟨e1,e2⟩|⟨e1,e2⟩
   ·simp only[e1,if_true,e2,List.length_append,List.length_cons,List.length_nil,he]
   ·simp only[if_neg e1,e2,he]
section
variable {w W:World} {a p:Nat} {U:Nat->Prop} {D D' D0:St.DV} {S S' S0:St.SV} {L L' L0:LB} {g:Int}
theorem LgM.cell{b i:Nat}{v:Value}(h:LgM w W g a p U D S L)(hc:w.cell? ⟨b,i,none⟩=some v)(hb:¬U b):W.cell? ⟨b,i,none⟩=some v:=by
 obtain⟨U',h1,h2,h3⟩:=h;exact(Lq (a:=⟨b,i,none⟩) (h3.block b (Ll _ _ hc) hb)).trans hc
theorem LgM.rds{ao:OA}{b off len:Nat}{xs:LB}(h:LgM w W g a p U D S L)(hr:RdS w ao b off len xs)(hb:0<len -> ¬U b):RdS W ao b off len xs :=
 ⟨hr.hl,hr.ptr,fun j v hv=>h.cell (hr.rng j v hv) (hb (by have:=(List.getElem?_eq_some_iff.1 hv).1;rw[LI] at this;have:=hr.hl;omega)),hr.sz⟩
theorem LgM.tb(h:LgM w W g a p U D S L)(h0:Lg w g a p U D0 S0 L0)(ht:Tb w):Tb W:=by
 obtain⟨U',h1,h2,h3⟩:=h;obtain⟨_,_,_,_,_,_,_,_,hn⟩:=h0;exact ht.upo h3 hn
theorem Qd4(w:World)(ht:Tb w)(h:Lg w 1 a p U D S L)(he:S.ends.length=L.length)(bi bl:Nat)(ao:OA)(b len cap:Nat)(xs:LB)(hr:RdS w ao b 0 len xs)(hlen:len<=9223372036854775806)
  (ci:w.cell? ⟨bi,0,none⟩=some (.slice ao len cap)) (cl:w.cell? ⟨bl,0,none⟩=some (Zv a)) (n1:¬U bi) (n2:¬U bl) (n3:0<len -> ¬U b) (hR:RmA D S L xs) (n:Nat) (e0:Int) (hA:apD D S L xs=(D',S',L',n,e0)) :
  Calls prog 40 #[Zv bi,Zv bl] w fun e w'=>e= .returned (.tuple #[.int .i64 n,.int .i64 e0])∧LgM w w' 1 a p U D' S' L':=by
 have hll:=hr.hl;have HC:Hid (∀W Di Si Li,LgM w W 1 a p U Di Si Li->W.cell? ⟨bi,0,none⟩=some (.slice ao len cap)∧W.cell? ⟨bl,0,none⟩=some (Zv a)∧RdS W ao b 0 len xs):=fun W Di Si Li hW=>⟨hW.cell ci n1,hW.cell cl n2,hW.rds hr n3⟩
 have HA:Hid (∀W Di Si Li x Dj Sj Lj ej,LgM w W 1 a p U Di Si Li->Si.ends.length=Li.length->St.Rm 7 Di->x.size<=9223372036854775807->aD Di Si Li x=(Dj,Sj,Lj,ej)->Calls prog 41 #[Zv a,.string x] W fun e w'=>e= .returned (.int .i64 ej)∧LgM w w' 1 a p U Dj Sj Lj):=fun W Di Si Li x Dj Sj Lj ej hW g1 g2 g3 g4=>by
  obtain⟨U1,y1,y2,y3⟩:=hW;exact(Oo W (LgM.tb ⟨U1,y1,y2,y3⟩ h ht) a y1 g1 g2 x g3 ej g4).mono fun e w' z=>by
   obtain⟨U2,z1,z2,z3⟩:=z.2;exact⟨z.1,U2,z1,fun y hy=>(z2 y hy).elim (y2 y) (fun e=> .inr (Lt y3.size e)),y3.trans z3 fun y _ ht=>(y2 y ht).elim id (fun e=>by omega)⟩
 have HM:=Qc (LgM.of h (Lc _ _));have HQ:=Qc (Lx he (Lx hR hA));have hptr:=hr.ptr;clear h he hR hA hr n1 n2 n3
 go_enter func40,ntmps40;go_wp2
 go_loopg [9] len (fun g x wr=> ∃(j m:Nat) (Di:St.DV) (Si:St.SV) (Li:LB),j<=len∧g=len-j∧x= .int .i64 j∧Hid (LgM w wr 1 a p U Di Si Li)∧Hid (Si.ends.length=Li.length∧RmA Di Si Li (xs.drop j)∧apD Di Si Li (xs.drop j)=(D',S',L',m,e0)∧j+m=n))
 case atStart=>go_light;exact⟨0,n,D,S,L,Lm _,rfl,rfl,HM,HQ.out.1,HQ.out.2.1,HQ.out.2.2,Lp _⟩
 case round=>
  clear HM HQ ci cl;obtain⟨j,m,Di,Si,Li,hj,rfl,rfl,HM,HQ⟩:=hrel;obtain⟨ci,cl,hr⟩:=HC.out wr Di Si Li HM.out
  by_cases hlt:j<len
  ·have hzj:(j:Int)<(len:Int):=by omega
   obtain rfl:=hptr (by omega)
   obtain⟨x,hx⟩:∃x,xs.getD j ByteArray.empty=x:=⟨_,rfl⟩;have c0:=hr.at hlt;rw[hx,Lp] at c0;obtain⟨q1,q2,q3,q4⟩:=HQ.out;have hd:xs.drop j=x::xs.drop (j+1):=by
    rw[LV (by omega),<-hx,La,Ld (by omega)];rfl
   rw[hd] at q2 q3;have hxs:x.size<=9223372036854775807:=hr.sz x (by rw[<-hx,La,Ld (by omega)];exact LN _)
   obtain⟨Dj,Sj,Lj,ej,hj4⟩:∃Dj Sj Lj ej,aD Di Si Li x=(Dj,Sj,Lj,ej):=⟨_,_,_,_,rfl⟩;have ha:=Qlk Di Si Li x q1;rw[hj4] at ha;have HAd:=Qc (HA.out wr Di Si Li x Dj Sj Lj ej HM.out q1 q2.1 hxs hj4);unfold RmA at q2;unfold apD at q3;rw[hj4] at q2 q3;have ew3:IntKind.i64.wrap ((j:Int)+1)=((j+1:Nat):Int):=by rw[LE];omega
   by_cases h0:ej=0
   ·subst h0;simp only[if_true] at q3;obtain⟨m',hm'⟩:∃m',m=m'+1:=by
     injection q3 with _ q3;injection q3 with _ q3;injection q3 with _ q3;injection q3 with q3 _
     exact⟨_,q3.symm⟩
    subst hm';have HN:Hid (Sj.ends.length=Lj.length∧RmA Dj Sj Lj (xs.drop (j+1))∧apD Dj Sj Lj (xs.drop (j+1))=(D',S',L',m',e0)∧(j+1)+m'=n):=by
     refine⟨ha.1,q2.2 rfl,?_,by omega⟩
     generalize apD Dj Sj Lj (xs.drop (j+1))=y at q3;obtain⟨y1,y2,y3,y4,y5⟩:=y;injection q3 with e1 q3;injection q3 with e2 q3;injection q3 with e3 q3;injection q3 with e4 q3
     simp only at e1 e2 e3 e4 q3;rw[e1,e2,e3,q3,show y4=m' by omega]
    clear q1 q2 q3 q4 hd hx hxs hj4 ha HQ HM HA hr hll
    go_wp2_with (go_at_call 41;(with_reducible refine HAd.out.mono ?_);rintro e w2 ⟨rfl,t2⟩)
    go_roundg (len-(j+1))
    case rel=>go_light;exact⟨j+1,m',Dj,Sj,Lj,by omega,rfl,rfl,t2,HN⟩
    case measure=>go_light;omega
   ·simp only[if_neg h0] at q3;obtain⟨rfl,rfl,rfl,rfl,rfl⟩:Dj=D'∧Sj=S'∧Lj=L'∧0=m∧ej=e0:=by injection q3 with e1 q3;injection q3 with e2 q3;injection q3 with e3 q3;injection q3 with e4 q3;exact⟨e1,e2,e3,e4,q3⟩
    have h0b:(ej == 0)=false:=by simpa using h0
    obtain rfl:j=n:=by omega
    clear q1 q2 q3 q4 hd hx hxs hj4 ha HQ HM HA hr hll HC
    go_wp2_with (go_at_call 41;(with_reducible refine HAd.out.mono ?_);rintro e w2 ⟨rfl,t2⟩)
    go_ret2
    exact⟨rfl,t2⟩
  ·have hzj:¬(j:Int)<(len:Int):=by omega
   obtain rfl:j=len:=by omega
   obtain⟨q1,q2,q3,q4⟩:=HQ.out;rw[<-hll,Wm] at q3;obtain⟨rfl,rfl,rfl,rfl,rfl⟩:Di=D'∧Si=S'∧Li=L'∧0=m∧0=e0:=by injection q3 with e1 q3;injection q3 with e2 q3;injection q3 with e3 q3;injection q3 with e4 q3;exact⟨e1,e2,e3,e4,q3⟩
   obtain rfl:j=n:=by omega
   clear q1 q2 q3 q4 HQ HA hr hll HC;go_wp2
   go_ret2
   exact⟨rfl,HM.out⟩
end
section
variable {w W W1:World} {a p:Nat} {U:Nat->Prop} {D D':St.DV} {S S':St.SV} {L L':LB} {g:Int}
theorem LgM.whole(h:Lg w 0 a p U D S L)(hb:Below w.heap.size w W)(hm:LgM (W.setCell ⟨a,0,none⟩ (.int .i32 1)) W1 1 a p U D' S' L'):LgM w (W1.setCell ⟨a,0,none⟩ (.int .i32 0)) 0 a p U D' S' L':=by
 obtain⟨U',h1,h2,h3⟩:=hm;have q1:St.Upo U w (W.setCell ⟨a,0,none⟩ (.int .i32 1)):=(St.Upo.of hb).set a 0 _ (.inl h.own);have hz:(W.setCell ⟨a,0,none⟩ (.int .i32 1)).heap.size=W.heap.size:=by simp
 refine⟨U',h1.set 0,fun x hx=>(h2 x hx).imp id (fun e=> ?_),(q1.trans h3 fun _ _ e=>e).set a 0 _ (.inl h.own)⟩
 have:=hb.size;omega
theorem Lg.inn(h:Lg w 1 a p U D S L):w.cell? ⟨a,0,none⟩=some (.int .i32 1)∧w.frozen? ⟨a,0,none⟩=false:=by
 obtain⟨q,m,r,vs,h1,_⟩:=h.row;obtain⟨c,_,_,_,_,f⟩:=YI h1;exact⟨c,f 0⟩
theorem LgM.inn(h:LgM w W 1 a p U D S L):W.cell? ⟨a,0,none⟩=some (.int .i32 1)∧W.frozen? ⟨a,0,none⟩=false:=by
 obtain⟨U',h1,_⟩:=h;exact h1.inn
theorem Qeu(w:World)(ht:Tb w)(h:Lg w 0 a p U D S L)(he:S.ends.length=L.length)(ao:OA)(b len cap:Nat)(xs:LB)(hr:RdS w ao b 0 len xs)(hlen:len<=9223372036854775806)(n3:0<len -> ¬U b)(hR:RmA D S L xs)(n:Nat)(e0:Int)(hA:apD D S L xs=(D',S',L',n,e0)) :
  Calls prog 14 #[Zv a,.slice ao len cap] w fun e w'=>e= .returned (.tuple #[.int .i64 n,.int .i64 e0])∧LgM w w' 0 a p U D' S' L':=by
 obtain⟨w1,hw1⟩:∃W,(w.alloc (.cells #[Zv a] 28)).alloc (.cells #[.slice ao len cap] 22)=W:=⟨_,rfl⟩;have u1:Below w.heap.size w w1:=by rw[<-hw1];exact bal (bal (Lc _ _) _) _
 have k0:w1.heap[w.heap.size]? = some (.cells #[Zv a] 28 (0,0)):=by rw[<-hw1];exact St.new0 _ _ _
 have k1:w1.heap[w.heap.size+1]? = some (.cells #[.slice ao len cap] 22 (0,0)):=by rw[<-hw1];exact St.new2 _ _ _
 have h1:=h.next u1;obtain⟨q,m,r,vs,hrow,_⟩:=h1.row;obtain⟨c0,c2,_,_,_,cf⟩:=YI hrow;have hax:=h.lt h.own;have hset:∀b,b≠a->(w1.setCell ⟨a,0,none⟩ (.int .i32 1)).heap[b]? = w1.heap[b]? := fun b hb=>Below.heap_setCell _ _ _ _ hb
 have hnU:∀b,w.heap.size<=b -> ¬U b:=fun b hb hu=>by have:=h.lt hu;omega
 have HW:Hid (Calls prog 39 #[Zv a,.func (.func 40) #[] #[.pointer (some ⟨w.heap.size+1,0,none⟩),Zv w.heap.size]] w1 fun e w'=>e= .returned (.tuple #[.int .i64 n,.int .i64 e0])∧LgM w w' 0 a p U D' S' L'):=by
  refine(Qgi w1 a q _ _ (.inl rfl) c0 (cf 0) c2 (fun x y W=>x= .int .i64 n∧y= .int .i64 e0∧LgM (w1.setCell ⟨a,0,none⟩ (.int .i32 1)) W 1 a p U D' S' L') ?_).mono fun e w' z=> ?_
  ·have t1:Tb (w1.setCell ⟨a,0,none⟩ (.int .i32 1)):=(ht.next u1).upo (U:=U) ((St.Upo.refl U w1).set a 0 _ (.inl h.own)) (by obtain⟨_,_,_,_,_,_,_,_,hn⟩:=h;exact hn)
   have hx:=hr.hl;refine(Qd4 (w1.setCell ⟨a,0,none⟩ (.int .i32 1)) t1 (h1.set 1) he (w.heap.size+1) w.heap.size ao b len cap xs ⟨hr.hl,hr.ptr,fun j v hv=> ?_,hr.sz⟩ hlen ?_ ?_ (hnU _ (by omega)) (hnU _ (by omega)) n3 hR n e0 hA).mono fun e w' z=> ?_
   ·have hc:=hr.rng j v hv;have hlt:=Ll _ _ hc;have hbU:¬U b:=n3 (by have:=(List.getElem?_eq_some_iff.1 hv).1;rw[LI] at this;omega)
    have hba:b≠a:=fun e=>hbU (e ▸ h.own)
    exact(Lq (a:=⟨b,0+j,none⟩) ((hset b hba).trans (u1.block b hlt))).trans hc
   ·rw[cell_of_row _ (w.heap.size+1) 0 _ _ (0,0) ((hset _ (by omega)).trans k1)];rfl
   ·rw[cell_of_row _ w.heap.size 0 _ _ (0,0) ((hset _ (by omega)).trans k0)];rfl
   ·exact⟨_,_,z.1,z.2.inn.1,z.2.inn.2,rfl,rfl,z.2⟩
  ·obtain⟨x,y,w2,rfl,⟨rfl,rfl,z2⟩,rfl⟩:=z;exact⟨rfl,LgM.whole h u1 z2⟩
 have b0:w1.cell? ⟨w.heap.size,0,none⟩=some (Zv a):=by rw[cell_of_row _ _ 0 _ _ (0,0) k0];rfl
 clear ht h he hr hR hA h1 k1 hrow c0 c2 cf hset hnU n3 u1 k0;have HW1:=Qc hw1;clear hw1
 go_enter func14,ntmps14
 go_upto_region 1 with (fail)
 rw[HW1.out]
 go_wp2_with (go_at_call 39;(with_reducible refine HW.out.mono ?_);rintro e w2 ⟨rfl,t2⟩)
 go_ret2
 exact⟨rfl,t2⟩
end
def gtD(D:St.DV)(S:St.SV)(L:LB)(i:Nat):BA×Int :=
 if (St.J8 D S i).2≠0 then (⟨#[]⟩,(St.J8 D S i).2) else if sm (St.tx (St.J8 D S i).1)=(smL L).getD i ByteArray.empty then (St.tx (St.J8 D S i).1,0) else (⟨#[]⟩,190)
theorem Qox{D:St.DV}{S:St.SV}{i:Nat} : (St.J8 D S i).1.length<=1048576:=by
 unfold St.J8
 split
 ·exact Lm _
 ·split
  ·exact Lm _
  ·split
   ·cases h:St.Rc.rpay (St.OE D S i).1 with
    | none=>exact Lm _
    | some x=>exact(St.Rc.rpay_len h).1
   ·exact Lm _
theorem Qow{D:St.DV}{S:St.SV}{i:Nat}(h:(St.J8 D S i).2=0):i<S.ends.length:=by
 unfold St.J8 at h
 by_cases e:S.ends.length<=i
 ·rw[Lo e] at h;cases h
 ·omega
section
variable {w W w1:World} {a p:Nat} {U:Nat->Prop} {D D':St.DV} {S S':St.SV} {L L':LB} {g:Int}
theorem Lkd.cell{b i:Nat}{v:Value}(h:Lkd a w W)(hc:w.cell? ⟨b,i,none⟩=some v)(hb:b≠a):W.cell? ⟨b,i,none⟩=some v :=
 (Lq (a:=⟨b,i,none⟩) (h.oth b (Ll _ _ hc) hb)).trans hc
theorem Tb.lkd(ht:Tb w)(h:Lg w 0 a p U D S L)(hL:Lkd a w W):Tb W:=by
 refine ht.upo (U:=U) ⟨hL.os,hL.tape,hL.output,hL.size,fun b hb hn=>hL.oth b hb (fun e=>hn (e ▸ h.own))⟩ ?_
 obtain⟨_,_,_,_,_,_,_,_,hn⟩:=h;exact hn
theorem Qjv(w:World)(ht:Tb w)(h:Lg w 1 a p U D S L)(he:S.ends.length=L.length)(bl bi:Nat)(cl:w.cell? ⟨bl,0,none⟩=some (Zv a))(i:Nat)(hi:i<18446744073709551616)(ci:w.cell? ⟨bi,0,none⟩=some (.int .u64 i))(t:BA)(e0:Int)(hg:gtD D S L i=(t,e0)) :
  Calls prog 23 #[Zv bl,Zv bi] w fun e w'=>e= .returned (.tuple #[.string t,.int .i64 e0])∧Below w.heap.size w w':=by
 obtain⟨q,T,c2,hs⟩:=h.sk;obtain⟨_,_,_,vs,hrow,_,hown⟩:=h.row;obtain⟨_,_,_,_,c5,_⟩:=YI hrow;obtain⟨x,hx⟩:∃x,St.tx (St.J8 D S i).1=x:=⟨_,rfl⟩;obtain⟨y,hy⟩:∃y,(St.J8 D S i).2=y:=⟨_,rfl⟩;have hxs:x.size<=1048576:=by rw[<-hx,St.Ji];exact Qox
 have hin:=Qow (D:=D) (S:=S) (i:=i);unfold gtD at hg;rw[hx,hy] at hg;rw[hy] at hin;obtain⟨s,hsx⟩:∃s,sm x=s:=⟨_,rfl⟩;rw[hsx] at hg;have HI:Hid (∀W,Below w.heap.size w W->Calls prog 24 #[Zv q,.int .u64 i] W fun e w'=>e= .returned (.tuple #[.string x,.int .i64 y])∧Below w.heap.size w w'):=fun W hW=>(St.QjD W (hs.next hW) i hi x y hx hy).mono fun e w' z=>⟨z.1,Qa hW z.2⟩
 have HSm:Hid (∀W,Below w.heap.size w W->Calls prog 25 #[.string x] W fun e w'=>e= .returned (.string s)∧Below w.heap.size w w'):=fun W hW=>(QcO W (ht.next hW) x hxs s hsx).mono fun e w' z=>⟨z.1,Qa hW z.2⟩
 have hax:=Ll _ _ c2;have hl:=Ll _ _ cl;have hb:=Ll _ _ ci;have HC:Hid (∀W,Below w.heap.size w W->W.cell? ⟨bl,0,none⟩=some (Zv a)∧W.cell? ⟨a,2,none⟩=some (Zv q)∧W.cell? ⟨bi,0,none⟩=some (.int .u64 i)):=fun W hW=>⟨(hW.cell (p:=⟨bl,0,none⟩) hl).trans cl,(hW.cell (p:=⟨a,2,none⟩) hax).trans c2,(hW.cell (p:=⟨bi,0,none⟩) hb).trans ci⟩
 obtain⟨ao,bs,cap,rfl,hrs,_,_⟩:=QJ hown (fun z hz=>by
  obtain⟨y,_,rfl⟩:=List.mem_map.1 hz;rw[Qg7];decide)
 have hsl:(smL L).length=L.length:=by simp[smL]
 have HV:Hid (∀W,Below w.heap.size w W->W.cell? ⟨bl,0,none⟩=some (Zv a)∧W.cell? ⟨a,5,none⟩=some (.slice ao (smL L).length cap)∧W.cell? ⟨bi,0,none⟩=some (.int .u64 i)∧(y=0->ao=Zp bs∧i<(smL L).length∧W.cell? ⟨bs,i,none⟩=some (.string ((smL L).getD i ByteArray.empty)))):=fun W hW=>
  ⟨(HC.out W hW).1,(hW.cell (p:=⟨a,5,none⟩) hax).trans c5,(HC.out W hW).2.2,fun h0=>by
   have hlt:i<(smL L).length:=by have:=hin h0;omega
   have:=(hrs.next hW (Lb _)).at hlt;rw[Lp] at this;exact⟨hrs.ptr (by omega),hlt,this⟩⟩
 obtain⟨c6,c7,c8⟩:=HC.out w (Lc _ _);have u:Below w.heap.size w w.drew:=(Lc _ _).drew;clear h hs hrow hown c5 c2 hx hy hxs ht cl ci hax hl hb hrs hin he hsx
 go_enter func23,ntmps23
 go_upto_region 1 with (fail)
 go_region_held3 (fun Z=>Z.cell? ⟨bl,0,none⟩=some (Zv a)∧Z.cell? ⟨a,2,none⟩=some (Zv q)∧Z.cell? ⟨bi,0,none⟩=some (.int .u64 i)) (first|assumption|(with_reducible exact HC.out _ u)) (first
  | (go_at_call 24;(with_reducible refine(HI.out _ u).mono ?_);rintro e w1 ⟨rfl,u⟩))
 all_goals
  by_cases h0:y=0
  ·subst h0;obtain⟨v1,v2,v3,v4⟩:=HV.out _ u;obtain⟨rfl,v5,v6⟩:=v4 rfl;obtain⟨z,hz⟩:∃z,(smL L).getD i ByteArray.empty=z:=⟨_,rfl⟩;rw[hz] at v6 hg HV;have hg:=Qc hg;have HV2:Hid (∀W,Below w.heap.size w W->W.cell? ⟨bl,0,none⟩=some (Zv a)∧W.cell? ⟨a,5,none⟩=some (.slice (Zp bs) (smL L).length cap)∧W.cell? ⟨bi,0,none⟩=some (.int .u64 i)∧W.cell? ⟨bs,i,none⟩=some (.string z)):=fun W hW=>by
    obtain⟨a1,a2,a3,a4⟩:=HV.out W hW;exact⟨a1,a2,a3,(a4 rfl).2.2⟩
   have hii:(i:Int)<((smL L).length:Int):=by omega
   obtain⟨n,hn⟩:∃n,(smL L).length=n:=⟨_,rfl⟩;rw[hn] at v2 HV2 hii;clear HV hz HI HC c6 c7 c8 v4 hn hsl;replace u:Below w.heap.size w w1.drew:=u.drew
   go_upto_region 4 with (fail)
   go_region_held3 (fun Z=>Z.cell? ⟨bl,0,none⟩=some (Zv a)∧Z.cell? ⟨a,5,none⟩=some (.slice (Zp bs) n cap)∧Z.cell? ⟨bi,0,none⟩=some (.int .u64 i)∧Z.cell? ⟨bs,i,none⟩=some (.string z)) (first|assumption|(with_reducible exact HV2.out _ u)) (first
    | (go_at_call 25;(with_reducible refine(HSm.out _ u).mono ?_);rintro e w2 ⟨rfl,u⟩))
   all_goals
    have hg:=hg.out;rw[Le (fun q=>q rfl)] at hg
    by_cases h1:s=z
    ·subst h1;rw[Lo rfl] at hg;injection hg with e1 e2
     subst e1 e2;rw[show(!(s.toList == s.toList))=false by simp]
     clear HV2 HSm v1 v2 v3 v6;go_wp2
     go_ret2
     exact⟨rfl,u⟩
    ·rw[Le h1] at hg;injection hg with e1 e2
     subst e1 e2;rw[show(!(s.toList == z.toList))=true by rw[QiK h1];rfl]
     clear HV2 HSm v1 v2 v3 v6 h1;go_wp2
     go_ret2
     exact⟨rfl,u⟩
  ·rw[Lo h0] at hg;injection hg with e1 e2
   subst e1 e2;have h0b:(y == 0)=false:=by simpa using h0
   clear HV HC HSm HI;go_wp2
   go_ret2
   exact⟨rfl,u⟩
theorem QjL(w:World)(ht:Tb w)(h:Lg w 0 a p U D S L)(he:S.ends.length=L.length)(i:Nat)(hi:i<18446744073709551616)(t:BA)(e0:Int)(hg:gtD D S L i=(t,e0)) :
  Calls prog 8 #[Zv a,.int .u64 i] w fun e w'=>e= .returned (.tuple #[.string t,.int .i64 e0])∧Below w.heap.size w w':=by
 obtain⟨w1,hw1⟩:∃W,(w.alloc (.cells #[Zv a] 28)).alloc (.cells #[.int .u64 i] 31)=W:=⟨_,rfl⟩;have u1:Below w.heap.size w w1:=by rw[<-hw1];exact bal (bal (Lc _ _) _) _
 have k0:w1.heap[w.heap.size]? = some (.cells #[Zv a] 28 (0,0)):=by rw[<-hw1];exact St.new0 _ _ _
 have k1:w1.heap[w.heap.size+1]? = some (.cells #[.int .u64 i] 31 (0,0)):=by rw[<-hw1];exact St.new2 _ _ _
 have b0:w1.cell? ⟨w.heap.size,0,none⟩=some (Zv a):=by rw[cell_of_row _ _ 0 _ _ (0,0) k0];rfl
 have b1:w1.cell? ⟨w.heap.size+1,0,none⟩=some (.int .u64 i):=by rw[cell_of_row _ _ 0 _ _ (0,0) k1];rfl
 have h1:=h.next u1;obtain⟨q,m,r,vs,hrow,_⟩:=h1.row;have hax:=h.lt h.own;have HW:Hid (Calls prog 22 #[Zv a,.func (.func 23) #[] #[Zv w.heap.size,.pointer (some ⟨w.heap.size+1,0,none⟩)]] w1 fun e w'=>e= .returned (.tuple #[.string t,.int .i64 e0])∧Below w.heap.size w w') :=
  (Qgk w1 a _ _ _ (.inl rfl) hrow _ _ fun W hW=>Qjv W ((ht.next u1).lkd h1 hW) (h1.lkd hW) he w.heap.size (w.heap.size+1) (hW.cell b0 (by omega)) i hi (hW.cell b1 (by omega)) t e0 hg).mono fun e w' z=>⟨z.1,Qa u1 z.2⟩
 clear ht h h1 hrow u1 k0 k1 hg b1 hax;have HW1:=Qc hw1;clear hw1
 go_enter func8,ntmps8
 go_upto_region 1 with (fail)
 rw[HW1.out]
 go_wp2_with (go_at_call 22;(with_reducible refine HW.out.mono ?_);rintro e w2 ⟨rfl,t2⟩)
 go_ret2
 exact⟨rfl,t2⟩
end
section
variable {a q p m r:Nat} {vr vs:Value} {T:Nat->Prop} {D:St.DV} {S:St.SV} {L:LB}
theorem JH(w:World)(h:Led w 0 a q p m r vr vs T D S L)(hS:S.ends=[]) :
  Calls prog 38 #[Zv a] w fun e w'=>e= .returned (.int .i64 0)∧w=w':=by
 have HSz:Hid (Calls prog 51 #[Zv q] w fun e w'=>e= .returned (.int .u64 0)∧w=w'):=by
  have:=St.JP w h.sk;rw[hS] at this;exact this.mono fun e w' z=>⟨z.1,z.2.symm⟩
 have hc2:=h.cells.2.1;clear h hS
 go_enter func38,ntmps38
 go_wp2_with (go_at_call 51;(with_reducible refine HSz.out.mono ?_);rintro e w1 ⟨rfl,rfl⟩)
 go_loopg [3,14] 0 (fun g v3 v14 wr=>g=0∧v14= .int .u64 0∧v3= .int .u64 0∧Hid (w=wr))
 case atStart=>go_light;exact⟨rfl,rfl,rfl,rfl⟩
 case round=>
  obtain⟨rfl,rfl,rfl,HE⟩:=hrel;clear HSz;go_wp2
  go_ret
  exact⟨rfl,HE.out⟩
end
section
variable {w W:World} {a q p m:Nat} {S0 T:Nat->Prop} {D:St.DV} {S:St.SV} {B:Nat} {L:LB}
theorem QmM(k:Nat):pkL k []=[]:=Qds _ 41 0 (by decide)
theorem QhS(w:World)(ht:Tb w)(R:Nat)(hR:R<=268435456)(h:St.Dsk w p S0 (St.U8 R))(hn:¬S0 2)(k:Nat)(k1:1<=k)(k2:k<=32) :
  Calls prog 13 #[Zv p,.int .i64 k] w fun e w'=> ∃a U,e= .returned (.tuple #[Zv a,.int .i64 0])∧Lg w' 0 a p U (St.nD R 3) ⟨k,[],0#32,false⟩ []∧(∀b,U b->S0 b∨w.heap.size<=b)∧St.Upo S0 w w':=by
 have HO:=Qc (St.QhI w R hR h k k1 k2);have HF:Hid (∀W:World,Calls prog 36 #[.int .i64 k] W fun e w'=> ∃m,e= .returned (.tuple #[.pointer (some ⟨m+1,0,none⟩),.int .i64 0])∧Frs w' m k []∧W.heap.size<=m∧Below W.heap.size W w'):=fun W=>(Ql1 W k (by omega) (by omega)).mono fun e w' z=>⟨_,z.1,z.2.1,Lb _,z.2.2⟩
 have HP:Hid (∀W:World,Calls prog 37 #[.int .i64 k] W fun e w'=> ∃r vr,e= .returned (.tuple #[Zv r,.int .i64 0])∧Kp.Rg w' r vr k 0 []∧W.heap.size<=r∧(∀g,vr.ownBlock=some g->W.heap.size<=g)∧Below W.heap.size W w'):=fun W=>(Kp.QjI W k 0 (by unfold Kp.fe;rw[Le (by omega),Le (by omega),Le];refine fun q=>q.elim (fun q=>q rfl) (fun q=>q fun s hs=>by cases hs))).mono fun e w' z=>by
  obtain⟨r,vr,z1,z2,z3,z4,z5⟩:=z.ok;exact⟨r,vr,z1,z2,z3,z4,z5⟩
 have HT:Hid (∀(w1 w2 w3:World) q T m r vr,St.Sk w1 q p T (St.nD R 3) ⟨k,[],0#32,false⟩->(∀y,T y->S0 y∨w.heap.size<=y)->St.Upo S0 w w1->Frs w2 m k []->w1.heap.size<=m->Below w1.heap.size w1 w2->Kp.Rg w3 r vr k 0 []->w2.heap.size<=r->(∀g,vr.ownBlock=some g->w2.heap.size<=g)->Below w2.heap.size w2 w3 ->
   Calls prog 38 #[Zv w3.heap.size] (w3.alloc (.cells #[.int .i32 0,.int .u32 0,Zv q,.pointer (some ⟨m+1,0,none⟩),Zv r,.slice none 0 0] 64)) fun e w'=>e= .returned (.int .i64 0) ∧ ∃U,Lg w' 0 w3.heap.size p U (St.nD R 3) ⟨k,[],0#32,false⟩ []∧(∀b,U b->S0 b∨w.heap.size<=b)∧St.Upo S0 w w'):=fun w1 w2 w3 q T m r vr h1 h2 h3 h4 h5 h6 h7 h8 h9 h10=>by
  obtain⟨w4,hw4⟩:∃W,w3.alloc (.cells #[.int .i32 0,.int .u32 0,Zv q,.pointer (some ⟨m+1,0,none⟩),Zv r,.slice none 0 0] 64)=W:=⟨_,rfl⟩;have u4:Below w3.heap.size w3 w4:=by rw[<-hw4];exact bal (Lc _ _) _
  have k4:w4.heap[w3.heap.size]? = some (rwL 0 (.int .u32 0) (Zp q) (.pointer (some ⟨m+1,0,none⟩)) (Zv r) (.slice none 0 0)):=by rw[<-hw4];exact Lr w3 _
  rw[hw4];have u13:Below w1.heap.size w1 w3:=Qa h6 h10;have u14:Below w1.heap.size w1 w4:=Qa u13 u4;have s1:=h3.size;have s2:=h6.size;have s3:=h10.size;have hr3:=h7.lt;have htb:=ht.lt;have hm2:=h4.lt;have hlo:∀b,Lef w3.heap.size m r vr (.slice none 0 0) b->w1.heap.size<=b:=fun b hl=>by
   rcases hl with e|e|e|e|e|e
   ·omega
   ·omega
   ·omega
   ·omega
   ·have:=h9 b e;omega
   ·cases e
  have hld:Led w4 0 w3.heap.size q p m r vr (.slice none 0 0) T (St.nD R 3) ⟨k,[],0#32,false⟩ []:=by
   refine⟨k4,h1.next u14,?_,?_,⟨rfl,.inl ⟨rfl,rfl⟩⟩,(by intro s hs;cases hs),fun x hx hl=> ?_,fun x _ e=>by cases e⟩
   ·exact h4.next (Qa h10 u4) (Lb _)
   ·rw[QmM];exact h7.next u4 (Lb _)
   ·have:=h1.lt hx;have:=hlo x hl;omega
  refine(JH w4 hld rfl).mono fun e w' z=> ?_
  obtain⟨z1,rfl⟩:=z;refine⟨z1,fun x=>T x∨Lef w3.heap.size m r vr (.slice none 0 0) x,⟨q,m,r,vr,_,T,hld,fun _=>Iff.rfl,fun e=> ?_⟩,fun b hb=> ?_,h3.next u14⟩
  ·rcases e with e|e
   ·exact(h2 _ e).elim hn (fun e=>by omega)
   ·have:=hlo _ e;omega
  ·rcases hb with e|e
   ·exact h2 b e
   ·have:=hlo b e;exact .inr (by omega)
 clear h ht hn k1 k2 hR
 go_enter func13,ntmps13
 go_upto_region 7 with (first
  | (go_at_call 35;(with_reducible refine HO.out.mono ?_);rintro e w1 ⟨q,T,rfl,h1,h2,h3⟩)
  | (go_at_call 36;(with_reducible refine(HF.out _).mono ?_);rintro e w2 ⟨m,rfl,h4,h5,h6⟩)
  | (go_at_call 37;(with_reducible refine(HP.out _).mono ?_);rintro e w3 ⟨r,vr,rfl,h7,h8,h9,h10⟩))
 have HT1:=Qc (HT.out w1 w2 w3 q T m r vr h1 h2 h3 h4 h5 h6 h7 h8 h9 h10);obtain⟨b0,hb0⟩:∃b,w3.heap.size=b:=⟨_,rfl⟩;rw[hb0] at HT1 ⊢;clear HT HP HF HO h1 h2 h3 h4 h5 h6 h7 h8 h9 h10 hb0
 go_wp2_with (go_at_call 38;(with_reducible refine HT1.out.mono ?_);rintro e w5 ⟨rfl,t5⟩)
 go_ret2
 obtain⟨U,t5⟩:=t5;exact⟨_,U,rfl,t5⟩
end
end Go.Proofs.YtoblgjledefdbabGreatDoor
