/- Own work. -/
import Derived.Test.YtoblgjledefdbaaGreatDoorQc22
set_option maxRecDepth 100000
set_option maxHeartbeats 8000000
namespace Go.Proofs.YtoblgjledefdbaaGreatDoor
open Go.RowKit
attribute [local go_sem ↓] Go.wp_at_zero Go.wp_at_succ
open Go.Proofs.Tryz
section
open Cv (RdC zl cU tno)
open Pl (pw)
variable {GB RB:Nat}
structure Rw(w:World)(RB q:Nat)(K:Int)(D:LB):Prop where
 ex:∃da db dO dc,w.heap[q]? = some (.cells #[.int .i64 K,.slice da D.length dc] 301 (0,0))∧RdS w da db dO D.length D∧D.length<=dc∧(da=none->dc=0)∧(0<D.length->db<RB)
section
variable {w W:World} {q:Nat} {K:Int} {D:LB}
theorem Rw.lt(h:Rw w RB q K D):q<w.heap.size:=by
 obtain⟨da,db,dO,dc,h1,_⟩:=h.ex;exact(Array.getElem?_eq_some_iff.1 h1).1
theorem Rw.next(h:Rw w RB q K D)(hb:Below w.heap.size w W):Rw W RB q K D:=by
 have hl:=h.lt;obtain⟨da,db,dO,dc,h1,h2,h3,h4⟩:=h.ex;exact⟨da,db,dO,dc,(hb.block q hl).trans h1,h2.next hb (La _),h3,h4⟩
theorem Rw.cell(h:Rw w RB q K D){j:Nat}{u:Value}(hc:w.cell? ⟨q,j,none⟩=some u):u= .int .i64 K ∨ ∃a n c,u= .slice a n c:=by
 obtain⟨da,db,dO,dc,h1,_⟩:=h.ex;rw[cell_of_row w q j _ _ (0,0) h1] at hc
 match j,hc with
 | 0,hc=>exact .inl (by simpa using hc.symm)
 | 1,hc=>exact .inr ⟨da,_,dc,by simpa using hc.symm⟩
 | j+2,hc=>simp at hc
theorem U5(hb:Bx q w W){b j:Nat}{u:Value}(hc:w.cell? ⟨b,j,none⟩=some u)(hne:b≠q):W.cell? ⟨b,j,none⟩=some u :=
 (LI (a:=⟨b,j,none⟩) (hb.block b (Lf w _ hc) hne)).trans hc
theorem RdU.bx{ao:OA}{b off len:Nat}{l:List Nat}(r:RdU w ao b off len l)(h:Rw w RB q K D)(hb:Bx q w W):RdU W ao b off len l :=
 ⟨r.hl,r.ptr,fun j v hv=>by
  have hc:=r.rng j v hv;refine U5 hb hc fun e=> ?_
  subst e;obtain⟨x,_,hx⟩:=List.mem_map.1 (Nt hv)
  rcases h.cell hc with e|⟨a,n,c,e⟩
  ·rw[<-hx] at e;cases e
  ·rw[<-hx] at e;cases e⟩
theorem RdS.bx{ao:OA}{b off len:Nat}{l:LB}(r:RdS w ao b off len l)(h:Rw w RB q K D)(hb:Bx q w W):RdS W ao b off len l:=by
 refine⟨r.hl,r.ptr,fun j v hv=> ?_,r.sz⟩
 have hc:=r.rng j v hv;refine U5 hb hc fun e=> ?_
 subst e;obtain⟨x,_,hx⟩:=List.mem_map.1 (Nt hv)
 rcases h.cell hc with e|⟨a,n,c,e⟩
 ·rw[<-hx] at e;cases e
 ·rw[<-hx] at e;cases e
theorem Gv.bx{v:Value}{S:List Nat}{X:LB}(g:Gv w GB v S X)(h:Rw w RB q K D)(hb:Bx q w W):Gv W GB v S X:=by
 obtain⟨sa,sb,so,sc,xa,xb,xo,xc,e,r1,r2,h1,h2,h3,h4⟩:=g.ex;exact⟨sa,sb,so,sc,xa,xb,xo,xc,e,r1.bx h hb,r2.bx h hb,h1,h2,h3,h4⟩
theorem Tb.bx(ht:Tb w)(h:Rw w RB q K D)(hb:Bx q w W):Tb W :=
 ⟨fun j u hu=>by
  have hc:=ht.rs j u hu;refine U5 hb hc fun e=> ?_
  rw[e] at hc;obtain⟨x,_,hx⟩:=List.mem_map.1 (Nt hu)
  rcases h.cell hc with e|⟨a,n,c,e⟩
  ·rw[<-hx] at e;cases e
  ·rw[<-hx] at e;cases e⟩
end
theorem Rw.take{w:World}{q:Nat}{K:Int}{D:LB}(h:Rw w RB q K D)(h0:0<D.length):∃db dO dc,w.cell? ⟨q,0,none⟩=some (.int .i64 K)∧w.cell? ⟨q,1,none⟩=some (.slice (some ⟨db,dO,none⟩) D.length dc)∧w.frozen? ⟨q,1,none⟩=false∧w.cell? ⟨db,dO,none⟩=some (.string (D.getD 0 ByteArray.empty))∧D.length<=dc ∧ ∀ax,(if dc=1 then some ⟨db,dO,none⟩ else some (Addr.add ⟨db,dO,none⟩ 1))=ax->Rw (w.setCell ⟨q,1,none⟩ (.slice ax (D.length-1) (dc-1))) RB q K (D.drop 1):=by
 obtain⟨da,db,dO,dc,h1,h2,h3,h4,h5⟩:=h.ex;obtain rfl:=h2.ptr h0;have c0:w.cell? ⟨db,dO+0,none⟩=some (.string (D.getD 0 ByteArray.empty)):=h2.rng 0 _ (by simp[List.getD_eq_getElem?_getD,h0])
 refine⟨db,dO,dc,by rw[cell_of_row w q 0 _ _ (0,0) h1];rfl,by rw[cell_of_row w q 1 _ _ (0,0) h1];rfl,frozen_of_row w q 1 _ _ h1,c0,h3,fun ax hax=> ?_⟩
 have hd:=OR h2 (H:=1) h3 (by omega) h4 (ax:=ax) (by rw[<-hax];rfl)
 have hl:(D.drop 1).length=D.length-1:=LS;have hne:db≠q:=fun e=>by
  subst e
  rcases h.cell c0 with e|⟨a,n,c,e⟩ <;> cases e
 refine⟨ax,db,dO+1,dc-1,?_,?_,by omega,hd.2,fun _=>h5 h0⟩
 ·rw[hl];exact Lp w q 1 _ _ _ h1
 ·exact hd.1.same (((ChT.refl (fun b=>b=q) w).set q 1 _ rfl).block db hne)
theorem QX(w:World)(o1 o2:Obj):((w.alloc o1).alloc o2).heap[w.heap.size]? = some o1∧((w.alloc o1).alloc o2).heap[w.heap.size+1]? = some o2:=by
 have e2:=Lt (w.alloc o1) o2;rw[LN] at e2;exact⟨by rw[Cv.QL o2 (by rw[LN];omega)];exact Lt w o1,e2⟩
theorem Qhf(w:World)(q:Nat)(K:Int)(D:LB)(hr:Rw w RB q K D)(h0:0<D.length)(h k:Nat)(sa xa:OA)(sc xn xc:Nat)(d:BA)(hd:D.getD 0 ByteArray.empty=d)(E:LB)(hE:D.drop 1=E) :
  Calls prog 241 #[Pq q,.agg #[.int .i64 h,.int .u64 k],.agg #[.slice sa 0 sc,.slice xa xn xc]] w fun e w'=>e= .returned (.string d)∧Rw w' RB q K E∧Bx q w w':=by
 obtain⟨o1,ho1⟩:∃o1,Obj.cells #[.int .i64 h,.int .u64 k] 249 (0,0)=o1:=⟨_,rfl⟩;obtain⟨o2,ho2⟩:∃o2,Obj.cells #[.slice sa 0 sc,.slice xa xn xc] 299 (0,0)=o2:=⟨_,rfl⟩;have hb:=bal (bal (Lb w.heap.size w) o1) o2;obtain⟨e1,e2⟩:=QX w o1 o2;have hq:=hr.lt;obtain⟨W,hW⟩:∃W,(w.alloc o1).alloc o2=W:=⟨_,rfl⟩;rw[hW] at hb e1 e2;rw[<-ho1] at e1 hW;rw[<-ho2] at e2 hW;clear ho1 ho2 o1 o2;obtain⟨db,dO,dc,c0,c1,f1,c2,h1,HT⟩:=(hr.next hb).take h0;rw[hd] at c2;have g0:W.cell? ⟨w.heap.size+1,0,none⟩=some (.slice sa 0 sc):=by rw[cell_of_row _ _ 0 _ _ (0,0) e2];rfl
 have HQ:=Qd (LO HT (LO hb hE));have n1:(1:Int)<=(D.length:Int):=by omega
 have n2:(0:Int)<(D.length:Int):=by omega
 have n3:(1:Int)<=(dc:Int):=by omega
 clear hr HT hd hb hE e1 e2
 by_cases hdc:dc=1
 ·subst hdc
  go_enter func241,ntmps241;go_wp2
  go_ret
  exact⟨rfl,by have:=HQ.out.1 _ (Lm trivial);rw[<-HQ.out.2.2];rwa [show D.length-1=0 by omega] at this,((Bx.refl q w).next HQ.out.2.1).put ((ChT.refl _ W).set q 1 _ rfl)⟩
 ·go_enter func241,ntmps241;go_wp2
  go_ret
  exact⟨rfl,by rw[<-HQ.out.2.2];exact HQ.out.1 _ (Ld hdc),((Bx.refl q w).next HQ.out.2.1).put ((ChT.refl _ W).set q 1 _ rfl)⟩
theorem Qfa(w:World)(ht:Tb w)(q:Nat)(K:Int)(D:LB)(hr:Rw w RB q K D)(k:Nat)(sa:OA)(n sc xb xo xn xc:Nat)(h0:0<n)(hx0:0<xn)(x:BA)(hx:w.cell? ⟨xb,xo,none⟩=some (.string x))(hs:x.size<2305843009213693952)(d:BA)(hd:dg (clk K) (Yx x)=d) :
  Calls prog 241 #[Pq q,.agg #[.int .i64 0,.int .u64 k],.agg #[.slice sa n sc,.slice (some ⟨xb,xo,none⟩) xn xc]] w fun e w'=>e= .returned (.string d)∧Rw w' RB q K D∧Bx q w w':=by
 obtain⟨o1,ho1⟩:∃o1,Obj.cells #[.int .i64 0,.int .u64 k] 249 (0,0)=o1:=⟨_,rfl⟩;obtain⟨o2,ho2⟩:∃o2,Obj.cells #[.slice sa n sc,.slice (some ⟨xb,xo,none⟩) xn xc] 299 (0,0)=o2:=⟨_,rfl⟩;have hb:=bal (bal (Lb w.heap.size w) o1) o2;obtain⟨e1,e2⟩:=QX w o1 o2;obtain⟨W,hW⟩:∃W,(w.alloc o1).alloc o2=W:=⟨_,rfl⟩;rw[hW] at hb e1 e2;rw[<-ho1] at e1 hW;rw[<-ho2] at e2 hW;clear ho1 ho2 o1 o2;have hR:=hr.next hb;obtain⟨da,db,dO,dc,h1,h2,h3,h4⟩:=hR.ex;have c0:W.cell? ⟨q,0,none⟩=some (.int .i64 K):=by rw[cell_of_row W q 0 _ _ (0,0) h1];rfl
 have g0:W.cell? ⟨w.heap.size+1,0,none⟩=some (.slice sa n sc):=by rw[cell_of_row _ _ 0 _ _ (0,0) e2];rfl
 have g1:W.cell? ⟨w.heap.size+1,1,none⟩=some (.slice (some ⟨xb,xo,none⟩) xn xc):=by rw[cell_of_row _ _ 1 _ _ (0,0) e2];rfl
 have g2:W.cell? ⟨w.heap.size,0,none⟩=some (.int .i64 0):=by rw[cell_of_row _ _ 0 _ _ (0,0) e1];rfl
 have g3:W.cell? ⟨xb,xo,none⟩=some (.string x):=(hb.cell (p:=⟨xb,xo,none⟩) (Lf w _ hx)).trans hx;have HL:=OF W.drew (ht.next hb.drew) K x hs d hd;have HQ:=Qd (LO hR hb);have n0:¬(n:Int)=0:=by omega
 have n1:(0:Int)<(xn:Int):=by omega
 clear hr hd hb e1 e2 h1 h2 h3 h4 hR ht hx hs h0 hx0
 go_enter func241,ntmps241;go_wp2
 go_region_with (go_at_call 145;with_reducible refine HL.mono ?_;rintro e w1 ⟨rfl,hb1⟩)
 all_goals go_wp2
 all_goals go_ret
 all_goals exact⟨rfl,HQ.out.1.next (Qa (Lb _ W).drew hb1),(Bx.refl q w).next (Qa HQ.out.2.drew hb1)⟩
def Gc(w:World)(p:Nat)(a b:Value):Prop:=w.heap[p]? = some (.cells #[a,b] 299 (0,0))
section
variable {w W:World} {p:Nat} {a b:Value}
theorem Gc.lt(h:Gc w p a b):p<w.heap.size:=(Array.getElem?_eq_some_iff.1 h).1
theorem Gc.next(h:Gc w p a b)(hb:Below w.heap.size w W):Gc W p a b:=(hb.block p h.lt).trans h
theorem Gc.cells(h:Gc w p a b):w.cell? ⟨p,0,none⟩=some a∧w.cell? ⟨p,1,none⟩=some b ∧ ∀j,w.frozen? ⟨p,j,none⟩=false :=
 ⟨by rw[cell_of_row w p 0 _ _ (0,0) h];rfl,by rw[cell_of_row w p 1 _ _ (0,0) h];rfl,fun j=>frozen_of_row w p j _ _ h⟩
theorem Gc.put(h:Gc w p a b)(a' b':Value):Gc ((w.setCell ⟨p,0,none⟩ a').setCell ⟨p,1,none⟩ b') p a' b':=Lp _ p 1 _ _ b' (Lp w p 0 _ _ a' h)
end
theorem Qaa{B:Nat}{a Z:World}(h:Below B a Z){p i:Nat}{v:Value}(hp:B<=p):Below B a (Z.setCell ⟨p,i,none⟩ v) :=
 h.trans (((ChT.refl (fun b=>b=p) Z).set p i v rfl).below (by rintro b rfl;exact hp))
abbrev oz:Obj := .cells #[.slice none 0 0,.slice none 0 0] 299
theorem QcL(V:World):Gc (V.alloc oz) V.heap.size (.slice none 0 0) (.slice none 0 0):=Lt V _
theorem QgD(V:World):Gc (V.alloc oz).drew V.heap.size (.slice none 0 0) (.slice none 0 0):=Lt V _
theorem QcM(V:World):Gc ((V.alloc oz).alloc oz) V.heap.size (.slice none 0 0) (.slice none 0 0)∧Gc ((V.alloc oz).alloc oz) (V.heap.size+1) (.slice none 0 0) (.slice none 0 0):=QX V oz oz
theorem QaN(V:World):Gc ((V.alloc oz).alloc oz).drew V.heap.size (.slice none 0 0) (.slice none 0 0)∧Gc ((V.alloc oz).alloc oz).drew (V.heap.size+1) (.slice none 0 0) (.slice none 0 0):=QX V oz oz
theorem Gv.form{w:World}{v:Value}{S:List Nat}{X:LB}(h:Gv w GB v S X):∃sa n sc xa m xc,v= .agg #[.slice sa n sc,.slice xa m xc]:=by
 obtain⟨sa,sb,so,sc,xa,xb,xo,xc,e,_⟩:=h.ex;exact⟨sa,_,sc,xa,_,xc,e⟩
theorem Gc.other{w W:World}{p:Nat}{a a':OA}{n n' c c':Nat}(h:Gc w p (.slice a n c) (.slice a' n' c'))(hb:ChT (fun b=>b=p) w W){b j:Nat}{u:Value}(hc:w.cell? ⟨b,j,none⟩=some u)(hu:∀a n c,u ≠ .slice a n c):W.cell? ⟨b,j,none⟩=some u:=by
 refine(LI (a:=⟨b,j,none⟩) (hb.block b fun e=> ?_)).trans hc
 subst e;rw[cell_of_row w b j _ _ (0,0) h] at hc
 match j,hc with
 | 0,hc=>exact hu a n c (by simpa using hc.symm)
 | 1,hc=>exact hu a' n' c' (by simpa using hc.symm)
 | j+2,hc=>simp at hc
theorem Gv.put{w W:World}{p:Nat}{a a':OA}{n n' c c':Nat}{v:Value}{S:List Nat}{X:LB}(g:Gv w GB v S X)(h:Gc w p (.slice a n c) (.slice a' n' c'))(hb:ChT (fun b=>b=p) w W):Gv W GB v S X:=by
 obtain⟨sa,sb,so,sc,xa,xb,xo,xc,e,r1,r2,h1,h2,h3,h4⟩:=g.ex;refine⟨sa,sb,so,sc,xa,xb,xo,xc,e,⟨r1.hl,r1.ptr,fun j u hu=>h.other hb (r1.rng j u hu) fun a n c ee=> ?_⟩,⟨r2.hl,r2.ptr,fun j u hu=>h.other hb (r2.rng j u hu) fun a n c ee=> ?_,r2.sz⟩,h1,h2,h3,h4⟩
 ·obtain⟨x,_,hx⟩:=List.mem_map.1 (Nt hu);rw[<-hx] at ee;cases ee
 ·obtain⟨x,_,hx⟩:=List.mem_map.1 (Nt hu);rw[<-hx] at ee;cases ee
abbrev put2(w:World)(p:Nat)(a b:Value):World:=(w.setCell ⟨p,0,none⟩ a).setCell ⟨p,1,none⟩ b
theorem QaU(w:World)(p:Nat)(a b:Value):ChT (fun b=>b=p) w (put2 w p a b):=((ChT.refl (fun b=>b=p) w).set p 0 a rfl).set p 1 b rfl
def Fi(GB B:Nat)(V W:World)(p1 p2:Nat)(a1 b1 a2 b2:Value)(S1 S2:List Nat)(X1 X2:LB):Prop:=Gc W p1 a1 b1∧Gc W p2 a2 b2∧Gv W GB (.agg #[a1,b1]) S1 X1∧Gv W GB (.agg #[a2,b2]) S2 X2∧Below B V W
section
variable {B:Nat} {V wc:World} {a1 b1 a2 b2:Value} {S1 S2:List Nat} {X1 X2:LB} (q1:Gv wc GB (.agg #[a1,b1]) S1 X1) (q2:Gv wc GB (.agg #[a2,b2]) S2 X2) (hb:Below B V wc) (hB:B<=wc.heap.size)
theorem Fi.swap{W:World}{p1 p2:Nat}(h:Fi GB B V W p1 p2 a1 b1 a2 b2 S1 S2 X1 X2):Fi GB B V W p2 p1 a2 b2 a1 b1 S2 S1 X2 X1:=⟨h.2.1,h.1,h.2.2.2.1,h.2.2.1,h.2.2.2.2⟩
include q1 q2 hb hB in
theorem Qgx:Fi GB B V ((wc.alloc (.cells #[a1,b1] 299)).alloc (.cells #[a2,b2] 299)) wc.heap.size (wc.heap.size+1) a1 b1 a2 b2 S1 S2 X1 X2:=by
 have h:=QX wc (.cells #[a1,b1] 299) (.cells #[a2,b2] 299);have hb2:=bal (bal (Lb wc.heap.size wc) (.cells #[a1,b1] 299)) (.cells #[a2,b2] 299);exact⟨h.1,h.2,q1.next hb2,q2.next hb2,hb.trans (hb2.mono hB)⟩
include q1 q2 hb hB in
theorem Qgy{p:Nat}{a a':OA}{n n' c c':Nat}(x:Gc wc p (.slice a n c) (.slice a' n' c'))(hp:B<=p):Fi GB B V ((put2 wc p a1 b1).alloc (.cells #[a2,b2] 299)) p wc.heap.size a1 b1 a2 b2 S1 S2 X1 X2:=by
 have hc:=QaU wc p a1 b1;have hb2:=bal (Lb _ (put2 wc p a1 b1)) (.cells #[a2,b2] 299);have h2:=Lt (put2 wc p a1 b1) (.cells #[a2,b2] 299);rw[hc.size] at h2;exact⟨(x.put a1 b1).next hb2,h2,(q1.put x hc).next hb2,(q2.put x hc).next hb2,(hb.trans (hc.below (B:=B) (by rintro b rfl;exact hp))).trans (hb2.mono (by rw[hc.size];exact hB))⟩
include q1 q2 hb in
theorem Qgz{p1 p2:Nat}{a a':OA}{n n' c c':Nat}{d d':OA}{m m' e e':Nat}(x1:Gc wc p1 (.slice a n c) (.slice a' n' c'))(x2:Gc wc p2 (.slice d m e) (.slice d' m' e'))(hp1:B<=p1)(hp2:B<=p2)(hne:p1≠p2):Fi GB B V (put2 (put2 wc p1 a1 b1) p2 a2 b2) p1 p2 a1 b1 a2 b2 S1 S2 X1 X2:=by
 have hc:=QaU wc p1 a1 b1;have y2:Gc (put2 wc p1 a1 b1) p2 (.slice d m e) (.slice d' m' e'):=(hc.block p2 (Ne.symm hne)).trans x2;have hd:=QaU (put2 wc p1 a1 b1) p2 a2 b2;exact⟨(hd.block p1 hne).trans (x1.put a1 b1),y2.put a2 b2,(q1.put x1 hc).put y2 hd,(q2.put x1 hc).put y2 hd,(hb.trans (hc.below (B:=B) (by rintro b rfl;exact hp1))).trans (hd.below (B:=B) (by rintro b rfl;exact hp2))⟩
end
theorem bnode_two (w:World) (ht:Tb w) (q:Nat) (K:Int) (D:LB) (hr:Rw w RB q K D) (h k:Nat) (hh:h+1<=40) (hk:(k+1)*pw (h+1)<=2^40) (va vx:Value) (S:List Nat) (X:LB) (hg:Gv w GB (.agg #[va,vx]) S X) (hX:X.length=S.length) (hp:Asc S) (h0:S≠[]) (hm:S.length<=8796093022208) (t:Nat) (htt:bl S ((2*k+1)*pw h)=t) (c1 c2:BA) (s1:c1.size<=32) (s2:c2.size<=32) (D1 D2:LB)
    (HI1:∀W v,Tb W->Rw W RB q K D->Gv W GB v (S.take t) (X.take t)->Calls prog 241 #[Pq q,.agg #[.int .i64 h,.int .u64 ((2*k:Nat):Int)],v] W fun e w'=>e= .returned (.string c1)∧Rw w' RB q K D1∧Bx q W w')
    (HI2:∀W v,Tb W->Rw W RB q K D1->Gv W GB v (S.drop t) (X.drop t)->Calls prog 241 #[Pq q,.agg #[.int .i64 h,.int .u64 ((2*k+1:Nat):Int)],v] W fun e w'=>e= .returned (.string c2)∧Rw w' RB q K D2∧Bx q W w')
    (d:BA) (hd:dg (clk K) (Qz c1 c2)=d) :
    Calls prog 241 #[Pq q,.agg #[.int .i64 ((h+1:Nat):Int),.int .u64 k],.agg #[va,vx]] w fun e w'=>e= .returned (.string d)∧Rw w' RB q K D2∧Bx q w w':=by
  obtain⟨o1,ho1⟩:∃o1,Obj.cells #[.int .i64 ((h+1:Nat):Int),.int .u64 k] 249 (0,0)=o1:=⟨_,rfl⟩;obtain⟨o2,ho2⟩:∃o2,Obj.cells #[va,vx] 299 (0,0)=o2:=⟨_,rfl⟩;have hb:=bal (bal (Lb w.heap.size w) o1) o2;obtain⟨e1,e2⟩:=QX w o1 o2;obtain⟨W,hW⟩:∃W,(w.alloc o1).alloc o2=W:=⟨_,rfl⟩;have hWs:W.heap.size=w.heap.size+1+1:=by rw[<-hW];simp
  rw[hW] at hb e1 e2;rw[<-ho1] at e1 hW;rw[<-ho2] at e2 hW;clear ho1 ho2 o1 o2;obtain⟨sa,sb,so,sc,xa,xb,xo,xc,hv,r1,r2,l1,l2,n1,n2,_⟩:=hg.ex;obtain⟨rfl,rfl⟩:va= .slice sa S.length sc∧vx= .slice xa X.length xc:=by
    injection hv with hv
    have:=LW Array.toList hv
    simpa using this
  obtain⟨n,hn⟩:∃n,S.length=n:=⟨_,rfl⟩;have hn0:0<n:=by rw[<-hn];exact List.length_pos_iff.2 h0
  have hG:=hg.next hb;have hR:=hr.next hb;have hT:=ht.next hb;have g0:W.cell? ⟨w.heap.size+1,0,none⟩=some (.slice sa S.length sc):=by rw[cell_of_row _ _ 0 _ _ (0,0) e2];rfl
  have g1:W.cell? ⟨w.heap.size+1,1,none⟩=some (.slice xa X.length xc):=by rw[cell_of_row _ _ 1 _ _ (0,0) e2];rfl
  have b0:W.cell? ⟨w.heap.size,0,none⟩=some (.int .i64 ((h:Int)+1)):=by rw[cell_of_row _ _ 0 _ _ (0,0) e1];rfl
  have b1:W.cell? ⟨w.heap.size,1,none⟩=some (.int .u64 k):=by rw[cell_of_row _ _ 1 _ _ (0,0) e1];rfl
  rw[hn] at g0;rw[hX,hn] at g1;have hkk:k<2^40:=by
    have:=NL (k+1) (Pl.Qw (h+1));omega
  have x1:IntKind.u64.wrap (2*(k:Int))=2*(k:Int):=by rw[IntKind.wrap_u64];omega
  have x2:IntKind.u64.wrap (2*(k:Int)+1)=2*(k:Int)+1:=by rw[IntKind.wrap_u64];omega
  have z1:((n:Int) == 0)=false:=beq_false_of_ne (by omega)
  have z2:((h:Int)+1 == 0)=false:=beq_false_of_ne (by omega)
  have HQ:=Qd (LO hR (LO hb (LO hT hG)));have HW:=Qd hr.lt;rw[hX,hn] at HQ hG hW;clear hr hb e1 e2 hR ht hT hg r1 r2 hv hkk;rw[hX,hn];rw[show((h+1:Nat):Int)=(h:Int)+1 by omega] at *
  go_enter func241,ntmps241
  go_upto_region 9 with (fail)
  obtain⟨o3,ho3⟩:∃o3,Obj.cells #[.int .i64 h,.int .u64 (2*(k:Int))] 249 (0,0)=o3:=⟨_,rfl⟩;obtain⟨o4,ho4⟩:∃o4,Obj.cells #[.int .i64 h,.int .u64 (2*(k:Int)+1)] 249 (0,0)=o4:=⟨_,rfl⟩;obtain⟨e3,e4⟩:=QX W o3 o4;have hb2:=bal (bal (Lb W.heap.size W) o3) o4;obtain⟨V,hV⟩:∃V,(W.alloc o3).alloc o4=V:=⟨_,rfl⟩;rw[hV] at e3 e4 hb2;rw[<-ho3] at e3 hV;rw[<-ho4] at e4 hV;rw[hV];rw[hWs] at e3 e4;clear hV hW;have g0:=(hb2.cell (p:=⟨w.heap.size+1,0,none⟩) (Lf W _ g0)).trans g0;have g1:=(hb2.cell (p:=⟨w.heap.size+1,1,none⟩) (Lf W _ g1)).trans g1;have d0:V.cell? ⟨w.heap.size+1+1,0,none⟩=some (.int .i64 h):=by rw[cell_of_row _ _ 0 _ _ (0,0) e3];rfl
  have d1:V.cell? ⟨w.heap.size+1+1,1,none⟩=some (.int .u64 (2*(k:Int))):=by rw[cell_of_row _ _ 1 _ _ (0,0) e3];rfl
  have f0:V.cell? ⟨w.heap.size+1+1+1,0,none⟩=some (.int .i64 h):=by rw[cell_of_row _ _ 0 _ _ (0,0) e4];rfl
  have f1:V.cell? ⟨w.heap.size+1+1+1,1,none⟩=some (.int .u64 (2*(k:Int)+1)):=by rw[cell_of_row _ _ 1 _ _ (0,0) e4];rfl
  obtain⟨pp,hpp⟩:∃pp,(2*k+1)*pw h=pp:=⟨_,rfl⟩;have hpl:(2*k+1)*pw h<=2^40:=by
    have:=Cv.Ux h k;have:=LM (pw h) (show 2*k+1<=2*k+1+1 by omega)
    omega
  have HE:Hid (∀Z,Calls prog 240 #[.agg #[.int .i64 h,.int .u64 (2*(k:Int))]] Z fun e w'=>e= .returned (.int .u64 pp)∧Below Z.heap.size Z w'):=fun Z=>by
    have:=Qgt Z h (2*k) (by omega) hpl pp hpp
    rwa [show((2*k:Nat):Int)=2*(k:Int) by omega] at this
  have HCt:Hid (∀Z,Below V.heap.size V Z->Calls prog 239 #[.agg #[.slice sa n sc,.slice xa n xc],.int .u64 pp] Z fun e w'=> ∃v1 v2,e= .returned (.tuple #[v1,v2])∧Gv w' GB v1 (S.take t) (X.take t)∧Gv w' GB v2 (S.drop t) (X.drop t)∧Below Z.heap.size Z w'):=fun Z hZ=>Qgq Z _ S X (HQ.out.2.2.2.next (Qa hb2 hZ)) hX hp hm pp t (by rw[<-hpp];exact htt)
  have HV:=Qd hb2;have HK:Hid (∀Z,Below V.heap.size V Z->Z.cell? ⟨w.heap.size+1,0,none⟩=some (.slice sa n sc)∧Z.cell? ⟨w.heap.size+1,1,none⟩=some (.slice xa n xc)∧Z.cell? ⟨w.heap.size+1+1,0,none⟩=some (.int .i64 h)∧Z.cell? ⟨w.heap.size+1+1,1,none⟩=some (.int .u64 (2*(k:Int)))):=fun Z hZ=>
    ⟨(hZ.cell (p:=⟨w.heap.size+1,0,none⟩) (Lf V _ g0)).trans g0,(hZ.cell (p:=⟨w.heap.size+1,1,none⟩) (Lf V _ g1)).trans g1,(hZ.cell (p:=⟨w.heap.size+1+1,0,none⟩) (Lf V _ d0)).trans d0,(hZ.cell (p:=⟨w.heap.size+1+1,1,none⟩) (Lf V _ d1)).trans d1⟩
  have y0:w.heap.size+1<V.heap.size:=Lf V _ g0;have y1:w.heap.size+1+1<V.heap.size:=Lf V _ d0;have y2:w.heap.size+1+1+1<V.heap.size:=Lf V _ f0;have y3:w.heap.size<V.heap.size:=by omega
  have HS:=Qd (LO y0 (LO y1 (LO y2 HW.out)));have HI:=Qd (LO HI1 HI2);have HJ:Hid (∀Z,Below V.heap.size V Z->Z.cell? ⟨w.heap.size+1+1+1,0,none⟩=some (.int .i64 h)∧Z.cell? ⟨w.heap.size+1+1+1,1,none⟩=some (.int .u64 (2*(k:Int)+1))):=fun Z hZ=>
    ⟨(hZ.cell (p:=⟨w.heap.size+1+1+1,0,none⟩) (Lf V _ f0)).trans f0,(hZ.cell (p:=⟨w.heap.size+1+1+1,1,none⟩) (Lf V _ f1)).trans f1⟩
  have HD:=Qd hd;clear hpl hpp hb2 e3 e4 HI1 HI2 hd
  go_cut [10,11] from 60 to 66 (fun x y wx=> ∃p1 p2 a1 b1 a2 b2,x=Pq p1∧y=Pq p2∧Fi GB V.heap.size V wx p1 p2 a1 b1 a2 b2 (S.take t) (S.drop t) (X.take t) (X.drop t))
  case first=>
    go_region_held3 (fun Z=>Z.cell? ⟨w.heap.size+1,0,none⟩=some (.slice sa n sc)∧Z.cell? ⟨w.heap.size+1,1,none⟩=some (.slice xa n xc)∧Z.cell? ⟨w.heap.size+1+1,0,none⟩=some (.int .i64 h)∧Z.cell? ⟨w.heap.size+1+1,1,none⟩=some (.int .u64 (2*(k:Int))))
      (exact HK.out _ (by repeat (first|exact Lb _ _|refine IM ?_|refine bal ?_ _|refine Qa ?_ hbc|refine Qa ?_ hbe|refine Qaa ?_ (by omega)))) (first
      | (go_at_call 240;with_reducible refine(HE.out _).mono ?_;rintro e we ⟨rfl,hbe⟩
         have s1:=hbe.size
         try simp only[World.size_alloc,World.drew] at s1
         first|(have y1:=(QaN V).1.next hbe;have y2:=(QaN V).2.next hbe)|(have y1:=(QgD V).next hbe)|skip)
      | (go_at_call 239;with_reducible refine(HCt.out _ (by repeat (first|exact Lb _ _|refine IM ?_|refine bal ?_ _|refine Qa ?_ hbe))).mono ?_;rintro e wc ⟨v1,v2,rfl,q1,q2,hbc⟩
         obtain⟨sa1,sn1,sc1,xa1,xn1,xc1,rfl⟩:=q1.form;obtain⟨sa2,sn2,sc2,xa2,xn2,xc2,rfl⟩:=q2.form;have s2:=hbc.size
         try simp only[World.size_alloc] at s2
         first|(have x1:=y1.next hbc;have x2:=y2.next hbc)|(have x1:=y1.next hbc)|(have x1:=y1.next (Qa (bal (Lb _ _) _) hbc);have x2:=(QcL we).next hbc)|(have x1:=(QcM we).1.next hbc;have x2:=(QcM we).2.next hbc)|(have x1:=(QcL we).next hbc)|skip
         try have v1:=x1.lt
         try have v2:=x2.lt
         try have u1:=IW x1.lt
         try have u2:=IW x2.lt
         try have u3:=IW y1.lt
         try have u4:=Ne.symm u3
         try have u5:=Ne.symm u1
         try have u6:=Ne.symm u2
         try obtain⟨k0,k1,kf⟩:=x1.cells
         try obtain⟨m0,m1,mf⟩:=x2.cells))
    all_goals have hVc:Below V.heap.size V wc:=by repeat (first|exact Lb _ _|refine IM ?_|refine bal ?_ _|refine Qa ?_ hbc|refine Qa ?_ hbe)
    all_goals
      go_wp2
      go_meet
      case rel=>
        go_light
        first
          | with_reducible exact⟨_,_,_,_,_,_,rfl,rfl,Qgx q1 q2 hVc hVc.size⟩
          | with_reducible exact⟨_,_,_,_,_,_,rfl,rfl,(Qgx q2 q1 hVc hVc.size).swap⟩
          | with_reducible exact⟨_,_,_,_,_,_,rfl,rfl,Qgy q1 q2 hVc hVc.size x1 (by omega)⟩
          | with_reducible exact⟨_,_,_,_,_,_,rfl,rfl,(Qgy q2 q1 hVc hVc.size x1 (by omega)).swap⟩
          | with_reducible exact⟨_,_,_,_,_,_,rfl,rfl,Qgz q1 q2 hVc x1 x2 (by omega) (by omega) (by omega)⟩
          | with_reducible exact⟨_,_,_,_,_,_,rfl,rfl,Qgz q1 q2 hVc x2 x1 (by omega) (by omega) (by omega)⟩
  case rest=>
    obtain⟨p1,p2,a1,b1,a2,b2,rfl,rfl,F1,F2,F3,F4,F5⟩:=hcut;obtain⟨i0,i1,i2,i3⟩:=HK.out wc F5;obtain⟨j0,j1⟩:=HJ.out wc F5;obtain⟨k0,k1,_⟩:=F1.cells;obtain⟨m0,m1,_⟩:=F2.cells;have hVc:=Qa HV.out F5;have hR:=HQ.out.1.next hVc;have hT:=HQ.out.2.2.1.next hVc;have hq:q<w.heap.size:=HS.out.2.2.2;have hp2:p2≠q:=fun e=>by
      subst e;obtain⟨da,db,dO,dc,h1,_⟩:=hR.ex;rw[F2] at h1
      cases h1
    have H1:=HI.out.1 wc _ hT hR F3;have HR:=Qd (LO hR (LO hT (LO F4 (LO hq (LO hp2 (Qa HQ.out.2.1 hVc))))));rw[show((2*k:Nat):Int)=2*(k:Int) by omega] at H1
    have HM:=Qd (LO m0 (LO m1 (LO j0 j1)));clear g0 g1 d0 d1 f0 f1 hT hR hq hp2 F1 F2 F3 F4 m0 m1 j0 j1 y0 y1 y2 y3
    go_upto_region 11 with (go_at_call 241;with_reducible refine H1.mono ?_;rintro e w1 ⟨rfl,hR1,hx1⟩)
    have m0:=U5 hx1 HM.out.1 HR.out.2.2.2.2.1;have m1:=U5 hx1 HM.out.2.1 HR.out.2.2.2.2.1;have j0:=U5 hx1 HM.out.2.2.1 (by have:=HR.out.2.2.2.1;omega)
    have j1:=U5 hx1 HM.out.2.2.2 (by have:=HR.out.2.2.2.1;omega)
    have H2:=HI.out.2 w1 _ (HR.out.2.1.bx HR.out.1 hx1) hR1 (HR.out.2.2.1.bx HR.out.1 hx1);rw[show((2*k+1:Nat):Int)=2*(k:Int)+1 by omega] at H2
    have HT1:=Qd (HR.out.2.1.bx HR.out.1 hx1);have HX1:=Qd (LO hR1 (((Bx.refl q w).next HR.out.2.2.2.2.2).trans hx1));clear i0 i1 i2 i3 k0 k1 hx1 hR1 H1
    go_upto_region 12 with (go_at_call 241;with_reducible refine H2.mono ?_;rintro e w2 ⟨rfl,hR2,hx2⟩)
    have H3:=YW w2 (HT1.out.bx HX1.out.1 hx2) K c1 c2 (by omega) (by omega) d HD.out
    obtain⟨da,db,dO,dc,h1,_⟩:=hR2.ex;have z0:w2.cell? ⟨q,0,none⟩=some (.int .i64 K):=by rw[cell_of_row w2 q 0 _ _ (0,0) h1];rfl
    have HX2:=Qd (LO hR2 (HX1.out.2.trans hx2));clear m0 m1 j0 j1 h1 hx2 hR2 H2 HT1
    go_wp2_with (go_at_call 227;with_reducible refine H3.mono ?_;rintro e w3 ⟨rfl,hb3⟩)
    go_ret
    exact⟨rfl,HX2.out.1.next hb3,HX2.out.2.next hb3⟩
variable {GB RB:Nat}
theorem Qhe(q:Nat)(K:Int):∀(h k:Nat),h<=40->(k+1)*pw h<=2^40 -> ∀(S:List Nat) (X D:LB) (w:World) (v:Value),Tb w->Rw w RB q K D->Gv w GB v S X->X.length=S.length->Asc S->In h k S->(tno h k S).length<=D.length->(∀s∈X,s.size<=1048576)->(∀s∈D,s.size=clk K)->S.length<=8796093022208 ->
  Calls prog 241 #[Pq q,.agg #[.int .i64 h,.int .u64 k],v] w fun e w'=>e= .returned (.string (vB (clk K) h k S X D))∧Rw w' RB q K (D.drop (tno h k S).length)∧Bx q w w':=by
 have nil:∀(h k:Nat) (X D:LB) (w:World) (v:Value),Rw w RB q K D->Gv w GB v [] X->(tno h k []).length<=D.length->Calls prog 241 #[Pq q,.agg #[.int .i64 h,.int .u64 k],v] w fun e w'=>e= .returned (.string (vB (clk K) h k [] X D))∧Rw w' RB q K (D.drop (tno h k []).length)∧Bx q w w':=fun h k X D w v hr hg hl=>by
  obtain⟨sa,sb,so,sc,xa,xb,xo,xc,rfl,_⟩:=hg.ex;rw[O4] at hl ⊢;exact Qhf w q K D hr hl h k sa xa sc X.length xc _ (QdF ..).symm _ rfl
 intro h
 induction h with
 | zero=>
  intro k hh hk S X D w v ht hr hg hX hp hS hl hs hD hm
  by_cases h0:S=[]
  ·subst h0;exact nil 0 k X D w v hr hg hl
  ·have hn:0<S.length:=List.length_pos_iff.2 h0;obtain⟨sa,sb,so,sc,xa,xb,xo,xc,rfl,r1,r2,_⟩:=hg.ex;obtain rfl:=r2.ptr (by omega)
   have hx0:0<X.length:=by omega
   have hc:w.cell? ⟨xb,xo+0,none⟩=some (.string (X.getD 0 ByteArray.empty)):=r2.rng 0 _ (by simp[List.getD_eq_getElem?_getD,hx0])
   have hsz:=hs _ (Q1 hx0);rw[Qll hS h0,QdE _ _ _ _ h0];exact Qfa w ht q K D hr k sa S.length sc xb xo X.length xc hn hx0 _ hc (by omega) _ rfl
 | succ h ih=>
  intro k hh hk S X D w v ht hr hg hX hp hS hl hs hD hm
  by_cases h0:S=[]
  ·subst h0;exact nil (h+1) k X D w v hr hg hl
  ·obtain⟨va,vx,rfl⟩:∃a b,v= .agg #[a,b]:=by
    obtain⟨a,n,c,b,m,d,e⟩:=hg.form;exact⟨_,_,e⟩
   obtain⟨t,ht2⟩:∃t,bl S ((2*k+1)*pw h)=t:=⟨_,rfl⟩;have htl:t<=S.length:=by rw[<-ht2];exact Qgk _ _
   have l1:=QjK hp hS;have l2:=QgG hp hS;have l3:=Qg4 hp hS h0;rw[ht2] at l1 l2 l3;rw[l3,Le] at hl;have hk1:(2*k+1)*pw h<=2^40:=by
    have:=Cv.Ux h k;have:=LM (pw h) (show 2*k+1<=2*k+1+1 by omega)
    omega
   have hk2:(2*k+1+1)*pw h<=2^40:=by rw[Cv.Ux];exact hk
   have some_one:∀(a b:Nat) (T:List Nat) (E:LB),(tno a b T).length<=E.length->0<E.length∨T≠[]:=fun a b T E hE=>by
    by_cases hT:T=[]
    ·subst hT;rw[O4] at hE;exact .inl hE
    ·exact .inr hT
   have hD1:∀s∈D.drop (tno h (2*k) (S.take t)).length,s.size=clk K:=fun s hs=>hD s ((NT _ _).subset hs)
   have hl2:(tno h (2*k+1) (S.drop t)).length<=(D.drop (tno h (2*k) (S.take t)).length).length:=by rw[LS];omega
   have hlt:(S.take t).length<=S.length:=by rw[LA];omega
   have hld:(S.drop t).length<=S.length:=by rw[LS];omega
   have:=bnode_two w ht q K D hr h k hh hk va vx S X hg hX hp h0 hm t ht2 _ _ (by rw[QdG (Qs K) h (2*k) (S.take t) (X.take t) D hD (some_one _ _ _ _ (Lu (IY _ _) hl))];exact Qs K) (by rw[QdG (Qs K) h (2*k+1) (S.drop t) (X.drop t) _ hD1 (some_one _ _ _ _ hl2)];exact Qs K) _ _
    (fun W v h1 h2 h3=>ih (2*k) (by omega) hk1 (S.take t) (X.take t) D W v h1 h2 h3 (by rw[LA,LA,hX]) (Om hp _) l1 (Lu (IY _ _) hl) (fun s hs'=>hs s ((IS _ _).subset hs')) hD (Lu hlt hm))
    (fun W v h1 h2 h3=>ih (2*k+1) (by omega) hk2 (S.drop t) (X.drop t) _ W v h1 h2 h3 (by rw[LS,LS,hX]) (Jp hp _) l2 hl2 (fun s hs'=>hs s ((NT _ _).subset hs')) hD1 (Lu hld hm)) _ rfl
   rw[Qf8 _ _ _ _ _ h0 ht2,l3,Le,<-WA];exact this
theorem QfQ{w:World}{ao:OA}{b off len:Nat}{l:List Nat}(h:RdU w ao b off len l):Cv.Rd w ao b off len l:=⟨h.hl,h.ptr,fun _ hj=>h.at hj⟩
abbrev oP(kd k:Int)(old size:Nat)(vs vd:Value):Obj := .cells #[.int .i64 kd,.int .i64 k,.int .u64 old,.int .u64 size,vs,vd] 138
abbrev vP(kd k:Int)(old size:Nat)(vs vd:Value):Value := .agg #[.int .i64 kd,.int .i64 k,.int .u64 old,.int .u64 size,vs,vd]
theorem QjM(w:World)(kd k:Int)(old size:Nat)(sa:OA)(ns sc:Nat)(da:OA)(n2 dc:Nat)(r:Bool)(hr:decide (kd=2∧(1<=k∧k<=32)∧old=0)=r) :
  Calls prog 237 #[vP kd k old size (.slice sa ns sc) (.slice da n2 dc)] w fun e w'=>e= .returned (.bool r)∧Below w.heap.size w w':=by
 have hb:=bal (Lb w.heap.size w) (oP kd k old size (.slice sa ns sc) (.slice da n2 dc))
 by_cases h1:kd=2
 ·subst h1
  by_cases h2:1<=k∧k<=32
  ·have HC:Hid (∀W,Calls prog 91 #[.int .i64 k] W fun e w'=>e= .returned (.int .i64 0)∧W=w'):=fun W=>by
    have:=(QD W k);rw[show chk k=0 by rw[chk,Ld (by omega)]] at this
    exact this.mono fun _ _ h=>⟨h.1,h.2.symm⟩
   by_cases h4:old=0
   ·subst h4;obtain rfl:true=r:=by rw[<-hr];exact(LV ⟨rfl,h2,rfl⟩).symm
    clear hr h2;unfold vP;unfold oP at hb;rw[show((0:Nat):Int)=0 from rfl] at *
    go_enter func237,ntmps237
    go_wp2_with (go_at_call 91;with_reducible refine(HC.out _).mono ?_;rintro e w1 ⟨rfl,rfl⟩)
    go_ret
    exact⟨rfl,hb⟩
   ·have hz:((old:Int) == 0)=false:=beq_false_of_ne (by omega)
    obtain rfl:false=r:=by rw[<-hr];exact(Lx (by rintro⟨_,_,h⟩;exact h4 h)).symm
    clear hr h2 h4
    go_enter func237,ntmps237
    go_wp2_with (go_at_call 91;with_reducible refine(HC.out _).mono ?_;rintro e w1 ⟨rfl,rfl⟩)
    go_ret
    exact⟨rfl,hb⟩
  ·have HC:Hid (∀W,Calls prog 91 #[.int .i64 k] W fun e w'=>e= .returned (.int .i64 70)∧W=w'):=fun W=>by
    have:=(QD W k);rw[show chk k=70 by rw[chk,Lm (by omega)]] at this
    exact this.mono fun _ _ h=>⟨h.1,h.2.symm⟩
   obtain rfl:false=r:=by rw[<-hr];exact(Lx (by rintro⟨_,h,_⟩;exact h2 h)).symm
   clear hr h2
   go_enter func237,ntmps237
   go_wp2_with (go_at_call 91;with_reducible refine(HC.out _).mono ?_;rintro e w1 ⟨rfl,rfl⟩)
   go_ret
   exact⟨rfl,hb⟩
 ·obtain rfl:false=r:=by rw[<-hr];exact(Lx (by rintro⟨h,_,_⟩;exact h1 h)).symm
  clear hr
  go_enter func237,ntmps237;go_wp2
  go_ret
  exact⟨rfl,hb⟩
def fil(k:Int)(m:Nat)(D:LB):Prop:=D.length=m ∧ ∀d∈D,(d.size:Int)=k
instance (k:Int) (m:Nat) (D:LB):Decidable (fil k m D):=by unfold fil;infer_instance
theorem Qcw(w:World)(kd k:Int)(old size:Nat)(sa:OA)(sb so ns sc:Nat)(S:List Nat)(hs:RdU w sa sb so ns S)(hns:ns<=1048576)(da:OA)(db dO dc:Nat)(D:LB)(hr:RdS w da db dO D.length D)(hm:D.length<=8796093022208)(e0:Nat)(he:Cv.QN size S=e0)(m0:Nat)(hm0:(Cv.rstS size S).length=m0)(r:Bool)(hq:decide (e0=0∧fil k m0 D)=r) :
  Calls prog 238 #[vP kd k old size (.slice sa ns sc) (.slice da D.length dc)] w fun e w'=>e= .returned (.bool r)∧Below w.heap.size w w':=by
 obtain⟨o1,ho1⟩:∃o1,oP kd k old size (.slice sa ns sc) (.slice da D.length dc)=o1:=⟨_,rfl⟩;have hb0:=bal (Lb w.heap.size w) o1;have HN:=Cv.Yi size (w.alloc o1) sa sb so ns sc S (QfQ (hs.next hb0)) (Lu hns (by decide))
 rw[he,hm0] at HN;have h6:Six (w.alloc o1) w.heap.size (.int .i64 kd) (.int .i64 k) (.int .u64 old) (.int .u64 size) (.slice sa ns sc) (.slice da D.length dc):=by rw[<-ho1];exact Yl w _ _ _ _ _ _
 have HB:=Qd hb0;have H6:=Qd h6;rw[<-ho1] at HN HB H6;have ed:IntKind.u64.wrap (D.length:Int)=(D.length:Int):=by rw[IntKind.wrap_u64];omega
 have HR:Hid (∀W,Below w.heap.size w W->RdS W da db dO D.length D):=fun W hb=>hr.next hb (La _)
 have hm1:(D.length:Int)<=8796093022208:=by omega
 by_cases h1:e0=0
 ·subst h1;rw[show((0:Nat):Int)=0 from rfl] at HN
  by_cases hl:D.length=m0
  ·subst hl;have HQ:Hid (decide (∀d∈D,(d.size:Int)=k)=r):=by
    rw[<-hq]
    show decide _=decide _
    simp only[fil,true_and]
   clear hr hq hm hs he hm0 hb0 h6 ho1
   go_enter func238,ntmps238
   go_upto_region 2 with (go_at_call 323;with_reducible refine HN.mono ?_;rintro e w1 ⟨rfl,hb1⟩)
   obtain⟨z0,z1,z2,z3,z4,z5⟩:=(H6.out.next hb1).cells;have hbx:=Qa HB.out hb1;clear HN hb1 H6 HB;go_wp2
   go_loopg [28] D.length (fun g i wr=> ∃j:Nat,j<=D.length∧g=D.length-j∧i= .int .i64 j∧(∀t,t<j->((D.getD t ByteArray.empty).size:Int)=k)∧w1=wr)
   case atStart=>go_light;exact⟨0,Ln _,rfl,rfl,fun t ht=>absurd ht (Ib _),rfl⟩
   case round=>
    obtain⟨j,hj,rfl,rfl,hal,rfl⟩:=hrel
    by_cases hlt:j<D.length
    ·have hz:(j:Int)<(D.length:Int):=by omega
     have hz0:(0:Int)<=(j:Int):=Lh _;have hrd:=HR.out w1 hbx;obtain rfl:=hrd.ptr (by omega)
     have cj:=hrd.at hlt;obtain⟨d,hd⟩:∃d,D.getD j ByteArray.empty=d:=⟨_,rfl⟩;rw[hd] at cj
     by_cases hk:(d.size:Int)=k
     ·have HN:Hid (∀t,t<j+1->((D.getD t ByteArray.empty).size:Int)=k):=fun t ht=>by
       rcases IP (IT ht) with hx|rfl
       ·exact hal t hx
       ·rw[hd];exact hk
      clear hd hal hrd;go_wp2
      go_roundg (D.length-(j+1))
      case rel=>go_light;exact⟨j+1,by omega,rfl,by go_num,HN.out,rfl⟩
      case measure=>go_light;omega
     ·obtain rfl:false=r:=by
       rw[<-HQ.out];refine(Lx fun h=>hk ?_).symm
       rw[<-hd];exact h _ (Q1 hlt)
      clear hd hal hrd;go_wp2
      go_ret
      exact⟨rfl,hbx⟩
    ·obtain rfl:j=D.length:=by omega
     have hz:¬((D.length:Int)<(D.length:Int)):=by omega
     obtain rfl:true=r:=by
      rw[<-HQ.out];refine(LV fun d hd=> ?_).symm
      obtain⟨t,ht,rfl⟩:=ND hd;have:=hal t ht
      rwa [Lc,Ll ht] at this
     clear hal hlt;go_wp2
     go_ret
     exact⟨rfl,hbx⟩
  ·have hz:¬(m0:Int)=(D.length:Int):=by omega
   obtain rfl:false=r:=by rw[<-hq];exact(Lx (by rintro⟨_,h,_⟩;exact hl h)).symm
   clear hr hq hm hs he hm0 hb0 h6 ho1 hl HR
   go_enter func238,ntmps238
   go_upto_region 2 with (go_at_call 323;with_reducible refine HN.mono ?_;rintro e w1 ⟨rfl,hb1⟩)
   obtain⟨z0,z1,z2,z3,z4,z5⟩:=(H6.out.next hb1).cells;have hbx:=Qa HB.out hb1;clear HN hb1 H6 HB;go_wp2
   go_ret
   exact⟨rfl,hbx⟩
 ·have hz:¬(e0:Int)=0:=by omega
  obtain rfl:false=r:=by rw[<-hq];exact(Lx (by rintro⟨h,_⟩;exact h1 h)).symm
  clear hr hq hm hs he hm0 hb0 h6 ho1 h1 HR
  go_enter func238,ntmps238
  go_upto_region 2 with (go_at_call 323;with_reducible refine HN.mono ?_;rintro e w1 ⟨rfl,hb1⟩)
  obtain⟨z0,z1,z2,z3,z4,z5⟩:=(H6.out.next hb1).cells;have hbx:=Qa HB.out hb1;clear HN hb1 H6 HB;go_wp2
  go_ret
  exact⟨rfl,hbx⟩
theorem Rt.drew{w:World}{g n:Nat}{d:BA}(h:Rt w g n d):Rt w.drew g n d:=⟨h.c0,h.c1,h.f0,h.f1⟩
theorem Oe{w W0:World}{kd k:Int}{old size:Nat}{vs vd:Value}(h:(w.alloc (.cells #[.int .i64 kd,.int .i64 k,.int .u64 old,.int .u64 size,vs,vd] 138)).alloc (.cells #[.int .u64 0,.string ⟨#[]⟩] 50)=W0) :
  Below w.heap.size w W0∧Six W0 w.heap.size (.int .i64 kd) (.int .i64 k) (.int .u64 old) (.int .u64 size) vs vd∧Rt W0 (w.heap.size+1) 0 ⟨#[]⟩∧W0.heap.size=w.heap.size+2:=by
 subst h;refine⟨bal (bal (Lb _ _) _) _,?_,?_,by simp⟩
 ·exact(Yl w _ _ _ _ _ _).next (bal (Lb _ _) _)
 ·have:=QfX (w.alloc (.cells #[.int .i64 kd,.int .i64 k,.int .u64 old,.int .u64 size,vs,vd] 138)) 0 ⟨#[]⟩ 50;rw[LN] at this;exact this
theorem QfY{w:World}{g n:Nat}{d:BA}(h:Rt w g n d)(a:Int)(b:BA) :
  ((w.setCell ⟨g,0,none⟩ (.int .u64 a)).setCell ⟨g,1,none⟩ (.string b)).cell? ⟨g,0,none⟩=some (.int .u64 a)∧((w.setCell ⟨g,0,none⟩ (.int .u64 a)).setCell ⟨g,1,none⟩ (.string b)).cell? ⟨g,1,none⟩=some (.string b)∧ChT (fun x=>x=g) w ((w.setCell ⟨g,0,none⟩ (.int .u64 a)).setCell ⟨g,1,none⟩ (.string b)):=by
 refine⟨?_,?_,((ChT.refl (fun x=>x=g) w).set g 0 _ rfl).set g 1 _ rfl⟩
 ·exact(Lq _ _ _ _ (by simp)).trans (LX _ _ _ h.c0)
 ·exact LX _ _ _ ((Lq _ _ _ _ (by simp)).trans h.c1)
def okB(kd k:Int)(old size:Nat)(S:List Nat)(D:LB):Prop:=(kd=2∧(1<=k∧k<=32)∧old=0)∧(Cv.QN size S=0∧fil k (Cv.rstS size S).length D)
instance (kd k:Int) (old size:Nat) (S:List Nat) (D:LB):Decidable (okB kd k old size S D):=by unfold okB;infer_instance
end
end Go.Proofs.YtoblgjledefdbaaGreatDoor
