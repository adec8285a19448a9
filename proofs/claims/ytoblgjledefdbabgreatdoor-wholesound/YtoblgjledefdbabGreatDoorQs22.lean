/- Own work. -/
import Derived.Test.YtoblgjledefdbabGreatDoorQs21
set_option maxRecDepth 100000
set_option maxHeartbeats 8000000
namespace Go.Proofs.YtoblgjledefdbabGreatDoor
open Go.RowKit
attribute [local go_sem ↓] Go.wp_at_zero Go.wp_at_succ
open Go.Proofs.Tryz
section
open Cv (RdC zl cU tno)
open Pl (pw)
variable {GB RB:Nat}
structure Rw(w:World)(RB q:Nat)(K:Int)(D:LB):Prop where
 ex:∃da db dO dc,w.heap[q]? = some (.cells #[.int .i64 K,.slice da D.length dc] 169 (0,0))∧RdS w da db dO D.length D∧D.length<=dc∧(da=none->dc=0)∧(0<D.length->db<RB)
section
variable {w W:World} {q:Nat} {K:Int} {D:LB}
theorem Rw.lt(h:Rw w RB q K D):q<w.heap.size:=by
 obtain⟨da,db,dO,dc,h1,_⟩:=h.ex;exact(Array.getElem?_eq_some_iff.1 h1).1
theorem Rw.next(h:Rw w RB q K D)(hb:Below w.heap.size w W):Rw W RB q K D:=by
 have hl:=h.lt;obtain⟨da,db,dO,dc,h1,h2,h3,h4⟩:=h.ex;exact⟨da,db,dO,dc,(hb.block q hl).trans h1,h2.next hb (Lb _),h3,h4⟩
theorem Rw.cell(h:Rw w RB q K D){j:Nat}{u:Value}(hc:w.cell? ⟨q,j,none⟩=some u):u= .int .i64 K ∨ ∃a n c,u= .slice a n c:=by
 obtain⟨da,db,dO,dc,h1,_⟩:=h.ex;rw[cell_of_row w q j _ _ (0,0) h1] at hc
 match j,hc with
 | 0,hc=>exact .inl (by simpa using hc.symm)
 | 1,hc=>exact .inr ⟨da,_,dc,by simpa using hc.symm⟩
 | j+2,hc=>simp at hc
theorem UX(hb:Bx q w W){b j:Nat}{u:Value}(hc:w.cell? ⟨b,j,none⟩=some u)(hne:b≠q):W.cell? ⟨b,j,none⟩=some u :=
 (Lq (a:=⟨b,j,none⟩) (hb.block b (Ll w _ hc) hne)).trans hc
theorem RdU.bx{ao:OA}{b off len:Nat}{l:List Nat}(r:RdU w ao b off len l)(h:Rw w RB q K D)(hb:Bx q w W):RdU W ao b off len l :=
 ⟨r.hl,r.ptr,fun j v hv=>by
  have hc:=r.rng j v hv;refine UX hb hc fun e=> ?_
  subst e;obtain⟨x,_,hx⟩:=List.mem_map.1 (Nk hv)
  rcases h.cell hc with e|⟨a,n,c,e⟩
  ·rw[<-hx] at e;cases e
  ·rw[<-hx] at e;cases e⟩
theorem RdS.bx{ao:OA}{b off len:Nat}{l:LB}(r:RdS w ao b off len l)(h:Rw w RB q K D)(hb:Bx q w W):RdS W ao b off len l:=by
 refine⟨r.hl,r.ptr,fun j v hv=> ?_,r.sz⟩
 have hc:=r.rng j v hv;refine UX hb hc fun e=> ?_
 subst e;obtain⟨x,_,hx⟩:=List.mem_map.1 (Nk hv)
 rcases h.cell hc with e|⟨a,n,c,e⟩
 ·rw[<-hx] at e;cases e
 ·rw[<-hx] at e;cases e
theorem Gv.bx{v:Value}{S:List Nat}{X:LB}(g:Gv w GB v S X)(h:Rw w RB q K D)(hb:Bx q w W):Gv W GB v S X:=by
 obtain⟨sa,sb,so,sc,xa,xb,xo,xc,e,r1,r2,h1,h2,h3,h4⟩:=g.ex;exact⟨sa,sb,so,sc,xa,xb,xo,xc,e,r1.bx h hb,r2.bx h hb,h1,h2,h3,h4⟩
theorem Tb.bx(ht:Tb w)(h:Rw w RB q K D)(hb:Bx q w W):Tb W :=
 ⟨fun j u hu=>by
  have hc:=ht.rs j u hu;refine UX hb hc fun e=> ?_
  rw[e] at hc;obtain⟨x,_,hx⟩:=List.mem_map.1 (Nk hu)
  rcases h.cell hc with e|⟨a,n,c,e⟩
  ·rw[<-hx] at e;cases e
  ·rw[<-hx] at e;cases e⟩
end
theorem Rw.take{w:World}{q:Nat}{K:Int}{D:LB}(h:Rw w RB q K D)(h0:0<D.length):∃db dO dc,w.cell? ⟨q,0,none⟩=some (.int .i64 K)∧w.cell? ⟨q,1,none⟩=some (.slice (some ⟨db,dO,none⟩) D.length dc)∧w.frozen? ⟨q,1,none⟩=false∧w.cell? ⟨db,dO,none⟩=some (.string (D.getD 0 ByteArray.empty))∧D.length<=dc ∧ ∀ax,(if dc=1 then some ⟨db,dO,none⟩ else some (Addr.add ⟨db,dO,none⟩ 1))=ax->Rw (w.setCell ⟨q,1,none⟩ (.slice ax (D.length-1) (dc-1))) RB q K (D.drop 1):=by
 obtain⟨da,db,dO,dc,h1,h2,h3,h4,h5⟩:=h.ex;obtain rfl:=h2.ptr h0;have c0:w.cell? ⟨db,dO+0,none⟩=some (.string (D.getD 0 ByteArray.empty)):=h2.rng 0 _ (by simp[List.getD_eq_getElem?_getD,h0])
 refine⟨db,dO,dc,by rw[cell_of_row w q 0 _ _ (0,0) h1];rfl,by rw[cell_of_row w q 1 _ _ (0,0) h1];rfl,frozen_of_row w q 1 _ _ h1,c0,h3,fun ax hax=> ?_⟩
 have hd:=Ud h2 (H:=1) h3 (by omega) h4 (ax:=ax) (by rw[<-hax];rfl)
 have hl:(D.drop 1).length=D.length-1:=LD;have hne:db≠q:=fun e=>by
  subst e
  rcases h.cell c0 with e|⟨a,n,c,e⟩ <;> cases e
 refine⟨ax,db,dO+1,dc-1,?_,?_,by omega,hd.2,fun _=>h5 h0⟩
 ·rw[hl];exact Ln w q 1 _ _ _ h1
 ·exact hd.1.same (((ChT.refl (fun b=>b=q) w).set q 1 _ rfl).block db hne)
theorem Q9(w:World)(o1 o2:Obj):((w.alloc o1).alloc o2).heap[w.heap.size]? = some o1∧((w.alloc o1).alloc o2).heap[w.heap.size+1]? = some o2:=by
 have e2:=Lr (w.alloc o1) o2;rw[LK] at e2;exact⟨by rw[Cv.QQ o2 (by rw[LK];omega)];exact Lr w o1,e2⟩
theorem Qhq(w:World)(q:Nat)(K:Int)(D:LB)(hr:Rw w RB q K D)(h0:0<D.length)(h k:Nat)(sa xa:OA)(sc xn xc:Nat)(d:BA)(hd:D.getD 0 ByteArray.empty=d)(E:LB)(hE:D.drop 1=E) :
  Calls prog 93 #[Zv q,.agg #[.int .i64 h,.int .u64 k],.agg #[.slice sa 0 sc,.slice xa xn xc]] w fun e w'=>e= .returned (.string d)∧Rw w' RB q K E∧Bx q w w':=by
 obtain⟨o1,ho1⟩:∃o1,Obj.cells #[.int .i64 h,.int .u64 k] 131 (0,0)=o1:=⟨_,rfl⟩;obtain⟨o2,ho2⟩:∃o2,Obj.cells #[.slice sa 0 sc,.slice xa xn xc] 167 (0,0)=o2:=⟨_,rfl⟩;have hb:=bal (bal (Lc w.heap.size w) o1) o2;obtain⟨e1,e2⟩:=Q9 w o1 o2;have hq:=hr.lt;obtain⟨W,hW⟩:∃W,(w.alloc o1).alloc o2=W:=⟨_,rfl⟩;rw[hW] at hb e1 e2;rw[<-ho1] at e1 hW;rw[<-ho2] at e2 hW;clear ho1 ho2 o1 o2;obtain⟨db,dO,dc,c0,c1,f1,c2,h1,HT⟩:=(hr.next hb).take h0;rw[hd] at c2;have g0:W.cell? ⟨w.heap.size+1,0,none⟩=some (.slice sa 0 sc):=by rw[cell_of_row _ _ 0 _ _ (0,0) e2];rfl
 have HQ:=Qc (Lx HT (Lx hb hE));have n1:(1:Int)<=(D.length:Int):=by omega
 have n2:(0:Int)<(D.length:Int):=by omega
 have n3:(1:Int)<=(dc:Int):=by omega
 clear hr HT hd hb hE e1 e2
 by_cases hdc:dc=1
 ·subst hdc
  go_enter func93,ntmps93;go_wp2
  go_ret
  exact⟨rfl,by have:=HQ.out.1 _ (Lo trivial);rw[<-HQ.out.2.2];rwa [show D.length-1=0 by omega] at this,((Bx.refl q w).next HQ.out.2.1).put ((ChT.refl _ W).set q 1 _ rfl)⟩
 ·go_enter func93,ntmps93;go_wp2
  go_ret
  exact⟨rfl,by rw[<-HQ.out.2.2];exact HQ.out.1 _ (Le hdc),((Bx.refl q w).next HQ.out.2.1).put ((ChT.refl _ W).set q 1 _ rfl)⟩
theorem Qfj(w:World)(ht:Tb w)(q:Nat)(K:Int)(D:LB)(hr:Rw w RB q K D)(k:Nat)(sa:OA)(n sc xb xo xn xc:Nat)(h0:0<n)(hx0:0<xn)(x:BA)(hx:w.cell? ⟨xb,xo,none⟩=some (.string x))(hs:x.size<2305843009213693952)(d:BA)(hd:dg (clk K) (Qw x)=d) :
  Calls prog 93 #[Zv q,.agg #[.int .i64 0,.int .u64 k],.agg #[.slice sa n sc,.slice (some ⟨xb,xo,none⟩) xn xc]] w fun e w'=>e= .returned (.string d)∧Rw w' RB q K D∧Bx q w w':=by
 obtain⟨o1,ho1⟩:∃o1,Obj.cells #[.int .i64 0,.int .u64 k] 131 (0,0)=o1:=⟨_,rfl⟩;obtain⟨o2,ho2⟩:∃o2,Obj.cells #[.slice sa n sc,.slice (some ⟨xb,xo,none⟩) xn xc] 167 (0,0)=o2:=⟨_,rfl⟩;have hb:=bal (bal (Lc w.heap.size w) o1) o2;obtain⟨e1,e2⟩:=Q9 w o1 o2;obtain⟨W,hW⟩:∃W,(w.alloc o1).alloc o2=W:=⟨_,rfl⟩;rw[hW] at hb e1 e2;rw[<-ho1] at e1 hW;rw[<-ho2] at e2 hW;clear ho1 ho2 o1 o2;have hR:=hr.next hb;obtain⟨da,db,dO,dc,h1,h2,h3,h4⟩:=hR.ex;have c0:W.cell? ⟨q,0,none⟩=some (.int .i64 K):=by rw[cell_of_row W q 0 _ _ (0,0) h1];rfl
 have g0:W.cell? ⟨w.heap.size+1,0,none⟩=some (.slice sa n sc):=by rw[cell_of_row _ _ 0 _ _ (0,0) e2];rfl
 have g1:W.cell? ⟨w.heap.size+1,1,none⟩=some (.slice (some ⟨xb,xo,none⟩) xn xc):=by rw[cell_of_row _ _ 1 _ _ (0,0) e2];rfl
 have g2:W.cell? ⟨w.heap.size,0,none⟩=some (.int .i64 0):=by rw[cell_of_row _ _ 0 _ _ (0,0) e1];rfl
 have g3:W.cell? ⟨xb,xo,none⟩=some (.string x):=(hb.cell (p:=⟨xb,xo,none⟩) (Ll w _ hx)).trans hx;have HL:=JB W.drew (ht.next hb.drew) K x hs d hd;have HQ:=Qc (Lx hR hb);have n0:¬(n:Int)=0:=by omega
 have n1:(0:Int)<(xn:Int):=by omega
 clear hr hd hb e1 e2 h1 h2 h3 h4 hR ht hx hs h0 hx0
 go_enter func93,ntmps93;go_wp2
 go_region_with (go_at_call 55;with_reducible refine HL.mono ?_;rintro e w1 ⟨rfl,hb1⟩)
 all_goals go_wp2
 all_goals go_ret
 all_goals exact⟨rfl,HQ.out.1.next (Qa (Lc _ W).drew hb1),(Bx.refl q w).next (Qa HQ.out.2.drew hb1)⟩
def Gc(w:World)(p:Nat)(a b:Value):Prop:=w.heap[p]? = some (.cells #[a,b] 167 (0,0))
section
variable {w W:World} {p:Nat} {a b:Value}
theorem Gc.lt(h:Gc w p a b):p<w.heap.size:=(Array.getElem?_eq_some_iff.1 h).1
theorem Gc.next(h:Gc w p a b)(hb:Below w.heap.size w W):Gc W p a b:=(hb.block p h.lt).trans h
theorem Gc.cells(h:Gc w p a b):w.cell? ⟨p,0,none⟩=some a∧w.cell? ⟨p,1,none⟩=some b ∧ ∀j,w.frozen? ⟨p,j,none⟩=false :=
 ⟨by rw[cell_of_row w p 0 _ _ (0,0) h];rfl,by rw[cell_of_row w p 1 _ _ (0,0) h];rfl,fun j=>frozen_of_row w p j _ _ h⟩
theorem Gc.put(h:Gc w p a b)(a' b':Value):Gc ((w.setCell ⟨p,0,none⟩ a').setCell ⟨p,1,none⟩ b') p a' b':=Ln _ p 1 _ _ b' (Ln w p 0 _ _ a' h)
end
theorem Qab{B:Nat}{a Z:World}(h:Below B a Z){p i:Nat}{v:Value}(hp:B<=p):Below B a (Z.setCell ⟨p,i,none⟩ v) :=
 h.trans (((ChT.refl (fun b=>b=p) Z).set p i v rfl).below (by rintro b rfl;exact hp))
abbrev oz:Obj := .cells #[.slice none 0 0,.slice none 0 0] 167
theorem Qda(V:World):Gc (V.alloc oz) V.heap.size (.slice none 0 0) (.slice none 0 0):=Lr V _
theorem QgM(V:World):Gc (V.alloc oz).drew V.heap.size (.slice none 0 0) (.slice none 0 0):=Lr V _
theorem Qdb(V:World):Gc ((V.alloc oz).alloc oz) V.heap.size (.slice none 0 0) (.slice none 0 0)∧Gc ((V.alloc oz).alloc oz) (V.heap.size+1) (.slice none 0 0) (.slice none 0 0):=Q9 V oz oz
theorem QaM(V:World):Gc ((V.alloc oz).alloc oz).drew V.heap.size (.slice none 0 0) (.slice none 0 0)∧Gc ((V.alloc oz).alloc oz).drew (V.heap.size+1) (.slice none 0 0) (.slice none 0 0):=Q9 V oz oz
theorem Gv.form{w:World}{v:Value}{S:List Nat}{X:LB}(h:Gv w GB v S X):∃sa n sc xa m xc,v= .agg #[.slice sa n sc,.slice xa m xc]:=by
 obtain⟨sa,sb,so,sc,xa,xb,xo,xc,e,_⟩:=h.ex;exact⟨sa,_,sc,xa,_,xc,e⟩
theorem Gc.other{w W:World}{p:Nat}{a a':OA}{n n' c c':Nat}(h:Gc w p (.slice a n c) (.slice a' n' c'))(hb:ChT (fun b=>b=p) w W){b j:Nat}{u:Value}(hc:w.cell? ⟨b,j,none⟩=some u)(hu:∀a n c,u ≠ .slice a n c):W.cell? ⟨b,j,none⟩=some u:=by
 refine(Lq (a:=⟨b,j,none⟩) (hb.block b fun e=> ?_)).trans hc
 subst e;rw[cell_of_row w b j _ _ (0,0) h] at hc
 match j,hc with
 | 0,hc=>exact hu a n c (by simpa using hc.symm)
 | 1,hc=>exact hu a' n' c' (by simpa using hc.symm)
 | j+2,hc=>simp at hc
theorem Gv.put{w W:World}{p:Nat}{a a':OA}{n n' c c':Nat}{v:Value}{S:List Nat}{X:LB}(g:Gv w GB v S X)(h:Gc w p (.slice a n c) (.slice a' n' c'))(hb:ChT (fun b=>b=p) w W):Gv W GB v S X:=by
 obtain⟨sa,sb,so,sc,xa,xb,xo,xc,e,r1,r2,h1,h2,h3,h4⟩:=g.ex;refine⟨sa,sb,so,sc,xa,xb,xo,xc,e,⟨r1.hl,r1.ptr,fun j u hu=>h.other hb (r1.rng j u hu) fun a n c ee=> ?_⟩,⟨r2.hl,r2.ptr,fun j u hu=>h.other hb (r2.rng j u hu) fun a n c ee=> ?_,r2.sz⟩,h1,h2,h3,h4⟩
 ·obtain⟨x,_,hx⟩:=List.mem_map.1 (Nk hu);rw[<-hx] at ee;cases ee
 ·obtain⟨x,_,hx⟩:=List.mem_map.1 (Nk hu);rw[<-hx] at ee;cases ee
abbrev put2(w:World)(p:Nat)(a b:Value):World:=(w.setCell ⟨p,0,none⟩ a).setCell ⟨p,1,none⟩ b
theorem QaU(w:World)(p:Nat)(a b:Value):ChT (fun b=>b=p) w (put2 w p a b):=((ChT.refl (fun b=>b=p) w).set p 0 a rfl).set p 1 b rfl
def Fi(GB B:Nat)(V W:World)(p1 p2:Nat)(a1 b1 a2 b2:Value)(S1 S2:List Nat)(X1 X2:LB):Prop:=Gc W p1 a1 b1∧Gc W p2 a2 b2∧Gv W GB (.agg #[a1,b1]) S1 X1∧Gv W GB (.agg #[a2,b2]) S2 X2∧Below B V W
section
variable {B:Nat} {V wc:World} {a1 b1 a2 b2:Value} {S1 S2:List Nat} {X1 X2:LB} (q1:Gv wc GB (.agg #[a1,b1]) S1 X1) (q2:Gv wc GB (.agg #[a2,b2]) S2 X2) (hb:Below B V wc) (hB:B<=wc.heap.size)
theorem Fi.swap{W:World}{p1 p2:Nat}(h:Fi GB B V W p1 p2 a1 b1 a2 b2 S1 S2 X1 X2):Fi GB B V W p2 p1 a2 b2 a1 b1 S2 S1 X2 X1:=⟨h.2.1,h.1,h.2.2.2.1,h.2.2.1,h.2.2.2.2⟩
include q1 q2 hb hB in
theorem QgF:Fi GB B V ((wc.alloc (.cells #[a1,b1] 167)).alloc (.cells #[a2,b2] 167)) wc.heap.size (wc.heap.size+1) a1 b1 a2 b2 S1 S2 X1 X2:=by
 have h:=Q9 wc (.cells #[a1,b1] 167) (.cells #[a2,b2] 167);have hb2:=bal (bal (Lc wc.heap.size wc) (.cells #[a1,b1] 167)) (.cells #[a2,b2] 167);exact⟨h.1,h.2,q1.next hb2,q2.next hb2,hb.trans (hb2.mono hB)⟩
include q1 q2 hb hB in
theorem QgG{p:Nat}{a a':OA}{n n' c c':Nat}(x:Gc wc p (.slice a n c) (.slice a' n' c'))(hp:B<=p):Fi GB B V ((put2 wc p a1 b1).alloc (.cells #[a2,b2] 167)) p wc.heap.size a1 b1 a2 b2 S1 S2 X1 X2:=by
 have hc:=QaU wc p a1 b1;have hb2:=bal (Lc _ (put2 wc p a1 b1)) (.cells #[a2,b2] 167);have h2:=Lr (put2 wc p a1 b1) (.cells #[a2,b2] 167);rw[hc.size] at h2;exact⟨(x.put a1 b1).next hb2,h2,(q1.put x hc).next hb2,(q2.put x hc).next hb2,(hb.trans (hc.below (B:=B) (by rintro b rfl;exact hp))).trans (hb2.mono (by rw[hc.size];exact hB))⟩
include q1 q2 hb in
theorem QgH{p1 p2:Nat}{a a':OA}{n n' c c':Nat}{d d':OA}{m m' e e':Nat}(x1:Gc wc p1 (.slice a n c) (.slice a' n' c'))(x2:Gc wc p2 (.slice d m e) (.slice d' m' e'))(hp1:B<=p1)(hp2:B<=p2)(hne:p1≠p2):Fi GB B V (put2 (put2 wc p1 a1 b1) p2 a2 b2) p1 p2 a1 b1 a2 b2 S1 S2 X1 X2:=by
 have hc:=QaU wc p1 a1 b1;have y2:Gc (put2 wc p1 a1 b1) p2 (.slice d m e) (.slice d' m' e'):=(hc.block p2 (Ne.symm hne)).trans x2;have hd:=QaU (put2 wc p1 a1 b1) p2 a2 b2;exact⟨(hd.block p1 hne).trans (x1.put a1 b1),y2.put a2 b2,(q1.put x1 hc).put y2 hd,(q2.put x1 hc).put y2 hd,(hb.trans (hc.below (B:=B) (by rintro b rfl;exact hp1))).trans (hd.below (B:=B) (by rintro b rfl;exact hp2))⟩
end
theorem bnode_two (w:World) (ht:Tb w) (q:Nat) (K:Int) (D:LB) (hr:Rw w RB q K D) (h k:Nat) (hh:h+1<=40) (hk:(k+1)*pw (h+1)<=2^40) (va vx:Value) (S:List Nat) (X:LB) (hg:Gv w GB (.agg #[va,vx]) S X) (hX:X.length=S.length) (hp:Asc S) (h0:S≠[]) (hm:S.length<=8796093022208) (t:Nat) (htt:bl S ((2*k+1)*pw h)=t) (c1 c2:BA) (s1:c1.size<=32) (s2:c2.size<=32) (D1 D2:LB)
    (HI1:∀W v,Tb W->Rw W RB q K D->Gv W GB v (S.take t) (X.take t)->Calls prog 93 #[Zv q,.agg #[.int .i64 h,.int .u64 ((2*k:Nat):Int)],v] W fun e w'=>e= .returned (.string c1)∧Rw w' RB q K D1∧Bx q W w')
    (HI2:∀W v,Tb W->Rw W RB q K D1->Gv W GB v (S.drop t) (X.drop t)->Calls prog 93 #[Zv q,.agg #[.int .i64 h,.int .u64 ((2*k+1:Nat):Int)],v] W fun e w'=>e= .returned (.string c2)∧Rw w' RB q K D2∧Bx q W w')
    (d:BA) (hd:dg (clk K) (Qz c1 c2)=d) :
    Calls prog 93 #[Zv q,.agg #[.int .i64 ((h+1:Nat):Int),.int .u64 k],.agg #[va,vx]] w fun e w'=>e= .returned (.string d)∧Rw w' RB q K D2∧Bx q w w':=by
  obtain⟨o1,ho1⟩:∃o1,Obj.cells #[.int .i64 ((h+1:Nat):Int),.int .u64 k] 131 (0,0)=o1:=⟨_,rfl⟩;obtain⟨o2,ho2⟩:∃o2,Obj.cells #[va,vx] 167 (0,0)=o2:=⟨_,rfl⟩;have hb:=bal (bal (Lc w.heap.size w) o1) o2;obtain⟨e1,e2⟩:=Q9 w o1 o2;obtain⟨W,hW⟩:∃W,(w.alloc o1).alloc o2=W:=⟨_,rfl⟩;have hWs:W.heap.size=w.heap.size+1+1:=by rw[<-hW];simp
  rw[hW] at hb e1 e2;rw[<-ho1] at e1 hW;rw[<-ho2] at e2 hW;clear ho1 ho2 o1 o2;obtain⟨sa,sb,so,sc,xa,xb,xo,xc,hv,r1,r2,l1,l2,n1,n2,_⟩:=hg.ex;obtain⟨rfl,rfl⟩:va= .slice sa S.length sc∧vx= .slice xa X.length xc:=by
    injection hv with hv
    have:=LZ Array.toList hv
    simpa using this
  obtain⟨n,hn⟩:∃n,S.length=n:=⟨_,rfl⟩;have hn0:0<n:=by rw[<-hn];exact List.length_pos_iff.2 h0
  have hG:=hg.next hb;have hR:=hr.next hb;have hT:=ht.next hb;have g0:W.cell? ⟨w.heap.size+1,0,none⟩=some (.slice sa S.length sc):=by rw[cell_of_row _ _ 0 _ _ (0,0) e2];rfl
  have g1:W.cell? ⟨w.heap.size+1,1,none⟩=some (.slice xa X.length xc):=by rw[cell_of_row _ _ 1 _ _ (0,0) e2];rfl
  have b0:W.cell? ⟨w.heap.size,0,none⟩=some (.int .i64 ((h:Int)+1)):=by rw[cell_of_row _ _ 0 _ _ (0,0) e1];rfl
  have b1:W.cell? ⟨w.heap.size,1,none⟩=some (.int .u64 k):=by rw[cell_of_row _ _ 1 _ _ (0,0) e1];rfl
  rw[hn] at g0;rw[hX,hn] at g1;have hkk:k<2^40:=by
    have:=NZ (k+1) (Pl.QA (h+1));omega
  have x1:IntKind.u64.wrap (2*(k:Int))=2*(k:Int):=by rw[IntKind.wrap_u64];omega
  have x2:IntKind.u64.wrap (2*(k:Int)+1)=2*(k:Int)+1:=by rw[IntKind.wrap_u64];omega
  have z1:((n:Int) == 0)=false:=beq_false_of_ne (by omega)
  have z2:((h:Int)+1 == 0)=false:=beq_false_of_ne (by omega)
  have HQ:=Qc (Lx hR (Lx hb (Lx hT hG)));have HW:=Qc hr.lt;rw[hX,hn] at HQ hG hW;clear hr hb e1 e2 hR ht hT hg r1 r2 hv hkk;rw[hX,hn];rw[show((h+1:Nat):Int)=(h:Int)+1 by omega] at *
  go_enter func93,ntmps93
  go_upto_region 9 with (fail)
  obtain⟨o3,ho3⟩:∃o3,Obj.cells #[.int .i64 h,.int .u64 (2*(k:Int))] 131 (0,0)=o3:=⟨_,rfl⟩;obtain⟨o4,ho4⟩:∃o4,Obj.cells #[.int .i64 h,.int .u64 (2*(k:Int)+1)] 131 (0,0)=o4:=⟨_,rfl⟩;obtain⟨e3,e4⟩:=Q9 W o3 o4;have hb2:=bal (bal (Lc W.heap.size W) o3) o4;obtain⟨V,hV⟩:∃V,(W.alloc o3).alloc o4=V:=⟨_,rfl⟩;rw[hV] at e3 e4 hb2;rw[<-ho3] at e3 hV;rw[<-ho4] at e4 hV;rw[hV];rw[hWs] at e3 e4;clear hV hW;have g0:=(hb2.cell (p:=⟨w.heap.size+1,0,none⟩) (Ll W _ g0)).trans g0;have g1:=(hb2.cell (p:=⟨w.heap.size+1,1,none⟩) (Ll W _ g1)).trans g1;have d0:V.cell? ⟨w.heap.size+1+1,0,none⟩=some (.int .i64 h):=by rw[cell_of_row _ _ 0 _ _ (0,0) e3];rfl
  have d1:V.cell? ⟨w.heap.size+1+1,1,none⟩=some (.int .u64 (2*(k:Int))):=by rw[cell_of_row _ _ 1 _ _ (0,0) e3];rfl
  have f0:V.cell? ⟨w.heap.size+1+1+1,0,none⟩=some (.int .i64 h):=by rw[cell_of_row _ _ 0 _ _ (0,0) e4];rfl
  have f1:V.cell? ⟨w.heap.size+1+1+1,1,none⟩=some (.int .u64 (2*(k:Int)+1)):=by rw[cell_of_row _ _ 1 _ _ (0,0) e4];rfl
  obtain⟨pp,hpp⟩:∃pp,(2*k+1)*pw h=pp:=⟨_,rfl⟩;have hpl:(2*k+1)*pw h<=2^40:=by
    have:=Cv.Ul h k;have:=LT (pw h) (show 2*k+1<=2*k+1+1 by omega)
    omega
  have HE:Hid (∀Z,Calls prog 92 #[.agg #[.int .i64 h,.int .u64 (2*(k:Int))]] Z fun e w'=>e= .returned (.int .u64 pp)∧Below Z.heap.size Z w'):=fun Z=>by
    have:=QgB Z h (2*k) (by omega) hpl pp hpp
    rwa [show((2*k:Nat):Int)=2*(k:Int) by omega] at this
  have HCt:Hid (∀Z,Below V.heap.size V Z->Calls prog 91 #[.agg #[.slice sa n sc,.slice xa n xc],.int .u64 pp] Z fun e w'=> ∃v1 v2,e= .returned (.tuple #[v1,v2])∧Gv w' GB v1 (S.take t) (X.take t)∧Gv w' GB v2 (S.drop t) (X.drop t)∧Below Z.heap.size Z w'):=fun Z hZ=>Qgy Z _ S X (HQ.out.2.2.2.next (Qa hb2 hZ)) hX hp hm pp t (by rw[<-hpp];exact htt)
  have HV:=Qc hb2;have HK:Hid (∀Z,Below V.heap.size V Z->Z.cell? ⟨w.heap.size+1,0,none⟩=some (.slice sa n sc)∧Z.cell? ⟨w.heap.size+1,1,none⟩=some (.slice xa n xc)∧Z.cell? ⟨w.heap.size+1+1,0,none⟩=some (.int .i64 h)∧Z.cell? ⟨w.heap.size+1+1,1,none⟩=some (.int .u64 (2*(k:Int)))):=fun Z hZ=>
    ⟨(hZ.cell (p:=⟨w.heap.size+1,0,none⟩) (Ll V _ g0)).trans g0,(hZ.cell (p:=⟨w.heap.size+1,1,none⟩) (Ll V _ g1)).trans g1,(hZ.cell (p:=⟨w.heap.size+1+1,0,none⟩) (Ll V _ d0)).trans d0,(hZ.cell (p:=⟨w.heap.size+1+1,1,none⟩) (Ll V _ d1)).trans d1⟩
  have y0:w.heap.size+1<V.heap.size:=Ll V _ g0;have y1:w.heap.size+1+1<V.heap.size:=Ll V _ d0;have y2:w.heap.size+1+1+1<V.heap.size:=Ll V _ f0;have y3:w.heap.size<V.heap.size:=by omega
  have HS:=Qc (Lx y0 (Lx y1 (Lx y2 HW.out)));have HI:=Qc (Lx HI1 HI2);have HJ:Hid (∀Z,Below V.heap.size V Z->Z.cell? ⟨w.heap.size+1+1+1,0,none⟩=some (.int .i64 h)∧Z.cell? ⟨w.heap.size+1+1+1,1,none⟩=some (.int .u64 (2*(k:Int)+1))):=fun Z hZ=>
    ⟨(hZ.cell (p:=⟨w.heap.size+1+1+1,0,none⟩) (Ll V _ f0)).trans f0,(hZ.cell (p:=⟨w.heap.size+1+1+1,1,none⟩) (Ll V _ f1)).trans f1⟩
  have HD:=Qc hd;clear hpl hpp hb2 e3 e4 HI1 HI2 hd
  go_cut [10,11] from 60 to 66 (fun x y wx=> ∃p1 p2 a1 b1 a2 b2,x=Zv p1∧y=Zv p2∧Fi GB V.heap.size V wx p1 p2 a1 b1 a2 b2 (S.take t) (S.drop t) (X.take t) (X.drop t))
  case first=>
    go_region_held3 (fun Z=>Z.cell? ⟨w.heap.size+1,0,none⟩=some (.slice sa n sc)∧Z.cell? ⟨w.heap.size+1,1,none⟩=some (.slice xa n xc)∧Z.cell? ⟨w.heap.size+1+1,0,none⟩=some (.int .i64 h)∧Z.cell? ⟨w.heap.size+1+1,1,none⟩=some (.int .u64 (2*(k:Int))))
      (exact HK.out _ (by repeat (first|exact Lc _ _|refine NF ?_|refine bal ?_ _|refine Qa ?_ hbc|refine Qa ?_ hbe|refine Qab ?_ (by omega)))) (first
      | (go_at_call 92;with_reducible refine(HE.out _).mono ?_;rintro e we ⟨rfl,hbe⟩
         have s1:=hbe.size
         try simp only[World.size_alloc,World.drew] at s1
         first|(have y1:=(QaM V).1.next hbe;have y2:=(QaM V).2.next hbe)|(have y1:=(QgM V).next hbe)|skip)
      | (go_at_call 91;with_reducible refine(HCt.out _ (by repeat (first|exact Lc _ _|refine NF ?_|refine bal ?_ _|refine Qa ?_ hbe))).mono ?_;rintro e wc ⟨v1,v2,rfl,q1,q2,hbc⟩
         obtain⟨sa1,sn1,sc1,xa1,xn1,xc1,rfl⟩:=q1.form;obtain⟨sa2,sn2,sc2,xa2,xn2,xc2,rfl⟩:=q2.form;have s2:=hbc.size
         try simp only[World.size_alloc] at s2
         first|(have x1:=y1.next hbc;have x2:=y2.next hbc)|(have x1:=y1.next hbc)|(have x1:=y1.next (Qa (bal (Lc _ _) _) hbc);have x2:=(Qda we).next hbc)|(have x1:=(Qdb we).1.next hbc;have x2:=(Qdb we).2.next hbc)|(have x1:=(Qda we).next hbc)|skip
         try have v1:=x1.lt
         try have v2:=x2.lt
         try have u1:=IX x1.lt
         try have u2:=IX x2.lt
         try have u3:=IX y1.lt
         try have u4:=Ne.symm u3
         try have u5:=Ne.symm u1
         try have u6:=Ne.symm u2
         try obtain⟨k0,k1,kf⟩:=x1.cells
         try obtain⟨m0,m1,mf⟩:=x2.cells))
    all_goals have hVc:Below V.heap.size V wc:=by repeat (first|exact Lc _ _|refine NF ?_|refine bal ?_ _|refine Qa ?_ hbc|refine Qa ?_ hbe)
    all_goals
      go_wp2
      go_meet
      case rel=>
        go_light
        first
          | with_reducible exact⟨_,_,_,_,_,_,rfl,rfl,QgF q1 q2 hVc hVc.size⟩
          | with_reducible exact⟨_,_,_,_,_,_,rfl,rfl,(QgF q2 q1 hVc hVc.size).swap⟩
          | with_reducible exact⟨_,_,_,_,_,_,rfl,rfl,QgG q1 q2 hVc hVc.size x1 (by omega)⟩
          | with_reducible exact⟨_,_,_,_,_,_,rfl,rfl,(QgG q2 q1 hVc hVc.size x1 (by omega)).swap⟩
          | with_reducible exact⟨_,_,_,_,_,_,rfl,rfl,QgH q1 q2 hVc x1 x2 (by omega) (by omega) (by omega)⟩
          | with_reducible exact⟨_,_,_,_,_,_,rfl,rfl,QgH q1 q2 hVc x2 x1 (by omega) (by omega) (by omega)⟩
  case rest=>
    obtain⟨p1,p2,a1,b1,a2,b2,rfl,rfl,F1,F2,F3,F4,F5⟩:=hcut;obtain⟨i0,i1,i2,i3⟩:=HK.out wc F5;obtain⟨j0,j1⟩:=HJ.out wc F5;obtain⟨k0,k1,_⟩:=F1.cells;obtain⟨m0,m1,_⟩:=F2.cells;have hVc:=Qa HV.out F5;have hR:=HQ.out.1.next hVc;have hT:=HQ.out.2.2.1.next hVc;have hq:q<w.heap.size:=HS.out.2.2.2;have hp2:p2≠q:=fun e=>by
      subst e;obtain⟨da,db,dO,dc,h1,_⟩:=hR.ex;rw[F2] at h1
      cases h1
    have H1:=HI.out.1 wc _ hT hR F3;have HR:=Qc (Lx hR (Lx hT (Lx F4 (Lx hq (Lx hp2 (Qa HQ.out.2.1 hVc))))));rw[show((2*k:Nat):Int)=2*(k:Int) by omega] at H1
    have HM:=Qc (Lx m0 (Lx m1 (Lx j0 j1)));clear g0 g1 d0 d1 f0 f1 hT hR hq hp2 F1 F2 F3 F4 m0 m1 j0 j1 y0 y1 y2 y3
    go_upto_region 11 with (go_at_call 93;with_reducible refine H1.mono ?_;rintro e w1 ⟨rfl,hR1,hx1⟩)
    have m0:=UX hx1 HM.out.1 HR.out.2.2.2.2.1;have m1:=UX hx1 HM.out.2.1 HR.out.2.2.2.2.1;have j0:=UX hx1 HM.out.2.2.1 (by have:=HR.out.2.2.2.1;omega)
    have j1:=UX hx1 HM.out.2.2.2 (by have:=HR.out.2.2.2.1;omega)
    have H2:=HI.out.2 w1 _ (HR.out.2.1.bx HR.out.1 hx1) hR1 (HR.out.2.2.1.bx HR.out.1 hx1);rw[show((2*k+1:Nat):Int)=2*(k:Int)+1 by omega] at H2
    have HT1:=Qc (HR.out.2.1.bx HR.out.1 hx1);have HX1:=Qc (Lx hR1 (((Bx.refl q w).next HR.out.2.2.2.2.2).trans hx1));clear i0 i1 i2 i3 k0 k1 hx1 hR1 H1
    go_upto_region 12 with (go_at_call 93;with_reducible refine H2.mono ?_;rintro e w2 ⟨rfl,hR2,hx2⟩)
    have H3:=YU w2 (HT1.out.bx HX1.out.1 hx2) K c1 c2 (by omega) (by omega) d HD.out
    obtain⟨da,db,dO,dc,h1,_⟩:=hR2.ex;have z0:w2.cell? ⟨q,0,none⟩=some (.int .i64 K):=by rw[cell_of_row w2 q 0 _ _ (0,0) h1];rfl
    have HX2:=Qc (Lx hR2 (HX1.out.2.trans hx2));clear m0 m1 j0 j1 h1 hx2 hR2 H2 HT1
    go_wp2_with (go_at_call 155;with_reducible refine H3.mono ?_;rintro e w3 ⟨rfl,hb3⟩)
    go_ret
    exact⟨rfl,HX2.out.1.next hb3,HX2.out.2.next hb3⟩
variable {GB RB:Nat}
theorem Qhp(q:Nat)(K:Int):∀(h k:Nat),h<=40->(k+1)*pw h<=2^40 -> ∀(S:List Nat) (X D:LB) (w:World) (v:Value),Tb w->Rw w RB q K D->Gv w GB v S X->X.length=S.length->Asc S->In h k S->(tno h k S).length<=D.length->(∀s∈X,s.size<=1048576)->(∀s∈D,s.size=clk K)->S.length<=8796093022208 ->
  Calls prog 93 #[Zv q,.agg #[.int .i64 h,.int .u64 k],v] w fun e w'=>e= .returned (.string (vB (clk K) h k S X D))∧Rw w' RB q K (D.drop (tno h k S).length)∧Bx q w w':=by
 have nil:∀(h k:Nat) (X D:LB) (w:World) (v:Value),Rw w RB q K D->Gv w GB v [] X->(tno h k []).length<=D.length->Calls prog 93 #[Zv q,.agg #[.int .i64 h,.int .u64 k],v] w fun e w'=>e= .returned (.string (vB (clk K) h k [] X D))∧Rw w' RB q K (D.drop (tno h k []).length)∧Bx q w w':=fun h k X D w v hr hg hl=>by
  obtain⟨sa,sb,so,sc,xa,xb,xo,xc,rfl,_⟩:=hg.ex;rw[O4] at hl ⊢;exact Qhq w q K D hr hl h k sa xa sc X.length xc _ (QdV ..).symm _ rfl
 intro h
 induction h with
 | zero=>
  intro k hh hk S X D w v ht hr hg hX hp hS hl hs hD hm
  by_cases h0:S=[]
  ·subst h0;exact nil 0 k X D w v hr hg hl
  ·have hn:0<S.length:=List.length_pos_iff.2 h0;obtain⟨sa,sb,so,sc,xa,xb,xo,xc,rfl,r1,r2,_⟩:=hg.ex;obtain rfl:=r2.ptr (by omega)
   have hx0:0<X.length:=by omega
   have hc:w.cell? ⟨xb,xo+0,none⟩=some (.string (X.getD 0 ByteArray.empty)):=r2.rng 0 _ (by simp[List.getD_eq_getElem?_getD,hx0])
   have hsz:=hs _ (QI hx0);rw[QkY hS h0,QdU _ _ _ _ h0];exact Qfj w ht q K D hr k sa S.length sc xb xo X.length xc hn hx0 _ hc (by omega) _ rfl
 | succ h ih=>
  intro k hh hk S X D w v ht hr hg hX hp hS hl hs hD hm
  by_cases h0:S=[]
  ·subst h0;exact nil (h+1) k X D w v hr hg hl
  ·obtain⟨va,vx,rfl⟩:∃a b,v= .agg #[a,b]:=by
    obtain⟨a,n,c,b,m,d,e⟩:=hg.form;exact⟨_,_,e⟩
   obtain⟨t,ht2⟩:∃t,bl S ((2*k+1)*pw h)=t:=⟨_,rfl⟩;have htl:t<=S.length:=by rw[<-ht2];exact Qcd _ _
   have l1:=Qjz hp hS;have l2:=QgP hp hS;have l3:=Qhb hp hS h0;rw[ht2] at l1 l2 l3;rw[l3,Lh] at hl;have hk1:(2*k+1)*pw h<=2^40:=by
    have:=Cv.Ul h k;have:=LT (pw h) (show 2*k+1<=2*k+1+1 by omega)
    omega
   have hk2:(2*k+1+1)*pw h<=2^40:=by rw[Cv.Ul];exact hk
   have some_one:∀(a b:Nat) (T:List Nat) (E:LB),(tno a b T).length<=E.length->0<E.length∨T≠[]:=fun a b T E hE=>by
    by_cases hT:T=[]
    ·subst hT;rw[O4] at hE;exact .inl hE
    ·exact .inr hT
   have hD1:∀s∈D.drop (tno h (2*k) (S.take t)).length,s.size=clk K:=fun s hs=>hD s ((NY _ _).subset hs)
   have hl2:(tno h (2*k+1) (S.drop t)).length<=(D.drop (tno h (2*k) (S.take t)).length).length:=by rw[LD];omega
   have hlt:(S.take t).length<=S.length:=by rw[Lv];omega
   have hld:(S.drop t).length<=S.length:=by rw[LD];omega
   have:=bnode_two w ht q K D hr h k hh hk va vx S X hg hX hp h0 hm t ht2 _ _ (by rw[QdW (Qn K) h (2*k) (S.take t) (X.take t) D hD (some_one _ _ _ _ (Lt (I0 _ _) hl))];exact Qn K) (by rw[QdW (Qn K) h (2*k+1) (S.drop t) (X.drop t) _ hD1 (some_one _ _ _ _ hl2)];exact Qn K) _ _
    (fun W v h1 h2 h3=>ih (2*k) (by omega) hk1 (S.take t) (X.take t) D W v h1 h2 h3 (by rw[Lv,Lv,hX]) (Oq hp _) l1 (Lt (I0 _ _) hl) (fun s hs'=>hs s ((Iy _ _).subset hs')) hD (Lt hlt hm))
    (fun W v h1 h2 h3=>ih (2*k+1) (by omega) hk2 (S.drop t) (X.drop t) _ W v h1 h2 h3 (by rw[LD,LD,hX]) (Jr hp _) l2 hl2 (fun s hs'=>hs s ((NY _ _).subset hs')) hD1 (Lt hld hm)) _ rfl
   rw[Qgf _ _ _ _ _ h0 ht2,l3,Lh,<-Ww];exact this
theorem Qkv{w:World}{ao:OA}{b off len:Nat}{l:List Nat}(h:RdU w ao b off len l):Cv.Rd w ao b off len l:=⟨h.hl,h.ptr,fun _ hj=>h.at hj⟩
abbrev oP(kd k:Int)(old size:Nat)(vs vd:Value):Obj := .cells #[.int .i64 kd,.int .i64 k,.int .u64 old,.int .u64 size,vs,vd] 68
abbrev vP(kd k:Int)(old size:Nat)(vs vd:Value):Value := .agg #[.int .i64 kd,.int .i64 k,.int .u64 old,.int .u64 size,vs,vd]
theorem Qbu(w:World)(kd k:Int)(old size:Nat)(sa:OA)(ns sc:Nat)(da:OA)(n2 dc:Nat)(r:Bool)(hr:decide (kd=2∧(1<=k∧k<=32)∧old=0)=r) :
  Calls prog 89 #[vP kd k old size (.slice sa ns sc) (.slice da n2 dc)] w fun e w'=>e= .returned (.bool r)∧Below w.heap.size w w':=by
 have hb:=bal (Lc w.heap.size w) (oP kd k old size (.slice sa ns sc) (.slice da n2 dc))
 by_cases h1:kd=2
 ·subst h1
  by_cases h2:1<=k∧k<=32
  ·have HC:Hid (∀W,Calls prog 47 #[.int .i64 k] W fun e w'=>e= .returned (.int .i64 0)∧W=w'):=fun W=>by
    have:=(QB W k);rw[show chk k=0 by rw[chk,Le (by omega)]] at this
    exact this.mono fun _ _ h=>⟨h.1,h.2.symm⟩
   by_cases h4:old=0
   ·subst h4;obtain rfl:true=r:=by rw[<-hr];exact(LS ⟨rfl,h2,rfl⟩).symm
    clear hr h2;unfold vP;unfold oP at hb;rw[show((0:Nat):Int)=0 from rfl] at *
    go_enter func89,ntmps89
    go_wp2_with (go_at_call 47;with_reducible refine(HC.out _).mono ?_;rintro e w1 ⟨rfl,rfl⟩)
    go_ret
    exact⟨rfl,hb⟩
   ·have hz:((old:Int) == 0)=false:=beq_false_of_ne (by omega)
    obtain rfl:false=r:=by rw[<-hr];exact(LC (by rintro⟨_,_,h⟩;exact h4 h)).symm
    clear hr h2 h4
    go_enter func89,ntmps89
    go_wp2_with (go_at_call 47;with_reducible refine(HC.out _).mono ?_;rintro e w1 ⟨rfl,rfl⟩)
    go_ret
    exact⟨rfl,hb⟩
  ·have HC:Hid (∀W,Calls prog 47 #[.int .i64 k] W fun e w'=>e= .returned (.int .i64 70)∧W=w'):=fun W=>by
    have:=(QB W k);rw[show chk k=70 by rw[chk,Lo (by omega)]] at this
    exact this.mono fun _ _ h=>⟨h.1,h.2.symm⟩
   obtain rfl:false=r:=by rw[<-hr];exact(LC (by rintro⟨_,h,_⟩;exact h2 h)).symm
   clear hr h2
   go_enter func89,ntmps89
   go_wp2_with (go_at_call 47;with_reducible refine(HC.out _).mono ?_;rintro e w1 ⟨rfl,rfl⟩)
   go_ret
   exact⟨rfl,hb⟩
 ·obtain rfl:false=r:=by rw[<-hr];exact(LC (by rintro⟨h,_,_⟩;exact h1 h)).symm
  clear hr
  go_enter func89,ntmps89;go_wp2
  go_ret
  exact⟨rfl,hb⟩
def fil(k:Int)(m:Nat)(D:LB):Prop:=D.length=m ∧ ∀d∈D,(d.size:Int)=k
instance (k:Int) (m:Nat) (D:LB):Decidable (fil k m D):=by unfold fil;infer_instance
theorem UV(w:World)(kd k:Int)(old size:Nat)(sa:OA)(sb so ns sc:Nat)(S:List Nat)(hs:RdU w sa sb so ns S)(hns:ns<=8796093022208)(da:OA)(db dO dc:Nat)(D:LB)(hr:RdS w da db dO D.length D)(hm:D.length<=8796093022208)(e0:Nat)(he:Cv.Ya size S=e0)(m0:Nat)(hm0:(Cv.rstS size S).length=m0)(r:Bool)(hq:decide (e0=0∧fil k m0 D)=r) :
  Calls prog 90 #[vP kd k old size (.slice sa ns sc) (.slice da D.length dc)] w fun e w'=>e= .returned (.bool r)∧Below w.heap.size w w':=by
 obtain⟨o1,ho1⟩:∃o1,oP kd k old size (.slice sa ns sc) (.slice da D.length dc)=o1:=⟨_,rfl⟩;have hb0:=bal (Lc w.heap.size w) o1;have HN:=Cv.Ym size (w.alloc o1) sa sb so ns sc S (Qkv (hs.next hb0)) (Lt hns (by decide))
 rw[he,hm0] at HN;have h6:Six (w.alloc o1) w.heap.size (.int .i64 kd) (.int .i64 k) (.int .u64 old) (.int .u64 size) (.slice sa ns sc) (.slice da D.length dc):=by rw[<-ho1];exact Jf w _ _ _ _ _ _
 have HB:=Qc hb0;have H6:=Qc h6;rw[<-ho1] at HN HB H6;have ed:IntKind.u64.wrap (D.length:Int)=(D.length:Int):=by rw[IntKind.wrap_u64];omega
 have HR:Hid (∀W,Below w.heap.size w W->RdS W da db dO D.length D):=fun W hb=>hr.next hb (Lb _)
 have hm1:(D.length:Int)<=8796093022208:=by omega
 by_cases h1:e0=0
 ·subst h1;rw[show((0:Nat):Int)=0 from rfl] at HN
  by_cases hl:D.length=m0
  ·subst hl;have HQ:Hid (decide (∀d∈D,(d.size:Int)=k)=r):=by
    rw[<-hq]
    show decide _=decide _
    simp only[fil,true_and]
   clear hr hq hm hs he hm0 hb0 h6 ho1
   go_enter func90,ntmps90
   go_upto_region 2 with (go_at_call 157;with_reducible refine HN.mono ?_;rintro e w1 ⟨rfl,hb1⟩)
   obtain⟨z0,z1,z2,z3,z4,z5⟩:=(H6.out.next hb1).cells;have hbx:=Qa HB.out hb1;clear HN hb1 H6 HB;go_wp2
   go_loopg [28] D.length (fun g i wr=> ∃j:Nat,j<=D.length∧g=D.length-j∧i= .int .i64 j∧(∀t,t<j->((D.getD t ByteArray.empty).size:Int)=k)∧w1=wr)
   case atStart=>go_light;exact⟨0,Lm _,rfl,rfl,fun t ht=>absurd ht (NS _),rfl⟩
   case round=>
    obtain⟨j,hj,rfl,rfl,hal,rfl⟩:=hrel
    by_cases hlt:j<D.length
    ·have hz:(j:Int)<(D.length:Int):=by omega
     have hz0:(0:Int)<=(j:Int):=Lf _;have hrd:=HR.out w1 hbx;obtain rfl:=hrd.ptr (by omega)
     have cj:=hrd.at hlt;obtain⟨d,hd⟩:∃d,D.getD j ByteArray.empty=d:=⟨_,rfl⟩;rw[hd] at cj
     by_cases hk:(d.size:Int)=k
     ·have HN:Hid (∀t,t<j+1->((D.getD t ByteArray.empty).size:Int)=k):=fun t ht=>by
       rcases Ic (Iz ht) with hx|rfl
       ·exact hal t hx
       ·rw[hd];exact hk
      clear hd hal hrd;go_wp2
      go_roundg (D.length-(j+1))
      case rel=>go_light;exact⟨j+1,by omega,rfl,by go_num,HN.out,rfl⟩
      case measure=>go_light;omega
     ·obtain rfl:false=r:=by
       rw[<-HQ.out];refine(LC fun h=>hk ?_).symm
       rw[<-hd];exact h _ (QI hlt)
      clear hd hal hrd;go_wp2
      go_ret
      exact⟨rfl,hbx⟩
    ·obtain rfl:j=D.length:=by omega
     have hz:¬((D.length:Int)<(D.length:Int)):=by omega
     obtain rfl:true=r:=by
      rw[<-HQ.out];refine(LS fun d hd=> ?_).symm
      obtain⟨t,ht,rfl⟩:=L8 hd;have:=hal t ht
      rwa [La,Ld ht] at this
     clear hal hlt;go_wp2
     go_ret
     exact⟨rfl,hbx⟩
  ·have hz:¬(m0:Int)=(D.length:Int):=by omega
   obtain rfl:false=r:=by rw[<-hq];exact(LC (by rintro⟨_,h,_⟩;exact hl h)).symm
   clear hr hq hm hs he hm0 hb0 h6 ho1 hl HR
   go_enter func90,ntmps90
   go_upto_region 2 with (go_at_call 157;with_reducible refine HN.mono ?_;rintro e w1 ⟨rfl,hb1⟩)
   obtain⟨z0,z1,z2,z3,z4,z5⟩:=(H6.out.next hb1).cells;have hbx:=Qa HB.out hb1;clear HN hb1 H6 HB;go_wp2
   go_ret
   exact⟨rfl,hbx⟩
 ·have hz:¬(e0:Int)=0:=by omega
  obtain rfl:false=r:=by rw[<-hq];exact(LC (by rintro⟨h,_⟩;exact h1 h)).symm
  clear hr hq hm hs he hm0 hb0 h6 ho1 h1 HR
  go_enter func90,ntmps90
  go_upto_region 2 with (go_at_call 157;with_reducible refine HN.mono ?_;rintro e w1 ⟨rfl,hb1⟩)
  obtain⟨z0,z1,z2,z3,z4,z5⟩:=(H6.out.next hb1).cells;have hbx:=Qa HB.out hb1;clear HN hb1 H6 HB;go_wp2
  go_ret
  exact⟨rfl,hbx⟩
theorem Rt.drew{w:World}{g n:Nat}{d:BA}(h:Rt w g n d):Rt w.drew g n d:=⟨h.c0,h.c1,h.f0,h.f1⟩
abbrev noR:Value := .agg #[.int .u64 0,.string ⟨#[]⟩]
theorem Yj{w W0:World}{kd k:Int}{old size:Nat}{vs vd:Value}(h:(w.alloc (.cells #[.int .i64 kd,.int .i64 k,.int .u64 old,.int .u64 size,vs,vd] 68)).alloc (.cells #[.int .u64 0,.string ⟨#[]⟩] 33)=W0) :
  Below w.heap.size w W0∧Six W0 w.heap.size (.int .i64 kd) (.int .i64 k) (.int .u64 old) (.int .u64 size) vs vd∧Rt W0 (w.heap.size+1) 0 ⟨#[]⟩∧W0.heap.size=w.heap.size+2:=by
 subst h;refine⟨bal (bal (Lc _ _) _) _,?_,?_,by simp⟩
 ·exact(Jf w _ _ _ _ _ _).next (bal (Lc _ _) _)
 ·have:=QdJ (w.alloc (.cells #[.int .i64 kd,.int .i64 k,.int .u64 old,.int .u64 size,vs,vd] 68)) 0 ⟨#[]⟩ 33;rw[LK] at this;exact this
theorem Uu{w:World}{g n:Nat}{d:BA}(h:Rt w g n d)(a:Int)(b:BA) :
  ((w.setCell ⟨g,0,none⟩ (.int .u64 a)).setCell ⟨g,1,none⟩ (.string b)).cell? ⟨g,0,none⟩=some (.int .u64 a)∧((w.setCell ⟨g,0,none⟩ (.int .u64 a)).setCell ⟨g,1,none⟩ (.string b)).cell? ⟨g,1,none⟩=some (.string b)∧ChT (fun x=>x=g) w ((w.setCell ⟨g,0,none⟩ (.int .u64 a)).setCell ⟨g,1,none⟩ (.string b)):=by
 refine⟨?_,?_,((ChT.refl (fun x=>x=g) w).set g 0 _ rfl).set g 1 _ rfl⟩
 ·exact(Lz _ _ _ _ (by simp)).trans (LU _ _ _ h.c0)
 ·exact LU _ _ _ ((Lz _ _ _ _ (by simp)).trans h.c1)
def okB(kd k:Int)(old size:Nat)(S:List Nat)(D:LB):Prop:=(kd=2∧(1<=k∧k<=32)∧old=0)∧(Cv.Ya size S=0∧fil k (Cv.rstS size S).length D)
instance (kd k:Int) (old size:Nat) (S:List Nat) (D:LB):Decidable (okB kd k old size S D):=by unfold okB;infer_instance
theorem QiN(w:World)(kd k:Int)(old size:Nat)(sa:OA)(sb so ns sc:Nat)(S:List Nat)(hs:RdU w sa sb so ns S)(hns:ns<=8796093022208)(da:OA)(db dO dn dc:Nat)(D:LB)(hr:RdS w da db dO dn D)(hm:dn<=8796093022208)(xa:OA)(xn xc:Nat)(hno:¬(okB kd k old size S D∧xn=ns)) :
  Calls prog 50 #[vP kd k old size (.slice sa ns sc) (.slice da dn dc),.slice xa xn xc] w fun e w'=>e= .returned (.tuple #[noR,.int .i64 150])∧Below w.heap.size w w':=by
 have hl:=hs.hl;have hdl:=hr.hl;subst hdl;obtain⟨r1,hr1⟩:∃r,decide (kd=2∧(1<=k∧k<=32)∧old=0)=r:=⟨_,rfl⟩
 obtain⟨r2,hr2⟩:∃r,decide (Cv.Ya size S=0∧fil k (Cv.rstS size S).length D)=r:=⟨_,rfl⟩
 have HI:Hid (∀W,Calls prog 89 #[vP kd k old size (.slice sa ns sc) (.slice da D.length dc)] W fun e w'=>e= .returned (.bool r1)∧Below W.heap.size W w'):=fun W=>Qbu W kd k old size sa ns sc da D.length dc r1 hr1
 have HF:Hid (∀W,Below w.heap.size w W->Calls prog 90 #[vP kd k old size (.slice sa ns sc) (.slice da D.length dc)] W fun e w'=>e= .returned (.bool r2)∧Below W.heap.size W w'):=fun W hb=>UV W kd k old size sa sb so ns sc S (hs.next hb) hns da db dO dc D (hr.next hb (Lb _)) hm _ rfl _ rfl r2 hr2
 have HN:Hid (r1=true->r2=true -> ¬xn=ns):=fun h1 h2 h3=>hno ⟨⟨NG (hr1.trans h1),NG (hr2.trans h2)⟩,h3⟩
 obtain⟨W0,hW0⟩:∃W0,(w.alloc (.cells #[.int .i64 kd,.int .i64 k,.int .u64 old,.int .u64 size,.slice sa ns sc,.slice da D.length dc] 68)).alloc (.cells #[.int .u64 0,.string ⟨#[]⟩] 33)=W0:=⟨_,rfl⟩;obtain⟨hb,h6,hRt,hz⟩:=Yj hW0;obtain⟨c0,c1,c2,c3,c4,c5⟩:=h6.cells;have HR:=Qc (Lx hRt hz);have H6:=Qc h6;clear hs hr hm hno hr1 hr2 h6 hRt hz
 cases r1 with
 | false=>
  clear HF HN
  go_enter func50,ntmps50
  go_wp2_with (go_at_call 89;with_reducible refine(HI.out _).mono ?_;rintro e w1 ⟨rfl,hb1⟩;have hR:=HR.out.1.below hb1 (by rw[HR.out.2];omega);have k0:=hR.c0;have k1:=hR.c1;have f0:=hR.f0;have f1:=hR.f1)
  obtain⟨s0,s1,hch⟩:=Uu hR 0 ⟨#[]⟩;refine LA (v := .tuple #[noR,.int .i64 150]) (by simp[results,results50,go_sem,s0,s1]) rfl ⟨rfl,?_⟩
  exact(Qa hb hb1).trans (hch.below (by rintro b rfl;omega))
 | true=>
  cases r2 with
  | false=>
   clear HN
   go_enter func50,ntmps50
   go_wp2_with (first
    | (go_at_call 89;with_reducible refine(HI.out _).mono ?_;rintro e w1 ⟨rfl,hb1⟩;obtain⟨d0,d1,d2,d3,d4,d5⟩:=(H6.out.next hb1).cells)
    | (go_at_call 90;with_reducible refine(HF.out _ (Qa hb hb1)).mono ?_;rintro e w2 ⟨rfl,hb2⟩;have hR:=HR.out.1.below (Qa hb1 hb2) (by rw[HR.out.2];omega);have k0:=hR.c0;have k1:=hR.c1;have f0:=hR.f0;have f1:=hR.f1))
   obtain⟨s0,s1,hch⟩:=Uu hR 0 ⟨#[]⟩;refine LA (v := .tuple #[noR,.int .i64 150]) (by simp[results,results50,go_sem,s0,s1]) rfl ⟨rfl,?_⟩
   exact(Qa (Qa hb hb1) hb2).trans (hch.below (by rintro b rfl;omega))
  | true=>
   have hne:=HN.out rfl rfl;have hz:¬(xn:Int)=(ns:Int):=by omega
   clear HN hne
   go_enter func50,ntmps50
   go_wp2_with (first
    | (go_at_call 89;with_reducible refine(HI.out _).mono ?_;rintro e w1 ⟨rfl,hb1⟩;obtain⟨d0,d1,d2,d3,d4,d5⟩:=(H6.out.next hb1).cells)
    | (go_at_call 90;with_reducible refine(HF.out _ (Qa hb hb1)).mono ?_;rintro e w2 ⟨rfl,hb2⟩;have hR:=HR.out.1.below (Qa hb1 hb2) (by rw[HR.out.2];omega);have k0:=hR.c0;have k1:=hR.c1;have f0:=hR.f0;have f1:=hR.f1;obtain⟨g0,g1,g2,g3,g4,g5⟩:=(H6.out.next (Qa hb1 hb2)).cells))
   obtain⟨s0,s1,hch⟩:=Uu hR 0 ⟨#[]⟩;refine LA (v := .tuple #[noR,.int .i64 150]) (by simp[results,results50,go_sem,s0,s1]) rfl ⟨rfl,?_⟩
   exact(Qa (Qa hb hb1) hb2).trans (hch.below (by rintro b rfl;omega))
theorem Qfk(w:World)(k:Int)(size:Nat)(sa:OA)(sb so sc:Nat)(S:List Nat)(X:LB)(hs:RdU w sa sb so X.length S)(hns:X.length<=8796093022208)(da:OA)(db dO dc:Nat)(D:LB)(hr:RdS w da db dO D.length D)(hm:D.length<=8796093022208)(xa:OA)(xb xo xc:Nat)(hx:RdS w xa xb xo X.length X)(hok:okB 2 k 0 size S D)(hlong:¬ ∀s∈X,s.size<=1048576) :
  Calls prog 50 #[vP 2 k 0 size (.slice sa X.length sc) (.slice da D.length dc),.slice xa X.length xc] w fun e w'=>e= .returned (.tuple #[noR,.int .i64 100])∧Below w.heap.size w w':=by
 have HI:Hid (∀W,Calls prog 89 #[vP 2 k 0 size (.slice sa X.length sc) (.slice da D.length dc)] W fun e w'=>e= .returned (.bool true)∧Below W.heap.size W w'):=fun W=>Qbu W 2 k 0 size sa X.length sc da D.length dc true (LS hok.1)
 have HF:Hid (∀W,Below w.heap.size w W->Calls prog 90 #[vP 2 k 0 size (.slice sa X.length sc) (.slice da D.length dc)] W fun e w'=>e= .returned (.bool true)∧Below W.heap.size W w'):=fun W hb=>UV W 2 k 0 size sa sb so X.length sc S (hs.next hb) hns da db dO dc D (hr.next hb (Lb _)) hm _ rfl _ rfl true (LS hok.2)
 have HX:Hid (∀W,Below w.heap.size w W->RdS W xa xb xo X.length X):=fun W hb=>hx.next hb (Lb _)
 obtain⟨W0,hW0⟩:∃W0,(w.alloc (.cells #[.int .i64 2,.int .i64 k,.int .u64 ((0:Nat):Int),.int .u64 size,.slice sa X.length sc,.slice da D.length dc] 68)).alloc (.cells #[.int .u64 0,.string ⟨#[]⟩] 33)=W0:=⟨_,rfl⟩;obtain⟨hb,h6,hRt,hz⟩:=Yj hW0;rw[show((0:Nat):Int)=0 from rfl] at hW0 h6
 obtain⟨c0,c1,c2,c3,c4,c5⟩:=h6.cells;have HR:=Qc (Lx hRt hz);have H6:=Qc h6;have HN:=Qc hlong;have hn5:(X.length:Int)<=8796093022208:=by omega
 clear hs hr hm hok h6 hRt hz hx hlong;unfold vP at HI HF;rw[show((0:Nat):Int)=0 from rfl] at HI HF
 unfold vP;rw[show((0:Nat):Int)=0 from rfl]
 go_enter func50,ntmps50
 go_upto_region 3 with (first
  | (go_at_call 89;with_reducible refine(HI.out _).mono ?_;rintro e w1 ⟨rfl,hb1⟩;obtain⟨d0,d1,d2,d3,d4,d5⟩:=(H6.out.next hb1).cells)
  | (go_at_call 90;with_reducible refine(HF.out _ (Qa hb hb1)).mono ?_;rintro e w2 ⟨rfl,hb2⟩;have hR:=HR.out.1.below (Qa hb1 hb2) (by rw[HR.out.2];omega);have k0:=hR.c0;have k1:=hR.c1;have f0:=hR.f0;have f1:=hR.f1;obtain⟨g0,g1,g2,g3,g4,g5⟩:=(H6.out.next (Qa hb1 hb2)).cells))
 have hbw:=Qa (Qa hb hb1) hb2;clear hb hb1 hb2 c0 c1 c2 c3 c4 c5 d0 d1 d2 d3 d4 d5 HI HF;go_wp2
 go_loopg [36] X.length (fun g i wr=> ∃j:Nat,j<=X.length∧g=X.length-j∧i= .int .i64 j∧(∀t,t<j->(X.getD t ByteArray.empty).size<=1048576)∧w2=wr)
 case atStart=>go_light;exact⟨0,Lm _,rfl,rfl,fun t ht=>absurd ht (NS _),rfl⟩
 case round=>
  obtain⟨j,hj,rfl,rfl,hal,rfl⟩:=hrel
  by_cases hlt:j<X.length
  ·have hz:(j:Int)<(X.length:Int):=by omega
   have hz0:(0:Int)<=(j:Int):=Lf _;have hrd:=HX.out w2 hbw;obtain rfl:=hrd.ptr (by omega)
   have cj:=hrd.at hlt;obtain⟨d,hd⟩:∃d,X.getD j ByteArray.empty=d:=⟨_,rfl⟩;rw[hd] at cj
   by_cases hk:d.size<=1048576
   ·have HN2:Hid (∀t,t<j+1->(X.getD t ByteArray.empty).size<=1048576):=fun t ht=>by
     rcases Ic (Iz ht) with hx|rfl
     ·exact hal t hx
     ·rw[hd];exact hk
    have hkz:¬(1048576:Int)<(d.size:Int):=by omega
    clear hd hal hrd hk;go_wp2
    go_roundg (X.length-(j+1))
    case rel=>go_light;exact⟨j+1,by omega,rfl,by go_num,HN2.out,rfl⟩
    case measure=>go_light;omega
   ·have hkz:(1048576:Int)<(d.size:Int):=by omega
    clear hd hal hrd hk;go_wp2;obtain⟨s0,s1,hch⟩:=Uu hR 0 ⟨#[]⟩;refine LA (v := .tuple #[noR,.int .i64 100]) (by simp[results,results50,go_sem,s0,s1]) rfl ⟨rfl,?_⟩
    exact hbw.trans (hch.below (by rintro b rfl;omega))
  ·exfalso
   refine HN.out fun s hs=> ?_
   obtain⟨t,ht,rfl⟩:=L8 hs;have:=hal t (by omega)
   rwa [La,Ld ht] at this
end
end Go.Proofs.YtoblgjledefdbabGreatDoor
