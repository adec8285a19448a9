/- Own work. -/
import Derived.Test.YtoblgjledefdbaaGreatDoorQm45
set_option maxRecDepth 100000
set_option maxHeartbeats 4000000
namespace Go.Proofs.YtoblgjledefdbaaGreatDoor
open Go.RowKit
attribute [local go_sem ↓] Go.wp_at_zero Go.wp_at_succ
open Go.Proofs.Tryz
namespace Cv
open Pl
theorem Ow{lo hi H K:Nat}(h1:K*pw H=lo)(h2:(K+1)*pw H=hi):(fun i=>decide (lo<=i) && decide (i<hi))=inb H K:=by
 funext i;rw[inb,h1,h2]
theorem Qhv{H K:Nat}{X:List Nat}(h:(X.filter (inb H K)).length=0):(tno H K X).length=1:=(QaD H K X).1 h
theorem Qlg{K:Nat}{X:List Nat}(h:(X.filter (inb 0 K)).length≠0):(tno 0 K X).length=0:=by
 rw[tno,Le h];rfl
theorem Qnp{H K:Nat}{X:List Nat}(h:(X.filter (inb (H+1) K)).length≠0):(tno (H+1) K X).length=(tno H (2*K) (X.filter (inb (H+1) K))).length+(tno H (2*K+1) (X.filter (inb (H+1) K))).length:=by
 rw[tno,Le h,Lc]
theorem Qgu : ∀(H K:Nat) (X:List Nat) (w:World) (sa:OA) (sb so sc:Nat),RdU w sa sb so (X.filter (inb H K)).length (X.filter (inb H K))->X.length<=17592186043904->H<=40->(K+1)*pw H<=2^40 ->
  Calls prog 370 #[.int .i64 (H:Int),.int .u64 (K:Int),.slice sa (X.filter (inb H K)).length sc] w fun e w'=>e = .returned (.int .u64 ((tno H K X).length:Nat))∧Below w.heap.size w w':=by
 intro H
 induction H with
 | zero =>
  intro K X w sa sb so sc rs hX hH hK
  by_cases h0:(X.filter (inb 0 K)).length=0
  ·rw[Qhv h0];have xB:(((X.filter (inb 0 K)).length:Int) == 0)=true:=beq_iff_eq.2 (by omega)
   generalize (X.filter (inb 0 K)).length=m at *;clear rs h0
   go_enter func370,ntmps370;go_wp2
   go_ret
   exact⟨rfl,Lb _ _⟩
  ·rw[Qlg h0];have xB:(((X.filter (inb 0 K)).length:Int) == 0)=false:=beq_eq_false_iff_ne.2 (by omega)
   generalize (X.filter (inb 0 K)).length=m at *;clear rs h0
   go_enter func370,ntmps370;go_wp2
   go_ret
   exact⟨rfl,Lb _ _⟩
 | succ H ih =>
  intro K X w sa sb so sc rs hX hH hK;have hY:(X.filter (inb (H+1) K)).length<=X.length:=List.length_filter_le _ _
  by_cases h0:(X.filter (inb (H+1) K)).length=0
  ·rw[Qhv h0];have xB:(((X.filter (inb (H+1) K)).length:Int) == 0)=true:=beq_iff_eq.2 (by omega)
   generalize (X.filter (inb (H+1) K)).length=m at *;clear rs h0 ih hH hK hX hY
   go_enter func370,ntmps370;go_wp2
   go_ret
   exact⟨rfl,Lb _ _⟩
  ·rw[Qnp h0];have xB:(((X.filter (inb (H+1) K)).length:Int) == 0)=false:=beq_eq_false_iff_ne.2 (by omega)
   have xN:(((H+1:Nat):Int) == 0)=false:=beq_eq_false_iff_ne.2 (by omega)
   generalize X.filter (inb (H+1) K)=Y at *;obtain⟨p,hp⟩:=Ze (pw (H+1));obtain⟨q,hq⟩:=Ze (pw H);have xD : ∀W,Calls prog 368 #[.int .i64 ((H:Int)+1)] W fun e w'=>e = .returned (.int .u64 (p:Int))∧W=w':=fun W=>US W (H+1) hH p hp
   have xF:=fun W=>US W H (by omega) q hq
   have g2:=UN H K;have g3:=U3 H K;have g1:=Y4 H K;have g4:=Oz H K;have xJ:=QB H;obtain⟨a,ha⟩:=Ze (K*pw (H+1));have hb:(K+1)*pw (H+1)=a+p:=by rw[LL,LV,ha,hp]
   have xI:K<=a:=by rw[<-ha];exact NI _ (QB _)
   have i1:=fun(w':World) (sa':OA) (sb' sc':Nat) hr=>ih (2*K) Y w' sa' sb' 0 sc' hr (by omega) (by omega) (by rw[g2];omega)
   have i2:=fun(w':World) (sa':OA) (sb' sc':Nat) hr=>ih (2*K+1) Y w' sa' sb' 0 sc' hr (by omega) (by omega) (by rw[g3];omega)
   have f1:(fun i=>decide (a<=i) && decide (i<a+q))=inb H (2*K):=Ow (by rw[g1,ha]) (by rw[g2,ha,hq])
   have f2:(fun i=>decide (a+q<=i) && decide (i<a+p))=inb H (2*K+1):=Ow (by rw[g2,ha,hq]) (by rw[g3,hb])
   have HR:Hid (∀F,Below w.heap.size w F->RdU F sa sb so Y.length Y):=fun F hF=>rs.next hF
   have xG:Hid (∀F,Below w.heap.size w F->Calls prog 369 #[.slice sa Y.length sc,.int .u64 (a:Int),.int .u64 ((a+q:Nat):Int)] F fun e w' => ∃sa' sb' sc',e = .returned (.slice sa' (Y.filter (inb H (2*K))).length sc')∧RdU w' sa' sb' 0 (Y.filter (inb H (2*K))).length (Y.filter (inb H (2*K)))∧Below F.heap.size F w'):=fun F hF=>(Ov F sa sb so sc Y a (a+q) (HR.out F hF) (by omega)).mono (by
    rintro e w' ⟨v,rfl,o,xC⟩;rw[f1] at o;obtain⟨ao,b,c,rfl,r,_⟩:=Jx o;exact⟨ao,b,c,rfl,r,xC⟩)
   have xH:Hid (∀F,Below w.heap.size w F->Calls prog 369 #[.slice sa Y.length sc,.int .u64 ((a+q:Nat):Int),.int .u64 ((a+p:Nat):Int)] F fun e w' => ∃sa' sb' sc',e = .returned (.slice sa' (Y.filter (inb H (2*K+1))).length sc')∧RdU w' sa' sb' 0 (Y.filter (inb H (2*K+1))).length (Y.filter (inb H (2*K+1)))∧Below F.heap.size F w'):=fun F hF=>(Ov F sa sb so sc Y (a+q) (a+p) (HR.out F hF) (by omega)).mono (by
    rintro e w' ⟨v,rfl,o,xC⟩;rw[f2] at o;obtain⟨ao,b,c,rfl,r,_⟩:=Jx o;exact⟨ao,b,c,rfl,r,xC⟩)
   have l1:=Qhu H (2*K) Y;have l2:=Qhu H (2*K+1) Y;have xA:pw H<=2^40:=by omega
   rw[hb] at hK;have xK:q+q=p:=by rw[<-hq,<-hp,QJ];omega
   rw[hq] at l1 l2 xA;have xE:(2:Nat)^40=1099511627776:=by decide
   rw[xE] at hK xA;generalize (Y.filter (inb H (2*K)))=Y1 at *;generalize (Y.filter (inb H (2*K+1)))=Y2 at *;generalize (tno H (2*K) Y).length=x at *;generalize (tno H (2*K+1) Y).length=y at *;have I1:Hid (∀(w':World) (sa':OA) (sb' sc':Nat),RdU w' sa' sb' 0 Y1.length Y1->Calls prog 370 #[.int .i64 (H:Int),.int .u64 ((2*K:Nat):Int),.slice sa' Y1.length sc'] w' fun e w''=>e = .returned (.int .u64 (x:Int))∧Below w'.heap.size w' w''):=i1
   have I2:Hid (∀(w':World) (sa':OA) (sb' sc':Nat),RdU w' sa' sb' 0 Y2.length Y2->Calls prog 370 #[.int .i64 (H:Int),.int .u64 ((2*K+1:Nat):Int),.slice sa' Y2.length sc'] w' fun e w''=>e = .returned (.int .u64 (y:Int))∧Below w'.heap.size w' w''):=i2
   have ea:IntKind.u64.wrap ((K:Int)*(p:Int))=(a:Int):=by rw[show(K:Int)*(p:Int)=(a:Int) by rw[<-ha,hp,Ir],IntKind.wrap_u64];omega
   have eb:IntKind.u64.wrap ((a:Int)+(p:Int))=((a+p:Nat):Int):=by rw[IntKind.wrap_u64];omega
   have xL:IntKind.u64.wrap ((a:Int)+(q:Int))=((a+q:Nat):Int):=by rw[IntKind.wrap_u64];omega
   have e1:IntKind.u64.wrap (2*(K:Int))=((2*K:Nat):Int):=by rw[IntKind.wrap_u64];omega
   have e2:IntKind.u64.wrap (((2*K:Nat):Int)+1)=((2*K+1:Nat):Int):=by rw[IntKind.wrap_u64];omega
   have e3:((H+1:Nat):Int) - 1=(H:Int):=by omega
   have e4:IntKind.u64.wrap ((x:Int)+(y:Int))=((x+y:Nat):Int):=by rw[IntKind.wrap_u64];omega
   have xM:(H:Int)<=40:=by omega
   clear ih i1 i2 g1 g2 g3 g4 xJ ha hb xI l1 l2 hp hq xA f1 f2 h0 rs hX hY hK xK hH HR xE;generalize 2*K=k2 at *;generalize k2+1=k3 at *;generalize x+y=z at *;generalize a+q=aq at *;generalize a+p=ap at *;generalize Y.length=m at *
   go_enter func370,ntmps370
   go_upto_region 7 with (first
    | (go_at_call 368;with_reducible refine(xD _).mono ?_;rintro e w' ⟨rfl,rfl⟩)
    | (go_at_call 368;with_reducible refine(xF _).mono ?_;rintro e w' ⟨rfl,rfl⟩))
   go_wp2_with (first
    | (go_at_call 369;with_reducible refine(xG.out _ (Lb _ _)).mono ?_;rintro e w1 ⟨ta,tb,tc,rfl,r1,b1⟩)
    | (go_at_call 370;with_reducible refine(I1.out _ _ _ _ r1).mono ?_;rintro e w2 ⟨rfl,b2⟩;(have b3:=Qa b1 b2);clear b1 b2)
    | (go_at_call 368;with_reducible refine(xD _).mono ?_;rintro e w' ⟨rfl,rfl⟩)
    | (go_at_call 369;with_reducible refine(xH.out _ b3).mono ?_;rintro e w4 ⟨ua,ub,uc,rfl,r2,b4⟩)
    | (go_at_call 370;with_reducible refine(I2.out _ _ _ _ r2).mono ?_;rintro e w5 ⟨rfl,b5⟩))
   go_ret
   exact⟨rfl,Qa (Qa b3 b4) b5⟩
end Cv
section
open Cv Pl
structure Mt(w:World)(ao:OA)(g:Nat)(L:List (Nat×Nat)):Prop where
 addr:0<L.length->ao=some ⟨g,0,none⟩
 cell : ∀j,j<L.length->w.cell? ⟨g,j*2,none⟩=some (.int .i64 ((L.getD j (0,0)).1:Nat))∧w.cell? ⟨g,j*2+1,none⟩=some (.int .u64 ((L.getD j (0,0)).2:Nat))
theorem Mt.next{w w':World}{ao:OA}{g:Nat}{L:List (Nat×Nat)}(r:Mt w ao g L)(h:Below w.heap.size w w'):Mt w' ao g L :=
 ⟨r.addr,fun j hj=>⟨(h.cell (p:=⟨g,j*2,none⟩) (Ln w _ (r.cell j hj).1)).trans (r.cell j hj).1,(h.cell (p:=⟨g,j*2+1,none⟩) (Ln w _ (r.cell j hj).2)).trans (r.cell j hj).2⟩⟩
theorem Qlu(L:List (Nat×Nat))(j:Nat):(zl L).getD j (0,0)=(((L.getD j (0,0)).1:Int),(L.getD j (0,0)).2):=by
 by_cases h:j<L.length
 ·simp[zl,List.getD_eq_getElem?_getD,List.getElem?_eq_getElem h]
 ·simp[zl,List.getD_eq_getElem?_getD,List.getElem?_eq_none (Nat.le_of_not_lt h)]
theorem Qoh{w:World}{B:Nat}{v:Value}{L:List (Nat×Nat)}(h:Uh w B v (zl L)) : ∃ao g cap,v = .slice ao L.length cap∧Mt w ao g L:=by
 have h0:=h;obtain⟨h1,h2⟩:=h
 rcases h2 with ⟨rfl,h2⟩|⟨g,cap,cur,rfl,hg,hh,hc1,hc2,hc3,hc4⟩
 ·rw[Je] at h2;exact⟨none,0,0,by rw[h2],⟨fun h=>absurd h (by omega),fun j hj=>absurd hj (by omega)⟩⟩
 ·refine⟨some ⟨g,0,none⟩,g,cap,by rw[Je],⟨fun _=>rfl,fun j hj => ?_⟩⟩
  have xB:=h0.cells (g:=g) rfl;have xC:j<(zl L).length:=by rw[Je];exact hj
  have xA:(zl L)[j]? = some (((L.getD j (0,0)).1:Int),(L.getD j (0,0)).2):=by
   rw[<-Qlu,Lh xC,Ld,Lh xC];rfl
  obtain⟨e1,e2⟩:=Qjj (zl L) j _ _ xA;have f1:=xB _ _ e1;have f2:=xB _ _ e2;rw[Addr.add_mid,Lm,LG] at f1 f2;exact⟨f1,f2⟩
theorem Jp(n:Nat)(w:World)(hn:n<=2^40) :
  Calls prog 366 #[.int .u64 (n:Int)] w fun e w' => ∃ao g cap,e = .returned (.slice ao (dnL 41 0 n).length cap)∧Mt w' ao g (dnL 41 0 n)∧Below w.heap.size w w':=by
 refine(QdL n w hn).mono ?_
 rintro e w' ⟨v,rfl,o,hb⟩;obtain⟨ao,g,cap,rfl,r⟩:=Qoh o;exact⟨ao,g,cap,rfl,r,hb⟩
theorem QnZ(hi:Nat) : ∀h lo,(∃c,lo=c*pw h)->lo<=hi -> ∀b∈dnL h lo hi,b.1<h∧(b.2+1)*pw b.1<=hi:=by
 intro h
 induction h with
 | zero=>intro lo _ _ b hb;cases hb
 | succ h ih =>
  intro lo ⟨c,hc⟩ hl b hb;have e1:lo=(2*c)*pw h:=by rw[hc,Y4]
  have e2:lo+pw h=(2*c+1)*pw h:=by rw[UN,<-hc]
  by_cases hf:pw h<=hi - lo
  ·rw[QfH hf] at hb
   rcases List.mem_cons.1 hb with rfl|hb
   ·refine⟨Nat.lt_succ_self _,?_⟩
    have:lo / pw h=2*c:=by rw[e1];exact Nx _ (QB h)
    show(lo / pw h+1)*pw h<=hi
    rw[this,<-e2];omega
   ·have:=ih (lo+pw h) ⟨_,e2⟩ (by omega) b hb
    exact⟨by omega,this.2⟩
  ·rw[QjD hf] at hb;have:=ih lo ⟨_,e1⟩ hl b hb;exact⟨by omega,this.2⟩
theorem QjC{n j:Nat}(hj:j<(dnL 41 0 n).length):((dnL 41 0 n).getD j (0,0)).1<=40∧(((dnL 41 0 n).getD j (0,0)).2+1)*pw ((dnL 41 0 n).getD j (0,0)).1<=n:=by
 have hm:(dnL 41 0 n).getD j (0,0)∈dnL 41 0 n:=by
  rw[Ld,Lh hj];exact L3 _
 have:=QnZ n 41 0 ⟨0,by simp⟩ (Ll _) _ hm
 exact⟨by omega,this.2⟩
def gl(f:Nat×Nat->List (Nat×Nat))(L:List (Nat×Nat))(j:Nat):Nat:=((L.take j).flatMap f).length
theorem QgZ(f:Nat×Nat->List (Nat×Nat))(L:List (Nat×Nat)):gl f L 0=0:=by simp[gl]
theorem QjY(f:Nat×Nat->List (Nat×Nat))(L:List (Nat×Nat)):gl f L L.length=(L.flatMap f).length:=by rw[gl,L9]
theorem QgY(f:Nat×Nat->List (Nat×Nat))(L:List (Nat×Nat)){j:Nat}(hj:j<L.length):gl f L (j+1)=gl f L j+(f (L.getD j (0,0))).length:=by
 have:L.take (j+1)=L.take j++[L.getD j (0,0)]:=by
  rw[NH,Lh hj,Ld,Lh hj];rfl
 rw[gl,gl,this,IP,Lc];simp
theorem QnA(f:Nat×Nat->List (Nat×Nat))(L:List (Nat×Nat))(j:Nat):gl f L j<=(L.flatMap f).length:=by
 have:L.flatMap f=(L.take j).flatMap f++(L.drop j).flatMap f:=by rw[<-IP,Nj]
 rw[gl,this,Lc];omega
section
variable (w:World) (kd k:Int) (old size:Nat) (sa:OA) (sb so sc:Nat) (S:List Nat) (dv:Value)
theorem Qiz(rs:RdU w sa sb so S.length S)(hS:S.length<=17592186044416)(hc:cnt kd k old size S=none) :
  Calls prog 285 #[pv6 kd k old size (.slice sa S.length sc) dv] w fun e w'=>e = .returned (cV none)∧Below w.heap.size w w':=by
 obtain⟨W0,hW,h6,hb,hz⟩:=UB w (.int .i64 kd) (.int .i64 k) (.int .u64 (old:Int)) (.int .u64 (size:Int)) (.slice sa S.length sc) dv;have HN:=U7 W0 kd k old size sa sb so sc S dv (rs.next hb) hS;rw[hc] at HN;simp only[pv6,Option.isSome] at HN;obtain⟨e0,e1,e2,e3,e4,e5⟩:=h6.cells;have HB:=Qg hb;clear h6 hb hz rs hc hS;generalize S.length=ms at *;simp only[pv6,cV]
 go_enter func285,ntmps285
 go_wp2_with (go_at_call 365;(try rw[hW]);with_reducible refine HN.mono ?_;rintro x w1 ⟨rfl,xA⟩)
 go_ret2
 exact⟨rfl,Qa HB.out xA⟩
theorem Qf9(hn:size<=2^40)(hk:1<=k∧k<=32)(ho:old<=size) :
  Calls prog 285 #[pv6 3 k old size (.slice sa 0 sc) dv] w fun e w'=>e = .returned (cV (cnt 3 k old size []))∧Below w.heap.size w w':=by
 obtain⟨W0,hW,h6,hb,hz⟩:=UB w (.int .i64 3) (.int .i64 k) (.int .u64 (old:Int)) (.int .u64 (size:Int)) (.slice sa 0 sc) dv;have hc:cnt 3 k old size []=some ((cov 0 old).length+(cov old size).length):=by rw[OD ⟨hk.1,hk.2,hn⟩,Lk ⟨ho,rfl⟩]
 have xE:=(Yh hc).hc;have HN:=U7 W0 3 k old size sa 0 0 sc [] dv ⟨rfl,fun h=>absurd h (by decide),fun j v h=>by cases h⟩ (by decide)
 rw[hc] at HN ⊢;rw[Jl old (by omega),Qiy old size size ho (La _) hn] at xE ⊢
 simp only[pv6,Option.isSome,List.length_nil] at HN;have HM:=fun F=>Jp size F hn
 have xG:=fun F=>Jp old F (by omega)
 have xK:Hid (∀(F:World) (j:Nat),j<(dnL 41 0 size).length->Calls prog 367 #[.int .i64 ((((dnL 41 0 size).getD j (0,0)).1:Nat):Int),.int .u64 ((((dnL 41 0 size).getD j (0,0)).2:Nat):Int),.int .u64 (old:Int),.int .u64 (size:Int)] F fun e w'=>e = .returned (.int .u64 (((fun b:Nat×Nat=>tin old size b.1 b.2) ((dnL 41 0 size).getD j (0,0))).length:Nat))∧w'=F):=fun F j hj=>by
  have:=QjC hj;exact Qgw old size _ _ F this.1 (by omega)
 have hL:=Qal 41 0 size;have xM:=Qal 41 0 old;have HX:Hid (∀F,Below W0.heap.size W0 F->Six F w.heap.size (.int .i64 3) (.int .i64 k) (.int .u64 (old:Int)) (.int .u64 (size:Int)) (.slice sa 0 sc) dv∧Below w.heap.size w F):=fun F hF=>⟨h6.next hF,Qa hb hF⟩
 obtain⟨e0,e1,e2,e3,e4,e5⟩:=h6.cells;generalize hLL:dnL 41 0 size=L at *;generalize (dnL 41 0 old).length=n0 at *;generalize hf:(fun b:Nat×Nat=>tin old size b.1 b.2)=f at *
 have xS:(L.length:Int)<=41:=by omega
 have xT:(n0:Int)<=41:=by omega
 have xQ:IntKind.u64.wrap (n0:Int)=(n0:Int):=by rw[IntKind.wrap_u64];omega
 have xJ:Hid (n0+(L.flatMap f).length<=1099511627776):=xE;clear h6 hb hz hc hn hk ho xE hL xM hLL hf;simp only[pv6,cV]
 go_enter func285,ntmps285
 go_upto_region 3 with (go_at_call 365;(try rw[hW]);with_reducible refine HN.mono ?_;rintro x w1 ⟨rfl,xA⟩)
 obtain⟨x1,x2⟩:=HX.out _ xA;obtain⟨_,_,_,e3,_,_⟩:=x1.cells;clear hW HN x1 x2
 go_upto_region 5 with (go_at_call 366;with_reducible refine(HM _).mono ?_;rintro x w2 ⟨ao,g,xP,rfl,mt,xB⟩)
 obtain⟨x1,x2⟩:=HX.out _ (Qa xA xB);obtain⟨e0,_,e2,_,_,_⟩:=x1.cells;clear HM e3 x1 x2
 go_upto_region 7 with (go_at_call 366;with_reducible refine(xG _).mono ?_;rintro x w3 ⟨xO,g',xL,rfl,_,xC⟩)
 have HF:Hid (∀F,Below w3.heap.size w3 F->Mt F ao g L∧Six F w.heap.size (.int .i64 3) (.int .i64 k) (.int .u64 (old:Int)) (.int .u64 (size:Int)) (.slice sa 0 sc) dv∧Below w.heap.size w F):=fun F hF=>⟨(mt.next xC).next hF,HX.out _ (Qa (Qa (Qa xA xB) xC) hF)⟩
 clear mt xA xB xC HX xG e0 e2;go_wp2
 go_loopg [5,6] L.length (fun gk n i wr => ∃j:Nat,j<=L.length∧gk=L.length - j∧i = .int .i64 (j:Int)∧n = .int .u64 ((n0+gl f L j:Nat):Int)∧Hid (Below w3.heap.size w3 wr))
 case atStart=>go_light;exact⟨0,Ll _,rfl,rfl,by rw[QgZ];rfl,Lb _ _⟩
 case round =>
  obtain⟨j,hj,rfl,rfl,rfl,HI⟩:=hrel;obtain⟨mt,x6,xI⟩:=HF.out wr HI.out;have xR:(0:Int)<=(j:Int):=Lf _
  by_cases hlt:j<L.length
  ·have xD:(j:Int)<(L.length:Int):=by omega
   obtain rfl:=mt.addr (by omega)
   obtain⟨c1,c2⟩:=mt.cell j hlt;obtain⟨_,_,e2,e3,_,_⟩:=x6.cells;have xH:=fun F=>xK.out F j hlt
   have hg:=QgY f L hlt;have xN:=QnA f L (j+1);obtain⟨x,hx⟩:=Ze ((f (L.getD j (0,0))).length);rw[hx] at xH hg;generalize (L.getD j (0,0)).1=bh at *;generalize (L.getD j (0,0)).2=bk at *;have ez:IntKind.u64.wrap (((n0+gl f L j:Nat):Int)+(x:Int))=((n0+gl f L (j+1):Nat):Int):=by rw[IntKind.wrap_u64];have:=xJ.out;omega
   generalize n0+gl f L j=z0 at *;obtain⟨z1,xF⟩:=Ze (n0+gl f L (j+1));rw[xF] at ez;have HZ:=Qg xF;clear xF;clear mt x6 hg xN hx;go_wp2
   go_quiet ((go_at_call 367;refine Calls.quiet_of_same (xH _)))
   go_wp2
   go_roundg (L.length - (j+1))
   case rel=>go_light;exact⟨j+1,hlt,rfl,by go_num,HZ.out ▸ rfl,Qf HI.out _⟩
   case measure=>go_light;omega
  ·obtain rfl:j=L.length:=by omega
   have xD : ¬(L.length:Int)<(L.length:Int):=by omega
   rw[QjY];have HB:=Qg xI;clear mt x6 xI;go_wp2
   go_ret2
   exact⟨rfl,HB.out⟩
theorem Qga(rs:RdU w sa sb so S.length S)(hkd:kd≠3)(c:Nat)(hc:cnt kd k old size S=some c) :
  Calls prog 285 #[pv6 kd k old size (.slice sa S.length sc) dv] w fun e w'=>e = .returned (cV (some c))∧Below w.heap.size w w':=by
 obtain⟨W0,hW,h6,hb,hz⟩:=UB w (.int .i64 kd) (.int .i64 k) (.int .u64 (old:Int)) (.int .u64 (size:Int)) (.slice sa S.length sc) dv;have ho:=Yh hc;have hn:=ho.hsz;have xD:=ho.hc;have xJ:=ho.len;have xR:c=(rst 0 size S).length:=by
  have g1:=ho.kd1;have g3:=ho.kd3;have g4:=ho.k1;have g5:=ho.k32;have hk:1<=k∧k<=32∧size<=2^40:=⟨g4,g5,hn⟩
  rcases(show kd=1∨kd=2 by omega) with rfl|rfl
  ·rw[Qej hk] at hc;split at hc
   ·exact(Ns hc).symm
   ·cases hc
  ·rw[Qak hk] at hc;split at hc
   ·exact(Ns hc).symm
   ·cases hc
 have HN:=U7 W0 kd k old size sa sb so sc S dv (rs.next hb) (by omega)
 rw[hc] at HN;rw[xR] at xD ⊢;rw[Qe6 size S hn ho.chain] at xD ⊢;simp only[pv6,Option.isSome] at HN;have HM:=fun F=>Jp size F hn
 have xM:Hid (∀j,j<(dnL 41 0 size).length -> ∃a p,((dnL 41 0 size).getD j (0,0)).2*pw ((dnL 41 0 size).getD j (0,0)).1=a∧pw ((dnL 41 0 size).getD j (0,0)).1=p∧a+p<=1099511627776∧((dnL 41 0 size).getD j (0,0)).1<=40∧(((dnL 41 0 size).getD j (0,0)).2+1)*pw ((dnL 41 0 size).getD j (0,0)).1=a+p):=fun j hj=>by
  have:=QjC hj;rw[LL,LV] at this;exact⟨_,_,rfl,rfl,by omega,this.1,by rw[LL,LV]⟩
 have xN:Hid (∀(F:World) (j:Nat) (ta:OA) (tb tc:Nat),j<(dnL 41 0 size).length->RdU F ta tb 0 (S.filter (inb ((dnL 41 0 size).getD j (0,0)).1 ((dnL 41 0 size).getD j (0,0)).2)).length (S.filter (inb ((dnL 41 0 size).getD j (0,0)).1 ((dnL 41 0 size).getD j (0,0)).2))->Calls prog 370 #[.int .i64 ((((dnL 41 0 size).getD j (0,0)).1:Nat):Int),.int .u64 ((((dnL 41 0 size).getD j (0,0)).2:Nat):Int),.slice ta (S.filter (inb ((dnL 41 0 size).getD j (0,0)).1 ((dnL 41 0 size).getD j (0,0)).2)).length tc] F fun e w'=>e = .returned (.int .u64 (((fun b:Nat×Nat=>tno b.1 b.2 S) ((dnL 41 0 size).getD j (0,0))).length:Nat))∧Below F.heap.size F w'):=fun F j ta tb tc hj hr=>by
  have:=QjC hj;exact Qgu _ _ S F ta tb 0 tc hr (by omega) this.1 (by omega)
 have hL:=Qal 41 0 size;have HX:Hid (∀F,Below W0.heap.size W0 F->Six F w.heap.size (.int .i64 kd) (.int .i64 k) (.int .u64 (old:Int)) (.int .u64 (size:Int)) (.slice sa S.length sc) dv∧RdU F sa sb so S.length S∧Below w.heap.size w F):=fun F hF=>⟨h6.next hF,rs.next (Qa hb hF),Qa hb hF⟩
 have xP:Hid (∀F,RdU F sa sb so S.length S -> ∀lo hi H K,K*pw H=lo->(K+1)*pw H=hi->Calls prog 369 #[.slice sa S.length sc,.int .u64 (lo:Int),.int .u64 (hi:Int)] F fun e w' => ∃sa' sb' sc',e = .returned (.slice sa' (S.filter (inb H K)).length sc')∧RdU w' sa' sb' 0 (S.filter (inb H K)).length (S.filter (inb H K))∧Below F.heap.size F w'):=fun F hF lo hi H K h1 h2=>(Ov F sa sb so sc S lo hi hF (by omega)).mono (by
  rintro e w' ⟨v,rfl,o,xV⟩;rw[Ow h1 h2] at o;obtain⟨ao,b,c,rfl,r,_⟩:=Jx o;exact⟨ao,b,c,rfl,r,xV⟩)
 obtain⟨e0,e1,e2,e3,e4,e5⟩:=h6.cells;have f3:(kd == 3)=false:=beq_eq_false_iff_ne.2 hkd;generalize hLL:dnL 41 0 size=L at *;generalize hf:(fun b:Nat×Nat=>tno b.1 b.2 S)=f at *
 have yA:(L.length:Int)<=41:=by omega
 have xT:Hid ((L.flatMap f).length<=1099511627776):=xD;clear h6 hb hz hc xR hn ho xD hL hLL hf xJ rs hkd;simp only[pv6,cV]
 go_enter func285,ntmps285
 go_upto_region 3 with (go_at_call 365;(try rw[hW]);with_reducible refine HN.mono ?_;rintro x w1 ⟨rfl,xC⟩)
 obtain⟨x1,x2⟩:=HX.out _ xC;obtain⟨_,_,_,e3,_,_⟩:=x1.cells;clear hW HN x1 x2
 go_upto_region 5 with (go_at_call 366;with_reducible refine(HM _).mono ?_;rintro x w2 ⟨ao,g,xX,rfl,mt,xG⟩)
 obtain⟨x1,x2⟩:=HX.out _ (Qa xC xG);obtain⟨e0,_,_,_,_,_⟩:=x1.cells;have HF:Hid (∀F,Below w2.heap.size w2 F->Mt F ao g L∧Six F w.heap.size (.int .i64 kd) (.int .i64 k) (.int .u64 (old:Int)) (.int .u64 (size:Int)) (.slice sa S.length sc) dv∧RdU F sa sb so S.length S∧Below w.heap.size w F):=fun F hF=>⟨mt.next hF,HX.out _ (Qa (Qa xC xG) hF)⟩
 clear HM e3 x1 x2 mt xC xG HX;go_wp2;clear e0
 go_loopg [5,7,8,9] L.length (fun gk n i _ _ wr => ∃j:Nat,j<=L.length∧gk=L.length - j∧i = .int .i64 (j:Int)∧n = .int .u64 ((gl f L j:Nat):Int)∧Hid (Below w2.heap.size w2 wr))
 case atStart=>go_light;exact⟨0,Ll _,rfl,rfl,by rw[QgZ];rfl,Lb _ _⟩
 case round =>
  obtain⟨j,hj,rfl,rfl,rfl,HI⟩:=hrel;obtain⟨mt,x6,rs,xH⟩:=HF.out wr HI.out;have xZ:(0:Int)<=(j:Int):=Lf _
  by_cases hlt:j<L.length
  ·have xK:(j:Int)<(L.length:Int):=by omega
   obtain rfl:=mt.addr (by omega)
   obtain⟨c1,c2⟩:=mt.cell j hlt;obtain⟨_,_,_,_,e4,_⟩:=x6.cells;obtain⟨a,p,h1,h2,h3,h4,h5⟩:=xM.out j hlt;have xE:=fun F ta tb tc=>xN.out F j ta tb tc hlt
   have hg:=QgY f L hlt;have xW:=QnA f L (j+1);obtain⟨x,hx⟩:=Ze ((f (L.getD j (0,0))).length);rw[hx] at xE hg;have HC:Hid (∀F,Below w2.heap.size w2 F->F.cell? ⟨g,j*2,none⟩=some (.int .i64 (((L.getD j (0,0)).1:Nat):Int))∧F.cell? ⟨g,j*2+1,none⟩=some (.int .u64 (((L.getD j (0,0)).2:Nat):Int))∧F.cell? ⟨w.heap.size,4,none⟩=some (.slice sa S.length sc)):=fun F hF=>by
    obtain⟨k1,k2,_,_⟩:=HF.out F hF;exact⟨(k1.cell j hlt).1,(k1.cell j hlt).2,k2.cells.2.2.2.2.1⟩
   generalize (L.getD j (0,0)).1=bh at *;generalize (L.getD j (0,0)).2=bk at *;have HP : ∀F,Calls prog 368 #[.int .i64 (bh:Int)] F fun e w'=>e = .returned (.int .u64 (p:Int))∧w'=F:=fun F=>(US F bh h4 p h2).mono (fun _ _ h=>⟨h.1,h.2.symm⟩)
   have xO:=fun F (hF:Below w2.heap.size w2 F)=>xP.out F (HF.out F hF).2.2.1 a (a+p) bh bk h1 h5
   have ez:IntKind.u64.wrap (((gl f L j:Nat):Int)+(x:Int))=((gl f L (j+1):Nat):Int):=by rw[IntKind.wrap_u64];have:=xT.out;omega
   have ea:IntKind.u64.wrap ((bk:Int)*(p:Int))=(a:Int):=by rw[show(bk:Int)*(p:Int)=(a:Int) by rw[<-h1,h2,Ir],IntKind.wrap_u64];omega
   have eb:IntKind.u64.wrap ((a:Int)+(p:Int))=((a+p:Nat):Int):=by rw[IntKind.wrap_u64];omega
   have xY:(bh:Int)<=40:=by omega
   generalize gl f L j=z0 at *;obtain⟨z1,xL⟩:=Ze (gl f L (j+1));rw[xL] at ez;have HZ:=Qg xL;have HW:=Qg xO;have HR:=Qg xE;generalize a+p=ap at *;generalize S.filter (inb bh bk)=T at *;clear mt x6 hg xW hx xL xE xO rs xH h1 h2 h3 h4 h5 xM xN xP
   go_upto_region 15 with (fail)
   go_quiet ((go_at_call 368;refine Calls.quiet_of_same (HP _)))
   go_upto_region 16 with (fail)
   obtain⟨Z0,xF⟩:=Ze (wr.drewN nq);have xU:Below w2.heap.size w2 Z0:=by rw[<-xF];exact Qf HI.out _
   rw[xF];clear xF c1 c2 e4;have xA:Below w2.heap.size w2 Z0.drew:=Qa xU ((Lb Z0.heap.size Z0).drew);obtain⟨q1,q2,q4⟩:=HC.out _ xA
   go_region_held3 (fun Z=>Z.cell? ⟨g,j*2,none⟩=some (.int .i64 (bh:Int))∧Z.cell? ⟨g,j*2+1,none⟩=some (.int .u64 (bk:Int))∧Z.cell? ⟨w.heap.size,4,none⟩=some (.slice sa S.length sc)) (first|assumption|(exact HC.out _ xA)|(exact HC.out _ (Qa xA hb5))) (first
    | (go_at_call 368;with_reducible refine(HP _).mono ?_;rintro e w' ⟨rfl,rfl⟩)
    | (go_at_call 369;with_reducible refine(HW.out _ xA).mono ?_;rintro e w5 ⟨ta,tb,tc,rfl,r5,hb5⟩))
   all_goals
    have xQ:=Qa xA hb5;clear q1 q2 q4 hb5
    go_upto_region 17 with (fail)
    have xI:=(Lb w5.heap.size w5).drew;have r6:=r5.next xI;have xB:=Qa xQ xI;obtain⟨q1,q2,q4⟩:=HC.out _ xB;clear r5 xI xQ xA
    go_region_held3 (fun Z=>Z.cell? ⟨g,j*2,none⟩=some (.int .i64 (bh:Int))∧Z.cell? ⟨g,j*2+1,none⟩=some (.int .u64 (bk:Int))∧Z.cell? ⟨w.heap.size,4,none⟩=some (.slice sa S.length sc)) (first|assumption|(exact HC.out _ xB)|(exact HC.out _ (Qa xB hb7))) (first
     | (go_at_call 370;with_reducible refine(HR.out _ _ _ _ r6).mono ?_;rintro e w7 ⟨rfl,hb7⟩))
    all_goals
     have xS:=Qg (Qa xB hb7);clear q1 q2 q4 hb7 xB r6 HC HF;go_wp2
     go_roundg (L.length - (j+1))
     case rel=>go_light;exact⟨j+1,hlt,rfl,by go_num,HZ.out ▸ rfl,xS⟩
     case measure=>go_light;omega
  ·obtain rfl:j=L.length:=by omega
   have xK : ¬(L.length:Int)<(L.length:Int):=by omega
   rw[QjY];have HB:=Qg xH;clear mt x6 xH rs;go_wp2
   go_ret2
   exact⟨rfl,HB.out⟩
theorem Qf8(rs:RdU w sa sb so S.length S)(hS:S.length<=17592186044416) :
  Calls prog 285 #[pv6 kd k old size (.slice sa S.length sc) dv] w fun e w'=>e = .returned (cV (cnt kd k old size S))∧Below w.heap.size w w':=by
 rcases hc:cnt kd k old size S with _|c
 ·exact Qiz w kd k old size sa sb so sc S dv rs hS hc
 ·by_cases h3:kd=3
  ·subst h3;have ho:=Yh hc;have xA:=ho.three rfl;subst xA;have:=Qf9 w k old size sa sc dv ho.hsz ⟨ho.k1,ho.k32⟩ ho.hold;rw[hc] at this;exact this
  ·exact Qga w kd k old size sa sb so sc S dv rs h3 c hc
end
end
section
variable (w:World) (sa:OA) (sb so sc:Nat) (da:OA) (db dO dc:Nat) (P:PV)
theorem QcS(hp:RdPC w sa sb so sc da db dO dc P) :
  Calls prog 194 #[pvP P sa sc da dc] w fun e w'=>e = .returned (.bool (decide (Yk P)))∧Below w.heap.size w w':=by
 obtain⟨W,hW,h6,hb,_⟩:=UB w (.int .i64 P.kd) (.int .i64 P.k) (.int .u64 (P.old:Int)) (.int .u64 (P.size:Int)) (.slice sa P.S.length sc) (.slice da P.D.length dc);have HC:=Qf8 W P.kd P.k P.old P.size sa sb so sc P.S (.slice da P.D.length dc) (hp.rs.next hb) hp.mS;have HX:Hid (∀F,Below W.heap.size W F->Six F w.heap.size (.int .i64 P.kd) (.int .i64 P.k) (.int .u64 (P.old:Int)) (.int .u64 (P.size:Int)) (.slice sa P.S.length sc) (.slice da P.D.length dc)∧RdS F da db dO P.D.length P.D∧Below w.heap.size w F):=fun F hF=>⟨h6.next hF,(hp.next (Qa hb hF)).rd,Qa hb hF⟩
 obtain⟨e0,e1,e2,e3,e4,e5⟩:=h6.cells;have hm:P.D.length<=8796093022208:=hp.mD;have xN:(P.D.length:Int)<=8796093022208:=by omega
 have em:IntKind.u64.wrap (P.D.length:Int)=(P.D.length:Int):=by rw[IntKind.wrap_u64];omega
 have xC:Hid (∀c,cnt P.kd P.k P.old P.size P.S=some c->c=P.D.length -> ∀j,j<P.D.length->((P.D.getD j ByteArray.empty).size:Int)≠P.k->decide (Yk P)=false):=fun c h1 h2 j h3 h4=>Ls (QhC h3 h4)
 clear h6 hb hp hm;simp only[pvP,pv6] at HC ⊢;generalize hms:P.S.length=ms at *
 rcases hc:cnt P.kd P.k P.old P.size P.S with _|c
 ·have xB:decide (Yk P)=false:=Ls (fun h=>by have:=h.1;rw[hc] at this;cases this)
  rw[xB];rw[hc] at HC;simp only[cV] at HC;clear xB hc xC;generalize P.D.length=md at *
  go_enter func194,ntmps194
  go_wp2_with (go_at_call 285;(try rw[hW]);with_reducible refine HC.mono ?_;rintro x w1 ⟨rfl,xA⟩;(obtain⟨q1,q2,q3⟩:=HX.out _ xA);(obtain⟨k0,k1,k2,k3,k4,k5⟩:=q1.cells))
  go_ret
  exact⟨rfl,q3⟩
 rw[hc] at HC;simp only[cV] at HC
 by_cases hcd:c=P.D.length
 rotate_left
 ·have xB:decide (Yk P)=false:=Ls (fun h=>by have:=h.1;rw[hc] at this;cases this;exact hcd rfl)
  rw[xB];have xI:((c:Int) != (P.D.length:Int))=true:=bne_iff_ne.2 (by omega)
  clear xB hc xC hcd;generalize P.D.length=md at *
  go_enter func194,ntmps194
  go_wp2_with (go_at_call 285;(try rw[hW]);with_reducible refine HC.mono ?_;rintro x w1 ⟨rfl,xA⟩;(obtain⟨q1,q2,q3⟩:=HX.out _ xA);(obtain⟨k0,k1,k2,k3,k4,k5⟩:=q1.cells))
  go_ret
  exact⟨rfl,q3⟩
 have xI:((P.D.length:Int) != (P.D.length:Int))=false:=bne_self_eq_false _;have xF:=xC.out c hc hcd;have xG:(∀j,j<P.D.length->((P.D.getD j ByteArray.empty).size:Int)=P.k)->decide (Yk P)=true:=fun h=>LA (Qfq (by rw[hc,hcd]) h)
 rw[hcd] at HC;clear xC hc hcd;have HG:=Qg (L6 xF xG);clear xF xG;generalize decide (Yk P)=ans at *
 generalize hD:P.D=D at *;clear hD;generalize P.k=k at *;generalize P.kd=kd at *;generalize P.old=old at *;generalize P.size=size at *;clear hms
 go_enter func194,ntmps194
 go_upto_region 4 with (go_at_call 285;(try rw[hW]);with_reducible refine HC.mono ?_;rintro x w1 ⟨rfl,xA⟩;(obtain⟨q1,q2,q3⟩:=HX.out _ xA);(obtain⟨k0,k1,k2,k3,k4,k5⟩:=q1.cells))
 have xK:=Qg xA;clear xA q1 q2 q3 k0 k1 k2 k3 k4 k5 hW HC e0 e1 e2 e3 e4 e5;go_wp2
 go_loopg [5] D.length (fun gk i wr => ∃j:Nat,j<=D.length∧gk=D.length - j∧i = .int .i64 (j:Int)∧Hid (∀t,t<j->((D.getD t ByteArray.empty).size:Int)=k)∧Hid (Below W.heap.size W wr))
 case atStart=>go_light;exact⟨0,Ll _,rfl,rfl,(show ∀t,t<0->_ from fun t ht=>absurd ht (by omega)),xK⟩
 case round =>
  obtain⟨j,hj,rfl,rfl,HA,HI⟩:=hrel;obtain⟨x6,v1,xH⟩:=HX.out wr HI.out;obtain⟨_,e1,_,_,_,e5⟩:=x6.cells;have xM:(0:Int)<=(j:Int):=Lf _;have xE:=Qg xH;clear xH x6 xI
  by_cases hlt:j<D.length
  ·have xD:(j:Int)<(D.length:Int):=by omega
   obtain rfl:=v1.ptr (by omega)
   have c1:=v1.at (k:=j) hlt;obtain⟨x,hx⟩:=Ze (D.getD j ByteArray.empty);rw[hx] at c1
   by_cases hk:(x.size:Int)=k
   ·have xJ:Hid (∀t,t<j+1->((D.getD t ByteArray.empty).size:Int)=k):=show ∀t,t<j+1->_ from fun t ht=>by
     by_cases e:t=j
     ·rw[e,hx];exact hk
     ·exact HA.out t (by omega)
    subst hk;have xL:=bne_self_eq_false (x.size:Int);clear hx v1 HA;go_wp2
    go_quiet (fail)
    go_wp2
    go_roundg (D.length - (j+1))
    case rel=>go_light;exact⟨j+1,hlt,rfl,by go_num,xJ,Qf HI.out _⟩
    case measure=>go_light;omega
   ·have HN:Hid (ans=false):=HG.out.1 j hlt (by rw[hx];exact hk)
    have xL:((x.size:Int) != k)=true:=bne_iff_ne.2 hk;clear hx v1 HA hk;go_wp2
    go_quiet (fail)
    go_wp2
    go_ret
    exact⟨by rw[HN.out];try rfl,Qf xE.out _⟩
  ·obtain hje:j=D.length:=by omega
   have xD : ¬(j:Int)<(D.length:Int):=by omega
   have HN:Hid (ans=true):=HG.out.2 (fun t ht=>HA.out t (by omega))
   clear hje v1 HA;go_wp2
   go_ret
   exact⟨by rw[HN.out];try rfl,xE.out⟩
end
theorem QgJ(l:List UInt8):(⟨l.toArray⟩:BA).data.toList=l:=by simp
theorem Yv(l:List UInt8):(⟨l.toArray⟩:BA).size=l.length:=by simp[ByteArray.size]
theorem QlA(s:BA):(⟨s.data.toList.toArray⟩:BA)=s:=Ji (QgJ _)
end Go.Proofs.YtoblgjledefdbaaGreatDoor
