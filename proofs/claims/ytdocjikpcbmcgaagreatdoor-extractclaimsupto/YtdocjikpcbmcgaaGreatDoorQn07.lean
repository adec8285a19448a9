/- Own work. -/
import Derived.Test.YtdocjikpcbmcgaaGreatDoorQn06
set_option maxRecDepth 100000
set_option maxHeartbeats 1000000
namespace Go.Proofs.YtdocjikpcbmcgaaGreatDoor
open Go.RowKit
attribute [local go_sem ↓] Go.wp_at_zero Go.wp_at_succ
open Go.Proofs.Tryz
section
open Cv (RdC zl cU tno)
open Pl (pw)
variable {GB RB:Nat}
theorem Qhy(q:Nat)(K:Int) : ∀(h k:Nat),h<=40->(k+1)*pw h<=2^40 -> ∀(S:List Nat) (X D:LB) (w:World) (v:Value),Tb w->Rw w RB q K D->Gv w GB v S X->X.length=S.length->Asc S->In h k S->(tno h k S).length<=D.length->(∀s∈X,s.size<=1048576)->(∀s∈D,s.size=clk K)->S.length<=8796093022208 ->
  Calls prog 122 #[.pointer (some ⟨q,0,none⟩),.agg #[.int .i64 (h:Int),.int .u64 (k:Int)],v] w fun e w'=>e = .returned (.string (vB (clk K) h k S X D))∧Rw w' RB q K (D.drop (tno h k S).length)∧Bx q w w':=by
 have xF : ∀(h k:Nat) (X D:LB) (w:World) (v:Value),Rw w RB q K D->Gv w GB v [] X->(tno h k []).length<=D.length->Calls prog 122 #[.pointer (some ⟨q,0,none⟩),.agg #[.int .i64 (h:Int),.int .u64 (k:Int)],v] w fun e w'=>e = .returned (.string (vB (clk K) h k [] X D))∧Rw w' RB q K (D.drop (tno h k []).length)∧Bx q w w':=fun h k X D w v hr hg hl=>by
  obtain⟨sa,sb,so,sc,xa,xb,xo,xc,rfl,_⟩:=hg.ex;rw[Qag] at hl ⊢;exact Qhz w q K D hr hl h k sa xa sc X.length xc _ (Qep ..).symm _ rfl
 intro h
 induction h with
 | zero =>
  intro k hh hk S X D w v ht hr hg hX hp hS hl hs hD hm
  by_cases h0:S=[]
  ·subst h0;exact xF 0 k X D w v hr hg hl
  ·have hn:0<S.length:=List.length_pos_iff.2 h0;obtain⟨sa,sb,so,sc,xa,xb,xo,xc,rfl,r1,r2,_⟩:=hg.ex;obtain rfl:=r2.ptr (by omega)
   have xC:0<X.length:=by omega
   have hc:w.cell? ⟨xb,xo+0,none⟩=some (.string (X.getD 0 ByteArray.empty)):=r2.rng 0 _ (by simp[List.getD_eq_getElem?_getD,xC])
   have xK:=hs _ (Qv xC);rw[QkF hS h0,Qeo _ _ _ _ h0];exact QfC w ht q K D hr k sa S.length sc xb xo X.length xc hn xC _ hc (by omega) _ rfl
 | succ h ih =>
  intro k hh hk S X D w v ht hr hg hX hp hS hl hs hD hm
  by_cases h0:S=[]
  ·subst h0;exact xF (h+1) k X D w v hr hg hl
  ·obtain⟨va,vx,rfl⟩ : ∃a b,v = .agg #[a,b]:=by
    obtain⟨a,n,c,b,m,d,e⟩:=hg.form;exact⟨_,_,e⟩
   obtain⟨t,xB⟩:=Ze (bl S ((2*k+1)*pw h));have xL:t<=S.length:=by rw[<-xB];exact QcM _ _
   have l1:=Qjy hp hS;have l2:=QgS hp hS;have l3:=Qhf hp hS h0;rw[xB] at l1 l2 l3;rw[l3,Lg] at hl;have xG:(2*k+1)*pw h<=2^40:=by
    have:=Cv.YX h k;have:=LE (pw h) (show 2*k+1<=2*k+1+1 by omega)
    omega
   have xH:(2*k+1+1)*pw h<=2^40:=by rw[Cv.YX];exact hk
   have xA : ∀(a b:Nat) (T:List Nat) (E:LB),(tno a b T).length<=E.length->0<E.length∨T≠[]:=fun a b T E hE=>by
    by_cases hT:T=[]
    ·subst hT;rw[Qag] at hE;exact .inl hE
    ·exact .inr hT
   have xD : ∀s∈D.drop (tno h (2*k) (S.take t)).length,s.size=clk K:=fun s hs=>hD s ((NU _ _).subset hs)
   have xE:(tno h (2*k+1) (S.drop t)).length<=(D.drop (tno h (2*k) (S.take t)).length).length:=by rw[Lv];omega
   have xJ:(S.take t).length<=S.length:=by rw[Lq];omega
   have xI:(S.drop t).length<=S.length:=by rw[Lv];omega
   have:=bnode_two w ht q K D hr h k hh hk va vx S X hg hX hp h0 hm t xB _ _ (by rw[Qeq (Qp K) h (2*k) (S.take t) (X.take t) D hD (xA _ _ _ _ (Lz (Nat.le_add_right _ _) hl))];exact Qp K) (by rw[Qeq (Qp K) h (2*k+1) (S.drop t) (X.drop t) _ xD (xA _ _ _ _ xE)];exact Qp K) _ _
    (fun W v h1 h2 h3=>ih (2*k) (by omega) xG (S.take t) (X.take t) D W v h1 h2 h3 (by rw[Lq,Lq,hX]) (OD hp _) l1 (Lz (Nat.le_add_right _ _) hl) (fun s hs'=>hs s ((Is _ _).subset hs')) hD (Lz xJ hm))
    (fun W v h1 h2 h3=>ih (2*k+1) (by omega) xH (S.drop t) (X.drop t) _ W v h1 h2 h3 (by rw[Lv,Lv,hX]) (JC hp _) l2 xE (fun s hs'=>hs s ((NU _ _).subset hs')) xD (Lz xI hm)) _ rfl
   rw[Qgp _ _ _ _ _ h0 xB,l3,Lg,<-Wa];exact this
theorem UK{w:World}{ao:OA}{b off len:Nat}{l:List Nat}(h:RdU w ao b off len l):Cv.Rd w ao b off len l:=⟨h.hl,h.ptr,fun _ hj=>h.at hj⟩
abbrev oP(kd k:Int)(old size:Nat)(vs vd:Value):Obj := .cells #[.int .i64 kd,.int .i64 k,.int .u64 (old:Int),.int .u64 (size:Int),vs,vd] 55
abbrev vP(kd k:Int)(old size:Nat)(vs vd:Value):Value := .agg #[.int .i64 kd,.int .i64 k,.int .u64 (old:Int),.int .u64 (size:Int),vs,vd]
theorem QbY(w:World)(kd k:Int)(old size:Nat)(sa:OA)(ns sc:Nat)(da:OA)(n2 dc:Nat)(r:Bool)(hr:decide (kd=2∧(1<=k∧k<=32)∧old=0)=r) :
  Zr 118 #[vP kd k old size (.slice sa ns sc) (.slice da n2 dc)] w (.bool r):=by
 have hb:=bal (Lb w.heap.size w) (oP kd k old size (.slice sa ns sc) (.slice da n2 dc))
 by_cases h1:kd=2
 ·subst h1
  by_cases h2:1<=k∧k<=32
  ·have HC:Hid (∀W,Calls prog 61 #[.int .i64 k] W fun e w'=>e = .returned (.int .i64 0)∧W=w'):=fun W=>by
    have:=(QV W k);rw[show chk k=0 by rw[chk,Le (by omega)]] at this
    exact this.mono fun _ _ h=>⟨h.1,h.2.symm⟩
   by_cases h4:old=0
   ·subst h4;obtain rfl:true=r:=by rw[<-hr];exact(Ln ⟨rfl,h2,rfl⟩).symm
    clear hr h2;unfold vP;unfold oP at hb;rw[show((0:Nat):Int)=0 from rfl] at *
    go_enter func118,ntmps118
    go_wp2_with (go_at_call 61;with_reducible refine(HC.out _).mono ?_;rintro e w1 ⟨rfl,rfl⟩)
    go_ret
    exact⟨rfl,hb⟩
   ·have hz:((old:Int) == 0)=false:=beq_false_of_ne (by omega)
    obtain rfl:false=r:=by rw[<-hr];exact(Lj (by rintro⟨_,_,h⟩;exact h4 h)).symm
    clear hr h2 h4
    go_enter func118,ntmps118
    go_wp2_with (go_at_call 61;with_reducible refine(HC.out _).mono ?_;rintro e w1 ⟨rfl,rfl⟩)
    go_ret
    exact⟨rfl,hb⟩
  ·have HC:Hid (∀W,Calls prog 61 #[.int .i64 k] W fun e w'=>e = .returned (.int .i64 70)∧W=w'):=fun W=>by
    have:=(QV W k);rw[show chk k=70 by rw[chk,Lm (by omega)]] at this
    exact this.mono fun _ _ h=>⟨h.1,h.2.symm⟩
   obtain rfl:false=r:=by rw[<-hr];exact(Lj (by rintro⟨_,h,_⟩;exact h2 h)).symm
   clear hr h2
   go_enter func118,ntmps118
   go_wp2_with (go_at_call 61;with_reducible refine(HC.out _).mono ?_;rintro e w1 ⟨rfl,rfl⟩)
   go_ret
   exact⟨rfl,hb⟩
 ·obtain rfl:false=r:=by rw[<-hr];exact(Lj (by rintro⟨h,_,_⟩;exact h1 h)).symm
  clear hr
  go_enter func118,ntmps118;go_wp2
  go_ret
  exact⟨rfl,hb⟩
def fil(k:Int)(m:Nat)(D:LB):Prop:=D.length=m ∧ ∀d∈D,(d.size:Int)=k
instance (k:Int) (m:Nat) (D:LB):Decidable (fil k m D):=by unfold fil;infer_instance
theorem Jg(w:World)(kd k:Int)(old size:Nat)(sa:OA)(sb so ns sc:Nat)(S:List Nat)(hs:RdU w sa sb so ns S)(hns:ns<=8796093022208)(da:OA)(db dO dc:Nat)(D:LB)(hr:RdS w da db dO D.length D)(hm:D.length<=8796093022208)(e0:Nat)(he:Cv.QR size S=e0)(m0:Nat)(hm0:(Cv.rstS size S).length=m0)(r:Bool)(hq:decide (e0=0∧fil k m0 D)=r) :
  Zr 119 #[vP kd k old size (.slice sa ns sc) (.slice da D.length dc)] w (.bool r):=by
 obtain⟨o1,xE⟩:=Ze (oP kd k old size (.slice sa ns sc) (.slice da D.length dc));have xD:=bal (Lb w.heap.size w) o1;have HN:=Cv.Ua size (w.alloc o1) sa sb so ns sc S (UK (hs.next xD)) (Lz hns (by decide))
 rw[he,hm0] at HN;have h6:Six (w.alloc o1) w.heap.size (.int .i64 kd) (.int .i64 k) (.int .u64 (old:Int)) (.int .u64 (size:Int)) (.slice sa ns sc) (.slice da D.length dc):=by rw[<-xE];exact Q8 w _ _ _ _ _ _
 have HB:=Qe xD;have H6:=Qe h6;rw[<-xE] at HN HB H6;have ed:IntKind.u64.wrap (D.length:Int)=(D.length:Int):=by rw[IntKind.wrap_u64];omega
 have HR:Hid (∀W,Zb w W->RdS W da db dO D.length D):=fun W hb=>hr.next hb (Ld _)
 have xG:(D.length:Int)<=8796093022208:=by omega
 by_cases h1:e0=0
 ·subst h1;rw[show((0:Nat):Int)=0 from rfl] at HN
  by_cases hl:D.length=m0
  ·subst hl;have HQ:Hid (decide (∀d∈D,(d.size:Int)=k)=r):=by
    rw[<-hq]
    show decide _=decide _
    simp only[fil,true_and]
   clear hr hq hm hs he hm0 xD h6 xE
   go_enter func119,ntmps119
   go_upto_region 2 with (go_at_call 166;with_reducible refine HN.mono ?_;rintro e w1 ⟨rfl,xA⟩)
   obtain⟨z0,z1,z2,z3,z4,z5⟩:=(H6.out.next xA).cells;have xB:=Qa HB.out xA;clear HN xA H6 HB;go_wp2
   go_loopg [28] D.length (fun g i wr => ∃j:Nat,j<=D.length∧g=D.length - j∧i = .int .i64 (j:Int)∧(∀t,t<j->((D.getD t ByteArray.empty).size:Int)=k)∧w1=wr)
   case atStart=>go_light;exact⟨0,Ll _,rfl,rfl,fun t ht=>absurd ht (Nu _),rfl⟩
   case round =>
    obtain⟨j,hj,rfl,rfl,xC,rfl⟩:=hrel
    by_cases hlt:j<D.length
    ·have hz:(j:Int)<(D.length:Int):=by omega
     have xH:(0:Int)<=(j:Int):=Lf _;have xF:=HR.out w1 xB;obtain rfl:=xF.ptr (by omega)
     have cj:=xF.at hlt;obtain⟨d,hd⟩:=Ze (D.getD j ByteArray.empty);rw[hd] at cj
     by_cases hk:(d.size:Int)=k
     ·have HN:Hid (∀t,t<j+1->((D.getD t ByteArray.empty).size:Int)=k):=fun t ht=>by
       rcases NB (NL ht) with hx|rfl
       ·exact xC t hx
       ·rw[hd];exact hk
      clear hd xC xF;go_wp2
      go_roundg (D.length - (j+1))
      case rel=>go_light;exact⟨j+1,by omega,rfl,by go_num,HN.out,rfl⟩
      case measure=>go_light;omega
     ·obtain rfl:false=r:=by
       rw[<-HQ.out];refine(Lj fun h=>hk ?_).symm
       rw[<-hd];exact h _ (Qv hlt)
      clear hd xC xF;go_wp2
      go_ret
      exact⟨rfl,xB⟩
    ·obtain rfl:j=D.length:=by omega
     have hz : ¬((D.length:Int)<(D.length:Int)):=by omega
     obtain rfl:true=r:=by
      rw[<-HQ.out];refine(Ln fun d hd => ?_).symm
      obtain⟨t,ht,rfl⟩:=LS hd;have:=xC t ht
      rwa [La,Lc ht] at this
     clear xC hlt;go_wp2
     go_ret
     exact⟨rfl,xB⟩
  ·have hz : ¬(m0:Int)=(D.length:Int):=by omega
   obtain rfl:false=r:=by rw[<-hq];exact(Lj (by rintro⟨_,h,_⟩;exact hl h)).symm
   clear hr hq hm hs he hm0 xD h6 xE hl HR
   go_enter func119,ntmps119
   go_upto_region 2 with (go_at_call 166;with_reducible refine HN.mono ?_;rintro e w1 ⟨rfl,xA⟩)
   obtain⟨z0,z1,z2,z3,z4,z5⟩:=(H6.out.next xA).cells;have xB:=Qa HB.out xA;clear HN xA H6 HB;go_wp2
   go_ret
   exact⟨rfl,xB⟩
 ·have hz : ¬(e0:Int)=0:=by omega
  obtain rfl:false=r:=by rw[<-hq];exact(Lj (by rintro⟨h,_⟩;exact h1 h)).symm
  clear hr hq hm hs he hm0 xD h6 xE h1 HR
  go_enter func119,ntmps119
  go_upto_region 2 with (go_at_call 166;with_reducible refine HN.mono ?_;rintro e w1 ⟨rfl,xA⟩)
  obtain⟨z0,z1,z2,z3,z4,z5⟩:=(H6.out.next xA).cells;have xB:=Qa HB.out xA;clear HN xA H6 HB;go_wp2
  go_ret
  exact⟨rfl,xB⟩
theorem Qko{n:Nat}{S:List Nat}(he:Cv.QR n S=0) : ∀b∈Cv.rst 0 n S,(b.2+1)*2^b.1<=n:=by
 obtain⟨xA,_,_,hc⟩:=Cv.QJ he;exact fun b hb=>(Cv.Jt (Cv.YP n S xA hc) b hb).2
end
section
open Pl (pw QM QF Ui)
open Cv (tno All Til But)
abbrev He:Type:=(Nat×Nat)×BA
def Fn(K:List He):Prop := ∀e∈K,∀e'∈K,e.1=e'.1->e.2=e'.2
def JB(h k:Nat)(e:He):Bool:=decide (e.1.1<h) && decide (e.1.2 / 2^(h - e.1.1)=k)
theorem Fn.filter{K:List He}(h:Fn K)(p:He->Bool):Fn (K.filter p):=fun e he e' he'=>h e (List.mem_filter.1 he).1 e' (List.mem_filter.1 he').1
theorem Qen{a h x k:Nat}(ha:a<=h)(hx:x / 2^(h - a)=k):x / 2^(h+1 - a)=k / 2:=by
 rw[show h+1 - a=(h - a)+1 by omega,LM,<-Nh,hx]
theorem Tl.some{c:Nat}{K:List He}{h k:Nat}{v:BA}(ht:Tl c K h k v)(hf:Fn K) : ∀e∈K,e.1=(h,k)->e.2=v:=by
 intro e he h1
 cases h with
 | zero=>exact hf e he _ ht h1
 | succ h =>
  rcases ht with ht|⟨hno,_⟩
  ·exact hf e he _ ht h1
  ·exact absurd (show((h+1,k),e.2)∈K by rw[<-h1];exact he) (hno e.2)
theorem Tl.keep{c:Nat}{K:List He}{p:He->Bool} : ∀ {h k:Nat} {v:BA},Tl c K h k v->(∀e∈K,e.1.1<=h->e.1.2 / 2^(h - e.1.1)=k->p e=true)->Tl c (K.filter p) h k v:=by
 intro h
 induction h with
 | zero =>
  intro k v ht hp;exact List.mem_filter.2 ⟨ht,hp _ ht (Ld _) (by simp)⟩
 | succ h ih =>
  intro k v ht hp
  rcases ht with ht|⟨hno,x,y,hx,hy,hv⟩
  ·exact .inl (List.mem_filter.2 ⟨ht,hp _ ht (Ld _) (by simp)⟩)
  ·refine .inr ⟨fun u hu=>hno u (List.mem_filter.1 hu).1,x,y,ih hx fun e he h1 h2=>hp e he (by omega) ?_,ih hy fun e he h1 h2=>hp e he (by omega) ?_,hv⟩
   ·rw[Qen h1 h2];omega
   ·rw[Qen h1 h2];omega
theorem Tl.mem{c:Nat}{K:List He} : ∀ {h k:Nat} {v:BA},Tl c K h k v -> ∃e,e∈K:=by
 intro h
 induction h with
 | zero=>intro k v ht;exact⟨_,ht⟩
 | succ h ih =>
  intro k v ht
  rcases ht with ht|⟨_,x,y,hx,_⟩
  ·exact⟨_,ht⟩
  ·exact ih hx
theorem Tl.size{c:Nat}(hc:c<=32){K:List He}(hK : ∀e∈K,e.2.size<=32) : ∀ {h k:Nat} {v:BA},Tl c K h k v->v.size<=32:=by
 intro h k v ht
 cases h with
 | zero=>exact hK _ ht
 | succ h =>
  rcases ht with ht|⟨_,x,y,_,_,rfl⟩
  ·exact hK _ ht
  ·rw[Q6 hc];exact hc
theorem Tl.down{c:Nat}{K:List He}{h k:Nat}{v:BA}(ht:Tl c K h k v)(hno : ∀e∈K,e.1≠(h,k)) : ∃g x y,h=g+1∧v=dg c (QH x y)∧Tl c (K.filter (JB (g+1) k)) g (2*k) x∧Tl c (K.filter (JB (g+1) k)) g (2*k+1) y:=by
 cases h with
 | zero=>exact absurd rfl (hno _ ht)
 | succ g =>
  rcases ht with ht|⟨_,x,y,hx,hy,hv⟩
  ·exact absurd rfl (hno _ ht)
  ·refine⟨g,x,y,rfl,hv,hx.keep fun e he h1 h2 => ?_,hy.keep fun e he h1 h2 => ?_⟩
   ·rw[JB,IS];exact⟨Ln (by omega),Ln (by rw[Qen h1 h2];omega)⟩
   ·rw[JB,IS];exact⟨Ln (by omega),Ln (by rw[Qen h1 h2];omega)⟩
def knS(c:Nat)(S:List Nat)(X:LB):List He:=(S.zip X).map fun p=>((0,p.1),dg c (Qh p.2))
theorem Ut(c:Nat)(S:List Nat)(X:LB)(h:X.length=S.length):(knS c S X).length=S.length:=by
 rw[knS,Lx,List.length_zip,h,Nat.min_self]
theorem QbZ(c:Nat){S:List Nat}{X:LB}(h:X.length=S.length){j:Nat}(hj:j<S.length):(knS c S X)[j]? = some ((0,S.getD j 0),dg c (Qh (X.getD j ByteArray.empty))):=by
 have hz:(S.zip X)[j]? = some (S[j],X[j]'(by omega)):=List.getElem?_zip_eq_some.2 ⟨Lc hj,Lc (show j<X.length by omega)⟩
 rw[knS,No,hz,La,Lc hj,La,Lc (show j<X.length by omega)]
 rfl
theorem QaK{R:List (Nat×Nat)}{D:LB}(h:D.length=R.length){j:Nat}(hj:j<R.length):(R.zip D)[j]? = some (R.getD j (0,0),D.getD j ByteArray.empty):=by
 have hz:(R.zip D)[j]? = some (R[j],D[j]'(by omega)):=List.getElem?_zip_eq_some.2 ⟨Lc hj,Lc (show j<D.length by omega)⟩
 rw[hz,La,Lc hj,La,Lc (show j<D.length by omega)]
 rfl
theorem Uy{R:List (Nat×Nat)}{D:LB}(h:D.length=R.length):(R.zip D).length=R.length:=by rw[List.length_zip,h,Nat.min_self]
theorem Js{A:Nat->Prop}{q:Nat} : ∀ {L:List (Nat×Nat)} {p:Nat},Til A q p L -> ∀b∈L,p<=b.2*pw b.1∧All A b.1 b.2
 | [],_,_,b,hb=>by cases hb
 | m::L,p,h,b,hb=>by
  obtain⟨h1,h2,h3,h4,h5,h6⟩:=h
  rcases List.mem_cons.1 hb with rfl|hb
  ·exact⟨h1,h4⟩
  ·have:=Js h6 b hb;have h7:=Cv.YR m.1 m.2;exact⟨by omega,this.2⟩
theorem Ju{A:Nat->Prop}{q:Nat} : ∀ {L:List (Nat×Nat)} {p:Nat},Til A q p L -> ∀i j,i<j->j<L.length->L.getD i (0,0)≠L.getD j (0,0)
 | [],_,_,i,j,_,hj=>absurd hj (Nu j)
 | m::L,p,h,i,j,hij,hj=>by
  obtain⟨h1,h2,h3,h4,h5,h6⟩:=h
  match i,j,hij with
  | 0,j+1,_ =>
   intro e;have hj':j<L.length:=by rw[Lt] at hj;omega
   have hm:L.getD j (0,0)∈L:=by rw[La,Lc hj'];exact LG _
   have h8:=(Js h6 _ hm).1;have e':m=L.getD j (0,0):=e;rw[<-e'] at h8;have h7:=Cv.YR m.1 m.2;omega
  | i+1,j+1,hij=>exact Ju h6 i j (by omega) (by rw[Lt] at hj;omega)
section
variable {c n:Nat} {S:List Nat} {X D:LB}
theorem QdM(hX:X.length=S.length){R:List (Nat×Nat)}(hD:D.length=R.length){e:He}(he:e∈knS c S X++R.zip D):(∃j,j<S.length∧e=((0,S.getD j 0),dg c (Qh (X.getD j ByteArray.empty)))) ∨ ∃j,j<R.length∧e=(R.getD j (0,0),D.getD j ByteArray.empty):=by
 rcases List.mem_append.1 he with he|he
 ·obtain⟨j,hj,hv⟩:=LS he;rw[Ut c S X hX] at hj;refine .inl ⟨j,hj,?_⟩
  have:=QbZ c hX hj;rw[Lc (by rw[Ut c S X hX];exact hj),hv] at this
  exact Nx this
 ·obtain⟨j,hj,hv⟩:=LS he;rw[Uy hD] at hj;refine .inr ⟨j,hj,?_⟩
  have:=QaK hD hj;rw[Lc (by rw[Uy hD];exact hj),hv] at this
  exact Nx this
theorem Qbt(hp:Asc S){i j:Nat}(hi:i<S.length)(hj:j<S.length)(he:S.getD i 0=S.getD j 0):i=j:=by
 rw[La,Lc hi,La,Lc hj] at he;have he:S[i]=S[j]:=he;have hw:=List.pairwise_iff_getElem.1 hp
 rcases NO i j with h|h|h
 ·have:=hw i j hi hj h;omega
 ·exact h
 ·have:=hw j i hj hi h;omega
theorem QmM(he:Cv.QR n S=0)(hX:X.length=S.length)(hD:D.length=(Cv.rst 0 n S).length):Fn (knS c S X++(Cv.rst 0 n S).zip D):=by
 obtain⟨xB,_,_,hc⟩:=Cv.QJ he;have hp:=Y8 hc;have ht:=Cv.YP n S xB hc;obtain⟨R,hR⟩:=Ze (Cv.rst 0 n S);rw[hR] at hD ht ⊢;have xA : ∀i j,i<S.length->j<R.length->(0,S.getD i 0)≠R.getD j (0,0):=fun i j hi hj e=>by
  have hm:R.getD j (0,0)∈R:=by rw[La,Lc hj];exact LG _
  have:=(Js ht _ hm).2;rw[<-e] at this;have h2:=this (S.getD i 0) (by simp[pw]) (by simp[pw])
  exact h2.2 (by rw[La,Lc hi];exact LG _)
 intro e h1 e' h2 heq
 rcases QdM hX hD h1 with ⟨i,hi,rfl⟩|⟨i,hi,rfl⟩ <;> rcases QdM hX hD h2 with ⟨j,hj,rfl⟩|⟨j,hj,rfl⟩
 ·obtain rfl:=Qbt hp hi hj (LU Prod.snd heq)
  rfl
 ·exact absurd heq (xA i j hi hj)
 ·exact absurd heq.symm (xA j i hj hi)
 ·have heq:R.getD i (0,0)=R.getD j (0,0):=heq
  rcases NO i j with h|h|h
  ·exact absurd heq (Ju ht i j h hj)
  ·rw[h]
  ·exact absurd heq.symm (Ju ht j i h hi)
theorem QmN(he:Cv.QR n S=0)(hX:X.length=S.length)(hD:D.length=(Cv.rst 0 n S).length) : ∀j,j<(Cv.dnL 41 0 n).length->Tl c (knS c S X++(Cv.rst 0 n S).zip D) ((Cv.dnL 41 0 n).getD j (0,0)).1 ((Cv.dnL 41 0 n).getD j (0,0)).2 ((pB c (Cv.dnL 41 0 n) S X D).getD j ByteArray.empty):=by
 obtain⟨xB,_,_,hc⟩:=Cv.QJ he;have hp:=Y8 hc;have xA:Cv.Row n 0 (Cv.dnL 41 0 n):=by rw[<-Cv.QX n xB];exact Cv.OI 0 n (Ll _) xB
 have xC:Fr 0 n S:=fun i hi=>Cv.Yp hc i hi
 have ht:=Cv.YP n S xB hc;have xD:fB (Cv.dnL 41 0 n) S=Cv.rst 0 n S:=by rw[QdA xA hp xC,<-Cv.JS n S xB hc]
 refine QmP c _ _ 0 S X D xA hp xC (fun e hm h0 i hi hin => ?_) (fun j hj => ?_) (fun j hj => ?_)
 ·rcases QdM hX hD hm with ⟨j,hj,rfl⟩|⟨j,hj,rfl⟩
  ·exact absurd h0 (NG 0)
  ·have hm:(Cv.rst 0 n S).getD j (0,0)∈Cv.rst 0 n S:=by rw[La,Lc hj];exact LG _
   exact((Js ht _ hm).2 i hin.1 hin.2).2 hi
 ·exact Iv _ (Ni (QbZ c hX hj))
 ·rw[xD] at hj ⊢;exact NQ _ (Ni (QaK hD hj))
end
end
section
open Pl (pw QM QF Ui Qcj JP)
open Cv (dnL cov QX Row OI)
theorem Yv{L:List (Nat×Nat)}{j:Nat}(hj:j<L.length):L.getD j (0,0)∈L:=by
 rw[La,Lc hj];exact LG hj
end
section
open Pl (pw QM QF Ui)
section
variable (c:Nat) (L:LB) (M:Nat->Nat->Option Nat) (D:LB) (V:Nat->BA)
def xd:Nat->Nat->BA
 | 0,k=>match M 0 k with
  | some j=>D.getD j ByteArray.empty
  | none=>dg c (Qh (V k))
 | h+1,k=>match M (h+1) k with
  | some j=>D.getD j ByteArray.empty
  | none=>dg c (QH (xd h (2*k)) (xd h (2*k+1)))
def fp:Nat->Nat->Pq
 | 0,k=>match M 0 k with
  | some _=>none
  | none=>un (Qh (L.getD k ByteArray.empty)) (Qh (V k))
 | h+1,k=>match M (h+1) k with
  | some _=>none
  | none=>(un (QH (nd c L h (2*k)) (nd c L h (2*k+1))) (QH (xd c M D V h (2*k)) (xd c M D V h (2*k+1)))).or ((fp h (2*k)).or (fp h (2*k+1)))
def Vis(Q:Nat->Prop):Nat->Nat->Prop
 | 0,k=>M 0 k=none->Q k
 | h+1,k=>M (h+1) k=none->Vis Q h (2*k)∧Vis Q h (2*k+1)
end
section
variable {c:Nat} {L:LB} {M:Nat->Nat->Option Nat} {D:LB} {V:Nat->BA}
theorem Qhp{h k j:Nat}(e:M h k=some j):xd c M D V h k=D.getD j ByteArray.empty:=by
 cases h with
 | zero=>rw[xd,e]
 | succ h=>rw[xd,e]
theorem Qah{k:Nat}(e:M 0 k=none):xd c M D V 0 k=dg c (Qh (V k)):=by rw[xd,e]
theorem Qai{h k:Nat}(e:M (h+1) k=none):xd c M D V (h+1) k=dg c (QH (xd c M D V h (2*k)) (xd c M D V h (2*k+1))):=by rw[xd,e]
theorem QeP{h k j:Nat}(e:M h k=some j):fp c L M D V h k=none:=by
 cases h with
 | zero=>rw[fp,e]
 | succ h=>rw[fp,e]
theorem ON{k:Nat}(e:M 0 k=none):fp c L M D V 0 k=un (Qh (L.getD k ByteArray.empty)) (Qh (V k)):=by rw[fp,e]
theorem Qa6{h k:Nat}(e:M (h+1) k=none):fp c L M D V (h+1) k=(un (QH (nd c L h (2*k)) (nd c L h (2*k+1))) (QH (xd c M D V h (2*k)) (xd c M D V h (2*k+1)))).or ((fp c L M D V h (2*k)).or (fp c L M D V h (2*k+1))):=by rw[fp,e]
theorem Og(hc:c<=32)(hM : ∀h k j,M h k=some j->j<D.length)(hD : ∀s∈D,s.size=c)(h k:Nat):(xd c M D V h k).size=c:=by
 cases e:M h k with
 | some j=>rw[Qhp e];exact hD _ (Qv (hM h k j e))
 | none =>
  cases h with
  | zero=>rw[Qah e,Q6 hc]
  | succ h=>rw[Qai e,Q6 hc]
theorem Qjp(hc:c<=32)(hM : ∀h k j,M h k=some j->j<D.length)(hD : ∀s∈D,s.size=c) : ∀(h k:Nat) (q:BA×BA),nd c L h k=xd c M D V h k->fp c L M D V h k=some q->Clx c q:=by
 intro h
 induction h with
 | zero =>
  intro k q he hf
  cases e:M 0 k with
  | some j=>rw[QeP e] at hf;cases hf
  | none =>
   rw[ON e] at hf;rw[Qah e] at he;obtain⟨h1,rfl⟩:=Qbr hf;exact⟨h1,he⟩
 | succ h ih =>
  intro k q he hf
  cases e:M (h+1) k with
  | some j=>rw[QeP e] at hf;cases hf
  | none =>
   rw[Qa6 e] at hf;rw[Qai e] at he
   rcases OU hf with hf|⟨h0,hf⟩
   ·obtain⟨h1,rfl⟩:=Qbr hf;exact⟨h1,he⟩
   ·obtain⟨e1,e2⟩:=Qc2 (by rw[Q7 hc,Og hc hM hD]) (Jw h0)
    rcases OU hf with hf|⟨_,hf⟩
    ·exact ih _ _ e1 hf
    ·exact ih _ _ e2 hf
theorem Qjo(hc:c<=32)(hM : ∀h k j,M h k=some j->j<D.length)(hD : ∀s∈D,s.size=c) : ∀(h k:Nat),nd c L h k=xd c M D V h k->fp c L M D V h k=none -> ∀g i,g<=h->i / 2^(h - g)=k->(∀t,g<t->t<=h->M t (i / 2^(t - g))=none)->nd c L g i=xd c M D V g i∧(g=0->M 0 i=none->L.getD i ByteArray.empty=V i):=by
 intro h
 induction h with
 | zero =>
  intro k he hf g i hg hi ht;obtain rfl:g=0:=by omega
  obtain rfl:i=k:=by rw[NJ,NC,Ih] at hi;exact hi
  refine⟨he,fun _ e => ?_⟩
  rw[ON e] at hf;exact QcZ (Jw hf)
 | succ h ih =>
  intro k he hf g i hg hi ht
  by_cases hgh:g=h+1
  ·subst hgh;obtain rfl:i=k:=by rw[NJ,NC,Ih] at hi;exact hi
   exact⟨he,fun h0=>by omega⟩
  ·have e:=ht (h+1) (by omega) (Ld _)
   rw[hi] at e;rw[Qa6 e] at hf;rw[Qai e] at he;obtain⟨h0,xB⟩:=or_none hf;obtain⟨h1,h2⟩:=or_none xB;obtain⟨e1,e2⟩:=Qc2 (by rw[Q7 hc,Og hc hM hD]) (Jw h0)
   have hk:i / 2^(h - g) / 2=k:=by
    rw[Nh,<-LM,show(h - g).succ=h+1 - g by omega];exact hi
   have xA:i / 2^(h - g)=2*k∨i / 2^(h - g)=2*k+1:=by omega
   rcases xA with hx|hx
   ·exact ih (2*k) e1 h1 g i (by omega) hx fun t h3 h4=>ht t h3 (by omega)
   ·exact ih (2*k+1) e2 h2 g i (by omega) hx fun t h3 h4=>ht t h3 (by omega)
theorem QmW{Q:Nat->Prop}{K:List He}(h1 : ∀e∈K,(∃j,M e.1.1 e.1.2=some j∧D.getD j ByteArray.empty=e.2)∨(M e.1.1 e.1.2=none∧e.1.1=0∧Q e.1.2∧e.2=dg c (Qh (V e.1.2))))(h2 : ∀h k j,M h k=some j -> ∃u,((h,k),u)∈K) : ∀(h k:Nat) (v:BA),Tl c K h k v->Vis M Q h k∧xd c M D V h k=v:=by
 intro h
 induction h with
 | zero =>
  intro k v ht
  rcases h1 _ ht with ⟨j,e,hv⟩|⟨e,_,hq,hv⟩
  ·exact⟨fun e'=>absurd (e.symm.trans e') (by simp),(Qhp e).trans hv⟩
  ·exact⟨fun _=>hq,(Qah e).trans hv.symm⟩
 | succ h ih =>
  intro k v ht
  rcases ht with ht|⟨hno,x,y,hx,hy,rfl⟩
  ·rcases h1 _ ht with ⟨j,e,hv⟩|⟨_,e,_⟩
   ·exact⟨fun e'=>absurd (e.symm.trans e') (by simp),(Qhp e).trans hv⟩
   ·cases e
  ·have e:M (h+1) k=none:=by
    cases e:M (h+1) k with
    | none=>rfl
    | some j=>obtain⟨u,hu⟩:=h2 _ _ j e;exact absurd hu (hno u)
   obtain⟨v1,e1⟩:=ih _ _ hx;obtain⟨v2,e2⟩:=ih _ _ hy;exact⟨fun _=>⟨v1,v2⟩,by rw[Qai e,e1,e2]⟩
end
def bg(c:Nat):LB->LB->Pq
 | p::p2::P,q::q2::Q=>(un (Uq p (Qr c (p2::P))) (Uq q (Qr c (q2::Q)))).or (bg c (p2::P) (q2::Q))
 | _,_=>none
def tp(c n:Nat)(P Q:LB):Pq:=(un (QI n (Qr c P)) (QI n (Qr c Q))).or (bg c P Q)
theorem Qgt(c:Nat) : ∀P,bg c P P=none
 | []=>rfl
 | [p]=>rfl
 | p::p2::P=>by rw[bg,Qem];exact Qgt c (p2::P)
theorem Qmt(c n:Nat)(P:LB):tp c n P P=none:=by rw[tp,Qem];exact Qgt c P
theorem Qey{c:Nat} : ∀(P Q:LB),P.length=Q.length->(∀s∈P,s.size=c)->(∀s∈Q,s.size=c)->Qr c P=Qr c Q -> ∀q,bg c P Q=some q->Clx c q
 | [],_,_,_,_,_,q,h=>by rw[bg] at h;cases h;all_goals (intros;contradiction)
 | [_],_,_,_,_,_,q,h=>by rw[bg] at h;cases h;all_goals (intros;contradiction)
 | p::p2::P,[],hl,_,_,_,q,h=>by cases hl
 | p::p2::P,[_],hl,_,_,_,q,h=>by simp at hl
 | p::p2::P,q::q2::Q,hl,hP,hQ,he,r,h=>by
  rw[Qr,Qr] at he;rw[bg] at h
  rcases OU h with h|⟨h0,h⟩
  ·obtain⟨h1,rfl⟩:=Qbr h;exact⟨h1,he⟩
  ·obtain⟨_,e2⟩:=Qeu (by rw[hP p (by simp),hQ q (by simp)]) (Jw h0)
   exact Qey (p2::P) (q2::Q) (by simpa using hl) (fun s hs=>hP s (L4 _ hs)) (fun s hs=>hQ s (L4 _ hs)) e2 r h
theorem Qex{c:Nat} : ∀(P Q:LB),P.length=Q.length->(∀s∈P,s.size=c)->(∀s∈Q,s.size=c)->Qr c P=Qr c Q->bg c P Q=none->P=Q
 | [],[],_,_,_,_,_=>rfl
 | [],_::_,hl,_,_,_,_=>by cases hl
 | [p],[],hl,_,_,_,_=>by cases hl
 | [p],[q],_,_,_,he,_=>by rw[Qr,Qr] at he;rw[he]
 | [p],_::_::_,hl,_,_,_,_=>by simp at hl
 | p::p2::P,[],hl,_,_,_,h=>by cases hl
 | p::p2::P,[_],hl,_,_,_,h=>by simp at hl
 | p::p2::P,q::q2::Q,hl,hP,hQ,he,h=>by
  rw[Qr,Qr] at he;rw[bg] at h;obtain⟨h0,h⟩:=or_none h;obtain⟨e1,e2⟩:=Qeu (by rw[hP p (by simp),hQ q (by simp)]) (Jw h0)
  rw[e1,Qex (p2::P) (q2::Q) (by simpa using hl) (fun s hs=>hP s (L4 _ hs)) (fun s hs=>hQ s (L4 _ hs)) e2 h]
theorem QkL{c n:Nat}{P Q:LB}(hl:P.length=Q.length)(hP : ∀s∈P,s.size=c)(hQ : ∀s∈Q,s.size=c)(he:dg c (QI n (Qr c P))=dg c (QI n (Qr c Q))){q:BA×BA}(h:tp c n P Q=some q):Clx c q:=by
 rw[tp] at h
 rcases OU h with h|⟨h0,h⟩
 ·obtain⟨h1,rfl⟩:=Qbr h;exact⟨h1,he⟩
 ·exact Qey P Q hl hP hQ (Qdb (Jw h0)) q h
theorem QkK{c n:Nat}{P Q:LB}(hl:P.length=Q.length)(hP : ∀s∈P,s.size=c)(hQ : ∀s∈Q,s.size=c)(h:tp c n P Q=none):P=Q:=by
 rw[tp] at h;obtain⟨h0,h⟩:=or_none h;exact Qex P Q hl hP hQ (Qdb (Jw h0)) h
def fm(f:Nat->Nat->Pq):List (Nat×Nat)->Pq
 | []=>none
 | b::B=>(f b.1 b.2).or (fm f B)
theorem QgK{f:Nat->Nat->Pq}{q:BA×BA} : ∀ {B:List (Nat×Nat)},fm f B=some q -> ∃b∈B,f b.1 b.2=some q
 | [],h=>by cases h
 | b::B,h=>by
  rcases OU h with h|⟨_,h⟩
  ·exact⟨b,Nq ..,h⟩
  ·obtain⟨b',hb,h'⟩:=QgK h;exact⟨b',L4 _ hb,h'⟩
theorem QgJ{f:Nat->Nat->Pq} : ∀ {B:List (Nat×Nat)},fm f B=none -> ∀b∈B,f b.1 b.2=none
 | [],_,b,hb=>by cases hb
 | m::B,h,b,hb=>by
  obtain⟨h1,h2⟩:=or_none h
  rcases List.mem_cons.1 hb with rfl|hb
  ·exact h1
  ·exact QgJ h2 b hb
def wk(c n:Nat)(L:LB)(M:Nat->Nat->Option Nat)(D:LB)(V:Nat->BA)(B:List (Nat×Nat)):Pq:=(tp c n (B.map fun b=>nd c L b.1 b.2) (B.map fun b=>xd c M D V b.1 b.2)).or (fm (fp c L M D V) B)
theorem QkT{c n:Nat}{L:LB}{M:Nat->Nat->Option Nat}{D:LB}{V:Nat->BA}{B:List (Nat×Nat)}(hc:c<=32)(hM : ∀h k j,M h k=some j->j<D.length)(hD : ∀s∈D,s.size=c)(he:dg c (QI n (Qr c (B.map fun b=>nd c L b.1 b.2)))=dg c (QI n (Qr c (B.map fun b=>xd c M D V b.1 b.2)))) :
  (∃q,wk c n L M D V B=some q∧Clx c q)∨(wk c n L M D V B=none ∧ ∀b∈B,nd c L b.1 b.2=xd c M D V b.1 b.2∧fp c L M D V b.1 b.2=none):=by
 have hP : ∀s∈B.map fun b=>nd c L b.1 b.2,s.size=c:=fun s hs=>by
  obtain⟨b,_,rfl⟩:=List.mem_map.1 hs;exact Q7 hc _ _ _
 have hQ : ∀s∈B.map fun b=>xd c M D V b.1 b.2,s.size=c:=fun s hs=>by
  obtain⟨b,_,rfl⟩:=List.mem_map.1 hs;exact Og hc hM hD _ _
 have hl:(B.map fun b=>nd c L b.1 b.2).length=(B.map fun b=>xd c M D V b.1 b.2).length:=by rw[Lx,Lx]
 cases ht:tp c n (B.map fun b=>nd c L b.1 b.2) (B.map fun b=>xd c M D V b.1 b.2) with
 | some q=>exact .inl ⟨q,by rw[wk,ht];rfl,QkL hl hP hQ he ht⟩
 | none =>
  have ha:=List.map_inj_left.1 (QkK hl hP hQ ht)
  cases hf:fm (fp c L M D V) B with
  | some q =>
   obtain⟨b,hb,hq⟩:=QgK hf;exact .inl ⟨q,by rw[wk,ht,hf];rfl,Qjp hc hM hD _ _ q (ha b hb) hq⟩
  | none=>exact .inr ⟨by rw[wk,ht,hf];rfl,fun b hb=>⟨ha b hb,QgJ hf b hb⟩⟩
end
def fr:LB->LB->Pq
 | a::A,b::B=>(un a b).or (fr A B)
 | _,_=>none
theorem Qnk(B:LB):fr [] B=none:=by cases B <;> rfl
theorem Qlq(A:LB):fr A []=none:=by cases A <;> rfl
theorem QdD : ∀ {A B:LB},A.length=B.length -> ∀C D,fr (A++C) (B++D)=(fr A B).or (fr C D)
 | [],[],_,C,D=>rfl
 | a::A,b::B,h,C,D=>by
  rw[Im,Im,fr,fr,QdD (by simpa using h) C D,Option.or_assoc]
theorem Qlp{A B:LB}{j:Nat}(ha:j<A.length)(hb:j<B.length):fr (A.drop j) (B.drop j)=(un (A.getD j ByteArray.empty) (B.getD j ByteArray.empty)).or (fr (A.drop (j+1)) (B.drop (j+1))):=by
 rw[LO ha,LO hb,fr,La,Lc ha,La,Lc hb];rfl
def bx(c:Nat):LB->LB
 | p::p2::P=>Uq p (Qr c (p2::P))::bx c (p2::P)
 | _=>[]
def tx(c n:Nat)(P:LB):LB:=QI n (Qr c P)::bx c P
theorem QbA(c:Nat) : ∀P,(bx c P).length=P.length - 1
 | []=>rfl
 | [p]=>rfl
 | p::p2::P=>by rw[bx,Lt,QbA c (p2::P)];simp
theorem QiQ(c:Nat) : ∀(P:LB) (i:Nat),i+1<P.length->(bx c P)[i]? = some (Uq (P.getD i ByteArray.empty) (Qr c (P.drop (i+1))))
 | [],i,h=>by simp at h
 | [p],i,h=>by simp at h
 | p::p2::P,0,h=>rfl
 | p::p2::P,i+1,h=>by
  rw[bx,Nr,QiQ c (p2::P) i (by simpa using h)]
  rfl
theorem Qk6(c:Nat)(P:LB)(i:Nat)(h:i+1<P.length):(bx c P).take (i+1)=(bx c P).take i++[Uq (P.getD i ByteArray.empty) (Qr c (P.drop (i+1)))]:=by
 have hl:i<(bx c P).length:=by rw[QbA];omega
 have:=QiQ c P i h;rw[Lc hl] at this;rw[LW hl,Nx this]
theorem QmF(c:Nat) : ∀(P Q:LB),P.length=Q.length->fr (bx c P) (bx c Q)=bg c P Q
 | [],Q,h=>by cases Q with|nil=>rfl|cons q Q=>simp at h
 | [p],Q,h=>by
  match Q,h with
  | [q],_=>rfl
 | p::p2::P,Q,h=>by
  match Q,h with
  | q::q2::Q,h=>rw[bx,bx,fr,bg,QmF c (p2::P) (q2::Q) (by simpa using h)]
theorem Qel(c n:Nat)(P:LB):(tx c n P).length=P.length - 1+1:=by rw[tx,Lt,QbA]
theorem Qor(c n:Nat){P Q:LB}(h:P.length=Q.length):fr (tx c n P) (tx c n Q)=tp c n P Q:=by rw[tx,tx,fr,tp,QmF c P Q h]
section
variable (c:Nat) (L:LB) (M:Nat->Nat->Option Nat) (D:LB) (V:Nat->BA)
def ra:Nat->Nat->LB
 | 0,k=>match M 0 k with
  | some _=>[]
  | none=>[Qh (L.getD k ByteArray.empty)]
 | h+1,k=>match M (h+1) k with
  | some _=>[]
  | none=>QH (nd c L h (2*k)) (nd c L h (2*k+1))::(ra h (2*k)++ra h (2*k+1))
def rb:Nat->Nat->LB
 | 0,k=>match M 0 k with
  | some _=>[]
  | none=>[Qh (V k)]
 | h+1,k=>match M (h+1) k with
  | some _=>[]
  | none=>QH (xd c M D V h (2*k)) (xd c M D V h (2*k+1))::(rb h (2*k)++rb h (2*k+1))
end
section
variable {c:Nat} {L:LB} {M:Nat->Nat->Option Nat} {D:LB} {V:Nat->BA}
theorem QaP{h k j:Nat}(e:M h k=some j):ra c L M h k=[]:=by
 cases h with
 | zero=>rw[ra,e]
 | succ h=>rw[ra,e]
theorem Qc8{h k j:Nat}(e:M h k=some j):rb c M D V h k=[]:=by
 cases h with
 | zero=>rw[rb,e]
 | succ h=>rw[rb,e]
theorem Qbh{k:Nat}(e:M 0 k=none):ra c L M 0 k=[Qh (L.getD k ByteArray.empty)]:=by rw[ra,e]
theorem QdV{k:Nat}(e:M 0 k=none):rb c M D V 0 k=[Qh (V k)]:=by rw[rb,e]
theorem Qbi{h k:Nat}(e:M (h+1) k=none):ra c L M (h+1) k=QH (nd c L h (2*k)) (nd c L h (2*k+1))::(ra c L M h (2*k)++ra c L M h (2*k+1)):=by rw[ra,e]
theorem QdW{h k:Nat}(e:M (h+1) k=none):rb c M D V (h+1) k=QH (xd c M D V h (2*k)) (xd c M D V h (2*k+1))::(rb c M D V h (2*k)++rb c M D V h (2*k+1)):=by rw[rb,e]
theorem rab(c:Nat)(L:LB)(M:Nat->Nat->Option Nat)(D:LB)(V:Nat->BA) : ∀h k,(ra c L M h k).length=(rb c M D V h k).length∧fr (ra c L M h k) (rb c M D V h k)=fp c L M D V h k:=by
 intro h
 induction h with
 | zero =>
  intro k
  cases e:M 0 k with
  | some j=>rw[QaP e,Qc8 e,QeP e];exact⟨rfl,rfl⟩
  | none=>rw[Qbh e,QdV e,ON e];exact⟨rfl,Option.or_none⟩
 | succ h ih =>
  intro k
  cases e:M (h+1) k with
  | some j=>rw[QaP e,Qc8 e,QeP e];exact⟨rfl,rfl⟩
  | none =>
   rw[Qbi e,QdW e,Qa6 e];obtain⟨l1,f1⟩:=ih (2*k);obtain⟨l2,f2⟩:=ih (2*k+1);refine⟨by rw[Lt,Lt,Lg,Lg,l1,l2],?_⟩
   rw[fr,QdD l1,f1,f2]
theorem QlW(c:Nat)(L:LB)(M:Nat->Nat->Option Nat)(D:LB)(V:Nat->BA) : ∀B:List (Nat×Nat),(B.flatMap fun b=>ra c L M b.1 b.2).length=(B.flatMap fun b=>rb c M D V b.1 b.2).length∧fr (B.flatMap fun b=>ra c L M b.1 b.2) (B.flatMap fun b=>rb c M D V b.1 b.2)=fm (fp c L M D V) B:=by
 intro B
 induction B with
 | nil=>exact⟨rfl,rfl⟩
 | cons b B ih =>
  obtain⟨l1,f1⟩:=rab c L M D V b.1 b.2;rw[NN,NN,fm,Lg,Lg,l1,ih.1,QdD l1,f1,ih.2];exact⟨rfl,rfl⟩
theorem QmA(c n:Nat)(L:LB)(M:Nat->Nat->Option Nat)(D:LB)(V:Nat->BA)(B:List (Nat×Nat)):fr (tx c n (B.map fun b=>nd c L b.1 b.2)++B.flatMap fun b=>ra c L M b.1 b.2) (tx c n (B.map fun b=>xd c M D V b.1 b.2)++B.flatMap fun b=>rb c M D V b.1 b.2)=wk c n L M D V B:=by
 rw[QdD (by rw[Qel,Qel,Lx,Lx]),Qor c n (by rw[Lx,Lx]),(QlW c L M D V B).2,wk]
end
theorem Qlt{h i n:Nat}(hi:(i+1)*2^(h+1)<=n):(2*i+1)*2^h<=n∧(2*i+1+1)*2^h<=n:=by
 have e:(i+1)*2^(h+1)=(2*i+1+1)*2^h:=by rw[LM,Nb (2^h),<-L9];congr 1;omega
 rw[e] at hi;exact⟨Lz (LE _ (by omega)) hi,hi⟩
theorem QbW{h i n:Nat}(hi:(i+1)*2^h<=n):i<n:=by
 have:=NZ (i+1) (IE (n:=h));omega
def ixM(Bs:List (Nat×Nat))(h k:Nat):Option Nat:=if (h,k)∈Bs then some (Bs.idxOf (h,k)) else none
theorem Qlv{Bs:List (Nat×Nat)}{b:Nat×Nat}(hb:b ∉ Bs)(h k:Nat):ixM (Bs++[b]) h k=if (h,k)=b then some Bs.length else ixM Bs h k:=by
 unfold ixM
 by_cases h1:(h,k)∈Bs
 ·have h2:(h,k)≠b:=fun e=>hb (e ▸ h1)
  rw[Le h2,Lm h1,Lm (Iv _ h1),List.idxOf_append,Lm h1]
 ·by_cases h2:(h,k)=b
  ·rw[Lm h2,Lm (by rw[h2];simp),List.idxOf_append,Le h1,h2,List.idxOf_cons_self,Lr]
  ·rw[Le h2,Le h1,Le (by simp[h1,h2])]
theorem QjA{Bs:List (Nat×Nat)}{h k j:Nat}(e:ixM Bs h k=some j):j<Bs.length:=by
 unfold ixM at e
 split at e
 ·rename_i hm
  cases e;exact N4 hm
 ·cases e
theorem Qns{Bs:List (Nat×Nat)}{h k j:Nat}(e:ixM Bs h k=some j):Bs.getD j (0,0)=(h,k):=by
 unfold ixM at e
 split at e
 ·rename_i hm
  cases e;have:=N4 hm;rw[La,Lc this];exact Wb this
 ·cases e
theorem YG{Bs:List (Nat×Nat)}{h k:Nat} : ixM Bs h k=none↔(h,k) ∉ Bs:=by
 unfold ixM
 split
 ·rename_i hm;simp[hm]
 ·rename_i hm;simp[hm]
def num(n:Nat):List UInt8:=if n<128 then [UInt8.ofNat n] else UInt8.ofNat (n % 128+128)::num (n / 128)
termination_by n
decreasing_by omega
theorem Qba{n:Nat}(h:n<128):num n=[UInt8.ofNat n]:=by rw[num,Lm h]
theorem OT{n:Nat}(h:128<=n):num n=UInt8.ofNat (n % 128+128)::num (n / 128):=by rw[num,Le (by omega)]
theorem QlJ(n:Nat):0<(num n).length:=by
 by_cases h:n<128
 ·rw[Qba h];simp
 ·rw[OT (by omega)];simp
def Yf:List UInt8->Nat->Nat->Nat×Nat×Nat
 | [],_,_=>(0,60,0)
 | b::r,i,n =>
  if i=9∧1<b.toNat then (0,61,0)
  else if b.toNat<128 then (if b.toNat=0∧0<i then (0,61,0) else (n+b.toNat*128^i,0,i+1))
  else Yf r (i+1) (n+(b.toNat % 128)*128^i)
theorem QB{x:Nat}(h:x<256):(UInt8.ofNat x).toNat=x:=by
 rw[UInt8.toNat_ofNat'];exact NI h
theorem Qbf{i:Nat}(h:i<=9):128^i<=128^9:=L7 (by decide) h
theorem Qct(t:List UInt8) : ∀(m i acc:Nat),acc<128^i->acc+m*128^i<2^64->i<=9->(i=0∨0<m) ->
  Yf (num m++t) i acc=(acc+m*128^i,0,i+(num m).length):=by
 intro m
 induction m using Nat.strongRecOn with
 | _ m ih =>
  intro i acc ha hn hi h0
  by_cases h:m<128
  ·rw[Qba h,List.singleton_append,Yf,QB (by omega)]
   have h1 : ¬(i=9∧1<m):=by
    rintro⟨rfl,h1⟩;have:2*128^9<=m*128^9:=LE _ h1;have e:2*128^9=2^64:=by decide
    omega
   rw[Le h1,Lm h,Le (by omega)]
   rfl
  ·rw[OT (by omega),Im,Yf,QB (by omega)]
   have h1:i≠9:=by
    rintro rfl;have:128*128^9<=m*128^9:=LE _ (by omega)
    have e:2^64<=128*128^9:=by decide
    omega
   rw[Le (by omega),Le (by omega)]
   have hs:acc+(m % 128+128) % 128*128^i+m / 128*128^(i+1)=acc+m*128^i:=by
    rw[Nat.add_mod_right,Nat.mod_mod,LM,Nb (128^i),<-L9,Ik,<-LR,Nat.mod_add_div']
   have xA:acc+(m % 128+128) % 128*128^i<128^(i+1):=by
    rw[Nat.add_mod_right,Nat.mod_mod,LM];have:m % 128*128^i<=127*128^i:=LE _ (by omega)
    omega
   rw[ih (m / 128) (by omega) (i+1) _ xA (by rw[hs];exact hn) (by omega) (.inr (by omega)),hs,Lt]
   exact LU (fun x=>(acc+m*128^i,0,x)) (by omega)
theorem QaA : ∀(l:List UInt8) (i acc n k:Nat),acc<128^i->i<=9->Yf l i acc=(n,0,k) ->
  ∃m,n=acc+m*128^i∧num m=l.take (k - i)∧i<k∧k<=10∧k - i<=l.length∧(0<i->0<m)∧n<2^64:=by
 intro l
 induction l with
 | nil=>intro i acc n k _ _ h;simp[Yf] at h
 | cons b r ih =>
  intro i acc n k ha hi h;rw[Yf] at h
  by_cases h1:i=9∧1<b.toNat
  ·rw[Lm h1] at h;simp at h
  ·rw[Le h1] at h
   by_cases h2:b.toNat<128
   ·rw[Lm h2] at h
    by_cases h3:b.toNat=0∧0<i
    ·rw[Lm h3] at h;simp at h
    ·rw[Le h3] at h;simp only[Prod.mk.injEq,true_and] at h;obtain⟨rfl,rfl⟩:=h;refine⟨b.toNat,rfl,?_,by omega,by omega,by simp,by omega,?_⟩
     ·rw[Qba h2,Io];simp
     ·have e9:(128:Nat)^9=9223372036854775808:=by decide
      rcases I8 i 9 with h9|h9
      ·have hp:128^(i+1)<=128^9:=Qbf (by omega)
       have:b.toNat*128^i<=127*128^i:=LE _ (by omega)
       rw[LM] at hp;omega
      ·obtain rfl:i=9:=by omega
       have:b.toNat*128^9<=1*128^9:=LE _ (by omega)
       omega
   ·rw[Le h2] at h;have h9:i≠9:=by omega
    have xB:acc+b.toNat % 128*128^i<128^(i+1):=by
     rw[LM];have:b.toNat % 128*128^i<=127*128^i:=LE _ (by omega)
     omega
    obtain⟨m,rfl,h4,h5,h6,h7,h8,xA⟩:=ih (i+1) _ n k xB (by omega) h
    have hm:=h8 (by omega)
    have hb:=b.toNat_lt;refine⟨b.toNat % 128+128*m,?_,?_,by omega,h6,by simp;omega,by omega,xA⟩
    ·rw[LR,LM,Nb (128^i),<-L9,Nb m,Ik]
    ·rw[OT (by omega),show(b.toNat % 128+128*m) / 128=m by omega,h4,show(b.toNat % 128+128*m) % 128+128=b.toNat by omega,
      show k - i=(k - (i+1))+1 by omega,I5]
     simp
theorem Qkr : ∀(l:List UInt8) (i acc:Nat),(Yf l i acc).2.1=0∨Yf l i acc=(0,60,0)∨Yf l i acc=(0,61,0):=by
 intro l
 induction l with
 | nil=>intro i acc;exact .inr (.inl rfl)
 | cons b r ih =>
  intro i acc;rw[Yf]
  split
  ·exact .inr (.inr rfl)
  ·split
   ·split
    ·exact .inr (.inr rfl)
    ·exact .inl rfl
   ·exact ih _ _
theorem Ym{n:Nat}(h:n<2^64):(num n).length<=10:=by
 have:=Qct [] n 0 0 (by decide) (by simpa using h) (by omega) (.inl rfl)
 obtain⟨m,h1,h2,h3,h4,h5,_⟩:=QaA _ 0 0 _ _ (by decide) (by omega) this
 omega
end Go.Proofs.YtdocjikpcbmcgaaGreatDoor
