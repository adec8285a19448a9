/- Own work. -/
import Derived.Test.YtoblgjledefdbaaGreatDoorQm38
set_option maxRecDepth 100000
set_option maxHeartbeats 4000000
namespace Go.Proofs.YtoblgjledefdbaaGreatDoor
open Go.RowKit
attribute [local go_sem ↓] Go.wp_at_zero Go.wp_at_succ
open Go.Proofs.Tryz
section
open Cv Pl
def OkN(size:Nat)(S:List Nat)(j:Nat):Prop := ∀i,i<j->S.getD i 0<size∧(0<i->S.getD (i - 1) 0<S.getD i 0)
theorem QeI{size j:Nat}{S:List Nat}(h:OkN size S j)(h1:S.getD j 0<size)(h2:0<j->S.getD (j - 1) 0<S.getD j 0):OkN size S (j+1):=by
 intro i hi
 by_cases e:i=j
 ·subst e;exact⟨h1,h2⟩
 ·exact h i (by omega)
theorem QjK{size:Nat}{S:List Nat}(h:QG size S=0):OkN size S S.length:=by
 obtain⟨h1,h2,h3,h4⟩:=Yw h;intro i hi;have hc:=YQ h4 i hi;refine⟨hc.1,fun h0=>hc.2.2 (i - 1) (by omega)⟩
theorem Qkq{size:Nat}{S:List Nat}(hn:size<=2^40)(h0:0<S.length)(h:OkN size S S.length):QG size S=0:=by
 refine Qcp (Qeh S 0 size (fun i hi => ?_) (fun _=>Ll _) (fun hl=>(h _ (by omega)).1) (Ll _)) (fun e=>by rw[e] at h0;exact absurd h0 (by decide)) hn
 have:=(h (i+1) hi).2 (by omega)
 simpa using this
theorem QlP{kd k:Int}{old size:Nat}{S:List Nat}(hk:1<=k∧k<=32∧size<=2^40)(hkd:kd=1∨kd=2):(cnt kd k old size S).isSome=decide (old=0∧(kd=1->S.length=1)∧QG size S=0):=by
 rcases hkd with rfl|rfl
 ·rw[cnt,Lk hk,Lk rfl]
  by_cases h:old=0∧S.length=1∧QG size S=0
  ·rw[Lk h,LA ⟨h.1,fun _=>h.2.1,h.2.2⟩];rfl
  ·rw[Le h,Ls (fun g=>h ⟨g.1,g.2.1 rfl,g.2.2⟩)];rfl
 ·rw[Qak hk]
  by_cases h:old=0∧QG size S=0
  ·rw[Lk h,LA ⟨h.1,fun e=>absurd e (by decide),h.2⟩];rfl
  ·rw[Le h,Ls (fun g=>h ⟨g.1,g.2.2⟩)];rfl
theorem QjJ{size:Nat}{S:List Nat}(h:QG size S=0):0<S.length:=(Yw h).2.1.1
section
variable (w:World) (kd k:Int) (old size:Nat) (sa:OA) (sb so sc:Nat) (S:List Nat) (dv:Value)
theorem U7(rs:RdU w sa sb so S.length S)(hS:S.length<=17592186044416) :
  Calls prog 365 #[pv6 kd k old size (.slice sa S.length sc) dv] w fun e w'=>e = .returned (.bool (cnt kd k old size S).isSome)∧Below w.heap.size w w':=by
 obtain⟨W0,hW,h6,hb,hz⟩:=UB w (.int .i64 kd) (.int .i64 k) (.int .u64 (old:Int)) (.int .u64 (size:Int)) (.slice sa S.length sc) dv;have HX:Hid (∀W,Below W0.heap.size W0 W->Six W w.heap.size (.int .i64 kd) (.int .i64 k) (.int .u64 (old:Int)) (.int .u64 (size:Int)) (.slice sa S.length sc) dv∧RdU W sa sb so S.length S∧Below w.heap.size w W):=fun W hw=>⟨h6.next hw,rs.next (Qa hb hw),Qa hb hw⟩
 obtain⟨e0,e1,e2,e3,e4,e5⟩:=h6.cells;have HB:=Qg hb;have xW:(S.length:Int)<=17592186044416:=by omega
 clear h6 hb hz rs
 show Calls prog 365 #[pv6 kd k old size (.slice sa S.length sc) dv] w _
 by_cases hk0:1<=kd∧kd<=3∧1<=k∧k<=32∧size<=1099511627776
 rotate_left
 ·have xK:(cnt kd k old size S).isSome=false:=by
   by_cases h1:kd=1∨kd=2∨kd=3
   ·rw[QgN (by have : (2:Nat) ^ 40 = 1099511627776:=by decide
               omega)];rfl
   ·rw[Qcq (by omega) (by omega) (by omega)];rfl
  rw[xK];clear xK HX;have hc:kd<1∨(¬kd<1∧kd > 3)∨(¬kd<1 ∧ ¬kd > 3∧k<1)∨(¬kd<1 ∧ ¬kd > 3 ∧ ¬k<1∧k > 32)∨(¬kd<1 ∧ ¬kd > 3 ∧ ¬k<1 ∧ ¬k > 32∧(size:Int) > 1099511627776):=by omega
  clear hk0
  rcases hc with g1|⟨g1,g2⟩|⟨g1,g2,g3⟩|⟨g1,g2,g3,g4⟩|⟨g1,g2,g3,g4,g5⟩ <;>
  ·go_enter func365,ntmps365
   go_upto_region 1 with (fail)
   try rw[hW]
   clear hW;go_wp2
   go_ret
   exact⟨rfl,HB.out⟩
 have g1 : ¬kd<1:=by omega
 have g2 : ¬kd > 3:=by omega
 have g3 : ¬k<1:=by omega
 have g4 : ¬k > 32:=by omega
 have g5 : ¬(size:Int) > 1099511627776:=by omega
 have hk:1<=k∧k<=32∧size<=2^40:=⟨hk0.2.2.1,hk0.2.2.2.1,hk0.2.2.2.2⟩
 by_cases h3:kd=3
 ·subst h3
  by_cases h4:S.length=0
  ·have xG:S=[]:=List.eq_nil_of_length_eq_zero h4;have xI:((S.length:Int) == 0)=true:=beq_iff_eq.2 (by omega)
   by_cases h5:old<=size
   ·rw[OD hk,Lk ⟨h5,xG⟩];have xF:(old:Int)<=(size:Int):=by omega
    clear hk hk0 xG h4 h5 HX;generalize S.length=ms at *
    go_enter func365,ntmps365
    go_upto_region 1 with (fail)
    try rw[hW]
    clear hW;go_wp2
    go_ret
    exact⟨rfl,HB.out⟩
   ·rw[OD hk,Le (fun h=>h5 h.1)]
    have xF : ¬(old:Int)<=(size:Int):=by omega
    clear hk hk0 xG h4 h5 HX;generalize S.length=ms at *
    go_enter func365,ntmps365
    go_upto_region 1 with (fail)
    try rw[hW]
    clear hW;go_wp2
    go_ret
    exact⟨rfl,HB.out⟩
  ·rw[OD hk,Le (fun h=>h4 (by rw[h.2];rfl))]
   have xI:((S.length:Int) == 0)=false:=beq_eq_false_iff_ne.2 (by omega)
   clear hk hk0 h4 HX;generalize S.length=ms at *
   go_enter func365,ntmps365
   go_upto_region 1 with (fail)
   try rw[hW]
   clear hW;go_wp2
   go_ret
   exact⟨rfl,HB.out⟩
 have xA:kd=1∨kd=2:=by omega
 have f3:(kd == 3)=false:=beq_eq_false_iff_ne.2 h3;rw[QlP hk xA]
 by_cases h4:old=0
 rotate_left
 ·rw[Ls (fun h=>h4 h.1)]
  have xI:((old:Int) != 0)=true:=bne_iff_ne.2 (by omega)
  clear hk hk0 h4 HX xA h3
  go_enter func365,ntmps365
  go_upto_region 1 with (fail)
  try rw[hW]
  clear hW;go_wp2
  go_ret
  exact⟨rfl,HB.out⟩
 subst h4;have xL:((0:Nat):Int)=0:=rfl;rw[xL] at hW e2;clear xL
 by_cases h5:S.length=0
 ·rw[Ls (fun h=>by have:=QjJ h.2.2;omega)]
  have xF:((S.length:Int) == 0)=true:=beq_iff_eq.2 (by omega)
  clear hk hk0 h5 HX xA h3;generalize S.length=ms at *
  go_enter func365,ntmps365
  go_upto_region 1 with (fail)
  try rw[hW]
  clear hW;go_wp2
  go_ret
  exact⟨rfl,HB.out⟩
 have xF:((S.length:Int) == 0)=false:=beq_eq_false_iff_ne.2 (by omega)
 by_cases h6:kd=1∧S.length≠1
 ·obtain⟨rfl,h6⟩:=h6;rw[Ls (fun h=>h6 (h.2.1 rfl))]
  have xV:((S.length:Int) != 1)=true:=bne_iff_ne.2 (by omega)
  clear hk hk0 h5 HX xA h3 h6;generalize S.length=ms at *
  go_enter func365,ntmps365
  go_upto_region 1 with (fail)
  try rw[hW]
  clear hW;go_wp2
  go_ret
  exact⟨rfl,HB.out⟩
 have hq:kd=1->S.length=1:=fun h=>by
  by_cases h7:S.length=1
  ·exact h7
  ·exact absurd ⟨h,h7⟩ h6
 have HE:Hid ((OkN size S S.length->decide (0=0∧(kd=1->S.length=1)∧QG size S=0)=true)∧(¬OkN size S S.length->decide (0=0∧(kd=1->S.length=1)∧QG size S=0)=false)):=⟨fun h=>LA ⟨rfl,hq,Qkq hk.2.2 (by omega) h⟩,fun h=>Ls (fun g=>h (QjK g.2.2))⟩
 generalize decide (0=0∧(kd=1->S.length=1)∧QG size S=0)=ans at *
 have hc:((kd == 1)=true∧((S.length:Int) != 1)=false)∨(kd == 1)=false:=by
  rcases xA with h|h
  ·exact .inl ⟨beq_iff_eq.2 h,bne_eq_false_iff_eq.2 (by have:=hq h;omega)⟩
  ·exact .inr (beq_eq_false_iff_ne.2 (by omega))
 clear hk hk0 h5 xA h3 h6 hq
 rcases hc with ⟨hc1,hc2⟩|hc1 <;>
 ·go_enter func365,ntmps365
  go_upto_region 1 with (fail)
  try rw[hW]
  clear hW;go_wp2;clear e0 e1 e2 e3 e4 e5
  go_loopg [3] S.length (fun gk i wr => ∃j:Nat,j<=S.length∧gk=S.length - j∧i = .int .i64 (j:Int)∧Hid (OkN size S j)∧Hid (Below W0.heap.size W0 wr))
  case atStart=>go_light;exact⟨0,Ll _,rfl,rfl,(show OkN size S 0 from fun i hi=>absurd hi (by omega)),Lb _ _⟩
  case round =>
   obtain⟨j,hj,rfl,rfl,HK,HI⟩:=hrel;obtain⟨x6,v1,xJ⟩:=HX.out wr HI.out;obtain⟨_,_,_,e3,e4,_⟩:=x6.cells;have xX:(0:Int)<=(j:Int):=Lf _;have xB:=Qg xJ;clear xJ x6
   by_cases hlt:j<S.length
   ·have xH:(j:Int)<(S.length:Int):=by omega
    obtain rfl:=v1.ptr (by omega)
    have c1:=v1.at (j:=j) hlt;obtain⟨x,hx⟩:=Ze (S.getD j 0);rw[hx] at c1
    by_cases b1:x<size
    rotate_left
    ·have xN:(size:Int)<=(x:Int):=by omega
     have HN:Hid (ans=false):=HE.out.2 (fun h=>b1 (hx ▸ (h j hlt).1))
     clear b1 hx v1;go_wp2;have xD:decide ((size:Int)<=(x:Int))=true:=LA (by omega)
     have xE:decide (size<=x)=true:=LA (by omega)
     go_quiet (fail)
     go_wp2
     go_ret
     exact⟨by rw[HN.out];try rfl,Qf xB.out _⟩
    have xN:(x:Int)<(size:Int):=by omega
    by_cases j1:j=0
    ·have xS:(j:Int)<=0:=by omega
     have xC:Hid (OkN size S (j+1)):=QeI HK.out (hx ▸ b1) (fun h=>absurd h (by omega))
     clear b1 hx v1 HK j1;go_wp2;have xD:decide ((size:Int)<=(x:Int))=false:=Ls (by omega)
     have xE:decide (size<=x)=false:=Ls (by omega)
     have j2:decide ((0:Int)<(j:Int))=false:=Ls (by omega)
     have xM:decide (0<j)=false:=Ls (by omega)
     go_quiet (fail)
     go_wp2
     go_roundg (S.length - (j+1))
     case rel=>go_light;exact⟨j+1,hlt,rfl,by go_num,xC,Qf HI.out _⟩
     case measure=>go_light;omega
    ·obtain⟨t,rfl⟩ : ∃t,j=t+1:=⟨j - 1,by omega⟩
     have c2:=v1.at (j:=t) (by omega)
     obtain⟨y,hy⟩:=Ze (S.getD t 0);rw[hy] at c2;have xS:(0:Int)<((t+1:Nat):Int):=by omega
     have et:((t+1:Nat):Int) - 1=(t:Int):=by omega
     have xU:(t:Int)<(S.length:Int):=by omega
     have xT:(0:Int)<=(t:Int):=Lf _;have xY:t<=17592186044416:=by omega
     by_cases b2:y<x
     ·have xQ:(y:Int)<(x:Int):=by omega
      have xC:Hid (OkN size S (t+1+1)):=QeI HK.out (hx ▸ b1) (fun _=>by rw[LP,hx,hy];exact b2)
      clear b1 hx hy v1 HK b2;go_wp2;have xD:decide ((size:Int)<=(x:Int))=false:=Ls (by omega)
      have xE:decide (size<=x)=false:=Ls (by omega)
      have j2:decide ((0:Int)<((t+1:Nat):Int))=true:=LA (by omega)
      have xM:decide (0<t+1)=true:=LA (by omega)
      have xR:decide ((0:Int)<(t:Int)+1)=true:=LA (by omega)
      have xO:decide ((x:Int)<=(y:Int))=false:=Ls (by omega)
      have xP:decide (x<=y)=false:=Ls (by omega)
      go_quiet (fail)
      go_wp2
      go_roundg (S.length - (t+1+1))
      case rel=>go_light;exact⟨t+1+1,hlt,rfl,by go_num,xC,Qf HI.out _⟩
      case measure=>go_light;omega
     ·have xQ:(x:Int)<=(y:Int):=by omega
      have HN:Hid (ans=false):=HE.out.2 (fun h=>b2 (by have:=(h (t+1) hlt).2 (by omega);rwa [LP,hx,hy] at this))
      clear b1 hx hy v1 HK b2;go_wp2;have xD:decide ((size:Int)<=(x:Int))=false:=Ls (by omega)
      have xE:decide (size<=x)=false:=Ls (by omega)
      have j2:decide ((0:Int)<((t+1:Nat):Int))=true:=LA (by omega)
      have xM:decide (0<t+1)=true:=LA (by omega)
      have xR:decide ((0:Int)<(t:Int)+1)=true:=LA (by omega)
      have xO:decide ((x:Int)<=(y:Int))=true:=LA (by omega)
      have xP:decide (x<=y)=true:=LA (by omega)
      go_quiet (fail)
      go_wp2
      go_ret
      exact⟨by rw[HN.out];try rfl,Qf xB.out _⟩
   ·obtain hje:j=S.length:=by omega
    have xH : ¬(j:Int)<(S.length:Int):=by omega
    have HN:Hid (ans=true):=HE.out.1 (by rw[<-hje];exact HK.out)
    clear hje v1 HK;go_wp2
    go_ret
    exact⟨by rw[HN.out];try rfl,xB.out⟩
end
end
section
variable {w W:World} {s:Nat} {a b c d e f:Value}
theorem Six.set0(h:Six w s a b c d e f)(x:Value):Six (w.setCell ⟨s,0,none⟩ x) s x b c d e f:=Lp w s 0 _ _ x h
theorem Six.set1(h:Six w s a b c d e f)(x:Value):Six (w.setCell ⟨s,1,none⟩ x) s a x c d e f:=Lp w s 1 _ _ x h
theorem Six.set2(h:Six w s a b c d e f)(x:Value):Six (w.setCell ⟨s,2,none⟩ x) s a b x d e f:=Lp w s 2 _ _ x h
theorem Six.set3(h:Six w s a b c d e f)(x:Value):Six (w.setCell ⟨s,3,none⟩ x) s a b c x e f:=Lp w s 3 _ _ x h
theorem Six.set4(h:Six w s a b c d e f)(x:Value):Six (w.setCell ⟨s,4,none⟩ x) s a b c d x f:=Lp w s 4 _ _ x h
theorem Six.set5(h:Six w s a b c d e f)(x:Value):Six (w.setCell ⟨s,5,none⟩ x) s a b c d e x:=Lp w s 5 _ _ x h
end
section
variable {w wr w1:World} {p:Nat} {s s':BA} {a b c d e f:Value}
end
theorem Jx{w:World}{B:Nat}{v:Value}{l:List Nat}(h:Cv.Own w B v l) : ∃ao b c,v = .slice ao l.length c∧RdU w ao b 0 l.length l∧(ao=none->c=0):=by
 rcases h.2 with ⟨rfl,h0⟩|⟨g,cap,cur,rfl,hg,_⟩
 ·have:l=[]:=List.length_eq_zero_iff.1 h0;subst this;exact⟨none,0,0,rfl,⟨rfl,fun h=>absurd h (Nk 0),fun j v h=>by cases h⟩,fun _=>rfl⟩
 ·have:=Qhe (l':=[]) (by rw[LS];exact h)
  exact⟨_,g,cap,rfl,this,fun h=>by cases h⟩
theorem US(w:World)(h:Nat)(hh:h<=40)(p:Nat)(hp:2^h=p) :
  Calls prog 368 #[.int .i64 (h:Int)] w fun e w'=>e = .returned (.int .u64 (p:Int))∧w=w':=by
 have HP:=Qg hp;clear hp;have xA:(h:Int)<=40:=by omega
 go_enter func368,ntmps368;go_wp2
 go_loopg [3,4] h (fun g n i wr => ∃j:Nat,j<=h∧g=h - j∧n = .int .u64 ((2^j:Nat):Int)∧i = .int .i64 (j:Int)∧w=wr)
 case atStart=>go_light;exact⟨0,Ll _,rfl,rfl,rfl,rfl⟩
 case round =>
  obtain⟨j,hj,rfl,rfl,rfl,rfl⟩:=hrel
  by_cases hlt:j<h
  ·have hz:(j:Int)<(h:Int):=by omega
   obtain⟨q,hq⟩:=Ze (2^j);have hb:2^j<=2^40:=LW (by decide) (by omega)
   rw[hq] at hb ⊢;have e1:IntKind.u64.wrap (2*(q:Int))=2*(q:Int):=by rw[IntKind.wrap_u64];omega
   have HQ:Hid (2*(q:Int)=((2^(j+1):Nat):Int)):=by show _=_;rw[LC,hq];omega
   clear hq hb;go_wp2
   go_roundg (h - (j+1))
   case rel=>go_light;exact⟨j+1,by omega,rfl,by rw[HQ.out],by go_num,rfl⟩
   case measure=>go_light;omega
  ·obtain rfl:j=h:=by omega
   have hz : ¬((j:Int)<(j:Int)):=by omega
   rw[HP.out];clear hlt;go_wp2
   go_ret
   exact⟨rfl,rfl⟩
open Cv (cU RdC) in
theorem Ov(w:World)(sa:OA)(sb so sc:Nat)(S:List Nat)(lo hi:Nat)(rs:RdU w sa sb so S.length S)(hS:S.length<=17592186043904) :
  Calls prog 369 #[.slice sa S.length sc,.int .u64 (lo:Int),.int .u64 (hi:Int)] w fun e w' => ∃v,e = .returned v∧Cv.Own w' w.heap.size v (S.filter fun i=>decide (lo<=i) && decide (i<hi))∧Below w.heap.size w w':=by
 obtain⟨u0,xF,xG,xH,xI⟩:=info_parts Cv.Tryz.infoU;have HU:Hid (prog.info? 48=some u0∧u0.zero=some (.int .u64 0)∧u0.size=1∧u0.bytes=8):=⟨xF,xG,xH,xI⟩;have HS:Hid (∀F,Below w.heap.size w F->RdU F sa sb so S.length S):=fun F hF=>rs.next hF
 have HL:Hid (S.length<=17592186043904):=hS;have xL:(S.length:Int)<=17592186043904:=by omega
 clear rs hS xF xG xH xI
 go_enter func369,ntmps369;go_wp2
 go_loopg [7,8] S.length (fun g l ix wr => ∃j:Nat,j<=S.length∧g=S.length - j∧ix = .int .i64 (j:Int)∧Cv.Own wr w.heap.size l ((S.take j).filter fun i=>decide (lo<=i) && decide (i<hi))∧Below w.heap.size w wr)
 case atStart=>go_light;exact⟨0,Ll _,rfl,rfl,Nh _ _ _ _,Lb _ _⟩
 case round =>
  obtain⟨j,hj,rfl,rfl,ho,hb⟩:=hrel;have xM:(0:Int)<=(j:Int):=Lf _
  by_cases hlt:j<S.length
  ·have xD:(j:Int)<(S.length:Int):=by omega
   have R:=HS.out _ hb;obtain rfl:=R.ptr (by omega)
   have cj:=R.at (j:=j) hlt;have xB:=YY (S:=S) (j:=j) hlt;obtain⟨i,xC⟩:=Ze (S.getD j 0);rw[xC] at cj xB
   by_cases hin:lo<=i∧i<hi
   ·have h1:(lo:Int)<=(i:Int):=by omega
    have h2:(i:Int)<(hi:Int):=by omega
    have hf:(S.take (j+1)).filter (fun i=>decide (lo<=i) && decide (i<hi))=(S.take j).filter (fun i=>decide (lo<=i) && decide (i<hi))++[i]:=by
     rw[xB,List.filter_append]
     congr 1
     simp[hin.1,hin.2]
    have xA:((S.take j).filter fun i=>decide (lo<=i) && decide (i<hi)).length<=j:=Lu (List.length_filter_le _ _) (by rw[Lz];omega)
    generalize hX:(S.take j).filter (fun i=>decide (lo<=i) && decide (i<hi))=X at *
    have HX:Hid ((S.take (j+1)).filter (fun i=>decide (lo<=i) && decide (i<hi))=X++[i]∧X.length<=j∧Below w.heap.size w wr):=⟨hf,xA,hb⟩
    have HO:Hid (Cv.Own wr w.heap.size _ X):=ho;clear hf xA xB xC hin R hX ho hb
    go_wp2_with (at_builtin;refine Cv.YZ _ rfl _ _ _ rfl w.heap.size 48 u0 (.int .u64 0) 1 8 underlying66 HU.out.1 HU.out.2.1 HU.out.2.2.1 HU.out.2.2.2 rfl (by decide) _ X.length (cU X) rfl (HO.out.alloc _) _ 1 (cU [i]) rfl (QmJ wr i) rfl (Cv.Qjl [i]) ?c1 ?c2 ?c3 ?_)
    case c1=>have:=HX.out.2.1;have:=HL.out;unfold maxLen;omega
    case c2=>have:=HX.out.2.1;have:=HL.out;omega
    case c3=>have:=HX.out.2.2.size;simp;omega
    intro v2 w2 a2;have xE:=(Cv.QcF HX.out.2.2 HX.out.2.2.size HO.out a2.grown).1;have o2:Cv.Own w2 w.heap.size v2 (X++[i]):=by
     have:=a2.own;rw[Cv.Own,Lc]
     simpa [cU] using this
    have H2:Hid (Cv.Own w2 w.heap.size v2 (X++[i])∧Below w.heap.size w w2):=⟨o2,xE⟩;clear a2 o2 xE;go_wp2
    go_roundg (S.length - (j+1))
    case rel =>
     go_light;refine⟨j+1,hlt,rfl,by go_num,?_,H2.out.2⟩
     rw[HX.out.1];exact H2.out.1
    case measure=>go_light;omega
   ·have hf:(S.take (j+1)).filter (fun i=>decide (lo<=i) && decide (i<hi))=(S.take j).filter (fun i=>decide (lo<=i) && decide (i<hi)):=by
     rw[xB,List.filter_append,NF (by simp;omega),List.filter_nil,LS]
    have HX:=Qg hf;have HB:=Qg hb;have HO:=Qg ho;clear xB xC R hf hb ho
    by_cases h1:lo<=i
    ·have xJ:(lo:Int)<=(i:Int):=by omega
     have xK : ¬(i:Int)<(hi:Int):=by omega
     clear hin;go_wp2
     go_roundg (S.length - (j+1))
     case rel =>
      go_light;refine⟨j+1,hlt,rfl,by go_num,?_,HB.out⟩
      rw[HX.out];exact HO.out
     case measure=>go_light;omega
    ·have xJ : ¬(lo:Int)<=(i:Int):=by omega
     clear hin;go_wp2
     go_roundg (S.length - (j+1))
     case rel =>
      go_light;refine⟨j+1,hlt,rfl,by go_num,?_,HB.out⟩
      rw[HX.out];exact HO.out
     case measure=>go_light;omega
  ·obtain hje:j=S.length:=by omega
   have xD : ¬(j:Int)<(S.length:Int):=by omega
   rw[hje,L9] at ho;obtain⟨av,mv,cv,rfl⟩:=Cv.Qx ho;have HO:Hid (Cv.Own wr w.heap.size (.slice av mv cv) (S.filter fun i=>decide (lo<=i) && decide (i<hi))∧Below w.heap.size w wr):=⟨ho,hb⟩
   clear ho hb;go_wp2
   go_ret
   exact⟨_,rfl,HO.out.1,HO.out.2⟩
namespace Cv
open Pl
theorem QdL(n:Nat)(w:World)(hn:n<=2^40) :
  Calls prog 366 #[.int .u64 (n:Int)] w fun e w' => ∃v,e = .returned v∧Uh w' w.heap.size v (zl (dnL 41 0 n))∧Below w.heap.size w w':=by
 have HN:Hid (n<=2^40):=hn;clear hn
 go_enter func366,ntmps366;go_wp2
 go_loopg [3,4,5] 41 (fun g v f h wr => ∃(m x:Nat) (acc:List (Nat×Nat)),m<=41∧m=g∧h = .int .i64 ((m:Int) - 1)∧f = .int .u64 (x:Int)∧x<=n∧Uh wr w.heap.size v (zl acc)∧acc++dnL m x n=dnL 41 0 n∧acc.length+m<=41∧Below w.heap.size w wr)
 case atStart=>go_light;exact⟨41,0,[],by decide,rfl,rfl,rfl,Ll _,Nh _ _ _ _,rfl,by decide,Lb _ _⟩
 case round =>
  obtain⟨m,x,acc,hm,rfl,rfl,rfl,hx,xB,xA,xC,hb⟩:=hrel;have hn:=HN.out
  by_cases hm0:m=0
  ·subst hm0;have ht : ¬(0:Int)<=((0:Nat):Int) - 1:=by omega
   have HF:Hid (Uh wr w.heap.size u3 (zl (dnL 41 0 n))∧Below w.heap.size w wr):=⟨by
    rw[<-xA];simpa [dnL] using xB,hb⟩
   clear hx xB xA xC hb hn hm;go_wp2
   go_ret
   exact⟨_,rfl,HF.out⟩
  ·obtain⟨i,rfl⟩ : ∃i,m=i+1:=⟨m - 1,by omega⟩
   have ei:(((i+1:Nat):Int) - 1)=(i:Int):=by omega
   rw[ei];have xM:(0:Int)<=(i:Int):=Lf _;have xN:(i:Int)<=40:=by omega
   obtain⟨p,hp⟩:=Ze (pw i);have xE:=fun W=>US W i (by omega) p hp
   have xD:pw i<=pw 40:=OY (by omega)
   have xH:pw 40=2^40:=rfl;have xF:=QB i;rw[hp] at xD xF;obtain⟨d,hd⟩:=Ze (n - x);have ed:IntKind.u64.wrap ((n:Int) - (x:Int))=(d:Int):=by rw[IntKind.wrap_u64];omega
   have xO : ¬(p:Int)=0:=by omega
   have xG:=hb.size
   by_cases hfit:p<=d
   ·have xJ:(p:Int)<=(d:Int):=by omega
    obtain⟨q,hq⟩:=Ze (x / pw i);have xI:x / p=q:=by rw[<-hp];exact hq
    have xK:q<=x:=by rw[<-hq];exact NM _ _
    have eq:(x:Int) / (p:Int)=(q:Int):=by rw[<-xI];rfl
    have xL:IntKind.u64.wrap (q:Int)=(q:Int):=by rw[IntKind.wrap_u64];omega
    have ef:IntKind.u64.wrap ((x:Int)+(p:Int))=((x+p:Nat):Int):=by rw[IntKind.wrap_u64];omega
    have hu:=QfH (h:=i) (lo:=x) (hi:=n) (by omega)
    rw[hq,hp] at hu;have HX:Hid (acc++[(i,q)]++dnL i (x+p) n=dnL 41 0 n∧x+p<=n∧(acc++[(i,q)]).length+i<=41∧Below w.heap.size w wr∧w.heap.size<=wr.heap.size∧acc.length<=41):=by
     refine⟨?_,by omega,by simp;omega,hb,xG,by omega⟩
     rw[Lq,<-xA,hu];rfl
    have HO:Hid (Uh wr w.heap.size _ (zl acc)):=xB;clear hx xA xC hb hn hm hm0 hp hd hq xI xK hu xH xD xF xG hfit xB
    go_wp2_with (first
     | (go_at_call 368;(refine(xE _).mono ?_);rintro e w' ⟨rfl,rfl⟩)
     | (at_builtin;refine Ue _ rfl _ _ rfl w.heap.size _ (zl acc) rfl (HO.out.alloc _) _ [((i:Int),q)] rfl (Qaw _ (i:Int) q 249) ?c1 ?c2 ?_))
    case c1=>have:=HX.out.2.2.2.2.2;rw[Je];simp;omega
    case c2=>have:=HX.out.2.2.2.2.1;simp;omega
    intro v' w1 r1 r2 _;have R:=QcF HX.out.2.2.2.1 HX.out.2.2.2.2.1 HO.out r2;clear r2
    go_wp2_with (go_at_call 368;(refine(xE _).mono ?_);rintro e w' ⟨rfl,rfl⟩)
    go_roundg i
    case rel =>
     go_light;obtain⟨x1,x2,x3,x4,x5,x6⟩:=HX.out;refine⟨i,x+p,acc++[(i,q)],by omega,rfl,by go_num,by go_num,x2,?_,x1,x3,R.1⟩
     rw[Qlt];exact r1
    case measure=>go_light;omega
   ·have xJ : ¬(p:Int)<=(d:Int):=by omega
    have hu:=QjD (h:=i) (lo:=x) (hi:=n) (by omega)
    rw[hu] at xA;have HX:Hid (acc++dnL i x n=dnL 41 0 n∧x<=n∧acc.length+i<=41∧Below w.heap.size w wr):=⟨xA,hx,by omega,hb⟩
    clear hx xA xC hb hn hm hm0 hp hd hu xH xD xF xG
    go_wp2_with (go_at_call 368;(refine(xE _).mono ?_);rintro e w' ⟨rfl,rfl⟩)
    go_roundg i
    case rel=>go_light;obtain⟨x1,x2,x3,x4⟩:=HX.out;exact⟨i,x,acc,by omega,rfl,by go_num,rfl,x2,xB,x1,x3,x4⟩
    case measure=>go_light;omega
theorem Qfi{lo hi H K:Nat}(h:(K+1)*pw H<=lo∨hi<=K*pw H):tin lo hi H K=[]:=by
 have hp:=QB H;have e:(K+1)*pw H=K*pw H+pw H:=by rw[LL,LV]
 cases H with
 | zero=>rw[tin,Le (by omega)]
 | succ H=>rw[tin,Le (by omega),Lk h]
theorem QcZ{lo hi H K:Nat}(h:lo<=K*pw H∧(K+1)*pw H<=hi):(tin lo hi H K).length=1:=by
 cases H with
 | zero=>rw[tin,Lk h];rfl
 | succ H=>rw[tin,Lk h];rfl
theorem Qgw(lo hi:Nat) : ∀(H K:Nat) (w:World),H<=40->(K+1)*pw H<=2^40 ->
  Calls prog 367 #[.int .i64 (H:Int),.int .u64 (K:Int),.int .u64 (lo:Int),.int .u64 (hi:Int)] w fun e w'=>e = .returned (.int .u64 ((tin lo hi H K).length:Nat))∧w'=w:=by
 intro H
 induction H with
 | zero =>
  intro K w hH hK;have xA:=fun W=>US W 0 (by omega) 1 rfl
  have e0:pw 0=1:=rfl;rw[e0] at hK;have ea:IntKind.u64.wrap (K:Int)=(K:Int):=by rw[IntKind.wrap_u64];omega
  have eb:IntKind.u64.wrap ((K:Int)+1)=(K:Int)+1:=by rw[IntKind.wrap_u64];omega
  by_cases h1:K+1<=lo∨hi<=K
  ·rw[Qfi (by rw[e0];omega)]
   by_cases h2:K+1<=lo
   ·have xC:(K:Int)+1<=(lo:Int):=by omega
    clear h1 hK hH
    go_enter func367,ntmps367
    go_wp2_with (go_at_call 368;(refine(xA _).mono ?_);rintro e w' ⟨rfl,rfl⟩)
    go_ret
    exact⟨rfl,rfl⟩
   ·have xC : ¬(K:Int)+1<=(lo:Int):=by omega
    have xG:(hi:Int)<=(K:Int):=by omega
    clear h1 hK hH
    go_enter func367,ntmps367
    go_wp2_with (go_at_call 368;(refine(xA _).mono ?_);rintro e w' ⟨rfl,rfl⟩)
    go_ret
    exact⟨rfl,rfl⟩
  ·rw[QcZ (by rw[e0];omega)]
   have xC : ¬(K:Int)+1<=(lo:Int):=by omega
   have xG : ¬(hi:Int)<=(K:Int):=by omega
   have xD:(lo:Int)<=(K:Int):=by omega
   have xH:(K:Int)+1<=(hi:Int):=by omega
   clear h1 hK hH
   go_enter func367,ntmps367
   go_wp2_with (go_at_call 368;(refine(xA _).mono ?_);rintro e w' ⟨rfl,rfl⟩)
   go_ret
   exact⟨rfl,rfl⟩
 | succ H ih =>
  intro K w hH hK;obtain⟨p,hp⟩:=Ze (pw (H+1));have xA:=fun W=>US W (H+1) hH p hp
  have g2:=UN H K;have g3:=U3 H K;have g1:=Y4 H K;have g4:=Oz H K;have xF:=QB H;have I1:=fun w'=>ih (2*K) w' (by omega) (by rw[g2];omega)
  have I2:=fun w'=>ih (2*K+1) w' (by omega) (by rw[g3];omega)
  obtain⟨a,ha⟩:=Ze (K*pw (H+1));have hb:(K+1)*pw (H+1)=a+p:=by rw[LL,LV,ha,hp]
  have xE:K<=a:=by rw[<-ha];exact NI _ (QB _)
  have l1:=Qht lo hi H (2*K);have l2:=Qht lo hi H (2*K+1);have xB:pw H<=2^40:=by omega
  rw[hb] at hK;have ea:IntKind.u64.wrap ((K:Int)*(p:Int))=(a:Int):=by rw[show(K:Int)*(p:Int)=(a:Int) by rw[<-ha,hp,Ir],IntKind.wrap_u64];omega
  have eb:IntKind.u64.wrap ((a:Int)+(p:Int))=(a:Int)+(p:Int):=by rw[IntKind.wrap_u64];omega
  by_cases h1:a+p<=lo∨hi<=a
  ·rw[Qfi (by rw[hb,ha];omega)]
   by_cases h2:a+p<=lo
   ·have xC:(a:Int)+(p:Int)<=(lo:Int):=by omega
    clear h1 hK hH ih I1 I2 g1 g2 g3 g4 xF ha hb xE l1 l2 hp xB
    go_enter func367,ntmps367
    go_wp2_with (go_at_call 368;(refine(xA _).mono ?_);rintro e w' ⟨rfl,rfl⟩)
    go_ret
    exact⟨rfl,rfl⟩
   ·have xC : ¬(a:Int)+(p:Int)<=(lo:Int):=by omega
    have xG:(hi:Int)<=(a:Int):=by omega
    clear h1 hK hH ih I1 I2 g1 g2 g3 g4 xF ha hb xE l1 l2 hp xB
    go_enter func367,ntmps367
    go_wp2_with (go_at_call 368;(refine(xA _).mono ?_);rintro e w' ⟨rfl,rfl⟩)
    go_ret
    exact⟨rfl,rfl⟩
  ·have xC : ¬(a:Int)+(p:Int)<=(lo:Int):=by omega
   have xG : ¬(hi:Int)<=(a:Int):=by omega
   by_cases h4:lo<=a∧a+p<=hi
   ·rw[QcZ (by rw[hb,ha];exact h4)]
    have xD:(lo:Int)<=(a:Int):=by omega
    have xH:(a:Int)+(p:Int)<=(hi:Int):=by omega
    clear h1 hK hH ih I1 I2 g1 g2 g3 g4 xF ha hb xE l1 l2 hp xB h4
    go_enter func367,ntmps367
    go_wp2_with (go_at_call 368;(refine(xA _).mono ?_);rintro e w' ⟨rfl,rfl⟩)
    go_ret
    exact⟨rfl,rfl⟩
   ·have ht:(tin lo hi (H+1) K).length=(tin lo hi H (2*K)).length+(tin lo hi H (2*K+1)).length:=by
     rw[tin,Le (by rw[hb,ha];exact h4),Le (by rw[hb,ha];exact h1),Lc]
    rw[ht];generalize (tin lo hi H (2*K)).length=x at *;generalize (tin lo hi H (2*K+1)).length=y at *;have e1:IntKind.u64.wrap (2*(K:Int))=((2*K:Nat):Int):=by rw[IntKind.wrap_u64];omega
    have e2:IntKind.u64.wrap (((2*K:Nat):Int)+1)=((2*K+1:Nat):Int):=by rw[IntKind.wrap_u64];omega
    have e3:((H+1:Nat):Int) - 1=(H:Int):=by omega
    have e4:IntKind.u64.wrap ((x:Int)+(y:Int))=((x+y:Nat):Int):=by rw[IntKind.wrap_u64];omega
    have xI:(H:Int)<=40:=by omega
    have xD : ¬(lo:Int)<=(a:Int) ∨ ¬(a:Int)+(p:Int)<=(hi:Int):=by omega
    clear h1 hK hH ih g1 g2 g3 g4 xF ha hb xE l1 l2 hp xB h4 ht;generalize 2*K=k2 at *;generalize k2+1=k3 at *;generalize x+y=z at *
    rcases xD with xD|xD
    ·go_enter func367,ntmps367
     go_upto_region 7 with (go_at_call 368;(refine(xA _).mono ?_);rintro e w' ⟨rfl,rfl⟩)
     go_wp2_with (first
      | (go_at_call 367;with_reducible refine(I1 _).mono ?_;rintro e w' ⟨rfl,rfl⟩)
      | (go_at_call 367;with_reducible refine(I2 _).mono ?_;rintro e w' ⟨rfl,rfl⟩))
     all_goals go_ret
     all_goals exact⟨rfl,rfl⟩
    ·go_enter func367,ntmps367
     go_upto_region 7 with (go_at_call 368;(refine(xA _).mono ?_);rintro e w' ⟨rfl,rfl⟩)
     go_wp2_with (first
      | (go_at_call 367;with_reducible refine(I1 _).mono ?_;rintro e w' ⟨rfl,rfl⟩)
      | (go_at_call 367;with_reducible refine(I2 _).mono ?_;rintro e w' ⟨rfl,rfl⟩))
     all_goals go_ret
     all_goals exact⟨rfl,rfl⟩
end Cv
end Go.Proofs.YtoblgjledefdbaaGreatDoor
