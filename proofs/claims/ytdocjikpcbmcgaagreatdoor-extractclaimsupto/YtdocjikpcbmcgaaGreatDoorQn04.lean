/- Own work. -/
import Derived.Lib.AppendZeros
import Derived.Test.YtdocjikpcbmcgaaGreatDoorQn03
set_option maxRecDepth 100000
set_option maxHeartbeats 4000000
namespace Go.Proofs.YtdocjikpcbmcgaaGreatDoor
open Go.RowKit
attribute [local go_sem ↓] Go.wp_at_zero Go.wp_at_succ
open Go.Proofs.Tryz
namespace Cv
open Pl
theorem QaN(h:Nat)(w:World)(hh:h<64):Calls prog 182 #[.int .i64 (h:Int)] w fun e w'=>e = .returned (.int .u64 (pw h:Nat))∧w'=w:=(Qb2 h w hh).mono fun _ _ r=>⟨r.1,r.2.symm⟩
theorem bit1(m:Nat)(hm:m<18446744073709551616):(bits BinOp.and IntKind.u64 (m:Int) 1 == 1)=decide (m % 2=1):=by
 have:=bits_and_u64_nat m 1 hm (by decide)
 rw[show(1:Int)=((1:Nat):Int) from rfl,this,Wd]
 by_cases h:m % 2=1
 ·simp[h]
 ·have:m % 2=0:=by omega
  simp[this]
theorem JJ(w:World)(o:Obj):(w.alloc o).heap[w.heap.size]? = some o:=by
 show(w.heap.push o)[w.heap.size]? = _
 simp
structure Ev(k B0 c:Nat)(I:(Nat->Prop)->List (Nat×Nat)->World->Prop)(X:Nat->Prop)(w0:World)(acc:List (Nat×Nat))(lo:Nat)(wr:World):Prop where
 inv:I (fun x=>X x∨x=c∨x=c+1) acc wr
 lt : ∀x,(X x∨x=c∨x=c+1)->x<wr.heap.size
 c0:wr.heap[c]? = some (.cells #[.int .u64 (lo:Int)] 28 (0,0))
 c1:wr.heap[c+1]? = some (.cells #[gv k B0] 198 (0,0))
 below:Below B0 w0 wr
 keep : ∀x,X x->x≠c∧x≠c+1∧wr.heap[x]? = w0.heap[x]?
 bc:B0<c
theorem Ev.drewN{k B0 c M:Nat}{I:(Nat->Prop)->List (Nat×Nat)->World->Prop}{X:Nat->Prop}{w0 wr:World}{acc:List (Nat×Nat)}{lo:Nat}(G:Give k B0 M I)(h:Ev k B0 c I X w0 acc lo wr)(n:Nat):Ev k B0 c I X w0 acc lo (wr.drewN n) :=
 ⟨G.stay _ _ _ wr _ h.inv (fun _ _ _=>rfl) (fun _ hx => .inl hx),h.lt,h.c0,h.c1,Qd h.below n,h.keep,h.bc⟩
theorem Ev.take{k B0 c M:Nat}(hk:k=162∨k=160∨k=183){I:(Nat->Prop)->List (Nat×Nat)->World->Prop}{X:Nat->Prop}{w0 wr:World}{acc:List (Nat×Nat)}{lo:Nat}(G:Give k B0 M I)(h:Ev k B0 c I X w0 acc lo wr)(hl:acc.length<M)(j:Nat)(hj:j<41)(hlo:lo<=2^40) :
  Calls prog 181 #[.int .i64 (j:Int),.pointer (some ⟨c+1,0,none⟩),.pointer (some ⟨c,0,none⟩)] wr fun e w'=>e = .returned (.tuple #[])∧Ev k B0 c I X w0 (acc++[(j,lo / pw j)]) (lo+pw j) w':=by
 refine(Qac hk G c _ acc j lo wr h.inv h.lt hl (.inr (.inl rfl)) (.inr (.inr rfl)) h.bc h.c0 h.c1 hj hlo).mono ?_
 rintro e w' ⟨rfl,r1,r2,r3,r4⟩;refine⟨rfl,r1,fun x hx=>L5 (h.lt x hx) r2.size,r3,(r4 (c+1) (.inr (.inr rfl)) (by omega)).trans h.c1,h.below.trans r2,fun x hx => ?_,h.bc⟩
 obtain⟨a1,a2,a3⟩:=h.keep x hx;exact⟨a1,a2,(r4 x (.inl hx) a1).trans a3⟩
theorem Qjk{k B0 M:Nat}{I:(Nat->Prop)->List (Nat×Nat)->World->Prop}{X:Nat->Prop}{w:World}{acc:List (Nat×Nat)}(G:Give k B0 M I)(lo:Nat)(hI:I X acc w)(hX : ∀x,X x->x<w.heap.size) :
  Ev k B0 w.heap.size I X w acc lo ((w.alloc (.cells #[.int .u64 (lo:Int)] 28)).alloc (.cells #[gv k B0] 198)):=by
 have xA:=G.lt X acc w hI;have hh : ∀b,b<w.heap.size->((w.alloc (.cells #[.int .u64 (lo:Int)] 28)).alloc (.cells #[gv k B0] 198)).heap[b]? = w.heap[b]? := fun b hb=>by
  rw[Q0 _ (by simp;omega),Q0 _ hb]
 refine⟨G.stay X _ acc w _ hI (fun b hb _=>hh b hb) (fun x hx => ?_),fun x hx => ?_,?_,?_,?_,fun x hx => ?_,xA⟩
 ·rcases hx with hx|hx|hx
  ·exact .inl hx
  ·exact .inr (by omega)
  ·exact .inr (by omega)
 ·have : ∀x,X x->x<w.heap.size:=hX
  rcases hx with hx|hx|hx
  ·have:=hX x hx;simp;omega
  ·simp;omega
  ·simp;omega
 ·rw[Q0 _ (by simp)];exact JJ _ _
 ·have:=JJ (w.alloc (.cells #[.int .u64 (lo:Int)] 28)) (.cells #[gv k B0] 198);rw[LA] at this;exact this
 ·exact((Lb B0 w).alloc (by omega) _).alloc (by simp;omega) _
 ·have:=hX x hx;exact⟨by omega,by omega,hh x this⟩
theorem QnR{f h lo hi:Nat}(h1:pw h<=hi - lo)(h2:lo / pw h % 2=1):upL (f+1) h lo hi=(h,lo / pw h)::upL f (h+1) (lo+pw h) hi:=by rw[upL,Lm h1,Lm h2]
theorem Qmx{f h lo hi:Nat}(h1:pw h<=hi - lo)(h2 : ¬lo / pw h % 2=1):upL (f+1) h lo hi=upL f (h+1) lo hi:=by rw[upL,Lm h1,Le h2]
theorem QnP{f h lo hi:Nat}(h1 : ¬pw h<=hi - lo):upL (f+1) h lo hi=dnL (h+1) lo hi:=by rw[upL,Le h1]
theorem QbJ{h lo hi:Nat}(h1:pw h<=hi - lo):dnL (h+1) lo hi=(h,lo / pw h)::dnL h (lo+pw h) hi:=by rw[dnL,Lm h1]
theorem QeK{h lo hi:Nat}(h1 : ¬pw h<=hi - lo):dnL (h+1) lo hi=dnL h lo hi:=by rw[dnL,Le h1]
theorem Qlk{k B0 c M:Nat}{I:(Nat->Prop)->List (Nat×Nat)->World->Prop}{X:Nat->Prop}{w0 wr:World}{acc:List (Nat×Nat)}{lo:Nat}(G:Give k B0 M I)(h:Ev k B0 c I X w0 acc lo wr):I X acc wr∧Below B0 w0 wr ∧ ∀x,X x->wr.heap[x]? = w0.heap[x]? :=
 ⟨G.stay _ X acc wr wr h.inv (fun _ _ _=>rfl) (fun _ hx => .inl (.inl hx)),h.below,fun x hx=>(h.keep x hx).2.2⟩
theorem QbK{k B0 M:Nat}(hk:k=162∨k=160∨k=183){I:(Nat->Prop)->List (Nat×Nat)->World->Prop}(G:Give k B0 M I)(X:Nat->Prop)(acc:List (Nat×Nat))(lo hi:Nat)(w:World)
  (hI:I X acc w) (hX : ∀x,X x->x<w.heap.size) (hl:acc.length+1000<M) (h1:lo<=hi) (h2:hi<=2^40) :
  Calls prog 161 #[.int .u64 (lo:Int),.int .u64 (hi:Int),gv k B0] w fun e w'=>e = .returned (.tuple #[])∧I X (acc++cov lo hi) w'∧Below B0 w w' ∧ ∀x,X x->w'.heap[x]? = w.heap[x]? := by
 have HS:Hid (Ev k B0 w.heap.size I X w acc lo ((w.alloc (.cells #[.int .u64 (lo:Int)] 28)).alloc (.cells #[gv k B0] 198))∧lo<=hi∧hi<=2^40∧acc.length+1000<M):=⟨Qjk G lo hI hX,h1,h2,hl⟩;clear hI hX hl h1 h2
 go_enter func161,ntmps161;go_wp2
 go_loopg [7] 42 (fun g h wr => ∃(j lo':Nat) (acc':List (Nat×Nat)),j<=41∧g=42 - j∧h = .int .i64 (j:Int)∧Ev k B0 w.heap.size I X w acc' lo' wr∧acc'++upL (42 - j) j lo' hi=acc++cov lo hi∧lo'<=hi∧acc'.length<=acc.length+j)
 case atStart=>go_light;exact⟨0,lo,acc,by decide,rfl,rfl,HS.out.1,rfl,HS.out.2.1,Ld _⟩
 case round =>
  obtain⟨j,lo',acc',hj,rfl,rfl,HE,xB,xI,xG⟩:=hrel;obtain⟨_,xP,xF,hl⟩:=HS.out;have xU:(0:Int)<=(j:Int):=Lf _;have xV:(j:Int)<64:=by omega
  have xW : ¬(j:Int)<0:=by omega
  have k0:=cell_of_one HE.c0;have HL:=fun w'=>QaN j w' (by omega)
  obtain⟨p,hp⟩:=Ze (pw j);simp only[hp] at HL;obtain⟨d,hd⟩:=Ze (hi - lo');have ed:IntKind.u64.wrap ((hi:Int) - (lo':Int))=(d:Int):=by rw[IntKind.wrap_u64];omega
  by_cases hfit:p<=d
  ·have xK:(p:Int)<=(d:Int):=by omega
   have xH:j<=40:=pw40 (by rw[hp];omega)
   obtain⟨q,hq⟩:=Ze (lo' / pw j);have eq:(lo':Int) / 2^j=(q:Int):=by rw[<-hq];simp[pw]
   have xJ:=HE.drewN G
   by_cases hodd:q % 2=1
   ·have xN:(bits BinOp.and IntKind.u64 (q:Int) 1 == 1)=true:=by rw[bit1 q (by rw[<-hq];exact N7 (Nt _ _) (by omega))];exact Ln hodd
    have HT:=fun n=>(xJ n).take hk G (by omega) j (by omega) (by omega)
    have hu:upL (42 - j) j lo' hi=(j,lo' / pw j)::upL (42 - (j+1)) (j+1) (lo'+pw j) hi:=by
     rw[show 42 - j=(42 - (j+1))+1 by omega];exact QnR (by omega) (by rw[hq];exact hodd)
    have HX:Hid (acc'++[(j,lo' / pw j)]++upL (42 - (j+1)) (j+1) (lo'+pw j) hi=acc++cov lo hi∧lo'+pw j<=hi∧(acc'++[(j,lo' / pw j)]).length<=acc.length+(j+1)∧j+1<=41):=by
     refine⟨?_,by omega,by simp;omega,by omega⟩
     rw[LH,<-xB,hu];rfl
    have HN:Hid (hi - lo'=d∧pw j=p):=⟨hd,hp⟩;clear xB xI xG hd hp hq hodd hu xP xF hl HE xJ hfit hj xH;go_wp2
    go_quiet ((go_at_call 182;refine Calls.quiet_of_same (HL _)))
    go_wp2_with (go_at_call 181;with_reducible refine(HT _).mono ?_;rintro e w1 ⟨rfl,xM⟩)
    go_roundg (42 - (j+1))
    case rel=>go_light;obtain⟨x1,x2,x3,x4⟩:=HX.out;exact⟨j+1,_,_,x4,rfl,by go_num,xM,x1,x2,x3⟩
    case measure=>go_light;have:=HX.out.2.2.2;omega
   ·have xN:(bits BinOp.and IntKind.u64 (q:Int) 1 == 1)=false:=by rw[bit1 q (by rw[<-hq];exact N7 (Nt _ _) (by omega))];exact Lj hodd
    have hu:upL (42 - j) j lo' hi=upL (42 - (j+1)) (j+1) lo' hi:=by
     rw[show 42 - j=(42 - (j+1))+1 by omega];exact Qmx (by omega) (by rw[hq];exact hodd)
    have HX:Hid (acc'++upL (42 - (j+1)) (j+1) lo' hi=acc++cov lo hi∧lo'<=hi∧acc'.length<=acc.length+(j+1)∧j+1<=41 ∧ ∀n,Ev k B0 w.heap.size I X w acc' lo' (wr.drewN n)):=by
     refine⟨?_,xI,by omega,by omega,xJ⟩
     rw[<-xB,hu]
    clear xB xI xG hd hp hq hodd hu xP xF hl HE xJ hfit hj xH;go_wp2
    go_quiet ((go_at_call 182;refine Calls.quiet_of_same (HL _)))
    go_wp2
    go_roundg (42 - (j+1))
    case rel=>go_light;obtain⟨x1,x2,x3,x4,x5⟩:=HX.out;exact⟨j+1,_,_,x4,rfl,by go_num,x5 _,x1,x2,x3⟩
    case measure=>go_light;have:=HX.out.2.2.2.1;omega
  ·have xK : ¬(p:Int)<=(d:Int):=by omega
   have hu:upL (42 - j) j lo' hi=dnL (j+1) lo' hi:=by
    rw[show 42 - j=(41 - j)+1 by omega];exact QnP (by omega)
   rw[hu] at xB;have HX:Hid (acc'++dnL (j+1) lo' hi=acc++cov lo hi∧lo'<=hi∧acc'.length<=acc.length+41∧j<=41∧hi<=2^40∧acc.length+1000<M ∧ ∀n,Ev k B0 w.heap.size I X w acc' lo' (wr.drewN n)):=⟨xB,xI,by omega,hj,xF,hl,HE.drewN G⟩
   clear xB xI xG hd hp hu xP xF hl HE hj;go_wp2
   go_quiet ((go_at_call 182;refine Calls.quiet_of_same (HL _)))
   go_wp2;clear HL k0 ed xK hfit
   go_loopg [7] 42 (fun g h wr2 => ∃(m lo2:Nat) (acc2:List (Nat×Nat)),m<=42∧m<=g∧h = .int .i64 ((m:Int) - 1)∧Ev k B0 w.heap.size I X w acc2 lo2 wr2∧acc2++dnL m lo2 hi=acc++cov lo hi∧lo2<=hi∧acc2.length+m<=acc.length+100)
   case atStart=>go_light;obtain⟨x1,x2,x3,x4,x5,x6,x7⟩:=HX.out;exact⟨j+1,lo',acc',by omega,by omega,by congr 1;omega,x7 _,x1,x2,by omega⟩
   case round =>
    obtain⟨m,lo2,acc2,hm,xX,rfl,xE,xA,xD,xC⟩:=hrel;obtain⟨_,_,_,_,xF,hl,_⟩:=HX.out
    by_cases hm0:m=0
    ·subst hm0;have ht : ¬(0:Int)<=((0:Nat):Int) - 1:=by omega
     have HF:Hid (I X (acc++cov lo hi) wr∧Below B0 w wr ∧ ∀x,X x->wr.heap[x]? = w.heap[x]?):=by
      have e:acc2=acc++cov lo hi:=by rw[<-xA];simp[dnL]
      rw[<-e];exact Qlk G xE
     clear xA xE xD xC hm;go_wp2
     go_end0
     exact⟨rfl,HF.out⟩
    ·obtain⟨i,rfl⟩ : ∃i,m=i+1:=⟨m - 1,by omega⟩
     have ei:(((i+1:Nat):Int) - 1)=(i:Int):=by omega
     rw[ei];have xR:(0:Int)<=(i:Int):=Lf _;have xS:(i:Int)<64:=by omega
     have xT : ¬(i:Int)<0:=by omega
     have k0:=cell_of_one xE.c0;have HL:=fun w'=>QaN i w' (by omega)
     obtain⟨p2,xL⟩:=Ze (pw i);simp only[xL] at HL;obtain⟨d2,xQ⟩:=Ze (hi - lo2);have ed:IntKind.u64.wrap ((hi:Int) - (lo2:Int))=(d2:Int):=by rw[IntKind.wrap_u64];omega
     by_cases hfit:p2<=d2
     ·have xK:(p2:Int)<=(d2:Int):=by omega
      have xO:i<=40:=pw40 (by rw[xL];omega)
      have HT:=fun n=>(xE.drewN G n).take hk G (by omega) i (by omega) (by omega)
      have hu:=QbJ (h:=i) (lo:=lo2) (hi:=hi) (by omega)
      have HY:Hid (acc2++[(i,lo2 / pw i)]++dnL i (lo2+pw i) hi=acc++cov lo hi∧lo2+pw i<=hi∧(acc2++[(i,lo2 / pw i)]).length+i<=acc.length+100∧i<=42):=by
       refine⟨?_,by omega,by simp;omega,by omega⟩
       rw[LH,<-xA,hu];rfl
      clear xA xD xC xQ xL hu xF hl xE hfit hm xO hm0;go_wp2
      go_quiet ((go_at_call 182;refine Calls.quiet_of_same (HL _)))
      go_wp2_with (go_at_call 181;with_reducible refine(HT _).mono ?_;rintro e w1 ⟨rfl,xM⟩)
      go_roundg i
      case rel=>go_light;obtain⟨x1,x2,x3,x4⟩:=HY.out;exact⟨i,_,_,x4,Ld _,by go_num,xM,x1,x2,x3⟩
      case measure=>go_light;omega
     ·have xK : ¬(p2:Int)<=(d2:Int):=by omega
      have hu:=QeK (h:=i) (lo:=lo2) (hi:=hi) (by omega)
      rw[hu] at xA;have HY:Hid (acc2++dnL i lo2 hi=acc++cov lo hi∧lo2<=hi∧acc2.length+i<=acc.length+100∧i<=42 ∧ ∀n,Ev k B0 w.heap.size I X w acc2 lo2 (wr.drewN n)):=⟨xA,xD,by omega,by omega,xE.drewN G⟩
      clear xA xD xC xQ xL hu xF hl xE hm hm0;go_wp2
      go_quiet ((go_at_call 182;refine Calls.quiet_of_same (HL _)))
      go_wp2
      go_roundg i
      case rel=>go_light;obtain⟨x1,x2,x3,x4,x5⟩:=HY.out;exact⟨i,_,_,x4,Ld _,by go_num,x5 _,x1,x2,x3⟩
      case measure=>go_light;omega
def UV(lo hi n:Nat):Nat:=if 2^40<n then 30 else if n<hi then 31 else if hi<lo then 41 else 0
def covR(lo hi n:Nat):List (Nat×Nat):=if UV lo hi n=0 then cov lo hi else []
theorem Qjx(w:World):IA w.heap.size (fun _=>False) [] (w.alloc (.cells #[.slice none 0 0] 77)) :=
 ⟨⟨.slice none 0 0,JJ _ _,LT _ _ _ _,fun _ _ h=>h⟩,fun h=>h⟩
theorem Qib(lo hi n e:Nat)(w:World)(he:UV lo hi n=e)(h0:e≠0) :
  Calls prog 110 #[.int .u64 (lo:Int),.int .u64 (hi:Int),.int .u64 (n:Int)] w fun x w' => ∃v,x = .returned (.tuple #[v,.int .i64 (e:Int)])∧Qx w' w.heap.size v []∧Zb w w':=by
 unfold UV at he
 by_cases h1:2^40<n
 ·rw[Lm h1] at he;subst he;have ht:decide ((1099511627776:Int)<(n:Int))=true:=Ln (by omega)
  clear h0 h1
  go_enter func110,ntmps110;go_wp2
  go_ret2
  exact⟨_,rfl,LT _ _ _ _,Lb _ _⟩
 ·rw[Le h1] at he;have ht:decide ((1099511627776:Int)<(n:Int))=false:=Lj (by omega)
  by_cases h2:n<hi
  ·rw[Lm h2] at he;subst he;have xA:(n:Int)<(hi:Int):=by omega
   clear h0 h1
   go_enter func110,ntmps110;go_wp2
   go_ret2
   exact⟨_,rfl,LT _ _ _ _,Lb _ _⟩
  ·rw[Le h2] at he;have xA : ¬(n:Int)<(hi:Int):=by omega
   by_cases h3:hi<lo
   ·rw[Lm h3] at he;subst he;have xB:(hi:Int)<(lo:Int):=by omega
    clear h0 h1
    go_enter func110,ntmps110;go_wp2
    go_ret2
    exact⟨_,rfl,LT _ _ _ _,Lb _ _⟩
   ·rw[Le h3] at he;exact absurd he.symm h0
theorem Qfa(lo hi n:Nat)(w:World)(hn:n<=2^40)(hh:hi<=n)(hl:lo<=hi) :
  Calls prog 110 #[.int .u64 (lo:Int),.int .u64 (hi:Int),.int .u64 (n:Int)] w fun x w' => ∃v,x = .returned (.tuple #[v,.int .i64 0])∧Qx w' w.heap.size v (zl (cov lo hi))∧Zb w w':=by
 have ht:decide ((1099511627776:Int)<(n:Int))=false:=Lj (by omega)
 have xC : ¬(n:Int)<(hi:Int):=by omega
 have xD : ¬(hi:Int)<(lo:Int):=by omega
 have xA : ¬n<hi:=by omega
 have xB : ¬hi<lo:=by omega
 have HE:=QbK (.inl rfl) (QfU w.heap.size) (fun _=>False) [] lo hi (w.alloc (.cells #[.slice none 0 0] 77)) (Qjx w) (fun _ h=>h.elim) (by decide) hl (by omega)
 clear hn hh hl
 go_enter func110,ntmps110
 go_upto_region 9 with ((go_at_call 161;with_reducible refine HE.mono ?_;rintro e w1 ⟨rfl,hI,hb,_⟩))
 obtain⟨⟨v,h1,h2,_⟩,_⟩:=hI;have c0:=cell_of_one h1;obtain⟨ao,m,c,rfl⟩:=Qj h2;have HF:Hid (Qx w1 w.heap.size (.slice ao m c) (zl (cov lo hi))∧Zb w w1):=⟨by
  have:=h2.mono (base':=w.heap.size) (by omega)
  simpa using this,((Lb _ w).alloc (Ld _) _).trans hb⟩
 clear h1 h2 hb HE;go_wp2
 go_ret2
 exact⟨_,rfl,HF.out.1,HF.out.2⟩
theorem Qc7(lo hi n:Nat)(w:World) :
  Calls prog 110 #[.int .u64 (lo:Int),.int .u64 (hi:Int),.int .u64 (n:Int)] w fun x w' => ∃v,x = .returned (.tuple #[v,.int .i64 (UV lo hi n:Nat)])∧Qx w' w.heap.size v (zl (covR lo hi n))∧Zb w w':=by
 by_cases h:UV lo hi n=0
 ·have h':=h;unfold UV at h'
  split at h'
  ·cases h'
  ·split at h'
   ·cases h'
   ·split at h'
    ·cases h'
    ·rw[h,covR,Lm h];exact Qfa lo hi n w (by omega) (by omega) (by omega)
 ·rw[covR,Le h];exact Qib lo hi n _ w rfl h
theorem YH(n:Nat)(w:World) :
  Calls prog 75 #[.int .u64 (n:Int)] w fun x w' => ∃v,x = .returned (.tuple #[v,.int .i64 (UV 0 n n:Nat)])∧Qx w' w.heap.size v (zl (covR 0 n n))∧Zb w w':=by
 have HR:Calls prog 110 #[.int .u64 0,.int .u64 (n:Int),.int .u64 (n:Int)] w fun x w' => ∃v,x = .returned (.tuple #[v,.int .i64 (UV 0 n n:Nat)])∧Qx w' w.heap.size v (zl (covR 0 n n))∧Zb w w':=Qc7 0 n n w
 generalize UV 0 n n=e at *;generalize covR 0 n n=L at *
 go_enter func75,ntmps75
 go_wp2_with (go_at_call 110;with_reducible refine HR.mono ?_;rintro x w1 ⟨v,rfl,h1,h2⟩)
 go_ret2
 exact⟨_,rfl,h1,h2⟩
end Cv
section
open Pl (Ub)
theorem Qdu{k:Int}(h1:1<=k)(h2:k<=32):(clk k:Int)=k:=by
 unfold clk;rw[Le (by omega),Le (by omega)]
 omega
end
def Fitb(h:Int)(k:Nat):Prop:=(-9223372036854775808<=h∧h<=9223372036854775807)∧k<18446744073709551616
section
open Pl (Ub pw)
theorem Qny(c:Nat)(L M:LB)(h k:Nat)(hk:(k+1)*2^h<=L.length):nd c (L++M) h k=nd c L h k:=by
 refine OQ h k k fun t ht => ?_
 rw[La,La,LL];rw[LR,LX] at hk;omega
theorem Qnz(c:Nat)(L:LB)(n h k:Nat)(hk:(k+1)*2^h<=n)(hn:n<=L.length):nd c (L.take n) h k=nd c L h k:=by
 have:=Qny c (L.take n) (L.drop n) h k (by rw[Lq];omega)
 rw[Nk] at this;exact this.symm
theorem QbI(c:Nat)(L:LB) : ∀(h lo:Nat),lo=L.length / 2^h*2^h->(Cv.dnL h lo L.length).map (fun b=>nd c L b.1 b.2)=pks c L h ∧ ∀b∈Cv.dnL h lo L.length,(b.2+1)*2^b.1<=L.length
 | 0,lo,_=>⟨rfl,fun b hb=>by cases hb⟩
 | h+1,lo,hlo=>by
  have hp:=LQ h;have e2:2^(h+1)=2*2^h:=by rw[LM,Nb]
  have d1:=I3 L.length (2^h);have d2:=I3 (L.length / 2^h) 2;have d3:L.length / 2^(h+1)=L.length / 2^h / 2:=by rw[LM,Nh]
  have m1:=ID L.length hp;rw[d3,e2] at hlo;generalize hX:L.length / 2^h=X at *;have xA:lo=(2*(X / 2))*2^h:=by rw[hlo,Nb 2 (X / 2),L9]
  have e3:2^h*X=X*2^h:=Nb _ _;rw[Cv.dnL,show pw h=2^h from rfl]
  by_cases hb:X % 2=1
  ·have xB:X=2*(X / 2)+1:=by omega
   have e4:X*2^h=lo+2^h:=by rw[xA];conv=>lhs;rw[xB,LR,LX]
   have xC:2^h<=L.length - lo:=by omega
   have e5:lo / 2^h=2*(X / 2):=by rw[xA,NF _ hp]
   obtain⟨r1,r2⟩:=QbI c L h (lo+2^h) (by rw[hX,<-e4])
   rw[Lm xC,Qbe (by rw[hX];exact hb),List.map_cons,r1,e5,hX]
   refine⟨by rw[show X - 1=2*(X / 2) by omega],fun b hbm => ?_⟩
   rcases List.mem_cons.1 hbm with rfl|hbm
   ·show(2*(X / 2)+1)*2^h<=_
    rw[<-xB];omega
   ·exact r2 b hbm
  ·have xB:X=2*(X / 2):=by omega
   have e4:X*2^h=lo:=by rw[xA];conv=>lhs;rw[xB]
   have xC : ¬2^h<=L.length - lo:=by omega
   obtain⟨r1,r2⟩:=QbI c L h lo (by rw[hX,<-e4])
   rw[Le xC,OZ (by rw[hX];exact hb)]
   exact⟨r1,r2⟩
theorem Qaq(c:Nat)(L:LB)(n:Nat)(hn:n<=L.length)(h40:n<=2^40):(Cv.cov 0 n).map (fun b=>nd c L b.1 b.2)=pks c (L.take n) 41 ∧ ∀b∈Cv.cov 0 n,(b.2+1)*2^b.1<=n:=by
 have hl:(L.take n).length=n:=by rw[Lq];omega
 have hz:0=(L.take n).length / 2^41*2^41:=by rw[hl,Wk (by omega),Nat.zero_mul]
 obtain⟨r1,r2⟩:=QbI c (L.take n) 41 0 hz;rw[hl] at r1 r2;rw[Cv.QX n h40];refine⟨?_,r2⟩
 rw[<-r1];refine Iy fun b hb => ?_
 exact(Qnz c L n b.1 b.2 (r2 b hb) hn).symm
end
theorem QjH(w:World)(n:Nat)(hn:n<=8796093022208):(Instr.makeSlice 22 (.int .i64 0) (.int .i64 (n:Int))).run prog w = .ok (.slice (some ⟨w.heap.size,0,none⟩) 0 n) (w.alloc (.cells (madeCells #[.string ByteArray.empty] n) 9)):=by
 obtain⟨i0,hi,xA,xB,xC⟩:=info_parts Tryz.infoS;have hr:=run_make (P:=prog) w 22 9 i0 _ underlying22 hi xA .i64 .i64 0 n (by omega) (by omega) (by rw[xC];omega) (by omega)
 simp only[Int.toNat_natCast,xB,Nat.mul_one] at hr;exact hr
theorem Qe4(w:World)(n:Nat)(hn:n<=8796093022208):Qk (w.alloc (.cells (madeCells #[.string ByteArray.empty] n) 9)) w.heap.size (.slice (some ⟨w.heap.size,0,none⟩) 0 n) [] :=
 ⟨rfl,.inr ⟨w.heap.size,n,_,rfl,Ld _,Lu w _,Ll _,by unfold maxLen;omega,by rw[size_madeCells,Iw],rfl⟩⟩
structure RdB(w:World)(ao:OA)(g off n:Nat)(l:List (Int×Nat)):Prop where
 len:l.length=n
 addr:0<n->ao=some ⟨g,off,none⟩
 cell : ∀j,j<n->w.cell? ⟨g,off+j*2,none⟩=some (.int .i64 (l.getD j (0,0)).1)∧w.cell? ⟨g,off+j*2+1,none⟩=some (.int .u64 ((l.getD j (0,0)).2:Nat))
 fit : ∀b∈l,Fitb b.1 b.2
theorem RdB.below{w w':World}{ao:OA}{g off n:Nat}{l:List (Int×Nat)}(r:RdB w ao g off n l)(h:Zb w w'):RdB w' ao g off n l :=
 ⟨r.len,r.addr,fun j hj=>⟨(h.cell (p:=⟨g,off+j*2,none⟩) (Lh w _ (r.cell j hj).1)).trans (r.cell j hj).1,(h.cell (p:=⟨g,off+j*2+1,none⟩) (Lh w _ (r.cell j hj).2)).trans (r.cell j hj).2⟩,r.fit⟩
theorem Y4{w:World}{base:Nat}{v:Value}{l:List (Int×Nat)}(h:Cv.Qx w base v l)(hf : ∀b∈l,Fitb b.1 b.2) : ∃ao g n cap,v = .slice ao n cap∧RdB w ao g 0 n l∧n<=maxLen:=by
 have h0:=h;obtain⟨h1,h2⟩:=h
 rcases h2 with ⟨rfl,h2⟩|⟨g,cap,cur,rfl,hg,hh,hc1,hc2,hc3,hc4⟩
 ·exact⟨none,0,0,0,rfl,⟨h2,fun h=>absurd h (by omega),fun j hj=>absurd hj (by omega),hf⟩,Ll _⟩
 ·refine⟨some ⟨g,0,none⟩,g,l.length,cap,rfl,⟨rfl,fun _=>rfl,fun j hj => ?_,hf⟩,by omega⟩
  have xB:=h0.cells (g:=g) rfl;obtain⟨⟨a,b⟩,hq⟩ : ∃q,l[j]=q:=⟨_,rfl⟩;have xA:l[j]? = some (a,b):=by rw[Lc hj,hq]
  obtain⟨e1,e2⟩:=Cv.QfD l j a b xA;have f1:=xB _ _ e1;have f2:=xB _ _ e2;rw[Addr.add_mid,Lr,Nb] at f1 f2;rw[La,xA,Lr];exact⟨f1,f2⟩
theorem OW{w:World}{B B':Nat}{v:Value}{l:LB}(h:Qk w B v l)(hB:B'<=B):Qk w B' v l:=by
 obtain⟨h1,h2⟩:=h;refine⟨h1,?_⟩
 rcases h2 with h2|⟨g,cap,cur,hv,hg,h3⟩
 ·exact .inl h2
 ·exact .inr ⟨g,cap,cur,hv,by omega,h3⟩
structure Wy(n i:Nat)(A:List (Nat×Nat))(H:Nat)(B:List (Nat×Nat)):Prop where
 all:Cv.dnL 41 0 n=A++(H,i / 2^H)::B
 hH:H<=40
 left : ∀a∈A,(a.2+1)*2^a.1<=i
 right : ∀b∈B,i<b.2*2^b.1
theorem Qjc(n:Nat) : ∀h lo,2^h ∣ lo -> ∀b∈Cv.dnL h lo n,lo<=b.2*2^b.1
 | 0,lo,_,b,hb=>by cases hb
 | h+1,lo,hd,b,hb=>by
  have hp:=LQ h;have hd':2^h ∣ lo:=Nat.dvd_trans (Wq 2 (by omega)) hd
  rw[Cv.dnL,show Pl.pw h=2^h from rfl] at hb
  split at hb
  ·rcases List.mem_cons.1 hb with rfl|hb
   ·show lo<=lo / 2^h*2^h
    rw[Nat.div_mul_cancel hd'];exact Ld _
   ·have:=Qjc n h (lo+2^h) (Nat.dvd_add hd' (Nat.dvd_refl _)) b hb;omega
  ·exact Qjc n h lo hd' b hb
theorem QfN(n i:Nat)(hi:i<n) : ∀h lo,lo<=i->n - lo<2^h->2^h ∣ lo -> ∃A H B,Cv.dnL h lo n=A++(H,i / 2^H)::B∧H<h∧(∀a∈A,(a.2+1)*2^a.1<=i) ∧ ∀b∈B,i<b.2*2^b.1
 | 0,lo,h1,h2,_=>by rw[NC] at h2;omega
 | h+1,lo,h1,h2,hd=>by
  have hp:=LQ h;have hd':2^h ∣ lo:=Nat.dvd_trans (Wq 2 (by omega)) hd
  have hd2:2^h ∣ lo+2^h:=Nat.dvd_add hd' (Nat.dvd_refl _);rw[LM] at h2;rw[Cv.dnL,show Pl.pw h=2^h from rfl]
  by_cases hf:2^h<=n - lo
  ·rw[Lm hf]
   by_cases hm:i<lo+2^h
   ·refine⟨[],h,Cv.dnL h (lo+2^h) n,?_,by omega,(fun a ha=>by cases ha),fun b hb => ?_⟩
    ·have:i / 2^h=lo / 2^h:=by
      obtain⟨q,rfl⟩:=hd';rw[Wl _ hp];exact I6 (by rw[Nb];omega) (by rw[LR,Nb];omega)
     rw[this];rfl
    ·have:=Qjc n h _ hd2 b hb;omega
   ·obtain⟨A,H,B,e,hH,hl,hr⟩:=QfN n i hi h (lo+2^h) (by omega) (by omega) hd2
    refine⟨(h,lo / 2^h)::A,H,B,by rw[e];rfl,by omega,fun a ha => ?_,hr⟩
    rcases List.mem_cons.1 ha with rfl|ha
    ·show(lo / 2^h+1)*2^h<=i
     rw[LR,Nat.div_mul_cancel hd'];omega
    ·exact hl a ha
  ·rw[Le hf];obtain⟨A,H,B,e,hH,hl,hr⟩:=QfN n i hi h lo h1 (by omega) hd'
   exact⟨A,H,B,e,by omega,hl,hr⟩
theorem Qhn(n i:Nat)(hn:n<=2^40)(hi:i<n) : ∃A H B,Wy n i A H B:=by
 obtain⟨A,H,B,e,hH,hl,hr⟩:=QfN n i hi 41 0 (Ll _) (by omega) (Nat.dvd_zero _)
 exact⟨A,H,B,e,by omega,hl,hr⟩
section
variable {n i H:Nat} {A B:List (Nat×Nat)}
theorem Wy.len(h:Wy n i A H B):A.length+B.length<=40:=by
 have:=Cv.YS 41 0 n;rw[h.all,Lg,Lt] at this;omega
theorem Wy.no_left(h:Wy n i A H B){a:Nat×Nat}(ha:a∈A):a.2<i / 2^a.1:=by
 have:=h.left a ha;exact(IR (LQ _)).2 this
theorem Wy.no_right(h:Wy n i A H B){b:Nat×Nat}(hb:b∈B):i / 2^b.1<b.2:=by
 have:=h.right b hb;exact(Nat.div_lt_iff_lt_mul (LQ _)).2 this
end
theorem U4(n:Nat)(hn:n<=2^40) : ∀b∈Cv.dnL 41 0 n,(b.2+1)*2^b.1<=n:=by
 have:=(Qaq 1 (List.replicate n ByteArray.empty) n (by simp) hn).2
 rwa [Cv.QX n hn] at this
def sb(q:Nat):Nat:=if q % 2=1 then q - 1 else q+1
def bes(i:Nat)(H:Nat):List (Nat×Nat):=(List.range H).map fun h=>(h,sb (i / 2^h))
theorem Us(i H:Nat):(bes i H).length=H:=by simp[bes]
theorem Qew(i H:Nat):bes i (H+1)=bes i H++[(H,sb (i / 2^H))]:=by simp[bes,List.range_succ]
theorem J7(i h:Nat):i / 2^h / 2=i / 2^(h+1):=by rw[Nh,<-LM]
def wyB(i H:Nat)(A B:List (Nat×Nat)):List (Nat×Nat):=bes i H++(A++B)
theorem Of(i H:Nat)(A B:List (Nat×Nat)):(wyB i H A B).length=H+(A.length+B.length):=by simp[wyB,Us]
def stT(q:Nat)(d x:BA):BA:=if q % 2=1 then QH x d else QH d x
def rs(c:Nat):Nat->BA->LB->BA
 | _,d,[]=>d
 | q,d,x::r=>rs c (q / 2) (dg c (stT q d x)) r
theorem Qd8(c:Nat)(x:BA) : ∀(D:LB) (q:Nat) (d:BA),rs c q d (D++[x])=dg c (stT (q / 2^D.length) (rs c q d D) x)
 | [],q,d=>by simp[rs]
 | y::r,q,d=>by
  rw[Im,rs,Qd8 c x r,rs,Lt,LM,Nh,Nb 2]
theorem Qd9{c:Nat}(hc:c<=32) : ∀(D:LB) (q:Nat) (d:BA),d.size=c->(rs c q d D).size=c
 | [],_,_,h=>h
 | y::r,q,d,_=>by
  rw[rs];exact Qd9 hc r _ _ (Q6 hc _)
def pkP(c i:Nat)(a H:Nat)(D:LB)(x:BA):LB:=(D.drop H).take a++rs c i (dg c (Qh x)) (D.take H)::(D.drop H).drop a
def rtP(c n i a H:Nat)(D:LB)(x:BA):BA:=dg c (QI n (Qr c (pkP c i a H D x)))
section
open Cv (RdC Ap)
abbrev dn:Value := .slice none 0 0
abbrev cS(l:LB):List Value:=l.map Value.string
theorem Qm7(l:LB):(cS l).length=l.length*1:=by simp[cS]
theorem Qm6(l m:LB):cS (l++m)=cS l++cS m:=L8
theorem Qm8(l:LB) : ∀u∈cS l,u.oneCell'=true:=by
 intro u hu;obtain⟨y,_,rfl⟩:=List.mem_map.1 hu;rfl
theorem Qd0{w:World}{ao:OA}{b off len cap:Nat}{ss:LB}(h:RdS w ao b off len ss)(hn:ao=none->cap=0):RdC w (.slice ao len cap) len (cS ss):=by
 refine⟨ao,cap,rfl,fun e=>⟨?_,hn e⟩,fun ad ha j c hj => ?_⟩
 ·apply Classical.byContradiction
  intro h0;have:=h.ptr (by omega)
  rw[e] at this
  cases this
 ·have xA:j<len:=by have:=(List.getElem?_eq_some_iff.1 hj).1;rw[Lx,h.hl] at this;exact this
  have:=h.ptr (by omega)
  rw[ha] at this
  cases this;rw[Addr.add_mid];exact h.rng j c hj
theorem U2(w:World)(o:Obj):Zb w (w.drew.alloc o):=(Lb w.heap.size w).drew.alloc (by simp) o
theorem Q5{α:Type}(d:α)(l:List α)(j:Nat)(h:j<l.length):l.take (j+1)=l.take j++[l.getD j d]:=by
 rw[Nz,La,Lc h];rfl
theorem Qa3{α:Type}(Ls:List (List α))(j:Nat):(Ls.take j).flatten.length<=Ls.flatten.length:=by
 have:=LU (fun x:List (List α)=>x.flatten.length) (Nk j Ls)
 simp only[List.flatten_append,List.length_append] at this;omega
theorem Qnn(w:World)(n:Nat)(hn:n<=8796093022208) :
  Calls prog 165 #[.slice none 0 0,.int .i64 (n:Int)] w fun e w' => ∃v,e = .returned v∧w'.ownsRow w.heap.size 9 1 v 0 []∧Zb w w':=by
 obtain⟨i0,hi,xC,xD,xE⟩:=info_parts Tryz.infoS
 by_cases h0:n=0
 ·subst h0;clear hn
  go_enter func165,ntmps165;go_wp2
  go_ret
  exact⟨_,rfl,LT _ _ _ _,Lb _ _⟩
 ·have hr:=fun ty=>Lib.run_append_nil_zeros (P:=prog) w 22 3 ty 9 i0 _ .i64 .i64 underlying22 underlying3 hi xC n (by omega) (by rw[xD];decide) (by omega) (by rw[xE];omega)
  obtain⟨G,hG⟩:=Ze (grownCap w n 0 9);have xB:=grownCap_ge w n 0 9;have xA:=grownCap_le_maxLen w n 0 9 (by unfold maxLen;omega)
  rw[hG] at xB xA hr;have HO:Hid ((w.drew.alloc (.cells (Builtin.zeroCells (Value.cells (.string ByteArray.empty)) n++Builtin.zeroCells (Value.cells (.string ByteArray.empty)) (G - n)) 9)).ownsRow w.heap.size 9 1 (.slice (some ⟨w.heap.size,0,none⟩) 0 G) 0 []):=by
   refine⟨rfl,.inr ⟨w.heap.size,G,_,rfl,Ld _,Lu w.drew _,Ll _,xA,?_,by simp⟩⟩
   rw[Array.size_append,size_zeroCells,size_zeroCells,show(Value.cells (.string ByteArray.empty)).size=1 from rfl,<-LR]
   congr 1
   omega
  have xF:G<=9223372036854775807:=by unfold maxLen at xA;omega
  have xG:(0:Int)<(n:Int):=by omega
  have xH : ¬(n:Int)<0:=by omega
  clear hG xB xA hi xC xD xE h0
  go_enter func165,ntmps165
  go_wp2_with (at_builtin;refine Lib.wpList_append_run _ rfl _ _ _ _ rfl _ _ rfl rfl _ _ (hr _) ?_)
  go_ret
  exact⟨_,rfl,HO.out,U2 w _⟩
structure CatS(w:World)(g0:Nat)(us:List Value)(Ls:List (List (BA))):Prop where
 len:us.length=Ls.length
 cell : ∀j,j<us.length->w.cell? ⟨g0,j,none⟩=some (us.getD j dn)
 rd : ∀j,j<us.length->RdC w (us.getD j dn) (Ls.getD j []).length (cS (Ls.getD j []))
theorem CatS.next{w W:World}{g0:Nat}{us:List Value}{Ls:List (List (BA))}(h:CatS w g0 us Ls)(hb:Zb w W):CatS W g0 us Ls :=
 ⟨h.len,fun j hj=>(hb.cell (Lh w _ (h.cell j hj))).trans (h.cell j hj),fun j hj=>Cv.O2 (h.rd j hj) hb⟩
theorem Qi2(w:World)(g0 c0:Nat)(us:List Value)(Ls:List (List (BA)))(h:CatS w g0 us Ls)(hu:us.length<=1000)(hm:Ls.flatten.length<=8796093022208)(cl:List (BA))(hcl:Ls.flatten=cl) :
  Calls prog 117 #[.slice (some ⟨g0,0,none⟩) us.length c0] w fun e w' => ∃v,e = .returned v∧w'.ownsRow w.heap.size 9 1 v cl.length (cS cl)∧Zb w w':=by
 obtain⟨i0,hi,xB,xH,xI⟩:=info_parts Tryz.infoS;have HC:Hid (∀W,Zb w W->CatS W g0 us Ls):=fun W hb=>h.next hb
 have HX:Hid (us.length=Ls.length∧us.length<=1000∧Ls.flatten.length<=8796093022208∧Ls.flatten=cl):=⟨h.len,hu,hm,hcl⟩;have xM:(us.length:Int)<=1000:=by omega
 have xD:=Lb w.heap.size w;have HI:Hid (prog.info? 9=some i0∧i0.zero=some (.string ByteArray.empty)∧i0.size=1∧i0.bytes=16):=⟨hi,xB,xH,xI⟩;clear h hu hm hcl hi xB xH xI
 go_enter func117,ntmps117;go_wp2
 go_loopg [3,11] us.length (fun g s i wr => ∃j:Nat,j<=us.length∧g=us.length - j∧i = .int .i64 (j:Int)∧s = .int .i64 ((Ls.take j).flatten.length:Int)∧Zb w wr)
 case atStart=>go_light;exact⟨0,Ll _,rfl,rfl,rfl,xD⟩
 case round =>
  clear xD;obtain⟨j,hj,rfl,rfl,rfl,hb⟩:=hrel
  by_cases hlt:j<us.length
  ·have hz:(j:Int)<(us.length:Int):=by omega
   have xB:(0:Int)<=(j:Int):=Lf _;have cj:=(HC.out wr hb).cell j hlt;obtain⟨ao,xL,hv,_,_⟩:=(HC.out wr hb).rd j hlt;rw[hv] at cj;obtain⟨m,xC⟩:=Ze ((Ls.getD j []).length);rw[xC] at cj;have hs:(Ls.take (j+1)).flatten.length=(Ls.take j).flatten.length+m:=by
    rw[Q5 [] Ls j (by have:=HX.out.1;omega),NX,Lg,Ip,xC]
   have xA:=Qa3 Ls (j+1);obtain⟨a,ha⟩:=Ze ((Ls.take j).flatten.length);rw[ha] at hs ⊢;have xJ:a+m<=8796093022208:=by have:=HX.out.2.2.1;omega
   have e1:IntKind.i64.wrap ((a:Int)+(m:Int))=(a:Int)+(m:Int):=by rw[Nd];omega
   have xK : ¬(a:Int)+(m:Int)<0:=by omega
   have HS:Hid ((a:Int)+(m:Int)=((Ls.take (j+1)).flatten.length:Nat)):=by show _=_;rw[hs];omega
   clear hs xA ha xC hv xJ;go_wp2
   go_roundg (us.length - (j+1))
   case rel=>go_light;exact⟨j+1,by omega,rfl,by go_num,by rw[HS.out],hb⟩
   case measure=>go_light;omega
  ·obtain rfl:j=us.length:=by omega
   have hz : ¬((us.length:Int)<(us.length:Int)):=by omega
   have ha:(Ls.take us.length).flatten.length=Ls.flatten.length:=by rw[HX.out.1,LY]
   rw[ha];have HG:Hid (∀W,Calls prog 165 #[.slice none 0 0,.int .i64 (Ls.flatten.length:Int)] W fun e w' => ∃v,e = .returned v∧w'.ownsRow W.heap.size 9 1 v 0 []∧Zb W w'):=fun W=>Qnn W _ HX.out.2.2.1
   obtain⟨q,hq⟩:=Ze Ls.flatten.length;rw[hq] at HG ⊢;clear ha hlt hj hq
   go_wp2_with (go_at_call 165;with_reducible refine(HG.out _).mono ?_;rintro e w1 ⟨v,rfl,ho,xE⟩)
   have xF:=Qa hb xE;have xG:w1.ownsRow w.heap.size 9 1 v 0 []:=ho.mono hb.size;clear hb xE ho;go_wp2
   go_loopg [6,27] us.length (fun g v i wr => ∃j:Nat,j<=us.length∧g=us.length - j∧i = .int .i64 (j:Int)∧wr.ownsRow w.heap.size 9 1 v (Ls.take j).flatten.length (cS (Ls.take j).flatten)∧Zb w wr)
   case atStart=>go_light;exact⟨0,Ll _,rfl,rfl,xG,xF⟩
   case round =>
    clear xF xG;obtain⟨j,hj,rfl,rfl,ho,hb⟩:=hrel
    by_cases hlt:j<us.length
    ·have hz:(j:Int)<(us.length:Int):=by omega
     have xB:(0:Int)<=(j:Int):=Lf _;have cj:=(HC.out wr hb).cell j hlt;have rj:=(HC.out wr hb).rd j hlt;obtain⟨u,hu⟩:=Ze (us.getD j dn);obtain⟨l,hl⟩:=Ze (Ls.getD j []);rw[hu] at cj rj;rw[hl] at rj;have ht:(Ls.take (j+1)).flatten=(Ls.take j).flatten++l:=by
      rw[Q5 [] Ls j (by have:=HX.out.1;omega),NX,Ip,hl]
     have xA:=Qa3 Ls (j+1);obtain⟨a,ha⟩:=Ze ((Ls.take j).flatten);rw[ha] at ht ho;rw[ht,Lg] at xA;have HS:Hid ((Ls.take (j+1)).flatten=a++l∧a.length+l.length<=8796093022208∧RdC wr u l.length (cS l)∧wr.ownsRow w.heap.size 9 1 u6 a.length (cS a)∧w.heap.size<=wr.heap.size):=⟨ht,by have:=HX.out.2.2.1;omega,rj,ho,hb.size⟩
     clear ht xA ha hl hu ho rj
     go_wp2_with (at_builtin;refine Cv.QG _ rfl _ _ _ rfl w.heap.size 9 i0 (.string ByteArray.empty) 1 16 underlying22 HI.out.1 HI.out.2.1 HI.out.2.2.1 HI.out.2.2.2 rfl (by decide) _ a.length (cS a) rfl HS.out.2.2.2.1 _ l.length (cS l) rfl HS.out.2.2.1 (Qm7 l) (Qm8 l) ?c1 ?c2 HS.out.2.2.2.2 ?_)
     case c1=>have:=HS.out.2.1;unfold maxLen;omega
     case c2=>have:=HS.out.2.1;omega
     intro v' w1 hap;have HY:Hid (w1.ownsRow w.heap.size 9 1 v' (a++l).length (cS (a++l))∧Zb w w1):=by
      refine⟨?_,(Cv.Jm hb HS.out.2.2.2.2 HS.out.2.2.2.1 hap.grown).1⟩
      rw[Lg,Qm6];exact hap.own
     clear hap hb;go_wp2
     go_roundg (us.length - (j+1))
     case rel =>
      go_light;refine⟨j+1,by omega,rfl,by go_num,?_,HY.out.2⟩
      rw[HS.out.1];exact HY.out.1
     case measure=>go_light;omega
    ·obtain rfl:j=us.length:=by omega
     have hz : ¬((us.length:Int)<(us.length:Int)):=by omega
     rw[HX.out.1,LY,HX.out.2.2.2] at ho;clear hlt hj;go_wp2
     go_ret
     exact⟨_,rfl,ho,hb⟩
theorem Qnm(w:World)(n:Nat)(hn:n<=8796093022208) :
  Calls prog 163 #[.slice none 0 0,.int .i64 (n:Int)] w fun e w' => ∃v,e = .returned v∧w'.ownsRow w.heap.size 83 2 v 0 []∧Zb w w':=by
 obtain⟨i0,hi,xC,xD,xE⟩:=info_parts Cv.Tryz.infoB
 by_cases h0:n=0
 ·subst h0;clear hn
  go_enter func163,ntmps163;go_wp2
  go_ret
  exact⟨_,rfl,LT _ _ _ _,Lb _ _⟩
 ·have hr:=fun ty=>Lib.run_append_nil_zeros (P:=prog) w 77 3 ty 83 i0 _ .i64 .i64 underlying77 underlying3 hi xC n (by omega) (by rw[xD];decide) (by omega) (by rw[xE];omega)
  obtain⟨G,hG⟩:=Ze (grownCap w n 0 83);have xB:=grownCap_ge w n 0 83;have xA:=grownCap_le_maxLen w n 0 83 (by unfold maxLen;omega)
  rw[hG] at xB xA hr;have HO:Hid ((w.drew.alloc (.cells (Builtin.zeroCells (Value.cells (.agg #[.int .i64 0,.int .u64 0])) n++Builtin.zeroCells (Value.cells (.agg #[.int .i64 0,.int .u64 0])) (G - n)) 83)).ownsRow w.heap.size 83 2 (.slice (some ⟨w.heap.size,0,none⟩) 0 G) 0 []):=by
   refine⟨rfl,.inr ⟨w.heap.size,G,_,rfl,Ld _,Lu w.drew _,Ll _,xA,?_,by simp⟩⟩
   rw[Array.size_append,size_zeroCells,size_zeroCells,show(Value.cells (.agg #[.int .i64 0,.int .u64 0])).size=2 from rfl,<-LR]
   congr 1
   omega
  have xF:G<=9223372036854775807:=by unfold maxLen at xA;omega
  have xG:(0:Int)<(n:Int):=by omega
  have xH : ¬(n:Int)<0:=by omega
  clear hG xB xA hi xC xD xE h0
  go_enter func163,ntmps163
  go_wp2_with (at_builtin;refine Lib.wpList_append_run _ rfl _ _ _ _ rfl _ _ rfl rfl _ _ (hr _) ?_)
  go_ret
  exact⟨_,rfl,HO.out,U2 w _⟩
structure CatB(w:World)(g0:Nat)(us:List Value)(Ls:List (List (Int×Nat))):Prop where
 len:us.length=Ls.length
 cell : ∀j,j<us.length->w.cell? ⟨g0,j,none⟩=some (us.getD j dn)
 rd : ∀j,j<us.length->RdC w (us.getD j dn) (Ls.getD j []).length (Cv.cB (Ls.getD j []))
theorem CatB.next{w W:World}{g0:Nat}{us:List Value}{Ls:List (List (Int×Nat))}(h:CatB w g0 us Ls)(hb:Zb w W):CatB W g0 us Ls :=
 ⟨h.len,fun j hj=>(hb.cell (Lh w _ (h.cell j hj))).trans (h.cell j hj),fun j hj=>Cv.O2 (h.rd j hj) hb⟩
theorem Qi1(w:World)(g0 c0:Nat)(us:List Value)(Ls:List (List (Int×Nat)))(h:CatB w g0 us Ls)(hu:us.length<=1000)(hm:Ls.flatten.length<=8796093022208)(cl:List (Int×Nat))(hcl:Ls.flatten=cl) :
  Calls prog 111 #[.slice (some ⟨g0,0,none⟩) us.length c0] w fun e w' => ∃v,e = .returned v∧w'.ownsRow w.heap.size 83 2 v cl.length (Cv.cB cl)∧Zb w w':=by
 obtain⟨i0,hi,xB,xH,xI⟩:=info_parts Cv.Tryz.infoB;have HC:Hid (∀W,Zb w W->CatB W g0 us Ls):=fun W hb=>h.next hb
 have HX:Hid (us.length=Ls.length∧us.length<=1000∧Ls.flatten.length<=8796093022208∧Ls.flatten=cl):=⟨h.len,hu,hm,hcl⟩;have xM:(us.length:Int)<=1000:=by omega
 have xD:=Lb w.heap.size w;have HI:Hid (prog.info? 83=some i0∧i0.zero=some (.agg #[.int .i64 0,.int .u64 0])∧i0.size=2∧i0.bytes=16):=⟨hi,xB,xH,xI⟩;clear h hu hm hcl hi xB xH xI
 go_enter func111,ntmps111;go_wp2
 go_loopg [3,11] us.length (fun g s i wr => ∃j:Nat,j<=us.length∧g=us.length - j∧i = .int .i64 (j:Int)∧s = .int .i64 ((Ls.take j).flatten.length:Int)∧Zb w wr)
 case atStart=>go_light;exact⟨0,Ll _,rfl,rfl,rfl,xD⟩
 case round =>
  clear xD;obtain⟨j,hj,rfl,rfl,rfl,hb⟩:=hrel
  by_cases hlt:j<us.length
  ·have hz:(j:Int)<(us.length:Int):=by omega
   have xB:(0:Int)<=(j:Int):=Lf _;have cj:=(HC.out wr hb).cell j hlt;obtain⟨ao,xL,hv,_,_⟩:=(HC.out wr hb).rd j hlt;rw[hv] at cj;obtain⟨m,xC⟩:=Ze ((Ls.getD j []).length);rw[xC] at cj;have hs:(Ls.take (j+1)).flatten.length=(Ls.take j).flatten.length+m:=by
    rw[Q5 [] Ls j (by have:=HX.out.1;omega),NX,Lg,Ip,xC]
   have xA:=Qa3 Ls (j+1);obtain⟨a,ha⟩:=Ze ((Ls.take j).flatten.length);rw[ha] at hs ⊢;have xJ:a+m<=8796093022208:=by have:=HX.out.2.2.1;omega
   have e1:IntKind.i64.wrap ((a:Int)+(m:Int))=(a:Int)+(m:Int):=by rw[Nd];omega
   have xK : ¬(a:Int)+(m:Int)<0:=by omega
   have HS:Hid ((a:Int)+(m:Int)=((Ls.take (j+1)).flatten.length:Nat)):=by show _=_;rw[hs];omega
   clear hs xA ha xC hv xJ;go_wp2
   go_roundg (us.length - (j+1))
   case rel=>go_light;exact⟨j+1,by omega,rfl,by go_num,by rw[HS.out],hb⟩
   case measure=>go_light;omega
  ·obtain rfl:j=us.length:=by omega
   have hz : ¬((us.length:Int)<(us.length:Int)):=by omega
   have ha:(Ls.take us.length).flatten.length=Ls.flatten.length:=by rw[HX.out.1,LY]
   rw[ha];have HG:Hid (∀W,Calls prog 163 #[.slice none 0 0,.int .i64 (Ls.flatten.length:Int)] W fun e w' => ∃v,e = .returned v∧w'.ownsRow W.heap.size 83 2 v 0 []∧Zb W w'):=fun W=>Qnm W _ HX.out.2.2.1
   obtain⟨q,hq⟩:=Ze Ls.flatten.length;rw[hq] at HG ⊢;clear ha hlt hj hq
   go_wp2_with (go_at_call 163;with_reducible refine(HG.out _).mono ?_;rintro e w1 ⟨v,rfl,ho,xE⟩)
   have xF:=Qa hb xE;have xG:w1.ownsRow w.heap.size 83 2 v 0 []:=ho.mono hb.size;clear hb xE ho;go_wp2
   go_loopg [6,27] us.length (fun g v i wr => ∃j:Nat,j<=us.length∧g=us.length - j∧i = .int .i64 (j:Int)∧wr.ownsRow w.heap.size 83 2 v (Ls.take j).flatten.length (Cv.cB (Ls.take j).flatten)∧Zb w wr)
   case atStart=>go_light;exact⟨0,Ll _,rfl,rfl,xG,xF⟩
   case round =>
    clear xF xG;obtain⟨j,hj,rfl,rfl,ho,hb⟩:=hrel
    by_cases hlt:j<us.length
    ·have hz:(j:Int)<(us.length:Int):=by omega
     have xB:(0:Int)<=(j:Int):=Lf _;have cj:=(HC.out wr hb).cell j hlt;have rj:=(HC.out wr hb).rd j hlt;obtain⟨u,hu⟩:=Ze (us.getD j dn);obtain⟨l,hl⟩:=Ze (Ls.getD j []);rw[hu] at cj rj;rw[hl] at rj;have ht:(Ls.take (j+1)).flatten=(Ls.take j).flatten++l:=by
      rw[Q5 [] Ls j (by have:=HX.out.1;omega),NX,Ip,hl]
     have xA:=Qa3 Ls (j+1);obtain⟨a,ha⟩:=Ze ((Ls.take j).flatten);rw[ha] at ht ho;rw[ht,Lg] at xA;have HS:Hid ((Ls.take (j+1)).flatten=a++l∧a.length+l.length<=8796093022208∧RdC wr u l.length (Cv.cB l)∧wr.ownsRow w.heap.size 83 2 u6 a.length (Cv.cB a)∧w.heap.size<=wr.heap.size):=⟨ht,by have:=HX.out.2.2.1;omega,rj,ho,hb.size⟩
     clear ht xA ha hl hu ho rj
     go_wp2_with (at_builtin;refine Cv.QG _ rfl _ _ _ rfl w.heap.size 83 i0 (.agg #[.int .i64 0,.int .u64 0]) 2 16 underlying77 HI.out.1 HI.out.2.1 HI.out.2.2.1 HI.out.2.2.2 rfl (by decide) _ a.length (Cv.cB a) rfl HS.out.2.2.2.1 _ l.length (Cv.cB l) rfl HS.out.2.2.1 (Cv.Qw l) (Cv.JD l) ?c1 ?c2 HS.out.2.2.2.2 ?_)
     case c1=>have:=HS.out.2.1;unfold maxLen;omega
     case c2=>have:=HS.out.2.1;omega
     intro v' w1 hap;have HY:Hid (w1.ownsRow w.heap.size 83 2 v' (a++l).length (Cv.cB (a++l))∧Zb w w1):=by
      refine⟨?_,(Cv.Jm hb HS.out.2.2.2.2 HS.out.2.2.2.1 hap.grown).1⟩
      rw[Lg,Cv.Qao];exact hap.own
     clear hap hb;go_wp2
     go_roundg (us.length - (j+1))
     case rel =>
      go_light;refine⟨j+1,by omega,rfl,by go_num,?_,HY.out.2⟩
      rw[HS.out.1];exact HY.out.1
     case measure=>go_light;omega
    ·obtain rfl:j=us.length:=by omega
     have hz : ¬((us.length:Int)<(us.length:Int)):=by omega
     rw[HX.out.1,LY,HX.out.2.2.2] at ho;clear hlt hj;go_wp2
     go_ret
     exact⟨_,rfl,ho,hb⟩
end
section
open Cv (RdC zl)
theorem Qa8(M:List (Nat×Nat))(j:Nat)(hj:j<M.length):(zl M).getD j (0,0)=(((M.getD j (0,0)).1:Int),(M.getD j (0,0)).2):=by
 unfold zl;rw[La,La,No,Lc hj]
 rfl
theorem QmD{n i H:Nat}{A B:List (Nat×Nat)}(hw:Wy n i A H B){j h:Nat}(hj:j<(Cv.dnL 41 0 n).length)(he:(Cv.dnL 41 0 n).getD j (0,0)=(h,i / 2^h)):j=A.length∧h=H:=by
 rw[hw.all] at hj he;rw[La] at he
 rcases NO j A.length with hlt|heq|hgt
 ·rw[LL hlt,Lc hlt] at he;have:=hw.no_left (LG hlt);rw[show A[j]=(h,i / 2^h) from he] at this
  exact absurd this (NG _)
 ·subst heq;rw[LN (Ld _),NJ] at he;exact⟨rfl,(LU Prod.fst (show(H,i / 2^H)=(h,i / 2^h) from he)).symm⟩
 ·rw[Lg,Lt] at hj;obtain⟨t,rfl⟩ : ∃t,j=A.length+(t+1):=⟨j - A.length - 1,by omega⟩
  have ht:t<B.length:=by omega
  rw[LN (by omega),show A.length+(t+1) - A.length=t+1 by omega,Nr,Lc ht] at he
  have:=hw.no_right (LG ht);rw[show B[t]=(h,i / 2^h) from he] at this
  exact absurd this (NG _)
theorem Qot{n i H:Nat}{A B:List (Nat×Nat)}(hw:Wy n i A H B):A.length<(Cv.dnL 41 0 n).length∧(Cv.dnL 41 0 n).getD A.length (0,0)=(H,i / 2^H):=by
 rw[hw.all];refine⟨by simp,?_⟩
 rw[La,LN (Ld _),NJ]
 rfl
theorem UF{b:Nat×Nat}{n:Nat}(h:(b.2+1)*2^b.1<=n)(hn:n<=2^40):Fitb (b.1:Int) b.2∧b.1<=40∧b.2<2^40:=by
 have hp:=LQ b.1;have h1:2^b.1<=(b.2+1)*2^b.1:=Nat.le_mul_of_pos_left _ (by omega)
 have h2:b.2+1<=(b.2+1)*2^b.1:=Ny _ hp;have h3:b.1<2^b.1:=Nat.lt_two_pow_self;have h4:b.1<=40:=Cv.pw40 (h:=b.1) (by show 2^b.1<=_;omega)
 exact⟨⟨⟨by omega,by omega⟩,by omega⟩,h4,by omega⟩
theorem YM(n:Nat)(hn:n<=2^40):Cv.UV 0 n n=0∧Cv.covR 0 n n=Cv.dnL 41 0 n:=by
 have h:Cv.UV 0 n n=0:=by rw[Cv.UV,Le (by omega),Le (by omega),Le (by omega)]
 exact⟨h,by rw[Cv.covR,Lm h,Cv.QX n hn]⟩
theorem Qgk(q:Nat):Nat.xor q 1=sb q:=by
 unfold sb;have h1:Nat.xor q 1=q ^^^ 1:=rfl;rw[h1]
 apply Nat.eq_of_testBit_eq
 intro t;rw[Nat.testBit_xor]
 cases t with
 | zero =>
  have h0 : ∀x,Nat.testBit x 0=decide (x % 2=1):=fun x=>Nat.testBit_zero x
  rw[h0,h0,h0]
  by_cases h:q % 2=1
  ·rw[Lm h];have:(q - 1) % 2=0:=by omega
   simp[h,this]
  ·rw[Le h];have:(q+1) % 2=1:=by omega
   simp[h,this]
 | succ t =>
  rw[Wm,Wm,Wm]
  by_cases h:q % 2=1
  ·rw[Lm h,show(q - 1) / 2=q / 2 by omega];simp
  ·rw[Le h,show(q+1) / 2=q / 2 by omega];simp
end
end Go.Proofs.YtdocjikpcbmcgaaGreatDoor
