/- Own work. -/
import Derived.Test.YtoblgjledefdbaaGreatDoorQc30
set_option maxRecDepth 100000
set_option maxHeartbeats 1000000
namespace Go.Proofs.YtoblgjledefdbaaGreatDoor
open Go.RowKit
attribute [local go_sem ↓] Go.wp_at_zero Go.wp_at_succ
open Go.Proofs.Tryz
section
open Cv (RdC zl cU)
theorem QiP(w:World)(kd k:Int)(old size:Nat)(vs vd:Value):Below w.heap.size w (w.alloc (.cells #[.int .i64 kd,.int .i64 k,.int .u64 old,.int .u64 size,vs,vd] 138)):=bal (Lb _ _) _
theorem Qec(w:World)(kd k:Int)(old size:Nat)(sa:OA)(ns sc:Nat)(da:OA)(n2 dc:Nat)(x:Nat)(hx:ns=1 -> ∃b o,sa=some ⟨b,o,none⟩∧w.cell? ⟨b,o,none⟩=some (.int .u64 x))
  (r:Bool) (hr:decide (kd=1∧(1<=k∧k<=32)∧size<=2^40∧old=0∧ns=1∧x<size)=r) :
  Calls prog 233 #[.agg #[.int .i64 kd,.int .i64 k,.int .u64 old,.int .u64 size,.slice sa ns sc,.slice da n2 dc]] w fun e w'=>e= .returned (.bool r)∧Below w.heap.size w w':=by
 have hb:=QiP w kd k old size (.slice sa ns sc) (.slice da n2 dc)
 by_cases h1:kd=1
 ·subst h1
  by_cases h2:1<=k∧k<=32
  ·have HC:Hid (∀W,Calls prog 91 #[.int .i64 k] W fun e w'=>e= .returned (.int .i64 0)∧W=w'):=fun W=>by
    have:=(QD W k);rw[show chk k=0 by rw[chk,Ld (by omega)]] at this
    exact this.mono fun _ _ h=>⟨h.1,h.2.symm⟩
   by_cases h3:size<=2^40
   ·have hd:decide ((1099511627776:Int)<(size:Int))=false:=Lx (by omega)
    by_cases h4:old=0
    ·subst h4
     by_cases h5:ns=1
     ·subst h5;obtain⟨b,o,rfl,c0⟩:=hx rfl;have c1:=(hb.cell (p:=⟨b,o,none⟩) (Lf w _ c0)).trans c0;have HR:Hid (decide (x<size)=r):=by
       rw[<-hr]
       show decide _=decide _
       simp only[true_and,decide_eq_decide];omega
      clear hr hx h2 h3 c0;rw[show((0:Nat):Int)=0 from rfl] at *
      go_enter func233,ntmps233
      go_upto_region 5 with (go_at_call 91;with_reducible refine(HC.out _).mono ?_;rintro e w1 ⟨rfl,rfl⟩)
      go_quiet (fail)
      go_wp2
      go_ret
      exact⟨by rw[HR.out];rfl,Qi hb _⟩
     ·have hz:decide (ns=1)=false:=Lx h5
      have hz1:¬ns=1:=h5;have hz2:¬(ns:Int)=1:=by omega
      have hz3:decide ((ns:Int)=1)=false:=Lx hz2
      obtain rfl:false=r:=by rw[<-hr];exact(Lx (by rintro⟨_,_,_,_,h,_⟩;exact h5 h)).symm
      clear hr hx h2 h3 h5;rw[show((0:Nat):Int)=0 from rfl] at *
      go_enter func233,ntmps233
      go_upto_region 5 with (go_at_call 91;with_reducible refine(HC.out _).mono ?_;rintro e w1 ⟨rfl,rfl⟩)
      go_quiet (fail)
      go_wp2
      go_ret
      exact⟨rfl,Qi hb _⟩
    ·have hz:¬(old:Int)=0:=by omega
     obtain rfl:false=r:=by rw[<-hr];exact(Lx (by rintro⟨_,_,_,h,_,_⟩;exact h4 h)).symm
     clear hr hx h2 h3 h4
     go_enter func233,ntmps233
     go_wp2_with (go_at_call 91;with_reducible refine(HC.out _).mono ?_;rintro e w1 ⟨rfl,rfl⟩)
     go_ret
     exact⟨rfl,hb⟩
   ·have hd:decide ((1099511627776:Int)<(size:Int))=true:=LV (by omega)
    obtain rfl:false=r:=by rw[<-hr];exact(Lx (by rintro⟨_,_,h,_,_,_⟩;exact h3 h)).symm
    clear hr hx h2 h3
    go_enter func233,ntmps233
    go_wp2_with (go_at_call 91;with_reducible refine(HC.out _).mono ?_;rintro e w1 ⟨rfl,rfl⟩)
    go_ret
    exact⟨rfl,hb⟩
  ·have HC:Hid (∀W,Calls prog 91 #[.int .i64 k] W fun e w'=>e= .returned (.int .i64 70)∧W=w'):=fun W=>by
    have:=(QD W k);rw[show chk k=70 by rw[chk,Lm (by omega)]] at this
    exact this.mono fun _ _ h=>⟨h.1,h.2.symm⟩
   obtain rfl:false=r:=by rw[<-hr];exact(Lx (by rintro⟨_,h,_,_,_,_⟩;exact h2 h)).symm
   clear hr hx h2
   go_enter func233,ntmps233
   go_wp2_with (go_at_call 91;with_reducible refine(HC.out _).mono ?_;rintro e w1 ⟨rfl,rfl⟩)
   go_ret
   exact⟨rfl,hb⟩
 ·obtain rfl:false=r:=by rw[<-hr];exact(Lx (by rintro⟨h,_,_,_,_,_⟩;exact h1 h)).symm
  clear hr hx
  go_enter func233,ntmps233;go_wp2
  go_ret
  exact⟨rfl,hb⟩
instance (k:Int) (m:Nat) (D:LB):Decidable (fil k m D):=by unfold fil;infer_instance
theorem Qd4(w:World)(kd k:Int)(old size:Nat)(sa:OA)(ns sc:Nat)(da:OA)(db dO dc:Nat)(D:LB)(hr:RdS w da db dO D.length D)(hm:D.length<=9223372036854775807)(a0 a1 a2:OA)(n0 n1 n2 c0 c1 c2:Nat)(h0:n0<=100)(h1:n1<=100)(h2:n2<=100)(r:Bool)(hq:decide (fil k (n0+n1+n2) D)=r) :
  Calls prog 234 #[.agg #[.slice a0 n0 c0,.slice a1 n1 c1,.slice a2 n2 c2],.agg #[.int .i64 kd,.int .i64 k,.int .u64 old,.int .u64 size,.slice sa ns sc,.slice da D.length dc]] w fun e w'=>e= .returned (.bool r)∧Below w.heap.size w w':=by
 have hbx:=bal (bal (Lb w.heap.size w) (.cells #[.slice a0 n0 c0,.slice a1 n1 c1,.slice a2 n2 c2] 225)) (.cells #[.int .i64 kd,.int .i64 k,.int .u64 old,.int .u64 size,.slice sa ns sc,.slice da D.length dc] 138);have e1:IntKind.i64.wrap ((n0:Int)+(n1:Int))=(n0:Int)+(n1:Int):=by rw[Lz];omega
 have e2:IntKind.i64.wrap ((n0:Int)+(n1:Int)+(n2:Int))=((n0+n1+n2:Nat):Int):=by rw[Lz];omega
 by_cases hl:D.length=n0+n1+n2
 ·have hz:(n0:Int)+(n1:Int)+(n2:Int)=(D.length:Int):=by omega
  rw[<-hl] at e2;have HR:Hid (∀W,Below w.heap.size w W->RdS W da db dO D.length D):=fun W hb=>hr.next hb (La _)
  have h6:=(Yl (w.alloc (.cells #[.slice a0 n0 c0,.slice a1 n1 c1,.slice a2 n2 c2] 225)) (.int .i64 kd) (.int .i64 k) (.int .u64 old) (.int .u64 size) (.slice sa ns sc) (.slice da D.length dc)).cells.2.1;rw[LN] at h6;have HQ:Hid (decide (∀d∈D,(d.size:Int)=k)=r):=by
   rw[<-hq]
   show decide _=decide _
   simp only[fil,hl,true_and]
  have h63:(D.length:Int)<=300:=by omega
  clear hr hq hm hl h0 h1 h2 hz
  go_enter func234,ntmps234;go_wp2
  go_loopg [25] D.length (fun g i wr=> ∃j:Nat,j<=D.length∧g=D.length-j∧i= .int .i64 j∧(∀t,t<j->((D.getD t ByteArray.empty).size:Int)=k)∧wr=(w.alloc (.cells #[.slice a0 n0 c0,.slice a1 n1 c1,.slice a2 n2 c2] 225)).alloc (.cells #[.int .i64 kd,.int .i64 k,.int .u64 old,.int .u64 size,.slice sa ns sc,.slice da D.length dc] 138))
  case atStart=>go_light;exact⟨0,Ln _,rfl,rfl,fun t ht=>absurd ht (Ib _),rfl⟩
  case round=>
   obtain⟨j,hj,rfl,rfl,hal,hwr⟩:=hrel;rw[<-hwr] at hbx h6;have HWR:=Qd hwr;clear hwr
   by_cases hlt:j<D.length
   ·have hz:(j:Int)<(D.length:Int):=by omega
    have hz0:(0:Int)<=(j:Int):=Lh _;have hrd:=HR.out wr hbx;obtain rfl:=hrd.ptr (by omega)
    have cj:=hrd.at hlt;obtain⟨d,hd⟩:∃d,D.getD j ByteArray.empty=d:=⟨_,rfl⟩;rw[hd] at cj
    by_cases hk:(d.size:Int)=k
    ·have HN:Hid (∀t,t<j+1->((D.getD t ByteArray.empty).size:Int)=k):=fun t ht=>by
      rcases IP (IT ht) with hx|rfl
      ·exact hal t hx
      ·rw[hd];exact hk
     clear hd hal hrd;go_wp2
     go_roundg (D.length-(j+1))
     case rel=>go_light;exact⟨j+1,by omega,rfl,by go_num,HN.out,HWR.out⟩
     case measure=>go_light;omega
    ·obtain rfl:false=r:=by
      rw[<-HQ.out];refine(Lx fun h=>hk ?_).symm
      rw[<-hd];exact h _ (Q1 hlt)
     clear hd hal hrd;go_wp2
     go_ret
     exact⟨rfl,hbx⟩
   ·obtain rfl:j=D.length:=by omega
    have hz:¬((D.length:Int)<(D.length:Int)):=by omega
    obtain rfl:true=r:=by
     rw[<-HQ.out];refine(LV fun d hd=> ?_).symm
     obtain⟨t,ht,rfl⟩:=ND hd;have:=hal t ht
     rwa [Lc,Ll ht] at this
    clear hal hlt;go_wp2
    go_ret
    exact⟨rfl,hbx⟩
 ·have hz:¬(D.length:Int)=((n0+n1+n2:Nat):Int):=by omega
  obtain⟨nn,hnn⟩:∃nn,n0+n1+n2=nn:=⟨_,rfl⟩;rw[hnn] at e2 hz;obtain rfl:false=r:=by rw[<-hq];exact(Lx (by rintro⟨h,_⟩;exact hl h)).symm
  clear hr hq hl h0 h1 h2 hnn
  go_enter func234,ntmps234;go_wp2
  go_ret
  exact⟨rfl,hbx⟩
theorem QlF(q:Nat)(h:q<18446744073709551616):bits .and .u64 (q:Int) 1=((q%2:Nat):Int):=by
 have:=bits_and_u64_nat q 1 h (by decide)
 rw[IN] at this;exact this
theorem QfM(w:World)(ht:Tb w)(k:Int)(i:Nat)(hi:i<2^40)(d:BA)(hd:d.size=clk k)(da:OA)(db dO dc:Nat)(D:LB)(hr:RdS w da db dO D.length D)(hl:D.length<=40)(hs:∀s∈D,s.size=clk k)(r:BA)(hq:rs (clk k) i d D=r) :
  Calls prog 235 #[.int .i64 k,.int .u64 i,.string d,.slice da D.length dc] w fun e w'=>e= .returned (.string r)∧Below w.heap.size w w':=by
 have HT:Hid (∀W,Below w.heap.size w W->Tb W):=fun W hb=>ht.next hb
 have HR:Hid (∀W,Below w.heap.size w W->RdS W da db dO D.length D):=fun W hb=>hr.next hb (La _)
 have HX:Hid (i<2^40∧D.length<=40∧(∀s∈D,s.size=clk k)∧rs (clk k) i d D=r∧d.size=clk k):=⟨hi,hl,hs,hq,hd⟩;have h63:(D.length:Int)<=40:=by omega
 have hb0:=Lb w.heap.size w;clear ht hr hi hl hs hq hd
 go_enter func235,ntmps235;go_wp2
 go_loopg [2,13] D.length (fun g x n wr=> ∃(j:Nat) (y:BA),j<=D.length∧g=D.length-j∧n= .int .i64 j∧x= .string y∧Hid (rs (clk k) i d (D.take j)=y∧y.size=clk k)∧Below w.heap.size w wr)
 case atStart=>go_light;exact⟨0,d,Ln _,rfl,rfl,rfl,⟨by simp[rs],HX.out.2.2.2.2⟩,hb0⟩
 case round=>
  clear hb0;obtain⟨j,y,hj,rfl,rfl,rfl,HY,hb⟩:=hrel
  by_cases hlt:j<D.length
  ·have hz:(j:Int)<(D.length:Int):=by omega
   have hz0:(0:Int)<=(j:Int):=Lh _;have hz64:(j:Int)<64:=by omega
   have hrd:=HR.out wr hb;obtain rfl:=hrd.ptr (by omega)
   have cj:=hrd.at hlt;obtain⟨x,hx⟩:∃x,D.getD j ByteArray.empty=x:=⟨_,rfl⟩;rw[hx] at cj;have zx:x.size=clk k:=by rw[<-hx];exact HX.out.2.2.1 _ (Q1 hlt)
   obtain⟨q,hq⟩:∃q,i/2^j=q:=⟨_,rfl⟩;have eq1:(i:Int)/2^j=(q:Int):=by rw[<-hq];simp
   have hqb:q<18446744073709551616:=by have:=HX.out.1;have:=NO i (2^j);omega
   have ea:=QlF q hqb;have htn:D.take (j+1)=D.take j++[x]:=by rw[Yr ByteArray.empty D j hlt,hx]
   have hstep:rs (clk k) i d (D.take (j+1))=dg (clk k) (stT q y x):=by
    rw[htn,QfV,HY.out.1,LA,Ix hj,hq]
   have hc:=Qs k
   by_cases hodd:q%2=1
   ·have ea2:bits .and .u64 (q:Int) 1=1:=by rw[ea,hodd];rfl
    rw[stT,Lm hodd] at hstep;obtain⟨y2,hy2⟩:∃y2,dg (clk k) (Qz x y)=y2:=⟨_,rfl⟩;have HN:=YW wr (HT.out wr hb) k x y (by omega) (by have:=HY.out.2;omega) y2 hy2
    have HG:Hid (rs (clk k) i d (D.take (j+1))=y2∧y2.size=clk k):=⟨hstep.trans hy2,by rw[<-hy2];exact Ys hc _⟩
    clear hstep htn hx zx hq hqb ea hodd hrd hy2 hc HY
    go_wp2_with (go_at_call 227;with_reducible refine HN.mono ?_;rintro e w1 ⟨rfl,hb1⟩)
    go_roundg (D.length-(j+1))
    case rel=>go_light;exact⟨j+1,y2,by omega,rfl,by go_num,rfl,HG,Qa hb hb1⟩
    case measure=>go_light;omega
   ·have ea2:bits .and .u64 (q:Int) 1=0:=by rw[ea,show q%2=0 by omega];rfl
    rw[stT,Ld hodd] at hstep;obtain⟨y2,hy2⟩:∃y2,dg (clk k) (Qz y x)=y2:=⟨_,rfl⟩;have HN:=YW wr (HT.out wr hb) k y x (by have:=HY.out.2;omega) (by omega) y2 hy2
    have HG:Hid (rs (clk k) i d (D.take (j+1))=y2∧y2.size=clk k):=⟨hstep.trans hy2,by rw[<-hy2];exact Ys hc _⟩
    clear hstep htn hx zx hq hqb ea hodd hrd hy2 hc HY
    go_wp2_with (go_at_call 227;with_reducible refine HN.mono ?_;rintro e w1 ⟨rfl,hb1⟩)
    go_roundg (D.length-(j+1))
    case rel=>go_light;exact⟨j+1,y2,by omega,rfl,by go_num,rfl,HG,Qa hb hb1⟩
    case measure=>go_light;omega
  ·obtain rfl:j=D.length:=by omega
   have hz:¬((D.length:Int)<(D.length:Int)):=by omega
   obtain rfl:y=r:=by rw[<-HX.out.2.2.2.1,<-HY.out.1,NK]
   clear HY hlt;go_wp2
   go_ret
   exact⟨rfl,hb⟩
theorem Qhk(w:World)(ax ay:OA)(db off na nb cx cy:Nat)(E:LB)(pk:BA)(zk:pk.size<=9223372036854775807)(hr:RdS w ax db off E.length E)(hn:ax=none->cx=0)(hl:E.length=na+nb)(hs:E.length<=1000)(hcx:E.length<=cx)(hcy:cx-na=cy)(hay:(if cx=na then ax else Option.map (fun x=>x.add na) ax)=ay) :
  Calls prog 236 #[.slice (some ⟨w.heap.size+1,0,none⟩) 3 3] ((w.alloc (.cells #[.string pk] 9)).alloc (.cells #[.slice ax na cx,.slice (Zp w.heap.size) 1 1,.slice ay nb cy] 22)).drew fun e w'=> ∃ao b cap,e= .returned (.slice ao (na+1+nb) cap)∧RdS w' ao b 0 (na+1+nb) (E.take na++pk::E.drop na)∧Below w.heap.size w w':=by
 subst hcy;obtain⟨o1,ho1⟩:∃o1,Obj.cells #[.string pk] 9 (0,0)=o1:=⟨_,rfl⟩;obtain⟨o2,ho2⟩:∃o2,Obj.cells #[.slice ax na cx,.slice (Zp w.heap.size) 1 1,.slice ay nb (cx-na)] 22 (0,0)=o2:=⟨_,rfl⟩;have hb1:=bal (Lb w.heap.size w) o1;have hb2:=(bal hb1 o2).drew;have hx:((w.alloc o1).alloc o2).drew.heap[w.heap.size+1]? = some (.cells #[.slice ax na cx,.slice (Zp w.heap.size) 1 1,.slice ay nb (cx-na)] 22 (0,0)):=by
  have:=Lt (w.alloc o1) o2;rw[LN] at this;rw[ho2];exact this
 have hr2:=hr.next hb2 (La _);obtain⟨rd,rn⟩:=OR hr2 hcx (by omega) hn hay
 have rt:=OS hr2 (H:=na) (by omega)
 have r1:RdS ((w.alloc o1).alloc o2).drew (Zp w.heap.size) w.heap.size 0 1 [pk]:=by
  have h0:RdS (w.alloc o1) (Zp w.heap.size) w.heap.size 0 1 [pk]:=by rw[<-ho1];exact Uf w pk zk
  exact h0.next ((bal (Lb _ _) o2).drew) (La _)
 have lt:(E.take na).length=na:=by rw[LA];omega
 have ld:(E.drop na).length=nb:=by rw[LS];omega
 have hc:CatS ((w.alloc o1).alloc o2).drew (w.heap.size+1) [.slice ax na cx,.slice (Zp w.heap.size) 1 1,.slice ay nb (cx-na)] [E.take na,[pk],E.drop na]:=by
  refine Qom ?_ ?_ ?_ ?_ (Qdh r1 (fun e=>by cases e)) ?_
  ·rw[cell_of_row _ _ 0 _ _ (0,0) hx];rfl
  ·rw[cell_of_row _ _ 1 _ _ (0,0) hx];rfl
  ·rw[cell_of_row _ _ 2 _ _ (0,0) hx];rfl
  ·rw[lt] at rt ⊢;exact Qdh rt hn
  ·rw[ld] at rd ⊢;exact Qdh rd rn
 have hfl:([E.take na,[pk],E.drop na]:List LB).flatten=E.take na++pk::E.drop na:=by simp
 have hll:(E.take na++pk::E.drop na).length=na+1+nb:=by rw[Le,LD,lt,ld];omega
 rw[ho1,ho2];refine(show Calls prog 236 #[.slice (some ⟨w.heap.size+1,0,none⟩) 3 3] ((w.alloc o1).alloc o2).drew _ from Qi4 _ _ 3 _ _ hc (by simp) (by rw[hfl,hll];omega) _ hfl).mono fun e w' ⟨v,e1,e2,e3⟩=> ?_
 obtain⟨ao,b,cap,rfl,hr',_⟩:=QH (show Qg w' _ v _ from e2) (fun s hs=>by
  rcases List.mem_append.1 hs with hs|hs
  ·exact hr.sz s (Nm hs)
  ·rcases List.mem_cons.1 hs with rfl|hs
   ·exact zk
   ·exact hr.sz s (Nu hs))
 rw[hll] at e1 hr';exact⟨ao,b,cap,e1,hr',Qa hb2 e3⟩
structure RA(w:World)(k:Int)(size:Nat)(b o:Nat)(i H:Nat)(A B:List (Nat×Nat)):Prop where
 k1:1<=k∧k<=32
 n:size<=2^40
 il:i<size
 wy:Wy size i A H B
 ci:w.cell? ⟨b,o,none⟩=some (.int .u64 i)
theorem Qh9(w:World)(k:Int)(size:Nat)(b o sc:Nat)(i H:Nat)(A B:List (Nat×Nat))(ha:RA w k size b o i H A B)(da:OA)(db dO dc:Nat)(D:LB)(hr:RdS w da db dO D.length D)(hm:D.length<=9223372036854775807)(x:BA)(hf:fil k (H+A.length+B.length) D)(hxl:x.size<=1048576)(ht:Tb w)(hcd:D.length<=dc)(hc63:dc<=9223372036854775807)(hnd:da=none->dc=0)(r:BA)(hq:rtP (clk k) size i A.length H D x=r) :
  Calls prog 149 #[.agg #[.int .i64 1,.int .i64 k,.int .u64 0,.int .u64 size,.slice (some ⟨b,o,none⟩) 1 sc,.slice da D.length dc],.string x] w fun e w'=>e= .returned (.tuple #[.agg #[.int .u64 size,.string r],.int .i64 0])∧Below w.heap.size w w':=by
 have HI:Hid (∀W,Below w.heap.size w W->Calls prog 233 #[.agg #[.int .i64 1,.int .i64 k,.int .u64 0,.int .u64 size,.slice (some ⟨b,o,none⟩) 1 sc,.slice da D.length dc]] W fun e w'=>e= .returned (.bool true)∧Below W.heap.size W w'):=fun W hb=>
  Qec W 1 k 0 size (some ⟨b,o,none⟩) 1 sc da D.length dc i (fun h=>⟨b,o,rfl,(hb.cell (p:=⟨b,o,none⟩) (Lf w _ ha.ci)).trans ha.ci⟩) true (LV ⟨rfl,ha.k1,ha.n,rfl,rfl,ha.il⟩)
 have HCi:Hid (∀W,Below w.heap.size w W->W.cell? ⟨b,o,none⟩=some (.int .u64 i)):=fun W hb=>(hb.cell (p:=⟨b,o,none⟩) (Lf w _ ha.ci)).trans ha.ci
 have hln:=ha.wy.len;have hH:=ha.wy.hH;have HW:Hid (∀W,Calls prog 146 #[.int .u64 size,.int .u64 i] W fun e w'=> ∃a0 c0 a1 c1 a2 c2,e= .returned (.agg #[.slice a0 H c0,.slice a1 A.length c1,.slice a2 B.length c2])∧Below W.heap.size W w'):=fun W=>
  (Qg7 W size i H A B ha.wy ha.n ha.il).mono fun e w' ⟨vb,va,vc,e1,r0,r1,r2,hb⟩=>by
   obtain⟨a0,c0,rfl⟩:=Ui r0;obtain⟨a1,c1,rfl⟩:=Ui r1;obtain⟨a2,c2,rfl⟩:=Ui r2;exact⟨a0,c0,a1,c1,a2,c2,e1,hb⟩
 have HF:Hid (∀W a0 c0 a1 c1 a2 c2,Below w.heap.size w W->Calls prog 234 #[.agg #[.slice a0 H c0,.slice a1 A.length c1,.slice a2 B.length c2],.agg #[.int .i64 1,.int .i64 k,.int .u64 0,.int .u64 size,.slice (some ⟨b,o,none⟩) 1 sc,.slice da D.length dc]] W fun e w'=>e= .returned (.bool true)∧Below W.heap.size W w'):=fun W a0 c0 a1 c1 a2 c2 hb=>
  Qd4 W 1 k 0 size (some ⟨b,o,none⟩) 1 sc da db dO dc D (hr.next hb (La _)) hm a0 a1 a2 H A.length B.length c0 c1 c2 (by omega) (by omega) (by omega) true (LV hf)
 have HX:Hid (x.size<=1048576∧fil k (H+A.length+B.length) D∧D.length<=dc∧(da=none->dc=0)∧i<2^40∧(1<=k∧k<=32)∧H<=40∧A.length+B.length<=40∧dc<=9223372036854775807):=⟨hxl,hf,hcd,hnd,by have:=ha.n;have:=ha.il;omega,ha.k1,ha.wy.hH,ha.wy.len,hc63⟩
 have HQ:=Qd hq;have HT:Hid (∀W,Below w.heap.size w W->Tb W):=fun W hb=>ht.next hb
 have HD:Hid (∀W,Below w.heap.size w W->RdS W da db dO D.length D):=fun W hb=>hr.next hb (La _)
 have hxz:decide ((1048576:Int)<(x.size:Int))=false:=Lx (by omega)
 have hcz:¬((dc:Int)<(H:Int)):=by have:=hf.1;omega
 have hnz:(H:Int)<=(D.length:Int):=by have:=hf.1;omega
 clear hf hxl ht hcd hc63 hnd hq ha hr hm hln hH
 go_enter func149,ntmps149
 go_upto_region 1 with (fail)
 obtain⟨W0,hW0⟩:∃W0,(w.alloc (.cells #[.int .i64 1,.int .i64 k,.int .u64 ((0:Nat):Int),.int .u64 size,.slice (some ⟨b,o,none⟩) 1 sc,.slice da D.length dc] 138)).alloc (.cells #[.int .u64 0,.string ⟨#[]⟩] 50)=W0:=⟨_,rfl⟩;obtain⟨hb,h6,hRt,hz⟩:=Oe hW0;rw[show((0:Nat):Int)=0 from rfl] at hW0 h6
 rw[hW0];obtain⟨c0,c1,c2,c3,c4,c5⟩:=h6.cells;have HR:=Qd (LO hRt hz);have H6:=Qd h6;clear hW0 h6 hRt hz
 go_upto_region 9 with (first
  | (go_at_call 233;with_reducible refine(HI.out _ hb).mono ?_;rintro e w1 ⟨rfl,hb1⟩;obtain⟨d0,d1,d2,d3,d4,d5⟩:=(H6.out.next hb1).cells;have ci:=HCi.out _ (Qa hb hb1))
  | (go_at_call 146;with_reducible refine(HW.out _).mono ?_;rintro e w2 ⟨a0,n0,a1,n1,a2,n2,rfl,hb2⟩;obtain⟨g0,g1,g2,g3,g4,g5⟩:=(H6.out.next (bal (Qa hb1 hb2) (.cells #[.slice a0 H n0,.slice a1 A.length n1,.slice a2 B.length n2] 225))).cells)
  | (go_at_call 234;with_reducible refine(HF.out _ _ _ _ _ _ _ (bal (Qa (Qa hb hb1) hb2) _)).mono ?_;rintro e w3 ⟨rfl,hb3⟩;have hR:=HR.out.1.below (Qa (bal (Qa hb1 hb2) _) hb3) (by rw[HR.out.2];omega);have k0:=hR.c0;have k1:=hR.c1;have f0:=hR.f0;have f1:=hR.f1))
 have hwB:=Lt w2 (.cells #[.slice a0 H n0,.slice a1 A.length n1,.slice a2 B.length n2] 225);have hw3:=(hb3.block w2.heap.size (by simp)).trans hwB
 have q0:w3.cell? ⟨w2.heap.size,0,none⟩=some (.slice a0 H n0):=by rw[cell_of_row w3 _ 0 _ _ (0,0) hw3];rfl
 have q1:w3.cell? ⟨w2.heap.size,1,none⟩=some (.slice a1 A.length n1):=by rw[cell_of_row w3 _ 1 _ _ (0,0) hw3];rfl
 have h63:=H6.out.next (Qa (bal (Qa hb1 hb2) _) hb3);have hbw3:=Qa (bal (Qa (Qa hb hb1) hb2) (.cells #[.slice a0 H n0,.slice a1 A.length n1,.slice a2 B.length n2] 225)) hb3;obtain⟨e0,e1,e2,e3,e4,e5⟩:=h63.cells;have HS:Hid (Six w3 w.heap.size (.int .i64 1) (.int .i64 k) (.int .u64 0) (.int .u64 size) (.slice (some ⟨b,o,none⟩) 1 sc) (.slice da D.length dc)∧Rt w3 (w.heap.size+1) 0 ⟨#[]⟩∧w3.heap[w2.heap.size]? = some (.cells #[.slice a0 H n0,.slice a1 A.length n1,.slice a2 B.length n2] 225 (0,0))∧Below w.heap.size w w3):=⟨h63,hR,hw3,hbw3⟩;generalize w2.heap.size=y at *;clear hwB hw3 h63 hbw3 HR H6 HW HF HI HCi hb hb1 hb2 hb3 c0 c1 c2 c3 c4 c5 d0 d1 d2 d3 d4 d5 g0 g1 g2 g3 g4 g5 ci k0 k1 f0 f1 hR
 go_quiet (fail)
 go_upto_region 10 with (fail)
 obtain⟨W4,hW4⟩:∃W4,w3.drewN nq=W4:=⟨_,rfl⟩;have HS4:Hid (Six W4 w.heap.size (.int .i64 1) (.int .i64 k) (.int .u64 0) (.int .u64 size) (.slice (some ⟨b,o,none⟩) 1 sc) (.slice da D.length dc)∧Rt W4 (w.heap.size+1) 0 ⟨#[]⟩∧W4.heap[y]? = some (.cells #[.slice a0 H n0,.slice a1 A.length n1,.slice a2 B.length n2] 225 (0,0))∧Below w.heap.size w W4):=by
  rw[<-hW4];exact⟨HS.out.1,⟨HS.out.2.1.c0,HS.out.2.1.c1,HS.out.2.1.f0,HS.out.2.1.f1⟩,HS.out.2.2.1,Qi HS.out.2.2.2 nq⟩
 obtain⟨ax,hax⟩:∃ax,(if dc=H then da else Option.map (fun x=>x.add H) da)=ax:=⟨_,rfl⟩
 have HA:Hid (∀W,Below w.heap.size w W->RdS W ax db (dO+H) (D.drop H).length (D.drop H)∧(ax=none->dc-H=0)):=fun W hb=>OR (HD.out W hb) HX.out.2.2.1 (by omega) HX.out.2.2.2.1 hax
 rw[hW4,hax];have hEl:(D.drop H).length=A.length+B.length:=by rw[LS,HX.out.2.1.1];omega
 have hck:(k:Int)=(clk k:Int):=by have:=HX.out.2.2.2.2.2.1;unfold clk;rw[Ld (by omega),Ld (by omega)];omega
 have hsD:∀s∈D,s.size=clk k:=fun s hs=>by have:=HX.out.2.1.2 s hs;omega
 obtain⟨lf,hlf⟩:∃lf,dg (clk k) (Yx x)=lf:=⟨_,rfl⟩;obtain⟨pk,hpk⟩:∃pk,rs (clk k) i lf (D.take H)=pk:=⟨_,rfl⟩;have zlf:lf.size=clk k:=by rw[<-hlf];exact Ys (Qs k) _
 have HLf:Hid (∀W,Below w.heap.size w W->Calls prog 145 #[.int .i64 k,.string x] W fun e w'=>e= .returned (.string lf)∧Below W.heap.size W w'):=fun W hb=>OF W (HT.out W hb) k x (by have:=HX.out.1;omega) lf hlf
 have HRs:Hid (∀W,Below w.heap.size w W->Calls prog 235 #[.int .i64 k,.int .u64 i,.string lf,.slice da H dc] W fun e w'=>e= .returned (.string pk)∧Below W.heap.size W w'):=fun W hb=>by
  have:=QfM W (HT.out W hb) k i HX.out.2.2.2.2.1 lf zlf da db dO dc (D.take H) (OS (HD.out W hb) (by omega)) (by rw[LA];have:=HX.out.2.2.2.2.2.2.1;omega) (fun s hs=>hsD s (Nm hs)) pk hpk
  rw[LA,Ix (by omega)] at this
  exact this
 obtain⟨k0,k1,k2,k3,k4,k5⟩:=HS4.out.1.cells;have hb4:=HS4.out.2.2.2;have HE:=Qd (LO hEl (LO hsD (LO hlf (LO hpk (LO hck zlf)))));have HAX:=Qd hax;clear hW4 HS e0 e1 e2 e3 e4 e5 q0 q1 hck hsD hlf hpk zlf hEl hax;refine QZ (by kernel_rfl) [46,47,48,49,50,51,52,53,54,10] [] [.pointer (some ⟨w.heap.size,1,none⟩),.int .i64 k,.int .u64 i,.pointer (some ⟨w.heap.size,1,none⟩),.int .i64 k,.string x,.string lf,.slice da H dc,.string pk,.string pk] (by kernel_rfl) rfl (fun j hj=>by cases hj) (fun _ W=>Below W4.heap.size W4 W) (fun W _ hb=>hb) ?step ?fin
 case step=>
  refine⟨?_,?_,?_,?_,?_,?_,?_,?_,?_,?_,trivial⟩
  ·intro L Ac Wc K hI hj hcl hsm dep hK;have t2:Ac.tmps.getD 2 undef=Pq w.heap.size:=hsm 2 rfl
   show Oper.wp _ _ Ac Wc K _
   go_simp
   exact hK _ _ (.inr rfl) hI
  ·intro L Ac Wc K hI hj hcl hsm dep hK;have t46:Ac.tmps.getD 46 undef= .pointer (some ⟨w.heap.size,1,none⟩):=dep 0 rfl
   show Oper.wp _ _ Ac Wc K _
   obtain⟨g0,g1,g2,g3,g4,g5⟩:=(HS4.out.1.next hI).cells
   go_simp
   exact hK _ _ (.inr rfl) hI
  ·intro L Ac Wc K hI hj hcl hsm dep hK;have t6:Ac.tmps.getD 6 undef= .int .u64 i:=hsm 6 rfl
   show Oper.wp _ _ Ac Wc K _
   go_simp
   exact hK _ _ (.inr rfl) hI
  ·intro L Ac Wc K hI hj hcl hsm dep hK;have t2:Ac.tmps.getD 2 undef=Pq w.heap.size:=hsm 2 rfl
   show Oper.wp _ _ Ac Wc K _
   go_simp
   exact hK _ _ (.inr rfl) hI
  ·intro L Ac Wc K hI hj hcl hsm dep hK;have t49:Ac.tmps.getD 49 undef= .pointer (some ⟨w.heap.size,1,none⟩):=dep 3 rfl
   show Oper.wp _ _ Ac Wc K _
   obtain⟨g0,g1,g2,g3,g4,g5⟩:=(HS4.out.1.next hI).cells
   go_simp
   exact hK _ _ (.inr rfl) hI
  ·intro L Ac Wc K hI hj hcl hsm dep hK;have t1:Ac.tmps.getD 1 undef= .string x:=hsm 1 rfl
   show Oper.wp _ _ Ac Wc K _
   go_simp
   exact hK _ _ (.inr rfl) hI
  ·intro L Ac Wc K hI hj hcl hsm dep hK;have t50:Ac.tmps.getD 50 undef= .int .i64 k:=dep 4 rfl;have t51:Ac.tmps.getD 51 undef= .string x:=dep 5 rfl
   show Oper.wp _ _ Ac Wc K _
   go_simp
   refine(HLf.out Wc (Qa hb4 hI)).mono ?_
   rintro e w' ⟨rfl,hb⟩;exact hK _ _ (.inr rfl) (Qa hI hb)
  ·intro L Ac Wc K hI hj hcl hsm dep hK;have t8:Ac.tmps.getD 8 undef= .slice da H dc:=hsm 8 rfl
   show Oper.wp _ _ Ac Wc K _
   go_simp
   exact hK _ _ (.inr rfl) hI
  ·intro L Ac Wc K hI hj hcl hsm dep hK;have t47:Ac.tmps.getD 47 undef= .int .i64 k:=dep 1 rfl;have t48:Ac.tmps.getD 48 undef= .int .u64 i:=dep 2 rfl;have t52:Ac.tmps.getD 52 undef= .string lf:=dep 6 rfl;have t53:Ac.tmps.getD 53 undef= .slice da H dc:=dep 7 rfl
   show Oper.wp _ _ Ac Wc K _
   go_simp
   refine(HRs.out Wc (Qa hb4 hI)).mono ?_
   rintro e w' ⟨rfl,hb⟩;exact hK _ _ (.inr rfl) (Qa hI hb)
  ·intro L Ac Wc K hI hj hcl hsm dep hK;have t54:Ac.tmps.getD 54 undef= .string pk:=dep 8 rfl
   show Oper.wp _ _ Ac Wc K _
   go_simp
   exact hK _ _ (.inr rfl) hI
 case fin=>
  intro L w6 hall hB;have hb6':=Qa hb4 hB;have h6d:=HS4.out.1.next hB;have hRt:=HS4.out.2.1.below hB (Lf W4 _ HS4.out.2.1.c0);have hwy:w6.heap[y]? = some (.cells #[.slice a0 H n0,.slice a1 A.length n1,.slice a2 B.length n2] 225 (0,0)):=(hB.block y (Array.getElem?_eq_some_iff.1 HS4.out.2.2.1).1).trans HS4.out.2.2.1
  have u1:w6.cell? ⟨y,1,none⟩=some (.slice a1 A.length n1):=by rw[cell_of_row w6 _ 1 _ _ (0,0) hwy];rfl
  have HS6:Hid (Six w6 w.heap.size (.int .i64 1) (.int .i64 k) (.int .u64 0) (.int .u64 size) (.slice (some ⟨b,o,none⟩) 1 sc) (.slice da D.length dc)∧Rt w6 (w.heap.size+1) 0 ⟨#[]⟩∧Below w.heap.size w w6):=⟨h6d,hRt,hb6'⟩;clear HS4 hb4 hb6' hB h6d hRt hwy k0 k1 k2 k3 k4 k5 hall;simp only[Ue]
  go_simp
  go_upto_region 12 with (fail)
  obtain⟨ay,hay⟩:∃ay,(if dc-H=A.length then ax else Option.map (fun x=>x.add A.length) ax)=ay:=⟨_,rfl⟩
  have hEl:=HE.out.1;have hDl:D.length-H=A.length+B.length:=by rw[<-hEl,LS]
  have hAz:(A.length:Int)<=((dc-H:Nat):Int):=by have:=HX.out.2.2.1;omega
  have hAz2:(A.length:Int)<=((D.length-H:Nat):Int):=by omega
  have hc3:((dc-H:Nat):Int)<=9223372036854775807:=by have:=HX.out.2.2.2.2.2.2.2.2;omega
  have hcl:A.length+B.length<=dc-H:=by have:=HX.out.2.2.1;omega
  obtain⟨E,hE⟩:∃E,D.drop H=E:=⟨_,rfl⟩;obtain⟨cx,hcx⟩:∃cx,dc-H=cx:=⟨_,rfl⟩;rw[hE] at HA hEl;rw[hcx] at HA hay hAz hc3 hcl ⊢;rw[hDl] at hAz2 ⊢;have zpk:pk.size=clk k:=by rw[<-HE.out.2.2.2.1];exact QgZ (Qs k) _ _ _ HE.out.2.2.2.2.2
  have hck:=Qs k;have HC:=Qhk w6 ax ay db (dO+H) A.length B.length cx (cx-A.length) E pk (by omega) (HA.out w6 HS6.out.2.2).1 (fun e=>(HA.out w6 HS6.out.2.2).2 e) hEl (by have:=HX.out.2.2.2.2.2.2.2.1;omega) (by omega) rfl hay
  obtain⟨P,hP⟩:∃P,E.take A.length++pk::E.drop A.length=P:=⟨_,rfl⟩;obtain⟨pn,hpn⟩:∃pn,A.length+1+B.length=pn:=⟨_,rfl⟩;rw[hP,hpn] at HC;have hPk:pkP (clk k) i A.length H D x=P:=by
   rw[<-hP,pkP,hE,HE.out.2.2.1,HE.out.2.2.2.1]
  have hPs:∀s∈P,s.size<=140737488351232:=fun s hs=>by
   rw[<-hP] at hs
   rcases List.mem_append.1 hs with hs|hs
   ·have:=HE.out.2.1 s (Nu (by rw[hE];exact Nm hs));omega
   ·rcases List.mem_cons.1 hs with rfl|hs
    ·omega
    ·have:=HE.out.2.1 s (Nu (by rw[hE];exact Nu hs));omega
  have hpn8:pn<=8796093022208:=by have:=HX.out.2.2.2.2.2.2.2.1;omega
  have hrq:dg (clk k) (YA size (QU (clk k) P))=r:=by rw[<-hPk];exact HQ.out
  have HRo:Hid (∀W,Below w.heap.size w W -> ∀ao' b' cap',RdS W ao' b' 0 pn P->Calls prog 107 #[.int .i64 k,.int .u64 size,.slice ao' pn cap'] W fun e w'=>e= .returned (.string r)∧Below W.heap.size W w'):=fun W hb ao' b' cap' hr'=>JA W (HT.out W hb) k size ao' b' 0 pn cap' P hr' hPs hpn8 r hrq
  have hb6:=HS6.out.2.2;have hbp:=bal (bal (Lb w6.heap.size w6) (.cells #[.string pk] 9)) (.cells #[.slice ax A.length cx,.slice (Zp w6.heap.size) 1 1,.slice ay B.length (cx-A.length)] 22);have hAz3:(A.length:Int)<=(A.length:Int)+(B.length:Int):=by omega
  have hAz4:A.length<=A.length+B.length:=by omega
  clear hDl hP hpn hPk hPs hpn8 hrq hE hcx hEl zpk hck
  go_region_with (go_at_call 236;with_reducible refine HC.mono ?_;rintro e w8 ⟨ao8,b8,c8,rfl,r8,hb8⟩)
  have h68:=HS6.out.1.next hb8;obtain⟨t0,t1,t2,t3,t4,t5⟩:=h68.cells;have hb68:=Qa hb6 hb8;have hR8:=HS6.out.2.1.below hb8 (Lf w6 _ HS6.out.2.1.c0);have HR8:=Qd hR8;have H68:=Qd h68;clear hR8 h68 HC hbp hb6 hAz hAz2 hc3 hcl
  go_upto_region 13 with (fail)
  refine QZ (by kernel_rfl) [68,69,70,71,72,73,74,75,76,1009,5] [9] [.pointer (some ⟨w.heap.size,3,none⟩),.int .u64 size,.pointer (some ⟨w.heap.size,1,none⟩),.int .i64 k,.pointer (some ⟨w.heap.size,3,none⟩),.int .u64 size,.slice ao8 pn c8,.string r,.agg #[.int .u64 size,.string r],undef,.int .i64 0] (by kernel_rfl) rfl (fun j hj=>by simp at hj;subst hj;rfl) (fun L W=>(L 9=false->Below w8.heap.size w8 W)∧(L 9=true->W.cell? ⟨w.heap.size+1,0,none⟩=some (.int .u64 size)∧W.cell? ⟨w.heap.size+1,1,none⟩=some (.string r)∧Below w.heap.size w W)) (fun W _ hb=>⟨fun _=>hb,fun h=>by cases h⟩) ?step ?fin
  case step=>
   refine⟨?_,?_,?_,?_,?_,?_,?_,?_,?_,?_,?_,trivial⟩
   ·intro L Ac Wc K hI hj hcl hsm dep hK;have t2:Ac.tmps.getD 2 undef=Pq w.heap.size:=hsm 2 rfl
    show Oper.wp _ _ Ac Wc K _
    go_simp
    exact hK _ _ (.inr rfl) hI
   ·intro L Ac Wc K hI hj hcl hsm dep hK;have t68:Ac.tmps.getD 68 undef= .pointer (some ⟨w.heap.size,3,none⟩):=dep 0 rfl
    show Oper.wp _ _ Ac Wc K _
    have hL:L 9=false:=by
     cases h:L 9 with
     | false=>rfl
     | true=>rw[hcl 8 1 (hcl 9 8 h rfl) rfl] at hj;cases hj
    obtain⟨g0,g1,g2,g3,g4,g5⟩:=(H68.out.next (hI.1 hL)).cells
    go_simp
    exact hK _ _ (.inr rfl) hI
   ·intro L Ac Wc K hI hj hcl hsm dep hK;have t2:Ac.tmps.getD 2 undef=Pq w.heap.size:=hsm 2 rfl
    show Oper.wp _ _ Ac Wc K _
    go_simp
    exact hK _ _ (.inr rfl) hI
   ·intro L Ac Wc K hI hj hcl hsm dep hK;have t70:Ac.tmps.getD 70 undef= .pointer (some ⟨w.heap.size,1,none⟩):=dep 2 rfl
    show Oper.wp _ _ Ac Wc K _
    have hL:L 9=false:=by
     cases h:L 9 with
     | false=>rfl
     | true=>rw[hcl 7 3 (hcl 8 7 (hcl 9 8 h rfl) rfl) rfl] at hj;cases hj
    obtain⟨g0,g1,g2,g3,g4,g5⟩:=(H68.out.next (hI.1 hL)).cells
    go_simp
    exact hK _ _ (.inr rfl) hI
   ·intro L Ac Wc K hI hj hcl hsm dep hK;have t2:Ac.tmps.getD 2 undef=Pq w.heap.size:=hsm 2 rfl
    show Oper.wp _ _ Ac Wc K _
    go_simp
    exact hK _ _ (.inr rfl) hI
   ·intro L Ac Wc K hI hj hcl hsm dep hK;have t72:Ac.tmps.getD 72 undef= .pointer (some ⟨w.heap.size,3,none⟩):=dep 4 rfl
    show Oper.wp _ _ Ac Wc K _
    have hL:L 9=false:=by
     cases h:L 9 with
     | false=>rfl
     | true=>rw[hcl 7 5 (hcl 8 7 (hcl 9 8 h rfl) rfl) rfl] at hj;cases hj
    obtain⟨g0,g1,g2,g3,g4,g5⟩:=(H68.out.next (hI.1 hL)).cells
    go_simp
    exact hK _ _ (.inr rfl) hI
   ·intro L Ac Wc K hI hj hcl hsm dep hK;have t12:Ac.tmps.getD 12 undef= .slice ao8 pn c8:=hsm 12 rfl
    show Oper.wp _ _ Ac Wc K _
    go_simp
    exact hK _ _ (.inr rfl) hI
   ·intro L Ac Wc K hI hj hcl hsm dep hK;have t71:Ac.tmps.getD 71 undef= .int .i64 k:=dep 3 rfl;have t73:Ac.tmps.getD 73 undef= .int .u64 size:=dep 5 rfl;have t74:Ac.tmps.getD 74 undef= .slice ao8 pn c8:=dep 6 rfl
    show Oper.wp _ _ Ac Wc K _
    have hL:L 9=false:=by
     cases h:L 9 with
     | false=>rfl
     | true=>rw[hcl 8 7 (hcl 9 8 h rfl) rfl] at hj;cases hj
    go_simp
    refine(HRo.out Wc (Qa hb68 (hI.1 hL)) _ _ _ (r8.next (hI.1 hL) (La _))).mono ?_
    rintro e w' ⟨rfl,hb⟩;exact hK _ _ (.inr rfl) ⟨fun _=>Qa (hI.1 hL) hb,fun h=>by have h':L 9=true:=h;rw[hL] at h';cases h'⟩
   ·intro L Ac Wc K hI hj hcl hsm dep hK;have t69:Ac.tmps.getD 69 undef= .int .u64 size:=dep 1 rfl;have u69:Ac.tmps[69]?.getD undef= .int .u64 size:=by rw[<-NM];exact t69
    have t75:Ac.tmps.getD 75 undef= .string r:=dep 7 rfl;have u75:Ac.tmps[75]?.getD undef= .string r:=by rw[<-NM];exact t75
    show Oper.wp _ _ Ac Wc K _
    go_simp
    exact hK _ _ (.inr rfl) hI
   ·intro L Ac Wc K hI hj hcl hsm dep hK;have t4:Ac.tmps.getD 4 undef= .pointer (some ⟨w.heap.size+1,0,none⟩):=hsm 4 rfl;have t76:Ac.tmps.getD 76 undef= .agg #[.int .u64 size,.string r]:=dep 8 rfl
    show Oper.wp _ _ Ac Wc K _
    have hR9:=HR8.out.below (hI.1 hj) (Lf w8 _ HR8.out.c0);have z0:=hR9.c0;have z1:=hR9.c1;have y0:=hR9.f0;have y1:=hR9.f1;obtain⟨s0,s1,hch⟩:=QfY hR9 (size:Int) r
    go_simp
    exact hK undef _ (.inl rfl) ⟨(fun h=>by cases h),fun _=>⟨s0,s1,(Qa hb68 (hI.1 hj)).trans (hch.below (by rintro b rfl;omega))⟩⟩
   ·intro L Ac Wc K hI hj hcl hsm dep hK
    show Oper.wp _ _ Ac Wc K _
    go_simp
    exact hK _ _ (.inr rfl) hI
  case fin=>
   intro L wF hall hI;obtain⟨s0,s1,hbF⟩:=hI.2 (hall 9 (by decide))
   clear hI hall;simp only[Ue]
   go_simp
   go_wp2;refine LK (v := .tuple #[.agg #[.int .u64 size,.string r],.int .i64 0]) (by simp[results,results149,go_sem,s0,s1]) rfl ⟨rfl,hbF⟩
end
section
open Cv (zl)
theorem Qoq{k:Int}(h:1<=k∧k<=32):(clk k:Int)=k:=by unfold clk;rw[Ld (by omega),Ld (by omega)];omega
theorem QkN(w:World)(m:Nat)(k:Int)(L:LB)(hF:Frs w m k L)(n i H:Nat)(A B:List (Nat×Nat))(hw:Wy n i A H B)(hn:n<=L.length)(hi:i<n)(D:LB)(hD:dgP (clk k) L i H A B=D) :
  Calls prog 87 #[.pointer (some ⟨m+1,0,none⟩),.int .u64 n,.int .u64 i] w fun e w'=> ∃bs cs ad bd cd,e= .returned (.tuple #[.agg #[.int .i64 1,.int .i64 k,.int .u64 0,.int .u64 n,.slice (Zp bs) 1 cs,.slice ad D.length cd],.int .i64 0])∧RA w' k n bs 0 i H A B∧RdS w' ad bd 0 D.length D∧D.length<=cd∧cd<=9223372036854775807∧(ad=none->cd=0)∧fil k (H+A.length+B.length) D∧Qg w' w.heap.size (.slice ad D.length cd) D∧Cv.Own w' w.heap.size (.slice (Zp bs) 1 cs) [i]∧Below w.heap.size w w':=by
 have hk:1<=k∧k<=32:=⟨hF.k1,hF.k2⟩;have hL:=hF.hn;refine(QkM w m k L hF n i H A B hw hn hi D hD).mono fun e w' ⟨vs,vd,e1,e2,e3,e4⟩=> ?_
 have hs:∀s∈D,s.size=clk k:=by rw[<-hD];exact Qd0 (Qs k) L i H A B
 have hc:=Qs k;obtain⟨ad,bd,cd,rfl,rd,hcd,hnd⟩:=QH e3 (fun s hs'=>by rw[hs s hs'];omega)
 obtain⟨h1,h2⟩:=id e2
 rcases h2 with ⟨_,h2⟩|⟨bs,cs,cur,rfl,hg,hh,hcp,hcm,hcz,hct⟩
 ·cases h2
 have hcd63:cd<=9223372036854775807:=by
  rcases e3.2 with ⟨h,_⟩|⟨_,_,_,h,_,_,_,h9,_⟩
  ·have:=(Id h).2.2;omega
  ·have:=(Id h).2.2;unfold maxLen at h9;omega
 refine⟨bs,cs,ad,bd,cd,e1,⟨hk,by omega,hi,hw,?_⟩,rd,hcd,hcd63,hnd,⟨?_,fun d hd=>by rw[hs d hd];exact Qoq hk⟩,e3,e2,e4⟩
 ·have:=e2.cells (g:=bs) rfl 0 (.int .u64 i) rfl
  rwa [Addr.add_mid] at this
 ·rw[<-hD,QcC];omega
theorem QeR{c n i H:Nat}{A B:List (Nat×Nat)}{L:LB}(h:Wy n i A H B)(hn:n<=2^40)(hL:n<=L.length):rtP c n i A.length H (dgP c L i H A B) (L.getD i ByteArray.empty)=rtD c L n:=by
 rw[rtP,QeB h hn hL];rfl
end
theorem Qd3{n i:Nat}(hn:n<=2^40)(hi:i<n):Cv.QN n [i]=0:=by
 have h1:Cv.incB [i]=true:=(Cv.Uk [i]).2 ⟨by simp,fun j hj=>by simp at hj⟩
 rw[Cv.QN,Ld (by omega),Ld (by rw[h1];decide),Ld (by show ¬n<=i;omega)]
theorem Qk2{n i H:Nat}{A B:List (Nat×Nat)}(h:Wy n i A H B)(hn:n<=2^40)(hi:i<n):(Cv.rst 0 n [i]).length=H+A.length+B.length:=by
 have hc:Cv.QQ 0 [i] n:=by
  have he:Cv.QN n [i]=0:=Qd3 hn hi;exact(Cv.Yu he).2.2.2
 rw[Cv.OV n [i] hn hc,h.all,List.flatMap_append,Ie,Le,Le];have hp:∀t,Pl.pw t=2^t:=fun _=>rfl
 have out:∀(M:List (Nat×Nat)),(∀b∈M,¬(b.2*Pl.pw b.1<=i∧i<(b.2+1)*Pl.pw b.1))->(M.flatMap fun b=>Cv.tno b.1 b.2 [i]).length=M.length:=by
  intro M
  induction M with
  | nil=>intro _;rfl
  | cons b M ih=>
   intro hM;rw[Ie,Le,QdB (hM b NC),ih (fun c hc=>hM c (Ng _ hc)),LD]
   omega
 rw[out A (fun b hb=>by rw[hp];have:=h.left b hb;omega),out B (fun b hb=>by rw[hp];have:=h.right b hb;omega)]
 have hin:(Cv.tno H (i/2^H) [i]).length=H:=Qlm i H (i/2^H) (by rw[hp];exact Ii _ _) (by
  rw[hp,LT,Na,LU];have h1:=Ia i (2^H);have h2:=Iu i (LP H);omega)
 show A.length+((Cv.tno H (i/2^H) [i]).length+B.length)=_
 rw[hin];omega
def pvP1(k:Int)(L:LB)(n i H:Nat)(A B:List (Nat×Nat)):PV:=⟨1,k,0,n,[i],dgP (clk k) L i H A B⟩
theorem Qiv{k:Int}(k1:1<=k)(k2:k<=32)(L:LB){n i H:Nat}{A B:List (Nat×Nat)}(h:Wy n i A H B)(hn:n<=2^40)(hi:i<n):Uu (pvP1 k L n i H A B):=by
 refine⟨?_,fun d hd=> ?_⟩
 ·show cnt 1 k 0 n [i]=some (dgP (clk k) L i H A B).length
  rw[QcC,cnt,Lm ⟨k1,k2,hn⟩,Lm rfl,Lm ⟨rfl,rfl,Qd3 hn hi⟩,Qk2 h hn hi,Nr]
 ·show(d.size:Int)=k
  rw[Qd0 (Qs k) L i H A B d hd];exact YP k1 k2
theorem QdT(w:World)(ht:Tb w)(k:Int)(k1:1<=k)(k2:k<=32)(L:LB){n i H:Nat}{A B:List (Nat×Nat)}(h:Wy n i A H B)(hn:n<=2^40)(hi:i<n)(hL:n<=L.length)(x:BA)(hx:L.getD i ByteArray.empty=x)(hxs:x.size<=1048576)(ca:OA)(cb co cc:Nat)(hc:RdK w ca cb co 1 [(i,x)])(s:BA)(hs:s.size<=281474976710656)(D:LB)(hD:dgP (clk k) L i H A B=D)(hd:dec s.data.toList=some ⟨1,k,0,n,[i],D⟩)(rr:BA)(hrr:rtD (clk k) L n=rr) :
  Calls prog 41 #[.int .i64 k,.agg #[.int .u64 n,.string rr],.slice ca 1 cc,.string s] w fun e w'=>e= .returned (.int .i64 0)∧Below w.heap.size w w':=by
 have hW:=(QaM hd).1;have hDl:D.length<=9223372036854775807:=by have h1:D.length<=1099511627776:=(QS hW.1).hc;omega
 have hfl:fil k (H+A.length+B.length) D:=by
  refine⟨by rw[<-hD,QcC];omega,fun d hdm=> ?_⟩
  exact hW.2 d hdm
 refine Qa3 w k k1 k2 n rr ca cb co 1 cc [(i,x)] hc (by decide) s hs _ hd rfl ⟨.inl rfl,rfl⟩ n rr 0 (fun W sa sb sc da db dc ao m c hb hF ho=> ?_) 0 (by rw[clmD,Lm ⟨rfl,rfl,rfl⟩])
 obtain⟨ao',xb,c',hv',hx2,hxc,hxn⟩:=QH ho (fun y hy=>by simp at hy;subst hy;omega)
 injection hv' with e1 e2 e3
 subst e1 e2 e3;refine QfB W k 0 n sa 1 sc da D.length dc ao xb 0 1 c [x] hx2 (by decide) n rr 0 fun Z hbZ=> ?_
 have hF2:=hF.next hbZ;have hpt:=hF2.p.rs.ptr (show 0<1 by decide)
 subst hpt;have hra:RA Z k n sb 0 i H A B:=⟨⟨k1,k2⟩,hn,hi,h,by have:=hF2.p.rs.at (j:=0) (show 0<1 by decide);simpa using this⟩
 exact Qh9 Z k n sb 0 sc i H A B hra da db 0 dc D hF2.p.rd hDl x hfl hxs (ht.next (Qa hb hbZ)) hF2.p.cD hF2.mC hF2.nD rr (by rw[<-hrr,<-hD,<-hx];exact QeR h hn hL)
theorem Qcy(w:World)(ht:Tb w)(k:Int)(k1:1<=k)(k2:k<=32)(o1:Nat)(c1:BA)(ca:OA)(cb co cn cc:Nat)(l:List (Nat×BA))(hc:RdK w ca cb co cn l)(hcm:cn<=1048576)(s:BA)(hs:s.size<=281474976710656)(P:PV)(hd:dec s.data.toList=some P)(hk:P.k=k)(h2:P.kd=2)(hS:P.S=ixs l)(hX:∀x∈vls l,x.size<=1048576)
  (r:Int) (hr:clmD P.size (dg (clk k) (YA P.size (QU (clk k) (pB (clk k) (Cv.dnL 41 0 P.size) P.S (vls l) P.D)))) 0 o1 c1=r) :
  Calls prog 41 #[.int .i64 k,.agg #[.int .u64 o1,.string c1],.slice ca cn cc,.string s] w fun e w'=>e= .returned (.int .i64 r)∧Below w.heap.size w w':=by
 have hW:=(QaM hd).1;have hco:=QS hW.1;have hD:P.D.length<=8796093022208:=by have:=hco.hc;omega
 have hl:P.S.length=(vls l).length:=by rw[hS,LC,LC]
 have hcl:=hc.hl;have hok:okB 2 k 0 P.size P.S P.D:=by
  have hc1:=hW.1;rw[h2,hk,hco.two h2,cnt] at hc1;have h40:=hco.hsz;rw[Lm ⟨k1,k2,by omega⟩,Ld (by decide),Lm rfl] at hc1
  by_cases he:Cv.QN P.size P.S=0
  ·rw[Lm ⟨rfl,he⟩] at hc1;refine⟨⟨rfl,⟨k1,k2⟩,rfl⟩,he,?_,fun d hdm=>by rw[hW.2 d hdm,hk]⟩
   rw[Cv.rstS,Lm he];exact(Ic hc1).symm
  ·rw[Ld (fun h=>he h.2)] at hc1;cases hc1
 refine Qa3 w k k1 k2 o1 c1 ca cb co cn cc l hc (by omega) s hs P hd hk ⟨.inr h2,hS⟩ P.size _ 0 (fun W sa sb sc da db dc ao m c hb hF ho=> ?_) r hr
 obtain⟨ao',xb,c',hv,hx,hxc,hxn⟩:=QH ho (fun x hx=>Lu (hX x hx) (by decide))
 injection hv with g1 g2 g3
 subst g1 g2 g3;refine Qeh W P.kd k (by rw[h2];decide) P.old P.size sa P.S.length sc da P.D.length dc ao (vls l).length c P.size _ 0 fun V hbV=> ?_
 have hF2:=hF.next hbV;have:=broot_ok V (ht.next (Qa hb hbV)) k P.size sa sb 0 sc P.S (vls l) (by rw[<-hl];exact hF2.p.rs) (by rw[LC];omega) (by rw[<-hl];exact hF2.cS) hF2.nS da db 0 dc P.D hF2.p.rd hD hF2.p.cD hF2.nD ao xb 0 c (hx.next hbV (La _)) hxc hxn hok hX _ rfl
 rw[<-hl] at this;rw[h2,hco.two h2,<-hl];exact this
def clm(T:LB)(S:List Nat)(j:Nat):List (Nat×BA):=(S.take j).map fun x=>(x,T.getD x ByteArray.empty)
theorem Qgo(T:LB)(S:List Nat)(j:Nat):(clm T S j).length=min j S.length:=by rw[clm,LC,LA]
theorem Qi2(T:LB)(S:List Nat){j:Nat}(h:j<S.length):clm T S (j+1)=clm T S j++[(S.getD j 0,T.getD (S.getD j 0) ByteArray.empty)]:=by
 rw[clm,clm,NW,LL,Lc,Ll h];rfl
theorem QlX(T:LB)(S:List Nat):ixs (clm T S S.length)=S:=by
 rw[clm,Lr (La _)];unfold ixs;rw[I4];exact List.map_id' S
theorem QlY(T:LB)(S:List Nat):vls (clm T S S.length)=S.map fun x=>T.getD x ByteArray.empty:=by
 rw[clm,Lr (La _)];unfold vls;rw[I4];rfl
theorem QdU(T:LB)(S:List Nat)(j:Nat){M:Nat}(hT:∀s∈T,s.size<=M):∀c∈clm T S j,c.2.size<=M:=fun c hc=>by
 obtain⟨x,_,rfl⟩:=List.mem_map.1 hc
 show(T.getD x ByteArray.empty).size<=M
 by_cases h:x<T.length
 ·exact hT _ (by rw[Lc,Ll h];exact LZ _)
 ·rw[Lc,NQ (by omega)];exact Ln _
theorem Qic{w:World}{ca:OA}{cb co cn:Nat}{l:List (Nat×BA)}(h:RdK w ca cb co cn l)(h0:0<cn):RdK w ca cb co 1 [l.getD 0 noC]:=by
 have hl:=h.hl
 match l,hl with
 | [],hl=>exact absurd hl (by simp;omega)
 | c::l,_=>
  refine⟨rfl,fun _=>h.ptr h0,fun j v hv=>h.rng j v ?_,fun x hx=>h.sz x ?_⟩
  ·have hj:j<(cK [c]).length:=by
    rcases IU j (cK [c]).length with h1|h1
    ·exact h1
    ·rw[show(c::l).getD 0 noC=c from rfl,NQ h1] at hv;cases hv
   rw[show c::l=[c]++l from rfl,QiR,LE hj]
   exact hv
  ·simp at hx;subst hx;exact NC
theorem Qi1(T:LB)(S:List Nat)(h:0<S.length):(clm T S S.length).getD 0 noC=(S.getD 0 0,T.getD (S.getD 0 0) ByteArray.empty):=by
 rw[clm,Lr (La _)]
 match S,h with
 | x::S,_=>rfl
section
variable {S:St.SV} {L:LB}
theorem Qj4(hk1:1<=S.k)(hk2:S.k<=32)(hL:L.length<=5000)(hLs:∀s∈L,s.size<=1048576)(n i:Nat)(hn:n<=L.length)(hi:i<n)(rr:BA)(hrr:rtD S.k L n=rr) :
  ∃t,(∀w a p U D,Tb w->Lg w 0 a p U D S L->Calls prog 40 #[Pq a,.int .u64 n,.int .u64 i] w fun e w'=>e= .returned (.tuple #[.string t,.int .i64 0])∧Below w.heap.size w w') ∧
   (∀W ca cb cc,Tb W->RdK W ca cb 0 1 [(i,L.getD i ByteArray.empty)]->Calls prog 41 #[.int .i64 S.k,.agg #[.int .u64 n,.string rr],.slice ca 1 cc,.string t] W fun e w'=>e= .returned (.int .i64 0)∧Below W.heap.size W w'):=by
 have k1:(1:Int)<=S.k:=by omega
 have k2:(S.k:Int)<=32:=by omega
 have hc:clk (S.k:Int)=S.k:=by have:=YP k1 k2;omega
 have h40:n<=2^40:=by omega
 obtain⟨A,H,B,hy⟩:=QpQ n i h40 hi;obtain⟨E,hE⟩:∃E,dgP (clk (S.k:Int)) L i H A B=E:=⟨_,rfl⟩;have hwE:Uu ⟨1,S.k,0,n,[i],E⟩:=by rw[<-hE];exact Qiv k1 k2 L hy h40 hi
 obtain⟨t,ht⟩:∃t,(⟨(enc ⟨1,S.k,0,n,[i],E⟩).toArray⟩:BA)=t:=⟨_,rfl⟩;obtain⟨hdt,hst⟩:=Qbb hwE ht;refine⟨t,fun w a p U D hT hl=>QpB w hT hl n i t 0 fun W f hT2 hbW hF=> ?_,fun W ca cb cc hT hcl=> ?_⟩
 ·refine(QkN W f S.k L hF n i H A B hy hn hi E hE).mono fun e w' z=> ?_
  obtain⟨bs,cs,ad,bd,cd,rfl,_,_,_,_,_,_,o1,o2,h9⟩:=z;refine⟨_,_,rfl,h9,fun W' hW'=> ?_⟩
  obtain⟨sa,sb,sc,da,db,dc,e1,e2,hR⟩:=Qdb hwE o2 o1;injection e1 with e1 e11 e12
  injection e2 with e2 e21 e22
  subst e1 e12 e2 e22;exact Jt W' (hR.p.next hW') hwE t ht
 ·exact QdT W hT S.k k1 k2 L hy h40 hi hn _ rfl (hLs _ (by rw[Lc,Ll (show i<L.length by omega)];exact LZ _)) ca cb 0 cc hcl t (Lu hst (by decide)) E hE hdt rr (by rw[hc];exact hrr)
theorem QfA(hk1:1<=S.k)(hk2:S.k<=32)(hL:L.length<=5000)(hLs:∀s∈L,s.size<=1048576)(n:Nat)(hn:n<=L.length)(X:List Nat)(he:Cv.QN n X=0)(rr:BA)(hrr:rtD S.k L n=rr) :
  ∃t,(∀w a p U D,Tb w->Lg w 0 a p U D S L -> ∀ao b off c,RdU w ao b off X.length X->(0<X.length->b≠a)->Calls prog 38 #[Pq a,.int .u64 n,.slice ao X.length c] w fun e w'=>e= .returned (.tuple #[.string t,.int .i64 0])∧Below w.heap.size w w') ∧
   (∀W ca cb cc,Tb W->RdK W ca cb 0 X.length (clm L X X.length)->Calls prog 41 #[.int .i64 S.k,.agg #[.int .u64 n,.string rr],.slice ca X.length cc,.string t] W fun e w'=>e= .returned (.int .i64 0)∧Below W.heap.size W w'):=by
 have k1:(1:Int)<=S.k:=by omega
 have k2:(S.k:Int)<=32:=by omega
 have hc:clk (S.k:Int)=S.k:=by have:=YP k1 k2;omega
 have h40:n<=2^40:=by omega
 have hwP:=Oi k1 k2 L h40 he;obtain⟨hdt,hst⟩:=Qbb hwP rfl;have hXl:X.length<=n:=(QS hwP.1).len;have hvl:vls (clm L X X.length)=X.map fun x=>L.getD x ByteArray.empty:=QlY L X
 refine⟨_,fun w a p U D hT hl ao b off c hU hb=>QhO w hT hl hL n hn ao b off _ c X hU hb he,fun W ca cb cc hT hcl=> ?_⟩
 refine Qcy W hT S.k k1 k2 n rr ca cb 0 X.length cc _ hcl (by omega) _ (Lu hst (by decide)) _ hdt rfl rfl (QlX L X).symm (fun x hx=> ?_) 0 ?_
 ·obtain⟨c,hc,rfl⟩:=List.mem_map.1 hx;exact QdU L X _ hLs c hc
 ·show clmD n (dg (clk (S.k:Int)) (YA n (QU (clk (S.k:Int)) (pB (clk (S.k:Int)) (Cv.dnL 41 0 n) X (vls (clm L X X.length)) (dgB (clk (S.k:Int)) L n X))))) 0 n rr=0
  rw[hvl,QaX (clk (S.k:Int)) L n X hn he,clmD,Lm ⟨rfl,rfl,by rw[<-hrr,hc];rfl⟩]
theorem Qmw(w:World){a p:Nat}{U:Nat->Prop}{D:St.DV}(ht:Tb w)(h:Lg w 0 a p U D S L)(m n:Nat)(hno:¬(m<=n∧n<=L.length)) :
  Calls prog 35 #[Pq a,.int .u64 m,.int .u64 n] w fun e w'=>e= .returned (.tuple #[.string ⟨#[]⟩,.int .i64 (if L.length<n then 30 else 41)])∧Below w.heap.size w w':=by
 by_cases hn:L.length<n
 ·rw[Lm hn];exact Qj2 w ht h m n _ 30 fun W f _ _ hF=>(Qee W f S.k L hF m n hn).mono fun e w' z=>⟨_,_,z.1,z.2,fun W' _=>J8 W' 0 0 0 0 none 0 0 none 0 0 30 (by decide)⟩
 ·rw[Ld hn];exact Qj2 w ht h m n _ 41 fun W f _ _ hF=>(QcT W f S.k L hF m n hn (by omega)).mono fun e w' z=>⟨_,_,z.1,z.2,fun W' _=>J8 W' 0 0 0 0 none 0 0 none 0 0 41 (by decide)⟩
end
theorem Qn4(s:BA):St.tx s.data.toList=s:=by
 cases s
 rfl
structure Has(k:Nat)(L:LB)(D:St.DV):Prop where
 k1:1<=k
 k2:k<=32
 few:L.length<=65536
 sz:∀s∈L,s.size<=1048576
 down:D.down=false
 i:(St.bA k (itL k L)).a <+: (St.Qh D.L St.nmI).now
 n:(St.bA k (itL k L)).b <+: (St.Qh D.L St.nmN).now
section
variable {k:Nat} {L:LB} {D:St.DV} {S:St.SV}
theorem Has.ok(h:Has k L D):St.OkA k (itL k L):=Qbn h.k1 h.k2 h.few h.sz
theorem Has.item(h:Has k L D)(hS:S.ends=(St.bA k (itL k L)).ends){i:Nat}{x:BA}(hx:L[i]? = some x):St.JY D S i=(x.data.toList,0) :=
 St.Qmn h.ok hS h.down h.i i _ (QjP k L i x hx)
theorem Has.get(h:Has k L D)(hS:S.ends=(St.bA k (itL k L)).ends){i:Nat}{x:BA}(hx:L[i]? = some x):gtD D S L i=(x,0):=by
 unfold gtD;rw[h.item hS hx,Ld (fun q=>q rfl),Lm,Qn4]
 rw[Qn4,smL,Lc,No,hx];rfl
theorem Qml(h1:1<=k)(h2:k<=32)(hf:L.length<=65536)(hs:∀s∈L,s.size<=1048576)(hd:D.down=false)(he:St.Ext k (itL k L) D.L):Has k L D :=
 ⟨h1,h2,hf,hs,hd,by rw[he.i];exact Wx,by rw[he.n];exact Wx⟩
theorem a_of{D D':St.DV}{S':St.SV}{e:Int}{x:BA}(hx:x.size<=1048576)(hf:S.ends.length<65536)(hk:S.k=k)(ha:St.UD D S x.data.toList (mdL k L x)=(D',S',e)):aD D S L x=(D',S',if e=0 then L++[x] else L,e):=by
 unfold aD;rw[Ld (by omega),Ld (by omega),hk,ha]
end
end Go.Proofs.YtoblgjledefdbaaGreatDoor
