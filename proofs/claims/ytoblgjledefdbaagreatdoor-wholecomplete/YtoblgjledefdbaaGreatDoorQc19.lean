/- Own work. -/
import Derived.Test.YtoblgjledefdbaaGreatDoorQc18
set_option maxRecDepth 100000
set_option maxHeartbeats 4000000
namespace Go.Proofs.YtoblgjledefdbaaGreatDoor
open Go.RowKit
attribute [local go_sem ↓] Go.wp_at_zero Go.wp_at_succ
open Go.Proofs.Tryz
section
open Cv (rst cov QN)
abbrev pv6(kd k:Int)(old size:Nat)(s d:Value):Value := .agg #[.int .i64 kd,.int .i64 k,.int .u64 old,.int .u64 size,s,d]
theorem Jq(w:World)(a b c d e f:Value):∃W,w.alloc (.cells #[a,b,c,d,e,f] 138)=W∧Six W w.heap.size a b c d e f∧Below w.heap.size w W∧W.heap.size=w.heap.size+1 :=
 ⟨_,rfl,Yl w a b c d e f,bal (Lb _ _) _,by simp⟩
theorem Qn0{w:World}{ao:OA}{b off len:Nat}{l:List Nat}(h:RdU w ao b off len l):Cv.Rd w ao b off len l:=⟨h.hl,h.ptr,fun _ hj=>h.at hj⟩
theorem QpL(a b:Nat)(ha:a<=100)(hb:b<=100):wrap64 ((a:Int)+(b:Int))=(a:Int)+(b:Int):=by unfold wrap64;omega
theorem QpE(a:Nat)(ha:a<=100):wrap64 (a:Int)=(a:Int):=by unfold wrap64;omega
theorem Qkx{w:World}{B e size n m c:Nat}{ao:OA}{xs:List Value}(h:w.ownsRow B e size (.slice ao m c) n xs):m=n:=by
 rcases h.2 with ⟨h,h0⟩|⟨g,cap,cur,h,_⟩
 ·cases h;omega
 ·cases h;rfl
section
variable (w:World) (kd k:Int) (old size:Nat) (sa:OA) (sb so sc:Nat) (S:List Nat) (d:Value)
theorem Qi9(rs:RdU w sa sb so S.length S)(h:¬(old=0∧S.length=1∧S.getD 0 0<size)) :
  Calls prog 382 #[pv6 kd k old size (.slice sa S.length sc) d] w fun e w'=>e= .returned (.tuple #[.int .u64 0,.int .i64 150])∧Below w.heap.size w w':=by
 by_cases h1:old=0
 ·subst h1
  by_cases h2:S.length=1
  ·have h3:¬S.getD 0 0<size:=fun h3=>h ⟨rfl,h2,h3⟩
   have hp:=rs.ptr (by omega)
   subst hp;obtain⟨W,hW,h6,hb,hz⟩:=Jq w (.int .i64 kd) (.int .i64 k) (.int .u64 0) (.int .u64 size) (.slice (some ⟨sb,so,none⟩) 1 sc) d;obtain⟨e0,e1,e2,e3,e4,e5⟩:=h6.cells;have HB:Hid (Below w.heap.size w W):=hb;have hc:=(rs.next hb).at (j:=0) (by omega)
   rw[Iq] at hc;generalize S.getD 0 0=i at *;have h3':decide ((size:Int)<=(i:Int))=true:=LV (by omega)
   have h3n:size<=i:=by omega
   rw[h2];clear rs h h2 h3 h6 hb
   go_enter func382,ntmps382
   go_upto_region 1 with (fail)
   try rw[hW]
   clear hW
   go_quiet (fail)
   go_wp2
   go_ret2
   exact⟨rfl,Qi HB.out _⟩
  ·have h2':¬(S.length:Int)=1:=by omega
   generalize S.length=m at *;obtain⟨W,hW,h6,hb,hz⟩:=Jq w (.int .i64 kd) (.int .i64 k) (.int .u64 0) (.int .u64 size) (.slice sa m sc) d;obtain⟨e0,e1,e2,e3,e4,e5⟩:=h6.cells;have HB:Hid (Below w.heap.size w W):=hb;clear rs h h2 h6 hb
   go_enter func382,ntmps382
   go_upto_region 1 with (fail)
   try rw[hW]
   clear hW
   go_quiet (fail)
   go_wp2
   go_ret2
   exact⟨rfl,Qi HB.out _⟩
 ·have h1':((old:Int) != 0)=true:=bne_iff_ne.2 (by omega)
  obtain⟨W,hW,h6,hb,hz⟩:=Jq w (.int .i64 kd) (.int .i64 k) (.int .u64 old) (.int .u64 size) (.slice sa S.length sc) d;obtain⟨e0,e1,e2,e3,e4,e5⟩:=h6.cells;have HB:Hid (Below w.heap.size w W):=hb;clear rs h h6 hb h1
  go_enter func382,ntmps382
  go_upto_region 1 with (fail)
  try rw[hW]
  clear hW
  go_quiet (fail)
  go_wp2
  go_ret2
  exact⟨rfl,Qi HB.out _⟩
theorem Qhl(hold:old<18446744073709551616)(rs:RdU w sa sb so S.length S)(hm:S.length<=17592186044416)(h:¬(old=0∧QN size S=0)) :
  Calls prog 383 #[pv6 kd k old size (.slice sa S.length sc) d] w fun e w'=>e= .returned (.tuple #[.int .u64 0,.int .i64 150])∧Below w.heap.size w w':=by
 obtain⟨W,hW,h6,hb,hz⟩:=Jq w (.int .i64 kd) (.int .i64 k) (.int .u64 old) (.int .u64 size) (.slice sa S.length sc) d;obtain⟨e0,e1,e2,e3,e4,e5⟩:=h6.cells;have HC:=Cv.Yi size W sa sb so S.length sc S (Qn0 (rs.next hb)) hm;have HB:Hid (∀w',Below W.heap.size W w'->Below w.heap.size w w'∧w'.cell? ⟨w.heap.size,2,none⟩=some (.int .u64 old)):=fun w' hb'=>⟨Qa hb hb',(h6.next hb').cells.2.2.1⟩
 have HE:Hid (¬(old=0∧QN size S=0)∧old<18446744073709551616):=⟨h,hold⟩;clear rs h h6 hb hm hold;generalize QN size S=er at *;generalize (Cv.rstS size S).length=cc at *;generalize S.length=m at *
 by_cases h1:er=0
 ·subst h1;have h2:((old:Int) != 0)=true:=bne_iff_ne.2 (by have:=HE.out;omega)
  go_enter func383,ntmps383
  go_wp2_with (go_at_call 323;(try rw[hW]);with_reducible refine HC.mono ?_;rintro x w1 ⟨rfl,hb1⟩;obtain⟨q1,q2⟩:=HB.out _ hb1)
  go_ret2
  exact⟨rfl,q1⟩
 ·have h2:((er:Int) != 0)=true:=bne_iff_ne.2 (by omega)
  go_enter func383,ntmps383
  go_wp2_with (go_at_call 323;(try rw[hW]);with_reducible refine HC.mono ?_;rintro x w1 ⟨rfl,hb1⟩;obtain⟨q1,q2⟩:=HB.out _ hb1)
  go_ret2
  exact⟨rfl,q1⟩
theorem Qfi(rs:RdU w sa sb so S.length S)(hm:S.length<=17592186044416)(h:QN size S=0) :
  Calls prog 383 #[pv6 kd k 0 size (.slice sa S.length sc) d] w fun e w'=>e= .returned (.tuple #[.int .u64 ((rst 0 size S).length:Nat),.int .i64 0])∧Below w.heap.size w w':=by
 obtain⟨W,hW,h6,hb,hz⟩:=Jq w (.int .i64 kd) (.int .i64 k) (.int .u64 0) (.int .u64 size) (.slice sa S.length sc) d;obtain⟨e0,e1,e2,e3,e4,e5⟩:=h6.cells;have HC:=Cv.QdW size W sa sb so S.length sc S (Qn0 (rs.next hb)) hm h;have HB:Hid (∀w',Below W.heap.size W w'->Below w.heap.size w w'∧w'.cell? ⟨w.heap.size,2,none⟩=some (.int .u64 0)):=fun w' hb'=>⟨Qa hb hb',(h6.next hb').cells.2.2.1⟩
 clear rs h h6 hb hm;generalize (rst 0 size S).length=cc at *;generalize S.length=m at *
 go_enter func383,ntmps383
 go_wp2_with (go_at_call 323;(try rw[hW]);with_reducible refine HC.mono ?_;rintro x w1 ⟨rfl,hb1⟩;obtain⟨q1,q2⟩:=HB.out _ hb1)
 go_ret2
 exact⟨rfl,q1⟩
theorem QlW(hn:size<=2^40)(hS:S.length<=17592186044416)(h:¬(old<=size∧S.length=0)) :
  Calls prog 384 #[pv6 kd k old size (.slice sa S.length sc) d] w fun e w'=>e= .returned (.tuple #[.int .u64 0,.int .i64 150])∧Below w.heap.size w w':=by
 obtain⟨W,hW,h6,hb,hz⟩:=Jq w (.int .i64 kd) (.int .i64 k) (.int .u64 old) (.int .u64 size) (.slice sa S.length sc) d;obtain⟨e0,e1,e2,e3,e4,e5⟩:=h6.cells;have HC:=Cv.Qap old size size W;have HB:Hid (∀w',Below W.heap.size W w'->Below w.heap.size w w'∧w'.cell? ⟨w.heap.size,4,none⟩=some (.slice sa S.length sc)):=fun w' hb'=>⟨Qa hb hb',(h6.next hb').cells.2.2.2.2.1⟩
 have he:Cv.Uv old size size=0↔old<=size:=by
  unfold Cv.Uv;rw[Ld (by omega),Ld (by omega)]
  split <;> omega
 have HE:Hid (¬(Cv.Uv old size size=0∧S.length=0)∧S.length<=17592186044416):=⟨by rw[he];exact h,hS⟩
 clear h h6 hb he hn hS;generalize Cv.Uv old size size=er at *;generalize Cv.zl (Cv.covR old size size)=cc at *;generalize S.length=m at *
 by_cases h1:er=0
 ·subst h1;have h2:((m:Int) != 0)=true:=bne_iff_ne.2 (by have:=HE.out;omega)
  go_enter func384,ntmps384
  go_wp2_with (go_at_call 181;(try rw[hW]);with_reducible refine HC.mono ?_;rintro x w1 ⟨v,rfl,ho,hb1⟩;obtain⟨q1,q2⟩:=HB.out _ hb1)
  go_ret2
  exact⟨rfl,q1⟩
 ·have h2:((er:Int) != 0)=true:=bne_iff_ne.2 (by omega)
  go_enter func384,ntmps384
  go_wp2_with (go_at_call 181;(try rw[hW]);with_reducible refine HC.mono ?_;rintro x w1 ⟨v,rfl,ho,hb1⟩;obtain⟨q1,q2⟩:=HB.out _ hb1)
  go_ret2
  exact⟨rfl,q1⟩
theorem QiZ(hn:size<=2^40)(h1:old<=size) :
  Calls prog 384 #[pv6 kd k old size (.slice sa 0 sc) d] w fun e w'=>e= .returned (.tuple #[.int .u64 (((cov 0 old).length+(cov old size).length:Nat):Int),.int .i64 0])∧Below w.heap.size w w':=by
 obtain⟨W,hW,h6,hb,hz⟩:=Jq w (.int .i64 kd) (.int .i64 k) (.int .u64 old) (.int .u64 size) (.slice sa 0 sc) d;obtain⟨e0,e1,e2,e3,e4,e5⟩:=h6.cells;have HC:=Cv.QeE old size size W hn (La _) h1;have HB:Hid (∀w',Below W.heap.size W w'->Below w.heap.size w w'∧w'.cell? ⟨w.heap.size,4,none⟩=some (.slice sa 0 sc)∧w'.cell? ⟨w.heap.size,2,none⟩=some (.int .u64 old)):=fun w' hb'=>⟨Qa hb hb',(h6.next hb').cells.2.2.2.2.1,(h6.next hb').cells.2.2.1⟩
 have HO:=fun W'=>Pl.UT old W' (by omega)
 have hc1:=Cv.Ot old (by omega)
 have hc2:=Cv.U7 old size h1 hn;have hc3:=Cv.UM old (by omega)
 have hc4:(Cv.zl (cov old size)).length=(cov old size).length:=Cv.Qy _;rw[<-hc1] at HO;generalize (cov 0 old).length=a at *;generalize Cv.zl (cov old size)=Z at *;generalize (cov old size).length=b at *;obtain⟨c,hc⟩:∃c,a+b=c:=⟨_,rfl⟩;rw[hc];have ew2:wrap64 ((a:Int)+(b:Int))=(c:Int):=by unfold wrap64;omega
 have es:IntKind.u64.wrap (c:Int)=(c:Int):=by rw[IntKind.wrap_u64];omega
 have ha:(a:Int)<=40:=by omega
 have hbb:(b:Int)<=80:=by omega
 have HZ:Hid (Z.length=b):=hc4;have HCc:Hid ((a:Int)+(b:Int)=(c:Int)):=(by omega:(a:Int)+(b:Int)=(c:Int))
 clear h6 hb hn h1 hc1 hc2 hc3 hc hc4
 go_enter func384,ntmps384
 go_upto_region 4 with (go_at_call 181;(try rw[hW]);with_reducible refine HC.mono ?_;rintro x w1 ⟨v,rfl,ho,hb1⟩;obtain⟨q1,q2,q3⟩:=HB.out _ hb1;obtain⟨ao,m,cp,rfl⟩:=Cv.Ql ho;obtain rfl:m=b:=by(have h:=Qkx ho;rw[HZ.out] at h;exact h))
 clear ho hb1;have HQ:=Q2 q1;clear q1
 go_wp2_with (go_at_call 138;with_reducible refine(HO _).mono ?_;rintro x w2 ⟨rfl,rfl⟩)
 go_ret2
 refine⟨?_,HQ.out⟩
 show Ending.returned (.tuple #[.int .u64 ((a:Int)+(m:Int)),.int .i64 0])=_
 rw[HCc.out]
end
section
variable (w:World) (kd k:Int) (old size:Nat) (sa:OA) (sb so sc:Nat) (S:List Nat) (d:Value)
theorem Qhs(hn:size<=2^40)(rs:RdU w sa sb so S.length S)(h2:S.length=1)(h3:S.getD 0 0<size) :
  Calls prog 382 #[pv6 kd k 0 size (.slice sa S.length sc) d] w fun e w'=>e= .returned (.tuple #[.int .u64 ((rst 0 size S).length:Nat),.int .i64 0])∧Below w.heap.size w w':=by
 obtain⟨i,rfl⟩:=List.length_eq_one_iff.1 h2;have hp:=rs.ptr (by simp)
 subst hp;rw[show[i].getD 0 0=i from rfl] at h3
 obtain⟨H,g1,g2,g3,g4⟩:=QkF hn h3;obtain⟨W,hW,h6,hb,hz⟩:=Jq w (.int .i64 kd) (.int .i64 k) (.int .u64 0) (.int .u64 size) (.slice (some ⟨sb,so,none⟩) 1 sc) d;obtain⟨e0,e1,e2,e3,e4,e5⟩:=h6.cells;have HB:Hid (Below w.heap.size w W):=hb;have hc:W.cell? ⟨sb,so,none⟩=some (.int .u64 i):=by
  have:=(rs.next hb).at (j:=0) (by simp)
  rw[Iq] at this;exact this
 have hx:=u64_xor_nat size i (by omega) (by omega)
 have h41:(2:Nat)^(H+1)<=2^41:=Nc (by decide) (by omega)
 have HL:=fun W'=>QoI (size ^^^ i) H W' (by omega) g2 g3
 clear h41 g2 g3;have HO:=fun W'=>Pl.UT size W' (by omega)
 have ho:Pl.Qv 64 size<=64:=Pl.Qc9 64 size;obtain⟨c,hcn⟩:∃c,(rst 0 size [i]).length=c:=⟨_,rfl⟩;rw[hcn] at g1 ⊢;have hq0:0<Pl.Qv 64 size:=by
  rw[<-Cv.Ot size hn]
  cases hz:cov 0 size with
  | nil=>
   have ht:=Cv.QaK 0 size (Ln _) hn;rw[hz] at ht;exact absurd ⟨Ln _,h3⟩ (ht.2 i (Ln _) h3)
  | cons b r=>simp
 generalize Pl.Qv 64 size=q at *;have h3':decide ((size:Int)<=(i:Int))=false:=Lx (by omega)
 have h3n:¬size<=i:=by omega
 obtain⟨q',rfl⟩:∃q',q=q'+1:=⟨q-1,by omega⟩
 have eq:((q'+1:Nat):Int)-1=(q':Int):=by omega
 have hq':(q':Int)<=64:=by omega
 have hH':(H:Int)<=40:=by omega
 have hq2:q'<=100:=by omega
 have hc2:c<=1000∧H+q'=c:=by omega
 have HCc:Hid ((H:Int)+(q':Int)=(c:Int)):=(by omega:(H:Int)+(q':Int)=(c:Int))
 have hH2:H<=100:=by omega
 have ew:=QpE q' hq2;have ew2:=QpL H q' hH2 hq2;clear hq2 hc2 g1 hH2;have HB6:Hid (∀n,Six (W.drewN n) w.heap.size (.int .i64 kd) (.int .i64 k) (.int .u64 0) (.int .u64 size) (.slice (some ⟨sb,so,none⟩) 1 sc) d∧(W.drewN n).cell? ⟨sb,so,none⟩=some (.int .u64 i)∧Below w.heap.size w (W.drewN n)):=fun n=>⟨h6.next (Qi (Lb _ _) n),((Qi (Lb W.heap.size W) n).cell (Lf W _ hc)).trans hc,Qi hb n⟩
 clear rs hn h2 h3 g4 h6 hb ho hcn hq0
 go_enter func382,ntmps382
 go_upto_region 1 with (fail)
 try rw[hW]
 clear hW
 go_quiet (fail)
 go_upto_region 3 with (fail)
 have k0:=HB6.out nq;obtain⟨W2,hW2⟩:∃W2,W.drewN nq=W2:=⟨_,rfl⟩
 try rw[hW2]
 rw[hW2] at k0;clear hW2 e0 e1 e2 e3 e4 e5 hc;obtain⟨k0,hc,HW⟩:=k0;obtain⟨e0,e1,e2,e3,e4,e5⟩:=k0.cells;have HW:=Q2 HW
 go_quiet ((go_at_call 408;refine Calls.quiet_of_same (HL _)))
 go_wp2_with (go_at_call 138;with_reducible refine(HO _).mono ?_;rintro x w2 ⟨rfl,rfl⟩)
 go_ret2
 refine⟨?_,Qi HW.out _⟩
 show Ending.returned (.tuple #[.int .u64 ((H:Int)+(q':Int)),.int .i64 0])=_
 rw[HCc.out]
end
def cV:Option Nat->Value
 | some c=> .tuple #[.int .u64 c,.int .i64 0]
 | none=> .tuple #[.int .u64 0,.int .i64 150]
theorem Qma{size i:Nat}(hn:size<=2^40):QN size [i]=0↔i<size :=
 ⟨fun h=>by have:=(Cv.Yu h).2.2.1;simpa using this,fun h=>Cv.Qho ⟨Ln _,h⟩ (by simp) hn⟩
theorem Qi3{k:Int}{old size:Nat}{S:List Nat}(hk:1<=k∧k<=32∧size<=2^40):cnt 1 k old size S=if old=0∧S.length=1∧S.getD 0 0<size then some (rst 0 size S).length else none:=by
 rw[cnt,Lm hk,Lm rfl]
 by_cases h1:S.length=1
 ·obtain⟨i,rfl⟩:=List.length_eq_one_iff.1 h1;have:=Qma (i:=i) hk.2.2;simp only[this]
  rfl
 ·rw[Ld (by rintro⟨_,h,_⟩;exact h1 h),Ld (by rintro⟨_,h,_⟩;exact h1 h)]
theorem Qhp{k:Int}{old size:Nat}{S:List Nat}(hk:1<=k∧k<=32∧size<=2^40):cnt 2 k old size S=if old=0∧QN size S=0 then some (rst 0 size S).length else none:=by
 rw[cnt,Lm hk,Ld (by decide),Lm rfl]
theorem QlZ{k:Int}{old size:Nat}{S:List Nat}(hk:1<=k∧k<=32∧size<=2^40):cnt 3 k old size S=if old<=size∧S=[] then some ((cov 0 old).length+(cov old size).length) else none:=by
 rw[cnt,Lm hk,Ld (by decide),Ld (by decide),Lm rfl]
theorem Qgp{kd k:Int}{old size:Nat}{S:List Nat}(h:¬(1<=k∧k<=32∧size<=2^40)):cnt kd k old size S=none:=by rw[cnt,Ld h]
theorem Qaf{kd k:Int}{old size:Nat}{S:List Nat}(h1:kd≠1)(h2:kd≠2)(h3:kd≠3):cnt kd k old size S=none:=by
 rw[cnt,Ld h1,Ld h2,Ld h3]
 split <;> rfl
section
variable (w:World) (kd k:Int) (old size:Nat) (sa:OA) (sb so sc:Nat) (S:List Nat) (d:Value)
theorem Yi(hold:old<18446744073709551616)(hsz:size<18446744073709551616)(rs:RdU w sa sb so S.length S)(hm0:size<=2^40->S.length<=17592186044416) :
  Calls prog 310 #[pv6 kd k old size (.slice sa S.length sc) d] w fun e w'=>e= .returned (cV (cnt kd k old size S))∧Below w.heap.size w w':=by
 obtain⟨W,hW,h6,hb,hz⟩:=Jq w (.int .i64 kd) (.int .i64 k) (.int .u64 old) (.int .u64 size) (.slice sa S.length sc) d;obtain⟨e0,e1,e2,e3,e4,e5⟩:=h6.cells;have HB:Hid (∀w',Below W.heap.size W w'->Below w.heap.size w w'):=fun w' hb'=>Qa hb hb'
 have HBW:Hid (Below w.heap.size w W):=hb;have rs':=rs.next hb
 by_cases h0:1<=k∧k<=32∧size<=2^40
 ·have hm:=hm0 h0.2.2;clear hm0;have hk1:¬k<1:=by omega
  have hk2:¬32<k:=by omega
  have hk3:¬(1099511627776:Int)<(size:Int):=by omega
  by_cases h1:kd=1
  ·subst h1;rw[Qi3 h0]
   by_cases hc:old=0∧S.length=1∧S.getD 0 0<size
   ·rw[Lm hc];obtain⟨rfl,hc2,hc3⟩:=hc;have HC:Calls prog 382 #[.agg #[.int .i64 1,.int .i64 k,.int .u64 0,.int .u64 size,.slice sa S.length sc,d]] W fun e w'=>e= .returned (.tuple #[.int .u64 ((rst 0 size S).length:Nat),.int .i64 0])∧Below W.heap.size W w':=Qhs W 1 k size sa sb so sc S d h0.2.2 rs' hc2 hc3
    have hz0:((0:Nat):Int)=0:=rfl;rw[hz0] at hW e2;clear hz0;generalize (rst 0 size S).length=cc at *;generalize S.length=m at *;clear rs rs' h6 hb hm h0 hold hsz hc2 hc3
    go_enter func310,ntmps310
    go_wp2_with (go_at_call 382;with_reducible refine HC.mono ?_;rintro x w1 ⟨rfl,hb1⟩)
    go_ret2
    exact⟨rfl,HB.out _ hb1⟩
   ·rw[Ld hc];have HC:=Qi9 W 1 k old size sa sb so sc S d rs' hc;generalize S.length=m at *;clear rs rs' h6 hb hm h0 hold hsz hc
    go_enter func310,ntmps310
    go_wp2_with (go_at_call 382;with_reducible refine HC.mono ?_;rintro x w1 ⟨rfl,hb1⟩)
    go_ret2
    exact⟨rfl,HB.out _ hb1⟩
  ·by_cases h2:kd=2
   ·subst h2;rw[Qhp h0]
    by_cases hc:old=0∧QN size S=0
    ·rw[Lm hc];obtain⟨rfl,hc2⟩:=hc;have HC:Calls prog 383 #[.agg #[.int .i64 2,.int .i64 k,.int .u64 0,.int .u64 size,.slice sa S.length sc,d]] W fun e w'=>e= .returned (.tuple #[.int .u64 ((rst 0 size S).length:Nat),.int .i64 0])∧Below W.heap.size W w':=Qfi W 2 k size sa sb so sc S d rs' hm hc2
     have hz0:((0:Nat):Int)=0:=rfl;rw[hz0] at hW e2;clear hz0;generalize (rst 0 size S).length=cc at *;generalize S.length=m at *;clear rs rs' h6 hb hm h0 hold hsz hc2 h1
     go_enter func310,ntmps310
     go_wp2_with (go_at_call 383;with_reducible refine HC.mono ?_;rintro x w1 ⟨rfl,hb1⟩)
     go_ret2
     exact⟨rfl,HB.out _ hb1⟩
    ·rw[Ld hc];have HC:=Qhl W 2 k old size sa sb so sc S d hold rs' hm hc;generalize S.length=m at *;clear rs rs' h6 hb hm h0 hold hsz hc h1
     go_enter func310,ntmps310
     go_wp2_with (go_at_call 383;with_reducible refine HC.mono ?_;rintro x w1 ⟨rfl,hb1⟩)
     go_ret2
     exact⟨rfl,HB.out _ hb1⟩
   ·by_cases h3:kd=3
    ·subst h3;rw[QlZ h0]
     by_cases hc:old<=size∧S=[]
     ·rw[Lm hc];obtain⟨hc1,rfl⟩:=hc;have HC:=QiZ W 3 k old size sa sc d h0.2.2 hc1;rw[N9] at *;generalize (cov 0 old).length+(cov old size).length=cc at *;clear rs rs' h6 hb hm h0 hold hsz hc1 h1 h2
      go_enter func310,ntmps310
      go_wp2_with (go_at_call 384;with_reducible refine HC.mono ?_;rintro x w1 ⟨rfl,hb1⟩)
      go_ret2
      exact⟨rfl,HB.out _ hb1⟩
     ·rw[Ld hc];have HC:=QlW W 3 k old size sa sc S d h0.2.2 hm (by rintro⟨a,b⟩;exact hc ⟨a,List.length_eq_zero_iff.1 b⟩)
      generalize S.length=m at *;clear rs rs' h6 hb hm h0 hold hsz hc h1 h2
      go_enter func310,ntmps310
      go_wp2_with (go_at_call 384;with_reducible refine HC.mono ?_;rintro x w1 ⟨rfl,hb1⟩)
      go_ret2
      exact⟨rfl,HB.out _ hb1⟩
    ·rw[Qaf h1 h2 h3];generalize S.length=m at *;clear rs rs' h6 hb hm h0 hold hsz
     go_enter func310,ntmps310;go_wp2
     go_ret2
     exact⟨rfl,HBW.out⟩
 ·rw[Qgp h0];clear hm0;generalize S.length=m at *
  by_cases hk1:k<1
  ·clear rs rs' h6 hb h0 hold hsz
   go_enter func310,ntmps310;go_wp2
   go_ret2
   exact⟨rfl,HBW.out⟩
  ·by_cases hk2:32<k
   ·clear rs rs' h6 hb h0 hold hsz
    go_enter func310,ntmps310;go_wp2
    go_ret2
    exact⟨rfl,HBW.out⟩
   ·have hk3:(1099511627776:Int)<(size:Int):=by omega
    clear rs rs' h6 hb h0 hold hsz
    go_enter func310,ntmps310;go_wp2
    go_ret2
    exact⟨rfl,HBW.out⟩
end
end
section
open Cv (QQ)
def Row8(w:World)(B:Nat)(v:Value)(l:List UInt8):Prop :=
 ∃g cap,v= .slice (Zp g) l.length cap∧B<=g∧g<w.heap.size∧w.rangeAt g 0 (cY l)∧w.there g 0 cap∧l.length<=cap
theorem Qon(t:BA):byteCells t=cY t.data.toList:=rfl
theorem QiU(t:BA):Lib.strCells t=cY t.data.toList:=rfl
theorem U6(l m:List UInt8):cY (l++m)=cY l++cY m:=by simp[cY]
theorem Qk0(w:World)(s:BA)(cap:Nat)(hc:s.size<=cap):Row8 (w.alloc (.cells (bytesRow s cap) 5 ((bytesRow s cap).size,(bytesRow s cap).size+1))) w.heap.size (.slice (Zp w.heap.size) s.size cap) s.data.toList:=by
 have hd:s.data.size=s.size:=rfl;have hsz:(bytesRow s cap).size=cap:=by simp only[bytesRow,Array.size_append,Array.size_map,Array.size_replicate,hd];omega
 refine⟨w.heap.size,cap,by rw[Qe],La _,by simp,fun j v hv=> ?_,fun j hj=>⟨?_,?_⟩,by rw[Qe];exact hc⟩
 ·have hj:j<s.data.size:=by have:=(List.getElem?_eq_some_iff.1 hv).1;rw[QE,NZ] at this;exact this
  rw[Lo,World.cell?_alloc_mark,bytesRow_at s cap j hj,<-hv]
  simp[cY,Array.getElem?_eq_getElem hj]
 ·rw[Lo,World.cell?_alloc_mark,Nh (by omega)];rfl
 ·rw[Lo,World.frozen?_alloc_mark,hsz]
  simp;omega
theorem Row8.next{w w':World}{B:Nat}{v:Value}{l:List UInt8}(h:Row8 w B v l)(hb:Below w.heap.size w w'):Row8 w' B v l:=by
 obtain⟨g,cap,rfl,h1,h2,h3,h4,h5⟩:=h;refine⟨g,cap,rfl,h1,Lv h2 hb.size,Qdf hb h2 h3,fun j hj=> ?_,h5⟩
 rw[hb.cell (p:=⟨g,0+j,none⟩) h2,hb.frozen (p:=⟨g,0+j,none⟩) h2];exact h4 j hj
theorem Row8.conv{w:World}{B:Nat}{v:Value}{l:List UInt8}(h:Row8 w B v l):(convert 127 9 v).run prog w= .ok (.string ⟨l.toArray⟩) w:=by
 obtain⟨g,cap,rfl,h1,h2,h3,h4,h5⟩:=h;refine run_convert_bytes_back _ 127 9 5 ⟨g,0,none⟩ cap l underlying127 underlying5 underlying9 fun j hj=> ?_
 rw[Addr.add_mid];exact h3 j _ (by simp[cY,List.getElem?_eq_getElem hj])
theorem QaY{B g:Nat}(hg:B<=g):∀(vs:List Value) (o:Nat) (w:World),Below B w (w.setCells g o vs)
 | [],_,_=>Lb _ _
 | v::r,o,w=>((Lb B w).setCell (p:=⟨g,o,none⟩) hg v).trans (QaY hg r (o+1) _)
theorem QaD(w:World){ops:Array Oper}{rest:List Oper}{o:Oper}{a:Act}{Q:Exit->Act->World->Prop}
  (hg:o.guard=none) (s x:Operand) (hop:o.op=Op.call { callee:=Callee.builtin Builtin.append,args:=#[s,x],argTypes:=#[127,9] })
  (B:Nat) (v:Value) (l:List UInt8) (hs:a.eval s=v) (h:Row8 w B v l) (t:BA) (hx:a.eval x= .string t) (hlen:l.length+t.size<=140737488355328) (hB:B<=w.heap.size)
  (hK:∀v' w',Row8 w' B v' (l++t.data.toList)->Below B w w'->wpList prog ops Q rest (a.put o.dst v') w'):wpList prog ops Q (o::rest) a w:=by
 obtain⟨i0,hi,hz0,hz1,hz2⟩:=info_parts Tryz.infoY;obtain⟨g,cap,rfl,h1,h2,h3,h4,h5⟩:=h;refine wpList_plain hg fun K hK'=> ?_
 have ht:(byteCells t).length=t.size:=by rw[Qon,QE,Qe]
 have main:∃v' w',(Builtin.append_ #[127,9] o.type #[.slice (Zp g) l.length cap,.string t]).run prog w= .ok v' w'∧Row8 w' B v' (l++t.data.toList)∧Below B w w':=by
  by_cases hroom:l.length+t.size<=cap
  ·have hr:=run_append_room_src (P:=prog) w 127 9 o.type 5 i0 underlying127 hi g 0 l.length cap (.string t) t.size (byteCells t) (by rw[hz1];exact Src.ofString w underlying9 t) hroom
    (fun j hj=>by rw[hz1,Nj,Nr];exact(h4 (l.length+j) (by omega)).1) (fun j hj=>by rw[hz1,Nj,Nr];exact(h4 (l.length+j) (by omega)).2)
   refine⟨_,_,hr,⟨g,cap,by simp,h1,?_,?_,World.there_setCells h4 _ _ _,by simp;omega⟩,?_⟩
   ·have:=World.isSome_setCells g (byteCells t) (0+l.length*i0.size) w
    rcases Wg cap with h0|h0
    ·have hb:(byteCells t)=[]:=List.length_eq_zero_iff.1 (by omega)
     rw[hb];exact h2
    ·obtain⟨u,hu⟩:=Option.isSome_iff_exists.1 (this ⟨g,0+0,none⟩ (h4 0 h0).1);exact Lf _ _ hu
   ·rw[hz1,Nj,U6];intro j u hu
    by_cases hj:j<l.length
    ·rw[LE (by rw[QE];exact hj)] at hu
     exact World.rangeAt_setCells_apart h3 g (0+l.length) (byteCells t) (.inr (.inl (by rw[QE];exact La _))) j u hu
    ·rw[LQ (by rw[QE];omega),QE] at hu
     have:=World.rangeAt_setCells_same w g (0+l.length) (byteCells t) (fun j hj=>by rw[Nr];exact h4 (l.length+j) (by omega)) (j-l.length) u hu
     rwa [show 0+l.length+(j-l.length)=0+j by omega] at this
   ·exact QaY h1 _ _ _
  ·have hr:=Lib.run_append_grow_string (P:=prog) w 127 9 o.type 5 i0 (.int .u8 0) underlying127 underlying9 hi hz0 ⟨g,0,none⟩ l.length cap (cY l) (by rw[hz1,QE,Nj]) (fun j u hu=>by rw[Addr.add_mid];exact h3 j u hu) t (by omega) (by omega) (by rw[hz2];exact growslice_fits (by omega) (by omega))
   have hge:=grownCap_ge w (l.length+t.size) cap 5;refine⟨_,_,hr,⟨w.heap.size,grownCap w (l.length+t.size) cap 5,by simp,hB,by simp,?_,?_,by simp;exact hge⟩,?_⟩
   ·intro j u hu
    show(w.drew.alloc _).cell? ⟨w.drew.heap.size,0+j,none⟩=some u
    rw[Nq,Lo];rw[U6,<-QiU] at hu;rw[I6 (by have:=(List.getElem?_eq_some_iff.1 hu).1;simpa using this)]
    simpa using hu
   ·refine Qo w.drew _ 5 _ ?_
    have hz1':(Value.int IntKind.u8 0).cells.size=1:=rfl;simp only[Array.size_append,List.size_toArray,size_zeroCells,hz1',QE,QiU,Qe];omega
   ·exact(Qi (Lb B w) 1).alloc hB _
 obtain⟨v',w',hr,hw,hb⟩:=main;unfold Oper.wp;simp[execOp,hop,resolve,invoke,builtin,hs,hx,hr,Result.andThen];exact hK' _ _ (hK v' w' hw hb)
theorem Qoc(W:World)(t:BA):∃v W',(convert 9 127 (.string t)).run prog W= .ok v W'∧Row8 W' W.heap.size v t.data.toList∧Below W.heap.size W W':=by
 have h:=run_bytes_of_string (P:=prog) W 9 127 5 t underlying9 underlying127 underlying5;exact⟨_,_,h,Qk0 W.drew t _ (grownCap_ge W t.size 0 5),(Qi (Lb _ W) 1).alloc (La _) _⟩
theorem Qa1:∀ {S:List Nat} {x n:Nat},QQ x S n -> ∀j,j<S.length->nxt x (S.take j)<=S.getD j 0∧S.getD j 0<n:=by
 intro S
 induction S with
 | nil=>intro x n _ j hj;simp at hj
 | cons i S ih=>
  intro x n h j hj
  cases j with
  | zero=>exact⟨h.1,by have:=Cv.Yy h.2;simp;omega⟩
  | succ j=>have:=ih h.2 j (by simpa using hj);simpa [nxt] using this
theorem Qef:∀ {S:List Nat} {x n:Nat},QQ x S n->n<=2^64->(QJ x S).length<=10*S.length:=by
 intro S
 induction S with
 | nil=>intro x n _ _;simp[QJ]
 | cons i S ih=>
  intro x n h hn;have:=ih h.2 hn;have:=Cv.Yy h.2;have:=Yv (n:=i-x) (by omega)
  rw[QJ,Le,LD];omega
theorem Qfy{n:Nat}(hn:n<=2^64):∀ {S:List Nat} {x:Nat},QQ x S n -> ∀j,(QJ x (S.take j)).length<=10*S.length:=by
 intro S
 induction S with
 | nil=>intro x _ j;simp[QJ]
 | cons i S ih=>
  intro x h j
  cases j with
  | zero=>simp[QJ]
  | succ j=>
   have:=ih h.2 j;have:=Cv.Yy h.2;have:=Yv (n:=i-x) (by omega)
   rw[I2,QJ,Le,LD];omega
theorem Qf4{S:List Nat}{j:Nat}(hj:j<S.length):S.take (j+1)=S.take j++[S.getD j 0]:=by
 rw[NW,Ll hj,Lc,Ll hj];rfl
theorem QjZ(w:World)(sa:OA)(sb so sc:Nat)(S:List Nat)(n:Nat)(rs:RdU w sa sb so S.length S)(hc:QQ 0 S n)(hn:n<=1099511627776) :
  Calls prog 312 #[.slice sa S.length sc] w fun e w'=>e= .returned (.string ⟨(num S.length++QJ 0 S).toArray⟩)∧Below w.heap.size w w':=by
 have hl:=UK hc;have HN:=fun W=>OL W S.length (by omega)
 have e0:IntKind.u64.wrap (S.length:Int)=(S.length:Int):=by rw[IntKind.wrap_u64];omega
 have HS:Hid (RdU w sa sb so S.length S∧QQ 0 S n∧n<=1099511627776∧S.length<=n):=⟨rs,hc,hn,by omega⟩
 have hm9:(S.length:Int)<=1099511627776:=by omega
 obtain⟨m,hm⟩:∃m,S.length=m:=⟨_,rfl⟩;have HM:Hid (S.length=m):=hm;rw[hm] at HN e0 hm9 ⊢;clear rs hc hn hl hm;have HZ:Hid ((num m).length<=10):=Yv (by omega)
 go_enter func312,ntmps312
 go_upto_region 2 with (go_at_call 311;with_reducible refine(HN _).mono ?_;rintro x w1 ⟨rfl,hb1⟩;(obtain⟨v1,W1,kb1,r1,b1⟩:=Qoc w1 ⟨(num m).toArray⟩))
 have HR:Hid (Row8 W1 w.heap.size v1 (num m++QJ 0 (S.take 0))∧Below w.heap.size w W1):=by
  obtain⟨g,cap,h0,h1,h2⟩:=r1;exact⟨⟨g,cap,by simpa [QJ] using h0,Lu hb1.size h1,by simpa [QJ] using h2⟩,Qa hb1 b1⟩
 clear kb1 r1 b1 hb1 HN;go_wp2
 go_loopg [3,4,6,14] m (fun gg v x i6 ix wr=> ∃(j:Nat),j<=m∧gg=m-j∧ix= .int .i64 j∧x= .int .u64 ((nxt 0 (S.take j):Nat):Int)∧Row8 wr w.heap.size v (num m++QJ 0 (S.take j))∧Below w.heap.size w wr)
 case atStart=>go_light;exact⟨0,Ln _,rfl,rfl,rfl,HR.out.1,HR.out.2⟩
 case round=>
  obtain⟨j,hj,rfl,rfl,rfl,hr,hb⟩:=hrel;obtain⟨k1,k2,k3,k4⟩:=HS.out;have hmm:=HM.out;have hz:=HZ.out;have hj0:(0:Int)<=(j:Int):=Lh _
  by_cases hlt:j<m
  ·have hlt':(j:Int)<(m:Int):=by omega
   obtain⟨g,cap,rfl,hr⟩:=hr;obtain rfl:=k1.ptr (by omega)
   have cj:=(k1.next hb).at (j:=j) (by omega)
   obtain⟨c1,c2⟩:=Qa1 k2 j (by omega)
   have htk:=Qf4 (S:=S) (j:=j) (by omega)
   have hln:=Qfy (n:=n) (by omega) k2 j
   obtain⟨i,hi⟩:∃i,S.getD j 0=i:=⟨_,rfl⟩;rw[hi] at cj c1 c2 htk;obtain⟨y,hy⟩:∃y,nxt 0 (S.take j)=y:=⟨_,rfl⟩;rw[hy] at c1 ⊢;have HN:=fun W=>OL W (i-y) (by omega)
   have hnl:=Yv (n:=i-y) (by omega)
   have e1:IntKind.u64.wrap ((i:Int)-(y:Int))=((i-y:Nat):Int):=by rw[IntKind.wrap_u64];omega
   have e2:IntKind.u64.wrap ((i:Int)+1)=((i+1:Nat):Int):=by rw[IntKind.wrap_u64];omega
   have HX:Hid (num m++QJ 0 (S.take (j+1))=(num m++QJ 0 (S.take j))++num (i-y)∧nxt 0 (S.take (j+1))=i+1∧(num m++QJ 0 (S.take j)).length+(num (i-y)).length<=140737488355328∧Row8 wr w.heap.size (.slice (Zp g) (num m++QJ 0 (S.take j)).length cap) (num m++QJ 0 (S.take j))∧Below w.heap.size w wr∧j+1<=m):=by
    refine⟨by rw[htk,QhL,hy,LH],by rw[htk,QmR],?_,⟨g,cap,rfl,hr⟩,hb,hlt⟩
    rw[Le];omega
   generalize i-y=z at *;generalize num m++QJ 0 (S.take j)=L at *;clear hr hb k1 k2 k3 k4 hmm hz c1 c2 htk hln hi hy hnl hlt HR HS HZ HM
   go_wp2_with (first
    | (go_at_call 311;with_reducible refine(HN _).mono ?_;rintro x w1 ⟨rfl,hb1⟩)
    | (at_builtin;refine QaD _ rfl _ _ rfl w.heap.size _ L rfl (HX.out.2.2.2.1.next hb1) ⟨(num z).toArray⟩ rfl ?c1 ?c2 ?_))
   case c1=>have:=HX.out.2.2.1;rw[show(⟨(num z).toArray⟩:BA).size=(num z).length from by simp[ByteArray.size]];exact this
   case c2=>exact Lu HX.out.2.2.2.2.1.size hb1.size
   intro v2 w2 r2 b2;go_wp2
   go_roundg (m-(j+1))
   case rel=>
    go_light;obtain⟨x1,x2,x3,x4,x5,x6⟩:=HX.out;refine⟨j+1,x6,rfl,by go_num,by rw[x2,Wv];rfl,?_,(x5.trans (hb1.mono x5.size)).trans b2⟩
    rw[x1];exact r2
   case measure=>go_light;have:=HX.out.2.2.2.2.2;omega
  ·obtain rfl:j=m:=by omega
   have hlt':¬(j:Int)<(j:Int):=by omega
   have e:S.take j=S:=by rw[<-hmm,NK]
   rw[e] at hr;obtain⟨L,hL⟩:∃L,num j++QJ 0 S=L:=⟨_,rfl⟩;rw[hL] at hr;have HL:=Q2 hL;clear hL;have cv:=hr.conv;obtain⟨g,cap,rfl,hr⟩:=hr;have HB:=Q2 hb;clear hr hb k1 k2 k3 k4 hmm hz hlt e HR HS HZ HM;go_wp2
   go_ret
   refine⟨?_,HB.out⟩
   rw[HL.out]
   rfl
def hd(p:PV):List UInt8:=UInt8.ofNat p.kd.toNat::UInt8.ofNat p.k.toNat::(num p.size++mid p)
theorem Qjp(p:PV):enc p=hd p++YJ p.D:=by simp[enc,hd,List.append_assoc]
theorem Qdy(a b:List UInt8):(⟨a.toArray⟩:BA)++⟨b.toArray⟩=⟨(a++b).toArray⟩:=by
 apply QiH
 rw[ByteArray.data_append];simp
theorem Qiu(w:World)(a b:Nat)(ha:a<256)(hb:b<256):(convert 127 9 (.slice (Zp w.heap.size) 2 2)).run prog (w.alloc (.cells #[.int .u8 a,.int .u8 b] 5))= .ok (.string ⟨[UInt8.ofNat a,UInt8.ofNat b].toArray⟩) (w.alloc (.cells #[.int .u8 a,.int .u8 b] 5)):=by
 refine run_convert_bytes_back _ 127 9 5 ⟨w.heap.size,0,none⟩ 2 [UInt8.ofNat a,UInt8.ofNat b] underlying127 underlying5 underlying9 fun j hj=> ?_
 rw[Addr.add_mid];have h1:=QR ha;have h2:=QR hb;refine Qp w [.int .u8 a,.int .u8 b] 5 j _ ?_
 match j,hj with
 | 0,_=>simp[h1]
 | 1,_=>simp[h2]
theorem Qlr{W:World}{g a b:Nat}(ha:a<256)(hb:b<256)(h:W.heap[g]? = some (.cells #[.int .u8 a,.int .u8 b] 5 (0,0))):(convert 127 9 (.slice (Zp g) 2 2)).run prog W= .ok (.string ⟨[UInt8.ofNat a,UInt8.ofNat b].toArray⟩) W:=by
 refine run_convert_bytes_back _ 127 9 5 ⟨g,0,none⟩ 2 [UInt8.ofNat a,UInt8.ofNat b] underlying127 underlying5 underlying9 fun j hj=> ?_
 rw[Addr.add_mid,Lo,cell_of_row W g j _ _ (0,0) h];have h1:=QR ha;have h2:=QR hb
 match j,hj with
 | 0,_=>simp[h1]
 | 1,_=>simp[h2]
theorem JD{X w1:World}(h:Below X.drew.heap.size X.drew w1):Below X.heap.size X w1:=⟨h.os,h.tape,h.output,h.size,h.block⟩
theorem Y3{B:Nat}{X w1:World}(h:Below B X w1):Below B X w1.drew:=⟨h.os,h.tape,h.output,h.size,h.block⟩
theorem Qeq(w:World)(a b old size:Nat)(sa:OA)(sb so sc:Nat)(S:List Nat)(D:LB)(d:Value)(c:Nat)(rs:RdU w sa sb so S.length S)(ho:CntOk a b old size S c) :
  Calls prog 219 #[pv6 a b old size (.slice sa S.length sc) d] w fun e w'=>e= .returned (.string ⟨(hd ⟨a,b,old,size,S,D⟩).toArray⟩)∧Below w.heap.size w w':=by
 obtain⟨W,hW,h6,hbw,hz2⟩:=Jq w (.int .i64 a) (.int .i64 b) (.int .u64 old) (.int .u64 size) (.slice sa S.length sc) d;obtain⟨e0,e1,e2,e3,e4,e5⟩:=h6.cells;have i1:=ho.kd1;have i2:=ho.kd3;have i3:=ho.k1;have i4:=ho.k32;have i5:=ho.hsz;have i6:=ho.hold;have i7:=ho.len;have ha:a<256:=by omega
 have hb:b<256:=by omega
 have HN:=fun W'=>OL W' size (by omega)
 have ea:IntKind.u8.wrap (a:Int)=(a:Int):=by rw[IntKind.wrap_u8];omega
 have eb:IntKind.u8.wrap (b:Int)=(b:Int):=by rw[IntKind.wrap_u8];omega
 have ht:=fun W'=>Qiu W' a b ha hb
 have ht1:=fun(W':World)=>Qlr (W:=(W'.alloc (.cells #[.int .u8 a,.int .u8 b] 5)).drew) ha hb (Lt W' _)
 have HA:Hid (∀w1,Below (W.alloc (.cells #[.int .u8 a,.int .u8 b] 5)).heap.size (W.alloc (.cells #[.int .u8 a,.int .u8 b] 5)) w1->(convert 127 9 (.slice (Zp W.heap.size) 2 2)).run prog w1= .ok (.string ⟨[UInt8.ofNat a,UInt8.ofNat b].toArray⟩) w1):=fun w1 hb1=>Qlr ha hb ((hb1.block _ (by simp)).trans (Lt W _))
 have HX:Hid (∀w1,Below W.heap.size W w1->Six w1 w.heap.size (.int .i64 a) (.int .i64 b) (.int .u64 old) (.int .u64 size) (.slice sa S.length sc) d):=fun w1 h=>h6.next h
 have hne:¬w.heap.size=W.heap.size:=by omega
 obtain⟨n0,n1,n2,n3,n4,n5⟩:=(h6.next (bal (Lb _ _) (.cells #[.int .u8 a,.int .u8 b] 5))).cells;have hnl:=Yv (n:=size) (by omega)
 have HRS:Hid (∀F,Below W.heap.size W F->RdU F sa sb so S.length S∧Below w.heap.size w F):=fun F hF=>⟨rs.next (Qa hbw hF),Qa hbw hF⟩
 have HO:=Q2 ho;obtain⟨t1,ht1e⟩:∃t1,(⟨[UInt8.ofNat a,UInt8.ofNat b].toArray⟩:BA)=t1:=⟨_,rfl⟩;obtain⟨t2,ht2e⟩:∃t2,(⟨(num size).toArray⟩:BA)=t2:=⟨_,rfl⟩;have hs1:(t1.size:Int)<=2:=by rw[<-ht1e];simp[ByteArray.size]
 have hs2:(t2.size:Int)<=10:=by rw[<-ht2e];simp[ByteArray.size];omega
 have HT:Hid (∀l,l=mid ⟨a,b,old,size,S,D⟩->t1++t2++(⟨l.toArray⟩:BA)=⟨(hd ⟨a,b,old,size,S,D⟩).toArray⟩):=fun l hl=>by
  rw[<-ht1e,<-ht2e,Qdy,Qdy,hl];simp[hd]
 rw[ht1e] at HA;simp only[ht1e] at ht ht1;simp only[ht2e] at HN;have HI:Hid ((a=1∨a=2∨a=3)∧size<=1099511627776∧old<=size):=⟨by omega,i5,i6⟩
 clear h6 hbw ha hb hz2 hnl ht1e ht2e ho rs i1 i2 i3 i4 i5 i6 i7
 go_enter func219,ntmps219
 go_upto_region 1 with (fail)
 try rw[hW]
 clear hW
 rename_i K hK
 have HKK:Hid (∀F g,Below W.heap.size W F->K { tmps:=#[pv6 (a:Int) (b:Int) old size (.slice sa S.length sc) d,Pq w.heap.size,.string ⟨#[]⟩,.string (t1++t2),Pq w.heap.size,.int .i64 a,.int .u8 a,.pointer (some ⟨w.heap.size,1,none⟩),.int .i64 b,.int .u8 b,.slice (Zp g) 2 2,.string t1,.pointer (some ⟨w.heap.size,3,none⟩),.int .u64 size,.string t2,.string (t1++t2),undef,undef,undef,undef,undef,undef,undef,undef,undef,undef,undef,undef,undef,undef,undef,undef,undef,undef,undef,undef,undef,undef,undef],defers:=[] } F):=by
  intro F g hF;refine hK _ _ ?_
  obtain⟨k0,k1,k2,k3,k4,k5⟩:=(HX.out _ hF).cells;obtain⟨RF,BF⟩:=HRS.out _ hF;have HB:=Q2 BF;clear n0 n1 n2 n3 n4 n5 e0 e1 e2 e3 e4 e5 ht ht1 HA HN hF hK hne
  rcases HI.out.1 with h|h|h
  ·have hb1:((a:Int) == 1)=true:=beq_iff_eq.2 (by omega)
   obtain⟨hl,ho⟩:=HO.out.one (by omega)
   obtain rfl:=RF.ptr (by omega)
   have hc:=RF.at (j:=0) (by omega)
   rw[Iq] at hc;have h0:(0:Int)<(S.length:Int):=by omega
   have h0':0<S.length:=by omega
   have hlt:=(Qa1 HO.out.chain 0 (by omega)).2
   have HM:=fun W'=>OL W' (S.getD 0 0) (by have:=HI.out;omega)
   have hnl:=Yv (n:=S.getD 0 0) (by have:=HI.out;omega)
   have HT2:Hid (t1++t2++(⟨(num (S.getD 0 0)).toArray⟩:BA)=⟨(hd ⟨a,b,old,size,S,D⟩).toArray⟩):=HT.out _ (by rw[mid,Lm (show(a:Int)=1 by omega)])
   generalize S.getD 0 0=i at *;obtain⟨t3,ht3⟩:∃t3,(⟨(num i).toArray⟩:BA)=t3:=⟨_,rfl⟩;have hs3:(t3.size:Int)<=10:=by rw[<-ht3];simp[ByteArray.size];omega
   simp only[ht3] at HM;rw[ht3] at HT2;clear h hl ho hlt hnl ht3 RF BF
   go_wp2_with (go_at_call 311;with_reducible refine(HM _).mono ?_;rintro x w3 ⟨rfl,hb3⟩)
   go_ret
   exact⟨by rw[<-HT2.out];rfl,Qa HB.out hb3⟩
  ·have hb1:((a:Int) == 1)=false:=beq_false_of_ne (by omega)
   have hb2:((a:Int) == 2)=true:=beq_iff_eq.2 (by omega)
   have HM:=QjZ F sa sb so sc S size RF HO.out.chain HI.out.2.1;have hll:=Qef HO.out.chain (by have:=HI.out;omega)
   have hln:=HO.out.len;have hnl:=Yv (n:=S.length) (by have:=HI.out;omega)
   have HT2:Hid (t1++t2++(⟨(num S.length++QJ 0 S).toArray⟩:BA)=⟨(hd ⟨a,b,old,size,S,D⟩).toArray⟩):=HT.out _ (by rw[mid,Ld (show ¬(a:Int)=1 by omega),Lm (show(a:Int)=2 by omega)])
   obtain⟨t3,ht3⟩:∃t3,(⟨(num S.length++QJ 0 S).toArray⟩:BA)=t3:=⟨_,rfl⟩;have hs3:(t3.size:Int)<=35184372088832:=by rw[<-ht3];have:=HI.out;simp[ByteArray.size];omega
   rw[ht3] at HT2 HM;clear h hll hln hnl ht3 RF BF
   go_wp2_with (go_at_call 312;with_reducible refine HM.mono ?_;rintro x w3 ⟨rfl,hb3⟩)
   go_ret
   exact⟨by rw[<-HT2.out];rfl,Qa HB.out hb3⟩
  ·have hb1:((a:Int) == 1)=false:=beq_false_of_ne (by omega)
   have hb2:((a:Int) == 2)=false:=beq_false_of_ne (by omega)
   have HM:=fun W'=>OL W' old (by have:=HI.out;omega)
   have hnl:=Yv (n:=old) (by have:=HI.out;omega)
   have HT2:Hid (t1++t2++(⟨(num old).toArray⟩:BA)=⟨(hd ⟨a,b,old,size,S,D⟩).toArray⟩):=HT.out _ (by rw[mid,Ld (show ¬(a:Int)=1 by omega),Ld (show ¬(a:Int)=2 by omega)])
   obtain⟨t3,ht3⟩:∃t3,(⟨(num old).toArray⟩:BA)=t3:=⟨_,rfl⟩;have hs3:(t3.size:Int)<=10:=by rw[<-ht3];simp[ByteArray.size];omega
   simp only[ht3] at HM;rw[ht3] at HT2;clear h hnl ht3 RF BF
   go_wp2_with (go_at_call 311;with_reducible refine(HM _).mono ?_;rintro x w3 ⟨rfl,hb3⟩)
   go_ret
   exact⟨by rw[<-HT2.out];rfl,Qa HB.out hb3⟩
 clear hK HT HI HO HRS
 go_region_with (go_at_call 311;(with_reducible refine(HN _).mono ?_);rintro x w1 ⟨rfl,hb1⟩;(have hb2:Below W.heap.size W w1:=by first|exact hb1|exact JD hb1|exact Qa (bal (Lb _ _) _) hb1|exact Qa (bal (Lb _ _) _) (JD hb1));(obtain⟨k0,k1,k2,k3,k4,k5⟩:=(HX.out _ hb2).cells);(first|(have hcv:=HA.out _ (JD hb1))|(have hcv:=HA.out _ hb1)|skip))
 all_goals exact HKK.out _ _ (by first|exact hb2|exact Y3 hb2|exact bal hb2 _|exact Y3 (bal hb2 _)|exact bal (Y3 hb2) _|exact Y3 (Y3 hb2)|exact Y3 (bal (Y3 hb2) _))
end
structure RdPC(w:World)(sa:OA)(sb so sc:Nat)(da:OA)(db dO dc:Nat)(P:PV):Prop where
 rs:RdU w sa sb so P.S.length P.S
 rd:RdS w da db dO P.D.length P.D
 old64:P.old<18446744073709551616
 sz64:P.size<18446744073709551616
 mS:P.S.length<=17592186044416
 mD:P.D.length<=8796093022208
 cD:P.D.length<=dc
theorem RdPC.next{w w':World}{sa:OA}{sb so sc:Nat}{da:OA}{db dO dc:Nat}{P:PV}(h:RdPC w sa sb so sc da db dO dc P)(hb:Below w.heap.size w w'):RdPC w' sa sb so sc da db dO dc P :=
 ⟨h.rs.next hb,h.rd.next hb (La _),h.old64,h.sz64,h.mS,h.mD,h.cD⟩
abbrev pvP(P:PV)(sa:OA)(sc:Nat)(da:OA)(dc:Nat):Value:=pv6 P.kd P.k P.old P.size (.slice sa P.S.length sc) (.slice da P.D.length dc)
theorem QnH{P:PV}{j:Nat}(hj:j<P.D.length)(h:((P.D.getD j ByteArray.empty).size:Int)≠P.k):¬Uu P:=fun hw=>h (hw.2 _ (Q1 hj))
theorem Qlu{P:PV}(hc:cnt P.kd P.k P.old P.size P.S=some P.D.length)(h:∀j,j<P.D.length->((P.D.getD j ByteArray.empty).size:Int)=P.k):Uu P :=
 ⟨hc,fun d hd=>by
  obtain⟨j,hj,rfl⟩:=ND hd;have:=h j hj
  rwa [Lc,Ll hj] at this⟩
section
variable (w:World) (sa:OA) (sb so sc:Nat) (da:OA) (db dO dc:Nat) (P:PV)
theorem Qlv(hp:RdPC w sa sb so sc da db dO dc P) :
  Calls prog 218 #[pvP P sa sc da dc] w fun e w'=>e= .returned (.bool (decide (Uu P)))∧Below w.heap.size w w':=by
 obtain⟨kd,k,old,size,S,D⟩:=P;obtain⟨rs,rd,h1,h2,h3,h4,_⟩:=hp;simp only at rs rd h1 h2 h3 h4
 show Calls prog 218 #[pv6 kd k old size (.slice sa S.length sc) (.slice da D.length dc)] w _
 obtain⟨W,hW,h6,hb,hz⟩:=Jq w (.int .i64 kd) (.int .i64 k) (.int .u64 old) (.int .u64 size) (.slice sa S.length sc) (.slice da D.length dc);obtain⟨e0,e1,e2,e3,e4,e5⟩:=h6.cells;have HC:=Yi W kd k old size sa sb so sc S (.slice da D.length dc) h1 h2 (rs.next hb) (fun _=>h3)
 have HX:Hid (∀F,Below W.heap.size W F->Six F w.heap.size (.int .i64 kd) (.int .i64 k) (.int .u64 old) (.int .u64 size) (.slice sa S.length sc) (.slice da D.length dc)∧RdS F da db dO D.length D∧Below w.heap.size w F):=fun F hF=>⟨h6.next hF,rd.next (Qa hb hF) (La _),Qa hb hF⟩
 have hD9:(D.length:Int)<=8796093022208:=by omega
 have eD:IntKind.u64.wrap (D.length:Int)=(D.length:Int):=by rw[IntKind.wrap_u64];omega
 clear rs rd h1 h2 h3 h4 h6 hb hz
 rcases hc:cnt kd k old size S with _|c
 ·have hw:decide (Uu ⟨kd,k,old,size,S,D⟩)=false:=Lx (fun hw=>by have:=hw.1;simp only[hc] at this;cases this)
  rw[hc] at HC;simp only[cV] at HC;rw[hw];generalize S.length=ms at *;generalize D.length=md at *;clear hc hw
  go_enter func218,ntmps218
  go_wp2_with (go_at_call 310;(try rw[hW]);with_reducible refine HC.mono ?_;rintro x w1 ⟨rfl,hb1⟩;(obtain⟨q1,q2,q3⟩:=HX.out _ hb1))
  go_ret
  exact⟨rfl,q3⟩
 ·rw[hc] at HC;simp only[cV] at HC
  by_cases hcd:c=D.length
  ·subst hcd;have HCN:=Q2 hc;clear hc;obtain⟨m,hm⟩:∃m,D.length=m:=⟨_,rfl⟩;have HM:=Q2 hm;have HX2:Hid (∀F,Below W.heap.size W F->Six F w.heap.size (.int .i64 kd) (.int .i64 k) (.int .u64 old) (.int .u64 size) (.slice sa S.length sc) (.slice da m dc)∧RdS F da db dO m D∧Below w.heap.size w F):=by rw[<-hm];exact HX
   rw[hm] at HC hD9 eD hW e5 ⊢;clear hm HX;generalize S.length=ms at *
   go_enter func218,ntmps218
   go_upto_region 5 with (go_at_call 310;(try rw[hW]);with_reducible refine HC.mono ?_;rintro x w1 ⟨rfl,hb1⟩;(obtain⟨q1,q2,q3⟩:=HX2.out _ hb1);(obtain⟨k0,k1,k2,k3,k4,k5⟩:=q1.cells))
   have HQ:Hid (RdS w1 da db dO m D∧Below w.heap.size w w1):=⟨q2,q3⟩;clear q1 q2 q3 hb1 HC HX2 hW e0 e1 e2 e3 e4 e5;go_wp2
   go_loopg [6,25] m (fun gg i6 ix wr=>w1=wr ∧ ∃j:Nat,j<=m∧gg=m-j∧ix= .int .i64 j∧Hid (∀t,t<j->((D.getD t ByteArray.empty).size:Int)=k))
   case atStart=>go_light;exact⟨rfl,0,Ln _,rfl,rfl,fun t ht=>absurd ht (Ib _)⟩
   case round=>
    obtain⟨rfl,j,hj,rfl,rfl,HA⟩:=hrel;have hj0:(0:Int)<=(j:Int):=Lh _;have hmm:=HM.out
    by_cases hlt:j<m
    ·have hlt':(j:Int)<(m:Int):=by omega
     obtain rfl:=HQ.out.1.ptr (by omega)
     have cj:=HQ.out.1.at (k:=j) hlt;have hsz:=HQ.out.1.sz _ (Q1 (ss:=D) (k:=j) (by omega))
     obtain⟨x,hx⟩:∃x,D.getD j ByteArray.empty=x:=⟨_,rfl⟩;have HXX:=Q2 hx;rw[hx] at cj hsz;clear hx
     by_cases hk:(x.size:Int)=k
     ·have HA2:Hid (∀t,t<j+1->((D.getD t ByteArray.empty).size:Int)=k):=fun t ht=>by
       rcases IU t j with h|h
       ·exact HA.out t h
       ·obtain rfl:t=j:=by omega
        rw[HXX.out];exact hk
      have hk1:((x.size:Int) != k)=false:=by rw[hk];simp
      clear hk hmm HA;go_wp2
      go_roundg (m-(j+1))
      case rel=>go_light;exact⟨rfl,j+1,hlt,rfl,by go_num,HA2⟩
      case measure=>go_light;omega
     ·have hk1:((x.size:Int) != k)=true:=bne_iff_ne.2 hk;have HW:Hid (decide (Uu ⟨kd,k,old,size,S,D⟩)=false):=Lx (QnH (j:=j) (by simp only;omega) (by simp only;rw[HXX.out];exact hk))
      clear hk hmm HA;go_wp2
      go_ret
      exact⟨by rw[HW.out];rfl,HQ.out.2⟩
    ·obtain rfl:j=m:=by omega
     have hlt':¬(j:Int)<(j:Int):=by omega
     have HW:Hid (decide (Uu ⟨kd,k,old,size,S,D⟩)=true):=LV (Qlu (by simp only;exact HCN.out) (fun t ht=>by simp only at ht ⊢;exact HA.out t (by omega)))
     clear hmm HA;go_wp2
     go_ret
     exact⟨by rw[HW.out];rfl,HQ.out.2⟩
  ·have hw:decide (Uu ⟨kd,k,old,size,S,D⟩)=false:=Lx (fun hw=>by have:=hw.1;simp only[hc] at this;cases this;exact hcd rfl)
   rw[hw];have hne:((c:Int) != (D.length:Int))=true:=bne_iff_ne.2 (by omega)
   generalize S.length=ms at *;generalize D.length=md at *;clear hc hw hcd
   go_enter func218,ntmps218
   go_wp2_with (go_at_call 310;(try rw[hW]);with_reducible refine HC.mono ?_;rintro x w1 ⟨rfl,hb1⟩;(obtain⟨q1,q2,q3⟩:=HX.out _ hb1);(obtain⟨k0,k1,k2,k3,k4,k5⟩:=q1.cells))
   go_ret
   exact⟨rfl,q3⟩
theorem QjH{P:PV}{c:Nat}(ho:CntOk P.kd P.k P.old P.size P.S c):(hd P).length<=35184372088832:=by
 have h1:=Yv (n:=P.size) (by have:=ho.hsz;omega)
 have h2:(mid P).length<=11*1099511627776+10:=by
  unfold mid;have hl:=ho.len;have hz:=ho.hsz
  split
  ·rename_i h
   obtain⟨g1,g2⟩:=ho.one h;have:=Yv (n:=P.S.getD 0 0) (by have:=(Qa1 ho.chain 0 (by omega)).2;omega)
   omega
  ·split
   ·have:=Qef ho.chain (by omega)
    have:=Yv (n:=P.S.length) (by omega)
    rw[Le];omega
   ·have:=Yv (n:=P.old) (by have:=ho.hold;omega)
    omega
 rw[hd,LD,LD,Le];omega
theorem QgA{P:PV}(h:Uu P):(YJ P.D).length<=35184372088832:=by
 have ho:=QS h.1;have hk:=ho.k32;have hk1:=ho.k1;obtain⟨b,hb⟩:∃b:Nat,P.k=b:=⟨P.k.toNat,by omega⟩
 have e:(YJ P.D).length=P.D.length*b:=Qd5 (fun d hd=>by have:=h.2 d hd;omega)
 have:=ho.hc;have:P.D.length*b<=1099511627776*32:=WB this (by omega)
 omega
theorem Ql7{P:PV}(h:Uu P):(enc P).length<=70368744177664:=by
 have h1:=QjH (QS h.1);have h2:=QgA h;rw[Qjp,Le];omega
theorem Qfn(hp:RdPC w sa sb so sc da db dO dc P)(h:Uu P) :
  Calls prog 131 #[pvP P sa sc da dc] w fun e w'=>e= .returned (.tuple #[.string ⟨(enc P).toArray⟩,.int .i64 0])∧Below w.heap.size w w':=by
 obtain⟨W,hW,h6,hb,hz⟩:=Jq w (.int .i64 P.kd) (.int .i64 P.k) (.int .u64 P.old) (.int .u64 P.size) (.slice sa P.S.length sc) (.slice da P.D.length dc);obtain⟨e0,e1,e2,e3,e4,e5⟩:=h6.cells;have HC:=Qlv W sa sb so sc da db dO dc P (hp.next hb);rw[LV h] at HC;have ho:=QS h.1;have hl1:=QjH ho;have hl2:=QgA h;obtain⟨kd,k,old,size,S,D⟩:=P;simp only at e0 e1 e2 e3 e4 e5 hW ho hl1 hl2;simp only[pvP] at HC
 show Calls prog 131 #[pv6 kd k old size (.slice sa S.length sc) (.slice da D.length dc)] w _
 have i1:=ho.kd1;have i3:=ho.k1;obtain⟨a,rfl⟩:∃a:Nat,kd=a:=⟨kd.toNat,by omega⟩
 obtain⟨b,rfl⟩:∃b:Nat,k=b:=⟨k.toNat,by omega⟩
 have HX:Hid (∀F,Below W.heap.size W F->Six F w.heap.size (.int .i64 a) (.int .i64 b) (.int .u64 old) (.int .u64 size) (.slice sa S.length sc) (.slice da D.length dc)∧Below w.heap.size w F):=fun F hF=>⟨h6.next hF,Qa hb hF⟩
 have HNum:Hid (∀F,Below W.heap.size W F->Calls prog 219 #[pv6 a b old size (.slice sa S.length sc) (.slice da D.length dc)] F fun e w'=>e= .returned (.string ⟨(hd ⟨a,b,old,size,S,D⟩).toArray⟩)∧Below F.heap.size F w'):=fun F hF=>Qeq F a b old size sa sb so sc S D (.slice da D.length dc) _ (hp.next (Qa hb hF)).rs ho
 have HJ:Hid (∀F,Below W.heap.size W F->Calls prog 173 #[.slice da D.length dc,.string ByteArray.empty] F fun e w'=>e= .returned (.string ⟨(YJ D).toArray⟩)∧Below F.heap.size F w'):=fun F hF=>QhE F da db dO dc D (hp.next (Qa hb hF)).rd hp.cD (by have:=hp.mD;simp only at this;omega) (by omega)
 obtain⟨t1,ht1⟩:∃t1,(⟨(hd ⟨a,b,old,size,S,D⟩).toArray⟩:BA)=t1:=⟨_,rfl⟩;obtain⟨t2,ht2⟩:∃t2,(⟨(YJ D).toArray⟩:BA)=t2:=⟨_,rfl⟩;have hs1:(t1.size:Int)<=35184372088832:=by rw[<-ht1];simp[ByteArray.size];omega
 have hs2:(t2.size:Int)<=35184372088832:=by rw[<-ht2];simp[ByteArray.size];omega
 have HT:Hid (t1++t2=(⟨(enc ⟨a,b,old,size,S,D⟩).toArray⟩:BA)):=by rw[<-ht1,<-ht2,Qdy,Qjp];exact rfl
 rw[ht1] at HNum;rw[ht2] at HJ;clear hp h h6 hb hz ho hl1 hl2 i1 i3 ht1 ht2;generalize S.length=ms at *;generalize D.length=md at *
 go_enter func131,ntmps131
 go_upto_region 3 with (go_at_call 218;(try rw[hW]);with_reducible refine HC.mono ?_;rintro x w1 ⟨rfl,hb1⟩)
 obtain⟨q1,q2⟩:=HX.out _ hb1;obtain⟨k0,k1,k2,k3,k4,k5⟩:=q1.cells;clear q1 q2 e0 e1 e2 e3 e4 e5 hW HC
 go_region_with (first
  | (go_at_call 219;(refine(HNum.out _ (by first|exact hb1|exact Y3 hb1)).mono ?_);rintro x w2 ⟨rfl,hb2⟩;(have hw2:Below W.heap.size W w2:=by first|exact Qa hb1 hb2|exact Qa hb1 (JD hb2));(obtain⟨m0,m1,m2,m3,m4,m5⟩:=(HX.out _ hw2).1.cells))
  | (go_at_call 173;(refine(HJ.out _ (by first|exact hw2|exact Y3 hw2)).mono ?_);rintro x w3 ⟨rfl,hb3⟩;(have hw3:Below W.heap.size W w3:=by first|exact Qa hw2 hb3|exact Qa hw2 (JD hb3))))
 all_goals
  go_wp2
  go_ret2
  exact⟨by rw[<-HT.out];rfl,(HX.out _ (by first|exact hw3|exact Y3 hw3|exact Y3 (Y3 hw3))).2⟩
end
end Go.Proofs.YtoblgjledefdbaaGreatDoor
