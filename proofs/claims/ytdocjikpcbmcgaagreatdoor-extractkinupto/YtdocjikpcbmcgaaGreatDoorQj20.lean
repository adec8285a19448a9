/- Own work. -/
import Derived.Test.YtdocjikpcbmcgaaGreatDoorQj19
set_option maxRecDepth 100000
set_option maxHeartbeats 4000000
namespace Go.Proofs.YtdocjikpcbmcgaaGreatDoor
open Go.RowKit
attribute [local go_sem ↓] Go.wp_at_zero Go.wp_at_succ
def rnb(T:BA)(a e:Nat):Nat×Nat×Nat :=
 if e≠0 then (a,e,0) else (if (Q9 (T.data.toList.drop a) 0 0).2.1=0 then a+(Q9 (T.data.toList.drop a) 0 0).2.2 else a,(Q9 (T.data.toList.drop a) 0 0).2.1,(Q9 (T.data.toList.drop a) 0 0).1)
theorem QfG{T:BA}{a n k:Nat}(h:Q9 (T.data.toList.drop a) 0 0=(n,0,k)):rnb T a 0=(a+k,0,n):=by
 simp[rnb,h]
theorem Qba{T:BA}{a n e k:Nat}(h:Q9 (T.data.toList.drop a) 0 0=(n,e,k))(he:e≠0):rnb T a 0=(a,e,n):=by
 simp[rnb,h,he]
theorem mul7(n b k o:Nat)(ho:o=128^k)(hn:n<128^k)(hk:k<=9)(h:k=9->b<=1) :
  ∃x m,IntKind.u64.wrap ((o:Int)*((b:Int) % 128))=((x:Nat):Int)∧IntKind.u64.wrap ((n:Int)+(x:Int))=((m:Nat):Int)∧m=n+b % 128*128^k∧x<18446744073709551616∧m<18446744073709551616:=by
 obtain⟨_,h2⟩:=or7 n b k hn hk h;subst ho;have e:((128^k:Nat):Int)*((b:Int) % 128)=((b % 128*128^k:Nat):Int):=by
  rw[Int.mul_comm,N5];rfl
 refine⟨b % 128*128^k,n+b % 128*128^k,?_,?_,rfl,by omega,h2⟩
 ·rw[e,IntKind.wrap_u64];omega
 ·rw[IntKind.wrap_u64];omega
theorem pow7(k:Nat)(hk:k<9)(o:Nat)(ho:o=128^k):IntKind.u64.wrap ((o:Int)*128)=((o*128:Nat):Int)∧o*128=128^(k+1):=by
 subst ho;have hp:128^(k+1)<=128^9:=Qa4 (by omega)
 have e9:(128:Nat)^9=9223372036854775808:=by decide
 rw[LA] at hp;refine⟨?_,(LA ..).symm⟩
 rw[IntKind.wrap_u64];omega
theorem UO(w:World)(T:BA)(a e:Nat)(ha:a<=T.size)(hT:T.size<=9223372036854775000) :
  Calls Tryz.prog 136 #[rv T a e] w fun x w'=>x = .returned (.tuple #[rv T (rnb T a e).1 (rnb T a e).2.1,.int .u64 ((rnb T a e).2.2:Int),.int .i64 ((rnb T a e).2.1:Int)])∧Zb w w':=by
 by_cases he:e=0
 ·subst he
  go_enter Tryz.func136,Tryz.ntmps136;go_wp2
  go_loopg [5,6,7] 10 (fun g x o i wr=>(w.alloc (.cells #[.string T,.int .i64 (a:Int),.int .i64 0] 181)).alloc (.cells #[.string ByteArray.empty,.int .i64 0,.int .i64 0] 181)=wr ∧
   ∃(k n p:Nat),a+k<=T.size∧k<=9∧10 - k=g∧x = .int .u64 (n:Int)∧o = .int .u64 (p:Int)∧i = .int .i64 k∧Hid (p=128^k∧n<128^k∧Q9 (T.data.toList.drop (a+k)) k n=Q9 (T.data.toList.drop a) 0 0))
  case atStart =>
   go_light;exact⟨rfl,0,0,1,by omega,by omega,rfl,rfl,rfl,rfl,rfl,by decide,rfl⟩
  case round =>
   obtain⟨rfl,k,n,p,hk,h9,rfl,rfl,rfl,rfl,HS⟩:=hrel;obtain⟨j,hj⟩ : ∃j,j=a+k:=⟨_,rfl⟩;have ej:(a:Int)+(k:Int)=(j:Int):=by omega
   obtain⟨hp,hn,hsc⟩:=HS.out;rw[<-hj] at hsc hk;have HJ:=Qg hj;clear HS hj
   by_cases hlt:j<T.size
   ·have hz : ¬(T.size:Int)<=(j:Int):=by omega
    have hz2:(j:Int)<(T.size:Int):=by omega
    obtain⟨b,hb⟩:=Ze (T[j].toNat);have hb8:b<256:=by rw[<-hb];exact T[j].toNat_lt
    rw[Qf1 T j hlt,Q9,hb] at hsc
    by_cases hi:k=9∧1<b
    ·obtain⟨rfl,hi⟩:=hi;have ej9:(a:Int)+9=(j:Int):=ej;clear ej;rw[if_pos ⟨rfl,hi⟩] at hsc;have HT:=Qg (Qba hsc.symm (by decide))
     have hi':(1:Int)<(b:Int):=by omega
     clear hsc hn hp;go_wp2
     go_region
     go_wp2;refine bodyPost_ret (v := .tuple #[rv T a 61,.int .u64 0,.int .i64 61]) (by simp[results,Tryz.results136,go_sem]) rfl ?_
     rw[HT.out];exact⟨rfl,Yv (QR w _ _)⟩
    ·obtain⟨x,m,ex,em,hm,hx,hmlt⟩:=mul7 n b k p hp hn h9 (by omega)
     rw[if_neg hi] at hsc
     by_cases hl:b<128
     ·rw[if_pos hl,<-show b % 128=b from Nx hl,<-hm,show b % 128=b from Nx hl] at hsc
      have hl':(b:Int)<128:=by omega
      by_cases h0:b=0∧0<k
      ·rw[if_pos h0] at hsc;have HT:=Qg (Qba hsc.symm (by decide))
       obtain⟨rfl,h0⟩:=h0;have h0':(0:Int)<(k:Int):=by omega
       clear hsc hn hm hp ex em hx hmlt
       by_cases hk9:k=9
       ·subst hk9;have ej9:(a:Int)+9=(j:Int):=ej;clear ej;go_wp2
        go_region
        go_wp2;refine bodyPost_ret (v := .tuple #[rv T a 61,.int .u64 0,.int .i64 61]) (by simp[results,Tryz.results136,go_sem]) rfl ?_
        rw[HT.out];exact⟨rfl,Yv (QR w _ _)⟩
       ·have hq : ¬(k:Int)=9:=by omega
        go_wp2
        go_region
        go_wp2;refine bodyPost_ret (v := .tuple #[rv T a 61,.int .u64 0,.int .i64 61]) (by simp[results,Tryz.results136,go_sem]) rfl ?_
        rw[HT.out];exact⟨rfl,Yv (QR w _ _)⟩
      ·rw[if_neg h0] at hsc;have HT:Hid (rnb T a 0=(j+1,0,m)):=by show _=_;rw[QfG hsc.symm,HJ.out];rfl
       clear hsc hn hm hp
       by_cases hk9:k=9
       ·subst hk9;have ej9:(a:Int)+9=(j:Int):=ej;clear ej;have hb1 : ¬(1:Int)<(b:Int):=by omega
        have hb0 : ¬(b:Int)=0:=by omega
        go_wp2;refine bodyPost_ret (v := .tuple #[rv T (j+1) 0,.int .u64 (m:Int),.int .i64 0]) (by simp[results,Tryz.results136,go_sem]) rfl ?_
        rw[HT.out];exact⟨rfl,QR w _ _⟩
       ·have hq : ¬(k:Int)=9:=by omega
        by_cases hk0:k=0
        ·subst hk0;obtain rfl:j=a:=by have:=HJ.out;omega
         clear ej;go_wp2;refine bodyPost_ret (v := .tuple #[rv T (j+1) 0,.int .u64 (m:Int),.int .i64 0]) (by simp[results,Tryz.results136,go_sem]) rfl ?_
         rw[HT.out];exact⟨rfl,QR w _ _⟩
        ·have hk0':(0:Int)<(k:Int):=by omega
         have hb0 : ¬(b:Int)=0:=by omega
         go_wp2;refine bodyPost_ret (v := .tuple #[rv T (j+1) 0,.int .u64 (m:Int),.int .i64 0]) (by simp[results,Tryz.results136,go_sem]) rfl ?_
         rw[HT.out];exact⟨rfl,QR w _ _⟩
     ·have hq : ¬(k:Int)=9:=by omega
      have hl' : ¬(b:Int)<128:=by omega
      have hb0 : ¬(b:Int)=0:=by omega
      obtain⟨ep,hpp⟩:=pow7 k (by omega) p hp
      have HS:Hid (p*128=128^(k+1)∧m<128^(k+1)∧Q9 (T.data.toList.drop (a+(k+1))) (k+1) m=Q9 (T.data.toList.drop a) 0 0):=by
       rw[if_neg hl,<-hm] at hsc;refine⟨hpp,?_,by have:=HJ.out;rw[show a+(k+1)=j+1 by omega];exact hsc⟩
       rw[hm,LA];have:b % 128*128^k<=127*128^k:=Lo _ (by omega)
       omega
      clear hsc hn hm hp hpp
      by_cases hk0:k=0
      ·subst hk0;obtain rfl:j=a:=by have:=HJ.out;omega
       clear ej;go_wp2
       go_roundg (10 - (0+1))
       case rel =>
        go_light;exact⟨rfl,0+1,m,p*128,by have:=HJ.out;omega,by omega,rfl,rfl,rfl,by go_num,HS.out⟩
       case measure=>go_light;omega
      ·have hk0':(0:Int)<(k:Int):=by omega
       go_wp2
       go_roundg (10 - (k+1))
       case rel =>
        go_light;exact⟨rfl,k+1,m,p*128,by have:=HJ.out;omega,by omega,rfl,rfl,rfl,by go_num,HS.out⟩
       case measure=>go_light;omega
   ·obtain rfl:j=T.size:=by omega
    rw[Nb (by simp),Q9] at hsc
    have HT:=Qg (Qba hsc.symm (by decide))
    clear hsc hn hp;go_wp2
    go_region
    go_wp2;refine bodyPost_ret (v := .tuple #[rv T a 60,.int .u64 0,.int .i64 60]) (by simp[results,Tryz.results136,go_sem]) rfl ?_
    rw[HT.out];exact⟨rfl,Yv (QR w _ _)⟩
 ·have ht:rnb T a e=(a,e,0):=by rw[rnb,if_pos he]
  rw[ht];have hz : ¬(e:Int)=0:=by omega
  go_enter Tryz.func136,Tryz.ntmps136;go_wp2
  go_region
  go_wp2;refine bodyPost_ret (v := .tuple #[rv T a e,.int .u64 0,.int .i64 e]) (by simp[results,Tryz.results136,go_sem]) rfl ⟨rfl,?_⟩
  exact Yv (QR w _ _)
section
open Cv Pl
def OkN(size:Nat)(S:List Nat)(j:Nat):Prop := ∀i,i<j->S.getD i 0<size∧(0<i->S.getD (i - 1) 0<S.getD i 0)
theorem Qer{size j:Nat}{S:List Nat}(h:OkN size S j)(h1:S.getD j 0<size)(h2:0<j->S.getD (j - 1) 0<S.getD j 0):OkN size S (j+1):=by
 intro i hi
 by_cases e:i=j
 ·subst e;exact⟨h1,h2⟩
 ·exact h i (by omega)
theorem QiB{size:Nat}{S:List Nat}(h:Yh size S=0):OkN size S S.length:=by
 obtain⟨h1,h2,h3,h4⟩:=Oa h;intro i hi;have hc:=Y4 h4 i hi;refine⟨hc.1,fun h0=>hc.2.2 (i - 1) (by omega)⟩
theorem Qi7{size:Nat}{S:List Nat}(hn:size<=2^40)(h0:0<S.length)(h:OkN size S S.length):Yh size S=0:=by
 refine Qcq (Qd5 S 0 size (fun i hi => ?_) (fun _=>Lf _) (fun hl=>(h _ (by omega)).1) (Lf _)) (fun e=>by rw[e] at h0;exact absurd h0 (by decide)) hn
 have:=(h (i+1) hi).2 (by omega)
 simpa using this
theorem Qkf{kd k:Int}{old size:Nat}{S:List Nat}(hk:1<=k∧k<=32∧size<=2^40)(hkd:kd=1∨kd=2):(cnt kd k old size S).isSome=decide (old=0∧(kd=1->S.length=1)∧Yh size S=0):=by
 rcases hkd with rfl|rfl
 ·rw[cnt,if_pos hk,if_pos rfl]
  by_cases h:old=0∧S.length=1∧Yh size S=0
  ·rw[if_pos h,decide_eq_true ⟨h.1,fun _=>h.2.1,h.2.2⟩];rfl
  ·rw[if_neg h,decide_eq_false (fun g=>h ⟨g.1,g.2.1 rfl,g.2.2⟩)];rfl
 ·rw[Qap hk]
  by_cases h:old=0∧Yh size S=0
  ·rw[if_pos h,decide_eq_true ⟨h.1,fun e=>absurd e (by decide),h.2⟩];rfl
  ·rw[if_neg h,decide_eq_false (fun g=>h ⟨g.1,g.2.2⟩)];rfl
theorem QiA{size:Nat}{S:List Nat}(h:Yh size S=0):0<S.length:=(Oa h).2.1.1
section
variable (w:World) (kd k:Int) (old size:Nat) (sa:OA) (sb so sc:Nat) (S:List Nat) (dv:Value)
theorem Js(rs:RdU w sa sb so S.length S)(hS:S.length<=17592186044416) :
  Zr 187 #[pv6 kd k old size (.slice sa S.length sc) dv] w (.bool (cnt kd k old size S).isSome):=by
 obtain⟨W0,hW,h6,hb,hz⟩:=Yu w (.int .i64 kd) (.int .i64 k) (.int .u64 (old:Int)) (.int .u64 (size:Int)) (.slice sa S.length sc) dv;have HX:Hid (∀W,Zb W0 W->Six W w.heap.size (.int .i64 kd) (.int .i64 k) (.int .u64 (old:Int)) (.int .u64 (size:Int)) (.slice sa S.length sc) dv∧RdU W sa sb so S.length S∧Zb w W):=fun W hw=>⟨h6.next hw,rs.next (Qa hb hw),Qa hb hw⟩
 obtain⟨e0,e1,e2,e3,e4,e5⟩:=h6.cells;have HB:=Qg hb;have hS1:(S.length:Int)<=17592186044416:=by omega
 clear h6 hb hz rs
 show Calls Tryz.prog 187 #[pv6 kd k old size (.slice sa S.length sc) dv] w _
 by_cases hk0:1<=kd∧kd<=3∧1<=k∧k<=32∧size<=1099511627776
 rotate_left
 ·have hno:(cnt kd k old size S).isSome=false:=by
   by_cases h1:kd=1∨kd=2∨kd=3
   ·rw[Qdd (by have : (2:Nat) ^ 40 = 1099511627776:=by decide
               omega)];rfl
   ·rw[J6 (by omega) (by omega) (by omega)];rfl
  rw[hno];clear hno HX;have hc:kd<1∨(¬kd<1∧kd > 3)∨(¬kd<1 ∧ ¬kd > 3∧k<1)∨(¬kd<1 ∧ ¬kd > 3 ∧ ¬k<1∧k > 32)∨(¬kd<1 ∧ ¬kd > 3 ∧ ¬k<1 ∧ ¬k > 32∧(size:Int) > 1099511627776):=by omega
  clear hk0
  rcases hc with g1|⟨g1,g2⟩|⟨g1,g2,g3⟩|⟨g1,g2,g3,g4⟩|⟨g1,g2,g3,g4,g5⟩ <;>
  ·go_enter Tryz.func187,Tryz.ntmps187
   go_upto_region 1 with (fail)
   try rw[hW]
   clear hW;go_wp2
   go_ret
   exact⟨rfl,HB.out⟩
 have g1 : ¬kd<1:=by omega
 have g2 : ¬kd > 3:=by omega
 have g3 : ¬k<1:=by omega
 have g4 : ¬k > 32:=by omega
 have g5 : ¬(size:Int) > 1099511627776:=by omega
 have hk:1<=k∧k<=32∧size<=2^40:=⟨hk0.2.2.1,hk0.2.2.2.1,hk0.2.2.2.2⟩
 by_cases h3:kd=3
 ·subst h3
  by_cases h4:S.length=0
  ·have hS0:S=[]:=List.eq_nil_of_length_eq_zero h4;have h4':((S.length:Int) == 0)=true:=beq_iff_eq.2 (by omega)
   by_cases h5:old<=size
   ·rw[OP hk,if_pos ⟨h5,hS0⟩];have h5':(old:Int)<=(size:Int):=by omega
    clear hk hk0 hS0 h4 h5 HX;generalize S.length=ms at *
    go_enter Tryz.func187,Tryz.ntmps187
    go_upto_region 1 with (fail)
    try rw[hW]
    clear hW;go_wp2
    go_ret
    exact⟨rfl,HB.out⟩
   ·rw[OP hk,if_neg (fun h=>h5 h.1)]
    have h5' : ¬(old:Int)<=(size:Int):=by omega
    clear hk hk0 hS0 h4 h5 HX;generalize S.length=ms at *
    go_enter Tryz.func187,Tryz.ntmps187
    go_upto_region 1 with (fail)
    try rw[hW]
    clear hW;go_wp2
    go_ret
    exact⟨rfl,HB.out⟩
  ·rw[OP hk,if_neg (fun h=>h4 (by rw[h.2];rfl))]
   have h4':((S.length:Int) == 0)=false:=beq_eq_false_iff_ne.2 (by omega)
   clear hk hk0 h4 HX;generalize S.length=ms at *
   go_enter Tryz.func187,Tryz.ntmps187
   go_upto_region 1 with (fail)
   try rw[hW]
   clear hW;go_wp2
   go_ret
   exact⟨rfl,HB.out⟩
 have hkd:kd=1∨kd=2:=by omega
 have f3:(kd == 3)=false:=beq_eq_false_iff_ne.2 h3;rw[Qkf hk hkd]
 by_cases h4:old=0
 rotate_left
 ·rw[decide_eq_false (fun h=>h4 h.1)]
  have h4':((old:Int) != 0)=true:=bne_iff_ne.2 (by omega)
  clear hk hk0 h4 HX hkd h3
  go_enter Tryz.func187,Tryz.ntmps187
  go_upto_region 1 with (fail)
  try rw[hW]
  clear hW;go_wp2
  go_ret
  exact⟨rfl,HB.out⟩
 subst h4;have hz0:((0:Nat):Int)=0:=rfl;rw[hz0] at hW e2;clear hz0
 by_cases h5:S.length=0
 ·rw[decide_eq_false (fun h=>by have:=QiA h.2.2;omega)]
  have h5':((S.length:Int) == 0)=true:=beq_iff_eq.2 (by omega)
  clear hk hk0 h5 HX hkd h3;generalize S.length=ms at *
  go_enter Tryz.func187,Tryz.ntmps187
  go_upto_region 1 with (fail)
  try rw[hW]
  clear hW;go_wp2
  go_ret
  exact⟨rfl,HB.out⟩
 have h5':((S.length:Int) == 0)=false:=beq_eq_false_iff_ne.2 (by omega)
 by_cases h6:kd=1∧S.length≠1
 ·obtain⟨rfl,h6⟩:=h6;rw[decide_eq_false (fun h=>h6 (h.2.1 rfl))]
  have h6':((S.length:Int) != 1)=true:=bne_iff_ne.2 (by omega)
  clear hk hk0 h5 HX hkd h3 h6;generalize S.length=ms at *
  go_enter Tryz.func187,Tryz.ntmps187
  go_upto_region 1 with (fail)
  try rw[hW]
  clear hW;go_wp2
  go_ret
  exact⟨rfl,HB.out⟩
 have hq:kd=1->S.length=1:=fun h=>by
  by_cases h7:S.length=1
  ·exact h7
  ·exact absurd ⟨h,h7⟩ h6
 have HE:Hid ((OkN size S S.length->decide (0=0∧(kd=1->S.length=1)∧Yh size S=0)=true)∧(¬OkN size S S.length->decide (0=0∧(kd=1->S.length=1)∧Yh size S=0)=false)):=⟨fun h=>decide_eq_true ⟨rfl,hq,Qi7 hk.2.2 (by omega) h⟩,fun h=>decide_eq_false (fun g=>h (QiB g.2.2))⟩
 generalize decide (0=0∧(kd=1->S.length=1)∧Yh size S=0)=ans at *
 have hc:((kd == 1)=true∧((S.length:Int) != 1)=false)∨(kd == 1)=false:=by
  rcases hkd with h|h
  ·exact .inl ⟨beq_iff_eq.2 h,bne_eq_false_iff_eq.2 (by have:=hq h;omega)⟩
  ·exact .inr (beq_eq_false_iff_ne.2 (by omega))
 clear hk hk0 h5 hkd h3 h6 hq
 rcases hc with ⟨hc1,hc2⟩|hc1 <;>
 ·go_enter Tryz.func187,Tryz.ntmps187
  go_upto_region 1 with (fail)
  try rw[hW]
  clear hW;go_wp2;clear e0 e1 e2 e3 e4 e5
  go_loopg [3] S.length (fun gk i wr => ∃j:Nat,j<=S.length∧gk=S.length - j∧i = .int .i64 (j:Int)∧Hid (OkN size S j)∧Hid (Zb W0 wr))
  case atStart =>
   go_light;exact⟨0,Lf _,rfl,rfl,(show OkN size S 0 from fun i hi=>absurd hi (by omega)),Below.refl _ _⟩
  case round =>
   obtain⟨j,hj,rfl,rfl,HK,HI⟩:=hrel;obtain⟨x6,v1,hbw⟩:=HX.out wr HI.out;obtain⟨_,_,_,e3,e4,_⟩:=x6.cells;have hj0:(0:Int)<=(j:Int):=Le _;have HB2:=Qg hbw;clear hbw x6
   by_cases hlt:j<S.length
   ·have hlt':(j:Int)<(S.length:Int):=by omega
    obtain rfl:=v1.ptr (by omega)
    have c1:=v1.at (j:=j) hlt;obtain⟨x,hx⟩:=Ze (S.getD j 0);rw[hx] at c1
    by_cases b1:x<size
    rotate_left
    ·have b1p:(size:Int)<=(x:Int):=by omega
     have HN:Hid (ans=false):=HE.out.2 (fun h=>b1 (hx ▸ (h j hlt).1))
     clear b1 hx v1;go_wp2;have b1':decide ((size:Int)<=(x:Int))=true:=decide_eq_true (by omega)
     have b1n:decide (size<=x)=true:=decide_eq_true (by omega)
     go_quiet (fail)
     go_wp2
     go_ret
     exact⟨by rw[HN.out];try rfl,Qd HB2.out _⟩
    have b1p:(x:Int)<(size:Int):=by omega
    by_cases j1:j=0
    ·have j2p:(j:Int)<=0:=by omega
     have HK2:Hid (OkN size S (j+1)):=Qer HK.out (hx ▸ b1) (fun h=>absurd h (by omega))
     clear b1 hx v1 HK j1;go_wp2;have b1':decide ((size:Int)<=(x:Int))=false:=decide_eq_false (by omega)
     have b1n:decide (size<=x)=false:=decide_eq_false (by omega)
     have j2:decide ((0:Int)<(j:Int))=false:=decide_eq_false (by omega)
     have j2n:decide (0<j)=false:=decide_eq_false (by omega)
     go_quiet (fail)
     go_wp2
     go_roundg (S.length - (j+1))
     case rel =>
      go_light;exact⟨j+1,hlt,rfl,by go_num,HK2,Qd HI.out _⟩
     case measure=>go_light;omega
    ·obtain⟨t,rfl⟩ : ∃t,j=t+1:=⟨j - 1,by omega⟩
     have c2:=v1.at (j:=t) (by omega)
     obtain⟨y,hy⟩:=Ze (S.getD t 0);rw[hy] at c2;have j2p:(0:Int)<((t+1:Nat):Int):=by omega
     have et:((t+1:Nat):Int) - 1=(t:Int):=by omega
     have et1:(t:Int)<(S.length:Int):=by omega
     have et0:(0:Int)<=(t:Int):=Le _;have ht1:t<=17592186044416:=by omega
     by_cases b2:y<x
     ·have b2p:(y:Int)<(x:Int):=by omega
      have HK2:Hid (OkN size S (t+1+1)):=Qer HK.out (hx ▸ b1) (fun _=>by rw[Ni,hx,hy];exact b2)
      clear b1 hx hy v1 HK b2;go_wp2;have b1':decide ((size:Int)<=(x:Int))=false:=decide_eq_false (by omega)
      have b1n:decide (size<=x)=false:=decide_eq_false (by omega)
      have j2:decide ((0:Int)<((t+1:Nat):Int))=true:=decide_eq_true (by omega)
      have j2n:decide (0<t+1)=true:=decide_eq_true (by omega)
      have j2m:decide ((0:Int)<(t:Int)+1)=true:=decide_eq_true (by omega)
      have b2':decide ((x:Int)<=(y:Int))=false:=decide_eq_false (by omega)
      have b2n:decide (x<=y)=false:=decide_eq_false (by omega)
      go_quiet (fail)
      go_wp2
      go_roundg (S.length - (t+1+1))
      case rel =>
       go_light;exact⟨t+1+1,hlt,rfl,by go_num,HK2,Qd HI.out _⟩
      case measure=>go_light;omega
     ·have b2p:(x:Int)<=(y:Int):=by omega
      have HN:Hid (ans=false):=HE.out.2 (fun h=>b2 (by have:=(h (t+1) hlt).2 (by omega);rwa [Ni,hx,hy] at this))
      clear b1 hx hy v1 HK b2;go_wp2;have b1':decide ((size:Int)<=(x:Int))=false:=decide_eq_false (by omega)
      have b1n:decide (size<=x)=false:=decide_eq_false (by omega)
      have j2:decide ((0:Int)<((t+1:Nat):Int))=true:=decide_eq_true (by omega)
      have j2n:decide (0<t+1)=true:=decide_eq_true (by omega)
      have j2m:decide ((0:Int)<(t:Int)+1)=true:=decide_eq_true (by omega)
      have b2':decide ((x:Int)<=(y:Int))=true:=decide_eq_true (by omega)
      have b2n:decide (x<=y)=true:=decide_eq_true (by omega)
      go_quiet (fail)
      go_wp2
      go_ret
      exact⟨by rw[HN.out];try rfl,Qd HB2.out _⟩
   ·obtain hje:j=S.length:=by omega
    have hlt' : ¬(j:Int)<(S.length:Int):=by omega
    have HN:Hid (ans=true):=HE.out.1 (by rw[<-hje];exact HK.out)
    clear hje v1 HK;go_wp2
    go_ret
    exact⟨by rw[HN.out];try rfl,HB2.out⟩
end
end
theorem Jd(w:World)(h:Nat)(hh:h<=40)(p:Nat)(hp:2^h=p) :
  Calls Tryz.prog 190 #[.int .i64 (h:Int)] w fun e w'=>e = .returned (.int .u64 (p:Int))∧w=w':=by
 have HP:=Qg hp;clear hp;have h40:(h:Int)<=40:=by omega
 go_enter Tryz.func190,Tryz.ntmps190;go_wp2
 go_loopg [3,4] h (fun g n i wr => ∃j:Nat,j<=h∧g=h - j∧n = .int .u64 ((2^j:Nat):Int)∧i = .int .i64 (j:Int)∧w=wr)
 case atStart =>
  go_light;exact⟨0,Lf _,rfl,rfl,rfl,rfl⟩
 case round =>
  obtain⟨j,hj,rfl,rfl,rfl,rfl⟩:=hrel
  by_cases hlt:j<h
  ·have hz:(j:Int)<(h:Int):=by omega
   obtain⟨q,hq⟩:=Ze (2^j);have hb:2^j<=2^40:=L5 (by decide) (by omega)
   rw[hq] at hb ⊢;have e1:IntKind.u64.wrap (2*(q:Int))=2*(q:Int):=by rw[IntKind.wrap_u64];omega
   have HQ:Hid (2*(q:Int)=((2^(j+1):Nat):Int)):=by show _=_;rw[LA,hq];omega
   clear hq hb;go_wp2
   go_roundg (h - (j+1))
   case rel =>
    go_light;exact⟨j+1,by omega,rfl,by rw[HQ.out],by go_num,rfl⟩
   case measure=>go_light;omega
  ·obtain rfl:j=h:=by omega
   have hz : ¬((j:Int)<(j:Int)):=by omega
   rw[HP.out];clear hlt;go_wp2
   go_ret
   exact⟨rfl,rfl⟩
open Cv (cU RdC) in
theorem OL(w:World)(sa:OA)(sb so sc:Nat)(S:List Nat)(lo hi:Nat)(rs:RdU w sa sb so S.length S)(hS:S.length<=17592186043904) :
  Calls Tryz.prog 191 #[.slice sa S.length sc,.int .u64 (lo:Int),.int .u64 (hi:Int)] w fun e w' => ∃v,e = .returned v∧Cv.Own w' w.heap.size v (S.filter fun i=>decide (lo<=i) && decide (i<hi))∧Zb w w':=by
 obtain⟨u0,hu1,hu2,hu3,hu4⟩:=info_parts Cv.Tryz.infoU;have HU:Hid (Tryz.prog.info? 28=some u0∧u0.zero=some (.int .u64 0)∧u0.size=1∧u0.bytes=8):=⟨hu1,hu2,hu3,hu4⟩;have HS:Hid (∀F,Zb w F->RdU F sa sb so S.length S):=fun F hF=>rs.next hF
 have HL:Hid (S.length<=17592186043904):=hS;have hS1:(S.length:Int)<=17592186043904:=by omega
 clear rs hS hu1 hu2 hu3 hu4
 go_enter Tryz.func191,Tryz.ntmps191;go_wp2
 go_loopg [7,8] S.length (fun g l ix wr => ∃j:Nat,j<=S.length∧g=S.length - j∧ix = .int .i64 (j:Int)∧Cv.Own wr w.heap.size l ((S.take j).filter fun i=>decide (lo<=i) && decide (i<hi))∧Zb w wr)
 case atStart =>
  go_light;exact⟨0,Lf _,rfl,rfl,Lz _ _ _ _,Below.refl _ _⟩
 case round =>
  obtain⟨j,hj,rfl,rfl,ho,hb⟩:=hrel;have hj0:(0:Int)<=(j:Int):=Le _
  by_cases hlt:j<S.length
  ·have hlt':(j:Int)<(S.length:Int):=by omega
   have R:=HS.out _ hb;obtain rfl:=R.ptr (by omega)
   have cj:=R.at (j:=j) hlt;have htk:=UF (S:=S) (j:=j) hlt;obtain⟨i,hi'⟩:=Ze (S.getD j 0);rw[hi'] at cj htk
   by_cases hin:lo<=i∧i<hi
   ·have h1:(lo:Int)<=(i:Int):=by omega
    have h2:(i:Int)<(hi:Int):=by omega
    have hf:(S.take (j+1)).filter (fun i=>decide (lo<=i) && decide (i<hi))=(S.take j).filter (fun i=>decide (lo<=i) && decide (i<hi))++[i]:=by
     rw[htk,Iq]
     congr 1
     simp[hin.1,hin.2]
    have hlen:((S.take j).filter fun i=>decide (lo<=i) && decide (i<hi)).length<=j:=Lm (Ig _ _) (by rw[Lv];omega)
    generalize hX:(S.take j).filter (fun i=>decide (lo<=i) && decide (i<hi))=X at *
    have HX:Hid ((S.take (j+1)).filter (fun i=>decide (lo<=i) && decide (i<hi))=X++[i]∧X.length<=j∧Zb w wr):=⟨hf,hlen,hb⟩
    have HO:Hid (Cv.Own wr w.heap.size _ X):=ho;clear hf hlen htk hi' hin R hX ho hb
    go_wp2_with (at_builtin;refine Cv.QQ _ rfl _ _ _ rfl w.heap.size 28 u0 (.int .u64 0) 1 8 Tryz.underlying53 HU.out.1 HU.out.2.1 HU.out.2.2.1 HU.out.2.2.2 rfl (by decide) _ X.length (cU X) rfl (HO.out.alloc _) _ 1 (cU [i]) rfl (QkX wr i) rfl (Cv.Qh4 [i]) ?c1 ?c2 ?c3 ?_)
    case c1=>have:=HX.out.2.1;have:=HL.out;unfold maxLen;omega
    case c2=>have:=HX.out.2.1;have:=HL.out;omega
    case c3=>have:=HX.out.2.2.size;simp;omega
    intro v2 w2 a2;have hb2:=(Cv.Qaw HX.out.2.2 HX.out.2.2.size HO.out a2.grown).1;have o2:Cv.Own w2 w.heap.size v2 (X++[i]):=by
     have:=a2.own;rw[Cv.Own,Ld]
     simpa [cU] using this
    have H2:Hid (Cv.Own w2 w.heap.size v2 (X++[i])∧Zb w w2):=⟨o2,hb2⟩;clear a2 o2 hb2;go_wp2
    go_roundg (S.length - (j+1))
    case rel =>
     go_light;refine⟨j+1,hlt,rfl,by go_num,?_,H2.out.2⟩
     rw[HX.out.1];exact H2.out.1
    case measure=>go_light;omega
   ·have hf:(S.take (j+1)).filter (fun i=>decide (lo<=i) && decide (i<hi))=(S.take j).filter (fun i=>decide (lo<=i) && decide (i<hi)):=by
     rw[htk,Iq,Nl (by simp;omega),List.filter_nil,L6]
    have HX:=Qg hf;have HB:=Qg hb;have HO:=Qg ho;clear htk hi' R hf hb ho
    by_cases h1:lo<=i
    ·have h1':(lo:Int)<=(i:Int):=by omega
     have h2' : ¬(i:Int)<(hi:Int):=by omega
     clear hin;go_wp2
     go_roundg (S.length - (j+1))
     case rel =>
      go_light;refine⟨j+1,hlt,rfl,by go_num,?_,HB.out⟩
      rw[HX.out];exact HO.out
     case measure=>go_light;omega
    ·have h1' : ¬(lo:Int)<=(i:Int):=by omega
     clear hin;go_wp2
     go_roundg (S.length - (j+1))
     case rel =>
      go_light;refine⟨j+1,hlt,rfl,by go_num,?_,HB.out⟩
      rw[HX.out];exact HO.out
     case measure=>go_light;omega
  ·obtain hje:j=S.length:=by omega
   have hlt' : ¬(j:Int)<(S.length:Int):=by omega
   rw[hje,LR] at ho;obtain⟨av,mv,cv,rfl⟩:=Cv.Qh ho;have HO:Hid (Cv.Own wr w.heap.size (.slice av mv cv) (S.filter fun i=>decide (lo<=i) && decide (i<hi))∧Zb w wr):=⟨ho,hb⟩
   clear ho hb;go_wp2
   go_ret
   exact⟨_,rfl,HO.out.1,HO.out.2⟩
namespace Cv
open Pl
theorem QdD(n:Nat)(w:World)(hn:n<=2^40) :
  Calls Tryz.prog 188 #[.int .u64 (n:Int)] w fun e w' => ∃v,e = .returned v∧Qz w' w.heap.size v (zl (dnL 41 0 n))∧Zb w w':=by
 have HN:Hid (n<=2^40):=hn;clear hn
 go_enter Tryz.func188,Tryz.ntmps188;go_wp2
 go_loopg [3,4,5] 41 (fun g v f h wr => ∃(m x:Nat) (acc:List (Nat×Nat)),m<=41∧m=g∧h = .int .i64 ((m:Int) - 1)∧f = .int .u64 (x:Int)∧x<=n∧Qz wr w.heap.size v (zl acc)∧acc++dnL m x n=dnL 41 0 n∧acc.length+m<=41∧Zb w wr)
 case atStart =>
  go_light;exact⟨41,0,[],by decide,rfl,rfl,rfl,Lf _,Lz _ _ _ _,rfl,by decide,Below.refl _ _⟩
 case round =>
  obtain⟨m,x,acc,hm,rfl,rfl,rfl,hx,hown,hacc,hlen,hb⟩:=hrel;have hn:=HN.out
  by_cases hm0:m=0
  ·subst hm0;have ht : ¬(0:Int)<=((0:Nat):Int) - 1:=by omega
   have HF:Hid (Qz wr w.heap.size u3 (zl (dnL 41 0 n))∧Zb w wr):=⟨by
    rw[<-hacc];simpa [dnL] using hown,hb⟩
   clear hx hown hacc hlen hb hn hm;go_wp2
   go_ret
   exact⟨_,rfl,HF.out⟩
  ·obtain⟨i,rfl⟩ : ∃i,m=i+1:=⟨m - 1,by omega⟩
   have ei:(((i+1:Nat):Int) - 1)=(i:Int):=by omega
   rw[ei];have hi0:(0:Int)<=(i:Int):=Le _;have hi1:(i:Int)<=40:=by omega
   obtain⟨p,hp⟩:=Ze (pw i);have HPw:=fun W=>Jd W i (by omega) p hp
   have hp40:pw i<=pw 40:=JV (by omega)
   have e40:pw 40=2^40:=rfl;have hpp:=QB i;rw[hp] at hp40 hpp;obtain⟨d,hd⟩:=Ze (n - x);have ed:IntKind.u64.wrap ((n:Int) - (x:Int))=(d:Int):=by rw[IntKind.wrap_u64];omega
   have hne : ¬(p:Int)=0:=by omega
   have hsz:=hb.size
   by_cases hfit:p<=d
   ·have hfi:(p:Int)<=(d:Int):=by omega
    obtain⟨q,hq⟩:=Ze (x / pw i);have hq2:x / p=q:=by rw[<-hp];exact hq
    have hqx:q<=x:=by rw[<-hq];exact Nv _ _
    have eq:(x:Int) / (p:Int)=(q:Int):=by rw[<-hq2];rfl
    have eq2:IntKind.u64.wrap (q:Int)=(q:Int):=by rw[IntKind.wrap_u64];omega
    have ef:IntKind.u64.wrap ((x:Int)+(p:Int))=((x+p:Nat):Int):=by rw[IntKind.wrap_u64];omega
    have hu:=Qdh (h:=i) (lo:=x) (hi:=n) (by omega)
    rw[hq,hp] at hu;have HX:Hid (acc++[(i,q)]++dnL i (x+p) n=dnL 41 0 n∧x+p<=n∧(acc++[(i,q)]).length+i<=41∧Zb w wr∧w.heap.size<=wr.heap.size∧acc.length<=41):=by
     refine⟨?_,by omega,by simp;omega,hb,hsz,by omega⟩
     rw[Lt,<-hacc,hu];rfl
    have HO:Hid (Qz wr w.heap.size _ (zl acc)):=hown;clear hx hacc hlen hb hn hm hm0 hp hd hq hq2 hqx hu e40 hp40 hpp hsz hfit hown
    go_wp2_with (first
     | (go_at_call 190;(refine(HPw _).mono ?_);rintro e w' ⟨rfl,rfl⟩)
     | (at_builtin;refine QO _ rfl _ _ rfl w.heap.size _ (zl acc) rfl (HO.out.alloc _) _ [((i:Int),q)] rfl (Ux _ (i:Int) q 83) ?c1 ?c2 ?_))
    case c1=>have:=HX.out.2.2.2.2.2;rw[Qq];simp;omega
    case c2=>have:=HX.out.2.2.2.2.1;simp;omega
    intro v' w1 r1 r2 _;have R:=Qaw HX.out.2.2.2.1 HX.out.2.2.2.2.1 HO.out r2;clear r2
    go_wp2_with (go_at_call 190;(refine(HPw _).mono ?_);rintro e w' ⟨rfl,rfl⟩)
    go_roundg i
    case rel =>
     go_light;obtain⟨x1,x2,x3,x4,x5,x6⟩:=HX.out;refine⟨i,x+p,acc++[(i,q)],by omega,rfl,by go_num,by go_num,x2,?_,x1,x3,R.1⟩
     rw[YL];exact r1
    case measure=>go_light;omega
   ·have hfi : ¬(p:Int)<=(d:Int):=by omega
    have hu:=QfZ (h:=i) (lo:=x) (hi:=n) (by omega)
    rw[hu] at hacc;have HX:Hid (acc++dnL i x n=dnL 41 0 n∧x<=n∧acc.length+i<=41∧Zb w wr):=⟨hacc,hx,by omega,hb⟩
    clear hx hacc hlen hb hn hm hm0 hp hd hu e40 hp40 hpp hsz
    go_wp2_with (go_at_call 190;(refine(HPw _).mono ?_);rintro e w' ⟨rfl,rfl⟩)
    go_roundg i
    case rel =>
     go_light;obtain⟨x1,x2,x3,x4⟩:=HX.out;exact⟨i,x,acc,by omega,rfl,by go_num,rfl,x2,hown,x1,x3,x4⟩
    case measure=>go_light;omega
theorem QeW{lo hi H K:Nat}(h:(K+1)*pw H<=lo∨hi<=K*pw H):tin lo hi H K=[]:=by
 have hp:=QB H;have e:(K+1)*pw H=K*pw H+pw H:=by rw[LI,LP]
 cases H with
 | zero=>rw[tin,if_neg (by omega)]
 | succ H=>rw[tin,if_neg (by omega),if_pos h]
theorem Qc0{lo hi H K:Nat}(h:lo<=K*pw H∧(K+1)*pw H<=hi):(tin lo hi H K).length=1:=by
 cases H with
 | zero=>rw[tin,if_pos h];rfl
 | succ H=>rw[tin,if_pos h];rfl
theorem QfL(lo hi:Nat) : ∀(H K:Nat) (w:World),H<=40->(K+1)*pw H<=2^40 ->
  Calls Tryz.prog 189 #[.int .i64 (H:Int),.int .u64 (K:Int),.int .u64 (lo:Int),.int .u64 (hi:Int)] w fun e w'=>e = .returned (.int .u64 ((tin lo hi H K).length:Nat))∧w'=w:=by
 intro H
 induction H with
 | zero =>
  intro K w hH hK;have HPw:=fun W=>Jd W 0 (by omega) 1 rfl
  have e0:pw 0=1:=rfl;rw[e0] at hK;have ea:IntKind.u64.wrap (K:Int)=(K:Int):=by rw[IntKind.wrap_u64];omega
  have eb:IntKind.u64.wrap ((K:Int)+1)=(K:Int)+1:=by rw[IntKind.wrap_u64];omega
  by_cases h1:K+1<=lo∨hi<=K
  ·rw[QeW (by rw[e0];omega)]
   by_cases h2:K+1<=lo
   ·have h2':(K:Int)+1<=(lo:Int):=by omega
    clear h1 hK hH
    go_enter Tryz.func189,Tryz.ntmps189
    go_wp2_with (go_at_call 190;(refine(HPw _).mono ?_);rintro e w' ⟨rfl,rfl⟩)
    go_ret
    exact⟨rfl,rfl⟩
   ·have h2' : ¬(K:Int)+1<=(lo:Int):=by omega
    have h3':(hi:Int)<=(K:Int):=by omega
    clear h1 hK hH
    go_enter Tryz.func189,Tryz.ntmps189
    go_wp2_with (go_at_call 190;(refine(HPw _).mono ?_);rintro e w' ⟨rfl,rfl⟩)
    go_ret
    exact⟨rfl,rfl⟩
  ·rw[Qc0 (by rw[e0];omega)]
   have h2' : ¬(K:Int)+1<=(lo:Int):=by omega
   have h3' : ¬(hi:Int)<=(K:Int):=by omega
   have h4':(lo:Int)<=(K:Int):=by omega
   have h5':(K:Int)+1<=(hi:Int):=by omega
   clear h1 hK hH
   go_enter Tryz.func189,Tryz.ntmps189
   go_wp2_with (go_at_call 190;(refine(HPw _).mono ?_);rintro e w' ⟨rfl,rfl⟩)
   go_ret
   exact⟨rfl,rfl⟩
 | succ H ih =>
  intro K w hH hK;obtain⟨p,hp⟩:=Ze (pw (H+1));have HPw:=fun W=>Jd W (H+1) hH p hp
  have g2:=U4 H K;have g3:=Jm H K;have g1:=Ua H K;have g4:=ON H K;have hpp:=QB H;have I1:=fun w'=>ih (2*K) w' (by omega) (by rw[g2];omega)
  have I2:=fun w'=>ih (2*K+1) w' (by omega) (by rw[g3];omega)
  obtain⟨a,ha⟩:=Ze (K*pw (H+1));have hb:(K+1)*pw (H+1)=a+p:=by rw[LI,LP,ha,hp]
  have hKa:K<=a:=by rw[<-ha];exact Nm _ (QB _)
  have l1:=Qbg lo hi H (2*K);have l2:=Qbg lo hi H (2*K+1);have hp40:pw H<=2^40:=by omega
  rw[hb] at hK;have ea:IntKind.u64.wrap ((K:Int)*(p:Int))=(a:Int):=by rw[show(K:Int)*(p:Int)=(a:Int) by rw[<-ha,hp,N5],IntKind.wrap_u64];omega
  have eb:IntKind.u64.wrap ((a:Int)+(p:Int))=(a:Int)+(p:Int):=by rw[IntKind.wrap_u64];omega
  by_cases h1:a+p<=lo∨hi<=a
  ·rw[QeW (by rw[hb,ha];omega)]
   by_cases h2:a+p<=lo
   ·have h2':(a:Int)+(p:Int)<=(lo:Int):=by omega
    clear h1 hK hH ih I1 I2 g1 g2 g3 g4 hpp ha hb hKa l1 l2 hp hp40
    go_enter Tryz.func189,Tryz.ntmps189
    go_wp2_with (go_at_call 190;(refine(HPw _).mono ?_);rintro e w' ⟨rfl,rfl⟩)
    go_ret
    exact⟨rfl,rfl⟩
   ·have h2' : ¬(a:Int)+(p:Int)<=(lo:Int):=by omega
    have h3':(hi:Int)<=(a:Int):=by omega
    clear h1 hK hH ih I1 I2 g1 g2 g3 g4 hpp ha hb hKa l1 l2 hp hp40
    go_enter Tryz.func189,Tryz.ntmps189
    go_wp2_with (go_at_call 190;(refine(HPw _).mono ?_);rintro e w' ⟨rfl,rfl⟩)
    go_ret
    exact⟨rfl,rfl⟩
  ·have h2' : ¬(a:Int)+(p:Int)<=(lo:Int):=by omega
   have h3' : ¬(hi:Int)<=(a:Int):=by omega
   by_cases h4:lo<=a∧a+p<=hi
   ·rw[Qc0 (by rw[hb,ha];exact h4)]
    have h4':(lo:Int)<=(a:Int):=by omega
    have h5':(a:Int)+(p:Int)<=(hi:Int):=by omega
    clear h1 hK hH ih I1 I2 g1 g2 g3 g4 hpp ha hb hKa l1 l2 hp hp40 h4
    go_enter Tryz.func189,Tryz.ntmps189
    go_wp2_with (go_at_call 190;(refine(HPw _).mono ?_);rintro e w' ⟨rfl,rfl⟩)
    go_ret
    exact⟨rfl,rfl⟩
   ·have ht:(tin lo hi (H+1) K).length=(tin lo hi H (2*K)).length+(tin lo hi H (2*K+1)).length:=by
     rw[tin,if_neg (by rw[hb,ha];exact h4),if_neg (by rw[hb,ha];exact h1),Ld]
    rw[ht];generalize (tin lo hi H (2*K)).length=x at *;generalize (tin lo hi H (2*K+1)).length=y at *;have e1:IntKind.u64.wrap (2*(K:Int))=((2*K:Nat):Int):=by rw[IntKind.wrap_u64];omega
    have e2:IntKind.u64.wrap (((2*K:Nat):Int)+1)=((2*K+1:Nat):Int):=by rw[IntKind.wrap_u64];omega
    have e3:((H+1:Nat):Int) - 1=(H:Int):=by omega
    have e4:IntKind.u64.wrap ((x:Int)+(y:Int))=((x+y:Nat):Int):=by rw[IntKind.wrap_u64];omega
    have hH1:(H:Int)<=40:=by omega
    have h4' : ¬(lo:Int)<=(a:Int) ∨ ¬(a:Int)+(p:Int)<=(hi:Int):=by omega
    clear h1 hK hH ih g1 g2 g3 g4 hpp ha hb hKa l1 l2 hp hp40 h4 ht;generalize 2*K=k2 at *;generalize k2+1=k3 at *;generalize x+y=z at *
    rcases h4' with h4'|h4'
    ·go_enter Tryz.func189,Tryz.ntmps189
     go_upto_region 7 with (go_at_call 190;(refine(HPw _).mono ?_);rintro e w' ⟨rfl,rfl⟩)
     go_wp2_with (first
      | (go_at_call 189;with_reducible refine(I1 _).mono ?_;rintro e w' ⟨rfl,rfl⟩)
      | (go_at_call 189;with_reducible refine(I2 _).mono ?_;rintro e w' ⟨rfl,rfl⟩))
     all_goals go_ret
     all_goals exact⟨rfl,rfl⟩
    ·go_enter Tryz.func189,Tryz.ntmps189
     go_upto_region 7 with (go_at_call 190;(refine(HPw _).mono ?_);rintro e w' ⟨rfl,rfl⟩)
     go_wp2_with (first
      | (go_at_call 189;with_reducible refine(I1 _).mono ?_;rintro e w' ⟨rfl,rfl⟩)
      | (go_at_call 189;with_reducible refine(I2 _).mono ?_;rintro e w' ⟨rfl,rfl⟩))
     all_goals go_ret
     all_goals exact⟨rfl,rfl⟩
end Cv
end Go.Proofs.YtdocjikpcbmcgaaGreatDoor
