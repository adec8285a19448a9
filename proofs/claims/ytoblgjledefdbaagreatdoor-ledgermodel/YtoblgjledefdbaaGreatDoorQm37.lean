/- Own work. -/
import Derived.Deep.DeepMakePanics
import Derived.WalkLawsBesides
import Derived.Test.YtoblgjledefdbaaGreatDoorQm36
set_option maxRecDepth 100000
set_option maxHeartbeats 1000000
namespace Go.Proofs.YtoblgjledefdbaaGreatDoor
open Go.RowKit
attribute [local go_sem ↓] Go.wp_at_zero Go.wp_at_succ
open Go.Proofs.Tryz
section
open Go.Shelf
def Tryz.lays156_ren:Go.Shelf.Ren:=⟨fun|156=>173|165=>269|166=>270|169=>271|240=>345|241=>346|276=>395|277=>396|n=>n,fun|31=>22|9=>9|3=>3|4=>4|0=>0|20=>20|72=>330|76=>334|70=>328|37=>127|75=>333|127=>392|164=>320|5=>5|80=>336|n=>n,fun|n=>n⟩
theorem Tryz.lays156:Go.Proofs.Lays.n156 prog Tryz.lays156_ren := {
 mixed:=by kernel_rfl
 f156:=func173.trans (Lw some (by kernel_rfl))
 f165:=func269.trans (Lw some (by kernel_rfl))
 f166:=func270.trans (Lw some (by kernel_rfl))
 f169:=func271.trans (Lw some (by kernel_rfl))
 f240:=func345.trans (Lw some (by kernel_rfl))
 f241:=func346.trans (Lw some (by kernel_rfl))
 f276:=func395.trans (Lw some (by kernel_rfl))
 f277:=func396.trans (Lw some (by kernel_rfl))
 t0:=underlying0
 a0:=Tryz.isAgg0
 z0:=Tryz.sizeOf0
 v0:=Tryz.zeroValue0
 t3:=underlying3
 a3:=Tryz.isAgg3
 z3:=Tryz.sizeOf3
 v3:=Tryz.zeroValue3
 t4:=underlying4
 a4:=Tryz.isAgg4
 z4:=Tryz.sizeOf4
 v4:=Tryz.zeroValue4
 t9:=underlying9
 a9:=Tryz.isAgg9
 z9:=Tryz.sizeOf9
 v9:=Tryz.zeroValue9
 t20:=underlying20
 a20:=Tryz.isAgg20
 z20:=Tryz.sizeOf20
 v20:=Tryz.zeroValue20
 t31:=underlying22
 a31:=Tryz.isAgg22
 z31:=Tryz.sizeOf22
 v31:=Tryz.zeroValue22
 t37:=underlying127
 a37:=Tryz.isAgg127
 z37:=Tryz.sizeOf127
 v37:=Tryz.zeroValue127
 t70:=underlying328
 a70:=Tryz.isAgg328
 z70:=Tryz.sizeOf328
 v70:=Tryz.zeroValue328
 t72:=underlying330
 a72:=Tryz.isAgg330
 z72:=Tryz.sizeOf330
 v72:=Tryz.zeroValue330
 t75:=underlying333
 a75:=Tryz.isAgg333
 z75:=Tryz.sizeOf333
 v75:=Tryz.zeroValue333
 t76:=underlying334
 a76:=Tryz.isAgg334
 z76:=Tryz.sizeOf334
 v76:=Tryz.zeroValue334
 t127:=underlying392
 a127:=Tryz.isAgg392
 z127:=Tryz.sizeOf392
 v127:=Tryz.zeroValue392
 t164:=underlying320
 a164:=Tryz.isAgg320
 z164:=Tryz.sizeOf320
 v164:=Tryz.zeroValue320 }
theorem Tryz.Builder_Extra_156:Builder.Extra prog Tryz.lays156_ren := {
 sizeBuilder:=by kernel_rfl
 liesBuilder:=by kernel_rfl
 t5:=underlying5
 a5:=Tryz.isAgg5
 z5:=Tryz.sizeOf5
 v5:=Tryz.zeroValue5
 infoByte:=by kernel_rfl
 cellsByte:=by kernel_rfl
 sizeByte:=by kernel_rfl
 neB5:=by decide }
theorem Tryz.strings_Join_none(a:OA)(c:Nat)(sep:BA)(w:World) :
  Calls prog 173 #[.slice a 0 c,.string sep] w fun e w'=>e = .returned (.string ⟨#[]⟩)∧w'=w:=Any.strings_Join_none Tryz.lays156 Tryz.Builder_Extra_156 a c sep w
theorem Tryz.strings_Join(bk o c:Nat)(xs:LB)(sep:BA)(w:World)(hcells : ∀(j:Nat) x,xs[j]? = some x->w.cell? ⟨bk,o+j,none⟩=some (.string x))(hbk:bk<w.heap.size)(hN:xs.length<=140737488355328)(hcap:xs.length<=c)(hlen:(Lib.join (xs.map (·.data.toList)) sep.data.toList).length<=140737488355328) :
  Calls prog 173 #[.slice (some ⟨bk,o,none⟩) xs.length c,.string sep] w fun e w'=>e = .returned (.string ⟨(Lib.join (xs.map (·.data.toList)) sep.data.toList).toArray⟩)∧Below w.heap.size w w':=Any.strings_Join Tryz.lays156 Tryz.Builder_Extra_156 bk o c xs sep w hcells hbk hN hcap hlen
theorem Qcy(D:LB):Lib.join (D.map (·.data.toList)) []=Qu D:=by
 cases D with
 | nil=>rfl
 | cons d D=>rw[Iq,Lib.join_cons,YF];simp[Lib.joinTail,Qu];rfl
theorem Qh9(w:World)(da:OA)(db dO dc:Nat)(D:LB)(rd:RdS w da db dO D.length D)(hc:D.length<=dc)(hD:D.length<=140737488355328)(hl:(Qu D).length<=140737488355328) :
  Calls prog 173 #[.slice da D.length dc,.string ByteArray.empty] w fun e w'=>e = .returned (.string ⟨(Qu D).toArray⟩)∧Below w.heap.size w w':=by
 have he:ByteArray.empty.data.toList=[]:=rfl
 by_cases h0:D.length=0
 ·have:D=[]:=List.length_eq_zero_iff.1 h0;subst this;exact(Tryz.strings_Join_none da dc ByteArray.empty w).mono fun e w' h=>⟨h.1,by rw[h.2];exact Lb _ _⟩
 ·obtain rfl:=rd.ptr (by omega)
  have h:=Tryz.strings_Join db dO dc D ByteArray.empty w (fun j x hx=>rd.rng j _ (by rw[Nt,hx];rfl)) (rd.lt (by omega)) hD hc (by rw[he,Qcy];exact hl)
  rw[he,Qcy] at h;exact h
end
section
open Cv (rst cov QI dnL tno inb)
open Pl (pw)
theorem Qnx(m:Nat):(2*m+1) ^^^ (2*m)=1:=by
 have h1:((2*m+1) ^^^ (2*m)) / 2=0:=by
  have e:((2*m+1) ^^^ (2*m)) >>> 1=((2*m+1) >>> 1) ^^^ ((2*m) >>> 1):=IY;rw[Nm,Nm,Nm,show(2*m+1) / 2^1=m by omega,show 2*m / 2^1=m by omega,Nat.xor_self] at e
  simpa using e
 have h2:((2*m+1) ^^^ (2*m)) % 2=1:=by
  have e:((2*m+1) ^^^ (2*m)) % 2^1=((2*m+1) % 2^1) ^^^ ((2*m) % 2^1):=Nat.xor_mod_two_pow;rw[show(2*m+1) % 2^1=1 by omega,show 2*m % 2^1=0 by omega] at e
  exact e
 omega
theorem Qlr{n i H q:Nat}(hq:q % 2=0)(h1:n / 2^H=q+1)(h2:i / 2^H=q):2^H<=n ^^^ i∧n ^^^ i<2^(H+1):=by
 have e:(n ^^^ i) / 2^H=1:=by
  have e:(n ^^^ i) >>> H=(n >>> H) ^^^ (i >>> H):=IY;rw[Nm,Nm,Nm,h1,h2] at e;obtain⟨m,rfl⟩ : ∃m,q=2*m:=⟨q / 2,by omega⟩
  rw[e,Qnx]
 have hp:0<2^H:=LJ H
 constructor
 ·have:=IS (n ^^^ i) (2^H);rw[e] at this;omega
 ·have:=Nat.lt_mul_of_div_lt (show(n ^^^ i) / 2^H<2 by omega) hp
  rw[LC];omega
theorem QoK(i:Nat) : ∀H K,K*pw H<=i->i<(K+1)*pw H->(tno H K [i]).length=H:=by
 intro H
 induction H with
 | zero =>
  intro K h1 h2;have hb:inb 0 K i=true:=Cv.Ye.2 ⟨h1,h2⟩;rw[tno,N4 hb];simp
 | succ H ih =>
  intro K h1 h2;have hb:inb (H+1) K i=true:=Cv.Ye.2 ⟨h1,h2⟩;have e1:=Cv.Y4 H K;have e2:=Cv.UN H K;have e3:=Cv.U3 H K;have e4:=Cv.Oz H K;rw[tno,N4 hb,List.filter_nil,Le (by simp),Lc]
  have xA : ∀K',¬(K' * pw H<=i∧i<(K'+1)*pw H)->(tno H K' [i]).length=1:=fun K' h=>by
   have hb : ¬inb H K' i=true:=fun e=>h (Cv.Ye.1 e)
   exact(Cv.QaD H K' [i]).1 (by rw[NF hb];rfl)
  by_cases hm:i<K*pw (H+1)+pw H
  ·rw[ih (2*K) (by omega) (by rw[e2];exact hm),xA (2*K+1) (by omega)]
  ·rw[xA (2*K) (by omega),ih (2*K+1) (by omega) (by omega)]
   omega
theorem Qhw{i H K:Nat}(h : ¬(K*pw H<=i∧i<(K+1)*pw H)):(tno H K [i]).length=1:=by
 have hb : ¬inb H K i=true:=fun e=>h (Cv.Ye.1 e)
 exact(Cv.QaD H K [i]).1 (by rw[NF hb];rfl)
theorem QjB(n i:Nat) : ∀h lo,(∃c,lo=c*pw h)->i<lo->((dnL h lo n).flatMap fun b=>tno b.1 b.2 [i]).length=(dnL h lo n).length:=by
 intro h
 induction h with
 | zero=>intro lo _ _;rfl
 | succ h ih =>
  intro lo hc hi;obtain⟨c,rfl⟩:=hc;have e:=Cv.Q7 c h;rw[dnL]
  split
  ·rw[I0,Lc,LE,ih _ ⟨2*c+1,by rw[LL,LV,e]⟩ (by omega),Qhw (by
    intro hx
    dsimp only at hx
    rw[e,Nx _ (Pl.QB h)] at hx;omega)]
   omega
  ·exact ih _ ⟨2*c,e⟩ hi
theorem QkE(n i:Nat)(hin:i<n) : ∀h lo,(∃c,lo=c*pw h)->lo<=i->n - lo<pw h ->
  ∃H,((dnL h lo n).flatMap fun b=>tno b.1 b.2 [i]).length+1=H+(dnL h lo n).length∧2^H<=n ^^^ i∧n ^^^ i<2^(H+1)∧H<h:=by
 intro h
 induction h with
 | zero=>intro lo _ h1 h2;have:pw 0=1:=rfl;omega
 | succ h ih =>
  intro lo hc h1 h2;obtain⟨c,rfl⟩:=hc;have e:=Cv.Q7 c h;have hp:=Pl.QB h;have hs:=Pl.QJ h;rw[dnL]
  split
  ·rename_i hfit
   have hq:c*pw (h+1) / pw h=2*c:=by rw[e,Nx _ hp]
   rw[I0,Lc,LE,hq]
   by_cases hm:i<c*pw (h+1)+pw h
   ·refine⟨h,?_,?_⟩
    ·rw[QoK i h (2*c) (by omega) (by rw[LL,LV];omega),QjB n i h _ ⟨2*c+1,by rw[LL,LV,e]⟩ hm]
     omega
    ·have a1:n / 2^h=2*c+1:=by
      have:n / pw h=2*c+1:=by
       apply Nat.div_eq_of_lt_le
       ·rw[LL,LV];omega
       ·rw[LL,LL,LV];omega
      exact this
     have a2:i / 2^h=2*c:=by
      have:i / pw h=2*c:=by
       apply Nat.div_eq_of_lt_le
       ·omega
       ·rw[LL,LV];omega
      exact this
     obtain⟨b1,b2⟩:=Qlr (q:=2*c) (by omega) a1 a2
     exact⟨b1,b2,by omega⟩
   ·obtain⟨H,g1,g2,g3,g4⟩:=ih (c*pw (h+1)+pw h) ⟨2*c+1,by rw[LL,LV,e]⟩ (by omega) (by omega)
    refine⟨H,?_,g2,g3,by omega⟩
    rw[Qhw (by intro hx;dsimp only at hx;rw[LL,LV,<-e] at hx;omega)]
    omega
  ·rename_i hfit
   obtain⟨H,g1,g2,g3,g4⟩:=ih (c*pw (h+1)) ⟨2*c,e⟩ h1 (by omega)
   exact⟨H,g1,g2,g3,by omega⟩
theorem QkD{n i:Nat}(hn:n<=2^40)(hin:i<n) : ∃H,(rst 0 n [i]).length+1=H+Pl.Qy 64 n∧2^H<=n ^^^ i∧n ^^^ i<2^(H+1)∧H<=40:=by
 have hp:n<pw 41:=by
  have:pw 41=2*2^40:=rfl;omega
 obtain⟨H,g1,g2,g3,g4⟩:=QkE n i hin 41 0 ⟨0,by simp⟩ (Ll _) (by simpa using hp)
 have hc:QI 0 [i] n:=⟨Ll _,hin⟩;refine⟨H,?_,g2,g3,by omega⟩
 rw[Cv.Qe6 n [i] hn hc,g1,<-Cv.Jl n hn,Cv.Qbh n hn]
end
section
open Pl (YR pw)
theorem Qkf(n k:Nat):n % 2^(k+1)=n % 2^k+2^k*(n / 2^k % 2):=by rw[LC,N7]
theorem Qme(n:Nat)(w:World)(hn:n<2^64) :
  Calls prog 408 #[.int .u64 (n:Int)] w fun e w' => ∃c:Nat,e = .returned (.int .i64 ((c:Int) - 1))∧n<2^c∧c<=64∧(0<c->2^(c - 1)<=n)∧w=w':=by
 go_enter func408,ntmps408;go_wp2
 go_loopg [3,4,5] 64 (fun g r i4 i wr => ∃k c:Nat,k<=64∧g=64 - k∧i = .int .i64 (k:Int)∧r = .int .i64 ((c:Int) - 1)∧c<=k∧n % 2^k<2^c∧(0<c->2^(c - 1)<=n % 2^k)∧w=wr)
 case atStart=>go_light;exact⟨0,0,Ll _,rfl,rfl,rfl,Ll _,by simp[Nat.mod_one],fun h=>absurd h (Nk 0),rfl⟩
 case round =>
  obtain⟨k,c,hk,rfl,rfl,rfl,hc,hs,xA,rfl⟩:=hrel;have xD:(0:Int)<=(k:Int):=Lf _
  by_cases hlt:k<64
  ·have xE:(k:Int)<64:=by omega
   have HM:=Qkf n k;have HC:=YR n k w hn hlt;have xB:n % 2^k<2^k:=Ia _ (LJ k)
   by_cases hb:n / 2^k % 2=1
   ·rw[LA hb] at HC;rw[hb,L8] at HM;have HX:Hid (n % 2^(k+1)<2^(k+1)∧2^k<=n % 2^(k+1)):=⟨Ia _ (LJ _),by omega⟩
    clear hs xA hc HM xB
    go_wp2_with (go_at_call 224;refine HC.mono ?_;rintro e w' ⟨rfl,rfl⟩)
    go_roundg (64 - (k+1))
    case rel=>go_light;exact⟨k+1,k+1,by omega,rfl,by go_num,by congr 1;omega,La _,HX.out.1,fun _=>HX.out.2,rfl⟩
    case measure=>go_light;omega
   ·rw[Ls hb] at HC;have xC:n / 2^k % 2=0:=by omega
    rw[xC,Nat.mul_zero,N8] at HM;have HX:Hid (n % 2^(k+1)<2^c∧c<=k+1∧(0<c->2^(c - 1)<=n % 2^(k+1))):=⟨by rw[HM];exact hs,by omega,by rw[HM];exact xA⟩
    clear hs xA hc HM xB
    go_wp2_with (go_at_call 224;refine HC.mono ?_;rintro e w' ⟨rfl,rfl⟩)
    go_roundg (64 - (k+1))
    case rel=>go_light;exact⟨k+1,c,by omega,rfl,by go_num,rfl,HX.out.2.1,HX.out.1,HX.out.2.2,rfl⟩
    case measure=>go_light;omega
  ·obtain rfl:k=64:=by omega
   have HX:Hid (n<2^c∧c<=64∧(0<c->2^(c - 1)<=n)):=by
    rw[Nn hn] at hs xA;exact⟨hs,hc,xA⟩
   clear hs xA hc hlt;go_wp2
   go_ret
   exact⟨c,rfl,HX.out.1,HX.out.2.1,HX.out.2.2,rfl⟩
theorem Qoc(n H:Nat)(w:World)(hn:n<2^64)(h1:2^H<=n)(h2:n<2^(H+1)) :
  Calls prog 408 #[.int .u64 (n:Int)] w fun e w'=>e = .returned (.int .i64 (H:Int))∧w'=w:=by
 refine(Qme n w hn).mono ?_
 rintro e w' ⟨c,rfl,g1,g2,g3,rfl⟩;have hc:c=H+1:=by
  have a1:H<c:=by
   apply Classical.byContradiction
   intro h;have:=LW (n:=2) (by decide) (show c<=H by omega)
   omega
  have a2:c - 1<H+1:=by
   apply Classical.byContradiction
   intro h;have:=LW (n:=2) (by decide) (show H+1<=c - 1 by omega)
   have:=g3 (by omega)
   omega
  omega
 subst hc;exact⟨by congr 2;omega,rfl⟩
end
section
open Cv (cU RdC)
theorem QmJ(w:World)(x:Nat):RdC (w.alloc (.cells #[.int .u64 (x:Int)] 48)) (.slice (some ⟨w.heap.size,0,none⟩) 1 1) 1 (cU [x]) :=
 Qhi (l:=[x]) ⟨rfl,fun _=>rfl,Qq w [.int .u64 (x:Int)] 48⟩ (fun h=>by cases h)
theorem Qn8 : ∃i,prog.info? 48=some i∧i.zero=some (.int .u64 0)∧i.size=1∧i.bytes=8:=by
 obtain⟨i0,h1,h2,h3,h4⟩:=info_parts Cv.Tryz.infoU;exact⟨i0,h1,h2,h3,h4⟩
end
theorem Ji{a b:BA}(h:a.data.toList=b.data.toList):a=b:=by
 obtain⟨⟨l⟩⟩:=a;obtain⟨⟨m⟩⟩:=b;simp only at h;rw[h]
section
open Cv (rst cov QG)
abbrev pv6(kd k:Int)(old size:Nat)(s d:Value):Value := .agg #[.int .i64 kd,.int .i64 k,.int .u64 (old:Int),.int .u64 (size:Int),s,d]
theorem UB(w:World)(a b c d e f:Value) : ∃W,w.alloc (.cells #[a,b,c,d,e,f] 138)=W∧Six W w.heap.size a b c d e f∧Below w.heap.size w W∧W.heap.size=w.heap.size+1 :=
 ⟨_,rfl,Qaa w a b c d e f,bal (Lb _ _) _,by simp⟩
theorem QnH{w:World}{ao:OA}{b off len:Nat}{l:List Nat}(h:RdU w ao b off len l):Cv.Rd w ao b off len l:=⟨h.hl,h.ptr,fun _ hj=>h.at hj⟩
theorem Qpb(a b:Nat)(ha:a<=100)(hb:b<=100):wrap64 ((a:Int)+(b:Int))=(a:Int)+(b:Int):=by unfold wrap64;omega
theorem Qo5(a:Nat)(ha:a<=100):wrap64 (a:Int)=(a:Int):=by unfold wrap64;omega
theorem QbL{w:World}{B e size n m c:Nat}{ao:OA}{xs:List Value}(h:w.ownsRow B e size (.slice ao m c) n xs):m=n:=by
 rcases h.2 with ⟨h,h0⟩|⟨g,cap,cur,h,_⟩
 ·cases h;omega
 ·cases h;rfl
section
variable (w:World) (kd k:Int) (old size:Nat) (sa:OA) (sb so sc:Nat) (S:List Nat) (d:Value)
theorem Qjw(rs:RdU w sa sb so S.length S)(h : ¬(old=0∧S.length=1∧S.getD 0 0<size)) :
  Calls prog 382 #[pv6 kd k old size (.slice sa S.length sc) d] w fun e w'=>e = .returned (.tuple #[.int .u64 0,.int .i64 150])∧Below w.heap.size w w':=by
 by_cases h1:old=0
 ·subst h1
  by_cases h2:S.length=1
  ·have h3 : ¬S.getD 0 0<size:=fun h3=>h ⟨rfl,h2,h3⟩
   have hp:=rs.ptr (by omega)
   subst hp;obtain⟨W,hW,h6,hb,hz⟩:=UB w (.int .i64 kd) (.int .i64 k) (.int .u64 0) (.int .u64 (size:Int)) (.slice (some ⟨sb,so,none⟩) 1 sc) d;obtain⟨e0,e1,e2,e3,e4,e5⟩:=h6.cells;have HB:Hid (Below w.heap.size w W):=hb;have hc:=(rs.next hb).at (j:=0) (by omega)
   rw[N8] at hc;generalize S.getD 0 0=i at *;have xC:decide ((size:Int)<=(i:Int))=true:=LA (by omega)
   have xD:size<=i:=by omega
   rw[h2];clear rs h h2 h3 h6 hb
   go_enter func382,ntmps382
   go_upto_region 1 with (fail)
   try rw[hW]
   clear hW
   go_quiet (fail)
   go_wp2
   go_ret2
   exact⟨rfl,Qf HB.out _⟩
  ·have xB : ¬(S.length:Int)=1:=by omega
   generalize S.length=m at *;obtain⟨W,hW,h6,hb,hz⟩:=UB w (.int .i64 kd) (.int .i64 k) (.int .u64 0) (.int .u64 (size:Int)) (.slice sa m sc) d;obtain⟨e0,e1,e2,e3,e4,e5⟩:=h6.cells;have HB:Hid (Below w.heap.size w W):=hb;clear rs h h2 h6 hb
   go_enter func382,ntmps382
   go_upto_region 1 with (fail)
   try rw[hW]
   clear hW
   go_quiet (fail)
   go_wp2
   go_ret2
   exact⟨rfl,Qf HB.out _⟩
 ·have xA:((old:Int) != 0)=true:=bne_iff_ne.2 (by omega)
  obtain⟨W,hW,h6,hb,hz⟩:=UB w (.int .i64 kd) (.int .i64 k) (.int .u64 (old:Int)) (.int .u64 (size:Int)) (.slice sa S.length sc) d;obtain⟨e0,e1,e2,e3,e4,e5⟩:=h6.cells;have HB:Hid (Below w.heap.size w W):=hb;clear rs h h6 hb h1
  go_enter func382,ntmps382
  go_upto_region 1 with (fail)
  try rw[hW]
  clear hW
  go_quiet (fail)
  go_wp2
  go_ret2
  exact⟨rfl,Qf HB.out _⟩
theorem QhN(hold:old<18446744073709551616)(rs:RdU w sa sb so S.length S)(hm:S.length<=17592186044416)(h : ¬(old=0∧QG size S=0)) :
  Calls prog 383 #[pv6 kd k old size (.slice sa S.length sc) d] w fun e w'=>e = .returned (.tuple #[.int .u64 0,.int .i64 150])∧Below w.heap.size w w':=by
 obtain⟨W,hW,h6,hb,hz⟩:=UB w (.int .i64 kd) (.int .i64 k) (.int .u64 (old:Int)) (.int .u64 (size:Int)) (.slice sa S.length sc) d;obtain⟨e0,e1,e2,e3,e4,e5⟩:=h6.cells;have HC:=Cv.UJ size W sa sb so S.length sc S (QnH (rs.next hb)) hm;have HB:Hid (∀w',Below W.heap.size W w'->Below w.heap.size w w'∧w'.cell? ⟨w.heap.size,2,none⟩=some (.int .u64 (old:Int))):=fun w' hb'=>⟨Qa hb hb',(h6.next hb').cells.2.2.1⟩
 have HE:Hid (¬(old=0∧QG size S=0)∧old<18446744073709551616):=⟨h,hold⟩;clear rs h h6 hb hm hold;generalize QG size S=er at *;generalize (Cv.rstS size S).length=cc at *;generalize S.length=m at *
 by_cases h1:er=0
 ·subst h1;have h2:((old:Int) != 0)=true:=bne_iff_ne.2 (by have:=HE.out;omega)
  go_enter func383,ntmps383
  go_wp2_with (go_at_call 323;(try rw[hW]);with_reducible refine HC.mono ?_;rintro x w1 ⟨rfl,xA⟩;obtain⟨q1,q2⟩:=HB.out _ xA)
  go_ret2
  exact⟨rfl,q1⟩
 ·have h2:((er:Int) != 0)=true:=bne_iff_ne.2 (by omega)
  go_enter func383,ntmps383
  go_wp2_with (go_at_call 323;(try rw[hW]);with_reducible refine HC.mono ?_;rintro x w1 ⟨rfl,xA⟩;obtain⟨q1,q2⟩:=HB.out _ xA)
  go_ret2
  exact⟨rfl,q1⟩
theorem QfE(rs:RdU w sa sb so S.length S)(hm:S.length<=17592186044416)(h:QG size S=0) :
  Calls prog 383 #[pv6 kd k 0 size (.slice sa S.length sc) d] w fun e w'=>e = .returned (.tuple #[.int .u64 ((rst 0 size S).length:Nat),.int .i64 0])∧Below w.heap.size w w':=by
 obtain⟨W,hW,h6,hb,hz⟩:=UB w (.int .i64 kd) (.int .i64 k) (.int .u64 0) (.int .u64 (size:Int)) (.slice sa S.length sc) d;obtain⟨e0,e1,e2,e3,e4,e5⟩:=h6.cells;have HC:=Cv.Qek size W sa sb so S.length sc S (QnH (rs.next hb)) hm h;have HB:Hid (∀w',Below W.heap.size W w'->Below w.heap.size w w'∧w'.cell? ⟨w.heap.size,2,none⟩=some (.int .u64 0)):=fun w' hb'=>⟨Qa hb hb',(h6.next hb').cells.2.2.1⟩
 clear rs h h6 hb hm;generalize (rst 0 size S).length=cc at *;generalize S.length=m at *
 go_enter func383,ntmps383
 go_wp2_with (go_at_call 323;(try rw[hW]);with_reducible refine HC.mono ?_;rintro x w1 ⟨rfl,xA⟩;obtain⟨q1,q2⟩:=HB.out _ xA)
 go_ret2
 exact⟨rfl,q1⟩
theorem QlN(hn:size<=2^40)(hS:S.length<=17592186044416)(h : ¬(old<=size∧S.length=0)) :
  Calls prog 384 #[pv6 kd k old size (.slice sa S.length sc) d] w fun e w'=>e = .returned (.tuple #[.int .u64 0,.int .i64 150])∧Below w.heap.size w w':=by
 obtain⟨W,hW,h6,hb,hz⟩:=UB w (.int .i64 kd) (.int .i64 k) (.int .u64 (old:Int)) (.int .u64 (size:Int)) (.slice sa S.length sc) d;obtain⟨e0,e1,e2,e3,e4,e5⟩:=h6.cells;have HC:=Cv.QcL old size size W;have HB:Hid (∀w',Below W.heap.size W w'->Below w.heap.size w w'∧w'.cell? ⟨w.heap.size,4,none⟩=some (.slice sa S.length sc)):=fun w' hb'=>⟨Qa hb hb',(h6.next hb').cells.2.2.2.2.1⟩
 have he:Cv.J4 old size size=0↔old<=size:=by
  unfold Cv.J4;rw[Le (by omega),Le (by omega)]
  split <;> omega
 have HE:Hid (¬(Cv.J4 old size size=0∧S.length=0)∧S.length<=17592186044416):=⟨by rw[he];exact h,hS⟩
 clear h h6 hb he hn hS;generalize Cv.J4 old size size=er at *;generalize Cv.zl (Cv.covR old size size)=cc at *;generalize S.length=m at *
 by_cases h1:er=0
 ·subst h1;have h2:((m:Int) != 0)=true:=bne_iff_ne.2 (by have:=HE.out;omega)
  go_enter func384,ntmps384
  go_wp2_with (go_at_call 181;(try rw[hW]);with_reducible refine HC.mono ?_;rintro x w1 ⟨v,rfl,ho,xA⟩;obtain⟨q1,q2⟩:=HB.out _ xA)
  go_ret2
  exact⟨rfl,q1⟩
 ·have h2:((er:Int) != 0)=true:=bne_iff_ne.2 (by omega)
  go_enter func384,ntmps384
  go_wp2_with (go_at_call 181;(try rw[hW]);with_reducible refine HC.mono ?_;rintro x w1 ⟨v,rfl,ho,xA⟩;obtain⟨q1,q2⟩:=HB.out _ xA)
  go_ret2
  exact⟨rfl,q1⟩
theorem Qjt(hn:size<=2^40)(h1:old<=size) :
  Calls prog 384 #[pv6 kd k old size (.slice sa 0 sc) d] w fun e w'=>e = .returned (.tuple #[.int .u64 (((cov 0 old).length+(cov old size).length:Nat):Int),.int .i64 0])∧Below w.heap.size w w':=by
 obtain⟨W,hW,h6,hb,hz⟩:=UB w (.int .i64 kd) (.int .i64 k) (.int .u64 (old:Int)) (.int .u64 (size:Int)) (.slice sa 0 sc) d;obtain⟨e0,e1,e2,e3,e4,e5⟩:=h6.cells;have HC:=Cv.QeV old size size W hn (La _) h1;have HB:Hid (∀w',Below W.heap.size W w'->Below w.heap.size w w'∧w'.cell? ⟨w.heap.size,4,none⟩=some (.slice sa 0 sc)∧w'.cell? ⟨w.heap.size,2,none⟩=some (.int .u64 (old:Int))):=fun w' hb'=>⟨Qa hb hb',(h6.next hb').cells.2.2.2.2.1,(h6.next hb').cells.2.2.1⟩
 have HO:=fun W'=>Pl.Jw old W' (by omega)
 have xB:=Cv.Qbh old (by omega)
 have xE:=Cv.JM old size h1 hn;have xF:=Cv.Qcr old (by omega)
 have xC:(Cv.zl (cov old size)).length=(cov old size).length:=Cv.Je _;rw[<-xB] at HO;generalize (cov 0 old).length=a at *;generalize Cv.zl (cov old size)=Z at *;generalize (cov old size).length=b at *;obtain⟨c,hc⟩:=Ze (a+b);rw[hc];have xG:wrap64 ((a:Int)+(b:Int))=(c:Int):=by unfold wrap64;omega
 have es:IntKind.u64.wrap (c:Int)=(c:Int):=by rw[IntKind.wrap_u64];omega
 have ha:(a:Int)<=40:=by omega
 have xH:(b:Int)<=80:=by omega
 have HZ:Hid (Z.length=b):=xC;have xD:Hid ((a:Int)+(b:Int)=(c:Int)):=(by omega:(a:Int)+(b:Int)=(c:Int))
 clear h6 hb hn h1 xB xE xF hc xC
 go_enter func384,ntmps384
 go_upto_region 4 with (go_at_call 181;(try rw[hW]);with_reducible refine HC.mono ?_;rintro x w1 ⟨v,rfl,ho,xA⟩;obtain⟨q1,q2,q3⟩:=HB.out _ xA;obtain⟨ao,m,cp,rfl⟩:=Cv.Qx ho;obtain rfl:m=b:=by(have h:=QbL ho;rw[HZ.out] at h;exact h))
 clear ho xA;have HQ:=Qg q1;clear q1
 go_wp2_with (go_at_call 138;with_reducible refine(HO _).mono ?_;rintro x w2 ⟨rfl,rfl⟩)
 go_ret2
 refine⟨?_,HQ.out⟩
 show Ending.returned (.tuple #[.int .u64 ((a:Int)+(m:Int)),.int .i64 0])=_
 rw[xD.out]
end
section
variable (w:World) (kd k:Int) (old size:Nat) (sa:OA) (sb so sc:Nat) (S:List Nat) (d:Value)
theorem QhZ(hn:size<=2^40)(rs:RdU w sa sb so S.length S)(h2:S.length=1)(h3:S.getD 0 0<size) :
  Calls prog 382 #[pv6 kd k 0 size (.slice sa S.length sc) d] w fun e w'=>e = .returned (.tuple #[.int .u64 ((rst 0 size S).length:Nat),.int .i64 0])∧Below w.heap.size w w':=by
 obtain⟨i,rfl⟩:=List.length_eq_one_iff.1 h2;have hp:=rs.ptr (by simp)
 subst hp;rw[show[i].getD 0 0=i from rfl] at h3
 obtain⟨H,g1,g2,g3,g4⟩:=QkD hn h3;obtain⟨W,hW,h6,hb,hz⟩:=UB w (.int .i64 kd) (.int .i64 k) (.int .u64 0) (.int .u64 (size:Int)) (.slice (some ⟨sb,so,none⟩) 1 sc) d;obtain⟨e0,e1,e2,e3,e4,e5⟩:=h6.cells;have HB:Hid (Below w.heap.size w W):=hb;have hc:W.cell? ⟨sb,so,none⟩=some (.int .u64 (i:Int)):=by
  have:=(rs.next hb).at (j:=0) (by simp)
  rw[N8] at this;exact this
 have hx:=u64_xor_nat size i (by omega) (by omega)
 have xG:(2:Nat)^(H+1)<=2^41:=LW (by decide) (by omega)
 have HL:=fun W'=>Qoc (size ^^^ i) H W' (by omega) g2 g3
 clear xG g2 g3;have HO:=fun W'=>Pl.Jw size W' (by omega)
 have ho:Pl.Qy 64 size<=64:=Pl.Qdy 64 size;obtain⟨c,xD⟩:=Ze ((rst 0 size [i]).length);rw[xD] at g1 ⊢;have xI:0<Pl.Qy 64 size:=by
  rw[<-Cv.Qbh size hn]
  cases hz:cov 0 size with
  | nil =>
   have ht:=Cv.QaV 0 size (Ll _) hn;rw[hz] at ht;exact absurd ⟨Ll _,h3⟩ (ht.2 i (Ll _) h3)
  | cons b r=>simp
 generalize Pl.Qy 64 size=q at *;have xK:decide ((size:Int)<=(i:Int))=false:=Ls (by omega)
 have xL : ¬size<=i:=by omega
 obtain⟨q',rfl⟩ : ∃q',q=q'+1:=⟨q - 1,by omega⟩
 have eq:((q'+1:Nat):Int) - 1=(q':Int):=by omega
 have xN:(q':Int)<=64:=by omega
 have xM:(H:Int)<=40:=by omega
 have xB:q'<=100:=by omega
 have xH:c<=1000∧H+q'=c:=by omega
 have xF:Hid ((H:Int)+(q':Int)=(c:Int)):=(by omega:(H:Int)+(q':Int)=(c:Int))
 have xC:H<=100:=by omega
 have ew:=Qo5 q' xB;have xJ:=Qpb H q' xC xB;clear xB xH g1 xC;have xE:Hid (∀n,Six (W.drewN n) w.heap.size (.int .i64 kd) (.int .i64 k) (.int .u64 0) (.int .u64 (size:Int)) (.slice (some ⟨sb,so,none⟩) 1 sc) d∧(W.drewN n).cell? ⟨sb,so,none⟩=some (.int .u64 (i:Int))∧Below w.heap.size w (W.drewN n)):=fun n=>⟨h6.next (Qf (Lb _ _) n),((Qf (Lb W.heap.size W) n).cell (Ln W _ hc)).trans hc,Qf hb n⟩
 clear rs hn h2 h3 g4 h6 hb ho xD xI
 go_enter func382,ntmps382
 go_upto_region 1 with (fail)
 try rw[hW]
 clear hW
 go_quiet (fail)
 go_upto_region 3 with (fail)
 have k0:=xE.out nq;obtain⟨W2,xA⟩:=Ze (W.drewN nq)
 try rw[xA]
 rw[xA] at k0;clear xA e0 e1 e2 e3 e4 e5 hc;obtain⟨k0,hc,HW⟩:=k0;obtain⟨e0,e1,e2,e3,e4,e5⟩:=k0.cells;have HW:=Qg HW
 go_quiet ((go_at_call 408;refine Calls.quiet_of_same (HL _)))
 go_wp2_with (go_at_call 138;with_reducible refine(HO _).mono ?_;rintro x w2 ⟨rfl,rfl⟩)
 go_ret2
 refine⟨?_,Qf HW.out _⟩
 show Ending.returned (.tuple #[.int .u64 ((H:Int)+(q':Int)),.int .i64 0])=_
 rw[xF.out]
end
def cV:Option Nat->Value
 | some c => .tuple #[.int .u64 (c:Int),.int .i64 0]
 | none => .tuple #[.int .u64 0,.int .i64 150]
theorem QlY{size i:Nat}(hn:size<=2^40):QG size [i]=0↔i<size :=
 ⟨fun h=>by have:=(Cv.Yw h).2.2.1;simpa using this,fun h=>Cv.Qcp ⟨Ll _,h⟩ (by simp) hn⟩
theorem Qej{k:Int}{old size:Nat}{S:List Nat}(hk:1<=k∧k<=32∧size<=2^40):cnt 1 k old size S=if old=0∧S.length=1∧S.getD 0 0<size then some (rst 0 size S).length else none:=by
 rw[cnt,Lk hk,Lk rfl]
 by_cases h1:S.length=1
 ·obtain⟨i,rfl⟩:=List.length_eq_one_iff.1 h1;have:=QlY (i:=i) hk.2.2;simp only[this]
  rfl
 ·rw[Le (by rintro⟨_,h,_⟩;exact h1 h),Le (by rintro⟨_,h,_⟩;exact h1 h)]
theorem Qak{k:Int}{old size:Nat}{S:List Nat}(hk:1<=k∧k<=32∧size<=2^40):cnt 2 k old size S=if old=0∧QG size S=0 then some (rst 0 size S).length else none:=by
 rw[cnt,Lk hk,Le (by decide),Lk rfl]
theorem OD{k:Int}{old size:Nat}{S:List Nat}(hk:1<=k∧k<=32∧size<=2^40):cnt 3 k old size S=if old<=size∧S=[] then some ((cov 0 old).length+(cov old size).length) else none:=by
 rw[cnt,Lk hk,Le (by decide),Le (by decide),Lk rfl]
theorem QgN{kd k:Int}{old size:Nat}{S:List Nat}(h : ¬(1<=k∧k<=32∧size<=2^40)):cnt kd k old size S=none:=by rw[cnt,Le h]
theorem Qcq{kd k:Int}{old size:Nat}{S:List Nat}(h1:kd≠1)(h2:kd≠2)(h3:kd≠3):cnt kd k old size S=none:=by
 rw[cnt,Le h1,Le h2,Le h3]
 split <;> rfl
section
variable (w:World) (kd k:Int) (old size:Nat) (sa:OA) (sb so sc:Nat) (S:List Nat) (d:Value)
theorem UJ(hold:old<18446744073709551616)(hsz:size<18446744073709551616)(rs:RdU w sa sb so S.length S)(hm0:size<=2^40->S.length<=17592186044416) :
  Calls prog 310 #[pv6 kd k old size (.slice sa S.length sc) d] w fun e w'=>e = .returned (cV (cnt kd k old size S))∧Below w.heap.size w w':=by
 obtain⟨W,hW,h6,hb,hz⟩:=UB w (.int .i64 kd) (.int .i64 k) (.int .u64 (old:Int)) (.int .u64 (size:Int)) (.slice sa S.length sc) d;obtain⟨e0,e1,e2,e3,e4,e5⟩:=h6.cells;have HB:Hid (∀w',Below W.heap.size W w'->Below w.heap.size w w'):=fun w' hb'=>Qa hb hb'
 have xE:Hid (Below w.heap.size w W):=hb;have xA:=rs.next hb
 by_cases h0:1<=k∧k<=32∧size<=2^40
 ·have hm:=hm0 h0.2.2;clear hm0;have xH : ¬k<1:=by omega
  have xI : ¬32<k:=by omega
  have xJ : ¬(1099511627776:Int)<(size:Int):=by omega
  by_cases h1:kd=1
  ·subst h1;rw[Qej h0]
   by_cases hc:old=0∧S.length=1∧S.getD 0 0<size
   ·rw[Lk hc];obtain⟨rfl,xC,xG⟩:=hc;have HC:Calls prog 382 #[.agg #[.int .i64 1,.int .i64 k,.int .u64 0,.int .u64 (size:Int),.slice sa S.length sc,d]] W fun e w'=>e = .returned (.tuple #[.int .u64 ((rst 0 size S).length:Nat),.int .i64 0])∧Below W.heap.size W w':=QhZ W 1 k size sa sb so sc S d h0.2.2 xA xC xG
    have xD:((0:Nat):Int)=0:=rfl;rw[xD] at hW e2;clear xD;generalize (rst 0 size S).length=cc at *;generalize S.length=m at *;clear rs xA h6 hb hm h0 hold hsz xC xG
    go_enter func310,ntmps310
    go_wp2_with (go_at_call 382;with_reducible refine HC.mono ?_;rintro x w1 ⟨rfl,xB⟩)
    go_ret2
    exact⟨rfl,HB.out _ xB⟩
   ·rw[Le hc];have HC:=Qjw W 1 k old size sa sb so sc S d xA hc;generalize S.length=m at *;clear rs xA h6 hb hm h0 hold hsz hc
    go_enter func310,ntmps310
    go_wp2_with (go_at_call 382;with_reducible refine HC.mono ?_;rintro x w1 ⟨rfl,xB⟩)
    go_ret2
    exact⟨rfl,HB.out _ xB⟩
  ·by_cases h2:kd=2
   ·subst h2;rw[Qak h0]
    by_cases hc:old=0∧QG size S=0
    ·rw[Lk hc];obtain⟨rfl,xC⟩:=hc;have HC:Calls prog 383 #[.agg #[.int .i64 2,.int .i64 k,.int .u64 0,.int .u64 (size:Int),.slice sa S.length sc,d]] W fun e w'=>e = .returned (.tuple #[.int .u64 ((rst 0 size S).length:Nat),.int .i64 0])∧Below W.heap.size W w':=QfE W 2 k size sa sb so sc S d xA hm xC
     have xD:((0:Nat):Int)=0:=rfl;rw[xD] at hW e2;clear xD;generalize (rst 0 size S).length=cc at *;generalize S.length=m at *;clear rs xA h6 hb hm h0 hold hsz xC h1
     go_enter func310,ntmps310
     go_wp2_with (go_at_call 383;with_reducible refine HC.mono ?_;rintro x w1 ⟨rfl,xB⟩)
     go_ret2
     exact⟨rfl,HB.out _ xB⟩
    ·rw[Le hc];have HC:=QhN W 2 k old size sa sb so sc S d hold xA hm hc;generalize S.length=m at *;clear rs xA h6 hb hm h0 hold hsz hc h1
     go_enter func310,ntmps310
     go_wp2_with (go_at_call 383;with_reducible refine HC.mono ?_;rintro x w1 ⟨rfl,xB⟩)
     go_ret2
     exact⟨rfl,HB.out _ xB⟩
   ·by_cases h3:kd=3
    ·subst h3;rw[OD h0]
     by_cases hc:old<=size∧S=[]
     ·rw[Lk hc];obtain⟨xF,rfl⟩:=hc;have HC:=Qjt W 3 k old size sa sc d h0.2.2 xF;rw[NL] at *;generalize (cov 0 old).length+(cov old size).length=cc at *;clear rs xA h6 hb hm h0 hold hsz xF h1 h2
      go_enter func310,ntmps310
      go_wp2_with (go_at_call 384;with_reducible refine HC.mono ?_;rintro x w1 ⟨rfl,xB⟩)
      go_ret2
      exact⟨rfl,HB.out _ xB⟩
     ·rw[Le hc];have HC:=QlN W 3 k old size sa sc S d h0.2.2 hm (by rintro⟨a,b⟩;exact hc ⟨a,List.length_eq_zero_iff.1 b⟩)
      generalize S.length=m at *;clear rs xA h6 hb hm h0 hold hsz hc h1 h2
      go_enter func310,ntmps310
      go_wp2_with (go_at_call 384;with_reducible refine HC.mono ?_;rintro x w1 ⟨rfl,xB⟩)
      go_ret2
      exact⟨rfl,HB.out _ xB⟩
    ·rw[Qcq h1 h2 h3];generalize S.length=m at *;clear rs xA h6 hb hm h0 hold hsz
     go_enter func310,ntmps310;go_wp2
     go_ret2
     exact⟨rfl,xE.out⟩
 ·rw[QgN h0];clear hm0;generalize S.length=m at *
  by_cases xH:k<1
  ·clear rs xA h6 hb h0 hold hsz
   go_enter func310,ntmps310;go_wp2
   go_ret2
   exact⟨rfl,xE.out⟩
  ·by_cases xI:32<k
   ·clear rs xA h6 hb h0 hold hsz
    go_enter func310,ntmps310;go_wp2
    go_ret2
    exact⟨rfl,xE.out⟩
   ·have xJ:(1099511627776:Int)<(size:Int):=by omega
    clear rs xA h6 hb h0 hold hsz
    go_enter func310,ntmps310;go_wp2
    go_ret2
    exact⟨rfl,xE.out⟩
end
end
end Go.Proofs.YtoblgjledefdbaaGreatDoor
