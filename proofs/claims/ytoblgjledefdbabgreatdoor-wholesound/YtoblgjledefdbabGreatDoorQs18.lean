/- Own work. -/
import Derived.Deep.DeepMakePanics
import Derived.Test.YtoblgjledefdbabGreatDoorQs10
set_option maxRecDepth 100000
set_option maxHeartbeats 1000000
namespace Go.Proofs.YtoblgjledefdbabGreatDoor
open Go.RowKit
attribute [local go_sem ↓] Go.wp_at_zero Go.wp_at_succ
open Go.Proofs.Tryz
section
open Cv (rst cov Yf dnL tno inb)
open Pl (pw)
theorem Qnz(m:Nat):(2*m+1) ^^^ (2*m)=1:=by
 have h1:((2*m+1) ^^^ (2*m))/2=0:=by
  have e:((2*m+1) ^^^ (2*m)) >>> 1=((2*m+1) >>> 1) ^^^ ((2*m) >>> 1):=Wg;rw[NC,NC,NC,show(2*m+1)/2^1=m by omega,show 2*m/2^1=m by omega,Nat.xor_self] at e
  simpa using e
 have h2:((2*m+1) ^^^ (2*m))%2=1:=by
  have e:((2*m+1) ^^^ (2*m))%2^1=((2*m+1)%2^1) ^^^ ((2*m)%2^1):=Nat.xor_mod_two_pow;rw[show(2*m+1)%2^1=1 by omega,show 2*m%2^1=0 by omega] at e
  exact e
 omega
theorem Qli{n i H q:Nat}(hq:q%2=0)(h1:n/2^H=q+1)(h2:i/2^H=q):2^H<=n ^^^ i∧n ^^^ i<2^(H+1):=by
 have e:(n ^^^ i)/2^H=1:=by
  have e:(n ^^^ i) >>> H=(n >>> H) ^^^ (i >>> H):=Wg;rw[NC,NC,NC,h1,h2] at e;obtain⟨m,rfl⟩:∃m,q=2*m:=⟨q/2,by omega⟩
  rw[e,Qnz]
 have hp:0<2^H:=LM H
 constructor
 ·have:=I7 (n ^^^ i) (2^H);rw[e] at this;omega
 ·have:=Nat.lt_mul_of_div_lt (show(n ^^^ i)/2^H<2 by omega) hp
  rw[LO];omega
theorem Qo9(i:Nat):∀H K,K*pw H<=i->i<(K+1)*pw H->(tno H K [i]).length=H:=by
 intro H
 induction H with
 | zero=>
  intro K h1 h2;have hb:inb 0 K i=true:=Cv.QD.2 ⟨h1,h2⟩;rw[tno,NP hb];simp
 | succ H ih=>
  intro K h1 h2;have hb:inb (H+1) K i=true:=Cv.QD.2 ⟨h1,h2⟩;have e1:=Cv.U0 H K;have e2:=Cv.Qbr H K;have e3:=Cv.Ul H K;have e4:=Cv.Qgt H K;rw[tno,NP hb,List.filter_nil,Le (by simp),Lh]
  have out:∀K',¬(K' * pw H<=i∧i<(K'+1)*pw H)->(tno H K' [i]).length=1:=fun K' h=>by
   have hb:¬inb H K' i=true:=fun e=>h (Cv.QD.1 e)
   exact(Cv.QcP H K' [i]).1 (by rw[Nv hb];rfl)
  by_cases hm:i<K*pw (H+1)+pw H
  ·rw[ih (2*K) (by omega) (by rw[e2];exact hm),out (2*K+1) (by omega)]
  ·rw[out (2*K) (by omega),ih (2*K+1) (by omega) (by omega)]
   omega
theorem Qhc{i H K:Nat}(h:¬(K*pw H<=i∧i<(K+1)*pw H)):(tno H K [i]).length=1:=by
 have hb:¬inb H K i=true:=fun e=>h (Cv.QD.1 e)
 exact(Cv.QcP H K [i]).1 (by rw[Nv hb];rfl)
theorem Qi7(n i:Nat):∀h lo,(∃c,lo=c*pw h)->i<lo->((dnL h lo n).flatMap fun b=>tno b.1 b.2 [i]).length=(dnL h lo n).length:=by
 intro h
 induction h with
 | zero=>intro lo _ _;rfl
 | succ h ih=>
  intro lo hc hi;obtain⟨c,rfl⟩:=hc;have e:=Cv.Q5 c h;rw[dnL]
  split
  ·rw[Iu,Lh,LJ,ih _ ⟨2*c+1,by rw[L4,Na,e]⟩ (by omega),Qhc (by
    intro hx
    dsimp only at hx
    rw[e,NO _ (Pl.QA h)] at hx;omega)]
   omega
  ·exact ih _ ⟨2*c,e⟩ hi
theorem Qkm(n i:Nat)(hin:i<n):∀h lo,(∃c,lo=c*pw h)->lo<=i->n-lo<pw h ->
  ∃H,((dnL h lo n).flatMap fun b=>tno b.1 b.2 [i]).length+1=H+(dnL h lo n).length∧2^H<=n ^^^ i∧n ^^^ i<2^(H+1)∧H<h:=by
 intro h
 induction h with
 | zero=>intro lo _ h1 h2;have:pw 0=1:=rfl;omega
 | succ h ih=>
  intro lo hc h1 h2;obtain⟨c,rfl⟩:=hc;have e:=Cv.Q5 c h;have hp:=Pl.QA h;have hs:=Pl.QE h;rw[dnL]
  split
  ·rename_i hfit
   have hq:c*pw (h+1)/pw h=2*c:=by rw[e,NO _ hp]
   rw[Iu,Lh,LJ,hq]
   by_cases hm:i<c*pw (h+1)+pw h
   ·refine⟨h,?_,?_⟩
    ·rw[Qo9 i h (2*c) (by omega) (by rw[L4,Na];omega),Qi7 n i h _ ⟨2*c+1,by rw[L4,Na,e]⟩ hm]
     omega
    ·have a1:n/2^h=2*c+1:=by
      have:n/pw h=2*c+1:=by
       apply I6
       ·rw[L4,Na];omega
       ·rw[L4,L4,Na];omega
      exact this
     have a2:i/2^h=2*c:=by
      have:i/pw h=2*c:=by
       apply I6
       ·omega
       ·rw[L4,Na];omega
      exact this
     obtain⟨b1,b2⟩:=Qli (q:=2*c) (by omega) a1 a2
     exact⟨b1,b2,by omega⟩
   ·obtain⟨H,g1,g2,g3,g4⟩:=ih (c*pw (h+1)+pw h) ⟨2*c+1,by rw[L4,Na,e]⟩ (by omega) (by omega)
    refine⟨H,?_,g2,g3,by omega⟩
    rw[Qhc (by intro hx;dsimp only at hx;rw[L4,Na,<-e] at hx;omega)]
    omega
  ·rename_i hfit
   obtain⟨H,g1,g2,g3,g4⟩:=ih (c*pw (h+1)) ⟨2*c,e⟩ h1 (by omega)
   exact⟨H,g1,g2,g3,by omega⟩
theorem Qkk{n i:Nat}(hn:n<=2^40)(hin:i<n):∃H,(rst 0 n [i]).length+1=H+Pl.Qy 64 n∧2^H<=n ^^^ i∧n ^^^ i<2^(H+1)∧H<=40:=by
 have hp:n<pw 41:=by
  have:pw 41=2*2^40:=rfl;omega
 obtain⟨H,g1,g2,g3,g4⟩:=Qkm n i hin 41 0 ⟨0,by simp⟩ (Lm _) (by simpa using hp)
 have hc:Yf 0 [i] n:=⟨Lm _,hin⟩;refine⟨H,?_,g2,g3,by omega⟩
 rw[Cv.QbQ n [i] hn hc,g1,<-Cv.Yh n hn,Cv.Qbd n hn]
end
section
open Pl (YM pw)
theorem QjV(n k:Nat):n%2^(k+1)=n%2^k+2^k*(n/2^k%2):=by rw[LO,Ik]
theorem Qmi(n:Nat)(w:World)(hn:n<2^64) :
  Calls prog 220 #[.int .u64 n] w fun e w'=> ∃c:Nat,e= .returned (.int .i64 ((c:Int)-1))∧n<2^c∧c<=64∧(0<c->2^(c-1)<=n)∧w=w':=by
 go_enter func220,ntmps220;go_wp2
 go_loopg [3,4,5] 64 (fun g r i4 i wr=> ∃k c:Nat,k<=64∧g=64-k∧i= .int .i64 k∧r= .int .i64 ((c:Int)-1)∧c<=k∧n%2^k<2^c∧(0<c->2^(c-1)<=n%2^k)∧w=wr)
 case atStart=>go_light;exact⟨0,0,Lm _,rfl,rfl,rfl,Lm _,by simp[Nat.mod_one],fun h=>absurd h (NB 0),rfl⟩
 case round=>
  obtain⟨k,c,hk,rfl,rfl,rfl,hc,hs,hs2,rfl⟩:=hrel;have hk0:(0:Int)<=(k:Int):=Lf _
  by_cases hlt:k<64
  ·have hk8:(k:Int)<64:=by omega
   have HM:=QjV n k;have HC:=YM n k w hn hlt;have hlt2:n%2^k<2^k:=ID _ (LM k)
   by_cases hb:n/2^k%2=1
   ·rw[LS hb] at HC;rw[hb,Nr] at HM;have HX:Hid (n%2^(k+1)<2^(k+1)∧2^k<=n%2^(k+1)):=⟨ID _ (LM _),by omega⟩
    clear hs hs2 hc HM hlt2
    go_wp2_with (go_at_call 191;refine HC.mono ?_;rintro e w' ⟨rfl,rfl⟩)
    go_roundg (64-(k+1))
    case rel=>go_light;exact⟨k+1,k+1,by omega,rfl,by go_num,by congr 1;omega,Lb _,HX.out.1,fun _=>HX.out.2,rfl⟩
    case measure=>go_light;omega
   ·rw[LC hb] at HC;have hb0:n/2^k%2=0:=by omega
    rw[hb0,Nat.mul_zero,IW] at HM;have HX:Hid (n%2^(k+1)<2^c∧c<=k+1∧(0<c->2^(c-1)<=n%2^(k+1))):=⟨by rw[HM];exact hs,by omega,by rw[HM];exact hs2⟩
    clear hs hs2 hc HM hlt2
    go_wp2_with (go_at_call 191;refine HC.mono ?_;rintro e w' ⟨rfl,rfl⟩)
    go_roundg (64-(k+1))
    case rel=>go_light;exact⟨k+1,c,by omega,rfl,by go_num,rfl,HX.out.2.1,HX.out.1,HX.out.2.2,rfl⟩
    case measure=>go_light;omega
  ·obtain rfl:k=64:=by omega
   have HX:Hid (n<2^c∧c<=64∧(0<c->2^(c-1)<=n)):=by
    rw[NJ hn] at hs hs2;exact⟨hs,hc,hs2⟩
   clear hs hs2 hc hlt;go_wp2
   go_ret
   exact⟨c,rfl,HX.out.1,HX.out.2.1,HX.out.2.2,rfl⟩
theorem QoC(n H:Nat)(w:World)(hn:n<2^64)(h1:2^H<=n)(h2:n<2^(H+1)) :
  Calls prog 220 #[.int .u64 n] w fun e w'=>e= .returned (.int .i64 H)∧w'=w:=by
 refine(Qmi n w hn).mono ?_
 rintro e w' ⟨c,rfl,g1,g2,g3,rfl⟩;have hc:c=H+1:=by
  have a1:H<c:=by
   apply Classical.byContradiction
   intro h;have:=Ng (n:=2) (by decide) (show c<=H by omega)
   omega
  have a2:c-1<H+1:=by
   apply Classical.byContradiction
   intro h;have:=Ng (n:=2) (by decide) (show H+1<=c-1 by omega)
   have:=g3 (by omega)
   omega
  omega
 subst hc;exact⟨by congr 2;omega,rfl⟩
theorem Qgo(a b:Nat)(w:World)(h:a+b<18446744073709551616) :
  Calls prog 167 #[.int .u64 a,.int .u64 b] w fun e w'=>e= .returned (.tuple #[.int .u64 ((a+b:Nat):Int),.bool true])∧w'=w:=by
 have e1:IntKind.u64.wrap ((a:Int)+(b:Int))=((a+b:Nat):Int):=by rw[IntKind.wrap_u64];omega
 have e2:¬((a+b:Nat):Int)<(a:Int):=by omega
 generalize a+b=c at *
 go_enter func167,ntmps167;go_wp2
 go_ret2
 exact⟨rfl,rfl⟩
theorem QnV(a b:Nat)(w:World)(ha:a<18446744073709551616)(hb:b<18446744073709551616)(h:¬a+b<18446744073709551616) :
  Calls prog 167 #[.int .u64 a,.int .u64 b] w fun e w'=>e= .returned (.tuple #[.int .u64 0,.bool false])∧w'=w:=by
 obtain⟨c,hc⟩:∃c,a+b-18446744073709551616=c:=⟨_,rfl⟩;have e1:IntKind.u64.wrap ((a:Int)+(b:Int))=(c:Int):=by rw[IntKind.wrap_u64];omega
 have e2:(c:Int)<(a:Int):=by omega
 clear hc ha hb h
 go_enter func167,ntmps167;go_wp2
 go_ret2
 exact⟨rfl,rfl⟩
end
section
open Cv (cU RdC)
theorem UG{w:World}{p:Nat}{s:BA}(hr:Rdr w p s 0)(hs:s.size<=9223372036854775807)(h:nmb s.data.toList=none) :
  Calls prog 99 #[Zv p] w fun e w'=>e=pnc∧Ch p w w':=by
 refine(U9 w p s hr hs).mono ?_
 rintro e w' (⟨n,s',g1,_⟩|⟨_,g2,g3⟩)
 ·rw[h] at g1;cases g1
 ·exact⟨g2,g3⟩
theorem UH{w:World}{p n:Nat}{s:BA}{r:List UInt8}(hr:Rdr w p s 0)(hs:s.size<=9223372036854775807)(h:nmb s.data.toList=some (n,r)) :
  Calls prog 99 #[Zv p] w fun e w'=> ∃s',s'.data.toList=r∧e= .returned (.int .u64 n)∧Rdr w' p s' 0∧Ch p w w'∧s'.size<=s.size:=by
 refine(U9 w p s hr hs).mono ?_
 rintro e w' (⟨n',s',g1,g2⟩|⟨g1,_⟩)
 ·rw[h] at g1;cases g1;exact⟨s',rfl,g2⟩
 ·rw[h] at g1;cases g1
theorem Ch.trans{p:Nat}{w w1 w2:World}(h:Ch p w w1)(h2:Ch p w1 w2):Ch p w w2 :=
 ⟨h.below.trans h2.below,fun q hq hne=>(h2.block q (LL hq h.below.size) hne).trans (h.block q hq hne)⟩
theorem Ch.low{p:Nat}{w w1 w2:World}(h:Ch p w w1)(hb:Below w.heap.size w1 w2)(hp:p<w.heap.size):Ch p w w2 :=
 ⟨h.below.trans (hb.mono (by omega)),fun q hq hne=>(hb.block q hq).trans (h.block q hq hne)⟩
def pan(e:Ending):Prop := ∃u v,e= .panicked [{ v := .iface u v,recovered:=false }]
theorem QU:pan pnc:=⟨_,_,rfl⟩
theorem QhW(w:World)(x:Nat):∀(j:Nat) u,(cU [x])[j]? = some u->(w.alloc (.cells #[.int .u64 x] 31)).cell? ((⟨w.heap.size,0,none⟩:Addr).add j)=some u:=fun j u hu=>by
 rw[Addr.add_mid];exact Qq w [.int .u64 x] 31 j u hu
theorem Qdl{l r:List UInt8}{n:Nat}(h:nmb l=some (n,r)):n<18446744073709551616:=(Ub h).2
theorem Qii{c x size d:Nat}{l r:List UInt8}(h:nmb l=some (d,r))(hd:¬x+d<size):Y0 (c+1) x size l=none:=by
 rw[Y0,h];simp only;rw[Le hd]
theorem QkK{c x size:Nat}{l:List UInt8}(h:nmb l=none):Y0 (c+1) x size l=none:=by rw[Y0,h]
theorem Qij{c x size d:Nat}{l r:List UInt8}(h:nmb l=some (d,r))(hd:x+d<size):Y0 (c+1) x size l=(Y0 c (x+d+1) size r).map fun a=>((x+d)::a.1,a.2):=by
 rw[Y0,h];simp only;rw[Lo hd]
 cases Y0 c (x+d+1) size r <;> rfl
structure SetS(w:World)(p g c size:Nat)(l0:List UInt8)(wr:World)(j x:Nat)(acc:List Nat)(s:BA):Prop where
 rd:Rdr wr p s 0
 ch:Ch p w wr
 own:wr.ownsRow g 31 1 (.slice (Zp g) j c) j (cU acc)
 jc:j<=c
 hg:w.heap.size<=g
 xs:x<=size
 go:Y0 c 0 size l0=(Y0 (c-j) x size s.data.toList).map fun a=>(acc++a.1,a.2)
 sz:s.size<=9223372036854775807
theorem SetS.read{w wr w1:World}{p g c size j x:Nat}{l0:List UInt8}{acc:List Nat}{s s':BA}{d:Nat}(h:SetS w p g c size l0 wr j x acc s)(hc:Ch p wr w1)(hp:p<w.heap.size)(hn:nmb s.data.toList=some (d,s'.data.toList))(hd:x+d<size)(hj:j<c) :
  w1.ownsRow g 31 1 (.slice (Zp g) j c) j (cU acc)∧Ch p w w1∧Y0 c 0 size l0=(Y0 (c-(j+1)) (x+d+1) size s'.data.toList).map fun a=>((acc++[x+d])++a.1,a.2):=by
 have hg:=h.hg;refine⟨Qr h.own fun b hb _=> ?_,h.ch.trans hc,?_⟩
 ·cases hb;exact hc.block g (h.own.lt g rfl).2 (by omega)
 ·rw[h.go,show c-j=(c-(j+1))+1 by omega,Qij hn hd]
  cases Y0 (c-(j+1)) (x+d+1) size s'.data.toList <;> simp
theorem QjA:∃i,prog.info? 31=some i∧i.zero=some (.int .u64 0)∧i.size=1∧i.bytes=8:=by
 obtain⟨i0,h1,h2,h3,h4⟩:=info_parts Cv.Tryz.infoU;exact⟨i0,h1,h2,h3,h4⟩
theorem UF(size:Nat)(l:List UInt8):U5 2 size l=match nmb l with|none=>none|some (c,r)=>if c<=r.length then (match Y0 c 0 size r with|none=>none|some (S,r')=>some (0,S,r')) else none:=rfl
theorem szno{c:Nat}{s:BA}(h:¬c<=s.data.toList.length):¬(c:Int)<=(s.size:Int):=by rw[Qe] at h;omega
theorem QnR{c:Nat}{s:BA}(h:c<=s.data.toList.length):(c:Int)<=(s.size:Int):=by rw[Qe] at h;omega
theorem szw{s:BA}(h:s.size<=281474976710656):IntKind.u64.wrap (s.size:Int)=(s.size:Int):=by rw[IntKind.wrap_u64];omega
def SetQ(w:World)(p size:Nat)(s:BA)(e:Ending)(w':World):Prop :=
 (∃S s' g c,U5 2 size s.data.toList=some (0,S,s'.data.toList)∧e= .returned (.slice (Zp g) S.length c)∧Cv.Own w' w.heap.size (.slice (Zp g) S.length c) S∧Rdr w' p s' 0∧Ch p w w'∧s'.size<=s.size) ∨
   ((∀o S r,U5 2 size s.data.toList=some (o,S,r)->2^40<size)∧pan e∧Ch p w w')
theorem Qm6(w:World)(p size:Nat)(s:BA)(hr:Rdr w p s 0)(hs:s.size<=281474976710656)(hsz:size<18446744073709551616) :
  Calls prog 100 #[Zv p,.int .u64 size] w (SetQ w p size s):=by
 have hp:=hr.lt
 cases hn:nmb s.data.toList with
 | none=>
  have HN:=UG hr (by omega) hn
  have HQ:Hid (∀w',Ch p w w'->SetQ w p size s pnc w'):=fun w' hc=> .inr ⟨fun o S r h=>(by rw[UF,hn] at h;cases h),QU,hc⟩
  go_enter func100,ntmps100
  go_wp2_with (go_at_call 99;with_reducible refine HN.mono ?_;rintro x w1 ⟨rfl,hc⟩)
  exact⟨rfl,HQ.out _ hc⟩
 | some a=>
  obtain⟨c,r⟩:=a;have HN:=UH hr (by omega) hn
  have hc64:=Qdl hn
  by_cases hcr:c<=r.length
  ·by_cases hbig:c<=35184372088832
   ·obtain⟨i0,i1,i2,i3,i4⟩:=QjA;have HI:Hid (prog.info? 31=some i0∧i0.zero=some (.int .u64 0)∧i0.size=1∧i0.bytes=8):=⟨i1,i2,i3,i4⟩;have HQ:Hid ((∀w',Ch p w w'->Y0 c 0 size r=none -> ∀e,pan e->SetQ w p size s e w') ∧ ∀S s' g w',Y0 c 0 size r=some (S,s'.data.toList)->Cv.Own w' w.heap.size (.slice (Zp g) S.length c) S->Rdr w' p s' 0->Ch p w w'->s'.size<=s.size->SetQ w p size s (.returned (.slice (Zp g) S.length c)) w'):=by
     constructor
     ·intro w' hc hz e he;refine .inr ⟨fun o S r h=> ?_,he,hc⟩
      rw[UF,hn] at h;simp only at h;rw[Lo hcr,hz] at h
      cases h
     ·intro S s' g w' h1 h2 h3 h4 h5;refine .inl ⟨S,s',g,c,?_,rfl,h2,h3,h4,h5⟩
      rw[UF,hn];simp only;rw[Lo hcr,h1]
    have HK:Hid (c<=r.length∧s.size<=281474976710656∧c<=35184372088832∧size<18446744073709551616∧p<w.heap.size):=⟨hcr,hs,hbig,hsz,hp⟩;have hbig':(c:Int)<=35184372088832:=by omega
    clear hr hs hn hcr hsz hbig hc64 i1 i2 i3 i4 hp
    go_enter func100,ntmps100
    go_wp2_with (first
     | (go_at_call 99;(with_reducible refine HN.mono ?_;rintro x w1 ⟨s1,rfl,rfl,h1,h2,h3⟩;have HL:=JC w1 p 0 s1 h1;have hf:=QnR HK.out.1;have hf2:=szw (Lt h3 HK.out.2.1)))
     | (go_at_call 166;with_reducible refine HL.mono ?_;rintro x w2 ⟨rfl,rfl⟩)
     | (go_at_call 102;refine(Yr _ _ rfl).mono ?_;rintro x w3 ⟨rfl,rfl⟩)
     | (at_make;refine wpList_make_own _ rfl _ _ _ rfl w3.heap.size 31 i0 (.int .u64 0) 1 underlying66 HI.out.1 HI.out.2.1 HI.out.2.2.1 .i64 .u64 _ c rfl rfl rfl ?c1 ?c2 (Lb _) ?_))
    case c1=>rw[HI.out.2.2.2];have:=HK.out;omega
    case c2=>have:=HK.out;unfold maxLen;omega
    intro w4 o4 g4;obtain⟨g,hg⟩:∃g,w3.heap.size=g:=⟨_,rfl⟩;rw[hg] at o4;have HS:Hid (SetS w p g c size s1.data.toList w4 0 0 [] s1):=by
     obtain⟨k1,k2,k3,k4,k5⟩:=HK.out;have hb:Below w3.heap.size w3 w4:=(Lc _ _).grown g4 (Lb _) (fun k hk=>by cases hk)
     have hz:=h2.below.size;exact⟨h1.next hb h1.lt,h2.low (hb.mono hz) k5,o4,Lm _,by omega,Lm _,by rw[Nat.sub_zero];cases Y0 c 0 size s1.data.toList <;> rfl,by omega⟩
    have HZ:Hid (s1.size<=s.size):=h3;rw[hg];clear h1 h2 h3 hf hf2 o4 g4 HN HL hg;go_wp2
    go_loopg [6,7,8,9,21] c (fun m l x i8 o9 ix wr=> ∃(j y:Nat) (acc:List Nat) (t:BA),m=c-j∧ix= .int .u64 j∧x= .int .u64 y∧l= .slice (Zp g) j c∧SetS w p g c size s1.data.toList wr j y acc t∧t.size<=s.size)
    case atStart=>go_light;exact⟨0,0,[],s1,rfl,rfl,rfl,rfl,HS.out,HZ.out⟩
    case round=>
     obtain⟨j,y,acc,t,rfl,rfl,rfl,rfl,hS,ht⟩:=hrel;obtain⟨k1,k2,k3,k4,k5⟩:=HK.out;have HT:Hid (SetS w p g c size s1.data.toList wr j y acc t∧t.size<=s.size):=⟨hS,ht⟩;have hj0:(0:Int)<=(j:Int):=Lf _
     by_cases hlt:j<c
     ·have hlt':(j:Int)<(c:Int):=by omega
      cases hn:nmb t.data.toList with
      | none=>
       have HN:=UG hS.rd hS.sz hn;have HE:Hid (∀w',Ch p wr w'->SetQ w p size s pnc w'):=fun w' hc=>HQ.out.1 w' (hS.ch.trans hc) (by rw[hS.go,show c-j=(c-(j+1))+1 by omega,QkK hn];rfl) _ QU
       clear hS ht k1 k2 k3 k4 k5 hn
       go_wp2_with (go_at_call 99;with_reducible refine HN.mono ?_;rintro x w1 ⟨rfl,hc⟩)
       exact⟨rfl,HE.out _ hc⟩
      | some a=>
       obtain⟨d,r⟩:=a;have HN:=UH hS.rd hS.sz hn;have hd64:=Qdl hn;have hy:=hS.xs
       by_cases hd:y+d<size
       ·have HA:=fun W=>Qgo y d W (by omega)
        have hd':((y+d:Nat):Int)<(size:Int):=by omega
        have HO:Hid (∀w1 s2,Rdr w1 p s2 0->Ch p wr w1->s2.data.toList=r->w1.ownsRow g 31 1 (.slice (Zp g) j c) j (cU acc)∧Ch p w w1∧Y0 c 0 size s1.data.toList=(Y0 (c-(j+1)) (y+d+1) size s2.data.toList).map fun a=>((acc++[y+d])++a.1,a.2)):=fun w1 s2 hr1 hc1 he=>by
         subst he;exact hS.read hc1 k5 hn hd hlt
        have HX:Hid (y+d+1<=size∧y+d<18446744073709551615∧j+1<=c∧t.size<=s.size∧t.size<=9223372036854775807∧w.heap.size<=g∧p<w.heap.size):=⟨by omega,by omega,hlt,ht,hS.sz,hS.hg,k5⟩
        have e1:IntKind.u64.wrap (((y+d:Nat):Int)+1)=((y+d+1:Nat):Int):=by rw[IntKind.wrap_u64];omega
        have e2:IntKind.u64.wrap ((j:Int)+1)=((j+1:Nat):Int):=by rw[IntKind.wrap_u64];omega
        generalize y+d=z at *;clear hS ht k1 k2 k3 k4 k5 hn hd64 hy hd HS HZ HT
        go_wp2_with (first
         | (go_at_call 99;with_reducible refine HN.mono ?_;rintro x w1 ⟨s2,hs2,rfl,q1,q2,q3⟩;replace HO:=YF (HO.out _ _ q1 q2 hs2))
         | (go_at_call 167;with_reducible refine(HA _).mono ?_;rintro x w2 ⟨rfl,rfl⟩)
         | (go_at_call 102;refine(Yr _ _ rfl).mono ?_;rintro x w3 ⟨rfl,rfl⟩)
         | (at_builtin;refine wpList_append_fits _ rfl _ _ _ rfl g 31 i0 1 underlying66 HI.out.1 HI.out.2.2.1 g j c (cU acc) rfl (HO.out.1.alloc _) ⟨w3.heap.size,0,none⟩ 1 1 (cU [z]) rfl rfl (QhW w3 z) (Cv.Qoa [z]) HX.out.2.2.1 ?_;intro w4 o4 g4))
        go_roundg (c-(j+1))
        case rel=>
         go_light;obtain⟨x1,x2,x3,x4,x5,x6,x7⟩:=HX.out;obtain⟨y1,y2,y3⟩:=HO.out;have hlt:=y1.lt g rfl;have hb:Below w.heap.size w3 w4:=(((Lc _ w3).alloc y2.below.size _)).grown g4 (by simp;have:=y2.below.size;omega) (fun k hk=>by cases hk;omega)
         have hb':Below (p+1) w3 w4:=hb.mono (by omega)
         refine⟨j+1,z+1,acc++[z],s2,rfl,by first|rfl|(simp;done)|(congr 1),by first|rfl|(congr 1),rfl,⟨q1.next hb' (by omega),y2.low hb x7,?_,x3,x6,x1,y3,by omega⟩,by omega⟩
         rw[Cv.cU,Nd];exact o4
        case measure=>go_light;have:=HX.out.2.2.1;omega
       ·have HE:Hid (∀w',Ch p wr w'->SetQ w p size s pnc w'):=fun w' hc=>HQ.out.1 w' (hS.ch.trans hc) (by rw[hS.go,show c-j=(c-(j+1))+1 by omega,Qii hn hd];rfl) _ QU
        by_cases ha:y+d<18446744073709551616
        ·have HA:=fun W=>Qgo y d W ha
         have hd':¬((y+d:Nat):Int)<(size:Int):=by omega
         generalize y+d=z at *;clear hS ht k1 k2 k3 k4 k5 hn hd64 hy hd ha HS HZ
         go_wp2_with (first
          | (go_at_call 99;with_reducible refine HN.mono ?_;rintro x w1 ⟨s2,rfl,rfl,q1,q2,q3⟩)
          | (go_at_call 167;with_reducible refine(HA _).mono ?_;rintro x w2 ⟨rfl,rfl⟩)
          | (go_at_call 102;refine(YR _ _ (by first|rfl|exact LC (by omega))).mono ?_;rintro x w3 ⟨rfl,rfl⟩))
         exact⟨rfl,HE.out _ q2⟩
        ·have HA:=fun W=>QnV y d W (by omega) hd64 ha
         clear hS ht k1 k2 k3 k4 k5 hn hd64 hy hd ha HS HZ
         go_wp2_with (first
          | (go_at_call 99;with_reducible refine HN.mono ?_;rintro x w1 ⟨s2,rfl,rfl,q1,q2,q3⟩)
          | (go_at_call 167;with_reducible refine(HA _).mono ?_;rintro x w2 ⟨rfl,rfl⟩)
          | (go_at_call 102;refine(YR _ _ rfl).mono ?_;rintro x w3 ⟨rfl,rfl⟩))
         exact⟨rfl,HE.out _ q2⟩
     ·obtain rfl:j=c:=by have:=hS.jc;omega
      have hlt':¬(j:Int)<(j:Int):=by omega
      clear hS ht k1 k2 k3 k4 k5 hlt;go_wp2
      go_ret
      obtain⟨hS,ht⟩:=HT.out;have hl:acc.length=j:=by have:=hS.own.1;simpa [cU] using this
      have e:=hS.go;rw[NK,Y0] at e;simp only[Option.map_some,List.append_nil] at e;have:=HQ.out.2 acc t g wr e (by rw[hl];have o:=hS.own.mono (base':=w.heap.size) hS.hg;rw[Cv.Own,hl];exact o) hS.rd hS.ch ht
      rw[hl] at this;exact this
   ·obtain⟨i0,i1,i2,i3,i4⟩:=QjA;have hmk:∀W:World,(Instr.makeSlice 66 (.int .i64 0) (.int .u64 c)).run prog W= .halt (.panic (capPanic prog)) W:=fun W=>run_make_refused W 66 31 i0 underlying66 i1 .i64 .u64 c (by omega) (by have:=(Ub hn).1;have h3:=LZ List.length this;rw[Qe,Lh] at h3;omega) (.inr (by rw[i4];omega))
    have HQ:Hid (∀w',Ch p w w' -> ∀e,pan e->SetQ w p size s e w'):=fun w' hc e he=> .inr ⟨fun o S r' h=>by
     rw[UF,hn] at h;simp only at h;rw[Lo hcr] at h
     cases hz:Y0 c 0 size r with
     | none=>rw[hz] at h;cases h
     | some a=>
      obtain⟨S',r2⟩:=a;obtain⟨z1,z2,z3⟩:=Qar _ _ _ _ _ (Lm _) hz;have:=JM z3;omega,he,hc⟩
    have HK:Hid (c<=r.length∧s.size<=281474976710656):=⟨hcr,hs⟩;clear hr hs hn hcr hsz hbig hc64 i1 i2 i3 i4 hp
    go_enter func100,ntmps100
    go_wp2_with (first
     | (go_at_call 99;(with_reducible refine HN.mono ?_;rintro x w1 ⟨s1,rfl,rfl,h1,h2,h3⟩;have HL:=JC w1 p 0 s1 h1;have hf:=QnR HK.out.1;have hf2:=szw (Lt h3 HK.out.2)))
     | (go_at_call 166;with_reducible refine HL.mono ?_;rintro x w2 ⟨rfl,rfl⟩)
     | (go_at_call 102;refine(Yr _ _ rfl).mono ?_;rintro x w3 ⟨rfl,rfl⟩))
    exact⟨rfl,HQ.out _ h2 _ ⟨_,_,rfl⟩⟩
  ·have HQ:Hid (∀w',Ch p w w'->SetQ w p size s pnc w'):=fun w' hc=> .inr ⟨fun o S r h=>(by rw[UF,hn] at h;simp only at h;rw[Le hcr] at h;cases h),QU,hc⟩
   have HK:Hid (¬c<=r.length∧s.size<=281474976710656):=⟨hcr,hs⟩;clear hr hs hn hcr hsz
   go_enter func100,ntmps100
   go_wp2_with (first
    | (go_at_call 99;go_loud (with_reducible refine HN.mono ?_;rintro x w1 ⟨s1,rfl,rfl,h1,h2,h3⟩;have HL:=JC w1 p 0 s1 h1;have hf:=szno HK.out.1;have hf2:=szw (Lt h3 HK.out.2)))
    | (go_at_call 166;with_reducible refine HL.mono ?_;rintro x w2 ⟨rfl,rfl⟩)
    | (go_at_call 102;refine(YR _ _ (LC (by omega))).mono ?_;rintro x w3 ⟨rfl,rfl⟩))
   exact⟨rfl,HQ.out _ h2⟩
end
theorem QnZ{a b:BA}(h:a.data.toList=b.data.toList):a=b:=by
 obtain⟨⟨l⟩⟩:=a;obtain⟨⟨m⟩⟩:=b;simp only at h;rw[h]
theorem Qgc(w:World)(x:BA):∀(j:Nat) u,([x].map Value.string)[j]? = some u->(w.alloc (.cells #[.string x] 9)).cell? ((⟨w.heap.size,0,none⟩:Addr).add j)=some u:=fun j u hu=>by
 rw[Addr.add_mid];exact Qq w [.string x] 9 j u hu
structure DigS(w:World)(p g c k:Nat)(l0:List UInt8)(wr:World)(j:Nat)(acc:LB)(s:BA):Prop where
 rd:Rdr wr p s 0
 ch:Ch p w wr
 own:wr.ownsRow g 9 1 (.slice (Zp g) j c) j (acc.map Value.string)
 jc:j<=c
 hg:w.heap.size<=g
 go:Yq c k l0=acc++Yq (c-j) k s.data.toList
 sz:(c-j)*k=s.size
theorem QhE{c j k:Nat}(hj:j<c){s:BA}{l0:List UInt8}{acc:LB}(h1:Yq c k l0=acc++Yq (c-j) k s.data.toList)(h2:(c-j)*k=s.size) :
  k<=s.size∧Yq c k l0=(acc++[s.extract 0 k])++Yq (c-(j+1)) k (s.extract k s.size).data.toList∧(c-(j+1))*k=(s.extract k s.size).size:=by
 obtain⟨m,hm⟩:∃m,c-(j+1)=m:=⟨_,rfl⟩;have e:c-j=m+1:=by omega
 rw[e,L4,Na] at h2;have h3:=LZ List.length (UA s k);rw[Qe,LD,Qe] at h3;refine⟨by omega,?_,by rw[hm];omega⟩
 rw[h1,e,hm,Yq,UA,LP,List.singleton_append]
 congr 2
 apply QnZ
 rw[Ox]
theorem Oe(w:World)(p c k:Nat)(s:BA)(hr:Rdr w p s 0)(hs:s.size<=281474976710656)(hc:c<=1099511627776)(hk:k<=32)(h:¬c*k=s.data.toList.length) :
  Calls prog 103 #[Zv p,.int .u64 c,.int .i64 k] w fun e w'=>e=pnc∧w'=w:=by
 have HL:=JC w p 0 s hr;rw[Qe] at h;have hm:c*k<=1099511627776*32:=Nat.mul_le_mul hc hk;have e1:IntKind.u64.wrap (k:Int)=(k:Int):=by rw[IntKind.wrap_u64];omega
 have e2:IntKind.u64.wrap ((c:Int)*(k:Int))=((c*k:Nat):Int):=by rw[IntKind.wrap_u64,<-Wt];omega
 have e3:=szw hs;have e4:(((c*k:Nat):Int) == (s.size:Int))=false:=beq_false_of_ne (by omega)
 generalize c*k=q at *;clear hr hs hc hk h hm
 go_enter func103,ntmps103
 go_wp2_with (first
  | (go_at_call 166;with_reducible refine HL.mono ?_;rintro x w2 ⟨rfl,rfl⟩)
  | (go_at_call 102;refine(YR _ _ (by first|rfl|exact e4|exact LC (by omega))).mono ?_;rintro x w3 ⟨rfl,rfl⟩))
 exact⟨rfl,rfl,rfl⟩
theorem Of(w:World)(p c k:Nat)(s:BA)(hr:Rdr w p s 0)(hs:s.size<=281474976710656)(hc:c<=1099511627776)(hk:k<=32)(h:c*k=s.data.toList.length) :
  Calls prog 103 #[Zv p,.int .u64 c,.int .i64 k] w fun e w'=> ∃g,e= .returned (.slice (Zp g) c c)∧Qg w' w.heap.size (.slice (Zp g) c c) (Yq c k s.data.toList)∧Ch p w w' ∧ ∃t,Rdr w' p t 0:=by
 have HL:=JC w p 0 s hr;rw[Qe] at h;have hm:c*k<=1099511627776*32:=Nat.mul_le_mul hc hk;obtain⟨i0,i1,i2,i3,i4⟩:=info_parts Tryz.infoS;have HI:Hid (prog.info? 9=some i0∧i0.zero=some (.string ByteArray.empty)∧i0.size=1∧i0.bytes=16):=⟨i1,i2,i3,i4⟩;have e1:IntKind.u64.wrap (k:Int)=(k:Int):=by rw[IntKind.wrap_u64];omega
 have e2:IntKind.u64.wrap ((c:Int)*(k:Int))=(s.size:Int):=by rw[IntKind.wrap_u64,<-Wt];omega
 have e3:=szw hs;have HK:Hid (Rdr w p s 0∧s.size<=281474976710656∧c<=1099511627776∧k<=32∧c*k=s.size∧p<w.heap.size):=⟨hr,hs,hc,hk,h,hr.lt⟩;have hc':(c:Int)<=1099511627776:=by omega
 clear hr hs hc hk h hm i1 i2 i3 i4
 go_enter func103,ntmps103
 go_wp2_with (first
  | (go_at_call 166;with_reducible refine HL.mono ?_;rintro x w2 ⟨rfl,rfl⟩)
  | (go_at_call 102;refine(Yr _ _ rfl).mono ?_;rintro x w3 ⟨rfl,rfl⟩)
  | (at_make;refine wpList_make_own _ rfl _ _ _ rfl w3.heap.size 9 i0 (.string ByteArray.empty) 1 underlying22 HI.out.1 HI.out.2.1 HI.out.2.2.1 .i64 .u64 _ c rfl rfl rfl ?c1 ?c2 (Lb _) ?_))
 case c1=>rw[HI.out.2.2.2];have:=HK.out;omega
 case c2=>have:=HK.out;unfold maxLen;omega
 intro w4 o4 g4;obtain⟨g,hg⟩:∃g,w3.heap.size=g:=⟨_,rfl⟩;rw[hg] at o4;have HS:Hid (DigS w3 p g c k s.data.toList w4 0 [] s):=by
  obtain⟨k1,k2,k3,k4,k5,k6⟩:=HK.out;have hb:Below w3.heap.size w3 w4:=(Lc _ _).grown g4 (Lb _) (fun k hk=>by cases hk)
  exact⟨k1.next hb k6,(Ch.refl p w3).low hb k6,o4,Lm _,by omega,by simp,by simpa using k5⟩
 rw[hg];clear o4 g4 HL hg e1 e2 e3;go_wp2
 go_loopg [7,8,9,22] c (fun m l d8 e9 ix wr=> ∃(j:Nat) (acc:LB) (t:BA),m=c-j∧ix= .int .u64 j∧l= .slice (Zp g) j c∧DigS w3 p g c k s.data.toList wr j acc t)
 case atStart=>go_light;exact⟨0,[],s,rfl,rfl,rfl,HS.out⟩
 case round=>
  obtain⟨j,acc,t,rfl,rfl,rfl,hS⟩:=hrel;obtain⟨k1,k2,k3,k4,k5,k6⟩:=HK.out;have HT:Hid (DigS w3 p g c k s.data.toList wr j acc t):=hS;have hj0:(0:Int)<=(j:Int):=Lf _
  by_cases hlt:j<c
  ·have hlt':(j:Int)<(c:Int):=by omega
   obtain⟨n1,n2,n3⟩:=QhE hlt hS.go hS.sz;have HR:=UR wr p 0 t k hS.rd;have htk:tkC t 0 (k:Int)=(t.extract 0 k,0,t.extract k t.size):=by rw[tkC,Le (by simp),Le (by omega)];rfl
   rw[htk] at HR;have e2:IntKind.u64.wrap ((j:Int)+1)=((j+1:Nat):Int):=by rw[IntKind.wrap_u64];omega
   have HX:Hid (j+1<=c∧w3.heap.size<=g∧p<w3.heap.size):=⟨hlt,hS.hg,k6⟩;generalize t.extract 0 k=d at *;generalize t.extract k t.size=t2 at *;have HN:Hid (Yq c k s.data.toList=(acc++[d])++Yq (c-(j+1)) k t2.data.toList∧(c-(j+1))*k=t2.size):=⟨n2,n3⟩;have HO:Hid (∀w1,Ch p wr w1->w1.ownsRow g 9 1 (.slice (Zp g) j c) j (acc.map Value.string)∧Ch p w3 w1):=fun w1 hc1=>by
    refine⟨Qr hS.own fun b hb _=> ?_,hS.ch.trans hc1⟩
    cases hb;exact hc1.block g (hS.own.lt g rfl).2 (by have:=hS.hg;omega)
   clear hS k1 k2 k3 k4 k5 k6 n1 n2 n3 htk HS HT
   go_wp2_with (first
    | (go_at_call 164;with_reducible refine HR.mono ?_;rintro x w1 ⟨rfl,q1,q2⟩;replace HO:=YF (HO.out _ q2))
    | (go_at_call 102;refine(Yr _ _ rfl).mono ?_;rintro x w5 ⟨rfl,rfl⟩)
    | (at_builtin;refine wpList_append_fits _ rfl _ _ _ rfl g 9 i0 1 underlying22 HI.out.1 HI.out.2.2.1 g j c (acc.map Value.string) rfl (HO.out.1.alloc _) ⟨w5.heap.size,0,none⟩ 1 1 ([d].map Value.string) rfl rfl (Qgc w5 d) (by intro u hu;obtain⟨y,_,rfl⟩:=List.mem_map.1 hu;rfl) HX.out.1 ?_;intro w4 o4 g4))
   go_roundg (c-(j+1))
   case rel=>
    go_light;obtain⟨x3,x6,x7⟩:=HX.out;obtain⟨y1,y2⟩:=HO.out;have hlt:=y1.lt g rfl;have hb:Below w3.heap.size w5 w4:=(((Lc _ w5).alloc y2.below.size _)).grown g4 (by simp;have:=y2.below.size;omega) (fun k hk=>by cases hk;omega)
    have hb':Below (p+1) w5 w4:=hb.mono (by omega)
    refine⟨j+1,acc++[d],t2,rfl,by first|rfl|(congr 1),rfl,⟨q1.next hb' (by omega),y2.low hb x7,?_,x3,x6,HN.out.1,HN.out.2⟩⟩
    rw[Nd];exact o4
   case measure=>go_light;have:=HX.out.1;omega
  ·obtain rfl:j=c:=by have:=hS.jc;omega
   have hlt':¬(j:Int)<(j:Int):=by omega
   clear hS k1 k2 k3 k4 k5 k6 hlt;go_wp2
   go_ret
   have hS:=HT.out;have hl:acc.length=j:=by have:=hS.own.1;simpa using this
   have e:=hS.go;rw[NK,Yq,L7] at e;refine⟨g,rfl,?_,hS.ch,_,hS.rd⟩
   rw[e,Qg,hl];exact hS.own.mono hS.hg
section
open Cv (rst cov Ya)
abbrev pv6(kd k:Int)(old size:Nat)(s d:Value):Value := .agg #[.int .i64 kd,.int .i64 k,.int .u64 old,.int .u64 size,s,d]
theorem Us(w:World)(a b c d e f:Value):∃W,w.alloc (.cells #[a,b,c,d,e,f] 68)=W∧Six W w.heap.size a b c d e f∧Below w.heap.size w W∧W.heap.size=w.heap.size+1 :=
 ⟨_,rfl,Jf w a b c d e f,bal (Lc _ _) _,by simp⟩
theorem QnO{w:World}{ao:OA}{b off len:Nat}{l:List Nat}(h:RdU w ao b off len l):Cv.Rd w ao b off len l:=⟨h.hl,h.ptr,fun _ hj=>h.at hj⟩
theorem QpQ(a b:Nat)(ha:a<=100)(hb:b<=100):wrap64 ((a:Int)+(b:Int))=(a:Int)+(b:Int):=by unfold wrap64;omega
theorem QpI(a:Nat)(ha:a<=100):wrap64 (a:Int)=(a:Int):=by unfold wrap64;omega
theorem Qkd{w:World}{B e size n m c:Nat}{ao:OA}{xs:List Value}(h:w.ownsRow B e size (.slice ao m c) n xs):m=n:=by
 rcases h.2 with ⟨h,h0⟩|⟨g,cap,cur,h,_⟩
 ·cases h;omega
 ·cases h;rfl
section
variable (w:World) (kd k:Int) (old size:Nat) (sa:OA) (sb so sc:Nat) (S:List Nat) (d:Value)
theorem Qi0(rs:RdU w sa sb so S.length S)(h:¬(old=0∧S.length=1∧S.getD 0 0<size)) :
  Calls prog 168 #[pv6 kd k old size (.slice sa S.length sc) d] w fun e w'=>e= .returned (.tuple #[.int .u64 0,.int .i64 150])∧Below w.heap.size w w':=by
 by_cases h1:old=0
 ·subst h1
  by_cases h2:S.length=1
  ·have h3:¬S.getD 0 0<size:=fun h3=>h ⟨rfl,h2,h3⟩
   have hp:=rs.ptr (by omega)
   subst hp;obtain⟨W,hW,h6,hb,hz⟩:=Us w (.int .i64 kd) (.int .i64 k) (.int .u64 0) (.int .u64 size) (.slice (some ⟨sb,so,none⟩) 1 sc) d;obtain⟨e0,e1,e2,e3,e4,e5⟩:=h6.cells;have HB:Hid (Below w.heap.size w W):=hb;have hc:=(rs.next hb).at (j:=0) (by omega)
   rw[IW] at hc;generalize S.getD 0 0=i at *;have h3':decide ((size:Int)<=(i:Int))=true:=LS (by omega)
   have h3n:size<=i:=by omega
   rw[h2];clear rs h h2 h3 h6 hb
   go_enter func168,ntmps168
   go_upto_region 1 with (fail)
   try rw[hW]
   clear hW
   go_quiet (fail)
   go_wp2
   go_ret2
   exact⟨rfl,Qi HB.out _⟩
  ·have h2':¬(S.length:Int)=1:=by omega
   generalize S.length=m at *;obtain⟨W,hW,h6,hb,hz⟩:=Us w (.int .i64 kd) (.int .i64 k) (.int .u64 0) (.int .u64 size) (.slice sa m sc) d;obtain⟨e0,e1,e2,e3,e4,e5⟩:=h6.cells;have HB:Hid (Below w.heap.size w W):=hb;clear rs h h2 h6 hb
   go_enter func168,ntmps168
   go_upto_region 1 with (fail)
   try rw[hW]
   clear hW
   go_quiet (fail)
   go_wp2
   go_ret2
   exact⟨rfl,Qi HB.out _⟩
 ·have h1':((old:Int) != 0)=true:=bne_iff_ne.2 (by omega)
  obtain⟨W,hW,h6,hb,hz⟩:=Us w (.int .i64 kd) (.int .i64 k) (.int .u64 old) (.int .u64 size) (.slice sa S.length sc) d;obtain⟨e0,e1,e2,e3,e4,e5⟩:=h6.cells;have HB:Hid (Below w.heap.size w W):=hb;clear rs h h6 hb h1
  go_enter func168,ntmps168
  go_upto_region 1 with (fail)
  try rw[hW]
  clear hW
  go_quiet (fail)
  go_wp2
  go_ret2
  exact⟨rfl,Qi HB.out _⟩
theorem Qhu(hold:old<18446744073709551616)(rs:RdU w sa sb so S.length S)(hm:S.length<=17592186044416)(h:¬(old=0∧Ya size S=0)) :
  Calls prog 169 #[pv6 kd k old size (.slice sa S.length sc) d] w fun e w'=>e= .returned (.tuple #[.int .u64 0,.int .i64 150])∧Below w.heap.size w w':=by
 obtain⟨W,hW,h6,hb,hz⟩:=Us w (.int .i64 kd) (.int .i64 k) (.int .u64 old) (.int .u64 size) (.slice sa S.length sc) d;obtain⟨e0,e1,e2,e3,e4,e5⟩:=h6.cells;have HC:=Cv.Ym size W sa sb so S.length sc S (QnO (rs.next hb)) hm;have HB:Hid (∀w',Below W.heap.size W w'->Below w.heap.size w w'∧w'.cell? ⟨w.heap.size,2,none⟩=some (.int .u64 old)):=fun w' hb'=>⟨Qa hb hb',(h6.next hb').cells.2.2.1⟩
 have HE:Hid (¬(old=0∧Ya size S=0)∧old<18446744073709551616):=⟨h,hold⟩;clear rs h h6 hb hm hold;generalize Ya size S=er at *;generalize (Cv.rstS size S).length=cc at *;generalize S.length=m at *
 by_cases h1:er=0
 ·subst h1;have h2:((old:Int) != 0)=true:=bne_iff_ne.2 (by have:=HE.out;omega)
  go_enter func169,ntmps169
  go_wp2_with (go_at_call 157;(try rw[hW]);with_reducible refine HC.mono ?_;rintro x w1 ⟨rfl,hb1⟩;obtain⟨q1,q2⟩:=HB.out _ hb1)
  go_ret2
  exact⟨rfl,q1⟩
 ·have h2:((er:Int) != 0)=true:=bne_iff_ne.2 (by omega)
  go_enter func169,ntmps169
  go_wp2_with (go_at_call 157;(try rw[hW]);with_reducible refine HC.mono ?_;rintro x w1 ⟨rfl,hb1⟩;obtain⟨q1,q2⟩:=HB.out _ hb1)
  go_ret2
  exact⟨rfl,q1⟩
theorem Qfs(rs:RdU w sa sb so S.length S)(hm:S.length<=17592186044416)(h:Ya size S=0) :
  Calls prog 169 #[pv6 kd k 0 size (.slice sa S.length sc) d] w fun e w'=>e= .returned (.tuple #[.int .u64 ((rst 0 size S).length:Nat),.int .i64 0])∧Below w.heap.size w w':=by
 obtain⟨W,hW,h6,hb,hz⟩:=Us w (.int .i64 kd) (.int .i64 k) (.int .u64 0) (.int .u64 size) (.slice sa S.length sc) d;obtain⟨e0,e1,e2,e3,e4,e5⟩:=h6.cells;have HC:=Cv.Qeg size W sa sb so S.length sc S (QnO (rs.next hb)) hm h;have HB:Hid (∀w',Below W.heap.size W w'->Below w.heap.size w w'∧w'.cell? ⟨w.heap.size,2,none⟩=some (.int .u64 0)):=fun w' hb'=>⟨Qa hb hb',(h6.next hb').cells.2.2.1⟩
 clear rs h h6 hb hm;generalize (rst 0 size S).length=cc at *;generalize S.length=m at *
 go_enter func169,ntmps169
 go_wp2_with (go_at_call 157;(try rw[hW]);with_reducible refine HC.mono ?_;rintro x w1 ⟨rfl,hb1⟩;obtain⟨q1,q2⟩:=HB.out _ hb1)
 go_ret2
 exact⟨rfl,q1⟩
theorem QlJ(hn:size<=2^40)(hS:S.length<=17592186044416)(h:¬(old<=size∧S.length=0)) :
  Calls prog 170 #[pv6 kd k old size (.slice sa S.length sc) d] w fun e w'=>e= .returned (.tuple #[.int .u64 0,.int .i64 150])∧Below w.heap.size w w':=by
 obtain⟨W,hW,h6,hb,hz⟩:=Us w (.int .i64 kd) (.int .i64 k) (.int .u64 old) (.int .u64 size) (.slice sa S.length sc) d;obtain⟨e0,e1,e2,e3,e4,e5⟩:=h6.cells;have HC:=Cv.QcC old size size W;have HB:Hid (∀w',Below W.heap.size W w'->Below w.heap.size w w'∧w'.cell? ⟨w.heap.size,4,none⟩=some (.slice sa S.length sc)):=fun w' hb'=>⟨Qa hb hb',(h6.next hb').cells.2.2.2.2.1⟩
 have he:Cv.UY old size size=0↔old<=size:=by
  unfold Cv.UY;rw[Le (by omega),Le (by omega)]
  split <;> omega
 have HE:Hid (¬(Cv.UY old size size=0∧S.length=0)∧S.length<=17592186044416):=⟨by rw[he];exact h,hS⟩
 clear h h6 hb he hn hS;generalize Cv.UY old size size=er at *;generalize Cv.zl (Cv.covR old size size)=cc at *;generalize S.length=m at *
 by_cases h1:er=0
 ·subst h1;have h2:((m:Int) != 0)=true:=bne_iff_ne.2 (by have:=HE.out;omega)
  go_enter func170,ntmps170
  go_wp2_with (go_at_call 79;(try rw[hW]);with_reducible refine HC.mono ?_;rintro x w1 ⟨v,rfl,ho,hb1⟩;obtain⟨q1,q2⟩:=HB.out _ hb1)
  go_ret2
  exact⟨rfl,q1⟩
 ·have h2:((er:Int) != 0)=true:=bne_iff_ne.2 (by omega)
  go_enter func170,ntmps170
  go_wp2_with (go_at_call 79;(try rw[hW]);with_reducible refine HC.mono ?_;rintro x w1 ⟨v,rfl,ho,hb1⟩;obtain⟨q1,q2⟩:=HB.out _ hb1)
  go_ret2
  exact⟨rfl,q1⟩
theorem QiT(hn:size<=2^40)(h1:old<=size) :
  Calls prog 170 #[pv6 kd k old size (.slice sa 0 sc) d] w fun e w'=>e= .returned (.tuple #[.int .u64 (((cov 0 old).length+(cov old size).length:Nat):Int),.int .i64 0])∧Below w.heap.size w w':=by
 obtain⟨W,hW,h6,hb,hz⟩:=Us w (.int .i64 kd) (.int .i64 k) (.int .u64 old) (.int .u64 size) (.slice sa 0 sc) d;obtain⟨e0,e1,e2,e3,e4,e5⟩:=h6.cells;have HC:=Cv.QeQ old size size W hn (Lb _) h1;have HB:Hid (∀w',Below W.heap.size W w'->Below w.heap.size w w'∧w'.cell? ⟨w.heap.size,4,none⟩=some (.slice sa 0 sc)∧w'.cell? ⟨w.heap.size,2,none⟩=some (.int .u64 old)):=fun w' hb'=>⟨Qa hb hb',(h6.next hb').cells.2.2.2.2.1,(h6.next hb').cells.2.2.1⟩
 have HO:=fun W'=>Pl.JE old W' (by omega)
 have hc1:=Cv.Qbd old (by omega)
 have hc2:=Cv.QaG old size h1 hn;have hc3:=Cv.Qcl old (by omega)
 have hc4:(Cv.zl (cov old size)).length=(cov old size).length:=Cv.Yd _;rw[<-hc1] at HO;generalize (cov 0 old).length=a at *;generalize Cv.zl (cov old size)=Z at *;generalize (cov old size).length=b at *;obtain⟨c,hc⟩:∃c,a+b=c:=⟨_,rfl⟩;rw[hc];have ew2:wrap64 ((a:Int)+(b:Int))=(c:Int):=by unfold wrap64;omega
 have es:IntKind.u64.wrap (c:Int)=(c:Int):=by rw[IntKind.wrap_u64];omega
 have ha:(a:Int)<=40:=by omega
 have hbb:(b:Int)<=80:=by omega
 have HZ:Hid (Z.length=b):=hc4;have HCc:Hid ((a:Int)+(b:Int)=(c:Int)):=(by omega:(a:Int)+(b:Int)=(c:Int))
 clear h6 hb hn h1 hc1 hc2 hc3 hc hc4
 go_enter func170,ntmps170
 go_upto_region 4 with (go_at_call 79;(try rw[hW]);with_reducible refine HC.mono ?_;rintro x w1 ⟨v,rfl,ho,hb1⟩;obtain⟨q1,q2,q3⟩:=HB.out _ hb1;obtain⟨ao,m,cp,rfl⟩:=Cv.Qs ho;obtain rfl:m=b:=by(have h:=Qkd ho;rw[HZ.out] at h;exact h))
 clear ho hb1;have HQ:=YF q1;clear q1
 go_wp2_with (go_at_call 120;with_reducible refine(HO _).mono ?_;rintro x w2 ⟨rfl,rfl⟩)
 go_ret2
 refine⟨?_,HQ.out⟩
 show Ending.returned (.tuple #[.int .u64 ((a:Int)+(m:Int)),.int .i64 0])=_
 rw[HCc.out]
end
section
variable (w:World) (kd k:Int) (old size:Nat) (sa:OA) (sb so sc:Nat) (S:List Nat) (d:Value)
theorem QhC(hn:size<=2^40)(rs:RdU w sa sb so S.length S)(h2:S.length=1)(h3:S.getD 0 0<size) :
  Calls prog 168 #[pv6 kd k 0 size (.slice sa S.length sc) d] w fun e w'=>e= .returned (.tuple #[.int .u64 ((rst 0 size S).length:Nat),.int .i64 0])∧Below w.heap.size w w':=by
 obtain⟨i,rfl⟩:=List.length_eq_one_iff.1 h2;have hp:=rs.ptr (by simp)
 subst hp;rw[show[i].getD 0 0=i from rfl] at h3
 obtain⟨H,g1,g2,g3,g4⟩:=Qkk hn h3;obtain⟨W,hW,h6,hb,hz⟩:=Us w (.int .i64 kd) (.int .i64 k) (.int .u64 0) (.int .u64 size) (.slice (some ⟨sb,so,none⟩) 1 sc) d;obtain⟨e0,e1,e2,e3,e4,e5⟩:=h6.cells;have HB:Hid (Below w.heap.size w W):=hb;have hc:W.cell? ⟨sb,so,none⟩=some (.int .u64 i):=by
  have:=(rs.next hb).at (j:=0) (by simp)
  rw[IW] at this;exact this
 have hx:=u64_xor_nat size i (by omega) (by omega)
 have h41:(2:Nat)^(H+1)<=2^41:=Ng (by decide) (by omega)
 have HL:=fun W'=>QoC (size ^^^ i) H W' (by omega) g2 g3
 clear h41 g2 g3;have HO:=fun W'=>Pl.JE size W' (by omega)
 have ho:Pl.Qy 64 size<=64:=Pl.Qdu 64 size;obtain⟨c,hcn⟩:∃c,(rst 0 size [i]).length=c:=⟨_,rfl⟩;rw[hcn] at g1 ⊢;have hq0:0<Pl.Qy 64 size:=by
  rw[<-Cv.Qbd size hn]
  cases hz:cov 0 size with
  | nil=>
   have ht:=Cv.QaI 0 size (Lm _) hn;rw[hz] at ht;exact absurd ⟨Lm _,h3⟩ (ht.2 i (Lm _) h3)
  | cons b r=>simp
 generalize Pl.Qy 64 size=q at *;have h3':decide ((size:Int)<=(i:Int))=false:=LC (by omega)
 have h3n:¬size<=i:=by omega
 obtain⟨q',rfl⟩:∃q',q=q'+1:=⟨q-1,by omega⟩
 have eq:((q'+1:Nat):Int)-1=(q':Int):=by omega
 have hq':(q':Int)<=64:=by omega
 have hH':(H:Int)<=40:=by omega
 have hq2:q'<=100:=by omega
 have hc2:c<=1000∧H+q'=c:=by omega
 have HCc:Hid ((H:Int)+(q':Int)=(c:Int)):=(by omega:(H:Int)+(q':Int)=(c:Int))
 have hH2:H<=100:=by omega
 have ew:=QpI q' hq2;have ew2:=QpQ H q' hH2 hq2;clear hq2 hc2 g1 hH2;have HB6:Hid (∀n,Six (W.drewN n) w.heap.size (.int .i64 kd) (.int .i64 k) (.int .u64 0) (.int .u64 size) (.slice (some ⟨sb,so,none⟩) 1 sc) d∧(W.drewN n).cell? ⟨sb,so,none⟩=some (.int .u64 i)∧Below w.heap.size w (W.drewN n)):=fun n=>⟨h6.next (Qi (Lc _ _) n),((Qi (Lc W.heap.size W) n).cell (Ll W _ hc)).trans hc,Qi hb n⟩
 clear rs hn h2 h3 g4 h6 hb ho hcn hq0
 go_enter func168,ntmps168
 go_upto_region 1 with (fail)
 try rw[hW]
 clear hW
 go_quiet (fail)
 go_upto_region 3 with (fail)
 have k0:=HB6.out nq;obtain⟨W2,hW2⟩:∃W2,W.drewN nq=W2:=⟨_,rfl⟩
 try rw[hW2]
 rw[hW2] at k0;clear hW2 e0 e1 e2 e3 e4 e5 hc;obtain⟨k0,hc,HW⟩:=k0;obtain⟨e0,e1,e2,e3,e4,e5⟩:=k0.cells;have HW:=YF HW
 go_quiet ((go_at_call 220;refine Calls.quiet_of_same (HL _)))
 go_wp2_with (go_at_call 120;with_reducible refine(HO _).mono ?_;rintro x w2 ⟨rfl,rfl⟩)
 go_ret2
 refine⟨?_,Qi HW.out _⟩
 show Ending.returned (.tuple #[.int .u64 ((H:Int)+(q':Int)),.int .i64 0])=_
 rw[HCc.out]
end
end
end Go.Proofs.YtoblgjledefdbabGreatDoor
