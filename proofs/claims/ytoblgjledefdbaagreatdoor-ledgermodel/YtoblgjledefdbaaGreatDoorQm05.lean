/- Own work. -/
import Derived.Test.YtoblgjledefdbaaGreatDoorQm04
set_option maxRecDepth 100000
set_option maxHeartbeats 1000000
namespace Go.Proofs.YtoblgjledefdbaaGreatDoor
open Go.RowKit
attribute [local go_sem ↓] Go.wp_at_zero Go.wp_at_succ
open Go.Proofs.Tryz
namespace Kp
open Pl (Qy)
theorem QbZ(w:World)(p:Nat)(v:Value)(k:Int)(n:Nat)(P:LB)(hr:Rg w p v k n P) :
  Calls prog 159 #[.pointer (some ⟨p,0,none⟩)] w fun e w'=>e = .returned (.int .u64 (n:Int))∧Below w.heap.size w w':=by
 have c1:=hr.c1;clear hr
 go_enter func159,ntmps159;go_wp2
 go_ret
 exact⟨rfl,Lb _ _⟩
theorem Qgt(w:World)(p:Nat)(v:Value)(k:Int)(n:Nat)(P:LB)(hr:Rg w p v k n P) :
  Calls prog 160 #[.pointer (some ⟨p,0,none⟩)] w fun e w' => ∃u,e = .returned u∧Qi w' w.heap.size u P∧Below w.heap.size w w':=by
 obtain⟨ao,b,xB,hv,xD,xA,xC⟩:=hr.rd;have c2:=hr.c2;rw[hv] at c2;have HC:Hid (Calls prog 158 #[.slice ao P.length xB] w fun e w' => ∃v,e = .returned v∧Qi w' w.heap.size v P∧Below w.heap.size w w'):=JL w ao b 0 xB P xD xC (by have:=hr.short;omega)
 clear hr hv xD xA xC
 go_enter func160,ntmps160
 go_wp2_with (go_at_call 158;with_reducible refine HC.out.mono ?_;rintro e w1 ⟨u,rfl,ho,hb⟩)
 go_ret
 exact⟨u,rfl,ho,hb⟩
theorem Qx{w:World}{B:Nat}{v:Value}{l:LB}(h:Qi w B v l) : ∃ao cap,v = .slice ao l.length cap:=by
 obtain⟨_,h2⟩:=h
 rcases h2 with ⟨h2,h3⟩|⟨g,cap,cur,hv,_⟩
 ·exact⟨none,0,by rw[h2,h3]⟩
 ·exact⟨_,cap,hv⟩
def fe(k:Int)(n:Nat)(L:LB):Nat :=
 if k<1∨32<k then 70 else if 1099511627776<n then 30 else if L.length≠Qy 64 n ∨ ¬(∀s∈L,(s.size:Int)=k) then 90 else 0
theorem Qma{k:Int}(h1:1<=k)(h2:k<=32):chk k=0:=by rw[chk,Le (by omega)]
theorem Ql9{k:Int}(h:k<1∨32<k):chk k=70:=by rw[chk,Lk h]
def Made(w w':World)(k:Int)(n:Nat)(L:LB)(e0:Nat)(e:Ending):Prop :=
 Below w.heap.size w w'∧((e0≠0∧e = .returned (.tuple #[.pointer none,.int .i64 (e0:Int)]))∨(e0=0 ∧ ∃p v,e = .returned (.tuple #[.pointer (some ⟨p,0,none⟩),.int .i64 0])∧Rg w' p v k n L∧w.heap.size<=p ∧ ∀g,v.ownBlock=some g->w.heap.size<=g))
theorem Qer(w:World)(k:Int)(n:Nat)(hn64:n<18446744073709551616)(ao:OA)(b off cap:Nat)(L:LB)(hr:RdS w ao b off L.length L)(hno:ao=none->cap=0)(hmx:L.length<=8796093022208)(e0:Nat)(he:fe k n L=e0) :
  Calls prog 94 #[.int .i64 k,.int .u64 (n:Int),.slice ao L.length cap] w fun e w'=>Made w w' k n L e0 e:=by
 have hb:=Lb w.heap.size w;have HC:Hid (∀W,Calls prog 91 #[.int .i64 k] W fun e w'=>e = .returned (.int .i64 (chk k))∧W=w'):=fun W=>(Ym W k).mono fun _ _ h=>⟨h.1,h.2.symm⟩
 by_cases hk:k<1∨32<k
 ·obtain rfl:e0=70:=by rw[<-he,fe,Lk hk]
  rw[Ql9 hk] at HC;clear he hk hr hno hmx hn64
  go_enter func94,ntmps94
  go_wp2_with (go_at_call 91;with_reducible refine(HC.out _).mono ?_;rintro e w1 ⟨rfl,rfl⟩)
  go_ret2
  exact⟨hb,.inl ⟨by decide,rfl⟩⟩
 ·have k1:1<=k:=by omega
  have k2:k<=32:=by omega
  rw[Qma k1 k2] at HC
  by_cases hn:1099511627776<n
  ·obtain rfl:e0=30:=by rw[<-he,fe,Le hk,Lk hn]
   have xH:decide ((1099511627776:Int)<(n:Int))=true:=by simp;omega
   clear he hk hr hno hmx hn64 hn
   go_enter func94,ntmps94
   go_wp2_with (go_at_call 91;with_reducible refine(HC.out _).mono ?_;rintro e w1 ⟨rfl,rfl⟩)
   go_ret2
   exact⟨hb,.inl ⟨by decide,rfl⟩⟩
  ·have xH:decide ((1099511627776:Int)<(n:Int))=false:=by simp;omega
   obtain⟨o,ho⟩:=Ze (Qy 64 n);have HO:Hid (∀W,Calls prog 138 #[.int .u64 (n:Int)] W fun e w'=>e = .returned (.int .i64 (o:Int))∧W=w'):=fun W=>by
    have:=Pl.Jw n W (by omega)
    rw[ho] at this;exact this.mono fun _ _ h=>⟨h.1,h.2.symm⟩
   by_cases hl:L.length=o
   ·subst hl;have HE:Hid ((¬(∀s∈L,(s.size:Int)=k)->e0=90)∧((∀s∈L,(s.size:Int)=k)->e0=0)):=by
     refine⟨fun h => ?_,fun h => ?_⟩
     ·rw[<-he,fe,Le hk,Le hn,Lk (.inr h)]
     ·rw[<-he,fe,Le hk,Le hn,Le];rintro(h1|h1)
      ·exact h1 ho.symm
      ·exact h1 h
    have HG:Hid (n<=1099511627776∧L.length=(hts n).length∧L.length<=1000):=by
     have h1:=Qeu (n:=n) (by omega)
     have h2:=Qj0 n;exact⟨by omega,by omega,by omega⟩
    have xE:Hid (Calls prog 158 #[.slice ao L.length cap] w fun e w' => ∃v,e = .returned v∧Qi w' w.heap.size v L∧Below w.heap.size w w'):=JL w ao b off cap L hr hno hmx
    have HR:Hid (RdS w ao b off L.length L):=hr;have HB:=Qd hb;have HK:=Qd (L6 k1 k2);clear he hk hno hmx hn64 hn ho hr hb k1 k2
    go_enter func94,ntmps94
    go_wp2_with (first
     | (go_at_call 91;with_reducible refine(HC.out _).mono ?_;rintro e w1 ⟨rfl,rfl⟩)
     | (go_at_call 138;with_reducible refine(HO.out _).mono ?_;rintro e w1 ⟨rfl,rfl⟩))
    go_loopg [25] L.length (fun g i wr => ∃j:Nat,j<=L.length∧g=L.length - j∧i = .int .i64 (j:Int)∧Hid (∀s∈L.take j,(s.size:Int)=k)∧w=wr)
    case atStart=>go_light;exact⟨0,Ll _,rfl,rfl,(fun s hs=>by cases hs),rfl⟩
    case round =>
     obtain⟨j,hj,rfl,rfl,HT,rfl⟩:=hrel
     by_cases hlt:j<L.length
     ·have hz:(j:Int)<(L.length:Int):=by omega
      have xM:(j:Int)<1000:=by have:=HG.out.2.2;omega
      have xL:(0:Int)<=(j:Int):=Lf _;obtain rfl:=HR.out.ptr (by omega)
      have cj:=HR.out.at hlt;obtain⟨x,hx⟩:=Ze (L.getD j ByteArray.empty);have xB:=Y7 hlt;have xC:L.take (j+1)=L.take j++[x]:=by
       rw[NH,<-hx,Ld,Lh hlt];rfl
      rw[hx] at cj xB
      by_cases hs:(x.size:Int)=k
      ·have xA:Hid (∀s∈L.take (j+1),(s.size:Int)=k):=fun s hs2=>by
        rw[xC] at hs2
        rcases List.mem_append.1 hs2 with h|h
        ·exact HT.out s h
        ·simp at h;rw[h];exact hs
       subst hs;clear hx xB xC HT;go_wp2
       go_roundg (L.length - (j+1))
       case rel=>go_light;exact⟨j+1,by omega,rfl,by go_num,xA,rfl⟩
       case measure=>go_light;omega
      ·have hE:e0=90:=HE.out.1 fun h=>hs (h x xB)
       have xF:=Qd hE;clear hE hx xB xC HT;go_wp2
       go_ret2
       refine⟨HB.out,.inl ?_⟩
       rw[xF.out];exact⟨by decide,rfl⟩
     ·obtain rfl:j=L.length:=by omega
      have hz : ¬((L.length:Int)<(L.length:Int)):=by omega
      have xA:Hid (∀s∈L,(s.size:Int)=k):=by have:=HT.out;rwa [L9] at this
      clear HT
      go_wp2_with (go_at_call 158;with_reducible refine xE.out.mono ?_;rintro e w1 ⟨v,rfl,hv,xD⟩;obtain⟨xJ,xG,rfl⟩:=Qx hv)
      go_ret2
      have hE:e0=0:=HE.out.2 xA.out;have xI:=xD.size;refine⟨bal xD _,.inr ⟨hE,_,_,rfl,⟨LH w1 _,QN (Yr hv _) (Ll _),HK.out.1,HK.out.2,HG.out.1,HG.out.2.1,fun s hs => ?_⟩,xI,fun g hg=>(Ng hv g hg).1⟩⟩
      have h1:=xA.out s hs;have h2:=Qbd HK.out.1 HK.out.2;omega
   ·obtain rfl:e0=90:=by rw[<-he,fe,Le hk,Le hn,Lk (.inl (by rw[ho];exact hl))]
    have xK : ¬((L.length:Int)=(o:Int)):=by omega
    clear he hk hr hno hmx hn64 hn hl ho
    go_enter func94,ntmps94
    go_wp2_with (first
     | (go_at_call 91;with_reducible refine(HC.out _).mono ?_;rintro e w1 ⟨rfl,rfl⟩)
     | (go_at_call 138;with_reducible refine(HO.out _).mono ?_;rintro e w1 ⟨rfl,rfl⟩))
    go_ret2
    exact⟨hb,.inl ⟨by decide,rfl⟩⟩
theorem Made.no{w w':World}{k:Int}{n:Nat}{L:LB}{e0:Nat}{e:Ending}(h:Made w w' k n L e0 e)(h0:e0≠0):e = .returned (.tuple #[.pointer none,.int .i64 (e0:Int)])∧Below w.heap.size w w':=by
 obtain⟨hb,⟨_,h2⟩|⟨h1,_⟩⟩:=h
 ·exact⟨h2,hb⟩
 ·exact absurd h1 h0
theorem Made.ok{w w':World}{k:Int}{n:Nat}{L:LB}{e:Ending}(h:Made w w' k n L 0 e) : ∃p v,e = .returned (.tuple #[.pointer (some ⟨p,0,none⟩),.int .i64 0])∧Rg w' p v k n L∧w.heap.size<=p∧(∀g,v.ownBlock=some g->w.heap.size<=g)∧Below w.heap.size w w':=by
 obtain⟨hb,⟨h1,_⟩|⟨_,p,v,h2,h3,h4,h5⟩⟩:=h
 ·exact absurd rfl h1
 ·exact⟨p,v,h2,h3,h4,h5,hb⟩
theorem Qj7(w:World)(k:Int)(e0:Nat)(he:fe k 0 []=e0):Calls prog 44 #[.int .i64 k] w fun e w'=>Made w w' k 0 [] e0 e:=by
 have HF:Hid (Calls prog 94 #[.int .i64 k,.int .u64 0,.slice none 0 0] w fun e w'=>Made w w' k 0 [] e0 e) :=
  Qer w k 0 (by decide) none 0 0 0 [] ⟨rfl,fun h=>absurd h (Nk 0),(fun j v h=>by cases h),fun s hs=>by cases hs⟩ (fun _=>rfl) (Ll _) e0 he
 clear he
 by_cases h0:e0=0
 ·subst h0
  go_enter func44,ntmps44
  go_wp2_with (go_at_call 94;with_reducible refine HF.out.mono ?_;intro e w1 hM;obtain⟨p,v,rfl,h2,h3,h4,hb⟩:=hM.ok;clear hM)
  go_ret2
  exact⟨hb,.inr ⟨rfl,p,v,rfl,h2,h3,h4⟩⟩
 ·have H0:=Qd h0;clear h0
  go_enter func44,ntmps44
  go_wp2_with (go_at_call 94;with_reducible refine HF.out.mono ?_;intro e w1 hM;obtain⟨rfl,hb⟩:=hM.no H0.out;clear hM)
  go_ret2
  exact⟨hb,.inl ⟨H0.out,rfl⟩⟩
theorem Did.none{w w':World}{p:Nat}{v:Value}{k:Int}{n:Nat}{P:LB}(hr:Rg w p v k n P)(hb:Below w.heap.size w w'):Did w w' p v k n P (.slice none 0 0) [] v :=
 ⟨hr.next hb (La _),YK _ _,Ch.of hb hr.lt,.inl rfl,fun g h _=>by cases h⟩
theorem QgS{k:Int}{n:Nat}{h:Int}{s:BA}(h1:(s.size:Int)=k)(h2:0<=h)(h3:h<=40)(h4:n % 2^h.toNat=0)(h5:n+2^h.toNat<=1099511627776):er k n h s=0:=by
 rw[er,Le (by omega),Le (by omega),Le (by omega)]
theorem Oy(w:World)(ht:Tb w)(p:Nat)(v:Value)(k:Int)(n:Nat)(P:LB)(hr:Rg w p v k n P)(s:BA)(e0 n':Nat)(P' A:LB)(he:Hid (er k n 0 s=e0∧nxN k n 0 s=n'∧nxP k n P 0 s=P'∧an k n P 0 s=A)) :
  Calls prog 161 #[.pointer (some ⟨p,0,none⟩),.string s] w fun e w' => ∃vm v',e = .returned (.tuple #[vm,.int .i64 (e0:Int)])∧Did w w' p v k n' P' vm A v':=by
 obtain⟨q1,q2,q3,q4⟩:=he.out;have c0:=hr.c0;have c1:=hr.c1
 by_cases hs:(s.size:Int)=k
 ·by_cases hn:n<1099511627776
  ·have xA:er k n 0 s=0:=QgS hs (by decide) (by decide) (by show n % 1=0;omega) (by show n+1<=_;omega)
   rw[xA] at q1;rw[nxN,Lk xA] at q2;rw[nxP,Lk xA] at q3;rw[an,Lk xA] at q4;have xC:=Qbd hr.k1 hr.k2;have HL:Hid (Calls prog 251 #[.pointer (some ⟨p,0,none⟩),.int .i64 0,.string s] w fun e w' => ∃vm v',e = .returned vm∧Did w w' p v k n' P' vm A v') :=
    Qmc w ht p v k n P hr 0 (by decide) s (by omega) (by show n % 1=0;omega) n' q2 (by rw[<-q2];show n+1<=_;omega) A P' (by show mk (clk k) n P 0 s=(A,P');rw[<-q3,<-q4];rfl)
   have xD:decide ((1099511627776:Int)<=(n:Int))=false:=by simp;omega
   subst q1;subst hs;clear he xA q2 q3 q4 xC ht hr hn
   go_enter func161,ntmps161
   go_wp2_with (go_at_call 251;with_reducible refine HL.out.mono ?_;rintro e w1 ⟨vm,v',rfl,hd⟩)
   go_ret2
   exact⟨vm,v',rfl,hd⟩
  ·have xB:=hr.hn;have xA:er k n 0 s=30:=by rw[er,Le (by omega),Le (by rw[show(0:Int).toNat=0 from rfl,Ik];omega),Lk (by rw[show(0:Int).toNat=0 from rfl,Ik];omega)]
   rw[xA] at q1;rw[nxN,Le (by rw[xA];decide)] at q2
   rw[nxP,Le (by rw[xA];decide)] at q3
   rw[an,Le (by rw[xA];decide)] at q4
   have xD:decide ((1099511627776:Int)<=(n:Int))=true:=by simp;omega
   have HR:=Qd hr;subst q1 q2 q3 q4;subst hs;clear he xA ht hr hn xB
   go_enter func161,ntmps161;go_wp2
   go_ret2
   exact⟨_,v,rfl,Did.none HR.out (Lb _ _)⟩
 ·have xA:er k n 0 s=90:=by rw[er,Lk (by omega)]
  rw[xA] at q1;rw[nxN,Le (by rw[xA];decide)] at q2
  rw[nxP,Le (by rw[xA];decide)] at q3
  rw[an,Le (by rw[xA];decide)] at q4
  have HR:=Qd hr;subst q1 q2 q3 q4;clear he xA ht hr
  go_enter func161,ntmps161;go_wp2
  go_ret2
  exact⟨_,v,rfl,Did.none HR.out (Lb _ _)⟩
end Kp
def nd(c:Nat)(L:LB):Nat->Nat->BA
 | 0,i=>dg c (Uf (L.getD i ByteArray.empty))
 | h+1,i=>dg c (QV (nd c L h (2*i)) (nd c L h (2*i+1)))
theorem Yx{c:Nat}(hc:c<=32)(L:LB)(h i:Nat):(nd c L h i).size=c:=by
 cases h with
 | zero=>rw[nd,U0 hc]
 | succ h=>rw[nd,U0 hc]
theorem Jq{c:Nat}{L M:LB} : ∀(h i j:Nat),(∀t,t<2^h->L.getD (i*2^h+t) ByteArray.empty=M.getD (j*2^h+t) ByteArray.empty)->nd c L h i=nd c M h j
 | 0,i,j,e=>by
  have:=e 0 (by decide)
  simp only[Nat.pow_zero,Nat.mul_one,Nat.add_zero] at this;rw[nd,nd,this]
 | h+1,i,j,e=>by
  have p:2^(h+1)=2*2^h:=by rw[LC];omega
  rw[nd,nd,Jq h (2*i) (2*j),Jq h (2*i+1) (2*j+1)]
  ·intro t ht;have:=e (2^h+t) (by omega)
   rw[p] at this;rw[show(2*i+1)*2^h+t=i*(2*2^h)+(2^h+t) by rw[LL,LY,NJ];omega,show(2*j+1)*2^h+t=j*(2*2^h)+(2^h+t) by rw[LL,LY,NJ];omega]
   exact this
  ·intro t ht;have:=e t (by omega)
   rw[p] at this;rw[show 2*i*2^h+t=i*(2*2^h)+t by rw[LY,NJ],show 2*j*2^h+t=j*(2*2^h)+t by rw[LY,NJ]]
   exact this
theorem QjW(L:LB)(a n t:Nat)(h:t<n):((L.drop a).take n).getD t ByteArray.empty=L.getD (a+t) ByteArray.empty:=by
 rw[Ld,Ld,NC h,Nr]
theorem Qoj(c:Nat)(L:LB)(h i:Nat):nd c ((L.drop (i*2^h)).take (2^h)) h 0=nd c L h i :=
 Jq h 0 i fun t ht=>by rw[Nat.zero_mul,Lm,QjW _ _ _ _ ht]
def pks(c:Nat)(L:LB):Nat->LB
 | 0=>[]
 | h+1=>(if L.length / 2^h % 2=1 then [nd c L h (L.length / 2^h - 1)] else [])++pks c L h
theorem QdB{c:Nat}{L:LB}{h:Nat}(e:L.length / 2^h % 2=1):pks c L (h+1)=nd c L h (L.length / 2^h - 1)::pks c L h:=by rw[pks,Lk e];rfl
theorem QbN{c:Nat}{L:LB}{h:Nat}(e:L.length / 2^h % 2≠1):pks c L (h+1)=pks c L h:=by rw[pks,Le e];rfl
theorem QdA(c:Nat)(L:LB) : ∀h,(pks c L h).length<=h
 | 0=>La _
 | h+1=>by
  have:=QdA c L h
  by_cases e:L.length / 2^h % 2=1
  ·rw[QdB e,LE];omega
  ·rw[QbN e];omega
theorem QbO{c:Nat}(hc:c<=32)(L:LB) : ∀h,∀s∈pks c L h,s.size=c
 | 0=>by intro s hs;cases hs
 | h+1=>by
  intro s hs;have:=QbO hc L h
  by_cases e:L.length / 2^h % 2=1
  ·rw[QdB e] at hs
   rcases List.mem_cons.1 hs with rfl|hs
   ·exact Yx hc _ _ _
   ·exact this s hs
  ·rw[QbN e] at hs;exact this s hs
theorem QhH{n h:Nat}(e:n<2^h):n / 2^h % 2≠1:=by rw[Ii e];decide
theorem QgL{n g s:Nat}(h:s<g):n % 2^g / 2^s % 2=n / 2^s % 2:=by
 obtain⟨d,rfl⟩ : ∃d,g=s+(d+1):=⟨g - s - 1,by omega⟩
 rw[Ix,Nat.mod_mul_right_div_self,LC,LG,Nat.mod_mul_right_mod]
theorem Qhx{n g s:Nat}(h1:2^s<=n % 2^g)(h2:n % 2^g<2^(s+1)):s<g∧n / 2^s % 2=1∧n % 2^g=n % 2^(s+1)∧n % 2^(s+1)=2^s+n % 2^s:=by
 have xA:s<g:=by
  apply Nat.lt_of_not_le
  intro hle;have:=LW (n:=2) (by decide) hle
  have:=Ia n (LJ g);omega
 have e1:n % 2^g=n % 2^(s+1):=by
  have:=Nat.mod_mod_of_dvd n (Nat.pow_dvd_pow 2 (show s+1<=g by omega))
  rw[<-this,Nn h2]
 rw[e1] at h1 h2;have e2:n / 2^s % 2=1:=by
  rw[<-QgL (show s<s+1 by omega)]
  have:n % 2^(s+1) / 2^s=1:=by
   have hp:2^(s+1)=2^s*2:=LC ..;rw[Nat.div_eq_iff (LJ s)];generalize n % 2^(s+1)=m at *;omega
  rw[this]
 refine⟨xA,e2,e1,?_⟩
 rw[LC,N7,e2];omega
theorem QeF{n s:Nat}(e:n / 2^s % 2=1):(n / 2^s - 1)*2^s=n - n % 2^(s+1)∧1<=n / 2^s:=by
 have h1:1<=n / 2^s:=by
  generalize n / 2^s=x at *;omega
 refine⟨?_,h1⟩
 have:=Ib n (2^s);rw[LC,N7,e,Nat.sub_mul,LG (n / 2^s)];omega
def Yb(c:Nat)(L:LB)(h m:Nat):LB:=(List.range m).map (nd c L h)
theorem Yu(c:Nat)(L:LB)(h m:Nat):(Yb c L h m).length=m:=by simp[Yb]
theorem QdO(c:Nat)(L:LB)(h m:Nat){j:Nat}(hj:j<m):(Yb c L h m).getD j ByteArray.empty=nd c L h j:=by
 simp[Yb,List.getD_eq_getElem?_getD,hj]
theorem QcP(c:Nat)(L:LB)(h m:Nat):Yb c L h m++[nd c L h m]=Yb c L h (m+1):=by
 simp[Yb,List.range_succ]
namespace Kp
theorem QfO(L M:LB)(n t:Nat)(hn:n<=L.length)(h:t<n):(L.take n).getD t ByteArray.empty=(L++M).getD t ByteArray.empty:=by
 rw[Ld,Ld,NC h,Ly (by omega)]
def gN(c:Nat)(L:LB)(h x:Nat):BA:=nd c L h (x - 1)
theorem Qmm(c:Nat)(L:LB)(m h i:Nat)(hm:m<=L.length)(hi:(i+1)*2^h<=m):nd c (L.take m) h i=nd c L h i:=by
 refine Jq h i i fun t ht => ?_
 have xA:i*2^h+t<m:=by rw[LL] at hi;omega
 have:=QfO L [] m (i*2^h+t) hm xA
 rwa [LS] at this
theorem Qf6(c:Nat)(L:LB)(m:Nat)(hm:m<=L.length) : ∀F,pks c (L.take m) F=ol (gN c L) F m
 | 0=>rfl
 | F+1=>by
  have hl:(L.take m).length=m:=by rw[Lz];omega
  rw[pks,ol,Qf6 c L m hm F,hl]
  by_cases e:m / 2^F % 2=1
  ·rw[Lk e,Lk e,gN,Qmm c L m F _ hm];have h1:1<=m / 2^F:=by generalize m / 2^F=x at *;omega
   rw[show m / 2^F - 1+1=m / 2^F by omega]
   exact IS _ _
  ·rw[Le e,Le e]
theorem QgW(c:Nat)(L:LB)(h t:Nat)(ho:t % 2=1):dg c (QV (gN c L h t) (gN c L h (t+1)))=gN c L (h+1) (t / 2+1):=by
 obtain⟨q,rfl⟩ : ∃q,t=2*q+1:=⟨t / 2,by omega⟩
 rw[gN,gN,gN,show(2*q+1) / 2+1 - 1=q by omega,nd,show 2*q+1 - 1=2*q by omega,show 2*q+1+1 - 1=2*q+1 by omega]
theorem Qmi(c:Nat)(L:LB)(h t m:Nat)(hm:m=2^h*t)(hh:h<=40)(hl:m+2^h<=1099511627776) :
  mk c m (ol (gN c L) 41 m) h (nd c L h t)=((List.range (Pl.trl (40 - h) t+1)).map (fun j=>nd c L (h+j) (t / 2^j)),ol (gN c L) 41 (m+2^h)):=by
 have ht:t<2^(40 - h):=by
  have h1:2^h*(t+1)<=2^h*2^(40 - h):=by
   rw[<-Ix,show h+(40 - h)=40 by omega,NP,L8,<-hm];exact hl
  exact Nat.le_of_mul_le_mul_left h1 (LJ h)
 have e0:nd c L h t=gN c L h (t+1):=by rw[gN,LP]
 have a:=QhM c 41 (gN c L) (m+2^h) (fun h t _ ho=>QgW c L h t ho) (40 - h) h t (by omega) ht (by omega)
 have b:=Qjn c 41 (gN c L) (m+2^h) (fun h t _ ho=>QgW c L h t ho) (40 - h) h t (by omega) ht (by omega)
 rw[<-hm] at a b;rw[mk,show m / 2^h=t by rw[hm];exact(U5 h t).2,e0]
 refine Prod.ext ?_ b
 rw[a];refine NA fun j _ => ?_
 rw[gN,LP]
theorem QlX{K:Int}(k1:1<=K)(k2:K<=32)(M:LB)(h t m:Nat)(hm:m=2^h*t)(hh:h<=40)(hl:m+2^h<=1099511627776):er K m (h:Int) (nd (clk K) M h t)=0:=by
 have hc:=Qbd k1 k2;refine QgS (by rw[Yx (QO K)];exact hc) (by omega) (by omega) ?_ ?_
 ·rw[LM,hm];exact(U5 h t).1
 ·rw[LM];exact hl
theorem Qjy{K:Int}(k1:1<=K)(k2:K<=32)(M:LB)(h t m:Nat)(hm:m=2^h*t)(hh:h<=40)(hl:m+2^h<=1099511627776) :
  Hid (er K m (h:Int) (nd (clk K) M h t)=0∧nxN K m (h:Int) (nd (clk K) M h t)=m+2^h∧nxP K m (ol (gN (clk K) M) 41 m) (h:Int) (nd (clk K) M h t)=ol (gN (clk K) M) 41 (m+2^h) ∧
   an K m (ol (gN (clk K) M) 41 m) (h:Int) (nd (clk K) M h t)=(List.range (Pl.trl (40 - h) t+1)).map (fun j=>nd (clk K) M (h+j) (t / 2^j))):=by
 have e:=QlX k1 k2 M h t m hm hh hl;have q:=Qmi (clk K) M h t m hm hh hl;refine⟨e,?_,?_,?_⟩
 ·rw[nxN,Lk e,LM]
 ·rw[nxP,Lk e,LM,q]
 ·rw[an,Lk e,LM,q]
end Kp
namespace Cv
open Pl
def dnL:Nat->Nat->Nat->List (Nat×Nat)
 | 0,_,_=>[]
 | h+1,lo,hi=>if pw h<=hi - lo then (h,lo / pw h)::dnL h (lo+pw h) hi else dnL h lo hi
def upL:Nat->Nat->Nat->Nat->List (Nat×Nat)
 | 0,_,_,_=>[]
 | f+1,h,lo,hi=>if pw h<=hi - lo then (if lo / pw h % 2=1 then (h,lo / pw h)::upL f (h+1) (lo+pw h) hi else upL f (h+1) lo hi) else dnL (h+1) lo hi
def cov(lo hi:Nat):List (Nat×Nat):=upL 42 0 lo hi
def rst:Nat->Nat->List Nat->List (Nat×Nat)
 | x,n,[]=>cov x n
 | x,n,i::S=>cov x i++rst (i+1) n S
def All(A:Nat->Prop)(h k:Nat):Prop := ∀i,k*pw h<=i->i<(k+1)*pw h->A i
def Til(A:Nat->Prop)(q:Nat):Nat->List (Nat×Nat)->Prop
 | p,[]=>p<=q ∧ ∀i,p<=i->i<q -> ¬A i
 | p,b::L=>p<=b.2*pw b.1∧(b.2+1)*pw b.1<=q∧(∀i,p<=i->i<b.2*pw b.1 -> ¬A i)∧All A b.1 b.2 ∧ ¬All A (b.1+1) (b.2 / 2)∧Til A q ((b.2+1)*pw b.1) L
theorem Jj(h k:Nat):k*pw h<(k+1)*pw h:=by
 have:=QB h;rw[LL,LV];omega
theorem Qbw(A:Nat->Prop)(h k h' k':Nat)(he:k*pw h=k' * pw h')(hl:h<h')(ha:All A h' k'):All A (h+1) (k / 2):=by
 obtain⟨d,rfl⟩ : ∃d,h'=h+1+d:=⟨h' - (h+1),by omega⟩
 have e1:pw (h+1+d)=2*pw d*pw h:=by rw[QdC,QJ,LG (2*pw h),<-LY,LG (pw d)]
 have hp:=QB h;have hd:=QB d;have hk:k=k' * (2*pw d):=by
  rw[e1,<-LY] at he;exact IW hp he
 have xA:k / 2=k' * pw d:=by
  rw[hk,show k' * (2*pw d)=k' * pw d*2 by rw[LG 2,LY]]
  exact Nx _ (by decide)
 intro i h1 h2;have e2:pw (h+1+d)=pw d*pw (h+1):=by rw[QdC,LG]
 refine ha i ?_ ?_
 ·rw[e2,<-LY,<-xA];exact h1
 ·refine Lx h2 ?_
  rw[e2,<-LY,xA];refine LU _ ?_
  rw[LL];omega
theorem QoJ{A:Nat->Prop}{q p:Nat}{L:List (Nat×Nat)}(h:Til A q p L):p<=q:=by
 cases L with
 | nil=>exact h.1
 | cons b L=>have:=Jj b.1 b.2;have h1:=h.1;have h2:=h.2.1;omega
theorem Qhr{A:Nat->Prop}{q:Nat} : ∀ {L L':List (Nat×Nat)} {p:Nat},Til A q p L->Til A q p L'->L=L':=by
 intro L
 induction L with
 | nil =>
  intro L' p h h'
  cases L' with
  | nil=>rfl
  | cons b L' =>
   obtain⟨a1,a2,a3,a4,a5,a6⟩:=h';have:=Jj b.1 b.2;exact absurd (a4 _ (La _) this) (h.2 _ a1 (by omega))
 | cons c L ih =>
  intro L' p h h'
  cases L' with
  | nil =>
   obtain⟨a1,a2,a3,a4,a5,a6⟩:=h;have:=Jj c.1 c.2;exact absurd (a4 _ (La _) this) (h'.2 _ a1 (by omega))
  | cons b L' =>
   obtain⟨a1,a2,a3,a4,a5,a6⟩:=h;obtain⟨b1,b2,b3,b4,b5,b6⟩:=h';obtain⟨h,k⟩:=c;obtain⟨h',k'⟩:=b;simp only at *;have x1:=Jj h k;have x2:=Jj h' k';have he:k*pw h=k' * pw h':=by
    rcases Nat.lt_trichotomy (k*pw h) (k' * pw h') with hh|hh|hh
    ·exact absurd (a4 _ (La _) x1) (b3 _ a1 hh)
    ·exact hh
    ·exact absurd (b4 _ (La _) x2) (a3 _ b1 hh)
   have hh:h=h':=by
    rcases Nat.lt_trichotomy h h' with hh|hh|hh
    ·exact absurd (Qbw A h k h' k' he hh b4) a5
    ·exact hh
    ·exact absurd (Qbw A h' k' h k he.symm hh a4) b5
   subst hh;have hk:k=k':=IW (QB h) he;subst hk;rw[ih a6 b6]
theorem Qd2{A:Nat->Prop}{q p p':Nat}{L:List (Nat×Nat)}(h:Til A q p' L)(hp:p<=p')(hn : ∀i,p<=i->i<p' -> ¬A i):Til A q p L:=by
 cases L with
 | nil=>exact⟨Lu hp h.1,fun i h1 h2=>if hi:i<p' then hn i h1 hi else h.2 i (by omega) h2⟩
 | cons b L=>exact⟨Lu hp h.1,h.2.1,fun i h1 h2=>if hi:i<p' then hn i h1 hi else h.2.2.1 i (by omega) h2,h.2.2.2⟩
theorem Qad{A:Nat->Prop}{q m:Nat}{L':List (Nat×Nat)}(h':Til A q m L') : ∀ {L:List (Nat×Nat)} {p:Nat},Til A m p L->Til A q p (L++L'):=by
 intro L
 induction L with
 | nil=>intro p h;exact Qd2 h' h.1 h.2
 | cons b L ih =>
  intro p h;have:=QoJ h';exact⟨h.1,Lu h.2.1 this,h.2.2.1,h.2.2.2.1,h.2.2.2.2.1,ih h.2.2.2.2.2⟩
theorem Qnl{A:Nat->Prop}{q q' p:Nat}{L:List (Nat×Nat)}(h:Til A q p L)(hq:q<=q')(hn : ∀i,q<=i->i<q' -> ¬A i):Til A q' p L:=by
 have:=Qad (A:=A) (q:=q') (m:=q) (L':=[]) ⟨hq,hn⟩ h
 rwa [LS] at this
abbrev Rg(lo hi:Nat):Nat->Prop:=fun i=>lo<=i∧i<hi
theorem Q7(c h:Nat):c*pw (h+1)=2*c*pw h:=by rw[QJ,<-LY,LG c]
theorem Qn0(lo0 hi:Nat) : ∀h lo,(∃c,lo=c*pw h)->hi - lo<pw h->lo0<=lo->lo<=hi->Til (Rg lo0 hi) hi lo (dnL h lo hi):=by
 intro h
 induction h with
 | zero =>
  intro lo _ h2 h3 h4;rw[OZ] at h2;exact⟨h4,fun i h5 h6 _=>by omega⟩
 | succ h ih =>
  intro lo h1 h2 h3 h4;obtain⟨c,hc⟩:=h1;have hp:=QB h;have xA:=QJ h;rw[Q7] at hc;rw[dnL]
  split
  ·rename_i hfit
   have hk:lo / pw h=2*c:=by rw[hc];exact Nx _ hp
   have e1:(2*c+1)*pw h=lo+pw h:=by rw[LL,LV,<-hc]
   have e2:2*c / 2=c:=by omega
   have e3:c*pw (h+1)=lo:=by rw[Q7];exact hc.symm
   rw[hk];refine⟨by show lo<=2*c*pw h;omega,by show(2*c+1)*pw h<=hi;omega,fun i i1 i2=>by dsimp only at i2;omega,fun i i1 i2 => ?_,fun hall => ?_,?_⟩
   ·dsimp only at i1 i2;exact⟨by omega,by omega⟩
   ·dsimp only at hall
    rw[e2] at hall;have:=hall hi (by omega) (by rw[LL,LV,e3];omega)
    exact absurd this.2 (Nk _)
   ·dsimp only
    rw[e1];exact ih (lo+pw h) ⟨2*c+1,e1.symm⟩ (by omega) (by omega) (by omega)
  ·exact ih lo ⟨2*c,hc⟩ (by omega) h3 h4
theorem pw40{h:Nat}(hh:pw h<=2^40):h<=40:=by
 by_cases h1:h<=40
 ·exact h1
 ·have h2:pw 41<=pw h:=OY (by omega)
  have h3:pw 41=2^41:=rfl;omega
theorem JN{lo hi h:Nat}(hl:hi - lo<pw h):dnL (h+1) lo hi=dnL h lo hi:=by
 rw[dnL,Le (by omega)]
theorem QoQ(lo0 hi:Nat)(hhi:hi<=2^40) : ∀f h lo,f+h=42->h<=41->(∃c,lo=c*pw h)->lo0<=lo->lo<lo0+pw h->lo<=hi->Til (Rg lo0 hi) hi lo (upL f h lo hi):=by
 intro f
 induction f with
 | zero=>intro h lo h1 h2;omega
 | succ f ih =>
  intro h lo h1 h2 h3 h4 h5 h6;obtain⟨c,hc⟩:=h3;have hp:=QB h;have xA:=QJ h;rw[upL]
  split
  ·rename_i hfit
   have hh:h<=40:=pw40 (by omega)
   have hk:lo / pw h=c:=by rw[hc];exact Nx _ hp
   rw[hk];have e1:(c+1)*pw h=lo+pw h:=by rw[LL,LV,<-hc]
   split
   ·rename_i hodd
    have e2:c / 2*pw (h+1)+pw h=lo:=by
     rw[Q7,hc];have:c=2*(c / 2)+1:=by omega
     conv=>rhs;rw[this,LL,LV]
    have e3:(c+1) / 2*pw (h+1)=lo+pw h:=by
     rw[Q7,<-e1];have:c+1=2*((c+1) / 2):=by omega
     conv=>rhs;rw[this]
    refine⟨by show lo<=c*pw h;omega,by show(c+1)*pw h<=hi;omega,fun i i1 i2=>by dsimp only at i2;omega,fun i i1 i2 => ?_,fun hall => ?_,?_⟩
    ·dsimp only at i1 i2;exact⟨by omega,by omega⟩
    ·dsimp only at hall
     have:=hall _ (La _) (Jj _ _);have:=this.1;omega
    ·dsimp only
     rw[e1];exact ih (h+1) (lo+pw h) (by omega) (by omega) ⟨_,e3.symm⟩ (by omega) (by omega) (by omega)
   ·rename_i hev
    refine ih (h+1) lo (by omega) (by omega) ⟨c / 2,?_⟩ h4 (by omega) h6
    rw[Q7,hc];have:c=2*(c / 2):=by omega
    conv=>lhs;rw[this]
  ·rename_i hno
   rw[JN (by omega)]
   exact Qn0 lo0 hi h lo ⟨c,hc⟩ (by omega) h4 h6
theorem QaV(lo hi:Nat)(h:lo<=hi)(hhi:hi<=2^40):Til (Rg lo hi) hi lo (cov lo hi) :=
 QoQ lo hi hhi 42 0 lo rfl (by decide) ⟨lo,by simp[pw]⟩ (La _) (by rw[OZ];omega) h
theorem Qal : ∀h lo hi,(dnL h lo hi).length<=h:=by
 intro h
 induction h with
 | zero=>intro lo hi;exact La _
 | succ h ih =>
  intro lo hi;rw[dnL]
  split
  ·have:=ih (lo+pw h) hi;simp;omega
  ·have:=ih lo hi;omega
theorem QoO(hi:Nat)(hhi:hi<=2^40) : ∀f h lo,f+h=42->h<=40->lo<=hi->(upL f h lo hi).length<=80 - h:=by
 intro f
 induction f with
 | zero=>intro h lo h1 h2;omega
 | succ f ih =>
  intro h lo h1 h2 h3
  by_cases h40:h=40
  ·subst h40;obtain rfl:f=1:=by omega
   by_cases hfit:pw 40<=hi - lo
   ·have e:pw 40=2^40:=rfl;obtain rfl:lo=0:=by omega
    obtain rfl:hi=2^40:=by omega
    decide
   ·rw[upL,Le hfit,JN (by omega)]
    have:=Qal 40 lo hi;omega
  ·rw[upL]
   split
   ·split
    ·have:=ih (h+1) (lo+pw h) (by omega) (by omega) (by omega)
     simp;omega
    ·have:=ih (h+1) lo (by omega) (by omega) h3
     omega
   ·rw[JN (by omega)]
    have:=Qal h lo hi;omega
theorem JM(lo hi:Nat)(h:lo<=hi)(hhi:hi<=2^40):(cov lo hi).length<=80:=QoO hi hhi 42 0 lo rfl (by decide) h
theorem QlR{lo hi h:Nat}(hl:hi - lo<pw h) : ∀d,dnL (h+d) lo hi=dnL h lo hi:=by
 intro d
 induction d with
 | zero=>rfl
 | succ d ih =>
  have:pw h<=pw (h+d):=OY (by omega)
  rw[<-Ni,JN (by omega),ih]
theorem Qnt(n:Nat)(hn:n<=2^40) : ∀f h,f+h=42->h<=41->upL f h 0 n=dnL 41 0 n:=by
 intro f
 induction f with
 | zero=>intro h h1 h2;omega
 | succ f ih =>
  intro h h1 h2;rw[upL]
  split
  ·rename_i hfit
   have:=pw40 (h:=h) (by omega)
   rw[Nat.zero_div,Le (by decide)]
   exact ih (h+1) (by omega) (by omega)
  ·rename_i hno
   rw[JN (by omega),show 41=h+(41 - h) by omega,QlR (by omega)]
theorem Jl(n:Nat)(hn:n<=2^40):cov 0 n=dnL 41 0 n:=Qnt n hn 42 0 rfl (by decide)
theorem OW : ∀h d,d<pw (h+1)->Qy (h+1) d=d / pw h+Qy h (d % pw h):=by
 intro h
 induction h with
 | zero=>intro d hd;simp[Qy,pw] at *;omega
 | succ h ih =>
  intro d hd;have e1:d % pw (h+1)=d % 2+2*(d / 2 % pw h):=by rw[QJ,N7]
  have e2:d / pw (h+1)=d / 2 / pw h:=by rw[QJ,L1]
  rw[Qy,ih (d / 2) (by rw[QJ] at hd;omega),e1,e2,Qy]
  have e3:(d % 2+2*(d / 2 % pw h)) % 2=d % 2:=by omega
  have e4:(d % 2+2*(d / 2 % pw h)) / 2=d / 2 % pw h:=by omega
  rw[e3,e4];omega
theorem QlS : ∀h lo hi,hi - lo<pw h->(dnL h lo hi).length=Qy h (hi - lo):=by
 intro h
 induction h with
 | zero=>intro lo hi _;rfl
 | succ h ih =>
  intro lo hi hl;have hp:=QB h;have xA:=QJ h;rw[OW h _ hl,dnL]
  split
  ·rename_i hfit
   have e1:(hi - lo) / pw h=1:=by rw[Nat.div_eq_iff hp];omega
   have e2:(hi - lo) % pw h=hi - (lo+pw h):=by rw[Nat.mod_eq_sub_mod hfit,Nn (by omega)];omega
   rw[e1,e2,LE,ih (lo+pw h) hi (by omega)];omega
  ·rename_i hno
   rw[Ii (by omega),Nn (by omega),ih lo hi (by omega)];omega
theorem Qmw(j d n:Nat)(h:n<2^j):Qy (j+d) n=Qy j n:=by
 induction d with
 | zero=>rfl
 | succ d ih=>rw[<-Ni,UP _ _ (Lx h (LW (by decide) (by omega))),ih]
theorem Qbh(n:Nat)(hn:n<=2^40):(cov 0 n).length=Qy 64 n:=by
 rw[Jl n hn, QlS 41 0 n (by have : pw 41 = 2 ^ 41:=rfl
                            omega)]
 exact(Qmw 41 23 n (by omega)).symm
theorem Qcr(n:Nat)(hn:n<=2^40):(cov 0 n).length<=40:=by
 by_cases h:n=2^40
 ·subst h;decide
 ·rw[Jl n hn, show(41 : Nat) = 40+1 from rfl, JN (by have : pw 40 = 2 ^ 40:=rfl
                                                     omega)]
  exact Qal 40 0 n
end Cv
end Go.Proofs.YtoblgjledefdbaaGreatDoor
