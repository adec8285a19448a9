/- Own work. -/
import Derived.Test.YtoblgjledefdbabGreatDoorQs11
set_option maxRecDepth 100000
set_option maxHeartbeats 1000000
namespace Go.Proofs.YtoblgjledefdbabGreatDoor
open Go.RowKit
attribute [local go_sem ↓] Go.wp_at_zero Go.wp_at_succ
open Go.Proofs.Tryz
namespace St
def U8(room:Nat):DV:=⟨room,[],0,0,0,[],false⟩
def Dsk(w:World)(p:Nat)(S:Nat->Prop)(D:DV):Prop := ∃m R ka kb ko kc,Dk w p m R ka kb ko kc D none ∧ ∀x,Ui p m R kb D x↔S x
theorem Qdk(w:World)(room:Int)(n:Nat)(hn:n=room.toNat)(h2:room<=9223372036854775807) :
  Calls prog 12 #[.int .i64 room] w fun e w'=> ∃p S,e= .returned (Zv p)∧Dsk w' p S (U8 n)∧(∀x,S x->w.heap.size<=x)∧Below w.heap.size w w':=by
 have hmm := @run_makeMap prog;have e1:(if room<0 then 0 else room)=(n:Int):=by split <;> omega
 go_enter func12,ntmps12;go_wp2
 go_ret
 have hm:max room 0=(n:Int):=by omega
 rw[hm];have k0:=new0 w (.map #[] 0) (.cells #[.int .i64 n,.map (some w.heap.size),.int .i64 0,.int .i64 0,.int .i64 0,.slice none 0 0,.bool false] 95);have k1:=new2 w (.map #[] 0) (.cells #[.int .i64 n,.map (some w.heap.size),.int .i64 0,.int .i64 0,.int .i64 0,.slice none 0 0,.bool false] 95);have hM:=(QoG w).same (k0.trans (U7 w (.map #[] 0)).symm);refine⟨w.heap.size+1,Ui (w.heap.size+1) w.heap.size (fun _=>fr0) 0 (U8 n),rfl,⟨w.heap.size,fun _=>fr0,none,0,0,0,⟨k1,hM,?_,?_,?_,?_,?_,?_,?_,?_,?_,?_,?_,?_⟩,fun x=>Iff.rfl⟩,fun x hx=> ?_,bal (bal (Lc _ _) _) _⟩
 ·exact Un
 ·intro s hs;simp[QC,U8] at hs
 ·intro s hs;simp[QC,U8] at hs
 ·intro s hs;simp[QC,U8] at hs
 ·intro s hs;simp[QC,U8] at hs
 ·simp[U8]
 ·exact Qg4 _ _ _ _
 ·intro h0;simp[U8] at h0
 ·simp[U8]
 ·show n<=_;omega
 ·simp[U8]
 ·exact rfl
 ·rcases hx with rfl|rfl|⟨s,hs,_⟩|⟨h0,_⟩
  ·omega
  ·omega
  ·simp[QC,U8] at hs
  ·simp[U8] at h0
def Mvd(w w':World)(p:Nat)(S:Nat->Prop)(D':DV):Prop := ∃S',Dsk w' p S' D'∧(∀x,S' x->S x∨w.heap.size<=x)∧Upo S w w'
section
variable {w W:World} {p:Nat} {S:Nat->Prop} {D:DV}
theorem Dsk.same(h:Dsk w p S D)(hb:∀x,S x->W.heap[x]? = w.heap[x]?):Dsk W p S D:=by
 obtain⟨m,R,ka,kb,ko,kc,h1,h2⟩:=h;exact⟨m,R,ka,kb,ko,kc,h1.same (fun x hx=>hb x ((h2 x).1 hx)),h2⟩
theorem Dsk.lt(h:Dsk w p S D){x:Nat}(hx:S x):x<w.heap.size:=by
 obtain⟨m,R,ka,kb,ko,kc,h1,h2⟩:=h;exact h1.lt ((h2 x).2 hx)
theorem Dsk.next(h:Dsk w p S D)(hb:Below w.heap.size w W):Dsk W p S D:=h.same fun x hx=>hb.block x (h.lt hx)
theorem Dsk.keep{T:Nat->Prop}(h:Dsk w p S D)(hu:Upo T w W)(hd:∀x,S x -> ¬T x):Dsk W p S D:=h.same fun x hx=>hu.block x (h.lt hx) (hd x hx)
theorem Dsk.mvd{m:Nat}{R:List UInt8->FR}{kb ko:Nat}{D':DV}(hi:∀x,Ui p m R kb D x↔S x)(h:Left w W p m R kb ko D D'):Mvd w W p S D':=by
 obtain⟨m',R',ka',kc',h1,h2,h3⟩:=h;exact⟨Ui p m' R' kb D',⟨m',R',ka',kb,ko,kc',h1,fun _=>Iff.rfl⟩,fun x hx=>(h2 x hx).imp (hi x).1 id,h3.mono (fun x _ q=>(hi x).1 q)⟩
theorem Dsk.write(h:Dsk w p S D)(s t:BA)(hs:s.size<=maxLen)(off:Int)(ho1 : -9223372036854775808<=off)(ho2:off<=9223372036854775807)(ht:t.size<=140737488355328)(hac:D.acts+1<=4611686018427387904)(hcnt:D.L.length<1099511627776)(hfr:D.down=false->D.free+(Qh D.L s.data.toList).now.length<=9223372036854775807) :
  Calls prog 199 #[Zv p,.string s,.int .i64 off,.string t] w fun e w'=>e= .returned (.int .i64 (wrD D s.data.toList off t.data.toList).2)∧Mvd w w' p S (wrD D s.data.toList off t.data.toList).1:=by
 obtain⟨m,R,ka,kb,ko,kc,h1,h2⟩:=h;exact(Qau w h1 s t hs off ho1 ho2 ht hac hcnt hfr).mono fun e w' q=>⟨q.1,Dsk.mvd h2 q.2⟩
theorem Dsk.sync(h:Dsk w p S D)(s:BA)(hs:s.size<=maxLen)(hac:D.acts+1<=4611686018427387904)(hcnt:D.L.length<1099511627776)(hfr:D.down=false->D.free+(Qh D.L s.data.toList).now.length<=9223372036854775807) :
  Calls prog 119 #[Zv p,.string s] w fun e w'=>e= .returned (.int .i64 (YE D s.data.toList).2)∧Mvd w w' p S (YE D s.data.toList).1:=by
 obtain⟨m,R,ka,kb,ko,kc,h1,h2⟩:=h;exact(QkR w h1 s hs hac hcnt hfr).mono fun e w' q=>⟨q.1,Dsk.mvd h2 q.2⟩
theorem Dsk.read(h:Dsk w p S D)(s:BA)(hs:s.size<=maxLen)(off q:Int)(ho1 : -9223372036854775808<=off)(ho2:off<=9223372036854775807)(hq1 : -9223372036854775808<=q)(hq2:q<=9223372036854775807) :
  Calls prog 94 #[Zv p,.string s,.int .i64 off,.int .i64 q] w fun e w'=>e= .returned (.tuple #[.string ⟨(rdD D s.data.toList off q).1.toArray⟩,.int .i64 (rdD D s.data.toList off q).2])∧Below w.heap.size w w':=by
 obtain⟨m,R,ka,kb,ko,kc,h1,h2⟩:=h;exact Qkx w h1 s hs off q ho1 ho2 hq1 hq2
def sizD(D:DV)(s:List UInt8):Nat:=if D.down then 0 else (Qh D.L s).now.length
theorem Dsk.size(h:Dsk w p S D)(s:BA)(hs:s.size<=maxLen):Calls prog 114 #[Zv p,.string s] w fun e w'=>e= .returned (.int .i64 (sizD D s.data.toList:Int))∧w'=w:=by
 obtain⟨m,R,ka,kb,ko,kc,h1,h2⟩:=h;exact QbU w h1 s hs _ rfl
theorem Dsk.down(h:Dsk w p S D):Calls prog 69 #[Zv p] w fun e w'=>e= .returned (.bool D.down)∧w'=w:=by
 obtain⟨m,R,ka,kb,ko,kc,h1,h2⟩:=h;exact Qjb w h1
end
end St
namespace St.Pl
def Qy:Nat->Nat->Nat
 | 0,_=>0
 | k+1,n=>n%2+Qy k (n/2)
theorem Y5(n k:Nat):n/2^(k+1)=n/2^k/2:=by
 rw[LO,LY]
theorem Qdu(k n:Nat):Qy k n<=k:=by
 induction k generalizing n with
 | zero=>exact Lb _
 | succ k ih=>have:=ih (n/2);simp only[Qy];omega
theorem Qam(k n:Nat)(hk:k<64):Qy (64-k) (n/2^k)=n/2^k%2+Qy (64-(k+1)) (n/2^(k+1)):=by
 rw[show 64-k=(64-(k+1))+1 by omega,Qy,Y5]
def N(n:Nat):Nat:=2*n-Qy 64 n
def pw(h:Nat):Nat:=2^h
def at'(h k:Nat):Nat:=2*pw h*(k+1)-2-Qy 64 k
def fr(h k:Nat):Nat:=2*pw h*k-Qy 64 k
theorem QE(h:Nat):pw (h+1)=2*pw h:=by simp[pw,Nat.pow_succ,Nat.mul_comm]
theorem Yw:pw 0=1:=rfl
theorem QA(h:Nat):0<pw h:=LM h
theorem Qao(a b:Nat):pw (a+b)=pw a*pw b:=If 2 a b
theorem OS{a b:Nat}(h:a<=b):pw a<=pw b:=Ng (by decide) h
theorem JS(j k:Nat):Qy j k<=k:=by
 induction j generalizing k with
 | zero=>exact Lm _
 | succ j ih=>have:=ih (k/2);simp only[Qy];omega
theorem UI(j k:Nat)(h:k<2^j):Qy (j+1) k=Qy j k:=by
 induction j generalizing k with
 | zero=>simp at h;subst h;rfl
 | succ j ih=>
  rw[Qy,ih (k/2) (by rw[LO] at h;omega)];rfl
theorem QbG(k:Nat)(h:k<2^63):Qy 64 (2*k)=Qy 64 k:=by
 rw[UI 63 k h,Qy];have e1:2*k%2=0:=by omega
 have e2:2*k/2=k:=by omega
 rw[e1,e2];omega
theorem QeH(k:Nat)(h:k<2^63):Qy 64 (2*k+1)=Qy 64 k+1:=by
 rw[UI 63 k h,Qy];have e1:(2*k+1)%2=1:=by omega
 have e2:(2*k+1)/2=k:=by omega
 rw[e1,e2];omega
theorem QfQ(h k:Nat)(hb:k*pw h<2^63):Qy 64 (k*pw h)=Qy 64 k:=by
 induction h with
 | zero=>simp[pw]
 | succ h ih=>
  rw[QE] at hb ⊢;have e:k*(2*pw h)=2*(k*pw h):=by rw[N4]
  rw[e] at hb ⊢;rw[QbG _ (by omega),ih (by omega)]
theorem QhX(h k:Nat)(hb:(k+1)*pw h<2^63):Qy 64 ((k+1)*pw h-1)=Qy 64 k+h:=by
 induction h with
 | zero=>simp[pw]
 | succ h ih=>
  rw[QE] at hb ⊢;have e:(k+1)*(2*pw h)=2*((k+1)*pw h):=by rw[N4]
  have hp:0<(k+1)*pw h:=Nat.mul_pos (by omega) (QA h)
  rw[e] at hb ⊢;have e2:2*((k+1)*pw h)-1=2*((k+1)*pw h-1)+1:=by omega
  rw[e2,QeH _ (by omega),ih (by omega)];omega
theorem QnD(h k:Nat):at' h k+2+Qy 64 k=2*pw h*(k+1):=by
 have h1:=JS 64 k;have h2:1*(2*(k+1))<=pw h*(2*(k+1)):=LT _ (QA h);have e:2*pw h*(k+1)=pw h*(2*(k+1)):=by rw[L3 2,L5]
 simp only[at'];rw[e];omega
theorem Qcp(h k:Nat):fr h k+Qy 64 k=2*pw h*k:=by
 have h1:=JS 64 k;have h2:1*(2*k)<=pw h*(2*k):=LT _ (QA h);have e:2*pw h*k=pw h*(2*k):=by rw[L3 2,L5]
 simp only[fr];rw[e];omega
theorem Qpr(h k:Nat):at' h k=fr h k+(2*pw h-2):=by
 have h1:=QnD h k;have h2:=Qcp h k;have h3:=QA h;rw[N9,Nr] at h1;omega
theorem N_eq(n:Nat):N n+Qy 64 n=2*n:=by
 have:=JS 64 n;simp only[N];omega
theorem N_at(h k:Nat)(hb:(k+1)*pw h<2^63):N ((k+1)*pw h-1)+h=at' h k:=by
 have h1:=QnD h k;have h2:=N_eq ((k+1)*pw h-1);have h3:=QhX h k hb;have hp:0<(k+1)*pw h:=Nat.mul_pos (by omega) (QA h)
 have e:2*pw h*(k+1)=2*((k+1)*pw h):=by rw[L5,L3 (pw h)]
 omega
theorem N_fr(h k:Nat)(hb:k*pw h<2^63):N (k*pw h)=fr h k:=by
 have h1:=Qcp h k;have h2:=N_eq (k*pw h);have h3:=QfQ h k hb;have e:2*pw h*k=2*(k*pw h):=by rw[L5,L3 (pw h)]
 omega
theorem QgK(h k:Nat)(hk:k<2^63):fr h (2*k)=fr (h+1) k:=by
 have h1:=Qcp (h+1) k;have h2:=Qcp h (2*k);have h3:=QbG k hk;have e:2*pw (h+1)*k=2*pw h*(2*k):=by rw[QE,L5 2 (2*pw h) k,L5 2 (pw h) (2*k),L5 2 (pw h) k,N4 (pw h) 2 k]
 omega
theorem Qjq(h k:Nat)(hk:k<2^63):fr h (2*k+1)=fr (h+1) k+(2*pw h-1):=by
 have h1:=QgK h k hk;have h2:=Qcp h (2*k);have h3:=Qcp h (2*k+1);have h4:=QbG k hk;have h5:=QeH k hk;have h6:=QA h;rw[N9,Nr] at h3;omega
theorem Qmk{h k:Nat}(hk:k<pw (40-h)):k<2^40 :=
 LL hk (OS (by omega))
theorem Qlp(h k:Nat)(hk:k<2^63)(ho:k%2=1):at' h (k-1)+1=fr h k:=by
 have e:k=2*(k/2)+1:=by omega
 have h1:=Qjq h (k/2) (by omega)
 have h2:=QgK h (k/2) (by omega)
 have h3:=Qpr h (k-1);have h4:=QA h;rw[<-e] at h1;rw[show 2*(k/2)=k-1 by omega] at h2
 omega
theorem QeF(t n:Nat)(h:n%pw t=pw t-1):n+1=(n/pw t+1)*pw t:=by
 have h1:=Iq n (pw t);have h2:=QA t;rw[L4,Na,L3 (n/pw t)];omega
theorem Qb4(t n:Nat)(h:n%pw t=pw t-1)(ho:n/pw t%2=1):n%pw (t+1)=pw (t+1)-1:=by
 have h2:=QA t;have e:n%pw (t+1)=n%pw t+pw t*(n/pw t%2):=by rw[QE,L3,Ik]
 rw[e,h,ho,QE];omega
theorem QeG(t n:Nat)(h:n%pw t=pw t-1)(hn:n<2^40):t<=40:=by
 have h1:pw t-1<=n:=by rw[<-h];exact Nat.mod_le _ _
 have h2:=QA t
 by_cases ht:t<=40
 ·exact ht
 ·have:pw 41<=pw t:=OS (by omega)
  have:pw 41=2^41:=rfl;omega
theorem QoL(t n:Nat)(h:n%pw t=pw t-1)(hn:n<2^40):at' t (n/pw t)=N n+t∧n/pw t<pw (40-t)∧t<=40:=by
 have e:=QeF t n h;have ht:=QeG t n h hn;have hx:=N_at t (n/pw t) (by rw[<-e];omega)
 rw[<-e,Ny] at hx;refine⟨hx.symm,?_,ht⟩
 rw[IY (QA t),<-Qao,show 40-t+t=40 by omega]
 exact hn
theorem new_N(t n:Nat)(h:n%pw t=pw t-1)(ho:¬n/pw t%2=1)(hn:n<2^40):N (n+1)=N n+t+1:=by
 have e:=QeF t n h;obtain⟨h1,h2,ht⟩:=QoL t n h hn;have hb:=Qmk h2;have h4:=N_fr t (n/pw t+1) (by rw[<-e];omega)
 rw[<-e] at h4;have h5:=Qlp t (n/pw t+1) (by omega) (by omega)
 rw[Ny] at h5;omega
end St.Pl
namespace St
open Rc
def nmI:List UInt8:=[105,116,101,109,115]
def nmN:List UInt8:=[110,111,100,101,115]
def nmM:List UInt8:=[109,97,114,107,115]
def nn(n:Nat):Nat:=Pl.N n
def lst(l:List Nat):Nat:=l.getLastD 0
def Uz(l:List Nat)(n:Nat):Nat:=if n=0 then 0 else l.getD (n-1) 0
theorem Qbj(l:List Nat):Uz l l.length=lst l:=by
 unfold Uz lst
 rcases List.eq_nil_or_concat l with rfl|⟨a,b,rfl⟩
 ·rfl
 ·simp
structure SV where
 k:Nat
 ends:List Nat
 chain:BitVec 32
 lame:Bool
def tx(l:List UInt8):BA:=⟨l.toArray⟩
theorem QdT(l:List UInt8):(tx l).data.toList=l:=rfl
theorem Ji(l:List UInt8):(tx l).size=l.length:=by show l.toArray.size=_;simp
instance decMV:DecidableEq MV:=fun a b=>decidable_of_iff (a.k=b.k∧a.size=b.size∧a.items=b.items∧a.nodes=b.nodes∧a.chain=b.chain) ⟨fun h=>MV.ext' h.1 h.2.1 h.2.2.1 h.2.2.2.1 h.2.2.2.2,fun h=>by subst h;exact⟨rfl,rfl,rfl,rfl,rfl⟩⟩
def nxM(k:Nat)(ends:List Nat)(c:BitVec 32)(pl:List UInt8)(rows:LB):MV :=
 ⟨(k:Int),ends.length+1,lst ends+pl.length,nn (ends.length+1)*40,BitVec.ofNat 32 (chn c pl rows)⟩
def whl(pl:List UInt8):Bool:=match rpay pl with
 | none=>false
 | some x=>x.length+8 == pl.length
def Q0:List (DV->DV×Int)->DV->DV×Int
 | [],D=>(D,0)
 | f::r,D=>if (f D).2=0 then Q0 r (f D).1 else f D
def now(D:DV)(s:List UInt8):List UInt8:=(Qh D.L s).now
def nxt(S:SV)(ds:LB):Bool:=ds.length == nn (S.ends.length+1)-nn S.ends.length && ds.all fun d=>d.size == S.k
def YD(p:Nat)(ds:LB):LB:=ds.mapIdx fun i d=>tx (nod (p+i) d.data.toList)
def six(S:SV)(pl jn mk:List UInt8):List (DV->DV×Int) :=
 [fun D=>wrD D nmI (lst S.ends:Int) pl,fun D=>wrD D nmN ((nn S.ends.length*40:Nat):Int) jn,fun D=>YE D nmI,fun D=>YE D nmN,fun D=>wrD D nmM ((S.ends.length*64:Nat):Int) mk,fun D=>YE D nmM]
def addM(S:SV)(item:List UInt8)(ds:LB):MV:=nxM S.k S.ends S.chain (pay item) (YD (nn S.ends.length) ds)
def addA(S:SV)(item:List UInt8)(ds:LB):List (DV->DV×Int):=six S (pay item) (Rc.Qj (YD (nn S.ends.length) ds)) (mrk (addM S item ds))
def refD(S:SV)(item:List UInt8)(ds:LB):Int :=
 if S.lame then 191 else if 1048576<item.length then 100 else if 65536<=S.ends.length then 101 else if nxt S ds=false then 192 else if 268435456<lst S.ends+(item.length+8) then 172 else 0
def Ur(D:DV)(S:SV)(item:List UInt8)(ds:LB):DV×SV×Int :=
 if refD S item ds≠0 then (D,S,refD S item ds) else
 if (Q0 (addA S item ds) D).2=0 then ((Q0 (addA S item ds) D).1,{ S with ends:=S.ends++[(addM S item ds).items],chain:=(addM S item ds).chain },0) else
 ((Q0 (addA S item ds) D).1,{ S with lame:=true },(Q0 (addA S item ds) D).2)
def rdS(D:DV)(s:List UInt8)(off n:Int):List UInt8×Int:=if (rdD D s off n).2=173 then ([],190) else rdD D s off n
def OE(D:DV)(S:SV)(i:Nat):List UInt8×Int:=rdS D nmI (Uz S.ends i:Int) ((S.ends.getD i 0:Int)-(Uz S.ends i:Int))
def J8(D:DV)(S:SV)(i:Nat):List UInt8×Int :=
 if S.ends.length<=i then ([],31) else if (OE D S i).2≠0 then ([],(OE D S i).2) else
 if whl (OE D S i).1 then ((rpay (OE D S i).1).getD [],0) else ([],190)
end St
namespace St
theorem Qs{w:World}{B T s n:Nat}{v:Value}{xs:List Value}(h:w.ownsRow B T s v n xs):∃ao cap,v= .slice ao n cap:=by
 rcases h.2 with ⟨rfl,rfl⟩|⟨g,cap,cur,rfl,_⟩
 ·exact⟨none,0,rfl⟩
 ·exact⟨_,cap,rfl⟩
theorem QK{w w':World}{B T s n:Nat}{v:Value}{xs:List Value}(h:w.ownsRow B T s v n xs)(hk:∀g,v.ownBlock=some g->w'.heap[g]? = w.heap[g]?):w'.ownsRow B T s v n xs:=by
 obtain⟨h1,h2⟩:=h;refine⟨h1,?_⟩
 rcases h2 with h2|⟨g,cap,cur,hv,hg,hh,h3⟩
 ·exact .inl h2
 ·exact .inr ⟨g,cap,cur,hv,hg,(hk g (by rw[hv];rfl)).trans hh,h3⟩
end St
namespace St.Rc
theorem QmJ{w:World}{B g n cap:Nat}{l:LB}(h:Qg w B (.slice (Zp g) n cap) l)(j:Nat)(s:BA):Qg (w.setCell ⟨g,j,none⟩ (.string s)) B (.slice (Zp g) n cap) (l.set j s):=by
 obtain⟨h1,h2⟩:=h;refine⟨by simp,.inr ?_⟩
 rcases h2 with ⟨h2,h3⟩|⟨g',cap',cur,hv,hg,hh,h3,h4,h5,h6⟩
 ·cases h2
 ·obtain⟨e1,e2,e3⟩:=Value.slice.inj hv
  cases e1;refine⟨g,cap,cur.setIfInBounds j (.string s),by rw[e2];simp,hg,Ln w g j cur _ _ hh,by simpa [e3] using h3,by omega,by simpa [e3] using h5,?_⟩
  have h7:(l.set j s).map Value.string=(l.map Value.string).set j (.string s):=by simp
  rw[h7,<-h6,IK,Array.toList_setIfInBounds,List.take_set]
end St.Rc
namespace St
open Rc
def cE(l:List Nat):List Value:=l.map fun(n:Nat)=>Value.int .i64 n
def OwnE(w:World)(B:Nat)(v:Value)(l:List Nat):Prop:=w.ownsRow B 3 1 v l.length (cE l)
theorem Tryz.infoE:(prog.info? 3).map (fun i=>(i.zero,i.size,i.bytes))=some (some (.int .i64 0),1,8):=by kernel_rfl
theorem Qkb(w:World)(B:Nat):OwnE w B (.slice none 0 0) []:=⟨rfl,.inl ⟨rfl,rfl⟩⟩
theorem JT{w:World}{B:Nat}{v:Value}{l:List Nat}(h:OwnE w B v l):∃ao cap,v= .slice ao l.length cap ∧ ∀j,j<l.length -> ∃g,v.ownBlock=some g∧ao=Zp g∧w.cell? ⟨g,j,none⟩=some (.int .i64 ((l.getD j 0:Nat):Int)):=by
 have hh:=h
 rcases h.2 with ⟨rfl,e⟩|⟨g,cap,cur,rfl,hg,hb,_⟩
 ·exact⟨none,0,by rw[e],fun j hj=>by omega⟩
 ·refine⟨_,cap,rfl,fun j hj=>⟨g,rfl,rfl,?_⟩⟩
  rw[World.ownsRow.cellAt hh j (by omega),cE,No,La,Ld hj]
  rfl
theorem JU{w:World}{B:Nat}{v:Value}{l:List Nat}(h:OwnE w B v l){g:Nat}(hg:v.ownBlock=some g):g<w.heap.size:=by
 rcases h.2 with ⟨rfl,e⟩|⟨g',cap,cur,rfl,_,hb,_⟩
 ·cases hg
 ·cases hg;exact(Array.getElem?_eq_some_iff.1 hb).1
structure Sto(w:World)(q p:Nat)(v:Value)(S:SV):Prop where
 blk:w.heap[q]? = some (.cells #[Zv p,.int .i64 S.k,v,.int .u32 S.chain.toNat,.bool S.lame] 121 (0,0))
 own:OwnE w 0 v S.ends
 k1:1<=S.k
 k2:S.k<=32
 few:S.ends.length<=65536
 low:∀e∈S.ends,e<=268435456
def Sk(w:World)(q p:Nat)(T:Nat->Prop)(D:DV)(S:SV):Prop :=
 ∃S0 v,Dsk w p S0 D∧Sto w q p v S ∧ ¬S0 q∧(∀g,v.ownBlock=some g->g≠q ∧ ¬S0 g) ∧ ∀x,T x↔S0 x∨x=q∨v.ownBlock=some x
section
variable {w W:World} {q p:Nat} {v:Value} {T:Nat->Prop} {D D':DV} {S S':SV}
theorem Sto.lt(h:Sto w q p v S):q<w.heap.size:=(Array.getElem?_eq_some_iff.1 h.blk).1
theorem Sto.same(h:Sto w q p v S)(hq:W.heap[q]? = w.heap[q]?)(hv:∀g,v.ownBlock=some g->W.heap[g]? = w.heap[g]?):Sto W q p v S :=
 ⟨hq.trans h.blk,QK h.own hv,h.k1,h.k2,h.few,h.low⟩
theorem Sk.lt(h:Sk w q p T D S){x:Nat}(hx:T x):x<w.heap.size:=by
 obtain⟨S0,v,h1,h2,h3,h4,h5⟩:=h
 rcases(h5 x).1 hx with e|rfl|e
 ·exact h1.lt e
 ·exact h2.lt
 ·exact JU h2.own e
theorem Sk.same(h:Sk w q p T D S)(hb:∀x,T x->W.heap[x]? = w.heap[x]?):Sk W q p T D S:=by
 obtain⟨S0,v,h1,h2,h3,h4,h5⟩:=h;exact⟨S0,v,h1.same (fun x hx=>hb x ((h5 x).2 (.inl hx))),h2.same (hb q ((h5 q).2 (.inr (.inl rfl)))) (fun g hg=>hb g ((h5 g).2 (.inr (.inr hg)))),h3,h4,h5⟩
theorem Sk.next(h:Sk w q p T D S)(hb:Below w.heap.size w W):Sk W q p T D S:=h.same fun x hx=>hb.block x (h.lt hx)
theorem Yu{W:World}{q:Nat}{a b c d e:Value}{T:TypeId}(h:W.heap[q]? = some (.cells #[a,b,c,d,e] T (0,0))):W.cell? ⟨q,0,none⟩=some a∧W.cell? ⟨q,1,none⟩=some b∧W.cell? ⟨q,2,none⟩=some c∧W.cell? ⟨q,3,none⟩=some d∧W.cell? ⟨q,4,none⟩=some e :=
 ⟨by rw[cell_of_row W q 0 _ _ (0,0) h];rfl,by rw[cell_of_row W q 1 _ _ (0,0) h];rfl,by rw[cell_of_row W q 2 _ _ (0,0) h];rfl,by rw[cell_of_row W q 3 _ _ (0,0) h];rfl,by rw[cell_of_row W q 4 _ _ (0,0) h];rfl⟩
theorem Sk.cells(h:Sk w q p T D S):∃ao cap,(w.cell? ⟨q,0,none⟩=some (Zv p)∧w.cell? ⟨q,1,none⟩=some (.int .i64 S.k)∧w.cell? ⟨q,2,none⟩=some (.slice ao S.ends.length cap)∧w.cell? ⟨q,3,none⟩=some (.int .u32 S.chain.toNat)∧w.cell? ⟨q,4,none⟩=some (.bool S.lame)) ∧
  (∀j,j<S.ends.length -> ∃g,ao=Zp g∧w.cell? ⟨g,j,none⟩=some (.int .i64 ((S.ends.getD j 0:Nat):Int))):=by
 obtain⟨S0,v,h1,h2,h3,h4,h5⟩:=h;obtain⟨ao,cap,rfl,hc⟩:=JT h2.own;exact⟨ao,cap,Yu h2.blk,fun j hj=>by obtain⟨g,_,e1,e2⟩:=hc j hj;exact⟨g,e1,e2⟩⟩
theorem Sk.seen(h:Sk w q p T D S):∃ao cap,∀W,Below w.heap.size w W->(W.cell? ⟨q,0,none⟩=some (Zv p)∧W.cell? ⟨q,1,none⟩=some (.int .i64 S.k)∧W.cell? ⟨q,2,none⟩=some (.slice ao S.ends.length cap)∧W.cell? ⟨q,3,none⟩=some (.int .u32 S.chain.toNat)∧W.cell? ⟨q,4,none⟩=some (.bool S.lame)):=by
 obtain⟨S0,v,h1,h2,h3,h4,h5⟩:=h;obtain⟨ao,cap,rfl,hc⟩:=JT h2.own;exact⟨ao,cap,fun W hW=>Yu ((hW.block q h2.lt).trans h2.blk)⟩
theorem Sk.small(h:Sk w q p T D S):1<=S.k∧S.k<=32∧S.ends.length<=65536∧(∀i,S.ends.getD i 0<=268435456)∧(∀i,Uz S.ends i<=268435456)∧lst S.ends<=268435456:=by
 obtain⟨S0,v,h1,h2,h3,h4,h5⟩:=h;have hg:∀i,S.ends.getD i 0<=268435456:=fun i=>by
  rw[La]
  by_cases hi:i<S.ends.length
  ·rw[Ld hi];exact h2.low _ (LN _)
  ·rw[NU (by omega)];simp
 have he:∀i,Uz S.ends i<=268435456:=fun i=>by
  unfold Uz
  split
  ·omega
  ·exact hg _
 exact⟨h2.k1,h2.k2,h2.few,hg,he,by rw[<-Qbj];exact he _⟩
theorem Sk.disk(h:Sk w q p T D S):∃S0,Dsk w p S0 D:=by
 obtain⟨S0,v,h1,_⟩:=h;exact⟨S0,h1⟩
def SkM(w w':World)(q p:Nat)(T:Nat->Prop)(D':DV)(S':SV):Prop := ∃T',Sk w' q p T' D' S'∧(∀x,T' x->T x∨w.heap.size<=x)∧Upo T w w'
theorem SkM.of(h:Sk w q p T D S)(hb:Below w.heap.size w W):SkM w W q p T D S:=⟨T,h.next hb,fun _ hx=> .inl hx,Upo.of hb⟩
theorem SkM.first{w1 w2:World}(hb:Below w.heap.size w w1)(h:SkM w1 w2 q p T D S):SkM w w2 q p T D S:=by
 obtain⟨T',h1,h2,h3⟩:=h;exact⟨T',h1,fun x hx=>(h2 x hx).imp id (fun e=>Lt hb.size e),(Upo.of hb).trans h3 (fun _ _ q=>q)⟩
theorem QkM{S0:Nat->Prop}{v:Value}(h2:Sto w q p v S)(h3:¬S0 q)(h4:∀g,v.ownBlock=some g->g≠q ∧ ¬S0 g)(h5:∀x,T x↔S0 x∨x=q∨v.ownBlock=some x)(hm:Mvd w W p S0 D'):SkM w W q p T D' S:=by
 obtain⟨S1,m1,m2,m3⟩:=hm;refine⟨fun x=>S1 x∨x=q∨v.ownBlock=some x,⟨S1,v,m1,h2.same (m3.block q h2.lt h3) (fun g hg=>m3.block g (JU h2.own hg) (h4 g hg).2),fun hq=> ?_,fun g hg=>⟨(h4 g hg).1,fun e=> ?_⟩,fun _=>Iff.rfl⟩,fun x hx=> ?_,m3.mono (fun x _ hx=>(h5 x).2 (.inl hx))⟩
 ·rcases m2 q hq with e|e
  ·exact h3 e
  ·have:=h2.lt;omega
 ·rcases m2 g e with e|e
  ·exact(h4 g hg).2 e
  ·have:=JU h2.own hg;omega
 ·rcases hx with e|e
  ·exact(m2 x e).imp (fun e=>(h5 x).2 (.inl e)) id
  ·exact .inl ((h5 x).2 (.inr e))
def Rmy(D:DV):Prop:=D.acts+1<=4611686018427387904∧D.L.length<1099511627776∧D.free<=4611686018427387904
theorem Dsk.rmy{S0:Nat->Prop}(h:Dsk w p S0 D)(hr:Rmy D)(s:List UInt8):D.down=false->D.free+(Qh D.L s).now.length<=9223372036854775807:=fun _=>by
 obtain⟨m,R,ka,kb,ko,kc,h1,h2⟩:=h;have:(Qh D.L s).now.length<=268435456:=by
  by_cases hm:s∈QC D.L
  ·exact(h1.fil s hm (by simp)).b1
  ·rw[YB hm];exact Lm _
 have:=hr.2.2;omega
theorem Sk.write(h:Sk w q p T D S)(hr:Rmy D)(nm dt:BA)(hs:nm.size<=maxLen)(off:Int)(ho1 : -9223372036854775808<=off)(ho2:off<=9223372036854775807)(ht:dt.size<=140737488355328) :
  Calls prog 199 #[Zv p,.string nm,.int .i64 off,.string dt] w fun e w'=>e= .returned (.int .i64 (wrD D nm.data.toList off dt.data.toList).2)∧SkM w w' q p T (wrD D nm.data.toList off dt.data.toList).1 S:=by
 obtain⟨S0,v,h1,h2,h3,h4,h5⟩:=h;exact(h1.write nm dt hs off ho1 ho2 ht hr.1 hr.2.1 (h1.rmy hr _)).mono fun e w' z=>⟨z.1,QkM h2 h3 h4 h5 z.2⟩
theorem Sk.sync(h:Sk w q p T D S)(hr:Rmy D)(nm:BA)(hs:nm.size<=maxLen) :
  Calls prog 119 #[Zv p,.string nm] w fun e w'=>e= .returned (.int .i64 (YE D nm.data.toList).2)∧SkM w w' q p T (YE D nm.data.toList).1 S:=by
 obtain⟨S0,v,h1,h2,h3,h4,h5⟩:=h;exact(h1.sync nm hs hr.1 hr.2.1 (h1.rmy hr _)).mono fun e w' z=>⟨z.1,QkM h2 h3 h4 h5 z.2⟩
theorem Sk.read(h:Sk w q p T D S)(s:BA)(hs:s.size<=maxLen)(off y:Int)(ho1 : -9223372036854775808<=off)(ho2:off<=9223372036854775807)(hq1 : -9223372036854775808<=y)(hq2:y<=9223372036854775807) :
  Calls prog 94 #[Zv p,.string s,.int .i64 off,.int .i64 y] w fun e w'=>e= .returned (.tuple #[.string (tx (rdD D s.data.toList off y).1),.int .i64 (rdD D s.data.toList off y).2])∧Below w.heap.size w w':=by
 obtain⟨S0,h1⟩:=h.disk;exact h1.read s hs off y ho1 ho2 hq1 hq2
theorem Sk.size(h:Sk w q p T D S)(s:BA)(hs:s.size<=maxLen):Calls prog 114 #[Zv p,.string s] w fun e w'=>e= .returned (.int .i64 (sizD D s.data.toList:Int))∧w'=w:=by
 obtain⟨S0,h1⟩:=h.disk;exact h1.size s hs
theorem Sk.sz(h:Sk w q p T D S)(s:List UInt8):(Qh D.L s).now.length<=268435456:=by
 obtain⟨S0,h⟩:=h.disk;obtain⟨m,R,ka,kb,ko,kc,h1,h2⟩:=h
 by_cases hm:s∈QC D.L
 ·exact(h1.fil s hm (by simp)).b1
 ·rw[YB hm];exact Lm _
end
end St
namespace St.Pl
theorem Qfh(n k:Nat)(hn:n<2^64):(bits BinOp.and IntKind.u64 ((n:Int)/2^k) 1 == 1)=decide (n/2^k%2=1):=by
 have e:((n:Int)/2^k)=((n/2^k:Nat):Int):=by simp
 rw[e];have hm:n/2^k<18446744073709551616:=Ib (NI _ _) hn
 revert hm
 generalize n/2^k=m;intro hm;have:=bits_and_u64_nat m 1 hm (by decide)
 rw[show(1:Int)=((1:Nat):Int) from rfl,this,IN]
 by_cases h:m%2=1
 ·simp[h]
 ·have:m%2=0:=by omega
  simp[this]
theorem YM(n k:Nat)(w:World)(hn:n<2^64)(hk:k<64) :
  Calls prog 191 #[.int .u64 n,.int .i64 k] w fun e w'=>e= .returned (.bool (decide (n/2^k%2=1)))∧w'=w:=by
 have hk0:(0:Int)<=(k:Int):=Lf _
 go_enter func191,ntmps191;go_wp2
 go_ret
 refine⟨?_,rfl⟩
 rw[<-Qfh n k hn]
 rfl
theorem JE(n:Nat)(w:World)(hn:n<2^64) :
  Calls prog 120 #[.int .u64 n] w fun e w'=>e= .returned (.int .i64 (Qy 64 n:Nat))∧w'=w:=by
 go_enter func120,ntmps120;go_wp2
 go_loopg [3,5] 64 (fun g c i wr=> ∃k m:Nat,k<=64∧g=64-k∧i= .int .i64 k∧c= .int .i64 m∧m<=k∧m+Qy (64-k) (n/2^k)=Qy 64 n∧w=wr)
 case atStart=>go_light;exact⟨0,0,Lm _,rfl,rfl,rfl,Lm _,by simp,rfl⟩
 case round=>
  obtain⟨k,m,hk,rfl,rfl,rfl,hm,hs,rfl⟩:=hrel;have hk0:(0:Int)<=(k:Int):=Lf _;have hm0:(0:Int)<=(m:Int):=Lf _;have hm1:(m:Int)<=64:=by omega
  by_cases hlt:k<64
  ·have hk8:(k:Int)<64:=by omega
   have HS:=Qam k n hlt;have HC:=YM n k w hn hlt
   by_cases hb:n/2^k%2=1
   ·rw[LS hb] at HC
    go_wp2_with (go_at_call 191;refine HC.mono ?_;rintro e w' ⟨rfl,rfl⟩)
    go_roundg (64-(k+1))
    case rel=>go_light;exact⟨k+1,m+1,by omega,rfl,by go_num,by go_num,by omega,by omega,rfl⟩
    case measure=>go_light;omega
   ·rw[LC hb] at HC
    go_wp2_with (go_at_call 191;refine HC.mono ?_;rintro e w' ⟨rfl,rfl⟩)
    go_roundg (64-(k+1))
    case rel=>go_light;exact⟨k+1,m,by omega,rfl,by go_num,rfl,by omega,by omega,rfl⟩
    case measure=>go_light;omega
  ·obtain rfl:k=64:=by omega
   clear hk hlt;go_wp2
   go_ret
   refine⟨?_,rfl⟩
   rw[<-hs]
   rfl
theorem Ym(n:Nat)(w:World)(hn:n<=2^40) :
  Calls prog 242 #[.int .u64 n] w fun e w'=>e= .returned (.int .u64 (N n:Nat))∧w'=w:=by
 have HC:=JE n w (by omega)
 have h1:=JS 64 n;have h2:=Qdu 64 n;have h3:=N_eq n;generalize N n=x at *;generalize Qy 64 n=y at *;obtain⟨d,hd⟩:∃d:Nat,2*n=d:=⟨_,rfl⟩;have e1:IntKind.u64.wrap (2*(n:Int))=(d:Int):=by rw[IntKind.wrap_u64];omega
 have e2:IntKind.u64.wrap (y:Int)=(y:Int):=by rw[IntKind.wrap_u64];omega
 have e3:IntKind.u64.wrap ((d:Int)-(y:Int))=(x:Int):=by rw[IntKind.wrap_u64];omega
 clear hn h1 h2 h3 hd
 go_enter func242,ntmps242
 go_wp2_with (go_at_call 120;refine HC.mono ?_;rintro e w' ⟨rfl,rfl⟩)
 go_ret
 exact⟨rfl,rfl⟩
theorem QhV(n:Nat)(w:World)(hn:n<=2^40) :
  Calls prog 225 #[.int .u64 n] w fun e w'=>e= .returned (.tuple #[.int .u64 (N n:Nat),.bool true])∧w'=w:=by
 have HC:=Ym n w hn;have ht:¬(1099511627776:Int)<(n:Int):=by omega
 generalize N n=x at *;clear hn
 go_enter func225,ntmps225
 go_wp2_with (go_at_call 242;refine HC.mono ?_;rintro e w' ⟨rfl,rfl⟩)
 go_ret2
 exact⟨rfl,rfl⟩
end St.Pl
namespace St.Rc
theorem Qed(W:World)(t:BA)(n:Nat)(hn:t.size=n):∃cap W',(convert 9 83 (.string t)).run prog W= .ok (.slice (Zp W.heap.size) n cap) W'∧n<=cap∧Byt W' W.heap.size t.data.toList∧Below W.heap.size W W'∧W.heap.size<W'.heap.size:=by
 subst hn;refine⟨_,_,run_bytes_of_string (P:=prog) W 9 83 5 t underlying9 underlying83 underlying5,?_,?_,?_,?_⟩
 ·have:=grownCap_ge W t.size 0 5;exact this
 ·exact Qly W.drew t _ _
 ·exact(Qi (Lc _ _) 1:Below W.heap.size W W.drew).alloc (Lb _) _
 ·simp
theorem QnF{B:Nat}{w W:World}(h:Below B w W):Below B w W.drew:=⟨h.os,h.tape,h.output,h.size,h.block⟩
theorem Qe5(bs:BA):∀(n i:Nat) (r:List UInt8),bs.size-i=n->ByteArray.toList.loop bs i r=r.reverse++bs.data.toList.drop i:=by
 intro n
 induction n with
 | zero=>
  intro i r h;rw[ByteArray.toList.loop,Le (by omega)]
  rw[Nc (by simp;exact(by omega:bs.size<=i)),L7]
 | succ n ih=>
  intro i r h;have hi:i<bs.size:=by omega
  rw[ByteArray.toList.loop,Lo hi,ih (i+1) _ (by omega)]
  have hl:i<bs.data.toList.length:=by simp;exact hi
  rw[LV hl,Iw,LP];have:bs.get! i=bs.data.toList[i]:=by
   show bs.data[i]! = _
   have hi2:i<bs.data.size:=hi;rw[getElem!_pos bs.data i hi2];simp
  rw[this];rfl
theorem QcQ(bs:BA):bs.toList=bs.data.toList:=by
 rw[ByteArray.toList,Qe5 bs bs.size 0 [] rfl];rfl
theorem Qn0{x y:BA}(h:x≠y):(x.toList == y.toList)=false:=by
 rw[QcQ,QcQ];simp only[beq_eq_false_iff_ne,ne_eq];intro e;exact h (II (Array.toList_inj.1 e))
theorem Qlq{x y:BA}(h:x=y):(x.toList == y.toList)=true:=by
 rw[h];simp
def rpT(s:List UInt8):BA×Nat×Int:=match rpay s with
 | some x=>(⟨x.toArray⟩,x.length+8,0)
 | none=>(⟨#[]⟩,0,180)
theorem QdH{s:List UInt8}(h:rpay s=none):rpT s=(⟨#[]⟩,0,180):=by rw[rpT,h]
theorem QdI{s x:List UInt8}(h:rpay s=some x):rpT s=(⟨x.toArray⟩,x.length+8,0):=by rw[rpT,h]
theorem OY(w:World)(s:BA)(hs:s.size<=9223372036854775807)(rt:BA)(rn:Nat)(re:Int)(h:rpT s.data.toList=(rt,rn,re)) :
  Calls prog 95 #[.string s] w fun e w'=>e= .returned (.tuple #[.string rt,.int .i64 rn,.int .i64 re])∧Below w.heap.size w w':=by
 by_cases h4:s.size<4
 ·have z1:(s.size:Int)<4:=by omega
  rw[QdH (Le (by rw[Qe];omega))] at h
  obtain⟨rfl,rfl,rfl⟩:(⟨#[]⟩:BA)=rt∧0=rn∧180=re:=by simpa using h
  go_enter func95,ntmps95;go_wp2;exact LA (v := .tuple #[.string ⟨#[]⟩,.int .i64 0,.int .i64 180]) (by simp[results,results95,go_sem]) rfl ⟨rfl,Lc _ _⟩
 have z1:¬(s.size:Int)<4:=by omega
 have z2:(4:Int)<=(s.size:Int):=by omega
 obtain⟨x4,hx4⟩:∃x,s.extract 0 4=x:=⟨_,rfl⟩;have hx4l:x4.data.toList=s.data.toList.take 4:=by rw[<-hx4,Ox]
 have hx4s:x4.size=4:=by rw[<-Qe,hx4l,Lv,Qe];omega
 obtain⟨c4,w1,kb,_,hy4,hb1,_⟩:=Qed w x4 4 hx4s;rw[hx4l] at hy4;obtain⟨n,hn⟩:∃n,num (s.data.toList.take 4)=n:=⟨_,rfl⟩;have hn4:n<4294967296:=by rw[<-hn];exact Qj5 _ 4 (by simp;omega)
 have HN:=U9 w1 w.heap.size 0 4 c4 _ hy4 (by simp;omega) (by decide) n (by rw[Ia,Lu (by simp;omega)];exact hn)
 have z3:(s.size:Int)<=9223372036854775807:=by omega
 have hws:IntKind.u64.wrap (s.size:Int)=(s.size:Int):=by rw[IntKind.wrap_u64];omega
 have hw1:IntKind.u64.wrap (4+(n:Int))=4+(n:Int):=by rw[IntKind.wrap_u64];omega
 have hw2:IntKind.u64.wrap (4+(n:Int)+4)=4+(n:Int)+4:=by rw[IntKind.wrap_u64];omega
 by_cases hbig:n<=1048576∧n+8<=s.size
 ·obtain⟨g1,g2⟩:=hbig;have y1:¬(n:Int) > 1048576:=by omega
  have y2:¬(s.size:Int)<4+(n:Int)+4:=by omega
  have y3:IntKind.i64.wrap (n:Int)=(n:Int):=by rw[LE];omega
  obtain⟨N,hN⟩:∃N,n+8=N:=⟨_,rfl⟩;have y4:(4:Int)+(n:Int)+4=(N:Int):=by omega
  have y5:(0:Int)<=(N:Int):=by omega
  have y6:(N:Int)<=(s.size:Int):=by omega
  have y7:(n:Int)<=1048576:=by omega
  obtain⟨x8,hx8⟩:∃x,s.extract 0 N=x:=⟨_,rfl⟩;have hx8l:x8.data.toList=s.data.toList.take N:=by rw[<-hx8,Ox]
  have hx8s:x8.size=N:=by rw[<-Qe,hx8l,Lv,Qe];omega
  obtain⟨c8,w2,kb2,hc8,hy8,hb2,hlt8⟩:=Qed w1 x8 N hx8s;rw[hx8l] at hy8;obtain⟨o,ho⟩:∃o,(if N-4=4 then 0 else 4)=o:=⟨_,rfl⟩
  have HPP:Hid (Calls prog 160 #[.slice (Zp w1.heap.size) N c8] w2 fun e w'=>e= .returned (.tuple #[.slice (Zp w1.heap.size) 4 4,.slice (some ⟨w1.heap.size,o,none⟩) n n])∧Below w2.heap.size w2 w') :=
   QbO w2 w1.heap.size N c8 (by omega) hc8 (by omega) o ho n (by omega)
  obtain⟨t8,ht8⟩:∃t:BA,(⟨(sld (s.data.toList.take (n+4))).toArray⟩:BA)=t:=⟨_,rfl⟩;have htt:(s.data.toList.take N).take (N-4)=s.data.toList.take (n+4):=by rw[Wz];congr 1;omega
  have HPC:Hid (pay ((s.data.toList.drop 4).take n)=sld (s.data.toList.take (n+4))):=QmL s.data.toList n (by rw[Qe];omega) hn (by rw[Qe];omega)
  obtain⟨v,hv⟩:∃v:BA,(⟨(((sld (s.data.toList.take (n+4))).drop 4).take n).toArray⟩:BA)=v:=⟨_,rfl⟩;have HV:Hid ((⟨((s.data.toList.drop 4).take n).toArray⟩:BA)=v):=by
   show _=_
   rw[<-hv]
   congr 2
   rw[sld,L9 (by simp;omega),LH (by simp;omega),List.drop_take,Wz,Ir (by omega)]
  have HSE:Hid (∀W,Below w2.heap.size w2 W->Calls prog 161 #[.slice (Zp w1.heap.size) N c8] W fun e w'=>e= .returned (.string t8)∧(convert 83 9 (.slice (some ⟨w1.heap.size,o,none⟩) n n)).run prog w'= .ok (.string v) w'∧Below w.heap.size w w'):=fun W hb=>by
   have hy:=hy8.next hb hlt8;refine(Je W w1.heap.size N c8 _ hy (by simp;omega) (by omega) hc8 (by omega) t8 (by rw[htt];exact ht8)).mono ?_
   rintro e w' ⟨rfl,hz,hup⟩;rw[htt] at hz;refine⟨rfl,hz.conv (k:=4) (n:=n) (by rw[JY];simp;omega) o (fun h0=>by rw[<-ho,Le (by omega)]) n v hv,hup.since (Qa hb1 (Qa hb2 hb)) hb1.size⟩
  have HRP:Hid ((⟨(s.data.toList.take N).toArray⟩:BA)=x8):=by show _=_;rw[<-hx8l]
  by_cases heq:t8=x8
  ·have hbq:=Qlq heq;have hre:rpay s.data.toList=some ((s.data.toList.drop 4).take n):=by
    unfold rpay;rw[hn];refine Lo ⟨by rw[Qe];omega,g1,by rw[Qe];exact g2,?_⟩
    rw[HPC.out,hN];have:=LZ (fun z:BA=>z.data.toList) (ht8.trans (heq.trans HRP.out.symm))
    simpa using this
   rw[QdI hre] at h;have hlen:((s.data.toList.drop 4).take n).length=n:=by simp;omega
   rw[hlen,HV.out,hN] at h;obtain⟨rfl,rfl,rfl⟩:v=rt∧N=rn∧0=re:=by simpa using h
   clear hy4 hx4s hx4l h hn hx8l hx8s ho ht8 htt hv heq hre hlen hy8 hN
   go_enter func95,ntmps95
   go_upto_region 9 with (first
    | (go_at_call 159;with_reducible refine HN.mono ?_;rintro e w3 ⟨rfl,rfl⟩)
    | (go_at_call 160;with_reducible refine HPP.out.mono ?_;rintro e w4 ⟨rfl,hb4⟩))
   go_region_with (go_at_call 161;with_reducible refine(HSE.out _ (QnF hb4)).mono ?_;rintro e w5 ⟨rfl,kc,hb5⟩)
   go_wp2;exact LA (v := .tuple #[.string v,.int .i64 N,.int .i64 0]) (by simp[results,results95,go_sem]) rfl ⟨rfl,hb5⟩
  ·have hbq:=Qn0 heq;have hno:rpay s.data.toList=none:=by
    unfold rpay;rw[hn];refine Le fun q=>heq ?_
    have q4:=q.2.2.2;rw[HPC.out,hN] at q4;rw[<-ht8,q4,HRP.out]
   rw[QdH hno] at h;obtain⟨rfl,rfl,rfl⟩:(⟨#[]⟩:BA)=rt∧0=rn∧180=re:=by simpa using h
   clear hy4 hx4s hx4l h hn hx8l hx8s ho ht8 htt hv heq hno hy8 hN
   go_enter func95,ntmps95
   go_upto_region 9 with (first
    | (go_at_call 159;with_reducible refine HN.mono ?_;rintro e w3 ⟨rfl,rfl⟩)
    | (go_at_call 160;with_reducible refine HPP.out.mono ?_;rintro e w4 ⟨rfl,hb4⟩))
   go_region_with (go_at_call 161;with_reducible refine(HSE.out _ (QnF hb4)).mono ?_;rintro e w5 ⟨rfl,kc,hb5⟩)
   go_wp2;exact LA (v := .tuple #[.string ⟨#[]⟩,.int .i64 0,.int .i64 180]) (by simp[results,results95,go_sem]) rfl ⟨rfl,hb5⟩
 ·have hno:rpay s.data.toList=none:=by
   unfold rpay;rw[hn,Qe];exact Le (fun q=>hbig ⟨q.2.1,q.2.2.1⟩)
  rw[QdH hno] at h;obtain⟨rfl,rfl,rfl⟩:(⟨#[]⟩:BA)=rt∧0=rn∧180=re:=by simpa using h
  by_cases hb2:n<=1048576
  ·have g1:¬(n:Int) > 1048576:=by omega
   have g2:(s.size:Int)<4+(n:Int)+4:=by omega
   clear hy4 hx4s hx4l hbig h hn hno
   go_enter func95,ntmps95
   go_wp2_with (go_at_call 159;with_reducible refine HN.mono ?_;rintro e w2 ⟨rfl,rfl⟩)
   exact LA (v := .tuple #[.string ⟨#[]⟩,.int .i64 0,.int .i64 180]) (by simp[results,results95,go_sem]) rfl ⟨rfl,hb1⟩
  ·have g1:(n:Int) > 1048576:=by omega
   clear hy4 hx4s hx4l hbig h hn hno
   go_enter func95,ntmps95
   go_wp2_with (go_at_call 159;with_reducible refine HN.mono ?_;rintro e w2 ⟨rfl,rfl⟩)
   exact LA (v := .tuple #[.string ⟨#[]⟩,.int .i64 0,.int .i64 180]) (by simp[results,results95,go_sem]) rfl ⟨rfl,hb1⟩
end St.Rc
namespace St
open Rc
section
variable {q p:Nat} {T:Nat->Prop} {D:DV} {S:SV}
theorem JP(w:World)(h:Sk w q p T D S):Calls prog 51 #[Zv q] w fun e w'=>e= .returned (.int .u64 S.ends.length)∧w'=w:=by
 obtain⟨ao,cap,⟨c0,c1,c2,c3,c4⟩,_⟩:=h.cells;obtain⟨_,_,hf,_⟩:=h.small;have hw:IntKind.u64.wrap (S.ends.length:Int)=(S.ends.length:Int):=Yz _ (by omega) (by omega)
 generalize S.ends.length=n at *;clear h
 go_enter func51,ntmps51;go_wp2
 go_ret
 exact⟨rfl,rfl⟩
theorem Qco(w:World)(h:Sk w q p T D S)(n:Nat)(hn:n<=S.ends.length):Calls prog 52 #[Zv q,.int .i64 n] w fun e w'=>e= .returned (.int .i64 (Uz S.ends n:Int))∧w'=w:=by
 obtain⟨ao,cap,⟨c0,c1,c2,c3,c4⟩,hc⟩:=h.cells;obtain⟨_,_,hf,_⟩:=h.small;clear h
 cases n with
 | zero=>
  go_enter func52,ntmps52;go_wp2
  go_ret
  exact⟨rfl,rfl⟩
 | succ n=>
  obtain⟨g,rfl,hg⟩:=hc n (by omega)
  have e1:Uz S.ends (n+1)=S.ends.getD n 0:=rfl;rw[e1];have hz:¬((n:Int)+1=0):=by omega
  have hm:IntKind.i64.wrap ((n:Int)+1-1)=(n:Int):=by rw[LE];omega
  generalize S.ends.getD n 0=x at *;generalize S.ends.length=m at *;clear hc e1
  go_enter func52,ntmps52;go_wp2
  go_ret
  exact⟨rfl,rfl⟩
theorem YV(w:World)(n:Nat)(hn:n<=65537):Calls prog 184 #[.int .i64 n] w fun e w'=>e= .returned (.int .u64 (nn n:Int))∧w'=w:=by
 have HC:=Qc (Pl.QhV n w (by omega))
 have hw:IntKind.u64.wrap (n:Int)=(n:Int):=Yz _ (by omega) (by omega)
 go_enter func184,ntmps184
 go_wp2_with (go_at_call 225;refine HC.out.mono ?_;rintro e w1 ⟨rfl,rfl⟩)
 go_ret
 exact⟨rfl,rfl⟩
theorem Qcw(n:Nat):nn n<=2*n:=by unfold nn Pl.N;omega
theorem Y7(w:World)(h:Sk w q p T D S):Calls prog 117 #[Zv q,.string ⟨#[105,116,101,109,115]⟩] w fun e w'=>e= .returned (.int .i64 (lst S.ends:Int))∧w'=w:=by
 obtain⟨ao,cap,⟨c0,c1,c2,c3,c4⟩,hc⟩:=h.cells;have HE:=Qc (Qco w h S.ends.length (Lb _));rw[Qbj] at HE;generalize S.ends.length=n at *;clear h hc
 go_enter func117,ntmps117
 go_wp2_with (go_at_call 52;refine HE.out.mono ?_;rintro e w1 ⟨rfl,rfl⟩)
 go_ret
 exact⟨rfl,rfl⟩
theorem OI(w:World)(h:Sk w q p T D S):Calls prog 117 #[Zv q,.string ⟨#[110,111,100,101,115]⟩] w fun e w'=>e= .returned (.int .i64 ((nn S.ends.length*40:Nat):Int))∧w'=w:=by
 obtain⟨ao,cap,⟨c0,c1,c2,c3,c4⟩,hc⟩:=h.cells;obtain⟨_,_,hf,_⟩:=h.small;have HN:=Qc (YV w S.ends.length (by omega))
 have hb:=Qcw S.ends.length;generalize S.ends.length=n at *;generalize nn n=m at *;have h1:IntKind.i64.wrap (m:Int)=(m:Int):=by rw[LE];omega
 have h2:IntKind.i64.wrap ((m:Int)*40)=((m*40:Nat):Int):=by rw[LE];omega
 clear h hc
 go_enter func117,ntmps117
 go_wp2_with (go_at_call 184;refine HN.out.mono ?_;rintro e w1 ⟨rfl,rfl⟩)
 go_ret
 exact⟨rfl,rfl⟩
theorem OH(w:World)(h:Sk w q p T D S):Calls prog 117 #[Zv q,.string ⟨#[109,97,114,107,115]⟩] w fun e w'=>e= .returned (.int .i64 ((S.ends.length*64:Nat):Int))∧w'=w:=by
 obtain⟨ao,cap,⟨c0,c1,c2,c3,c4⟩,hc⟩:=h.cells;obtain⟨_,_,hf,_⟩:=h.small;generalize S.ends.length=m at *;have h2:IntKind.i64.wrap ((m:Int)*64)=((m*64:Nat):Int):=by rw[LE];omega
 clear h hc
 go_enter func117,ntmps117;go_wp2
 go_ret
 exact⟨rfl,rfl⟩
theorem QeR(D:DV)(s:List UInt8)(off n:Int):(rdD D s off n).2=0∨(rdD D s off n).2=170∨(rdD D s off n).2=173:=by
 unfold rdD
 split
 ·exact .inr (.inl rfl)
 ·split
  ·exact .inr (.inr rfl)
  ·exact .inl rfl
theorem QhJ(w:World)(h:Sk w q p T D S)(s:BA)(hs:s.size<=maxLen)(off y:Int)(ho1 : -9223372036854775808<=off)(ho2:off<=9223372036854775807)(hq1 : -9223372036854775808<=y)(hq2:y<=9223372036854775807)(t:BA)(r:Int)(ht:tx (rdS D s.data.toList off y).1=t)(hr:(rdS D s.data.toList off y).2=r) :
  Calls prog 53 #[Zv q,.string s,.int .i64 off,.int .i64 y] w fun e w'=>e= .returned (.tuple #[.string t,.int .i64 r])∧Below w.heap.size w w':=by
 obtain⟨ao,cap,⟨c0,c1,c2,c3,c4⟩,hc⟩:=h.cells;have HR:=Qc (h.read s hs off y ho1 ho2 hq1 hq2);unfold rdS at ht hr;obtain⟨x,e,hx⟩:∃x e,rdD D s.data.toList off y=(x,e):=⟨_,_,rfl⟩;have he:=QeR D s.data.toList off y;rw[hx] at ht hr HR he;clear h hc hx
 by_cases h3:e=173
 ·subst h3;simp only[if_pos] at ht hr;subst ht hr
  go_enter func53,ntmps53
  go_wp2_with (go_at_call 94;refine HR.out.mono ?_;rintro e w1 ⟨rfl,hb⟩)
  go_ret2
  exact⟨rfl,hb⟩
 ·simp only[if_neg h3] at ht hr;subst ht hr
  go_enter func53,ntmps53
  go_wp2_with (go_at_call 94;refine HR.out.mono ?_;rintro e w1 ⟨rfl,hb⟩)
  go_ret2
  exact⟨rfl,hb⟩
def whT(s:List UInt8):BA:=(rpT s).1
theorem Qit(w:World)(s:BA)(hs:s.size<=9223372036854775807)(b:Bool)(hb:whl s.data.toList=b)(t:BA)(ht:whT s.data.toList=t) :
  Calls prog 54 #[.string s] w fun e w'=>e= .returned (.tuple #[.string t,.bool b])∧Below w.heap.size w w':=by
 have hl:=Qe s;unfold whT at ht;unfold whl at hb
 cases hp:rpay s.data.toList with
 | none=>
  rw[hp] at hb;have e1:=QdH hp;rw[e1] at ht;subst ht hb;have HR:=Qc (OY w s hs _ _ _ e1)
  go_enter func54,ntmps54
  go_wp2_with (go_at_call 95;refine HR.out.mono ?_;rintro e w1 ⟨rfl,hb⟩)
  go_ret2
  exact⟨rfl,hb⟩
 | some x=>
  rw[hp] at hb;have e1:=QdI hp;rw[e1] at ht;subst ht;have HR:=Qc (OY w s hs _ _ _ e1);have e2:(((x.length+8:Nat):Int) == (s.size:Int))=b:=by
   rw[<-hb,hl];exact Bool.eq_iff_iff.2 (by simp;omega)
  generalize x.length+8=m at *;generalize s.size=n at *
  go_enter func54,ntmps54
  go_wp2_with (go_at_call 95;refine HR.out.mono ?_;rintro e w1 ⟨rfl,hb⟩)
  go_ret2
  exact⟨by simp_all,hb⟩
end
section
variable {q p:Nat} {T:Nat->Prop} {D:DV} {S:SV}
theorem QmO(D:DV)(s:List UInt8)(off n:Int):(rdD D s off n).1.length<=(Qh D.L s).now.length:=by
 unfold rdD
 split
 ·exact Lm _
 ·split
  ·exact Lm _
  ·simp only[List.length_take,List.length_drop];omega
theorem QmQ(D:DV)(s:List UInt8)(off n:Int):(rdS D s off n).1.length<=(Qh D.L s).now.length:=by
 unfold rdS
 split
 ·exact Lm _
 ·exact QmO _ _ _ _
theorem QmP(D:DV)(s:List UInt8)(off n:Int):(rdS D s off n).2=0∨(rdS D s off n).2=170∨(rdS D s off n).2=190:=by
 unfold rdS
 rcases QeR D s off n with h|h|h
 ·rw[Le (by omega)];exact .inl h
 ·rw[Le (by omega)];exact .inr (.inl h)
 ·rw[Lo h];exact .inr (.inr rfl)
theorem Qnu{s:List UInt8}(h:whl s=true):whT s=tx ((rpay s).getD []):=by
 unfold whl at h;unfold whT
 cases hp:rpay s with
 | none=>rw[hp] at h;cases h
 | some x=>rw[QdI hp];rfl
theorem QjD(w:World)(h:Sk w q p T D S)(i:Nat)(hi:i<18446744073709551616)(t:BA)(r:Int)(ht:tx (J8 D S i).1=t)(hr:(J8 D S i).2=r) :
  Calls prog 24 #[Zv q,.int .u64 i] w fun e w'=>e= .returned (.tuple #[.string t,.int .i64 r])∧Below w.heap.size w w':=by
 obtain⟨ao,cap,⟨c0,c1,c2,c3,c4⟩,hc⟩:=h.cells;obtain⟨_,_,hf,hg,he,_⟩:=h.small;have HS:=Qc (JP w h);unfold J8 at ht hr
 by_cases hlt:S.ends.length<=i
 ·rw[Lo hlt] at ht hr;subst ht hr;have hd:((S.ends.length:Int)<=(i:Int)):=by omega
  generalize S.ends.length=n at *;clear h hc hg he
  go_enter func24,ntmps24
  go_wp2_with (go_at_call 51;refine HS.out.mono ?_;rintro e w1 ⟨rfl,rfl⟩)
  go_ret2
  exact⟨rfl,Lc _ _⟩
 ·rw[Le hlt] at ht hr;have hd:¬((S.ends.length:Int)<=(i:Int)):=by omega
  have hd2:(i:Int)<(S.ends.length:Int):=by omega
  obtain⟨g,rfl,cg⟩:=hc i (by omega)
  have HE:=Qc (Qco w h i (by omega))
  have hgi:=hg i;have hei:=he i;have HR:Hid (∀t r,tx (OE D S i).1=t->(OE D S i).2=r->Calls prog 53 #[Zv q,.string ⟨#[105,116,101,109,115]⟩,.int .i64 (Uz S.ends i:Int),.int .i64 ((S.ends.getD i 0:Int)-(Uz S.ends i:Int))] w fun e w'=>e= .returned (.tuple #[.string t,.int .i64 r])∧Below w.heap.size w w'):=fun t r h1 h2=>QhJ w h ⟨#[105,116,101,109,115]⟩ (by decide) _ _ (by omega) (by omega) (by omega) (by omega) t r h1 h2
  have hz:(OE D S i).1.length<=268435456:=Lt (QmQ _ _ _ _) (h.sz _);have hee:(OE D S i).2=0∨(OE D S i).2=170∨(OE D S i).2=190:=QmP _ _ _ _;generalize OE D S i=x at *;have hw1:IntKind.i64.wrap (i:Int)=(i:Int):=by rw[LE];omega
  have hw2:IntKind.i64.wrap ((S.ends.getD i 0:Int)-(Uz S.ends i:Int))=(S.ends.getD i 0:Int)-(Uz S.ends i:Int):=by rw[LE];omega
  clear hg he hc h;generalize S.ends.getD i 0=a at *;generalize Uz S.ends i=b at *;generalize S.ends.length=n at *;obtain⟨xl,xe⟩:=x;simp only at ht hr hee hz HR
  by_cases h0:xe=0
  ·subst h0;simp only[ne_eq,not_true_eq_false,if_false] at ht hr;have HR2:=Qc (HR.out _ _ rfl rfl);have HW:Hid (∀W b,whl xl=b->Calls prog 54 #[.string (tx xl)] W fun e w'=>e= .returned (.tuple #[.string (whT xl),.bool b])∧Below W.heap.size W w'):=fun W b hb=>Qit W (tx xl) (by rw[Ji];omega) b hb _ rfl
   clear HR
   by_cases hwh:whl xl=true
   ·simp only[hwh,if_true] at ht hr;subst ht hr;have HW2:=Qc (fun W=>HW.out W _ hwh)
    rw[Qnu hwh] at HW2;clear HW
    go_enter func24,ntmps24
    go_wp2_with (first
     | (go_at_call 51;refine HS.out.mono ?_;rintro e w1 ⟨rfl,rfl⟩)
     | (go_at_call 52;refine HE.out.mono ?_;rintro e w1 ⟨rfl,rfl⟩)
     | (go_at_call 53;refine HR2.out.mono ?_;rintro e w2 ⟨rfl,u2⟩)
     | (go_at_call 54;refine(HW2.out _).mono ?_;rintro e w3 ⟨rfl,u3⟩))
    go_ret2
    exact⟨rfl,Qa u2 u3⟩
   ·rw[Le hwh] at ht hr;subst ht hr;have HW2:=Qc (fun W=>HW.out W _ (Bool.eq_false_iff.2 hwh))
    clear HW
    go_enter func24,ntmps24
    go_wp2_with (first
     | (go_at_call 51;refine HS.out.mono ?_;rintro e w1 ⟨rfl,rfl⟩)
     | (go_at_call 52;refine HE.out.mono ?_;rintro e w1 ⟨rfl,rfl⟩)
     | (go_at_call 53;refine HR2.out.mono ?_;rintro e w2 ⟨rfl,u2⟩)
     | (go_at_call 54;refine(HW2.out _).mono ?_;rintro e w3 ⟨rfl,u3⟩))
    go_ret2
    exact⟨rfl,Qa u2 u3⟩
  ·rw[Lo h0] at ht hr;subst ht hr;have HR2:=Qc (HR.out _ _ rfl rfl);clear HR
   go_enter func24,ntmps24
   go_wp2_with (first
    | (go_at_call 51;refine HS.out.mono ?_;rintro e w1 ⟨rfl,rfl⟩)
    | (go_at_call 52;refine HE.out.mono ?_;rintro e w1 ⟨rfl,rfl⟩)
    | (go_at_call 53;refine HR2.out.mono ?_;rintro e w2 ⟨rfl,u2⟩))
   go_ret2
   exact⟨rfl,u2⟩
end
end St
end Go.Proofs.YtoblgjledefdbabGreatDoor
