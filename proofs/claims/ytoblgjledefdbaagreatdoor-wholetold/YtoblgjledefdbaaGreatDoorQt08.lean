/- Own work. -/
import Derived.Deep.DeepMakePanics
import Derived.Test.YtoblgjledefdbaaGreatDoorQt07
set_option maxRecDepth 100000
set_option maxHeartbeats 1000000
namespace Go.Proofs.YtoblgjledefdbaaGreatDoor
open Go.RowKit
attribute [local go_sem ↓] Go.wp_at_zero Go.wp_at_succ
open Go.Proofs.Tryz
namespace St.Pl
def Qz:Nat->Nat->Nat
 | 0,_=>0
 | k+1,n=>n%2+Qz k (n/2)
theorem Ur(n k:Nat):n/2^(k+1)=n/2^k/2:=by
 rw[LH,L4]
theorem Qec(k n:Nat):Qz k n<=k:=by
 induction k generalizing n with
 | zero=>exact La _
 | succ k ih=>have:=ih (n/2);simp only[Qz];omega
theorem QaX(k n:Nat)(hk:k<64):Qz (64-k) (n/2^k)=n/2^k%2+Qz (64-(k+1)) (n/2^(k+1)):=by
 rw[show 64-k=(64-(k+1))+1 by omega,Qz,Ur]
def N(n:Nat):Nat:=2*n-Qz 64 n
def pw(h:Nat):Nat:=2^h
def at'(h k:Nat):Nat:=2*pw h*(k+1)-2-Qz 64 k
def fr(h k:Nat):Nat:=2*pw h*k-Qz 64 k
theorem QH(h:Nat):pw (h+1)=2*pw h:=by simp[pw,Nat.pow_succ,Nat.mul_comm]
theorem Oh:pw 0=1:=rfl
theorem QC(h:Nat):0<pw h:=LN h
theorem OT(a b:Nat):pw (a+b)=pw a*pw b:=II 2 a b
theorem OE{a b:Nat}(h:a<=b):pw a<=pw b:=Na (by decide) h
theorem Od(j k:Nat):Qz j k<=k:=by
 induction j generalizing k with
 | zero=>exact Ln _
 | succ j ih=>have:=ih (k/2);simp only[Qz];omega
theorem Jc(j k:Nat)(h:k<2^j):Qz (j+1) k=Qz j k:=by
 induction j generalizing k with
 | zero=>simp at h;subst h;rfl
 | succ j ih=>
  rw[Qz,ih (k/2) (by rw[LH] at h;omega)];rfl
theorem Qck(k:Nat)(h:k<2^63):Qz 64 (2*k)=Qz 64 k:=by
 rw[Jc 63 k h,Qz];have e1:2*k%2=0:=by omega
 have e2:2*k/2=k:=by omega
 rw[e1,e2];omega
theorem Qfl(k:Nat)(h:k<2^63):Qz 64 (2*k+1)=Qz 64 k+1:=by
 rw[Jc 63 k h,Qz];have e1:(2*k+1)%2=1:=by omega
 have e2:(2*k+1)/2=k:=by omega
 rw[e1,e2];omega
theorem QgH(h k:Nat)(hb:k*pw h<2^63):Qz 64 (k*pw h)=Qz 64 k:=by
 induction h with
 | zero=>simp[pw]
 | succ h ih=>
  rw[QH] at hb ⊢;have e:k*(2*pw h)=2*(k*pw h):=by rw[NP]
  rw[e] at hb ⊢;rw[Qck _ (by omega),ih (by omega)]
theorem QiU(h k:Nat)(hb:(k+1)*pw h<2^63):Qz 64 ((k+1)*pw h-1)=Qz 64 k+h:=by
 induction h with
 | zero=>simp[pw]
 | succ h ih=>
  rw[QH] at hb ⊢;have e:(k+1)*(2*pw h)=2*((k+1)*pw h):=by rw[NP]
  have hp:0<(k+1)*pw h:=Nat.mul_pos (by omega) (QC h)
  rw[e] at hb ⊢;have e2:2*((k+1)*pw h)-1=2*((k+1)*pw h-1)+1:=by omega
  rw[e2,Qfl _ (by omega),ih (by omega)];omega
theorem QoJ(h k:Nat):at' h k+2+Qz 64 k=2*pw h*(k+1):=by
 have h1:=Od 64 k;have h2:1*(2*(k+1))<=pw h*(2*(k+1)):=LJ _ (QC h);have e:2*pw h*(k+1)=pw h*(2*(k+1)):=by rw[LF 2,LZ]
 simp only[at'];rw[e];omega
theorem Qc2(h k:Nat):fr h k+Qz 64 k=2*pw h*k:=by
 have h1:=Od 64 k;have h2:1*(2*k)<=pw h*(2*k):=LJ _ (QC h);have e:2*pw h*k=pw h*(2*k):=by rw[LF 2,LZ]
 simp only[fr];rw[e];omega
theorem Qqm(h k:Nat):at' h k=fr h k+(2*pw h-2):=by
 have h1:=QoJ h k;have h2:=Qc2 h k;have h3:=QC h;rw[NV,Nd] at h1;omega
theorem N_eq(n:Nat):N n+Qz 64 n=2*n:=by
 have:=Od 64 n;simp only[N];omega
theorem N_at(h k:Nat)(hb:(k+1)*pw h<2^63):N ((k+1)*pw h-1)+h=at' h k:=by
 have h1:=QoJ h k;have h2:=N_eq ((k+1)*pw h-1);have h3:=QiU h k hb;have hp:0<(k+1)*pw h:=Nat.mul_pos (by omega) (QC h)
 have e:2*pw h*(k+1)=2*((k+1)*pw h):=by rw[LZ,LF (pw h)]
 omega
theorem N_fr(h k:Nat)(hb:k*pw h<2^63):N (k*pw h)=fr h k:=by
 have h1:=Qc2 h k;have h2:=N_eq (k*pw h);have h3:=QgH h k hb;have e:2*pw h*k=2*(k*pw h):=by rw[LZ,LF (pw h)]
 omega
theorem Qhq(h k:Nat)(hk:k<2^63):fr h (2*k)=fr (h+1) k:=by
 have h1:=Qc2 (h+1) k;have h2:=Qc2 h (2*k);have h3:=Qck k hk;have e:2*pw (h+1)*k=2*pw h*(2*k):=by rw[QH,LZ 2 (2*pw h) k,LZ 2 (pw h) (2*k),LZ 2 (pw h) k,NP (pw h) 2 k]
 omega
theorem Qkz(h k:Nat)(hk:k<2^63):fr h (2*k+1)=fr (h+1) k+(2*pw h-1):=by
 have h1:=Qhq h k hk;have h2:=Qc2 h (2*k);have h3:=Qc2 h (2*k+1);have h4:=Qck k hk;have h5:=Qfl k hk;have h6:=QC h;rw[NV,Nd] at h3;omega
theorem Qnl{h k:Nat}(hk:k<pw (40-h)):k<2^40 :=
 Lz hk (OE (by omega))
theorem at_next(h k:Nat)(hk:k<2^63)(ho:k%2=1):at' h (k-1)+1=fr h k:=by
 have e:k=2*(k/2)+1:=by omega
 have h1:=Qkz h (k/2) (by omega)
 have h2:=Qhq h (k/2) (by omega)
 have h3:=Qqm h (k-1);have h4:=QC h;rw[<-e] at h1;rw[show 2*(k/2)=k-1 by omega] at h2
 omega
theorem Qfj(t n:Nat)(h:n%pw t=pw t-1):n+1=(n/pw t+1)*pw t:=by
 have h1:=N4 n (pw t);have h2:=QC t;rw[LS,L9,LF (n/pw t)];omega
theorem QcJ(t n:Nat)(h:n%pw t=pw t-1)(ho:n/pw t%2=1):n%pw (t+1)=pw (t+1)-1:=by
 have h2:=QC t;have e:n%pw (t+1)=n%pw t+pw t*(n/pw t%2):=by rw[QH,LF,Ih]
 rw[e,h,ho,QH];omega
theorem Qfk(t n:Nat)(h:n%pw t=pw t-1)(hn:n<2^40):t<=40:=by
 have h1:pw t-1<=n:=by rw[<-h];exact Nat.mod_le _ _
 have h2:=QC t
 by_cases ht:t<=40
 ·exact ht
 ·have:pw 41<=pw t:=OE (by omega)
  have:pw 41=2^41:=rfl;omega
theorem QpH(t n:Nat)(h:n%pw t=pw t-1)(hn:n<2^40):at' t (n/pw t)=N n+t∧n/pw t<pw (40-t)∧t<=40:=by
 have e:=Qfj t n h;have ht:=Qfk t n h hn;have hx:=N_at t (n/pw t) (by rw[<-e];omega)
 rw[<-e,Nm] at hx;refine⟨hx.symm,?_,ht⟩
 rw[Nat.div_lt_iff_lt_mul (QC t),<-OT,show 40-t+t=40 by omega]
 exact hn
theorem new_N(t n:Nat)(h:n%pw t=pw t-1)(ho:¬n/pw t%2=1)(hn:n<2^40):N (n+1)=N n+t+1:=by
 have e:=Qfj t n h;obtain⟨h1,h2,ht⟩:=QpH t n h hn;have hb:=Qnl h2;have h4:=N_fr t (n/pw t+1) (by rw[<-e];omega)
 rw[<-e] at h4;have h5:=at_next t (n/pw t+1) (by omega) (by omega)
 rw[Nm] at h5;omega
end St.Pl
namespace St
open Rc
def nmI:List UInt8:=[105,116,101,109,115]
def nmN:List UInt8:=[110,111,100,101,115]
def nmM:List UInt8:=[109,97,114,107,115]
def nn(n:Nat):Nat:=Pl.N n
def lst(l:List Nat):Nat:=l.getLastD 0
def UX(l:List Nat)(n:Nat):Nat:=if n=0 then 0 else l.getD (n-1) 0
theorem QbY(l:List Nat):UX l l.length=lst l:=by
 unfold UX lst
 rcases IM l with rfl|⟨a,b,rfl⟩
 ·rfl
 ·simp
structure SV where
 k:Nat
 ends:List Nat
 chain:BitVec 32
 lame:Bool
def tx(l:List UInt8):BA:=⟨l.toArray⟩
theorem JA(l:List UInt8):(tx l).data.toList=l:=rfl
theorem YA(l:List UInt8):(tx l).size=l.length:=by show l.toArray.size=_;simp
def Yd(b:List UInt8)(p:Nat):List UInt8:=(b.drop (40*p)).take 40
def rdN(k:Nat)(b:List UInt8)(p:Nat):Nat->Option LB
 | 0=>some []
 | j+1=>match rdN k b p j with
  | none=>none
  | some l=>if 40*(p+j)+40<=b.length∧(rnod k (p+j) (Yd b (p+j))).isSome then some (l++[tx (Yd b (p+j))]) else none
instance decMV:DecidableEq MV:=fun a b=>decidable_of_iff (a.k=b.k∧a.size=b.size∧a.items=b.items∧a.nodes=b.nodes∧a.chain=b.chain) ⟨fun h=>MV.ext' h.1 h.2.1 h.2.2.1 h.2.2.2.1 h.2.2.2.2,fun h=>by subst h;exact⟨rfl,rfl,rfl,rfl,rfl⟩⟩
def nxM(k:Nat)(ends:List Nat)(c:BitVec 32)(pl:List UInt8)(rows:LB):MV :=
 ⟨(k:Int),ends.length+1,lst ends+pl.length,nn (ends.length+1)*40,BitVec.ofNat 32 (chn c pl rows)⟩
def whl(pl:List UInt8):Bool:=match rpay pl with
 | none=>false
 | some x=>x.length+8 == pl.length
def tkN(k:Nat)(a b:List UInt8)(st:List Nat×BitVec 32)(row:List UInt8):Option (List Nat×BitVec 32) :=
 match rmrk row with
 | none=>none
 | some m=>
  if 65536<=st.1.length∨m.items<=lst st.1∨a.length<m.items∨whl ((a.drop (lst st.1)).take (m.items-lst st.1))=false then none else
  match rdN k b (nn st.1.length) (nn (st.1.length+1)-nn st.1.length) with
  | none=>none
  | some rows=>if m=nxM k st.1 st.2 ((a.drop (lst st.1)).take (m.items-lst st.1)) rows then some (st.1++[m.items],m.chain) else none
def UJ(m:List UInt8)(i:Nat):List UInt8:=(m.drop (64*i)).take 64
def tkA(k:Nat)(a b m:List UInt8):Nat->Option (List Nat×BitVec 32)
 | 0=>some ([],0#32)
 | j+1=>match tkA k a b m j with
  | none=>none
  | some st=>tkN k a b st (UJ m j)
def Ot(m:List UInt8):Nat:=if 0<m.length/64∧UJ m (m.length/64-1)=zer 64 then m.length/64-1 else m.length/64
def OF(k:Nat)(a b m:List UInt8):Option (List Nat×BitVec 32):=tkA k a b m (Ot m)
def Qx:List (DV->DV×Int)->DV->DV×Int
 | [],D=>(D,0)
 | f::r,D=>if (f D).2=0 then Qx r (f D).1 else f D
def cutI(s:List UInt8)(n:Nat)(D:DV):DV×Int:=if Jy D s<=n then (D,0) else Jq D s (n:Int)
def stl(ends:List Nat):List (DV->DV×Int) :=
 [cutI nmI (lst ends),cutI nmN (nn ends.length*40),cutI nmM (ends.length*64),fun D=>QP D nmI,fun D=>QP D nmN,fun D=>QP D nmM]
def now(D:DV)(s:List UInt8):List UInt8:=(Qe D.L s).now
def YQ(D:DV)(k:Int):DV×Option SV×Int :=
 if ¬(1<=k∧k<=32) then (D,none,70) else if D.down then (D,none,170) else
 match OF k.toNat (now D nmI) (now D nmN) (now D nmM) with
 | none=>(D,none,190)
 | some st=>if (Qx (stl st.1) D).2=0 then ((Qx (stl st.1) D).1,some ⟨k.toNat,st.1,st.2,false⟩,0) else ((Qx (stl st.1) D).1,none,(Qx (stl st.1) D).2)
def nxt(S:SV)(ds:LB):Bool:=ds.length == nn (S.ends.length+1)-nn S.ends.length && ds.all fun d=>d.size == S.k
def QV(p:Nat)(ds:LB):LB:=ds.mapIdx fun i d=>tx (nod (p+i) d.data.toList)
def six(S:SV)(pl jn mk:List UInt8):List (DV->DV×Int) :=
 [fun D=>wrD D nmI (lst S.ends:Int) pl,fun D=>wrD D nmN ((nn S.ends.length*40:Nat):Int) jn,fun D=>QP D nmI,fun D=>QP D nmN,fun D=>wrD D nmM ((S.ends.length*64:Nat):Int) mk,fun D=>QP D nmM]
def addM(S:SV)(item:List UInt8)(ds:LB):MV:=nxM S.k S.ends S.chain (pay item) (QV (nn S.ends.length) ds)
def addA(S:SV)(item:List UInt8)(ds:LB):List (DV->DV×Int):=six S (pay item) (Rc.Qj (QV (nn S.ends.length) ds)) (mrk (addM S item ds))
def refD(S:SV)(item:List UInt8)(ds:LB):Int :=
 if S.lame then 191 else if 1048576<item.length then 100 else if 65536<=S.ends.length then 101 else if nxt S ds=false then 192 else if 268435456<lst S.ends+(item.length+8) then 172 else 0
def Uy(D:DV)(S:SV)(item:List UInt8)(ds:LB):DV×SV×Int :=
 if refD S item ds≠0 then (D,S,refD S item ds) else
 if (Qx (addA S item ds) D).2=0 then ((Qx (addA S item ds) D).1,{ S with ends:=S.ends++[(addM S item ds).items],chain:=(addM S item ds).chain },0) else
 ((Qx (addA S item ds) D).1,{ S with lame:=true },(Qx (addA S item ds) D).2)
def rdS(D:DV)(s:List UInt8)(off n:Int):List UInt8×Int:=if (rdD D s off n).2=173 then ([],190) else rdD D s off n
def itmR(D:DV)(S:SV)(i:Nat):List UInt8×Int:=rdS D nmI (UX S.ends i:Int) ((S.ends.getD i 0:Int)-(UX S.ends i:Int))
def JK(D:DV)(S:SV)(i:Nat):List UInt8×Int :=
 if S.ends.length<=i then ([],31) else if (itmR D S i).2≠0 then ([],(itmR D S i).2) else
 if whl (itmR D S i).1 then ((rpay (itmR D S i).1).getD [],0) else ([],190)
def nodR(D:DV)(p:Nat):List UInt8×Int:=rdS D nmN ((p*40:Nat):Int) 40
def OQ(D:DV)(S:SV)(p:Nat):List UInt8×Int :=
 if nn S.ends.length<=p then ([],31) else if (nodR D p).2≠0 then ([],(nodR D p).2) else
 match rnod S.k p (nodR D p).1 with
 | none=>([],190)
 | some x=>(x,0)
end St
namespace St.Rc
theorem QnO{w:World}{B g n cap:Nat}{l:LB}(h:Qh w B (.slice (Zp g) n cap) l)(j:Nat)(s:BA):Qh (w.setCell ⟨g,j,none⟩ (.string s)) B (.slice (Zp g) n cap) (l.set j s):=by
 obtain⟨h1,h2⟩:=h;refine⟨by simp,.inr ?_⟩
 rcases h2 with ⟨h2,h3⟩|⟨g',cap',cur,hv,hg,hh,h3,h4,h5,h6⟩
 ·cases h2
 ·obtain⟨e1,e2,e3⟩:=IF hv
  cases e1;refine⟨g,cap,cur.setIfInBounds j (.string s),by rw[e2];simp,hg,Lm w g j cur _ _ hh,by simpa [e3] using h3,by omega,by simpa [e3] using h5,?_⟩
  have h7:(l.set j s).map Value.string=(l.map Value.string).set j (.string s):=by simp
  rw[h7,<-h6,IE,Array.toList_setIfInBounds,List.take_set]
end St.Rc
namespace St
open Rc
def cE(l:List Nat):List Value:=l.map fun(n:Nat)=>Value.int .i64 n
def OwnE(w:World)(B:Nat)(v:Value)(l:List Nat):Prop:=w.ownsRow B 3 1 v l.length (cE l)
variable{B g:Nat}{v:Value}{l:List Nat}
theorem Tryz.infoE:(prog.info? 3).map (fun i=>(i.zero,i.size,i.bytes))=some (some (.int .i64 0),1,8):=by kernel_rfl
theorem Qlf(w:World)(B:Nat):OwnE w B (.slice none 0 0) []:=⟨rfl,.inl ⟨rfl,rfl⟩⟩
theorem Oe{w:World}(h:OwnE w B v l):∃ao cap,v= .slice ao l.length cap ∧ ∀j,j<l.length -> ∃g,v.ownBlock=some g∧ao=Zp g∧w.cell? ⟨g,j,none⟩=some (.int .i64 ((l.getD j 0:Nat):Int)):=by
 have hh:=h
 rcases h.2 with ⟨rfl,e⟩|⟨g,cap,cur,rfl,hg,hb,_⟩
 ·exact⟨none,0,by rw[e],fun j hj=>by omega⟩
 ·refine⟨_,cap,rfl,fun j hj=>⟨g,rfl,rfl,?_⟩⟩
  rw[World.ownsRow.cellAt hh j (by omega),cE,No,Ld,Lk hj]
  rfl
theorem Of{w:World}(h:OwnE w B v l)(hg:v.ownBlock=some g):g<w.heap.size:=by
 rcases h.2 with ⟨rfl,e⟩|⟨g',cap,cur,rfl,_,hb,_⟩
 ·cases hg
 ·cases hg;exact(Array.getElem?_eq_some_iff.1 hb).1
structure Sto(w:World)(q p:Nat)(v:Value)(S:SV):Prop where
 blk:w.heap[q]? = some (.cells #[Pq p,.int .i64 S.k,v,.int .u32 S.chain.toNat,.bool S.lame] 169 (0,0))
 own:OwnE w 0 v S.ends
 k1:1<=S.k
 k2:S.k<=32
 few:S.ends.length<=65536
 low:∀e∈S.ends,e<=268435456
def Sk(w:World)(q p:Nat)(T:Nat->Prop)(D:DV)(S:SV):Prop :=
 ∃S0 v,Dsk w p S0 D∧Sto w q p v S ∧ ¬S0 q∧(∀g,v.ownBlock=some g->g≠q ∧ ¬S0 g) ∧ ∀x,T x↔S0 x∨x=q∨v.ownBlock=some x
section
variable {w W:World} {q p:Nat} {v:Value} {T:Nat->Prop} {D D':DV} {S S':SV}
theorem Sto.lt(h:Sto w q p v S):q<w.heap.size:=(Array.getElem?_eq_some_iff.1 h.blk).1
theorem Sto.same(h:Sto w q p v S)(hq:W.heap[q]? = w.heap[q]?)(hv:∀g,v.ownBlock=some g->W.heap[g]? = w.heap[g]?):Sto W q p v S :=
 ⟨hq.trans h.blk,Qy h.own hv,h.k1,h.k2,h.few,h.low⟩
theorem Sk.lt(h:Sk w q p T D S){x:Nat}(hx:T x):x<w.heap.size:=by
 obtain⟨S0,v,h1,h2,h3,h4,h5⟩:=h
 rcases(h5 x).1 hx with e|rfl|e
 ·exact h1.lt e
 ·exact h2.lt
 ·exact Of h2.own e
theorem Sk.same(h:Sk w q p T D S)(hb:∀x,T x->W.heap[x]? = w.heap[x]?):Sk W q p T D S:=by
 obtain⟨S0,v,h1,h2,h3,h4,h5⟩:=h;exact⟨S0,v,h1.same (fun x hx=>hb x ((h5 x).2 (.inl hx))),h2.same (hb q ((h5 q).2 (.inr (.inl rfl)))) (fun g hg=>hb g ((h5 g).2 (.inr (.inr hg)))),h3,h4,h5⟩
theorem Sk.next(h:Sk w q p T D S)(hb:Bl w W):Sk W q p T D S:=h.same fun x hx=>hb.block x (h.lt hx)
theorem Ys{a b c d e:Value}{T:TypeId}(h:W.heap[q]? = some (.cells #[a,b,c,d,e] T (0,0))):W.cell? ⟨q,0,none⟩=some a∧W.cell? ⟨q,1,none⟩=some b∧W.cell? ⟨q,2,none⟩=some c∧W.cell? ⟨q,3,none⟩=some d∧W.cell? ⟨q,4,none⟩=some e :=
 ⟨by rw[cell_of_row W q 0 _ _ (0,0) h];rfl,by rw[cell_of_row W q 1 _ _ (0,0) h];rfl,by rw[cell_of_row W q 2 _ _ (0,0) h];rfl,by rw[cell_of_row W q 3 _ _ (0,0) h];rfl,by rw[cell_of_row W q 4 _ _ (0,0) h];rfl⟩
theorem Sk.cells(h:Sk w q p T D S):∃ao cap,(w.cell? ⟨q,0,none⟩=some (Pq p)∧w.cell? ⟨q,1,none⟩=some (.int .i64 S.k)∧w.cell? ⟨q,2,none⟩=some (.slice ao S.ends.length cap)∧w.cell? ⟨q,3,none⟩=some (.int .u32 S.chain.toNat)∧w.cell? ⟨q,4,none⟩=some (.bool S.lame)) ∧
  (∀j,j<S.ends.length -> ∃g,ao=Zp g∧w.cell? ⟨g,j,none⟩=some (.int .i64 ((S.ends.getD j 0:Nat):Int))):=by
 obtain⟨S0,v,h1,h2,h3,h4,h5⟩:=h;obtain⟨ao,cap,rfl,hc⟩:=Oe h2.own;exact⟨ao,cap,Ys h2.blk,fun j hj=>by obtain⟨g,_,e1,e2⟩:=hc j hj;exact⟨g,e1,e2⟩⟩
theorem Sk.seen(h:Sk w q p T D S):∃ao cap,∀W,Bl w W->(W.cell? ⟨q,0,none⟩=some (Pq p)∧W.cell? ⟨q,1,none⟩=some (.int .i64 S.k)∧W.cell? ⟨q,2,none⟩=some (.slice ao S.ends.length cap)∧W.cell? ⟨q,3,none⟩=some (.int .u32 S.chain.toNat)∧W.cell? ⟨q,4,none⟩=some (.bool S.lame)):=by
 obtain⟨S0,v,h1,h2,h3,h4,h5⟩:=h;obtain⟨ao,cap,rfl,hc⟩:=Oe h2.own;exact⟨ao,cap,fun W hW=>Ys ((hW.block q h2.lt).trans h2.blk)⟩
theorem Sk.small(h:Sk w q p T D S):1<=S.k∧S.k<=32∧S.ends.length<=65536∧(∀i,S.ends.getD i 0<=268435456)∧(∀i,UX S.ends i<=268435456)∧lst S.ends<=268435456:=by
 obtain⟨S0,v,h1,h2,h3,h4,h5⟩:=h;have hg:∀i,S.ends.getD i 0<=268435456:=fun i=>by
  rw[Ld]
  by_cases hi:i<S.ends.length
  ·rw[Lk hi];exact h2.low _ (L8 _)
  ·rw[Nn (by omega)];simp
 have he:∀i,UX S.ends i<=268435456:=fun i=>by
  unfold UX
  split
  ·omega
  ·exact hg _
 exact⟨h2.k1,h2.k2,h2.few,hg,he,by rw[<-QbY];exact he _⟩
theorem Sk.disk(h:Sk w q p T D S):∃S0,Dsk w p S0 D:=by
 obtain⟨S0,v,h1,_⟩:=h;exact⟨S0,h1⟩
def SkM(w w':World)(q p:Nat)(T:Nat->Prop)(D':DV)(S':SV):Prop := ∃T',Sk w' q p T' D' S'∧(∀x,T' x->T x∨w.heap.size<=x)∧Upo T w w'
variable{w1 w2:World}
theorem SkM.of(h:Sk w q p T D S)(hb:Bl w W):SkM w W q p T D S:=⟨T,h.next hb,fun _ hx=> .inl hx,Upo.of hb⟩
theorem SkM.first(hb:Bl w w1)(h:SkM w1 w2 q p T D S):SkM w w2 q p T D S:=by
 obtain⟨T',h1,h2,h3⟩:=h;exact⟨T',h1,fun x hx=>(h2 x hx).imp id (fun e=>Lr hb.size e),(Upo.of hb).trans h3 (fun _ _ q=>q)⟩
theorem SkM.last(h:SkM w w1 q p T D S)(hb:Bl w1 w2):SkM w w2 q p T D S:=by
 obtain⟨T',h1,h2,h3⟩:=h;exact⟨T',h1.next hb,h2,h3.next hb⟩
theorem Qa9{S0:Nat->Prop}(h2:Sto w q p v S)(h3:¬S0 q)(h4:∀g,v.ownBlock=some g->g≠q ∧ ¬S0 g)(h5:∀x,T x↔S0 x∨x=q∨v.ownBlock=some x)(hm:Mvd w W p S0 D'):SkM w W q p T D' S:=by
 obtain⟨S1,m1,m2,m3⟩:=hm;refine⟨fun x=>S1 x∨x=q∨v.ownBlock=some x,⟨S1,v,m1,h2.same (m3.block q h2.lt h3) (fun g hg=>m3.block g (Of h2.own hg) (h4 g hg).2),fun hq=> ?_,fun g hg=>⟨(h4 g hg).1,fun e=> ?_⟩,fun _=>Iff.rfl⟩,fun x hx=> ?_,m3.mono (fun x _ hx=>(h5 x).2 (.inl hx))⟩
 ·rcases m2 q hq with e|e
  ·exact h3 e
  ·have:=h2.lt;omega
 ·rcases m2 g e with e|e
  ·exact(h4 g hg).2 e
  ·have:=Of h2.own hg;omega
 ·rcases hx with e|e
  ·exact(m2 x e).imp (fun e=>(h5 x).2 (.inl e)) id
  ·exact .inl ((h5 x).2 (.inr e))
def Rmy(D:DV):Prop:=D.acts+1<=4611686018427387904∧D.L.length<1099511627776∧D.free<=4611686018427387904
theorem Dsk.rmy{S0:Nat->Prop}(h:Dsk w p S0 D)(hr:Rmy D)(s:List UInt8):D.down=false->D.free+(Qe D.L s).now.length<=9223372036854775807:=fun _=>by
 obtain⟨m,R,ka,kb,ko,kc,h1,h2⟩:=h;have:(Qe D.L s).now.length<=268435456:=by
  by_cases hm:s∈Qg D.L
  ·exact(h1.fil s hm (by simp)).b1
  ·rw[YG hm];exact Ln _
 have:=hr.2.2;omega
theorem Sk.write(h:Sk w q p T D S)(hr:Rmy D)(nm dt:BA)(hs:nm.size<=maxLen)(off:Int)(ho1 : -9223372036854775808<=off)(ho2:off<=9223372036854775807)(ht:dt.size<=140737488355328) :
  Calls prog 268 #[Pq p,.string nm,.int .i64 off,.string dt] w fun e w'=>e= .returned (.int .i64 (wrD D nm.data.toList off dt.data.toList).2)∧SkM w w' q p T (wrD D nm.data.toList off dt.data.toList).1 S:=by
 obtain⟨S0,v,h1,h2,h3,h4,h5⟩:=h;exact(h1.write nm dt hs off ho1 ho2 ht hr.1 hr.2.1 (h1.rmy hr _)).mono fun e w' z=>⟨z.1,Qa9 h2 h3 h4 h5 z.2⟩
theorem Sk.cut(h:Sk w q p T D S)(hr:Rmy D)(nm:BA)(hs:nm.size<=maxLen)(off:Int)(ho1 : -9223372036854775808<=off)(ho2:off<=9223372036854775807) :
  Calls prog 156 #[Pq p,.string nm,.int .i64 off] w fun e w'=>e= .returned (.int .i64 (Jq D nm.data.toList off).2)∧SkM w w' q p T (Jq D nm.data.toList off).1 S:=by
 obtain⟨S0,v,h1,h2,h3,h4,h5⟩:=h;exact(h1.cut nm hs off ho1 ho2 hr.1 hr.2.1 (h1.rmy hr _)).mono fun e w' z=>⟨z.1,Qa9 h2 h3 h4 h5 z.2⟩
theorem Sk.sync(h:Sk w q p T D S)(hr:Rmy D)(nm:BA)(hs:nm.size<=maxLen) :
  Calls prog 157 #[Pq p,.string nm] w fun e w'=>e= .returned (.int .i64 (QP D nm.data.toList).2)∧SkM w w' q p T (QP D nm.data.toList).1 S:=by
 obtain⟨S0,v,h1,h2,h3,h4,h5⟩:=h;exact(h1.sync nm hs hr.1 hr.2.1 (h1.rmy hr _)).mono fun e w' z=>⟨z.1,Qa9 h2 h3 h4 h5 z.2⟩
theorem Sk.read(h:Sk w q p T D S)(s:BA)(hs:s.size<=maxLen)(off y:Int)(ho1 : -9223372036854775808<=off)(ho2:off<=9223372036854775807)(hq1 : -9223372036854775808<=y)(hq2:y<=9223372036854775807) :
  Zr 152 #[Pq p,.string s,.int .i64 off,.int .i64 y] w (.tuple #[.string (tx (rdD D s.data.toList off y).1),.int .i64 (rdD D s.data.toList off y).2]):=by
 obtain⟨S0,h1⟩:=h.disk;exact h1.read s hs off y ho1 ho2 hq1 hq2
theorem Sk.size(h:Sk w q p T D S)(s:BA)(hs:s.size<=maxLen):Re 151 #[Pq p,.string s] w (.int .i64 (Jy D s.data.toList:Int)):=by
 obtain⟨S0,h1⟩:=h.disk;exact h1.size s hs
theorem Sk.sz(h:Sk w q p T D S)(s:List UInt8):(Qe D.L s).now.length<=268435456:=by
 obtain⟨S0,h⟩:=h.disk;obtain⟨m,R,ka,kb,ko,kc,h1,h2⟩:=h
 by_cases hm:s∈Qg D.L
 ·exact(h1.fil s hm (by simp)).b1
 ·rw[YG hm];exact Ln _
end
end St
namespace St.Pl
theorem Qf9(n k:Nat)(hn:n<2^64):(bits BinOp.and IntKind.u64 ((n:Int)/2^k) 1 == 1)=decide (n/2^k%2=1):=by
 have e:((n:Int)/2^k)=((n/2^k:Nat):Int):=by simp
 rw[e];have hm:n/2^k<18446744073709551616:=Im (N5 _ _) hn
 revert hm
 generalize n/2^k=m;intro hm;have:=bits_and_u64_nat m 1 hm (by decide)
 rw[show(1:Int)=((1:Nat):Int) from rfl,this,I2]
 by_cases h:m%2=1
 ·simp[h]
 ·have:m%2=0:=by omega
  simp[this]
theorem YY(n k:Nat)(w:World)(hn:n<2^64)(hk:k<64) :
  Re 224 #[.int .u64 n,.int .i64 k] w (.bool (decide (n/2^k%2=1))):=by
 have xA:(0:Int)<=(k:Int):=Lh _
 go_enter func224,ntmps224;go_wp2
 go_ret
 refine⟨?_,rfl⟩
 rw[<-Qf9 n k hn]
 rfl
theorem Jb(n:Nat)(w:World)(hn:n<2^64) :
  Re 138 #[.int .u64 n] w (.int .i64 (Qz 64 n:Nat)):=by
 go_enter func138,ntmps138;go_wp2
 go_loopg [3,5] 64 (fun g c i wr=> ∃k m:Nat,k<=64∧g=64-k∧i= .int .i64 k∧c= .int .i64 m∧m<=k∧m+Qz (64-k) (n/2^k)=Qz 64 n∧w=wr)
 case atStart=>go_light;exact⟨0,0,Ln _,rfl,rfl,rfl,Ln _,by simp,rfl⟩
 case round=>
  obtain⟨k,m,hk,rfl,rfl,rfl,hm,hs,rfl⟩:=hrel;have xA:(0:Int)<=(k:Int):=Lh _;have xC:(0:Int)<=(m:Int):=Lh _;have xD:(m:Int)<=64:=by omega
  by_cases hlt:k<64
  ·have xB:(k:Int)<64:=by omega
   have HS:=QaX k n hlt;have HC:=YY n k w hn hlt
   by_cases hb:n/2^k%2=1
   ·rw[LW hb] at HC
    go_wp2_with (go_at_call 224;refine HC.mono ?_;rintro e w' ⟨rfl,rfl⟩)
    go_roundg (64-(k+1))
    case rel=>go_light;exact⟨k+1,m+1,by omega,rfl,by go_num,by go_num,by omega,by omega,rfl⟩
    case measure=>go_light;omega
   ·rw[LA hb] at HC
    go_wp2_with (go_at_call 224;refine HC.mono ?_;rintro e w' ⟨rfl,rfl⟩)
    go_roundg (64-(k+1))
    case rel=>go_light;exact⟨k+1,m,by omega,rfl,by go_num,rfl,by omega,by omega,rfl⟩
    case measure=>go_light;omega
  ·obtain rfl:k=64:=by omega
   clear hk hlt;go_wp2
   go_ret
   refine⟨?_,rfl⟩
   rw[<-hs]
   rfl
theorem Yq(n:Nat)(w:World)(hn:n<=2^40) :
  Re 393 #[.int .u64 n] w (.int .u64 (N n:Nat)):=by
 have HC:=Jb n w (by omega)
 have h1:=Od 64 n;have h2:=Qec 64 n;have h3:=N_eq n;generalize N n=x at *;generalize Qz 64 n=y at *;obtain⟨d,hd⟩:∃d:Nat,2*n=d:=⟨_,rfl⟩;have e1:IntKind.u64.wrap (2*(n:Int))=(d:Int):=by rw[IntKind.wrap_u64];omega
 have e2:IntKind.u64.wrap (y:Int)=(y:Int):=by rw[IntKind.wrap_u64];omega
 have e3:IntKind.u64.wrap ((d:Int)-(y:Int))=(x:Int):=by rw[IntKind.wrap_u64];omega
 clear hn h1 h2 h3 hd
 go_enter func393,ntmps393
 go_wp2_with (go_at_call 138;refine HC.mono ?_;rintro e w' ⟨rfl,rfl⟩)
 go_ret
 exact⟨rfl,rfl⟩
theorem QiR(n:Nat)(w:World)(hn:n<=2^40) :
  Re 328 #[.int .u64 n] w (.tuple #[.int .u64 (N n:Nat),.bool true]):=by
 have HC:=Yq n w hn;have ht:¬(1099511627776:Int)<(n:Int):=by omega
 generalize N n=x at *;clear hn
 go_enter func328,ntmps328
 go_wp2_with (go_at_call 393;refine HC.mono ?_;rintro e w' ⟨rfl,rfl⟩)
 go_ret2
 exact⟨rfl,rfl⟩
end St.Pl
section
open Pl (YY pw)
theorem QkY(n k:Nat):n%2^(k+1)=n%2^k+2^k*(n/2^k%2):=by rw[LH,Ih]
theorem Qni(n:Nat)(w:World)(hn:n<2^64) :
  Calls prog 408 #[.int .u64 n] w fun e w'=> ∃c:Nat,e= .returned (.int .i64 ((c:Int)-1))∧n<2^c∧c<=64∧(0<c->2^(c-1)<=n)∧w=w':=by
 go_enter func408,ntmps408;go_wp2
 go_loopg [3,4,5] 64 (fun g r i4 i wr=> ∃k c:Nat,k<=64∧g=64-k∧i= .int .i64 k∧r= .int .i64 ((c:Int)-1)∧c<=k∧n%2^k<2^c∧(0<c->2^(c-1)<=n%2^k)∧w=wr)
 case atStart=>go_light;exact⟨0,0,Ln _,rfl,rfl,rfl,Ln _,by simp[Nat.mod_one],fun h=>absurd h (Nz 0),rfl⟩
 case round=>
  obtain⟨k,c,hk,rfl,rfl,rfl,hc,hs,xA,rfl⟩:=hrel;have xD:(0:Int)<=(k:Int):=Lh _
  by_cases hlt:k<64
  ·have xE:(k:Int)<64:=by omega
   have HM:=QkY n k;have HC:=YY n k w hn hlt;have xB:n%2^k<2^k:=Ia _ (LN k)
   by_cases hb:n/2^k%2=1
   ·rw[LW hb] at HC;rw[hb,Nd] at HM;have HX:Hid (n%2^(k+1)<2^(k+1)∧2^k<=n%2^(k+1)):=⟨Ia _ (LN _),by omega⟩
    clear hs xA hc HM xB
    go_wp2_with (go_at_call 224;refine HC.mono ?_;rintro e w' ⟨rfl,rfl⟩)
    go_roundg (64-(k+1))
    case rel=>go_light;exact⟨k+1,k+1,by omega,rfl,by go_num,by congr 1;omega,La _,HX.out.1,fun _=>HX.out.2,rfl⟩
    case measure=>go_light;omega
   ·rw[LA hb] at HC;have xC:n/2^k%2=0:=by omega
    rw[xC,Nat.mul_zero,Ik] at HM;have HX:Hid (n%2^(k+1)<2^c∧c<=k+1∧(0<c->2^(c-1)<=n%2^(k+1))):=⟨by rw[HM];exact hs,by omega,by rw[HM];exact xA⟩
    clear hs xA hc HM xB
    go_wp2_with (go_at_call 224;refine HC.mono ?_;rintro e w' ⟨rfl,rfl⟩)
    go_roundg (64-(k+1))
    case rel=>go_light;exact⟨k+1,c,by omega,rfl,by go_num,rfl,HX.out.2.1,HX.out.1,HX.out.2.2,rfl⟩
    case measure=>go_light;omega
  ·obtain rfl:k=64:=by omega
   have HX:Hid (n<2^c∧c<=64∧(0<c->2^(c-1)<=n)):=by
    rw[Nt hn] at hs xA;exact⟨hs,hc,xA⟩
   clear hs xA hc hlt;go_wp2
   go_ret
   exact⟨c,rfl,HX.out.1,HX.out.2.1,HX.out.2.2,rfl⟩
theorem Qpy(n H:Nat)(w:World)(hn:n<2^64)(h1:2^H<=n)(h2:n<2^(H+1)) :
  Re 408 #[.int .u64 n] w (.int .i64 H):=by
 refine(Qni n w hn).mono ?_
 rintro e w' ⟨c,rfl,g1,g2,g3,rfl⟩;have hc:c=H+1:=by
  have a1:H<c:=by
   apply Classical.byContradiction
   intro h;have:=Na (n:=2) (by decide) (show c<=H by omega)
   omega
  have a2:c-1<H+1:=by
   apply Classical.byContradiction
   intro h;have:=Na (n:=2) (by decide) (show H+1<=c-1 by omega)
   have:=g3 (by omega)
   omega
  omega
 subst hc;exact⟨by congr 2;omega,rfl⟩
theorem Qhb(a b:Nat)(w:World)(h:a+b<18446744073709551616) :
  Re 388 #[.int .u64 a,.int .u64 b] w (.tuple #[.int .u64 ((a+b:Nat):Int),.bool true]):=by
 have e1:IntKind.u64.wrap ((a:Int)+(b:Int))=((a+b:Nat):Int):=by rw[IntKind.wrap_u64];omega
 have e2:¬((a+b:Nat):Int)<(a:Int):=by omega
 generalize a+b=c at *
 go_enter func388,ntmps388;go_wp2
 go_ret2
 exact⟨rfl,rfl⟩
theorem Qo2(a b:Nat)(w:World)(ha:a<18446744073709551616)(hb:b<18446744073709551616)(h:¬a+b<18446744073709551616) :
  Re 388 #[.int .u64 a,.int .u64 b] w (.tuple #[.int .u64 0,.bool false]):=by
 obtain⟨c,hc⟩:=Ze (a+b-18446744073709551616);have e1:IntKind.u64.wrap ((a:Int)+(b:Int))=(c:Int):=by rw[IntKind.wrap_u64];omega
 have e2:(c:Int)<(a:Int):=by omega
 clear hc ha hb h
 go_enter func388,ntmps388;go_wp2
 go_ret2
 exact⟨rfl,rfl⟩
end
section
open Cv (cU RdC)
variable{w w1 w2:World}{c d n p x:Nat}{s:BA}{l r:List UInt8}
theorem U9(hr:Rdr w p s 0)(hs:s.size<=9223372036854775807)(h:nmb s.data.toList=none) :
  Calls prog 315 #[Pq p] w fun e w'=>e=pnc∧Ch p w w':=by
 refine(Q9 w p s hr hs).mono ?_
 rintro e w' (⟨n,s',g1,_⟩|⟨_,g2,g3⟩)
 ·rw[h] at g1;cases g1
 ·exact⟨g2,g3⟩
theorem Ja(hr:Rdr w p s 0)(hs:s.size<=9223372036854775807)(h:nmb s.data.toList=some (n,r)) :
  Calls prog 315 #[Pq p] w fun e w'=> ∃s',s'.data.toList=r∧e= .returned (.int .u64 n)∧Rdr w' p s' 0∧Ch p w w'∧s'.size<=s.size:=by
 refine(Q9 w p s hr hs).mono ?_
 rintro e w' (⟨n',s',g1,g2⟩|⟨g1,_⟩)
 ·rw[h] at g1;cases g1;exact⟨s',rfl,g2⟩
 ·rw[h] at g1;cases g1
theorem Ch.trans(h:Ch p w w1)(h2:Ch p w1 w2):Ch p w w2 :=
 ⟨h.below.trans h2.below,fun q hq hne=>(h2.block q (Lz hq h.below.size) hne).trans (h.block q hq hne)⟩
theorem Ch.low(h:Ch p w w1)(hb:Below w.heap.size w1 w2)(hp:p<w.heap.size):Ch p w w2 :=
 ⟨h.below.trans (hb.mono (by omega)),fun q hq hne=>(hb.block q hq).trans (h.block q hq hne)⟩
def pan(e:Ending):Prop := ∃u v,e= .panicked [{ v := .iface u v,recovered:=false }]
theorem Q0:pan pnc:=⟨_,_,rfl⟩
theorem QiT(w:World)(x:Nat):∀(j:Nat) u,(cU [x])[j]? = some u->(w.alloc (.cells #[.int .u64 x] 48)).cell? ((⟨w.heap.size,0,none⟩:Addr).add j)=some u:=fun j u hu=>by
 rw[Addr.add_mid];exact Qv w [.int .u64 x] 48 j u hu
theorem Qd6(h:nmb l=some (n,r)):n<18446744073709551616:=(UC h).2
theorem Qjj{size:Nat}(h:nmb l=some (d,r))(hd:¬x+d<size):YR (c+1) x size l=none:=by
 rw[YR,h];simp only;rw[Le hd]
theorem QlU{size:Nat}(h:nmb l=none):YR (c+1) x size l=none:=by rw[YR,h]
theorem Qjk{size:Nat}(h:nmb l=some (d,r))(hd:x+d<size):YR (c+1) x size l=(YR c (x+d+1) size r).map fun a=>((x+d)::a.1,a.2):=by
 rw[YR,h];simp only;rw[Lf hd]
 cases YR c (x+d+1) size r <;> rfl
structure SetS(w:World)(p g c size:Nat)(l0:List UInt8)(wr:World)(j x:Nat)(acc:List Nat)(s:BA):Prop where
 rd:Rdr wr p s 0
 ch:Ch p w wr
 own:wr.ownsRow g 48 1 (.slice (Zp g) j c) j (cU acc)
 jc:j<=c
 hg:w.heap.size<=g
 xs:x<=size
 go:YR c 0 size l0=(YR (c-j) x size s.data.toList).map fun a=>(acc++a.1,a.2)
 sz:s.size<=9223372036854775807
theorem SetS.read{wr:World}{g size j:Nat}{l0:List UInt8}{acc:List Nat}{s':BA}(h:SetS w p g c size l0 wr j x acc s)(hc:Ch p wr w1)(hp:p<w.heap.size)(hn:nmb s.data.toList=some (d,s'.data.toList))(hd:x+d<size)(hj:j<c) :
  w1.ownsRow g 48 1 (.slice (Zp g) j c) j (cU acc)∧Ch p w w1∧YR c 0 size l0=(YR (c-(j+1)) (x+d+1) size s'.data.toList).map fun a=>((acc++[x+d])++a.1,a.2):=by
 have hg:=h.hg;refine⟨Qr h.own fun b hb _=> ?_,h.ch.trans hc,?_⟩
 ·cases hb;exact hc.block g (h.own.lt g rfl).2 (by omega)
 ·rw[h.go,show c-j=(c-(j+1))+1 by omega,Qjk hn hd]
  cases YR (c-(j+1)) (x+d+1) size s'.data.toList <;> simp
theorem QkI:∃i,prog.info? 48=some i∧i.zero=some (.int .u64 0)∧i.size=1∧i.bytes=8:=by
 obtain⟨i0,h1,h2,h3,h4⟩:=info_parts Cv.Tryz.infoU;exact⟨i0,h1,h2,h3,h4⟩
theorem U6(size:Nat)(l:List UInt8):UQ 2 size l=match nmb l with|none=>none|some (c,r)=>if c<=r.length then (match YR c 0 size r with|none=>none|some (S,r')=>some (0,S,r')) else none:=rfl
theorem szno(h:¬c<=s.data.toList.length):¬(c:Int)<=(s.size:Int):=by rw[Qb] at h;omega
theorem QoY(h:c<=s.data.toList.length):(c:Int)<=(s.size:Int):=by rw[Qb] at h;omega
theorem szw(h:s.size<=281474976710656):IntKind.u64.wrap (s.size:Int)=(s.size:Int):=by rw[IntKind.wrap_u64];omega
def SetQ(w:World)(p size:Nat)(s:BA)(e:Ending)(w':World):Prop :=
 (∃S s' g c,UQ 2 size s.data.toList=some (0,S,s'.data.toList)∧e= .returned (.slice (Zp g) S.length c)∧Cv.Own w' w.heap.size (.slice (Zp g) S.length c) S∧Rdr w' p s' 0∧Ch p w w'∧s'.size<=s.size) ∨
   ((∀o S r,UQ 2 size s.data.toList=some (o,S,r)->2^40<size)∧pan e∧Ch p w w')
theorem Qoc(w:World)(p size:Nat)(s:BA)(hr:Rdr w p s 0)(hs:s.size<=281474976710656)(hsz:size<18446744073709551616) :
  Calls prog 316 #[Pq p,.int .u64 size] w (SetQ w p size s):=by
 have hp:=hr.lt
 cases hn:nmb s.data.toList with
 | none=>
  have HN:=U9 hr (by omega) hn
  have HQ:Hid (∀w',Ch p w w'->SetQ w p size s pnc w'):=fun w' hc=> .inr ⟨fun o S r h=>(by rw[U6,hn] at h;cases h),Q0,hc⟩
  go_enter func316,ntmps316
  go_wp2_with (go_at_call 315;with_reducible refine HN.mono ?_;rintro x w1 ⟨rfl,hc⟩)
  exact⟨rfl,HQ.out _ hc⟩
 | some a=>
  obtain⟨c,r⟩:=a;have HN:=Ja hr (by omega) hn
  have xB:=Qd6 hn
  by_cases hcr:c<=r.length
  ·by_cases hbig:c<=35184372088832
   ·obtain⟨i0,i1,i2,i3,i4⟩:=QkI;have HI:Hid (prog.info? 48=some i0∧i0.zero=some (.int .u64 0)∧i0.size=1∧i0.bytes=8):=⟨i1,i2,i3,i4⟩;have HQ:Hid ((∀w',Ch p w w'->YR c 0 size r=none -> ∀e,pan e->SetQ w p size s e w') ∧ ∀S s' g w',YR c 0 size r=some (S,s'.data.toList)->Cv.Own w' w.heap.size (.slice (Zp g) S.length c) S->Rdr w' p s' 0->Ch p w w'->s'.size<=s.size->SetQ w p size s (.returned (.slice (Zp g) S.length c)) w'):=by
     constructor
     ·intro w' hc hz e he;refine .inr ⟨fun o S r h=> ?_,he,hc⟩
      rw[U6,hn] at h;simp only at h;rw[Lf hcr,hz] at h
      cases h
     ·intro S s' g w' h1 h2 h3 h4 h5;refine .inl ⟨S,s',g,c,?_,rfl,h2,h3,h4,h5⟩
      rw[U6,hn];simp only;rw[Lf hcr,h1]
    have HK:Hid (c<=r.length∧s.size<=281474976710656∧c<=35184372088832∧size<18446744073709551616∧p<w.heap.size):=⟨hcr,hs,hbig,hsz,hp⟩;have xE:(c:Int)<=35184372088832:=by omega
    clear hr hs hn hcr hsz hbig xB i1 i2 i3 i4 hp
    go_enter func316,ntmps316
    go_wp2_with (first
     | (go_at_call 315;(with_reducible refine HN.mono ?_;rintro x w1 ⟨s1,rfl,rfl,h1,h2,h3⟩;have HL:=JN w1 p 0 s1 h1;have hf:=QoY HK.out.1;have xC:=szw (Lr h3 HK.out.2.1)))
     | (go_at_call 387;with_reducible refine HL.mono ?_;rintro x w2 ⟨rfl,rfl⟩)
     | (go_at_call 317;refine(Yx _ _ rfl).mono ?_;rintro x w3 ⟨rfl,rfl⟩)
     | (at_make;refine wpList_make_own _ rfl _ _ _ rfl w3.heap.size 48 i0 (.int .u64 0) 1 underlying66 HI.out.1 HI.out.2.1 HI.out.2.2.1 .i64 .u64 _ c rfl rfl rfl ?c1 ?c2 (La _) ?_))
    case c1=>rw[HI.out.2.2.2];have:=HK.out;omega
    case c2=>have:=HK.out;unfold maxLen;omega
    intro w4 o4 g4;obtain⟨g,hg⟩:=Ze w3.heap.size;rw[hg] at o4;have HS:Hid (SetS w p g c size s1.data.toList w4 0 0 [] s1):=by
     obtain⟨k1,k2,k3,k4,k5⟩:=HK.out;have hb:Bl w3 w4:=(Lb _ _).grown g4 (La _) (fun k hk=>by cases hk)
     have hz:=h2.below.size;exact⟨h1.next hb h1.lt,h2.low (hb.mono hz) k5,o4,Ln _,by omega,Ln _,by rw[Wl];cases YR c 0 size s1.data.toList <;> rfl,by omega⟩
    have HZ:Hid (s1.size<=s.size):=h3;rw[hg];clear h1 h2 h3 hf xC o4 g4 HN HL hg;go_wp2
    go_loopg [6,7,8,9,21] c (fun m l x i8 o9 ix wr=> ∃(j y:Nat) (acc:List Nat) (t:BA),m=c-j∧ix= .int .u64 j∧x= .int .u64 y∧l= .slice (Zp g) j c∧SetS w p g c size s1.data.toList wr j y acc t∧t.size<=s.size)
    case atStart=>go_light;exact⟨0,0,[],s1,rfl,rfl,rfl,rfl,HS.out,HZ.out⟩
    case round=>
     obtain⟨j,y,acc,t,rfl,rfl,rfl,rfl,hS,ht⟩:=hrel;obtain⟨k1,k2,k3,k4,k5⟩:=HK.out;have HT:Hid (SetS w p g c size s1.data.toList wr j y acc t∧t.size<=s.size):=⟨hS,ht⟩;have xI:(0:Int)<=(j:Int):=Lh _
     by_cases hlt:j<c
     ·have xD:(j:Int)<(c:Int):=by omega
      cases hn:nmb t.data.toList with
      | none=>
       have HN:=U9 hS.rd hS.sz hn;have HE:Hid (∀w',Ch p wr w'->SetQ w p size s pnc w'):=fun w' hc=>HQ.out.1 w' (hS.ch.trans hc) (by rw[hS.go,show c-j=(c-(j+1))+1 by omega,QlU hn];rfl) _ Q0
       clear hS ht k1 k2 k3 k4 k5 hn
       go_wp2_with (go_at_call 315;with_reducible refine HN.mono ?_;rintro x w1 ⟨rfl,hc⟩)
       exact⟨rfl,HE.out _ hc⟩
      | some a=>
       obtain⟨d,r⟩:=a;have HN:=Ja hS.rd hS.sz hn;have xA:=Qd6 hn;have hy:=hS.xs
       by_cases hd:y+d<size
       ·have HA:=fun W=>Qhb y d W (by omega)
        have xG:((y+d:Nat):Int)<(size:Int):=by omega
        have HO:Hid (∀w1 s2,Rdr w1 p s2 0->Ch p wr w1->s2.data.toList=r->w1.ownsRow g 48 1 (.slice (Zp g) j c) j (cU acc)∧Ch p w w1∧YR c 0 size s1.data.toList=(YR (c-(j+1)) (y+d+1) size s2.data.toList).map fun a=>((acc++[y+d])++a.1,a.2)):=fun w1 s2 hr1 hc1 he=>by
         subst he;exact hS.read hc1 k5 hn hd hlt
        have HX:Hid (y+d+1<=size∧y+d<18446744073709551615∧j+1<=c∧t.size<=s.size∧t.size<=9223372036854775807∧w.heap.size<=g∧p<w.heap.size):=⟨by omega,by omega,hlt,ht,hS.sz,hS.hg,k5⟩
        have e1:IntKind.u64.wrap (((y+d:Nat):Int)+1)=((y+d+1:Nat):Int):=by rw[IntKind.wrap_u64];omega
        have e2:IntKind.u64.wrap ((j:Int)+1)=((j+1:Nat):Int):=by rw[IntKind.wrap_u64];omega
        generalize y+d=z at *;clear hS ht k1 k2 k3 k4 k5 hn xA hy hd HS HZ HT
        go_wp2_with (first
         | (go_at_call 315;with_reducible refine HN.mono ?_;rintro x w1 ⟨s2,xH,rfl,q1,q2,q3⟩;replace HO:=QU (HO.out _ _ q1 q2 xH))
         | (go_at_call 388;with_reducible refine(HA _).mono ?_;rintro x w2 ⟨rfl,rfl⟩)
         | (go_at_call 317;refine(Yx _ _ rfl).mono ?_;rintro x w3 ⟨rfl,rfl⟩)
         | (at_builtin;refine wpList_append_fits _ rfl _ _ _ rfl g 48 i0 1 underlying66 HI.out.1 HI.out.2.2.1 g j c (cU acc) rfl (HO.out.1.alloc _) ⟨w3.heap.size,0,none⟩ 1 1 (cU [z]) rfl rfl (QiT w3 z) (Cv.Qo9 [z]) HX.out.2.2.1 ?_;intro w4 o4 g4))
        go_roundg (c-(j+1))
        case rel=>
         go_light;obtain⟨x1,x2,x3,x4,x5,x6,x7⟩:=HX.out;obtain⟨y1,y2,y3⟩:=HO.out;have hlt:=y1.lt g rfl;have hb:Below w.heap.size w3 w4:=(((Lb _ w3).alloc y2.below.size _)).grown g4 (by simp;have:=y2.below.size;omega) (fun k hk=>by cases hk;omega)
         have xF:Below (p+1) w3 w4:=hb.mono (by omega)
         refine⟨j+1,z+1,acc++[z],s2,rfl,by first|rfl|(simp;done)|(congr 1),by first|rfl|(congr 1),rfl,⟨q1.next xF (by omega),y2.low hb x7,?_,x3,x6,x1,y3,by omega⟩,by omega⟩
         rw[Cv.cU,LQ];exact o4
        case measure=>go_light;have:=HX.out.2.2.1;omega
       ·have HE:Hid (∀w',Ch p wr w'->SetQ w p size s pnc w'):=fun w' hc=>HQ.out.1 w' (hS.ch.trans hc) (by rw[hS.go,show c-j=(c-(j+1))+1 by omega,Qjj hn hd];rfl) _ Q0
        by_cases ha:y+d<18446744073709551616
        ·have HA:=fun W=>Qhb y d W ha
         have xG:¬((y+d:Nat):Int)<(size:Int):=by omega
         generalize y+d=z at *;clear hS ht k1 k2 k3 k4 k5 hn xA hy hd ha HS HZ
         go_wp2_with (first
          | (go_at_call 315;with_reducible refine HN.mono ?_;rintro x w1 ⟨s2,rfl,rfl,q1,q2,q3⟩)
          | (go_at_call 388;with_reducible refine(HA _).mono ?_;rintro x w2 ⟨rfl,rfl⟩)
          | (go_at_call 317;refine(Y9 _ _ (by first|rfl|exact LA (by omega))).mono ?_;rintro x w3 ⟨rfl,rfl⟩))
         exact⟨rfl,HE.out _ q2⟩
        ·have HA:=fun W=>Qo2 y d W (by omega) xA ha
         clear hS ht k1 k2 k3 k4 k5 hn xA hy hd ha HS HZ
         go_wp2_with (first
          | (go_at_call 315;with_reducible refine HN.mono ?_;rintro x w1 ⟨s2,rfl,rfl,q1,q2,q3⟩)
          | (go_at_call 388;with_reducible refine(HA _).mono ?_;rintro x w2 ⟨rfl,rfl⟩)
          | (go_at_call 317;refine(Y9 _ _ rfl).mono ?_;rintro x w3 ⟨rfl,rfl⟩))
         exact⟨rfl,HE.out _ q2⟩
     ·obtain rfl:j=c:=by have:=hS.jc;omega
      have xD:¬(j:Int)<(j:Int):=by omega
      clear hS ht k1 k2 k3 k4 k5 hlt;go_wp2
      go_ret
      obtain⟨hS,ht⟩:=HT.out;have hl:acc.length=j:=by have:=hS.own.1;simpa [cU] using this
      have e:=hS.go;rw[NL,YR] at e;simp only[Option.map_some,List.append_nil] at e;have:=HQ.out.2 acc t g wr e (by rw[hl];have o:=hS.own.mono (base':=w.heap.size) hS.hg;rw[Cv.Own,hl];exact o) hS.rd hS.ch ht
      rw[hl] at this;exact this
   ·obtain⟨i0,i1,i2,i3,i4⟩:=QkI;have xJ:∀W:World,(Instr.makeSlice 66 (.int .i64 0) (.int .u64 c)).run prog W= .halt (.panic (capPanic prog)) W:=fun W=>run_make_refused W 66 48 i0 underlying66 i1 .i64 .u64 c (by omega) (by have:=(UC hn).1;have h3:=Lv List.length this;rw[Qb,Lc] at h3;omega) (.inr (by rw[i4];omega))
    have HQ:Hid (∀w',Ch p w w' -> ∀e,pan e->SetQ w p size s e w'):=fun w' hc e he=> .inr ⟨fun o S r' h=>by
     rw[U6,hn] at h;simp only at h;rw[Lf hcr] at h
     cases hz:YR c 0 size r with
     | none=>rw[hz] at h;cases h
     | some a=>
      obtain⟨S',r2⟩:=a;obtain⟨z1,z2,z3⟩:=Qa5 _ _ _ _ _ (Ln _) hz;have:=UV z3;omega,he,hc⟩
    have HK:Hid (c<=r.length∧s.size<=281474976710656):=⟨hcr,hs⟩;clear hr hs hn hcr hsz hbig xB i1 i2 i3 i4 hp
    go_enter func316,ntmps316
    go_wp2_with (first
     | (go_at_call 315;(with_reducible refine HN.mono ?_;rintro x w1 ⟨s1,rfl,rfl,h1,h2,h3⟩;have HL:=JN w1 p 0 s1 h1;have hf:=QoY HK.out.1;have xC:=szw (Lr h3 HK.out.2)))
     | (go_at_call 387;with_reducible refine HL.mono ?_;rintro x w2 ⟨rfl,rfl⟩)
     | (go_at_call 317;refine(Yx _ _ rfl).mono ?_;rintro x w3 ⟨rfl,rfl⟩))
    exact⟨rfl,HQ.out _ h2 _ ⟨_,_,rfl⟩⟩
  ·have HQ:Hid (∀w',Ch p w w'->SetQ w p size s pnc w'):=fun w' hc=> .inr ⟨fun o S r h=>(by rw[U6,hn] at h;simp only at h;rw[Le hcr] at h;cases h),Q0,hc⟩
   have HK:Hid (¬c<=r.length∧s.size<=281474976710656):=⟨hcr,hs⟩;clear hr hs hn hcr hsz
   go_enter func316,ntmps316
   go_wp2_with (first
    | (go_at_call 315;go_loud (with_reducible refine HN.mono ?_;rintro x w1 ⟨s1,rfl,rfl,h1,h2,h3⟩;have HL:=JN w1 p 0 s1 h1;have hf:=szno HK.out.1;have xC:=szw (Lr h3 HK.out.2)))
    | (go_at_call 387;with_reducible refine HL.mono ?_;rintro x w2 ⟨rfl,rfl⟩)
    | (go_at_call 317;refine(Y9 _ _ (LA (by omega))).mono ?_;rintro x w3 ⟨rfl,rfl⟩))
   exact⟨rfl,HQ.out _ h2⟩
end
theorem QbK{a b:BA}(h:a.data.toList=b.data.toList):a=b:=by
 obtain⟨⟨l⟩⟩:=a;obtain⟨⟨m⟩⟩:=b;simp only at h;rw[h]
theorem Qg0(w:World)(x:BA):∀(j:Nat) u,([x].map Value.string)[j]? = some u->(w.alloc (.cells #[.string x] 9)).cell? ((⟨w.heap.size,0,none⟩:Addr).add j)=some u:=fun j u hu=>by
 rw[Addr.add_mid];exact Qv w [.string x] 9 j u hu
structure DigS(w:World)(p g c k:Nat)(l0:List UInt8)(wr:World)(j:Nat)(acc:LB)(s:BA):Prop where
 rd:Rdr wr p s 0
 ch:Ch p w wr
 own:wr.ownsRow g 9 1 (.slice (Zp g) j c) j (acc.map Value.string)
 jc:j<=c
 hg:w.heap.size<=g
 go:Yr c k l0=acc++Yr (c-j) k s.data.toList
 sz:(c-j)*k=s.size
theorem Qiy{c j k:Nat}(hj:j<c){s:BA}{l0:List UInt8}{acc:LB}(h1:Yr c k l0=acc++Yr (c-j) k s.data.toList)(h2:(c-j)*k=s.size) :
  k<=s.size∧Yr c k l0=(acc++[s.extract 0 k])++Yr (c-(j+1)) k (s.extract k s.size).data.toList∧(c-(j+1))*k=(s.extract k s.size).size:=by
 obtain⟨m,hm⟩:=Ze (c-(j+1));have e:c-j=m+1:=by omega
 rw[e,LS,L9] at h2;have h3:=Lv List.length (UZ s k);rw[Qb,Ni,Qb] at h3;refine⟨by omega,?_,by rw[hm];omega⟩
 rw[h1,e,hm,Yr,UZ,Lw,List.singleton_append]
 congr 2
 apply QbK
 rw[Qaa]
theorem OK(w:World)(p c k:Nat)(s:BA)(hr:Rdr w p s 0)(hs:s.size<=281474976710656)(hc:c<=1099511627776)(hk:k<=32)(h:¬c*k=s.data.toList.length) :
  Calls prog 318 #[Pq p,.int .u64 c,.int .i64 k] w fun e w'=>e=pnc∧w'=w:=by
 have HL:=JN w p 0 s hr;rw[Qb] at h;have hm:c*k<=1099511627776*32:=Wq hc hk;have e1:IntKind.u64.wrap (k:Int)=(k:Int):=by rw[IntKind.wrap_u64];omega
 have e2:IntKind.u64.wrap ((c:Int)*(k:Int))=((c*k:Nat):Int):=by rw[IntKind.wrap_u64,<-Wn];omega
 have e3:=szw hs;have e4:(((c*k:Nat):Int) == (s.size:Int))=false:=beq_false_of_ne (by omega)
 generalize c*k=q at *;clear hr hs hc hk h hm
 go_enter func318,ntmps318
 go_wp2_with (first
  | (go_at_call 387;with_reducible refine HL.mono ?_;rintro x w2 ⟨rfl,rfl⟩)
  | (go_at_call 317;refine(Y9 _ _ (by first|rfl|exact e4|exact LA (by omega))).mono ?_;rintro x w3 ⟨rfl,rfl⟩))
 exact⟨rfl,rfl,rfl⟩
theorem OL(w:World)(p c k:Nat)(s:BA)(hr:Rdr w p s 0)(hs:s.size<=281474976710656)(hc:c<=1099511627776)(hk:k<=32)(h:c*k=s.data.toList.length) :
  Calls prog 318 #[Pq p,.int .u64 c,.int .i64 k] w fun e w'=> ∃g,e= .returned (.slice (Zp g) c c)∧Qh w' w.heap.size (.slice (Zp g) c c) (Yr c k s.data.toList)∧Ch p w w' ∧ ∃t,Rdr w' p t 0:=by
 have HL:=JN w p 0 s hr;rw[Qb] at h;have hm:c*k<=1099511627776*32:=Wq hc hk;obtain⟨i0,i1,i2,i3,i4⟩:=info_parts Tryz.infoS;have HI:Hid (prog.info? 9=some i0∧i0.zero=some (.string ByteArray.empty)∧i0.size=1∧i0.bytes=16):=⟨i1,i2,i3,i4⟩;have e1:IntKind.u64.wrap (k:Int)=(k:Int):=by rw[IntKind.wrap_u64];omega
 have e2:IntKind.u64.wrap ((c:Int)*(k:Int))=(s.size:Int):=by rw[IntKind.wrap_u64,<-Wn];omega
 have e3:=szw hs;have HK:Hid (Rdr w p s 0∧s.size<=281474976710656∧c<=1099511627776∧k<=32∧c*k=s.size∧p<w.heap.size):=⟨hr,hs,hc,hk,h,hr.lt⟩;have xD:(c:Int)<=1099511627776:=by omega
 clear hr hs hc hk h hm i1 i2 i3 i4
 go_enter func318,ntmps318
 go_wp2_with (first
  | (go_at_call 387;with_reducible refine HL.mono ?_;rintro x w2 ⟨rfl,rfl⟩)
  | (go_at_call 317;refine(Yx _ _ rfl).mono ?_;rintro x w3 ⟨rfl,rfl⟩)
  | (at_make;refine wpList_make_own _ rfl _ _ _ rfl w3.heap.size 9 i0 (.string ByteArray.empty) 1 underlying22 HI.out.1 HI.out.2.1 HI.out.2.2.1 .i64 .u64 _ c rfl rfl rfl ?c1 ?c2 (La _) ?_))
 case c1=>rw[HI.out.2.2.2];have:=HK.out;omega
 case c2=>have:=HK.out;unfold maxLen;omega
 intro w4 o4 g4;obtain⟨g,hg⟩:=Ze w3.heap.size;rw[hg] at o4;have HS:Hid (DigS w3 p g c k s.data.toList w4 0 [] s):=by
  obtain⟨k1,k2,k3,k4,k5,k6⟩:=HK.out;have hb:Bl w3 w4:=(Lb _ _).grown g4 (La _) (fun k hk=>by cases hk)
  exact⟨k1.next hb k6,(Ch.refl p w3).low hb k6,o4,Ln _,by omega,by simp,by simpa using k5⟩
 rw[hg];clear o4 g4 HL hg e1 e2 e3;go_wp2
 go_loopg [7,8,9,22] c (fun m l d8 e9 ix wr=> ∃(j:Nat) (acc:LB) (t:BA),m=c-j∧ix= .int .u64 j∧l= .slice (Zp g) j c∧DigS w3 p g c k s.data.toList wr j acc t)
 case atStart=>go_light;exact⟨0,[],s,rfl,rfl,rfl,HS.out⟩
 case round=>
  obtain⟨j,acc,t,rfl,rfl,rfl,hS⟩:=hrel;obtain⟨k1,k2,k3,k4,k5,k6⟩:=HK.out;have HT:Hid (DigS w3 p g c k s.data.toList wr j acc t):=hS;have xE:(0:Int)<=(j:Int):=Lh _
  by_cases hlt:j<c
  ·have xA:(j:Int)<(c:Int):=by omega
   obtain⟨n1,n2,n3⟩:=Qiy hlt hS.go hS.sz;have HR:=UH wr p 0 t k hS.rd;have xB:tkC t 0 (k:Int)=(t.extract 0 k,0,t.extract k t.size):=by rw[tkC,Le (by simp),Le (by omega)];rfl
   rw[xB] at HR;have e2:IntKind.u64.wrap ((j:Int)+1)=((j+1:Nat):Int):=by rw[IntKind.wrap_u64];omega
   have HX:Hid (j+1<=c∧w3.heap.size<=g∧p<w3.heap.size):=⟨hlt,hS.hg,k6⟩;generalize t.extract 0 k=d at *;generalize t.extract k t.size=t2 at *;have HN:Hid (Yr c k s.data.toList=(acc++[d])++Yr (c-(j+1)) k t2.data.toList∧(c-(j+1))*k=t2.size):=⟨n2,n3⟩;have HO:Hid (∀w1,Ch p wr w1->w1.ownsRow g 9 1 (.slice (Zp g) j c) j (acc.map Value.string)∧Ch p w3 w1):=fun w1 hc1=>by
    refine⟨Qr hS.own fun b hb _=> ?_,hS.ch.trans hc1⟩
    cases hb;exact hc1.block g (hS.own.lt g rfl).2 (by have:=hS.hg;omega)
   clear hS k1 k2 k3 k4 k5 k6 n1 n2 n3 xB HS HT
   go_wp2_with (first
    | (go_at_call 385;with_reducible refine HR.mono ?_;rintro x w1 ⟨rfl,q1,q2⟩;replace HO:=QU (HO.out _ q2))
    | (go_at_call 317;refine(Yx _ _ rfl).mono ?_;rintro x w5 ⟨rfl,rfl⟩)
    | (at_builtin;refine wpList_append_fits _ rfl _ _ _ rfl g 9 i0 1 underlying22 HI.out.1 HI.out.2.2.1 g j c (acc.map Value.string) rfl (HO.out.1.alloc _) ⟨w5.heap.size,0,none⟩ 1 1 ([d].map Value.string) rfl rfl (Qg0 w5 d) (by intro u hu;obtain⟨y,_,rfl⟩:=List.mem_map.1 hu;rfl) HX.out.1 ?_;intro w4 o4 g4))
   go_roundg (c-(j+1))
   case rel=>
    go_light;obtain⟨x3,x6,x7⟩:=HX.out;obtain⟨y1,y2⟩:=HO.out;have hlt:=y1.lt g rfl;have hb:Below w3.heap.size w5 w4:=(((Lb _ w5).alloc y2.below.size _)).grown g4 (by simp;have:=y2.below.size;omega) (fun k hk=>by cases hk;omega)
    have xC:Below (p+1) w5 w4:=hb.mono (by omega)
    refine⟨j+1,acc++[d],t2,rfl,by first|rfl|(congr 1),rfl,⟨q1.next xC (by omega),y2.low hb x7,?_,x3,x6,HN.out.1,HN.out.2⟩⟩
    rw[LQ];exact o4
   case measure=>go_light;have:=HX.out.1;omega
  ·obtain rfl:j=c:=by have:=hS.jc;omega
   have xA:¬(j:Int)<(j:Int):=by omega
   clear hS k1 k2 k3 k4 k5 k6 hlt;go_wp2
   go_ret
   have hS:=HT.out;have hl:acc.length=j:=by have:=hS.own.1;simpa using this
   have e:=hS.go;rw[NL,Yr,LU] at e;refine⟨g,rfl,?_,hS.ch,_,hS.rd⟩
   rw[e,Qh,hl];exact hS.own.mono hS.hg
namespace St.Rc
variable{B p:Nat}{s x:List UInt8}{k:Int}
theorem O4(W:World)(t:BA)(n:Nat)(hn:t.size=n):∃cap W',(convert 9 127 (.string t)).run prog W= .ok (.slice (Zp W.heap.size) n cap) W'∧n<=cap∧Byt W' W.heap.size t.data.toList∧Bl W W'∧W.heap.size<W'.heap.size:=by
 subst hn;refine⟨_,_,run_bytes_of_string (P:=prog) W 9 127 5 t underlying9 underlying127 underlying5,?_,?_,?_,?_⟩
 ·have:=grownCap_ge W t.size 0 5;exact this
 ·exact QmD W.drew t _ _
 ·exact(Qi (Lb _ _) 1:Bl W W.drew).alloc (La _) _
 ·simp
theorem Ow{w W:World}(h:Below B w W):Below B w W.drew:=⟨h.os,h.tape,h.output,h.size,h.block⟩
theorem QfX(bs:BA):∀(n i:Nat) (r:List UInt8),bs.size-i=n->ByteArray.toList.loop bs i r=r.reverse++bs.data.toList.drop i:=by
 intro n
 induction n with
 | zero=>
  intro i r h;rw[ByteArray.toList.loop,Le (by omega)]
  rw[L3 (by simp;exact(by omega:bs.size<=i)),LU]
 | succ n ih=>
  intro i r h;have hi:i<bs.size:=by omega
  rw[ByteArray.toList.loop,Lf hi,ih (i+1) _ (by omega)]
  have hl:i<bs.data.toList.length:=by simp;exact hi
  rw[LX hl,Ip,Lw];have:bs.get! i=bs.data.toList[i]:=by
   show bs.data[i]! = _
   have xA:i<bs.data.size:=hi;rw[getElem!_pos bs.data i xA];simp
  rw[this];rfl
theorem Qdw(bs:BA):bs.toList=bs.data.toList:=by
 rw[ByteArray.toList,QfX bs bs.size 0 [] rfl];rfl
theorem QdD{x y:BA}(h:x≠y):(x.toList == y.toList)=false:=by
 rw[Qdw,Qdw];simp only[beq_eq_false_iff_ne,ne_eq];intro e;exact h (I8 (Array.toList_inj.1 e))
theorem Qbq{x y:BA}(h:x=y):(x.toList == y.toList)=true:=by
 rw[h];simp
def rpT(s:List UInt8):BA×Nat×Int:=match rpay s with
 | some x=>(⟨x.toArray⟩,x.length+8,0)
 | none=>(⟨#[]⟩,0,180)
theorem Qev(h:rpay s=none):rpT s=(⟨#[]⟩,0,180):=by rw[rpT,h]
theorem Qew(h:rpay s=some x):rpT s=(⟨x.toArray⟩,x.length+8,0):=by rw[rpT,h]
theorem Qaw(w:World)(s:BA)(hs:s.size<=9223372036854775807)(rt:BA)(rn:Nat)(re:Int)(h:rpT s.data.toList=(rt,rn,re)) :
  Zr 231 #[.string s] w (.tuple #[.string rt,.int .i64 rn,.int .i64 re]):=by
 by_cases h4:s.size<4
 ·have z1:(s.size:Int)<4:=by omega
  rw[Qev (Le (by rw[Qb];omega))] at h
  obtain⟨rfl,rfl,rfl⟩:(⟨#[]⟩:BA)=rt∧0=rn∧180=re:=by simpa using h
  go_enter func231,ntmps231;go_wp2;exact LD (v := .tuple #[.string ⟨#[]⟩,.int .i64 0,.int .i64 180]) (by simp[results,results231,go_sem]) rfl ⟨rfl,Lb _ _⟩
 have z1:¬(s.size:Int)<4:=by omega
 have z2:(4:Int)<=(s.size:Int):=by omega
 obtain⟨x4,xX⟩:=Ze (s.extract 0 4);have xA:x4.data.toList=s.data.toList.take 4:=by rw[<-xX,Qaa]
 have xB:x4.size=4:=by rw[<-Qb,xA,Lx,Qb];omega
 obtain⟨c4,w1,kb,_,xF,xI,_⟩:=O4 w x4 4 xB;rw[xA] at xF;obtain⟨n,hn⟩:=Ze (num (s.data.toList.take 4));have xZ:n<4294967296:=by rw[<-hn];exact OR _ 4 (by simp;omega)
 have HN:=Q9 w1 w.heap.size 0 4 c4 _ xF (by simp;omega) (by decide) n (by rw[NM,Lp (by simp;omega)];exact hn)
 have z3:(s.size:Int)<=9223372036854775807:=by omega
 have yC:IntKind.u64.wrap (s.size:Int)=(s.size:Int):=by rw[IntKind.wrap_u64];omega
 have yA:IntKind.u64.wrap (4+(n:Int))=4+(n:Int):=by rw[IntKind.wrap_u64];omega
 have yB:IntKind.u64.wrap (4+(n:Int)+4)=4+(n:Int)+4:=by rw[IntKind.wrap_u64];omega
 by_cases hbig:n<=1048576∧n+8<=s.size
 ·obtain⟨g1,g2⟩:=hbig;have y1:¬(n:Int) > 1048576:=by omega
  have y2:¬(s.size:Int)<4+(n:Int)+4:=by omega
  have y3:IntKind.i64.wrap (n:Int)=(n:Int):=by rw[Lq];omega
  obtain⟨N,hN⟩:=Ze (n+8);have y4:(4:Int)+(n:Int)+4=(N:Int):=by omega
  have y5:(0:Int)<=(N:Int):=by omega
  have y6:(N:Int)<=(s.size:Int):=by omega
  have y7:(n:Int)<=1048576:=by omega
  obtain⟨x8,xY⟩:=Ze (s.extract 0 N);have xC:x8.data.toList=s.data.toList.take N:=by rw[<-xY,Qaa]
  have xD:x8.size=N:=by rw[<-Qb,xC,Lx,Qb];omega
  obtain⟨c8,w2,yD,xT,xK,xS,xN⟩:=O4 w1 x8 N xD;rw[xC] at xK;obtain⟨o,ho⟩:=Ze (if N-4=4 then 0 else 4)
  have xP:Hid (Zr 263 #[.slice (Zp w1.heap.size) N c8] w2 (.tuple #[.slice (Zp w1.heap.size) 4 4,.slice (some ⟨w1.heap.size,o,none⟩) n n])) :=
   Qcp w2 w1.heap.size N c8 (by omega) xT (by omega) o ho n (by omega)
  obtain⟨t8,xH⟩:∃t:BA,(⟨(sld (s.data.toList.take (n+4))).toArray⟩:BA)=t:=⟨_,rfl⟩;have xJ:(s.data.toList.take N).take (N-4)=s.data.toList.take (n+4):=by rw[Iu];congr 1;omega
  have xO:Hid (pay ((s.data.toList.drop 4).take n)=sld (s.data.toList.take (n+4))):=QnQ s.data.toList n (by rw[Qb];omega) hn (by rw[Qb];omega)
  obtain⟨v,hv⟩:∃v:BA,(⟨(((sld (s.data.toList.take (n+4))).drop 4).take n).toArray⟩:BA)=v:=⟨_,rfl⟩;have HV:Hid ((⟨((s.data.toList.drop 4).take n).toArray⟩:BA)=v):=by
   show _=_
   rw[<-hv]
   congr 2
   rw[sld,LR (by simp;omega),Lu (by simp;omega),List.drop_take,Iu,IT (by omega)]
  have xR:Hid (∀W,Bl w2 W->Calls prog 265 #[.slice (Zp w1.heap.size) N c8] W fun e w'=>e= .returned (.string t8)∧(convert 127 9 (.slice (some ⟨w1.heap.size,o,none⟩) n n)).run prog w'= .ok (.string v) w'∧Bl w w'):=fun W hb=>by
   have hy:=xK.next hb xN;refine(Jv W w1.heap.size N c8 _ hy (by simp;omega) (by omega) xT (by omega) t8 (by rw[xJ];exact xH)).mono ?_
   rintro e w' ⟨rfl,hz,xW⟩;rw[xJ] at hz;refine⟨rfl,hz.conv (k:=4) (n:=n) (by rw[Oj];simp;omega) o (fun h0=>by rw[<-ho,Le (by omega)]) n v hv,xW.since (Qa xI (Qa xS hb)) xI.size⟩
  have xQ:Hid ((⟨(s.data.toList.take N).toArray⟩:BA)=x8):=by show _=_;rw[<-xC]
  by_cases heq:t8=x8
  ·have xV:=Qbq heq;have xU:rpay s.data.toList=some ((s.data.toList.drop 4).take n):=by
    unfold rpay;rw[hn];refine Lf ⟨by rw[Qb];omega,g1,by rw[Qb];exact g2,?_⟩
    rw[xO.out,hN];have:=Lv (fun z:BA=>z.data.toList) (xH.trans (heq.trans xQ.out.symm))
    simpa using this
   rw[Qew xU] at h;have xG:((s.data.toList.drop 4).take n).length=n:=by simp;omega
   rw[xG,HV.out,hN] at h;obtain⟨rfl,rfl,rfl⟩:v=rt∧N=rn∧0=re:=by simpa using h
   clear xF xB xA h hn xC xD ho xH xJ hv heq xU xG xK hN
   go_enter func231,ntmps231
   go_upto_region 9 with (first
    | (go_at_call 321;with_reducible refine HN.mono ?_;rintro e w3 ⟨rfl,rfl⟩)
    | (go_at_call 263;with_reducible refine xP.out.mono ?_;rintro e w4 ⟨rfl,xL⟩))
   go_region_with (go_at_call 265;with_reducible refine(xR.out _ (Ow xL)).mono ?_;rintro e w5 ⟨rfl,kc,xM⟩)
   go_wp2;exact LD (v := .tuple #[.string v,.int .i64 N,.int .i64 0]) (by simp[results,results231,go_sem]) rfl ⟨rfl,xM⟩
  ·have xV:=QdD heq;have xE:rpay s.data.toList=none:=by
    unfold rpay;rw[hn];refine Le fun q=>heq ?_
    have q4:=q.2.2.2;rw[xO.out,hN] at q4;rw[<-xH,q4,xQ.out]
   rw[Qev xE] at h;obtain⟨rfl,rfl,rfl⟩:(⟨#[]⟩:BA)=rt∧0=rn∧180=re:=by simpa using h
   clear xF xB xA h hn xC xD ho xH xJ hv heq xE xK hN
   go_enter func231,ntmps231
   go_upto_region 9 with (first
    | (go_at_call 321;with_reducible refine HN.mono ?_;rintro e w3 ⟨rfl,rfl⟩)
    | (go_at_call 263;with_reducible refine xP.out.mono ?_;rintro e w4 ⟨rfl,xL⟩))
   go_region_with (go_at_call 265;with_reducible refine(xR.out _ (Ow xL)).mono ?_;rintro e w5 ⟨rfl,kc,xM⟩)
   go_wp2;exact LD (v := .tuple #[.string ⟨#[]⟩,.int .i64 0,.int .i64 180]) (by simp[results,results231,go_sem]) rfl ⟨rfl,xM⟩
 ·have xE:rpay s.data.toList=none:=by
   unfold rpay;rw[hn,Qb];exact Le (fun q=>hbig ⟨q.2.1,q.2.2.1⟩)
  rw[Qev xE] at h;obtain⟨rfl,rfl,rfl⟩:(⟨#[]⟩:BA)=rt∧0=rn∧180=re:=by simpa using h
  by_cases xS:n<=1048576
  ·have g1:¬(n:Int) > 1048576:=by omega
   have g2:(s.size:Int)<4+(n:Int)+4:=by omega
   clear xF xB xA hbig h hn xE
   go_enter func231,ntmps231
   go_wp2_with (go_at_call 321;with_reducible refine HN.mono ?_;rintro e w2 ⟨rfl,rfl⟩)
   exact LD (v := .tuple #[.string ⟨#[]⟩,.int .i64 0,.int .i64 180]) (by simp[results,results231,go_sem]) rfl ⟨rfl,xI⟩
  ·have g1:(n:Int) > 1048576:=by omega
   clear xF xB xA hbig h hn xE
   go_enter func231,ntmps231
   go_wp2_with (go_at_call 321;with_reducible refine HN.mono ?_;rintro e w2 ⟨rfl,rfl⟩)
   exact LD (v := .tuple #[.string ⟨#[]⟩,.int .i64 0,.int .i64 180]) (by simp[results,results231,go_sem]) rfl ⟨rfl,xI⟩
def rnT(k:Int)(p:Nat)(s:List UInt8):BA×Int:=if 1<=k∧k<=32 then (match rnod k.toNat p s with
 | some x=>(⟨x.toArray⟩,0)
 | none=>(⟨#[]⟩,180)) else (⟨#[]⟩,70)
theorem Qn2(h:¬(1<=k∧k<=32)):rnT k p s=(⟨#[]⟩,70):=Le h
theorem Qer(hk:1<=k∧k<=32)(h:rnod k.toNat p s=none):rnT k p s=(⟨#[]⟩,180):=by rw[rnT,Lf hk,h]
theorem Qes(hk:1<=k∧k<=32)(h:rnod k.toNat p s=some x):rnT k p s=(⟨x.toArray⟩,0):=by rw[rnT,Lf hk,h]
theorem Qa3(w:World)(k:Int)(p:Nat)(hp:p<18446744073709551616)(s:BA)(rt:BA)(re:Int)(h:rnT k p s.data.toList=(rt,re)) :
  Zr 252 #[.int .i64 k,.int .u64 p,.string s] w (.tuple #[.string rt,.int .i64 re]):=by
 have HS:=fun W=>QaG W k
 by_cases hk:1<=k∧k<=32
 ·rw[LW hk] at HS
  by_cases h40:s.size=40
  ·have z1:((s.size:Int) == 40)=true:=by simp;omega
   obtain⟨n,rfl⟩:∃n:Nat,k=(n:Int):=⟨k.toNat,by omega⟩
   obtain⟨c0,w1,kb,xK,hy,xG,xJ⟩:=O4 w s 40 h40;have xF:Hid (Zr 333 #[.slice (Zp w.heap.size) 40 c0] w1 (.tuple #[.slice (Zp w.heap.size) 32 32,.slice (some ⟨w.heap.size,32,none⟩) 4 4])):=Qci w1 w.heap.size 40 c0 (by omega)
   have y1:(0:Int)<=(n:Int):=by omega
   have y2:(n:Int)<=32:=by omega
   obtain⟨d,hd⟩:∃d:BA,(⟨(s.data.toList.take n).toArray⟩:BA)=d:=⟨_,rfl⟩;have xB:d.data.toList=s.data.toList.take n:=by rw[<-hd]
   have xH:d.size=n:=by rw[<-Qb,xB,Lx,Qb];omega
   have HC:Hid (∀W,Bl w1 W->(convert 127 9 (.slice (Zp w.heap.size) n n)).run prog W= .ok (.string d) W):=fun W hb=>
    (hy.next hb xJ).conv (k:=0) (n:=n) (by rw[Qb];omega) 0 (fun _=>rfl) n d (by rw[NM];exact hd)
   obtain⟨t,ht⟩:∃t:BA,(⟨(nodS p d.data.toList).toArray⟩:BA)=t:=⟨_,rfl⟩;have xE:Hid (∀W,Zr 266 #[.int .u64 p,.string d] W (.string t)):=fun W=>U8 W p hp d (by omega) t ht
   have xC:t.data.toList=nod p (s.data.toList.take n):=by
    rw[<-ht,nodS,Lf (by rw[xB,Lx];omega),xB]
   by_cases heq:t=s
   ·have xI:=Qbq heq;rw[Qes hk (x:=s.data.toList.take n) (Lf ⟨by rw[Qb];exact h40,by rw[LP,<-xC,heq]⟩),hd] at h
    obtain⟨rfl,rfl⟩:d=rt∧0=re:=by simpa using h
    clear hd xB xH ht xC heq h hy
    go_enter func252,ntmps252
    go_wp2_with (first
     | (go_at_call 272;with_reducible refine(HS _).mono ?_;rintro e w2 ⟨rfl,rfl⟩)
     | (go_at_call 333;with_reducible refine xF.out.mono ?_;rintro e w3 ⟨rfl,xA⟩;have kc:=HC.out _ xA)
     | (go_at_call 266;with_reducible refine(xE.out _).mono ?_;rintro e w4 ⟨rfl,xD⟩))
    exact LD (v := .tuple #[.string d,.int .i64 0]) (by simp[results,results252,go_sem]) rfl ⟨rfl,Qa xG (Qa xA xD)⟩
   ·have xI:=QdD heq;rw[Qer hk (Le fun q=>heq (QbK (by rw[xC];have:=q.2;rw[LP] at this;exact this)))] at h
    obtain⟨rfl,rfl⟩:(⟨#[]⟩:BA)=rt∧180=re:=by simpa using h
    clear hd xB xH ht xC heq h hy
    go_enter func252,ntmps252
    go_wp2_with (first
     | (go_at_call 272;with_reducible refine(HS _).mono ?_;rintro e w2 ⟨rfl,rfl⟩)
     | (go_at_call 333;with_reducible refine xF.out.mono ?_;rintro e w3 ⟨rfl,xA⟩;have kc:=HC.out _ xA)
     | (go_at_call 266;with_reducible refine(xE.out _).mono ?_;rintro e w4 ⟨rfl,xD⟩))
    exact LD (v := .tuple #[.string ⟨#[]⟩,.int .i64 180]) (by simp[results,results252,go_sem]) rfl ⟨rfl,Qa xG (Qa xA xD)⟩
  ·have z1:((s.size:Int) == 40)=false:=by simp;omega
   rw[Qer hk (Le fun q=>h40 (by rw[<-Qb];exact q.1))] at h
   obtain⟨rfl,rfl⟩:(⟨#[]⟩:BA)=rt∧180=re:=by simpa using h
   clear h
   go_enter func252,ntmps252
   go_wp2_with (go_at_call 272;with_reducible refine(HS _).mono ?_;rintro e w2 ⟨rfl,rfl⟩)
   exact LD (v := .tuple #[.string ⟨#[]⟩,.int .i64 180]) (by simp[results,results252,go_sem]) rfl ⟨rfl,Lb _ _⟩
 ·rw[LA hk] at HS;rw[Qn2 hk] at h;obtain⟨rfl,rfl⟩:(⟨#[]⟩:BA)=rt∧70=re:=by simpa using h
  clear h
  go_enter func252,ntmps252
  go_wp2_with (go_at_call 272;with_reducible refine(HS _).mono ?_;rintro e w2 ⟨rfl,rfl⟩)
  exact LD (v := .tuple #[.string ⟨#[]⟩,.int .i64 70]) (by simp[results,results252,go_sem]) rfl ⟨rfl,Lb _ _⟩
end St.Rc
namespace St
open Rc
section
variable {q p:Nat} {T:Nat->Prop} {D:DV} {S:SV}
theorem YX(w:World)(h:Sk w q p T D S):Re 74 #[Pq q] w (.int .u64 S.ends.length):=by
 obtain⟨ao,xA,⟨c0,c1,c2,c3,c4⟩,_⟩:=h.cells;obtain⟨_,_,hf,_⟩:=h.small;have hw:IntKind.u64.wrap (S.ends.length:Int)=(S.ends.length:Int):=Y5 _ (by omega) (by omega)
 generalize S.ends.length=n at *;clear h
 go_enter func74,ntmps74;go_wp2
 go_ret
 exact⟨rfl,rfl⟩
theorem QcZ(w:World)(h:Sk w q p T D S)(n:Nat)(hn:n<=S.ends.length):Re 142 #[Pq q,.int .i64 n] w (.int .i64 (UX S.ends n:Int)):=by
 obtain⟨ao,xA,⟨c0,c1,c2,c3,c4⟩,hc⟩:=h.cells;obtain⟨_,_,hf,_⟩:=h.small;clear h
 cases n with
 | zero=>
  go_enter func142,ntmps142;go_wp2
  go_ret
  exact⟨rfl,rfl⟩
 | succ n=>
  obtain⟨g,rfl,hg⟩:=hc n (by omega)
  have e1:UX S.ends (n+1)=S.ends.getD n 0:=rfl;rw[e1];have hz:¬((n:Int)+1=0):=by omega
  have hm:IntKind.i64.wrap ((n:Int)+1-1)=(n:Int):=by rw[Lq];omega
  generalize S.ends.getD n 0=x at *;generalize S.ends.length=m at *;clear hc e1
  go_enter func142,ntmps142;go_wp2
  go_ret
  exact⟨rfl,rfl⟩
theorem Q6(w:World)(n:Nat)(hn:n<=65537):Re 245 #[.int .i64 n] w (.int .u64 (nn n:Int)):=by
 have HC:=Qc (Pl.QiR n w (by omega))
 have hw:IntKind.u64.wrap (n:Int)=(n:Int):=Y5 _ (by omega) (by omega)
 go_enter func245,ntmps245
 go_wp2_with (go_at_call 328;refine HC.out.mono ?_;rintro e w1 ⟨rfl,rfl⟩)
 go_ret
 exact⟨rfl,rfl⟩
theorem OD(n:Nat):nn n<=2*n:=by unfold nn Pl.N;omega
theorem YN(w:World)(h:Sk w q p T D S):Re 155 #[Pq q,.string ⟨#[105,116,101,109,115]⟩] w (.int .i64 (lst S.ends:Int)):=by
 obtain⟨ao,xA,⟨c0,c1,c2,c3,c4⟩,hc⟩:=h.cells;have HE:=Qc (QcZ w h S.ends.length (La _));rw[QbY] at HE;generalize S.ends.length=n at *;clear h hc
 go_enter func155,ntmps155
 go_wp2_with (go_at_call 142;refine HE.out.mono ?_;rintro e w1 ⟨rfl,rfl⟩)
 go_ret
 exact⟨rfl,rfl⟩
theorem Qai(w:World)(h:Sk w q p T D S):Re 155 #[Pq q,.string ⟨#[110,111,100,101,115]⟩] w (.int .i64 ((nn S.ends.length*40:Nat):Int)):=by
 obtain⟨ao,xA,⟨c0,c1,c2,c3,c4⟩,hc⟩:=h.cells;obtain⟨_,_,hf,_⟩:=h.small;have HN:=Qc (Q6 w S.ends.length (by omega))
 have hb:=OD S.ends.length;generalize S.ends.length=n at *;generalize nn n=m at *;have h1:IntKind.i64.wrap (m:Int)=(m:Int):=by rw[Lq];omega
 have h2:IntKind.i64.wrap ((m:Int)*40)=((m*40:Nat):Int):=by rw[Lq];omega
 clear h hc
 go_enter func155,ntmps155
 go_wp2_with (go_at_call 245;refine HN.out.mono ?_;rintro e w1 ⟨rfl,rfl⟩)
 go_ret
 exact⟨rfl,rfl⟩
theorem Qah(w:World)(h:Sk w q p T D S):Re 155 #[Pq q,.string ⟨#[109,97,114,107,115]⟩] w (.int .i64 ((S.ends.length*64:Nat):Int)):=by
 obtain⟨ao,xA,⟨c0,c1,c2,c3,c4⟩,hc⟩:=h.cells;obtain⟨_,_,hf,_⟩:=h.small;generalize S.ends.length=m at *;have h2:IntKind.i64.wrap ((m:Int)*64)=((m*64:Nat):Int):=by rw[Lq];omega
 clear h hc
 go_enter func155,ntmps155;go_wp2
 go_ret
 exact⟨rfl,rfl⟩
theorem QfA(D:DV)(s:List UInt8)(off n:Int):(rdD D s off n).2=0∨(rdD D s off n).2=170∨(rdD D s off n).2=173:=by
 unfold rdD
 split
 ·exact .inr (.inl rfl)
 ·split
  ·exact .inr (.inr rfl)
  ·exact .inl rfl
theorem J8(w:World)(h:Sk w q p T D S)(s:BA)(hs:s.size<=maxLen)(off y:Int)(ho1 : -9223372036854775808<=off)(ho2:off<=9223372036854775807)(hq1 : -9223372036854775808<=y)(hq2:y<=9223372036854775807)(t:BA)(r:Int)(ht:tx (rdS D s.data.toList off y).1=t)(hr:(rdS D s.data.toList off y).2=r) :
  Zr 143 #[Pq q,.string s,.int .i64 off,.int .i64 y] w (.tuple #[.string t,.int .i64 r]):=by
 obtain⟨ao,xA,⟨c0,c1,c2,c3,c4⟩,hc⟩:=h.cells;have HR:=Qc (h.read s hs off y ho1 ho2 hq1 hq2);unfold rdS at ht hr;obtain⟨x,e,hx⟩:∃x e,rdD D s.data.toList off y=(x,e):=⟨_,_,rfl⟩;have he:=QfA D s.data.toList off y;rw[hx] at ht hr HR he;clear h hc hx
 by_cases h3:e=173
 ·subst h3;simp only[if_pos] at ht hr;subst ht hr
  go_enter func143,ntmps143
  go_wp2_with (go_at_call 152;refine HR.out.mono ?_;rintro e w1 ⟨rfl,hb⟩)
  go_ret2
  exact⟨rfl,hb⟩
 ·simp only[if_neg h3] at ht hr;subst ht hr
  go_enter func143,ntmps143
  go_wp2_with (go_at_call 152;refine HR.out.mono ?_;rintro e w1 ⟨rfl,hb⟩)
  go_ret2
  exact⟨rfl,hb⟩
def whT(s:List UInt8):BA:=(rpT s).1
theorem Qba(w:World)(s:BA)(hs:s.size<=9223372036854775807)(b:Bool)(hb:whl s.data.toList=b)(t:BA)(ht:whT s.data.toList=t) :
  Zr 144 #[.string s] w (.tuple #[.string t,.bool b]):=by
 have hl:=Qb s;unfold whT at ht;unfold whl at hb
 cases hp:rpay s.data.toList with
 | none=>
  rw[hp] at hb;have e1:=Qev hp;rw[e1] at ht;subst ht hb;have HR:=Qc (Qaw w s hs _ _ _ e1)
  go_enter func144,ntmps144
  go_wp2_with (go_at_call 231;refine HR.out.mono ?_;rintro e w1 ⟨rfl,hb⟩)
  go_ret2
  exact⟨rfl,hb⟩
 | some x=>
  rw[hp] at hb;have e1:=Qew hp;rw[e1] at ht;subst ht;have HR:=Qc (Qaw w s hs _ _ _ e1);have e2:(((x.length+8:Nat):Int) == (s.size:Int))=b:=by
   rw[<-hb,hl];exact Bool.eq_iff_iff.2 (by simp;omega)
  generalize x.length+8=m at *;generalize s.size=n at *
  go_enter func144,ntmps144
  go_wp2_with (go_at_call 231;refine HR.out.mono ?_;rintro e w1 ⟨rfl,hb⟩)
  go_ret2
  exact⟨by simp_all,hb⟩
end
section
variable {q p:Nat} {T:Nat->Prop} {D:DV} {S:SV}
theorem QnU(D:DV)(s:List UInt8)(off n:Int):(rdD D s off n).1.length<=(Qe D.L s).now.length:=by
 unfold rdD
 split
 ·exact Ln _
 ·split
  ·exact Ln _
  ·simp only[List.length_take,List.length_drop];omega
theorem QnV(D:DV)(s:List UInt8)(off n:Int):(rdS D s off n).1.length<=(Qe D.L s).now.length:=by
 unfold rdS
 split
 ·exact Ln _
 ·exact QnU _ _ _ _
theorem QhM(D:DV)(s:List UInt8)(off n:Int):(rdS D s off n).2=0∨(rdS D s off n).2=170∨(rdS D s off n).2=190:=by
 unfold rdS
 rcases QfA D s off n with h|h|h
 ·rw[Le (by omega)];exact .inl h
 ·rw[Le (by omega)];exact .inr (.inl h)
 ·rw[Lf h];exact .inr (.inr rfl)
theorem QoD{s:List UInt8}(h:whl s=true):whT s=tx ((rpay s).getD []):=by
 unfold whl at h;unfold whT
 cases hp:rpay s with
 | none=>rw[hp] at h;cases h
 | some x=>rw[Qew hp];rfl
theorem QkK(w:World)(h:Sk w q p T D S)(i:Nat)(hi:i<18446744073709551616)(t:BA)(r:Int)(ht:tx (JK D S i).1=t)(hr:(JK D S i).2=r) :
  Zr 84 #[Pq q,.int .u64 i] w (.tuple #[.string t,.int .i64 r]):=by
 obtain⟨ao,xD,⟨c0,c1,c2,c3,c4⟩,hc⟩:=h.cells;obtain⟨_,_,hf,hg,he,_⟩:=h.small;have HS:=Qc (YX w h);unfold JK at ht hr
 by_cases hlt:S.ends.length<=i
 ·rw[Lf hlt] at ht hr;subst ht hr;have hd:((S.ends.length:Int)<=(i:Int)):=by omega
  generalize S.ends.length=n at *;clear h hc hg he
  go_enter func84,ntmps84
  go_wp2_with (go_at_call 74;refine HS.out.mono ?_;rintro e w1 ⟨rfl,rfl⟩)
  go_ret2
  exact⟨rfl,Lb _ _⟩
 ·rw[Le hlt] at ht hr;have hd:¬((S.ends.length:Int)<=(i:Int)):=by omega
  have xE:(i:Int)<(S.ends.length:Int):=by omega
  obtain⟨g,rfl,cg⟩:=hc i (by omega)
  have HE:=Qc (QcZ w h i (by omega))
  have xG:=hg i;have xF:=he i;have HR:Hid (∀t r,tx (itmR D S i).1=t->(itmR D S i).2=r->Zr 143 #[Pq q,.string ⟨#[105,116,101,109,115]⟩,.int .i64 (UX S.ends i:Int),.int .i64 ((S.ends.getD i 0:Int)-(UX S.ends i:Int))] w (.tuple #[.string t,.int .i64 r])):=fun t r h1 h2=>J8 w h ⟨#[105,116,101,109,115]⟩ (by decide) _ _ (by omega) (by omega) (by omega) (by omega) t r h1 h2
  have hz:(itmR D S i).1.length<=268435456:=Lr (QnV _ _ _ _) (h.sz _);have xC:(itmR D S i).2=0∨(itmR D S i).2=170∨(itmR D S i).2=190:=QhM _ _ _ _;generalize itmR D S i=x at *;have xH:IntKind.i64.wrap (i:Int)=(i:Int):=by rw[Lq];omega
  have xI:IntKind.i64.wrap ((S.ends.getD i 0:Int)-(UX S.ends i:Int))=(S.ends.getD i 0:Int)-(UX S.ends i:Int):=by rw[Lq];omega
  clear hg he hc h;generalize S.ends.getD i 0=a at *;generalize UX S.ends i=b at *;generalize S.ends.length=n at *;obtain⟨xl,xe⟩:=x;simp only at ht hr xC hz HR
  by_cases h0:xe=0
  ·subst h0;simp only[ne_eq,not_true_eq_false,if_false] at ht hr;have xA:=Qc (HR.out _ _ rfl rfl);have HW:Hid (∀W b,whl xl=b->Zr 144 #[.string (tx xl)] W (.tuple #[.string (whT xl),.bool b])):=fun W b hb=>Qba W (tx xl) (by rw[YA];omega) b hb _ rfl
   clear HR
   by_cases hwh:whl xl=true
   ·simp only[hwh,if_true] at ht hr;subst ht hr;have xB:=Qc (fun W=>HW.out W _ hwh)
    rw[QoD hwh] at xB;clear HW
    go_enter func84,ntmps84
    go_wp2_with (first
     | (go_at_call 74;refine HS.out.mono ?_;rintro e w1 ⟨rfl,rfl⟩)
     | (go_at_call 142;refine HE.out.mono ?_;rintro e w1 ⟨rfl,rfl⟩)
     | (go_at_call 143;refine xA.out.mono ?_;rintro e w2 ⟨rfl,u2⟩)
     | (go_at_call 144;refine(xB.out _).mono ?_;rintro e w3 ⟨rfl,u3⟩))
    go_ret2
    exact⟨rfl,Qa u2 u3⟩
   ·rw[Le hwh] at ht hr;subst ht hr;have xB:=Qc (fun W=>HW.out W _ (Bool.eq_false_iff.2 hwh))
    clear HW
    go_enter func84,ntmps84
    go_wp2_with (first
     | (go_at_call 74;refine HS.out.mono ?_;rintro e w1 ⟨rfl,rfl⟩)
     | (go_at_call 142;refine HE.out.mono ?_;rintro e w1 ⟨rfl,rfl⟩)
     | (go_at_call 143;refine xA.out.mono ?_;rintro e w2 ⟨rfl,u2⟩)
     | (go_at_call 144;refine(xB.out _).mono ?_;rintro e w3 ⟨rfl,u3⟩))
    go_ret2
    exact⟨rfl,Qa u2 u3⟩
  ·rw[Lf h0] at ht hr;subst ht hr;have xA:=Qc (HR.out _ _ rfl rfl);clear HR
   go_enter func84,ntmps84
   go_wp2_with (first
    | (go_at_call 74;refine HS.out.mono ?_;rintro e w1 ⟨rfl,rfl⟩)
    | (go_at_call 142;refine HE.out.mono ?_;rintro e w1 ⟨rfl,rfl⟩)
    | (go_at_call 143;refine xA.out.mono ?_;rintro e w2 ⟨rfl,u2⟩))
   go_ret2
   exact⟨rfl,u2⟩
theorem QiA(w:World)(h:Sk w q p T D S)(i:Nat)(hi:i<18446744073709551616)(t:BA)(r:Int)(ht:tx (OQ D S i).1=t)(hr:(OQ D S i).2=r) :
  Zr 162 #[Pq q,.int .u64 i] w (.tuple #[.string t,.int .i64 r]):=by
 obtain⟨ao,xE,⟨c0,c1,c2,c3,c4⟩,hc⟩:=h.cells;obtain⟨xF,xG,hf,_⟩:=h.small;have HN:=Qc (Q6 w S.ends.length (by omega))
 have hb:=OD S.ends.length;unfold OQ at ht hr
 by_cases hlt:nn S.ends.length<=i
 ·rw[Lf hlt] at ht hr;subst ht hr;have hd:((nn S.ends.length:Int)<=(i:Int)):=by omega
  generalize S.ends.length=n at *;generalize nn n=m at *;clear h hc
  go_enter func162,ntmps162
  go_wp2_with (go_at_call 245;refine HN.out.mono ?_;rintro e w1 ⟨rfl,rfl⟩)
  go_ret2
  exact⟨rfl,Lb _ _⟩
 ·rw[Le hlt] at ht hr;have hd:¬((nn S.ends.length:Int)<=(i:Int)):=by omega
  have HR:Hid (∀t r,tx (nodR D i).1=t->(nodR D i).2=r->Zr 143 #[Pq q,.string ⟨#[110,111,100,101,115]⟩,.int .i64 ((i*40:Nat):Int),.int .i64 40] w (.tuple #[.string t,.int .i64 r])):=fun t r h1 h2=>J8 w h ⟨#[110,111,100,101,115]⟩ (by decide) _ _ (by omega) (by omega) (by omega) (by omega) t r h1 h2
  have xH:IntKind.i64.wrap (i:Int)=(i:Int):=by rw[Lq];omega
  have xI:IntKind.i64.wrap ((i:Int)*40)=((i*40:Nat):Int):=by rw[Lq];omega
  have xD:(nodR D i).2=0∨(nodR D i).2=170∨(nodR D i).2=190:=QhM _ _ _ _;generalize nodR D i=x at *;have CK:Hid (∀W,Bl w W->W.cell? ⟨q,1,none⟩=some (.int .i64 S.k)):=fun W hW=>by
   obtain⟨_,_,⟨_,xC,_⟩,_⟩:=(h.next hW).cells;exact xC
  clear hc h c1;obtain⟨xl,xe⟩:=x;simp only at ht hr xD HR
  by_cases h0:xe=0
  ·subst h0;simp only[ne_eq,not_true_eq_false,if_false] at ht hr;have xA:=Qc (HR.out _ _ rfl rfl);have HW:Hid (∀W t r,rnT (S.k:Int) i xl=(t,r)->Zr 252 #[.int .i64 S.k,.int .u64 i,.string (tx xl)] W (.tuple #[.string t,.int .i64 r])):=fun W t r hb=>Qa3 W (S.k:Int) i hi (tx xl) t r hb
   clear HR;generalize nn S.ends.length=m at *;generalize S.ends.length=n at *
   cases hwh:rnod S.k i xl with
   | some y=>
    rw[hwh] at ht hr;subst ht hr;have xB:=Qc (fun W=>HW.out W _ _ (Qes (by omega) (by simpa using hwh)))
    clear HW;generalize S.k=k at *
    go_enter func162,ntmps162
    go_wp2_with (first
     | (go_at_call 245;refine HN.out.mono ?_;rintro e w1 ⟨rfl,rfl⟩)
     | (go_at_call 143;refine xA.out.mono ?_;rintro e w2 ⟨rfl,u2⟩;have c1:=CK.out _ u2)
     | (go_at_call 252;refine(xB.out _).mono ?_;rintro e w3 ⟨rfl,u3⟩))
    go_ret2
    exact⟨rfl,Qa u2 u3⟩
   | none=>
    rw[hwh] at ht hr;subst ht hr;have xB:=Qc (fun W=>HW.out W _ _ (Qer (by omega) (by simpa using hwh)))
    clear HW;generalize S.k=k at *
    go_enter func162,ntmps162
    go_wp2_with (first
     | (go_at_call 245;refine HN.out.mono ?_;rintro e w1 ⟨rfl,rfl⟩)
     | (go_at_call 143;refine xA.out.mono ?_;rintro e w2 ⟨rfl,u2⟩;have c1:=CK.out _ u2)
     | (go_at_call 252;refine(xB.out _).mono ?_;rintro e w3 ⟨rfl,u3⟩))
    go_ret2
    exact⟨rfl,Qa u2 u3⟩
  ·rw[Lf h0] at ht hr;subst ht hr;have xA:=Qc (HR.out _ _ rfl rfl);clear HR;generalize nn S.ends.length=m at *;generalize S.ends.length=n at *
   go_enter func162,ntmps162
   go_wp2_with (first
    | (go_at_call 245;refine HN.out.mono ?_;rintro e w1 ⟨rfl,rfl⟩)
    | (go_at_call 143;refine xA.out.mono ?_;rintro e w2 ⟨rfl,u2⟩))
   go_ret2
   exact⟨rfl,u2⟩
end
section
variable {q p:Nat} {T:Nat->Prop} {D:DV} {S:SV}
theorem Us(n:Nat)(h:n<=65536):nn n<=nn (n+1)∧nn (n+1)<=131074∧nn (n+1)<=nn n+41:=by
 have hb:=OD (n+1);unfold nn at hb ⊢;obtain⟨t,xA,h1,h2⟩:∃t,t<=40∧n%Pl.pw t=Pl.pw t-1 ∧ ¬n/Pl.pw t%2=1:=by
  suffices hh:∀f t,t+f=40->n%Pl.pw t=Pl.pw t-1 -> ∃t,t<=40∧n%Pl.pw t=Pl.pw t-1 ∧ ¬n/Pl.pw t%2=1 from hh 40 0 rfl (by rw[Pl.Oh];omega)
  intro f
  induction f with
  | zero=>intro t ht h0;exact⟨t,by omega,h0,by rw[NX (Lz (show n<2^20 by omega) (Pl.OE (a:=20) (by omega)))];decide⟩
  | succ f ih=>
   intro t ht h0
   by_cases ho:n/Pl.pw t%2=1
   ·exact ih (t+1) (by omega) (Pl.QcJ t n h0 ho)
   ·exact⟨t,by omega,h0,ho⟩
 rw[Pl.new_N t n h1 h2 (by omega)] at hb ⊢
 omega
theorem Qbz(S:SV)(ds:LB):nxt S ds=true↔ds.length=nn (S.ends.length+1)-nn S.ends.length ∧ ∀d∈ds,d.size=S.k:=by
 simp[nxt]
theorem Qbd(w:World)(h:Sk w q p T D S)(hfew:S.ends.length<65536)(ao:OA)(b off len cap:Nat)(ds:LB)(hr:RdS w ao b off len ds)(hmx:len<=9223372036854775807)(r:Bool)(hR:nxt S ds=r) :
  Re 262 #[Pq q,.slice ao len cap] w (.bool r):=by
 obtain⟨ea,ec,⟨c0,c1,c2,c3,c4⟩,_⟩:=h.cells;obtain⟨xL,xM,hf,_⟩:=h.small;have hm:=Us S.ends.length hf;have HN:Hid (Re 245 #[.int .i64 S.ends.length] w (.int .u64 (nn S.ends.length:Int))):=Q6 w S.ends.length (by omega)
 have xE:Hid (Re 245 #[.int .i64 ((S.ends.length:Int)+1)] w (.int .u64 (nn (S.ends.length+1):Int))):=by
  have:=Q6 w (S.ends.length+1) (by omega)
  rw[IR] at this;exact this
 have hx:nxt S ds=true↔len=nn (S.ends.length+1)-nn S.ends.length ∧ ∀d∈ds,d.size=S.k:=by rw[Qbz,hr.hl]
 clear h;generalize nxt S ds=x0 at *;subst hR;generalize nn (S.ends.length+1)=m1 at *;generalize nn S.ends.length=m0 at *;generalize S.k=k at *;generalize S.ends.length=n at *;have e1:IntKind.i64.wrap ((n:Int)+1)=(n:Int)+1:=by rw[Lq];omega
 have e2:IntKind.u64.wrap (len:Int)=(len:Int):=Y5 _ (by omega) (by omega)
 have e3:IntKind.u64.wrap ((m1:Int)-(m0:Int))=((m1-m0:Nat):Int):=by rw[Y5 _ (by omega) (by omega)];omega
 by_cases hl:len=m1-m0
 ·have hd:(((len:Int)) != ((m1-m0:Nat):Int))=false:=by simp[hl]
  have xG:((len:Int))=((m1-m0:Nat):Int):=by omega
  generalize m1-m0=m at *;subst hl
  go_enter func262,ntmps262
  go_wp2_with (go_at_call 245;first|((with_reducible refine HN.out.mono ?_);rintro e w1 ⟨rfl,rfl⟩)|((with_reducible refine xE.out.mono ?_);rintro e w1 ⟨rfl,rfl⟩))
  go_loopg [25] len (fun g x wr=> ∃j:Nat,j<=len∧g=len-j∧x= .int .i64 j∧Hid (∀d∈ds.take j,d.size=k)∧wr=w1)
  case atStart=>go_light;exact⟨0,Ln _,rfl,rfl,fun d hd=>by simp at hd,rfl⟩
  case round=>
   obtain⟨j,hj,rfl,rfl,HA,rfl⟩:=hrel
   by_cases hlt:j<len
   ·have hz:(j:Int)<(len:Int):=by omega
    obtain rfl:=hr.ptr (by omega)
    have ck:=hr.at hlt;have hw:IntKind.i64.wrap ((j:Int)+1)=(j:Int)+1:=by rw[Lq];omega
    obtain⟨d,xA⟩:=Ze (ds.getD j ByteArray.empty);have xB:j<ds.length:=by rw[hr.hl];exact hlt
    have xJ:d∈ds:=by rw[<-xA,Ld,Lk xB];exact L8 _
    have xC:ds.take (j+1)=ds.take j++[d]:=by rw[<-xA,LM xB,Ld,Lk xB];rfl
    rw[xA] at ck
    by_cases he:d.size=k
    ·have xH:((d.size:Int) != (k:Int))=false:=by simp[he]
     have xI:(d.size:Int)=(k:Int):=by omega
     have xF:Hid (∀d∈ds.take (j+1),d.size=k):=fun y hy=>by
      rw[xC] at hy
      rcases List.mem_append.1 hy with h|h
      ·exact HA.out y h
      ·rw[List.mem_singleton.1 h];exact he
     clear hr hx HA xC;go_wp2
     go_roundg (len-(j+1))
     case rel=>go_light;exact⟨j+1,by omega,rfl,by go_num,xF,rfl⟩
     case measure=>go_light;omega
    ·have xH:((d.size:Int) != (k:Int))=true:=by simp;omega
     have xI:¬(d.size:Int)=(k:Int):=by omega
     have xD:x0=false:=by
      cases x0 with
      | false=>rfl
      | true=>exact absurd ((hx.1 rfl).2 d xJ) he
     subst xD;clear hr hx HA xC;go_wp2
     go_ret
     first|exact⟨rfl,rfl⟩|exact⟨trivial,rfl⟩
   ·have hz:¬(j:Int)<(len:Int):=by omega
    have xK:x0=true:=hx.2 ⟨by trivial,fun d hd=>HA.out d (by rw[Lp (by rw[hr.hl];omega)];exact hd)⟩
    subst xK;clear hr hx HA;go_wp2
    go_ret
    exact⟨rfl,rfl⟩
 ·have hd:(((len:Int)) != ((m1-m0:Nat):Int))=true:=by simp;omega
  have xG:¬((len:Int))=((m1-m0:Nat):Int):=by omega
  have xD:x0=false:=by
   cases x0 with
   | false=>rfl
   | true=>exact absurd (hx.1 rfl).1 hl
  subst xD;generalize m1-m0=m at *;clear hx
  go_enter func262,ntmps262
  go_wp2_with (go_at_call 245;first|((with_reducible refine HN.out.mono ?_);rintro e w1 ⟨rfl,rfl⟩)|((with_reducible refine xE.out.mono ?_);rintro e w1 ⟨rfl,rfl⟩))
  go_ret
  exact⟨rfl,rfl⟩
def refE(S:SV)(item:List UInt8)(ds:LB):Int :=
 if S.lame then 191 else if 1048576<item.length then 100 else if 65536<=S.ends.length then 101 else if nxt S ds=false then 192 else 0
theorem QfF(w:World)(h:Sk w q p T D S)(s:BA)(hs:s.size<=9223372036854775807)(ao:OA)(b off len cap:Nat)(ds:LB)(hr:RdS w ao b off len ds)(hmx:len<=9223372036854775807)(r:Int)(hR:refE S s.data.toList ds=r) :
  Re 166 #[Pq q,.string s,.slice ao len cap] w (.int .i64 r):=by
 obtain⟨ea,ec,⟨c0,c1,c2,c3,c4⟩,_⟩:=h.cells;obtain⟨xB,xC,hf,_⟩:=h.small;unfold refE at hR;rw[Qb] at hR
 by_cases h1:S.lame=true
 ·rw[Lf h1] at hR;subst hR;rw[h1] at c4;clear h hr
  go_enter func166,ntmps166;go_wp2
  go_ret
  exact⟨rfl,rfl⟩
 ·rw[Le h1] at hR;rw[Bool.eq_false_iff.2 h1] at c4
  by_cases h2:1048576<s.size
  ·rw[Lf h2] at hR;subst hR;have hd:(1048576:Int)<(s.size:Int):=by omega
   clear h hr
   go_enter func166,ntmps166;go_wp2
   go_ret
   exact⟨rfl,rfl⟩
  ·rw[Le h2] at hR;have hd:¬(1048576:Int)<(s.size:Int):=by omega
   by_cases h3:65536<=S.ends.length
   ·rw[Lf h3] at hR;subst hR;have xA:(65536:Int)<=(S.ends.length:Int):=by omega
    generalize S.ends.length=n at *;clear h hr
    go_enter func166,ntmps166;go_wp2
    go_ret
    exact⟨rfl,rfl⟩
   ·rw[Le h3] at hR;have xA:¬(65536:Int)<=(S.ends.length:Int):=by omega
    by_cases h4:nxt S ds=false
    ·rw[Lf h4] at hR;subst hR;have HN:=Qc (Qbd w h (by omega) ao b off len cap ds hr hmx _ h4)
     generalize S.ends.length=n at *;clear h hr
     go_enter func166,ntmps166
     go_wp2_with (go_at_call 262;refine HN.out.mono ?_;rintro e w1 ⟨rfl,rfl⟩)
     go_ret
     exact⟨rfl,rfl⟩
    ·rw[Le h4] at hR;subst hR;have HN:=Qc (Qbd w h (by omega) ao b off len cap ds hr hmx true (by simpa using h4))
     generalize S.ends.length=n at *;clear h hr
     go_enter func166,ntmps166
     go_wp2_with (go_at_call 262;refine HN.out.mono ?_;rintro e w1 ⟨rfl,rfl⟩)
     go_ret
     exact⟨rfl,rfl⟩
end
end St
end Go.Proofs.YtoblgjledefdbaaGreatDoor
